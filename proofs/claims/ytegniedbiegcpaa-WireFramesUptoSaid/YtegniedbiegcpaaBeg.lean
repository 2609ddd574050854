/-
  Beginnings.
-/
import Derived.Test.YtegniedbiegcpaaLen
import Derived.Deep.DeepCutAuto
import Derived.Deep.QuietTactic
import Derived.BigQuiet
namespace Go.Proofs.Ytegniedbiegcpaa
open Go.RowKit

theorem rU_short {n j : Nat} (hn : n < 18446744073709551616) (hj : j < (en n).length) : rU ((en n).take j) 0 = (0, 0, 41) := by
  unfold rU
  rw [if_neg (by omega), show (0 : Int).toNat = 0 from rfl, List.drop_zero, rd_short hn hj]
theorem rT_short {t : List Nat} {j : Nat} (ht : t.length < 18446744073709551616) (hj : j < (en t.length ++ t).length) : rT ((en t.length ++ t).take j) 0 = ([], 0, 41) := by
  unfold rT
  rw [if_neg (by omega), show (0 : Int).toNat = 0 from rfl, List.drop_zero]
  by_cases h : j < (en t.length).length
  · rw [List.take_append_of_le_length (Nat.le_of_lt h), rd_short ht h]
  · obtain ⟨i, rfl⟩ : ∃ i, j = (en t.length).length + i := ⟨j - (en t.length).length, by omega⟩
    rw [List.take_length_add_append, rd_en ht]
    rw [List.length_append] at hj
    simp only
    rw [if_pos]
    rw [List.length_append, List.length_take]
    omega
theorem rF_short {r : List Nat} {j : Nat} (hr : r.length ≤ 140737488351232) (hj : j < (en r.length ++ (r ++ le4 (cs r))).length) (h8 : r.length ≤ 8192) : rF ((en r.length ++ (r ++ le4 (cs r))).take j) 0 = .err 41 := by
  have ht : r.length < 18446744073709551616 := by omega
  have h4 : (le4 (cs r)).length = 4 := rfl
  have hF : rdF ((en r.length ++ (r ++ le4 (cs r))).take j) = .err 41 := by
    unfold rdF
    by_cases h : j < (en r.length).length
    · rw [List.take_append_of_le_length (Nat.le_of_lt h), rd_short ht h]
    · obtain ⟨i, rfl⟩ : ∃ i, j = (en r.length).length + i := ⟨j - (en r.length).length, by omega⟩
      rw [List.take_length_add_append, rd_en ht]
      rw [List.length_append, List.length_append, h4] at hj
      simp only
      rw [if_neg (by omega), if_pos]
      rw [List.length_append, List.length_take]
      omega
  unfold rF
  rw [if_neg (by omega), show (0 : Int).toNat = 0 from rfl, List.drop_zero, hF]
theorem li_take {w : World} {g j c : Nat} {l : List Nat} (h : AtL w (some ⟨g, 0, none⟩) l) (hj : j ≤ l.length) (hc : j ≤ c) (hm : c ≤ 9223372036854775807) (hl : j ≤ 281474976710656) : Li w (some ⟨g, 0, none⟩) j c (l.take j) := by
  have := h.cut 0 j
  rw [List.drop_zero] at this
  exact ⟨this, by rw [List.length_take]; omega, hc, hm, hl, fun h => by cases h⟩
theorem three_of {w : World} {r : RF} {e : Ending} {w' : World} (h : Rfp w r e w') : ∃ (x y : Value) (c : Nat), e = .returned (.tuple #[x, y, .int .i64 (c : Int)]) ∧ (r = .err 41 → c = 41) ∧ Below w.heap.size w w' := by
  cases r with
  | ok v k =>
    obtain ⟨g, rfl, _, _, hb⟩ := h
    exact ⟨_, _, 0, rfl, fun h => (by cases h), hb⟩
  | err c =>
    obtain ⟨rfl, hb⟩ := h
    exact ⟨_, _, c, rfl, fun h => (by injection h), hb⟩
/-- The cut of the statement. -/
def qcut (z : Int) : Nat := if z < 0 then (-(z + 1)).toNat else z.toNat

set_option maxRecDepth 100000 in
set_option maxHeartbeats 2000000 in
theorem walk_beg (n m : Nat) (s : ByteArray) (a : Option Addr) (N cap : Nat) (r : List Nat) (z : Int) (w : World) (hn : n < 18446744073709551616) (hm : m < 18446744073709551616) (hs : s.size ≤ 140737488351232) (hA : Li w a N cap r) (hNlim : N ≤ 140737488351232) (h1 : -9223372036854775808 ≤ z) (h2 : z ≤ 9223372036854775807) :
    Calls Try.prog 8 #[.int .u64 (n : Nat), .int .u64 (m : Nat), .string s, .slice a N cap, .int .i64 z] w fun e w' => e = .returned (.bool true) ∧ Below w.heap.size w w' := by
  obtain ⟨L, hL⟩ : ∃ L, (en n).length = L := ⟨_, rfl⟩
  obtain ⟨M, hM⟩ : ∃ M, (en m).length = M := ⟨_, rfl⟩
  have c1 := fun w => au_any n L w hn hL
  have c2 := fun w => au_any m M w hm hM
  have hL1 : 1 ≤ L := by rw [← hL]; exact en_pos n
  have hL10 : L ≤ 10 := by rw [← hL]; exact en_ten hn
  have hfree : n ≠ m → L ≤ M → ((st_of (en n)).toList == (st_of ((en m).take L)).toList) = false := by
    intro hne hle
    rw [eq_lists (by_en n) ((by_en m).take L), decide_eq_false]
    intro he
    apply hne
    rw [← hL] at he
    exact en_free hn hm he
  have C1 := Lib.hid c1
  have C2 := Lib.hid c2
  have HF := Lib.hid hfree
  have HL := Lib.hid hL
  have HM := Lib.hid hM
  have HN := Lib.hid hn
  have HA := Lib.hid hA
  have hNlen := hA.hn
  have HNL := Lib.hid hNlen
  have H1 := Lib.hid h1
  have H2 := Lib.hid h2
  clear c1 c2 hfree hL hM hn hm hA h1 h2 hNlen
  go_enter Try.func8, Try.ntmps8
  go_wp2_with fail
  refine (example_any _).mono ?_
  rintro e w1 ⟨rfl, k⟩
  go_wp2_with fail
  refine (C1.out _).mono ?_
  rintro e w2 ⟨rfl, A1, b⟩
  replace k := bnext k b
  clear b
  generalize w1.heap.size = g1 at *
  go_wp2_with fail
  refine (C2.out _).mono ?_
  rintro e w3 ⟨rfl, A2, b⟩
  replace k := bnext k b
  replace A1 := A1.keeps b
  clear b
  generalize w2.heap.size = g2 at *
  go_upto_region 3 with fail
  go_cut [49] (fun s wx => s = .bool false ∧ Below w.heap.size w wx ∧ AtL wx (some ⟨g1, 0, none⟩) (en n))
  case first =>
    by_cases hne : n = m
    · have q1 : ((n : Int) != (m : Int)) = false := by subst hne; simp
      clear hne
      go_quiet (fail)
      go_wp2_with fail
      go_meet
      case rel => exact ⟨rfl, k.trans (below_drewN' _ _ _), A1.keeps (below_drewN' _ _ _)⟩
    · have q1 : ((n : Int) != (m : Int)) = true := by simp; omega
      by_cases hle : L ≤ M
      · have hb := HF.out hne hle
        have q2 : decide ((L : Int) ≤ (M : Int)) = true := decide_eq_true (by omega)
        have q2' : decide (L ≤ M) = true := decide_eq_true hle
        have hM10 : (L : Int) ≤ ((10 : Nat) : Int) := by omega
        have s1 : ∀ j, (convert 22 9 (.slice (some ⟨g1, 0, none⟩) L 10)).run Try.prog (w3.drewN j) = .ok (.string (st_of (en n))) (w3.drewN j) := fun j => run_str (A1.keeps (below_drewN' _ _ j)) L 10 HL.out
        have s2 : ∀ j, (convert 22 9 (.slice (some ⟨g2, 0, none⟩) L 10)).run Try.prog (w3.drewN j) = .ok (.string (st_of ((en m).take L))) (w3.drewN j) := fun j => run_str ((li_take A2 (by rw [HM.out]; exact hle) (c := 10) (by omega) (by omega) (by omega)).hat.keeps (below_drewN' _ _ j)) L 10 (by rw [List.length_take, HM.out]; omega)
        clear hne
        go_quiet (fail)
        go_wp2_with fail
        go_meet
        case rel => exact ⟨rfl, k.trans (below_drewN' _ _ _), A1.keeps (below_drewN' _ _ _)⟩
      · have q2 : decide ((L : Int) ≤ (M : Int)) = false := decide_eq_false (by omega)
        have q2' : decide (L ≤ M) = false := decide_eq_false hle
        clear hne
        go_quiet (fail)
        go_wp2_with fail
        go_meet
        case rel => exact ⟨rfl, k.trans (below_drewN' _ _ _), A1.keeps (below_drewN' _ _ _)⟩
  case rest =>
    obtain ⟨rfl, k, A1⟩ := hcut
    clear C1 C2 HF
    obtain ⟨q, hq⟩ : ∃ q, qcut z = q := ⟨_, rfl⟩
    have hq1 : z < 0 → wrap64 (-wrap64 (z + 1)) = (q : Int) := fun h => by rw [neg_wrap H1.out H2.out, ← hq]; unfold qcut; rw [if_pos h]; omega
    have hq2 : ¬ z < 0 → z = (q : Int) := fun h => by rw [← hq]; unfold qcut; rw [if_neg h]; omega
    have hq3 : q ≤ 9223372036854775807 := by
      have := H1.out; have := H2.out
      rw [← hq]; unfold qcut; split <;> omega
    have Q1 := Lib.hid hq1
    have Q2 := Lib.hid hq2
    have Q3 := Lib.hid hq3
    clear hq hq1 hq2 hq3
    go_upto_if 51 with fail
    go_cut [4] (fun x wx => x = .int .i64 (q : Int) ∧ wx = wc)
    case first =>
      by_cases hz : z < 0
      · have E := Lib.hid (Q1.out hz)
        go_wp2_with fail
        go_meet
        case rel => exact ⟨congrArg _ E.out, rfl⟩
      · have E := Lib.hid (Q2.out hz)
        go_wp2_with fail
        go_meet
        case rel => exact ⟨congrArg _ E.out, rfl⟩
    case rest =>
      obtain ⟨rfl, rfl⟩ := hcut
      obtain ⟨T, hT⟩ : ∃ T, (en s.size).length + s.size = T := ⟨_, rfl⟩
      have cT := fun w => at_any s T w hs hT
      have CT := Lib.hid cT
      have hTl : (en (sl s).length ++ sl s).length = T := by rw [List.length_append, sl_length]; exact hT
      have HTL := Lib.hid hTl
      have hT1 : 1 ≤ T := by have := en_pos s.size; omega
      have hTc : T ≤ s.size + 10 := by have := en_ten (n := s.size) (by omega); omega
      obtain ⟨G, hG⟩ : ∃ G, (en N).length + N + 4 = G := ⟨_, rfl⟩
      have hG1 : 1 ≤ G := by omega
      have hGc : G ≤ N + 14 := by have := en_ten (n := N) (by omega); omega
      have cG := fun w (h : Li w a N cap r) => af_any a N cap r G w h hNlim hG
      have CG := Lib.hid cG
      have HG := Lib.hid hG
      clear cT hT hTl hG cG
      have t1 : ((L : Int) == 0) = false := by simp; omega
      have t2 : ((T : Int) == 0) = false := by simp; omega
      have t3 : ((G : Int) == 0) = false := by simp; omega
      go_wp2_with fail
      refine (CT.out _).mono ?_
      rintro e w4 ⟨rfl, A3, b⟩
      replace k := bnext k b
      replace A1 := A1.keeps b
      clear b CT
      generalize wc.heap.size = g3 at *
      go_wp2_with fail
      refine (CG.out _ (HA.out.keeps k)).mono ?_
      rintro e w5 ⟨rfl, A4, b⟩
      replace k := bnext k b
      replace A1 := A1.keeps b
      replace A3 := A3.keeps b
      clear b CG
      generalize w4.heap.size = g4 at *
      obtain ⟨j1, hj1⟩ : ∃ j1, q % L = j1 := ⟨_, rfl⟩
      obtain ⟨j2, hj2⟩ : ∃ j2, q % T = j2 := ⟨_, rfl⟩
      obtain ⟨j3, hj3⟩ : ∃ j3, q % G = j3 := ⟨_, rfl⟩
      have i1 : j1 < L := by rw [← hj1]; exact Nat.mod_lt _ hL1
      have i2 : j2 < T := by rw [← hj2]; exact Nat.mod_lt _ hT1
      have i3 : j3 < G := by rw [← hj3]; exact Nat.mod_lt _ hG1
      have r1 : (q : Int) % (L : Int) = (j1 : Int) := by rw [← hj1]; omega
      have r2 : (q : Int) % (T : Int) = (j2 : Int) := by rw [← hj2]; omega
      have r3 : (q : Int) % (G : Int) = (j3 : Int) := by rw [← hj3]; omega
      have d1 : ¬ (L : Int) = 0 := by omega
      have d2 : ¬ (T : Int) = 0 := by omega
      have d3 : ¬ (G : Int) = 0 := by omega
      have b1 : (j1 : Int) ≤ ((10 : Nat) : Int) := by omega
      have b2 : (j2 : Int) ≤ ((s.size + 10 : Nat) : Int) := by omega
      have b3 : (j3 : Int) ≤ ((N + 14 : Nat) : Int) := by omega
      have L1 := Lib.hid (li_take A1 (j := j1) (c := 10) (by rw [HL.out]; omega) (by omega) (by omega) (by omega))
      have V1 := Lib.hid (rU_short HN.out (j := j1) (by rw [HL.out]; omega))
      have q3 := Q3.out
      clear hj1 hj2 hj3 i1
      go_wp2_with fail
      refine (readU_any (some ⟨g1, 0, none⟩) j1 10 _ 0 w5 L1.out 0 0 41 V1.out).mono ?_
      rintro e w6 ⟨rfl, b⟩
      replace k := bnext k b
      replace A3 := A3.keeps b
      replace A4 := A4.keeps b
      clear b L1 V1 A1
      have hTL := HTL.out
      rw [sl_length] at hTL
      have L2 := Lib.hid (li_take A3 (j := j2) (c := s.size + 10) (by rw [hTL]; omega) (by omega) (by omega) (by omega))
      have V2 := rT_short (t := sl s) (j := j2) (by rw [sl_length]; omega) (by rw [HTL.out]; omega)
      rw [sl_length] at V2
      replace V2 := Lib.hid V2
      clear hTL i2
      go_wp2_with fail
      refine (readT_any (some ⟨g3, 0, none⟩) j2 (s.size + 10) _ 0 w6 L2.out [] 0 41 V2.out).mono ?_
      rintro e w7 ⟨rfl, b⟩
      replace k := bnext k b
      replace A4 := A4.keeps b
      clear b L2 V2 A3
      have hGl : (en N ++ (r ++ le4 (cs r))).length = G := by rw [List.length_append, List.length_append, HNL.out, show (le4 (cs r)).length = 4 from rfl, ← HG.out]; omega
      have L3 := Lib.hid (li_take A4 (j := j3) (c := N + 14) (by rw [hGl]; omega) (by omega) (by omega) (by omega))
      have V3 : Hid (N ≤ 8192 → rF ((en N ++ (r ++ le4 (cs r))).take j3) 0 = .err 41) := Lib.hid fun h8 => by
        have := rF_short (r := r) (j := j3) (by rw [HNL.out]; omega) (by rw [HNL.out, hGl]; omega) (by rw [HNL.out]; omega)
        rw [HNL.out] at this
        exact this
      clear hGl i3
      go_wp2_with fail
      refine (readF_any (some ⟨g4, 0, none⟩) j3 (N + 14) _ 0 w7 L3.out).mono ?_
      intro e w8 hR
      obtain ⟨x, y, c, rfl, hc, b⟩ := three_of hR
      replace k := bnext k b
      have HC : Hid (N ≤ 8192 → c = 41) := Lib.hid fun h => hc (V3.out h)
      clear b L3 A4 hR V3 hc r1 r2 r3 b1 b2 b3 d1 d2 d3
      by_cases h8 : N ≤ 8192
      · obtain rfl : c = 41 := HC.out h8
        have q8 : decide ((8192 : Int) < (N : Int)) = false := decide_eq_false (by omega)
        clear HC
        go_wp2_with fail
        go_ret
        exact ⟨rfl, k⟩
      · have q8 : decide ((8192 : Int) < (N : Int)) = true := decide_eq_true (by omega)
        go_wp2_with fail
        go_ret
        exact ⟨rfl, k⟩
end Go.Proofs.Ytegniedbiegcpaa
