/-
  Damage.
-/
import Derived.Test.YtegniedbiegcpaaFlip
import Derived.Test.YtegniedbiegcpaaHeld
import Derived.Deep.CutBlock
namespace Go.Proofs.Ytegniedbiegcpaa
open Go.RowKit

theorem run_head (g n c j : Nat) (hj : j ≤ c) (hc : c ≠ 0) (w : World) (J : Int) (hJ : J = (j : Nat)) : (Instr.slice 22 (.slice (some ⟨g, 0, none⟩) n c) none (some (.int .i64 J)) none).run Try.prog w = .ok (.slice (some ⟨g, 0, none⟩) j c) w := by
  subst hJ
  have s2 : (j : Int) ≤ (c : Int) := by omega
  simp [go_sem, s2, hc]
theorem run_tail (g n c p : Nat) (hp : p ≤ n) (hc : p < c) (w : World) (P : Int) (hP : P = (p : Nat)) : (Instr.slice 22 (.slice (some ⟨g, 0, none⟩) n c) (some (.int .i64 P)) none none).run Try.prog w = .ok (.slice (some ⟨g, p, none⟩) (n - p) (c - p)) w := by
  subst hP
  have s2 : (p : Int) ≤ (n : Int) := by omega
  have s3 : c ≠ p := by omega
  simp [go_sem, s2, s3]
theorem at_of {w : World} {a : Option Addr} {l l2 : List Nat} {n : Nat} (h : AtL w a l) (e : l = l2) (hn : l2.length = n) : At w a n (ix l2) := by
  subst e hn
  exact h
theorem AtL.cut0 {w : World} {g : Nat} {l : List Nat} (h : AtL w (some ⟨g, 0, none⟩) l) (k m : Nat) : AtL w (some ⟨g, k, none⟩) ((l.drop k).take m) := by
  have := h.cut k m
  rwa [Nat.zero_add] at this
theorem at_below {w w' : World} {g o B : Nat} {l : List Nat} (h : AtL w (some ⟨g, o, none⟩) l) (hb : Below B w w') (hg : g < B) : AtL w' (some ⟨g, o, none⟩) l := by
  refine ⟨?_, h.2⟩
  rcases h.1 with h0 | ⟨b, off, e, hB⟩
  · exact .inl h0
  · refine .inr ⟨b, off, e, fun j hj => ?_⟩
    simp only [Option.some.injEq, Addr.mk.injEq, and_true] at e
    obtain ⟨rfl, rfl⟩ := e
    rw [hb.cell (p := ⟨g, o + j, none⟩) hg]
    exact hB j hj
theorem lst_cat (f g : Nat → Nat) (n m : Nat) : lst (cat f n g) (n + m) = lst f n ++ lst g m := by
  apply List.ext_getElem
  · simp [lst]
  · intro i h1 h2
    simp only [lst_length] at h1
    simp only [lst, List.getElem_map, List.getElem_range, List.getElem_append, List.length_map, List.length_range]
    unfold cat
    split <;> rfl
theorem lst_of {l : List Nat} {n : Nat} (h : l.length = n) : lst (ix l) n = l := by rw [← h]; exact lst_ix l
theorem own_li {w : World} {base n : Nat} {v : Value} {f : Nat → Nat} (h : Own w base v n f) (hf : ∀ j, j < n → f j < 256) (hn : n ≤ 281474976710656) : ∃ a cap, v = .slice a n cap ∧ Li w a n cap (lst f n) := by
  obtain ⟨a, cap, e, hA, h1, h2, h3⟩ := h.at hf
  exact ⟨a, cap, e, hA.list, lst_length f n, h1, h2, hn, h3⟩

set_option maxRecDepth 100000 in
set_option maxHeartbeats 4000000 in
theorem walk_dam (a : Option Addr) (n cap : Nat) (l : List Nat) (z : Int) (bits : Nat) (w : World) (hA : Li w a n cap l) (hlim : n ≤ 140737488351232) (h1 : -9223372036854775808 ≤ z) (h2 : z ≤ 9223372036854775807) :
    Calls Try.prog 10 #[.slice a n cap, .int .i64 z, .int .u32 (bits : Nat)] w fun e w' => e = .returned (.bool true) ∧ Below w.heap.size w w' := by
  by_cases h8 : n ≤ 8192
  · have q8 : decide ((8192 : Int) < (n : Int)) = false := decide_eq_false (by omega)
    obtain ⟨J, hJ⟩ : ∃ J, (en n).length = J := ⟨_, rfl⟩
    have hJ1 : 1 ≤ J := by rw [← hJ]; exact en_pos n
    have hJ10 : J ≤ 10 := by rw [← hJ]; exact en_ten (by omega)
    obtain ⟨E, hE⟩ : ∃ E, J + n = E := ⟨_, rfl⟩
    obtain ⟨F, hF⟩ : ∃ F, E + 4 = F := ⟨_, rfl⟩
    have hFn : (en n).length + n + 4 = F := by omega
    have hln := hA.hn
    have hby := hA.hat.by
    have h4 : (le4 (cs l)).length = 4 := rfl
    have hk1 : ((en n ++ (l ++ le4 (cs l))).drop 0).take J = en n := by rw [List.drop_zero, ← hJ, List.take_left]
    have hk2 : ((en n ++ (l ++ le4 (cs l))).drop E).take 4 = le4 (cs l) := by
      rw [← hE, ← List.drop_drop, ← hJ, List.drop_left, List.drop_left' hln, List.take_of_length_le (by omega)]
    have hk3 : ((en n ++ (l ++ le4 (cs l))).drop 0).take E = en n ++ l := by
      rw [List.drop_zero, ← hE, ← hJ, List.take_length_add_append, List.take_left' hln]
    have e1 : (F : Int) - 4 = (E : Int) := by omega
    have e2 : (E : Int) - (n : Int) = (J : Int) := by omega
    have cF := fun w (h : Li w a n cap l) => af_any a n cap l F w h hlim hFn
    have CF := Lib.hid cF
    have HJ := Lib.hid hJ
    have HK1 := Lib.hid hk1
    have HK2 := Lib.hid hk2
    have HK3 := Lib.hid hk3
    have HLN := Lib.hid hln
    have HBY := Lib.hid hby
    have HA := Lib.hid hA
    have H1 := Lib.hid h1
    have H2 := Lib.hid h2
    have HE := Lib.hid hE
    have HF := Lib.hid hF
    have hEn : E ≤ n + 10 := by omega
    have t1 : decide ((J : Int) < 1) = false := decide_eq_false (by omega)
    obtain ⟨q, hq⟩ : ∃ q, qcut z = q := ⟨_, rfl⟩
    have hq1 : z < 0 → wrap64 (-wrap64 (z + 1)) = (q : Int) := fun h => by rw [neg_wrap h1 h2, ← hq]; unfold qcut; rw [if_pos h]; omega
    have hq2 : ¬ z < 0 → z = (q : Int) := fun h => by rw [← hq]; unfold qcut; rw [if_neg h]; omega
    have hq3 : q ≤ 9223372036854775807 := by
      rw [← hq]; unfold qcut; split <;> omega
    have Q1 := Lib.hid hq1
    have Q2 := Lib.hid hq2
    have Q3 := Lib.hid hq3
    clear cF hJ hk1 hk2 hk3 hln hby hA h1 h2 hE hF hFn h4 hq hq1 hq2 hq3
    go_enter Try.func10, Try.ntmps10
    go_wp2_with fail
    refine (example_any _).mono ?_
    rintro e w1 ⟨rfl, k⟩
    go_upto_if 27 with fail
    go_cut [1] (fun x wx => x = .int .i64 (q : Int) ∧ wx = w1)
    case first =>
      by_cases hz : z < 0
      · have E := Lib.hid (Q1.out hz)
        go_wp2_with fail
        go_meet
        case rel => exact ⟨congrArg _ E.out, rfl⟩
      · have E := Lib.hid (Q2.out (by omega))
        go_wp2_with fail
        go_meet
        case rel => exact ⟨congrArg _ E.out, rfl⟩
    case rest =>
      obtain ⟨rfl, rfl⟩ := hcut
      go_wp2_with fail
      refine (CF.out _ (HA.out.keeps k)).mono ?_
      rintro e w4 ⟨rfl, AF, b⟩
      replace k := bnext k b
      clear b CF
      generalize wc.heap.size = gF at *
      obtain ⟨q1, hq1⟩ : ∃ q1, q % (8 * n + 1) = q1 := ⟨_, rfl⟩
      have hq1l : q1 < 8 * n + 1 := by rw [← hq1]; exact Nat.mod_lt _ (by omega)
      have r1 : (q : Int) % (8 * (n : Int) + 1) = (q1 : Int) := by
        have e3 : ((8 * n + 1 : Nat) : Int) = 8 * (n : Int) + 1 := by omega
        rw [← hq1, Int.natCast_emod, e3]
      have d1 : ¬ (8 * (n : Int) + 1) = 0 := by omega
      have q3 := Q3.out
      clear hq1
      go_wp2_with fail
      refine (flip_any a n cap l q1 bits w4 (HA.out.keeps k) (by omega) (by omega)).mono ?_
      rintro e w5 ⟨av, cp, g, rfl, LD, D, b⟩
      replace k := bnext k b
      replace AF := AF.keeps b
      clear b r1 d1
      obtain ⟨ch, hch⟩ : ∃ ch, chg bits (8 * n - q1) 32 = ch := ⟨_, rfl⟩
      rw [hch]
      have HD := Lib.hid D
      have HCH := Lib.hid hch
      have hg256 : By (lst g n) := LD.hat.by
      have HG256 := Lib.hid hg256
      clear D hch hg256
      go_upto_if 53 with fail
      go_cut [6] (fun x wx => x = .bool false ∧ Below w.heap.size w wx ∧ AtL wx (some ⟨gF, 0, none⟩) (en n ++ (l ++ le4 (cs l))))
      case first =>
        cases ch with
        | false =>
          go_wp2_with fail
          go_meet
          case rel => exact ⟨rfl, k, AF⟩
        | true =>
          have hs1 := fun w' => run_head gF F (n + 14) J (by omega) (by omega) w' J rfl
          have hs2 : ∀ w', (Instr.slice 22 (.slice (some ⟨gF, 0, none⟩) F (n + 14)) (some (.int .i64 (E : Int))) none none).run Try.prog w' = .ok (.slice (some ⟨gF, E, none⟩) 4 (n + 14 - E)) w' := fun w' => by
            have := run_tail gF F (n + 14) E (by have := HF.out; omega) (by omega) w' E rfl
            rw [show F - E = 4 by have := HF.out; omega] at this
            exact this
          have hwE : IntKind.i64.wrap (E : Int) = (E : Int) := IntWalk.i64_in _ (by omega)
          go_wp2_with fail
          refine wp_region_noPanic ?_
          refine wp_region_held_drew (S := fun w' => Go.RowKit.Below w5.heap.size w5 w') (by kernel_rfl) ((b0 w5).drew) (fun hH => ?_)
          have hsz : w5.heap.size ≤ w5.drew.heap.size := hH.size
          generalize w5.drew = w6 at *
          refine held_take (i := 1) (d := 55) (v := ?_) rfl (by kernel_rfl) (by kernel_rfl) (by kernel_rfl) rfl (fun _ _ _ h => h) rfl hH (fun w' hS => ?_) ?_
          rotate_left
          · go_simp
            first | done | with_reducible rfl
          simp only [List.set_cons_zero, List.set_cons_succ]
          refine held_take (i := 2) (d := 56) (v := ?_) rfl (by kernel_rfl) (by kernel_rfl) (by kernel_rfl) rfl (fun _ _ _ h => h) rfl hH (fun w' hS => ?_) ?_
          rotate_left
          · go_simp
            first | done | with_reducible rfl
          simp only [List.set_cons_zero, List.set_cons_succ]
          refine held_take (i := 3) (d := 57) (v := ?_) rfl (by kernel_rfl) (by kernel_rfl) (by kernel_rfl) rfl (fun _ _ _ h => h) rfl hH (fun w' hS => ?_) ?_
          rotate_left
          · have h0 := hs1 w'; go_simp; with_reducible rfl
          simp only [List.set_cons_zero, List.set_cons_succ]
          refine held_take (i := 5) (d := 59) (v := ?_) rfl (by kernel_rfl) (by kernel_rfl) (by kernel_rfl) rfl (fun _ _ _ h => h) rfl hH (fun w' hS => ?_) ?_
          rotate_left
          · go_simp
            first | done | with_reducible rfl
          simp only [List.set_cons_zero, List.set_cons_succ]
          refine held_take (i := 7) (d := 61) (v := ?_) rfl (by kernel_rfl) (by kernel_rfl) (by kernel_rfl) rfl (fun _ _ _ h => h) rfl hH (fun w' hS => ?_) ?_
          rotate_left
          · go_simp
            first | done | with_reducible rfl
          simp only [List.set_cons_zero, List.set_cons_succ]
          refine held_take (i := 8) (d := 62) (v := ?_) rfl (by kernel_rfl) (by kernel_rfl) (by kernel_rfl) rfl (fun _ _ _ h => h) rfl hH (fun w' hS => ?_) ?_
          rotate_left
          · go_simp
            first | done | with_reducible rfl
          simp only [List.set_cons_zero, List.set_cons_succ]
          refine held_take (i := 9) (d := 63) (v := ?_) rfl (by kernel_rfl) (by kernel_rfl) (by kernel_rfl) rfl (fun _ _ _ h => h) rfl hH (fun w' hS => ?_) ?_
          rotate_left
          · go_simp
            first | done | with_reducible rfl
          simp only [List.set_cons_zero, List.set_cons_succ]
          refine held_take (i := 10) (d := 64) (v := ?_) rfl (by kernel_rfl) (by kernel_rfl) (by kernel_rfl) rfl (fun _ _ _ h => h) rfl hH (fun w' hS => ?_) ?_
          rotate_left
          · go_simp
            first | done | with_reducible rfl
          simp only [List.set_cons_zero, List.set_cons_succ]
          refine held_take (i := 11) (d := 65) (v := ?_) rfl (by kernel_rfl) (by kernel_rfl) (by kernel_rfl) rfl (fun _ _ _ h => h) rfl hH (fun w' hS => ?_) ?_
          rotate_left
          · have h0 := hs2 w'; go_simp; with_reducible rfl
          simp only [List.set_cons_zero, List.set_cons_succ]
          refine held_only (i := 0) rfl (by kernel_rfl) rfl (fun K hK => ?_)
          go_simp
          have O := Own.empty w6 w5.heap.size hsz (ix (en n))
          refine hK.out _ _ (bnext hH (balloc (b0 w6) _)) (fun hH => ?_)
          clear hK K
          refine held_only (i := 4) rfl (by kernel_rfl) rfl (fun K hK => ?_)
          refine wp_app _ (.tmp 54) (.tmp 57) rfl w5.heap.size 0 _ (ix (en n)) rfl O (some ⟨gF, 0, none⟩) J (n + 14) (ix (en n)) rfl (at_of ((AF.keeps hH).cut0 0 J) HK1.out HJ.out) (fun h => by cases h) (by omega) hH.size ?_
          intro v1 w7 O1 bb
          rw [Nat.zero_add, cat_zero] at O1
          refine hK.out _ _ (hH.trans bb) (fun hH => ?_)
          clear hK K
          simp only [Act.put, List.setIfInBounds_toArray, List.set_cons_zero, List.set_cons_succ]
          refine held_only (i := 6) rfl (by kernel_rfl) rfl (fun K hK => ?_)
          refine wp_app _ (.tmp 58) (.tmp 59) rfl w5.heap.size J v1 (ix (en n)) rfl O1 av n cp (ix (lst g n)) rfl (at_of (LD.keeps hH).hat rfl LD.hn) LD.hno (by omega) hH.size ?_
          intro v2 w8 O2 bb
          refine hK.out _ _ (hH.trans bb) (fun hH => ?_)
          clear hK K
          simp only [Act.put, List.setIfInBounds_toArray, List.set_cons_zero, List.set_cons_succ]
          refine held_only (i := 12) rfl (by kernel_rfl) rfl (fun K hK => ?_)
          refine wp_app _ (.tmp 60) (.tmp 65) rfl w5.heap.size (J + n) v2 _ rfl O2 (some ⟨gF, E, none⟩) 4 (n + 14 - E) (ix (le4 (cs l))) rfl (at_of ((AF.keeps hH).cut0 E 4) HK2.out rfl) (fun h => by cases h) (by omega) hH.size ?_
          intro v3 w9 O3 bb
          refine hK.out _ _ (hH.trans bb) (fun hH => ?_)
          clear hK K
          simp only [Act.put, List.setIfInBounds_toArray, List.set_cons_zero, List.set_cons_succ]
          refine held_take (i := 13) (d := 12) (v := ?_) rfl (by kernel_rfl) (by kernel_rfl) (by kernel_rfl) rfl (fun _ _ _ h => h) rfl hH (fun w' hS => ?_) ?_
          rotate_left
          · go_simp
            first | done | with_reducible rfl
          simp only [List.set_cons_zero, List.set_cons_succ]
          have HL : lst (cat (cat (ix (en n)) J (ix (lst g n))) (J + n) (ix (le4 (cs l)))) (J + n + 4) = en n ++ (lst g n ++ le4 (cs l)) := by
            rw [lst_cat, lst_cat, lst_of HJ.out, lst_of (lst_length g n), show lst (ix (le4 (cs l))) 4 = le4 (cs l) from lst_of rfl, List.append_assoc]
          have hb3 : By (en n ++ (lst g n ++ le4 (cs l))) := (by_en n).append (HG256.out.append (by_le4 _))
          rw [← HL] at hb3
          obtain ⟨a3, c3, rfl, L3⟩ := own_li O3 (fun j hj => by have := By.ix hb3 j (by rw [lst_length]; exact hj); rwa [ix_lst _ hj] at this) (by omega)
          rw [HL] at L3
          have k9 := bnext k hH
          have AF9 := AF.keeps hH
          have V9 : Hid (rF (en n ++ (lst g n ++ le4 (cs l))) 0 = .err 40) := Lib.hid (by
            have hln := HLN.out
            have D := HD.out
            have C := HCH.out
            have hg : ∀ j, j < l.length → g j < 256 := fun j hj => by have := By.ix HG256.out j (by rw [lst_length]; omega); rwa [ix_lst _ (by omega)] at this
            have := bad_payload (l := l) (g := g) (q := q1) (bits := bits) (by omega) HBY.out hg (by rw [hln]; exact D) (by rw [hln]; exact C)
            rwa [hln] at this)
          clear hb3 HL O3 O2 O1 O hs1 hs2 LD
          refine wpAnyH_done (by kernel_rfl) ?_ _
          refine noPanic_of ?_
          go_wp2_with fail
          have c9 := readF_any a3 (J + n + 4) c3 _ 0 w9 L3
          rw [V9.out] at c9
          refine c9.mono ?_
          rintro e w10 ⟨rfl, b⟩
          replace k9 := bnext k9 b
          replace AF9 := AF9.keeps b
          clear b c9 L3 V9
          go_wp2_with fail
          go_meet
          case rel => exact ⟨rfl, k9, AF9⟩
      case rest =>
        obtain ⟨rfl, k, AF⟩ := hcut
        clear LD HD HCH HG256 hq1l
        obtain ⟨q2, hq2⟩ : ∃ q2, q % 33 = q2 := ⟨_, rfl⟩
        have r2 : (q : Int) % 33 = (q2 : Int) := by omega
        have hs3 : ∀ w', (Instr.slice 22 (.slice (some ⟨gF, 0, none⟩) F (n + 14)) (some (.int .i64 (E : Int))) none none).run Try.prog w' = .ok (.slice (some ⟨gF, E, none⟩) 4 (n + 14 - E)) w' := fun w' => by
          have := run_tail gF F (n + 14) E (by have := HF.out; omega) (by omega) w' E rfl
          rw [show F - E = 4 by have := HF.out; omega] at this
          exact this
        clear hq2
        have A4 := AF.cut0 E 4
        rw [HK2.out] at A4
        have L4 : Li wc (some ⟨gF, E, none⟩) 4 (n + 14 - E) (le4 (cs l)) := ⟨A4, rfl, by omega, by omega, by omega, fun h => by cases h⟩
        have hEL : Hid ((en n ++ l).length = E) := Lib.hid (by rw [List.length_append, HJ.out, HLN.out, HE.out])
        go_wp2_with fail
        refine (flip_any (some ⟨gF, E, none⟩) 4 (n + 14 - E) (le4 (cs l)) q2 bits wc L4 (by omega) (by omega)).mono ?_
        rintro e w6 ⟨av2, cp2, g2, rfl, L2, D2, b⟩
        replace k := bnext k b
        replace AF := AF.keeps b
        clear b r2 hs3 A4 L4
        obtain ⟨ch2, hch2⟩ : ∃ ch, chg bits (8 * 4 - q2) 32 = ch := ⟨_, rfl⟩
        rw [hch2]
        have HD2 := Lib.hid D2
        have HCH2 := Lib.hid hch2
        have HG2 := Lib.hid L2.hat.by
        clear D2 hch2
        cases ch2 with
        | false =>
          go_wp2_with fail
          go_ret
          exact ⟨rfl, k⟩
        | true =>
          have hs4 := fun w' => run_head gF F (n + 14) E (by omega) (by omega) w' E rfl
          have O := Own.empty w6 w6.heap.size (Nat.le_refl _) (ix (en n ++ l))
          have hb := balloc (b0 w6) (.cells #[] 5)
          go_wp2_with (first | (at_builtin; refine wpList_app _ rfl (.tmp 88) (.tmp 93) rfl w6.heap.size 0 _ (ix (en n ++ l)) rfl O (some ⟨gF, 0, none⟩) E (n + 14) (ix (en n ++ l)) rfl (at_of ((AF.keeps hb).cut0 0 E) HK3.out hEL.out) (fun h => by cases h) (by omega) hb.size ?_; intro v1 w7 O1 bb; rw [Nat.zero_add, cat_zero] at O1; have hb2 := hb.trans bb) | (at_builtin; refine wpList_app _ rfl (.tmp 94) (.tmp 95) rfl w6.heap.size E v1 (ix (en n ++ l)) rfl O1 av2 4 cp2 (ix (lst g2 4)) rfl (at_of (L2.keeps hb2).hat rfl (lst_length g2 4)) L2.hno (by omega) hb2.size ?_; intro v2 w8 O2 bc; have hb3 := hb2.trans bc))
          have HL : lst (cat (ix (en n ++ l)) E (ix (lst g2 4))) (E + 4) = en n ++ (l ++ lst g2 4) := by
            rw [lst_cat, lst_of hEL.out, lst_of (lst_length g2 4), List.append_assoc]
          have hb4 : By (en n ++ (l ++ lst g2 4)) := (by_en n).append (HBY.out.append HG2.out)
          rw [← HL] at hb4
          obtain ⟨a3, c3, rfl, L3⟩ := own_li O2 (fun j hj => by have := By.ix hb4 j (by rw [lst_length]; exact hj); rwa [ix_lst _ hj] at this) (by omega)
          rw [HL] at L3
          have k9 := bnext k hb3
          have V9 : Hid (rF (en n ++ (l ++ lst g2 4)) 0 = .err 40) := Lib.hid (by
            have hln := HLN.out
            have := bad_sum (l := l) (g := g2) (q := q2) (bits := bits) (by omega) HD2.out HCH2.out
            rwa [hln] at this)
          clear hb4 HL O2 O1 O hs4 L2
          have c9 := readF_any a3 (E + 4) c3 _ 0 w8 L3
          rw [V9.out] at c9
          refine c9.mono ?_
          rintro e w10 ⟨rfl, b⟩
          replace k9 := bnext k9 b
          clear b c9 L3 V9
          go_wp2_with fail
          go_ret
          exact ⟨rfl, k9⟩
  · have q8 : decide ((8192 : Int) < (n : Int)) = true := decide_eq_true (by omega)
    go_enter Try.func10, Try.ntmps10
    go_wp2_with fail
    refine (example_any _).mono ?_
    rintro e w1 ⟨rfl, k⟩
    go_wp2_with fail
    go_ret
    exact ⟨rfl, k⟩
end Go.Proofs.Ytegniedbiegcpaa
