/-
  The reference: numbers.
-/
import Derived.Test.YtkfciilclfhabaaGreatDoorRtv
import Derived.Test.YtkfciilclfhabaaGreatDoorRpp
namespace Go.Proofs.YtkfciilclfhabaaGreatDoor
open Go.RowKit dec

/-- A number: its shape, its text, its problem. -/
theorem number_facts (s : ByteArray) {i : Nat} (hi : i < s.size) (h : isD s[i] = true) {n : Nat} (hn : run isD (s.data.toList.drop i) = n) :
    1 ≤ n ∧ i + n ≤ s.size ∧
    ((∃ m, 1 ≤ m ∧ i + n + 1 + m ≤ s.size ∧ (∃ hc : i + n < s.size, s[i + n].toNat = 46) ∧ run isD (s.data.toList.drop (i + n + 1)) = m ∧ shp (s.data.toList.drop i) = (3, n + 1 + m) ∧ (rpP ((s.data.toList.drop i).take (n + 1 + m))).2 = flt 3 ((s.data.toList.drop i).take (n + 1 + m))) ∨
     (shp (s.data.toList.drop i) = (2, n) ∧ (∀ c ∈ (s.data.toList.drop i).take n, isD c = true) ∧ ((∃ hc : i + n < s.size, s[i + n].toNat = 46 ∧ run isD (s.data.toList.drop (i + n + 1)) = 0) ∨ (∃ hc : i + n < s.size, s[i + n].toNat ≠ 46) ∨ ¬ i + n < s.size))) := by
  have hL : isL s[i] = false := by
    have := (isD_iff _).1 h
    unfold isL
    rw [decide_eq_false (by omega), Bool.false_and]
  have hsh : shp (s.data.toList.drop i) = if pnt ((s.data.toList.drop i).drop n) = 0 then (2, n) else (3, n + 1 + pnt ((s.data.toList.drop i).drop n)) := by
    rw [← hn]
    conv => lhs; rw [at_drop s hi, shp_cons, hL, h]
    simp only [Bool.false_eq_true, if_false, if_true]
    rw [← at_drop s hi]
  have h1 : 1 ≤ n := by rw [← hn, run_drop isD s hi, if_pos h]; omega
  have h2 : i + n ≤ s.size := by rw [← hn]; exact run_size isD s (Nat.le_of_lt hi)
  have hall := run_all isD (s.data.toList.drop i)
  rw [hn] at hall
  rw [List.drop_drop] at hsh
  refine ⟨h1, h2, ?_⟩
  by_cases hc : i + n < s.size
  · have hp : pnt (s.data.toList.drop (i + n)) = if s[i + n].toNat = 46 then run isD (s.data.toList.drop (i + n + 1)) else 0 := by
      rw [at_drop s hc, pnt_cons]
    by_cases h46 : s[i + n].toNat = 46
    · rw [if_pos h46] at hp
      obtain ⟨m, hm⟩ : ∃ m, run isD (s.data.toList.drop (i + n + 1)) = m := ⟨_, rfl⟩
      rw [hm] at hp
      rw [hp] at hsh
      by_cases h0 : m = 0
      · subst h0
        rw [if_pos rfl] at hsh
        exact .inr ⟨hsh, hall, .inl ⟨hc, h46, hm⟩⟩
      · rw [if_neg h0] at hsh
        have h3 := run_size isD s (i := i + n + 1) (by omega)
        rw [hm] at h3
        have hd := dec_same (l := s.data.toList.drop i) (by rw [hsh])
        rw [hsh] at hd
        exact .inl ⟨m, by omega, h3, ⟨hc, h46⟩, hm, hsh, hd⟩
    · rw [if_neg h46] at hp
      rw [hp, if_pos rfl] at hsh
      exact .inr ⟨hsh, hall, .inr (.inl ⟨hc, h46⟩)⟩
  · have hp : pnt (s.data.toList.drop (i + n)) = 0 := by
      rw [List.drop_eq_nil_of_le (by rw [str_len]; omega)]
      rfl
    rw [hp, if_pos rfl] at hsh
    exact .inr ⟨hsh, hall, .inr (.inr hc)⟩
theorem cont_else {k : Int} (h : k ≠ 4) (p : List UInt8) : cont k p = p := by unfold cont; rw [if_neg h]
set_option maxRecDepth 100000 in
set_option maxHeartbeats 8000000 in
theorem rnumber_any (a0 : Option Addr) (n0 cap : Nat) (s : ByteArray) (hs : s.size ≤ 1048576) (i : Nat) (hi : i < s.size) (hd : isD s[i] = true) (w : World) (hS : Bs w a0 n0 cap s) :
    Calls Tryz.prog 56 #[.slice a0 n0 cap, .int .i64 (i : Nat)] w fun e w' => TkA w w' e (s.data.toList.drop i) i := by
  have hn0 := hS.hn
  subst hn0
  obtain ⟨b, off, rfl, _⟩ := hS.at hi
  obtain ⟨n, hn⟩ : ∃ n, run isD (s.data.toList.drop i) = n := ⟨_, rfl⟩
  have B0 := Lib.hid (balloc (b0 w) (.cells #[.int .i64 0, .string ⟨#[]⟩, .int .i64 0] 39))
  have S0 := Lib.hid (hS.keeps B0.out)
  have DC := Lib.hid (fun j hj W hS => rdigits_any (some ⟨b, off, none⟩) s.size cap s hs j hj W hS)
  obtain ⟨⟨c0, c1, c2⟩, g0, g1, g2⟩ := tk.Ww.new w ⟨0, ⟨#[]⟩, 0⟩ 39
  obtain ⟨n1, n2, ways⟩ := number_facts s hi hd hn
  have D1 := DC.out i (Nat.le_of_lt hi) _ S0.out
  rw [hn] at D1
  replace D1 := Lib.hid D1
  clear hS hd hn
  have f1 : wrap64 ((i : Int) + (n : Int)) = ((i + n : Nat) : Int) := by unfold wrap64; omega
  have Z0 := Lib.hid hs
  have GR := Lib.hid (fun (t : ByteArray) h1 h2 W => rgreat_any t h1 h2 W)
  have PR := Lib.hid (fun (t : ByteArray) h1 W => rparse02_any t h1 W)
  clear hs
  rcases ways with ⟨m, m1, m2, ⟨hc, h46⟩, hm, hsh, hdc⟩ | ⟨hsh, hall, hw⟩
  · have hi2 : i + (n + 1 + m) = i + n + 1 + m := by clear f1; omega
    obtain ⟨a2, c3, SL0, hcut⟩ := S0.out.cut (i := i) (m := n + 1 + m) (by rw [hi2]; exact m2)
    have het := ext_part s i (n + 1 + m)
    have hsz := ext_size s (a := i) (n := n + 1 + m) (by rw [hi2]; exact m2)
    rw [hi2] at SL0 hcut het hsz
    have SL : ∀ W, (Instr.slice 22 (.slice (some ⟨b, off, none⟩) s.size cap) (some (.int .i64 (i : Nat))) (some (.int .i64 ((i : Int) + (n : Int) + 1 + (m : Int)))) none).run Tryz.prog W = .ok (.slice a2 (n + 1 + m) c3) W := SL0
    have CV := hcut.str
    have D2 := DC.out (i + n + 1) (by clear f1; omega) _ S0.out
    rw [hm] at D2
    have D3 := Lib.hid (show Calls Tryz.prog 84 #[.slice (some ⟨b, off, none⟩) s.size cap, .int .i64 ((i : Int) + (n : Int) + 1)] (w.alloc (.cells #[.int .i64 0, .string ⟨#[]⟩, .int .i64 0] 39)) (fun e w' => e = .returned (.int .i64 (m : Nat)) ∧ w' = (w.alloc (.cells #[.int .i64 0, .string ⟨#[]⟩, .int .i64 0] 39))) from D2)
    obtain ⟨b', off', hab, hB⟩ := S0.out.at hc
    cases hab
    rw [h46] at hB
    obtain ⟨t, ht⟩ : ∃ t, s.extract i (i + n + 1 + m) = t := ⟨_, rfl⟩
    rw [ht] at CV het hsz
    have P1 := PR.out t (by rw [hsz]; have := Z0.out; clear f1; omega) (w.alloc (.cells #[.int .i64 0, .string ⟨#[]⟩, .int .i64 0] 39))
    rw [het, hdc] at P1
    replace P1 := Lib.hid P1
    obtain ⟨c, hcc⟩ : ∃ c, flt 3 ((s.data.toList.drop i).take (n + 1 + m)) = c := ⟨_, rfl⟩
    rw [hcc] at P1
    have hcx := Lib.hid (show (⟨(cont 3 ((s.data.toList.drop i).take (n + 1 + m))).toArray⟩ : ByteArray) = t by rw [cont_else (by decide), ← het])
    replace hsh := Lib.hid hsh
    replace hcc := Lib.hid hcc
    replace hsz := Lib.hid hsz
    generalize (rpP ((s.data.toList.drop i).take (n + 1 + m))).1 = y at *
    have q1 : decide (((i + n : Nat) : Int) < (s.size : Int)) = true := decide_eq_true (by clear f1; omega)
    have q2 : decide (i + n < s.size) = true := decide_eq_true hc
    have q3 : decide ((0 : Int) < (m : Int)) = true := decide_eq_true (by clear f1; omega)
    have q4 : decide (0 < m) = true := decide_eq_true (by clear f1; omega)
    have f2 : wrap64 ((i : Int) + (n : Int) + 1) = (i : Int) + (n : Int) + 1 := by have := Z0.out; clear f1; unfold wrap64; omega
    have f3 : wrap64 ((i : Int) + (n : Int) + 1 + (m : Int)) = (i : Int) + (n : Int) + 1 + (m : Int) := by have := Z0.out; clear f1 f2; unfold wrap64; omega
    clear D2 DC GR PR hm h46 hdc het ht SL0 hcut hi2
    go_enter Tryz.func56, Tryz.ntmps56
    go_wp2_with fail
    refine D1.out.mono ?_
    rintro e w1 ⟨rfl, rfl⟩
    go_wp2_with fail
    refine D3.out.mono ?_
    rintro e w1 ⟨rfl, rfl⟩
    go_wp2_with fail
    refine P1.out.mono ?_
    rintro e w1 ⟨rfl, rfl⟩
    go_wp2_with fail
    simp [bodyPost, results, Tryz.results56, go_sem]
    exact TkA.mk (m := n + 1 + m) hsh.out (by rw [if_neg (by decide)]) hcc.out ⟨3, t, (i : Nat)⟩ (by rw [hsz.out]) (fun _ => by rw [hcx.out]) (balloc (b0 w) _)
  · obtain ⟨a2, c3, SL0, hcut⟩ := S0.out.cut (i := i) (m := n) n2
    have het := ext_part s i n
    have hsz := ext_size s (a := i) (n := n) n2
    have SL : ∀ W, (Instr.slice 22 (.slice (some ⟨b, off, none⟩) s.size cap) (some (.int .i64 (i : Nat))) (some (.int .i64 ((i : Int) + (n : Int)))) none).run Tryz.prog W = .ok (.slice a2 n c3) W := SL0
    have CV := hcut.str
    obtain ⟨t, ht⟩ : ∃ t, s.extract i (i + n) = t := ⟨_, rfl⟩
    rw [ht] at CV het hsz
    have G1 := GR.out t (by rw [hsz]; have := Z0.out; clear f1; omega) (by rw [het]; exact hall) (w.alloc (.cells #[.int .i64 0, .string ⟨#[]⟩, .int .i64 0] 39))
    have hfl := flt_two ((s.data.toList.drop i).take n)
    rw [het] at G1
    have hcx := Lib.hid (show (⟨(cont 2 ((s.data.toList.drop i).take n)).toArray⟩ : ByteArray) = t by rw [cont_else (by decide), ← het])
    replace hsh := Lib.hid hsh
    have HF : ∃ g c, decide (1152921504606846976 < dval 0 ((s.data.toList.drop i).take n)) = g ∧ flt 2 ((s.data.toList.drop i).take n) = c ∧ ((g = true ∧ c = 2) ∨ (g = false ∧ c = 0)) := by
      refine ⟨_, _, rfl, rfl, ?_⟩
      rw [hfl]
      by_cases hg : 1152921504606846976 < dval 0 ((s.data.toList.drop i).take n)
      · exact .inl ⟨decide_eq_true hg, if_pos hg⟩
      · exact .inr ⟨decide_eq_false hg, if_neg hg⟩
    obtain ⟨g, c, hg, hcc, hgc⟩ := HF
    rw [hg] at G1
    replace G1 := Lib.hid G1
    replace hcc := Lib.hid hcc
    clear GR PR het ht SL0 hcut hall hfl hg hsz
    rcases hw with ⟨hc, h46, hm⟩ | ⟨hc, h46⟩ | hc
    · have D2 := DC.out (i + n + 1) (by clear f1; omega) _ S0.out
      rw [hm] at D2
      have D3 := Lib.hid (show Calls Tryz.prog 84 #[.slice (some ⟨b, off, none⟩) s.size cap, .int .i64 ((i : Int) + (n : Int) + 1)] (w.alloc (.cells #[.int .i64 0, .string ⟨#[]⟩, .int .i64 0] 39)) (fun e w' => e = .returned (.int .i64 (0 : Nat)) ∧ w' = (w.alloc (.cells #[.int .i64 0, .string ⟨#[]⟩, .int .i64 0] 39))) from D2)
      obtain ⟨b', off', hab, hB⟩ := S0.out.at hc
      cases hab
      rw [h46] at hB
      have q1 : decide (((i + n : Nat) : Int) < (s.size : Int)) = true := decide_eq_true (by clear f1; omega)
      have q2 : decide (i + n < s.size) = true := decide_eq_true hc
      have f2 : wrap64 ((i : Int) + (n : Int) + 1) = (i : Int) + (n : Int) + 1 := by have := Z0.out; clear f1; unfold wrap64; omega
      clear D2 DC hm h46
      go_enter Tryz.func56, Tryz.ntmps56
      go_wp2_with fail
      refine D1.out.mono ?_
      rintro e w1 ⟨rfl, rfl⟩
      go_wp2_with fail
      refine D3.out.mono ?_
      rintro e w1 ⟨rfl, rfl⟩
      go_wp2_with fail
      refine G1.out.mono ?_
      rintro e w1 ⟨rfl, rfl⟩
      rcases hgc with ⟨rfl, rfl⟩ | ⟨rfl, rfl⟩
      · go_wp2_with fail
        simp [bodyPost, results, Tryz.results56, go_sem]
        exact TkA.mk (m := n) hsh.out (by rw [if_neg (by decide)]) hcc.out ⟨0, ⟨#[]⟩, 0⟩ rfl (fun h => by cases h) (balloc (b0 w) _)
      · go_wp2_with fail
        simp [bodyPost, results, Tryz.results56, go_sem]
        exact TkA.mk (m := n) hsh.out (by rw [if_neg (by decide)]) hcc.out ⟨2, t, (i : Nat)⟩ rfl (fun _ => by rw [hcx.out]) (balloc (b0 w) _)
    · obtain ⟨b', off', hab, hB⟩ := S0.out.at hc
      cases hab
      have e46 : (((s[i + n].toNat : Nat) : Int) == 46) = false := by rw [beq_eq_false_iff_ne]; clear f1; omega
      have q1 : decide (((i + n : Nat) : Int) < (s.size : Int)) = true := decide_eq_true (by clear f1; omega)
      have q2 : decide (i + n < s.size) = true := decide_eq_true hc
      clear h46 DC
      generalize ((s[i + n].toNat : Nat) : Int) = x at *
      go_enter Tryz.func56, Tryz.ntmps56
      go_wp2_with fail
      refine D1.out.mono ?_
      rintro e w1 ⟨rfl, rfl⟩
      go_wp2_with fail
      refine G1.out.mono ?_
      rintro e w1 ⟨rfl, rfl⟩
      rcases hgc with ⟨rfl, rfl⟩ | ⟨rfl, rfl⟩
      · go_wp2_with fail
        simp [bodyPost, results, Tryz.results56, go_sem]
        exact TkA.mk (m := n) hsh.out (by rw [if_neg (by decide)]) hcc.out ⟨0, ⟨#[]⟩, 0⟩ rfl (fun h => by cases h) (balloc (b0 w) _)
      · go_wp2_with fail
        simp [bodyPost, results, Tryz.results56, go_sem]
        exact TkA.mk (m := n) hsh.out (by rw [if_neg (by decide)]) hcc.out ⟨2, t, (i : Nat)⟩ rfl (fun _ => by rw [hcx.out]) (balloc (b0 w) _)
    · have q1 : decide (((i + n : Nat) : Int) < (s.size : Int)) = false := decide_eq_false (by clear f1; omega)
      have q2 : decide (i + n < s.size) = false := decide_eq_false hc
      clear DC
      go_enter Tryz.func56, Tryz.ntmps56
      go_wp2_with fail
      refine D1.out.mono ?_
      rintro e w1 ⟨rfl, rfl⟩
      go_wp2_with fail
      refine G1.out.mono ?_
      rintro e w1 ⟨rfl, rfl⟩
      rcases hgc with ⟨rfl, rfl⟩ | ⟨rfl, rfl⟩
      · go_wp2_with fail
        simp [bodyPost, results, Tryz.results56, go_sem]
        exact TkA.mk (m := n) hsh.out (by rw [if_neg (by decide)]) hcc.out ⟨0, ⟨#[]⟩, 0⟩ rfl (fun h => by cases h) (balloc (b0 w) _)
      · go_wp2_with fail
        simp [bodyPost, results, Tryz.results56, go_sem]
        exact TkA.mk (m := n) hsh.out (by rw [if_neg (by decide)]) hcc.out ⟨2, t, (i : Nat)⟩ rfl (fun _ => by rw [hcx.out]) (balloc (b0 w) _)
end Go.Proofs.YtkfciilclfhabaaGreatDoor
