/-
  The reference: what begins at an offset.
-/
import Derived.Test.YtkfciilclfhabaaGreatDoorRnu
import Derived.Test.YtkfciilclfhabaaGreatDoorRqu
namespace Go.Proofs.YtkfciilclfhabaaGreatDoor
open Go.RowKit dec

theorem shp_else (s : ByteArray) {i : Nat} (hi : i < s.size) (h1 : isL s[i] = false) (h2 : isD s[i] = false) (h3 : s[i].toNat ≠ 34) : shp (s.data.toList.drop i) = sgn (s.data.toList.drop i) := by
  rw [at_drop s hi, shp_cons, h1, h2]
  simp only [Bool.false_eq_true, if_false]
  rw [if_neg fun h => h3 h.1]
theorem sgn_ways (l : List UInt8) (h : l ≠ []) : sgn l = (0, 1) ∨ sgn l = (5, 1) ∨ sgn l = (5, 2) := by
  cases l with
  | nil => exact absurd rfl h
  | cons c r =>
    rw [sgn_cons]
    split
    · simp
    · split <;> simp
theorem drop_ne (s : ByteArray) {i : Nat} (hi : i < s.size) : s.data.toList.drop i ≠ [] := by
  rw [at_drop s hi]
  simp
/-- A word. -/
theorem word_facts (s : ByteArray) {i : Nat} (hi : i < s.size) (h : isL s[i] = true) : ∃ n, wdN (s.data.toList.drop i) = n ∧ 1 ≤ n ∧ i + n ≤ s.size ∧ shp (s.data.toList.drop i) = (1, n) := by
  refine ⟨_, rfl, ?_⟩
  have h1 : wdN (s.data.toList.drop i) = run isW (s.data.toList.drop i) := by
    rw [wd_drop s hi, if_pos h, run_drop isW s hi, if_pos (isW_L h)]
  have h2 : shp (s.data.toList.drop i) = (1, run isW (s.data.toList.drop i)) := by
    conv => lhs; rw [at_drop s hi, shp_cons, h]
    simp only [if_true]
    rw [← at_drop s hi]
  rw [h1]
  exact ⟨by rw [run_drop isW s hi, if_pos (isW_L h)]; omega, run_size isW s (Nat.le_of_lt hi), h2⟩
set_option maxRecDepth 100000 in
set_option maxHeartbeats 8000000 in
theorem rtoken_any (a0 : Option Addr) (n0 cap : Nat) (s : ByteArray) (hs : s.size ≤ 1048576) (i : Nat) (hi : i < s.size) (w : World) (hS : Bs w a0 n0 cap s) :
    Calls Tryz.prog 30 #[.slice a0 n0 cap, .int .i64 (i : Nat)] w fun e w' => TkA w w' e (s.data.toList.drop i) i := by
  have hn0 := hS.hn
  subst hn0
  have Z0 := Lib.hid hs
  obtain ⟨b, off, rfl, _⟩ := hS.at hi
  have B0 := Lib.hid (balloc (b0 w) (.cells #[.int .i64 0, .string ⟨#[]⟩, .int .i64 0] 39))
  have S0 := Lib.hid (hS.keeps B0.out)
  have V0 := tk.Ww.new w ⟨0, ⟨#[]⟩, 0⟩ 39
  obtain ⟨⟨c0, c1, c2⟩, g0, g1, g2⟩ := id V0
  replace V0 := Lib.hid V0
  have WC := rword_any (some ⟨b, off, none⟩) s.size cap s hs i hi _ S0.out
  clear hS
  by_cases hl : isL s[i] = true
  · obtain ⟨n, hw, n1, n2, hsh⟩ := word_facts s hi hl
    rw [hw] at WC
    replace WC := Lib.hid WC
    have hlen : ((s.data.toList.drop i).take n).length = n := by rw [List.length_take, List.length_drop, str_len]; omega
    have hfl := flt_one ((s.data.toList.drop i).take n)
    rw [hlen] at hfl
    replace hsh := Lib.hid hsh
    clear hw hl hlen
    by_cases h24 : 24 < n
    · have q1 : decide (24 < (n : Int)) = true := decide_eq_true (by omega)
      have q1' : decide (24 < n) = true := decide_eq_true h24
      rw [if_pos h24] at hfl
      replace hfl := Lib.hid hfl
      clear h24 V0
      go_enter Tryz.func30, Tryz.ntmps30
      go_wp2_with fail
      refine WC.out.mono ?_
      rintro e w1 ⟨rfl, rfl⟩
      go_wp2_with fail
      simp [bodyPost, results, Tryz.results30, go_sem]
      exact TkA.mk (m := n) hsh.out (by rw [if_neg (by decide)]) hfl.out ⟨0, ⟨#[]⟩, 0⟩ rfl (fun h => by cases h) (balloc (b0 w) _)
    · have q1 : decide (24 < (n : Int)) = false := decide_eq_false (by omega)
      have q1' : decide (24 < n) = false := decide_eq_false h24
      have q2 : decide (0 < (n : Int)) = true := decide_eq_true (by omega)
      have q2' : decide (0 < n) = true := decide_eq_true (by omega)
      rw [if_neg h24] at hfl
      replace hfl := Lib.hid hfl
      obtain ⟨a2, c3, SL0, hcut⟩ := S0.out.cut (i := i) (m := n) n2
      have het := ext_part s i n
      have SL : ∀ W, (Instr.slice 22 (.slice (some ⟨b, off, none⟩) s.size cap) (some (.int .i64 (i : Nat))) (some (.int .i64 ((i : Int) + (n : Int)))) none).run Tryz.prog W = .ok (.slice a2 n c3) W := SL0
      have CV := hcut.str
      obtain ⟨t, ht⟩ : ∃ t, s.extract i (i + n) = t := ⟨_, rfl⟩
      rw [ht] at CV het
      have hcx := Lib.hid (show (⟨(cont 1 ((s.data.toList.drop i).take n)).toArray⟩ : ByteArray) = t by rw [cont_else (by decide), ← het])
      have f1 : wrap64 ((i : Int) + (n : Int)) = (i : Int) + (n : Int) := by have := Z0.out; unfold wrap64; omega
      clear h24 V0 SL0 het hcut ht
      go_enter Tryz.func30, Tryz.ntmps30
      go_wp2_with fail
      refine WC.out.mono ?_
      rintro e w1 ⟨rfl, rfl⟩
      go_wp2_with fail
      simp [bodyPost, results, Tryz.results30, go_sem]
      exact TkA.mk (m := n) hsh.out (by rw [if_neg (by decide)]) hfl.out ⟨1, t, (i : Nat)⟩ rfl (fun _ => by rw [hcx.out]) (balloc (b0 w) _)
  rw [Bool.not_eq_true] at hl
  have hw : wdN (s.data.toList.drop i) = 0 := by rw [wd_drop s hi, hl]; rfl
  rw [hw] at WC
  replace WC : Hid (Calls Tryz.prog 54 #[.slice (some ⟨b, off, none⟩) s.size cap, .int .i64 (i : Nat)] (w.alloc (.cells #[.int .i64 0, .string ⟨#[]⟩, .int .i64 0] 39)) (fun e w' => e = .returned (.int .i64 0) ∧ w' = w.alloc (.cells #[.int .i64 0, .string ⟨#[]⟩, .int .i64 0] 39))) := Lib.hid WC
  obtain ⟨b', off', hab, hB⟩ := S0.out.at hi
  cases hab
  have DC := Lib.hid (rdigit_any s[i] (w.alloc (.cells #[.int .i64 0, .string ⟨#[]⟩, .int .i64 0] 39)))
  clear hw
  by_cases hd : isD s[i] = true
  · have NC := rnumber_any (some ⟨b, off, none⟩) s.size cap s hs i hi hd _ S0.out
    rw [hd] at DC
    unfold TkA at NC ⊢
    replace NC := Lib.hid NC
    generalize ((if (shp (s.data.toList.drop i)).1 = 0 then 0 else (shp (s.data.toList.drop i)).2 : Nat) : Int) = N at *
    generalize flt (shp (s.data.toList.drop i)).1 ((s.data.toList.drop i).take (shp (s.data.toList.drop i)).2) = c at *
    clear hl hd
    generalize ((s[i].toNat : Nat) : Int) = y at *
    go_enter Tryz.func30, Tryz.ntmps30
    go_wp2_with fail
    refine WC.out.mono ?_
    rintro e w1 ⟨rfl, rfl⟩
    go_wp2_with fail
    refine DC.out.mono ?_
    rintro e w1 ⟨rfl, rfl⟩
    go_wp2_with fail
    refine NC.out.mono ?_
    rintro e w1 ⟨x, rfl, hx, hb⟩
    have V1 := V0.out.keeps hb
    have B1 := Lib.hid (bnext B0.out hb)
    clear c0 c1 c2 g0 g1 g2 hb V0 hB
    obtain ⟨⟨c0, c1, c2⟩, g0, g1, g2⟩ := id V1
    go_wp2_with fail
    obtain ⟨r0, r1, r2⟩ := V1.val.put x
    simp [bodyPost, results, Tryz.results30, go_sem, r0, r1, r2]
    exact ⟨x, ⟨rfl, rfl, rfl⟩, hx, tk.put_below B1.out (Nat.le_refl _) _ _ _⟩
  rw [Bool.not_eq_true] at hd
  rw [hd] at DC
  by_cases h34 : s[i].toNat = 34
  · have NC := rquoted_any (some ⟨b, off, none⟩) s.size cap s hs i hi h34 _ S0.out
    rw [h34] at DC hB
    unfold TkA at NC ⊢
    replace NC := Lib.hid NC
    generalize ((if (shp (s.data.toList.drop i)).1 = 0 then 0 else (shp (s.data.toList.drop i)).2 : Nat) : Int) = N at *
    generalize flt (shp (s.data.toList.drop i)).1 ((s.data.toList.drop i).take (shp (s.data.toList.drop i)).2) = c at *
    clear hl hd h34
    go_enter Tryz.func30, Tryz.ntmps30
    go_wp2_with fail
    refine WC.out.mono ?_
    rintro e w1 ⟨rfl, rfl⟩
    go_wp2_with fail
    refine DC.out.mono ?_
    rintro e w1 ⟨rfl, rfl⟩
    go_wp2_with fail
    refine NC.out.mono ?_
    rintro e w1 ⟨x, rfl, hx, hb⟩
    have V1 := V0.out.keeps hb
    have B1 := Lib.hid (bnext B0.out hb)
    clear c0 c1 c2 g0 g1 g2 hb V0 hB
    obtain ⟨⟨c0, c1, c2⟩, g0, g1, g2⟩ := id V1
    go_wp2_with fail
    obtain ⟨r0, r1, r2⟩ := V1.val.put x
    simp [bodyPost, results, Tryz.results30, go_sem, r0, r1, r2]
    exact ⟨x, ⟨rfl, rfl, rfl⟩, hx, tk.put_below B1.out (Nat.le_refl _) _ _ _⟩
  have hsh := shp_else s hi hl hd h34
  have SC := rsign_any (some ⟨b, off, none⟩) s.size cap s hs i hi _ S0.out
  have e34 : (((s[i].toNat : Nat) : Int) == 34) = false := by rw [beq_eq_false_iff_ne]; omega
  have hle := sgn_le (s.data.toList.drop i)
  rw [List.length_drop, str_len] at hle
  clear hl hd h34 V0
  generalize ((s[i].toNat : Nat) : Int) = y at *
  unfold sgN at SC
  rcases sgn_ways _ (drop_ne s hi) with h | h
  · rw [h] at hsh SC
    replace SC : Hid (Calls Tryz.prog 58 #[.slice (some ⟨b, off, none⟩) s.size cap, .int .i64 (i : Nat)] (w.alloc (.cells #[.int .i64 0, .string ⟨#[]⟩, .int .i64 0] 39)) (fun e w' => e = .returned (.int .i64 0) ∧ w' = w.alloc (.cells #[.int .i64 0, .string ⟨#[]⟩, .int .i64 0] 39))) := Lib.hid SC
    replace hsh := Lib.hid hsh
    clear h hle
    go_enter Tryz.func30, Tryz.ntmps30
    go_wp2_with fail
    refine WC.out.mono ?_
    rintro e w1 ⟨rfl, rfl⟩
    go_wp2_with fail
    refine DC.out.mono ?_
    rintro e w1 ⟨rfl, rfl⟩
    go_wp2_with fail
    refine SC.out.mono ?_
    rintro e w1 ⟨rfl, rfl⟩
    go_wp2_with fail
    simp [bodyPost, results, Tryz.results30, go_sem]
    exact TkA.mk (m := 0) hsh.out (by rw [if_pos rfl]) (flt_zero _) ⟨0, ⟨#[]⟩, 0⟩ rfl (fun h => by cases h) (balloc (b0 w) _)
  · obtain ⟨n, hn, h1⟩ : ∃ n : Nat, (n = 1 ∨ n = 2) ∧ sgn (s.data.toList.drop i) = (5, n) := by
      rcases h with h | h
      · exact ⟨1, .inl rfl, h⟩
      · exact ⟨2, .inr rfl, h⟩
    rw [h1] at hsh SC hle
    replace SC : Hid (Calls Tryz.prog 58 #[.slice (some ⟨b, off, none⟩) s.size cap, .int .i64 (i : Nat)] (w.alloc (.cells #[.int .i64 0, .string ⟨#[]⟩, .int .i64 0] 39)) (fun e w' => e = .returned (.int .i64 (n : Nat)) ∧ w' = w.alloc (.cells #[.int .i64 0, .string ⟨#[]⟩, .int .i64 0] 39))) := Lib.hid SC
    replace hsh := Lib.hid hsh
    obtain ⟨a2, c3, SL0, hcut⟩ := S0.out.cut (i := i) (m := n) (by simp only at hle; omega)
    have het := ext_part s i n
    have SL : ∀ W, (Instr.slice 22 (.slice (some ⟨b, off, none⟩) s.size cap) (some (.int .i64 (i : Nat))) (some (.int .i64 ((i : Int) + (n : Int)))) none).run Tryz.prog W = .ok (.slice a2 n c3) W := SL0
    have CV := hcut.str
    obtain ⟨t, ht⟩ : ∃ t, s.extract i (i + n) = t := ⟨_, rfl⟩
    rw [ht] at CV het
    have hcx := Lib.hid (show (⟨(cont 5 ((s.data.toList.drop i).take n)).toArray⟩ : ByteArray) = t by rw [cont_else (by decide), ← het])
    have f1 : wrap64 ((i : Int) + (n : Int)) = (i : Int) + (n : Int) := by have := Z0.out; unfold wrap64; omega
    have q1 : ((n : Int) == 0) = false := by rw [beq_eq_false_iff_ne]; clear f1; omega
    clear SL0 het hcut ht h h1 hn hle
    go_enter Tryz.func30, Tryz.ntmps30
    go_wp2_with fail
    refine WC.out.mono ?_
    rintro e w1 ⟨rfl, rfl⟩
    go_wp2_with fail
    refine DC.out.mono ?_
    rintro e w1 ⟨rfl, rfl⟩
    go_wp2_with fail
    refine SC.out.mono ?_
    rintro e w1 ⟨rfl, rfl⟩
    go_wp2_with fail
    simp [bodyPost, results, Tryz.results30, go_sem]
    exact TkA.mk (m := n) hsh.out (by rw [if_neg (by decide)]) (flt_five _) ⟨5, t, (i : Nat)⟩ rfl (fun _ => by rw [hcx.out]) (balloc (b0 w) _)
end Go.Proofs.YtkfciilclfhabaaGreatDoor
