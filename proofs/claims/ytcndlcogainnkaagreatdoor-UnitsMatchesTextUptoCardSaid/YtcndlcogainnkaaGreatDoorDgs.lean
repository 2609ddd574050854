/-
  The reference's Digits.
-/
import Derived.Test.YtcndlcogainnkaaGreatDoorFmt
import Derived.Test.YtcndlcogainnkaaGreatDoorHel
import Derived.Laws.BytesArg
namespace Go.Proofs.YtcndlcogainnkaaGreatDoor
open Go.RowKit dec

theorem one_cv (w : World) (b : Nat) (y : Int) (x : Nat) (hc : w.cell? ⟨b, 0, none⟩ = some (.int .u8 y)) (hy : y = 48 + (x : Int)) (hx : x < 10) : (convert 60 9 (.slice (some ⟨b, 0, none⟩) 1 1)).run Tryz.prog w = .ok (.string ⟨#[UInt8.ofNat (48 + x)]⟩) w := by
  rw [run_convert_bytes_arg w 60 5 Tryz.underlying60 Tryz.underlying5 b 0 1 1 [y] rfl ?_ _ Tryz.underlying9]
  · subst hy
    rfl
  · intro i hi
    obtain rfl : i = 0 := by omega
    exact hc
theorem byte_new (w : World) (y : Int) : (w.alloc (.cells #[.int .u8 y] 5)).cell? ⟨w.heap.size, 0, none⟩ = some (.int .u8 y) := by simp [go_sem]
theorem dd_small {u : Nat} (h : u < 10) : Lib.decDigits u = [UInt8.ofNat (48 + u)] := by rw [Lib.decDigits, dif_pos h]
theorem dd_big {u : Nat} (h : ¬ u < 10) : Lib.decDigits u = Lib.decDigits (u / 10) ++ [UInt8.ofNat (48 + u % 10)] := by rw [Lib.decDigits, dif_neg h]
theorem dd_len {u : Nat} (h : u ≤ 9223372036854775808) : (Lib.decDigits u).length ≤ 20 := by
  rw [Lib.decDigits_eq, List.length_map, List.length_range]
  rcases Nat.lt_or_ge (Lib.nDigits u) 20 with h' | h'
  · omega
  · exfalso
    have := nd_le 18 u (by omega)
    omega
theorem quo_nat (v : Nat) : ((v : Int)).tmod 10 = ((v % 10 : Nat) : Int) ∧ ((v : Int)).tdiv 10 = ((v / 10 : Nat) : Int) := ⟨by rfl, by rfl⟩
theorem quo_neg (v : Nat) : (-(v : Int)).tmod 10 = -((v % 10 : Nat) : Int) ∧ (-(v : Int)).tdiv 10 = -((v / 10 : Nat) : Int) := by
  rw [Int.neg_tmod, Int.neg_tdiv]
  exact ⟨by rfl, by rfl⟩
set_option maxRecDepth 100000 in
set_option maxHeartbeats 4000000 in
theorem dgs_pos (u : Nat) : u ≤ 9223372036854775807 → ∀ w, Calls Tryz.prog 45 #[.int .i64 (u : Int)] w fun e w' => e = .returned (.string ⟨(Lib.decDigits u).toArray⟩) ∧ Below w.heap.size w w' := by
  induction u using Nat.strongRecOn with
  | _ u ih =>
    intro hu w
    have q1 : decide (-10 < (u : Int)) = true := decide_eq_true (by omega)
    have q3 : decide ((u : Int) < 0) = false := decide_eq_false (by omega)
    by_cases h9 : u < 10
    · have q2 : decide ((u : Int) < 10) = true := decide_eq_true (by omega)
      have hw : IntKind.u8.wrap (48 + (u : Int)) = 48 + (u : Int) := by rw [IntKind.wrap_u8]; omega
      have cv := one_cv _ _ _ u (byte_new w (48 + (u : Int))) rfl h9
      have HL := dd_small h9
      obtain ⟨y, hy⟩ : ∃ y, UInt8.ofNat (48 + u) = y := ⟨_, rfl⟩
      rw [hy] at HL cv
      replace HL := Lib.hid HL
      clear ih hy
      go_enter Tryz.func45, Tryz.ntmps45
      go_wp2_with fail
      go_ret
      exact ⟨by rw [HL.out]; rfl, balloc (b0 w) _⟩
    · have q2 : decide ((u : Int) < 10) = false := decide_eq_false (by omega)
      have IH := Lib.hid (ih (u / 10) (by omega) (by omega))
      have HL := Lib.hid (dd_big h9)
      have A := Lib.hid (add_str (Lib.decDigits (u / 10)) [UInt8.ofNat (48 + u % 10)] (by have := dd_len (u := u / 10) (by omega); omega) (by simp))
      obtain ⟨x, hx⟩ : ∃ x, u % 10 = x := ⟨_, rfl⟩
      have hx10 : x < 10 := by omega
      obtain ⟨g1, g2⟩ := quo_nat u
      rw [hx] at g1 HL A
      have hw : IntKind.u8.wrap (48 + (x : Int)) = 48 + (x : Int) := by rw [IntKind.wrap_u8]; omega
      have hw1 : IntKind.i64.wrap ((u : Int) / 10) = (u : Int) / 10 := by rw [IntWalk.i64_left]; unfold wrap64; omega
      have hw2 : IntKind.i64.wrap (48 + (x : Int)) = 48 + (x : Int) := by rw [IntWalk.i64_left]; unfold wrap64; omega
      have q4 : decide ((x : Int) < 0) = false := decide_eq_false (by omega)
      obtain ⟨y, hy⟩ : ∃ y, UInt8.ofNat (48 + x) = y := ⟨_, rfl⟩
      rw [hy] at HL A
      have HY := Lib.hid hy
      clear hy
      generalize Lib.decDigits u = L at *
      generalize Lib.decDigits (u / 10) ++ [y] = L2 at *
      generalize Lib.decDigits (u / 10) = L3 at *
      clear ih h9
      go_enter Tryz.func45, Tryz.ntmps45
      go_wp2_with fail
      refine wp_region_noPanic ?_
      refine wp_region_held_drew (S := fun w' => Below w.heap.size w w') (by kernel_rfl) (b0 w).drew (fun hH => ?_)
      generalize w.drew = WW at *
      refine held_take (i := 0) (d := 29) (v := ?_) rfl (by kernel_rfl) (by kernel_rfl) (by kernel_rfl) rfl (fun _ _ _ h => h) rfl hH (fun w' hS => ?_) ?_
      rotate_left
      · go_simp; first | done | with_reducible rfl | (rw [hw2]; done) | (rw [hw2]; rfl) | (rw [hw1]; done) | (rw [hw1]; rfl)
      simp only [List.set_cons_zero, List.set_cons_succ]
      refine held_take (i := 1) (d := 30) (v := .int .i64 ((u / 10 : Nat) : Int)) rfl (by kernel_rfl) (by kernel_rfl) (by kernel_rfl) rfl (fun _ _ _ h => h) rfl hH (fun w' hS => ?_) ?_
      · go_simp; first | done | with_reducible rfl | (rw [hw2]; done) | (rw [hw2]; rfl) | (rw [hw1]; done) | (rw [hw1]; rfl)
      simp only [List.set_cons_zero, List.set_cons_succ]
      refine held_take (i := 3) (d := 32) (v := ?_) rfl (by kernel_rfl) (by kernel_rfl) (by kernel_rfl) rfl (fun _ _ _ h => h) rfl hH (fun w' hS => ?_) ?_
      rotate_left
      · go_simp; first | done | with_reducible rfl | (rw [hw2]; done) | (rw [hw2]; rfl) | (rw [hw1]; done) | (rw [hw1]; rfl)
      simp only [List.set_cons_zero, List.set_cons_succ]
      refine held_take (i := 4) (d := 33) (v := .int .i64 (48 + (x : Int))) rfl (by kernel_rfl) (by kernel_rfl) (by kernel_rfl) rfl (fun _ _ _ h => h) rfl hH (fun w' hS => ?_) ?_
      · go_simp; first | done | with_reducible rfl | (rw [hw2]; done) | (rw [hw2]; rfl) | (rw [hw1]; done) | (rw [hw1]; rfl)
      simp only [List.set_cons_zero, List.set_cons_succ]
      refine held_take (i := 5) (d := 34) (v := .int .u8 (48 + (x : Int))) rfl (by kernel_rfl) (by kernel_rfl) (by kernel_rfl) rfl (fun _ _ _ h => h) rfl hH (fun w' hS => ?_) ?_
      · go_simp; first | done | with_reducible rfl | (rw [hw2]; done) | (rw [hw2]; rfl) | (rw [hw1]; done) | (rw [hw1]; rfl)
      simp only [List.set_cons_zero, List.set_cons_succ]
      refine held_two (i := 2) (j := 6) rfl rfl (by kernel_rfl) rfl rfl (fun K hK => ?_) (fun K hK => ?_)
      · go_simp
        refine (IH.out _).mono ?_
        rintro e w6 ⟨rfl, b6⟩

        refine hK.out _ _ (hH.trans (b6.mono hH.size)) (fun hH => ?_)
        clear hK K b6
        refine held_only (i := 6) rfl (by kernel_rfl) rfl (fun K hK => ?_)
        go_simp
        have CC := Lib.hid (byte_new w6 (48 + (x : Int)))
        refine hK.out _ _ (hH.alloc hH.size _) (fun hH => ?_)
        clear hK K
        refine held_only (i := 7) rfl (by kernel_rfl) rfl (fun K hK => ?_)
        have cv := one_cv _ _ _ x CC.out rfl (by omega)
        rw [HY.out] at cv
        go_simp
        refine hK.out _ _ hH (fun hH => ?_)
        clear hK K cv
        refine held_only (i := 8) rfl (by kernel_rfl) rfl (fun K hK => ?_)
        have ad := A.out
        go_simp
        refine hK.out _ _ hH (fun hH => ?_)
        clear hK K
        refine held_only (i := 9) rfl (by kernel_rfl) rfl (fun K hK => ?_)
        go_simp
        refine hK.out _ _ hH (fun hH => ?_)
        clear hK K
        refine wpAnyH_done (by kernel_rfl) ?_ _
        refine noPanic_of ?_
        have HB := Lib.hid hH
        clear hH
        go_wp2_with fail
        go_ret
        exact ⟨by rw [HL.out]; rfl, HB.out⟩
      · go_simp
        have CC := Lib.hid (byte_new WW (48 + (x : Int)))
        refine hK.out _ _ (hH.alloc hH.size _) (fun hH => ?_)
        clear hK K
        refine held_two (i := 2) (j := 7) rfl rfl (by kernel_rfl) rfl rfl (fun K hK => ?_) (fun K hK => ?_)
        · go_simp
          refine (IH.out _).mono ?_
          rintro e w6 ⟨rfl, b6⟩
          replace CC := Lib.hid (dec.keeps b6 CC.out)
          refine hK.out _ _ (hH.trans (b6.mono hH.size)) (fun hH => ?_)
          clear hK K b6
          refine held_only (i := 7) rfl (by kernel_rfl) rfl (fun K hK => ?_)
          have cv := one_cv _ _ _ x CC.out rfl (by omega)
          rw [HY.out] at cv
          go_simp
          refine hK.out _ _ hH (fun hH => ?_)
          clear hK K cv
          refine held_only (i := 8) rfl (by kernel_rfl) rfl (fun K hK => ?_)
          have ad := A.out
          go_simp
          refine hK.out _ _ hH (fun hH => ?_)
          clear hK K
          refine held_only (i := 9) rfl (by kernel_rfl) rfl (fun K hK => ?_)
          go_simp
          refine hK.out _ _ hH (fun hH => ?_)
          clear hK K
          refine wpAnyH_done (by kernel_rfl) ?_ _
          refine noPanic_of ?_
          have HB := Lib.hid hH
          clear hH
          go_wp2_with fail
          go_ret
          exact ⟨by rw [HL.out]; rfl, HB.out⟩
        · have cv := one_cv _ _ _ x CC.out rfl (by omega)
          rw [HY.out] at cv
          go_simp
          refine hK.out _ _ hH (fun hH => ?_)
          clear hK K cv
          refine held_only (i := 2) rfl (by kernel_rfl) rfl (fun K hK => ?_)
          go_simp
          refine (IH.out _).mono ?_
          rintro e w6 ⟨rfl, b6⟩

          refine hK.out _ _ (hH.trans (b6.mono hH.size)) (fun hH => ?_)
          clear hK K b6
          refine held_only (i := 8) rfl (by kernel_rfl) rfl (fun K hK => ?_)
          have ad := A.out
          go_simp
          refine hK.out _ _ hH (fun hH => ?_)
          clear hK K
          refine held_only (i := 9) rfl (by kernel_rfl) rfl (fun K hK => ?_)
          go_simp
          refine hK.out _ _ hH (fun hH => ?_)
          clear hK K
          refine wpAnyH_done (by kernel_rfl) ?_ _
          refine noPanic_of ?_
          have HB := Lib.hid hH
          clear hH
          go_wp2_with fail
          go_ret
          exact ⟨by rw [HL.out]; rfl, HB.out⟩
set_option maxRecDepth 100000 in
set_option maxHeartbeats 4000000 in
theorem dgs_neg (u : Nat) : 1 ≤ u → u ≤ 9223372036854775808 → ∀ (n : Int), n = -(u : Int) → ∀ w, Calls Tryz.prog 45 #[.int .i64 n] w fun e w' => e = .returned (.string ⟨(45 :: Lib.decDigits u).toArray⟩) ∧ Below w.heap.size w w' := by
  induction u using Nat.strongRecOn with
  | _ u ih =>
    intro h1 hu n hn w
    have q2 : decide (n < 10) = true := decide_eq_true (by omega)
    have q3 : decide (n < 0) = true := decide_eq_true (by omega)
    by_cases h9 : u < 10
    · have q1 : decide (-10 < n) = true := decide_eq_true (by omega)
      have hm : IntKind.i64.wrap (48 - n) = 48 + (u : Int) := by rw [IntWalk.i64_left]; unfold wrap64; omega
      have hm2 : wrap64 (48 - n) = 48 + (u : Int) := by unfold wrap64; omega
      have hm3 : 48 - n = 48 + (u : Int) := by omega
      have hw : IntKind.u8.wrap (48 + (u : Int)) = 48 + (u : Int) := by rw [IntKind.wrap_u8]; omega
      have cv := one_cv _ _ _ u (byte_new w (48 + (u : Int))) rfl h9
      have HL := dd_small h9
      obtain ⟨y, hy⟩ : ∃ y, UInt8.ofNat (48 + u) = y := ⟨_, rfl⟩
      rw [hy] at HL cv
      have A := add_str [45] [y] (by simp) (by simp)
      replace HL := Lib.hid HL
      clear ih hy hn
      go_enter Tryz.func45, Tryz.ntmps45
      go_wp2_with fail
      go_ret
      exact ⟨by rw [HL.out]; rfl, balloc (b0 w) _⟩
    · have q1 : decide (-10 < n) = false := decide_eq_false (by omega)
      obtain ⟨m, hm⟩ : ∃ m, m = -((u / 10 : Nat) : Int) := ⟨_, rfl⟩
      have IH := Lib.hid (ih (u / 10) (by omega) (by omega) (by omega) m hm)
      have HL := dd_big h9
      have A := add_str (45 :: Lib.decDigits (u / 10)) [UInt8.ofNat (48 + u % 10)] (by have := dd_len (u := u / 10) (by omega); simp; omega) (by simp)
      obtain ⟨x, hx⟩ : ∃ x, u % 10 = x := ⟨_, rfl⟩
      have hx10 : x < 10 := by omega
      obtain ⟨g1, g2⟩ := quo_neg u
      rw [← hn] at g1 g2
      rw [hx] at g1 HL A
      rw [← hm] at g2
      have hw : IntKind.u8.wrap (48 + (x : Int)) = 48 + (x : Int) := by rw [IntKind.wrap_u8]; omega
      have hw1 : IntKind.i64.wrap m = m := by rw [IntWalk.i64_left]; unfold wrap64; omega
      have hw3 : IntKind.i64.wrap (n.tdiv 10) = m := by rw [g2]; exact hw1
      have hw2 : IntKind.i64.wrap (48 + (x : Int)) = 48 + (x : Int) := by rw [IntWalk.i64_left]; unfold wrap64; omega
      obtain ⟨y, hy⟩ : ∃ y, UInt8.ofNat (48 + x) = y := ⟨_, rfl⟩
      rw [hy] at HL A
      have HY := Lib.hid hy
      clear hy
      replace HL : Hid (45 :: Lib.decDigits u = 45 :: Lib.decDigits (u / 10) ++ [y]) := by rw [HL]; exact Lib.hid rfl
      replace A := Lib.hid A
      generalize 45 :: Lib.decDigits u = L at *
      generalize 45 :: Lib.decDigits (u / 10) ++ [y] = L2 at *
      generalize 45 :: Lib.decDigits (u / 10) = L3 at *
      clear ih
      obtain ⟨r, hr⟩ : ∃ r, r = -(x : Int) := ⟨_, rfl⟩
      rcases Nat.eq_zero_or_pos x with h0 | h0
      · have g1' : n.tmod 10 = (x : Int) := by rw [g1]; omega
        have q4 : decide ((x : Int) < 0) = false := decide_eq_false (by omega)
        have hwx : IntKind.i64.wrap (x : Int) = (x : Int) := by rw [IntWalk.i64_left]; unfold wrap64; omega
        clear g1 hr hn hm h0 hx
        go_enter Tryz.func45, Tryz.ntmps45
        go_wp2_with fail
        refine wp_region_noPanic ?_
        refine wp_region_held_drew (S := fun w' => Below w.heap.size w w') (by kernel_rfl) (b0 w).drew (fun hH => ?_)
        generalize w.drew = WW at *
        refine held_take (i := 0) (d := 29) (v := ?_) rfl (by kernel_rfl) (by kernel_rfl) (by kernel_rfl) rfl (fun _ _ _ h => h) rfl hH (fun w' hS => ?_) ?_
        rotate_left
        · go_simp; first | done | with_reducible rfl | (rw [hw2]; done) | (rw [hw2]; rfl) | (rw [hw1]; done) | (rw [hw1]; rfl) | (rw [hw3]; done) | (rw [hw3]; rfl) | (simp only [hw1, hw3]; done)
        simp only [List.set_cons_zero, List.set_cons_succ]
        refine held_take (i := 1) (d := 30) (v := .int .i64 m) rfl (by kernel_rfl) (by kernel_rfl) (by kernel_rfl) rfl (fun _ _ _ h => h) rfl hH (fun w' hS => ?_) ?_
        · go_simp; first | done | with_reducible rfl | (rw [hw2]; done) | (rw [hw2]; rfl) | (rw [hw1]; done) | (rw [hw1]; rfl) | (rw [hw3]; done) | (rw [hw3]; rfl) | (simp only [hw1, hw3]; done)
        simp only [List.set_cons_zero, List.set_cons_succ]
        refine held_take (i := 3) (d := 32) (v := ?_) rfl (by kernel_rfl) (by kernel_rfl) (by kernel_rfl) rfl (fun _ _ _ h => h) rfl hH (fun w' hS => ?_) ?_
        rotate_left
        · go_simp; first | done | with_reducible rfl | (rw [hw2]; done) | (rw [hw2]; rfl) | (rw [hw1]; done) | (rw [hw1]; rfl) | (rw [hw3]; done) | (rw [hw3]; rfl) | (simp only [hw1, hw3]; done)
        simp only [List.set_cons_zero, List.set_cons_succ]
        refine held_take (i := 4) (d := 33) (v := .int .i64 (48 + (x : Int))) rfl (by kernel_rfl) (by kernel_rfl) (by kernel_rfl) rfl (fun _ _ _ h => h) rfl hH (fun w' hS => ?_) ?_
        · go_simp; first | done | with_reducible rfl | (rw [hw2]; done) | (rw [hw2]; rfl) | (rw [hw1]; done) | (rw [hw1]; rfl) | (rw [hw3]; done) | (rw [hw3]; rfl) | (simp only [hw1, hw3]; done)
        simp only [List.set_cons_zero, List.set_cons_succ]
        refine held_take (i := 5) (d := 34) (v := .int .u8 (48 + (x : Int))) rfl (by kernel_rfl) (by kernel_rfl) (by kernel_rfl) rfl (fun _ _ _ h => h) rfl hH (fun w' hS => ?_) ?_
        · go_simp; first | done | with_reducible rfl | (rw [hw2]; done) | (rw [hw2]; rfl) | (rw [hw1]; done) | (rw [hw1]; rfl) | (rw [hw3]; done) | (rw [hw3]; rfl) | (simp only [hw1, hw3]; done)
        simp only [List.set_cons_zero, List.set_cons_succ]
        refine held_two (i := 2) (j := 6) rfl rfl (by kernel_rfl) rfl rfl (fun K hK => ?_) (fun K hK => ?_)
        · go_simp
          refine (IH.out _).mono ?_
          rintro e w6 ⟨rfl, b6⟩

          refine hK.out _ _ (hH.trans (b6.mono hH.size)) (fun hH => ?_)
          clear hK K b6
          refine held_only (i := 6) rfl (by kernel_rfl) rfl (fun K hK => ?_)
          go_simp
          have CC := Lib.hid (byte_new w6 (48 + (x : Int)))
          refine hK.out _ _ (hH.alloc hH.size _) (fun hH => ?_)
          clear hK K
          refine held_only (i := 7) rfl (by kernel_rfl) rfl (fun K hK => ?_)
          have cv := one_cv _ _ _ x CC.out rfl (by omega)
          rw [HY.out] at cv
          go_simp
          refine hK.out _ _ hH (fun hH => ?_)
          clear hK K cv
          refine held_only (i := 8) rfl (by kernel_rfl) rfl (fun K hK => ?_)
          have ad := A.out
          go_simp
          refine hK.out _ _ hH (fun hH => ?_)
          clear hK K
          refine held_only (i := 9) rfl (by kernel_rfl) rfl (fun K hK => ?_)
          go_simp
          refine hK.out _ _ hH (fun hH => ?_)
          clear hK K
          refine wpAnyH_done (by kernel_rfl) ?_ _
          refine noPanic_of ?_
          have HB := Lib.hid hH
          clear hH
          go_wp2_with fail
          go_ret
          exact ⟨by rw [HL.out]; rfl, HB.out⟩
        · go_simp
          have CC := Lib.hid (byte_new WW (48 + (x : Int)))
          refine hK.out _ _ (hH.alloc hH.size _) (fun hH => ?_)
          clear hK K
          refine held_two (i := 2) (j := 7) rfl rfl (by kernel_rfl) rfl rfl (fun K hK => ?_) (fun K hK => ?_)
          · go_simp
            refine (IH.out _).mono ?_
            rintro e w6 ⟨rfl, b6⟩
            replace CC := Lib.hid (dec.keeps b6 CC.out)
            refine hK.out _ _ (hH.trans (b6.mono hH.size)) (fun hH => ?_)
            clear hK K b6
            refine held_only (i := 7) rfl (by kernel_rfl) rfl (fun K hK => ?_)
            have cv := one_cv _ _ _ x CC.out rfl (by omega)
            rw [HY.out] at cv
            go_simp
            refine hK.out _ _ hH (fun hH => ?_)
            clear hK K cv
            refine held_only (i := 8) rfl (by kernel_rfl) rfl (fun K hK => ?_)
            have ad := A.out
            go_simp
            refine hK.out _ _ hH (fun hH => ?_)
            clear hK K
            refine held_only (i := 9) rfl (by kernel_rfl) rfl (fun K hK => ?_)
            go_simp
            refine hK.out _ _ hH (fun hH => ?_)
            clear hK K
            refine wpAnyH_done (by kernel_rfl) ?_ _
            refine noPanic_of ?_
            have HB := Lib.hid hH
            clear hH
            go_wp2_with fail
            go_ret
            exact ⟨by rw [HL.out]; rfl, HB.out⟩
          · have cv := one_cv _ _ _ x CC.out rfl (by omega)
            rw [HY.out] at cv
            go_simp
            refine hK.out _ _ hH (fun hH => ?_)
            clear hK K cv
            refine held_only (i := 2) rfl (by kernel_rfl) rfl (fun K hK => ?_)
            go_simp
            refine (IH.out _).mono ?_
            rintro e w6 ⟨rfl, b6⟩

            refine hK.out _ _ (hH.trans (b6.mono hH.size)) (fun hH => ?_)
            clear hK K b6
            refine held_only (i := 8) rfl (by kernel_rfl) rfl (fun K hK => ?_)
            have ad := A.out
            go_simp
            refine hK.out _ _ hH (fun hH => ?_)
            clear hK K
            refine held_only (i := 9) rfl (by kernel_rfl) rfl (fun K hK => ?_)
            go_simp
            refine hK.out _ _ hH (fun hH => ?_)
            clear hK K
            refine wpAnyH_done (by kernel_rfl) ?_ _
            refine noPanic_of ?_
            have HB := Lib.hid hH
            clear hH
            go_wp2_with fail
            go_ret
            exact ⟨by rw [HL.out]; rfl, HB.out⟩
      · rw [← hr] at g1
        have q4 : decide (r < 0) = true := decide_eq_true (by omega)
        have hwr : IntKind.i64.wrap r = r := by rw [IntWalk.i64_left]; unfold wrap64; omega
        have hwn : IntKind.i64.wrap (-r) = (x : Int) := by rw [IntWalk.i64_left]; unfold wrap64; omega
        have hwn2 : wrap64 (-r) = (x : Int) := by unfold wrap64; omega
        have hwn3 : -r = (x : Int) := by omega
        clear hr hn hm h0 hx
        go_enter Tryz.func45, Tryz.ntmps45
        go_wp2_with fail
        refine wp_region_noPanic ?_
        refine wp_region_held_drew (S := fun w' => Below w.heap.size w w') (by kernel_rfl) (b0 w).drew (fun hH => ?_)
        generalize w.drew = WW at *
        refine held_take (i := 0) (d := 29) (v := ?_) rfl (by kernel_rfl) (by kernel_rfl) (by kernel_rfl) rfl (fun _ _ _ h => h) rfl hH (fun w' hS => ?_) ?_
        rotate_left
        · go_simp; first | done | with_reducible rfl | (rw [hw2]; done) | (rw [hw2]; rfl) | (rw [hw1]; done) | (rw [hw1]; rfl) | (rw [hw3]; done) | (rw [hw3]; rfl) | (simp only [hw1, hw3]; done)
        simp only [List.set_cons_zero, List.set_cons_succ]
        refine held_take (i := 1) (d := 30) (v := .int .i64 m) rfl (by kernel_rfl) (by kernel_rfl) (by kernel_rfl) rfl (fun _ _ _ h => h) rfl hH (fun w' hS => ?_) ?_
        · go_simp; first | done | with_reducible rfl | (rw [hw2]; done) | (rw [hw2]; rfl) | (rw [hw1]; done) | (rw [hw1]; rfl) | (rw [hw3]; done) | (rw [hw3]; rfl) | (simp only [hw1, hw3]; done)
        simp only [List.set_cons_zero, List.set_cons_succ]
        refine held_take (i := 3) (d := 32) (v := ?_) rfl (by kernel_rfl) (by kernel_rfl) (by kernel_rfl) rfl (fun _ _ _ h => h) rfl hH (fun w' hS => ?_) ?_
        rotate_left
        · go_simp; first | done | with_reducible rfl | (rw [hw2]; done) | (rw [hw2]; rfl) | (rw [hw1]; done) | (rw [hw1]; rfl) | (rw [hw3]; done) | (rw [hw3]; rfl) | (simp only [hw1, hw3]; done)
        simp only [List.set_cons_zero, List.set_cons_succ]
        refine held_take (i := 4) (d := 33) (v := .int .i64 (48 + (x : Int))) rfl (by kernel_rfl) (by kernel_rfl) (by kernel_rfl) rfl (fun _ _ _ h => h) rfl hH (fun w' hS => ?_) ?_
        · go_simp; first | done | with_reducible rfl | (rw [hw2]; done) | (rw [hw2]; rfl) | (rw [hw1]; done) | (rw [hw1]; rfl) | (rw [hw3]; done) | (rw [hw3]; rfl) | (simp only [hw1, hw3]; done)
        simp only [List.set_cons_zero, List.set_cons_succ]
        refine held_take (i := 5) (d := 34) (v := .int .u8 (48 + (x : Int))) rfl (by kernel_rfl) (by kernel_rfl) (by kernel_rfl) rfl (fun _ _ _ h => h) rfl hH (fun w' hS => ?_) ?_
        · go_simp; first | done | with_reducible rfl | (rw [hw2]; done) | (rw [hw2]; rfl) | (rw [hw1]; done) | (rw [hw1]; rfl) | (rw [hw3]; done) | (rw [hw3]; rfl) | (simp only [hw1, hw3]; done)
        simp only [List.set_cons_zero, List.set_cons_succ]
        refine held_two (i := 2) (j := 6) rfl rfl (by kernel_rfl) rfl rfl (fun K hK => ?_) (fun K hK => ?_)
        · go_simp
          refine (IH.out _).mono ?_
          rintro e w6 ⟨rfl, b6⟩

          refine hK.out _ _ (hH.trans (b6.mono hH.size)) (fun hH => ?_)
          clear hK K b6
          refine held_only (i := 6) rfl (by kernel_rfl) rfl (fun K hK => ?_)
          go_simp
          have CC := Lib.hid (byte_new w6 (48 + (x : Int)))
          refine hK.out _ _ (hH.alloc hH.size _) (fun hH => ?_)
          clear hK K
          refine held_only (i := 7) rfl (by kernel_rfl) rfl (fun K hK => ?_)
          have cv := one_cv _ _ _ x CC.out rfl (by omega)
          rw [HY.out] at cv
          go_simp
          refine hK.out _ _ hH (fun hH => ?_)
          clear hK K cv
          refine held_only (i := 8) rfl (by kernel_rfl) rfl (fun K hK => ?_)
          have ad := A.out
          go_simp
          refine hK.out _ _ hH (fun hH => ?_)
          clear hK K
          refine held_only (i := 9) rfl (by kernel_rfl) rfl (fun K hK => ?_)
          go_simp
          refine hK.out _ _ hH (fun hH => ?_)
          clear hK K
          refine wpAnyH_done (by kernel_rfl) ?_ _
          refine noPanic_of ?_
          have HB := Lib.hid hH
          clear hH
          go_wp2_with fail
          go_ret
          exact ⟨by rw [HL.out]; rfl, HB.out⟩
        · go_simp
          have CC := Lib.hid (byte_new WW (48 + (x : Int)))
          refine hK.out _ _ (hH.alloc hH.size _) (fun hH => ?_)
          clear hK K
          refine held_two (i := 2) (j := 7) rfl rfl (by kernel_rfl) rfl rfl (fun K hK => ?_) (fun K hK => ?_)
          · go_simp
            refine (IH.out _).mono ?_
            rintro e w6 ⟨rfl, b6⟩
            replace CC := Lib.hid (dec.keeps b6 CC.out)
            refine hK.out _ _ (hH.trans (b6.mono hH.size)) (fun hH => ?_)
            clear hK K b6
            refine held_only (i := 7) rfl (by kernel_rfl) rfl (fun K hK => ?_)
            have cv := one_cv _ _ _ x CC.out rfl (by omega)
            rw [HY.out] at cv
            go_simp
            refine hK.out _ _ hH (fun hH => ?_)
            clear hK K cv
            refine held_only (i := 8) rfl (by kernel_rfl) rfl (fun K hK => ?_)
            have ad := A.out
            go_simp
            refine hK.out _ _ hH (fun hH => ?_)
            clear hK K
            refine held_only (i := 9) rfl (by kernel_rfl) rfl (fun K hK => ?_)
            go_simp
            refine hK.out _ _ hH (fun hH => ?_)
            clear hK K
            refine wpAnyH_done (by kernel_rfl) ?_ _
            refine noPanic_of ?_
            have HB := Lib.hid hH
            clear hH
            go_wp2_with fail
            go_ret
            exact ⟨by rw [HL.out]; rfl, HB.out⟩
          · have cv := one_cv _ _ _ x CC.out rfl (by omega)
            rw [HY.out] at cv
            go_simp
            refine hK.out _ _ hH (fun hH => ?_)
            clear hK K cv
            refine held_only (i := 2) rfl (by kernel_rfl) rfl (fun K hK => ?_)
            go_simp
            refine (IH.out _).mono ?_
            rintro e w6 ⟨rfl, b6⟩

            refine hK.out _ _ (hH.trans (b6.mono hH.size)) (fun hH => ?_)
            clear hK K b6
            refine held_only (i := 8) rfl (by kernel_rfl) rfl (fun K hK => ?_)
            have ad := A.out
            go_simp
            refine hK.out _ _ hH (fun hH => ?_)
            clear hK K
            refine held_only (i := 9) rfl (by kernel_rfl) rfl (fun K hK => ?_)
            go_simp
            refine hK.out _ _ hH (fun hH => ?_)
            clear hK K
            refine wpAnyH_done (by kernel_rfl) ?_ _
            refine noPanic_of ?_
            have HB := Lib.hid hH
            clear hH
            go_wp2_with fail
            go_ret
            exact ⟨by rw [HL.out]; rfl, HB.out⟩
theorem rdig_any (n : Int) (h0 : -9223372036854775808 ≤ n) (h1 : n ≤ 9223372036854775807) (w : World) :
    Calls Tryz.prog 45 #[.int .i64 n] w fun e w' => e = .returned (.string ⟨(Lib.itoa n).toArray⟩) ∧ Below w.heap.size w w' := by
  unfold Lib.itoa
  by_cases h : n < 0
  · rw [if_pos h]
    exact dgs_neg n.natAbs (by omega) (by omega) n (by omega) w
  · rw [if_neg h]
    have := dgs_pos n.toNat (by omega) w
    rwa [show ((n.toNat : Nat) : Int) = n by omega] at this
end Go.Proofs.YtcndlcogainnkaaGreatDoor
