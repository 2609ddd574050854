/-
  The reference's Digits; Bytes of the call's own; the reference's Format; The reference's Format; The reference's Digits and Format of decimals: for every number in range.
-/
import Derived.Laws.BytesArg
import Derived.Lib.AppendStr
import Derived.Test.YtbahfelnbofjjaaGreatDoorE03
import Derived.Test.YtbahfelnbofjjaaGreatDoorE04
import Derived.Test.YtbahfelnbofjjaaGreatDoorE06
namespace Go.Proofs.YtbahfelnbofjjaaGreatDoor.un
open Go.RowKit dec

theorem one_cv (w : World) (b : Nat) (y : Int) (x : Nat) (hc : w.cell? ⟨b, 0, none⟩ = some (.int .u8 y)) (hy : y = 48 + (x : Int)) (hx : x < 10) : (convert 56 9 (.slice (some ⟨b, 0, none⟩) 1 1)).run Tryz.prog w = .ok (.string ⟨#[UInt8.ofNat (48 + x)]⟩) w := by
  rw [run_convert_bytes_arg w 56 5 Tryz.underlying56 Tryz.underlying5 b 0 1 1 [y] rfl ?_ _ Tryz.underlying9]
  · subst hy
    rfl
  · intro i hi
    obtain rfl : i = 0 := by omega
    exact hc
theorem byte_new (w : World) (y : Int) : (w.alloc (.cells #[.int .u8 y] 5)).cell? ⟨w.heap.size, 0, none⟩ = some (.int .u8 y) := by simp [go_sem]
theorem dd_small {u : Nat} (h : u < 10) : Lib.decDigits u = [UInt8.ofNat (48 + u)] := by rw [Lib.decDigits, dif_pos h]
theorem dd_big {u : Nat} (h : ¬ u < 10) : Lib.decDigits u = Lib.decDigits (u / 10) ++ [UInt8.ofNat (48 + u % 10)] := by rw [Lib.decDigits, dif_neg h]
theorem dd_len {u : Nat} (h : u ≤ 9223372036854775808) : (Lib.decDigits u).length ≤ 20 := by
  rw [Lib.decDigits_eq, List.length_map, List.length_range]
  rcases Nat.lt_or_ge (Lib.nDigits u) 20 with h' | h'
  · omega
  · exfalso
    have := nd_le 18 u (by omega)
    omega
theorem quo_nat (v : Nat) : ((v : Int)).tmod 10 = ((v % 10 : Nat) : Int) ∧ ((v : Int)).tdiv 10 = ((v / 10 : Nat) : Int) := ⟨by rfl, by rfl⟩
theorem quo_neg (v : Nat) : (-(v : Int)).tmod 10 = -((v % 10 : Nat) : Int) ∧ (-(v : Int)).tdiv 10 = -((v / 10 : Nat) : Int) := by
  rw [Int.neg_tmod, Int.neg_tdiv]
  exact ⟨by rfl, by rfl⟩
set_option maxRecDepth 100000 in
set_option maxHeartbeats 4000000 in
theorem dgs_pos (u : Nat) : u ≤ 9223372036854775807 → ∀ w, Calls Tryz.prog 231 #[.int .i64 (u : Int)] w fun e w' => e = .returned (.string ⟨(Lib.decDigits u).toArray⟩) ∧ Below w.heap.size w w' := by
  induction u using Nat.strongRecOn with
  | _ u ih =>
    intro hu w
    have q1 : decide (-10 < (u : Int)) = true := decide_eq_true (by omega)
    have q3 : decide ((u : Int) < 0) = false := decide_eq_false (by omega)
    by_cases h9 : u < 10
    · have q2 : decide ((u : Int) < 10) = true := decide_eq_true (by omega)
      have hw : IntKind.u8.wrap (48 + (u : Int)) = 48 + (u : Int) := by rw [IntKind.wrap_u8]; omega
      have cv := one_cv _ _ _ u (byte_new w (48 + (u : Int))) rfl h9
      have HL := dd_small h9
      obtain ⟨y, hy⟩ : ∃ y, UInt8.ofNat (48 + u) = y := ⟨_, rfl⟩
      rw [hy] at HL cv
      replace HL := Lib.hid HL
      clear ih hy
      go_enter Tryz.func231, Tryz.ntmps231
      go_wp2_with fail
      go_ret
      exact ⟨by rw [HL.out]; rfl, balloc (b0 w) _⟩
    · have q2 : decide ((u : Int) < 10) = false := decide_eq_false (by omega)
      have IH := Lib.hid (ih (u / 10) (by omega) (by omega))
      have HL := Lib.hid (dd_big h9)
      have A := Lib.hid (add_str (Lib.decDigits (u / 10)) [UInt8.ofNat (48 + u % 10)] (by have := dd_len (u := u / 10) (by omega); omega) (by simp))
      obtain ⟨x, hx⟩ : ∃ x, u % 10 = x := ⟨_, rfl⟩
      have hx10 : x < 10 := by omega
      obtain ⟨g1, g2⟩ := quo_nat u
      rw [hx] at g1 HL A
      have hw : IntKind.u8.wrap (48 + (x : Int)) = 48 + (x : Int) := by rw [IntKind.wrap_u8]; omega
      have hw1 : IntKind.i64.wrap ((u : Int) / 10) = (u : Int) / 10 := by rw [IntWalk.i64_left]; unfold wrap64; omega
      have hw2 : IntKind.i64.wrap (48 + (x : Int)) = 48 + (x : Int) := by rw [IntWalk.i64_left]; unfold wrap64; omega
      have q4 : decide ((x : Int) < 0) = false := decide_eq_false (by omega)
      obtain ⟨y, hy⟩ : ∃ y, UInt8.ofNat (48 + x) = y := ⟨_, rfl⟩
      rw [hy] at HL A
      have HY := Lib.hid hy
      clear hy
      generalize Lib.decDigits u = L at *
      generalize Lib.decDigits (u / 10) ++ [y] = L2 at *
      generalize Lib.decDigits (u / 10) = L3 at *
      clear ih h9
      go_enter Tryz.func231, Tryz.ntmps231
      go_wp2_with fail
      refine wp_region_noPanic ?_
      refine wp_region_held_drew (S := fun w' => Below w.heap.size w w') (by kernel_rfl) (b0 w).drew (fun hH => ?_)
      generalize w.drew = WW at *
      refine held_take (i := 0) (d := 29) (v := ?_) rfl (by kernel_rfl) (by kernel_rfl) (by kernel_rfl) rfl (fun _ _ _ h => h) rfl hH (fun w' hS => ?_) ?_
      rotate_left
      · go_simp; first | done | with_reducible rfl | (rw [hw2]; done) | (rw [hw2]; rfl) | (rw [hw1]; done) | (rw [hw1]; rfl)
      simp only [List.set_cons_zero, List.set_cons_succ]
      refine held_take (i := 1) (d := 30) (v := .int .i64 ((u / 10 : Nat) : Int)) rfl (by kernel_rfl) (by kernel_rfl) (by kernel_rfl) rfl (fun _ _ _ h => h) rfl hH (fun w' hS => ?_) ?_
      · go_simp; first | done | with_reducible rfl | (rw [hw2]; done) | (rw [hw2]; rfl) | (rw [hw1]; done) | (rw [hw1]; rfl)
      simp only [List.set_cons_zero, List.set_cons_succ]
      refine held_take (i := 3) (d := 32) (v := ?_) rfl (by kernel_rfl) (by kernel_rfl) (by kernel_rfl) rfl (fun _ _ _ h => h) rfl hH (fun w' hS => ?_) ?_
      rotate_left
      · go_simp; first | done | with_reducible rfl | (rw [hw2]; done) | (rw [hw2]; rfl) | (rw [hw1]; done) | (rw [hw1]; rfl)
      simp only [List.set_cons_zero, List.set_cons_succ]
      refine held_take (i := 4) (d := 33) (v := .int .i64 (48 + (x : Int))) rfl (by kernel_rfl) (by kernel_rfl) (by kernel_rfl) rfl (fun _ _ _ h => h) rfl hH (fun w' hS => ?_) ?_
      · go_simp; first | done | with_reducible rfl | (rw [hw2]; done) | (rw [hw2]; rfl) | (rw [hw1]; done) | (rw [hw1]; rfl)
      simp only [List.set_cons_zero, List.set_cons_succ]
      refine held_take (i := 5) (d := 34) (v := .int .u8 (48 + (x : Int))) rfl (by kernel_rfl) (by kernel_rfl) (by kernel_rfl) rfl (fun _ _ _ h => h) rfl hH (fun w' hS => ?_) ?_
      · go_simp; first | done | with_reducible rfl | (rw [hw2]; done) | (rw [hw2]; rfl) | (rw [hw1]; done) | (rw [hw1]; rfl)
      simp only [List.set_cons_zero, List.set_cons_succ]
      refine held_two (i := 2) (j := 6) rfl rfl (by kernel_rfl) rfl rfl (fun K hK => ?_) (fun K hK => ?_)
      · go_simp
        refine (IH.out _).mono ?_
        rintro e w6 ⟨rfl, b6⟩

        refine hK.out _ _ (hH.trans (b6.mono hH.size)) (fun hH => ?_)
        clear hK K b6
        refine held_only (i := 6) rfl (by kernel_rfl) rfl (fun K hK => ?_)
        go_simp
        have CC := Lib.hid (byte_new w6 (48 + (x : Int)))
        refine hK.out _ _ (hH.alloc hH.size _) (fun hH => ?_)
        clear hK K
        refine held_only (i := 7) rfl (by kernel_rfl) rfl (fun K hK => ?_)
        have cv := one_cv _ _ _ x CC.out rfl (by omega)
        rw [HY.out] at cv
        go_simp
        refine hK.out _ _ hH (fun hH => ?_)
        clear hK K cv
        refine held_only (i := 8) rfl (by kernel_rfl) rfl (fun K hK => ?_)
        have ad := A.out
        go_simp
        refine hK.out _ _ hH (fun hH => ?_)
        clear hK K
        refine held_only (i := 9) rfl (by kernel_rfl) rfl (fun K hK => ?_)
        go_simp
        refine hK.out _ _ hH (fun hH => ?_)
        clear hK K
        refine wpAnyH_done (by kernel_rfl) ?_ _
        refine noPanic_of ?_
        have HB := Lib.hid hH
        clear hH
        go_wp2_with fail
        go_ret
        exact ⟨by rw [HL.out]; rfl, HB.out⟩
      · go_simp
        have CC := Lib.hid (byte_new WW (48 + (x : Int)))
        refine hK.out _ _ (hH.alloc hH.size _) (fun hH => ?_)
        clear hK K
        refine held_two (i := 2) (j := 7) rfl rfl (by kernel_rfl) rfl rfl (fun K hK => ?_) (fun K hK => ?_)
        · go_simp
          refine (IH.out _).mono ?_
          rintro e w6 ⟨rfl, b6⟩
          replace CC := Lib.hid (dec.keeps b6 CC.out)
          refine hK.out _ _ (hH.trans (b6.mono hH.size)) (fun hH => ?_)
          clear hK K b6
          refine held_only (i := 7) rfl (by kernel_rfl) rfl (fun K hK => ?_)
          have cv := one_cv _ _ _ x CC.out rfl (by omega)
          rw [HY.out] at cv
          go_simp
          refine hK.out _ _ hH (fun hH => ?_)
          clear hK K cv
          refine held_only (i := 8) rfl (by kernel_rfl) rfl (fun K hK => ?_)
          have ad := A.out
          go_simp
          refine hK.out _ _ hH (fun hH => ?_)
          clear hK K
          refine held_only (i := 9) rfl (by kernel_rfl) rfl (fun K hK => ?_)
          go_simp
          refine hK.out _ _ hH (fun hH => ?_)
          clear hK K
          refine wpAnyH_done (by kernel_rfl) ?_ _
          refine noPanic_of ?_
          have HB := Lib.hid hH
          clear hH
          go_wp2_with fail
          go_ret
          exact ⟨by rw [HL.out]; rfl, HB.out⟩
        · have cv := one_cv _ _ _ x CC.out rfl (by omega)
          rw [HY.out] at cv
          go_simp
          refine hK.out _ _ hH (fun hH => ?_)
          clear hK K cv
          refine held_only (i := 2) rfl (by kernel_rfl) rfl (fun K hK => ?_)
          go_simp
          refine (IH.out _).mono ?_
          rintro e w6 ⟨rfl, b6⟩

          refine hK.out _ _ (hH.trans (b6.mono hH.size)) (fun hH => ?_)
          clear hK K b6
          refine held_only (i := 8) rfl (by kernel_rfl) rfl (fun K hK => ?_)
          have ad := A.out
          go_simp
          refine hK.out _ _ hH (fun hH => ?_)
          clear hK K
          refine held_only (i := 9) rfl (by kernel_rfl) rfl (fun K hK => ?_)
          go_simp
          refine hK.out _ _ hH (fun hH => ?_)
          clear hK K
          refine wpAnyH_done (by kernel_rfl) ?_ _
          refine noPanic_of ?_
          have HB := Lib.hid hH
          clear hH
          go_wp2_with fail
          go_ret
          exact ⟨by rw [HL.out]; rfl, HB.out⟩
set_option maxRecDepth 100000 in
set_option maxHeartbeats 4000000 in
theorem dgs_neg (u : Nat) : 1 ≤ u → u ≤ 9223372036854775808 → ∀ (n : Int), n = -(u : Int) → ∀ w, Calls Tryz.prog 231 #[.int .i64 n] w fun e w' => e = .returned (.string ⟨(45 :: Lib.decDigits u).toArray⟩) ∧ Below w.heap.size w w' := by
  induction u using Nat.strongRecOn with
  | _ u ih =>
    intro h1 hu n hn w
    have q2 : decide (n < 10) = true := decide_eq_true (by omega)
    have q3 : decide (n < 0) = true := decide_eq_true (by omega)
    by_cases h9 : u < 10
    · have q1 : decide (-10 < n) = true := decide_eq_true (by omega)
      have hm : IntKind.i64.wrap (48 - n) = 48 + (u : Int) := by rw [IntWalk.i64_left]; unfold wrap64; omega
      have hm2 : wrap64 (48 - n) = 48 + (u : Int) := by unfold wrap64; omega
      have hm3 : 48 - n = 48 + (u : Int) := by omega
      have hw : IntKind.u8.wrap (48 + (u : Int)) = 48 + (u : Int) := by rw [IntKind.wrap_u8]; omega
      have cv := one_cv _ _ _ u (byte_new w (48 + (u : Int))) rfl h9
      have HL := dd_small h9
      obtain ⟨y, hy⟩ : ∃ y, UInt8.ofNat (48 + u) = y := ⟨_, rfl⟩
      rw [hy] at HL cv
      have A := add_str [45] [y] (by simp) (by simp)
      replace HL := Lib.hid HL
      clear ih hy hn
      go_enter Tryz.func231, Tryz.ntmps231
      go_wp2_with fail
      go_ret
      exact ⟨by rw [HL.out]; rfl, balloc (b0 w) _⟩
    · have q1 : decide (-10 < n) = false := decide_eq_false (by omega)
      obtain ⟨m, hm⟩ : ∃ m, m = -((u / 10 : Nat) : Int) := ⟨_, rfl⟩
      have IH := Lib.hid (ih (u / 10) (by omega) (by omega) (by omega) m hm)
      have HL := dd_big h9
      have A := add_str (45 :: Lib.decDigits (u / 10)) [UInt8.ofNat (48 + u % 10)] (by have := dd_len (u := u / 10) (by omega); simp; omega) (by simp)
      obtain ⟨x, hx⟩ : ∃ x, u % 10 = x := ⟨_, rfl⟩
      have hx10 : x < 10 := by omega
      obtain ⟨g1, g2⟩ := quo_neg u
      rw [← hn] at g1 g2
      rw [hx] at g1 HL A
      rw [← hm] at g2
      have hw : IntKind.u8.wrap (48 + (x : Int)) = 48 + (x : Int) := by rw [IntKind.wrap_u8]; omega
      have hw1 : IntKind.i64.wrap m = m := by rw [IntWalk.i64_left]; unfold wrap64; omega
      have hw3 : IntKind.i64.wrap (n.tdiv 10) = m := by rw [g2]; exact hw1
      have hw2 : IntKind.i64.wrap (48 + (x : Int)) = 48 + (x : Int) := by rw [IntWalk.i64_left]; unfold wrap64; omega
      obtain ⟨y, hy⟩ : ∃ y, UInt8.ofNat (48 + x) = y := ⟨_, rfl⟩
      rw [hy] at HL A
      have HY := Lib.hid hy
      clear hy
      replace HL : Hid (45 :: Lib.decDigits u = 45 :: Lib.decDigits (u / 10) ++ [y]) := by rw [HL]; exact Lib.hid rfl
      replace A := Lib.hid A
      generalize 45 :: Lib.decDigits u = L at *
      generalize 45 :: Lib.decDigits (u / 10) ++ [y] = L2 at *
      generalize 45 :: Lib.decDigits (u / 10) = L3 at *
      clear ih
      obtain ⟨r, hr⟩ : ∃ r, r = -(x : Int) := ⟨_, rfl⟩
      rcases Nat.eq_zero_or_pos x with h0 | h0
      · have g1' : n.tmod 10 = (x : Int) := by rw [g1]; omega
        have q4 : decide ((x : Int) < 0) = false := decide_eq_false (by omega)
        have hwx : IntKind.i64.wrap (x : Int) = (x : Int) := by rw [IntWalk.i64_left]; unfold wrap64; omega
        clear g1 hr hn hm h0 hx
        go_enter Tryz.func231, Tryz.ntmps231
        go_wp2_with fail
        refine wp_region_noPanic ?_
        refine wp_region_held_drew (S := fun w' => Below w.heap.size w w') (by kernel_rfl) (b0 w).drew (fun hH => ?_)
        generalize w.drew = WW at *
        refine held_take (i := 0) (d := 29) (v := ?_) rfl (by kernel_rfl) (by kernel_rfl) (by kernel_rfl) rfl (fun _ _ _ h => h) rfl hH (fun w' hS => ?_) ?_
        rotate_left
        · go_simp; first | done | with_reducible rfl | (rw [hw2]; done) | (rw [hw2]; rfl) | (rw [hw1]; done) | (rw [hw1]; rfl) | (rw [hw3]; done) | (rw [hw3]; rfl) | (simp only [hw1, hw3]; done)
        simp only [List.set_cons_zero, List.set_cons_succ]
        refine held_take (i := 1) (d := 30) (v := .int .i64 m) rfl (by kernel_rfl) (by kernel_rfl) (by kernel_rfl) rfl (fun _ _ _ h => h) rfl hH (fun w' hS => ?_) ?_
        · go_simp; first | done | with_reducible rfl | (rw [hw2]; done) | (rw [hw2]; rfl) | (rw [hw1]; done) | (rw [hw1]; rfl) | (rw [hw3]; done) | (rw [hw3]; rfl) | (simp only [hw1, hw3]; done)
        simp only [List.set_cons_zero, List.set_cons_succ]
        refine held_take (i := 3) (d := 32) (v := ?_) rfl (by kernel_rfl) (by kernel_rfl) (by kernel_rfl) rfl (fun _ _ _ h => h) rfl hH (fun w' hS => ?_) ?_
        rotate_left
        · go_simp; first | done | with_reducible rfl | (rw [hw2]; done) | (rw [hw2]; rfl) | (rw [hw1]; done) | (rw [hw1]; rfl) | (rw [hw3]; done) | (rw [hw3]; rfl) | (simp only [hw1, hw3]; done)
        simp only [List.set_cons_zero, List.set_cons_succ]
        refine held_take (i := 4) (d := 33) (v := .int .i64 (48 + (x : Int))) rfl (by kernel_rfl) (by kernel_rfl) (by kernel_rfl) rfl (fun _ _ _ h => h) rfl hH (fun w' hS => ?_) ?_
        · go_simp; first | done | with_reducible rfl | (rw [hw2]; done) | (rw [hw2]; rfl) | (rw [hw1]; done) | (rw [hw1]; rfl) | (rw [hw3]; done) | (rw [hw3]; rfl) | (simp only [hw1, hw3]; done)
        simp only [List.set_cons_zero, List.set_cons_succ]
        refine held_take (i := 5) (d := 34) (v := .int .u8 (48 + (x : Int))) rfl (by kernel_rfl) (by kernel_rfl) (by kernel_rfl) rfl (fun _ _ _ h => h) rfl hH (fun w' hS => ?_) ?_
        · go_simp; first | done | with_reducible rfl | (rw [hw2]; done) | (rw [hw2]; rfl) | (rw [hw1]; done) | (rw [hw1]; rfl) | (rw [hw3]; done) | (rw [hw3]; rfl) | (simp only [hw1, hw3]; done)
        simp only [List.set_cons_zero, List.set_cons_succ]
        refine held_two (i := 2) (j := 6) rfl rfl (by kernel_rfl) rfl rfl (fun K hK => ?_) (fun K hK => ?_)
        · go_simp
          refine (IH.out _).mono ?_
          rintro e w6 ⟨rfl, b6⟩

          refine hK.out _ _ (hH.trans (b6.mono hH.size)) (fun hH => ?_)
          clear hK K b6
          refine held_only (i := 6) rfl (by kernel_rfl) rfl (fun K hK => ?_)
          go_simp
          have CC := Lib.hid (byte_new w6 (48 + (x : Int)))
          refine hK.out _ _ (hH.alloc hH.size _) (fun hH => ?_)
          clear hK K
          refine held_only (i := 7) rfl (by kernel_rfl) rfl (fun K hK => ?_)
          have cv := one_cv _ _ _ x CC.out rfl (by omega)
          rw [HY.out] at cv
          go_simp
          refine hK.out _ _ hH (fun hH => ?_)
          clear hK K cv
          refine held_only (i := 8) rfl (by kernel_rfl) rfl (fun K hK => ?_)
          have ad := A.out
          go_simp
          refine hK.out _ _ hH (fun hH => ?_)
          clear hK K
          refine held_only (i := 9) rfl (by kernel_rfl) rfl (fun K hK => ?_)
          go_simp
          refine hK.out _ _ hH (fun hH => ?_)
          clear hK K
          refine wpAnyH_done (by kernel_rfl) ?_ _
          refine noPanic_of ?_
          have HB := Lib.hid hH
          clear hH
          go_wp2_with fail
          go_ret
          exact ⟨by rw [HL.out]; rfl, HB.out⟩
        · go_simp
          have CC := Lib.hid (byte_new WW (48 + (x : Int)))
          refine hK.out _ _ (hH.alloc hH.size _) (fun hH => ?_)
          clear hK K
          refine held_two (i := 2) (j := 7) rfl rfl (by kernel_rfl) rfl rfl (fun K hK => ?_) (fun K hK => ?_)
          · go_simp
            refine (IH.out _).mono ?_
            rintro e w6 ⟨rfl, b6⟩
            replace CC := Lib.hid (dec.keeps b6 CC.out)
            refine hK.out _ _ (hH.trans (b6.mono hH.size)) (fun hH => ?_)
            clear hK K b6
            refine held_only (i := 7) rfl (by kernel_rfl) rfl (fun K hK => ?_)
            have cv := one_cv _ _ _ x CC.out rfl (by omega)
            rw [HY.out] at cv
            go_simp
            refine hK.out _ _ hH (fun hH => ?_)
            clear hK K cv
            refine held_only (i := 8) rfl (by kernel_rfl) rfl (fun K hK => ?_)
            have ad := A.out
            go_simp
            refine hK.out _ _ hH (fun hH => ?_)
            clear hK K
            refine held_only (i := 9) rfl (by kernel_rfl) rfl (fun K hK => ?_)
            go_simp
            refine hK.out _ _ hH (fun hH => ?_)
            clear hK K
            refine wpAnyH_done (by kernel_rfl) ?_ _
            refine noPanic_of ?_
            have HB := Lib.hid hH
            clear hH
            go_wp2_with fail
            go_ret
            exact ⟨by rw [HL.out]; rfl, HB.out⟩
          · have cv := one_cv _ _ _ x CC.out rfl (by omega)
            rw [HY.out] at cv
            go_simp
            refine hK.out _ _ hH (fun hH => ?_)
            clear hK K cv
            refine held_only (i := 2) rfl (by kernel_rfl) rfl (fun K hK => ?_)
            go_simp
            refine (IH.out _).mono ?_
            rintro e w6 ⟨rfl, b6⟩

            refine hK.out _ _ (hH.trans (b6.mono hH.size)) (fun hH => ?_)
            clear hK K b6
            refine held_only (i := 8) rfl (by kernel_rfl) rfl (fun K hK => ?_)
            have ad := A.out
            go_simp
            refine hK.out _ _ hH (fun hH => ?_)
            clear hK K
            refine held_only (i := 9) rfl (by kernel_rfl) rfl (fun K hK => ?_)
            go_simp
            refine hK.out _ _ hH (fun hH => ?_)
            clear hK K
            refine wpAnyH_done (by kernel_rfl) ?_ _
            refine noPanic_of ?_
            have HB := Lib.hid hH
            clear hH
            go_wp2_with fail
            go_ret
            exact ⟨by rw [HL.out]; rfl, HB.out⟩
      · rw [← hr] at g1
        have q4 : decide (r < 0) = true := decide_eq_true (by omega)
        have hwr : IntKind.i64.wrap r = r := by rw [IntWalk.i64_left]; unfold wrap64; omega
        have hwn : IntKind.i64.wrap (-r) = (x : Int) := by rw [IntWalk.i64_left]; unfold wrap64; omega
        have hwn2 : wrap64 (-r) = (x : Int) := by unfold wrap64; omega
        have hwn3 : -r = (x : Int) := by omega
        clear hr hn hm h0 hx
        go_enter Tryz.func231, Tryz.ntmps231
        go_wp2_with fail
        refine wp_region_noPanic ?_
        refine wp_region_held_drew (S := fun w' => Below w.heap.size w w') (by kernel_rfl) (b0 w).drew (fun hH => ?_)
        generalize w.drew = WW at *
        refine held_take (i := 0) (d := 29) (v := ?_) rfl (by kernel_rfl) (by kernel_rfl) (by kernel_rfl) rfl (fun _ _ _ h => h) rfl hH (fun w' hS => ?_) ?_
        rotate_left
        · go_simp; first | done | with_reducible rfl | (rw [hw2]; done) | (rw [hw2]; rfl) | (rw [hw1]; done) | (rw [hw1]; rfl) | (rw [hw3]; done) | (rw [hw3]; rfl) | (simp only [hw1, hw3]; done)
        simp only [List.set_cons_zero, List.set_cons_succ]
        refine held_take (i := 1) (d := 30) (v := .int .i64 m) rfl (by kernel_rfl) (by kernel_rfl) (by kernel_rfl) rfl (fun _ _ _ h => h) rfl hH (fun w' hS => ?_) ?_
        · go_simp; first | done | with_reducible rfl | (rw [hw2]; done) | (rw [hw2]; rfl) | (rw [hw1]; done) | (rw [hw1]; rfl) | (rw [hw3]; done) | (rw [hw3]; rfl) | (simp only [hw1, hw3]; done)
        simp only [List.set_cons_zero, List.set_cons_succ]
        refine held_take (i := 3) (d := 32) (v := ?_) rfl (by kernel_rfl) (by kernel_rfl) (by kernel_rfl) rfl (fun _ _ _ h => h) rfl hH (fun w' hS => ?_) ?_
        rotate_left
        · go_simp; first | done | with_reducible rfl | (rw [hw2]; done) | (rw [hw2]; rfl) | (rw [hw1]; done) | (rw [hw1]; rfl) | (rw [hw3]; done) | (rw [hw3]; rfl) | (simp only [hw1, hw3]; done)
        simp only [List.set_cons_zero, List.set_cons_succ]
        refine held_take (i := 4) (d := 33) (v := .int .i64 (48 + (x : Int))) rfl (by kernel_rfl) (by kernel_rfl) (by kernel_rfl) rfl (fun _ _ _ h => h) rfl hH (fun w' hS => ?_) ?_
        · go_simp; first | done | with_reducible rfl | (rw [hw2]; done) | (rw [hw2]; rfl) | (rw [hw1]; done) | (rw [hw1]; rfl) | (rw [hw3]; done) | (rw [hw3]; rfl) | (simp only [hw1, hw3]; done)
        simp only [List.set_cons_zero, List.set_cons_succ]
        refine held_take (i := 5) (d := 34) (v := .int .u8 (48 + (x : Int))) rfl (by kernel_rfl) (by kernel_rfl) (by kernel_rfl) rfl (fun _ _ _ h => h) rfl hH (fun w' hS => ?_) ?_
        · go_simp; first | done | with_reducible rfl | (rw [hw2]; done) | (rw [hw2]; rfl) | (rw [hw1]; done) | (rw [hw1]; rfl) | (rw [hw3]; done) | (rw [hw3]; rfl) | (simp only [hw1, hw3]; done)
        simp only [List.set_cons_zero, List.set_cons_succ]
        refine held_two (i := 2) (j := 6) rfl rfl (by kernel_rfl) rfl rfl (fun K hK => ?_) (fun K hK => ?_)
        · go_simp
          refine (IH.out _).mono ?_
          rintro e w6 ⟨rfl, b6⟩

          refine hK.out _ _ (hH.trans (b6.mono hH.size)) (fun hH => ?_)
          clear hK K b6
          refine held_only (i := 6) rfl (by kernel_rfl) rfl (fun K hK => ?_)
          go_simp
          have CC := Lib.hid (byte_new w6 (48 + (x : Int)))
          refine hK.out _ _ (hH.alloc hH.size _) (fun hH => ?_)
          clear hK K
          refine held_only (i := 7) rfl (by kernel_rfl) rfl (fun K hK => ?_)
          have cv := one_cv _ _ _ x CC.out rfl (by omega)
          rw [HY.out] at cv
          go_simp
          refine hK.out _ _ hH (fun hH => ?_)
          clear hK K cv
          refine held_only (i := 8) rfl (by kernel_rfl) rfl (fun K hK => ?_)
          have ad := A.out
          go_simp
          refine hK.out _ _ hH (fun hH => ?_)
          clear hK K
          refine held_only (i := 9) rfl (by kernel_rfl) rfl (fun K hK => ?_)
          go_simp
          refine hK.out _ _ hH (fun hH => ?_)
          clear hK K
          refine wpAnyH_done (by kernel_rfl) ?_ _
          refine noPanic_of ?_
          have HB := Lib.hid hH
          clear hH
          go_wp2_with fail
          go_ret
          exact ⟨by rw [HL.out]; rfl, HB.out⟩
        · go_simp
          have CC := Lib.hid (byte_new WW (48 + (x : Int)))
          refine hK.out _ _ (hH.alloc hH.size _) (fun hH => ?_)
          clear hK K
          refine held_two (i := 2) (j := 7) rfl rfl (by kernel_rfl) rfl rfl (fun K hK => ?_) (fun K hK => ?_)
          · go_simp
            refine (IH.out _).mono ?_
            rintro e w6 ⟨rfl, b6⟩
            replace CC := Lib.hid (dec.keeps b6 CC.out)
            refine hK.out _ _ (hH.trans (b6.mono hH.size)) (fun hH => ?_)
            clear hK K b6
            refine held_only (i := 7) rfl (by kernel_rfl) rfl (fun K hK => ?_)
            have cv := one_cv _ _ _ x CC.out rfl (by omega)
            rw [HY.out] at cv
            go_simp
            refine hK.out _ _ hH (fun hH => ?_)
            clear hK K cv
            refine held_only (i := 8) rfl (by kernel_rfl) rfl (fun K hK => ?_)
            have ad := A.out
            go_simp
            refine hK.out _ _ hH (fun hH => ?_)
            clear hK K
            refine held_only (i := 9) rfl (by kernel_rfl) rfl (fun K hK => ?_)
            go_simp
            refine hK.out _ _ hH (fun hH => ?_)
            clear hK K
            refine wpAnyH_done (by kernel_rfl) ?_ _
            refine noPanic_of ?_
            have HB := Lib.hid hH
            clear hH
            go_wp2_with fail
            go_ret
            exact ⟨by rw [HL.out]; rfl, HB.out⟩
          · have cv := one_cv _ _ _ x CC.out rfl (by omega)
            rw [HY.out] at cv
            go_simp
            refine hK.out _ _ hH (fun hH => ?_)
            clear hK K cv
            refine held_only (i := 2) rfl (by kernel_rfl) rfl (fun K hK => ?_)
            go_simp
            refine (IH.out _).mono ?_
            rintro e w6 ⟨rfl, b6⟩

            refine hK.out _ _ (hH.trans (b6.mono hH.size)) (fun hH => ?_)
            clear hK K b6
            refine held_only (i := 8) rfl (by kernel_rfl) rfl (fun K hK => ?_)
            have ad := A.out
            go_simp
            refine hK.out _ _ hH (fun hH => ?_)
            clear hK K
            refine held_only (i := 9) rfl (by kernel_rfl) rfl (fun K hK => ?_)
            go_simp
            refine hK.out _ _ hH (fun hH => ?_)
            clear hK K
            refine wpAnyH_done (by kernel_rfl) ?_ _
            refine noPanic_of ?_
            have HB := Lib.hid hH
            clear hH
            go_wp2_with fail
            go_ret
            exact ⟨by rw [HL.out]; rfl, HB.out⟩
theorem rdig_any (n : Int) (h0 : -9223372036854775808 ≤ n) (h1 : n ≤ 9223372036854775807) (w : World) :
    Calls Tryz.prog 231 #[.int .i64 n] w fun e w' => e = .returned (.string ⟨(Lib.itoa n).toArray⟩) ∧ Below w.heap.size w w' := by
  unfold Lib.itoa
  by_cases h : n < 0
  · rw [if_pos h]
    exact dgs_neg n.natAbs (by omega) (by omega) n (by omega) w
  · rw [if_neg h]
    have := dgs_pos n.toNat (by omega) w
    rwa [show ((n.toNat : Nat) : Int) = n by omega] at this
end Go.Proofs.YtbahfelnbofjjaaGreatDoor.un
namespace Go.Proofs.YtbahfelnbofjjaaGreatDoor.un
open Go.RowKit dec

theorem infoU : (Tryz.prog.info? 5).map (fun i => (i.zero, i.size, i.bytes)) = some (some (.int .u8 0), 1, 1) := by kernel_rfl
def bv (l : List UInt8) : List Value := l.map fun c => Value.int .u8 (c.toNat : Int)
theorem bv_append (l r : List UInt8) : bv (l ++ r) = bv l ++ bv r := by unfold bv; rw [List.map_append]
theorem strCells_bv (s : ByteArray) : Lib.strCells s = bv s.data.toList := by
  unfold Lib.strCells bv
  simp
/-- Bytes that the call made. -/
def OB (w : World) (base : Nat) (v : Value) (l : List UInt8) : Prop := w.ownsRow base 5 1 v l.length (bv l)
theorem OB.nil (w : World) (base : Nat) : OB w base (.slice none 0 0) [] := World.ownsRow_nil _ _ _ _
theorem OB.keeps {w w1 : World} {base : Nat} {v : Value} {l : List UInt8} (h : OB w base v l) (hb : Below w.heap.size w w1) : OB w1 base v l := by
  obtain ⟨h1, h2⟩ := h
  refine ⟨h1, ?_⟩
  rcases h2 with h0 | ⟨g, cap, cur, e, hbg, hh, r⟩
  · exact .inl h0
  · refine .inr ⟨g, cap, cur, e, hbg, ?_, r⟩
    have : g < w.heap.size := by
      rcases Nat.lt_or_ge g w.heap.size with h' | h'
      · exact h'
      · rw [Array.getElem?_eq_none h'] at hh; cases hh
    rw [hb.block _ this]
    exact hh
theorem wpList_pushB (w : World) {ops : Array Oper} {rest : List Oper} {o : Oper} {a : Act} {Q : Exit → Act → World → Prop} (hgd : o.guard = none) (s x : Operand)
    (ho : o.op = .call { callee := .builtin .append, args := #[s, x], argTypes := #[56, 56] })
    (base : Nat) (v : Value) (l : List UInt8) (hs : a.eval s = v) (hown : OB w base v l) (b : Nat) (t : UInt8) (hx : a.eval x = .slice (some ⟨b, 0, none⟩) 1 1) (hB : w.cell? ⟨b, 0, none⟩ = some (.int .u8 (t.toNat : Int)))
    (hn : l.length < 140737488355328) (hbase : base ≤ w.heap.size)
    (h : ∀ v' w', OB w' base v' (l ++ [t]) → Below base w w' → wpList Tryz.prog ops Q rest (a.put o.dst v') w') : wpList Tryz.prog ops Q (o :: rest) a w := by
  refine wpList_plain hgd fun _ hK => ?_
  obtain ⟨i, hi, hz0, hz1, hz2⟩ := info_parts infoU
  refine wp_append_own w s x 56 ho base 5 i (.int .u8 0) 1 1 Tryz.underlying56 hi hz0 hz1 hz2 rfl (by decide) v l.length (bv l) hs hown ⟨b, 0, none⟩ 1 1 [.int .u8 (t.toNat : Int)] hx rfl ?_ (fun u hu => by simp at hu; subst hu; rfl)
    (by unfold maxLen; omega) (by omega) hbase fun v' w' h1 h2 _ => hK _ _ (h v' w' (by unfold OB; rw [bv_append, List.length_append]; exact h1) ((Below.refl base w).grown h2 hbase fun k hk => (hown.lt k hk).1))
  intro j u hu
  match j, hu with
  | 0, hu => simp at hu; subst hu; exact hB
  | j + 1, hu => simp at hu
theorem wpList_catB (w : World) {ops : Array Oper} {rest : List Oper} {o : Oper} {a : Act} {Q : Exit → Act → World → Prop} (hgd : o.guard = none) (s x : Operand)
    (ho : o.op = .call { callee := .builtin .append, args := #[s, x], argTypes := #[56, 9] })
    (base : Nat) (v : Value) (l : List UInt8) (hs : a.eval s = v) (hown : OB w base v l) (t : ByteArray) (hx : a.eval x = .string t)
    (hn : l.length + t.size ≤ 140737488355328) (hbase : base ≤ w.heap.size)
    (h : ∀ v' w', OB w' base v' (l ++ t.data.toList) → Below base w w' → wpList Tryz.prog ops Q rest (a.put o.dst v') w') : wpList Tryz.prog ops Q (o :: rest) a w := by
  obtain ⟨i, hi, hz0, hz1, hz2⟩ := info_parts infoU
  refine Lib.wpList_append_own_string w hgd s x 56 9 ho base 5 i Tryz.underlying56 Tryz.underlying9 hi hz0 hz1 hz2 v l.length (bv l) hs hown t hx (by unfold maxLen; omega) hn hbase fun v' w' h1 h2 _ => h v' w' ?_ ((Below.refl base w).grown h2 hbase fun k hk => (hown.lt k hk).1)
  unfold OB
  rw [bv_append, List.length_append, ← strCells_bv]
  rw [show t.data.toList.length = t.size from by rw [Array.length_toList]; rfl]
  exact h1
theorem is_appB {w : World} {ops : Array Oper} {rest : List Oper} {o : Oper} {a : Act} {Q : Exit → Act → World → Prop} (s x : Operand) (_ : o.op = .call { callee := .builtin .append, args := #[s, x], argTypes := #[56, 56] })
    (k : wpList Tryz.prog ops Q (o :: rest) a w) : wpList Tryz.prog ops Q (o :: rest) a w := k
theorem is_appT {w : World} {ops : Array Oper} {rest : List Oper} {o : Oper} {a : Act} {Q : Exit → Act → World → Prop} (s x : Operand) (_ : o.op = .call { callee := .builtin .append, args := #[s, x], argTypes := #[56, 9] })
    (k : wpList Tryz.prog ops Q (o :: rest) a w) : wpList Tryz.prog ops Q (o :: rest) a w := k
/-- string(b). -/
theorem OB.str {w : World} {base : Nat} {v : Value} {l : List UInt8} (h : OB w base v l) : (convert 56 9 v).run Tryz.prog w = .ok (.string ⟨l.toArray⟩) w := by
  obtain ⟨h1, h2⟩ := id h
  rcases h2 with ⟨rfl, h0⟩ | ⟨g, cap, cur, rfl, hbg, hh, hc, hm, hs, ht⟩
  · have hz : l = [] := List.eq_nil_of_length_eq_zero h0
    subst hz
    exact run_convert_bytes_nil (P := Tryz.prog) (w := w) 56 5 Tryz.underlying56 Tryz.underlying5 0 0 _ Tryz.underlying9
  · rw [run_convert_bytes_arg w 56 5 Tryz.underlying56 Tryz.underlying5 g 0 l.length cap (l.map fun c => (c.toNat : Int)) (by rw [List.length_map]) ?_ _ Tryz.underlying9]
    · congr 2
      unfold strOfNums
      rw [List.map_map]
      congr 2
      refine (List.map_congr_left fun c _ => ?_).trans (List.map_id l)
      simp
    · intro i hi
      rw [Nat.zero_add, World.ownsRow.cellAt h i (by simpa using hi)]
      unfold bv
      rw [List.getElem?_map, List.getElem?_eq_getElem hi, List.getD_eq_getElem?_getD, List.getElem?_map, List.getElem?_eq_getElem hi]
      rfl
theorem join_snoc (x : List UInt8) : ∀ l : List (List UInt8), Lib.join (l ++ [x]) [42] = if l = [] then x else Lib.join l [42] ++ 42 :: x
  | [] => by rw [if_pos rfl, List.nil_append, Lib.join_one]
  | y :: l => by
    rw [if_neg (by simp), List.cons_append, Lib.join_cons, Lib.join_cons]
    unfold Lib.joinTail
    simp
end Go.Proofs.YtbahfelnbofjjaaGreatDoor.un
namespace Go.Proofs.YtbahfelnbofjjaaGreatDoor.un
open Go.RowKit dec

theorem less_dn2 {n d : Nat} (h : d < n) : n - (intOf (Value.int .i64 ((d : Int) + 1))).toNat < n - (intOf (Value.int .i64 (d : Int))).toNat := by
  show n - (((d : Int) + 1)).toNat < n - ((d : Nat) : Int).toNat
  omega
theorem fT_next {l : List Fa} {j : Nat} (h : j < l.length) : fT (l.take (j + 1)) = if j = 0 then f1 (gt l j) else fT (l.take j) ++ 42 :: f1 (gt l j) := by
  unfold fT
  rw [take_gt h, List.map_append, List.map_singleton, join_snoc]
  by_cases h0 : j = 0
  · subst h0
    simp
  · rw [if_neg h0, if_neg]
    intro e
    have hl := congrArg List.length e
    rw [List.length_map, List.length_take, List.length_nil] at hl
    omega
theorem str_len (s : ByteArray) : s.data.toList.length = s.size := by rw [Array.length_toList]; rfl
set_option maxRecDepth 100000 in
set_option maxHeartbeats 4000000 in
theorem rformat_any (a : Option Addr) (n cap : Nat) (l : List Fa) (w : World) (hS : Sl w a n cap l) (hx : ∀ x ∈ l, -9223372036854775808 ≤ x.2 ∧ x.2 ≤ 9223372036854775807) (ht : ∀ j, (fT (l.take j)).length ≤ 140737488355328) :
    Calls Tryz.prog 164 #[.slice a n cap] w fun e w' => e = .returned (.string ⟨(fT l).toArray⟩) ∧ Below w.heap.size w w' := by
  have S0 := Lib.hid hS
  have X0 := Lib.hid hx
  have T0 := Lib.hid ht
  clear hS hx ht
  go_enter Tryz.func164, Tryz.ntmps164
  go_wp2_with fail
  go_loopw [3, 4] (fun vo vi wr => ∃ j : Nat, vi = .int .i64 (j : Nat) ∧ Hid (j ≤ n) ∧ Hid (OB wr w.heap.size vo (fT (l.take j))) ∧ Hid (Below w.heap.size w wr)) (fun _ vi _ => n - (intOf vi).toNat)
  case atStart => exact ⟨0, rfl, Lib.hid (Nat.zero_le _), Lib.hid (OB.nil _ _), Lib.hid (b0 w)⟩
  case round =>
    obtain ⟨j, rfl, hj, hO, hb⟩ := hrel
    by_cases hc : j < n
    · have hln := Lib.hid (show j < l.length by have := S0.out.hn; omega)
      obtain ⟨bk, off, rfl, hC⟩ := S0.out.hat.resolve_left (by have := hln.out; omega)
      have C0 := Lib.hid (hC j hln.out).1
      have C1 := Lib.hid (hC j hln.out).2
      have q2 : decide ((j : Int) < (n : Int)) = true := decide_eq_true (by omega)
      have q3 : j < n := hc
      have f4 := Lib.hid (next_at (j := j) (by have := S0.out.hcap; have := S0.out.hmax; omega))
      have hnx := fT_next hln.out
      have hxr := X0.out _ (gt_mem hln.out)
      have htl := T0.out (j + 1)
      clear hC
      generalize gt l j = x at C0 C1 hnx hxr
      obtain ⟨nm, y⟩ := x
      simp only at C0 C1 hxr
      have DC := Lib.hid (fun W => rdig_any y hxr.1 hxr.2 W)
      have hsz := str_len nm
      have hit := str_len ⟨(Lib.itoa y).toArray⟩
      clear hxr
      obtain ⟨it, hitq⟩ : ∃ it : ByteArray, it = ⟨(Lib.itoa y).toArray⟩ := ⟨_, rfl⟩
      have hitd : Lib.itoa y = it.data.toList := by rw [hitq]
      rw [← hitq] at DC hit
      rw [show f1 (nm, y) = if y = 1 then nm.data.toList else nm.data.toList ++ 94 :: it.data.toList by unfold f1; rw [hitd]] at hnx
      clear hitq hitd
      obtain ⟨L0, hL0⟩ : ∃ L, fT (l.take j) = L := ⟨_, rfl⟩
      rw [hL0] at hO hnx
      by_cases h0 : j = 0
      · have q6 : decide ((0 : Int) < (j : Int)) = false := decide_eq_false (by omega)
        have q7 : decide (0 < j) = false := decide_eq_false (by omega)
        have hz : L0 = [] := by rw [← hL0, h0]; rfl
        rw [if_pos h0] at hnx
        by_cases h1 : y = 1
        · rw [if_pos h1] at hnx
          have q8 : (y != 1) = false := by rw [bne_eq_false_iff_eq]; exact h1
          have HL := Lib.hid (show fT (l.take (j + 1)) = L0 ++ nm.data.toList by rw [hnx, hz]; rfl)
          have hlen := Lib.hid (show L0.length + nm.size ≤ 140737488355328 by rw [HL.out, List.length_append, hsz] at htl; exact htl)
          clear hnx htl hsz hit hL0 hz h0
          replace h1 := Lib.hid h1
          have c0 := dec.keeps hb.out C0.out
          go_upto_region 8 with (at_builtin; refine is_appT (.tmp 16) (.tmp 21) rfl ?_; refine wpList_catB _ rfl (.tmp 16) (.tmp 21) rfl w.heap.size _ (L0) rfl hO.out nm rfl (by have := hlen.out; (try simp only [List.length_append, List.length_cons, List.length_nil]); omega) hb.out.size ?_; intro v2 z2 o2 e2)
          have B2 := Lib.hid (hb.out.trans e2)
          have O2 := Lib.hid o2
          clear e2 o2
          clear c0
          have c1 := dec.keeps B2.out C1.out
          go_wp2_with fail
          clear c1
          refine ⟨⟨j + 1, by first | exact congrArg (Value.int .i64) f4.out | rfl, Lib.hid hc, Lib.hid (by rw [HL.out]; simpa using O2.out), B2⟩, by first | exact less_at hc f4.out | exact less_dn2 hc⟩
        · rw [if_neg h1] at hnx
          have q8 : (y != 1) = true := by rw [bne_iff_ne]; exact h1
          have HL := Lib.hid (show fT (l.take (j + 1)) = L0 ++ (nm.data.toList ++ 94 :: it.data.toList) by rw [hnx, hz]; rfl)
          have hlen := Lib.hid (show L0.length + nm.data.toList.length + 1 + it.size ≤ 140737488355328 ∧ nm.data.toList.length = nm.size by rw [HL.out] at htl; simp only [List.length_append, List.length_cons, hit] at htl; exact ⟨by omega, hsz⟩)
          clear hnx htl hsz hit hL0 hz h0
          replace h1 := Lib.hid h1
          have c0 := dec.keeps hb.out C0.out
          go_upto_region 8 with (at_builtin; refine is_appT (.tmp 16) (.tmp 21) rfl ?_; refine wpList_catB _ rfl (.tmp 16) (.tmp 21) rfl w.heap.size _ (L0) rfl hO.out nm rfl (by have := hlen.out; (try simp only [List.length_append, List.length_cons, List.length_nil]); omega) hb.out.size ?_; intro v2 z2 o2 e2)
          have B2 := Lib.hid (hb.out.trans e2)
          have O2 := Lib.hid o2
          clear e2 o2
          clear c0
          have c1 := dec.keeps B2.out C1.out
          go_upto_region 10 with (at_builtin; go_loud (refine is_appB (.tmp 29) (.tmp 30) rfl ?_; refine wpList_pushB _ rfl (.tmp 29) (.tmp 30) rfl w.heap.size _ (L0 ++ nm.data.toList) rfl (O2.out.keeps (balloc (b0 z2) _)) z2.heap.size 94 rfl (by simp [go_sem]) (by have := hlen.out; (try simp only [List.length_append, List.length_cons, List.length_nil]); omega) (balloc B2.out _).size ?_; intro v3 z3 o3 e3))
          have B3 := Lib.hid ((balloc B2.out _).trans e3)
          have O3 := Lib.hid o3
          clear e3 o3
          clear c1
          have c1 := dec.keeps B3.out C1.out
          go_wp2_with fail
          refine (DC.out _).mono ?_
          rintro e z5 ⟨rfl, b5⟩
          have O5 := Lib.hid (O3.out.keeps b5)
          have B5 := Lib.hid (bnext B3.out b5)
          clear b5 c1
          go_wp2_with (at_builtin; refine is_appT (.tmp 32) (.tmp 38) rfl ?_; refine wpList_catB _ rfl (.tmp 32) (.tmp 38) rfl w.heap.size _ (L0 ++ nm.data.toList ++ [94]) rfl O5.out it rfl (by have := hlen.out; (try simp only [List.length_append, List.length_cons, List.length_nil]); omega) B5.out.size ?_; intro v6 z6 o6 e6)
          have B6 := Lib.hid (B5.out.trans e6)
          have O6 := Lib.hid o6
          clear e6 o6
          go_wp2_with fail
          refine ⟨⟨j + 1, by first | exact congrArg (Value.int .i64) f4.out | rfl, Lib.hid hc, Lib.hid (by rw [HL.out]; simpa using O6.out), B6⟩, by first | exact less_at hc f4.out | exact less_dn2 hc⟩
      · have q6 : decide ((0 : Int) < (j : Int)) = true := decide_eq_true (by omega)
        have q7 : decide (0 < j) = true := decide_eq_true (by omega)
        rw [if_neg h0] at hnx
        by_cases h1 : y = 1
        · rw [if_pos h1] at hnx
          have q8 : (y != 1) = false := by rw [bne_eq_false_iff_eq]; exact h1
          have HL := Lib.hid hnx
          have hlen := Lib.hid (show L0.length + 1 + nm.size ≤ 140737488355328 by rw [HL.out] at htl; simp only [List.length_append, List.length_cons, hsz] at htl; omega)
          clear hnx htl hsz hit hL0 h0
          replace h1 := Lib.hid h1
          go_upto_region 7 with (at_builtin; go_loud (refine is_appB (.tmp 13) (.tmp 14) rfl ?_; refine wpList_pushB _ rfl (.tmp 13) (.tmp 14) rfl w.heap.size _ (L0) rfl (hO.out.keeps (balloc (b0 wr) _)) wr.heap.size 42 rfl (by simp [go_sem]) (by have := hlen.out; (try simp only [List.length_append, List.length_cons, List.length_nil]); omega) (balloc hb.out _).size ?_; intro v1 z1 o1 e1))
          have B1 := Lib.hid ((balloc hb.out _).trans e1)
          have O1 := Lib.hid o1
          clear e1 o1
          have c0 := dec.keeps B1.out C0.out
          have c1 := dec.keeps B1.out C1.out
          go_upto_region 8 with (at_builtin; refine is_appT (.tmp 16) (.tmp 21) rfl ?_; refine wpList_catB _ rfl (.tmp 16) (.tmp 21) rfl w.heap.size _ (L0 ++ [42]) rfl O1.out nm rfl (by have := hlen.out; (try simp only [List.length_append, List.length_cons, List.length_nil]); omega) B1.out.size ?_; intro v2 z2 o2 e2)
          have B2 := Lib.hid (B1.out.trans e2)
          have O2 := Lib.hid o2
          clear e2 o2
          clear c0
          clear c1
          have c1 := dec.keeps B2.out C1.out
          go_wp2_with fail
          clear c1
          refine ⟨⟨j + 1, by first | exact congrArg (Value.int .i64) f4.out | rfl, Lib.hid hc, Lib.hid (by rw [HL.out]; simpa using O2.out), B2⟩, by first | exact less_at hc f4.out | exact less_dn2 hc⟩
        · rw [if_neg h1] at hnx
          have q8 : (y != 1) = true := by rw [bne_iff_ne]; exact h1
          have HL := Lib.hid hnx
          have hlen := Lib.hid (show L0.length + 1 + nm.data.toList.length + 1 + it.size ≤ 140737488355328 ∧ nm.data.toList.length = nm.size by rw [HL.out] at htl; simp only [List.length_append, List.length_cons, hit] at htl; exact ⟨by omega, hsz⟩)
          clear hnx htl hsz hit hL0 h0
          replace h1 := Lib.hid h1
          go_upto_region 7 with (at_builtin; go_loud (refine is_appB (.tmp 13) (.tmp 14) rfl ?_; refine wpList_pushB _ rfl (.tmp 13) (.tmp 14) rfl w.heap.size _ (L0) rfl (hO.out.keeps (balloc (b0 wr) _)) wr.heap.size 42 rfl (by simp [go_sem]) (by have := hlen.out; (try simp only [List.length_append, List.length_cons, List.length_nil]); omega) (balloc hb.out _).size ?_; intro v1 z1 o1 e1))
          have B1 := Lib.hid ((balloc hb.out _).trans e1)
          have O1 := Lib.hid o1
          clear e1 o1
          have c0 := dec.keeps B1.out C0.out
          have c1 := dec.keeps B1.out C1.out
          go_upto_region 8 with (at_builtin; refine is_appT (.tmp 16) (.tmp 21) rfl ?_; refine wpList_catB _ rfl (.tmp 16) (.tmp 21) rfl w.heap.size _ (L0 ++ [42]) rfl O1.out nm rfl (by have := hlen.out; (try simp only [List.length_append, List.length_cons, List.length_nil]); omega) B1.out.size ?_; intro v2 z2 o2 e2)
          have B2 := Lib.hid (B1.out.trans e2)
          have O2 := Lib.hid o2
          clear e2 o2
          clear c0
          clear c1
          have c1 := dec.keeps B2.out C1.out
          go_upto_region 10 with (at_builtin; go_loud (refine is_appB (.tmp 29) (.tmp 30) rfl ?_; refine wpList_pushB _ rfl (.tmp 29) (.tmp 30) rfl w.heap.size _ (L0 ++ [42] ++ nm.data.toList) rfl (O2.out.keeps (balloc (b0 z2) _)) z2.heap.size 94 rfl (by simp [go_sem]) (by have := hlen.out; (try simp only [List.length_append, List.length_cons, List.length_nil]); omega) (balloc B2.out _).size ?_; intro v3 z3 o3 e3))
          have B3 := Lib.hid ((balloc B2.out _).trans e3)
          have O3 := Lib.hid o3
          clear e3 o3
          clear c1
          have c1 := dec.keeps B3.out C1.out
          go_wp2_with fail
          refine (DC.out _).mono ?_
          rintro e z5 ⟨rfl, b5⟩
          have O5 := Lib.hid (O3.out.keeps b5)
          have B5 := Lib.hid (bnext B3.out b5)
          clear b5 c1
          go_wp2_with (at_builtin; refine is_appT (.tmp 32) (.tmp 38) rfl ?_; refine wpList_catB _ rfl (.tmp 32) (.tmp 38) rfl w.heap.size _ (L0 ++ [42] ++ nm.data.toList ++ [94]) rfl O5.out it rfl (by have := hlen.out; (try simp only [List.length_append, List.length_cons, List.length_nil]); omega) B5.out.size ?_; intro v6 z6 o6 e6)
          have B6 := Lib.hid (B5.out.trans e6)
          have O6 := Lib.hid o6
          clear e6 o6
          go_wp2_with fail
          refine ⟨⟨j + 1, by first | exact congrArg (Value.int .i64) f4.out | rfl, Lib.hid hc, Lib.hid (by rw [HL.out]; simpa using O6.out), B6⟩, by first | exact less_at hc f4.out | exact less_dn2 hc⟩
    · have q2 : decide ((j : Int) < (n : Int)) = false := decide_eq_false (by omega)
      rw [show l.take j = l from List.take_of_length_le (by have := S0.out.hn; omega)] at hO
      have cv := fun W (h : Below wr.heap.size wr W) => (hO.out.keeps h).str
      have cv0 := hO.out.str
      go_wp2_with fail
      go_ret
      exact ⟨rfl, hb.out⟩
end Go.Proofs.YtbahfelnbofjjaaGreatDoor.un
namespace Go.Proofs.YtbahfelnbofjjaaGreatDoor
open Go.RowKit dec

/-- The last i digits of u. -/
def sfd (u : Nat) : Nat → List UInt8
  | 0 => []
  | i + 1 => Lib.dg u i :: sfd u i
theorem sfd_eq (u : Nat) : ∀ i, sfd u i = (List.range i).map fun t => Lib.dg u (i - 1 - t)
  | 0 => rfl
  | i + 1 => by
    rw [sfd, sfd_eq u i, List.range_succ_eq_map, List.map_cons, List.map_map]
    congr 1
    refine List.map_congr_left fun t ht => ?_
    have := List.mem_range.1 ht
    simp only [Function.comp]
    congr 1
    omega
theorem sfd_len (u i : Nat) : (sfd u i).length = i := by rw [sfd_eq]; simp
/-- Where the loop ends, all digits stand there. -/
theorem sfd_all {u i : Nat} (h1 : 1 ≤ i) (h2 : u / 10 ^ i = 0) (h3 : i = 1 ∨ u / 10 ^ (i - 1) ≠ 0) : sfd u i = Lib.decDigits u := by
  have hp : 0 < 10 ^ i := Nat.pow_pos (by decide)
  have hlt : u < 10 ^ i := by
    rcases Nat.div_eq_zero_iff.1 h2 with h | h
    · omega
    · exact h
  have hn : Lib.nDigits u = i := by
    rcases h3 with rfl | h3
    · exact Lib.nDigits_small (by simpa using hlt)
    · obtain ⟨j, rfl⟩ : ∃ j, i = j + 1 := ⟨i - 1, by omega⟩
      rw [Nat.add_sub_cancel] at h3
      have hq : 0 < 10 ^ j := Nat.pow_pos (by decide)
      exact Lib.nDigits_unique j u (by
        rcases Nat.lt_or_ge u (10 ^ j) with h | h
        · exact absurd (Nat.div_eq_of_lt h) h3
        · exact h) hlt
  rw [sfd_eq, Lib.decDigits_eq, hn]
/-- .. with the point in front of the last six. -/
def sfp (u : Nat) : Nat → List UInt8
  | 0 => []
  | i + 1 => if i = 6 then Lib.dg u i :: 46 :: sfp u i else Lib.dg u i :: sfp u i
theorem sfp_low (u : Nat) : ∀ i, i ≤ 6 → sfp u i = sfd u i
  | 0, _ => rfl
  | i + 1, h => by rw [sfp, sfd, if_neg (by omega), sfp_low u i (by omega)]
theorem sfp_high (u : Nat) : ∀ m, sfp u (6 + (m + 1)) = sfd (u / 1000000) (m + 1) ++ 46 :: frac u
  | 0 => by
    rw [show 6 + (0 + 1) = 6 + 1 from rfl, sfp, if_pos rfl, sfp_low u 6 (by omega)]
    show Lib.dg u 6 :: 46 :: frac u = Lib.dg (u / 1000000) 0 :: 46 :: frac u
    congr 1
    unfold Lib.dg
    simp
  | m + 1 => by
    rw [show 6 + (m + 1 + 1) = (6 + (m + 1)) + 1 by omega, sfp, if_neg (by omega), sfp_high u m, sfd, List.cons_append]
    congr 1
    unfold Lib.dg
    rw [Nat.div_div_eq_div_mul, show (1000000 : Nat) = 10 ^ 6 from rfl, ← Nat.pow_add]
theorem sfp_len (u : Nat) : ∀ i, (sfp u i).length ≤ i + 1
  | i => by
    rcases Nat.lt_or_ge i 7 with h | h
    · rw [sfp_low u i (by omega), sfd_len]; omega
    · obtain ⟨m, rfl⟩ : ∃ m, i = 6 + (m + 1) := ⟨i - 7, by omega⟩
      rw [sfp_high, List.length_append, List.length_cons, sfd_len, frac_len]; omega
theorem sfp_all {u i : Nat} (h1 : 7 ≤ i) (h2 : u / 10 ^ i = 0) (h3 : i = 7 ∨ u / 10 ^ (i - 1) ≠ 0) : sfp u i = bod u := by
  obtain ⟨m, rfl⟩ : ∃ m, i = 6 + (m + 1) := ⟨i - 7, by omega⟩
  have hd : ∀ j, u / 10 ^ (6 + j) = u / 1000000 / 10 ^ j := fun j => by rw [Nat.pow_add, ← Nat.div_div_eq_div_mul]
  rw [hd] at h2
  rw [sfp_high, sfd_all (by omega) h2 (by
    rcases h3 with h3 | h3
    · exact .inl (by omega)
    · refine .inr ?_
      rw [show 6 + (m + 1) - 1 = 6 + (m + 1 - 1) by omega, hd] at h3
      exact h3)]
  rfl
theorem one_str (x : Nat) (_hx : x < 10) (w : World) : (convert 56 9 (.slice (some ⟨w.heap.size, 0, none⟩) 1 1)).run Tryz.prog (w.alloc (.cells #[.int .u8 (48 + (x : Int))] 5)) = .ok (.string ⟨[UInt8.ofNat (48 + x)].toArray⟩) (w.alloc (.cells #[.int .u8 (48 + (x : Int))] 5)) := by
  rw [run_convert_bytes_arg _ 56 5 Tryz.underlying56 Tryz.underlying5 w.heap.size 0 1 1 [48 + (x : Int)] rfl ?_ _ Tryz.underlying9]
  · congr 2
  · intro i hi
    obtain rfl : i = 0 := by simpa using hi
    simp
theorem pow_big {i : Nat} (h : 19 ≤ i) : 10000000000000000000 ≤ 10 ^ i := Nat.le_trans (by decide) (Nat.pow_le_pow_right (by decide) h)
/-- How far the loops go. -/
theorem loop_low {u i m : Nat} (hu : u ≤ 1152921504606846976) (h : i ≤ m ∨ u / 10 ^ (i - 1) ≠ 0) (hm : m ≤ 19) : i ≤ 20 := by
  rcases h with h | h
  · omega
  · rcases Nat.lt_or_ge i 20 with h1 | h1
    · omega
    · have := pow_big (i := i - 1) (by omega)
      exact absurd (Nat.div_eq_of_lt (by omega)) h
theorem step_nat (v : Nat) : ((v : Int)).tmod 10 = ((v % 10 : Nat) : Int) ∧ ((v : Int)).tdiv 10 = ((v / 10 : Nat) : Int) := ⟨by rfl, by rfl⟩
theorem step_neg (v : Nat) : (-(v : Int)).tmod 10 = -((v % 10 : Nat) : Int) ∧ (-(v : Int)).tdiv 10 = -((v / 10 : Nat) : Int) := by
  rw [Int.neg_tmod, Int.neg_tdiv]
  exact ⟨by rfl, by rfl⟩
set_option maxRecDepth 100000 in
set_option maxHeartbeats 2000000 in
theorem digits05_pos (u : Nat) (hu : u ≤ 1152921504606846976) (w : World) : Calls Tryz.prog 59 #[.int .i64 ((u : Int))] w fun e w' => e = .returned (.string ⟨(Lib.decDigits u).toArray⟩) ∧ Below w.heap.size w w' := by
  go_enter Tryz.func59, Tryz.ntmps59
  go_wp2_with fail
  go_loopw [3, 4, 5] (fun x y z wr => ∃ i : Nat, x = .string ⟨(sfd u i).toArray⟩ ∧ y = .int .i64 (((u / 10 ^ i : Nat) : Int)) ∧ z = .int .i64 (i : Nat) ∧ (i ≤ 1 ∨ u / 10 ^ (i - 1) ≠ 0) ∧ Below w.heap.size w wr) (fun _ y z _ => 2 * (intOf y).natAbs + (1 - (intOf z).toNat))
  case atStart => exact ⟨0, rfl, by rw [Nat.pow_zero, Nat.div_one], rfl, .inl (by omega), Below.refl _ _⟩
  case round =>
    obtain ⟨i, rfl, rfl, rfl, hi, hb⟩ := hrel
    have hlow := loop_low hu hi (by decide)
    have hsl : (sfd u i).length ≤ 1000 := by rw [sfd_len]; omega
    have hv0 : u / 10 ^ i ≤ 1152921504606846976 := Nat.le_trans (Nat.div_le_self _ _) hu
    by_cases hc : i < 1 ∨ u / 10 ^ i ≠ 0
    · have hnext : u / 10 ^ (i + 1) = u / 10 ^ i / 10 := by rw [Nat.pow_succ, Nat.div_div_eq_div_mul]
      have hprev : i + 1 ≤ 1 ∨ u / 10 ^ (i + 1 - 1) ≠ 0 := by rw [Nat.add_sub_cancel]; omega
      have hdg : Lib.dg u i = UInt8.ofNat (48 + u / 10 ^ i % 10) := rfl
      have hstep : sfd u (i + 1) = Lib.dg u i :: sfd u i := rfl
      rw [hdg] at hstep
      generalize sfd u i = L at *
      generalize hv : u / 10 ^ i = v at *
      obtain ⟨x, hx⟩ : ∃ x, v % 10 = x := ⟨_, rfl⟩
      have hx10 : x < 10 := by rw [← hx]; exact Nat.mod_lt _ (by decide)
      obtain ⟨g1, g2⟩ := step_nat v
      rw [hx] at g1 hstep
      have hw : IntKind.u8.wrap (48 + (x : Int)) = 48 + (x : Int) := by rw [IntKind.wrap_u8]; omega
      have hcv := one_str x hx10 wr
      obtain ⟨y, hy⟩ : ∃ y, UInt8.ofNat (48 + x) = y := ⟨_, rfl⟩
      rw [hy] at hcv hstep
      clear hy
      have HI := Lib.hid hi
      have HP := Lib.hid hprev
      have HN := Lib.hid hnext
      have HV := Lib.hid hv
      have HX := Lib.hid hx10
      have HC := Lib.hid hc
      have HG := Lib.hid hu
      have hlow2 : i ≤ 20 := hlow
      clear hi hprev hnext hv hx hdg hlow hc hu
      have A := add_str [y] L (by simp) (by omega)
      rw [List.singleton_append] at A
      have HL : Hid (sfd u (i + 1) = y :: L) := hstep
      generalize y :: L = L2 at *
      clear hstep
      have hd : decide ((x : Int) < 0) = false := decide_eq_false (by omega)
      have hC := HC.out
      go_wp2_with fail
      all_goals first
        | (refine ⟨⟨i + 1, by rw [HL.out], by rw [HN.out]; exact congrArg (Value.int .i64) (by omega), by rfl, HP.out, balloc hb _⟩, ?_⟩; show 2 * (intOf (.int .i64 (((v / 10 : Nat) : Int)))).natAbs + (1 - (intOf (.int .i64 ((i : Int) + 1))).toNat) < 2 * (intOf (.int .i64 ((v : Int)))).natAbs + (1 - (intOf (.int .i64 ((i : Nat) : Int))).toNat); simp only [intOf]; omega)
        | (exfalso; omega)
        | (exfalso; rename_i hz _; simp at hz; omega)
        | (exfalso; rename_i hz; simp at hz; omega)
        | (exfalso; simp at *; omega)
    · have hz : u / 10 ^ i = 0 := by omega
      have hm : 1 ≤ i := by omega
      have hL : Hid (sfd u i = Lib.decDigits u) := sfd_all hm hz (by omega)
      rw [hz]
      have hd : decide ((i : Int) < 1) = false := decide_eq_false (by omega)
      have hd2 : decide ((u : Int) < 0) = false := decide_eq_false (by omega)
      clear hz hm hc hi hv0 hlow
      go_wp2_with fail
      go_ret
      exact ⟨by rw [← hL.out]; rfl, hb⟩
set_option maxRecDepth 100000 in
set_option maxHeartbeats 2000000 in
theorem digits05_neg (u : Nat) (hu : u ≤ 1152921504606846976) (h0 : 0 < u) (w : World) : Calls Tryz.prog 59 #[.int .i64 (-(u : Int))] w fun e w' => e = .returned (.string ⟨(45 :: Lib.decDigits u).toArray⟩) ∧ Below w.heap.size w w' := by
  go_enter Tryz.func59, Tryz.ntmps59
  go_wp2_with fail
  go_loopw [3, 4, 5] (fun x y z wr => ∃ i : Nat, x = .string ⟨(sfd u i).toArray⟩ ∧ y = .int .i64 (-((u / 10 ^ i : Nat) : Int)) ∧ z = .int .i64 (i : Nat) ∧ (i ≤ 1 ∨ u / 10 ^ (i - 1) ≠ 0) ∧ Below w.heap.size w wr) (fun _ y z _ => 2 * (intOf y).natAbs + (1 - (intOf z).toNat))
  case atStart => exact ⟨0, rfl, by rw [Nat.pow_zero, Nat.div_one], rfl, .inl (by omega), Below.refl _ _⟩
  case round =>
    obtain ⟨i, rfl, rfl, rfl, hi, hb⟩ := hrel
    have hlow := loop_low hu hi (by decide)
    have hsl : (sfd u i).length ≤ 1000 := by rw [sfd_len]; omega
    have hv0 : u / 10 ^ i ≤ 1152921504606846976 := Nat.le_trans (Nat.div_le_self _ _) hu
    by_cases hc : i < 1 ∨ u / 10 ^ i ≠ 0
    · have hnext : u / 10 ^ (i + 1) = u / 10 ^ i / 10 := by rw [Nat.pow_succ, Nat.div_div_eq_div_mul]
      have hprev : i + 1 ≤ 1 ∨ u / 10 ^ (i + 1 - 1) ≠ 0 := by rw [Nat.add_sub_cancel]; omega
      have hdg : Lib.dg u i = UInt8.ofNat (48 + u / 10 ^ i % 10) := rfl
      have hstep : sfd u (i + 1) = Lib.dg u i :: sfd u i := rfl
      rw [hdg] at hstep
      generalize sfd u i = L at *
      generalize hv : u / 10 ^ i = v at *
      obtain ⟨x, hx⟩ : ∃ x, v % 10 = x := ⟨_, rfl⟩
      have hx10 : x < 10 := by rw [← hx]; exact Nat.mod_lt _ (by decide)
      obtain ⟨g1, g2⟩ := step_neg v
      rw [hx] at g1 hstep
      have hw : IntKind.u8.wrap (48 + (x : Int)) = 48 + (x : Int) := by rw [IntKind.wrap_u8]; omega
      have hcv := one_str x hx10 wr
      obtain ⟨y, hy⟩ : ∃ y, UInt8.ofNat (48 + x) = y := ⟨_, rfl⟩
      rw [hy] at hcv hstep
      clear hy
      have HI := Lib.hid hi
      have HP := Lib.hid hprev
      have HN := Lib.hid hnext
      have HV := Lib.hid hv
      have HX := Lib.hid hx10
      have HC := Lib.hid hc
      have HG := Lib.hid hu
      have hlow2 : i ≤ 20 := hlow
      clear hi hprev hnext hv hx hdg hlow hc hu h0
      obtain ⟨r, hr⟩ : ∃ r : Int, r = -(x : Int) := ⟨_, rfl⟩
      rw [← hr] at g1
      have A := add_str [y] L (by simp) (by omega)
      rw [List.singleton_append] at A
      have HL : Hid (sfd u (i + 1) = y :: L) := hstep
      generalize y :: L = L2 at *
      clear hstep
      by_cases hx0 : r < 0
      · have hd : decide (r < 0) = true := decide_eq_true hx0
        have hng : -r = (x : Int) := by omega
        have hrb : -9 ≤ r := by omega
        clear hr hx0
        have hC := HC.out
        go_wp2_with fail
        all_goals first
          | (refine ⟨⟨i + 1, by rw [HL.out], by rw [HN.out]; exact congrArg (Value.int .i64) (by omega), by rfl, HP.out, balloc hb _⟩, ?_⟩; show 2 * (intOf (.int .i64 (-((v / 10 : Nat) : Int)))).natAbs + (1 - (intOf (.int .i64 ((i : Int) + 1))).toNat) < 2 * (intOf (.int .i64 ((-(v : Int))))).natAbs + (1 - (intOf (.int .i64 ((i : Nat) : Int))).toNat); simp only [intOf]; omega)
          | (exfalso; omega)
          | (exfalso; rename_i hz _; simp at hz; omega)
          | (exfalso; rename_i hz; simp at hz; omega)
          | (exfalso; simp at *; omega)
      · obtain rfl : r = (x : Int) := by omega
        have hd : decide ((x : Int) < 0) = false := decide_eq_false (by omega)
        clear hr hx0
        have hC := HC.out
        go_wp2_with fail
        all_goals first
          | (refine ⟨⟨i + 1, by rw [HL.out], by rw [HN.out]; exact congrArg (Value.int .i64) (by omega), by rfl, HP.out, balloc hb _⟩, ?_⟩; show 2 * (intOf (.int .i64 (-((v / 10 : Nat) : Int)))).natAbs + (1 - (intOf (.int .i64 ((i : Int) + 1))).toNat) < 2 * (intOf (.int .i64 ((-(v : Int))))).natAbs + (1 - (intOf (.int .i64 ((i : Nat) : Int))).toNat); simp only [intOf]; omega)
          | (exfalso; omega)
          | (exfalso; rename_i hz _; simp at hz; omega)
          | (exfalso; rename_i hz; simp at hz; omega)
          | (exfalso; simp at *; omega)
    · have hz : u / 10 ^ i = 0 := by omega
      have hm : 1 ≤ i := by omega
      have hL : Hid (sfd u i = Lib.decDigits u) := sfd_all hm hz (by omega)
      rw [hz]
      have hd : decide ((i : Int) < 1) = false := decide_eq_false (by omega)
      have A := add_str [45] (sfd u i) (by decide) (by omega)
      rw [List.singleton_append] at A
      have hd2 : decide (-(u : Int) < 0) = true := decide_eq_true (by omega)
      obtain ⟨L2, hL2⟩ : ∃ L2, (45 :: sfd u i : List UInt8) = L2 := ⟨_, rfl⟩
      rw [hL2] at A
      have HL : Hid (45 :: Lib.decDigits u = L2) := by unfold Hid; rw [← hL.out]; exact hL2
      clear hz hm hc hi hv0 hlow hL2
      go_wp2_with fail
      go_ret
      exact ⟨by rw [HL.out]; rfl, hb⟩
set_option maxRecDepth 100000 in
set_option maxHeartbeats 2000000 in
theorem format02_pos (u : Nat) (hu : u ≤ 1152921504606846976) (w : World) : Calls Tryz.prog 228 #[.int .i64 ((u : Int))] w fun e w' => e = .returned (.string ⟨(bod u).toArray⟩) ∧ Below w.heap.size w w' := by
  go_enter Tryz.func228, Tryz.ntmps228
  go_wp2_with fail
  go_loopw [3, 4, 5] (fun x y z wr => ∃ i : Nat, x = .string ⟨(sfp u i).toArray⟩ ∧ y = .int .i64 (((u / 10 ^ i : Nat) : Int)) ∧ z = .int .i64 (i : Nat) ∧ (i ≤ 7 ∨ u / 10 ^ (i - 1) ≠ 0) ∧ Below w.heap.size w wr) (fun _ y z _ => 2 * (intOf y).natAbs + (7 - (intOf z).toNat))
  case atStart => exact ⟨0, rfl, by rw [Nat.pow_zero, Nat.div_one], rfl, .inl (by omega), Below.refl _ _⟩
  case round =>
    obtain ⟨i, rfl, rfl, rfl, hi, hb⟩ := hrel
    have hlow := loop_low hu hi (by decide)
    have hsl : (sfp u i).length ≤ 1000 := by have := sfp_len u i; omega
    have hv0 : u / 10 ^ i ≤ 1152921504606846976 := Nat.le_trans (Nat.div_le_self _ _) hu
    by_cases hc : i < 7 ∨ u / 10 ^ i ≠ 0
    · have hnext : u / 10 ^ (i + 1) = u / 10 ^ i / 10 := by rw [Nat.pow_succ, Nat.div_div_eq_div_mul]
      have hprev : i + 1 ≤ 7 ∨ u / 10 ^ (i + 1 - 1) ≠ 0 := by rw [Nat.add_sub_cancel]; omega
      have hdg : Lib.dg u i = UInt8.ofNat (48 + u / 10 ^ i % 10) := rfl
      have hstep : sfp u (i + 1) = if i = 6 then Lib.dg u i :: 46 :: sfp u i else Lib.dg u i :: sfp u i := rfl
      rw [hdg] at hstep
      generalize sfp u i = L at *
      generalize hv : u / 10 ^ i = v at *
      obtain ⟨x, hx⟩ : ∃ x, v % 10 = x := ⟨_, rfl⟩
      have hx10 : x < 10 := by rw [← hx]; exact Nat.mod_lt _ (by decide)
      obtain ⟨g1, g2⟩ := step_nat v
      rw [hx] at g1 hstep
      have hw : IntKind.u8.wrap (48 + (x : Int)) = 48 + (x : Int) := by rw [IntKind.wrap_u8]; omega
      have hcv := one_str x hx10 wr
      obtain ⟨y, hy⟩ : ∃ y, UInt8.ofNat (48 + x) = y := ⟨_, rfl⟩
      rw [hy] at hcv hstep
      clear hy
      have HI := Lib.hid hi
      have HP := Lib.hid hprev
      have HN := Lib.hid hnext
      have HV := Lib.hid hv
      have HX := Lib.hid hx10
      have HC := Lib.hid hc
      have HG := Lib.hid hu
      have hlow2 : i ≤ 20 := hlow
      clear hi hprev hnext hv hx hdg hlow hc hu
      by_cases h6 : i = 6
      · subst h6
        rw [if_pos rfl] at hstep
        have A0 := add_str [46] L (by decide) (by omega)
        have A := add_str [y] (46 :: L) (by simp) (by rw [List.length_cons]; omega)
        rw [List.singleton_append] at A0 A
        have HL : Hid (sfp u (6 + 1) = y :: 46 :: L) := hstep
        generalize y :: 46 :: L = L2 at *
        generalize (46 :: L : List UInt8) = L3 at *
        clear hstep
        have hd : decide ((x : Int) < 0) = false := decide_eq_false (by omega)
        have hC := HC.out
        go_wp2_with fail
        all_goals first
          | (refine ⟨⟨7, by rw [HL.out], by rw [HN.out]; exact congrArg (Value.int .i64) (by omega), by rfl, HP.out, balloc hb _⟩, ?_⟩; show 2 * (intOf (.int .i64 (((v / 10 : Nat) : Int)))).natAbs + (7 - (intOf (.int .i64 (7 : Int))).toNat) < 2 * (intOf (.int .i64 ((v : Int)))).natAbs + (7 - (intOf (.int .i64 ((6 : Nat) : Int))).toNat); simp only [intOf]; omega)
          | (exfalso; omega)
          | (exfalso; rename_i hz _; simp at hz; omega)
          | (exfalso; rename_i hz; simp at hz; omega)
          | (exfalso; simp at *; omega)
      · rw [if_neg h6] at hstep
        have A := add_str [y] L (by simp) (by omega)
        rw [List.singleton_append] at A
        have HL : Hid (sfp u (i + 1) = y :: L) := hstep
        generalize y :: L = L2 at *
        have h6' : ((i : Int) == 6) = false := by rw [beq_eq_false_iff_ne]; omega
        clear hstep
        have hd : decide ((x : Int) < 0) = false := decide_eq_false (by omega)
        have hC := HC.out
        go_wp2_with fail
        all_goals first
          | (refine ⟨⟨i + 1, by rw [HL.out], by rw [HN.out]; exact congrArg (Value.int .i64) (by omega), by rfl, HP.out, balloc hb _⟩, ?_⟩; show 2 * (intOf (.int .i64 (((v / 10 : Nat) : Int)))).natAbs + (7 - (intOf (.int .i64 ((i : Int) + 1))).toNat) < 2 * (intOf (.int .i64 ((v : Int)))).natAbs + (7 - (intOf (.int .i64 ((i : Nat) : Int))).toNat); simp only [intOf]; omega)
          | (exfalso; omega)
          | (exfalso; rename_i hz _; simp at hz; omega)
          | (exfalso; rename_i hz; simp at hz; omega)
          | (exfalso; simp at *; omega)
    · have hz : u / 10 ^ i = 0 := by omega
      have hm : 7 ≤ i := by omega
      have hL : Hid (sfp u i = bod u) := sfp_all hm hz (by omega)
      rw [hz]
      have hd : decide ((i : Int) < 7) = false := decide_eq_false (by omega)
      have hd2 : decide ((u : Int) < 0) = false := decide_eq_false (by omega)
      clear hz hm hc hi hv0 hlow
      go_wp2_with fail
      go_ret
      exact ⟨by rw [← hL.out]; rfl, hb⟩
set_option maxRecDepth 100000 in
set_option maxHeartbeats 2000000 in
theorem format02_neg (u : Nat) (hu : u ≤ 1152921504606846976) (h0 : 0 < u) (w : World) : Calls Tryz.prog 228 #[.int .i64 (-(u : Int))] w fun e w' => e = .returned (.string ⟨(45 :: bod u).toArray⟩) ∧ Below w.heap.size w w' := by
  go_enter Tryz.func228, Tryz.ntmps228
  go_wp2_with fail
  go_loopw [3, 4, 5] (fun x y z wr => ∃ i : Nat, x = .string ⟨(sfp u i).toArray⟩ ∧ y = .int .i64 (-((u / 10 ^ i : Nat) : Int)) ∧ z = .int .i64 (i : Nat) ∧ (i ≤ 7 ∨ u / 10 ^ (i - 1) ≠ 0) ∧ Below w.heap.size w wr) (fun _ y z _ => 2 * (intOf y).natAbs + (7 - (intOf z).toNat))
  case atStart => exact ⟨0, rfl, by rw [Nat.pow_zero, Nat.div_one], rfl, .inl (by omega), Below.refl _ _⟩
  case round =>
    obtain ⟨i, rfl, rfl, rfl, hi, hb⟩ := hrel
    have hlow := loop_low hu hi (by decide)
    have hsl : (sfp u i).length ≤ 1000 := by have := sfp_len u i; omega
    have hv0 : u / 10 ^ i ≤ 1152921504606846976 := Nat.le_trans (Nat.div_le_self _ _) hu
    by_cases hc : i < 7 ∨ u / 10 ^ i ≠ 0
    · have hnext : u / 10 ^ (i + 1) = u / 10 ^ i / 10 := by rw [Nat.pow_succ, Nat.div_div_eq_div_mul]
      have hprev : i + 1 ≤ 7 ∨ u / 10 ^ (i + 1 - 1) ≠ 0 := by rw [Nat.add_sub_cancel]; omega
      have hdg : Lib.dg u i = UInt8.ofNat (48 + u / 10 ^ i % 10) := rfl
      have hstep : sfp u (i + 1) = if i = 6 then Lib.dg u i :: 46 :: sfp u i else Lib.dg u i :: sfp u i := rfl
      rw [hdg] at hstep
      generalize sfp u i = L at *
      generalize hv : u / 10 ^ i = v at *
      obtain ⟨x, hx⟩ : ∃ x, v % 10 = x := ⟨_, rfl⟩
      have hx10 : x < 10 := by rw [← hx]; exact Nat.mod_lt _ (by decide)
      obtain ⟨g1, g2⟩ := step_neg v
      rw [hx] at g1 hstep
      have hw : IntKind.u8.wrap (48 + (x : Int)) = 48 + (x : Int) := by rw [IntKind.wrap_u8]; omega
      have hcv := one_str x hx10 wr
      obtain ⟨y, hy⟩ : ∃ y, UInt8.ofNat (48 + x) = y := ⟨_, rfl⟩
      rw [hy] at hcv hstep
      clear hy
      have HI := Lib.hid hi
      have HP := Lib.hid hprev
      have HN := Lib.hid hnext
      have HV := Lib.hid hv
      have HX := Lib.hid hx10
      have HC := Lib.hid hc
      have HG := Lib.hid hu
      have hlow2 : i ≤ 20 := hlow
      clear hi hprev hnext hv hx hdg hlow hc hu h0
      obtain ⟨r, hr⟩ : ∃ r : Int, r = -(x : Int) := ⟨_, rfl⟩
      rw [← hr] at g1
      by_cases h6 : i = 6
      · subst h6
        rw [if_pos rfl] at hstep
        have A0 := add_str [46] L (by decide) (by omega)
        have A := add_str [y] (46 :: L) (by simp) (by rw [List.length_cons]; omega)
        rw [List.singleton_append] at A0 A
        have HL : Hid (sfp u (6 + 1) = y :: 46 :: L) := hstep
        generalize y :: 46 :: L = L2 at *
        generalize (46 :: L : List UInt8) = L3 at *
        clear hstep
        by_cases hx0 : r < 0
        · have hd : decide (r < 0) = true := decide_eq_true hx0
          have hng : -r = (x : Int) := by omega
          have hrb : -9 ≤ r := by omega
          clear hr hx0
          have hC := HC.out
          go_wp2_with fail
          all_goals first
            | (refine ⟨⟨7, by rw [HL.out], by rw [HN.out]; exact congrArg (Value.int .i64) (by omega), by rfl, HP.out, balloc hb _⟩, ?_⟩; show 2 * (intOf (.int .i64 (-((v / 10 : Nat) : Int)))).natAbs + (7 - (intOf (.int .i64 (7 : Int))).toNat) < 2 * (intOf (.int .i64 ((-(v : Int))))).natAbs + (7 - (intOf (.int .i64 ((6 : Nat) : Int))).toNat); simp only [intOf]; omega)
            | (exfalso; omega)
            | (exfalso; rename_i hz _; simp at hz; omega)
            | (exfalso; rename_i hz; simp at hz; omega)
            | (exfalso; simp at *; omega)
        · obtain rfl : r = (x : Int) := by omega
          have hd : decide ((x : Int) < 0) = false := decide_eq_false (by omega)
          clear hr hx0
          have hC := HC.out
          go_wp2_with fail
          all_goals first
            | (refine ⟨⟨7, by rw [HL.out], by rw [HN.out]; exact congrArg (Value.int .i64) (by omega), by rfl, HP.out, balloc hb _⟩, ?_⟩; show 2 * (intOf (.int .i64 (-((v / 10 : Nat) : Int)))).natAbs + (7 - (intOf (.int .i64 (7 : Int))).toNat) < 2 * (intOf (.int .i64 ((-(v : Int))))).natAbs + (7 - (intOf (.int .i64 ((6 : Nat) : Int))).toNat); simp only [intOf]; omega)
            | (exfalso; omega)
            | (exfalso; rename_i hz _; simp at hz; omega)
            | (exfalso; rename_i hz; simp at hz; omega)
            | (exfalso; simp at *; omega)
      · rw [if_neg h6] at hstep
        have A := add_str [y] L (by simp) (by omega)
        rw [List.singleton_append] at A
        have HL : Hid (sfp u (i + 1) = y :: L) := hstep
        generalize y :: L = L2 at *
        have h6' : ((i : Int) == 6) = false := by rw [beq_eq_false_iff_ne]; omega
        clear hstep
        by_cases hx0 : r < 0
        · have hd : decide (r < 0) = true := decide_eq_true hx0
          have hng : -r = (x : Int) := by omega
          have hrb : -9 ≤ r := by omega
          clear hr hx0
          have hC := HC.out
          go_wp2_with fail
          all_goals first
            | (refine ⟨⟨i + 1, by rw [HL.out], by rw [HN.out]; exact congrArg (Value.int .i64) (by omega), by rfl, HP.out, balloc hb _⟩, ?_⟩; show 2 * (intOf (.int .i64 (-((v / 10 : Nat) : Int)))).natAbs + (7 - (intOf (.int .i64 ((i : Int) + 1))).toNat) < 2 * (intOf (.int .i64 ((-(v : Int))))).natAbs + (7 - (intOf (.int .i64 ((i : Nat) : Int))).toNat); simp only [intOf]; omega)
            | (exfalso; omega)
            | (exfalso; rename_i hz _; simp at hz; omega)
            | (exfalso; rename_i hz; simp at hz; omega)
            | (exfalso; simp at *; omega)
        · obtain rfl : r = (x : Int) := by omega
          have hd : decide ((x : Int) < 0) = false := decide_eq_false (by omega)
          clear hr hx0
          have hC := HC.out
          go_wp2_with fail
          all_goals first
            | (refine ⟨⟨i + 1, by rw [HL.out], by rw [HN.out]; exact congrArg (Value.int .i64) (by omega), by rfl, HP.out, balloc hb _⟩, ?_⟩; show 2 * (intOf (.int .i64 (-((v / 10 : Nat) : Int)))).natAbs + (7 - (intOf (.int .i64 ((i : Int) + 1))).toNat) < 2 * (intOf (.int .i64 ((-(v : Int))))).natAbs + (7 - (intOf (.int .i64 ((i : Nat) : Int))).toNat); simp only [intOf]; omega)
            | (exfalso; omega)
            | (exfalso; rename_i hz _; simp at hz; omega)
            | (exfalso; rename_i hz; simp at hz; omega)
            | (exfalso; simp at *; omega)
    · have hz : u / 10 ^ i = 0 := by omega
      have hm : 7 ≤ i := by omega
      have hL : Hid (sfp u i = bod u) := sfp_all hm hz (by omega)
      rw [hz]
      have hd : decide ((i : Int) < 7) = false := decide_eq_false (by omega)
      have A := add_str [45] (sfp u i) (by decide) (by omega)
      rw [List.singleton_append] at A
      have hd2 : decide (-(u : Int) < 0) = true := decide_eq_true (by omega)
      obtain ⟨L2, hL2⟩ : ∃ L2, (45 :: sfp u i : List UInt8) = L2 := ⟨_, rfl⟩
      rw [hL2] at A
      have HL : Hid (45 :: bod u = L2) := by unfold Hid; rw [← hL.out]; exact hL2
      clear hz hm hc hi hv0 hlow hL2
      go_wp2_with fail
      go_ret
      exact ⟨by rw [HL.out]; rfl, hb⟩
end Go.Proofs.YtbahfelnbofjjaaGreatDoor
