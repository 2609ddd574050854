/-
  values.Compare and the reference's Compare.
-/
import Derived.Test.YtnkdclodmeaihaaGreatDoorChk
import Derived.Test.YtnkdclodmeaihaaGreatDoorVaA
import Derived.Test.YtnkdclodmeaihaaGreatDoorDecA
import Derived.Test.YtnkdclodmeaihaaGreatDoorShelf
import Derived.StillTailTactics
import Derived.Deep.QuietTactic
import Derived.BigQuiet
import Derived.Deep.DeepCutAuto
namespace Go.Proofs.YtnkdclodmeaihaaGreatDoor
open Go.RowKit dec

theorem nan_any (s : ByteArray) (w : World) : Calls Tryz.prog 72 #[.string s] w fun e w' => e = .returned (.bool false) ∧ w' = w := by
  go_enter Tryz.func72, Tryz.ntmps72
  go_wp2
  go_ret
  exact ⟨rfl, rfl⟩
theorem cmps_any (a b : ByteArray) (w : World) : Calls Tryz.prog 44 #[.string a, .string b] w fun e w' => e = .returned (.int .i64 (cS a b)) ∧ w' = w := by
  go_enter Tryz.func44, Tryz.ntmps44
  go_wp2_with (go_at_call 72; refine (nan_any _ _).mono ?_; rintro e w' ⟨rfl, rfl⟩)
  all_goals go_ret
  all_goals refine ⟨congrArg (fun n => Ending.returned (Value.int .i64 n)) (Eq.symm ?_), rfl⟩
  all_goals simp_all [cS, cB]
/-- The first that is not 0. -/
def or3 (x y z : Int) : Int := if x = 0 then (if y = 0 then z else y) else x
theorem or_any (g : Nat) (c : Nat) (x y z : Int) (w : World) (h0 : w.cell? ⟨g, 0, none⟩ = some (.int .i64 x)) (h1 : w.cell? ⟨g, 1, none⟩ = some (.int .i64 y)) (h2 : w.cell? ⟨g, 2, none⟩ = some (.int .i64 z)) :
    Calls Tryz.prog 42 #[.slice (some ⟨g, 0, none⟩) 3 c] w fun e w' => e = .returned (.int .i64 (or3 x y z)) ∧ w' = w := by
  go_enter Tryz.func42, Tryz.ntmps42
  go_wp2
  go_loopw [8] (fun v wr => ∃ i : Nat, v = .int .i64 (i : Nat) ∧ i ≤ 3 ∧ (1 ≤ i → Hid (x = 0)) ∧ (2 ≤ i → Hid (y = 0)) ∧ (3 ≤ i → Hid (z = 0)) ∧ wr = w) (fun v _ => 3 - (intOf v).toNat)
  case atStart => exact ⟨0, rfl, by omega, fun h => by omega, fun h => by omega, fun h => by omega, rfl⟩
  case round =>
    obtain ⟨i, rfl, hi, q1, q2, q3, rfl⟩ := hrel
    have Q1 := Lib.hid q1
    have Q2 := Lib.hid q2
    have Q3 := Lib.hid q3
    clear q1 q2 q3
    obtain rfl | rfl | rfl | rfl : i = 0 ∨ i = 1 ∨ i = 2 ∨ i = 3 := by omega
    · go_wp2_with fail
      · rename_i hx
        go_ret
        exact ⟨by unfold or3; rw [if_neg (by simpa using hx)]; rfl, rfl⟩
      · rename_i hx
        exact ⟨⟨1, rfl, by omega, fun _ => Lib.hid (by simpa using hx), fun h => by omega, fun h => by omega, trivial⟩, by show 3 - (1 : Int).toNat < 3 - ((0 : Nat) : Int).toNat; decide⟩
    · have e1 : x = 0 := (Q1.out (by omega)).out
      have E1 := Lib.hid e1
      clear e1
      go_wp2_with fail
      · rename_i hx
        go_ret
        exact ⟨by unfold or3; rw [if_pos E1.out, if_neg (by simpa using hx)]; rfl, rfl⟩
      · rename_i hx
        exact ⟨⟨2, rfl, by omega, fun _ => E1, fun _ => Lib.hid (by simpa using hx), fun h => by omega, trivial⟩, by show 3 - (2 : Int).toNat < 3 - ((1 : Nat) : Int).toNat; decide⟩
    · have e1 : x = 0 := (Q1.out (by omega)).out
      have e2 : y = 0 := (Q2.out (by omega)).out
      have E1 := Lib.hid e1
      have E2 := Lib.hid e2
      clear e1 e2
      go_wp2_with fail
      · rename_i hx
        go_ret
        exact ⟨by unfold or3; rw [if_pos E1.out, if_pos E2.out]; rfl, rfl⟩
      · rename_i hx
        exact ⟨⟨3, rfl, by omega, fun _ => E1, fun _ => E2, fun _ => Lib.hid (by simpa using hx), trivial⟩, by show 3 - (3 : Int).toNat < 3 - ((2 : Nat) : Int).toNat; decide⟩
    · have e1 : x = 0 := (Q1.out (by omega)).out
      have e2 : y = 0 := (Q2.out (by omega)).out
      have e3 : z = 0 := (Q3.out (by omega)).out
      have E1 := Lib.hid e1
      have E2 := Lib.hid e2
      have E3 := Lib.hid e3
      clear e1 e2 e3
      go_wp2_with fail
      go_ret
      exact ⟨by unfold or3; rw [if_pos E1.out, if_pos E2.out, E3.out]; rfl, rfl⟩
theorem or3_cV (a b : Va) : or3 (cI a.k b.k) (cI a.n b.n) (cS a.s b.s) = cV a b := by
  rw [cV_eq]
  rfl
set_option maxRecDepth 100000 in
theorem compare_any (k n : Int) (s : ByteArray) (k2 n2 : Int) (s2 : ByteArray) (w : World) : Calls Tryz.prog 18 #[.agg #[.int .i64 k, .int .i64 n, .string s], .agg #[.int .i64 k2, .int .i64 n2, .string s2]] w fun e w' => e = .returned (.int .i64 (cV ⟨k, n, s⟩ ⟨k2, n2, s2⟩)) ∧ Below w.heap.size w w' := by
  have C1 : ∀ x y w, Calls Tryz.prog 43 #[.int .i64 x, .int .i64 y] w fun e w' => e = .returned (.int .i64 (cI x y)) ∧ w' = w := Tryz.cmp_Compare_int
  have E : Hid (or3 (cI k k2) (cI n n2) (cS s s2) = cV ⟨k, n, s⟩ ⟨k2, n2, s2⟩) := or3_cV ⟨k, n, s⟩ ⟨k2, n2, s2⟩
  have C2 := cmps_any s s2
  go_enter Tryz.func18, Tryz.ntmps18
  go_wp2_with fail
  refine still_tail 15 (by kernel_rfl) (by kernel_rfl) ?_
  simp only [List.take_succ_cons, List.take_zero, List.drop_succ_cons, List.drop_zero]
  iterate 4 still_step
  still_call (C1 k k2 _).mono (by rintro e w' ⟨rfl, rfl⟩; exact ⟨rfl, rfl⟩)
  iterate 4 still_step
  still_call (C1 n n2 _).mono (by rintro e w' ⟨rfl, rfl⟩; exact ⟨rfl, rfl⟩)
  iterate 4 still_step
  still_call (C2 _).mono (by rintro e w' ⟨rfl, rfl⟩; exact ⟨rfl, rfl⟩)
  refine wpStill_nil ?_
  generalize cI k k2 = x at *
  generalize cI n n2 = y at *
  generalize cS s s2 = z at *
  go_wp2_with fail
  refine (or_any _ _ x y z _ ?_ ?_ ?_).mono ?_
  · simp [go_sem]
  · simp [go_sem]
  · simp [go_sem]
  rintro e w' ⟨rfl, rfl⟩
  go_wp2_with fail
  go_ret
  exact ⟨by rw [← E.out]; rfl, ((balloc (balloc (b0 w) _) _).drew.alloc (by simp; omega) _)⟩
end Go.Proofs.YtnkdclodmeaihaaGreatDoor
