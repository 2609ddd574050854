/-
  The specification's below, size, minus and twice.
-/
import Derived.Test.YtcndlcogainnkaaGreatDoorRefRest
import Derived.Deep.AppendLies
namespace Go.Proofs.YtcndlcogainnkaaGreatDoor.dec
open Go.RowKit

theorem Row.drewN {w : World} {g : Nat} {f : Nat → Int} (h : Row w g f) (n : Nat) : Row (w.drewN n) g f := ⟨h.cell, h.free, h.lt⟩
theorem val_eq {f : Nat → Int} {a : Int} (h : Dg f a) (h0 : 0 ≤ a) (h1 : a < 340282366920938463463374607431768211456) : val f = a := by
  have l := eight h.lo; have u := eight h.hi; have v := h.val; unfold val at *; omega
/-- The first digit from above that differs decides. -/
theorem below_at {f g : Nat → Int} {x y : Int} (hf : Dg f x) (hg : Dg g y) (x0 : 0 ≤ x) (x1 : x < 340282366920938463463374607431768211456) (y0 : 0 ≤ y) (y1 : y < 340282366920938463463374607431768211456)
    (m : Nat) (hm : m < 8) (he : ∀ j, m < j → j < 8 → f j = g j) (hne : f m ≠ g m) : x < y ↔ f m < g m := by
  have ex := val_eq hf x0 x1
  have ey := val_eq hg y0 y1
  have l := eight hf.lo; have u := eight hf.hi
  have l' := eight hg.lo; have u' := eight hg.hi
  have h1 := he 1; have h2 := he 2; have h3 := he 3; have h4 := he 4; have h5 := he 5; have h6 := he 6; have h7 := he 7
  unfold val at ex ey
  have h8 : m = 0 ∨ m = 1 ∨ m = 2 ∨ m = 3 ∨ m = 4 ∨ m = 5 ∨ m = 6 ∨ m = 7 := by omega
  clear he
  rcases h8 with rfl | rfl | rfl | rfl | rfl | rfl | rfl | rfl <;> omega
theorem below_none {f g : Nat → Int} {x y : Int} (hf : Dg f x) (hg : Dg g y) (x0 : 0 ≤ x) (x1 : x < 340282366920938463463374607431768211456) (y0 : 0 ≤ y) (y1 : y < 340282366920938463463374607431768211456)
    (he : ∀ j, 0 ≤ j → j < 8 → f j = g j) : ¬ x < y := by
  have ex := val_eq hf x0 x1
  have ey := val_eq hg y0 y1
  have e := eight (fun j hj => he j (by omega) hj)
  unfold val at ex ey
  omega

set_option maxRecDepth 100000 in
set_option maxHeartbeats 2000000 in
theorem below_any {ga gb ca cb : Nat} {f g : Nat → Int} {x y : Int} (w : World) (hA : Row w ga f) (hB : Row w gb g) (hf : Dg f x) (hg : Dg g y)
    (x0 : 0 ≤ x) (x1 : x < 340282366920938463463374607431768211456) (y0 : 0 ≤ y) (y1 : y < 340282366920938463463374607431768211456) :
    Calls Tryz.prog 77 #[.slice (some ⟨ga, 0, none⟩) 8 ca, .slice (some ⟨gb, 0, none⟩) 8 cb] w fun e w' => e = .returned (.bool (decide (x < y))) ∧ Below w.heap.size w w' := by
  have NO := Lib.hid (fun h => below_none hf hg x0 x1 y0 y1 h)
  have AT := Lib.hid (fun m hm he hne => below_at hf hg x0 x1 y0 y1 m hm he hne)
  clear hf hg x0 x1 y0 y1
  go_enter Tryz.func77, Tryz.ntmps77
  go_wp2_with fail
  go_loopw [5] (fun i wr => ∃ (k : Nat) (z : Int), k ≤ 8 ∧ z = (k : Int) - 1 ∧ i = .int .i64 z ∧ (∀ j, k ≤ j → j < 8 → f j = g j) ∧ Row wr ga f ∧ Row wr gb g ∧ Below w.heap.size w wr) (fun i _ => (intOf i + 1).toNat)
  case atStart => exact ⟨8, 7, by omega, rfl, rfl, fun j h1 h2 => by omega, hA, hB, b0 w⟩
  case round =>
    clear hA hB
    obtain ⟨k, z, hk, hz, rfl, he, hA, hB, k1⟩ := hrel
    have HE := Lib.hid he
    clear he
    cases k with
    | zero =>
      obtain rfl : z = -1 := by omega
      have e : decide (x < y) = false := by simpa using NO.out HE.out
      clear hz
      go_wp2
      go_ret
      exact ⟨by rw [e]; rfl, k1⟩
    | succ m =>
      obtain rfl : z = (m : Int) := by omega
      clear hz
      have a0 := hA.cell m (by omega)
      have c0 := hB.cell m (by omega)
      by_cases hd : f m = g m
      · have e1 : (f m == g m) = true := by rw [hd]; simp
        have e2 : (f m != g m) = false := by rw [hd]; simp
        have HD := Lib.hid hd
        clear hd
        go_wp2_with fail
        go_quiet (fail)
        go_wp2
        have he : ∀ j, m ≤ j → j < 8 → f j = g j := fun j h1 h2 => by
          by_cases e : j = m
          · rw [e]; exact HD.out
          · exact HE.out j (by omega) h2
        exact ⟨⟨m, (m : Int) - 1, by omega, rfl, rfl, he, hA.drewN _, hB.drewN _, below_drewN' k1 _⟩, by simp [intOf]⟩
      · have e1 : (f m == g m) = false := by simpa using hd
        have e2 : (f m != g m) = true := by simpa using hd
        have e3 := AT.out m (by omega) (fun j h1 h2 => HE.out j (by omega) h2) hd
        have E3 : Hid (decide (x < y) = decide (f m < g m)) := by unfold Hid; simp only [e3]
        clear e3 hd
        go_wp2_with fail
        go_quiet (fail)
        go_wp2_with fail
        go_quiet (fail)
        go_wp2
        go_ret
        exact ⟨by rw [E3.out]; rfl, below_drewN' (below_drewN' k1 _) _⟩

set_option maxRecDepth 100000 in
set_option maxHeartbeats 2000000 in
theorem refSize_any {a : Int} (ia : In a) (w : World) :
    Calls Tryz.prog 75 #[.agg #[.int .i64 (hi a), .int .u64 (lo a)]] w fun e w' => ∃ g c f, e = .returned (.slice (some ⟨g, 0, none⟩) 8 c) ∧ Row w' g f ∧ Dg f (ab a) ∧ Below w.heap.size w w' := by
  have A := Box.new w a
  have k0 := balloc (b0 w) (.cells #[.int .i64 (hi a), .int .u64 (lo a)] 45)
  by_cases h : a < 0
  · have hh : hi a < 0 := (hi_neg ia).2 h
    rw [ab_neg h]
    have D := dgs_dg (-a)
    have cD := fun w => digits_any (x := W (-a)) rfl w
    generalize (fun j => (dgs (-a)).getD j 0) = f at D cD
    have CD := Lib.hid cD
    clear cD
    go_enter Tryz.func75, Tryz.ntmps75
    go_wp2_with fail
    refine (refNeg_u a _).mono ?_
    rintro e w1 ⟨rfl, hb⟩
    have k1 := bnext k0 hb
    clear hb
    go_wp2_with fail
    refine (CD.out _).mono ?_
    rintro e w2 ⟨g, c, rfl, _, _, R, hb⟩
    have k2 := bnext k1 hb
    clear hb
    go_wp2
    go_ret
    exact ⟨g, c, f, rfl, R, D, k2⟩
  · have hh : 0 ≤ hi a := by have := hi_neg ia; omega
    rw [ab_pos (by omega)]
    have D := dgs_dg a
    have cD := fun w => digits_any (x := W a) rfl w
    generalize (fun j => (dgs a).getD j 0) = f at D cD
    have CD := Lib.hid cD
    clear cD
    go_enter Tryz.func75, Tryz.ntmps75
    go_wp2_with fail
    refine (CD.out _).mono ?_
    rintro e w2 ⟨g, c, rfl, _, _, R, hb⟩
    have k2 := bnext k0 hb
    clear hb
    go_wp2
    go_ret
    exact ⟨g, c, f, rfl, R, D, k2⟩
end Go.Proofs.YtcndlcogainnkaaGreatDoor.dec
