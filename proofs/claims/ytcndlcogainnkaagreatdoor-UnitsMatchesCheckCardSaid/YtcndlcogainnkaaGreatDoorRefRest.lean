/-
  The specification's Of, Neg and Compare.
-/
import Derived.Test.YtcndlcogainnkaaGreatDoorRefSums
namespace Go.Proofs.YtcndlcogainnkaaGreatDoor.dec
open Go.RowKit

theorem refOf_any (n : Int) (w : World) (h1 : -9223372036854775808 ≤ n) (h2 : n ≤ 9223372036854775807) :
    Calls Tryz.prog 56 #[.int .i64 n] w fun e w' => e = .returned (.agg #[.int .i64 (hi n), .int .u64 (lo n)]) ∧ Below w.heap.size w w' := by
  have e1 : Hid (n / 9223372036854775808 = hi n) := of_hi n h1 h2
  have e2 : Hid (IntKind.u64.wrap n = lo n) := of_lo n
  by_cases h : n < 0
  · have e3 : n / 9223372036854775808 = -1 := by omega
    rw [e3] at e1
    go_enter Tryz.func56, Tryz.ntmps56
    go_wp2
    rw [e2.out, ← e1.out]
    simp [bodyPost, results, Tryz.results56, go_sem]
    exact balloc (b0 w) _
  · have e3 : n / 9223372036854775808 = 0 := by omega
    rw [e3] at e1
    rw [IntKind.wrap_u64, Int.emod_eq_of_lt (by omega) (by omega)] at e2
    go_enter Tryz.func56, Tryz.ntmps56
    go_wp2
    rw [← e2.out, ← e1.out]
    simp [bodyPost, results, Tryz.results56, go_sem]
    exact balloc (b0 w) _

theorem refAdd_u (a b : Int) (w : World) :
    Calls Tryz.prog 57 #[.agg #[.int .i64 (hi a), .int .u64 (lo a)], .agg #[.int .i64 (hi b), .int .u64 (lo b)]] w fun e w' => e = .returned (.agg #[.int .i64 (hi (a + b)), .int .u64 (lo (a + b))]) ∧ Below w.heap.size w w' := refAdd_any rfl rfl w
theorem refSub_u (a b : Int) (w : World) :
    Calls Tryz.prog 116 #[.agg #[.int .i64 (hi a), .int .u64 (lo a)], .agg #[.int .i64 (hi b), .int .u64 (lo b)]] w fun e w' => e = .returned (.agg #[.int .i64 (hi (a - b)), .int .u64 (lo (a - b))]) ∧ Below w.heap.size w w' := refSub_any rfl rfl w

theorem StA.put' {w w5 : World} {a : Int} (h : StA w w5 w.heap.size a) (u v : Value) : StA w ((w5.setCell ⟨w.heap.size + 1, 0, none⟩ u).setCell ⟨w.heap.size + 1, 1, none⟩ v) w.heap.size a :=
  ⟨h.1.off (by omega) u v, store2 h.2 (by omega) u v⟩
set_option maxRecDepth 100000 in
set_option maxHeartbeats 2000000 in
theorem refNeg_u (a : Int) (w : World) :
    Calls Tryz.prog 97 #[.agg #[.int .i64 (hi a), .int .u64 (lo a)]] w fun e w' => e = .returned (.agg #[.int .i64 (hi (-a)), .int .u64 (lo (-a))]) ∧ Below w.heap.size w w' := by
  have A := (Box.new w a).past (.cells #[.int .i64 0, .int .u64 0] 45)
  have N := Fresh.new (w.alloc (.cells #[.int .i64 (hi a), .int .u64 (lo a)] 45))
  have k1 := balloc (balloc (b0 w) (.cells #[.int .i64 (hi a), .int .u64 (lo a)] 45)) (.cells #[.int .i64 0, .int .u64 0] 45)
  simp only [World.size_alloc] at N
  go_enter Tryz.func97, Tryz.ntmps97
  go_wp2_with fail
  generalize (w.alloc (.cells #[.int .i64 (hi a), .int .u64 (lo a)] 45)).alloc (.cells #[.int .i64 0, .int .u64 0] 45) = w1 at *
  have SS0 : StA w w1 w.heap.size a := ⟨A, k1⟩
  have SS : StA w w1.drew w.heap.size a := ⟨A, k1.drew⟩
  have NN : Fresh w1.drew (w.heap.size + 1) := N
  go_region_held3 (fun w' => w'.cell? ⟨w.heap.size, 0, none⟩ = some (.int .i64 (hi a)) ∧ w'.cell? ⟨w.heap.size, 1, none⟩ = some (.int .u64 (lo a)) ∧ Go.RowKit.Below w.heap.size w w') ((first | exact StA.out (by assumption) | exact StA.out (StA.put' (by assumption) _ _))) ((first | (go_at_call 56; refine (refOf_any 0 _ (by decide) (by decide)).mono ?_; rintro e w3 ⟨rfl, hb⟩; have SS3 := StA.next (by assumption) hb; have N3 := Fresh.keeps (by assumption) hb; clear hb) | (go_at_call 116; refine (refSub_u 0 a _).mono ?_; rw [Int.zero_sub]; rintro e w4 ⟨rfl, hb⟩; have SS4 := StA.next (by assumption) hb; have N4 := Fresh.keeps (by assumption) hb; clear hb; have ⟨y0, y1, y2, y3, y4⟩ := N4)))
  go_wp2_with fail
  obtain ⟨r0, r1⟩ := N4.put (-a)
  have k5 := store2 SS4.2 (k := w.heap.size + 1) (by omega) (.int .i64 (hi (-a))) (.int .u64 (lo (-a)))
  simp [bodyPost, results, Tryz.results97, go_sem, r0, r1]
  exact k5
end Go.Proofs.YtcndlcogainnkaaGreatDoor.dec
