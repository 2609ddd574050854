/-
  The specification's Of, Neg and Compare.
-/
import Derived.Test.YtdppmppipbbepaaRefSums
namespace Go.Proofs.Ytdppmppipbbepaa
open Go.RowKit

theorem refOf_any (n : Int) (w : World) (h1 : -9223372036854775808 ≤ n) (h2 : n ≤ 9223372036854775807) :
    Calls Try.prog 21 #[.int .i64 n] w fun e w' => e = .returned (.agg #[.int .i64 (hi n), .int .u64 (lo n)]) ∧ Below w.heap.size w w' := by
  have e1 : Hid (n / 9223372036854775808 = hi n) := of_hi n h1 h2
  have e2 : Hid (IntKind.u64.wrap n = lo n) := of_lo n
  by_cases h : n < 0
  · have e3 : n / 9223372036854775808 = -1 := by omega
    rw [e3] at e1
    go_enter Try.func21, Try.ntmps21
    go_wp2
    rw [e2.out, ← e1.out]
    simp [bodyPost, results, Try.results21, go_sem]
    exact balloc (b0 w) _
  · have e3 : n / 9223372036854775808 = 0 := by omega
    rw [e3] at e1
    rw [IntKind.wrap_u64, Int.emod_eq_of_lt (by omega) (by omega)] at e2
    go_enter Try.func21, Try.ntmps21
    go_wp2
    rw [← e2.out, ← e1.out]
    simp [bodyPost, results, Try.results21, go_sem]
    exact balloc (b0 w) _

theorem refCompare_any {a b : Int} (ia : In a) (ib : In b) (w : World) :
    Calls Try.prog 23 #[.agg #[.int .i64 (hi a), .int .u64 (lo a)], .agg #[.int .i64 (hi b), .int .u64 (lo b)]] w fun e w' => e = .returned (.int .i64 (cmp a b)) ∧ Below w.heap.size w w' := by
  have h5 : (Hid (cmp a b = -1) ∧ hi a < hi b) ∨ (Hid (cmp a b = -1) ∧ hi a = hi b ∧ lo a < lo b) ∨ (Hid (cmp a b = 0) ∧ hi a = hi b ∧ lo a = lo b) ∨ (Hid (cmp a b = 1) ∧ hi a = hi b ∧ lo b < lo a) ∨ (Hid (cmp a b = 1) ∧ hi b < hi a) := by
    rcases five a b with h | h | h | h | h
    · exact .inl ⟨cmp_lt (lt_of ia ib (.inl h)), h⟩
    · exact .inr (.inl ⟨cmp_lt (lt_of ia ib (.inr h)), h⟩)
    · exact .inr (.inr (.inl ⟨cmp_eq (eq_of ia ib h.1 h.2), h⟩))
    · exact .inr (.inr (.inr (.inl ⟨cmp_gt (lt_of ib ia (.inr ⟨h.1.symm, h.2⟩)), h⟩)))
    · exact .inr (.inr (.inr (.inr ⟨cmp_gt (lt_of ib ia (.inl h)), h⟩)))
  generalize cmp a b = c at *
  generalize hi a = ah at *
  generalize lo a = al at *
  generalize hi b = bh at *
  generalize lo b = bl at *
  clear ia ib
  rcases h5 with ⟨H, h⟩ | ⟨H, h, h'⟩ | ⟨H, h, h'⟩ | ⟨H, h, h'⟩ | ⟨H, h⟩
  · have e1 : (ah == bh) = false := by simp; omega
    go_enter Try.func23, Try.ntmps23
    go_wp2
    go_ret
    exact ⟨by rw [H.out]; rfl, balloc (balloc (b0 w) _) _⟩
  · subst h
    have e1 : (al == bl) = false := by simp; omega
    go_enter Try.func23, Try.ntmps23
    go_wp2
    go_ret
    exact ⟨by rw [H.out]; rfl, balloc (balloc (b0 w) _) _⟩
  · subst h h'
    go_enter Try.func23, Try.ntmps23
    go_wp2
    go_ret
    exact ⟨by rw [H.out]; rfl, balloc (balloc (b0 w) _) _⟩
  · subst h
    have e1 : (al == bl) = false := by simp; omega
    go_enter Try.func23, Try.ntmps23
    go_wp2
    go_ret
    exact ⟨by rw [H.out]; rfl, balloc (balloc (b0 w) _) _⟩
  · have e1 : (ah == bh) = false := by simp; omega
    go_enter Try.func23, Try.ntmps23
    go_wp2
    go_ret
    exact ⟨by rw [H.out]; rfl, balloc (balloc (b0 w) _) _⟩

theorem refAdd_u (a b : Int) (w : World) :
    Calls Try.prog 15 #[.agg #[.int .i64 (hi a), .int .u64 (lo a)], .agg #[.int .i64 (hi b), .int .u64 (lo b)]] w fun e w' => e = .returned (.agg #[.int .i64 (hi (a + b)), .int .u64 (lo (a + b))]) ∧ Below w.heap.size w w' := refAdd_any rfl rfl w
theorem refSub_u (a b : Int) (w : World) :
    Calls Try.prog 17 #[.agg #[.int .i64 (hi a), .int .u64 (lo a)], .agg #[.int .i64 (hi b), .int .u64 (lo b)]] w fun e w' => e = .returned (.agg #[.int .i64 (hi (a - b)), .int .u64 (lo (a - b))]) ∧ Below w.heap.size w w' := refSub_any rfl rfl w

theorem StA.put' {w w5 : World} {a : Int} (h : StA w w5 w.heap.size a) (u v : Value) : StA w ((w5.setCell ⟨w.heap.size + 1, 0, none⟩ u).setCell ⟨w.heap.size + 1, 1, none⟩ v) w.heap.size a :=
  ⟨h.1.off (by omega) u v, store2 h.2 (by omega) u v⟩
set_option maxHeartbeats 2000000 in
theorem refNeg_u (a : Int) (w : World) :
    Calls Try.prog 19 #[.agg #[.int .i64 (hi a), .int .u64 (lo a)]] w fun e w' => e = .returned (.agg #[.int .i64 (hi (-a)), .int .u64 (lo (-a))]) ∧ Below w.heap.size w w' := by
  have A := (Box.new w a).past (.cells #[.int .i64 0, .int .u64 0] 24)
  have N := Fresh.new (w.alloc (.cells #[.int .i64 (hi a), .int .u64 (lo a)] 24))
  have k1 := balloc (balloc (b0 w) (.cells #[.int .i64 (hi a), .int .u64 (lo a)] 24)) (.cells #[.int .i64 0, .int .u64 0] 24)
  simp only [World.size_alloc] at N
  go_enter Try.func19, Try.ntmps19
  go_wp2_with fail
  generalize (w.alloc (.cells #[.int .i64 (hi a), .int .u64 (lo a)] 24)).alloc (.cells #[.int .i64 0, .int .u64 0] 24) = w1 at *
  have SS0 : StA w w1 w.heap.size a := ⟨A, k1⟩
  have SS : StA w w1.drew w.heap.size a := ⟨A, k1.drew⟩
  have NN : Fresh w1.drew (w.heap.size + 1) := N
  go_region_held3 (fun w' => w'.cell? ⟨w.heap.size, 0, none⟩ = some (.int .i64 (hi a)) ∧ w'.cell? ⟨w.heap.size, 1, none⟩ = some (.int .u64 (lo a)) ∧ Go.RowKit.Below w.heap.size w w') ((first | exact StA.out (by assumption) | exact StA.out (StA.put' (by assumption) _ _))) ((first | (go_at_call 21; refine (refOf_any 0 _ (by decide) (by decide)).mono ?_; rintro e w3 ⟨rfl, hb⟩; have SS3 := StA.next (by assumption) hb; have N3 := Fresh.keeps (by assumption) hb; clear hb) | (go_at_call 17; refine (refSub_u 0 a _).mono ?_; rw [Int.zero_sub]; rintro e w4 ⟨rfl, hb⟩; have SS4 := StA.next (by assumption) hb; have N4 := Fresh.keeps (by assumption) hb; clear hb; have ⟨y0, y1, y2, y3, y4⟩ := N4)))
  go_wp2_with fail
  obtain ⟨r0, r1⟩ := N4.put (-a)
  have k5 := store2 SS4.2 (k := w.heap.size + 1) (by omega) (.int .i64 (hi (-a))) (.int .u64 (lo (-a)))
  simp [bodyPost, results, Try.results19, go_sem, r0, r1]
  exact k5
end Go.Proofs.Ytdppmppipbbepaa
