/-
  exact.Compare, exact.size, exact.roundUp .
-/
import Derived.Test.YtgfigcjbfigmiaaDoorScale
namespace Go.Proofs.YtgfigcjbfigmiaaDoor
open Go.RowKit Go.Shelf

/-- exact.Compare. -/
theorem compare_any {x y : Value} {a b : Int} (hx : x = W a) (hy : y = W b) (ia : In a) (ib : In b) (w : World) :
    Calls Tryd.prog 25 #[x, y] w fun e w' => e = .returned (.int .i64 (cmp a b)) ∧ ∃ c1 c2 : Array Value, w' = (w.alloc (.cells c1 31)).alloc (.cells c2 31) := by
  subst hx hy
  have h5 : (Hid (cmp a b = -1) ∧ hi a < hi b) ∨ (Hid (cmp a b = -1) ∧ hi a = hi b ∧ lo a < lo b) ∨ (Hid (cmp a b = 0) ∧ hi a = hi b ∧ lo a = lo b) ∨ (Hid (cmp a b = 1) ∧ hi a = hi b ∧ lo b < lo a) ∨ (Hid (cmp a b = 1) ∧ hi b < hi a) := by
    rcases five a b with h | h | h | h | h
    · exact .inl ⟨cmp_lt (lt_of ia ib (.inl h)), h⟩
    · exact .inr (.inl ⟨cmp_lt (lt_of ia ib (.inr h)), h⟩)
    · exact .inr (.inr (.inl ⟨cmp_eq (eq_of ia ib h.1 h.2), h⟩))
    · exact .inr (.inr (.inr (.inl ⟨cmp_gt (lt_of ib ia (.inr ⟨h.1.symm, h.2⟩)), h⟩)))
    · exact .inr (.inr (.inr (.inr ⟨cmp_gt (lt_of ib ia (.inl h)), h⟩)))
  unfold W
  generalize cmp a b = c at *
  generalize hi a = ah at *
  generalize lo a = al at *
  generalize hi b = bh at *
  generalize lo b = bl at *
  clear ia ib
  rcases h5 with ⟨H, h⟩ | ⟨H, h, h'⟩ | ⟨H, h, h'⟩ | ⟨H, h, h'⟩ | ⟨H, h⟩
  · have e1 : (ah == bh) = false := by simp; omega
    go_enter Tryd.func25, Tryd.ntmps25
    go_wp2
    go_ret
    exact ⟨by rw [H.out]; rfl, _, _, rfl⟩
  · subst h
    have e1 : (al == bl) = false := by simp; omega
    go_enter Tryd.func25, Tryd.ntmps25
    go_wp2
    go_ret
    exact ⟨by rw [H.out]; rfl, _, _, rfl⟩
  · subst h h'
    go_enter Tryd.func25, Tryd.ntmps25
    go_wp2
    go_ret
    exact ⟨by rw [H.out]; rfl, _, _, rfl⟩
  · subst h
    have e1 : (al == bl) = false := by simp; omega
    go_enter Tryd.func25, Tryd.ntmps25
    go_wp2
    go_ret
    exact ⟨by rw [H.out]; rfl, _, _, rfl⟩
  · have e1 : (ah == bh) = false := by simp; omega
    go_enter Tryd.func25, Tryd.ntmps25
    go_wp2
    go_ret
    exact ⟨by rw [H.out]; rfl, _, _, rfl⟩

/-- exact.size. -/
theorem size_any {x : Value} {a : Int} (hx : x = W a) (ia : In a) (w : World) :
    Calls Tryd.prog 43 #[x] w fun e w' => e = .returned (.agg #[.int .u64 (ab a % 18446744073709551616), .int .u64 (ab a / 18446744073709551616)]) ∧ Below w.heap.size w w' := by
  subst hx
  have e2 : Hid (IntKind.u64.wrap (hi (ab a)) = ab a / 18446744073709551616) := ab_hi ia
  have e1 : Hid (lo (ab a) = ab a % 18446744073709551616) := rfl
  by_cases h : a < 0
  · have hh : hi a < 0 := (hi_neg ia).2 h
    have e0 : ab a = -a := ab_neg h
    rw [e0] at e1 e2 ⊢
    clear e0
    unfold W
    go_enter Tryd.func43, Tryd.ntmps43
    go_wp2_with (go_at_call 39; refine (neg_any (a := a) rfl _).mono ?_; unfold W; rintro e w' ⟨rfl, c1, c2, c3, c4, c5, rfl⟩)
    rw [e1.out, e2.out]
    simp [bodyPost, results, Tryd.results43, go_sem]
    exact ((((((Below.refl _ _).alloc (Nat.le_refl _) _).alloc (by simp) _).alloc (by simp; omega) _).alloc (by simp; omega) _).alloc (by simp; omega) _).alloc (by simp; omega) _ |>.alloc (by simp; omega) _
  · have hh : 0 ≤ hi a := by have := hi_neg ia; omega
    have e0 : ab a = a := ab_pos (by omega)
    rw [e0] at e1 e2 ⊢
    clear e0
    unfold W
    go_enter Tryd.func43, Tryd.ntmps43
    go_wp2
    rw [e1.out, e2.out]
    simp [bodyPost, results, Tryd.results43, go_sem]
    exact ((Below.refl _ _).alloc (Nat.le_refl _) _).alloc (by simp) _

/-- exact.roundUp. -/
theorem roundUp_any (q r d : Int) (w : World) (hq : 0 ≤ q) (hr : 0 ≤ r) (hd : r < d) (hd' : d ≤ 18446744073709551615) :
    Calls Tryd.prog 45 #[.int .u64 q, .int .u64 r, .int .u64 d] w fun e w' => e = .returned (.int .u64 (ru q r d)) ∧ w = w' := by
  have h4 : (Hid (ru q r d = 1) ∧ d - r < r) ∨ (Hid (ru q r d = 1) ∧ ((r : Int) == d - r) = true ∧ (q % 2 == 1) = true ∧ ¬ d - r < r) ∨ (Hid (ru q r d = 0) ∧ ((r : Int) == d - r) = true ∧ (q % 2 == 1) = false ∧ ¬ d - r < r) ∨ (Hid (ru q r d = 0) ∧ ((r : Int) == d - r) = false ∧ ¬ d - r < r) := by
    unfold Hid ru
    simp only [beq_iff_eq, beq_eq_false_iff_ne]
    split <;> omega
  generalize ru q r d = c at *
  rcases h4 with ⟨H, h⟩ | ⟨H, h, h', h''⟩ | ⟨H, h, h', h''⟩ | ⟨H, h, h'⟩
  all_goals
    go_enter Tryd.func45, Tryd.ntmps45
    go_wp2
    go_ret
    exact ⟨by rw [H.out]; rfl, rfl⟩
end Go.Proofs.YtgfigcjbfigmiaaDoor
