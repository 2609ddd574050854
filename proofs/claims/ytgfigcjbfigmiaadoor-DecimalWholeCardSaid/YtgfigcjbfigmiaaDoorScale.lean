/-
  exact.Scale and exact.Mul return the pairs that stand for the products.
-/
import Derived.Test.YtgfigcjbfigmiaaDoorOps
namespace Go.Proofs.YtgfigcjbfigmiaaDoor
open Go.RowKit Go.Shelf

/-- The region's law with the world after the draw spelled as the walk spells it. -/
theorem still_tail {P : Program} {id : Nat} {Q : Exit → Act → World → Prop} {a : Act} {w : World} {l : List Oper} (n : Nat) (hm : P.follows .mixedOrders = true) (hB : Region.lexTailB .any l.toArray n = true)
    (h : wpStill P l.toArray w.drew (fun a' => wpList P l.toArray Q (l.drop n) a' w.drew) (l.take n) a) : (Code.region id l.toArray true).wp P Q a w :=
  wp_region_still_tail n hm hB h

set_option maxHeartbeats 400000 in
/-- exact.Scale. -/
theorem scale_any {x : Value} {a : Int} (n : Int) (hx : x = W a) (w : World) (h1 : -9223372036854775808 ≤ n) (h2 : n ≤ 9223372036854775807) :
    Calls Tryd.prog 40 #[x, .int .i64 n] w fun e w' => e = .returned (W (a * n)) ∧ Below w.heap.size w w' := by
  subst hx
  have eh := scale_hi a n h1 h2
  have el := scale_lo a n
  have HE := Lib.hid eh; have HL := Lib.hid el; clear eh el
  have ra := lo_range a; have ha := hi_range a
  obtain ⟨ra1, ra2⟩ := ra; obtain ⟨ha1, ha2⟩ := ha
  have hn : IntKind.u64.wrap n = lo n := of_lo n
  have rn := lo_range n
  obtain ⟨rn1, rn2⟩ := rn
  unfold W
  go_enter Tryd.func40, Tryd.ntmps40
  go_wp2_with (go_at_call 50; refine (product_any _ _ _ ra1 ra2 rn1 rn2).mono ?_; rintro e w' ⟨rfl, c1, rfl⟩)
  refine still_tail 17 (by kernel_rfl) (by kernel_rfl) ?_
  simp only [List.take_succ_cons, List.take_zero, List.drop_succ_cons, List.drop_zero]
  iterate 11 still_step
  still_call (signBits_any _ _ h1 h2).mono (by rintro e w' ⟨rfl, rfl⟩; exact ⟨rfl, rfl⟩)
  repeat still_step
  refine wpStill_nil ?_
  go_wp2
  rw [HE.out, HL.out]
  simp [bodyPost, results, Tryd.results40, go_sem]
  exact ((((Below.refl _ _).alloc (Nat.le_refl _) _).alloc (by simp) _).alloc (by simp; omega) _).alloc (by simp; omega) _ |>.drew

theorem bfacts {W w1 : World} (hb : Below W.heap.size W w1) : (∀ b o, b < W.heap.size → w1.cell? ⟨b, o, none⟩ = W.cell? ⟨b, o, none⟩) ∧ (∀ b o, b < W.heap.size → w1.frozen? ⟨b, o, none⟩ = W.frozen? ⟨b, o, none⟩) ∧ W.heap.size ≤ w1.heap.size :=
  ⟨fun _ _ h => hb.cell (p := ⟨_, _, none⟩) h, fun _ _ h => hb.frozen (p := ⟨_, _, none⟩) h, hb.size⟩

theorem store2 {B k : Nat} {W w1 : World} (h : Below B W w1) (hk : B ≤ k) (u v : Value) : Below B W ((w1.setCell ⟨k, 0, none⟩ u).setCell ⟨k, 1, none⟩ v) :=
  Below.setCell (p := ⟨k, 1, none⟩) (Below.setCell (p := ⟨k, 0, none⟩) h hk u) hk v

theorem keeps {W w1 : World} (hb : Below W.heap.size W w1) {k o : Nat} {v : Value} (h : W.cell? ⟨k, o, none⟩ = some v) : w1.cell? ⟨k, o, none⟩ = some v := by
  rw [hb.cell (block_lt_of_cell h)]; exact h
theorem read2 {w1 : World} {k : Nat} {a0 a1 : Value} (h0 : w1.cell? ⟨k, 0, none⟩ = some a0) (h1 : w1.cell? ⟨k, 1, none⟩ = some a1) (u v : Value) :
    ((w1.setCell ⟨k, 0, none⟩ u).setCell ⟨k, 1, none⟩ v).cell? ⟨k, 0, none⟩ = some u ∧ ((w1.setCell ⟨k, 0, none⟩ u).setCell ⟨k, 1, none⟩ v).cell? ⟨k, 1, none⟩ = some v := by
  constructor
  · rw [World.cell?_setCell_other _ _ _ _ (by simp)]; exact World.cell?_setCell_same _ _ _ h0
  · exact World.cell?_setCell_same _ _ _ (u := a1) (by rw [World.cell?_setCell_other _ _ _ _ (by simp)]; exact h1)

/-- exact.Mul. -/
theorem mul_any (a b : Int) (w : World) (h1 : -9223372036854775808 ≤ a) (h2 : a ≤ 9223372036854775807) (h3 : -9223372036854775808 ≤ b) (h4 : b ≤ 9223372036854775807) :
    Calls Tryd.prog 28 #[.int .i64 a, .int .i64 b] w fun e w' => e = .returned (W (a * b)) ∧ Below w.heap.size w w' := by
  go_enter Tryd.func28, Tryd.ntmps28
  go_wp2_with (first | (go_at_call 26; refine (of_any _ _ h1 h2).mono ?_; unfold W; rintro e w' ⟨rfl, c1, rfl⟩) | (go_at_call 40; refine (scale_any (a := a) b rfl _ h3 h4).mono ?_; unfold W; rintro e w1 ⟨rfl, hb⟩; obtain ⟨hc, hf, hs⟩ := bfacts hb))
  obtain ⟨r0, r1⟩ := read2 (w1 := w1) (k := w.heap.size) (keeps hb (by simp [go_sem]; rfl)) (keeps hb (by simp [go_sem]; rfl)) (.int .i64 (hi (a * b))) (.int .u64 (lo (a * b)))
  simp [bodyPost, results, Tryd.results28, go_sem, W, r0, r1]
  exact store2 ((((Below.refl _ _).alloc (Nat.le_refl _) _).alloc (by simp) _).trans (hb.mono (by simp; omega))) (Nat.le_refl _) _ _
end Go.Proofs.YtgfigcjbfigmiaaDoor
