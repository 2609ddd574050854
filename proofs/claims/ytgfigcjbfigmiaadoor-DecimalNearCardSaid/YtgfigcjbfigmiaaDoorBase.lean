/-
  The contracts of package exact, each with 'nothing that was there has changed'; memory facts that are carried over calls.
-/
import Derived.Test.YtgfigcjbfigmiaaDoorDivide
import Derived.Test.YtgfigcjbfigmiaaDoorDvMore
import Derived.Lib.SmallJoins
import Derived.Lib.QuietBelow
namespace Go.Proofs.YtgfigcjbfigmiaaDoor
open Go.RowKit Go.Shelf

theorem bnext {w a b : World} (h : Below w.heap.size w a) (k : Below a.heap.size a b) : Below w.heap.size w b := h.trans (k.mono h.size)
theorem balloc {w a : World} (h : Below w.heap.size w a) (o : Obj) : Below w.heap.size w (a.alloc o) := h.alloc h.size o
theorem b0 (w : World) : Below w.heap.size w w := Below.refl _ _

theorem of_b (n : Int) (w : World) (h1 : -9223372036854775808 ≤ n) (h2 : n ≤ 9223372036854775807) :
    Calls Tryd.prog 26 #[.int .i64 n] w fun e w' => e = .returned (W n) ∧ Below w.heap.size w w' :=
  (of_any n w h1 h2).mono fun _ _ ⟨he, _, hw⟩ => ⟨he, hw ▸ balloc (b0 w) _⟩
theorem add_b {x y : Value} {a b : Int} (hx : x = W a) (hy : y = W b) (w : World) :
    Calls Tryd.prog 33 #[x, y] w fun e w' => e = .returned (W (a + b)) ∧ Below w.heap.size w w' :=
  (add_any hx hy w).mono fun _ _ ⟨he, _, _, _, hw⟩ => ⟨he, hw ▸ balloc (balloc (balloc (b0 w) _) _) _⟩
theorem sub_b {x y : Value} {a b : Int} (hx : x = W a) (hy : y = W b) (w : World) :
    Calls Tryd.prog 36 #[x, y] w fun e w' => e = .returned (W (a - b)) ∧ Below w.heap.size w w' :=
  (sub_any hx hy w).mono fun _ _ ⟨he, _, _, _, hw⟩ => ⟨he, hw ▸ balloc (balloc (balloc (b0 w) _) _) _⟩
theorem neg_b {x : Value} {a : Int} (hx : x = W a) (w : World) :
    Calls Tryd.prog 39 #[x] w fun e w' => e = .returned (W (-a)) ∧ Below w.heap.size w w' :=
  (neg_any hx w).mono fun _ _ ⟨he, _, _, _, _, _, hw⟩ => ⟨he, hw ▸ balloc (balloc (balloc (balloc (balloc (b0 w) _) _) _) _) _⟩
theorem compare_b {x y : Value} {a b : Int} (hx : x = W a) (hy : y = W b) (ia : In a) (ib : In b) (w : World) :
    Calls Tryd.prog 25 #[x, y] w fun e w' => e = .returned (.int .i64 (cmp a b)) ∧ Below w.heap.size w w' :=
  (compare_any hx hy ia ib w).mono fun _ _ ⟨he, _, _, hw⟩ => ⟨he, hw ▸ balloc (balloc (b0 w) _) _⟩


/-! The contracts with the pair written out. -/
theorem of_u (n : Int) (w : World) (h1 : -9223372036854775808 ≤ n) (h2 : n ≤ 9223372036854775807) :
    Calls Tryd.prog 26 #[.int .i64 n] w fun e w' => e = .returned (.agg #[.int .i64 (hi n), .int .u64 (lo n)]) ∧ Go.RowKit.Below w.heap.size w w' := of_b n w h1 h2
theorem add_u (a b : Int) (w : World) :
    Calls Tryd.prog 33 #[.agg #[.int .i64 (hi a), .int .u64 (lo a)], .agg #[.int .i64 (hi b), .int .u64 (lo b)]] w fun e w' => e = .returned (.agg #[.int .i64 (hi (a + b)), .int .u64 (lo (a + b))]) ∧ Go.RowKit.Below w.heap.size w w' := add_b rfl rfl w
theorem sub_u (a b : Int) (w : World) :
    Calls Tryd.prog 36 #[.agg #[.int .i64 (hi a), .int .u64 (lo a)], .agg #[.int .i64 (hi b), .int .u64 (lo b)]] w fun e w' => e = .returned (.agg #[.int .i64 (hi (a - b)), .int .u64 (lo (a - b))]) ∧ Go.RowKit.Below w.heap.size w w' := sub_b rfl rfl w
theorem neg_u (a : Int) (w : World) :
    Calls Tryd.prog 39 #[.agg #[.int .i64 (hi a), .int .u64 (lo a)]] w fun e w' => e = .returned (.agg #[.int .i64 (hi (-a)), .int .u64 (lo (-a))]) ∧ Go.RowKit.Below w.heap.size w w' := neg_b rfl w
theorem mul_u (a b : Int) (w : World) (h1 : -9223372036854775808 ≤ a) (h2 : a ≤ 9223372036854775807) (h3 : -9223372036854775808 ≤ b) (h4 : b ≤ 9223372036854775807) :
    Calls Tryd.prog 28 #[.int .i64 a, .int .i64 b] w fun e w' => e = .returned (.agg #[.int .i64 (hi (a * b)), .int .u64 (lo (a * b))]) ∧ Go.RowKit.Below w.heap.size w w' := mul_any a b w h1 h2 h3 h4
theorem scale_u (a n : Int) (w : World) (h1 : -9223372036854775808 ≤ n) (h2 : n ≤ 9223372036854775807) :
    Calls Tryd.prog 40 #[.agg #[.int .i64 (hi a), .int .u64 (lo a)], .int .i64 n] w fun e w' => e = .returned (.agg #[.int .i64 (hi (a * n)), .int .u64 (lo (a * n))]) ∧ Go.RowKit.Below w.heap.size w w' := scale_any n rfl w h1 h2

theorem divide_at {a d r : Int} {b : Bool} (ia : In a) (d1 : -9223372036854775808 ≤ d) (d2 : d ≤ 9223372036854775807) (hr : dv a d = r) (hb : dvOk a d = b) (w : World) :
    Calls Tryd.prog 31 #[.agg #[.int .i64 (hi a), .int .u64 (lo a)], .int .i64 d] w fun e w' => e = .returned (.tuple #[.int .i64 r, .bool b]) ∧ Go.RowKit.Below w.heap.size w w' := by
  have := divide_any (a := a) d rfl ia w d1 d2
  rw [hr, hb] at this
  exact this
theorem compare_u {a b : Int} (ia : In a) (ib : In b) (w : World) :
    Calls Tryd.prog 25 #[.agg #[.int .i64 (hi a), .int .u64 (lo a)], .agg #[.int .i64 (hi b), .int .u64 (lo b)]] w fun e w' => e = .returned (.int .i64 (cmp a b)) ∧ Go.RowKit.Below w.heap.size w w' := compare_b rfl rfl ia ib w

theorem cmp_cases (a b : Int) : (a < b ∧ cmp a b = -1) ∨ (a = b ∧ cmp a b = 0) ∨ (b < a ∧ cmp a b = 1) := by
  rcases Int.lt_trichotomy a b with h | h | h
  · exact .inl ⟨h, cmp_lt h⟩
  · exact .inr (.inl ⟨h, cmp_eq h⟩)
  · exact .inr (.inr ⟨h, cmp_gt h⟩)

/-! A variable of type Wide: the block k holds the pair of a. -/
def Box (w : World) (k : Nat) (a : Int) : Prop := w.cell? ⟨k, 0, none⟩ = some (.int .i64 (hi a)) ∧ w.cell? ⟨k, 1, none⟩ = some (.int .u64 (lo a))
theorem Box.new (w : World) (a : Int) : Box (w.alloc (.cells #[.int .i64 (hi a), .int .u64 (lo a)] 31)) w.heap.size a := ⟨by simp [go_sem], by simp [go_sem]⟩
theorem Box.keeps {w w1 : World} {k : Nat} {a : Int} (h : Box w k a) (hb : Go.RowKit.Below w.heap.size w w1) : Box w1 k a := ⟨Go.Proofs.YtgfigcjbfigmiaaDoor.keeps hb h.1, Go.Proofs.YtgfigcjbfigmiaaDoor.keeps hb h.2⟩
theorem Box.past {w : World} {k : Nat} {a : Int} (h : Box w k a) (o : Obj) : Box (w.alloc o) k a := ⟨keeps_alloc o h.1, keeps_alloc o h.2⟩
theorem Box.lt {w : World} {k : Nat} {a : Int} (h : Box w k a) : k < w.heap.size := block_lt_of_cell h.1
theorem Box.regrown {w : World} {k : Nat} {a : Int} (h : Box w k a) :
    (∀ d os, (Sort.grow (redrawn w d) os).cell? ⟨k, 0, none⟩ = some (.int .i64 (hi a))) ∧ (∀ d os, (Sort.grow (redrawn w d) os).cell? ⟨k, 1, none⟩ = some (.int .u64 (lo a))) := ⟨cell_regrown h.1, cell_regrown h.2⟩

theorem Box.put {w : World} {k : Nat} {a : Int} (h : Box w k a) (b : Int) : Box ((w.setCell ⟨k, 0, none⟩ (.int .i64 (hi b))).setCell ⟨k, 1, none⟩ (.int .u64 (lo b))) k b := read2 h.1 h.2 _ _
theorem Box.off {w : World} {k k' : Nat} {a : Int} (h : Box w k a) (hk : k' ≠ k) (u v : Value) : Box ((w.setCell ⟨k', 0, none⟩ u).setCell ⟨k', 1, none⟩ v) k a := by
  have e : ∀ o o', (⟨k', o, none⟩ : Addr) ≠ ⟨k, o', none⟩ := fun _ _ h => hk (congrArg Addr.block h)
  unfold Box
  rw [World.cell?_setCell_other _ _ _ _ (e 1 0), World.cell?_setCell_other _ _ _ _ (e 0 0), World.cell?_setCell_other _ _ _ _ (e 1 1), World.cell?_setCell_other _ _ _ _ (e 0 1)]
  exact h
/-- The block k may be written. -/
def Free (w : World) (k : Nat) : Prop := w.frozen? ⟨k, 0, none⟩ = false ∧ w.frozen? ⟨k, 1, none⟩ = false ∧ k < w.heap.size
theorem Free.new (w : World) (c : Array Value) : Free (w.alloc (.cells c 31)) w.heap.size := ⟨by simp [go_sem], by simp [go_sem], by simp⟩
theorem Free.keeps {w w1 : World} {k : Nat} (h : Free w k) (hb : Go.RowKit.Below w.heap.size w w1) : Free w1 k :=
  ⟨by rw [hb.frozen (p := ⟨k, 0, none⟩) h.2.2]; exact h.1, by rw [hb.frozen (p := ⟨k, 1, none⟩) h.2.2]; exact h.2.1, Nat.lt_of_lt_of_le h.2.2 hb.size⟩
theorem Free.past {w : World} {k : Nat} (h : Free w k) (c : Array Value) (t : TypeId) : Free (w.alloc (.cells c t)) k :=
  h.keeps ((Go.RowKit.Below.refl _ _).alloc (Nat.le_refl _) _)

/-- The block k holds a zero Wide that may be written. -/
def Fresh (w : World) (k : Nat) : Prop := w.cell? ⟨k, 0, none⟩ = some (.int .i64 0) ∧ w.cell? ⟨k, 1, none⟩ = some (.int .u64 0) ∧ Free w k
theorem Fresh.new (w : World) : Fresh (w.alloc (.cells #[.int .i64 0, .int .u64 0] 31)) w.heap.size := ⟨by simp [go_sem], by simp [go_sem], Free.new w _⟩
theorem Fresh.keeps {w w1 : World} {k : Nat} (h : Fresh w k) (hb : Go.RowKit.Below w.heap.size w w1) : Fresh w1 k := ⟨Go.Proofs.YtgfigcjbfigmiaaDoor.keeps hb h.1, Go.Proofs.YtgfigcjbfigmiaaDoor.keeps hb h.2.1, h.2.2.keeps hb⟩
theorem Fresh.put {w : World} {k : Nat} (h : Fresh w k) (b : Int) : Box ((w.setCell ⟨k, 0, none⟩ (.int .i64 (hi b))).setCell ⟨k, 1, none⟩ (.int .u64 (lo b))) k b := read2 h.1 h.2.1 _ _
/-- A parameter in memory, and nothing old changed. -/
def StA (w w' : World) (k : Nat) (a : Int) : Prop := Box w' k a ∧ Go.RowKit.Below w.heap.size w w'
theorem StA.out {w w' : World} {k : Nat} {a : Int} (h : StA w w' k a) : w'.cell? ⟨k, 0, none⟩ = some (.int .i64 (hi a)) ∧ w'.cell? ⟨k, 1, none⟩ = some (.int .u64 (lo a)) ∧ Go.RowKit.Below w.heap.size w w' := ⟨h.1.1, h.1.2, h.2⟩
theorem StA.next {w w1 w2 : World} {k : Nat} {a : Int} (h : StA w w1 k a) (hb : Go.RowKit.Below w1.heap.size w1 w2) : StA w w2 k a := ⟨h.1.keeps hb, bnext h.2 hb⟩
theorem StA.alloc {w w1 : World} {k : Nat} {a : Int} (h : StA w w1 k a) (o : Obj) : StA w (w1.alloc o) k a := ⟨h.1.past o, balloc h.2 o⟩
theorem StA.put {w w4 w5 : World} {k : Nat} {a : Int} (h4 : StA w w4 k a) (h : StA w w5 k a) (u v : Value) : StA w ((w5.setCell ⟨w4.heap.size, 0, none⟩ u).setCell ⟨w4.heap.size, 1, none⟩ v) k a :=
  ⟨h.1.off (by have := h4.1.lt; omega) u v, store2 h.2 h4.2.size u v⟩

end Go.Proofs.YtgfigcjbfigmiaaDoor
