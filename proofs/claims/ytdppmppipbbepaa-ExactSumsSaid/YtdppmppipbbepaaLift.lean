/-
  From a walk of a statement to its row: what an argument reads as, and that it reads the same behind the call.
-/
import Derived.Test.YtdppmppipbbepaaRows
import Derived.Test.YtdppmppipbbepaaExample
import Derived.Test.YtdppmppipbbepaaDvMore
import Derived.ProofKit
import Derived.Lib.SmallJoins
import Derived.Lib.QuietBelow
namespace Go.Proofs.Ytdppmppipbbepaa
open Go.ChangeShapes Go.WideShapes Go.ChangeAt Go.RowKit Go.Joins

theorem own : ownKnob Try.prog.godebug = none := by kernel_rfl
theorem cells24 : Try.prog.cellsOf 24 = 2 := by kernel_rfl

theorem wide_of {h l : Int} (wh : (Lit.int .i64 h).wf = true) (wl : (Lit.int .u64 l).wf = true) : ∃ a, In a ∧ Value.agg #[.int .i64 h, .int .u64 l] = W a := by
  have bh := bounds_i64 wh
  have bl := bounds_u64 wl
  exact ⟨_, by unfold In; omega, W_of h l bh.1 bh.2 bl.1 bl.2⟩

section
variable {H : Type} {enc : TypeId × Value → H} {P : Program}
/-- The end of a call that made memory and changed none. -/
theorem post_below {f : Func} {s : ChangeSpec} {apart fresh handsOn : Bool} {W W' : World} {args : Array Value} {v : Value} {ds gs : List (DataW H)} {before pa pv : List MemPlace}
    (hW : DataW.Whole enc P f.params.toList s.vars apart W args.toList ds gs before)
    (hres : ∀ (b : Nat) (sp : Nat → Bool) (hd : Bool), DataW.TrodAll enc P W' b sp hd f.resultTypes.toList (v.resultList f.resultTypes.size) (s.fn H (ds ++ gs)).results [])
    (hargs : ∀ sp : Nat → Bool, (∀ p ∈ before, sp p.block = true) → DataW.TrodAll enc P W' 0 sp true f.params.toList args.toList (s.fn H (ds ++ gs)).args pa)
    (hvars : ∀ sp : Nat → Bool, (∀ p ∈ before, sp p.block = true) → DataW.TrodVars enc P W' sp s.vars (s.fn H (ds ++ gs)).vars pv)
    (hk : ∀ may, W.keptBut W' may) : s.post enc P f apart fresh handsOn false W args v W' := by
  have hold : ∀ p ∈ before, (fun b => decide (b < W.heap.size)) p.block = true := fun p hp => by simpa using hW.lt p hp
  exact ⟨ds, gs, before, [], pa, pv, hW, hres _ _ _, hargs _ hold, hvars _ hold, hk _, fun h => by cases h⟩
/-- A Wide by value reads as its two numbers in every world. -/
theorem shut_wide {W' : World} {base : Nat} {sp : Nat → Bool} {held : Bool} {h l : Int} (wh : (Lit.int .i64 h).wf = true) (wl : (Lit.int .u64 l).wf = true) :
    DataW.Trod enc Try.prog W' base sp held 24 (.agg #[.int .i64 h, .int .u64 l]) (.agg [.lit (.int .i64 h), .lit (.int .u64 l)]) [] :=
  shut_agg2 (y0 := (.lit (.int .i64 h), [])) (y1 := (.lit (.int .u64 l), [])) Try.underlying24 (by kernel_rfl) cells24 ⟨1, by simp [DataW.trod, Try.underlying3, wh]⟩ ⟨1, by simp [DataW.trod, Try.underlying22, wl]⟩
end

/-! The contracts with the pair written out. -/
theorem of_u (n : Int) (w : World) (h1 : -9223372036854775808 ≤ n) (h2 : n ≤ 9223372036854775807) :
    Calls Try.prog 20 #[.int .i64 n] w fun e w' => e = .returned (.agg #[.int .i64 (hi n), .int .u64 (lo n)]) ∧ Go.RowKit.Below w.heap.size w w' := of_b n w h1 h2
theorem add_u (a b : Int) (w : World) :
    Calls Try.prog 14 #[.agg #[.int .i64 (hi a), .int .u64 (lo a)], .agg #[.int .i64 (hi b), .int .u64 (lo b)]] w fun e w' => e = .returned (.agg #[.int .i64 (hi (a + b)), .int .u64 (lo (a + b))]) ∧ Go.RowKit.Below w.heap.size w w' := add_b rfl rfl w
theorem sub_u (a b : Int) (w : World) :
    Calls Try.prog 16 #[.agg #[.int .i64 (hi a), .int .u64 (lo a)], .agg #[.int .i64 (hi b), .int .u64 (lo b)]] w fun e w' => e = .returned (.agg #[.int .i64 (hi (a - b)), .int .u64 (lo (a - b))]) ∧ Go.RowKit.Below w.heap.size w w' := sub_b rfl rfl w
theorem neg_u (a : Int) (w : World) :
    Calls Try.prog 18 #[.agg #[.int .i64 (hi a), .int .u64 (lo a)]] w fun e w' => e = .returned (.agg #[.int .i64 (hi (-a)), .int .u64 (lo (-a))]) ∧ Go.RowKit.Below w.heap.size w w' := neg_b rfl w
theorem mul_u (a b : Int) (w : World) (h1 : -9223372036854775808 ≤ a) (h2 : a ≤ 9223372036854775807) (h3 : -9223372036854775808 ≤ b) (h4 : b ≤ 9223372036854775807) :
    Calls Try.prog 24 #[.int .i64 a, .int .i64 b] w fun e w' => e = .returned (.agg #[.int .i64 (hi (a * b)), .int .u64 (lo (a * b))]) ∧ Go.RowKit.Below w.heap.size w w' := mul_any a b w h1 h2 h3 h4
theorem scale_u (a n : Int) (w : World) (h1 : -9223372036854775808 ≤ n) (h2 : n ≤ 9223372036854775807) :
    Calls Try.prog 26 #[.agg #[.int .i64 (hi a), .int .u64 (lo a)], .int .i64 n] w fun e w' => e = .returned (.agg #[.int .i64 (hi (a * n)), .int .u64 (lo (a * n))]) ∧ Go.RowKit.Below w.heap.size w w' := scale_any n rfl w h1 h2

theorem divide_at {a d r : Int} {b : Bool} (ia : In a) (d1 : -9223372036854775808 ≤ d) (d2 : d ≤ 9223372036854775807) (hr : dv a d = r) (hb : dvOk a d = b) (w : World) :
    Calls Try.prog 28 #[.agg #[.int .i64 (hi a), .int .u64 (lo a)], .int .i64 d] w fun e w' => e = .returned (.tuple #[.int .i64 r, .bool b]) ∧ Go.RowKit.Below w.heap.size w w' := by
  have := divide_any (a := a) d rfl ia w d1 d2
  rw [hr, hb] at this
  exact this
theorem absolute_u {a : Int} (ia : In a) (w : World) :
    Calls Try.prog 30 #[.agg #[.int .i64 (hi a), .int .u64 (lo a)]] w fun e w' => e = .returned (.agg #[.int .i64 (hi (ab a)), .int .u64 (lo (ab a))]) ∧ Go.RowKit.Below w.heap.size w w' := absolute_any rfl ia w
theorem compare_u {a b : Int} (ia : In a) (ib : In b) (w : World) :
    Calls Try.prog 22 #[.agg #[.int .i64 (hi a), .int .u64 (lo a)], .agg #[.int .i64 (hi b), .int .u64 (lo b)]] w fun e w' => e = .returned (.int .i64 (cmp a b)) ∧ Go.RowKit.Below w.heap.size w w' := compare_b rfl rfl ia ib w

theorem cmp_cases (a b : Int) : (a < b ∧ cmp a b = -1) ∨ (a = b ∧ cmp a b = 0) ∨ (b < a ∧ cmp a b = 1) := by
  rcases Int.lt_trichotomy a b with h | h | h
  · exact .inl ⟨h, cmp_lt h⟩
  · exact .inr (.inl ⟨h, cmp_eq h⟩)
  · exact .inr (.inr ⟨h, cmp_gt h⟩)

/-! A variable of type Wide: the block k holds the pair of a. -/
def Box (w : World) (k : Nat) (a : Int) : Prop := w.cell? ⟨k, 0, none⟩ = some (.int .i64 (hi a)) ∧ w.cell? ⟨k, 1, none⟩ = some (.int .u64 (lo a))
theorem Box.new (w : World) (a : Int) : Box (w.alloc (.cells #[.int .i64 (hi a), .int .u64 (lo a)] 24)) w.heap.size a := ⟨by simp [go_sem], by simp [go_sem]⟩
theorem Box.keeps {w w1 : World} {k : Nat} {a : Int} (h : Box w k a) (hb : Go.RowKit.Below w.heap.size w w1) : Box w1 k a := ⟨Go.Proofs.Ytdppmppipbbepaa.keeps hb h.1, Go.Proofs.Ytdppmppipbbepaa.keeps hb h.2⟩
theorem Box.past {w : World} {k : Nat} {a : Int} (h : Box w k a) (o : Obj) : Box (w.alloc o) k a := ⟨keeps_alloc o h.1, keeps_alloc o h.2⟩
theorem Box.lt {w : World} {k : Nat} {a : Int} (h : Box w k a) : k < w.heap.size := block_lt_of_cell h.1
theorem Box.regrown {w : World} {k : Nat} {a : Int} (h : Box w k a) :
    (∀ d os, (Sort.grow (redrawn w d) os).cell? ⟨k, 0, none⟩ = some (.int .i64 (hi a))) ∧ (∀ d os, (Sort.grow (redrawn w d) os).cell? ⟨k, 1, none⟩ = some (.int .u64 (lo a))) := ⟨cell_regrown h.1, cell_regrown h.2⟩

theorem Box.put {w : World} {k : Nat} {a : Int} (h : Box w k a) (b : Int) : Box ((w.setCell ⟨k, 0, none⟩ (.int .i64 (hi b))).setCell ⟨k, 1, none⟩ (.int .u64 (lo b))) k b := read2 h.1 h.2 _ _
theorem Box.off {w : World} {k k' : Nat} {a : Int} (h : Box w k a) (hk : k' ≠ k) (u v : Value) : Box ((w.setCell ⟨k', 0, none⟩ u).setCell ⟨k', 1, none⟩ v) k a := by
  have e : ∀ o o', (⟨k', o, none⟩ : Addr) ≠ ⟨k, o', none⟩ := fun _ _ h => hk (congrArg Addr.block h)
  unfold Box
  rw [World.cell?_setCell_other _ _ _ _ (e 1 0), World.cell?_setCell_other _ _ _ _ (e 0 0), World.cell?_setCell_other _ _ _ _ (e 1 1), World.cell?_setCell_other _ _ _ _ (e 0 1)]
  exact h
/-- The block k may be written. -/
def Free (w : World) (k : Nat) : Prop := w.frozen? ⟨k, 0, none⟩ = false ∧ w.frozen? ⟨k, 1, none⟩ = false ∧ k < w.heap.size
theorem Free.new (w : World) (c : Array Value) : Free (w.alloc (.cells c 24)) w.heap.size := ⟨by simp [go_sem], by simp [go_sem], by simp⟩
theorem Free.keeps {w w1 : World} {k : Nat} (h : Free w k) (hb : Go.RowKit.Below w.heap.size w w1) : Free w1 k :=
  ⟨by rw [hb.frozen (p := ⟨k, 0, none⟩) h.2.2]; exact h.1, by rw [hb.frozen (p := ⟨k, 1, none⟩) h.2.2]; exact h.2.1, Nat.lt_of_lt_of_le h.2.2 hb.size⟩
theorem Free.past {w : World} {k : Nat} (h : Free w k) (c : Array Value) (t : TypeId) : Free (w.alloc (.cells c t)) k :=
  h.keeps ((Go.RowKit.Below.refl _ _).alloc (Nat.le_refl _) _)

/-- The block k holds a zero Wide that may be written. -/
def Fresh (w : World) (k : Nat) : Prop := w.cell? ⟨k, 0, none⟩ = some (.int .i64 0) ∧ w.cell? ⟨k, 1, none⟩ = some (.int .u64 0) ∧ Free w k
theorem Fresh.new (w : World) : Fresh (w.alloc (.cells #[.int .i64 0, .int .u64 0] 24)) w.heap.size := ⟨by simp [go_sem], by simp [go_sem], Free.new w _⟩
theorem Fresh.keeps {w w1 : World} {k : Nat} (h : Fresh w k) (hb : Go.RowKit.Below w.heap.size w w1) : Fresh w1 k := ⟨Go.Proofs.Ytdppmppipbbepaa.keeps hb h.1, Go.Proofs.Ytdppmppipbbepaa.keeps hb h.2.1, h.2.2.keeps hb⟩
theorem Fresh.put {w : World} {k : Nat} (h : Fresh w k) (b : Int) : Box ((w.setCell ⟨k, 0, none⟩ (.int .i64 (hi b))).setCell ⟨k, 1, none⟩ (.int .u64 (lo b))) k b := read2 h.1 h.2.1 _ _
/-- A parameter in memory, and nothing old changed. -/
def StA (w w' : World) (k : Nat) (a : Int) : Prop := Box w' k a ∧ Go.RowKit.Below w.heap.size w w'
theorem StA.out {w w' : World} {k : Nat} {a : Int} (h : StA w w' k a) : w'.cell? ⟨k, 0, none⟩ = some (.int .i64 (hi a)) ∧ w'.cell? ⟨k, 1, none⟩ = some (.int .u64 (lo a)) ∧ Go.RowKit.Below w.heap.size w w' := ⟨h.1.1, h.1.2, h.2⟩
theorem StA.next {w w1 w2 : World} {k : Nat} {a : Int} (h : StA w w1 k a) (hb : Go.RowKit.Below w1.heap.size w1 w2) : StA w w2 k a := ⟨h.1.keeps hb, bnext h.2 hb⟩
theorem StA.alloc {w w1 : World} {k : Nat} {a : Int} (h : StA w w1 k a) (o : Obj) : StA w (w1.alloc o) k a := ⟨h.1.past o, balloc h.2 o⟩
theorem StA.put {w w4 w5 : World} {k : Nat} {a : Int} (h4 : StA w w4 k a) (h : StA w w5 k a) (u v : Value) : StA w ((w5.setCell ⟨w4.heap.size, 0, none⟩ u).setCell ⟨w4.heap.size, 1, none⟩ v) k a :=
  ⟨h.1.off (by have := h4.1.lt; omega) u v, store2 h.2 h4.2.size u v⟩

/-! Regions whose order is open, whose operations only read and whose calls make memory. -/
section
variable {P : Program}
theorem below_of {w w' : World} (h : ∃ p : Regrown, w' = Sort.grow (redrawn w p.d) p.os) : Below w.heap.size w w' := by
  obtain ⟨p, rfl⟩ := h; exact below_regrown w p.d p.os
end
end Go.Proofs.Ytdppmppipbbepaa
