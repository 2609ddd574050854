/-
  From a walk of a statement to its row: what an argument reads as, and that it reads the same behind the call.
-/
import Derived.Test.YtdppmppipbbepaaRows
import Derived.Test.YtdppmppipbbepaaExample
import Derived.ProofKit
import Derived.Lib.SmallJoins
import Derived.Lib.QuietBelow
namespace Go.Proofs.Ytdppmppipbbepaa
open Go.ChangeShapes Go.WideShapes Go.ChangeAt Go.RowKit Go.Joins

theorem own : ownKnob Try.prog.godebug = none := by kernel_rfl
theorem cells24 : Try.prog.cellsOf 24 = 2 := by kernel_rfl

theorem wide_of {h l : Int} (wh : (Lit.int .i64 h).wf = true) (wl : (Lit.int .u64 l).wf = true) : ∃ a, In a ∧ Value.agg #[.int .i64 h, .int .u64 l] = W a := by
  have bh := bounds_i64 wh
  have bl := bounds_u64 wl
  exact ⟨_, by unfold In; omega, W_of h l bh.1 bh.2 bl.1 bl.2⟩

section
variable {H : Type} {enc : TypeId × Value → H} {P : Program}
/-- The end of a call that made memory and changed none. -/
theorem post_below {f : Func} {s : ChangeSpec} {apart fresh handsOn : Bool} {W W' : World} {args : Array Value} {v : Value} {ds gs : List (DataW H)} {before pa pv : List MemPlace}
    (hW : DataW.Whole enc P f.params.toList s.vars apart W args.toList ds gs before)
    (hres : ∀ (b : Nat) (sp : Nat → Bool) (hd : Bool), DataW.TrodAll enc P W' b sp hd f.resultTypes.toList (v.resultList f.resultTypes.size) (s.fn H (ds ++ gs)).results [])
    (hargs : ∀ sp : Nat → Bool, (∀ p ∈ before, sp p.block = true) → DataW.TrodAll enc P W' 0 sp true f.params.toList args.toList (s.fn H (ds ++ gs)).args pa)
    (hvars : ∀ sp : Nat → Bool, (∀ p ∈ before, sp p.block = true) → DataW.TrodVars enc P W' sp s.vars (s.fn H (ds ++ gs)).vars pv)
    (hk : ∀ may, W.keptBut W' may) : s.post enc P f apart fresh handsOn false W args v W' := by
  have hold : ∀ p ∈ before, (fun b => decide (b < W.heap.size)) p.block = true := fun p hp => by simpa using hW.lt p hp
  exact ⟨ds, gs, before, [], pa, pv, hW, hres _ _ _, hargs _ hold, hvars _ hold, hk _, fun h => by cases h⟩
/-- A Wide by value reads as its two numbers in every world. -/
theorem shut_wide {W' : World} {base : Nat} {sp : Nat → Bool} {held : Bool} {h l : Int} (wh : (Lit.int .i64 h).wf = true) (wl : (Lit.int .u64 l).wf = true) :
    DataW.Trod enc Try.prog W' base sp held 24 (.agg #[.int .i64 h, .int .u64 l]) (.agg [.lit (.int .i64 h), .lit (.int .u64 l)]) [] :=
  shut_agg2 (y0 := (.lit (.int .i64 h), [])) (y1 := (.lit (.int .u64 l), [])) Try.underlying24 (by kernel_rfl) cells24 ⟨1, by simp [DataW.trod, Try.underlying3, wh]⟩ ⟨1, by simp [DataW.trod, Try.underlying22, wl]⟩
end

/-! The contracts with the pair written out. -/
theorem of_u (n : Int) (w : World) (h1 : -9223372036854775808 ≤ n) (h2 : n ≤ 9223372036854775807) :
    Calls Try.prog 20 #[.int .i64 n] w fun e w' => e = .returned (.agg #[.int .i64 (hi n), .int .u64 (lo n)]) ∧ Go.RowKit.Below w.heap.size w w' := of_b n w h1 h2
theorem add_u (a b : Int) (w : World) :
    Calls Try.prog 14 #[.agg #[.int .i64 (hi a), .int .u64 (lo a)], .agg #[.int .i64 (hi b), .int .u64 (lo b)]] w fun e w' => e = .returned (.agg #[.int .i64 (hi (a + b)), .int .u64 (lo (a + b))]) ∧ Go.RowKit.Below w.heap.size w w' := add_b rfl rfl w
theorem sub_u (a b : Int) (w : World) :
    Calls Try.prog 16 #[.agg #[.int .i64 (hi a), .int .u64 (lo a)], .agg #[.int .i64 (hi b), .int .u64 (lo b)]] w fun e w' => e = .returned (.agg #[.int .i64 (hi (a - b)), .int .u64 (lo (a - b))]) ∧ Go.RowKit.Below w.heap.size w w' := sub_b rfl rfl w
theorem neg_u (a : Int) (w : World) :
    Calls Try.prog 18 #[.agg #[.int .i64 (hi a), .int .u64 (lo a)]] w fun e w' => e = .returned (.agg #[.int .i64 (hi (-a)), .int .u64 (lo (-a))]) ∧ Go.RowKit.Below w.heap.size w w' := neg_b rfl w
theorem mul_u (a b : Int) (w : World) (h1 : -9223372036854775808 ≤ a) (h2 : a ≤ 9223372036854775807) (h3 : -9223372036854775808 ≤ b) (h4 : b ≤ 9223372036854775807) :
    Calls Try.prog 24 #[.int .i64 a, .int .i64 b] w fun e w' => e = .returned (.agg #[.int .i64 (hi (a * b)), .int .u64 (lo (a * b))]) ∧ Go.RowKit.Below w.heap.size w w' := mul_any a b w h1 h2 h3 h4
theorem scale_u (a n : Int) (w : World) (h1 : -9223372036854775808 ≤ n) (h2 : n ≤ 9223372036854775807) :
    Calls Try.prog 26 #[.agg #[.int .i64 (hi a), .int .u64 (lo a)], .int .i64 n] w fun e w' => e = .returned (.agg #[.int .i64 (hi (a * n)), .int .u64 (lo (a * n))]) ∧ Go.RowKit.Below w.heap.size w w' := scale_any n rfl w h1 h2

/-! Regions whose order is open, whose operations only read and whose calls make memory. -/
section
variable {P : Program}
theorem below_of {w w' : World} (h : ∃ p : Regrown, w' = Sort.grow (redrawn w p.d) p.os) : Below w.heap.size w w' := by
  obtain ⟨p, rfl⟩ := h; exact below_regrown w p.d p.os
end
end Go.Proofs.Ytdppmppipbbepaa
