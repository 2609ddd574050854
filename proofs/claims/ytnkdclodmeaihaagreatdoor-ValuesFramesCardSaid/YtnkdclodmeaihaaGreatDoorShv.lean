/-
  asoflaw05.short; values in worlds where only memory has grown.
-/
import Derived.Test.YtnkdclodmeaihaaGreatDoorExa
namespace Go.Proofs.YtnkdclodmeaihaaGreatDoor
open Go.RowKit dec

theorem short_any (k n : Int) (s : ByteArray) (w : World) : Calls Tryz.prog 6 #[.agg #[.int .i64 k, .int .i64 n, .string s]] w fun e w' => e = .returned (.bool (decide (s.size ≤ 300))) ∧ Below w.heap.size w w' := by
  go_enter Tryz.func6, Tryz.ntmps6
  go_wp2_with fail
  go_ret
  have hd : decide ((s.size : Int) ≤ 300) = decide (s.size ≤ 300) := by
    by_cases h : s.size ≤ 300
    · rw [decide_eq_true h, decide_eq_true (by omega)]
    · rw [decide_eq_false h, decide_eq_false (by omega)]
  exact ⟨congrArg (fun b => Ending.returned (Value.bool b)) hd, balloc (b0 w) _⟩
/-- .. in every world of the class. -/
theorem Vx.grown {w : World} {b : Nat} {k n : Int} {s : ByteArray} (h : Vx w b k n s) :
    (∀ d os, (Sort.grow (redrawn w d) os).cell? ⟨b, 0, none⟩ = some (.int .i64 k)) ∧ (∀ d os, (Sort.grow (redrawn w d) os).cell? ⟨b, 1, none⟩ = some (.int .i64 n)) ∧ ∀ d os, (Sort.grow (redrawn w d) os).cell? ⟨b, 2, none⟩ = some (.string s) :=
  ⟨cell_regrown h.1, cell_regrown h.2.1, cell_regrown h.2.2⟩
/-- A type in memory. -/
def Tx (w : World) (b : Nat) (t : Int) (a : Option Addr) (m c : Nat) (o : ByteArray) : Prop := w.cell? ⟨b, 0, none⟩ = some (.int .i64 t) ∧ w.cell? ⟨b, 1, none⟩ = some (.slice a m c) ∧ w.cell? ⟨b, 2, none⟩ = some (.string o)
theorem Tx.new (w : World) (t : Int) (a : Option Addr) (m c : Nat) (o : ByteArray) (T : TypeId) : Tx (w.alloc (.cells #[.int .i64 t, .slice a m c, .string o] T)) w.heap.size t a m c o := ⟨by simp [go_sem], by simp [go_sem], by simp [go_sem]⟩
theorem Tx.keeps {w w1 : World} {b : Nat} {t : Int} {a : Option Addr} {m c : Nat} {o : ByteArray} (h : Tx w b t a m c o) (hb : Below w.heap.size w w1) : Tx w1 b t a m c o := ⟨Go.Proofs.YtnkdclodmeaihaaGreatDoor.keeps hb h.1, Go.Proofs.YtnkdclodmeaihaaGreatDoor.keeps hb h.2.1, Go.Proofs.YtnkdclodmeaihaaGreatDoor.keeps hb h.2.2⟩
theorem Tx.grown {w : World} {b : Nat} {t : Int} {a : Option Addr} {m c : Nat} {o : ByteArray} (h : Tx w b t a m c o) :
    (∀ d os, (Sort.grow (redrawn w d) os).cell? ⟨b, 0, none⟩ = some (.int .i64 t)) ∧ (∀ d os, (Sort.grow (redrawn w d) os).cell? ⟨b, 1, none⟩ = some (.slice a m c)) ∧ ∀ d os, (Sort.grow (redrawn w d) os).cell? ⟨b, 2, none⟩ = some (.string o) :=
  ⟨cell_regrown h.1, cell_regrown h.2.1, cell_regrown h.2.2⟩
theorem below_of {w w' : World} (h : ∃ p : Regrown, w' = Sort.grow (redrawn w p.d) p.os) : Below w.heap.size w w' := by
  obtain ⟨p, rfl⟩ := h
  exact below_regrown w p.d p.os
/-- A contract in every world of the class. -/
theorem all_grown {f : FuncId} {args : Array Value} {v : Value} (h : ∀ W, Calls Tryz.prog f args W fun e w' => e = .returned v ∧ Below W.heap.size W w') (w : World) :
    ∀ d os, Calls Tryz.prog f args (Sort.grow (redrawn w d) os) fun e w'' => e = .returned v ∧ ∃ p : Regrown, w'' = Sort.grow (redrawn w p.d) p.os := fun _ _ => Calls.regrown_of (h _)
end Go.Proofs.YtnkdclodmeaihaaGreatDoor
