/-
  Lists of strings of the call's own; lexer.Join.
-/
import Derived.Test.YtkgclmikhpjheaaGreatDoorShelf
import Derived.Test.YtkgclmikhpjheaaGreatDoorVMc
namespace Go.Proofs.YtkgclmikhpjheaaGreatDoor
open Go.RowKit dec

/-! Lists of strings of the call's own. -/
def OS (w : World) (base : Nat) (v : Value) (l : List ByteArray) : Prop := w.ownsRow base 9 1 v l.length (l.map Value.string)
theorem OS.nil (w : World) (base : Nat) : OS w base (.slice none 0 0) [] := World.ownsRow_nil _ _ _ _
theorem OS.keeps {w w1 : World} {base : Nat} {v : Value} {l : List ByteArray} (h : OS w base v l) (hb : Below w.heap.size w w1) : OS w1 base v l := by
  obtain ⟨h1, h2⟩ := h
  refine ⟨h1, ?_⟩
  rcases h2 with h0 | ⟨g, cap, cur, e, hbg, hh, r⟩
  · exact .inl h0
  · refine .inr ⟨g, cap, cur, e, hbg, ?_, r⟩
    have : g < w.heap.size := by
      rcases Nat.lt_or_ge g w.heap.size with h' | h'
      · exact h'
      · rw [Array.getElem?_eq_none h'] at hh; cases hh
    rw [hb.block _ this]
    exact hh
theorem so_size (x : Tk) : (so x).length ≤ x.t.size + 2 := by
  unfold so
  split
  · simp only [List.length_cons, List.length_append, List.length_nil, str_len]
    omega
  · rw [str_len]
    omega
end Go.Proofs.YtkgclmikhpjheaaGreatDoor
