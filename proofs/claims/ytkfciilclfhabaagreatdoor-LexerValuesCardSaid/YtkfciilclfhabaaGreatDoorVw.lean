/-
  A variable that holds a value and may be written.
-/
import Derived.Test.YtkfciilclfhabaaGreatDoorChk
import Derived.Test.YtkfciilclfhabaaGreatDoorDecA
namespace Go.Proofs.YtkfciilclfhabaaGreatDoor
open Go.RowKit dec

/-- The block b holds a value and may be written. -/
structure Vw (w : World) (b : Nat) (k n : Int) (s : ByteArray) : Prop where
  val : Vx w b k n s
  f0 : w.frozen? ⟨b, 0, none⟩ = false
  f1 : w.frozen? ⟨b, 1, none⟩ = false
  f2 : w.frozen? ⟨b, 2, none⟩ = false
theorem Vx.lt {w : World} {b : Nat} {k n : Int} {s : ByteArray} (h : Vx w b k n s) : b < w.heap.size := block_lt_of_cell h.1
theorem Vw.new (w : World) (k n : Int) (s : ByteArray) (T : TypeId) : Vw (w.alloc (.cells #[.int .i64 k, .int .i64 n, .string s] T)) w.heap.size k n s := ⟨Vx.new w k n s T, by simp [go_sem], by simp [go_sem], by simp [go_sem]⟩
theorem Vw.keeps {w w1 : World} {b : Nat} {k n : Int} {s : ByteArray} (h : Vw w b k n s) (hb : Below w.heap.size w w1) : Vw w1 b k n s :=
  ⟨h.val.keeps hb, by rw [hb.frozen (p := ⟨b, 0, none⟩) h.val.lt]; exact h.f0, by rw [hb.frozen (p := ⟨b, 1, none⟩) h.val.lt]; exact h.f1, by rw [hb.frozen (p := ⟨b, 2, none⟩) h.val.lt]; exact h.f2⟩
theorem Vw.keeps' {w w1 : World} {B b : Nat} {k n : Int} {s : ByteArray} (h : Vw w b k n s) (hb : Below B w w1) (hl : b < B) : Vw w1 b k n s :=
  ⟨⟨(hb.cell hl).trans h.val.1, (hb.cell hl).trans h.val.2.1, (hb.cell hl).trans h.val.2.2⟩, by rw [hb.frozen (p := ⟨b, 0, none⟩) hl]; exact h.f0, by rw [hb.frozen (p := ⟨b, 1, none⟩) hl]; exact h.f1, by rw [hb.frozen (p := ⟨b, 2, none⟩) hl]; exact h.f2⟩
/-- A value is stored. -/
theorem Vx.put {w : World} {b : Nat} {k n : Int} {s : ByteArray} (h : Vx w b k n s) (k' n' : Int) (s' : ByteArray) :
    Vx (((w.setCell ⟨b, 0, none⟩ (.int .i64 k')).setCell ⟨b, 1, none⟩ (.int .i64 n')).setCell ⟨b, 2, none⟩ (.string s')) b k' n' s' := by
  have ne : ∀ {o o' : Nat}, o ≠ o' → (⟨b, o, none⟩ : Addr) ≠ ⟨b, o', none⟩ := fun h e => h (congrArg Addr.off e)
  refine ⟨?_, ?_, ?_⟩
  · rw [World.cell?_setCell_other _ _ _ _ (ne (by decide)), World.cell?_setCell_other _ _ _ _ (ne (by decide))]
    exact World.cell?_setCell_same _ _ _ h.1
  · rw [World.cell?_setCell_other _ _ _ _ (ne (by decide))]
    exact World.cell?_setCell_same _ _ _ (u := .int .i64 n) (by rw [World.cell?_setCell_other _ _ _ _ (ne (by decide))]; exact h.2.1)
  · exact World.cell?_setCell_same _ _ _ (u := .string s) (by rw [World.cell?_setCell_other _ _ _ _ (ne (by decide)), World.cell?_setCell_other _ _ _ _ (ne (by decide))]; exact h.2.2)
theorem Vw.put {w : World} {b : Nat} {k n : Int} {s : ByteArray} (h : Vw w b k n s) (k' n' : Int) (s' : ByteArray) :
    Vw (((w.setCell ⟨b, 0, none⟩ (.int .i64 k')).setCell ⟨b, 1, none⟩ (.int .i64 n')).setCell ⟨b, 2, none⟩ (.string s')) b k' n' s' :=
  ⟨h.val.put k' n' s', by rw [World.frozen?_setCell, World.frozen?_setCell, World.frozen?_setCell]; exact h.f0, by rw [World.frozen?_setCell, World.frozen?_setCell, World.frozen?_setCell]; exact h.f1, by rw [World.frozen?_setCell, World.frozen?_setCell, World.frozen?_setCell]; exact h.f2⟩
theorem put_below {B b : Nat} {W w : World} (h : Below B W w) (hk : B ≤ b) (x y z : Value) : Below B W (((w.setCell ⟨b, 0, none⟩ x).setCell ⟨b, 1, none⟩ y).setCell ⟨b, 2, none⟩ z) :=
  Below.setCell (p := ⟨b, 2, none⟩) (Below.setCell (p := ⟨b, 1, none⟩) (Below.setCell (p := ⟨b, 0, none⟩) h hk x) hk y) hk z
end Go.Proofs.YtkfciilclfhabaaGreatDoor
