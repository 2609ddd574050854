/-
  Short names.
-/
import Derived.Lib.Hide
import Derived.Below
import Derived.Deep.RegionHeld
namespace Go.Proofs.YtbahfelnbofjjaaGreatDoor
theorem Hy {p : Prop} (h : p) : Go.RowKit.Hid p := Lib.hid h
theorem _root_.Go.RowKit.Hid.o {p : Prop} (h : Go.RowKit.Hid p) : p := h.out
theorem _root_.Go.Shut.o {p : Prop} (h : Go.Shut p) : p := h.out
theorem sz0 {α : Type _} {a b : α} {l : List α} : (a :: l).set 0 b = b :: l := rfl
theorem sz1 {α : Type _} {a b : α} {l : List α} {n : Nat} : (a :: l).set (n + 1) b = a :: l.set n b := rfl
theorem sz2 {α : Type _} {l : List α} {n : Nat} : l.toArray[n]? = l[n]? := List.getElem?_toArray
theorem sz3 {α : Type _} {a : α} {l : List α} : (a :: l)[0]? = some a := rfl
theorem sz4 {α : Type _} {a : α} {l : List α} {n : Nat} : (a :: l)[n + 1]? = l[n]? := List.getElem?_cons_succ
theorem sz5 {α : Type _} {l : List α} {i : Nat} {a : α} : l.toArray.setIfInBounds i a = (l.set i a).toArray := List.setIfInBounds_toArray ..
theorem dT {p : Prop} [i : Decidable p] (h : p) : decide p = true := decide_eq_true h
theorem dF {p : Prop} [i : Decidable p] (h : ¬p) : decide p = false := decide_eq_false h
theorem bF {α : Type _} [BEq α] [LawfulBEq α] {a b : α} (h : a ≠ b) : (a == b) = false := beq_eq_false_iff_ne.2 h
theorem lr {n : Nat} : n ≤ n := Nat.le_refl n
theorem zl {n : Nat} : 0 ≤ n := Nat.zero_le n
theorem ls {n : Nat} : n < n + 1 := Nat.lt_succ_self n
end Go.Proofs.YtbahfelnbofjjaaGreatDoor
