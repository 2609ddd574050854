/- Short names. -/
import Derived.Lib.Hide
import Derived.Below
import Derived.Deep.RegionHeld
namespace Go.Proofs.YtbahfelnbofjjaaGreatDoor
abbrev L_a:=@List.length_append
abbrev L_b:=@List.length_cons
abbrev L_c:=@decide_eq_true_eq
abbrev L_d:=@Bool.and_eq_true
abbrev L_e:=@List.mem_cons_self
abbrev L_f:=@Nat.le_trans
abbrev L_g:=@List.cons_append
abbrev L_h:=@List.mem_cons_of_mem
abbrev L_i:=@List.append_assoc
abbrev L_j:=@List.length_nil
abbrev L_k:=@Bool.false_and
abbrev L_l:=@Bool.true_and
abbrev L_m:=@beq_eq_false_iff_ne
abbrev L_n:=@List.append_nil
abbrev L_o:=@Nat.lt_succ_of_lt
abbrev L_p:=@List.map_cons
abbrev L_q:=@List.take_of_length_le
theorem Hy {p : Prop} (h : p) : Go.RowKit.Hid p := Lib.hid h
theorem _root_.Go.RowKit.Hid.o {p : Prop} (h : Go.RowKit.Hid p) : p := h.out
theorem _root_.Go.Shut.o {p : Prop} (h : Go.Shut p) : p := h.out
theorem sz : (∀ {a b : Go.Value} {l : List Go.Value}, (a :: l).set 0 b = b :: l) ∧ ∀ {a b : Go.Value} {l : List Go.Value} {n : Nat}, (a :: l).set (n + 1) b = a :: l.set n b := ⟨rfl, rfl⟩
theorem sz2 {α : Type _} {l : List α} {n : Nat} : l.toArray[n]? = l[n]? := List.getElem?_toArray
theorem sz3 {α : Type _} {a : α} {l : List α} : (a :: l)[0]? = some a := rfl
theorem sz4 {α : Type _} {a : α} {l : List α} {n : Nat} : (a :: l)[n + 1]? = l[n]? := List.getElem?_cons_succ
theorem sz5 {α : Type _} {l : List α} {i : Nat} {a : α} : l.toArray.setIfInBounds i a = (l.set i a).toArray := List.setIfInBounds_toArray ..
theorem dT {p : Prop} [i : Decidable p] (h : p) : decide p = true := decide_eq_true h
theorem dF {p : Prop} [i : Decidable p] (h : ¬p) : decide p = false := decide_eq_false h
theorem bF {α : Type _} [BEq α] [LawfulBEq α] {a b : α} (h : a ≠ b) : (a == b) = false := beq_eq_false_iff_ne.2 h
theorem lr {n : Nat} : n ≤ n := Nat.le_refl n
theorem zl {n : Nat} : 0 ≤ n := Nat.zero_le n
theorem ls {n : Nat} : n < n + 1 := Nat.lt_succ_self n
end Go.Proofs.YtbahfelnbofjjaaGreatDoor
