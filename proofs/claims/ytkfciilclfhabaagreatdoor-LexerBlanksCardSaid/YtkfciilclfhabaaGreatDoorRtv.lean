/-
  A variable that holds a token and may be written; what the reference's token hands back.
-/
import Derived.Test.YtkfciilclfhabaaGreatDoorRgs
import Derived.Test.YtkfciilclfhabaaGreatDoorDecA
import Derived.Test.YtkfciilclfhabaaGreatDoorCvf
namespace Go.Proofs.YtkfciilclfhabaaGreatDoor.tk
open Go.RowKit dec

/-- The block b holds a token and may be written. -/
structure Ww (w : World) (b : Nat) (x : Tk) : Prop where
  val : Bw w b x
  f0 : w.frozen? ⟨b, 0, none⟩ = false
  f1 : w.frozen? ⟨b, 1, none⟩ = false
  f2 : w.frozen? ⟨b, 2, none⟩ = false
theorem Ww.new (w : World) (x : Tk) (T : TypeId) : Ww (w.alloc (.cells #[.int .i64 (x).k, .string (x).t, .int .i64 (x).a] T)) w.heap.size x := ⟨Bw.new w x T, by simp [go_sem], by simp [go_sem], by simp [go_sem]⟩
theorem Ww.keeps {w w1 : World} {b : Nat} {x : Tk} (h : Ww w b x) (hb : Below w.heap.size w w1) : Ww w1 b x :=
  ⟨h.val.keeps hb, by rw [hb.frozen (p := ⟨b, 0, none⟩) h.val.lt]; exact h.f0, by rw [hb.frozen (p := ⟨b, 1, none⟩) h.val.lt]; exact h.f1, by rw [hb.frozen (p := ⟨b, 2, none⟩) h.val.lt]; exact h.f2⟩
/-- A token is stored. -/
theorem Bw.put {w : World} {b : Nat} {x : Tk} (h : Bw w b x) (y : Tk) :
    Bw (((w.setCell ⟨b, 0, none⟩ (.int .i64 y.k)).setCell ⟨b, 1, none⟩ (.string y.t)).setCell ⟨b, 2, none⟩ (.int .i64 y.a)) b y := by
  have ne : ∀ {o o' : Nat}, o ≠ o' → (⟨b, o, none⟩ : Addr) ≠ ⟨b, o', none⟩ := fun h e => h (congrArg Addr.off e)
  refine ⟨?_, ?_, ?_⟩
  · rw [World.cell?_setCell_other _ _ _ _ (ne (by decide)), World.cell?_setCell_other _ _ _ _ (ne (by decide))]
    exact World.cell?_setCell_same _ _ _ h.1
  · rw [World.cell?_setCell_other _ _ _ _ (ne (by decide))]
    exact World.cell?_setCell_same _ _ _ (u := .string x.t) (by rw [World.cell?_setCell_other _ _ _ _ (ne (by decide))]; exact h.2)
  · exact World.cell?_setCell_same _ _ _ (u := .int .i64 x.a) (by rw [World.cell?_setCell_other _ _ _ _ (ne (by decide)), World.cell?_setCell_other _ _ _ _ (ne (by decide))]; exact h.3)
theorem put_below {B b : Nat} {W w : World} (h : Below B W w) (hk : B ≤ b) (x y z : Value) : Below B W (((w.setCell ⟨b, 0, none⟩ x).setCell ⟨b, 1, none⟩ y).setCell ⟨b, 2, none⟩ z) :=
  Below.setCell (p := ⟨b, 2, none⟩) (Below.setCell (p := ⟨b, 1, none⟩) (Below.setCell (p := ⟨b, 0, none⟩) h hk x) hk y) hk z
end Go.Proofs.YtkfciilclfhabaaGreatDoor.tk
namespace Go.Proofs.YtkfciilclfhabaaGreatDoor
open Go.RowKit dec
/-- What the reference's token hands back where l begins. -/
def TkA (w w' : World) (e : Ending) (l : List UInt8) (i : Nat) : Prop :=
  ∃ x : Tk, e = .returned (.tuple #[.agg #[.int .i64 x.k, .string x.t, .int .i64 x.a], .int .i64 ((if (shp l).1 = 0 then 0 else (shp l).2 : Nat) : Int), .int .i64 (flt (shp l).1 (l.take (shp l).2))])
    ∧ (flt (shp l).1 (l.take (shp l).2) = 0 → x = ⟨(shp l).1, ⟨(cont (shp l).1 (l.take (shp l).2)).toArray⟩, (i : Nat)⟩) ∧ Below w.heap.size w w'
theorem TkA.mk {w w' : World} {e : Ending} {l : List UInt8} {i : Nat} {k : Int} {n m : Nat} {c : Int} (hs : shp l = (k, n)) (hm : m = if k = 0 then 0 else n) (hc : flt k (l.take n) = c) (x : Tk)
    (he : e = .returned (.tuple #[.agg #[.int .i64 x.k, .string x.t, .int .i64 x.a], .int .i64 (m : Nat), .int .i64 c])) (hx : c = 0 → x = ⟨k, ⟨(cont k (l.take n)).toArray⟩, (i : Nat)⟩) (hb : Below w.heap.size w w') : TkA w w' e l i := by
  unfold TkA
  rw [hs]
  simp only [hc]
  refine ⟨x, ?_, hx, hb⟩
  rw [he, hm]
theorem sgn_none {c : UInt8} (h1 : c.toNat ≠ 61) (h2 : c.toNat ≠ 33) (h3 : c.toNat ≠ 60) (h4 : isS c = false) (r : List UInt8) : sgn (c :: r) = (0, 1) := by
  rw [sgn_cons, if_neg (by omega), h4]
  rfl
/-- A text, or a quote alone. -/
theorem shp_quote (s : ByteArray) {i : Nat} (hi : i < s.size) (h : s[i].toNat = 34) : shp (s.data.toList.drop i) =
    if ((s.data.toList.drop (i + 1)).drop (run isQ (s.data.toList.drop (i + 1)))).head? = some 34 then (4, run isQ (s.data.toList.drop (i + 1)) + 2) else (0, 1) := by
  have hL : isL s[i] = false := by unfold isL; rw [h]; decide
  have hD : isD s[i] = false := by
    cases hd : isD s[i]
    · rfl
    · have := (isD_iff _).1 hd; omega
  have h4 : isS s[i] = false := by unfold isS; rw [h]; decide
  rw [at_drop s hi, shp_cons, hL, hD]
  simp only [Bool.false_eq_true, if_false, h, true_and]
  split
  · rfl
  · exact sgn_none (by omega) (by omega) (by omega) h4 _
theorem cont_text {l : List UInt8} {n : Nat} (h : n + 2 ≤ l.length) : cont 4 (l.take (n + 2)) = (l.drop 1).take n := by
  unfold cont
  rw [if_pos rfl, List.length_take, show min (n + 2) l.length - 2 = n by omega, List.drop_take, List.take_take]
  congr 1
  omega
end Go.Proofs.YtkfciilclfhabaaGreatDoor
