/-
  Meet and Bounds, and their references.
-/
import Derived.Test.YtdhdofgdeljajaaSml
namespace Go.Proofs.Ytdhdofgdeljajaa
open Go.RowKit

/-- The block b holds an interval and may be written. -/
structure Bw (w : World) (b : Nat) (x y : Int) : Prop where
  c0 : w.cell? ⟨b, 0, none⟩ = some (.int .i64 x)
  c1 : w.cell? ⟨b, 1, none⟩ = some (.int .i64 y)
  f0 : w.frozen? ⟨b, 0, none⟩ = false
  f1 : w.frozen? ⟨b, 1, none⟩ = false
theorem Bw.lt {w : World} {b : Nat} {x y : Int} (h : Bw w b x y) : b < w.heap.size := block_lt_of_cell h.c0
theorem Bw.new (w : World) (x y : Int) (T : TypeId) : Bw (w.alloc (.cells #[.int .i64 x, .int .i64 y] T)) w.heap.size x y := ⟨by simp [go_sem], by simp [go_sem], by simp [go_sem], by simp [go_sem]⟩
theorem Bw.keeps' {w w1 : World} {B b : Nat} {x y : Int} (h : Bw w b x y) (hb : Below B w w1) (hl : b < B) : Bw w1 b x y :=
  ⟨(hb.cell hl).trans h.c0, (hb.cell hl).trans h.c1, (hb.frozen (p := ⟨b, 0, none⟩) hl).trans h.f0, (hb.frozen (p := ⟨b, 1, none⟩) hl).trans h.f1⟩
theorem Bw.keeps {w w1 : World} {b : Nat} {x y : Int} (h : Bw w b x y) (hb : Below w.heap.size w w1) : Bw w1 b x y := h.keeps' hb h.lt
theorem Bw.past {w : World} {b : Nat} {x y : Int} (h : Bw w b x y) (o : Obj) : Bw (w.alloc o) b x y := h.keeps (balloc (b0 w) o)
theorem Bw.put {w : World} {b : Nat} {x y : Int} (h : Bw w b x y) (u v : Int) : Bw ((w.setCell ⟨b, 0, none⟩ (.int .i64 u)).setCell ⟨b, 1, none⟩ (.int .i64 v)) b u v := by
  have ne : ∀ {o o' : Nat}, o ≠ o' → (⟨b, o, none⟩ : Addr) ≠ ⟨b, o', none⟩ := fun h e => h (congrArg Addr.off e)
  refine ⟨?_, ?_, by rw [World.frozen?_setCell, World.frozen?_setCell]; exact h.f0, by rw [World.frozen?_setCell, World.frozen?_setCell]; exact h.f1⟩
  · rw [World.cell?_setCell_other _ _ _ _ (ne (by decide))]
    exact World.cell?_setCell_same _ _ _ h.c0
  · exact World.cell?_setCell_same _ _ _ (u := .int .i64 y) (by rw [World.cell?_setCell_other _ _ _ _ (ne (by decide))]; exact h.c1)
theorem put_below {B b : Nat} {W w : World} (h : Below B W w) (hk : B ≤ b) (x y : Value) : Below B W ((w.setCell ⟨b, 0, none⟩ x).setCell ⟨b, 1, none⟩ y) :=
  Below.setCell (p := ⟨b, 1, none⟩) (Below.setCell (p := ⟨b, 0, none⟩) h hk x) hk y
/-- What Meet answers. -/
def mtb (a b : I2) : Bool := okI a && (okI b && okI (max a.1 b.1, min a.2 b.2))
def mtv (a b : I2) : I2 := if mtb a b then (max a.1 b.1, min a.2 b.2) else (0, 0)
theorem mtb_ref (x y u v : Int) : mtb (x, y) (u, v) = (okI (x, y) && (okI (u, v) && decide (max x u ≤ min y v))) := by
  unfold mtb okI
  rw [Bool.eq_iff_iff]
  simp only [Bool.and_eq_true, decide_eq_true_eq]
  omega
theorem max_walk (x u : Int) : (if x < u then u else x) = max x u := by
  split <;> omega
theorem min_walk (y v : Int) : (if v < y then v else y) = min y v := by
  split <;> omega
theorem meet_any (x y u v : Int) (w : World) : Calls Try.prog 11 #[.agg #[.int .i64 x, .int .i64 y], .agg #[.int .i64 u, .int .i64 v]] w fun e w' => e = .returned (.tuple #[.agg #[.int .i64 (mtv (x, y) (u, v)).1, .int .i64 (mtv (x, y) (u, v)).2], .bool (mtb (x, y) (u, v))]) ∧ Below w.heap.size w w' := by
  have e1 := max_walk x u
  have e2 := min_walk y v
  unfold mtv mtb
  simp only
  generalize max x u = p at *
  generalize min y v = q at *
  have C1 := Lib.hid (valid_any x y)
  have C2 := Lib.hid (valid_any u v)
  have C3 := Lib.hid (valid_any p q)
  generalize okI (x, y) = o1 at *
  generalize okI (u, v) = o2 at *
  generalize okI (p, q) = o3 at *
  have A := ((Bw.new w x y 23).past (.cells #[.int .i64 u, .int .i64 v] 23)).past (.cells #[.int .i64 p, .int .i64 q] 23)
  have B := (Bw.new (w.alloc (.cells #[.int .i64 x, .int .i64 y] 23)) u v 23).past (.cells #[.int .i64 p, .int .i64 q] 23)
  have R := Bw.new ((w.alloc (.cells #[.int .i64 x, .int .i64 y] 23)).alloc (.cells #[.int .i64 u, .int .i64 v] 23)) p q 23
  have b1 := balloc (balloc (balloc (b0 w) (.cells #[.int .i64 x, .int .i64 y] 23)) (.cells #[.int .i64 u, .int .i64 v] 23)) (.cells #[.int .i64 p, .int .i64 q] 23)
  rw [alloc_size] at B R
  rw [alloc_size] at R
  replace A := Lib.hid A
  replace B := Lib.hid B
  replace R := Lib.hid R
  replace b1 := Lib.hid b1
  go_enter Try.func11, Try.ntmps11
  go_wp2_with fail
  replace A := A.out
  replace B := B.out
  replace R := R.out
  replace b1 := b1.out
  refine (C1.out _).mono ?_
  rintro e w1 ⟨rfl, d⟩
  replace A := A.keeps d
  replace B := B.keeps d
  replace R := R.keeps d
  replace b1 := bnext b1 d
  clear d C1
  obtain ⟨a0, a1, f0, f1⟩ := A
  obtain ⟨c0, c1, g0, g1⟩ := B
  have R1 := R
  obtain ⟨r0, r1, h0, h1⟩ := R
  cases o1
  · go_wp2_with fail
    obtain ⟨d0, d1, _, _⟩ := R1.put 0 0
    simp [bodyPost, results, Try.results11, go_sem, d0, d1]
    exact put_below b1 (by omega) _ _
  have B : Bw w1 (w.heap.size + 1) u v := ⟨c0, c1, g0, g1⟩
  go_wp2_with fail
  clear c0 c1 g0 g1 r0 r1 h0 h1
  refine (C2.out _).mono ?_
  rintro e w2 ⟨rfl, d⟩
  replace R := R1.keeps d
  replace b1 := bnext b1 d
  clear d C2 R1 B
  have R1 := R
  obtain ⟨r0, r1, h0, h1⟩ := R
  cases o2
  · go_wp2_with fail
    obtain ⟨d0, d1, _, _⟩ := R1.put 0 0
    simp [bodyPost, results, Try.results11, go_sem, d0, d1]
    exact put_below b1 (by omega) _ _
  go_wp2_with fail
  clear r0 r1 h0 h1
  refine (C3.out _).mono ?_
  rintro e w3 ⟨rfl, d⟩
  replace R := R1.keeps d
  replace b1 := bnext b1 d
  clear d C3 R1
  have R1 := R
  obtain ⟨r0, r1, h0, h1⟩ := R
  cases o3
  · go_wp2_with fail
    obtain ⟨d0, d1, _, _⟩ := R1.put 0 0
    simp [bodyPost, results, Try.results11, go_sem, d0, d1]
    exact put_below b1 (by omega) _ _
  · go_wp2_with fail
    obtain ⟨d0, d1, _, _⟩ := R1.put p q
    simp [bodyPost, results, Try.results11, go_sem, d0, d1]
    exact put_below b1 (by omega) _ _
end Go.Proofs.Ytdhdofgdeljajaa
