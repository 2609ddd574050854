/-
  From a walk of a statement to its row: how values come in.
-/
import Derived.Test.YtdhdofgdeljajaaRows
import Derived.Test.YtdhdofgdeljajaaExa
import Derived.ChangeMaps5
import Derived.Deep.CondSized
import Derived.ProofKit
import Derived.Lib.SmallJoins
import Derived.Deep.Slices
import Derived.SizedLaws
import Derived.OpenShut
import Derived.Carry
namespace Go.Proofs.Ytdhdofgdeljajaa
open Go.ChangeShapes Go.WideShapes Go.ChangeAt Go.RowKit Go.Joins

theorem own : ownKnob Try.prog.godebug = none := by kernel_rfl
theorem laidOut : laidOutB Try.prog = true := by kernel_rfl
theorem cellsI : Try.prog.cellsOf 23 = 2 := by kernel_rfl
theorem cellsN : Try.prog.cellsOf 3 = 1 := by kernel_rfl
theorem cellsW : Try.prog.cellsOf 35 = 2 := by kernel_rfl

theorem add_plain (b o i : Nat) : (⟨b, o, none⟩ : Addr).add i = ⟨b, o + i, none⟩ := by
  unfold Addr.add
  by_cases h : i = 0 <;> simp [h]
set_option maxRecDepth 100000 in
/-- One interval out of its two cells. -/
theorem iv_at {H : Type} {enc : TypeId × Value → H} {w : World} {base : Nat} {spare : Nat → Bool} {held : Bool} {m : Nat} {ad : Addr} {cs : List Value} {x : DataW H × List MemPlace}
    (h1 : w.cells? base ad (Try.prog.cellsOf 23) = some cs) (h2 : DataW.trod enc Try.prog w base spare held m 23 cs = some x) :
    ∃ q : Int × Int, w.cell? (ad.add 0) = some (.int .i64 q.1) ∧ w.cell? (ad.add 1) = some (.int .i64 q.2) := by
  rw [cellsI] at h1
  obtain ⟨_, hlen, hcell⟩ := World.cells?_some h1
  obtain ⟨y0, y1, k, _, _, g0, g1⟩ := trod_struct2 Try.underlying23 h2
  match cs, hlen with
  | [v0, v1], _ =>
    simp only [cellsN, List.drop_zero, List.take_succ_cons, List.take_zero, List.drop_succ_cons] at g0 g1
    obtain ⟨n0, e0, _, u0⟩ := DataW.trod_int Try.underlying3 g0
    obtain ⟨n1, e1, _, u1⟩ := DataW.trod_int Try.underlying3 g1
    simp only [List.cons.injEq, and_true] at e0 e1
    subst e0 e1
    exact ⟨(n0, n1), by simpa using hcell 0 (by omega), by simpa using hcell 1 (by omega)⟩
theorem sl_of {H : Type} {enc : TypeId × Value → H} {w : World} {fuel : Nat} {a : Option Addr} {n cap : Nat} {d : DataW H} {ps : List MemPlace}
    (h : DataW.trod enc Try.prog w 0 (fun _ => true) true fuel 24 [.slice a n cap] = some (d, ps)) : ∃ l, Sl w a n cap l := by
  rcases Go.Deep.open_slice Try.underlying24 h with ⟨hcs, _⟩ | ⟨x, l, c, m, k, D, Pl, hcs, _, hl, hm, hmm, hx, hel⟩
  · simp at hcs
    obtain ⟨rfl, rfl, rfl⟩ := hcs
    exact ⟨[], .nil _⟩
  · simp at hcs
    obtain ⟨rfl, rfl, rfl⟩ := hcs
    simp at hmm
    subst hmm
    have hmx := hm
    unfold maxLen at hmx
    obtain ⟨q, hq⟩ := Go.Deep.choose_lt (fun i hi => by
      obtain ⟨cs', h1, h2⟩ := hel i hi
      exact iv_at h1 h2)
    refine ⟨(List.range n).map q, ?_, by simp, hl, by omega, fun h => by cases h⟩
    by_cases h0 : n = 0
    · exact .inl (by simp [h0])
    obtain ⟨b, off, spot⟩ := x
    have hc := (hq 0 (by omega)).1
    have hspot : spot = none := by simpa [Addr.add] using World.cell?_spot hc
    subst hspot
    refine .inr ⟨b, off, rfl, fun j hj => ?_⟩
    have hj' : j < n := by simpa using hj
    have e : gt ((List.range n).map q) j = q j := by
      rw [gt_eq hj]
      simp
    obtain ⟨k0, k1⟩ := hq j (by omega)
    rw [cellsI, Go.Deep.add_add] at k0 k1
    rw [e]
    refine ⟨by simpa [add_plain] using k0, by simpa [add_plain, Nat.add_assoc] using k1⟩
theorem sn_of {H : Type} {enc : TypeId × Value → H} {w : World} {fuel : Nat} {a : Option Addr} {n cap : Nat} {d : DataW H} {ps : List MemPlace}
    (h : DataW.trod enc Try.prog w 0 (fun _ => true) true fuel 38 [.slice a n cap] = some (d, ps)) : ∃ l, Sn w a n cap l ∧ ∀ x ∈ l, -9223372036854775808 ≤ x ∧ x ≤ 9223372036854775807 := by
  rcases Go.Deep.open_slice1 Try.underlying38 cellsN h with ⟨hcs, hd⟩ | ⟨x, l, c, m, k, V, D, Pl, hcs, _, hl, hm, hmm, hx, hel⟩
  · simp at hcs
    obtain ⟨rfl, rfl, rfl⟩ := hcs
    exact ⟨[], .nil _, fun x h => by cases h⟩
  · simp at hcs
    obtain ⟨rfl, rfl, rfl⟩ := hcs
    simp at hmm
    subst hmm
    have hmx := hm
    unfold maxLen at hmx
    obtain ⟨q, hq⟩ : ∃ q : Nat → Int, ∀ i, i < n → w.cell? (x.add i) = some (.int .i64 (q i)) ∧ (-9223372036854775808 ≤ q i ∧ q i ≤ 9223372036854775807) := Go.Deep.choose_lt (p := fun i (v : Int) => w.cell? (x.add i) = some (.int .i64 v) ∧ (-9223372036854775808 ≤ v ∧ v ≤ 9223372036854775807)) (fun i hi => by
      obtain ⟨h1, h2⟩ := hel i (by omega)
      obtain ⟨v, e, _, u⟩ := DataW.trod_int Try.underlying3 h2
      simp only [List.cons.injEq, and_true] at e
      exact ⟨v, by rw [h1, e], bounds_i64 u⟩)
    refine ⟨(List.range n).map q, ⟨?_, by simp, hl, by omega, fun h => by cases h⟩, fun x hx => by simp only [List.mem_map, List.mem_range] at hx; obtain ⟨i, hi, rfl⟩ := hx; exact (hq i hi).2⟩
    by_cases h0 : n = 0
    · exact .inl (by simp [h0])
    obtain ⟨b, off, spot⟩ := x
    have hc := (hq 0 (by omega)).1
    have hspot : spot = none := by simpa [Addr.add] using World.cell?_spot hc
    subst hspot
    refine .inr ⟨b, off, rfl, fun j hj => ?_⟩
    have hj' : j < n := by simpa using hj
    have e : gn ((List.range n).map q) j = q j := by
      rw [gn_eq hj]
      simp
    have k0 := (hq j hj').1
    rw [e]
    simpa [add_plain] using k0
set_option maxRecDepth 100000 in
theorem open_iv {H : Type} {enc' : TypeId × Value → H} {Z : World} {r : Reach} {b0 : Nat} {sp : Nat → Bool} {hd : Bool} {v : Value} {d : DataW H} {p : List MemPlace} (hv : Value.okWide Try.prog Z r b0 23 v) (h : DataW.Trod enc' Try.prog Z 0 sp hd 23 v d p) :
    ∃ x y : Int, v = .agg #[.int .i64 x, .int .i64 y] := by
  obtain ⟨v0, v1, y0, y1, m, rfl, rfl, rfl, h0, h1⟩ := open_agg2 Try.underlying23 (by kernel_rfl) cellsI hv h
  obtain ⟨k, e0, _, w0⟩ := DataW.trod_int Try.underlying3 h0
  obtain ⟨n, e1, _, w1⟩ := DataW.trod_int Try.underlying3 h1
  simp only [List.cons.injEq, and_true] at e0 e1
  subst e0 e1
  exact ⟨k, n, rfl⟩
set_option maxRecDepth 100000 in
theorem open_win {H : Type} {enc' : TypeId × Value → H} {Z : World} {r : Reach} {b0 : Nat} {sp : Nat → Bool} {hd : Bool} {v : Value} {d : DataW H} {p : List MemPlace} (hv : Value.okWide Try.prog Z r b0 35 v) (h : DataW.Trod enc' Try.prog Z 0 sp hd 35 v d p) :
    ∃ x y : Int, v = .agg #[.int .i64 x, .int .i64 y] := by
  obtain ⟨v0, v1, y0, y1, m, rfl, rfl, rfl, h0, h1⟩ := open_agg2 Try.underlying35 (by kernel_rfl) cellsW hv h
  obtain ⟨k, e0, _, w0⟩ := DataW.trod_int Try.underlying3 h0
  obtain ⟨n, e1, _, w1⟩ := DataW.trod_int Try.underlying3 h1
  simp only [List.cons.injEq, and_true] at e0 e1
  subst e0 e1
  exact ⟨k, n, rfl⟩
end Go.Proofs.Ytdhdofgdeljajaa
