/-
  From a walk of a statement to its row: a slice of bytes that came in.
-/
import Derived.Test.YtchmnnagbnpijaaRows
import Derived.Test.YtchmnnagbnpijaaExample
import Derived.ProofKit
import Derived.Lib.SmallJoins
import Derived.Deep.Slices
import Derived.SizedLaws
import Derived.OpenShut
import Derived.Carry
namespace Go.Proofs.Ytchmnnagbnpijaa
open Go.ChangeShapes Go.WideShapes Go.ChangeAt Go.RowKit Go.Joins

theorem own : ownKnob Try.prog.godebug = none := by kernel_rfl
theorem laidOut : laidOutB Try.prog = true := by kernel_rfl
theorem cells5 : Try.prog.cellsOf 5 = 1 := by kernel_rfl
theorem bytes5 : Try.prog.bytesOf 5 = 1 := by kernel_rfl

/-- What a walk is told of a slice of bytes. -/
def Lies (w : World) (a : Option Addr) (n cap : Nat) (f : Nat → Nat) : Prop := At w a n f ∧ n ≤ cap ∧ cap ≤ 9223372036854775807 ∧ n ≤ 140737488351232 ∧ (a = none → cap = 0)
theorem Lies.keeps {w w1 : World} {a : Option Addr} {n cap : Nat} {f : Nat → Nat} (h : Lies w a n cap f) (hb : Below w.heap.size w w1) : Lies w1 a n cap f := ⟨h.1.keeps hb, h.2⟩

theorem bounds_u8 {n : Int} (h : (Lit.int .u8 n).wf = true) : 0 ≤ n ∧ n ≤ 255 := by
  have hmin : IntKind.u8.min = 0 := rfl
  have hmax : IntKind.u8.max = 255 := rfl
  simp only [Lit.wf, Bool.and_eq_true, decide_eq_true_eq] at h
  omega
theorem bounds_u32 {n : Int} (h : (Lit.int .u32 n).wf = true) : 0 ≤ n ∧ n ≤ 4294967295 := by
  have hmin : IntKind.u32.min = 0 := rfl
  have hmax : IntKind.u32.max = 4294967295 := rfl
  simp only [Lit.wf, Bool.and_eq_true, decide_eq_true_eq] at h
  omega
theorem nat_u32 {n : Int} (h : (Lit.int .u32 n).wf = true) : ∃ N : Nat, n = (N : Int) ∧ N < 4294967296 := ⟨n.toNat, by have := bounds_u32 h; omega, by have := bounds_u32 h; omega⟩
theorem nat_u64 {n : Int} (h : (Lit.int .u64 n).wf = true) : ∃ N : Nat, n = (N : Int) ∧ N < 18446744073709551616 := ⟨n.toNat, by have := bounds_u64 h; omega, by have := bounds_u64 h; omega⟩

theorem lies_of {H : Type} {enc : TypeId × Value → H} {w : World} {fuel : Nat} {a : Option Addr} {n cap : Nat} {d : DataW H} {ps : List MemPlace}
    (h : DataW.trod enc Try.prog w 0 (fun _ => true) true fuel 23 [.slice a n cap] = some (d, ps))
    (hz : ∀ elems spare, d = .slice elems spare → (elems.length + spare.length) * Try.prog.bytesOf 5 ≤ reachBytes) : ∃ f, Lies w a n cap f := by
  have hb : reachBytes = 140737488351232 := rfl
  rcases Go.Deep.open_slice1 Try.underlying23 cells5 h with ⟨hcs, hd⟩ | ⟨x, l, c, m, k, V, D, Pl, hcs, _, hl, hm, hmm, hx, hel⟩
  · simp at hcs
    obtain ⟨rfl, rfl, rfl⟩ := hcs
    exact ⟨fun _ => 0, At.nil _ _ _, by omega, by omega, by omega, fun _ => rfl⟩
  · simp at hcs
    obtain ⟨rfl, rfl, rfl⟩ := hcs
    simp at hmm
    subst hmm
    have hz' := hz _ _ (Prod.mk.inj hx).1
    simp only [List.length_map, List.length_range, bytes5] at hz'
    rw [hb] at hz'
    obtain ⟨q, hq⟩ : ∃ q : Nat → Nat, ∀ i, i < n → w.cell? (x.add i) = some (.int .u8 (q i : Nat)) ∧ q i < 256 := Go.Deep.choose_lt (p := fun i (v : Nat) => w.cell? (x.add i) = some (.int .u8 (v : Int)) ∧ v < 256) (fun i hi => by
      obtain ⟨h1, h2⟩ := hel i (by omega)
      obtain ⟨v, e, _, u⟩ := DataW.trod_int Try.underlying5 h2
      simp only [List.cons.injEq, and_true] at e
      have hu := bounds_u8 u
      refine ⟨v.toNat, ?_, by omega⟩
      rw [h1, e, show ((v.toNat : Nat) : Int) = v by omega])
    refine ⟨q, ⟨?_, fun j hj => (hq j hj).2⟩, by omega, by omega, by omega, fun h => by cases h⟩
    by_cases h0 : n = 0
    · exact .inl h0
    obtain ⟨b, off, spot⟩ := x
    have hspot : spot = none := by simpa [Addr.add] using World.cell?_spot (hq 0 (by omega)).1
    subst hspot
    refine .inr ⟨b, off, rfl, fun j hj => ?_⟩
    have := (hq j hj).1
    unfold Addr.add at this
    by_cases h1 : j = 0
    · subst h1; simpa using this
    · simpa [h1] using this
end Go.Proofs.Ytchmnnagbnpijaa
