/-
  From a walk of a statement to its row: a slice of bytes that came in.
-/
import Derived.Test.YtegniedbiegcpaaRows
import Derived.Test.YtegniedbiegcpaaExample
import Derived.ChangeMaps5
import Derived.Deep.CondSized
import Derived.ProofKit
import Derived.Lib.SmallJoins
import Derived.Deep.Slices
import Derived.SizedLaws
import Derived.OpenShut
import Derived.Carry
namespace Go.Proofs.Ytegniedbiegcpaa
open Go.ChangeShapes Go.WideShapes Go.ChangeAt Go.RowKit Go.Joins

theorem own : ownKnob Try.prog.godebug = none := by kernel_rfl
theorem laidOut : laidOutB Try.prog = true := by kernel_rfl
theorem cells5 : Try.prog.cellsOf 5 = 1 := by kernel_rfl
theorem bytes5 : Try.prog.bytesOf 5 = 1 := by kernel_rfl

theorem bounds_u8 {n : Int} (h : (Lit.int .u8 n).wf = true) : 0 ≤ n ∧ n ≤ 255 := by
  have hmin : IntKind.u8.min = 0 := rfl
  have hmax : IntKind.u8.max = 255 := rfl
  simp only [Lit.wf, Bool.and_eq_true, decide_eq_true_eq] at h
  omega
theorem bounds_u32 {n : Int} (h : (Lit.int .u32 n).wf = true) : 0 ≤ n ∧ n ≤ 4294967295 := by
  have hmin : IntKind.u32.min = 0 := rfl
  have hmax : IntKind.u32.max = 4294967295 := rfl
  simp only [Lit.wf, Bool.and_eq_true, decide_eq_true_eq] at h
  omega
theorem nat_u32 {n : Int} (h : (Lit.int .u32 n).wf = true) : ∃ N : Nat, n = (N : Int) ∧ N < 4294967296 := ⟨n.toNat, by have := bounds_u32 h; omega, by have := bounds_u32 h; omega⟩
theorem nat_u64 {n : Int} (h : (Lit.int .u64 n).wf = true) : ∃ N : Nat, n = (N : Int) ∧ N < 18446744073709551616 := ⟨n.toNat, by have := bounds_u64 h; omega, by have := bounds_u64 h; omega⟩

theorem li_of {H : Type} {enc : TypeId × Value → H} {w : World} {fuel : Nat} {a : Option Addr} {n cap : Nat} {d : DataW H} {ps : List MemPlace}
    (h : DataW.trod enc Try.prog w 0 (fun _ => true) true fuel 22 [.slice a n cap] = some (d, ps))
    (hz : ∀ elems spare, d = .slice elems spare → (elems.length + spare.length) * Try.prog.bytesOf 5 ≤ reachBytes) : ∃ l, Li w a n cap l ∧ n ≤ 140737488351232 := by
  have hb : reachBytes = 140737488351232 := rfl
  rcases Go.Deep.open_slice1 Try.underlying22 cells5 h with ⟨hcs, hd⟩ | ⟨x, l, c, m, k, V, D, Pl, hcs, _, hl, hm, hmm, hx, hel⟩
  · simp at hcs
    obtain ⟨rfl, rfl, rfl⟩ := hcs
    exact ⟨[], ⟨AtL.nil _ _, rfl, by omega, by omega, by omega, fun _ => rfl⟩, by omega⟩
  · simp at hcs
    obtain ⟨rfl, rfl, rfl⟩ := hcs
    simp at hmm
    subst hmm
    have hz' := hz _ _ (Prod.mk.inj hx).1
    simp only [List.length_map, List.length_range, bytes5] at hz'
    rw [hb] at hz'
    obtain ⟨q, hq⟩ : ∃ q : Nat → Nat, ∀ i, i < n → w.cell? (x.add i) = some (.int .u8 (q i : Nat)) ∧ q i < 256 := Go.Deep.choose_lt (p := fun i (v : Nat) => w.cell? (x.add i) = some (.int .u8 (v : Int)) ∧ v < 256) (fun i hi => by
      obtain ⟨h1, h2⟩ := hel i (by omega)
      obtain ⟨v, e, _, u⟩ := DataW.trod_int Try.underlying5 h2
      simp only [List.cons.injEq, and_true] at e
      have hu := bounds_u8 u
      refine ⟨v.toNat, ?_, by omega⟩
      rw [h1, e, show ((v.toNat : Nat) : Int) = v by omega])
    have hA : At w (some x) n q := by
      refine ⟨?_, fun j hj => (hq j hj).2⟩
      by_cases h0 : n = 0
      · exact .inl h0
      obtain ⟨b, off, spot⟩ := x
      have hspot : spot = none := by simpa [Addr.add] using World.cell?_spot (hq 0 (by omega)).1
      subst hspot
      refine .inr ⟨b, off, rfl, fun j hj => ?_⟩
      have := (hq j hj).1
      unfold Addr.add at this
      by_cases h1 : j = 0
      · subst h1; simpa using this
      · simpa [h1] using this
    exact ⟨lst q n, ⟨hA.list, lst_length q n, by omega, by omega, by omega, fun h => by cases h⟩, by omega⟩

/-! The bound of the second form. -/
theorem one_le {H : Type} (d : DataW H) : 1 ≤ Rows.uptoBulk d := by
  cases d with
  | lit l => cases l <;> simp [Rows.uptoBulk]
  | nil => simp [Rows.uptoBulk]
  | ptr d => simp [Rows.uptoBulk]
  | slice elems spare => simp [Rows.uptoBulk]
  | agg parts => simp [Rows.uptoBulk]
  | iface t d => simp [Rows.uptoBulk]
  | map entries => simp [Rows.uptoBulk]
  | held h => simp [Rows.uptoBulk]
theorem part_le {H : Type} {d : DataW H} {l : List (DataW H)} (h : d ∈ l) : Rows.uptoBulk d ≤ Rows.uptoBulkAll l := by
  induction l with
  | nil => cases h
  | cons x r ih =>
    simp only [Rows.uptoBulkAll]
    rcases List.mem_cons.1 h with rfl | e
    · omega
    · have := ih e; omega
theorem length_le {H : Type} (l : List (DataW H)) : l.length ≤ Rows.uptoBulkAll l := by
  induction l with
  | nil => simp [Rows.uptoBulkAll]
  | cons x r ih => have := one_le x; simp only [Rows.uptoBulkAll, List.length_cons]; omega
theorem bulk_at {H : Type} {l : List (DataW H)} (hk : Rows.uptoSmall H l = true) {j : Nat} {d : DataW H} (h : l[j]? = some d) : Rows.uptoBulk d ≤ 1048576 := by
  have hb : Rows.uptoBulkAll l ≤ 1048576 := of_decide_eq_true hk
  have := part_le (List.mem_of_getElem? h)
  omega
theorem bulk_slice {H : Type} {l : List (DataW H)} (hk : Rows.uptoSmall H l = true) {j : Nat} {elems spare : List (DataW H)} (h : l[j]? = some (.slice elems spare)) : elems.length + spare.length ≤ 1048576 := by
  have := bulk_at hk h
  have h1 := length_le elems
  have h2 := length_le spare
  simp only [Rows.uptoBulk] at this
  omega
theorem bulk_string {H : Type} {l : List (DataW H)} (hk : Rows.uptoSmall H l = true) {j : Nat} {s : ByteArray} (h : l[j]? = some (.lit (.string s.data.toList))) : s.size ≤ 1048576 := by
  have := bulk_at hk h
  simp only [Rows.uptoBulk] at this
  have e : s.data.toList.length = s.size := by rw [Array.length_toList]; rfl
  omega
/-- A slice that came in, under the second form's bound. -/
theorem li_small {H : Type} {enc : TypeId × Value → H} {w : World} {fuel : Nat} {a : Option Addr} {n cap : Nat} {d : DataW H} {ps : List MemPlace}
    (h : DataW.trod enc Try.prog w 0 (fun _ => true) true fuel 22 [.slice a n cap] = some (d, ps))
    (hz : ∀ elems spare, d = .slice elems spare → elems.length + spare.length ≤ 1048576) : ∃ l, Li w a n cap l ∧ cap ≤ 1048576 := by
  obtain ⟨l, hl, _⟩ := li_of h (fun elems spare e => by have := hz elems spare e; have hb : reachBytes = 140737488351232 := rfl; rw [bytes5, hb]; omega)
  refine ⟨l, hl, ?_⟩
  rcases Go.Deep.open_slice1 Try.underlying22 cells5 h with ⟨hcs, hd⟩ | ⟨x, l', c, m, k, V, D, Pl, hcs, _, hl', hm, hmm, hx, hel⟩
  · simp at hcs
    obtain ⟨rfl, rfl, rfl⟩ := hcs
    omega
  · simp at hcs
    obtain ⟨rfl, rfl, rfl⟩ := hcs
    simp at hmm
    subst hmm
    have := hz _ _ (Prod.mk.inj hx).1
    simp only [List.length_map, List.length_range] at this
    omega
theorem string_size (s : ByteArray) {H : Type} {ts : List TypeId} {ds : List (DataW H)} (h : (DataW.weightsEach Try.prog ts ds).all (· ≤ reachBytes) = true) {j : Nat} {t : TypeId} (ht : ts[j]? = some t) (hd : ds[j]? = some (.lit (.string s.data.toList))) : s.size ≤ 140737488351232 := by
  have := sized_string h ht hd
  have e : s.data.toList.length = s.size := by rw [Array.length_toList]; rfl
  have hb : reachBytes = 140737488351232 := rfl
  omega
end Go.Proofs.Ytegniedbiegcpaa
