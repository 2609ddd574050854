/-
  A list of slices of bytes that came in, and the frames of its members.
-/
import Derived.Test.YtegniedbiegcpaaLift
import Derived.Test.YtegniedbiegcpaaApart
namespace Go.Proofs.Ytegniedbiegcpaa
open Go.ChangeShapes Go.WideShapes Go.ChangeAt Go.RowKit Go.Joins

/-- One member: address, length, capacity, bytes. -/
structure Mb where
  a : Option Addr
  n : Nat
  c : Nat
  l : List Nat
instance : Inhabited Mb := ⟨⟨none, 0, 0, []⟩⟩

/-- The slice at a has n members. -/
def Ll (w : World) (a : Option Addr) (n : Nat) (q : Nat → Mb) : Prop :=
  (n = 0 ∨ ∃ b off, a = some ⟨b, off, none⟩ ∧ ∀ i, i < n → w.cell? ⟨b, off + i, none⟩ = some (.slice (q i).a (q i).n (q i).c)) ∧ ∀ i, i < n → Li w (q i).a (q i).n (q i).c (q i).l
theorem Ll.keeps {w w1 : World} {a : Option Addr} {n : Nat} {q : Nat → Mb} (h : Ll w a n q) (hb : Below w.heap.size w w1) : Ll w1 a n q :=
  ⟨h.1.imp id fun ⟨b, off, e, hB⟩ => ⟨b, off, e, fun i hi => Go.Proofs.Ytegniedbiegcpaa.keeps hb (hB i hi)⟩, fun i hi => (h.2 i hi).keeps hb⟩

/-- The frames of the first k members. -/
def fr (q : Nat → Mb) : Nat → List Nat
  | 0 => []
  | k + 1 => fr q k ++ (en (q k).n ++ ((q k).l ++ le4 (cs (q k).l)))
/-- How many bytes the first k members have. -/
def sm (q : Nat → Mb) : Nat → Nat
  | 0 => 0
  | k + 1 => sm q k + (q k).n
theorem sm_le (q : Nat → Mb) {k n : Nat} (h : k ≤ n) : sm q k ≤ sm q n := by
  induction n with
  | zero => obtain rfl : k = 0 := by omega
            exact Nat.le_refl _
  | succ n ih =>
    by_cases e : k = n + 1
    · subst e; exact Nat.le_refl _
    · have := ih (by omega)
      show sm q k ≤ sm q n + (q n).n
      omega
theorem sm_at (q : Nat → Mb) {k n : Nat} (h : k < n) : (q k).n ≤ sm q n := by
  have h1 : sm q k + (q k).n ≤ sm q n := sm_le q (k := k + 1) h
  omega
theorem fr_len {q : Nat → Mb} {n : Nat} (h : ∀ i, i < n → (q i).l.length = (q i).n ∧ (q i).n ≤ 281474976710656) {k : Nat} (hk : k ≤ n) : (fr q k).length ≤ sm q k + 14 * k := by
  induction k with
  | zero => simp [fr]
  | succ k ih =>
    have h1 := ih (by omega)
    obtain ⟨h2, h3⟩ := h k (by omega)
    have h4 := en_ten (n := (q k).n) (by omega)
    have h5 : (le4 (cs (q k).l)).length = 4 := rfl
    show (fr q k ++ (en (q k).n ++ ((q k).l ++ le4 (cs (q k).l)))).length ≤ (sm q k + (q k).n) + 14 * (k + 1)
    simp only [List.length_append, h2, h5]
    omega
theorem fr_split (q : Nat → Mb) {k n : Nat} (h : k < n) : ∃ r, fr q n = fr q k ++ (en (q k).n ++ ((q k).l ++ (le4 (cs (q k).l) ++ r))) := by
  induction n with
  | zero => omega
  | succ n ih =>
    by_cases e : k = n
    · subst e
      exact ⟨[], by rw [List.append_nil]; rfl⟩
    · obtain ⟨r, hr⟩ := ih (by omega)
      refine ⟨r ++ (en (q n).n ++ ((q n).l ++ le4 (cs (q n).l))), ?_⟩
      show fr q n ++ _ = _
      rw [hr]
      simp only [List.append_assoc]

theorem all_append {H : Type} (x y : List (DataW H)) : Rows.uptoBulkAll (x ++ y) = Rows.uptoBulkAll x + Rows.uptoBulkAll y := by
  induction x with
  | nil => simp [Rows.uptoBulkAll]
  | cons d r ih => simp only [List.cons_append, Rows.uptoBulkAll, ih]; omega

theorem mb_of {H : Type} {enc : TypeId × Value → H} {w : World} {fuel : Nat} {v : Value} {d : DataW H} {ps : List MemPlace}
    (h : DataW.trod enc Try.prog w 0 (fun _ => true) true fuel 22 [v] = some (d, ps)) (hb : Rows.uptoBulk d ≤ 1048576) :
    ∃ m : Mb, v = .slice m.a m.n m.c ∧ Li w m.a m.n m.c m.l ∧ m.n + 1 ≤ Rows.uptoBulk d := by
  rcases Go.Deep.open_slice1 Try.underlying22 cells5 h with ⟨hcs, hd⟩ | ⟨x, l', c, m, k, V, D, Pl, hcs, _, hl', hm, hmm, hx, hel⟩
  · simp only [List.cons.injEq, and_true] at hcs
    subst hcs
    have := one_le d
    exact ⟨⟨none, 0, 0, []⟩, rfl, ⟨AtL.nil _ _, rfl, by simp, by simp, by simp, fun _ => rfl⟩, by simpa using this⟩
  · simp only [List.cons.injEq, and_true] at hcs
    subst hcs
    obtain ⟨l, hL, _⟩ := li_small h (fun elems spare e => by
      subst e
      have h1 := length_le elems
      have h2 := length_le spare
      simp only [Rows.uptoBulk] at hb
      omega)
    refine ⟨⟨some x, l', c, l⟩, rfl, hL, ?_⟩
    obtain rfl := (Prod.mk.inj hx).1
    have h1 := length_le ((List.range l').map D)
    simp only [List.length_map, List.length_range] at h1
    simp only [Rows.uptoBulk]
    omega

theorem lls_of {H : Type} {enc : TypeId × Value → H} {w : World} {fuel : Nat} {a : Option Addr} {n cap : Nat} {d : DataW H} {ps : List MemPlace}
    (h : DataW.trod enc Try.prog w 0 (fun _ => true) true fuel 45 [.slice a n cap] = some (d, ps)) (hb : Rows.uptoBulk d ≤ 1048576) :
    ∃ q, Ll w a n q ∧ sm q n + n ≤ 1048576 := by
  rcases Go.Deep.open_slice1 Try.underlying45 (by kernel_rfl) h with ⟨hcs, hd⟩ | ⟨x, l', c, m, k, V, D, Pl, hcs, _, hl', hm, hmm, hx, hel⟩
  · simp at hcs
    obtain ⟨rfl, rfl, rfl⟩ := hcs
    exact ⟨fun _ => default, ⟨.inl rfl, fun i hi => by omega⟩, by simp [sm]⟩
  · simp at hcs
    obtain ⟨rfl, rfl, rfl⟩ := hcs
    simp at hmm
    subst hmm
    obtain rfl := (Prod.mk.inj hx).1
    simp only [Rows.uptoBulk] at hb
    obtain ⟨q, hq⟩ : ∃ q : Nat → Mb, ∀ i, i < n → w.cell? (x.add i) = some (.slice (q i).a (q i).n (q i).c) ∧ Li w (q i).a (q i).n (q i).c (q i).l ∧ (q i).n + 1 ≤ Rows.uptoBulk (D i) := Go.Deep.choose_lt (p := fun i (m : Mb) => w.cell? (x.add i) = some (.slice m.a m.n m.c) ∧ Li w m.a m.n m.c m.l ∧ m.n + 1 ≤ Rows.uptoBulk (D i)) (fun i hi => by
      obtain ⟨h1, h2⟩ := hel i (by omega)
      have hp : Rows.uptoBulk (D i) ≤ Rows.uptoBulkAll ((List.range n).map D) := part_le (List.mem_map_of_mem (List.mem_range.2 hi))
      obtain ⟨mb, rv, hL, hn⟩ := mb_of h2 (by omega)
      exact ⟨mb, by rw [h1, rv], hL, hn⟩)
    have hs : ∀ k, k ≤ n → sm q k + k ≤ Rows.uptoBulkAll ((List.range k).map D) := by
      intro k hk
      induction k with
      | zero => simp [sm]
      | succ k ih =>
        have h1 := ih (by omega)
        have h2 := (hq k (by omega)).2.2
        rw [List.range_succ, List.map_append, all_append]
        simp only [List.map_cons, List.map_nil, Rows.uptoBulkAll]
        show sm q k + (q k).n + (k + 1) ≤ _
        omega
    refine ⟨q, ⟨?_, fun i hi => (hq i hi).2.1⟩, by have := hs n (Nat.le_refl _); omega⟩
    by_cases h0 : n = 0
    · exact .inl h0
    obtain ⟨b, off, spot⟩ := x
    have hspot : spot = none := by simpa [Addr.add] using World.cell?_spot (hq 0 (by omega)).1
    subst hspot
    refine .inr ⟨b, off, rfl, fun j hj => ?_⟩
    have := (hq j hj).1
    unfold Addr.add at this
    by_cases h1 : j = 0
    · subst h1; simpa using this
    · simpa [h1] using this
end Go.Proofs.Ytegniedbiegcpaa
