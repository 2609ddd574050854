/-
  Lists of factors that came in under the bound of size.
-/
import Derived.Test.YtcndlcogainnkaaGreatDoorLift
import Derived.Test.YtcndlcogainnkaaGreatDoorWmt
namespace Go.Proofs.YtcndlcogainnkaaGreatDoor
open Go.ChangeShapes Go.WideShapes Go.ChangeAt Go.RowKit Go.Joins dec

theorem one_le {H : Type} (d : DataW H) : 1 ≤ Rows.uptoBulk d := by
  cases d with
  | lit l => cases l <;> simp [Rows.uptoBulk]
  | nil => simp [Rows.uptoBulk]
  | ptr d => simp [Rows.uptoBulk]
  | slice elems spare => simp [Rows.uptoBulk]
  | agg parts => simp [Rows.uptoBulk]
  | iface t d => simp [Rows.uptoBulk]
  | map entries => simp [Rows.uptoBulk]
  | held h => simp [Rows.uptoBulk]
theorem part_le {H : Type} {d : DataW H} {l : List (DataW H)} (h : d ∈ l) : Rows.uptoBulk d ≤ Rows.uptoBulkAll l := by
  induction l with
  | nil => cases h
  | cons x r ih =>
    simp only [Rows.uptoBulkAll]
    rcases List.mem_cons.1 h with rfl | e
    · omega
    · have := ih e; omega
theorem bulk_at {H : Type} {l : List (DataW H)} (hk : Rows.uptoSmall H l = true) {j : Nat} {d : DataW H} (h : l[j]? = some d) : Rows.uptoBulk d ≤ 1048576 := by
  have hb : Rows.uptoBulkAll l ≤ 1048576 := of_decide_eq_true hk
  have := part_le (List.mem_of_getElem? h)
  omega
theorem bulk_string {H : Type} {l : List (DataW H)} (hk : Rows.uptoSmall H l = true) {j : Nat} {s : ByteArray} (h : l[j]? = some (.lit (.string s.data.toList))) : s.size ≤ 1048576 := by
  have := bulk_at hk h
  simp only [Rows.uptoBulk] at this
  have e : s.data.toList.length = s.size := by rw [Array.length_toList]; rfl
  omega
theorem all_append {H : Type} (x y : List (DataW H)) : Rows.uptoBulkAll (x ++ y) = Rows.uptoBulkAll x + Rows.uptoBulkAll y := by
  induction x with
  | nil => simp [Rows.uptoBulkAll]
  | cons d r ih => simp only [List.cons_append, Rows.uptoBulkAll, ih]; omega
def rgs (l : List Fa) : Prop := ∀ x ∈ l, -9223372036854775808 ≤ x.2 ∧ x.2 ≤ 9223372036854775807
def wt (x : Fa) : Nat := x.1.size + 24
theorem f1_sum {x : Fa} (h : -9223372036854775808 ≤ x.2 ∧ x.2 ≤ 9223372036854775807) : (f1 x).length + 1 ≤ wt x := by
  have h1 := itoa_len x.2 h.1 h.2
  have h2 : x.1.data.toList.length = x.1.size := str_len x.1
  unfold f1 wt
  split
  · omega
  · rw [List.length_append, List.length_cons]
    omega
theorem fT_sum : ∀ l : List Fa, rgs l → (fT l).length ≤ (l.map wt).sum
  | [], _ => Nat.zero_le _
  | [x], h => by
    have := f1_sum (h x (List.mem_cons_self ..))
    unfold fT
    rw [List.map_cons, List.map_nil, Lib.join_one, List.map_cons, List.sum_cons]
    omega
  | x :: y :: l, h => by
    have h1 := f1_sum (h x (List.mem_cons_self ..))
    have h2 := fT_sum (y :: l) fun z hz => h z (List.mem_cons_of_mem _ hz)
    have e : fT (x :: y :: l) = f1 x ++ 42 :: fT (y :: l) := by
      unfold fT
      rw [List.map_cons, List.map_cons, Lib.join_cons, Lib.join_cons]
      simp [Lib.joinTail]
    rw [e, List.length_append, List.length_cons, List.map_cons, List.sum_cons]
    omega
theorem sum_take : ∀ (l : List Fa) (j : Nat), ((l.take j).map wt).sum ≤ (l.map wt).sum
  | [], j => by simp
  | x :: l, 0 => by simp
  | x :: l, j + 1 => by
    have := sum_take l j
    rw [List.take_succ_cons, List.map_cons, List.map_cons, List.sum_cons, List.sum_cons]
    omega
theorem sum_mem : ∀ (l : List Fa), ∀ x ∈ l, wt x ≤ (l.map wt).sum
  | [], x, h => by cases h
  | y :: l, x, h => by
    rw [List.map_cons, List.sum_cons]
    rcases List.mem_cons.1 h with rfl | h
    · omega
    · have := sum_mem l x h
      omega
theorem sum_len : ∀ (l : List Fa), l.length ≤ (l.map wt).sum
  | [] => Nat.zero_le _
  | y :: l => by
    have := sum_len l
    rw [List.map_cons, List.sum_cons, List.length_cons]
    unfold wt at *
    omega
set_option maxRecDepth 100000 in
theorem sl_small {H : Type} {enc : TypeId × Value → H} {w : World} {fuel : Nat} {a : Option Addr} {n cap : Nat} {d : DataW H} {ps : List MemPlace}
    (h : DataW.trod enc Tryz.prog w 0 (fun _ => true) true fuel 22 [.slice a n cap] = some (d, ps)) (hz : Rows.uptoBulk d ≤ 1048576) :
    ∃ l, Sl w a n cap l ∧ rgs l ∧ (l.map wt).sum ≤ 12582912 ∧ ∀ x ∈ l, x.1.size ≤ 1048576 := by
  rcases Go.Deep.open_slice Tryz.underlying22 h with ⟨hcs, _⟩ | ⟨x, l, c, m, k, D, Pl, hcs, _, hl, hm, hmm, hx, hel⟩
  · simp at hcs
    obtain ⟨rfl, rfl, rfl⟩ := hcs
    exact ⟨[], .nil _, fun x h => (by cases h), by decide, fun x h => (by cases h)⟩
  · simp at hcs
    obtain ⟨rfl, rfl, rfl⟩ := hcs
    simp at hmm
    subst hmm
    have hmx := hm
    unfold maxLen at hmx
    obtain rfl := (Prod.mk.inj hx).1
    simp only [Rows.uptoBulk] at hz
    obtain ⟨q, hq⟩ := Go.Deep.choose_lt (fun i hi => by
      obtain ⟨cs', h1, h2⟩ := hel i hi
      obtain ⟨q, e1, e2, y1, e3⟩ := fa_at h1 h2
      have hb : q.1.size + 2 ≤ Rows.uptoBulk (D i) := by
        have e3' : D i = .agg [.lit (.string q.1.data.toList), y1] := e3
        rw [e3']
        simp only [Rows.uptoBulk, Rows.uptoBulkAll]
        have := str_len q.1
        omega
      exact (⟨q, e1, e2, hb⟩ : ∃ q : Fa, (w.cell? ((x.add (i * Tryz.prog.cellsOf 37)).add 0) = some (.string q.1) ∧ w.cell? ((x.add (i * Tryz.prog.cellsOf 37)).add 1) = some (.int .i64 q.2)) ∧ (-9223372036854775808 ≤ q.2 ∧ q.2 ≤ 9223372036854775807) ∧ q.1.size + 2 ≤ Rows.uptoBulk (D i)))
    have hs : ∀ k, k ≤ n → (((List.range k).map q).map wt).sum ≤ 12 * Rows.uptoBulkAll ((List.range k).map D) := by
      intro k hk
      induction k with
      | zero => simp
      | succ k ih =>
        have h1 := ih (by omega)
        have h2 := (hq k (by omega)).2.2
        rw [List.range_succ, List.map_append, List.map_append, List.map_append, all_append, List.sum_append]
        simp only [List.map_cons, List.map_nil, Rows.uptoBulkAll, List.sum_cons, List.sum_nil, wt]
        omega
    have hsn := hs n (Nat.le_refl _)
    refine ⟨(List.range n).map q, ⟨?_, by simp, hl, by omega, fun h => by cases h⟩, fun y hy => ?_, by omega, fun y hy => ?_⟩
    · by_cases h0 : n = 0
      · exact .inl (by simp [h0])
      obtain ⟨b, off, spot⟩ := x
      have hc := (hq 0 (by omega)).1.1
      have hspot : spot = none := by simpa [Addr.add] using World.cell?_spot hc
      subst hspot
      refine .inr ⟨b, off, rfl, fun j hj => ?_⟩
      have hj' : j < n := by simpa using hj
      have e : gt ((List.range n).map q) j = q j := by
        rw [gt_eq hj]
        simp
      obtain ⟨⟨k0, k1⟩, _⟩ := hq j (by omega)
      rw [cellsF, Go.Deep.add_add] at k0 k1
      rw [e]
      refine ⟨by simpa [add_plain] using k0, by simpa [add_plain, Nat.add_assoc] using k1⟩
    · simp only [List.mem_map, List.mem_range] at hy
      obtain ⟨i, hi, rfl⟩ := hy
      exact (hq i (by omega)).2.1
    · simp only [List.mem_map, List.mem_range] at hy
      obtain ⟨i, hi, rfl⟩ := hy
      have h1 := (hq i (by omega)).2.2
      have h2 : Rows.uptoBulk (D i) ≤ Rows.uptoBulkAll ((List.range n).map D) := part_le (List.mem_map_of_mem (List.mem_range.2 hi))
      omega
end Go.Proofs.YtcndlcogainnkaaGreatDoor
