/-
  Bytes in memory that the call has made: append, make, a byte that is changed.
-/
import Derived.Test.YtegniedbiegcpaaBytes
import Derived.Laws.AppendOwn
import Derived.Laws.OwnMore
import Derived.OwnWalk
import Derived.Below
namespace Go.Proofs.Ytegniedbiegcpaa
open Go.RowKit

def vals (f : Nat → Nat) (n : Nat) : List Value := (List.range n).map fun j => Value.int .u8 (f j : Int)
theorem vals_length (f : Nat → Nat) (n : Nat) : (vals f n).length = n := by simp [vals]
theorem vals_at (f : Nat → Nat) (n j : Nat) (hj : j < n) : (vals f n)[j]? = some (.int .u8 (f j : Int)) := by simp [vals, hj]
theorem vals_one (f : Nat → Nat) (n : Nat) : ∀ u ∈ vals f n, u.oneCell' = true := by
  intro u hu
  simp only [vals, List.mem_map] at hu
  obtain ⟨j, _, rfl⟩ := hu
  rfl
/-- The bytes f, n of them, and the bytes g behind them. -/
def cat (f : Nat → Nat) (n : Nat) (g : Nat → Nat) : Nat → Nat := fun i => if i < n then f i else g (i - n)
theorem cat_zero (f g : Nat → Nat) : cat f 0 g = g := by
  funext i
  unfold cat
  rw [if_neg (by omega), Nat.sub_zero]
theorem vals_cat (f g : Nat → Nat) (n m : Nat) : vals f n ++ vals g m = vals (cat f n g) (n + m) := by
  apply List.ext_getElem?
  intro j
  by_cases h : j < n
  · rw [List.getElem?_append_left (by rw [vals_length]; exact h), vals_at _ _ _ h, vals_at _ _ _ (by omega)]
    unfold cat
    rw [if_pos h]
  · rw [List.getElem?_append_right (by rw [vals_length]; omega), vals_length]
    by_cases h2 : j < n + m
    · rw [vals_at _ _ _ (by omega), vals_at _ _ _ h2]
      unfold cat
      rw [if_neg h]
    · rw [List.getElem?_eq_none (by rw [vals_length]; omega), List.getElem?_eq_none (by rw [vals_length]; omega)]

theorem info5 : (Try.prog.info? 5).map (fun i => (i.zero, i.size, i.bytes)) = some (some (.int .u8 0), 1, 1) := by kernel_rfl

/-- The value v is a slice of the call's own with the bytes f. -/
def Own (w : World) (base : Nat) (v : Value) (n : Nat) (f : Nat → Nat) : Prop := w.ownsRow base 5 1 v n (vals f n)
theorem Own.empty (w : World) (base : Nat) (hb : base ≤ w.heap.size) (f : Nat → Nat) : Own (w.alloc (.cells #[] 5)) base (.slice (some ⟨w.heap.size, 0, none⟩) 0 0) 0 f := by
  have h := World.ownsRow_made (base := base) (e := 5) (size := 1) w #[] 0 hb (by decide) (by simp)
  exact h

/-- A slice that holds bytes and may be written: the block b, from its first cell on. -/
def Wr (w : World) (b n : Nat) (f : Nat → Nat) : Prop := ∀ j, j < n → w.cell? ⟨b, j, none⟩ = some (.int .u8 (f j : Int)) ∧ w.frozen? ⟨b, j, none⟩ = false
theorem Wr.keeps {w w1 : World} {b n : Nat} {f : Nat → Nat} (h : Wr w b n f) (hb : Below w.heap.size w w1) : Wr w1 b n f := by
  intro j hj
  obtain ⟨h1, h2⟩ := h j hj
  exact ⟨Go.Proofs.Ytegniedbiegcpaa.keeps hb h1, by rw [hb.frozen (p := ⟨b, j, none⟩) (block_lt_of_cell h1)]; exact h2⟩
theorem Wr.at {w : World} {b n : Nat} {f : Nat → Nat} (h : Wr w b n f) (hf : ∀ j, j < n → f j < 256) : At w (some ⟨b, 0, none⟩) n f := by
  refine ⟨.inr ⟨b, 0, rfl, fun j hj => ?_⟩, hf⟩
  rw [Nat.zero_add]
  exact (h j hj).1
theorem Wr.set {w : World} {b n j : Nat} {f : Nat → Nat} (h : Wr w b n f) (hj : j < n) (v : Nat) : Wr (w.setCell ⟨b, j, none⟩ (.int .u8 (v : Int))) b n (upd f j v) := by
  intro i hi
  obtain ⟨h1, h2⟩ := h i hi
  refine ⟨?_, by rw [World.frozen?_setCell]; exact h2⟩
  by_cases he : i = j
  · subst he
    rw [upd_at]
    exact World.cell?_setCell_same _ _ _ h1
  · rw [World.cell?_setCell_other _ _ _ _ (fun h => he (congrArg Addr.off h).symm), upd_off _ _ _ he, h1]
theorem Own.out {w : World} {base n : Nat} {v : Value} {f : Nat → Nat} (h : Own w base v n f) : (v = .slice none 0 0 ∧ n = 0) ∨ ∃ g cap, v = .slice (some ⟨g, 0, none⟩) n cap ∧ base ≤ g ∧ g < w.heap.size ∧ n ≤ cap ∧ cap ≤ 9223372036854775807 ∧ Wr w g n f := by
  rcases h.2 with h0 | ⟨g, cap, cur, rfl, hb, hg, hc, hm, hs, ht⟩
  · exact .inl h0
  · refine .inr ⟨g, cap, rfl, hb, (h.lt g rfl).2, hc, by unfold maxLen at hm; omega, fun j hj => ⟨?_, h.frozenAt j⟩⟩
    rw [h.cellAt j (by omega)]
    exact vals_at f n j hj
theorem Own.at {w : World} {base n : Nat} {v : Value} {f : Nat → Nat} (h : Own w base v n f) (hf : ∀ j, j < n → f j < 256) : ∃ a cap, v = .slice a n cap ∧ At w a n f ∧ n ≤ cap ∧ cap ≤ 9223372036854775807 ∧ (a = none → cap = 0) := by
  rcases h.out with ⟨rfl, rfl⟩ | ⟨g, cap, rfl, _, _, hc, hm, hW⟩
  · exact ⟨_, _, rfl, At.nil _ _ _, by omega, by omega, fun _ => rfl⟩
  · exact ⟨_, _, rfl, hW.at hf, hc, hm, fun h => by cases h⟩
theorem cat_lt {f g : Nat → Nat} {n m : Nat} (hf : ∀ j, j < n → f j < 256) (hg : ∀ j, j < m → g j < 256) : ∀ j, j < n + m → cat f n g j < 256 := by
  intro j hj
  unfold cat
  split
  · exact hf _ (by assumption)
  · exact hg _ (by omega)
theorem own_below {w w' : World} {base n : Nat} {v : Value} {f : Nat → Nat} (h : Own w base v n f) (hg : w.grownBy w' v.ownBlock) (hb : base ≤ w.heap.size) : Below base w w' :=
  (Below.refl base w).grown hg hb fun k hk => (h.lt k hk).1

/-- append(x, y...), x of the call's own, y any slice of bytes. -/
theorem wp_app (w : World) {o : Oper} {a : Act} {K : Act → World → Prop} {Q : Exit → Act → World → Prop} (s x : Operand)
    (ho : o.op = .call { callee := .builtin .append, args := #[s, x], argTypes := #[22, 22] })
    (base n : Nat) (v : Value) (f : Nat → Nat) (hs : a.eval s = v) (hown : Own w base v n f) (A : Option Addr) (m c : Nat) (g : Nat → Nat) (hx : a.eval x = .slice A m c) (hA : At w A m g) (hnil : A = none → c = 0)
    (hn : n + m ≤ 140737488351232) (hbase : base ≤ w.heap.size)
    (h : ∀ v' w', Own w' base v' (n + m) (cat f n g) → Below base w w' → K (a.put o.dst v') w') : o.wp Try.prog a w K Q := by
  obtain ⟨i, hi, hz0, hz1, hz2⟩ := info_parts info5
  rcases A with _ | ad
  · have hm : m = 0 := by
      rcases hA.1 with h0 | ⟨_, _, h0, _⟩
      · exact h0
      · cases h0
    obtain rfl : c = 0 := hnil rfl
    subst hm
    have hrun := run_append_owned_none (P := Try.prog) (w := w) base 22 o.type 5 i 1 Try.underlying22 hi v n (vals f n) hown
    unfold Oper.wp
    simp [execOp, ho, resolve, invoke, builtin, hs, hx, hrun, Result.andThen]
    refine h v w ?_ (Below.refl _ _)
    have e := vals_cat f g n 0
    simp only [vals, List.range_zero, List.map_nil, List.append_nil] at e
    unfold Own vals
    rw [Nat.add_zero] at e ⊢
    rw [← e]
    exact hown
  · refine wp_append_own w s x 22 ho base 5 i (.int .u8 0) 1 1 Try.underlying22 hi hz0 hz1 hz2 rfl (by decide) v n (vals f n) hs hown ad m c (vals g m) hx (by rw [vals_length]; omega) ?_ (vals_one _ _)
      (by unfold maxLen; omega) (by omega) hbase fun v' w' h1 h2 _ => h v' w' (by unfold Own; rw [← vals_cat]; exact h1) (own_below hown h2 hbase)
    intro j u hu
    have hj : j < m := by
      have := (List.getElem?_eq_some_iff.1 hu).1
      rwa [vals_length] at this
    rw [vals_at _ _ _ hj] at hu
    rcases hA.1 with h0 | ⟨b, off, e, hB⟩
    · omega
    · simp only [Option.some.injEq] at e hu
      subst e hu
      have := hB j hj
      unfold Addr.add
      by_cases h1 : j = 0
      · subst h1; simpa using this
      · simpa [h1] using this
theorem wpList_app (w : World) {ops : Array Oper} {rest : List Oper} {o : Oper} {a : Act} {Q : Exit → Act → World → Prop} (hgd : o.guard = none) (s x : Operand)
    (ho : o.op = .call { callee := .builtin .append, args := #[s, x], argTypes := #[22, 22] })
    (base n : Nat) (v : Value) (f : Nat → Nat) (hs : a.eval s = v) (hown : Own w base v n f) (A : Option Addr) (m c : Nat) (g : Nat → Nat) (hx : a.eval x = .slice A m c) (hA : At w A m g) (hnil : A = none → c = 0)
    (hn : n + m ≤ 140737488351232) (hbase : base ≤ w.heap.size)
    (h : ∀ v' w', Own w' base v' (n + m) (cat f n g) → Below base w w' → wpList Try.prog ops Q rest (a.put o.dst v') w') : wpList Try.prog ops Q (o :: rest) a w :=
  wpList_plain hgd fun _ hK => wp_app w s x ho base n v f hs hown A m c g hx hA hnil hn hbase fun v' w' h1 h2 => hK _ _ (h v' w' h1 h2)
/-- .. behind a guard that holds. -/
theorem wpList_app_if (w : World) {ops : Array Oper} {rest : List Oper} {o : Oper} {a : Act} {Q : Exit → Act → World → Prop} (hgd : Region.wanted o (yielded ops a.tmps) = true) (s x : Operand)
    (ho : o.op = .call { callee := .builtin .append, args := #[s, x], argTypes := #[22, 22] })
    (base n : Nat) (v : Value) (f : Nat → Nat) (hs : a.eval s = v) (hown : Own w base v n f) (A : Option Addr) (m c : Nat) (g : Nat → Nat) (hx : a.eval x = .slice A m c) (hA : At w A m g) (hnil : A = none → c = 0)
    (hn : n + m ≤ 140737488351232) (hbase : base ≤ w.heap.size)
    (h : ∀ v' w', Own w' base v' (n + m) (cat f n g) → Below base w w' → wpList Try.prog ops Q rest (a.put o.dst v') w') : wpList Try.prog ops Q (o :: rest) a w := by
  refine wpList_step fun K hK => ?_
  rw [if_pos hgd]
  exact wp_app w s x ho base n v f hs hown A m c g hx hA hnil hn hbase fun v' w' h1 h2 => hK _ _ (h v' w' h1 h2)
end Go.Proofs.Ytegniedbiegcpaa
