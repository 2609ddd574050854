/-
  Lists of integers of the call's own.
-/
import Derived.Test.YtdhdofgdeljajaaSat
namespace Go.Proofs.Ytdhdofgdeljajaa
open Go.RowKit

theorem infoN : (Try.prog.info? 3).map (fun i => (i.zero, i.size, i.bytes)) = some (some (.int .i64 0), 1, 8) := by kernel_rfl
def cn (l : List Int) : List Value := l.map (Value.int .i64)
theorem cn_one (l : List Int) : ∀ u ∈ cn l, u.oneCell' = true := by
  intro u hu
  obtain ⟨t, _, rfl⟩ := List.mem_map.1 hu
  rfl
def OwnN (w : World) (base : Nat) (v : Value) (l : List Int) : Prop := w.ownsRow base 3 1 v l.length (cn l)
theorem OwnN.nil (w : World) (base : Nat) : OwnN w base (.slice none 0 0) [] := World.ownsRow_nil _ _ _ _
theorem OwnN.out {w : World} {base : Nat} {v : Value} {l : List Int} (h : OwnN w base v l) : (v = .slice none 0 0 ∧ l = []) ∨ ∃ g cap, v = .slice (some ⟨g, 0, none⟩) l.length cap ∧ base ≤ g ∧ g < w.heap.size ∧ l.length ≤ cap ∧ cap ≤ 9223372036854775807 ∧ Cn w g 0 l := by
  rcases h.2 with ⟨h0, h1⟩ | ⟨g, cap, cur, rfl, hb, hg, hc, hm, hs, ht⟩
  · exact .inl ⟨h0, List.eq_nil_of_length_eq_zero h1⟩
  · refine .inr ⟨g, cap, rfl, hb, (h.lt g rfl).2, hc, by unfold maxLen at hm; omega, fun j hj => ?_⟩
    rw [Nat.zero_add, h.cellAt j (by omega), cn, List.getElem?_map, List.getElem?_eq_getElem hj, gn_eq hj]
    rfl
theorem OwnN.sn {w : World} {base : Nat} {v : Value} {l : List Int} (h : OwnN w base v l) : ∃ a cap, v = .slice a l.length cap ∧ Sn w a l.length cap l := by
  rcases h.out with ⟨rfl, rfl⟩ | ⟨g, cap, rfl, _, _, hc, hm, hW⟩
  · exact ⟨none, 0, rfl, .nil _⟩
  · exact ⟨_, cap, rfl, .inr ⟨g, 0, rfl, hW⟩, rfl, hc, hm, fun h => by cases h⟩
theorem OwnN.keeps {w w1 : World} {base : Nat} {v : Value} {l : List Int} (h : OwnN w base v l) (hb : Below w.heap.size w w1) : OwnN w1 base v l := by
  obtain ⟨h1, h2⟩ := h
  refine ⟨h1, ?_⟩
  rcases h2 with h0 | ⟨g, cap, cur, e, hbg, hh, r⟩
  · exact .inl h0
  · refine .inr ⟨g, cap, cur, e, hbg, ?_, r⟩
    have : g < w.heap.size := by
      rcases Nat.lt_or_ge g w.heap.size with h' | h'
      · exact h'
      · rw [Array.getElem?_eq_none h'] at hh; cases hh
    rw [hb.block _ this]
    exact hh
theorem is_appN {w : World} {ops : Array Oper} {rest : List Oper} {o : Oper} {a : Act} {Q : Exit → Act → World → Prop} (s x : Operand) (_ : o.op = .call { callee := .builtin .append, args := #[s, x], argTypes := #[38, 38] })
    (k : wpList Try.prog ops Q (o :: rest) a w) : wpList Try.prog ops Q (o :: rest) a w := k
/-- append(x, y), x of the call's own, y one integer. -/
theorem wpList_pushN (w : World) {ops : Array Oper} {rest : List Oper} {o : Oper} {a : Act} {Q : Exit → Act → World → Prop} (hgd : o.guard = none) (s x : Operand)
    (ho : o.op = .call { callee := .builtin .append, args := #[s, x], argTypes := #[38, 38] })
    (base : Nat) (v : Value) (l : List Int) (hs : a.eval s = v) (hown : OwnN w base v l) (b : Nat) (p : Int) (hx : a.eval x = .slice (some ⟨b, 0, none⟩) 1 1) (hB : w.cell? ⟨b, 0, none⟩ = some (.int .i64 p))
    (hn : l.length < 8000000000000) (hbase : base ≤ w.heap.size)
    (h : ∀ v' w', OwnN w' base v' (l ++ [p]) → Below base w w' → wpList Try.prog ops Q rest (a.put o.dst v') w') : wpList Try.prog ops Q (o :: rest) a w := by
  obtain ⟨i, hi, hz0, hz1, hz2⟩ := info_parts infoN
  refine wpList_append_own w hgd s x 38 ho base 3 i (.int .i64 0) 1 8 Try.underlying38 hi hz0 hz1 hz2 rfl (by decide) v l.length (cn l) hs hown ⟨b, 0, none⟩ 1 1 (cn [p]) hx rfl ?_ (cn_one _)
    (by unfold maxLen; omega) (by omega) hbase fun v' w' h1 h2 _ => h v' w' (by unfold OwnN; rw [cn, List.map_append, List.length_append]; exact h1) ((Below.refl base w).grown h2 hbase fun k hk => (hown.lt k hk).1)
  intro j u hu
  unfold Addr.add
  match j, hu with
  | 0, hu => simp [cn] at hu; subst hu; exact hB
  | j + 1, hu => simp [cn] at hu
end Go.Proofs.Ytdhdofgdeljajaa
