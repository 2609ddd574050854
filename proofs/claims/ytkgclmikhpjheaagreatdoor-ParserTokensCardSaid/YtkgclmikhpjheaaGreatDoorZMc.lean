/-
  Appending whole slices of tokens and of problems; literals.
-/
import Derived.Laws.AppendOwn
import Derived.Test.YtkgclmikhpjheaaGreatDoorZSam
namespace Go.Proofs.YtkgclmikhpjheaaGreatDoor.tk
open Go.RowKit dec

theorem wpList_cat (w : World) {ops : Array Oper} {rest : List Oper} {o : Oper} {a : Act} {Q : Exit → Act → World → Prop} (hgd : o.guard = none) (s x : Operand)
    (ho : o.op = .call { callee := .builtin .append, args := #[s, x], argTypes := #[54, 54] })
    (base : Nat) (v : Value) (l : List Tk) (hs : a.eval s = v) (hown : Own w base v l) (ad : Option Addr) (n cap : Nat) (l2 : List Tk) (hx : a.eval x = .slice ad n cap) (hS : Sl w ad n cap l2)
    (hn : l.length + n < 4398046511104) (hbase : base ≤ w.heap.size)
    (h : ∀ v' w', Own w' base v' (l ++ l2) → Below base w w' → w.grownBy w' v.ownBlock → wpList Tryz.prog ops Q rest (a.put o.dst v') w') : wpList Tryz.prog ops Q (o :: rest) a w := by
  refine wpList_plain hgd fun K hK => ?_
  obtain ⟨i, hi, hz0, hz1, hz2⟩ := info_parts infoF
  have hln := hS.hn
  cases ad with
  | none =>
    have h0 := hS.hno rfl
    have h1 := hS.hcap
    have hn0 : n = 0 := by omega
    subst h0
    subst hn0
    have hl2 : l2 = [] := List.eq_nil_of_length_eq_zero hln
    subst hl2
    have hrun := run_append_owned_none (P := Tryz.prog) (w := w) base 54 o.type 79 i 3 Tryz.underlying54 hi v l.length (cs l) hown
    unfold Oper.wp
    simp only [execOp, ho, resolve, invoke, builtin, Sem.run_bind, Sem.run_pure, Result.andThen_ok, List.map_toArray, List.map_cons, List.map_nil, hs, hx, hrun]
    exact hK _ _ (h v w (by rw [List.append_nil]; exact hown) (Below.refl _ _) ⟨rfl, rfl, rfl, Nat.le_refl _, fun _ _ _ => rfl⟩)
  | some ad =>
    refine wp_append_own w s x 54 ho base 79 i (.agg #[.int .i64 0, .string .empty, .int .i64 0]) 3 32 Tryz.underlying54 hi hz0 hz1 hz2 rfl (by decide) v l.length (cs l) hs hown ad n cap (cs l2) hx (by rw [cs_length, hln]) ?_ (cs_one _)
      (by unfold maxLen; omega) (by omega) hbase fun v' w' h1 h2 _ => ?_
    · intro j u hu
      have hj : j < l2.length * 3 := by
        rcases Nat.lt_or_ge j (cs l2).length with h' | h'
        · rwa [cs_length] at h'
        · rw [List.getElem?_eq_none h'] at hu; cases hu
      rcases hS.hat with h0 | ⟨b, off, e, hC⟩
      · omega
      · cases e
        have hp : (⟨b, off, none⟩ : Addr).add j = ⟨b, off + j, none⟩ := by
          unfold Addr.add
          by_cases h : j = 0 <;> simp [h]
        rw [hp]
        obtain ⟨c0, c1, c2⟩ := hC (j / 3) (by omega)
        obtain ⟨e0, e1, e2⟩ := cs_at l2 (j / 3) (by omega)
        rcases (show j % 3 = 0 ∨ j % 3 = 1 ∨ j % 3 = 2 by omega) with hm | hm | hm
        · have ej : j / 3 * 3 = j := by omega
          rw [ej] at c0 e0
          rw [e0] at hu
          rw [c0, hu]
        · have ej : j / 3 * 3 + 1 = j := by omega
          rw [Nat.add_assoc, ej] at c1
          rw [ej] at e1
          rw [e1] at hu
          rw [c1, hu]
        · have ej : j / 3 * 3 + 2 = j := by omega
          rw [Nat.add_assoc, ej] at c2
          rw [ej] at e2
          rw [e2] at hu
          rw [c2, hu]
    · refine hK _ _ (h v' w' ?_ (own_below hown h2 hbase) h2)
      unfold Own
      rw [cs_append, List.length_append, hln]
      exact h1
theorem own_new (w : World) (B : Nat) (hB : B ≤ w.heap.size) : Own (w.alloc (.cells #[] 79)) B (.slice (some ⟨w.heap.size, 0, none⟩) 0 0) [] := World.ownsRow_lit w #[] 0 hB (by unfold maxLen; omega) rfl
theorem sl_lit (w : World) (l : List Tk) (n : Nat) (hn : l.length = n) (cur : Array Value) (h : cur.toList = cs l) (hl : l.length ≤ 1000) : Sl (w.alloc (.cells cur 79)) (some ⟨w.heap.size, 0, none⟩) n n l := by
  have h1 := World.ownsRow_lit (base := w.heap.size) (e := 79) (size := 3) w cur l.length (Nat.le_refl _) (by unfold maxLen; omega) (by rw [← Array.length_toList, h, cs_length])
  rw [h] at h1
  obtain ⟨a, cap, e, S⟩ := Own.sl (v := .slice (some ⟨w.heap.size, 0, none⟩) l.length l.length) h1
  cases e
  rw [hn] at S
  exact S
end Go.Proofs.YtkgclmikhpjheaaGreatDoor.tk
namespace Go.Proofs.YtkgclmikhpjheaaGreatDoor.pb
open Go.RowKit dec

theorem wpList_cat (w : World) {ops : Array Oper} {rest : List Oper} {o : Oper} {a : Act} {Q : Exit → Act → World → Prop} (hgd : o.guard = none) (s x : Operand)
    (ho : o.op = .call { callee := .builtin .append, args := #[s, x], argTypes := #[28, 28] })
    (base : Nat) (v : Value) (l : List Pb) (hs : a.eval s = v) (hown : Own w base v l) (ad : Option Addr) (n cap : Nat) (l2 : List Pb) (hx : a.eval x = .slice ad n cap) (hS : Sl w ad n cap l2)
    (hn : l.length + n < 8796093022208) (hbase : base ≤ w.heap.size)
    (h : ∀ v' w', Own w' base v' (l ++ l2) → Below base w w' → w.grownBy w' v.ownBlock → wpList Tryz.prog ops Q rest (a.put o.dst v') w') : wpList Tryz.prog ops Q (o :: rest) a w := by
  refine wpList_plain hgd fun K hK => ?_
  obtain ⟨i, hi, hz0, hz1, hz2⟩ := info_parts infoF
  have hln := hS.hn
  cases ad with
  | none =>
    have h0 := hS.hno rfl
    have h1 := hS.hcap
    have hn0 : n = 0 := by omega
    subst h0
    subst hn0
    have hl2 : l2 = [] := List.eq_nil_of_length_eq_zero hln
    subst hl2
    have hrun := run_append_owned_none (P := Tryz.prog) (w := w) base 28 o.type 60 i 2 Tryz.underlying28 hi v l.length (cs l) hown
    unfold Oper.wp
    simp only [execOp, ho, resolve, invoke, builtin, Sem.run_bind, Sem.run_pure, Result.andThen_ok, List.map_toArray, List.map_cons, List.map_nil, hs, hx, hrun]
    exact hK _ _ (h v w (by rw [List.append_nil]; exact hown) (Below.refl _ _) ⟨rfl, rfl, rfl, Nat.le_refl _, fun _ _ _ => rfl⟩)
  | some ad =>
    refine wp_append_own w s x 28 ho base 60 i (.agg #[.int .i64 0, .int .i64 0]) 2 16 Tryz.underlying28 hi hz0 hz1 hz2 rfl (by decide) v l.length (cs l) hs hown ad n cap (cs l2) hx (by rw [cs_length, hln]) ?_ (cs_one _)
      (by unfold maxLen; omega) (by omega) hbase fun v' w' h1 h2 _ => ?_
    · intro j u hu
      have hj : j < l2.length * 2 := by
        rcases Nat.lt_or_ge j (cs l2).length with h' | h'
        · rwa [cs_length] at h'
        · rw [List.getElem?_eq_none h'] at hu; cases hu
      rcases hS.hat with h0 | ⟨b, off, e, hC⟩
      · omega
      · cases e
        have hp : (⟨b, off, none⟩ : Addr).add j = ⟨b, off + j, none⟩ := by
          unfold Addr.add
          by_cases h : j = 0 <;> simp [h]
        rw [hp]
        obtain ⟨c0, c1⟩ := hC (j / 2) (by omega)
        obtain ⟨e0, e1⟩ := cs_at l2 (j / 2) (by omega)
        rcases (show j % 2 = 0 ∨ j % 2 = 1 by omega) with hm | hm
        · have ej : j / 2 * 2 = j := by omega
          rw [ej] at c0 e0
          rw [e0] at hu
          rw [c0, hu]
        · have ej : j / 2 * 2 + 1 = j := by omega
          rw [Nat.add_assoc, ej] at c1
          rw [ej] at e1
          rw [e1] at hu
          rw [c1, hu]
    · refine hK _ _ (h v' w' ?_ (own_below hown h2 hbase) h2)
      unfold Own
      rw [cs_append, List.length_append, hln]
      exact h1
theorem own_new (w : World) (B : Nat) (hB : B ≤ w.heap.size) : Own (w.alloc (.cells #[] 60)) B (.slice (some ⟨w.heap.size, 0, none⟩) 0 0) [] := World.ownsRow_lit w #[] 0 hB (by unfold maxLen; omega) rfl
theorem sl_lit (w : World) (l : List Pb) (n : Nat) (hn : l.length = n) (cur : Array Value) (h : cur.toList = cs l) (hl : l.length ≤ 1000) : Sl (w.alloc (.cells cur 60)) (some ⟨w.heap.size, 0, none⟩) n n l := by
  have h1 := World.ownsRow_lit (base := w.heap.size) (e := 60) (size := 2) w cur l.length (Nat.le_refl _) (by unfold maxLen; omega) (by rw [← Array.length_toList, h, cs_length])
  rw [h] at h1
  obtain ⟨a, cap, e, S⟩ := Own.sl (v := .slice (some ⟨w.heap.size, 0, none⟩) l.length l.length) h1
  cases e
  rw [hn] at S
  exact S
end Go.Proofs.YtkgclmikhpjheaaGreatDoor.pb
