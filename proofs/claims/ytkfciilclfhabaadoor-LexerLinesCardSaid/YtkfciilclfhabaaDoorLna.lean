/-
  Appends that LexerLines makes: a slice of bytes, a slice of problems in a region of open order.
-/
import Derived.Test.YtkfciilclfhabaaDoorLnf
import Derived.Test.YtkfciilclfhabaaDoorCvr
namespace Go.Proofs.YtkfciilclfhabaaDoor.pb
open Go.RowKit dec

theorem wp_cat (w : World) {o : Oper} {a : Act} {K : Act → World → Prop} {Q : Exit → Act → World → Prop} (s x : Operand)
    (ho : o.op = .call { callee := .builtin .append, args := #[s, x], argTypes := #[26, 26] })
    (base : Nat) (v : Value) (l : List Pb) (hs : a.eval s = v) (hown : Own w base v l) (ad : Option Addr) (n cap : Nat) (l2 : List Pb) (hx : a.eval x = .slice ad n cap) (hS : Sl w ad n cap l2)
    (hn : l.length + n < 8796093022208) (hbase : base ≤ w.heap.size)
    (h : ∀ v' w', Own w' base v' (l ++ l2) → Below base w w' → w.grownBy w' v.ownBlock → K (a.put o.dst v') w') : o.wp Tryd.prog a w K Q := by
  obtain ⟨i, hi, hz0, hz1, hz2⟩ := info_parts infoF
  have hln := hS.hn
  cases ad with
  | none =>
    have h0 := hS.hno rfl
    have h1 := hS.hcap
    have hn0 : n = 0 := by omega
    subst h0
    subst hn0
    have hl2 : l2 = [] := List.eq_nil_of_length_eq_zero hln
    subst hl2
    have hrun := run_append_owned_none (P := Tryd.prog) (w := w) base 26 o.type 34 i 2 Tryd.underlying26 hi v l.length (cs l) hown
    unfold Oper.wp
    simp only [execOp, ho, resolve, invoke, builtin, Sem.run_bind, Sem.run_pure, Result.andThen_ok, List.map_toArray, List.map_cons, List.map_nil, hs, hx, hrun]
    exact h v w (by rw [List.append_nil]; exact hown) (Below.refl _ _) ⟨rfl, rfl, rfl, Nat.le_refl _, fun _ _ _ => rfl⟩
  | some ad =>
    refine wp_append_own w s x 26 ho base 34 i (.agg #[.int .i64 0, .int .i64 0]) 2 16 Tryd.underlying26 hi hz0 hz1 hz2 rfl (by decide) v l.length (cs l) hs hown ad n cap (cs l2) hx (by rw [cs_length, hln]) ?_ (cs_one _)
      (by unfold maxLen; omega) (by omega) hbase fun v' w' h1 h2 _ => ?_
    · intro j u hu
      have hj : j < l2.length * 2 := by
        rcases Nat.lt_or_ge j (cs l2).length with h' | h'
        · rwa [cs_length] at h'
        · rw [List.getElem?_eq_none h'] at hu; cases hu
      rcases hS.hat with h0 | ⟨b, off, e, hC⟩
      · omega
      · cases e
        have hp : (⟨b, off, none⟩ : Addr).add j = ⟨b, off + j, none⟩ := by
          unfold Addr.add
          by_cases h : j = 0 <;> simp [h]
        rw [hp]
        obtain ⟨c0, c1⟩ := hC (j / 2) (by omega)
        obtain ⟨e0, e1⟩ := cs_at l2 (j / 2) (by omega)
        rcases (show j % 2 = 0 ∨ j % 2 = 1 by omega) with hm | hm
        · have ej : j / 2 * 2 = j := by omega
          rw [ej] at c0 e0
          rw [e0] at hu
          rw [c0, hu]
        · have ej : j / 2 * 2 + 1 = j := by omega
          rw [Nat.add_assoc, ej] at c1
          rw [ej] at e1
          rw [e1] at hu
          rw [c1, hu]
    · refine h v' w' ?_ (own_below hown h2 hbase) h2
      unfold Own
      rw [cs_append, List.length_append, hln]
      exact h1
theorem Bw.grownBy {w w' : World} {b : Nat} {x : Pb} {row : Option Nat} (h : Bw w b x) (hg : w.grownBy w' row) (hne : some b ≠ row) : Bw w' b x := by
  have e := hg.block b h.lt hne
  exact ⟨(World.cell?_of_block (a := ⟨b, 0, none⟩) e).trans h.c0, (World.cell?_of_block (a := ⟨b, 1, none⟩) e).trans h.c1⟩
end Go.Proofs.YtkfciilclfhabaaDoor.pb
namespace Go.Proofs.YtkfciilclfhabaaDoor
open Go.RowKit dec

theorem ob_new (w : World) (B : Nat) (hB : B ≤ w.heap.size) : OB (w.alloc (.cells #[] 5)) B (.slice (some ⟨w.heap.size, 0, none⟩) 0 0) [] := World.ownsRow_lit w #[] 0 hB (by unfold maxLen; omega) rfl
theorem wpList_catBs (w : World) {ops : Array Oper} {rest : List Oper} {o : Oper} {a : Act} {Q : Exit → Act → World → Prop} (hgd : o.guard = none) (s x : Operand)
    (ho : o.op = .call { callee := .builtin .append, args := #[s, x], argTypes := #[24, 24] })
    (base : Nat) (v : Value) (l : List UInt8) (hs : a.eval s = v) (hown : OB w base v l) (ad : Option Addr) (n cap : Nat) (t : ByteArray) (hx : a.eval x = .slice ad n cap) (hS : Bs w ad n cap t)
    (hn : l.length + n < 140737488355328) (hbase : base ≤ w.heap.size)
    (h : ∀ v' w', OB w' base v' (l ++ t.data.toList) → Below base w w' → wpList Tryd.prog ops Q rest (a.put o.dst v') w') : wpList Tryd.prog ops Q (o :: rest) a w := by
  refine wpList_plain hgd fun K hK => ?_
  obtain ⟨i, hi, hz0, hz1, hz2⟩ := info_parts infoU
  have hln := hS.hn
  cases ad with
  | none =>
    have h0 := hS.hno rfl
    have h1 := hS.hcap
    have hn0 : n = 0 := by omega
    subst h0
    subst hn0
    have ht : t.data.toList = [] := List.eq_nil_of_length_eq_zero (by rw [str_len]; exact hln)
    have hrun := run_append_owned_none (P := Tryd.prog) (w := w) base 24 o.type 5 i 1 Tryd.underlying24 hi v l.length (bv l) hown
    unfold Oper.wp
    simp only [execOp, ho, resolve, invoke, builtin, Sem.run_bind, Sem.run_pure, Result.andThen_ok, List.map_toArray, List.map_cons, List.map_nil, hs, hx, hrun]
    exact hK _ _ (h v w (by rw [ht, List.append_nil]; exact hown) (Below.refl _ _))
  | some ad =>
    refine wp_append_own w s x 24 ho base 5 i (.int .u8 0) 1 1 Tryd.underlying24 hi hz0 hz1 hz2 rfl (by decide) v l.length (bv l) hs hown ad n cap (bv t.data.toList) hx (by rw [bv_len, str_len, hln]; omega) ?_ (fun u hu => by unfold bv at hu; obtain ⟨c, _, rfl⟩ := List.mem_map.1 hu; rfl)
      (by unfold maxLen; omega) (by omega) hbase fun v' w' h1 h2 _ => ?_
    · intro j u hu
      have hj : j < t.size := by
        rcases Nat.lt_or_ge j (bv t.data.toList).length with h' | h'
        · rwa [bv_len, str_len] at h'
        · rw [List.getElem?_eq_none h'] at hu; cases hu
      obtain ⟨b, off, e, hC⟩ := hS.hat.resolve_left (by omega)
      cases e
      have hp : (⟨b, off, none⟩ : Addr).add j = ⟨b, off + j, none⟩ := by
        unfold Addr.add
        by_cases h : j = 0 <;> simp [h]
      unfold bv at hu
      rw [List.getElem?_map, ba_get t j hj] at hu
      rw [hp, hC j hj, ← hu]
      rfl
    · refine hK _ _ (h v' w' ?_ ((Below.refl base w).grown h2 hbase fun k hk => (hown.lt k hk).1))
      unfold OB
      rw [bv_append, List.length_append, str_len, hln]
      exact h1
end Go.Proofs.YtkfciilclfhabaaDoor
