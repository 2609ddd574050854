/-
  Appending bytes, an operation at a time.
-/
import Derived.Lib.AppendStr
import Derived.Laws.AppendOwnNone
import Derived.Test.YtkgclmikhpjheaaGreatDoorQ15
namespace Go.Proofs.YtkgclmikhpjheaaGreatDoor.pa
open Go.RowKit dec

theorem ob_lit (w : World) (B : Nat) (hB : B ≤ w.heap.size) : OB (w.alloc (.cells #[] 5)) B (.slice (some ⟨w.heap.size, 0, none⟩) 0 0) [] := World.ownsRow_lit w #[] 0 hB (by unfold maxLen; omega) rfl
theorem wp_catB (w : World) {o : Oper} {a : Act} {K : Act → World → Prop} {Q : Exit → Act → World → Prop} (s x : Operand)
    (ho : o.op = .call { callee := .builtin .append, args := #[s, x], argTypes := #[22, 22] })
    (base : Nat) (v : Value) (l : List UInt8) (hs : a.eval s = v) (hown : OB w base v l) (ad : Option Addr) (n cap : Nat) (t : ByteArray) (hx : a.eval x = .slice ad n cap) (hS : Bs w ad n cap t)
    (hn : l.length + n < 140737488355328) (hbase : base ≤ w.heap.size)
    (h : ∀ v' w', OB w' base v' (l ++ t.data.toList) → Below base w w' → w.grownBy w' v.ownBlock → K (a.put o.dst v') w') : o.wp Tryz.prog a w K Q := by
  obtain ⟨i, hi, hz0, hz1, hz2⟩ := info_parts infoU
  have hln := hS.hn
  cases ad with
  | none =>
    have h0 := hS.hno rfl
    have h1 := hS.hcap
    have hn0 : n = 0 := by omega
    subst h0
    subst hn0
    have ht : t.data.toList = [] := List.eq_nil_of_length_eq_zero (by rw [str_len]; exact hln)
    have hrun := run_append_owned_none (P := Tryz.prog) (w := w) base 22 o.type 5 i 1 Tryz.underlying22 hi v l.length (bv l) hown
    unfold Oper.wp
    simp only [execOp, ho, resolve, invoke, builtin, Sem.run_bind, Sem.run_pure, Result.andThen_ok, List.map_toArray, List.map_cons, List.map_nil, hs, hx, hrun]
    exact (h v w (by rw [ht, List.append_nil]; exact hown) (Below.refl _ _) ⟨rfl, rfl, rfl, Nat.le_refl _, fun _ _ _ => rfl⟩)
  | some ad =>
    refine wp_append_own w s x 22 ho base 5 i (.int .u8 0) 1 1 Tryz.underlying22 hi hz0 hz1 hz2 rfl (by decide) v l.length (bv l) hs hown ad n cap (bv t.data.toList) hx (by rw [bv_len, str_len, hln]; omega) ?_ (fun u hu => by unfold bv at hu; obtain ⟨c, _, rfl⟩ := List.mem_map.1 hu; rfl)
      (by unfold maxLen; omega) (by omega) hbase fun v' w' h1 h2 _ => ?_
    · intro j u hu
      have hj : j < t.size := by
        rcases Nat.lt_or_ge j (bv t.data.toList).length with h' | h'
        · rwa [bv_len, str_len] at h'
        · rw [List.getElem?_eq_none h'] at hu; cases hu
      obtain ⟨b, off, e, hC⟩ := hS.hat.resolve_left (by omega)
      cases e
      have hp : (⟨b, off, none⟩ : Addr).add j = ⟨b, off + j, none⟩ := by
        unfold Addr.add
        by_cases h : j = 0 <;> simp [h]
      unfold bv at hu
      rw [List.getElem?_map, ba_at t j hj] at hu
      rw [hp, hC j hj, ← hu]
      rfl
    · refine (h v' w' ?_ ((Below.refl base w).grown h2 hbase fun k hk => (hown.lt k hk).1) h2)
      unfold OB
      rw [bv_append, List.length_append, str_len, hln]
      exact h1
theorem wp_pushO (w : World) {o : Oper} {a : Act} {K : Act → World → Prop} {Q : Exit → Act → World → Prop} (s x : Operand)
    (ho : o.op = .call { callee := .builtin .append, args := #[s, x], argTypes := #[22, 22] })
    (base : Nat) (v : Value) (l : List UInt8) (hs : a.eval s = v) (hown : OB w base v l) (b : Nat) (t : UInt8) (hx : a.eval x = .slice (some ⟨b, 0, none⟩) 1 1) (hB : w.cell? ⟨b, 0, none⟩ = some (.int .u8 (t.toNat : Int)))
    (hn : l.length < 140737488355328) (hbase : base ≤ w.heap.size)
    (h : ∀ v' w', OB w' base v' (l ++ [t]) → Below base w w' → K (a.put o.dst v') w') : o.wp Tryz.prog a w K Q := by
  obtain ⟨i, hi, hz0, hz1, hz2⟩ := info_parts infoU
  refine wp_append_own w s x 22 ho base 5 i (.int .u8 0) 1 1 Tryz.underlying22 hi hz0 hz1 hz2 rfl (by decide) v l.length (bv l) hs hown ⟨b, 0, none⟩ 1 1 [.int .u8 (t.toNat : Int)] hx rfl ?_ (fun u hu => by simp at hu; subst hu; rfl)
    (by unfold maxLen; omega) (by omega) hbase fun v' w' h1 h2 _ => (h v' w' (by unfold OB; rw [bv_append, List.length_append]; exact h1) ((Below.refl base w).grown h2 hbase fun k hk => (hown.lt k hk).1))
  intro j u hu
  match j, hu with
  | 0, hu => simp at hu; subst hu; exact hB
  | j + 1, hu => simp at hu
end Go.Proofs.YtkgclmikhpjheaaGreatDoor.pa
