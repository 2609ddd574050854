/-
  append of a whole slice; Clone; what combine returns, as cases.
-/
import Derived.Test.YtcndlcogainnkaaGreatDoorNrm
import Derived.Test.YtcndlcogainnkaaGreatDoorSme
import Derived.Lib.Slices
namespace Go.Proofs.YtcndlcogainnkaaGreatDoor
open Go.RowKit dec

theorem wpList_cat (w : World) {ops : Array Oper} {rest : List Oper} {o : Oper} {a : Act} {Q : Exit → Act → World → Prop} (hgd : o.guard = none) (s x : Operand)
    (ho : o.op = .call { callee := .builtin .append, args := #[s, x], argTypes := #[22, 22] })
    (base : Nat) (v : Value) (l : List Fa) (hs : a.eval s = v) (hown : Own w base v l) (ad : Option Addr) (n cap : Nat) (l2 : List Fa) (hx : a.eval x = .slice ad n cap) (hS : Sl w ad n cap l2)
    (hn : l.length + n < 5864062014805) (hbase : base ≤ w.heap.size)
    (h : ∀ v' w', Own w' base v' (l ++ l2) → Below base w w' → wpList Tryz.prog ops Q rest (a.put o.dst v') w') : wpList Tryz.prog ops Q (o :: rest) a w := by
  refine wpList_plain hgd fun K hK => ?_
  obtain ⟨i, hi, hz0, hz1, hz2⟩ := info_parts infoF
  have hln := hS.hn
  cases ad with
  | none =>
    have h0 := hS.hno rfl
    have h1 := hS.hcap
    have hn0 : n = 0 := by omega
    subst h0
    subst hn0
    have hl2 : l2 = [] := List.eq_nil_of_length_eq_zero hln
    subst hl2
    have hrun := run_append_owned_none (P := Tryz.prog) (w := w) base 22 o.type 37 i 2 Tryz.underlying22 hi v l.length (cs l) hown
    unfold Oper.wp
    simp only [execOp, ho, resolve, invoke, builtin, Sem.run_bind, Sem.run_pure, Result.andThen_ok, List.map_toArray, List.map_cons, List.map_nil, hs, hx, hrun]
    exact hK _ _ (h v w (by rw [List.append_nil]; exact hown) (Below.refl _ _))
  | some ad =>
    refine wp_append_own w s x 22 ho base 37 i (.agg #[.string .empty, .int .i64 0]) 2 24 Tryz.underlying22 hi hz0 hz1 hz2 rfl (by decide) v l.length (cs l) hs hown ad n cap (cs l2) hx (by rw [cs_length, hln]) ?_ (cs_one _)
      (by unfold maxLen; omega) (by omega) hbase fun v' w' h1 h2 _ => ?_
    · intro j u hu
      have hj : j < l2.length * 2 := by
        rcases Nat.lt_or_ge j (cs l2).length with h' | h'
        · rwa [cs_length] at h'
        · rw [List.getElem?_eq_none h'] at hu; cases hu
      rcases hS.hat with h0 | ⟨b, off, e, hC⟩
      · omega
      · cases e
        have hp : (⟨b, off, none⟩ : Addr).add j = ⟨b, off + j, none⟩ := by
          unfold Addr.add
          by_cases h : j = 0 <;> simp [h]
        rw [hp]
        obtain ⟨c0, c1⟩ := hC (j / 2) (by omega)
        obtain ⟨e0, e1⟩ := cs_at l2 (j / 2) (by omega)
        rcases Nat.mod_two_eq_zero_or_one j with hm | hm
        · have ej : j / 2 * 2 = j := by omega
          rw [ej] at c0 e0
          rw [e0] at hu
          rw [c0, hu]
        · have ej : j / 2 * 2 + 1 = j := by omega
          rw [Nat.add_assoc, ej] at c1
          rw [ej] at e1
          rw [e1] at hu
          rw [c1, hu]
    · refine hK _ _ (h v' w' ?_ (own_below hown h2 hbase))
      unfold Own
      rw [cs_append, List.length_append, hln]
      exact h1
theorem own_new (w : World) (B : Nat) (hB : B ≤ w.heap.size) : Own (w.alloc (.cells #[] 37)) B (.slice (some ⟨w.heap.size, 0, none⟩) 0 0) [] := World.ownsRow_lit w #[] 0 hB (by unfold maxLen; omega) rfl
theorem bw_two (w : World) (o : Obj) (s : ByteArray) (y : Int) : Bw ((w.alloc o).alloc (.cells #[.string s, .int .i64 y] 37)) (w.heap.size + 1) (s, y) := by
  have h := Bw.new (w.alloc o) (s, y) 37
  rw [asz] at h
  exact h
theorem is_cat {w : World} {ops : Array Oper} {rest : List Oper} {o : Oper} {a : Act} {Q : Exit → Act → World → Prop} (s x : Operand) (_ : o.op = .call { callee := .builtin .append, args := #[s, x], argTypes := #[22, 22] })
    (k : wpList Tryz.prog ops Q (o :: rest) a w) : wpList Tryz.prog ops Q (o :: rest) a w := k
set_option maxRecDepth 100000 in
set_option maxHeartbeats 1000000 in
theorem clone_any (a : Option Addr) (n cap : Nat) (l : List Fa) (w : World) (hS : Sl w a n cap l) (hlen : l.length < 5864062014805) :
    Calls Tryz.prog 59 #[.slice a n cap] w fun e w' => ∃ v, e = .returned v ∧ Own w' w.heap.size v l ∧ Below w.heap.size w w' := by
  have q22 : ∀ (w : World) (a : Option Addr) (n c n' c' : Nat), (binOp .eql 22 (.slice a n c) (.slice none n' c')).run Tryz.prog w = .ok (.bool a.isNone) w := fun w a n c n' c' => Lib.run_eql_slice_nil w _ _ a n c n' c' Tryz.underlying22
  cases a with
  | none =>
    have h0 := hS.hno rfl
    have h1 := hS.hcap
    have hn0 : n = 0 := by omega
    subst h0
    subst hn0
    have hl2 : l = [] := List.eq_nil_of_length_eq_zero hS.hn
    subst hl2
    clear hS hlen h1
    go_enter Tryz.func59, Tryz.ntmps59
    go_wp2_with fail
    go_ret
    exact ⟨_, rfl, Own.nil _ _, b0 w⟩
  | some ad =>
    have S1 := Lib.hid (hS.keeps (balloc (b0 w) (.cells #[] 37)))
    have O1 := Lib.hid (own_new w w.heap.size (Nat.le_refl _))
    have hl := Lib.hid (show ([] : List Fa).length + n < 5864062014805 by have := hS.hn; simp; omega)
    clear hS hlen
    go_enter Tryz.func59, Tryz.ntmps59
    go_wp2_with (at_builtin; refine is_cat (.tmp 5) (.tmp 6) rfl ?_; refine wpList_cat _ rfl (.tmp 5) (.tmp 6) rfl w.heap.size _ [] rfl O1.out (some ad) n cap l rfl S1.out hl.out (by simp) ?_; intro v' w' h1 h2)
    have O2 := Lib.hid h1
    have B2 := Lib.hid ((balloc (b0 w) (.cells #[] 37)).trans h2)
    clear h1 h2
    go_wp2_with fail
    go_ret
    exact ⟨_, rfl, O2.out, B2.out⟩
/-- What Times and Over return. -/
def Ret (w w' : World) (e : Ending) (c : Int) (l : List Fa) : Prop := ∃ v, e = .returned (.tuple #[v, .int .i64 c]) ∧ Out w' v l ∧ Below w.heap.size w w'
theorem cE_a {p : Int} {a b : List Fa} (h : ck a ≠ 0) : cE p a b = ck a ∧ cL p a b = [] := by
  have e : cE p a b = ck a := by unfold cE; rw [if_neg h]
  exact ⟨e, by unfold cL; rw [e, if_neg h]⟩
theorem cE_b {p : Int} {a b : List Fa} (h1 : ck a = 0) (h : ck b ≠ 0) : cE p a b = ck b ∧ cL p a b = [] := by
  have e : cE p a b = ck b := by unfold cE; rw [if_pos h1, if_neg h]
  exact ⟨e, by unfold cL; rw [e, if_neg h]⟩
theorem cE_n {p : Int} {a b : List Fa} (h1 : ck a = 0) (h2 : ck b = 0) : cE p a b = nE (a ++ sc p b) ∧ cL p a b = nL (a ++ sc p b) := by
  have e : cE p a b = nE (a ++ sc p b) := by unfold cE; rw [if_pos h1, if_pos h2]
  refine ⟨e, ?_⟩
  unfold cL
  rw [e]
  split
  · rfl
  · rename_i h
    unfold nL
    rw [if_neg h]
theorem sc_next {p : Int} {b : List Fa} {j : Nat} (h : j < b.length) : sc p (b.take (j + 1)) = sc p (b.take j) ++ [((gt b j).1, (gt b j).2 * p)] := by
  rw [take_gt h]
  unfold sc
  rw [List.map_append]
  rfl
theorem Own.out_ {w : World} {base : Nat} {v : Value} {l : List Fa} (h : Own w base v l) : Out w v l := by
  obtain ⟨a, cap, e, S⟩ := h.sl
  exact ⟨a, cap, e, S⟩
theorem far_le {x : Int} (h : far x = false) : -8 ≤ x ∧ x ≤ 8 := by
  unfold far at h
  rw [decide_eq_false_iff_not] at h
  omega
end Go.Proofs.YtcndlcogainnkaaGreatDoor
