/-
  The reference: encodings.
-/
import Derived.Test.YtegniedbiegcpaaDam
namespace Go.Proofs.Ytegniedbiegcpaa
open Go.RowKit

/-- The value v is a slice of the call's own with the bytes l, n of them. -/
def OwL (w : World) (base : Nat) (v : Value) (n : Nat) (l : List Nat) : Prop := w.ownsRow base 5 1 v n (Vs l) ∧ By l ∧ l.length = n
theorem OwL.nil (w : World) (base : Nat) : OwL w base (.slice none 0 0) 0 [] := ⟨World.ownsRow_nil w base 5 1, By.nil, rfl⟩
theorem OwL.li {w : World} {base n : Nat} {v : Value} {l : List Nat} (h : OwL w base v n l) (hn : n ≤ 281474976710656) : ∃ a c, v = .slice a n c ∧ Li w a n c l := by
  obtain ⟨h1, h2, h3⟩ := h
  rcases h1.2 with ⟨rfl, rfl⟩ | ⟨g, cap, cur, rfl, hb, hg, hc, hm, hs, ht⟩
  · have : l = [] := List.eq_nil_of_length_eq_zero h3
    subst this
    exact ⟨none, 0, rfl, AtL.nil _ _, rfl, by omega, by omega, by omega, fun _ => rfl⟩
  · refine ⟨_, cap, rfl, ⟨.inr ⟨g, 0, rfl, fun j hj => ?_⟩, h2.ix⟩, h3, hc, by unfold maxLen at hm; omega, hn, fun h => by cases h⟩
    rw [Nat.zero_add, h1.cellAt j (by omega)]
    exact Vs_at l hj
theorem OwL.keeps {w w1 : World} {base n : Nat} {v : Value} {l : List Nat} (h : OwL w base v n l) (hb : Below w.heap.size w w1) : OwL w1 base v n l := by
  obtain ⟨h1, h2, h3⟩ := h
  refine ⟨⟨h1.1, ?_⟩, h2, h3⟩
  rcases h1.2 with h0 | ⟨g, cap, cur, rfl, hbg, hg, r⟩
  · exact .inl h0
  · have hlt := (World.ownsRow.lt h1 g rfl).2
    exact .inr ⟨g, cap, cur, rfl, hbg, by rw [hb.block _ hlt]; exact hg, r⟩
theorem own_belowL {w w' : World} {base n : Nat} {v : Value} {l : List Nat} (h : OwL w base v n l) (hg : w.grownBy w' v.ownBlock) (hb : base ≤ w.heap.size) : Below base w w' :=
  (Below.refl base w).grown hg hb fun k hk => (World.ownsRow.lt h.1 k hk).1
theorem wp_appL (w : World) {o : Oper} {a : Act} {K : Act → World → Prop} {Q : Exit → Act → World → Prop} (s x : Operand)
    (ho : o.op = .call { callee := .builtin .append, args := #[s, x], argTypes := #[22, 22] })
    (base n : Nat) (v : Value) (l : List Nat) (hs : a.eval s = v) (hown : OwL w base v n l) (A : Option Addr) (m c : Nat) (r : List Nat) (hx : a.eval x = .slice A m c) (hA : AtL w A r) (hr : r.length = m) (hnil : A = none → c = 0)
    (hn : n + m ≤ 140737488351232) (hbase : base ≤ w.heap.size)
    (h : ∀ v' w', OwL w' base v' (n + m) (l ++ r) → Below base w w' → K (a.put o.dst v') w') : o.wp Try.prog a w K Q := by
  obtain ⟨o1, o2, o3⟩ := hown
  subst hr o3
  refine wp_app w s x ho base l.length v (ix l) hs (by unfold Own; rw [show vals (ix l) l.length = Vs l from by
    apply List.ext_getElem?
    intro j
    by_cases hj : j < l.length
    · rw [vals_at _ _ _ hj, Vs_at l hj]
    · rw [List.getElem?_eq_none (by rw [vals_length]; omega), List.getElem?_eq_none (by rw [Vs_length]; omega)]]; exact o1) A r.length c (ix r) hx hA hnil hn hbase fun v' w' h1 h2 => h v' w' ⟨?_, o2.append hA.by, List.length_append⟩ h2
  unfold Own at h1
  rw [ix_append] at h1
  have e : vals (ix (l ++ r)) (l.length + r.length) = Vs (l ++ r) := by
    apply List.ext_getElem?
    intro j
    by_cases hj : j < (l ++ r).length
    · rw [vals_at _ _ _ (by rw [List.length_append] at hj; exact hj), Vs_at _ hj]
    · rw [List.getElem?_eq_none (by rw [vals_length]; rw [List.length_append] at hj; omega), List.getElem?_eq_none (by rw [Vs_length]; omega)]
  rw [e] at h1
  exact h1
theorem wpList_appL (w : World) {ops : Array Oper} {rest : List Oper} {o : Oper} {a : Act} {Q : Exit → Act → World → Prop} (hgd : o.guard = none) (s x : Operand)
    (ho : o.op = .call { callee := .builtin .append, args := #[s, x], argTypes := #[22, 22] })
    (base n : Nat) (v : Value) (l : List Nat) (hs : a.eval s = v) (hown : OwL w base v n l) (A : Option Addr) (m c : Nat) (r : List Nat) (hx : a.eval x = .slice A m c) (hA : AtL w A r) (hr : r.length = m) (hnil : A = none → c = 0)
    (hn : n + m ≤ 140737488351232) (hbase : base ≤ w.heap.size)
    (h : ∀ v' w', OwL w' base v' (n + m) (l ++ r) → Below base w w' → wpList Try.prog ops Q rest (a.put o.dst v') w') : wpList Try.prog ops Q (o :: rest) a w :=
  wpList_plain hgd fun _ hK => wp_appL w s x ho base n v l hs hown A m c r hx hA hr hnil hn hbase fun v' w' h1 h2 => hK _ _ (h v' w' h1 h2)
theorem wpList_appS (w : World) {ops : Array Oper} {rest : List Oper} {o : Oper} {a : Act} {Q : Exit → Act → World → Prop} (hgd : o.guard = none) (s x : Operand)
    (ho : o.op = .call { callee := .builtin .append, args := #[s, x], argTypes := #[22, 9] })
    (base n : Nat) (v : Value) (l : List Nat) (hs : a.eval s = v) (hown : OwL w base v n l) (r : ByteArray) (hx : a.eval x = .string r)
    (hn : n + r.size ≤ 140737488351232) (hbase : base ≤ w.heap.size)
    (h : ∀ v' w', OwL w' base v' (n + r.size) (l ++ sl r) → Below base w w' → wpList Try.prog ops Q rest (a.put o.dst v') w') : wpList Try.prog ops Q (o :: rest) a w := by
  obtain ⟨i, hi, hz0, hz1, hz2⟩ := info_parts info5
  refine Lib.wpList_append_own_string w hgd s x 22 9 ho base 5 i Try.underlying22 Try.underlying9 hi hz0 hz1 hz2 v n (Vs l) hs hown.1 r hx (by unfold maxLen; omega) (by omega) hbase fun v' w' h1 h2 _ => h v' w' ⟨?_, hown.2.1.append (by_sl r), by rw [List.length_append, sl_length, hown.2.2]⟩ (own_belowL hown h2 hbase)
  rw [Vs_append, Vs_sl]
  exact h1

/-- What a function returns that makes the bytes x. -/
def Mk (x : List Nat) (w : World) (e : Ending) (w' : World) : Prop := ∃ v, e = .returned v ∧ OwL w' w.heap.size v x.length x ∧ Below w.heap.size w w'

theorem refJoin_any (a : Option Addr) (n cap : Nat) (l : List Nat) (b : Option Addr) (m cap2 : Nat) (r : List Nat) (w : World) (hA : Li w a n cap l) (hB : Li w b m cap2 r) (hn : n + m ≤ 140737488351232) :
    Calls Try.prog 15 #[.slice a n cap, .slice b m cap2] w (Mk (l ++ r) w) := by
  have O := OwL.nil w w.heap.size
  have hat := hA.hat
  have A6 := hA.hno
  have B6 := hB.hno
  have HA := Lib.hid hA.hn
  have HB := Lib.hid hB
  have HA6 := Lib.hid A6
  have HB6 := Lib.hid B6
  clear hA hB A6 B6
  go_enter Try.func15, Try.ntmps15
  go_wp2_with (first | (at_builtin; refine wpList_appL _ rfl (.tmp 6) (.tmp 7) rfl w.heap.size 0 _ [] rfl O a n cap l rfl hat HA.out HA6.out (by omega) (Nat.le_refl _) ?_; intro v1 w1 O1 b1; rw [Nat.zero_add, List.nil_append] at O1; have hat2 := (HB.out.keeps b1).hat) | (at_builtin; refine wpList_appL _ rfl (.tmp 9) (.tmp 10) rfl w.heap.size n v1 l rfl O1 b m cap2 r rfl hat2 HB.out.hn HB6.out hn b1.size ?_; intro v2 w2 O2 b2))
  go_ret
  refine ⟨v2, rfl, ?_, b1.trans b2⟩
  rw [show (l ++ r).length = n + m by rw [List.length_append, HA.out, HB.out.hn]]
  exact O2

theorem refUint_any (v : Nat) (w : World) (hv : v < 18446744073709551616) : Calls Try.prog 16 #[.int .u64 (v : Nat)] w (Mk (en v) w) := by
  have O := OwL.nil w w.heap.size
  have hlen := en_ten hv
  have HV := Lib.hid hv
  have HLE := Lib.hid hlen
  clear hv hlen
  go_enter Try.func16, Try.ntmps16
  go_wp2_with fail
  go_loopw [0, 3] (fun x s wr => ∃ (u j : Nat) (p : List Nat), x = .int .u64 u ∧ OwL wr w.heap.size s j p ∧ p ++ en u = en v ∧ u < 18446744073709551616 ∧ Below w.heap.size w wr) (fun x _ _ => (intOf x).toNat)
  case atStart => exact ⟨v, 0, [], rfl, O, rfl, HV.out, Below.refl _ _⟩
  case round =>
    obtain ⟨u, j, p, rfl, O, hen, hu, hb⟩ := hrel
    have hl := HLE.out
    rw [← hen, List.length_append, O.2.2] at hl
    have hp := en_pos u
    have HEN := Lib.hid hen
    have HU := Lib.hid hu
    clear hen hu
    by_cases h : u < 128
    · have hB : decide ((128 : Int) ≤ u) = false := decide_eq_false (by omega)
      have he := en_small h
      have HE := Lib.hid he
      clear he
      go_wp2_with (at_builtin; refine wpList_appL _ rfl (.tmp 15) (.tmp 18) rfl w.heap.size j _ p rfl (O.keeps (balloc (b0 _) _)) (some ⟨wr.heap.size, 0, none⟩) 1 1 [u] rfl (one_new wr _ u (by omega) (by omega)) rfl (fun e => by cases e) (by omega) (balloc hb _).size ?_; intro w2v w2 O2 b2)
      go_ret
      refine ⟨w2v, rfl, ?_, (balloc hb _).trans b2⟩
      rw [← HEN.out, HE.out, show (p ++ [u]).length = j + 1 by rw [List.length_append, O.2.2]; rfl]
      exact O2
    · have hB : decide ((128 : Int) ≤ u) = true := decide_eq_true (by omega)
      have he := en_big h
      have HE := Lib.hid he
      have hq : IntKind.u64.wrap ((u : Int) / 128) = ((u / 128 : Nat) : Int) := by
        have := HU.out
        rw [IntWalk.u64_in] <;> omega
      clear he
      go_wp2_with (at_builtin; refine wpList_appL _ rfl (.tmp 6) (.tmp 11) rfl w.heap.size j _ p rfl (O.keeps (balloc (b0 _) _)) (some ⟨wr.heap.size, 0, none⟩) 1 1 [u % 128 + 128] rfl (one_new wr _ _ (by omega) (by omega)) rfl (fun e => by cases e) (by omega) (balloc hb _).size ?_; intro w2v w2 O2 b2)
      refine ⟨⟨u / 128, j + 1, p ++ [u % 128 + 128], by simp, O2, by rw [List.append_assoc]; have := HEN.out; rw [HE.out] at this; exact this, by have := HU.out; omega, (balloc hb _).trans b2⟩, ?_⟩
      simp only [intOf]
      omega
end Go.Proofs.Ytegniedbiegcpaa
