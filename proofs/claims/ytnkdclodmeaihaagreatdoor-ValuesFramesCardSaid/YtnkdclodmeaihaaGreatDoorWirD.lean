/-
  The reference of package wire (taken over from stage 4).
-/
import Derived.Test.YtnkdclodmeaihaaGreatDoorWirC
import Derived.Deep.DeepCutAuto
import Derived.Deep.CutBlock
import Derived.Deep.QuietTactic
import Derived.BigQuiet
namespace Go.Proofs.YtnkdclodmeaihaaGreatDoor
open Go.RowKit

/-- The value v is a slice of the call's own with the bytes l, n of them. -/
def OwL (w : World) (base : Nat) (v : Value) (n : Nat) (l : List Nat) : Prop := w.ownsRow base 5 1 v n (Vs l) ∧ By l ∧ l.length = n
theorem OwL.nil (w : World) (base : Nat) : OwL w base (.slice none 0 0) 0 [] := ⟨World.ownsRow_nil w base 5 1, By.nil, rfl⟩
theorem OwL.li {w : World} {base n : Nat} {v : Value} {l : List Nat} (h : OwL w base v n l) (hn : n ≤ 281474976710656) : ∃ a c, v = .slice a n c ∧ Li w a n c l := by
  obtain ⟨h1, h2, h3⟩ := h
  rcases h1.2 with ⟨rfl, rfl⟩ | ⟨g, cap, cur, rfl, hb, hg, hc, hm, hs, ht⟩
  · have : l = [] := List.eq_nil_of_length_eq_zero h3
    subst this
    exact ⟨none, 0, rfl, AtL.nil _ _, rfl, by omega, by omega, by omega, fun _ => rfl⟩
  · refine ⟨_, cap, rfl, ⟨.inr ⟨g, 0, rfl, fun j hj => ?_⟩, h2.ix⟩, h3, hc, by unfold maxLen at hm; omega, hn, fun h => by cases h⟩
    rw [Nat.zero_add, h1.cellAt j (by omega)]
    exact Vs_at l hj
theorem OwL.keeps {w w1 : World} {base n : Nat} {v : Value} {l : List Nat} (h : OwL w base v n l) (hb : Below w.heap.size w w1) : OwL w1 base v n l := by
  obtain ⟨h1, h2, h3⟩ := h
  refine ⟨⟨h1.1, ?_⟩, h2, h3⟩
  rcases h1.2 with h0 | ⟨g, cap, cur, rfl, hbg, hg, r⟩
  · exact .inl h0
  · have hlt := (World.ownsRow.lt h1 g rfl).2
    exact .inr ⟨g, cap, cur, rfl, hbg, by rw [hb.block _ hlt]; exact hg, r⟩
theorem own_belowL {w w' : World} {base n : Nat} {v : Value} {l : List Nat} (h : OwL w base v n l) (hg : w.grownBy w' v.ownBlock) (hb : base ≤ w.heap.size) : Below base w w' :=
  (Below.refl base w).grown hg hb fun k hk => (World.ownsRow.lt h.1 k hk).1
theorem wp_appL (w : World) {o : Oper} {a : Act} {K : Act → World → Prop} {Q : Exit → Act → World → Prop} (s x : Operand)
    (ho : o.op = .call { callee := .builtin .append, args := #[s, x], argTypes := #[32, 32] })
    (base n : Nat) (v : Value) (l : List Nat) (hs : a.eval s = v) (hown : OwL w base v n l) (A : Option Addr) (m c : Nat) (r : List Nat) (hx : a.eval x = .slice A m c) (hA : AtL w A r) (hr : r.length = m) (hnil : A = none → c = 0)
    (hn : n + m ≤ 140737488351232) (hbase : base ≤ w.heap.size)
    (h : ∀ v' w', OwL w' base v' (n + m) (l ++ r) → Below base w w' → K (a.put o.dst v') w') : o.wp Tryz.prog a w K Q := by
  obtain ⟨o1, o2, o3⟩ := hown
  subst hr o3
  refine wp_app w s x ho base l.length v (ix l) hs (by unfold Own; rw [show vals (ix l) l.length = Vs l from by
    apply List.ext_getElem?
    intro j
    by_cases hj : j < l.length
    · rw [vals_at _ _ _ hj, Vs_at l hj]
    · rw [List.getElem?_eq_none (by rw [vals_length]; omega), List.getElem?_eq_none (by rw [Vs_length]; omega)]]; exact o1) A r.length c (ix r) hx hA hnil hn hbase fun v' w' h1 h2 => h v' w' ⟨?_, o2.append hA.by, List.length_append⟩ h2
  unfold Own at h1
  rw [ix_append] at h1
  have e : vals (ix (l ++ r)) (l.length + r.length) = Vs (l ++ r) := by
    apply List.ext_getElem?
    intro j
    by_cases hj : j < (l ++ r).length
    · rw [vals_at _ _ _ (by rw [List.length_append] at hj; exact hj), Vs_at _ hj]
    · rw [List.getElem?_eq_none (by rw [vals_length]; rw [List.length_append] at hj; omega), List.getElem?_eq_none (by rw [Vs_length]; omega)]
  rw [e] at h1
  exact h1
theorem wpList_appL (w : World) {ops : Array Oper} {rest : List Oper} {o : Oper} {a : Act} {Q : Exit → Act → World → Prop} (hgd : o.guard = none) (s x : Operand)
    (ho : o.op = .call { callee := .builtin .append, args := #[s, x], argTypes := #[32, 32] })
    (base n : Nat) (v : Value) (l : List Nat) (hs : a.eval s = v) (hown : OwL w base v n l) (A : Option Addr) (m c : Nat) (r : List Nat) (hx : a.eval x = .slice A m c) (hA : AtL w A r) (hr : r.length = m) (hnil : A = none → c = 0)
    (hn : n + m ≤ 140737488351232) (hbase : base ≤ w.heap.size)
    (h : ∀ v' w', OwL w' base v' (n + m) (l ++ r) → Below base w w' → wpList Tryz.prog ops Q rest (a.put o.dst v') w') : wpList Tryz.prog ops Q (o :: rest) a w :=
  wpList_plain hgd fun _ hK => wp_appL w s x ho base n v l hs hown A m c r hx hA hr hnil hn hbase fun v' w' h1 h2 => hK _ _ (h v' w' h1 h2)
theorem wpList_appS (w : World) {ops : Array Oper} {rest : List Oper} {o : Oper} {a : Act} {Q : Exit → Act → World → Prop} (hgd : o.guard = none) (s x : Operand)
    (ho : o.op = .call { callee := .builtin .append, args := #[s, x], argTypes := #[32, 9] })
    (base n : Nat) (v : Value) (l : List Nat) (hs : a.eval s = v) (hown : OwL w base v n l) (r : ByteArray) (hx : a.eval x = .string r)
    (hn : n + r.size ≤ 140737488351232) (hbase : base ≤ w.heap.size)
    (h : ∀ v' w', OwL w' base v' (n + r.size) (l ++ sl r) → Below base w w' → wpList Tryz.prog ops Q rest (a.put o.dst v') w') : wpList Tryz.prog ops Q (o :: rest) a w := by
  obtain ⟨i, hi, hz0, hz1, hz2⟩ := info_parts info5
  refine Lib.wpList_append_own_string w hgd s x 32 9 ho base 5 i Tryz.underlying32 Tryz.underlying9 hi hz0 hz1 hz2 v n (Vs l) hs hown.1 r hx (by unfold maxLen; omega) (by omega) hbase fun v' w' h1 h2 _ => h v' w' ⟨?_, hown.2.1.append (by_sl r), by rw [List.length_append, sl_length, hown.2.2]⟩ (own_belowL hown h2 hbase)
  rw [Vs_append, Vs_sl]
  exact h1

/-- What a function returns that makes the bytes x. -/
def Mk (x : List Nat) (w : World) (e : Ending) (w' : World) : Prop := ∃ v, e = .returned v ∧ OwL w' w.heap.size v x.length x ∧ Below w.heap.size w w'

end Go.Proofs.YtnkdclodmeaihaaGreatDoor

namespace Go.Proofs.YtnkdclodmeaihaaGreatDoor
open Go.RowKit

/-- What the reference's Sum returns. -/
def SumP (l : List Nat) (w : World) (e : Ending) (w' : World) : Prop := ∃ g, e = .returned (.slice (some ⟨g, 0, none⟩) 4 4) ∧ AtL w' (some ⟨g, 0, none⟩) (le4 (cs l)) ∧ Below w.heap.size w w'
end Go.Proofs.YtnkdclodmeaihaaGreatDoor

namespace Go.Proofs.YtnkdclodmeaihaaGreatDoor
open Go.RowKit

/-- The search so far: the bytes from the place j on were looked at. -/
def Sr (l : List Nat) (p M j : Nat) (la : Int) : Prop :=
  (la = -1 ∧ ∀ t, j ≤ t → t < M → 128 ≤ ix l (p + t)) ∨ (∃ q : Nat, la = q ∧ j ≤ q ∧ q < M ∧ ix l (p + q) < 128 ∧ ∀ t, j ≤ t → t < q → 128 ≤ ix l (p + t))
theorem Sr.start (l : List Nat) (p M : Nat) : Sr l p M M (-1) := .inl ⟨rfl, fun t h1 h2 => by omega⟩
theorem Sr.hit {l : List Nat} {p M j : Nat} (hj : j < M) (h : ix l (p + j) < 128) : Sr l p M j (j : Nat) := .inr ⟨j, rfl, Nat.le_refl _, hj, h, fun t h1 h2 => by omega⟩
theorem Sr.miss {l : List Nat} {p M j : Nat} {la : Int} (h : Sr l p M (j + 1) la) (hc : 128 ≤ ix l (p + j)) : Sr l p M j la := by
  rcases h with ⟨rfl, h⟩ | ⟨q, rfl, h1, h2, h3, h4⟩
  · refine .inl ⟨rfl, fun t ht1 ht2 => ?_⟩
    by_cases e : t = j
    · rw [e]; exact hc
    · exact h t (by omega) ht2
  · refine .inr ⟨q, rfl, by omega, h2, h3, fun t ht1 ht2 => ?_⟩
    by_cases e : t = j
    · rw [e]; exact hc
    · exact h4 t (by omega) ht2
/-- The digits from the place j on, up to the place q. -/
def dgv (L : List Nat) (q j : Nat) : Nat := ((L.take (q + 1)).drop j).foldr (fun c a => a * 128 + c % 128) 0
theorem dgv_end (L : List Nat) (q : Nat) : dgv L q (q + 1) = 0 := by
  unfold dgv
  rw [List.drop_of_length_le (by rw [List.length_take]; omega)]
  rfl
theorem dgv_step {L : List Nat} {q j : Nat} (hj : j ≤ q) (hq : q < L.length) : dgv L q j = dgv L q (j + 1) * 128 + ix L j % 128 := by
  unfold dgv
  have hl : j < (L.take (q + 1)).length := by rw [List.length_take]; omega
  rw [List.drop_eq_getElem_cons hl, List.foldr_cons]
  congr 2
  rw [List.getElem_take]
  simp [ix, show j < L.length by omega]
theorem dgv_le {L : List Nat} {q : Nat} (hq : q < L.length) : ∀ j, j ≤ q + 1 → dgv L q j ≤ dgv L q 0 := by
  intro j
  induction j with
  | zero => intro _; exact Nat.le_refl _
  | succ j ih =>
    intro h
    have h1 := ih (by omega)
    have h2 := dgv_step (L := L) (q := q) (j := j) (by omega) hq
    omega
theorem ix_drop (l : List Nat) (p j : Nat) : ix (l.drop p) j = ix l (p + j) := by
  unfold ix
  rw [List.getD_eq_getElem?_getD, List.getD_eq_getElem?_getD, List.getElem?_drop]

end Go.Proofs.YtnkdclodmeaihaaGreatDoor

namespace Go.Proofs.YtnkdclodmeaihaaGreatDoor
open Go.RowKit

/-- b[p:p+j]. -/
theorem cut_gen {w : World} {a : Option Addr} {n cap : Nat} {l : List Nat} (h : Li w a n cap l) (p j : Nat) (hn : p + j ≤ n) :
    ∃ a', Li w a' j (cap - p) ((l.drop p).take j) ∧ ∀ (w' : World) (P K : Int), P = p → K = (p + j : Nat) → (Instr.slice 32 (.slice a n cap) (some (.int .i64 P)) (some (.int .i64 K)) none).run Tryz.prog w' = .ok (.slice a' j (cap - p)) w' := by
  by_cases hj : 1 ≤ j
  · obtain ⟨a', h1, h2, h3⟩ := cut_any h p j hj hn
    have hcap := h.hcap
    have hmax := h.hmax
    have hlim := h.hlim
    refine ⟨a', ⟨h1, h2, by omega, by omega, by omega, fun e => ?_⟩, h3⟩
    subst e
    rcases h1.1 with h0 | ⟨b, off, e, _⟩
    · omega
    · cases e
  · obtain rfl : j = 0 := by omega
    have hcap := h.hcap
    have hmax := h.hmax
    have hno := h.hno
    refine ⟨if cap = p then a else Option.map (fun x : Addr => x.add p) a, ⟨by rw [List.take_zero]; exact AtL.nil _ _, rfl, by omega, by omega, by omega, fun e => ?_⟩, ?_⟩
    · by_cases hc : cap = p
      · omega
      · rw [if_neg hc] at e
        cases a with
        | none => have := hno rfl; omega
        | some x => cases e
    · rintro w' P K rfl rfl
      have s2 : (p : Int) ≤ cap := by omega
      have s3 : (0 : Int) ≤ p := by omega
      simp [go_sem, s2]

/-- What the reference's ReadFrame does. -/
def RfR (w : World) (r : RF) (e : Ending) (w' : World) : Prop :=
  match r with
  | .ok v k => ∃ a c, e = .returned (.tuple #[.slice a v.length c, .int .i64 (k : Nat), .int .i64 0]) ∧ Li w' a v.length c v ∧ Below w.heap.size w w'
  | .err c => e = .returned (.tuple #[.slice none 0 0, .int .i64 0, .int .i64 (c : Nat)]) ∧ Below w.heap.size w w'
end Go.Proofs.YtnkdclodmeaihaaGreatDoor

namespace Go.Proofs.YtnkdclodmeaihaaGreatDoor
open Go.RowKit

theorem mk_li {f : FuncId} {args : Array Value} {r : List Nat} {w : World} (h : Calls Tryz.prog f args w (Mk r w)) (M : Nat) (hM : r.length = M) (hb : M ≤ 281474976710656) :
    Calls Tryz.prog f args w fun e w' => ∃ a c, e = .returned (.slice a M c) ∧ Li w' a M c r ∧ Below w.heap.size w w' := by
  subst hM
  refine h.mono ?_
  rintro e w' ⟨v, rfl, O, b⟩
  obtain ⟨a, c, rfl, L⟩ := O.li hb
  exact ⟨a, c, rfl, L, b⟩
theorem OwL.lit (w : World) : OwL (w.alloc (.cells #[] 5)) w.heap.size (.slice (some ⟨w.heap.size, 0, none⟩) 0 0) 0 [] :=
  ⟨World.ownsRow_lit (e := 5) (size := 1) w #[] 0 (Nat.le_refl _) (by unfold maxLen; omega) rfl, By.nil, rfl⟩

end Go.Proofs.YtnkdclodmeaihaaGreatDoor
