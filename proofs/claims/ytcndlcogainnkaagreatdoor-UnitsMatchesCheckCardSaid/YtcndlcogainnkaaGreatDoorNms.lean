/-
  Slices of strings; the reference's names.
-/
import Derived.Test.YtcndlcogainnkaaGreatDoorFmt
import Derived.Test.YtcndlcogainnkaaGreatDoorHel
namespace Go.Proofs.YtcndlcogainnkaaGreatDoor
open Go.RowKit dec

def gS (l : List ByteArray) (j : Nat) : ByteArray := l.getD j .empty
def SC (w : World) (b off : Nat) (l : List ByteArray) : Prop := ∀ j, j < l.length → w.cell? ⟨b, off + j, none⟩ = some (.string (gS l j))
structure SS (w : World) (a : Option Addr) (n cap : Nat) (l : List ByteArray) : Prop where
  hat : l.length = 0 ∨ ∃ b off, a = some ⟨b, off, none⟩ ∧ SC w b off l
  hn : l.length = n
  hcap : n ≤ cap
  hmax : cap ≤ 9223372036854775807
  hno : a = none → cap = 0
theorem SS.keeps {w w1 : World} {a : Option Addr} {n cap : Nat} {l : List ByteArray} (h : SS w a n cap l) (hb : Below w.heap.size w w1) : SS w1 a n cap l :=
  { h with hat := h.hat.imp id fun ⟨b, off, e, hC⟩ => ⟨b, off, e, fun j hj => dec.keeps hb (hC j hj)⟩ }
theorem gS_eq {l : List ByteArray} {j : Nat} (h : j < l.length) : gS l j = l[j] := by
  unfold gS
  rw [List.getD_eq_getElem?_getD, List.getElem?_eq_getElem h]
  rfl
theorem dropS {l : List ByteArray} {j : Nat} (h : j < l.length) : l.drop j = gS l j :: l.drop (j + 1) := by
  rw [List.drop_eq_getElem_cons h, gS_eq h]
theorem takeS {l : List ByteArray} {j : Nat} (h : j < l.length) : l.take (j + 1) = l.take j ++ [gS l j] := by
  rw [List.take_succ_eq_append_getElem h, gS_eq h]
theorem OS.ss {w : World} {base : Nat} {v : Value} {l : List ByteArray} (h : OS w base v l) : ∃ a cap, v = .slice a l.length cap ∧ SS w a l.length cap l := by
  obtain ⟨h1, h2⟩ := id h
  rcases h2 with ⟨rfl, h0⟩ | ⟨g, cap, cur, rfl, hbg, hh, hc, hm, hs, ht⟩
  · have hz : l = [] := List.eq_nil_of_length_eq_zero h0
    subst hz
    exact ⟨none, 0, rfl, .inl rfl, rfl, by simp, by omega, fun _ => rfl⟩
  · refine ⟨_, cap, rfl, .inr ⟨g, 0, rfl, fun j hj => ?_⟩, rfl, hc, by unfold maxLen at hm; omega, fun h => by cases h⟩
    rw [Nat.zero_add, World.ownsRow.cellAt h j (by simpa using hj), List.getElem?_map, List.getElem?_eq_getElem hj, gS_eq hj]
    rfl
theorem SS.few {w : World} {a : Option Addr} {n cap : Nat} {l : List ByteArray} (h : SS w a n cap l) (k : Nat) (hk : k ≤ n) : SS w a k cap (l.take k) := by
  have e1 := h.hn
  refine ⟨?_, by rw [List.length_take]; omega, by have := h.hcap; omega, h.hmax, h.hno⟩
  rcases h.hat with h0 | ⟨b, off, e, hC⟩
  · exact .inl (by rw [List.length_take]; omega)
  · refine .inr ⟨b, off, e, fun j hj => ?_⟩
    rw [List.length_take] at hj
    rw [hC j (by omega)]
    unfold gS
    rw [List.getD_eq_getElem?_getD, List.getD_eq_getElem?_getD, List.getElem?_take, if_pos (by omega)]
theorem SS.cut {w : World} {b off n cap : Nat} {l : List ByteArray} (h : SS w (some ⟨b, off, none⟩) n cap l) (k : Nat) (hk : k ≤ n) : SS w (some ⟨b, off + k, none⟩) (n - k) (cap - k) (l.drop k) := by
  have e1 := h.hn
  have e2 := h.hcap
  have e3 := h.hmax
  refine ⟨?_, by rw [List.length_drop]; omega, by omega, by omega, fun h => by cases h⟩
  rcases h.hat with h0 | ⟨b', off', e, hC⟩
  · exact .inl (by rw [List.length_drop]; omega)
  · cases e
    refine .inr ⟨b, _, rfl, fun j hj => ?_⟩
    rw [List.length_drop] at hj
    rw [Nat.add_assoc, hC (k + j) (by omega)]
    unfold gS
    rw [List.getD_eq_getElem?_getD, List.getD_eq_getElem?_getD, List.getElem?_drop]
theorem SS.none_at {w : World} {a : Option Addr} {cap : Nat} (hno : a = none → cap = 0) (hm : cap ≤ 9223372036854775807) : SS w a 0 cap [] := ⟨.inl rfl, rfl, by omega, hm, hno⟩
theorem wpList_catS (w : World) {ops : Array Oper} {rest : List Oper} {o : Oper} {a : Act} {Q : Exit → Act → World → Prop} (hgd : o.guard = none) (s x : Operand)
    (ho : o.op = .call { callee := .builtin .append, args := #[s, x], argTypes := #[53, 53] })
    (base : Nat) (v : Value) (l : List ByteArray) (hs : a.eval s = v) (hown : OS w base v l) (ad : Option Addr) (n cap : Nat) (l2 : List ByteArray) (hx : a.eval x = .slice ad n cap) (hS : SS w ad n cap l2)
    (hn : l.length + n < 5864062014805) (hbase : base ≤ w.heap.size)
    (h : ∀ v' w', OS w' base v' (l ++ l2) → Below base w w' → wpList Tryz.prog ops Q rest (a.put o.dst v') w') : wpList Tryz.prog ops Q (o :: rest) a w := by
  refine wpList_plain hgd fun K hK => ?_
  obtain ⟨i, hi, hz0, hz1, hz2⟩ := info_parts infoS
  have hln := hS.hn
  cases ad with
  | none =>
    have h0 := hS.hno rfl
    have h1 := hS.hcap
    have hn0 : n = 0 := by omega
    subst h0
    subst hn0
    have hl2 : l2 = [] := List.eq_nil_of_length_eq_zero hln
    subst hl2
    have hrun := run_append_owned_none (P := Tryz.prog) (w := w) base 53 o.type 9 i 1 Tryz.underlying53 hi v l.length (l.map Value.string) hown
    unfold Oper.wp
    simp only [execOp, ho, resolve, invoke, builtin, Sem.run_bind, Sem.run_pure, Result.andThen_ok, List.map_toArray, List.map_cons, List.map_nil, hs, hx, hrun]
    exact hK _ _ (h v w (by rw [List.append_nil]; exact hown) (Below.refl _ _))
  | some ad =>
    refine wp_append_own w s x 53 ho base 9 i (.string ByteArray.empty) 1 16 Tryz.underlying53 hi hz0 hz1 hz2 rfl (by decide) v l.length (l.map Value.string) hs hown ad n cap (l2.map Value.string) hx (by rw [List.length_map, hln, Nat.mul_one]) ?_ (fun u hu => by
        obtain ⟨t, _, rfl⟩ := List.mem_map.1 hu
        rfl)
      (by unfold maxLen; omega) (by omega) hbase fun v' w' h1 h2 _ => ?_
    · intro j u hu
      have hj : j < l2.length := by
        rcases Nat.lt_or_ge j (l2.map Value.string).length with h' | h'
        · rwa [List.length_map] at h'
        · rw [List.getElem?_eq_none h'] at hu; cases hu
      rcases hS.hat with h0 | ⟨b, off, e, hC⟩
      · omega
      · cases e
        have hp : (⟨b, off, none⟩ : Addr).add j = ⟨b, off + j, none⟩ := by
          unfold Addr.add
          by_cases h : j = 0 <;> simp [h]
        rw [hp, hC j hj, gS_eq hj]
        rw [List.getElem?_map, List.getElem?_eq_getElem hj] at hu
        exact hu
    · refine hK _ _ (h v' w' ?_ ((Below.refl base w).grown h2 hbase fun k hk => (hown.lt k hk).1))
      unfold OS
      rw [List.map_append, List.length_append, hln]
      exact h1
theorem ins_len (x : ByteArray) : ∀ l : List ByteArray, (ins x l).length ≤ l.length + 1
  | [] => by simp [ins]
  | y :: l => by
    have := ins_len x l
    unfold ins
    split
    · simp only [List.length_cons]; omega
    · split <;> simp
theorem ns_len (l : List Fa) : ∀ j, j ≤ l.length → (ns (l.take j)).length ≤ j
  | 0, _ => by simp [ns]
  | j + 1, h => by
    rw [take_gt (by omega), ns_snoc]
    have := ns_len l j (by omega)
    have := ins_len (gt l j).1 (ns (l.take j))
    omega
theorem ins_on {x : ByteArray} {o : List ByteArray} {k : Nat} (hk : k < o.length) (h : ltS (gS o k) x = true) : ins x (o.drop k) = gS o k :: ins x (o.drop (k + 1)) := by
  rw [dropS hk]
  show (if ltS (gS o k) x = true then _ else _) = _
  rw [if_pos h]
theorem ins_go {x : ByteArray} {o : List ByteArray} {k : Nat} (hk : k < o.length) (h : ltS (gS o k) x = true) (hi : ins x o = o.take k ++ ins x (o.drop k)) : ins x o = o.take (k + 1) ++ ins x (o.drop (k + 1)) := by
  rw [hi, ins_on hk h, takeS hk, List.append_assoc]
  rfl
theorem ins_same {x : ByteArray} {o : List ByteArray} {k : Nat} (hk : k < o.length) (h : gS o k = x) (hi : ins x o = o.take k ++ ins x (o.drop k)) : ins x o = o := by
  have e : ins x (o.drop k) = o.drop k := by
    rw [dropS hk]
    show (if ltS (gS o k) x = true then _ else if gS o k = x then _ else _) = _
    rw [if_neg (by rw [h, ltS_irr]; decide), if_pos h]
  rw [hi, e, List.take_append_drop]
theorem ins_put {x : ByteArray} {o : List ByteArray} {k : Nat} (hk : k < o.length) (h : ltS (gS o k) x = false) (hne : gS o k ≠ x) (hi : ins x o = o.take k ++ ins x (o.drop k)) : ins x o = (o.take k ++ [x]) ++ o.drop k := by
  have e : ins x (o.drop k) = x :: o.drop k := by
    rw [dropS hk]
    show (if ltS (gS o k) x = true then _ else if gS o k = x then _ else _) = _
    rw [if_neg (by rw [h]; decide), if_neg hne]
  rw [hi, e]
  simp
theorem ins_end {x : ByteArray} {o : List ByteArray} {k : Nat} (hk : o.length ≤ k) (hi : ins x o = o.take k ++ ins x (o.drop k)) : ins x o = (o.take k ++ [x]) ++ [] := by
  rw [hi, List.drop_eq_nil_of_le hk]
  simp [ins]
end Go.Proofs.YtcndlcogainnkaaGreatDoor
