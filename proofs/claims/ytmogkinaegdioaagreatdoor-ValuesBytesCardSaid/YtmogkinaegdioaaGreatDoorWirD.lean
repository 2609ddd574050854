/-
  The reference of package wire (taken over from stage 4).
-/
import Derived.Test.YtmogkinaegdioaaGreatDoorWirC
import Derived.Deep.DeepCutAuto
import Derived.Deep.CutBlock
import Derived.Deep.QuietTactic
import Derived.BigQuiet
namespace Go.Proofs.YtmogkinaegdioaaGreatDoor
open Go.RowKit

/-- The value v is a slice of the call's own with the bytes l, n of them. -/
def OwL (w : World) (base : Nat) (v : Value) (n : Nat) (l : List Nat) : Prop := w.ownsRow base 5 1 v n (Vs l) ∧ By l ∧ l.length = n
theorem OwL.nil (w : World) (base : Nat) : OwL w base (.slice none 0 0) 0 [] := ⟨World.ownsRow_nil w base 5 1, By.nil, rfl⟩
theorem OwL.li {w : World} {base n : Nat} {v : Value} {l : List Nat} (h : OwL w base v n l) (hn : n ≤ 281474976710656) : ∃ a c, v = .slice a n c ∧ Li w a n c l := by
  obtain ⟨h1, h2, h3⟩ := h
  rcases h1.2 with ⟨rfl, rfl⟩ | ⟨g, cap, cur, rfl, hb, hg, hc, hm, hs, ht⟩
  · have : l = [] := List.eq_nil_of_length_eq_zero h3
    subst this
    exact ⟨none, 0, rfl, AtL.nil _ _, rfl, by omega, by omega, by omega, fun _ => rfl⟩
  · refine ⟨_, cap, rfl, ⟨.inr ⟨g, 0, rfl, fun j hj => ?_⟩, h2.ix⟩, h3, hc, by unfold maxLen at hm; omega, hn, fun h => by cases h⟩
    rw [Nat.zero_add, h1.cellAt j (by omega)]
    exact Vs_at l hj
theorem OwL.keeps {w w1 : World} {base n : Nat} {v : Value} {l : List Nat} (h : OwL w base v n l) (hb : Below w.heap.size w w1) : OwL w1 base v n l := by
  obtain ⟨h1, h2, h3⟩ := h
  refine ⟨⟨h1.1, ?_⟩, h2, h3⟩
  rcases h1.2 with h0 | ⟨g, cap, cur, rfl, hbg, hg, r⟩
  · exact .inl h0
  · have hlt := (World.ownsRow.lt h1 g rfl).2
    exact .inr ⟨g, cap, cur, rfl, hbg, by rw [hb.block _ hlt]; exact hg, r⟩
theorem own_belowL {w w' : World} {base n : Nat} {v : Value} {l : List Nat} (h : OwL w base v n l) (hg : w.grownBy w' v.ownBlock) (hb : base ≤ w.heap.size) : Below base w w' :=
  (Below.refl base w).grown hg hb fun k hk => (World.ownsRow.lt h.1 k hk).1
theorem wp_appL (w : World) {o : Oper} {a : Act} {K : Act → World → Prop} {Q : Exit → Act → World → Prop} (s x : Operand)
    (ho : o.op = .call { callee := .builtin .append, args := #[s, x], argTypes := #[34, 34] })
    (base n : Nat) (v : Value) (l : List Nat) (hs : a.eval s = v) (hown : OwL w base v n l) (A : Option Addr) (m c : Nat) (r : List Nat) (hx : a.eval x = .slice A m c) (hA : AtL w A r) (hr : r.length = m) (hnil : A = none → c = 0)
    (hn : n + m ≤ 140737488351232) (hbase : base ≤ w.heap.size)
    (h : ∀ v' w', OwL w' base v' (n + m) (l ++ r) → Below base w w' → K (a.put o.dst v') w') : o.wp Tryz.prog a w K Q := by
  obtain ⟨o1, o2, o3⟩ := hown
  subst hr o3
  refine wp_app w s x ho base l.length v (ix l) hs (by unfold Own; rw [show vals (ix l) l.length = Vs l from by
    apply List.ext_getElem?
    intro j
    by_cases hj : j < l.length
    · rw [vals_at _ _ _ hj, Vs_at l hj]
    · rw [List.getElem?_eq_none (by rw [vals_length]; omega), List.getElem?_eq_none (by rw [Vs_length]; omega)]]; exact o1) A r.length c (ix r) hx hA hnil hn hbase fun v' w' h1 h2 => h v' w' ⟨?_, o2.append hA.by, List.length_append⟩ h2
  unfold Own at h1
  rw [ix_append] at h1
  have e : vals (ix (l ++ r)) (l.length + r.length) = Vs (l ++ r) := by
    apply List.ext_getElem?
    intro j
    by_cases hj : j < (l ++ r).length
    · rw [vals_at _ _ _ (by rw [List.length_append] at hj; exact hj), Vs_at _ hj]
    · rw [List.getElem?_eq_none (by rw [vals_length]; rw [List.length_append] at hj; omega), List.getElem?_eq_none (by rw [Vs_length]; omega)]
  rw [e] at h1
  exact h1
theorem wpList_appL (w : World) {ops : Array Oper} {rest : List Oper} {o : Oper} {a : Act} {Q : Exit → Act → World → Prop} (hgd : o.guard = none) (s x : Operand)
    (ho : o.op = .call { callee := .builtin .append, args := #[s, x], argTypes := #[34, 34] })
    (base n : Nat) (v : Value) (l : List Nat) (hs : a.eval s = v) (hown : OwL w base v n l) (A : Option Addr) (m c : Nat) (r : List Nat) (hx : a.eval x = .slice A m c) (hA : AtL w A r) (hr : r.length = m) (hnil : A = none → c = 0)
    (hn : n + m ≤ 140737488351232) (hbase : base ≤ w.heap.size)
    (h : ∀ v' w', OwL w' base v' (n + m) (l ++ r) → Below base w w' → wpList Tryz.prog ops Q rest (a.put o.dst v') w') : wpList Tryz.prog ops Q (o :: rest) a w :=
  wpList_plain hgd fun _ hK => wp_appL w s x ho base n v l hs hown A m c r hx hA hr hnil hn hbase fun v' w' h1 h2 => hK _ _ (h v' w' h1 h2)
theorem wpList_appS (w : World) {ops : Array Oper} {rest : List Oper} {o : Oper} {a : Act} {Q : Exit → Act → World → Prop} (hgd : o.guard = none) (s x : Operand)
    (ho : o.op = .call { callee := .builtin .append, args := #[s, x], argTypes := #[34, 9] })
    (base n : Nat) (v : Value) (l : List Nat) (hs : a.eval s = v) (hown : OwL w base v n l) (r : ByteArray) (hx : a.eval x = .string r)
    (hn : n + r.size ≤ 140737488351232) (hbase : base ≤ w.heap.size)
    (h : ∀ v' w', OwL w' base v' (n + r.size) (l ++ sl r) → Below base w w' → wpList Tryz.prog ops Q rest (a.put o.dst v') w') : wpList Tryz.prog ops Q (o :: rest) a w := by
  obtain ⟨i, hi, hz0, hz1, hz2⟩ := info_parts info5
  refine Lib.wpList_append_own_string w hgd s x 34 9 ho base 5 i Tryz.underlying34 Tryz.underlying9 hi hz0 hz1 hz2 v n (Vs l) hs hown.1 r hx (by unfold maxLen; omega) (by omega) hbase fun v' w' h1 h2 _ => h v' w' ⟨?_, hown.2.1.append (by_sl r), by rw [List.length_append, sl_length, hown.2.2]⟩ (own_belowL hown h2 hbase)
  rw [Vs_append, Vs_sl]
  exact h1

/-- What a function returns that makes the bytes x. -/
def Mk (x : List Nat) (w : World) (e : Ending) (w' : World) : Prop := ∃ v, e = .returned v ∧ OwL w' w.heap.size v x.length x ∧ Below w.heap.size w w'

theorem refJoin_any (a : Option Addr) (n cap : Nat) (l : List Nat) (b : Option Addr) (m cap2 : Nat) (r : List Nat) (w : World) (hA : Li w a n cap l) (hB : Li w b m cap2 r) (hn : n + m ≤ 140737488351232) :
    Calls Tryz.prog 52 #[.slice a n cap, .slice b m cap2] w (Mk (l ++ r) w) := by
  have O := OwL.nil w w.heap.size
  have hat := hA.hat
  have A6 := hA.hno
  have B6 := hB.hno
  have HA := Lib.hid hA.hn
  have HB := Lib.hid hB
  have HA6 := Lib.hid A6
  have HB6 := Lib.hid B6
  clear hA hB A6 B6
  go_enter Tryz.func52, Tryz.ntmps52
  go_wp2_with (first | (at_builtin; refine wpList_appL _ rfl (.tmp 6) (.tmp 7) rfl w.heap.size 0 _ [] rfl O a n cap l rfl hat HA.out HA6.out (by omega) (Nat.le_refl _) ?_; intro v1 w1 O1 b1; rw [Nat.zero_add, List.nil_append] at O1; have hat2 := (HB.out.keeps b1).hat) | (at_builtin; refine wpList_appL _ rfl (.tmp 9) (.tmp 10) rfl w.heap.size n v1 l rfl O1 b m cap2 r rfl hat2 HB.out.hn HB6.out hn b1.size ?_; intro v2 w2 O2 b2))
  go_ret
  refine ⟨v2, rfl, ?_, b1.trans b2⟩
  rw [show (l ++ r).length = n + m by rw [List.length_append, HA.out, HB.out.hn]]
  exact O2

theorem refUint_any (v : Nat) (w : World) (hv : v < 18446744073709551616) : Calls Tryz.prog 112 #[.int .u64 (v : Nat)] w (Mk (en v) w) := by
  have O := OwL.nil w w.heap.size
  have hlen := en_ten hv
  have HV := Lib.hid hv
  have HLE := Lib.hid hlen
  clear hv hlen
  go_enter Tryz.func112, Tryz.ntmps112
  go_wp2_with fail
  go_loopw [0, 3] (fun x s wr => ∃ (u j : Nat) (p : List Nat), x = .int .u64 u ∧ OwL wr w.heap.size s j p ∧ p ++ en u = en v ∧ u < 18446744073709551616 ∧ Below w.heap.size w wr) (fun x _ _ => (intOf x).toNat)
  case atStart => exact ⟨v, 0, [], rfl, O, rfl, HV.out, Below.refl _ _⟩
  case round =>
    obtain ⟨u, j, p, rfl, O, hen, hu, hb⟩ := hrel
    have hl := HLE.out
    rw [← hen, List.length_append, O.2.2] at hl
    have hp := en_pos u
    have HEN := Lib.hid hen
    have HU := Lib.hid hu
    clear hen hu
    by_cases h : u < 128
    · have hB : decide ((128 : Int) ≤ u) = false := decide_eq_false (by omega)
      have he := en_small h
      have HE := Lib.hid he
      clear he
      go_wp2_with (at_builtin; refine wpList_appL _ rfl (.tmp 15) (.tmp 18) rfl w.heap.size j _ p rfl (O.keeps (balloc (b0 _) _)) (some ⟨wr.heap.size, 0, none⟩) 1 1 [u] rfl (one_new wr _ u (by omega) (by omega)) rfl (fun e => by cases e) (by omega) (balloc hb _).size ?_; intro w2v w2 O2 b2)
      go_ret
      refine ⟨w2v, rfl, ?_, (balloc hb _).trans b2⟩
      rw [← HEN.out, HE.out, show (p ++ [u]).length = j + 1 by rw [List.length_append, O.2.2]; rfl]
      exact O2
    · have hB : decide ((128 : Int) ≤ u) = true := decide_eq_true (by omega)
      have he := en_big h
      have HE := Lib.hid he
      have hq : IntKind.u64.wrap ((u : Int) / 128) = ((u / 128 : Nat) : Int) := by
        have := HU.out
        rw [IntWalk.u64_in] <;> omega
      clear he
      go_wp2_with (at_builtin; refine wpList_appL _ rfl (.tmp 6) (.tmp 11) rfl w.heap.size j _ p rfl (O.keeps (balloc (b0 _) _)) (some ⟨wr.heap.size, 0, none⟩) 1 1 [u % 128 + 128] rfl (one_new wr _ _ (by omega) (by omega)) rfl (fun e => by cases e) (by omega) (balloc hb _).size ?_; intro w2v w2 O2 b2)
      refine ⟨⟨u / 128, j + 1, p ++ [u % 128 + 128], by simp, O2, by rw [List.append_assoc]; have := HEN.out; rw [HE.out] at this; exact this, by have := HU.out; omega, (balloc hb _).trans b2⟩, ?_⟩
      simp only [intOf]
      omega
end Go.Proofs.YtmogkinaegdioaaGreatDoor

namespace Go.Proofs.YtmogkinaegdioaaGreatDoor
open Go.RowKit

theorem refInt_any (z : Int) (w : World) (h1 : -9223372036854775808 ≤ z) (h2 : z ≤ 9223372036854775807) : Calls Tryz.prog 86 #[.int .i64 z] w (Mk (en (fold z)) w) := by
  have c1 := refUint_any (fold z) w (fold_lt h1 h2)
  by_cases hz : 0 ≤ z
  · have e : ((fold z : Nat) : Int) = 2 * z := by unfold fold; rw [if_neg (by omega)]; omega
    rw [e] at c1
    clear e
    go_enter Tryz.func86, Tryz.ntmps86
    go_wp2_with fail
    refine c1.mono ?_
    rintro e w1 ⟨v, rfl, O, b⟩
    go_wp2_with fail
    go_ret
    exact ⟨v, rfl, O, b⟩
  · have e : ((fold z : Nat) : Int) = 2 * -(z + 1) + 1 := by unfold fold; rw [if_pos (by omega)]; omega
    rw [e] at c1
    clear e
    go_enter Tryz.func86, Tryz.ntmps86
    go_wp2_with fail
    refine c1.mono ?_
    rintro e w1 ⟨v, rfl, O, b⟩
    go_wp2_with fail
    go_ret
    exact ⟨v, rfl, O, b⟩

theorem refText_any (s : ByteArray) (w : World) (hs : s.size ≤ 140737488351222) : Calls Tryz.prog 87 #[.string s] w (Mk (en s.size ++ sl s) w) := by
  have c1 := refUint_any s.size w (by omega)
  have h10 := en_ten (n := s.size) (by omega)
  go_enter Tryz.func87, Tryz.ntmps87
  go_wp2_with fail
  refine c1.mono ?_
  rintro e w1 ⟨v, rfl, O, b⟩
  go_wp2_with (at_builtin; refine wpList_appS _ rfl (.tmp 6) (.tmp 7) rfl w.heap.size _ v _ rfl O s rfl (by omega) b.size ?_; intro v2 w2 O2 b2)
  go_ret
  refine ⟨v2, rfl, ?_, b.trans b2⟩
  rw [List.length_append, sl_length]
  exact O2

/-- What the reference's Sum returns. -/
def SumP (l : List Nat) (w : World) (e : Ending) (w' : World) : Prop := ∃ g, e = .returned (.slice (some ⟨g, 0, none⟩) 4 4) ∧ AtL w' (some ⟨g, 0, none⟩) (le4 (cs l)) ∧ Below w.heap.size w w'
theorem refLeft_out (a : Option Addr) (n c : Nat) (z : Int) (w : World) (h : z < 0 ∨ (n : Int) < z) :
    Calls Tryz.prog 47 #[.slice a n c, .int .i64 z] w fun e w' => e = .returned (.int .i64 (-1)) ∧ w = w' := by
  by_cases h0 : z < 0
  · have t1 : decide (z < 0) = true := decide_eq_true h0
    clear h
    go_enter Tryz.func47, Tryz.ntmps47
    go_wp2_with fail
    go_ret
    exact ⟨rfl, rfl⟩
  · have t1 : decide (z < 0) = false := decide_eq_false h0
    have t2 : decide ((n : Int) < z) = true := decide_eq_true (by omega)
    clear h h0
    go_enter Tryz.func47, Tryz.ntmps47
    go_wp2_with fail
    go_ret
    exact ⟨rfl, rfl⟩
theorem refLeft_in (a : Option Addr) (n c p F : Nat) (w : World) (hp : p ≤ n) (hF : n - p = F) (hn : n ≤ 281474976710656) :
    Calls Tryz.prog 47 #[.slice a n c, .int .i64 (p : Nat)] w fun e w' => e = .returned (.int .i64 (F : Nat)) ∧ w = w' := by
  have t1 : decide ((p : Int) < 0) = false := decide_eq_false (by omega)
  have t2 : decide ((n : Int) < p) = false := decide_eq_false (by omega)
  have t2' : decide (n < p) = false := decide_eq_false (by omega)
  have HF := Lib.hid hF
  clear hF
  go_enter Tryz.func47, Tryz.ntmps47
  go_wp2_with fail
  go_ret
  exact ⟨ret_int (by rw [← HF.out]; omega), rfl⟩
end Go.Proofs.YtmogkinaegdioaaGreatDoor

namespace Go.Proofs.YtmogkinaegdioaaGreatDoor
open Go.RowKit

/-- The search so far: the bytes from the place j on were looked at. -/
def Sr (l : List Nat) (p M j : Nat) (la : Int) : Prop :=
  (la = -1 ∧ ∀ t, j ≤ t → t < M → 128 ≤ ix l (p + t)) ∨ (∃ q : Nat, la = q ∧ j ≤ q ∧ q < M ∧ ix l (p + q) < 128 ∧ ∀ t, j ≤ t → t < q → 128 ≤ ix l (p + t))
theorem Sr.start (l : List Nat) (p M : Nat) : Sr l p M M (-1) := .inl ⟨rfl, fun t h1 h2 => by omega⟩
theorem Sr.hit {l : List Nat} {p M j : Nat} (hj : j < M) (h : ix l (p + j) < 128) : Sr l p M j (j : Nat) := .inr ⟨j, rfl, Nat.le_refl _, hj, h, fun t h1 h2 => by omega⟩
theorem Sr.miss {l : List Nat} {p M j : Nat} {la : Int} (h : Sr l p M (j + 1) la) (hc : 128 ≤ ix l (p + j)) : Sr l p M j la := by
  rcases h with ⟨rfl, h⟩ | ⟨q, rfl, h1, h2, h3, h4⟩
  · refine .inl ⟨rfl, fun t ht1 ht2 => ?_⟩
    by_cases e : t = j
    · rw [e]; exact hc
    · exact h t (by omega) ht2
  · refine .inr ⟨q, rfl, by omega, h2, h3, fun t ht1 ht2 => ?_⟩
    by_cases e : t = j
    · rw [e]; exact hc
    · exact h4 t (by omega) ht2
/-- The digits from the place j on, up to the place q. -/
def dgv (L : List Nat) (q j : Nat) : Nat := ((L.take (q + 1)).drop j).foldr (fun c a => a * 128 + c % 128) 0
theorem dgv_end (L : List Nat) (q : Nat) : dgv L q (q + 1) = 0 := by
  unfold dgv
  rw [List.drop_of_length_le (by rw [List.length_take]; omega)]
  rfl
theorem dgv_step {L : List Nat} {q j : Nat} (hj : j ≤ q) (hq : q < L.length) : dgv L q j = dgv L q (j + 1) * 128 + ix L j % 128 := by
  unfold dgv
  have hl : j < (L.take (q + 1)).length := by rw [List.length_take]; omega
  rw [List.drop_eq_getElem_cons hl, List.foldr_cons]
  congr 2
  rw [List.getElem_take]
  simp [ix, show j < L.length by omega]
theorem dgv_le {L : List Nat} {q : Nat} (hq : q < L.length) : ∀ j, j ≤ q + 1 → dgv L q j ≤ dgv L q 0 := by
  intro j
  induction j with
  | zero => intro _; exact Nat.le_refl _
  | succ j ih =>
    intro h
    have h1 := ih (by omega)
    have h2 := dgv_step (L := L) (q := q) (j := j) (by omega) hq
    omega
theorem ix_drop (l : List Nat) (p j : Nat) : ix (l.drop p) j = ix l (p + j) := by
  unfold ix
  rw [List.getD_eq_getElem?_getD, List.getD_eq_getElem?_getD, List.getElem?_drop]

set_option maxRecDepth 100000 in
set_option maxHeartbeats 2000000 in
theorem refReadU_any (a : Option Addr) (n cap : Nat) (l : List Nat) (z : Int) (w : World) (hA : Li w a n cap l) (v k c : Nat) (h : rU l z = (v, k, c)) :
    Calls Tryz.prog 83 #[.slice a n cap, .int .i64 z] w fun e w' => e = .returned (.tuple #[.int .u64 (v : Nat), .int .i64 (k : Nat), .int .i64 (c : Nat)]) ∧ w = w' := by
  have hn := hA.hn
  have hby := hA.hat.by
  have hlim := hA.hlim
  unfold rU at h
  rw [hn] at h
  by_cases hz : z < 0 ∨ (n : Int) < z
  · rw [if_pos hz] at h
    simp only [Prod.mk.injEq] at h
    obtain ⟨rfl, rfl, rfl⟩ := h
    have c1 := refLeft_out a n cap z w hz
    clear hz hA hn hby
    go_enter Tryz.func83, Tryz.ntmps83
    go_wp2_with fail
    refine c1.mono ?_
    rintro e w' ⟨rfl, rfl⟩
    go_wp2_with fail
    go_ret3
    exact ⟨rfl, rfl⟩
  · rw [if_neg hz] at h
    obtain ⟨p, rfl⟩ : ∃ p : Nat, z = p := ⟨z.toNat, by omega⟩
    rw [Int.toNat_natCast] at h
    have hp : p ≤ n := by omega
    obtain ⟨F, hF⟩ : ∃ F, n - p = F := ⟨_, rfl⟩
    obtain ⟨M, hM⟩ : ∃ M, min F 10 = M := ⟨_, rfl⟩
    have hif : (if (10 : Int) < F then 10 else (F : Int)) = (M : Int) := by rw [← hM]; split <;> omega
    have c1 := refLeft_in a n cap p F w hp hF hlim
    have hLl : (l.drop p).length = F := by rw [List.length_drop, hn]; exact hF
    have t0 : decide ((F : Int) < 0) = false := decide_eq_false (by omega)
    have hMF : M ≤ F ∧ M ≤ 10 := by omega
    have HM := Lib.hid hM
    have HF := Lib.hid hF
    have HN := Lib.hid hn
    have HL := Lib.hid hLl
    have HH := Lib.hid h
    have HB := Lib.hid hby
    have HA := Lib.hid hA
    have HMF := Lib.hid hMF
    clear hz hM hF hn hLl h hby hA hMF
    go_enter Tryz.func83, Tryz.ntmps83
    go_wp2_with fail
    refine c1.mono ?_
    rintro e w' ⟨rfl, rfl⟩
    clear c1
    have hM10 := HMF.out.2
    go_wp2_with fail
    clear hif
    go_loop [9, 10] (fun s i => ∃ (la b : Int), s = .int .i64 la ∧ i = .int .i64 b ∧ -1 ≤ b ∧ b < M ∧ Sr l p M (b + 1).toNat la) (fun _ i => (intOf i + 1).toNat)
    case atStart => exact ⟨-1, (M : Int) - 1, rfl, rfl, by omega, by omega, by rw [show ((M : Int) - 1 + 1).toNat = M by omega]; exact Sr.start l p M⟩
    case round =>
      obtain ⟨la, b, rfl, rfl, hb1, hb2, hS⟩ := hrel
      by_cases hb : 0 ≤ b
      · obtain ⟨t, rfl⟩ : ∃ t : Nat, b = t := ⟨b.toNat, by omega⟩
        have htM : t < M := by omega
        have hA := HA.out
        have hMF := HMF.out
        have hFn := HF.out
        have hln := HN.out
        have hpt : p + t < n := by omega
        obtain ⟨bb, off, rfl, hB⟩ := hA.hat.1.resolve_left (by omega)
        have ca := hB (p + t) (by omega)
        have hc256 := hA.hat.2 (p + t) (by omega)
        have hadd : ((p : Int) + (t : Int)).toNat = p + t := by omega
        have t1 : decide ((0 : Int) ≤ (t : Int)) = true := decide_eq_true (by omega)
        have HS := Lib.hid hS
        clear hB hln hFn hS
        by_cases hc : ix l (p + t) < 128
        · have HT := Lib.hid (Sr.hit htM hc)
          have t2 : decide (((ix l (p + t) : Nat) : Int) < 128) = true := decide_eq_true (by omega)
          generalize ix l (p + t) = y at *
          clear hc hA
          go_wp2_with fail
          exact ⟨⟨t, t - 1, rfl, rfl, by omega, by omega, by rw [show ((t : Int) - 1 + 1).toNat = t by omega]; exact HT.out⟩, by simp only [intOf]; omega⟩
        · have hS2 := HS.out
          rw [show ((t : Int) + 1).toNat = t + 1 by omega] at hS2
          have HT := Lib.hid (Sr.miss hS2 (by omega))
          have t2 : decide (((ix l (p + t) : Nat) : Int) < 128) = false := decide_eq_false (by omega)
          generalize ix l (p + t) = y at *
          clear hc hA hS2
          go_wp2_with fail
          exact ⟨⟨la, t - 1, rfl, rfl, by omega, by omega, by rw [show ((t : Int) - 1 + 1).toNat = t by omega]; exact HT.out⟩, by simp only [intOf]; omega⟩
      · obtain rfl : b = -1 := by omega
        have hh := HH.out
        have hMF := HMF.out
        have hMM := HM.out
        have hlen := HL.out
        rcases hS with ⟨rfl, hno⟩ | ⟨q, rfl, _, hqM, hq128, hq⟩
        · have hr : rd (l.drop p) 0 0 = if 0 + (l.drop p).length < 10 then .err 41 else .err 3 := rd_none (l.drop p) 0 0 (by omega) (fun j hj hl => by
            have := hno j (by omega) (by omega)
            rwa [← ix_drop] at this)
          rw [hr, hlen] at hh
          by_cases h10 : F < 10
          · rw [if_pos (by omega)] at hh
            simp only [Prod.mk.injEq] at hh
            obtain ⟨rfl, rfl, rfl⟩ := hh
            have t1 : decide ((F : Int) < 10) = true := decide_eq_true (by omega)
            clear hno hr hMF hMM hlen
            go_wp2_with fail
            go_ret3
            exact ⟨rfl, rfl⟩
          · rw [if_neg (by omega)] at hh
            simp only [Prod.mk.injEq] at hh
            obtain ⟨rfl, rfl, rfl⟩ := hh
            have t1 : decide ((F : Int) < 10) = false := decide_eq_false (by omega)
            clear hno hr hMF hMM hlen
            go_wp2_with fail
            go_ret3
            exact ⟨rfl, rfl⟩
        · have hA := HA.out
          have hFn := HF.out
          have hln := HN.out
          have hpq : p + q < n := by omega
          have hr := rd_first q (l.drop p) 0 0 (HB.out.drop p) (by omega) (fun j hj => by have := hq j (by omega) hj; rwa [← ix_drop] at this) (by omega) (by rw [← ix_drop] at hq128; exact hq128)
          rw [show (l.drop p).getD q 0 = ix l (p + q) from ix_drop l p q] at hr
          obtain ⟨bb, off, rfl, hB⟩ := hA.hat.1.resolve_left (by omega)
          have ca := hB (p + q) (by omega)
          have hadd : ((p : Int) + (q : Int)).toNat = p + q := by omega
          have q0 : decide ((q : Int) < 0) = false := decide_eq_false (by omega)
          have hq9 : q ≤ 9 := by omega
          simp only [Nat.zero_add] at hr
          clear hFn hMF hMM
          by_cases hbad : (q = 9 ∧ 1 < ix l (p + q)) ∨ (0 < q ∧ ix l (p + q) = 0)
          · rw [hr, if_pos hbad] at hh
            simp only [Prod.mk.injEq] at hh
            obtain ⟨rfl, rfl, rfl⟩ := hh
            clear hr hq hB hA hln
            generalize ix l (p + q) = y at *
            by_cases k9 : q = 9
            · have e9 : p + q = p + 9 := by omega
              rw [e9] at ca
              have q1 : ((q : Int) == 9) = true := by simp; omega
              have hadd9 : ((p : Int) + 9).toNat = p + 9 := by omega
              have hp9 : ((p : Int) + 9) < n := by omega
              by_cases d1 : 1 < y
              · have q2 : decide ((1 : Int) < (y : Int)) = true := decide_eq_true (by omega)
                clear hbad e9 k9
                go_wp2_with fail
                go_ret3
                exact ⟨rfl, rfl⟩
              · have q2 : decide ((1 : Int) < (y : Int)) = false := decide_eq_false (by omega)
                have q3 : ((y : Int) == 0) = true := by simp; omega
                have q4 : decide ((0 : Int) < (q : Int)) = true := decide_eq_true (by omega)
                have q5 : 0 < q := by omega
                have ca2 : w.cell? ⟨bb, off + (p + q), none⟩ = some (.int .u8 (y : Nat)) := by rw [e9]; exact ca
                clear hbad e9 k9
                go_wp2_with fail
                go_ret3
                exact ⟨rfl, rfl⟩
            · have q1 : ((q : Int) == 9) = false := by simp; omega
              have q3 : ((y : Int) == 0) = true := by simp; omega
              have q4 : decide ((0 : Int) < (q : Int)) = true := decide_eq_true (by omega)
              have q5 : 0 < q := by omega
              clear hbad k9
              go_wp2_with fail
              go_ret3
              exact ⟨rfl, rfl⟩
          · rw [if_neg hbad] at hr
            have hv64 : dgv (l.drop p) q 0 < 18446744073709551616 := by
              obtain ⟨_, _, _, h64⟩ := rd_back (HB.out.drop p) hr
              simpa [dgv] using h64
            have hd0 : dgv (l.drop p) q 0 = (List.take (q + 1) (l.drop p)).foldr (fun c a => a * 128 + c % 128) 0 := by unfold dgv; rw [List.drop_zero]
            rw [hr, ← hd0] at hh
            simp only [Prod.mk.injEq, Nat.pow_zero, Nat.mul_one] at hh
            obtain ⟨hv, hk, rfl⟩ := hh
            have HV := Lib.hid hv
            have HK := Lib.hid hk
            have HV64 := Lib.hid hv64
            have HQ := Lib.hid hqM
            have HLen := Lib.hid hlen
            have HBB := Lib.hid hB
            clear hr hq hB hA hln hv hk hv64 hd0
            go_upto_region 13 with fail
            go_cut [66] (fun s wx => s = .bool false ∧ wx = w)
            case first =>
              generalize ix l (p + q) = y at *
              have hnb1 : q = 9 → ¬ 1 < y := fun h1 h2 => hbad (.inl ⟨h1, h2⟩)
              have hnb2 : 0 < q → y ≠ 0 := fun h1 h2 => hbad (.inr ⟨h1, h2⟩)
              by_cases k9 : q = 9
              · have e9 : p + q = p + 9 := by omega
                have ca2 : w.cell? ⟨bb, off + (p + 9), none⟩ = some (.int .u8 (y : Nat)) := by rw [← e9]; exact ca
                have q1 : ((q : Int) == 9) = true := by simp; omega
                have hadd9 : ((p : Int) + 9).toNat = p + 9 := by omega
                have hp9 : ((p : Int) + 9) < n := by omega
                have q2 : decide ((1 : Int) < (y : Int)) = false := decide_eq_false (by have := hnb1 k9; omega)
                have q3 : ((y : Int) == 0) = false := by have := hnb2 (by omega); simp; omega
                have q4 : decide ((0 : Int) < (q : Int)) = true := decide_eq_true (by omega)
                have q5 : 0 < q := by omega
                clear hbad e9 k9 hnb1 hnb2
                go_wp2_with fail
                go_meet
                case rel => exact ⟨rfl, rfl⟩
              · have q1 : ((q : Int) == 9) = false := by simp; omega
                by_cases k0 : 0 < q
                · have q3 : ((y : Int) == 0) = false := by have := hnb2 k0; simp; omega
                  have q4 : decide ((0 : Int) < (q : Int)) = true := decide_eq_true (by omega)
                  clear hbad k9 hnb1 hnb2
                  go_wp2_with fail
                  go_meet
                  case rel => exact ⟨rfl, rfl⟩
                · have q4 : decide ((0 : Int) < (q : Int)) = false := decide_eq_false (by omega)
                  clear hbad k9 hnb1 hnb2
                  go_wp2_with fail
                  go_meet
                  case rel => exact ⟨rfl, rfl⟩
            case rest =>
              obtain ⟨rfl, rfl⟩ := hcut
              clear ca hbad hq128
              go_wp2_with fail
              go_loop [11, 12] (fun s i => ∃ b : Int, i = .int .i64 b ∧ s = .int .u64 ((dgv (l.drop p) q (b + 1).toNat : Nat) : Int) ∧ -1 ≤ b ∧ b ≤ q) (fun _ i => (intOf i + 1).toNat)
              case atStart => exact ⟨(q : Int), rfl, by rw [show ((q : Int) + 1).toNat = q + 1 by omega, dgv_end]; rfl, by omega, by omega⟩
              case round =>
                obtain ⟨b, rfl, rfl, hb1, hb2⟩ := hrel
                by_cases hb : 0 ≤ b
                · obtain ⟨t, rfl⟩ : ∃ t : Nat, b = t := ⟨b.toNat, by omega⟩
                  rw [show ((t : Int) + 1).toNat = t + 1 by omega]
                  have hqM := HQ.out
                  have hMF := HMF.out
                  have hFn := HF.out
                  have hln := HN.out
                  have hlen := HLen.out
                  have ca := HBB.out (p + t) (by omega)
                  have hc256 := HA.out.hat.2 (p + t) (by omega)
                  have hadd : ((p : Int) + (t : Int)).toNat = p + t := by omega
                  have hadd2 : ((p : Int) + (t : Int)) < n := by omega
                  have t1 : decide ((0 : Int) ≤ (t : Int)) = true := decide_eq_true (by omega)
                  have hstep := dgv_step (L := l.drop p) (q := q) (j := t) (by omega) (by omega)
                  have hle := dgv_le (L := l.drop p) (q := q) (by omega) t (by omega)
                  rw [ix_drop] at hstep
                  have hv := HV.out
                  have hv64 := HV64.out
                  generalize ix l (p + t) = y at *
                  obtain ⟨A, hA⟩ : ∃ A, dgv (l.drop p) q (t + 1) = A := ⟨_, rfl⟩
                  obtain ⟨B, hB⟩ : ∃ B, dgv (l.drop p) q t = B := ⟨_, rfl⟩
                  rw [hA, hB] at hstep
                  rw [hA]
                  rw [hB] at hle
                  have E1 : IntKind.u64.wrap ((A : Int) * 128) = ((A * 128 : Nat) : Int) := by rw [IntWalk.u64_in] <;> omega
                  have E2 : IntKind.u64.wrap ((A : Int) * 128 + (y : Int) % 128) = (B : Int) := by rw [IntWalk.u64_in] <;> omega
                  have HE2 := Lib.hid E2
                  clear E2
                  have HB2 := Lib.hid hB
                  clear hqM hMF hFn hln hlen hstep hle hv hv64 hA hB hb
                  go_wp2_with fail
                  refine ⟨⟨(t : Int) - 1, rfl, ?_, by omega, by omega⟩, by simp only [intOf]; omega⟩
                  rw [show ((t : Int) - 1 + 1).toNat = t by omega, HB2.out, HE2.out]
                · obtain rfl : b = -1 := by omega
                  rw [show ((-1 : Int) + 1).toNat = 0 from rfl, HV.out]
                  have hk := HK.out
                  have HK2 := Lib.hid hk
                  clear hk
                  go_wp2_with fail
                  go_ret3
                  have := HK2.out
                  refine ⟨?_, rfl⟩
                  show Ending.returned (.tuple #[.int .u64 (v : Int), .int .i64 ((p : Int) + (q : Int) + 1), .int .i64 0]) = _
                  rw [show ((p : Int) + (q : Int) + 1) = (k : Int) by omega]
end Go.Proofs.YtmogkinaegdioaaGreatDoor

namespace Go.Proofs.YtmogkinaegdioaaGreatDoor
open Go.RowKit

/-- b[p:p+j]. -/
theorem cut_gen {w : World} {a : Option Addr} {n cap : Nat} {l : List Nat} (h : Li w a n cap l) (p j : Nat) (hn : p + j ≤ n) :
    ∃ a', Li w a' j (cap - p) ((l.drop p).take j) ∧ ∀ (w' : World) (P K : Int), P = p → K = (p + j : Nat) → (Instr.slice 34 (.slice a n cap) (some (.int .i64 P)) (some (.int .i64 K)) none).run Tryz.prog w' = .ok (.slice a' j (cap - p)) w' := by
  by_cases hj : 1 ≤ j
  · obtain ⟨a', h1, h2, h3⟩ := cut_any h p j hj hn
    have hcap := h.hcap
    have hmax := h.hmax
    have hlim := h.hlim
    refine ⟨a', ⟨h1, h2, by omega, by omega, by omega, fun e => ?_⟩, h3⟩
    subst e
    rcases h1.1 with h0 | ⟨b, off, e, _⟩
    · omega
    · cases e
  · obtain rfl : j = 0 := by omega
    have hcap := h.hcap
    have hmax := h.hmax
    have hno := h.hno
    refine ⟨if cap = p then a else Option.map (fun x : Addr => x.add p) a, ⟨by rw [List.take_zero]; exact AtL.nil _ _, rfl, by omega, by omega, by omega, fun e => ?_⟩, ?_⟩
    · by_cases hc : cap = p
      · omega
      · rw [if_neg hc] at e
        cases a with
        | none => have := hno rfl; omega
        | some x => cases e
    · rintro w' P K rfl rfl
      have s2 : (p : Int) ≤ cap := by omega
      have s3 : (0 : Int) ≤ p := by omega
      simp [go_sem, s2]

set_option maxRecDepth 20000 in
theorem refReadI_any (a : Option Addr) (n cap : Nat) (l : List Nat) (z : Int) (w : World) (hA : Li w a n cap l) (m : Int) (k c : Nat) (h : rI l z = (m, k, c)) :
    Calls Tryz.prog 48 #[.slice a n cap, .int .i64 z] w fun e w' => e = .returned (.tuple #[.int .i64 m, .int .i64 (k : Nat), .int .i64 (c : Nat)]) ∧ w = w' := by
  rcases rU_cases l z hA.hat.by with ⟨c', hU, hI, hc0, _⟩ | ⟨p, v, rfl, hp, hpl, _, hv, hU, hI, _⟩
  · rw [hI] at h
    simp only [Prod.mk.injEq] at h
    obtain ⟨rfl, rfl, rfl⟩ := h
    have c1 := refReadU_any a n cap l z w hA 0 0 c' hU
    have q1 : ((c' : Int) != 0) = true := by simp; omega
    clear hA hU hI hc0
    go_enter Tryz.func48, Tryz.ntmps48
    go_wp2_with fail
    refine c1.mono ?_
    rintro e w' ⟨rfl, rfl⟩
    go_wp2_with fail
    go_ret3
    exact ⟨rfl, rfl⟩
  · rw [hI] at h
    simp only [Prod.mk.injEq] at h
    obtain ⟨hm, hk, rfl⟩ := h
    have c1 := refReadU_any a n cap l p w hA v k 0 (by rw [hU, hk])
    have hq : (v / 2 : Nat) ≤ 9223372036854775807 := by omega
    have HM := Lib.hid hm
    have HV := Lib.hid hv
    clear hA hU hI hm hk hv hp hpl
    by_cases hz : v % 2 = 1
    · have hz' : ((v : Int) % 2 == 1) = true := by simp; omega
      have e : -((v : Int) / 2) - 1 = m := by rw [← HM.out]; unfold unfd; rw [if_pos hz]; omega
      have E := Lib.hid e
      clear hz e
      go_enter Tryz.func48, Tryz.ntmps48
      go_wp2_with fail
      refine c1.mono ?_
      rintro e w' ⟨rfl, rfl⟩
      go_wp2_with fail
      go_ret3
      refine ⟨?_, rfl⟩
      show Ending.returned (.tuple #[.int .i64 (-((v : Int) / 2) - 1), .int .i64 (k : Int), .int .i64 0]) = _
      rw [E.out]
      rfl
    · have hz' : ((v : Int) % 2 == 1) = false := by simp; omega
      have e : ((v : Int) / 2) = m := by rw [← HM.out]; unfold unfd; rw [if_neg hz]; omega
      have E := Lib.hid e
      clear hz e
      go_enter Tryz.func48, Tryz.ntmps48
      go_wp2_with fail
      refine c1.mono ?_
      rintro e w' ⟨rfl, rfl⟩
      go_wp2_with fail
      go_ret3
      refine ⟨?_, rfl⟩
      show Ending.returned (.tuple #[.int .i64 ((v : Int) / 2), .int .i64 (k : Int), .int .i64 0]) = _
      rw [E.out]
      rfl

set_option maxRecDepth 20000 in
theorem refReadT_any (a : Option Addr) (n cap : Nat) (l : List Nat) (z : Int) (w : World) (hA : Li w a n cap l) (t : List Nat) (k c : Nat) (h : rT l z = (t, k, c)) :
    Calls Tryz.prog 49 #[.slice a n cap, .int .i64 z] w fun e w' => e = .returned (.tuple #[.string (st_of t), .int .i64 (k : Nat), .int .i64 (c : Nat)]) ∧ w = w' := by
  have hln := hA.hn
  have hlim := hA.hlim
  rcases rU_cases l z hA.hat.by with ⟨c', hU, hI, hc0, _⟩ | ⟨p, v, rfl, hp, hpl, _, hv, hU, hI, hrd⟩
  · have hT : rT l z = ([], 0, c') := by
      unfold rU at hU
      unfold rT
      by_cases hz : z < 0 ∨ (l.length : Int) < z
      · rw [if_pos hz] at hU ⊢
        simp only [Prod.mk.injEq] at hU
        rw [hU.2.2]
      · rw [if_neg hz] at hU ⊢
        rcases hr : rd (l.drop z.toNat) 0 0 with ⟨v, j⟩ | d
        · rw [hr] at hU
          simp only [Prod.mk.injEq] at hU
          omega
        · rw [hr] at hU
          simp only [Prod.mk.injEq] at hU
          rw [hU.2.2]
    rw [hT] at h
    simp only [Prod.mk.injEq] at h
    obtain ⟨rfl, rfl, rfl⟩ := h
    have c1 := refReadU_any a n cap l z w hA 0 0 c' hU
    have q1 : ((c' : Int) != 0) = true := by simp; omega
    clear hA hU hI hc0 hT hln
    go_enter Tryz.func49, Tryz.ntmps49
    go_wp2_with fail
    refine c1.mono ?_
    rintro e w' ⟨rfl, rfl⟩
    go_wp2_with fail
    go_ret3
    exact ⟨rfl, rfl⟩
  · obtain ⟨J, hJ⟩ : ∃ J, p + (en v).length = J := ⟨_, rfl⟩
    have c1 := refReadU_any a n cap l p w hA v J 0 (by rw [hU, hJ])
    have hT : rT l p = if n - J < v then ([], 0, 41) else ((l.drop J).take v, J + v, 0) := by
      unfold rT
      rw [if_neg (by omega), Int.toNat_natCast, hrd]
      simp only
      rw [hJ, hln]
    have hJn : J ≤ n := by omega
    obtain ⟨F, hF⟩ : ∃ F, n - J = F := ⟨_, rfl⟩
    have e1 : (n : Int) - (J : Int) = (F : Int) := by omega
    rw [hT, hF] at h
    have HV := Lib.hid hv
    have HA := Lib.hid hA
    clear hA hU hI hJ hT hrd hpl hln hv
    by_cases hs : F < v
    · rw [if_pos hs] at h
      simp only [Prod.mk.injEq] at h
      obtain ⟨rfl, rfl, rfl⟩ := h
      have t1 : decide ((F : Int) < (v : Int)) = true := decide_eq_true (by omega)
      have t1' : decide (F < v) = true := decide_eq_true hs
      clear hF
      go_enter Tryz.func49, Tryz.ntmps49
      go_wp2_with fail
      refine c1.mono ?_
      rintro e w' ⟨rfl, rfl⟩
      go_wp2_with fail
      go_ret3
      exact ⟨rfl, rfl⟩
    · rw [if_neg hs] at h
      simp only [Prod.mk.injEq] at h
      obtain ⟨ht, hk, rfl⟩ := h
      obtain ⟨a', L', hsl⟩ := cut_gen HA.out J v (by omega)
      rw [ht] at L'
      have s1 := run_str L'.hat v (cap - J) L'.hn
      have t1 : decide ((F : Int) < (v : Int)) = false := decide_eq_false (by omega)
      have t1' : decide (F < v) = false := decide_eq_false hs
      have hvb : v ≤ 281474976710656 := by omega
      have e2 : (J : Int) + (v : Int) = (k : Int) := by omega
      have hs1 := hsl w (J : Int) (k : Int) rfl (by omega)
      have hkn : k ≤ 281474976710656 := by omega
      clear hF hsl L' ht hk
      go_enter Tryz.func49, Tryz.ntmps49
      go_wp2_with fail
      refine c1.mono ?_
      rintro e w' ⟨rfl, rfl⟩
      go_wp2_with fail
      go_ret3
      exact ⟨rfl, rfl⟩

/-- What the reference's ReadFrame does. -/
def RfR (w : World) (r : RF) (e : Ending) (w' : World) : Prop :=
  match r with
  | .ok v k => ∃ a c, e = .returned (.tuple #[.slice a v.length c, .int .i64 (k : Nat), .int .i64 0]) ∧ Li w' a v.length c v ∧ Below w.heap.size w w'
  | .err c => e = .returned (.tuple #[.slice none 0 0, .int .i64 0, .int .i64 (c : Nat)]) ∧ Below w.heap.size w w'
end Go.Proofs.YtmogkinaegdioaaGreatDoor

namespace Go.Proofs.YtmogkinaegdioaaGreatDoor
open Go.RowKit

theorem mk_li {f : FuncId} {args : Array Value} {r : List Nat} {w : World} (h : Calls Tryz.prog f args w (Mk r w)) (M : Nat) (hM : r.length = M) (hb : M ≤ 281474976710656) :
    Calls Tryz.prog f args w fun e w' => ∃ a c, e = .returned (.slice a M c) ∧ Li w' a M c r ∧ Below w.heap.size w w' := by
  subst hM
  refine h.mono ?_
  rintro e w' ⟨v, rfl, O, b⟩
  obtain ⟨a, c, rfl, L⟩ := O.li hb
  exact ⟨a, c, rfl, L, b⟩
theorem join_li (a : Option Addr) (n cap : Nat) (l : List Nat) (b : Option Addr) (m cap2 : Nat) (r : List Nat) (w : World) (hA : Li w a n cap l) (hB : Li w b m cap2 r) (N : Nat) (hN : n + m = N) (hn : N ≤ 140737488351232) :
    Calls Tryz.prog 52 #[.slice a n cap, .slice b m cap2] w fun e w' => ∃ a c, e = .returned (.slice a N c) ∧ Li w' a N c (l ++ r) ∧ Below w.heap.size w w' :=
  mk_li (refJoin_any a n cap l b m cap2 r w hA hB (by omega)) N (by rw [List.length_append, hA.hn, hB.hn]; exact hN) (by omega)
theorem OwL.lit (w : World) : OwL (w.alloc (.cells #[] 5)) w.heap.size (.slice (some ⟨w.heap.size, 0, none⟩) 0 0) 0 [] :=
  ⟨World.ownsRow_lit (e := 5) (size := 1) w #[] 0 (Nat.le_refl _) (by unfold maxLen; omega) rfl, By.nil, rfl⟩

end Go.Proofs.YtmogkinaegdioaaGreatDoor
