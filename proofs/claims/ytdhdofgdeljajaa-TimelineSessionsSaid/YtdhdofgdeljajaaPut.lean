/-
  The reference's put.
-/
import Derived.Test.YtdhdofgdeljajaaTkf
import Derived.WalkSmall
import Derived.Deep.CutRange
import Derived.BigQuiet
namespace Go.Proofs.Ytdhdofgdeljajaa
open Go.RowKit

theorem wpList_cat (w : World) {ops : Array Oper} {rest : List Oper} {o : Oper} {a : Act} {Q : Exit → Act → World → Prop} (hgd : o.guard = none) (s x : Operand)
    (ho : o.op = .call { callee := .builtin .append, args := #[s, x], argTypes := #[24, 24] })
    (base : Nat) (v : Value) (l : List I2) (hs : a.eval s = v) (hown : Own w base v l) (ad : Option Addr) (n cap : Nat) (l2 : List I2) (hx : a.eval x = .slice ad n cap) (hS : Sl w ad n cap l2)
    (hn : l.length + n < 8000000000000) (hbase : base ≤ w.heap.size)
    (h : ∀ v' w', Own w' base v' (l ++ l2) → Below base w w' → wpList Try.prog ops Q rest (a.put o.dst v') w') : wpList Try.prog ops Q (o :: rest) a w := by
  refine wpList_plain hgd fun K hK => ?_
  obtain ⟨i, hi, hz0, hz1, hz2⟩ := info_parts infoI
  have hln := hS.hn
  cases ad with
  | none =>
    have h0 := hS.hno rfl
    have h1 := hS.hcap
    have hn0 : n = 0 := by omega
    subst h0
    subst hn0
    have hl2 : l2 = [] := List.eq_nil_of_length_eq_zero hln
    subst hl2
    have hrun := run_append_owned_none (P := Try.prog) (w := w) base 24 o.type 23 i 2 Try.underlying24 hi v l.length (cs l) hown
    unfold Oper.wp
    simp only [execOp, ho, resolve, invoke, builtin, Sem.run_bind, Sem.run_pure, Result.andThen_ok, List.map_toArray, List.map_cons, List.map_nil, hs, hx, hrun]
    exact hK _ _ (h v w (by rw [List.append_nil]; exact hown) (Below.refl _ _))
  | some ad =>
    refine wp_append_own w s x 24 ho base 23 i (.agg #[.int .i64 0, .int .i64 0]) 2 16 Try.underlying24 hi hz0 hz1 hz2 rfl (by decide) v l.length (cs l) hs hown ad n cap (cs l2) hx (by rw [cs_length, hln]) ?_ (cs_one _)
      (by unfold maxLen; omega) (by omega) hbase fun v' w' h1 h2 _ => ?_
    · intro j u hu
      have hj : j < l2.length * 2 := by
        rcases Nat.lt_or_ge j (cs l2).length with h' | h'
        · rwa [cs_length] at h'
        · rw [List.getElem?_eq_none h'] at hu; cases hu
      rcases hS.hat with h0 | ⟨b, off, e, hC⟩
      · omega
      · cases e
        have hp : (⟨b, off, none⟩ : Addr).add j = ⟨b, off + j, none⟩ := by
          unfold Addr.add
          by_cases h : j = 0 <;> simp [h]
        rw [hp]
        obtain ⟨c0, c1⟩ := hC (j / 2) (by omega)
        obtain ⟨e0, e1⟩ := cs_at l2 (j / 2) (by omega)
        rcases Nat.mod_two_eq_zero_or_one j with hm | hm
        · have ej : j / 2 * 2 = j := by omega
          rw [ej] at c0 e0
          rw [e0] at hu
          rw [c0, hu]
        · have ej : j / 2 * 2 + 1 = j := by omega
          rw [Nat.add_assoc, ej] at c1
          rw [ej] at e1
          rw [e1] at hu
          rw [c1, hu]
    · refine hK _ _ (h v' w' ?_ (own_below hown h2 hbase))
      unfold Own
      rw [cs_append, List.length_append, hln]
      exact h1
theorem put_perm (l : List I2) (k : Nat) (x : I2) : ((l.take k ++ [x]) ++ l.drop k).Perm (x :: l) := by
  rw [List.append_assoc, List.singleton_append]
  have := List.perm_middle (a := x) (l₁ := l.take k) (l₂ := l.drop k)
  rwa [List.take_append_drop] at this
theorem put_asc {l : List I2} {k : Nat} {x : I2} (ha : Asc l) (h1 : ∀ y ∈ l.take k, y.1 ≤ x.1) (h2 : ∀ y ∈ l.drop k, x.1 ≤ y.1) : Asc ((l.take k ++ [x]) ++ l.drop k) := by
  have hd : Asc (l.take k ++ l.drop k) := by rw [List.take_append_drop]; exact ha
  obtain ⟨d1, d2, d3⟩ := List.pairwise_append.1 hd
  refine List.pairwise_append.2 ⟨List.pairwise_append.2 ⟨d1, by simp, fun a ha b hb => ?_⟩, d2, fun a ha b hb => ?_⟩
  · simp only [List.mem_singleton] at hb
    subst hb
    exact h1 a ha
  · rcases List.mem_append.1 ha with ha | ha
    · exact d3 a ha b hb
    · simp only [List.mem_singleton] at ha
      subst ha
      exact h2 b hb
theorem asc_drop {l : List I2} {k : Nat} (ha : Asc l) (hk : k < l.length) : ∀ y ∈ l.drop k, (gt l k).1 ≤ y.1 := by
  have h : Asc (l.drop k) := List.Pairwise.sublist (List.drop_sublist k l) ha
  rw [drop_gt hk] at h ⊢
  intro y hy
  rcases List.mem_cons.1 hy with rfl | hy
  · exact Int.le_refl _
  · exact h.head y hy
theorem Sl.cut {w : World} {b off n cap : Nat} {l : List I2} (h : Sl w (some ⟨b, off, none⟩) n cap l) (k : Nat) (hk : k ≤ n) : Sl w (some ⟨b, off + k * 2, none⟩) (n - k) (cap - k) (l.drop k) := by
  have hn := h.hn
  have hc := h.hcap
  have hm := h.hmax
  refine ⟨?_, by rw [List.length_drop]; omega, by omega, by omega, fun h => by cases h⟩
  by_cases h0 : l.length = k
  · exact .inl (by rw [List.length_drop]; omega)
  rcases h.hat with h1 | ⟨b', off', e, hB⟩
  · exact .inl (by rw [List.length_drop]; omega)
  · cases e
    have := hB.cut k (l.length - k)
    rw [List.take_of_length_le (by simp)] at this
    exact .inr ⟨b, _, rfl, this⟩
theorem Sl.none_at {w : World} {a : Option Addr} {n cap : Nat} (hc : n = 0) (hno : a = none → cap = 0) (hm : cap ≤ 9223372036854775807) : Sl w a n cap [] := ⟨.inl rfl, by simp [hc], by omega, hm, hno⟩

set_option maxRecDepth 100000 in
set_option maxHeartbeats 2000000 in
theorem put_any (a : Option Addr) (n cap : Nat) (l : List I2) (x1 x2 : Int) (w : World) (hS : Sl w a n cap l) (ha : Asc l) (hlim : n < 7000000000000) :
    Calls Try.prog 37 #[.slice a n cap, .agg #[.int .i64 x1, .int .i64 x2]] w fun e w' => ∃ v l', e = .returned v ∧ l'.Perm ((x1, x2) :: l) ∧ Asc l' ∧ Own w' w.heap.size v l' ∧ Below w.heap.size w w' := by
  have hn := Lib.hid hS.hn
  have hcap := hS.hcap
  have hmax := hS.hmax
  have A := Lib.hid (Bw.new w x1 x2 23)
  have b1 := Lib.hid (balloc (b0 w) (.cells #[.int .i64 x1, .int .i64 x2] 23))
  have S1 := Lib.hid (hS.keeps (balloc (b0 w) (.cells #[.int .i64 x1, .int .i64 x2] 23)))
  replace ha := Lib.hid ha
  clear hS
  go_enter Try.func37, Try.ntmps37
  go_wp2_with fail
  generalize w.alloc (.cells #[.int .i64 x1, .int .i64 x2] 23) = W at *
  go_loopw [5] (fun i wr => ∃ k : Nat, i = .int .i64 (k : Int) ∧ Hid (k ≤ n) ∧ Hid (∀ y ∈ l.take k, y.1 ≤ x1) ∧ Hid (Below W.heap.size W wr)) (fun i _ => n - (intOf i).toNat)
  case atStart => exact ⟨0, rfl, Nat.zero_le _, by simp [Hid], b0 W⟩
  case round =>
    obtain ⟨k, rfl, hk, hle, hb⟩ := hrel
    have more : Hid ((∀ y ∈ l.drop k, x1 ≤ y.1) → Asc ((l.take k ++ [(x1, x2)]) ++ l.drop k)) := fun h2 => put_asc ha.out hle.out h2
    by_cases hlt : k < n
    · have q1 : decide ((k : Int) < (n : Int)) = true := decide_eq_true (by omega)
      obtain ⟨bk, off, rfl, hC⟩ := (S1.out.keeps hb.out).hat.resolve_left (by have := hn.out; omega)
      have e0 := (hC k (by have := hn.out; omega)).1
      have hdr := Lib.hid (asc_drop ha.out (k := k) (by have := hn.out; omega))
      have htk := Lib.hid (take_gt (l := l) (j := k) (by have := hn.out; omega))
      obtain ⟨a0, _⟩ := (A.out.keeps hb.out).grown
      generalize gt l k = g at *
      obtain ⟨g1, g2⟩ := g
      simp only at e0 hdr
      replace e0 := cell_regrown e0
      clear hC
      by_cases hgx : g1 ≤ x1
      · have q2 : decide (g1 ≤ x1) = true := decide_eq_true hgx
        have hle2 : Hid (∀ y ∈ l.take (k + 1), y.1 ≤ x1) := by
          intro y hy
          rw [htk.out] at hy
          rcases List.mem_append.1 hy with hy | hy
          · exact hle.out y hy
          · simp only [List.mem_singleton] at hy
            subst hy
            exact hgx
        clear hgx more hdr htk
        go_wp2_with fail
        refine wp_region_quiet_below (by kernel_rfl) (by kernel_rfl) ?_
        repeat (first | go_big_quiet_skip | (go_big_quiet_want; go_big_quiet_op; go_big_quiet_on))
        refine wpQuiet_nil ?_
        intro w9 hw9
        have hb2 := Lib.hid (bnext hb.out (below_of hw9))
        clear hw9 e0 a0
        go_wp2_with fail
        go_roundw
        case rel => exact ⟨k + 1, rfl, hlt, hle2.out, hb2.out⟩
        case measure => simp only [intOf]; omega
      · have q2 : decide (g1 ≤ x1) = false := decide_eq_false hgx
        have hfin := Lib.hid (more.out fun y hy => by have := hdr.out y hy; omega)
        clear hgx more hdr htk
        have hkc : k ≤ cap := by omega
        have hkn : k < cap := by omega
        go_wp2_with fail
        refine wp_region_quiet_below (by kernel_rfl) (by kernel_rfl) ?_
        repeat (first | go_big_quiet_skip | (go_big_quiet_want; go_big_quiet_op; go_big_quiet_on))
        refine wpQuiet_nil ?_
        intro w9 hw9
        have hb2 := Lib.hid (bnext hb.out (below_of hw9))
        clear hw9 e0 a0 hb
        generalize w9 = z0 at *
        have hl1 : Hid ((l.take k).length = k) := by have := hn.out; have := hk.out; unfold Hid; rw [List.length_take]; omega
        have Sx := Lib.hid ((S1.out.keeps hb2.out).few k hk.out)
        go_upto_region 5 with (at_builtin; refine is_app (.tmp 23) (.tmp 26) rfl ?_; refine wpList_cat _ rfl (.tmp 23) (.tmp 26) rfl W.heap.size _ [] rfl (own_new z0 _ hb2.out.size) (some ⟨bk, off, none⟩) k cap (l.take k) rfl (Sx.out.keeps (balloc (b0 z0) _)) (by have := hk.out; simp only [List.length_nil]; omega) (balloc hb2.out _).size ?_; intro v1 z1 O1 c1)
        rw [List.nil_append] at O1
        have hb3 := Lib.hid ((balloc hb2.out _).trans c1)
        replace O1 := Lib.hid O1
        clear c1 hb2 Sx
        obtain ⟨a0, a1, _, _⟩ := A.out.keeps hb3.out
        go_upto_region 6 with (at_builtin; refine is_app (.tmp 28) (.tmp 30) rfl ?_; refine wpList_cat _ rfl (.tmp 28) (.tmp 30) rfl W.heap.size _ (l.take k) rfl (O1.out.keeps (balloc (b0 z1) _)) (some ⟨z1.heap.size, 0, none⟩) 1 1 [(x1, x2)] rfl (Bw.new z1 x1 x2 23).sl (by have := hk.out; rw [hl1.out]; omega) (balloc hb3.out _).size ?_; intro v2 z2 O2 c2)
        have hb4 := Lib.hid ((balloc hb3.out _).trans c2)
        replace O2 := Lib.hid O2
        clear c2 hb3 a0 a1 O1
        go_wp2_with (at_builtin; refine is_app (.tmp 32) (.tmp 35) rfl ?_; refine wpList_cat _ rfl (.tmp 32) (.tmp 35) rfl W.heap.size _ (l.take k ++ [(x1, x2)]) rfl O2.out (some ⟨bk, off + k * 2, none⟩) (n - k) (cap - k) (l.drop k) rfl ((S1.out.keeps hb4.out).cut k hk.out) (by have := hk.out; rw [List.length_append, hl1.out]; simp only [List.length_cons, List.length_nil]; omega) hb4.out.size ?_; intro v3 z3 O3 c3)
        go_ret
        exact ⟨_, _, rfl, put_perm l k _, hfin.out, O3.less b1.out.size, b1.out.trans ((hb4.out.trans c3).mono b1.out.size)⟩
    · have q1 : decide ((k : Int) < (n : Int)) = false := decide_eq_false (by omega)
      obtain rfl : k = n := by have := hk.out; omega
      have hdr : Hid (l.drop k = []) := List.drop_eq_nil_of_le (by have := hn.out; omega)
      have hfin := Lib.hid (more.out fun y hy => by rw [hdr.out] at hy; cases hy)
      have hkc : k ≤ cap := hcap
      clear more
      go_wp2_with fail
      refine wp_region_quiet_below (by kernel_rfl) (by kernel_rfl) ?_
      repeat (first | go_big_quiet_skip | (go_big_quiet_want; go_big_quiet_op; go_big_quiet_on))
      refine wpQuiet_nil ?_
      intro w9 hw9
      have hb2 := Lib.hid (bnext hb.out (below_of hw9))
      clear hw9 hb
      rw [hdr.out] at hfin
      by_cases hkk : k = cap
      · obtain rfl := hkk
        generalize w9 = z0 at *
        have hl1 : Hid ((l.take k).length = k) := by have := hn.out; have := hk.out; unfold Hid; rw [List.length_take]; omega
        have Sx := Lib.hid ((S1.out.keeps hb2.out).few k hk.out)
        go_upto_region 5 with (at_builtin; refine is_app (.tmp 23) (.tmp 26) rfl ?_; refine wpList_cat _ rfl (.tmp 23) (.tmp 26) rfl W.heap.size _ [] rfl (own_new z0 _ hb2.out.size) a k k (l.take k) rfl (Sx.out.keeps (balloc (b0 z0) _)) (by have := hk.out; simp only [List.length_nil]; omega) (balloc hb2.out _).size ?_; intro v1 z1 O1 c1)
        rw [List.nil_append] at O1
        have hb3 := Lib.hid ((balloc hb2.out _).trans c1)
        replace O1 := Lib.hid O1
        clear c1 hb2 Sx
        obtain ⟨a0, a1, _, _⟩ := A.out.keeps hb3.out
        go_upto_region 6 with (at_builtin; refine is_app (.tmp 28) (.tmp 30) rfl ?_; refine wpList_cat _ rfl (.tmp 28) (.tmp 30) rfl W.heap.size _ (l.take k) rfl (O1.out.keeps (balloc (b0 z1) _)) (some ⟨z1.heap.size, 0, none⟩) 1 1 [(x1, x2)] rfl (Bw.new z1 x1 x2 23).sl (by have := hk.out; rw [hl1.out]; omega) (balloc hb3.out _).size ?_; intro v2 z2 O2 c2)
        have hb4 := Lib.hid ((balloc hb3.out _).trans c2)
        replace O2 := Lib.hid O2
        clear c2 hb3 a0 a1 O1
        go_wp2_with (at_builtin; refine is_app (.tmp 32) (.tmp 35) rfl ?_; refine wpList_cat _ rfl (.tmp 32) (.tmp 35) rfl W.heap.size _ (l.take k ++ [(x1, x2)]) rfl O2.out a 0 0 [] rfl (Sl.none_at rfl (fun _ => rfl) (by omega)) (by have := hk.out; rw [List.length_append, hl1.out]; simp only [List.length_cons, List.length_nil]; omega) hb4.out.size ?_; intro v3 z3 O3 c3)
        go_ret
        exact ⟨_, _, rfl, (by have := put_perm l k (x1, x2); rwa [hdr.out] at this), hfin.out, O3.less b1.out.size, b1.out.trans ((hb4.out.trans c3).mono b1.out.size)⟩
      · have hkn : k < cap := by omega
        obtain ⟨⟨bk, off, spot⟩, rfl⟩ : ∃ x, a = some x := by
          cases a with
          | none => have := S1.out.hno rfl; omega
          | some x => exact ⟨x, rfl⟩
        skip
        generalize w9 = z0 at *
        have hl1 : Hid ((l.take k).length = k) := by have := hn.out; have := hk.out; unfold Hid; rw [List.length_take]; omega
        have Sx := Lib.hid ((S1.out.keeps hb2.out).few k hk.out)
        go_upto_region 5 with (at_builtin; refine is_app (.tmp 23) (.tmp 26) rfl ?_; refine wpList_cat _ rfl (.tmp 23) (.tmp 26) rfl W.heap.size _ [] rfl (own_new z0 _ hb2.out.size) (some ⟨bk, off, spot⟩) k cap (l.take k) rfl (Sx.out.keeps (balloc (b0 z0) _)) (by have := hk.out; simp only [List.length_nil]; omega) (balloc hb2.out _).size ?_; intro v1 z1 O1 c1)
        rw [List.nil_append] at O1
        have hb3 := Lib.hid ((balloc hb2.out _).trans c1)
        replace O1 := Lib.hid O1
        clear c1 hb2 Sx
        obtain ⟨a0, a1, _, _⟩ := A.out.keeps hb3.out
        go_upto_region 6 with (at_builtin; refine is_app (.tmp 28) (.tmp 30) rfl ?_; refine wpList_cat _ rfl (.tmp 28) (.tmp 30) rfl W.heap.size _ (l.take k) rfl (O1.out.keeps (balloc (b0 z1) _)) (some ⟨z1.heap.size, 0, none⟩) 1 1 [(x1, x2)] rfl (Bw.new z1 x1 x2 23).sl (by have := hk.out; rw [hl1.out]; omega) (balloc hb3.out _).size ?_; intro v2 z2 O2 c2)
        have hb4 := Lib.hid ((balloc hb3.out _).trans c2)
        replace O2 := Lib.hid O2
        clear c2 hb3 a0 a1 O1
        go_wp2_with (at_builtin; go_loud (refine is_app (.tmp 32) (.tmp 35) rfl ?_; refine wpList_cat _ rfl (.tmp 32) (.tmp 35) rfl W.heap.size _ (l.take k ++ [(x1, x2)]) rfl O2.out (some ((⟨bk, off, spot⟩ : Addr).add (k * 2))) 0 (cap - k) [] rfl (Sl.none_at rfl (fun h => by cases h) (by omega)) (by have := hk.out; rw [List.length_append, hl1.out]; simp only [List.length_cons, List.length_nil]; omega) hb4.out.size ?_; intro v3 z3 O3 c3))
        go_ret
        exact ⟨_, _, rfl, (by have := put_perm l k (x1, x2); rwa [hdr.out] at this), hfin.out, O3.less b1.out.size, b1.out.trans ((hb4.out.trans c3).mono b1.out.size)⟩
end Go.Proofs.Ytdhdofgdeljajaa
