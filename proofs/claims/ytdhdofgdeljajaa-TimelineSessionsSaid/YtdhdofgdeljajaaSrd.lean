/-
  The reference's Sorted.
-/
import Derived.Test.YtdhdofgdeljajaaRuni
namespace Go.Proofs.Ytdhdofgdeljajaa
open Go.RowKit

theorem wpList_catN (w : World) {ops : Array Oper} {rest : List Oper} {o : Oper} {a : Act} {Q : Exit → Act → World → Prop} (hgd : o.guard = none) (s x : Operand)
    (ho : o.op = .call { callee := .builtin .append, args := #[s, x], argTypes := #[38, 38] })
    (base : Nat) (v : Value) (l : List Int) (hs : a.eval s = v) (hown : OwnN w base v l) (ad : Option Addr) (n cap : Nat) (l2 : List Int) (hx : a.eval x = .slice ad n cap) (hS : Sn w ad n cap l2)
    (hn : l.length + n < 8000000000000) (hbase : base ≤ w.heap.size)
    (h : ∀ v' w', OwnN w' base v' (l ++ l2) → Below base w w' → wpList Try.prog ops Q rest (a.put o.dst v') w') : wpList Try.prog ops Q (o :: rest) a w := by
  refine wpList_plain hgd fun K hK => ?_
  obtain ⟨i, hi, hz0, hz1, hz2⟩ := info_parts infoN
  have hln := hS.hn
  cases ad with
  | none =>
    have h0 := hS.hno rfl
    have h1 := hS.hcap
    have hn0 : n = 0 := by omega
    subst h0
    subst hn0
    have hl2 : l2 = [] := List.eq_nil_of_length_eq_zero hln
    subst hl2
    have hrun := run_append_owned_none (P := Try.prog) (w := w) base 38 o.type 3 i 1 Try.underlying38 hi v l.length (cn l) hown
    unfold Oper.wp
    simp only [execOp, ho, resolve, invoke, builtin, Sem.run_bind, Sem.run_pure, Result.andThen_ok, List.map_toArray, List.map_cons, List.map_nil, hs, hx, hrun]
    exact hK _ _ (h v w (by rw [List.append_nil]; exact hown) (Below.refl _ _))
  | some ad =>
    refine wp_append_own w s x 38 ho base 3 i (.int .i64 0) 1 8 Try.underlying38 hi hz0 hz1 hz2 rfl (by decide) v l.length (cn l) hs hown ad n cap (cn l2) hx (by simp [cn, hln]) ?_ (cn_one _)
      (by unfold maxLen; omega) (by omega) hbase fun v' w' h1 h2 _ => ?_
    · intro j u hu
      unfold cn at hu
      rw [List.getElem?_map] at hu
      rcases Nat.lt_or_ge j l2.length with hj | hj
      · rcases hS.hat with h0 | ⟨b, off, e, hC⟩
        · omega
        · cases e
          have hp : (⟨b, off, none⟩ : Addr).add j = ⟨b, off + j, none⟩ := by
            unfold Addr.add
            by_cases h : j = 0 <;> simp [h]
          rw [hp, hC j hj, ← hu, List.getElem?_eq_getElem hj, gn_eq hj]
          rfl
      · rw [List.getElem?_eq_none hj] at hu; cases hu
    · refine hK _ _ (h v' w' ?_ ((Below.refl base w).grown h2 hbase fun k hk => (hown.lt k hk).1))
      unfold OwnN
      rw [cn, List.map_append, List.length_append, hln]
      exact h1
theorem OwnN.less {w : World} {base base' : Nat} {v : Value} {l : List Int} (h : OwnN w base v l) (hb : base' ≤ base) : OwnN w base' v l := by
  refine ⟨h.1, h.2.imp id fun ⟨g, cap, cur, e, hbg, r⟩ => ⟨g, cap, cur, e, by omega, r⟩⟩
theorem ownN_new (w : World) (B : Nat) (hB : B ≤ w.heap.size) : OwnN (w.alloc (.cells #[] 3)) B (.slice (some ⟨w.heap.size, 0, none⟩) 0 0) [] := World.ownsRow_lit w #[] 0 hB (by unfold maxLen; omega) rfl
theorem sn_one (w : World) (t : Int) : Sn (w.alloc (.cells #[.int .i64 t] 3)) (some ⟨w.heap.size, 0, none⟩) 1 1 [t] := by
  refine ⟨.inr ⟨_, 0, rfl, fun j hj => ?_⟩, rfl, by omega, by omega, fun h => by cases h⟩
  match j, hj with
  | 0, _ => simp [go_sem, gn]
  | j + 1, hj => simp at hj
theorem Sn.cut {w : World} {b off n cap : Nat} {l : List Int} (h : Sn w (some ⟨b, off, none⟩) n cap l) (k : Nat) (hk : k ≤ n) : Sn w (some ⟨b, off + k, none⟩) (n - k) (cap - k) (l.drop k) := by
  have hn := h.hn
  have hc := h.hcap
  have hm := h.hmax
  refine ⟨?_, by rw [List.length_drop]; omega, by omega, by omega, fun h => by cases h⟩
  rcases h.hat with h1 | ⟨b', off', e, hB⟩
  · exact .inl (by rw [List.length_drop]; omega)
  · cases e
    refine .inr ⟨b, _, rfl, fun j hj => ?_⟩
    rw [List.length_drop] at hj
    have := hB (k + j) (by omega)
    have e : gn (l.drop k) j = gn l (k + j) := by
      rw [gn_eq (by rw [List.length_drop]; omega), gn_eq (by omega)]
      simp
    rw [e, Nat.add_assoc]
    exact this
theorem Sn.none_at {w : World} {a : Option Addr} {n cap : Nat} (hc : n = 0) (hno : a = none → cap = 0) (hm : cap ≤ 9223372036854775807) : Sn w a n cap [] := ⟨.inl rfl, by simp [hc], by omega, hm, hno⟩
theorem putN_perm (l : List Int) (k : Nat) (x : Int) : ((l.take k ++ [x]) ++ l.drop k).Perm (l ++ [x]) := by
  have := List.perm_middle (a := x) (l₁ := l.take k) (l₂ := l.drop k)
  rw [List.take_append_drop] at this
  rw [List.append_assoc, List.singleton_append]
  exact this.trans (List.perm_append_singleton x l).symm
theorem putN_up {l : List Int} {k : Nat} {x : Int} (ha : Up l) (h1 : ∀ y ∈ l.take k, y ≤ x) (h2 : ∀ y ∈ l.drop k, x ≤ y) : Up ((l.take k ++ [x]) ++ l.drop k) := by
  have hd : Up (l.take k ++ l.drop k) := by rw [List.take_append_drop]; exact ha
  obtain ⟨d1, d2, d3⟩ := List.pairwise_append.1 hd
  refine List.pairwise_append.2 ⟨List.pairwise_append.2 ⟨d1, by simp, fun a ha b hb => ?_⟩, d2, fun a ha b hb => ?_⟩
  · simp only [List.mem_singleton] at hb
    subst hb
    exact h1 a ha
  · rcases List.mem_append.1 ha with ha | ha
    · exact d3 a ha b hb
    · simp only [List.mem_singleton] at ha
      subst ha
      exact h2 b hb
theorem up_take {l : List Int} {m : Nat} (ha : Up l) (hm : m < l.length) : ∀ y ∈ l.take (m + 1), y ≤ gn l m := by
  have hd : Up (l.take m ++ gn l m :: l.drop (m + 1)) := by
    rw [← gn_drop hm, List.take_append_drop]
    exact ha
  obtain ⟨_, _, d3⟩ := List.pairwise_append.1 hd
  intro y hy
  rw [gn_take hm] at hy
  rcases List.mem_append.1 hy with hy | hy
  · exact d3 y hy _ (by simp)
  · simp only [List.mem_singleton] at hy
    subst hy
    exact Int.le_refl _
def tkb (t : Int) : Bool := decide (0 ≤ t) && decide (t ≤ 1099511627776)
theorem filterN_take {l : List Int} {k : Nat} (h : k < l.length) : (l.take (k + 1)).filter tkb = (l.take k).filter tkb ++ (if tkb (gn l k) then [gn l k] else []) := by
  rw [gn_take h, List.filter_append]
  congr 1
  cases hx : tkb (gn l k) <;> simp [hx]

set_option maxRecDepth 100000 in
set_option maxHeartbeats 2000000 in
theorem rsorted_any (a : Option Addr) (n cap : Nat) (l : List Int) (w : World) (hS : Sn w a n cap l) (hlim : n < 6000000000000) :
    Calls Try.prog 43 #[.slice a n cap] w fun e w' => ∃ v, e = .returned v ∧ OwnN w' w.heap.size v (srt (l.filter tkb)) ∧ Below w.heap.size w w' := by
  have hn := Lib.hid hS.hn
  have hcap := hS.hcap
  have hmax := hS.hmax
  have S1 := Lib.hid hS
  clear hS
  go_enter Try.func43, Try.ntmps43
  go_wp2_with fail
  go_loopw [3, 4] (fun v i wr => ∃ (k : Nat) (s : List Int), i = .int .i64 (k : Int) ∧ Hid (k ≤ n) ∧ Hid (s.Perm ((l.take k).filter tkb)) ∧ Hid (Up s) ∧ Hid (OwnN wr w.heap.size v s) ∧ Hid (Below w.heap.size w wr)) (fun _ i _ => n - (intOf i).toNat)
  case atStart => exact ⟨0, [], rfl, Nat.zero_le _, by simp [Hid], by simp [Hid, Up], OwnN.nil _ _, b0 w⟩
  case round =>
    obtain ⟨k, s, rfl, hk, hp, ha, hO, hb⟩ := hrel
    have hsl : Hid (s.length ≤ n) := by
      have h1 := hp.out.length_eq
      have h2 := List.length_filter_le tkb (l.take k)
      rw [List.length_take] at h2
      have := hn.out
      unfold Hid
      omega
    by_cases hlt : k < n
    · have q1 : decide ((k : Int) < (n : Int)) = true := decide_eq_true (by omega)
      obtain ⟨bk, off, rfl, hC⟩ := (S1.out.keeps hb.out).hat.resolve_left (by have := hn.out; omega)
      have e0 := hC k (by have := hn.out; omega)
      have hf := Lib.hid (filterN_take (l := l) (k := k) (by have := hn.out; omega))
      generalize gn l k = x at *
      have TC := rtick_any x
      have htk : tkb x = (decide (0 ≤ x) && decide (x ≤ 1099511627776)) := rfl
      rw [← htk] at TC
      generalize tkb x = o at *
      replace TC := Lib.hid TC
      clear hC htk
      go_wp2_with fail
      refine (TC.out _).mono ?_
      rintro e w2 ⟨rfl, rfl⟩
      clear TC
      cases o
      · have hp2 : Hid (s.Perm ((l.take (k + 1)).filter tkb)) := by unfold Hid; rw [hf.out]; simpa using hp.out
        clear e0 hf
        go_wp2_with fail
        go_roundw
        case rel => exact ⟨k + 1, s, rfl, hlt, hp2.out, ha.out, hO.out, hb.out⟩
        case measure => simp only [intOf]; omega
      · have hp2 : Hid (∀ m, ((s.take m ++ [x]) ++ s.drop m).Perm ((l.take (k + 1)).filter tkb)) := by
          intro m
          rw [hf.out]
          simp only [if_true]
          exact (putN_perm s m x).trans (List.Perm.append_right _ hp.out)
        obtain ⟨sa, caps, rfl, SS⟩ := hO.out.sn
        obtain ⟨ns, hns⟩ : ∃ ns, s.length = ns := ⟨_, rfl⟩
        rw [hns] at SS hsl ⊢
        have hcs := SS.hcap
        have hms := SS.hmax
        replace SS := Lib.hid SS
        replace hns := Lib.hid hns
        replace e0 := Lib.hid e0
        clear hf hO
        generalize wr = w1 at *
        go_wp2_with fail
        go_loopw [5] (fun i wr => ∃ m : Nat, i = .int .i64 (m : Int) ∧ Hid (m ≤ ns) ∧ Hid (∀ y ∈ s.drop m, x ≤ y) ∧ Hid (Below w1.heap.size w1 wr)) (fun i _ => (intOf i).toNat)
        case atStart => exact ⟨ns, rfl, Nat.le_refl _, by unfold Hid; rw [List.drop_eq_nil_of_le (by have := hns.out; omega)]; simp, b0 w1⟩
        case round =>
          obtain ⟨m, rfl, hm, hge, hb2⟩ := hrel
          by_cases hm0 : m = 0
          · subst hm0
            have hup := Lib.hid (putN_up (k := 0) (x := x) ha.out (by simp) hge.out)
            clear hge
            go_wp2_with fail
            refine wp_region_quiet_below (by kernel_rfl) (by kernel_rfl) ?_
            repeat (first | go_big_quiet_skip | (go_big_quiet_want; go_big_quiet_op; go_big_quiet_on))
            refine wpQuiet_nil ?_
            intro w9 hw9
            replace hb2 := Lib.hid (bnext hb2.out (below_of hw9))
            clear hw9
            by_cases hkk : caps = 0
            · obtain rfl := hkk
              have hd0 : s.drop 0 = [] := List.drop_eq_nil_of_le (by have := hns.out; omega)
              have hl1 : Hid ((s.take (0)).length = (0)) := by have := hns.out; have := hm.out; unfold Hid; rw [List.length_take]; omega
              have Sx := Lib.hid ((SS.out.keeps hb2.out).few (0) hm.out)
              have hm5 : 0 < 6000000000000 := by have := hsl.out; have := hm.out; omega
              generalize w9 = z0 at *
              go_upto_region 10 with (at_builtin; refine is_appN (.tmp 37) (.tmp 40) rfl ?_; refine wpList_catN _ rfl (.tmp 37) (.tmp 40) rfl z0.heap.size _ [] rfl (ownN_new z0 _ (Nat.le_refl _)) sa (0) 0 (s.take (0)) rfl (Sx.out.keeps (balloc (b0 z0) _)) (by simp only [List.length_nil]; omega) (balloc (b0 z0) _).size ?_; intro v1 z1 O1 c1)
              rw [List.nil_append] at O1
              have hb3 := Lib.hid ((balloc (b0 z0) _).trans c1)
              replace O1 := Lib.hid O1
              clear c1 Sx
              have x1 := keeps (bnext hb2.out hb3.out) e0.out
              go_upto_region 11 with (at_builtin; refine is_appN (.tmp 42) (.tmp 47) rfl ?_; refine wpList_catN _ rfl (.tmp 42) (.tmp 47) rfl z0.heap.size _ (s.take (0)) rfl (O1.out.keeps (balloc (b0 z1) _)) (some ⟨z1.heap.size, 0, none⟩) 1 1 [x] rfl (sn_one z1 x) (by rw [hl1.out]; omega) (balloc hb3.out _).size ?_; intro v2 z2 O2 c2)
              have hb4 := Lib.hid ((balloc hb3.out _).trans c2)
              replace O2 := Lib.hid O2
              clear c2 hb3 x1 O1
              go_wp2_with (at_builtin; go_loud (refine is_appN (.tmp 49) (.tmp 52) rfl ?_; refine wpList_catN _ rfl (.tmp 49) (.tmp 52) rfl z0.heap.size _ (s.take (0) ++ [x]) rfl O2.out sa 0 0 (s.drop (0)) rfl (by rw [hd0]; exact Sn.none_at rfl (fun _ => rfl) (by omega)) (by have := hm.out; have := hsl.out; rw [List.length_append, hl1.out]; simp only [List.length_cons, List.length_nil]; omega) hb4.out.size ?_; intro v3 z3 O3 c3))
              refine ⟨⟨k + 1, _, rfl, hlt, hp2.out (0), hup.out, O3.less (bnext hb.out hb2.out).size, bnext (bnext hb.out hb2.out) (hb4.out.trans c3)⟩, ?_⟩
              simp only [intOf]
              omega
            · have hkc : 0 < caps := by omega
              obtain ⟨sx, rfl⟩ : ∃ x, sa = some x := by
                cases sa with
                | none => have := SS.out.hno rfl; omega
                | some x => exact ⟨x, rfl⟩
              have hl1 : Hid ((s.take (0)).length = (0)) := by have := hns.out; have := hm.out; unfold Hid; rw [List.length_take]; omega
              have Sx := Lib.hid ((SS.out.keeps hb2.out).few (0) hm.out)
              have hm5 : 0 < 6000000000000 := by have := hsl.out; have := hm.out; omega
              generalize w9 = z0 at *
              go_upto_region 10 with (at_builtin; refine is_appN (.tmp 37) (.tmp 40) rfl ?_; refine wpList_catN _ rfl (.tmp 37) (.tmp 40) rfl z0.heap.size _ [] rfl (ownN_new z0 _ (Nat.le_refl _)) (some sx) (0) caps (s.take (0)) rfl (Sx.out.keeps (balloc (b0 z0) _)) (by simp only [List.length_nil]; omega) (balloc (b0 z0) _).size ?_; intro v1 z1 O1 c1)
              rw [List.nil_append] at O1
              have hb3 := Lib.hid ((balloc (b0 z0) _).trans c1)
              replace O1 := Lib.hid O1
              clear c1 Sx
              have x1 := keeps (bnext hb2.out hb3.out) e0.out
              go_upto_region 11 with (at_builtin; refine is_appN (.tmp 42) (.tmp 47) rfl ?_; refine wpList_catN _ rfl (.tmp 42) (.tmp 47) rfl z0.heap.size _ (s.take (0)) rfl (O1.out.keeps (balloc (b0 z1) _)) (some ⟨z1.heap.size, 0, none⟩) 1 1 [x] rfl (sn_one z1 x) (by rw [hl1.out]; omega) (balloc hb3.out _).size ?_; intro v2 z2 O2 c2)
              have hb4 := Lib.hid ((balloc hb3.out _).trans c2)
              replace O2 := Lib.hid O2
              clear c2 hb3 x1 O1
              go_wp2_with (at_builtin; go_loud (refine is_appN (.tmp 49) (.tmp 52) rfl ?_; refine wpList_catN _ rfl (.tmp 49) (.tmp 52) rfl z0.heap.size _ (s.take (0) ++ [x]) rfl O2.out (some sx) ns caps (s.drop (0)) rfl (SS.out.keeps (bnext hb2.out hb4.out)) (by have := hm.out; have := hsl.out; rw [List.length_append, hl1.out]; simp only [List.length_cons, List.length_nil]; omega) hb4.out.size ?_; intro v3 z3 O3 c3))
              refine ⟨⟨k + 1, _, rfl, hlt, hp2.out (0), hup.out, O3.less (bnext hb.out hb2.out).size, bnext (bnext hb.out hb2.out) (hb4.out.trans c3)⟩, ?_⟩
              simp only [intOf]
              omega
          · obtain ⟨m, rfl⟩ : ∃ j, m = j + 1 := ⟨m - 1, by omega⟩
            obtain ⟨bs, offs, rfl, hD⟩ := SS.out.hat.resolve_left (by have := hns.out; have := hm.out; omega)
            have d0 := cell_regrown (keeps hb2.out (hD m (by have := hns.out; have := hm.out; omega)))
            have x0 := cell_regrown (keeps hb2.out e0.out)
            have hut := Lib.hid (up_take ha.out (m := m) (by have := hns.out; have := hm.out; omega))
            have hdr := Lib.hid (gn_drop (l := s) (j := m) (by have := hns.out; have := hm.out; omega))
            have hm9 : m < 6000000000000 := by have := hsl.out; have := hm.out; omega
            have hmn : m < ns := by have := hm.out; omega
            generalize gn s m = y at *
            clear hD
            by_cases hyx : x < y
            · have q3 : decide (x < y) = true := decide_eq_true hyx
              have hge2 : Hid (∀ z ∈ s.drop m, x ≤ z) := by
                intro z hz
                rw [hdr.out] at hz
                rcases List.mem_cons.1 hz with rfl | hz
                · omega
                · exact hge.out z hz
              clear hyx hge hdr hut
              go_wp2_with fail
              refine wp_region_quiet_below (by kernel_rfl) (by kernel_rfl) ?_
              repeat (first | go_big_quiet_skip | (go_big_quiet_want; go_big_quiet_op; go_big_quiet_on))
              refine wpQuiet_nil ?_
              intro w9 hw9
              replace hb2 := Lib.hid (bnext hb2.out (below_of hw9))
              clear hw9 d0 x0
              go_wp2_with fail
              go_roundw
              case rel => exact ⟨m, rfl, Nat.le_of_lt hmn, hge2.out, hb2.out⟩
              case measure => simp only [intOf]; omega
            · have q3 : decide (x < y) = false := decide_eq_false hyx
              have hup := Lib.hid (putN_up (k := m + 1) (x := x) ha.out (fun z hz => by have := hut.out z hz; omega) hge.out)
              clear hyx hge hdr hut
              go_wp2_with fail
              refine wp_region_quiet_below (by kernel_rfl) (by kernel_rfl) ?_
              repeat (first | go_big_quiet_skip | (go_big_quiet_want; go_big_quiet_op; go_big_quiet_on))
              refine wpQuiet_nil ?_
              intro w9 hw9
              replace hb2 := Lib.hid (bnext hb2.out (below_of hw9))
              clear hw9 d0 x0
              by_cases hkk : m + 1 = caps
              · obtain rfl := hkk
                have hd0 : s.drop (m + 1) = [] := List.drop_eq_nil_of_le (by have := hns.out; omega)
                have hl1 : Hid ((s.take (m + 1)).length = (m + 1)) := by have := hns.out; have := hm.out; unfold Hid; rw [List.length_take]; omega
                have Sx := Lib.hid ((SS.out.keeps hb2.out).few (m + 1) hm.out)
                have hm5 : m + 1 < 6000000000000 := by have := hsl.out; have := hm.out; omega
                generalize w9 = z0 at *
                go_upto_region 10 with (at_builtin; refine is_appN (.tmp 37) (.tmp 40) rfl ?_; refine wpList_catN _ rfl (.tmp 37) (.tmp 40) rfl z0.heap.size _ [] rfl (ownN_new z0 _ (Nat.le_refl _)) (some ⟨bs, offs, none⟩) (m + 1) (m + 1) (s.take (m + 1)) rfl (Sx.out.keeps (balloc (b0 z0) _)) (by simp only [List.length_nil]; omega) (balloc (b0 z0) _).size ?_; intro v1 z1 O1 c1)
                rw [List.nil_append] at O1
                have hb3 := Lib.hid ((balloc (b0 z0) _).trans c1)
                replace O1 := Lib.hid O1
                clear c1 Sx
                have x1 := keeps (bnext hb2.out hb3.out) e0.out
                go_upto_region 11 with (at_builtin; refine is_appN (.tmp 42) (.tmp 47) rfl ?_; refine wpList_catN _ rfl (.tmp 42) (.tmp 47) rfl z0.heap.size _ (s.take (m + 1)) rfl (O1.out.keeps (balloc (b0 z1) _)) (some ⟨z1.heap.size, 0, none⟩) 1 1 [x] rfl (sn_one z1 x) (by rw [hl1.out]; omega) (balloc hb3.out _).size ?_; intro v2 z2 O2 c2)
                have hb4 := Lib.hid ((balloc hb3.out _).trans c2)
                replace O2 := Lib.hid O2
                clear c2 hb3 x1 O1
                go_wp2_with (at_builtin; go_loud (refine is_appN (.tmp 49) (.tmp 52) rfl ?_; refine wpList_catN _ rfl (.tmp 49) (.tmp 52) rfl z0.heap.size _ (s.take (m + 1) ++ [x]) rfl O2.out (some ⟨bs, offs, none⟩) 0 0 (s.drop (m + 1)) rfl (by rw [hd0]; exact Sn.none_at rfl (fun h => by cases h) (by omega)) (by have := hm.out; have := hsl.out; rw [List.length_append, hl1.out]; simp only [List.length_cons, List.length_nil]; omega) hb4.out.size ?_; intro v3 z3 O3 c3))
                refine ⟨⟨k + 1, _, rfl, hlt, hp2.out (m + 1), hup.out, O3.less (bnext hb.out hb2.out).size, bnext (bnext hb.out hb2.out) (hb4.out.trans c3)⟩, ?_⟩
                simp only [intOf]
                omega
              · have hkc : m + 1 < caps := by omega
                have hl1 : Hid ((s.take (m + 1)).length = (m + 1)) := by have := hns.out; have := hm.out; unfold Hid; rw [List.length_take]; omega
                have Sx := Lib.hid ((SS.out.keeps hb2.out).few (m + 1) hm.out)
                have hm5 : m + 1 < 6000000000000 := by have := hsl.out; have := hm.out; omega
                generalize w9 = z0 at *
                go_upto_region 10 with (at_builtin; refine is_appN (.tmp 37) (.tmp 40) rfl ?_; refine wpList_catN _ rfl (.tmp 37) (.tmp 40) rfl z0.heap.size _ [] rfl (ownN_new z0 _ (Nat.le_refl _)) (some ⟨bs, offs, none⟩) (m + 1) caps (s.take (m + 1)) rfl (Sx.out.keeps (balloc (b0 z0) _)) (by simp only [List.length_nil]; omega) (balloc (b0 z0) _).size ?_; intro v1 z1 O1 c1)
                rw [List.nil_append] at O1
                have hb3 := Lib.hid ((balloc (b0 z0) _).trans c1)
                replace O1 := Lib.hid O1
                clear c1 Sx
                have x1 := keeps (bnext hb2.out hb3.out) e0.out
                go_upto_region 11 with (at_builtin; refine is_appN (.tmp 42) (.tmp 47) rfl ?_; refine wpList_catN _ rfl (.tmp 42) (.tmp 47) rfl z0.heap.size _ (s.take (m + 1)) rfl (O1.out.keeps (balloc (b0 z1) _)) (some ⟨z1.heap.size, 0, none⟩) 1 1 [x] rfl (sn_one z1 x) (by rw [hl1.out]; omega) (balloc hb3.out _).size ?_; intro v2 z2 O2 c2)
                have hb4 := Lib.hid ((balloc hb3.out _).trans c2)
                replace O2 := Lib.hid O2
                clear c2 hb3 x1 O1
                go_wp2_with (at_builtin; go_loud (refine is_appN (.tmp 49) (.tmp 52) rfl ?_; refine wpList_catN _ rfl (.tmp 49) (.tmp 52) rfl z0.heap.size _ (s.take (m + 1) ++ [x]) rfl O2.out (some ⟨bs, offs + (m + 1), none⟩) (ns - (m + 1)) (caps - (m + 1)) (s.drop (m + 1)) rfl ((SS.out.keeps (bnext hb2.out hb4.out)).cut (m + 1) hm.out) (by have := hm.out; have := hsl.out; rw [List.length_append, hl1.out]; simp only [List.length_cons, List.length_nil]; omega) hb4.out.size ?_; intro v3 z3 O3 c3))
                refine ⟨⟨k + 1, _, rfl, hlt, hp2.out (m + 1), hup.out, O3.less (bnext hb.out hb2.out).size, bnext (bnext hb.out hb2.out) (hb4.out.trans c3)⟩, ?_⟩
                simp only [intOf]
                omega
    · have q1 : decide ((k : Int) < (n : Int)) = false := decide_eq_false (by omega)
      have hall : Hid (l.take k = l) := List.take_of_length_le (by have := hn.out; omega)
      rw [hall.out] at hp
      obtain rfl := srt_of hp.out ha.out
      replace hO := Lib.hid hO.out
      clear hall hp ha
      go_wp2_with fail
      go_ret
      exact ⟨_, rfl, hO.out, hb.out⟩
end Go.Proofs.Ytdhdofgdeljajaa
