/-
  The walk of ValuesBack.
-/
import Derived.Test.YtmogkinaegdioaaGreatDoorHel
import Derived.Deep.QuietTactic
import Derived.BigQuiet
namespace Go.Proofs.YtmogkinaegdioaaGreatDoor
open Go.RowKit dec

set_option maxRecDepth 100000 in
set_option maxHeartbeats 4000000 in
theorem walk_back (A : Option Addr) (m c : Nat) (l : List Nat) (k n : Int) (s : ByteArray) (R : Option Addr) (M C : Nat) (r : List Nat) (w : World) (T : Tabs w) (hA : Li w A m c l) (hR : Li w R M C r) :
    Calls Tryz.prog 7 #[.slice A m c, .agg #[.int .i64 k, .int .i64 n, .string s], .slice R M C] w fun e w' => e = .returned (.bool true) ∧ Below w.heap.size w w' := by
  have b1 := balloc (b0 w) (.cells #[.int .i64 k, .int .i64 n, .string s] 23)
  have V := Vx.new w k n s 23
  have X := example_any _ (T.stays b1)
  replace hA := hA.keeps b1
  replace hR := hR.keeps b1
  have hm := hA.hn
  have hM := hR.hn
  have HA := Lib.hid hA
  have HR := Lib.hid hR
  have HM := Lib.hid hM
  have Hm := Lib.hid hm
  clear hA hR hm hM T
  go_enter Tryz.func7, Tryz.ntmps7
  go_wp2_with fail
  refine X.mono ?_
  rintro e w1 ⟨rfl, b⟩
  replace V := V.keeps b
  replace HA := Lib.hid (HA.out.keeps b)
  replace HR := Lib.hid (HR.out.keeps b)
  replace b1 := bnext b1 b
  clear b X
  have BM : (300 < m ∨ (¬ 300 < m ∧ 300 < M)) ∨ (¬ 300 < m ∧ ¬ 300 < M) := by omega
  rcases BM with BM | ⟨g0, g1⟩
  · rcases BM with g0 | ⟨g0, g1⟩
    all_goals
      go_wp2_with fail
      go_ret
      exact ⟨rfl, b1⟩
  obtain ⟨c0, c1, c2⟩ := id V
  go_wp2_with fail
  refine (short_any k n s w1).mono ?_
  rintro e w2 ⟨rfl, b⟩
  replace V := V.keeps b
  replace HA := Lib.hid (HA.out.keeps b)
  replace HR := Lib.hid (HR.out.keeps b)
  replace b1 := bnext b1 b
  clear b c0 c1 c2
  by_cases hs : 300 < s.size
  · rw [decide_eq_false (by omega)]
    go_wp2_with fail
    go_ret
    exact ⟨rfl, b1⟩
  rw [decide_eq_true (by omega)]
  have hs' := Lib.hid hs
  have G0 := Lib.hid g0
  have G1 := Lib.hid g1
  clear hs
  obtain ⟨c0, c1, c2⟩ := id V
  go_wp2_with fail
  refine (valid_any k n s (by have := hs'.out; omega) w2).mono ?_
  rintro e w3 ⟨rfl, b⟩
  replace V := V.keeps b
  replace HA := Lib.hid (HA.out.keeps b)
  replace HR := Lib.hid (HR.out.keeps b)
  replace b1 := bnext b1 b
  clear b c0 c1 c2 g0 g1
  cases hk : ok ⟨k, n, s⟩
  case false =>
    obtain ⟨x, y, ec, hx⟩ : ∃ x y ec, rV r 0 = (x, y, ec) := ⟨_, _, _, rfl⟩
    have CR := Lib.hid (readV_any R M C r 0 w3 HR.out (by have := G1.out; omega) x y ec hx)
    have hy := rV_err r 0
    have ho := rV_one HR.out.hat.by
    rw [hx] at hy ho
    have HY0 := Lib.hid hy
    have HO := Lib.hid ho
    clear hx hy ho
    go_wp2_with fail
    refine (CR.out).mono ?_
    rintro e w5 ⟨rfl, b⟩
    replace HR := Lib.hid (HR.out.keeps b)
    replace b1 := bnext b1 b
    clear b CR V
    by_cases he : ec = 0
    · subst he
      obtain ⟨hox, hyl, htk⟩ := HO.out rfl
      have hyl' : y ≤ M := by have := HM.out; omega
      try simp only at hox htk
      have htl := congrArg List.length htk
      rw [List.length_take] at htl
      have hev := encV_len hox
      have hex := enc_len x
      have hsx := ok_size (k := x.k) (n := x.n) (s := x.s) hox
      obtain ⟨g, o, rfl⟩ := HR.out.some (by omega)
      have CK := Lib.hid (fun W => check_any x.k x.n x.s (by omega) W)
      rw [show ck ⟨x.k, x.n, x.s⟩ = 0 from ck_ok hox] at CK
      have CA := Lib.hid (fun W => appendV_any none 0 0 [] x.k x.n x.s (by omega) W (li_nil W) (by omega) y (by rw [show enc ⟨x.k, x.n, x.s⟩ = encV x from enc_ok hox]; have := HM.out; omega))
      rw [List.nil_append, show enc ⟨x.k, x.n, x.s⟩ = r.take y from (enc_ok hox).trans htk.symm] at CA
      have U := Vx.new w5 x.k x.n x.s 23
      have b := balloc (b0 w5) (.cells #[.int .i64 x.k, .int .i64 x.n, .string x.s] 23)
      have L6 := HR.out.keeps b
      replace b1 := bnext b1 b
      have HY := Lib.hid hyl'
      have hcap := HR.out.hcap
      have hmax := HR.out.hmax
      have hyC : y ≤ C := by omega
      clear HY0 HO HR b hyl hyl' htl hev hex hsx hox htk
      go_wp2_with fail
      generalize w5.alloc (.cells #[.int .i64 x.k, .int .i64 x.n, .string x.s] 23) = w6 at *
      generalize w5.heap.size = u at *
      replace U := U.keeps (b0 w6).drew
      replace L6 := L6.keeps (b0 w6).drew
      replace b1 := b1.drew
      have hyc : (y : Int) ≤ (M : Int) := by have := HY.out; omega
      have hym : max (y : Int) 0 = y := by omega
      refine wp_region_noPanic ?_
      refine wp_region_held_drew (S := fun w' => Below w.heap.size w w' ∧ Vx w' u x.k x.n x.s ∧ Li w' (some ⟨g, o, none⟩) M C r) (by kernel_rfl) ⟨b1, U, L6⟩ (fun hH => ?_)
      refine held_take (i := 0) (d := 91) (v := ?_) rfl (by kernel_rfl) (by kernel_rfl) (by kernel_rfl) rfl (fun _ _ _ h => h) rfl hH (fun w' hS => ?_) ?_
      rotate_left
      · go_simp
        first | done | with_reducible rfl
      simp only [List.set_cons_zero, List.set_cons_succ]
      refine held_take (i := 1) (d := 92) (v := ?_) rfl (by kernel_rfl) (by kernel_rfl) (by kernel_rfl) rfl (fun _ _ _ h => h) rfl hH (fun w' hS => ?_) ?_
      rotate_left
      · go_simp
        first | done | with_reducible rfl
      simp only [List.set_cons_zero, List.set_cons_succ]
      refine held_take (i := 2) (d := 93) (v := ?_) rfl (by kernel_rfl) (by kernel_rfl) (by kernel_rfl) rfl (fun _ _ _ h => h) rfl hH (fun w' hS => ?_) ?_
      rotate_left
      · go_simp
        first | done | with_reducible rfl
      simp only [List.set_cons_zero, List.set_cons_succ]
      refine held_take (i := 3) (d := 94) (v := ?_) rfl (by kernel_rfl) (by kernel_rfl) (by kernel_rfl) rfl (fun _ _ _ h => h) rfl hH (fun w' hS => ?_) ?_
      rotate_left
      · go_simp
        first | done | with_reducible rfl
      simp only [List.set_cons_zero, List.set_cons_succ]
      refine held_take (i := 4) (d := 95) (v := ?_) rfl (by kernel_rfl) (by kernel_rfl) (by kernel_rfl) rfl (fun _ _ _ h => h) rfl hH (fun w' hS => ?_) ?_
      rotate_left
      · go_simp
        first | done | with_reducible rfl
      simp only [List.set_cons_zero, List.set_cons_succ]
      refine held_take (i := 5) (d := 96) (v := ?_) rfl (by kernel_rfl) (by kernel_rfl) (by kernel_rfl) rfl (fun _ _ _ h => h) rfl hH (fun w' hS => ?_) ?_
      rotate_left
      · obtain ⟨_, ⟨c0, c1, c2⟩, _⟩ := hS; go_simp; first | done | with_reducible rfl
      simp only [List.set_cons_zero, List.set_cons_succ]
      refine held_only (i := 6) rfl (by kernel_rfl) rfl (fun K hK => ?_)
      go_simp
      refine (CK.out _).mono ?_
      rintro e w9 ⟨rfl, b⟩
      have b9 : Below w.heap.size w w9 := bnext hH.1 b
      have h9 := hH.2.1.keeps b
      have h10 := hH.2.2.keeps b
      clear hH
      refine hK.out _ _ ⟨b9, h9, h10⟩ (fun hH => ?_)
      clear hK K
      refine held_take (i := 7) (d := 98) (v := ?_) rfl (by kernel_rfl) (by kernel_rfl) (by kernel_rfl) rfl (fun _ _ _ h => h) rfl hH (fun w' hS => ?_) ?_
      rotate_left
      · go_simp
        first | done | with_reducible rfl
      simp only [List.set_cons_zero, List.set_cons_succ]
      refine held_take (i := 8) (d := 99) (v := ?_) rfl (by kernel_rfl) (by kernel_rfl) (by kernel_rfl) rfl (fun _ _ _ h => h) rfl hH (fun w' hS => ?_) ?_
      rotate_left
      · go_simp
        first | done | with_reducible rfl
      simp only [List.set_cons_zero, List.set_cons_succ]
      refine held_take (i := 9) (d := 100) (v := ?_) rfl (by kernel_rfl) (by kernel_rfl) (by kernel_rfl) rfl (fun _ _ _ h => h) rfl hH (fun w' hS => ?_) ?_
      rotate_left
      · go_simp
        first | done | with_reducible rfl
      simp only [List.set_cons_zero, List.set_cons_succ]
      refine held_take (i := 10) (d := 101) (v := ?_) rfl (by kernel_rfl) (by kernel_rfl) (by kernel_rfl) rfl (fun _ _ _ h => h) rfl hH (fun w' hS => ?_) ?_
      rotate_left
      · obtain ⟨_, ⟨c0, c1, c2⟩, _⟩ := hS; go_simp; first | done | with_reducible rfl
      simp only [List.set_cons_zero, List.set_cons_succ]
      refine held_take (i := 13) (d := 104) (v := ?_) rfl (by kernel_rfl) (by kernel_rfl) (by kernel_rfl) rfl (fun _ _ _ h => h) rfl hH (fun w' hS => ?_) ?_
      rotate_left
      · go_simp
        first | done | with_reducible rfl
      simp only [List.set_cons_zero, List.set_cons_succ]
      refine held_take (i := 14) (d := 105) (v := ?_) rfl (by kernel_rfl) (by kernel_rfl) (by kernel_rfl) rfl (fun _ _ _ h => h) rfl hH (fun w' hS => ?_) ?_
      rotate_left
      · go_simp
        first | done | with_reducible rfl
      simp only [List.set_cons_zero, List.set_cons_succ]
      refine held_take (i := 15) (d := 106) (v := ?_) rfl (by kernel_rfl) (by kernel_rfl) (by kernel_rfl) rfl (fun _ _ _ h => h) rfl hH (fun w' hS => ?_) ?_
      rotate_left
      · go_simp
        first | done | with_reducible rfl
      simp only [List.set_cons_zero, List.set_cons_succ]
      refine held_take (i := 16) (d := 107) (v := ?_) rfl (by kernel_rfl) (by kernel_rfl) (by kernel_rfl) rfl (fun _ _ _ h => h) rfl hH (fun w' hS => ?_) ?_
      rotate_left
      · go_simp
        first | done | with_reducible rfl
      simp only [List.set_cons_zero, List.set_cons_succ]
      refine held_take (i := 17) (d := 108) (v := ?_) rfl (by kernel_rfl) (by kernel_rfl) (by kernel_rfl) rfl (fun _ _ _ h => h) rfl hH (fun w' hS => ?_) ?_
      rotate_left
      · have h0 := run_str (hS.2.2.first (j := y) HY.out).hat _ C (hS.2.2.first (j := y) HY.out).hn; go_simp; with_reducible rfl
      simp only [List.set_cons_zero, List.set_cons_succ]
      refine held_only (i := 11) rfl (by kernel_rfl) rfl (fun K hK => ?_)
      go_simp
      refine (CA.out _).mono ?_
      rintro e w11 ⟨a9, c9, rfl, L9, b⟩
      have b9 : Below w.heap.size w w11 := bnext hH.1 b
      have h9 := hH.2.1.keeps b
      have h10 := hH.2.2.keeps b
      clear hH
      refine hK.out _ _ ⟨b9, h9, h10⟩ (fun hH => ?_)
      clear hK K
      refine held_only (i := 12) rfl (by kernel_rfl) rfl (fun K hK => ?_)
      go_simp
      have h0 := run_str L9.hat _ c9 L9.hn
      go_simp
      refine hK.out _ _ ⟨b9, h9, h10⟩ (fun hH => ?_)
      clear hK K
      refine held_take (i := 18) (d := 109) (v := ?_) rfl (by kernel_rfl) (by kernel_rfl) (by kernel_rfl) rfl (fun _ _ _ h => h) rfl hH (fun w' hS => ?_) ?_
      rotate_left
      · go_simp
        first | done | with_reducible rfl
      simp only [List.set_cons_zero, List.set_cons_succ]
      refine held_take (i := 19) (d := 110) (v := ?_) rfl (by kernel_rfl) (by kernel_rfl) (by kernel_rfl) rfl (fun _ _ _ h => h) rfl hH (fun w' hS => ?_) ?_
      rotate_left
      · go_simp
        first | done | with_reducible rfl
      simp only [List.set_cons_zero, List.set_cons_succ]
      refine held_take (i := 20) (d := 6) (v := ?_) rfl (by kernel_rfl) (by kernel_rfl) (by kernel_rfl) rfl (fun _ _ _ h => h) rfl hH (fun w' hS => ?_) ?_
      rotate_left
      · go_simp
        first | done | with_reducible rfl
      simp only [List.set_cons_zero, List.set_cons_succ]
      refine wpAnyH_done (by kernel_rfl) ?_ _
      refine noPanic_of ?_
      go_wp2_with fail
      go_ret
      exact ⟨rfl, b9⟩
    · have h0 := HY0.out he
      simp only [Prod.mk.injEq] at h0
      obtain ⟨rfl, rfl, -⟩ := h0
      have b := balloc (b0 w5) (.cells #[.int .i64 0, .int .i64 0, .string .empty] 23)
      replace b1 := bnext b1 b
      clear HY0 HO b
      go_wp2_with fail
      go_ret
      exact ⟨rfl, b1⟩

  case true =>
    obtain ⟨N, hN⟩ : ∃ N, m + (enc ⟨k, n, s⟩).length = N := ⟨_, rfl⟩
    have hlen := enc_len ⟨k, n, s⟩
    have hev := encV_len hk
    rw [← enc_ok hk] at hev
    have hback := rV_back l r hk
    rw [← enc_ok hk, Hm.out] at hback
    have CA := Lib.hid (appendV_any A m c l k n s (by have := hs'.out; omega) w3 HA.out (by have := G0.out; omega) N hN)
    rw [hN] at hback
    have hmN : m ≤ N := by omega
    have hNb : N ≤ 400 := by have := G0.out; omega
    have htk : (l ++ enc ⟨k, n, s⟩).take m = l := List.take_left' Hm.out
    have hll : (l ++ enc ⟨k, n, s⟩).length = N := by rw [List.length_append, Hm.out]; exact hN
    have hass : l ++ (enc ⟨k, n, s⟩ ++ r) = (l ++ enc ⟨k, n, s⟩) ++ r := (List.append_assoc _ _ _).symm
    rw [hass] at hback
    have hB := Lib.hid hback
    have hT := Lib.hid htk
    have hL := Lib.hid hll
    have hN0 : 0 < N := by omega
    have HN := Lib.hid hNb
    clear hback htk hll hass hN hlen hev hk hNb
    generalize l ++ enc ⟨k, n, s⟩ = q at *
    obtain ⟨c0, c1, c2⟩ := id V
    go_wp2_with fail
    refine (CA.out).mono ?_
    rintro e w4 ⟨a, c', rfl, L, b⟩
    replace V := V.keeps b
    replace HA := Lib.hid (HA.out.keeps b)
    replace HR := Lib.hid (HR.out.keeps b)
    replace b1 := bnext b1 b
    clear b c0 c1 c2 CA
    obtain ⟨g, o, rfl⟩ := L.some hN0
    have LF := L.first (j := m) hmN
    rw [hT.out] at LF
    have hcap := L.hcap
    have hmax := L.hmax
    have hmc : m ≤ c' := by omega
    have s1 : ∀ j, (convert 34 9 (.slice (some ⟨g, o, none⟩) m c')).run Tryz.prog (w4.drewN j) = .ok (.string (st_of l)) (w4.drewN j) := fun j => run_str (LF.hat.keeps (below_drewN' _ _ j)) m c' LF.hn
    have s2 : ∀ j, (convert 34 9 (.slice A m c)).run Tryz.prog (w4.drewN j) = .ok (.string (st_of l)) (w4.drewN j) := fun j => run_str (HA.out.hat.keeps (below_drewN' _ _ j)) m c HA.out.hn
    have LL := Lib.hid L
    clear L LF
    have q1 : ¬ (N : Int) < (m : Int) := by omega
    go_upto_region 7 with fail
    go_quiet (fail)
    have b := below_drewN' w4.heap.size w4 nq
    replace V := V.keeps b
    replace HA := Lib.hid (HA.out.keeps b)
    replace HR := Lib.hid (HR.out.keeps b)
    replace LL := Lib.hid (LL.out.keeps b)
    replace b1 := bnext b1 b
    clear b s1 s2 hcap hmax hmc
    generalize w4.drewN nq = w5 at *
    have d := balloc (b0 w5) (.cells #[] 5)
    have O := OwL.lit w5
    have LA := LL.out.keeps d
    have hLA := LA.hn
    have hRn := HR.out.hno
    have x1 : 0 + N ≤ 140737488351232 := by have := HN.out; omega
    have x2 : 0 + N + M ≤ 140737488351232 := by have := HN.out; have := G1.out; omega
    have y1 := d.size
    go_wp2_with (at_builtin; first | (refine wpList_appL _ rfl (.tmp 50) (.tmp 51) rfl w5.heap.size 0 (.slice (some ⟨w5.heap.size, 0, none⟩) 0 0) [] rfl O (some ⟨g, o, none⟩) N c' q rfl LA.hat hLA (fun e => by cases e) x1 y1 ?_; intro v6 w6 O6 b6) | (refine wpList_appL w6 rfl (.tmp 52) (.tmp 53) rfl w5.heap.size (0 + N) v6 ([] ++ q) rfl O6 R M C r rfl (HR.out.keeps (d.trans b6)).hat HM.out hRn x2 (d.trans b6).size ?_; intro v7 w7 O7 b7))
    replace d := (d.trans b6).trans b7
    obtain ⟨a7, c7, rfl, L7⟩ := O7.li (by omega)
    rw [List.nil_append] at L7
    replace V := V.keeps d
    replace HR := Lib.hid (HR.out.keeps d)
    replace b1 := bnext b1 d
    clear O6 b6 b7 O LA hLA hRn LL HA O7 d y1
    refine (readV_any a7 (0 + N + M) c7 (q ++ r) (m : Nat) w7 L7 (by have := HN.out; have := G1.out; omega) _ _ _ hB.out).mono ?_
    rintro e w8 ⟨rfl, b⟩
    replace V := (V.keeps b).past (.cells #[.int .i64 k, .int .i64 n, .string s] 23)
    have U := Vx.new w8 k n s 23
    have b' := balloc (b0 w8) (.cells #[.int .i64 k, .int .i64 n, .string s] 23)
    replace HR := Lib.hid ((HR.out.keeps b).keeps b')
    replace b1 := bnext (bnext b1 b) b'
    clear b b' L7
    obtain ⟨c0, c1, c2⟩ := id V
    obtain ⟨d0, d1, d2⟩ := id U
    obtain ⟨x, y, ec, hx⟩ : ∃ x y ec, rV r 0 = (x, y, ec) := ⟨_, _, _, rfl⟩
    have CR := Lib.hid (readV_any R M C r 0 (w8.alloc (.cells #[.int .i64 k, .int .i64 n, .string s] 23)) HR.out (by have := G1.out; omega) x y ec hx)
    have hy := rV_err r 0
    have ho := rV_one HR.out.hat.by
    rw [hx] at hy ho
    have HY0 := Lib.hid hy
    have HO := Lib.hid ho
    clear hx hy ho
    go_wp2_with fail
    refine (CR.out).mono ?_
    rintro e w5 ⟨rfl, b⟩
    replace HR := Lib.hid (HR.out.keeps b)
    replace b1 := bnext b1 b
    clear b CR V
    by_cases he : ec = 0
    · subst he
      obtain ⟨hox, hyl, htk⟩ := HO.out rfl
      have hyl' : y ≤ M := by have := HM.out; omega
      try simp only at hox htk
      have htl := congrArg List.length htk
      rw [List.length_take] at htl
      have hev := encV_len hox
      have hex := enc_len x
      have hsx := ok_size (k := x.k) (n := x.n) (s := x.s) hox
      obtain ⟨g, o, rfl⟩ := HR.out.some (by omega)
      have CK := Lib.hid (fun W => check_any x.k x.n x.s (by omega) W)
      rw [show ck ⟨x.k, x.n, x.s⟩ = 0 from ck_ok hox] at CK
      have CA := Lib.hid (fun W => appendV_any none 0 0 [] x.k x.n x.s (by omega) W (li_nil W) (by omega) y (by rw [show enc ⟨x.k, x.n, x.s⟩ = encV x from enc_ok hox]; have := HM.out; omega))
      rw [List.nil_append, show enc ⟨x.k, x.n, x.s⟩ = r.take y from (enc_ok hox).trans htk.symm] at CA
      have U := Vx.new w5 x.k x.n x.s 23
      have b := balloc (b0 w5) (.cells #[.int .i64 x.k, .int .i64 x.n, .string x.s] 23)
      have L6 := HR.out.keeps b
      replace b1 := bnext b1 b
      have HY := Lib.hid hyl'
      have hcap := HR.out.hcap
      have hmax := HR.out.hmax
      have hyC : y ≤ C := by omega
      clear HY0 HO HR b hyl hyl' htl hev hex hsx hox htk
      go_wp2_with fail
      generalize w5.alloc (.cells #[.int .i64 x.k, .int .i64 x.n, .string x.s] 23) = w6 at *
      generalize w5.heap.size = u at *
      replace U := U.keeps (b0 w6).drew
      replace L6 := L6.keeps (b0 w6).drew
      replace b1 := b1.drew
      have hyc : (y : Int) ≤ (M : Int) := by have := HY.out; omega
      have hym : max (y : Int) 0 = y := by omega
      refine wp_region_noPanic ?_
      refine wp_region_held_drew (S := fun w' => Below w.heap.size w w' ∧ Vx w' u x.k x.n x.s ∧ Li w' (some ⟨g, o, none⟩) M C r) (by kernel_rfl) ⟨b1, U, L6⟩ (fun hH => ?_)
      refine held_take (i := 0) (d := 91) (v := ?_) rfl (by kernel_rfl) (by kernel_rfl) (by kernel_rfl) rfl (fun _ _ _ h => h) rfl hH (fun w' hS => ?_) ?_
      rotate_left
      · go_simp
        first | done | with_reducible rfl
      simp only [List.set_cons_zero, List.set_cons_succ]
      refine held_take (i := 1) (d := 92) (v := ?_) rfl (by kernel_rfl) (by kernel_rfl) (by kernel_rfl) rfl (fun _ _ _ h => h) rfl hH (fun w' hS => ?_) ?_
      rotate_left
      · go_simp
        first | done | with_reducible rfl
      simp only [List.set_cons_zero, List.set_cons_succ]
      refine held_take (i := 2) (d := 93) (v := ?_) rfl (by kernel_rfl) (by kernel_rfl) (by kernel_rfl) rfl (fun _ _ _ h => h) rfl hH (fun w' hS => ?_) ?_
      rotate_left
      · go_simp
        first | done | with_reducible rfl
      simp only [List.set_cons_zero, List.set_cons_succ]
      refine held_take (i := 3) (d := 94) (v := ?_) rfl (by kernel_rfl) (by kernel_rfl) (by kernel_rfl) rfl (fun _ _ _ h => h) rfl hH (fun w' hS => ?_) ?_
      rotate_left
      · go_simp
        first | done | with_reducible rfl
      simp only [List.set_cons_zero, List.set_cons_succ]
      refine held_take (i := 4) (d := 95) (v := ?_) rfl (by kernel_rfl) (by kernel_rfl) (by kernel_rfl) rfl (fun _ _ _ h => h) rfl hH (fun w' hS => ?_) ?_
      rotate_left
      · go_simp
        first | done | with_reducible rfl
      simp only [List.set_cons_zero, List.set_cons_succ]
      refine held_take (i := 5) (d := 96) (v := ?_) rfl (by kernel_rfl) (by kernel_rfl) (by kernel_rfl) rfl (fun _ _ _ h => h) rfl hH (fun w' hS => ?_) ?_
      rotate_left
      · obtain ⟨_, ⟨c0, c1, c2⟩, _⟩ := hS; go_simp; first | done | with_reducible rfl
      simp only [List.set_cons_zero, List.set_cons_succ]
      refine held_only (i := 6) rfl (by kernel_rfl) rfl (fun K hK => ?_)
      go_simp
      refine (CK.out _).mono ?_
      rintro e w9 ⟨rfl, b⟩
      have b9 : Below w.heap.size w w9 := bnext hH.1 b
      have h9 := hH.2.1.keeps b
      have h10 := hH.2.2.keeps b
      clear hH
      refine hK.out _ _ ⟨b9, h9, h10⟩ (fun hH => ?_)
      clear hK K
      refine held_take (i := 7) (d := 98) (v := ?_) rfl (by kernel_rfl) (by kernel_rfl) (by kernel_rfl) rfl (fun _ _ _ h => h) rfl hH (fun w' hS => ?_) ?_
      rotate_left
      · go_simp
        first | done | with_reducible rfl
      simp only [List.set_cons_zero, List.set_cons_succ]
      refine held_take (i := 8) (d := 99) (v := ?_) rfl (by kernel_rfl) (by kernel_rfl) (by kernel_rfl) rfl (fun _ _ _ h => h) rfl hH (fun w' hS => ?_) ?_
      rotate_left
      · go_simp
        first | done | with_reducible rfl
      simp only [List.set_cons_zero, List.set_cons_succ]
      refine held_take (i := 9) (d := 100) (v := ?_) rfl (by kernel_rfl) (by kernel_rfl) (by kernel_rfl) rfl (fun _ _ _ h => h) rfl hH (fun w' hS => ?_) ?_
      rotate_left
      · go_simp
        first | done | with_reducible rfl
      simp only [List.set_cons_zero, List.set_cons_succ]
      refine held_take (i := 10) (d := 101) (v := ?_) rfl (by kernel_rfl) (by kernel_rfl) (by kernel_rfl) rfl (fun _ _ _ h => h) rfl hH (fun w' hS => ?_) ?_
      rotate_left
      · obtain ⟨_, ⟨c0, c1, c2⟩, _⟩ := hS; go_simp; first | done | with_reducible rfl
      simp only [List.set_cons_zero, List.set_cons_succ]
      refine held_take (i := 13) (d := 104) (v := ?_) rfl (by kernel_rfl) (by kernel_rfl) (by kernel_rfl) rfl (fun _ _ _ h => h) rfl hH (fun w' hS => ?_) ?_
      rotate_left
      · go_simp
        first | done | with_reducible rfl
      simp only [List.set_cons_zero, List.set_cons_succ]
      refine held_take (i := 14) (d := 105) (v := ?_) rfl (by kernel_rfl) (by kernel_rfl) (by kernel_rfl) rfl (fun _ _ _ h => h) rfl hH (fun w' hS => ?_) ?_
      rotate_left
      · go_simp
        first | done | with_reducible rfl
      simp only [List.set_cons_zero, List.set_cons_succ]
      refine held_take (i := 15) (d := 106) (v := ?_) rfl (by kernel_rfl) (by kernel_rfl) (by kernel_rfl) rfl (fun _ _ _ h => h) rfl hH (fun w' hS => ?_) ?_
      rotate_left
      · go_simp
        first | done | with_reducible rfl
      simp only [List.set_cons_zero, List.set_cons_succ]
      refine held_take (i := 16) (d := 107) (v := ?_) rfl (by kernel_rfl) (by kernel_rfl) (by kernel_rfl) rfl (fun _ _ _ h => h) rfl hH (fun w' hS => ?_) ?_
      rotate_left
      · go_simp
        first | done | with_reducible rfl
      simp only [List.set_cons_zero, List.set_cons_succ]
      refine held_take (i := 17) (d := 108) (v := ?_) rfl (by kernel_rfl) (by kernel_rfl) (by kernel_rfl) rfl (fun _ _ _ h => h) rfl hH (fun w' hS => ?_) ?_
      rotate_left
      · have h0 := run_str (hS.2.2.first (j := y) HY.out).hat _ C (hS.2.2.first (j := y) HY.out).hn; go_simp; with_reducible rfl
      simp only [List.set_cons_zero, List.set_cons_succ]
      refine held_only (i := 11) rfl (by kernel_rfl) rfl (fun K hK => ?_)
      go_simp
      refine (CA.out _).mono ?_
      rintro e w11 ⟨a9, c9, rfl, L9, b⟩
      have b9 : Below w.heap.size w w11 := bnext hH.1 b
      have h9 := hH.2.1.keeps b
      have h10 := hH.2.2.keeps b
      clear hH
      refine hK.out _ _ ⟨b9, h9, h10⟩ (fun hH => ?_)
      clear hK K
      refine held_only (i := 12) rfl (by kernel_rfl) rfl (fun K hK => ?_)
      go_simp
      have h0 := run_str L9.hat _ c9 L9.hn
      go_simp
      refine hK.out _ _ ⟨b9, h9, h10⟩ (fun hH => ?_)
      clear hK K
      refine held_take (i := 18) (d := 109) (v := ?_) rfl (by kernel_rfl) (by kernel_rfl) (by kernel_rfl) rfl (fun _ _ _ h => h) rfl hH (fun w' hS => ?_) ?_
      rotate_left
      · go_simp
        first | done | with_reducible rfl
      simp only [List.set_cons_zero, List.set_cons_succ]
      refine held_take (i := 19) (d := 110) (v := ?_) rfl (by kernel_rfl) (by kernel_rfl) (by kernel_rfl) rfl (fun _ _ _ h => h) rfl hH (fun w' hS => ?_) ?_
      rotate_left
      · go_simp
        first | done | with_reducible rfl
      simp only [List.set_cons_zero, List.set_cons_succ]
      refine held_take (i := 20) (d := 6) (v := ?_) rfl (by kernel_rfl) (by kernel_rfl) (by kernel_rfl) rfl (fun _ _ _ h => h) rfl hH (fun w' hS => ?_) ?_
      rotate_left
      · go_simp
        first | done | with_reducible rfl
      simp only [List.set_cons_zero, List.set_cons_succ]
      refine wpAnyH_done (by kernel_rfl) ?_ _
      refine noPanic_of ?_
      go_wp2_with fail
      go_ret
      exact ⟨rfl, b9⟩
    · have h0 := HY0.out he
      simp only [Prod.mk.injEq] at h0
      obtain ⟨rfl, rfl, -⟩ := h0
      have b := balloc (b0 w5) (.cells #[.int .i64 0, .int .i64 0, .string .empty] 23)
      replace b1 := bnext b1 b
      clear HY0 HO b
      go_wp2_with fail
      go_ret
      exact ⟨rfl, b1⟩

end Go.Proofs.YtmogkinaegdioaaGreatDoor
