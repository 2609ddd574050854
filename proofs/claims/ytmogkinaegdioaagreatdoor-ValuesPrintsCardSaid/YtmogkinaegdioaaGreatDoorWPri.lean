/-
  The walk of ValuesPrints.
-/
import Derived.Test.YtmogkinaegdioaaGreatDoorHe2
namespace Go.Proofs.YtmogkinaegdioaaGreatDoor
open Go.RowKit dec

/-- What the texts and the encodings of two valid values have to do with each other. -/
theorem pr_facts {k n k2 n2 : Int} {s s2 : ByteArray} {F1 F2 : List UInt8} {E1 E2 : List Nat} (h1 : ok ⟨k, n, s⟩ = true) (h2 : ok ⟨k2, n2, s2⟩ = true) (f1 : fm ⟨k, n, s⟩ = F1) (f2 : fm ⟨k2, n2, s2⟩ = F2) (e1 : enc ⟨k, n, s⟩ = E1) (e2 : enc ⟨k2, n2, s2⟩ = E2) :
    (k = k2 ∧ n = n2 ∧ s = s2 ∧ F1 = F2 ∧ st_of E1 = st_of E2 ∧ E1 = E2) ∨ (((F1 == F2) = false ∧ ((st_of E1).toList == (st_of E2).toList) = false ∧ ((st_of (E2.take E1.length)).toList == (st_of E1).toList) = false) ∧ ((¬ k = k2) ∨ (k = k2 ∧ ¬ n = n2) ∨ (k = k2 ∧ n = n2 ∧ ¬ s.toList = s2.toList))) := by
  by_cases h : (⟨k, n, s⟩ : Va) = ⟨k2, n2, s2⟩
  · cases h
    exact .inl ⟨rfl, rfl, rfl, f1.symm.trans f2, by rw [← e1, ← e2], e1.symm.trans e2⟩
  · refine .inr ⟨⟨?_, ?_, ?_⟩, ?_⟩
    · rw [beq_eq_false_iff_ne, ← f1, ← f2]
      exact fun e => h (fm_inj h1 h2 e)
    · rw [← e1, ← e2, eq_lists (by_enc _) (by_enc _), decide_eq_false]
      intro e
      apply h
      refine enc_free h1 h2 ?_
      rw [← enc_ok h1, ← enc_ok h2, ← e, List.take_length]
    · rw [← e1, ← e2, eq_lists ((by_enc _).take _) (by_enc _), decide_eq_false]
      intro e
      apply h
      refine enc_free h1 h2 ?_
      rw [← enc_ok h1, ← enc_ok h2]
      exact e.symm
    · by_cases a : k = k2
      · by_cases b : n = n2
        · exact .inr (.inr ⟨a, b, fun e => h (by rw [a, b, toList_inj e])⟩)
        · exact .inr (.inl ⟨a, b⟩)
      · exact .inl a

set_option maxRecDepth 100000 in
set_option maxHeartbeats 8000000 in
theorem walk_prints (k n : Int) (s : ByteArray) (k2 n2 : Int) (s2 : ByteArray) (t : ByteArray) (w : World) (T : Tabs w) :
    Calls Tryz.prog 8 #[.agg #[.int .i64 k, .int .i64 n, .string s], .agg #[.int .i64 k2, .int .i64 n2, .string s2], .string t] w fun e w' => e = .returned (.bool true) ∧ Below w.heap.size w w' := by
  have b1 := balloc (balloc (b0 w) (.cells #[.int .i64 k, .int .i64 n, .string s] 23)) (.cells #[.int .i64 k2, .int .i64 n2, .string s2] 23)
  have V := (Vx.new w k n s 23).past (.cells #[.int .i64 k2, .int .i64 n2, .string s2] 23)
  have U := Vx.new (w.alloc (.cells #[.int .i64 k, .int .i64 n, .string s] 23)) k2 n2 s2 23
  rw [alloc_size] at U
  replace T := T.stays b1
  have X := example_any _ T
  have S1 := Lib.hid (fun W => short_any k n s W)
  have S2 := Lib.hid (fun W => short_any k2 n2 s2 W)
  go_enter Tryz.func8, Tryz.ntmps8
  go_wp2_with fail
  refine X.mono ?_
  rintro e w1 ⟨rfl, b⟩
  replace V := V.keeps b
  replace U := U.keeps b
  replace T := T.stays b
  replace b1 := bnext b1 b
  clear b
  clear X
  obtain ⟨c0, c1, c2⟩ := id V
  obtain ⟨d0, d1, d2⟩ := id U
  go_wp2_with fail
  refine (S1.out _).mono ?_
  rintro e w2 ⟨rfl, b⟩
  replace V := V.keeps b
  replace U := U.keeps b
  replace T := T.stays b
  replace b1 := bnext b1 b
  clear b
  clear c0 c1 c2 d0 d1 d2
  obtain ⟨c0, c1, c2⟩ := id V
  obtain ⟨d0, d1, d2⟩ := id U
  by_cases hs : s.size ≤ 300
  case neg =>
    rw [decide_eq_false hs]
    go_wp2_with fail
    go_ret
    exact ⟨rfl, b1⟩
  rw [decide_eq_true hs]
  go_wp2_with fail
  refine (S2.out _).mono ?_
  rintro e w3 ⟨rfl, b⟩
  replace V := V.keeps b
  replace U := U.keeps b
  replace T := T.stays b
  replace b1 := bnext b1 b
  clear b
  clear c0 c1 c2 d0 d1 d2
  by_cases hs2 : s2.size ≤ 300
  case neg =>
    rw [decide_eq_false hs2]
    go_wp2_with fail
    go_ret
    exact ⟨rfl, b1⟩
  rw [decide_eq_true hs2]
  by_cases ht : 300 < t.size
  · go_wp2_with fail
    go_ret
    exact ⟨rfl, b1⟩
  obtain ⟨x, ec, hx⟩ : ∃ x ec, psP t.data.toList = (x, ec) := ⟨_, _, rfl⟩
  have KP := Lib.hid (fun W T => parseV_any t (by omega) W T)
  have hok := ps_ok (l := t.data.toList)
  rw [hx] at KP hok
  have HOK := Lib.hid hok
  have K1 := Lib.hid (fun W => valid_any k n s (by omega) W)
  have K2 := Lib.hid (fun W => valid_any k2 n2 s2 (by omega) W)
  have K3 := Lib.hid (fun W T => formatV_any k n s (by omega) W T)
  have K4 := Lib.hid (fun W T => formatV_any k2 n2 s2 (by omega) W T)
  have K5 := Lib.hid (fun W N hN => appendV_any none 0 0 [] k n s (by omega) W (li_nil W) (by omega) N hN)
  have K6 := Lib.hid (fun W N hN => appendV_any none 0 0 [] k2 n2 s2 (by omega) W (li_nil W) (by omega) N hN)
  have hl1 := fm_len ⟨k, n, s⟩
  have hl2 := fm_len ⟨k2, n2, s2⟩
  have HL1 := Lib.hid hl1
  have HL2 := Lib.hid hl2
  clear hs hs2 hx hok hl1 hl2
  go_wp2_with fail
  refine (KP.out _ T).mono ?_
  rintro e w4 ⟨v, cc, rfl, hvc, b⟩
  obtain ⟨rfl, rfl⟩ : v = x ∧ cc = ec := by simpa using hvc
  replace V := V.keeps b
  replace U := U.keeps b
  replace T := T.stays b
  replace b1 := bnext b1 b
  clear b
  have b := balloc (b0 w4) (.cells #[.int .i64 v.k, .int .i64 v.n, .string v.s] 23)
  have P := Vx.new w4 v.k v.n v.s 23
  replace V := V.keeps b
  replace U := U.keeps b
  replace T := T.stays b
  replace b1 := bnext b1 b
  clear b
  clear hvc KP
  obtain ⟨c0, c1, c2⟩ := id V
  obtain ⟨d0, d1, d2⟩ := id U
  obtain ⟨p0, p1, p2⟩ := id P
  by_cases he : cc = 0
  case neg =>
    go_wp2_with fail
    clear c0 c1 c2 d0 d1 d2
    clear p0 p1 p2
    obtain ⟨c0, c1, c2⟩ := id V
    obtain ⟨d0, d1, d2⟩ := id U
    refine (K1.out _).mono ?_
    rintro e w8 ⟨rfl, b⟩
    replace V := V.keeps b
    replace U := U.keeps b
    replace T := T.stays b
    replace b1 := bnext b1 b
    clear b
    clear c0 c1 c2 d0 d1 d2
    obtain ⟨c0, c1, c2⟩ := id V
    obtain ⟨d0, d1, d2⟩ := id U
    cases hk : ok ⟨k, n, s⟩
    case false =>
      go_wp2_with fail
      go_ret
      exact ⟨rfl, b1⟩
    have HK := Lib.hid hk
    clear hk
    go_wp2_with fail
    refine (K2.out _).mono ?_
    rintro e w9 ⟨rfl, b⟩
    replace V := V.keeps b
    replace U := U.keeps b
    replace T := T.stays b
    replace b1 := bnext b1 b
    clear b
    clear c0 c1 c2 d0 d1 d2
    obtain ⟨c0, c1, c2⟩ := id V
    obtain ⟨d0, d1, d2⟩ := id U
    cases hk2 : ok ⟨k2, n2, s2⟩
    case false =>
      go_wp2_with fail
      go_ret
      exact ⟨rfl, b1⟩
    have HK2 := Lib.hid hk2
    clear hk2
    go_upto_region 10 with fail
    have G3 := Lib.hid (fun d os => Calls.regrown_of (P := Tryz.prog) (K3.out _ (T.stays (below_regrown w9 d os))))
    have G4 := Lib.hid (fun d os => Calls.regrown_of (P := Tryz.prog) (K4.out _ (T.stays (below_regrown w9 d os))))
    clear c0 c1 c2 d0 d1 d2
    obtain ⟨c0, c1, c2⟩ := V.grown
    obtain ⟨d0, d1, d2⟩ := U.grown
    refine wp_region_quiet_below (by kernel_rfl) (by kernel_rfl) ?_
    quiet_step ((go_at_call 26; exact G3.out _ _))
    quiet_step ((go_at_call 26; exact G3.out _ _))
    quiet_step ((go_at_call 26; exact G4.out _ _))
    quiet_step ((go_at_call 26; exact G4.out _ _))
    quiet_step (fail)
    quiet_step (fail)
    refine wpQuiet_nil ?_
    intro w10 hw
    have b := below_of hw
    replace V := V.keeps b
    replace U := U.keeps b
    replace T := T.stays b
    replace b1 := bnext b1 b
    clear b
    clear c0 c1 c2 d0 d1 d2
    clear hw G3 G4
    obtain ⟨c0, c1, c2⟩ := id V
    obtain ⟨d0, d1, d2⟩ := id U
    have KQ := parseV_any ⟨(fm ⟨k, n, s⟩).toArray⟩ (by rw [st_size]; have := HL1.out; omega) w10 T
    rw [st_list, ps_fm HK.out] at KQ
    obtain ⟨F1, hF1⟩ : ∃ F, fm ⟨k, n, s⟩ = F := ⟨_, rfl⟩
    obtain ⟨F2, hF2⟩ : ∃ F, fm ⟨k2, n2, s2⟩ = F := ⟨_, rfl⟩
    obtain ⟨E1, hE1⟩ : ∃ E, enc ⟨k, n, s⟩ = E := ⟨_, rfl⟩
    obtain ⟨E2, hE2⟩ : ∃ E, enc ⟨k2, n2, s2⟩ = E := ⟨_, rfl⟩
    have hc := pr_facts HK.out HK2.out hF1 hF2 hE1 hE2
    have hC3 : E1.length ≤ E2.length → ∀ W, (Instr.slice 9 (.string (st_of E2)) none (some (.int .i64 ((st_of E1).size : Nat))) none).run Tryz.prog W = .ok (.string (st_of (E2.take E1.length))) W := fun h W => by rw [st_of_size]; exact slice_st E2 E1.length h W
    have K5' := fun W => K5.out W E1.length (by rw [Nat.zero_add, hE1])
    have K6' := fun W => K6.out W E2.length (by rw [Nat.zero_add, hE2])
    rw [hE1, List.nil_append] at K5'
    rw [hE2, List.nil_append] at K6'
    rw [hF1] at KQ
    rw [hF1, hF2]
    have hz1 := st_of_size E1
    have hz2 := st_of_size E2
    obtain ⟨C1, hC1⟩ : ∃ C, st_of E1 = C := ⟨_, rfl⟩
    obtain ⟨C2, hC2⟩ : ∃ C, st_of E2 = C := ⟨_, rfl⟩
    obtain ⟨C3, hC3'⟩ : ∃ C, st_of (E2.take E1.length) = C := ⟨_, rfl⟩
    rw [hC1, hC2, hC3'] at hc
    rw [hC1] at hz1
    rw [hC2] at hz2
    rw [hC1, hC2, hC3'] at hC3
    have HS : C2.size < C1.size ∨ (¬ C2.size < C1.size ∧ ∀ W, (Instr.slice 9 (.string C2) none (some (.int .i64 (C1.size : Nat))) none).run Tryz.prog W = .ok (.string C3) W) := by
      rw [hz1, hz2]
      rcases Nat.lt_or_ge E2.length E1.length with h | h
      · exact .inl h
      · exact .inr ⟨by omega, by rw [← hz1]; exact hC3 h⟩
    replace HS := Lib.hid HS
    have HC := Lib.hid hc
    have HC1 := Lib.hid hC1
    have HC2 := Lib.hid hC2
    have K5 := Lib.hid K5'
    have K6 := Lib.hid K6'
    clear hc hC1 hC2 hC3 hC3' hz1 hz2 hF1 hF2 hE1 hE2 K3 K4 K1 K2 K5' K6' HL1 HL2 HK HK2 HOK
    go_wp2_with fail
    refine (KQ).mono ?_
    rintro e w11 ⟨v1, c1', rfl, hvc, b⟩
    obtain ⟨rfl, rfl⟩ : v1 = ⟨k, n, s⟩ ∧ c1' = 0 := by simpa using hvc
    replace V := V.keeps b
    replace U := U.keeps b
    replace T := T.stays b
    replace b1 := bnext b1 b
    clear b
    have b := balloc (b0 w11) (.cells #[.int .i64 k, .int .i64 n, .string s] 23)
    have Y := Vx.new w11 k n s 23
    replace V := V.keeps b
    replace U := U.keeps b
    replace T := T.stays b
    replace b1 := bnext b1 b
    clear b
    clear hvc KQ
    clear c0 c1 c2 d0 d1 d2
    obtain ⟨c0, c1, c2⟩ := id V
    obtain ⟨d0, d1, d2⟩ := id U
    obtain ⟨y0, y1, y2⟩ := id Y
    rcases HC.out with ⟨rfl, rfl, rfl, rfl, g5, rfl⟩ | ⟨⟨g1, g2, g3⟩, hd⟩
    · clear HC HS
      subst g5
      go_upto_region 14 with fail
      have V' := V.keeps (b0 _).drew
      have U' := U.keeps (b0 _).drew
      have b1' := b1.drew
      clear c0 c1 c2 d0 d1 d2
      clear y0 y1 y2 Y
      refine wp_region_noPanic ?_
      refine wp_region_held_drew (S := fun w' => Below w.heap.size w w' ∧ Vx w' _ _ _ _ ∧ Vx w' _ _ _ _) (by kernel_rfl) ⟨b1', V', U'⟩ (fun hH => ?_)
      clear V' U' b1' V U b1
      refine held_take (i := 0) (d := 81) (v := ?_) rfl (by kernel_rfl) (by kernel_rfl) (by kernel_rfl) rfl (fun _ _ _ h => h) rfl hH (fun w' hS => ?_) ?_
      rotate_left
      · obtain ⟨_, ⟨c0, c1, c2⟩, ⟨d0, d1, d2⟩⟩ := hS; go_simp; first | done | with_reducible rfl
      simp only [List.set_cons_zero, List.set_cons_succ]
      refine held_take (i := 3) (d := 84) (v := ?_) rfl (by kernel_rfl) (by kernel_rfl) (by kernel_rfl) rfl (fun _ _ _ h => h) rfl hH (fun w' hS => ?_) ?_
      rotate_left
      · obtain ⟨_, ⟨c0, c1, c2⟩, ⟨d0, d1, d2⟩⟩ := hS; go_simp; first | done | with_reducible rfl
      simp only [List.set_cons_zero, List.set_cons_succ]
      refine held_only (i := 1) rfl (by kernel_rfl) rfl (fun K hK => ?_)
      go_simp
      refine (K5.out _).mono ?_
      rintro e w12 ⟨a9, c9, rfl, L9, b⟩
      have b9 : Below w.heap.size w w12 := bnext hH.1 b
      have h9 := hH.2.1.keeps b
      have h10 := hH.2.2.keeps b
      clear hH b
      refine hK.out _ _ ⟨b9, h9, h10⟩ (fun hH => ?_)
      clear hK K
      refine held_with L9 hH (fun hH => ?_)
      clear b9 h9 h10 L9
      refine held_take (i := 2) (d := 83) (v := ?_) rfl (by kernel_rfl) (by kernel_rfl) (by kernel_rfl) rfl (fun _ _ _ h => h) rfl hH (fun w' hS => ?_) ?_
      rotate_left
      · have h0 := run_str hS.2.hat _ c9 hS.2.hn; rw [HC1.out] at h0; go_simp; with_reducible rfl
      simp only [List.set_cons_zero, List.set_cons_succ]
      refine held_only (i := 4) rfl (by kernel_rfl) rfl (fun K hK => ?_)
      go_simp
      refine (K6.out _).mono ?_
      rintro e w13 ⟨a8, c8, rfl, L8, b⟩
      have b9 : Below w.heap.size w w13 := bnext hH.1.1 b
      have h9 := hH.1.2.1.keeps b
      have h10 := hH.1.2.2.keeps b
      have h11 := hH.2.keeps b
      clear hH b
      refine hK.out _ _ ⟨⟨b9, h9, h10⟩, h11⟩ (fun hH => ?_)
      clear hK K
      refine held_take (i := 6) (d := 13) (v := ?_) rfl (by kernel_rfl) (by kernel_rfl) (by kernel_rfl) rfl (fun _ _ _ h => h) rfl hH (fun w' hS => ?_) ?_
      rotate_left
      · go_simp
        first | done | with_reducible rfl
      simp only [List.set_cons_zero, List.set_cons_succ]
      refine held_only (i := 5) rfl (by kernel_rfl) rfl (fun K hK => ?_)
      have h0 := run_str L8.hat _ c8 L8.hn
      rw [HC2.out] at h0
      go_simp
      refine hK.out _ _ ⟨⟨b9, h9, h10⟩, h11⟩ (fun hH => ?_)
      clear hK K h0
      refine held_take (i := 7) (d := 14) (v := ?_) rfl (by kernel_rfl) (by kernel_rfl) (by kernel_rfl) rfl (fun _ _ _ h => h) rfl hH (fun w' hS => ?_) ?_
      rotate_left
      · go_simp
        first | done | with_reducible rfl
      simp only [List.set_cons_zero, List.set_cons_succ]
      refine wpAnyH_done (by kernel_rfl) ?_ _
      refine noPanic_of ?_
      obtain ⟨c0, c1, c2⟩ := h9
      obtain ⟨d0, d1, d2⟩ := h10
      clear hH h11 L8
      go_wp2_with fail
      go_ret
      exact ⟨rfl, b9⟩

    · replace HS := HS.out
      rcases hd with hd | ⟨rfl, hd⟩ | ⟨rfl, rfl, hd⟩
      all_goals rcases HS with hs1 | ⟨hs1, hs2⟩
      all_goals
        clear HC
        go_upto_region 14 with fail
        have V' := V.keeps (b0 _).drew
        have U' := U.keeps (b0 _).drew
        have b1' := b1.drew
        clear c0 c1 c2 d0 d1 d2
        clear y0 y1 y2 Y
        refine wp_region_noPanic ?_
        refine wp_region_held_drew (S := fun w' => Below w.heap.size w w' ∧ Vx w' _ _ _ _ ∧ Vx w' _ _ _ _) (by kernel_rfl) ⟨b1', V', U'⟩ (fun hH => ?_)
        clear V' U' b1' V U b1
        refine held_take (i := 0) (d := 81) (v := ?_) rfl (by kernel_rfl) (by kernel_rfl) (by kernel_rfl) rfl (fun _ _ _ h => h) rfl hH (fun w' hS => ?_) ?_
        rotate_left
        · obtain ⟨_, ⟨c0, c1, c2⟩, ⟨d0, d1, d2⟩⟩ := hS; go_simp; first | done | with_reducible rfl
        simp only [List.set_cons_zero, List.set_cons_succ]
        refine held_take (i := 3) (d := 84) (v := ?_) rfl (by kernel_rfl) (by kernel_rfl) (by kernel_rfl) rfl (fun _ _ _ h => h) rfl hH (fun w' hS => ?_) ?_
        rotate_left
        · obtain ⟨_, ⟨c0, c1, c2⟩, ⟨d0, d1, d2⟩⟩ := hS; go_simp; first | done | with_reducible rfl
        simp only [List.set_cons_zero, List.set_cons_succ]
        refine held_only (i := 1) rfl (by kernel_rfl) rfl (fun K hK => ?_)
        go_simp
        refine (K5.out _).mono ?_
        rintro e w12 ⟨a9, c9, rfl, L9, b⟩
        have b9 : Below w.heap.size w w12 := bnext hH.1 b
        have h9 := hH.2.1.keeps b
        have h10 := hH.2.2.keeps b
        clear hH b
        refine hK.out _ _ ⟨b9, h9, h10⟩ (fun hH => ?_)
        clear hK K
        refine held_with L9 hH (fun hH => ?_)
        clear b9 h9 h10 L9
        refine held_take (i := 2) (d := 83) (v := ?_) rfl (by kernel_rfl) (by kernel_rfl) (by kernel_rfl) rfl (fun _ _ _ h => h) rfl hH (fun w' hS => ?_) ?_
        rotate_left
        · have h0 := run_str hS.2.hat _ c9 hS.2.hn; rw [HC1.out] at h0; go_simp; with_reducible rfl
        simp only [List.set_cons_zero, List.set_cons_succ]
        refine held_only (i := 4) rfl (by kernel_rfl) rfl (fun K hK => ?_)
        go_simp
        refine (K6.out _).mono ?_
        rintro e w13 ⟨a8, c8, rfl, L8, b⟩
        have b9 : Below w.heap.size w w13 := bnext hH.1.1 b
        have h9 := hH.1.2.1.keeps b
        have h10 := hH.1.2.2.keeps b
        have h11 := hH.2.keeps b
        clear hH b
        refine hK.out _ _ ⟨⟨b9, h9, h10⟩, h11⟩ (fun hH => ?_)
        clear hK K
        refine held_take (i := 6) (d := 13) (v := ?_) rfl (by kernel_rfl) (by kernel_rfl) (by kernel_rfl) rfl (fun _ _ _ h => h) rfl hH (fun w' hS => ?_) ?_
        rotate_left
        · go_simp
          first | done | with_reducible rfl
        simp only [List.set_cons_zero, List.set_cons_succ]
        refine held_only (i := 5) rfl (by kernel_rfl) rfl (fun K hK => ?_)
        have h0 := run_str L8.hat _ c8 L8.hn
        rw [HC2.out] at h0
        go_simp
        refine hK.out _ _ ⟨⟨b9, h9, h10⟩, h11⟩ (fun hH => ?_)
        clear hK K h0
        refine held_take (i := 7) (d := 14) (v := ?_) rfl (by kernel_rfl) (by kernel_rfl) (by kernel_rfl) rfl (fun _ _ _ h => h) rfl hH (fun w' hS => ?_) ?_
        rotate_left
        · go_simp
          first | done | with_reducible rfl
        simp only [List.set_cons_zero, List.set_cons_succ]
        refine wpAnyH_done (by kernel_rfl) ?_ _
        refine noPanic_of ?_
        obtain ⟨c0, c1, c2⟩ := h9
        obtain ⟨d0, d1, d2⟩ := h10
        clear hH h11 L8
        go_wp2_with fail
        go_ret
        exact ⟨rfl, b9⟩


  case pos =>
    subst he
    obtain ⟨hox, hfx⟩ := HOK.out rfl
    have hsx := ok_size (k := v.k) (n := v.n) (s := v.s) hox
    have KF := Lib.hid (fun W T => formatV_any v.k v.n v.s (by omega) W T)
    rw [show fm ⟨v.k, v.n, v.s⟩ = t.data.toList from hfx] at KF
    have KC := Lib.hid (fun W => check_any v.k v.n v.s (by omega) W)
    rw [show ck ⟨v.k, v.n, v.s⟩ = 0 from ck_ok hox] at KC
    have hq1 : (t.data.toList == t.toList) = true := by rw [beq_iff_eq, ByteArray.toList_eq]
    have hq2 : (t.data.toList != t.toList) = false := by rw [bne, hq1]; rfl
    clear hox hfx hsx
    generalize t.data.toList = F0 at *
    go_wp2_with fail
    refine (KF.out _ T).mono ?_
    rintro e w6 ⟨rfl, b⟩
    replace P := P.keeps b
    replace V := V.keeps b
    replace U := U.keeps b
    replace T := T.stays b
    replace b1 := bnext b1 b
    clear b
    clear c0 c1 c2 d0 d1 d2
    clear p0 p1 p2
    obtain ⟨c0, c1, c2⟩ := id V
    obtain ⟨d0, d1, d2⟩ := id U
    obtain ⟨p0, p1, p2⟩ := id P
    go_wp2_with fail
    refine (KC.out _).mono ?_
    rintro e w7 ⟨rfl, b⟩
    replace V := V.keeps b
    replace U := U.keeps b
    replace T := T.stays b
    replace b1 := bnext b1 b
    clear b
    clear c0 c1 c2 d0 d1 d2
    clear p0 p1 p2 P KF KC
    obtain ⟨c0, c1, c2⟩ := id V
    obtain ⟨d0, d1, d2⟩ := id U
    go_wp2_with fail
    refine (K1.out _).mono ?_
    rintro e w8 ⟨rfl, b⟩
    replace V := V.keeps b
    replace U := U.keeps b
    replace T := T.stays b
    replace b1 := bnext b1 b
    clear b
    clear c0 c1 c2 d0 d1 d2
    obtain ⟨c0, c1, c2⟩ := id V
    obtain ⟨d0, d1, d2⟩ := id U
    cases hk : ok ⟨k, n, s⟩
    case false =>
      go_wp2_with fail
      go_ret
      exact ⟨rfl, b1⟩
    have HK := Lib.hid hk
    clear hk
    go_wp2_with fail
    refine (K2.out _).mono ?_
    rintro e w9 ⟨rfl, b⟩
    replace V := V.keeps b
    replace U := U.keeps b
    replace T := T.stays b
    replace b1 := bnext b1 b
    clear b
    clear c0 c1 c2 d0 d1 d2
    obtain ⟨c0, c1, c2⟩ := id V
    obtain ⟨d0, d1, d2⟩ := id U
    cases hk2 : ok ⟨k2, n2, s2⟩
    case false =>
      go_wp2_with fail
      go_ret
      exact ⟨rfl, b1⟩
    have HK2 := Lib.hid hk2
    clear hk2
    go_upto_region 10 with fail
    have G3 := Lib.hid (fun d os => Calls.regrown_of (P := Tryz.prog) (K3.out _ (T.stays (below_regrown w9 d os))))
    have G4 := Lib.hid (fun d os => Calls.regrown_of (P := Tryz.prog) (K4.out _ (T.stays (below_regrown w9 d os))))
    clear c0 c1 c2 d0 d1 d2
    obtain ⟨c0, c1, c2⟩ := V.grown
    obtain ⟨d0, d1, d2⟩ := U.grown
    refine wp_region_quiet_below (by kernel_rfl) (by kernel_rfl) ?_
    quiet_step ((go_at_call 26; exact G3.out _ _))
    quiet_step ((go_at_call 26; exact G3.out _ _))
    quiet_step ((go_at_call 26; exact G4.out _ _))
    quiet_step ((go_at_call 26; exact G4.out _ _))
    quiet_step (fail)
    quiet_step (fail)
    refine wpQuiet_nil ?_
    intro w10 hw
    have b := below_of hw
    replace V := V.keeps b
    replace U := U.keeps b
    replace T := T.stays b
    replace b1 := bnext b1 b
    clear b
    clear c0 c1 c2 d0 d1 d2
    clear hw G3 G4
    obtain ⟨c0, c1, c2⟩ := id V
    obtain ⟨d0, d1, d2⟩ := id U
    have KQ := parseV_any ⟨(fm ⟨k, n, s⟩).toArray⟩ (by rw [st_size]; have := HL1.out; omega) w10 T
    rw [st_list, ps_fm HK.out] at KQ
    obtain ⟨F1, hF1⟩ : ∃ F, fm ⟨k, n, s⟩ = F := ⟨_, rfl⟩
    obtain ⟨F2, hF2⟩ : ∃ F, fm ⟨k2, n2, s2⟩ = F := ⟨_, rfl⟩
    obtain ⟨E1, hE1⟩ : ∃ E, enc ⟨k, n, s⟩ = E := ⟨_, rfl⟩
    obtain ⟨E2, hE2⟩ : ∃ E, enc ⟨k2, n2, s2⟩ = E := ⟨_, rfl⟩
    have hc := pr_facts HK.out HK2.out hF1 hF2 hE1 hE2
    have hC3 : E1.length ≤ E2.length → ∀ W, (Instr.slice 9 (.string (st_of E2)) none (some (.int .i64 ((st_of E1).size : Nat))) none).run Tryz.prog W = .ok (.string (st_of (E2.take E1.length))) W := fun h W => by rw [st_of_size]; exact slice_st E2 E1.length h W
    have K5' := fun W => K5.out W E1.length (by rw [Nat.zero_add, hE1])
    have K6' := fun W => K6.out W E2.length (by rw [Nat.zero_add, hE2])
    rw [hE1, List.nil_append] at K5'
    rw [hE2, List.nil_append] at K6'
    rw [hF1] at KQ
    rw [hF1, hF2]
    have hz1 := st_of_size E1
    have hz2 := st_of_size E2
    obtain ⟨C1, hC1⟩ : ∃ C, st_of E1 = C := ⟨_, rfl⟩
    obtain ⟨C2, hC2⟩ : ∃ C, st_of E2 = C := ⟨_, rfl⟩
    obtain ⟨C3, hC3'⟩ : ∃ C, st_of (E2.take E1.length) = C := ⟨_, rfl⟩
    rw [hC1, hC2, hC3'] at hc
    rw [hC1] at hz1
    rw [hC2] at hz2
    rw [hC1, hC2, hC3'] at hC3
    have HS : C2.size < C1.size ∨ (¬ C2.size < C1.size ∧ ∀ W, (Instr.slice 9 (.string C2) none (some (.int .i64 (C1.size : Nat))) none).run Tryz.prog W = .ok (.string C3) W) := by
      rw [hz1, hz2]
      rcases Nat.lt_or_ge E2.length E1.length with h | h
      · exact .inl h
      · exact .inr ⟨by omega, by rw [← hz1]; exact hC3 h⟩
    replace HS := Lib.hid HS
    have HC := Lib.hid hc
    have HC1 := Lib.hid hC1
    have HC2 := Lib.hid hC2
    have K5 := Lib.hid K5'
    have K6 := Lib.hid K6'
    clear hc hC1 hC2 hC3 hC3' hz1 hz2 hF1 hF2 hE1 hE2 K3 K4 K1 K2 K5' K6' HL1 HL2 HK HK2 HOK
    go_wp2_with fail
    refine (KQ).mono ?_
    rintro e w11 ⟨v1, c1', rfl, hvc, b⟩
    obtain ⟨rfl, rfl⟩ : v1 = ⟨k, n, s⟩ ∧ c1' = 0 := by simpa using hvc
    replace V := V.keeps b
    replace U := U.keeps b
    replace T := T.stays b
    replace b1 := bnext b1 b
    clear b
    have b := balloc (b0 w11) (.cells #[.int .i64 k, .int .i64 n, .string s] 23)
    have Y := Vx.new w11 k n s 23
    replace V := V.keeps b
    replace U := U.keeps b
    replace T := T.stays b
    replace b1 := bnext b1 b
    clear b
    clear hvc KQ
    clear c0 c1 c2 d0 d1 d2
    obtain ⟨c0, c1, c2⟩ := id V
    obtain ⟨d0, d1, d2⟩ := id U
    obtain ⟨y0, y1, y2⟩ := id Y
    rcases HC.out with ⟨rfl, rfl, rfl, rfl, g5, rfl⟩ | ⟨⟨g1, g2, g3⟩, hd⟩
    · clear HC HS
      subst g5
      go_upto_region 14 with fail
      have V' := V.keeps (b0 _).drew
      have U' := U.keeps (b0 _).drew
      have b1' := b1.drew
      clear c0 c1 c2 d0 d1 d2
      clear y0 y1 y2 Y
      refine wp_region_noPanic ?_
      refine wp_region_held_drew (S := fun w' => Below w.heap.size w w' ∧ Vx w' _ _ _ _ ∧ Vx w' _ _ _ _) (by kernel_rfl) ⟨b1', V', U'⟩ (fun hH => ?_)
      clear V' U' b1' V U b1
      refine held_take (i := 0) (d := 81) (v := ?_) rfl (by kernel_rfl) (by kernel_rfl) (by kernel_rfl) rfl (fun _ _ _ h => h) rfl hH (fun w' hS => ?_) ?_
      rotate_left
      · obtain ⟨_, ⟨c0, c1, c2⟩, ⟨d0, d1, d2⟩⟩ := hS; go_simp; first | done | with_reducible rfl
      simp only [List.set_cons_zero, List.set_cons_succ]
      refine held_take (i := 3) (d := 84) (v := ?_) rfl (by kernel_rfl) (by kernel_rfl) (by kernel_rfl) rfl (fun _ _ _ h => h) rfl hH (fun w' hS => ?_) ?_
      rotate_left
      · obtain ⟨_, ⟨c0, c1, c2⟩, ⟨d0, d1, d2⟩⟩ := hS; go_simp; first | done | with_reducible rfl
      simp only [List.set_cons_zero, List.set_cons_succ]
      refine held_only (i := 1) rfl (by kernel_rfl) rfl (fun K hK => ?_)
      go_simp
      refine (K5.out _).mono ?_
      rintro e w12 ⟨a9, c9, rfl, L9, b⟩
      have b9 : Below w.heap.size w w12 := bnext hH.1 b
      have h9 := hH.2.1.keeps b
      have h10 := hH.2.2.keeps b
      clear hH b
      refine hK.out _ _ ⟨b9, h9, h10⟩ (fun hH => ?_)
      clear hK K
      refine held_with L9 hH (fun hH => ?_)
      clear b9 h9 h10 L9
      refine held_take (i := 2) (d := 83) (v := ?_) rfl (by kernel_rfl) (by kernel_rfl) (by kernel_rfl) rfl (fun _ _ _ h => h) rfl hH (fun w' hS => ?_) ?_
      rotate_left
      · have h0 := run_str hS.2.hat _ c9 hS.2.hn; rw [HC1.out] at h0; go_simp; with_reducible rfl
      simp only [List.set_cons_zero, List.set_cons_succ]
      refine held_only (i := 4) rfl (by kernel_rfl) rfl (fun K hK => ?_)
      go_simp
      refine (K6.out _).mono ?_
      rintro e w13 ⟨a8, c8, rfl, L8, b⟩
      have b9 : Below w.heap.size w w13 := bnext hH.1.1 b
      have h9 := hH.1.2.1.keeps b
      have h10 := hH.1.2.2.keeps b
      have h11 := hH.2.keeps b
      clear hH b
      refine hK.out _ _ ⟨⟨b9, h9, h10⟩, h11⟩ (fun hH => ?_)
      clear hK K
      refine held_take (i := 6) (d := 13) (v := ?_) rfl (by kernel_rfl) (by kernel_rfl) (by kernel_rfl) rfl (fun _ _ _ h => h) rfl hH (fun w' hS => ?_) ?_
      rotate_left
      · go_simp
        first | done | with_reducible rfl
      simp only [List.set_cons_zero, List.set_cons_succ]
      refine held_only (i := 5) rfl (by kernel_rfl) rfl (fun K hK => ?_)
      have h0 := run_str L8.hat _ c8 L8.hn
      rw [HC2.out] at h0
      go_simp
      refine hK.out _ _ ⟨⟨b9, h9, h10⟩, h11⟩ (fun hH => ?_)
      clear hK K h0
      refine held_take (i := 7) (d := 14) (v := ?_) rfl (by kernel_rfl) (by kernel_rfl) (by kernel_rfl) rfl (fun _ _ _ h => h) rfl hH (fun w' hS => ?_) ?_
      rotate_left
      · go_simp
        first | done | with_reducible rfl
      simp only [List.set_cons_zero, List.set_cons_succ]
      refine wpAnyH_done (by kernel_rfl) ?_ _
      refine noPanic_of ?_
      obtain ⟨c0, c1, c2⟩ := h9
      obtain ⟨d0, d1, d2⟩ := h10
      clear hH h11 L8
      go_wp2_with fail
      go_ret
      exact ⟨rfl, b9⟩

    · replace HS := HS.out
      rcases hd with hd | ⟨rfl, hd⟩ | ⟨rfl, rfl, hd⟩
      all_goals rcases HS with hs1 | ⟨hs1, hs2⟩
      all_goals
        clear HC
        go_upto_region 14 with fail
        have V' := V.keeps (b0 _).drew
        have U' := U.keeps (b0 _).drew
        have b1' := b1.drew
        clear c0 c1 c2 d0 d1 d2
        clear y0 y1 y2 Y
        refine wp_region_noPanic ?_
        refine wp_region_held_drew (S := fun w' => Below w.heap.size w w' ∧ Vx w' _ _ _ _ ∧ Vx w' _ _ _ _) (by kernel_rfl) ⟨b1', V', U'⟩ (fun hH => ?_)
        clear V' U' b1' V U b1
        refine held_take (i := 0) (d := 81) (v := ?_) rfl (by kernel_rfl) (by kernel_rfl) (by kernel_rfl) rfl (fun _ _ _ h => h) rfl hH (fun w' hS => ?_) ?_
        rotate_left
        · obtain ⟨_, ⟨c0, c1, c2⟩, ⟨d0, d1, d2⟩⟩ := hS; go_simp; first | done | with_reducible rfl
        simp only [List.set_cons_zero, List.set_cons_succ]
        refine held_take (i := 3) (d := 84) (v := ?_) rfl (by kernel_rfl) (by kernel_rfl) (by kernel_rfl) rfl (fun _ _ _ h => h) rfl hH (fun w' hS => ?_) ?_
        rotate_left
        · obtain ⟨_, ⟨c0, c1, c2⟩, ⟨d0, d1, d2⟩⟩ := hS; go_simp; first | done | with_reducible rfl
        simp only [List.set_cons_zero, List.set_cons_succ]
        refine held_only (i := 1) rfl (by kernel_rfl) rfl (fun K hK => ?_)
        go_simp
        refine (K5.out _).mono ?_
        rintro e w12 ⟨a9, c9, rfl, L9, b⟩
        have b9 : Below w.heap.size w w12 := bnext hH.1 b
        have h9 := hH.2.1.keeps b
        have h10 := hH.2.2.keeps b
        clear hH b
        refine hK.out _ _ ⟨b9, h9, h10⟩ (fun hH => ?_)
        clear hK K
        refine held_with L9 hH (fun hH => ?_)
        clear b9 h9 h10 L9
        refine held_take (i := 2) (d := 83) (v := ?_) rfl (by kernel_rfl) (by kernel_rfl) (by kernel_rfl) rfl (fun _ _ _ h => h) rfl hH (fun w' hS => ?_) ?_
        rotate_left
        · have h0 := run_str hS.2.hat _ c9 hS.2.hn; rw [HC1.out] at h0; go_simp; with_reducible rfl
        simp only [List.set_cons_zero, List.set_cons_succ]
        refine held_only (i := 4) rfl (by kernel_rfl) rfl (fun K hK => ?_)
        go_simp
        refine (K6.out _).mono ?_
        rintro e w13 ⟨a8, c8, rfl, L8, b⟩
        have b9 : Below w.heap.size w w13 := bnext hH.1.1 b
        have h9 := hH.1.2.1.keeps b
        have h10 := hH.1.2.2.keeps b
        have h11 := hH.2.keeps b
        clear hH b
        refine hK.out _ _ ⟨⟨b9, h9, h10⟩, h11⟩ (fun hH => ?_)
        clear hK K
        refine held_take (i := 6) (d := 13) (v := ?_) rfl (by kernel_rfl) (by kernel_rfl) (by kernel_rfl) rfl (fun _ _ _ h => h) rfl hH (fun w' hS => ?_) ?_
        rotate_left
        · go_simp
          first | done | with_reducible rfl
        simp only [List.set_cons_zero, List.set_cons_succ]
        refine held_only (i := 5) rfl (by kernel_rfl) rfl (fun K hK => ?_)
        have h0 := run_str L8.hat _ c8 L8.hn
        rw [HC2.out] at h0
        go_simp
        refine hK.out _ _ ⟨⟨b9, h9, h10⟩, h11⟩ (fun hH => ?_)
        clear hK K h0
        refine held_take (i := 7) (d := 14) (v := ?_) rfl (by kernel_rfl) (by kernel_rfl) (by kernel_rfl) rfl (fun _ _ _ h => h) rfl hH (fun w' hS => ?_) ?_
        rotate_left
        · go_simp
          first | done | with_reducible rfl
        simp only [List.set_cons_zero, List.set_cons_succ]
        refine wpAnyH_done (by kernel_rfl) ?_ _
        refine noPanic_of ?_
        obtain ⟨c0, c1, c2⟩ := h9
        obtain ⟨d0, d1, d2⟩ := h10
        clear hH h11 L8
        go_wp2_with fail
        go_ret
        exact ⟨rfl, b9⟩


end Go.Proofs.YtmogkinaegdioaaGreatDoor
