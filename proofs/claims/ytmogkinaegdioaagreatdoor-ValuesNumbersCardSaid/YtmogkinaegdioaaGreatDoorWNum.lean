/-
  The walk of ValuesNumbers.
-/
import Derived.Test.YtmogkinaegdioaaGreatDoorHel
namespace Go.Proofs.YtmogkinaegdioaaGreatDoor
open Go.RowKit dec

set_option maxRecDepth 100000 in
set_option maxHeartbeats 2000000 in
theorem walk_num (m n : Int) (h1 : -9223372036854775808 ≤ m) (h2 : m ≤ 9223372036854775807) (w : World) (T : Tabs w) :
    Calls Tryz.prog 9 #[.int .i64 m, .int .i64 n] w fun e w' => e = .returned (.bool true) ∧ Below w.heap.size w w' := by
  have C := example_any w T
  have K1 := Lib.hid (fun W => compare_any 3 m ⟨#[]⟩ 3 n ⟨#[]⟩ W)
  have K2 := Lib.hid (fun W => check_any 3 m ⟨#[]⟩ (by decide) W)
  have K3 := Lib.hid (fun W T => formatV_any 3 m ⟨#[]⟩ (by decide) W T)
  have f1 := less_dec m n
  generalize cV ⟨3, m, ⟨#[]⟩⟩ ⟨3, n, ⟨#[]⟩⟩ = x at *
  have H1 := Lib.hid h1
  have H2 := Lib.hid h2
  have hT := Lib.hid T
  clear h1 h2 T
  go_enter Tryz.func9, Tryz.ntmps9
  go_wp2_with fail
  refine C.mono ?_
  rintro e w1 ⟨rfl, b⟩
  have T := hT.out.stays b
  have V := (Vx.new w1 3 m ⟨#[]⟩ 23).past (.cells #[.int .i64 3, .int .i64 n, .string ⟨#[]⟩] 23)
  have b1 := b.alloc b.size (.cells #[.int .i64 3, .int .i64 m, .string ⟨#[]⟩] 23)
  replace b1 := b1.alloc b1.size (.cells #[.int .i64 3, .int .i64 n, .string ⟨#[]⟩] 23)
  replace T := (T.stays (balloc (b0 _) (.cells #[.int .i64 3, .int .i64 m, .string ⟨#[]⟩] 23))).stays (balloc (b0 _) (.cells #[.int .i64 3, .int .i64 n, .string ⟨#[]⟩] 23))
  have hT := Lib.hid T
  clear C b T
  go_wp2_with fail
  refine (K1.out _).mono ?_
  rintro e w2 ⟨rfl, b⟩
  have hT := Lib.hid (hT.out.stays b)
  replace V := V.keeps b
  replace b1 := bnext b1 b
  generalize w1.heap.size = g at *
  clear b K1
  obtain ⟨c0, c1, c2⟩ := id V
  by_cases hb : m < -1152921504606846976 ∨ 1152921504606846976 < m
  · have hno : ok ⟨3, m, ⟨#[]⟩⟩ = false := by unfold ok; rw [big_ck hb]; rfl
    have K4 := Lib.hid (fun W => appendV_any none 0 0 [] 3 m ⟨#[]⟩ (by decide) W (li_nil W) (by omega) 0 (by rw [enc_no hno]; rfl))
    rw [big_ck hb] at K2
    rw [fm_no hno] at K3
    clear hno
    have hb' : m < -1152921504606846976 ∨ (¬ m < -1152921504606846976 ∧ 1152921504606846976 < m) := by omega
    clear hb
    rcases hb' with h0 | ⟨h0, h3⟩
    all_goals
      go_wp2_with fail
      refine (K2.out _).mono ?_
      rintro e w3 ⟨rfl, b⟩
      have hT := Lib.hid (hT.out.stays b)
      replace V := V.keeps b
      replace b1 := bnext b1 b
      clear b c0 c1 c2
      obtain ⟨c0, c1, c2⟩ := id V
      go_wp2_with fail
      refine (K3.out _ hT.out).mono ?_
      rintro e w4 ⟨rfl, b⟩
      replace V := V.keeps b
      replace b1 := bnext b1 b
      clear b c0 c1 c2
      obtain ⟨c0, c1, c2⟩ := id V
      go_wp2_with fail
      refine (K4.out _).mono ?_
      rintro e w5 ⟨a, c, rfl, L, b⟩
      go_wp2_with fail
      go_ret
      exact ⟨rfl, bnext b1 b⟩
  · have h0 : ¬ m < -1152921504606846976 := fun h => hb (.inl h)
    have h3 : ¬ 1152921504606846976 < m := fun h => hb (.inr h)
    have hk : ok ⟨3, m, .empty⟩ = true := ok_dec (by omega) (by omega)
    obtain ⟨N, hN⟩ : ∃ N, (enc ⟨3, m, .empty⟩).length = N := ⟨_, rfl⟩
    have hlen := enc_len ⟨3, m, .empty⟩
    have hfl := fo_len (x := m) (by omega) (by omega)
    have hpa := pa_fo (x := m) (by omega) (by omega)
    have hps : psP (foX m) = (⟨3, m, .empty⟩, 0) := by
      have := ps_fm hk
      rw [fm_ok hk] at this
      exact this
    rw [show fm ⟨3, m, ⟨#[]⟩⟩ = foX m from fm_ok hk] at K3
    have K4 := Lib.hid (fun W => appendV_any none 0 0 [] 3 m ⟨#[]⟩ (by decide) W (li_nil W) (by omega) N (by rw [Nat.zero_add]; exact hN))
    rw [show enc ⟨3, m, ⟨#[]⟩⟩ = enc ⟨3, m, .empty⟩ from rfl] at K4
    have K5 := Lib.hid (fun W (T : Tabs W) => parse_any ⟨(foX m).toArray⟩ W (by rw [st_size]; omega) T.1)
    rw [st_list, hpa.1, hpa.2] at K5
    have K6 := Lib.hid (fun W (T : Tabs W) => parseV_any ⟨(foX m).toArray⟩ (by rw [st_size]; omega) W T)
    rw [st_list, hps] at K6
    have K7 := Lib.hid (fun W (T : Tabs W) => format_any m (by omega) (by omega) W T.2)
    have henc : [3] ++ en (fold m) = enc ⟨3, m, .empty⟩ := (enc_ok hk).symm
    obtain ⟨L, hL⟩ : ∃ L, (en (fold m)).length = L := ⟨_, rfl⟩
    have hLN : 1 + L = N := by rw [← hN, ← henc, List.length_append, hL]; rfl
    have K8 := Lib.hid (fun W => appendInt_any none 0 0 m [] W (li_nil W) (by omega) (by omega) (by omega) L (by rw [hL, Nat.zero_add]))
    replace hL := Lib.hid hL
    replace hLN := Lib.hid hLN
    replace henc := Lib.hid henc
    have H0 := Lib.hid h0
    have H3 := Lib.hid h3
    go_wp2_with fail
    refine (K3.out _ hT.out).mono ?_
    rintro e w3 ⟨rfl, b⟩
    have hT := Lib.hid (hT.out.stays b)
    replace V := V.keeps b
    replace b1 := bnext b1 b
    clear b c0 c1 c2 K3
    go_wp2_with fail
    refine (K5.out _ hT.out).mono ?_
    rintro e w4 ⟨rfl, b⟩
    have hT := Lib.hid (hT.out.stays b)
    replace V := V.keeps b
    replace b1 := bnext b1 b
    clear b K5
    go_wp2_with fail
    refine (K6.out _ hT.out).mono ?_
    rintro e w5 ⟨v, cc, rfl, hvc, b⟩
    obtain ⟨rfl, rfl⟩ : v = ⟨3, m, .empty⟩ ∧ cc = 0 := by simpa using hvc
    have hT := Lib.hid (hT.out.stays b)
    replace V := V.keeps b
    replace b1 := bnext b1 b
    clear b K6 hvc
    have U := Vx.new w5 3 m .empty 23
    have b := balloc (b0 w5) (.cells #[.int .i64 3, .int .i64 m, .string .empty] 23)
    have hT := Lib.hid (hT.out.stays b)
    replace V := V.keeps b
    replace b1 := bnext b1 b
    clear b
    have O := OwL.one (w5.alloc (.cells #[.int .i64 3, .int .i64 m, .string .empty] 23)) 3 (by decide)
    rw [alloc_size] at O
    have d := balloc (b0 (w5.alloc (.cells #[.int .i64 3, .int .i64 m, .string .empty] 23))) (.cells #[.int .u8 (3 : Nat)] 5)
    go_wp2_with fail
    refine (K8.out _).mono ?_
    rintro e w6 ⟨rfl, OA, b⟩
    replace O := O.keeps b
    replace d := bnext d b
    have hsz : w5.heap.size + 1 ≤ w6.heap.size := by have := d.size; simp only [alloc_size] at this; exact this
    have A := OA.at
    rw [List.nil_append, alloc_size, alloc_size] at A
    have hLim : 1 + L ≤ 140737488351232 := by have := hLN.out; omega
    clear b K8 OA
    go_wp2_with (at_builtin; refine wpList_appL _ rfl (.tmp 61) (.tmp 63) rfl (w5.heap.size + 1) 1 (.slice (some ⟨w5.heap.size + 1, 0, none⟩) 1 1) [3] rfl O (some ⟨w5.heap.size + 1 + 1, 0, none⟩) L 10 (en (fold m)) rfl A hL.out (fun e => by cases e) hLim hsz ?_; intro v' w7 O' b')
    have hx := hLN.out
    subst hx
    obtain ⟨a7, c7, rfl, L7⟩ := O'.li (by omega)
    rw [henc.out] at L7
    rw [alloc_size] at d
    replace d := d.trans b'
    rw [← alloc_size w5 (.cells #[.int .i64 3, .int .i64 m, .string .empty] 23)] at d
    replace V := (V.keeps d).keeps (b0 w7).drew
    replace U := (U.keeps d).keeps (b0 w7).drew
    have T := (hT.out.stays d).stays (b0 w7).drew
    replace L7 := L7.keeps (b0 w7).drew
    replace b1 := (bnext b1 d).drew
    generalize enc ⟨3, m, .empty⟩ = E at *
    clear O' d b' A hsz O hT H1 H2 hfl hpa hps hk hN hb henc K2 f1
    refine wp_region_noPanic ?_
    refine wp_region_held_drew (S := fun w' => Below w.heap.size w w' ∧ Vx w' g 3 m ⟨#[]⟩ ∧ Vx w' w5.heap.size 3 m .empty ∧ Li w' a7 (1 + L) c7 E ∧ Tabs w') (by kernel_rfl) ⟨b1, V, U, L7, T⟩ (fun hH => ?_)
    refine held_take (i := 0) (d := 65) (v := ?_) rfl (by kernel_rfl) (by kernel_rfl) (by kernel_rfl) rfl (fun _ _ _ h => h) rfl hH (fun w' hS => ?_) ?_
    rotate_left
    · go_simp
      first | done | with_reducible rfl
    simp only [List.set_cons_zero, List.set_cons_succ]
    refine held_take (i := 1) (d := 66) (v := ?_) rfl (by kernel_rfl) (by kernel_rfl) (by kernel_rfl) rfl (fun _ _ _ h => h) rfl hH (fun w' hS => ?_) ?_
    rotate_left
    · go_simp
      first | done | with_reducible rfl
    simp only [List.set_cons_zero, List.set_cons_succ]
    refine held_only (i := 2) rfl (by kernel_rfl) rfl (fun K hK => ?_)
    go_simp
    refine (K7.out _ hH.2.2.2.2).mono ?_
    rintro e w8 ⟨rfl, b⟩
    have b9 : Below w.heap.size w w8 := bnext hH.1 b
    have h9 := hH.2.1.keeps b
    have h10 := hH.2.2.1.keeps b
    have h11 := hH.2.2.2.1.keeps b
    have h12 := hH.2.2.2.2.stays b
    clear hH
    refine hK.out _ _ ⟨b9, h9, h10, h11, h12⟩ (fun hH => ?_)
    clear hK K
    refine held_take (i := 3) (d := 68) (v := ?_) rfl (by kernel_rfl) (by kernel_rfl) (by kernel_rfl) rfl (fun _ _ _ h => h) rfl hH (fun w' hS => ?_) ?_
    rotate_left
    · go_simp
      first | done | with_reducible rfl
    simp only [List.set_cons_zero, List.set_cons_succ]
    refine held_take (i := 4) (d := 69) (v := ?_) rfl (by kernel_rfl) (by kernel_rfl) (by kernel_rfl) rfl (fun _ _ _ h => h) rfl hH (fun w' hS => ?_) ?_
    rotate_left
    · go_simp
      first | done | with_reducible rfl
    simp only [List.set_cons_zero, List.set_cons_succ]
    refine held_take (i := 5) (d := 70) (v := ?_) rfl (by kernel_rfl) (by kernel_rfl) (by kernel_rfl) rfl (fun _ _ _ h => h) rfl hH (fun w' hS => ?_) ?_
    rotate_left
    · go_simp
      first | done | with_reducible rfl
    simp only [List.set_cons_zero, List.set_cons_succ]
    refine held_take (i := 6) (d := 71) (v := ?_) rfl (by kernel_rfl) (by kernel_rfl) (by kernel_rfl) rfl (fun _ _ _ h => h) rfl hH (fun w' hS => ?_) ?_
    rotate_left
    · go_simp
      first | done | with_reducible rfl
    simp only [List.set_cons_zero, List.set_cons_succ]
    refine held_take (i := 7) (d := 72) (v := ?_) rfl (by kernel_rfl) (by kernel_rfl) (by kernel_rfl) rfl (fun _ _ _ h => h) rfl hH (fun w' hS => ?_) ?_
    rotate_left
    · go_simp
      first | done | with_reducible rfl
    simp only [List.set_cons_zero, List.set_cons_succ]
    refine held_take (i := 8) (d := 73) (v := ?_) rfl (by kernel_rfl) (by kernel_rfl) (by kernel_rfl) rfl (fun _ _ _ h => h) rfl hH (fun w' hS => ?_) ?_
    rotate_left
    · go_simp
      first | done | with_reducible rfl
    simp only [List.set_cons_zero, List.set_cons_succ]
    refine held_take (i := 9) (d := 74) (v := ?_) rfl (by kernel_rfl) (by kernel_rfl) (by kernel_rfl) rfl (fun _ _ _ h => h) rfl hH (fun w' hS => ?_) ?_
    rotate_left
    · go_simp
      first | done | with_reducible rfl
    simp only [List.set_cons_zero, List.set_cons_succ]
    refine held_take (i := 10) (d := 75) (v := ?_) rfl (by kernel_rfl) (by kernel_rfl) (by kernel_rfl) rfl (fun _ _ _ h => h) rfl hH (fun w' hS => ?_) ?_
    rotate_left
    · go_simp
      first | done | with_reducible rfl
    simp only [List.set_cons_zero, List.set_cons_succ]
    refine held_take (i := 11) (d := 76) (v := ?_) rfl (by kernel_rfl) (by kernel_rfl) (by kernel_rfl) rfl (fun _ _ _ h => h) rfl hH (fun w' hS => ?_) ?_
    rotate_left
    · go_simp
      first | done | with_reducible rfl
    simp only [List.set_cons_zero, List.set_cons_succ]
    refine held_take (i := 12) (d := 77) (v := ?_) rfl (by kernel_rfl) (by kernel_rfl) (by kernel_rfl) rfl (fun _ _ _ h => h) rfl hH (fun w' hS => ?_) ?_
    rotate_left
    · go_simp
      first | done | with_reducible rfl
    simp only [List.set_cons_zero, List.set_cons_succ]
    refine held_take (i := 13) (d := 78) (v := ?_) rfl (by kernel_rfl) (by kernel_rfl) (by kernel_rfl) rfl (fun _ _ _ h => h) rfl hH (fun w' hS => ?_) ?_
    rotate_left
    · go_simp
      first | done | with_reducible rfl
    simp only [List.set_cons_zero, List.set_cons_succ]
    refine held_take (i := 14) (d := 79) (v := ?_) rfl (by kernel_rfl) (by kernel_rfl) (by kernel_rfl) rfl (fun _ _ _ h => h) rfl hH (fun w' hS => ?_) ?_
    rotate_left
    · obtain ⟨_, ⟨c0, c1, c2⟩, ⟨d0, d1, d2⟩, _, _⟩ := hS; go_simp; first | done | with_reducible rfl
    simp only [List.set_cons_zero, List.set_cons_succ]
    refine held_take (i := 15) (d := 80) (v := ?_) rfl (by kernel_rfl) (by kernel_rfl) (by kernel_rfl) rfl (fun _ _ _ h => h) rfl hH (fun w' hS => ?_) ?_
    rotate_left
    · obtain ⟨_, ⟨c0, c1, c2⟩, ⟨d0, d1, d2⟩, _, _⟩ := hS; go_simp; first | done | with_reducible rfl
    simp only [List.set_cons_zero, List.set_cons_succ]
    refine held_take (i := 16) (d := 81) (v := ?_) rfl (by kernel_rfl) (by kernel_rfl) (by kernel_rfl) rfl (fun _ _ _ h => h) rfl hH (fun w' hS => ?_) ?_
    rotate_left
    · go_simp
      first | done | with_reducible rfl
    simp only [List.set_cons_zero, List.set_cons_succ]
    refine held_take (i := 17) (d := 82) (v := ?_) rfl (by kernel_rfl) (by kernel_rfl) (by kernel_rfl) rfl (fun _ _ _ h => h) rfl hH (fun w' hS => ?_) ?_
    rotate_left
    · go_simp
      first | done | with_reducible rfl
    simp only [List.set_cons_zero, List.set_cons_succ]
    refine held_take (i := 18) (d := 83) (v := ?_) rfl (by kernel_rfl) (by kernel_rfl) (by kernel_rfl) rfl (fun _ _ _ h => h) rfl hH (fun w' hS => ?_) ?_
    rotate_left
    · go_simp
      first | done | with_reducible rfl
    simp only [List.set_cons_zero, List.set_cons_succ]
    refine held_take (i := 19) (d := 84) (v := ?_) rfl (by kernel_rfl) (by kernel_rfl) (by kernel_rfl) rfl (fun _ _ _ h => h) rfl hH (fun w' hS => ?_) ?_
    rotate_left
    · go_simp
      first | done | with_reducible rfl
    simp only [List.set_cons_zero, List.set_cons_succ]
    refine held_take (i := 20) (d := 85) (v := ?_) rfl (by kernel_rfl) (by kernel_rfl) (by kernel_rfl) rfl (fun _ _ _ h => h) rfl hH (fun w' hS => ?_) ?_
    rotate_left
    · go_simp
      first | done | with_reducible rfl
    simp only [List.set_cons_zero, List.set_cons_succ]
    refine held_take (i := 21) (d := 86) (v := ?_) rfl (by kernel_rfl) (by kernel_rfl) (by kernel_rfl) rfl (fun _ _ _ h => h) rfl hH (fun w' hS => ?_) ?_
    rotate_left
    · go_simp
      first | done | with_reducible rfl
    simp only [List.set_cons_zero, List.set_cons_succ]
    refine held_take (i := 22) (d := 87) (v := ?_) rfl (by kernel_rfl) (by kernel_rfl) (by kernel_rfl) rfl (fun _ _ _ h => h) rfl hH (fun w' hS => ?_) ?_
    rotate_left
    · go_simp
      first | done | with_reducible rfl
    simp only [List.set_cons_zero, List.set_cons_succ]
    refine held_take (i := 23) (d := 88) (v := ?_) rfl (by kernel_rfl) (by kernel_rfl) (by kernel_rfl) rfl (fun _ _ _ h => h) rfl hH (fun w' hS => ?_) ?_
    rotate_left
    · obtain ⟨_, ⟨c0, c1, c2⟩, ⟨d0, d1, d2⟩, _, _⟩ := hS; go_simp; first | done | with_reducible rfl
    simp only [List.set_cons_zero, List.set_cons_succ]
    refine held_take (i := 26) (d := 91) (v := ?_) rfl (by kernel_rfl) (by kernel_rfl) (by kernel_rfl) rfl (fun _ _ _ h => h) rfl hH (fun w' hS => ?_) ?_
    rotate_left
    · go_simp
      first | done | with_reducible rfl
    simp only [List.set_cons_zero, List.set_cons_succ]
    refine held_take (i := 27) (d := 92) (v := ?_) rfl (by kernel_rfl) (by kernel_rfl) (by kernel_rfl) rfl (fun _ _ _ h => h) rfl hH (fun w' hS => ?_) ?_
    rotate_left
    · have h0 := run_str hS.2.2.2.1.hat _ c7 hS.2.2.2.1.hn; go_simp; with_reducible rfl
    simp only [List.set_cons_zero, List.set_cons_succ]
    refine held_only (i := 24) rfl (by kernel_rfl) rfl (fun K hK => ?_)
    go_simp
    refine (K4.out _).mono ?_
    rintro e w10 ⟨a9, c9, rfl, L9, b⟩
    rw [List.nil_append] at L9
    have b9 : Below w.heap.size w w10 := bnext hH.1 b
    have h9 := hH.2.1.keeps b
    have h10 := hH.2.2.1.keeps b
    have h11 := hH.2.2.2.1.keeps b
    have h12 := hH.2.2.2.2.stays b
    clear hH
    refine hK.out _ _ ⟨b9, h9, h10, h11, h12⟩ (fun hH => ?_)
    clear hK K
    refine held_only (i := 25) rfl (by kernel_rfl) rfl (fun K hK => ?_)
    go_simp
    have h0 := run_str L9.hat _ c9 L9.hn
    go_simp
    refine hK.out _ _ ⟨b9, h9, h10, h11, h12⟩ (fun hH => ?_)
    clear hK K
    refine held_take (i := 28) (d := 93) (v := ?_) rfl (by kernel_rfl) (by kernel_rfl) (by kernel_rfl) rfl (fun _ _ _ h => h) rfl hH (fun w' hS => ?_) ?_
    rotate_left
    · go_simp
      first | done | with_reducible rfl
    simp only [List.set_cons_zero, List.set_cons_succ]
    refine held_take (i := 29) (d := 94) (v := ?_) rfl (by kernel_rfl) (by kernel_rfl) (by kernel_rfl) rfl (fun _ _ _ h => h) rfl hH (fun w' hS => ?_) ?_
    rotate_left
    · go_simp
      first | done | with_reducible rfl
    simp only [List.set_cons_zero, List.set_cons_succ]
    refine held_take (i := 30) (d := 4) (v := ?_) rfl (by kernel_rfl) (by kernel_rfl) (by kernel_rfl) rfl (fun _ _ _ h => h) rfl hH (fun w' hS => ?_) ?_
    rotate_left
    · go_simp
      first | done | with_reducible rfl
    simp only [List.set_cons_zero, List.set_cons_succ]
    refine wpAnyH_done (by kernel_rfl) ?_ _
    refine noPanic_of ?_
    go_wp2_with fail
    go_ret
    exact ⟨rfl, b9⟩
end Go.Proofs.YtmogkinaegdioaaGreatDoor
