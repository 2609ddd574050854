/-
  The reference's Proper.
-/
import Derived.Test.YtkfciilclfhabaaGreatDoorRtk
import Derived.Test.YtkfciilclfhabaaGreatDoorNaf
namespace Go.Proofs.YtkfciilclfhabaaGreatDoor
open Go.RowKit dec

theorem pr_kt {x y : Tk} (h1 : y.k = x.k) (h2 : y.t = x.t) : pr x = pr y := by
  have hs : so x = so y := by unfold so; rw [h1, h2]
  unfold pr
  rw [hs, h1]
/-- What Proper looks at. -/
theorem proper_facts (x : Tk) {S : ByteArray} (hS : S = ⟨(so x).toArray⟩) (hz : S.size ≤ 16384) : tokE S = 0 ∧
    ((tokB S ≠ [] ∧ pr x = false) ∨ (tokB S = [] ∧ (tokL S).length ≠ 2 ∧ pr x = false) ∨
     (tokB S = [] ∧ ∃ y, tokL S = [y, endT S] ∧ ((y.k ≠ x.k ∧ pr x = false) ∨ (y.k = x.k ∧ y.t ≠ x.t ∧ pr x = false) ∨ (y.k = x.k ∧ y.t = x.t ∧ y.a = 0 ∧ pr x = true)))) := by
  have hd : S.data.toList = so x := by rw [hS]
  have hn : (so x).length = S.size := by rw [← hd, str_len]
  have hE : tokE S = 0 := by unfold tokE; rw [if_neg (by omega)]
  have hL : tokL S = (lxs 0 false (so x)).1 ++ [endT S] := by unfold tokL; rw [if_neg (by omega), hd]
  have hB : tokB S = (lxs 0 false (so x)).2.take 32 := by unfold tokB; rw [if_neg (by omega), hd]
  refine ⟨hE, ?_⟩
  cases hp : pr x
  · by_cases h1 : tokB S = []
    · right
      by_cases h2 : (tokL S).length = 2
      · right
        refine ⟨h1, ?_⟩
        have h3 : (lxs 0 false (so x)).1.length = 1 := by rw [hL, List.length_append, List.length_singleton] at h2; omega
        obtain ⟨y, hy⟩ := List.length_eq_one_iff.1 h3
        have h4 := lex_pr 0 false (so x) y (by rw [hy]; exact List.mem_cons_self ..)
        refine ⟨y, by rw [hL, hy]; rfl, ?_⟩
        by_cases h5 : y.k = x.k
        · by_cases h6 : y.t = x.t
          · rw [pr_kt h5 h6, h4] at hp
            cases hp
          · exact .inr (.inl ⟨h5, h6, rfl⟩)
        · exact .inl ⟨h5, rfl⟩
      · exact .inl ⟨h1, h2, rfl⟩
    · exact .inl ⟨h1, rfl⟩
  · right
    right
    have ha := lex_alone hp 0 false
    rw [ha] at hL hB
    exact ⟨by rw [hB]; rfl, ⟨x.k, x.t, ((0 : Nat) : Int)⟩, by rw [hL]; rfl, .inr (.inr ⟨rfl, rfl, rfl, rfl⟩)⟩
set_option maxRecDepth 100000 in
set_option maxHeartbeats 8000000 in
theorem rproper_any (x : Tk) (hs : x.t.size ≤ 10000) (w : World) :
    Calls Tryz.prog 34 #[.agg #[.int .i64 x.k, .string x.t, .int .i64 x.a]] w fun e w' => e = .returned (.bool (pr x)) ∧ Below w.heap.size w w' := by
  obtain ⟨S, hS⟩ : ∃ S : ByteArray, S = ⟨(so x).toArray⟩ := ⟨_, rfl⟩
  have hz : S.size ≤ 10002 := by
    have h1 := so_size x
    have h2 := str_len S
    have h3 : S.data.toList = so x := by rw [hS]
    rw [h3] at h2
    omega
  have SC := Lib.hid (fun W => rsource_any x (by omega) W)
  rw [← hS] at SC
  obtain ⟨hE, hw⟩ := proper_facts x hS (by omega)
  have TC := Lib.hid (fun a n cp W hB => rtokens_any a n cp S W hB)
  unfold TR at TC
  rw [hE] at TC
  have B0 := Lib.hid (balloc (b0 w) (.cells #[.int .i64 x.k, .string x.t, .int .i64 x.a] 39))
  have D0 := tk.Bw.new w x 39
  have hz2 := Lib.hid hz
  clear hs hE hS hz
  rcases hw with ⟨h1, hp⟩ | ⟨h1, h2, hp⟩ | ⟨h1, y, hy, hw⟩
  · rw [hp]
    obtain ⟨L, hL⟩ : ∃ L, L = tokL S := ⟨_, rfl⟩
    obtain ⟨P, hP⟩ : ∃ P, P = tokB S := ⟨_, rfl⟩
    rw [← hL, ← hP] at TC
    rw [← hP] at h1
    obtain ⟨d0, d1, d2⟩ := id D0
    replace D0 := Lib.hid D0
    clear hp hL hP
    obtain ⟨xk, xt, xa⟩ := x
    simp only at d0 d1 d2
    go_enter Tryz.func34, Tryz.ntmps34
    go_wp2_with fail
    refine (SC.out _).mono ?_
    rintro e w1 ⟨rfl, b1⟩
    have B1 := Lib.hid (bnext B0.out b1)
    have D1 := Lib.hid (D0.out.keeps b1)
    clear b1
    obtain ⟨w2, cv, hcv, hB, b2⟩ := bytes_of w1 S (by have := hz2.out; omega)
    have B2 := Lib.hid (bnext B1.out b2)
    have D2 := Lib.hid (D1.out.keeps b2)
    have BS := Lib.hid hB
    clear b2 hB d0 d1 d2
    go_wp2_with fail
    refine (TC.out _ _ _ _ BS.out).mono ?_
    rintro e w3 ⟨v, u, rfl, o3, p3, b3⟩
    obtain ⟨al, cl, rfl, sl⟩ := o3.sl
    obtain ⟨ab, cb, rfl, sb⟩ := p3.sl
    have B3 := Lib.hid (bnext B2.out b3)
    have D3 := D2.out.keeps b3
    clear o3 p3 b3 sb
    obtain ⟨d0, d1, d2⟩ := D3
    simp only at d0 d1 d2
    obtain ⟨m, hm⟩ : ∃ m, m = P.length := ⟨_, rfl⟩
    obtain ⟨k, hk⟩ : ∃ k, k = L.length := ⟨_, rfl⟩
    rw [← hm, ← hk]
    have qm : ((m : Int) == 0) = false := by
      rw [beq_eq_false_iff_ne]
      have : P.length ≠ 0 := fun e => h1 (List.eq_nil_of_length_eq_zero e)
      omega
    clear sl hm hk
    have g0 := cell_regrown d0
    have g1 := cell_regrown d1
    have g2 := cell_regrown d2
    go_wp2_with fail
    refine wp_region_quiet_below (by kernel_rfl) (by kernel_rfl) ?_
    repeat (first | go_big_quiet_skip | (go_big_quiet_want; go_big_quiet_op; go_big_quiet_on))
    refine wpQuiet_nil ?_
    intro w9 hw9
    have B9 := Lib.hid (bnext B3.out (below_of hw9))
    clear hw9
    go_wp2_with fail
    go_ret
    exact ⟨rfl, B9.out⟩
  · rw [hp]
    obtain ⟨L, hL⟩ : ∃ L, L = tokL S := ⟨_, rfl⟩
    obtain ⟨P, hP⟩ : ∃ P : List Pb, P = [] := ⟨_, rfl⟩
    rw [← hL, h1, ← hP] at TC
    rw [← hL] at h2
    obtain ⟨d0, d1, d2⟩ := id D0
    replace D0 := Lib.hid D0
    clear hp hL h1
    obtain ⟨xk, xt, xa⟩ := x
    simp only at d0 d1 d2
    go_enter Tryz.func34, Tryz.ntmps34
    go_wp2_with fail
    refine (SC.out _).mono ?_
    rintro e w1 ⟨rfl, b1⟩
    have B1 := Lib.hid (bnext B0.out b1)
    have D1 := Lib.hid (D0.out.keeps b1)
    clear b1
    obtain ⟨w2, cv, hcv, hB, b2⟩ := bytes_of w1 S (by have := hz2.out; omega)
    have B2 := Lib.hid (bnext B1.out b2)
    have D2 := Lib.hid (D1.out.keeps b2)
    have BS := Lib.hid hB
    clear b2 hB d0 d1 d2
    go_wp2_with fail
    refine (TC.out _ _ _ _ BS.out).mono ?_
    rintro e w3 ⟨v, u, rfl, o3, p3, b3⟩
    obtain ⟨al, cl, rfl, sl⟩ := o3.sl
    obtain ⟨ab, cb, rfl, sb⟩ := p3.sl
    have B3 := Lib.hid (bnext B2.out b3)
    have D3 := D2.out.keeps b3
    clear o3 p3 b3 sb
    obtain ⟨d0, d1, d2⟩ := D3
    simp only at d0 d1 d2
    obtain ⟨m, hm⟩ : ∃ m, m = P.length := ⟨_, rfl⟩
    obtain ⟨k, hk⟩ : ∃ k, k = L.length := ⟨_, rfl⟩
    rw [← hm, ← hk]
    obtain rfl : m = 0 := by rw [hm, hP]; rfl
    have qk : ((k : Int) == 2) = false := by rw [beq_eq_false_iff_ne]; omega
    clear sl hm hk h2 hP
    have g0 := cell_regrown d0
    have g1 := cell_regrown d1
    have g2 := cell_regrown d2
    go_wp2_with fail
    refine wp_region_quiet_below (by kernel_rfl) (by kernel_rfl) ?_
    repeat (first | go_big_quiet_skip | (go_big_quiet_want; go_big_quiet_op; go_big_quiet_on))
    refine wpQuiet_nil ?_
    intro w9 hw9
    have B9 := Lib.hid (bnext B3.out (below_of hw9))
    clear hw9
    go_wp2_with fail
    go_ret
    exact ⟨rfl, B9.out⟩
  · obtain ⟨L, hL⟩ : ∃ L, L = [y, endT S] := ⟨_, rfl⟩
    obtain ⟨P, hP⟩ : ∃ P : List Pb, P = [] := ⟨_, rfl⟩
    rw [hy, h1, ← hP, ← hL] at TC
    obtain ⟨yk, yt, ya⟩ := y
    simp only at hw
    rcases hw with ⟨h2, hp⟩ | ⟨h2, h3, hp⟩ | ⟨h2, h3, h4, hp⟩
    · rw [hp]
      obtain ⟨d0, d1, d2⟩ := id D0
      replace D0 := Lib.hid D0
      clear hp hy h1
      obtain ⟨xk, xt, xa⟩ := x
      simp only at d0 d1 d2 h2
      go_enter Tryz.func34, Tryz.ntmps34
      go_wp2_with fail
      refine (SC.out _).mono ?_
      rintro e w1 ⟨rfl, b1⟩
      have B1 := Lib.hid (bnext B0.out b1)
      have D1 := Lib.hid (D0.out.keeps b1)
      clear b1
      obtain ⟨w2, cv, hcv, hB, b2⟩ := bytes_of w1 S (by have := hz2.out; omega)
      have B2 := Lib.hid (bnext B1.out b2)
      have D2 := Lib.hid (D1.out.keeps b2)
      have BS := Lib.hid hB
      clear b2 hB d0 d1 d2
      go_wp2_with fail
      refine (TC.out _ _ _ _ BS.out).mono ?_
      rintro e w3 ⟨v, u, rfl, o3, p3, b3⟩
      obtain ⟨al, cl, rfl, sl⟩ := o3.sl
      obtain ⟨ab, cb, rfl, sb⟩ := p3.sl
      have B3 := Lib.hid (bnext B2.out b3)
      have D3 := D2.out.keeps b3
      clear o3 p3 b3 sb
      obtain ⟨d0, d1, d2⟩ := D3
      simp only at d0 d1 d2
      obtain ⟨m, hm⟩ : ∃ m, m = P.length := ⟨_, rfl⟩
      obtain ⟨k, hk⟩ : ∃ k, k = L.length := ⟨_, rfl⟩
      rw [← hm, ← hk]
      obtain rfl : m = 0 := by rw [hm, hP]; rfl
      obtain rfl : k = 2 := by rw [hk, hL]; rfl
      rw [← hk, hL] at sl
      obtain ⟨bk, off, rfl, hD⟩ := sl.hat.resolve_left (by simp)
      obtain ⟨c0, c1, c2⟩ := hD 0 (by simp)
      obtain ⟨e0, e1, e2⟩ := hD 1 (by simp)
      rw [Nat.zero_mul, Nat.add_zero] at c0 c1 c2
      rw [Nat.one_mul] at e0 e1 e2
      simp only [tk.gt, List.getD_cons_zero] at c0 c1 c2
      replace e2 : w3.cell? ⟨bk, off + 3 + 2, none⟩ = some (.int .i64 (S.size : Nat)) := e2
      have e3 := e2
      rw [show off + 3 + 2 = off + 5 by omega] at e3
      have c3 := cell_regrown c0
      have c4 := cell_regrown c1
      have c5 := cell_regrown c2
      have e4 := cell_regrown e2
      have e5 := cell_regrown e3
      clear hD sl hm hk e0 e1 hL hP
      have q1 : (yk == xk) = false := by rw [beq_eq_false_iff_ne]; exact h2
      clear h2
      have g0 := cell_regrown d0
      have g1 := cell_regrown d1
      have g2 := cell_regrown d2
      go_wp2_with fail
      refine wp_region_quiet_below (by kernel_rfl) (by kernel_rfl) ?_
      repeat (first | go_big_quiet_skip | (go_big_quiet_want; go_big_quiet_op; go_big_quiet_on))
      refine wpQuiet_nil ?_
      intro w9 hw9
      have B9 := Lib.hid (bnext B3.out (below_of hw9))
      clear hw9
      go_wp2_with fail
      go_ret
      exact ⟨rfl, B9.out⟩
    · rw [hp]
      subst h2
      obtain ⟨d0, d1, d2⟩ := id D0
      replace D0 := Lib.hid D0
      clear hp hy h1
      obtain ⟨xk, xt, xa⟩ := x
      simp only at d0 d1 d2 h3
      go_enter Tryz.func34, Tryz.ntmps34
      go_wp2_with fail
      refine (SC.out _).mono ?_
      rintro e w1 ⟨rfl, b1⟩
      have B1 := Lib.hid (bnext B0.out b1)
      have D1 := Lib.hid (D0.out.keeps b1)
      clear b1
      obtain ⟨w2, cv, hcv, hB, b2⟩ := bytes_of w1 S (by have := hz2.out; omega)
      have B2 := Lib.hid (bnext B1.out b2)
      have D2 := Lib.hid (D1.out.keeps b2)
      have BS := Lib.hid hB
      clear b2 hB d0 d1 d2
      go_wp2_with fail
      refine (TC.out _ _ _ _ BS.out).mono ?_
      rintro e w3 ⟨v, u, rfl, o3, p3, b3⟩
      obtain ⟨al, cl, rfl, sl⟩ := o3.sl
      obtain ⟨ab, cb, rfl, sb⟩ := p3.sl
      have B3 := Lib.hid (bnext B2.out b3)
      have D3 := D2.out.keeps b3
      clear o3 p3 b3 sb
      obtain ⟨d0, d1, d2⟩ := D3
      simp only at d0 d1 d2
      obtain ⟨m, hm⟩ : ∃ m, m = P.length := ⟨_, rfl⟩
      obtain ⟨k, hk⟩ : ∃ k, k = L.length := ⟨_, rfl⟩
      rw [← hm, ← hk]
      obtain rfl : m = 0 := by rw [hm, hP]; rfl
      obtain rfl : k = 2 := by rw [hk, hL]; rfl
      rw [← hk, hL] at sl
      obtain ⟨bk, off, rfl, hD⟩ := sl.hat.resolve_left (by simp)
      obtain ⟨c0, c1, c2⟩ := hD 0 (by simp)
      obtain ⟨e0, e1, e2⟩ := hD 1 (by simp)
      rw [Nat.zero_mul, Nat.add_zero] at c0 c1 c2
      rw [Nat.one_mul] at e0 e1 e2
      simp only [tk.gt, List.getD_cons_zero] at c0 c1 c2
      replace e2 : w3.cell? ⟨bk, off + 3 + 2, none⟩ = some (.int .i64 (S.size : Nat)) := e2
      have e3 := e2
      rw [show off + 3 + 2 = off + 5 by omega] at e3
      have c3 := cell_regrown c0
      have c4 := cell_regrown c1
      have c5 := cell_regrown c2
      have e4 := cell_regrown e2
      have e5 := cell_regrown e3
      clear hD sl hm hk e0 e1 hL hP
      have q1 : (yt.toList == xt.toList) = false := by rw [beq_eq_false_iff_ne]; exact fun e => h3 (toList_inj e)
      clear h3
      have g0 := cell_regrown d0
      have g1 := cell_regrown d1
      have g2 := cell_regrown d2
      go_wp2_with fail
      refine wp_region_quiet_below (by kernel_rfl) (by kernel_rfl) ?_
      repeat (first | go_big_quiet_skip | (go_big_quiet_want; go_big_quiet_op; go_big_quiet_on))
      refine wpQuiet_nil ?_
      intro w9 hw9
      have B9 := Lib.hid (bnext B3.out (below_of hw9))
      clear hw9
      go_wp2_with fail
      go_ret
      exact ⟨rfl, B9.out⟩
    · rw [hp]
      subst h2 h3 h4
      have SG := Lib.hid (fun W => all_grown SC.out W)
      obtain ⟨d0, d1, d2⟩ := id D0
      replace D0 := Lib.hid D0
      clear hp hy h1
      obtain ⟨xk, xt, xa⟩ := x
      simp only at d0 d1 d2
      go_enter Tryz.func34, Tryz.ntmps34
      go_wp2_with fail
      refine (SC.out _).mono ?_
      rintro e w1 ⟨rfl, b1⟩
      have B1 := Lib.hid (bnext B0.out b1)
      have D1 := Lib.hid (D0.out.keeps b1)
      clear b1
      obtain ⟨w2, cv, hcv, hB, b2⟩ := bytes_of w1 S (by have := hz2.out; omega)
      have B2 := Lib.hid (bnext B1.out b2)
      have D2 := Lib.hid (D1.out.keeps b2)
      have BS := Lib.hid hB
      clear b2 hB d0 d1 d2
      go_wp2_with fail
      refine (TC.out _ _ _ _ BS.out).mono ?_
      rintro e w3 ⟨v, u, rfl, o3, p3, b3⟩
      obtain ⟨al, cl, rfl, sl⟩ := o3.sl
      obtain ⟨ab, cb, rfl, sb⟩ := p3.sl
      have B3 := Lib.hid (bnext B2.out b3)
      have D3 := D2.out.keeps b3
      clear o3 p3 b3 sb
      obtain ⟨d0, d1, d2⟩ := D3
      simp only at d0 d1 d2
      obtain ⟨m, hm⟩ : ∃ m, m = P.length := ⟨_, rfl⟩
      obtain ⟨k, hk⟩ : ∃ k, k = L.length := ⟨_, rfl⟩
      rw [← hm, ← hk]
      obtain rfl : m = 0 := by rw [hm, hP]; rfl
      obtain rfl : k = 2 := by rw [hk, hL]; rfl
      rw [← hk, hL] at sl
      obtain ⟨bk, off, rfl, hD⟩ := sl.hat.resolve_left (by simp)
      obtain ⟨c0, c1, c2⟩ := hD 0 (by simp)
      obtain ⟨e0, e1, e2⟩ := hD 1 (by simp)
      rw [Nat.zero_mul, Nat.add_zero] at c0 c1 c2
      rw [Nat.one_mul] at e0 e1 e2
      simp only [tk.gt, List.getD_cons_zero] at c0 c1 c2
      replace e2 : w3.cell? ⟨bk, off + 3 + 2, none⟩ = some (.int .i64 (S.size : Nat)) := e2
      have e3 := e2
      rw [show off + 3 + 2 = off + 5 by omega] at e3
      have c3 := cell_regrown c0
      have c4 := cell_regrown c1
      have c5 := cell_regrown c2
      have e4 := cell_regrown e2
      have e5 := cell_regrown e3
      clear hD sl hm hk e0 e1 hL hP
      have SG3 := Lib.hid (SG.out w3)
      have g0 := cell_regrown d0
      have g1 := cell_regrown d1
      have g2 := cell_regrown d2
      go_wp2_with fail
      refine wp_region_quiet_below (by kernel_rfl) (by kernel_rfl) ?_
      repeat (first | go_big_quiet_skip | (go_big_quiet_want; go_big_quiet_op; first | go_big_quiet_on | go_big_quiet_call ((go_at_call 16; with_reducible exact (SG3.out _ _)))))
      refine wpQuiet_nil ?_
      intro w9 hw9
      have B9 := Lib.hid (bnext B3.out (below_of hw9))
      clear hw9
      go_wp2_with fail
      go_ret
      exact ⟨rfl, B9.out⟩
end Go.Proofs.YtkfciilclfhabaaGreatDoor
