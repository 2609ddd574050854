/-
  The reference's Inverse, Times, Over.
-/
import Derived.Test.YtcndlcogainnkaaGreatDoorRnm
import Derived.Test.YtcndlcogainnkaaGreatDoorRck
import Derived.Test.YtcndlcogainnkaaGreatDoorCmb
namespace Go.Proofs.YtcndlcogainnkaaGreatDoor
open Go.RowKit dec

theorem app_on {B : Nat} {w w1 : World} {v : Value} {l : List Fa} {P : Prop} (h1 : Below B w w1) (h2 : Own w1 B v l) (k : Hid (Below B w w1) → Hid (Own w1 B v l) → P) : P := k (Lib.hid h1) (Lib.hid h2)
theorem neg_at {x : Int} (h : -8 ≤ x ∧ x ≤ 8) : IntKind.i64.wrap (-x) = x * -1 := by rw [IntWalk.i64_left]; unfold wrap64; omega
set_option maxRecDepth 100000 in
set_option maxHeartbeats 4000000 in
theorem inverse_any (a : Option Addr) (n cap : Nat) (l : List Fa) (w : World) (hS : Sl w a n cap l) (hlen : l.length < 5864062014805) (hg : ∀ x ∈ l, far x.2 = false) :
    Calls Tryz.prog 39 #[.slice a n cap] w fun e w' => ∃ v, e = .returned v ∧ Own w' w.heap.size v (sc (-1) l) ∧ Below w.heap.size w w' := by
  have S0 := Lib.hid hS
  have N0 := Lib.hid hlen
  have G0 := Lib.hid hg
  clear hS hlen hg
  go_enter Tryz.func39, Tryz.ntmps39
  go_wp2_with fail
  go_loopw [3, 4] (fun vo vi wr => ∃ j : Nat, vi = .int .i64 (j : Nat) ∧ Hid (j ≤ n) ∧ Hid (Own wr w.heap.size vo (sc (-1) (l.take j))) ∧ Hid (Below w.heap.size w wr)) (fun _ vi _ => n - (intOf vi).toNat)
  case atStart => exact ⟨0, rfl, Lib.hid (Nat.zero_le _), Lib.hid (Own.nil _ _), Lib.hid (b0 w)⟩
  case round =>
    obtain ⟨j, rfl, hj, hO, hb⟩ := hrel
    by_cases hc : j < n
    · have hln := Lib.hid (show j < l.length by have := S0.out.hn; omega)
      obtain ⟨bk, off, rfl, hC⟩ := S0.out.hat.resolve_left (by have := hln.out; omega)
      have C0 := Lib.hid (hC j hln.out).1
      have C1 := Lib.hid (hC j hln.out).2
      have q2 : decide ((j : Int) < (n : Int)) = true := decide_eq_true (by omega)
      have q3 : j < n := hc
      have f4 := Lib.hid (next_at (j := j) (by have := S0.out.hcap; have := S0.out.hmax; omega))
      have hn := Lib.hid (sc_next (p := -1) hln.out)
      have hxr := far_le (G0.out _ (gt_mem hln.out))
      have hl8 := Lib.hid (show (sc (-1) (l.take j)).length < 5864062014805 by have := N0.out; unfold sc; simp; omega)
      clear hC
      generalize gt l j = x at C0 C1 hn hxr
      have f5 := neg_at hxr
      generalize x.2 * -1 = y at f5 hn
      clear hxr
      go_wp2_with fail
      have GD := Lib.hid (show Below w.heap.size w wr.drew from hb.out.drew)
      have OD := Lib.hid (show Own wr.drew w.heap.size _ (sc (-1) (l.take j)) from hO.out)
      clear hO
      have f6 := f5
      refine wp_region_noPanic ?_
      refine wp_region_held_drew (S := fun w' => Below w.heap.size w w') (by kernel_rfl) GD.out (fun hH => ?_)
      generalize wr.drew = W0 at *
      refine held_take (i := 0) (d := 11) (v := ?_) rfl (by kernel_rfl) (by kernel_rfl) (by kernel_rfl) rfl (fun _ _ _ h => h) rfl hH (fun w' hS => ?_) ?_
      rotate_left
      · go_simp; first | done | with_reducible rfl
      simp only [List.set_cons_zero, List.set_cons_succ]
      refine held_take (i := 1) (d := 12) (v := ?_) rfl (by kernel_rfl) (by kernel_rfl) (by kernel_rfl) rfl (fun _ _ _ h => h) rfl hH (fun w' hS => ?_) ?_
      rotate_left
      · go_simp; first | done | with_reducible rfl
      simp only [List.set_cons_zero, List.set_cons_succ]
      refine held_take (i := 2) (d := 13) (v := ?_) rfl (by kernel_rfl) (by kernel_rfl) (by kernel_rfl) rfl (fun _ _ _ h => h) rfl hH (fun w' hS => ?_) ?_
      rotate_left
      · go_simp; first | done | with_reducible rfl
      simp only [List.set_cons_zero, List.set_cons_succ]
      refine held_take (i := 3) (d := 14) (v := ?_) rfl (by kernel_rfl) (by kernel_rfl) (by kernel_rfl) rfl (fun _ _ _ h => h) rfl hH (fun w' hS => ?_) ?_
      rotate_left
      · go_simp; first | done | with_reducible rfl
      simp only [List.set_cons_zero, List.set_cons_succ]
      refine held_take (i := 4) (d := 15) (v := ?_) rfl (by kernel_rfl) (by kernel_rfl) (by kernel_rfl) rfl (fun _ _ _ h => h) rfl hH (fun w' hS => ?_) ?_
      rotate_left
      · go_simp; first | done | with_reducible rfl
      simp only [List.set_cons_zero, List.set_cons_succ]
      refine held_take (i := 5) (d := 16) (v := ?_) rfl (by kernel_rfl) (by kernel_rfl) (by kernel_rfl) rfl (fun _ _ _ h => h) rfl hH (fun w' hS => ?_) ?_
      rotate_left
      · have e1 := dec.keeps hS C0.out; go_simp; first | done | with_reducible rfl
      simp only [List.set_cons_zero, List.set_cons_succ]
      refine held_take (i := 6) (d := 17) (v := ?_) rfl (by kernel_rfl) (by kernel_rfl) (by kernel_rfl) rfl (fun _ _ _ h => h) rfl hH (fun w' hS => ?_) ?_
      rotate_left
      · go_simp; first | done | with_reducible rfl
      simp only [List.set_cons_zero, List.set_cons_succ]
      refine held_take (i := 7) (d := 18) (v := ?_) rfl (by kernel_rfl) (by kernel_rfl) (by kernel_rfl) rfl (fun _ _ _ h => h) rfl hH (fun w' hS => ?_) ?_
      rotate_left
      · go_simp; first | done | with_reducible rfl
      simp only [List.set_cons_zero, List.set_cons_succ]
      refine held_take (i := 8) (d := 19) (v := ?_) rfl (by kernel_rfl) (by kernel_rfl) (by kernel_rfl) rfl (fun _ _ _ h => h) rfl hH (fun w' hS => ?_) ?_
      rotate_left
      · go_simp; first | done | with_reducible rfl
      simp only [List.set_cons_zero, List.set_cons_succ]
      refine held_take (i := 9) (d := 20) (v := ?_) rfl (by kernel_rfl) (by kernel_rfl) (by kernel_rfl) rfl (fun _ _ _ h => h) rfl hH (fun w' hS => ?_) ?_
      rotate_left
      · go_simp; first | done | with_reducible rfl
      simp only [List.set_cons_zero, List.set_cons_succ]
      refine held_take (i := 10) (d := 21) (v := ?_) rfl (by kernel_rfl) (by kernel_rfl) (by kernel_rfl) rfl (fun _ _ _ h => h) rfl hH (fun w' hS => ?_) ?_
      rotate_left
      · have e1 := dec.keeps hS C1.out; go_simp; first | done | with_reducible rfl
      simp only [List.set_cons_zero, List.set_cons_succ]
      refine held_take (i := 11) (d := 22) (v := .int .i64 y) rfl (by kernel_rfl) (by kernel_rfl) (by kernel_rfl) rfl (fun _ _ _ h => h) rfl hH (fun w' hS => ?_) ?_
      · go_simp; first | done | (rw [f6]; done) | (rw [f6]; rfl) | with_reducible rfl
      simp only [List.set_cons_zero, List.set_cons_succ]
      refine held_take (i := 12) (d := 23) (v := ?_) rfl (by kernel_rfl) (by kernel_rfl) (by kernel_rfl) rfl (fun _ _ _ h => h) rfl hH (fun w' hS => ?_) ?_
      rotate_left
      · go_simp; first | done | with_reducible rfl
      simp only [List.set_cons_zero, List.set_cons_succ]

      refine held_only (i := 13) rfl (by kernel_rfl) rfl (fun K hK => ?_)
      go_simp
      have BN := Lib.hid (Bw.new W0 (x.1, y) 37)
      have O2 := Lib.hid (OD.out.keeps (balloc (b0 W0) (.cells #[.string x.1, .int .i64 y] 37)))
      refine hK.out _ _ (balloc hH _) (fun hH => ?_)
      clear hK K
      refine held_only (i := 14) rfl (by kernel_rfl) rfl (fun K hK => ?_)
      refine wp_push _ (.tmp 11) (.tmp 24) rfl w.heap.size _ _ rfl O2.out W0.heap.size x.1 y rfl BN.out hl8.out hH.size ?_
      intro v6 w6 O6 b6
      have O7 := Lib.hid (show Own w6 w.heap.size v6 (sc (-1) (l.take (j + 1))) by rw [hn.out]; exact O6)
      refine hK.out _ _ (hH.trans b6) (fun hH => ?_)
      clear hK K b6 O6 BN O2
      refine held_only (i := 15) rfl (by kernel_rfl) rfl (fun K hK => ?_)
      go_simp
      refine hK.out _ _ hH (fun hH => ?_)
      clear hK K
      refine wpAnyH_done (by kernel_rfl) ?_ _
      refine noPanic_of ?_
      have HB := Lib.hid hH
      clear hH
      go_wp2_with fail
      refine ⟨⟨j + 1, congrArg (Value.int .i64) f4.out, Lib.hid hc, O7, HB⟩, less_at hc f4.out⟩
    · have q2 : decide ((j : Int) < (n : Int)) = false := decide_eq_false (by omega)
      rw [show l.take j = l from List.take_of_length_le (by have := S0.out.hn; omega)] at hO
      go_wp2_with fail
      go_ret
      exact ⟨_, rfl, hO.out, hb.out⟩
theorem c_neg {l r : List Fa} (h1 : ck l = 0) (h2 : ck r = 0) : cE 1 l (sc (-1) r) = cE (-1) l r ∧ cL 1 l (sc (-1) r) = cL (-1) l r := by
  have h3 : ck (sc (-1) r) = 0 := (ck_iff _).2 ((ck_iff r).1 h2).neg
  have a := cE_n (p := 1) h1 h3
  have b := cE_n (p := -1) h1 h2
  rw [sc_one] at a
  exact ⟨a.1.trans b.1.symm, a.2.trans b.2.symm⟩
set_option maxRecDepth 100000 in
set_option maxHeartbeats 2000000 in
theorem rtimes_any (a : Option Addr) (n cap : Nat) (b : Option Addr) (m cap2 : Nat) (l r : List Fa) (w : World) (hA : Sl w a n cap l) (hB : Sl w b m cap2 r) :
    Calls Tryz.prog 17 #[.slice a n cap, .slice b m cap2] w fun e w' => Ret w w' e (cE 1 l r) (cL 1 l r) := by
  have CA := Lib.hid (rcheck_any a n cap l w hA)
  have CB := Lib.hid (fun W h => rcheck_any b m cap2 r W h)
  have S1 := Lib.hid hA
  have S2 := Lib.hid hB
  clear hA hB
  by_cases h1 : ck l = 0
  · by_cases h2 : ck r = 0
    · have okl := (ck_iff l).1 h1
      have okr := (ck_iff r).1 h2
      have hE := Lib.hid (cE_n (p := 1) h1 h2)
      rw [sc_one] at hE
      have hx : ∀ x ∈ l ++ r, -9223372036854775808 ≤ x.2 ∧ x.2 ≤ 9223372036854775807 := fun x hx => by
        rcases List.mem_append.1 hx with hx | hx
        · have := far_le (okl.good x hx).2.2
          omega
        · have := far_le (okr.good x hx).2.2
          omega
      have hlen : (l ++ r).length < 5864062014805 := by
        have := okl.le; have := okr.le
        simp; omega
      have hl1 := Lib.hid (show ([] : List Fa).length + n < 5864062014805 by have := okl.le; have := S1.out.hn; simp; omega)
      have hl2 := Lib.hid (show l.length + m < 5864062014805 by have := okl.le; have := okr.le; have := S2.out.hn; omega)
      have NC := Lib.hid (fun a n c W h => rnormal_any a n c (l ++ r) W h hx hlen)
      rw [h1] at CA
      rw [h2] at CB
      clear okl okr hx hlen h1 h2
      go_enter Tryz.func17, Tryz.ntmps17
      go_wp2_with fail
      refine CA.out.mono ?_
      rintro e w1 ⟨rfl, b1⟩
      have B1 := Lib.hid b1
      clear b1
      go_wp2_with fail
      refine (CB.out _ (S2.out.keeps B1.out)).mono ?_
      rintro e w2 ⟨rfl, b2⟩
      have B2 := Lib.hid (bnext B1.out b2)
      clear b2 B1
      go_wp2_with (at_builtin; first | (refine is_app (.tmp 18) (.tmp 19) rfl ?_; refine wpList_cat _ rfl (.tmp 18) (.tmp 19) rfl w.heap.size _ [] rfl (Own.nil w2 _) a n cap l rfl (S1.out.keeps B2.out) hl1.out B2.out.size ?_; intro v3 w3 O3 b3; rw [List.nil_append] at O3; refine app_on (B2.out.trans b3) O3 ?_; intro B3 O4; clear b3 O3) | (refine is_app (.tmp 20) (.tmp 21) rfl ?_; refine wpList_cat _ rfl (.tmp 20) (.tmp 21) rfl w.heap.size _ l rfl O4.out b m cap2 r rfl (S2.out.keeps B3.out) hl2.out B3.out.size ?_; intro v5 w5 O5 b5; refine app_on (B3.out.trans b5) O5 ?_; intro B5 O6; clear b5 O5; obtain ⟨a3, cap3, e3, S3⟩ := O6.out.sl; have SX := Lib.hid S3; generalize hX : (l ++ r).length = k3 at e3 SX; clear S3; subst e3; clear O6 O4 hX))
      refine (NC.out _ _ _ _ SX.out).mono ?_
      rintro e w7 ⟨v7, rfl, o7, b7⟩
      have O7 := Lib.hid o7
      have B7 := Lib.hid (bnext B5.out b7)
      clear o7 b7
      go_wp2_with fail
      go_ret2
      refine ⟨v7, by rw [hE.out.1]; rfl, by rw [hE.out.2]; exact O7.out, B7.out⟩
    · have hE := Lib.hid (cE_b (p := 1) h1 h2)
      have q5 : (ck r != 0) = true := by rw [bne_iff_ne]; exact h2
      rw [h1] at CA
      clear h1 h2 S1
      generalize ck r = c at *
      go_enter Tryz.func17, Tryz.ntmps17
      go_wp2_with fail
      refine CA.out.mono ?_
      rintro e w1 ⟨rfl, b1⟩
      have B1 := Lib.hid b1
      clear b1
      go_wp2_with fail
      refine (CB.out _ (S2.out.keeps B1.out)).mono ?_
      rintro e w2 ⟨rfl, b2⟩
      have B2 := Lib.hid (bnext B1.out b2)
      clear b2 B1
      go_wp2_with fail
      go_ret2
      exact ⟨.slice none 0 0, by rw [hE.out.1]; rfl, by rw [hE.out.2]; exact Out.nil _, B2.out⟩
  · have hE := Lib.hid (cE_a (p := 1) (b := r) h1)
    have q5 : (ck l != 0) = true := by rw [bne_iff_ne]; exact h1
    clear h1 S1 S2 CB
    generalize ck l = c at *
    go_enter Tryz.func17, Tryz.ntmps17
    go_wp2_with fail
    refine CA.out.mono ?_
    rintro e w1 ⟨rfl, b1⟩
    have B1 := Lib.hid b1
    clear b1
    go_wp2_with fail
    go_ret2
    exact ⟨.slice none 0 0, by rw [hE.out.1]; rfl, by rw [hE.out.2]; exact Out.nil _, B1.out⟩
set_option maxRecDepth 100000 in
set_option maxHeartbeats 2000000 in
theorem rover_any (a : Option Addr) (n cap : Nat) (b : Option Addr) (m cap2 : Nat) (l r : List Fa) (w : World) (hA : Sl w a n cap l) (hB : Sl w b m cap2 r) :
    Calls Tryz.prog 19 #[.slice a n cap, .slice b m cap2] w fun e w' => Ret w w' e (cE (-1) l r) (cL (-1) l r) := by
  have CA := Lib.hid (rcheck_any a n cap l w hA)
  have CB := Lib.hid (fun W h => rcheck_any b m cap2 r W h)
  have S1 := Lib.hid hA
  have S2 := Lib.hid hB
  clear hA hB
  by_cases h1 : ck l = 0
  · by_cases h2 : ck r = 0
    · have okr := (ck_iff r).1 h2
      have hE := Lib.hid (c_neg h1 h2)
      have IC := Lib.hid (fun W h => inverse_any b m cap2 r W h (by have := okr.le; omega) (fun x hx => (okr.good x hx).2.2))
      have TC := Lib.hid (fun b m c W h1 h2 => rtimes_any a n cap b m c l (sc (-1) r) W h1 h2)
      rw [h1] at CA
      rw [h2] at CB
      clear okr h1 h2
      generalize sc (-1) r = X at *
      go_enter Tryz.func19, Tryz.ntmps19
      go_wp2_with fail
      refine CA.out.mono ?_
      rintro e w1 ⟨rfl, b1⟩
      have B1 := Lib.hid b1
      clear b1
      go_wp2_with fail
      refine (CB.out _ (S2.out.keeps B1.out)).mono ?_
      rintro e w2 ⟨rfl, b2⟩
      have B2 := Lib.hid (bnext B1.out b2)
      clear b2 B1
      go_wp2_with fail
      refine (IC.out _ (S2.out.keeps B2.out)).mono ?_
      rintro e w3 ⟨v3, rfl, o3, b3⟩
      obtain ⟨a3, cap3, rfl, S3⟩ := o3.sl
      have SX := Lib.hid S3
      have B3 := Lib.hid (bnext B2.out b3)
      clear S3 o3 b3 B2
      generalize X.length = k3 at *
      go_wp2_with fail
      refine (TC.out _ _ _ _ (S1.out.keeps B3.out) SX.out).mono ?_
      rintro e w7 ⟨v7, rfl, o7, b7⟩
      have O7 := Lib.hid o7
      have B7 := Lib.hid (bnext B3.out b7)
      clear o7 b7
      go_wp2_with fail
      go_ret2
      refine ⟨v7, by rw [hE.out.1]; rfl, by rw [← hE.out.2]; exact O7.out, B7.out⟩
    · have hE := Lib.hid (cE_b (p := -1) h1 h2)
      have q5 : (ck r != 0) = true := by rw [bne_iff_ne]; exact h2
      rw [h1] at CA
      clear h1 h2 S1
      generalize ck r = c at *
      go_enter Tryz.func19, Tryz.ntmps19
      go_wp2_with fail
      refine CA.out.mono ?_
      rintro e w1 ⟨rfl, b1⟩
      have B1 := Lib.hid b1
      clear b1
      go_wp2_with fail
      refine (CB.out _ (S2.out.keeps B1.out)).mono ?_
      rintro e w2 ⟨rfl, b2⟩
      have B2 := Lib.hid (bnext B1.out b2)
      clear b2 B1
      go_wp2_with fail
      go_ret2
      exact ⟨.slice none 0 0, by rw [hE.out.1]; rfl, by rw [hE.out.2]; exact Out.nil _, B2.out⟩
  · have hE := Lib.hid (cE_a (p := -1) (b := r) h1)
    have q5 : (ck l != 0) = true := by rw [bne_iff_ne]; exact h1
    clear h1 S1 S2 CB
    generalize ck l = c at *
    go_enter Tryz.func19, Tryz.ntmps19
    go_wp2_with fail
    refine CA.out.mono ?_
    rintro e w1 ⟨rfl, b1⟩
    have B1 := Lib.hid b1
    clear b1
    go_wp2_with fail
    go_ret2
    exact ⟨.slice none 0 0, by rw [hE.out.1]; rfl, by rw [hE.out.2]; exact Out.nil _, B1.out⟩
end Go.Proofs.YtcndlcogainnkaaGreatDoor
