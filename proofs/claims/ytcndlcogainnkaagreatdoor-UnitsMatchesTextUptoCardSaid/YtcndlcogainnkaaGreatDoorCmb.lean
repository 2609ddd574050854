/-
  combine: Times and Over.
-/
import Derived.Test.YtcndlcogainnkaaGreatDoorCln
namespace Go.Proofs.YtcndlcogainnkaaGreatDoor
open Go.RowKit dec

theorem size_two {k : Nat} {w : World} (h : k ≤ w.heap.size) (o o' : Obj) : k ≤ ((w.alloc o).alloc o').heap.size := by simp; omega
set_option maxRecDepth 100000 in
set_option maxHeartbeats 2000000 in
theorem combine_any (p : Int) (hp : p = 1 ∨ p = -1) (a : Option Addr) (n cap : Nat) (b : Option Addr) (m cap2 : Nat) (l r : List Fa) (w : World) (hA : Sl w a n cap l) (hB : Sl w b m cap2 r) :
    Calls Tryz.prog 38 #[.slice a n cap, .slice b m cap2, .int .i64 p] w fun e w' => Ret w w' e (cE p l r) (cL p l r) := by
  have CA := Lib.hid (check_any a n cap l w hA)
  have CB := Lib.hid (fun W h => check_any b m cap2 r W h)
  have S1 := Lib.hid hA
  have S2 := Lib.hid hB
  clear hA hB
  by_cases h1 : ck l = 0
  · by_cases h2 : ck r = 0
    · have okl := (ck_iff l).1 h1
      have okr := (ck_iff r).1 h2
      have hE := Lib.hid (cE_n (p := p) h1 h2)
      have hL := Lib.hid okl.le
      have hR := Lib.hid okr.le
      have hG := Lib.hid okr.good
      have CC := Lib.hid (fun W h => clone_any a n cap l W h (by have := okl.le; omega))
      have hx : ∀ x ∈ l ++ sc p r, -9223372036854775808 ≤ x.2 ∧ x.2 ≤ 9223372036854775807 := fun x hx => by
        rcases List.mem_append.1 hx with hx | hx
        · have := far_le (okl.good x hx).2.2
          omega
        · unfold sc at hx
          rw [List.mem_map] at hx
          obtain ⟨y, hy, rfl⟩ := hx
          have := far_le (okr.good y hy).2.2
          rcases hp with rfl | rfl <;> simp <;> omega
      have hlen : (l ++ sc p r).length < 5864062014805 := by
        have := okl.le; have := okr.le
        unfold sc
        simp; omega
      have NC := Lib.hid (fun a n c W h => normal_any a n c (l ++ sc p r) W h hx hlen)
      obtain ⟨X, hX0⟩ : ∃ X, l ++ sc p r = X := ⟨_, rfl⟩
      rw [hX0] at NC hE
      have hX := Lib.hid hX0
      rw [h1] at CA
      rw [h2] at CB
      clear okl okr hx hlen h1 h2 hX0
      go_enter Tryz.func38, Tryz.ntmps38
      go_wp2_with fail
      refine CA.out.mono ?_
      rintro e w1 ⟨rfl, b1⟩
      have B1 := Lib.hid b1
      clear b1
      go_wp2_with fail
      refine (CB.out _ (S2.out.keeps B1.out)).mono ?_
      rintro e w2 ⟨rfl, b2⟩
      have B2 := Lib.hid (bnext B1.out b2)
      clear b2 B1
      go_wp2_with fail
      refine (CC.out _ (S1.out.keeps B2.out)).mono ?_
      rintro e w3 ⟨v3, rfl, o3, b3⟩
      have O3 := Lib.hid (show Own w3 w.heap.size v3 (l ++ sc p (r.take 0)) by rw [List.take_zero]; unfold sc; simp only [List.map_nil, List.append_nil]; exact o3.less B2.out.size)
      have B3 := Lib.hid (bnext B2.out b3)
      clear o3 b3 B2
      go_wp2_with fail
      go_loopw [8, 25] (fun vo vi wr => ∃ j : Nat, vi = .int .i64 (j : Nat) ∧ Hid (j ≤ m) ∧ Hid (Own wr w.heap.size vo (l ++ sc p (r.take j))) ∧ Hid (Below w.heap.size w wr)) (fun _ vi _ => m - (intOf vi).toNat)
      case atStart => exact ⟨0, rfl, Lib.hid (Nat.zero_le _), O3, B3⟩
      case round =>
        obtain ⟨j, rfl, hj, hO, hb⟩ := hrel
        by_cases hc : j < m
        · have hln := Lib.hid (show j < r.length by have := S2.out.hn; omega)
          obtain ⟨bk, off, rfl, hC⟩ := (S2.out.keeps hb.out).hat.resolve_left (by have := hln.out; omega)
          obtain ⟨c0, c1⟩ := hC j hln.out
          have q2 : decide ((j : Int) < (m : Int)) = true := decide_eq_true (by omega)
          have q3 : j < m := hc
          have f4 := Lib.hid (next_at (j := j) (by have := S2.out.hcap; have := S2.out.hmax; omega))
          have hn := Lib.hid (sc_next (p := p) hln.out)
          have hg := Lib.hid (far_le (hG.out _ (gt_mem hln.out)).2.2)
          generalize gt r j = x at c0 c1 hn hg
          obtain ⟨y, hy⟩ : ∃ y, y = x.2 * p := ⟨_, rfl⟩
          have hl8 := Lib.hid (show (l ++ sc p (r.take j)).length < 5864062014805 by have := hL.out; have := hR.out; unfold sc; simp; omega)
          have hsz := Lib.hid (size_two hb.out.size (.cells #[.string x.1, .int .i64 x.2] 37) (.cells #[.string x.1, .int .i64 y] 37))
          have f5 : wrap64 (x.2 * p) = y := by
            rw [hy]
            have := hg.out
            rcases hp with rfl | rfl <;> unfold wrap64 <;> omega
          rw [← hy] at hn
          clear hC hy CB CC NC S1
          go_wp2_with (at_builtin; refine is_app (.tmp 29) (.tmp 37) rfl ?_; refine wpList_push _ rfl (.tmp 29) (.tmp 37) rfl w.heap.size _ _ rfl (hO.out.keeps (balloc (balloc (b0 wr) _) _)) (wr.heap.size + 1) x.1 y rfl (bw_two wr _ x.1 y) hl8.out hsz.out ?_; intro v2 w6 O6 b6)
          have B6 := Lib.hid (((balloc (balloc hb.out (.cells #[.string x.1, .int .i64 x.2] 37)) (.cells #[.string x.1, .int .i64 y] 37))).trans b6)
          have O7 := Lib.hid (show Own w6 w.heap.size v2 (l ++ sc p (r.take (j + 1))) by rw [hn.out, ← List.append_assoc]; exact O6)
          clear b6 O6
          go_wp2_with fail
          refine ⟨⟨j + 1, congrArg (Value.int .i64) f4.out, Lib.hid hc, O7, B6⟩, less_at hc f4.out⟩
        · have q2 : decide ((j : Int) < (m : Int)) = false := decide_eq_false (by omega)
          have hS3 : ∃ a3 k cap3, u8 = .slice a3 k cap3 ∧ Sl wr a3 k cap3 X := by
            have hO2 := hO.out
            rw [show r.take j = r from List.take_of_length_le (by have := S2.out.hn; omega), hX.out] at hO2
            obtain ⟨a3, cap3, e, S3⟩ := hO2.sl
            exact ⟨a3, _, cap3, e, S3⟩
          obtain ⟨a3, k3, cap3, rfl, S3⟩ := hS3
          have S3h := Lib.hid S3
          clear S3 hO
          go_wp2_with fail
          refine (NC.out _ _ _ _ S3h.out).mono ?_
          rintro e w7 ⟨v7, rfl, o7, b7⟩
          have O7 := Lib.hid o7
          have B7 := Lib.hid (bnext hb.out b7)
          clear o7 b7
          go_wp2_with fail
          go_ret2
          refine ⟨v7, by rw [hE.out.1]; rfl, by rw [hE.out.2]; exact O7.out, B7.out⟩
    · have hE := Lib.hid (cE_b (p := p) h1 h2)
      have q5 : (ck r != 0) = true := by rw [bne_iff_ne]; exact h2
      rw [h1] at CA
      clear h1 h2 S1
      generalize ck r = c at *
      go_enter Tryz.func38, Tryz.ntmps38
      go_wp2_with fail
      refine CA.out.mono ?_
      rintro e w1 ⟨rfl, b1⟩
      have B1 := Lib.hid b1
      clear b1
      go_wp2_with fail
      refine (CB.out _ (S2.out.keeps B1.out)).mono ?_
      rintro e w2 ⟨rfl, b2⟩
      have B2 := Lib.hid (bnext B1.out b2)
      clear b2 B1
      go_wp2_with fail
      go_ret2
      exact ⟨.slice none 0 0, by rw [hE.out.1]; rfl, by rw [hE.out.2]; exact Out.nil _, B2.out⟩
  · have hE := Lib.hid (cE_a (p := p) (b := r) h1)
    have q5 : (ck l != 0) = true := by rw [bne_iff_ne]; exact h1
    clear h1 S1 S2 CB
    generalize ck l = c at *
    go_enter Tryz.func38, Tryz.ntmps38
    go_wp2_with fail
    refine CA.out.mono ?_
    rintro e w1 ⟨rfl, b1⟩
    have B1 := Lib.hid b1
    clear b1
    go_wp2_with fail
    go_ret2
    exact ⟨.slice none 0 0, by rw [hE.out.1]; rfl, by rw [hE.out.2]; exact Out.nil _, B1.out⟩
theorem times_any (a : Option Addr) (n cap : Nat) (b : Option Addr) (m cap2 : Nat) (l r : List Fa) (w : World) (hA : Sl w a n cap l) (hB : Sl w b m cap2 r) :
    Calls Tryz.prog 16 #[.slice a n cap, .slice b m cap2] w fun e w' => Ret w w' e (cE 1 l r) (cL 1 l r) := by
  have C := Lib.hid (combine_any 1 (.inl rfl) a n cap b m cap2 l r w hA hB)
  clear hA hB
  go_enter Tryz.func16, Tryz.ntmps16
  go_wp2_with fail
  refine C.out.mono ?_
  rintro e w1 ⟨v, rfl, o1, b1⟩
  have O := Lib.hid o1
  have B := Lib.hid b1
  clear o1 b1
  go_wp2_with fail
  go_ret2
  exact ⟨v, rfl, O.out, B.out⟩
theorem over_any (a : Option Addr) (n cap : Nat) (b : Option Addr) (m cap2 : Nat) (l r : List Fa) (w : World) (hA : Sl w a n cap l) (hB : Sl w b m cap2 r) :
    Calls Tryz.prog 18 #[.slice a n cap, .slice b m cap2] w fun e w' => Ret w w' e (cE (-1) l r) (cL (-1) l r) := by
  have C := Lib.hid (combine_any (-1) (.inr rfl) a n cap b m cap2 l r w hA hB)
  clear hA hB
  go_enter Tryz.func18, Tryz.ntmps18
  go_wp2_with fail
  refine C.out.mono ?_
  rintro e w1 ⟨v, rfl, o1, b1⟩
  have O := Lib.hid o1
  have B := Lib.hid b1
  clear o1 b1
  go_wp2_with fail
  go_ret2
  exact ⟨v, rfl, O.out, B.out⟩
end Go.Proofs.YtcndlcogainnkaaGreatDoor
