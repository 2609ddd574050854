/-
  Buckets and its reference.
-/
import Derived.Test.YtdhdofgdeljajaaSm4
import Derived.Test.YtdhdofgdeljajaaMem
import Derived.BigQuiet
namespace Go.Proofs.Ytdhdofgdeljajaa
open Go.RowKit

theorem fitsW {n : Int} (h1 : -9223372036854775808 ≤ n) (h2 : n ≤ 9223372036854775807) : wrap64 n = n := by unfold wrap64; omega
theorem fits64 {n : Int} (h1 : -9223372036854775808 ≤ n) (h2 : n ≤ 9223372036854775807) : IntKind.i64.wrap n = n := by simp [IntKind.wrap, IntKind.bits, IntKind.signed]; omega
/-- What is told of a valid interval and a size. -/
structure Bk (x y s a c : Int) : Prop where
  x0 : 0 ≤ x
  xy : x ≤ y
  y1 : y ≤ 1099511627776
  s0 : 1 ≤ s
  s1 : s ≤ 1099511627776
  a0 : 0 ≤ a
  ac : a ≤ c
  c1 : c ≤ 1099511627776
  cs : c * s ≤ y
theorem bk_of {x y s : Int} (h : Ok (x, y)) (hs : isz s = true) : Bk x y s (x / s) (y / s) := by
  obtain ⟨h1, h2, h3⟩ := h
  simp only at h1 h2 h3
  obtain ⟨s0, s1⟩ := (isz_iff s).1 hs
  refine ⟨h1, h2, h3, s0, s1, Int.ediv_nonneg h1 (by omega), Int.ediv_le_ediv (by omega) h2, ?_, Int.ediv_mul_le _ (by omega)⟩
  have h4 := Int.ediv_mul_le y (show s ≠ 0 by omega)
  have h5 : 0 ≤ y / s := Int.ediv_nonneg (by omega) (by omega)
  have h6 : y / s * 1 ≤ y / s * s := Int.mul_le_mul_of_nonneg_left s0 h5
  omega
theorem Bk.mul {x y s a c k : Int} (h : Bk x y s a c) (h0 : 0 ≤ k) (hk : k ≤ c) : 0 ≤ k * s ∧ k * s ≤ 1099511627776 := by
  have h1 : k * s ≤ c * s := Int.mul_le_mul_of_nonneg_right hk (by have := h.s0; omega)
  have h2 := h.cs
  have h3 := h.y1
  have h4 : 0 ≤ k * s := Int.mul_nonneg h0 (by have := h.s0; omega)
  omega
theorem bs_snoc (f : Nat → I2) (j : Nat) : (List.range (j + 1)).map f = (List.range j).map f ++ [f j] := by simp [List.range_succ]
set_option maxHeartbeats 1000000 in
theorem buckets_any (x y s : Int) (w : World) : Calls Try.prog 27 #[.agg #[.int .i64 x, .int .i64 y], .int .i64 s] w (Mk (buk (x, y) s) w) := by
  have C1 := Lib.hid (valid_any x y)
  have C2 := Lib.hid (size_b s)
  have A := Bw.new w x y 23
  have b1 := balloc (b0 w) (.cells #[.int .i64 x, .int .i64 y] 23)
  have hbk : Hid (Bk x y s (x / s) (y / s) ∨ okI (x, y) = false ∨ isz s = false) := by
    unfold Hid
    cases h1 : okI (x, y)
    · exact .inr (.inl rfl)
    · cases h2 : isz s
      · exact .inr (.inr rfl)
      · exact .inl (bk_of ((okI_iff _).1 h1) h2)
  obtain ⟨P, hP⟩ : ∃ P, buk (x, y) s = P := ⟨_, rfl⟩
  rw [hP]
  unfold buk cnt at hP
  simp only at hP
  generalize okI (x, y) = o1 at *
  generalize isz s = o2 at *
  replace A := Lib.hid A
  replace b1 := Lib.hid b1
  replace hP := Lib.hid hP
  go_enter Try.func27, Try.ntmps27
  go_wp2_with fail
  refine (C1.out _).mono ?_
  rintro e w1 ⟨rfl, d⟩
  replace A := A.out.keeps d
  replace b1 := bnext b1.out d
  clear d C1
  cases o1
  · obtain rfl : [] = P := hP.out
    go_wp2_with fail
    go_ret
    exact ⟨_, rfl, Own.nil _ _, b1⟩
  go_wp2_with fail
  refine (C2.out _).mono ?_
  rintro e w2 ⟨rfl, d⟩
  replace A := A.keeps d
  replace b1 := bnext b1 d
  clear d C2
  cases o2
  · obtain rfl : [] = P := hP.out
    go_wp2_with fail
    go_ret
    exact ⟨_, rfl, Own.nil _ _, b1⟩
  have K := hbk.out.resolve_right (by simp)
  have e1 : Int.tdiv x s = x / s := Int.tdiv_eq_ediv_of_nonneg K.x0
  have e2 : Int.tdiv y s = y / s := Int.tdiv_eq_ediv_of_nonneg (by have := K.xy; have := K.x0; omega)
  generalize x / s = a at *
  generalize y / s = c at *
  obtain ⟨k1, k2, k3, k4, k5, k6, k7, k8, k9⟩ := K
  have K : Hid (Bk x y s a c) := ⟨k1, k2, k3, k4, k5, k6, k7, k8, k9⟩
  have s0 : (s == 0) = false := by simp; omega
  have sn : s ≠ 0 := by omega
  have f1 : IntKind.i64.wrap a = a := fits64 (by omega) (by omega)
  have f2 : IntKind.i64.wrap c = c := fits64 (by omega) (by omega)
  have f3 : IntKind.i64.wrap (c - a) = c - a := fits64 (by omega) (by omega)
  obtain ⟨a0, a1, g0, g1⟩ := A
  have A : Hid (Bw w2 w.heap.size x y) := ⟨a0, a1, g0, g1⟩
  clear k1 k2 k3 k4 k5 k8 k9
  go_wp2_with fail
  go_region
  replace b1 := b1.drew
  replace A : Hid (Bw w2.drew w.heap.size x y) := Lib.hid (A.out.keeps (b0 w2).drew)
  clear a0 a1 g0 g1 f1 f2 e1 e2 s0 sn
  obtain ⟨a0, a1, g0, g1⟩ := A.out
  generalize w2.drew = w3 at *
  by_cases hlim : c - a < 4096
  · have q1 : decide (4096 ≤ c - a) = false := decide_eq_false (by omega)
    replace hP : Hid ((List.range (c - a + 1).toNat).map (fun j : Nat => part (x, y) s (a + (j : Int))) = P) := by
      have := hP.out
      rw [decide_eq_true hlim] at this
      exact this
    clear hbk
    go_wp2_with fail
    clear a0 a1 g0 g1 f3 q1
    replace hlim := Lib.hid hlim
    replace k6 := Lib.hid k6
    replace k7 := Lib.hid k7
    go_loopw [4, 7] (fun v k wr => ∃ j : Nat, k = .int .i64 (a + (j : Int)) ∧ Own wr (w.heap.size + 1) v ((List.range j).map fun j : Nat => part (x, y) s (a + (j : Int))) ∧ Hid ((j : Int) ≤ c - a + 1) ∧ Below w.heap.size w wr ∧ Bw wr w.heap.size x y) (fun _ k _ => (c + 1 - intOf k).toNat)
    case atStart =>
      exact ⟨0, by simp, Own.nil _ _, Lib.hid (by have := k7.out; omega), b1, A.out⟩
    case round =>
      obtain ⟨j, rfl, O, hj, hb, hw⟩ := hrel
      by_cases hlt : a + (j : Int) ≤ c
      · have q1 : decide (a + (j : Int) ≤ c) = true := decide_eq_true hlt
        obtain ⟨a0, a1, g0, g1⟩ := hw
        have hw : Hid (Bw wr w.heap.size x y) := ⟨a0, a1, g0, g1⟩
        have hm := K.out.mul (k := a + (j : Int)) (by have := k6.out; omega) hlt
        have hs1 := K.out.s1
        have hs0 := K.out.s0
        have hc1 := K.out.c1
        have hpt : Hid (part (x, y) s (a + (j : Int)) = (max x ((a + (j : Int)) * s), min y ((a + (j : Int)) * s + s - 1))) := rfl
        have m1 := max_walk x ((a + (j : Int)) * s)
        have m2 := min_walk y ((a + (j : Int)) * s + s - 1)
        have f1 : wrap64 ((a + (j : Int)) * s) = (a + (j : Int)) * s := fitsW (by omega) (by omega)
        have f2 : wrap64 ((a + (j : Int)) * s + s) = (a + (j : Int)) * s + s := fitsW (by omega) (by omega)
        have f3 : wrap64 ((a + (j : Int)) * s + s - 1) = (a + (j : Int)) * s + s - 1 := fitsW (by omega) (by omega)
        have f4 : wrap64 (a + (j : Int) + 1) = a + (j : Int) + 1 := fitsW (by have := k6.out; omega) (by omega)
        have hlen : ((List.range j).map fun j : Nat => part (x, y) s (a + (j : Int))).length < 8000000000000 := by
          rw [List.length_map, List.length_range]
          have := hlim.out; have := hj.out; omega
        generalize max x ((a + (j : Int)) * s) = p at *
        generalize min y ((a + (j : Int)) * s + s - 1) = q at *
        generalize hu : (a + (j : Int)) * s = u at *
        replace hlt := Lib.hid hlt
        clear hm hs1 hs0 hc1
        have hlen := Lib.hid hlen
        go_wp2_with (at_builtin; refine is_app (.tmp 34) (.tmp 51) rfl ?_; refine wpList_push _ rfl (.tmp 34) (.tmp 51) rfl (w.heap.size + 1) _ _ rfl (O.keeps (balloc (b0 _) _)) wr.heap.size p q rfl (Bw.new wr p q 23) hlen.out (by have := hw.out.lt; simp; omega) ?_; intro v2 w4 O2 b2)
        refine ⟨⟨j + 1, by rw [f4]; push_cast; rw [Int.add_assoc], ?_, Lib.hid (by have := hlt.out; push_cast; omega), (balloc hb _).trans (b2.mono (by omega)), (hw.out.past _).keeps' b2 (by omega)⟩, ?_⟩
        · rw [bs_snoc, hpt.out]
          exact O2
        · simp only [intOf]
          rw [f4]
          have := hlt.out
          omega
      · have q1 : decide (a + (j : Int) ≤ c) = false := decide_eq_false hlt
        have hP2 := hP.out
        rw [show (c - a + 1).toNat = j by have := hj.out; omega] at hP2
        replace hP2 := Lib.hid hP2
        replace hlt := Lib.hid hlt
        go_wp2_with fail
        go_ret
        rw [hP2.out] at O
        exact ⟨_, rfl, O.less (by omega), hb⟩
  · have q1 : decide (4096 ≤ c - a) = true := decide_eq_true (by omega)
    obtain rfl : [] = P := by
      have := hP.out
      rw [decide_eq_false hlim] at this
      exact this
    clear hbk hP
    go_wp2_with fail
    go_ret
    exact ⟨_, rfl, Own.nil _ _, b1⟩
end Go.Proofs.Ytdhdofgdeljajaa
