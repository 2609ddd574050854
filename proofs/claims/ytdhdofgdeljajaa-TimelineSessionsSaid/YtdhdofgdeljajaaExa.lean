/-
  The examples of the chapter.
-/
import Derived.Test.YtdhdofgdeljajaaSat
namespace Go.Proofs.Ytdhdofgdeljajaa
open Go.RowKit Go.Shelf

theorem sl_lit (w : World) (l : List I2) (cur : Array Value) (h : cur.toList = cs l) (hl : l.length ≤ 1000) : Sl (w.alloc (.cells cur 23)) (some ⟨w.heap.size, 0, none⟩) l.length l.length l := by
  have h1 := World.ownsRow_lit (base := w.heap.size) (e := 23) (size := 2) w cur l.length (Nat.le_refl _) (by unfold maxLen; omega) (by rw [← Array.length_toList, h, cs_length])
  rw [h] at h1
  obtain ⟨a, cap, e, S⟩ := Own.sl (v := .slice (some ⟨w.heap.size, 0, none⟩) l.length l.length) h1
  cases e
  exact S
theorem sn_lit (w : World) : Sn (w.alloc (.cells #[.int .i64 9, .int .i64 1, .int .i64 3, .int .i64 20, .int .i64 12] 3)) (some ⟨w.heap.size, 0, none⟩) 5 5 [9, 1, 3, 20, 12] := by
  refine ⟨.inr ⟨_, 0, rfl, fun j hj => ?_⟩, rfl, by omega, by omega, fun h => by cases h⟩
  match j, hj with
  | 0, _ => simp [go_sem, gn]
  | 1, _ => simp [go_sem, gn]
  | 2, _ => simp [go_sem, gn]
  | 3, _ => simp [go_sem, gn]
  | 4, _ => simp [go_sem, gn]
  | j + 5, hj => simp at hj; omega
theorem un_ex : Un [(5, 7), (1, 2), (8, 9), (3, 1)] [(1, 2), (5, 9)] :=
  un_mrg (l := [(5, 7), (1, 2), (8, 9), (3, 1)]) (s := [(1, 2), (5, 7), (8, 9)]) (by decide) (by simp [Asc])
theorem ses_ex : ses 3 1099511627776 [9, 1, 3, 20, 12] = [(1, 3), (9, 12), (20, 20)] := by decide
theorem satV_ex : satV 3 15 [9, 1, 3, 20, 12] = (9, 12) := by decide
theorem satB_ex : satB 3 15 [9, 1, 3, 20, 12] = true := by decide
theorem satB_ex2 : satB 3 16 [9, 1, 3, 20, 12] = false := by decide
theorem buk_ex : buk (7, 21) 10 = [(7, 9), (10, 19), (20, 21)] := by decide
theorem step_alloc {w w1 : World} {o : Obj} (d : Below (w.alloc o).heap.size (w.alloc o) w1) : Below w.heap.size w w1 := (balloc (b0 w) o).trans (d.mono (by simp))

theorem step_alloc2 {w w1 : World} {o o' : Obj} (d : Below (w.heap.size + 1 + 1) ((w.alloc o).alloc o') w1) : Below w.heap.size w w1 := (balloc (balloc (b0 w) o) o').trans (d.mono (by omega))
theorem step_alloc1 {w w1 : World} {o o' : Obj} (d : Below (w.heap.size + 1 + 1) ((w.alloc o).alloc o') w1) : Below (w.heap.size + 1) (w.alloc o) w1 := ((balloc (b0 (w.alloc o)) o').mono (by simp)).trans (d.mono (by omega))
set_option maxRecDepth 100000 in
set_option maxHeartbeats 600000 in
theorem example_any (w : World) : Calls Try.prog 14 #[] w fun e w' => e = .returned (.bool true) ∧ Below w.heap.size w w' := by
  have M1 : Hid (∀ w, Calls Try.prog 11 #[.agg #[.int .i64 3, .int .i64 9], .agg #[.int .i64 7, .int .i64 12]] w fun e w' => e = .returned (.tuple #[.agg #[.int .i64 7, .int .i64 9], .bool true]) ∧ Below w.heap.size w w') := fun w => meet_any 3 9 7 12 w
  have M2 : Hid (∀ w, Calls Try.prog 11 #[.agg #[.int .i64 3, .int .i64 5], .agg #[.int .i64 6, .int .i64 8]] w fun e w' => e = .returned (.tuple #[.agg #[.int .i64 0, .int .i64 0], .bool false]) ∧ Below w.heap.size w w') := fun w => meet_any 3 5 6 8 w
  have N1 : Hid (∀ w, Calls Try.prog 20 #[.agg #[.int .i64 2, .int .i64 10], .int .i64 25] w fun e w' => e = .returned (.tuple #[.agg #[.int .i64 16, .int .i64 25], .bool true]) ∧ Below w.heap.size w w') := fun w => bounds_any 2 10 25 w
  have N2 : Hid (∀ w, Calls Try.prog 20 #[.agg #[.int .i64 3, .int .i64 10], .int .i64 25] w fun e w' => e = .returned (.tuple #[.agg #[.int .i64 20, .int .i64 25], .bool true]) ∧ Below w.heap.size w w') := fun w => bounds_any 3 10 25 w
  have U1 := Lib.hid (fun w => union_any (some ⟨w.heap.size, 0, none⟩) 4 4 [(5, 7), (1, 2), (8, 9), (3, 1)] (w.alloc (.cells #[.int .i64 5, .int .i64 7, .int .i64 1, .int .i64 2, .int .i64 8, .int .i64 9, .int .i64 3, .int .i64 1] 23)) (sl_lit w [(5, 7), (1, 2), (8, 9), (3, 1)] _ rfl (by decide)) (by decide))
  have S1 := Lib.hid (fun w => Sessions_any (some ⟨w.heap.size, 0, none⟩) 5 5 [9, 1, 3, 20, 12] 3 (w.alloc (.cells #[.int .i64 9, .int .i64 1, .int .i64 3, .int .i64 20, .int .i64 12] 3)) (sn_lit w) (by decide))
  rw [ses_ex] at S1
  have A1 := Lib.hid (fun b w h => sessionAt_any (some ⟨b, 0, none⟩) 5 5 [9, 1, 3, 20, 12] 3 15 w h (by decide))
  rw [satV_ex, satB_ex] at A1
  have A2 := Lib.hid (fun b w h => sessionAt_any (some ⟨b, 0, none⟩) 5 5 [9, 1, 3, 20, 12] 3 16 w h (by decide))
  rw [satB_ex2] at A2
  have K1 := Lib.hid (fun w => buckets_any 7 21 10 w)
  rw [buk_ex] at K1
  go_enter Try.func14, Try.ntmps14
  go_wp2_with fail
  refine (M1.out _).mono ?_
  rintro e w1 ⟨rfl, d1⟩
  have c0 := Lib.hid (Bw.new w1 7 9 23)
  replace d1 := Lib.hid d1
  go_wp2_with fail
  refine (M2.out _).mono ?_
  rintro e w2 ⟨rfl, d⟩
  replace c0 := Lib.hid (c0.out.keeps d)
  have b2 := Lib.hid (bnext d1.out (step_alloc d))
  clear d
  generalize w1.heap.size = r1 at *
  go_wp2_with fail
  have UU := U1.out (w2.alloc (.cells #[.int .i64 0, .int .i64 0] 23))
  simp only [alloc_size] at UU
  replace UU := Lib.hid UU
  refine UU.out.mono ?_
  rintro e w3 ⟨v1, u, rfl, hu, _, O1, d⟩
  obtain rfl := hu.eq un_ex
  obtain ⟨a1, p1, hv, L1⟩ := O1.sl
  replace hv : v1 = .slice a1 2 p1 := hv
  subst hv
  replace L1 : Sl w3 a1 2 p1 [(1, 2), (5, 9)] := L1
  have s3 := Lib.hid (step_alloc2 d)
  replace c0 := Lib.hid (c0.out.keeps s3.out)
  have b3 := Lib.hid (bnext b2.out s3.out)
  replace L1 := Lib.hid L1
  clear d O1 hu s3 b2 U1 M1 M2
  go_wp2_with fail
  refine (N1.out _).mono ?_
  rintro e w4 ⟨rfl, d⟩
  replace c0 := Lib.hid (c0.out.keeps d)
  replace L1 := Lib.hid (L1.out.keeps d)
  have b4 := Lib.hid (bnext b3.out d)
  have c6 := Lib.hid (Bw.new w4 16 25 23)
  clear d b3
  go_wp2_with fail
  refine (N2.out _).mono ?_
  rintro e w5 ⟨rfl, d⟩
  have s5 := Lib.hid (step_alloc d)
  replace c0 := Lib.hid (c0.out.keeps s5.out)
  replace L1 := Lib.hid (L1.out.keeps s5.out)
  replace c6 := Lib.hid (c6.out.keeps d)
  have b5 := Lib.hid (bnext b4.out s5.out)
  have c8 := Lib.hid (Bw.new w5 20 25 23)
  clear d s5 b4 N1 N2
  generalize w4.heap.size = r6 at *
  go_wp2_with fail
  have E := sn_lit (w5.alloc (.cells #[.int .i64 20, .int .i64 25] 23))
  simp only [alloc_size] at E
  have SS := S1.out (w5.alloc (.cells #[.int .i64 20, .int .i64 25] 23))
  simp only [alloc_size] at SS
  replace SS := Lib.hid SS
  replace E := Lib.hid E
  refine SS.out.mono ?_
  rintro e w6 ⟨v2, rfl, O2, d⟩
  obtain ⟨a2, p2, hv, L2⟩ := O2.sl
  replace hv : v2 = .slice a2 3 p2 := hv
  subst hv
  replace L2 : Sl w6 a2 3 p2 [(1, 3), (9, 12), (20, 20)] := L2
  replace E := Lib.hid (E.out.keeps d)
  have s6 : Below w5.heap.size w5 w6 := step_alloc2 (d.mono (by simp))
  have s6' : Below (w5.heap.size + 1) (w5.alloc (.cells #[.int .i64 20, .int .i64 25] 23)) w6 := step_alloc1 (d.mono (by simp))
  replace c8 := Lib.hid (c8.out.keeps' s6' (by omega))
  replace c0 := Lib.hid (c0.out.keeps s6)
  replace L1 := Lib.hid (L1.out.keeps s6)
  replace c6 := Lib.hid (c6.out.keeps s6)
  have b6 := Lib.hid (bnext b5.out s6)
  replace L2 := Lib.hid L2
  clear d s6 s6' b5 S1 SS O2
  generalize w5.heap.size = r8 at *
  go_wp2_with fail
  refine (A1.out _ _ E.out).mono ?_
  rintro e w7 ⟨rfl, d⟩
  replace E := Lib.hid (E.out.keeps d)
  replace c0 := Lib.hid (c0.out.keeps d)
  replace L1 := Lib.hid (L1.out.keeps d)
  replace L2 := Lib.hid (L2.out.keeps d)
  replace c6 := Lib.hid (c6.out.keeps d)
  replace c8 := Lib.hid (c8.out.keeps d)
  have b7 := Lib.hid (bnext b6.out d)
  have c12 := Lib.hid (Bw.new w7 9 12 23)
  have E7 := Lib.hid (E.out.keeps (balloc (b0 w7) (.cells #[.int .i64 9, .int .i64 12] 23)))
  clear d b6 A1 E
  go_wp2_with fail
  refine (A2.out _ _ E7.out).mono ?_
  rintro e w8 ⟨rfl, d⟩
  have s8 := Lib.hid (step_alloc d)
  replace c0 := Lib.hid (c0.out.keeps s8.out)
  replace L1 := Lib.hid (L1.out.keeps s8.out)
  replace L2 := Lib.hid (L2.out.keeps s8.out)
  replace c6 := Lib.hid (c6.out.keeps s8.out)
  replace c8 := Lib.hid (c8.out.keeps s8.out)
  replace c12 := Lib.hid (c12.out.keeps d)
  have b8 := Lib.hid (bnext b7.out s8.out)
  clear d s8 b7 A2 E7
  generalize w7.heap.size = r12 at *
  go_wp2_with fail
  refine (K1.out _).mono ?_
  rintro e w9 ⟨v3, rfl, O3, d⟩
  obtain ⟨a3, p3, hv, L3⟩ := O3.sl
  replace hv : v3 = .slice a3 3 p3 := hv
  subst hv
  replace L3 : Sl w9 a3 3 p3 [(7, 9), (10, 19), (20, 21)] := L3
  have s9 := Lib.hid (step_alloc d)
  obtain ⟨x0, x1, _, _⟩ := c0.out.keeps s9.out
  replace L1 := Lib.hid (L1.out.keeps s9.out)
  replace L2 := Lib.hid (L2.out.keeps s9.out)
  replace c6 := Lib.hid (c6.out.keeps s9.out)
  replace c8 := Lib.hid (c8.out.keeps s9.out)
  replace c12 := Lib.hid (c12.out.keeps s9.out)
  replace L3 := Lib.hid L3
  have b9 := Lib.hid (bnext b8.out s9.out)
  clear d s9 b8 K1 O3 c0
  go_wp2_with fail
  refine (same_any a1 p1 (some ⟨w9.heap.size, 0, none⟩) 2 2 [(1, 2), (5, 9)] _ (L1.out.keeps (balloc (b0 w9) _)) (sl_lit w9 [(1, 2), (5, 9)] #[.int .i64 1, .int .i64 2, .int .i64 5, .int .i64 9] rfl (by decide))).mono ?_
  rintro e w10 ⟨rfl, d⟩
  have s10 := Lib.hid (step_alloc d)
  replace L2 := Lib.hid (L2.out.keeps s10.out)
  replace L3 := Lib.hid (L3.out.keeps s10.out)
  replace c6 := Lib.hid (c6.out.keeps s10.out)
  replace c8 := Lib.hid (c8.out.keeps s10.out)
  replace c12 := Lib.hid (c12.out.keeps s10.out)
  have b10 := Lib.hid (bnext b9.out s10.out)
  obtain ⟨y0, y1, _, _⟩ := c6.out
  obtain ⟨z0, z1, _, _⟩ := c8.out
  clear d s10 b9 L1 c6 c8
  go_wp2_with fail
  refine (same_any a2 p2 (some ⟨w10.heap.size, 0, none⟩) 3 3 [(1, 3), (9, 12), (20, 20)] _ (L2.out.keeps (balloc (b0 w10) _)) (sl_lit w10 [(1, 3), (9, 12), (20, 20)] #[.int .i64 1, .int .i64 3, .int .i64 9, .int .i64 12, .int .i64 20, .int .i64 20] rfl (by decide))).mono ?_
  rintro e w11 ⟨rfl, d⟩
  have s11 := Lib.hid (step_alloc d)
  replace L3 := Lib.hid (L3.out.keeps s11.out)
  replace c12 := Lib.hid (c12.out.keeps s11.out)
  have b11 := Lib.hid (bnext b10.out s11.out)
  obtain ⟨t0, t1, _, _⟩ := c12.out
  clear d s11 b10 L2 c12
  go_wp2_with fail
  refine (same_any a3 p3 (some ⟨w11.heap.size, 0, none⟩) 3 3 [(7, 9), (10, 19), (20, 21)] _ (L3.out.keeps (balloc (b0 w11) _)) (sl_lit w11 [(7, 9), (10, 19), (20, 21)] #[.int .i64 7, .int .i64 9, .int .i64 10, .int .i64 19, .int .i64 20, .int .i64 21] rfl (by decide))).mono ?_
  rintro e w12 ⟨rfl, d⟩
  have s12 := Lib.hid (step_alloc d)
  have b12 := Lib.hid (bnext b11.out s12.out)
  go_wp2_with fail
  go_ret
  exact ⟨rfl, b12.out⟩
end Go.Proofs.Ytdhdofgdeljajaa
