/-
  The specification's Scale and Mul return the product.
-/
import Derived.Test.YtdppmppipbbepaaRefRest
import Derived.Test.YtdppmppipbbepaaConv
namespace Go.Proofs.Ytdppmppipbbepaa
open Go.RowKit

theorem Row.zero (w : World) : Row (w.alloc (.cells #[.int .i64 0, .int .i64 0, .int .i64 0, .int .i64 0, .int .i64 0, .int .i64 0, .int .i64 0, .int .i64 0] 3)) w.heap.size (fun _ => 0) :=
  ⟨of_eight (by simp [go_sem]) (by simp [go_sem]) (by simp [go_sem]) (by simp [go_sem]) (by simp [go_sem]) (by simp [go_sem]) (by simp [go_sem]) (by simp [go_sem]), fun j _ => by simp [go_sem], by simp⟩

set_option maxHeartbeats 4000000 in
theorem refScale_any {x : Value} {a : Int} (n : Int) (hx : x = W a) (w : World) (n1 : -9223372036854775808 ≤ n) (n2 : n ≤ 9223372036854775807) :
    Calls Try.prog 27 #[x, .int .i64 n] w fun e w' => e = .returned (W (a * n)) ∧ Below w.heap.size w w' := by
  subst hx
  have dA := dgs_dg a
  have dB := dgs_dg n
  have cA := fun w => digits_any (x := W a) rfl w
  have cB := fun w => digits_any (x := W n) rfl w
  generalize (fun j => (dgs a).getD j 0) = fa at dA cA
  generalize (fun j => (dgs n).getD j 0) = fb at dB cB
  have CA := Lib.hid cA
  have CB := Lib.hid cB
  clear cA cB
  have DA := Lib.hid dA
  have DB := Lib.hid dB
  clear dA dB
  have eV := conv_dg DA.out DB.out
  have CC := Lib.hid (fun w g c (hR : Row w g (cv fa fb 8)) => carry_any (c := c) w hR (fun j hj => by have := cv_range DA.out.lo DA.out.hi DB.out.lo DB.out.hi 8 (by omega) j hj; omega) (fun j hj => by have := cv_range DA.out.lo DA.out.hi DB.out.lo DB.out.hi 8 (by omega) j hj; omega))
  have CM := Lib.hid (fun w g c (hR : Row w g (fun j => (cl (cv fa fb 8) 8).getD j 0)) => make_any (c := c) w hR ((cl_dg (cv fa fb 8)).congr eV))
  clear eV
  have hmk : ∀ w : World, (Instr.makeSlice 46 (.int .i64 8) (.int .i64 8)).run Try.prog w = .ok (.slice (some ⟨w.heap.size, 0, none⟩) 8 8) (w.alloc (.cells #[.int .i64 0, .int .i64 0, .int .i64 0, .int .i64 0, .int .i64 0, .int .i64 0, .int .i64 0, .int .i64 0] 3)) := fun _ => by kernel_rfl
  unfold W
  go_enter Try.func27, Try.ntmps27
  go_wp2_with fail
  refine (CA.out _).mono ?_
  rintro e w1 ⟨gx, cx, rfl, hgx, hcx, X, hb⟩
  have R := (Fresh.new (w.alloc (.cells #[.int .i64 (hi a), .int .u64 (lo a)] 24))).keeps hb
  have k1 := bnext (balloc (balloc (b0 w) _) _) hb
  simp only [World.size_alloc] at R hgx
  clear hb
  go_wp2_with fail
  refine (refOf_any n _ n1 n2).mono ?_
  rintro e w2 ⟨rfl, hb⟩
  replace X := X.keeps hb
  replace R := R.keeps hb
  have k2 := bnext k1 hb
  clear hb k1
  go_wp2_with fail
  refine (CB.out _).mono ?_
  rintro e w3 ⟨gy, cy, rfl, hgy, hcy, Y, hb⟩
  have hlt : gx < gy := Nat.lt_of_lt_of_le X.lt hgy
  replace X := X.keeps hb
  replace R := R.keeps hb
  have k3 := bnext k2 hb
  clear hb k2
  have O := (Row.zero w3).congr (f' := cv fa fb 0) (fun _ _ => rfl)
  have hgo : gy < w3.heap.size := Y.lt
  replace X := X.past (.cells #[.int .i64 0, .int .i64 0, .int .i64 0, .int .i64 0, .int .i64 0, .int .i64 0, .int .i64 0, .int .i64 0] 3)
  replace Y := Y.past (.cells #[.int .i64 0, .int .i64 0, .int .i64 0, .int .i64 0, .int .i64 0, .int .i64 0, .int .i64 0, .int .i64 0] 3)
  replace R := R.keeps ((Below.refl w3.heap.size w3).alloc (Nat.le_refl _) (.cells #[.int .i64 0, .int .i64 0, .int .i64 0, .int .i64 0, .int .i64 0, .int .i64 0, .int .i64 0, .int .i64 0] 3))
  have k4 := balloc k3 (.cells #[.int .i64 0, .int .i64 0, .int .i64 0, .int .i64 0, .int .i64 0, .int .i64 0, .int .i64 0, .int .i64 0] 3)
  clear k3
  go_wp2_with fail
  generalize w3.alloc (.cells #[.int .i64 0, .int .i64 0, .int .i64 0, .int .i64 0, .int .i64 0, .int .i64 0, .int .i64 0, .int .i64 0] 3) = w4 at *
  generalize w3.heap.size = go at *
  clear hmk
  go_loopw [8] (fun i wr => ∃ p : Nat, p ≤ 8 ∧ i = .int .i64 p ∧ Row wr go (cv fa fb p) ∧ Row wr gx fa ∧ Row wr gy fb ∧ Fresh wr (w.heap.size + 1) ∧ Below w.heap.size w wr) (fun i _ => 8 - (intOf i).toNat)
  case atStart => exact ⟨0, by omega, rfl, O, X, Y, R, k4⟩
  case round =>
    clear O X Y R k4
    obtain ⟨p, hp, rfl, O, X, Y, R, k4⟩ := hrel
    by_cases hlt8 : p < 8
    · have hd : decide ((p : Int) < 8) = true := by simp; omega
      go_wp2_with fail
      go_loopw [9] (fun k wq => ∃ q : Nat, p + q ≤ 8 ∧ k = .int .i64 q ∧ Row wq go (cw fa fb p q) ∧ Row wq gx fa ∧ Row wq gy fb ∧ Fresh wq (w.heap.size + 1) ∧ Below w.heap.size w wq) (fun k _ => 8 - (intOf k).toNat)
      case atStart => exact ⟨0, by omega, rfl, O.congr (fun j _ => (cw_zero fa fb p j).symm), X, Y, R, k4⟩
      case round =>
        clear O X Y R k4
        obtain ⟨q, hq, rfl, O, X, Y, R, k4⟩ := hrel
        by_cases hltq : p + q < 8
        · have o0 := O.cell (p + q) hltq
          rw [cw_at] at o0
          have o1 := O.free (p + q) hltq
          have x0 := X.cell p hlt8
          have y0 := Y.cell q (by omega)
          obtain ⟨a0, a1⟩ := cv_range DA.out.lo DA.out.hi DB.out.lo DB.out.hi p (by omega) (p + q) hltq
          obtain ⟨m0, m1⟩ := prod_range (DA.out.lo p hlt8) (DA.out.hi p hlt8) (DB.out.lo q (by omega)) (DB.out.hi q (by omega))
          have O' := ((O.put (p + q) (cv fa fb p (p + q) + fa p * fb q)).congr (fun j _ => cw_step fa fb p q j)).drew
          have X' := (X.off (g' := go) (by omega) (p + q) (.int .i64 (cv fa fb p (p + q) + fa p * fb q))).drew
          have Y' := (Y.off (g' := go) (by omega) (p + q) (.int .i64 (cv fa fb p (p + q) + fa p * fb q))).drew
          have R' := (R.off (g' := go) (by omega) (p + q) (.int .i64 (cv fa fb p (p + q) + fa p * fb q))).drew
          have k4' := (k4.setCell (p := ⟨go, p + q, none⟩) (by show w.heap.size ≤ go; omega) (.int .i64 (cv fa fb p (p + q) + fa p * fb q))).drew
          clear O X Y R k4
          go_wp2_with fail
          have s1 : IntKind.i64.wrap ((p : Int) + q) = p + q := IntWalk.i64_in _ (by omega)
          have s2 : ((p : Int) + q).toNat = p + q := by omega
          have s3 : 0 ≤ (p : Int) + q := by omega
          have s4 : (p : Int) + q < 8 := by omega
          have s7 : (q : Int) < 8 := by omega
          have s8 : (p : Int) < 8 := by omega
          have s5 : IntKind.i64.wrap (fa p * fb q) = fa p * fb q := IntWalk.i64_in _ (by omega)
          have s6 : IntKind.i64.wrap (cv fa fb p (p + q) + fa p * fb q) = cv fa fb p (p + q) + fa p * fb q := IntWalk.i64_in _ (by omega)
          refine still_tail 21 (by kernel_rfl) (by kernel_rfl) ?_
          simp only [List.take_succ_cons, List.take_zero, List.drop_succ_cons, List.drop_zero]
          repeat still_step
          refine wpStill_nil ?_
          go_wp2
          clear s1 s2 s5 s6
          go_roundw
          case rel => first | exact ⟨q + 1, by omega, by go_num, O', X', Y', R', k4'⟩ | ((repeat apply Exists.intro); exact ⟨⟨q + 1, by omega, by go_num, O', X', Y', R', k4'⟩, rfl⟩)
          case measure => simp [intOf]; omega
        · have O' := O.congr (fun j hj => cw_full fa fb p q j (by omega) hj)
          clear O
          go_wp2
          go_roundw
          case rel => first | exact ⟨p + 1, by omega, by go_num, O', X, Y, R, k4⟩ | ((repeat apply Exists.intro); exact ⟨⟨p + 1, by omega, by go_num, O', X, Y, R, k4⟩, rfl⟩)
          case measure => simp [intOf]; omega
    · obtain rfl : p = 8 := by omega
      clear X Y
      go_wp2_with fail
      refine (CC.out _ go 8 O).mono ?_
      rintro e w5 ⟨g', c', rfl, Z, hb⟩
      replace R := R.keeps hb
      have k5 := bnext k4 hb
      clear hb k4 O
      go_wp2_with fail
      refine (CM.out _ g' c' Z).mono ?_
      unfold W
      rintro e w6 ⟨rfl, hb⟩
      replace R := R.keeps hb
      have k6 := bnext k5 hb
      clear hb k5 Z
      have ⟨z0, z1, z2, z3, z4⟩ := R
      obtain ⟨r0, r1⟩ := R.put (a * n)
      have k7 := store2 k6 (k := w.heap.size + 1) (by omega) (.int .i64 (hi (a * n))) (.int .u64 (lo (a * n)))
      go_wp2
      simp [bodyPost, results, Try.results27, go_sem, r0, r1]
      exact k7
end Go.Proofs.Ytdppmppipbbepaa
