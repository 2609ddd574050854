/-
  The specification's Add and Sub return the sum and the difference.
-/
import Derived.Test.YtcndlcogainnkaaGreatDoorCarry
namespace Go.Proofs.YtcndlcogainnkaaGreatDoor.dec
open Go.RowKit

theorem setCell_size (w : World) (p : Addr) (v : Value) : (w.setCell p v).heap.size = w.heap.size := by simp
theorem Row.congr {w : World} {g : Nat} {f f' : Nat → Int} (h : Row w g f) (e : ∀ j, j < 8 → f j = f' j) : Row w g f' := ⟨fun j hj => by rw [← e j hj]; exact h.cell j hj, h.free, h.lt⟩
theorem Row.put {w : World} {g : Nat} {f : Nat → Int} (h : Row w g f) (k : Nat) (v : Int) : Row (w.setCell ⟨g, k, none⟩ (.int .i64 v)) g (fun j => if j = k then v else f j) := by
  refine ⟨fun j hj => ?_, fun j hj => by rw [World.frozen?_setCell]; exact h.free j hj, by rw [setCell_size]; exact h.lt⟩
  by_cases e : j = k
  · subst e
    rw [if_pos rfl]
    exact World.cell?_setCell_same _ _ _ (h.cell j hj)
  · rw [if_neg e, World.cell?_setCell_other _ _ _ _ (fun h => e (congrArg Addr.off h).symm)]
    exact h.cell j hj
theorem Row.off {w : World} {g g' : Nat} {f : Nat → Int} (h : Row w g f) (hg : g' ≠ g) (k : Nat) (v : Value) : Row (w.setCell ⟨g', k, none⟩ v) g f := by
  have e : ∀ o o', (⟨g', o, none⟩ : Addr) ≠ ⟨g, o', none⟩ := fun _ _ h => hg (congrArg Addr.block h)
  exact ⟨fun j hj => by rw [World.cell?_setCell_other _ _ _ _ (e k j)]; exact h.cell j hj, fun j hj => by rw [World.frozen?_setCell]; exact h.free j hj, by rw [setCell_size]; exact h.lt⟩
theorem Fresh.off {w : World} {g g' : Nat} (h : Fresh w g) (hg : g' ≠ g) (k : Nat) (v : Value) : Fresh (w.setCell ⟨g', k, none⟩ v) g := by
  have e : ∀ o o', (⟨g', o, none⟩ : Addr) ≠ ⟨g, o', none⟩ := fun _ _ h => hg (congrArg Addr.block h)
  exact ⟨by rw [World.cell?_setCell_other _ _ _ _ (e k 0)]; exact h.1, by rw [World.cell?_setCell_other _ _ _ _ (e k 1)]; exact h.2.1, by rw [World.frozen?_setCell]; exact h.2.2.1, by rw [World.frozen?_setCell]; exact h.2.2.2.1, by rw [setCell_size]; exact h.2.2.2.2⟩
theorem Row.drew {w : World} {g : Nat} {f : Nat → Int} (h : Row w g f) : Row w.drew g f := ⟨h.cell, h.free, h.lt⟩
theorem Fresh.drew {w : World} {g : Nat} (h : Fresh w g) : Fresh w.drew g := h

set_option maxRecDepth 100000 in
set_option maxHeartbeats 4000000 in
theorem refAdd_any {x y : Value} {a b : Int} (hx : x = W a) (hy : y = W b) (w : World) :
    Calls Tryz.prog 57 #[x, y] w fun e w' => e = .returned (W (a + b)) ∧ Below w.heap.size w w' := by
  subst hx hy
  have dA := dgs_dg a
  have dB := dgs_dg b
  have cA := fun w => digits_any (x := W a) rfl w
  have cB := fun w => digits_any (x := W b) rfl w
  generalize (fun j => (dgs a).getD j 0) = fa at dA cA
  generalize (fun j => (dgs b).getD j 0) = fb at dB cB
  have CA := Lib.hid cA
  have CB := Lib.hid cB
  clear cA cB
  have DA := Lib.hid dA
  have DB := Lib.hid dB
  clear dA dB
  have eV := val_add DA.out DB.out
  have CC := Lib.hid (fun w g c (hR : Row w g (fun j => fa j + fb j)) => carry_any (c := c) w hR (fun j hj => by have := DA.out.lo j hj; have := DA.out.hi j hj; have := DB.out.lo j hj; have := DB.out.hi j hj; omega) (fun j hj => by have := DA.out.lo j hj; have := DA.out.hi j hj; have := DB.out.lo j hj; have := DB.out.hi j hj; omega))
  have CM := Lib.hid (fun w g c (hR : Row w g (fun j => (cl (fun j => fa j + fb j) 8).getD j 0)) => make_any (c := c) w hR ((cl_dg (fun j => fa j + fb j)).congr eV))
  clear eV
  unfold W
  go_enter Tryz.func57, Tryz.ntmps57
  go_wp2_with fail
  refine (CA.out _).mono ?_
  rintro e w1 ⟨gx, cx, rfl, hgx, hcx, X, hb⟩
  have B := ((Box.new (w.alloc (.cells #[.int .i64 (hi a), .int .u64 (lo a)] 45)) b).past (.cells #[.int .i64 0, .int .u64 0] 45)).keeps hb
  have R := (Fresh.new ((w.alloc (.cells #[.int .i64 (hi a), .int .u64 (lo a)] 45)).alloc (.cells #[.int .i64 (hi b), .int .u64 (lo b)] 45))).keeps hb
  have k1 := bnext (balloc (balloc (balloc (b0 w) _) _) _) hb
  simp only [World.size_alloc] at B R hgx
  clear hb
  have ⟨B0, B1⟩ := B
  go_wp2_with fail
  refine (CB.out _).mono ?_
  rintro e w2 ⟨gy, cy, rfl, hgy, hcy, Y, hb⟩
  clear B0 B1
  have hlt : gx < gy := Nat.lt_of_lt_of_le X.lt hgy
  replace X := X.keeps hb
  replace R := R.keeps hb
  have k2 := bnext k1 hb
  clear hb k1 B
  go_wp2_with fail
  go_loopw [7] (fun i wr => ∃ k : Nat, k ≤ 8 ∧ i = .int .i64 k ∧ Row wr gx (fun j => if j < k then fa j + fb j else fa j) ∧ Row wr gy fb ∧ Fresh wr (w.heap.size + 1 + 1) ∧ Below w.heap.size w wr) (fun i _ => 8 - (intOf i).toNat)
  case atStart => exact ⟨0, by omega, rfl, X.congr (fun j _ => by rw [if_neg (by omega)]), Y, R, k2⟩
  case round =>
    clear X Y R k2
    obtain ⟨k, hk, rfl, X, Y, R, k2⟩ := hrel
    by_cases hlt8 : k < 8
    · have x0 := X.cell k hlt8
      have x1 := X.free k hlt8
      have y0 := Y.cell k hlt8
      rw [if_neg (by omega)] at x0
      have a0 := DA.out.lo k hlt8
      have a1 := DA.out.hi k hlt8
      have b0' := DB.out.lo k hlt8
      have b1 := DB.out.hi k hlt8
      have X' : Row (wr.setCell ⟨gx, k, none⟩ (.int .i64 (fa k + fb k))).drew gx (fun j => if j < k + 1 then fa j + fb j else fa j) := ((X.put k (fa k + fb k)).congr (fun j _ => by
        by_cases e : j = k
        · rw [if_pos e, if_pos (by omega), e]
        · rw [if_neg e]
          by_cases e' : j < k
          · rw [if_pos e', if_pos (by omega)]
          · rw [if_neg e', if_neg (by omega)])).drew
      have Y' := (Y.off (g' := gx) (by omega) k (.int .i64 (fa k + fb k))).drew
      have R' := (R.off (g' := gx) (by omega) k (.int .i64 (fa k + fb k))).drew
      have k2' : Below w.heap.size w (wr.setCell ⟨gx, k, none⟩ (.int .i64 (fa k + fb k))).drew := (k2.setCell (p := ⟨gx, k, none⟩) (by show w.heap.size ≤ gx; omega) _).drew
      clear X Y R k2
      go_wp2_with fail
      refine still_tail 12 (by kernel_rfl) (by kernel_rfl) ?_
      simp only [List.take_succ_cons, List.take_zero, List.drop_succ_cons, List.drop_zero]
      repeat still_step
      refine wpStill_nil ?_
      go_wp2
      go_roundw
      case rel => exact ⟨k + 1, by omega, by go_num, X', Y', R', k2'⟩
      case measure => simp [intOf]; omega
    · obtain rfl : k = 8 := by omega
      have X' := X.congr (f' := fun j => fa j + fb j) (fun j hj => by rw [if_pos hj])
      clear X Y
      go_wp2_with fail
      refine (CC.out _ gx cx X').mono ?_
      rintro e w3 ⟨g', c', rfl, Z, hb⟩
      replace R := R.keeps hb
      have k3 := bnext k2 hb
      clear hb k2 X'
      go_wp2_with fail
      refine (CM.out _ g' c' Z).mono ?_
      unfold W
      rintro e w4 ⟨rfl, hb⟩
      replace R := R.keeps hb
      have k4 := bnext k3 hb
      clear hb k3 Z
      have ⟨z0, z1, z2, z3, z4⟩ := R
      obtain ⟨r0, r1⟩ := R.put (a + b)
      have k5 := store2 k4 (k := w.heap.size + 1 + 1) (by omega) (.int .i64 (hi (a + b))) (.int .u64 (lo (a + b)))
      go_wp2
      simp [bodyPost, results, Tryz.results57, go_sem, r0, r1]
      exact k5

set_option maxRecDepth 100000 in
set_option maxHeartbeats 4000000 in
theorem refSub_any {x y : Value} {a b : Int} (hx : x = W a) (hy : y = W b) (w : World) :
    Calls Tryz.prog 116 #[x, y] w fun e w' => e = .returned (W (a - b)) ∧ Below w.heap.size w w' := by
  subst hx hy
  have dA := dgs_dg a
  have dB := dgs_dg b
  have cA := fun w => digits_any (x := W a) rfl w
  have cB := fun w => digits_any (x := W b) rfl w
  generalize (fun j => (dgs a).getD j 0) = fa at dA cA
  generalize (fun j => (dgs b).getD j 0) = fb at dB cB
  have CA := Lib.hid cA
  have CB := Lib.hid cB
  clear cA cB
  have DA := Lib.hid dA
  have DB := Lib.hid dB
  clear dA dB
  have eV := val_sub DA.out DB.out
  have CC := Lib.hid (fun w g c (hR : Row w g (fun j => fa j - fb j)) => carry_any (c := c) w hR (fun j hj => by have := DA.out.lo j hj; have := DA.out.hi j hj; have := DB.out.lo j hj; have := DB.out.hi j hj; omega) (fun j hj => by have := DA.out.lo j hj; have := DA.out.hi j hj; have := DB.out.lo j hj; have := DB.out.hi j hj; omega))
  have CM := Lib.hid (fun w g c (hR : Row w g (fun j => (cl (fun j => fa j - fb j) 8).getD j 0)) => make_any (c := c) w hR ((cl_dg (fun j => fa j - fb j)).congr eV))
  clear eV
  unfold W
  go_enter Tryz.func116, Tryz.ntmps116
  go_wp2_with fail
  refine (CA.out _).mono ?_
  rintro e w1 ⟨gx, cx, rfl, hgx, hcx, X, hb⟩
  have B := ((Box.new (w.alloc (.cells #[.int .i64 (hi a), .int .u64 (lo a)] 45)) b).past (.cells #[.int .i64 0, .int .u64 0] 45)).keeps hb
  have R := (Fresh.new ((w.alloc (.cells #[.int .i64 (hi a), .int .u64 (lo a)] 45)).alloc (.cells #[.int .i64 (hi b), .int .u64 (lo b)] 45))).keeps hb
  have k1 := bnext (balloc (balloc (balloc (b0 w) _) _) _) hb
  simp only [World.size_alloc] at B R hgx
  clear hb
  have ⟨B0, B1⟩ := B
  go_wp2_with fail
  refine (CB.out _).mono ?_
  rintro e w2 ⟨gy, cy, rfl, hgy, hcy, Y, hb⟩
  clear B0 B1
  have hlt : gx < gy := Nat.lt_of_lt_of_le X.lt hgy
  replace X := X.keeps hb
  replace R := R.keeps hb
  have k2 := bnext k1 hb
  clear hb k1 B
  go_wp2_with fail
  go_loopw [7] (fun i wr => ∃ k : Nat, k ≤ 8 ∧ i = .int .i64 k ∧ Row wr gx (fun j => if j < k then fa j - fb j else fa j) ∧ Row wr gy fb ∧ Fresh wr (w.heap.size + 1 + 1) ∧ Below w.heap.size w wr) (fun i _ => 8 - (intOf i).toNat)
  case atStart => exact ⟨0, by omega, rfl, X.congr (fun j _ => by rw [if_neg (by omega)]), Y, R, k2⟩
  case round =>
    clear X Y R k2
    obtain ⟨k, hk, rfl, X, Y, R, k2⟩ := hrel
    by_cases hlt8 : k < 8
    · have x0 := X.cell k hlt8
      have x1 := X.free k hlt8
      have y0 := Y.cell k hlt8
      rw [if_neg (by omega)] at x0
      have a0 := DA.out.lo k hlt8
      have a1 := DA.out.hi k hlt8
      have b0' := DB.out.lo k hlt8
      have b1 := DB.out.hi k hlt8
      have X' : Row (wr.setCell ⟨gx, k, none⟩ (.int .i64 (fa k - fb k))).drew gx (fun j => if j < k + 1 then fa j - fb j else fa j) := ((X.put k (fa k - fb k)).congr (fun j _ => by
        by_cases e : j = k
        · rw [if_pos e, if_pos (by omega), e]
        · rw [if_neg e]
          by_cases e' : j < k
          · rw [if_pos e', if_pos (by omega)]
          · rw [if_neg e', if_neg (by omega)])).drew
      have Y' := (Y.off (g' := gx) (by omega) k (.int .i64 (fa k - fb k))).drew
      have R' := (R.off (g' := gx) (by omega) k (.int .i64 (fa k - fb k))).drew
      have k2' : Below w.heap.size w (wr.setCell ⟨gx, k, none⟩ (.int .i64 (fa k - fb k))).drew := (k2.setCell (p := ⟨gx, k, none⟩) (by show w.heap.size ≤ gx; omega) _).drew
      clear X Y R k2
      go_wp2_with fail
      refine still_tail 12 (by kernel_rfl) (by kernel_rfl) ?_
      simp only [List.take_succ_cons, List.take_zero, List.drop_succ_cons, List.drop_zero]
      repeat still_step
      refine wpStill_nil ?_
      go_wp2
      go_roundw
      case rel => exact ⟨k + 1, by omega, by go_num, X', Y', R', k2'⟩
      case measure => simp [intOf]; omega
    · obtain rfl : k = 8 := by omega
      have X' := X.congr (f' := fun j => fa j - fb j) (fun j hj => by rw [if_pos hj])
      clear X Y
      go_wp2_with fail
      refine (CC.out _ gx cx X').mono ?_
      rintro e w3 ⟨g', c', rfl, Z, hb⟩
      replace R := R.keeps hb
      have k3 := bnext k2 hb
      clear hb k2 X'
      go_wp2_with fail
      refine (CM.out _ g' c' Z).mono ?_
      unfold W
      rintro e w4 ⟨rfl, hb⟩
      replace R := R.keeps hb
      have k4 := bnext k3 hb
      clear hb k3 Z
      have ⟨z0, z1, z2, z3, z4⟩ := R
      obtain ⟨r0, r1⟩ := R.put (a - b)
      have k5 := store2 k4 (k := w.heap.size + 1 + 1) (by omega) (.int .i64 (hi (a - b))) (.int .u64 (lo (a - b)))
      go_wp2
      simp [bodyPost, results, Tryz.results116, go_sem, r0, r1]
      exact k5
end Go.Proofs.YtcndlcogainnkaaGreatDoor.dec
