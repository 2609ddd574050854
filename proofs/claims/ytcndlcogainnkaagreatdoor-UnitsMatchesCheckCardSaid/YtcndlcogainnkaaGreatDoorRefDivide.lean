/-
  The specification's Divide, by long division, returns the rounded quotient, or nothing.
-/
import Derived.Test.YtcndlcogainnkaaGreatDoorTwice
import Derived.Test.YtcndlcogainnkaaGreatDoorLong
import Derived.Deep.CutBlock
import Derived.Deep.DeepCutAuto
namespace Go.Proofs.YtcndlcogainnkaaGreatDoor.dec
open Go.RowKit

/-- What a round of the long division knows: the rows of the number, the divisor and the rest, the parameter, and that nothing old changed. -/
structure Lg (w wr : World) (a : Int) (gx gy gr : Nat) (fx fy fr : Nat → Int) : Prop where
  X : Row wr gx fx
  Y : Row wr gy fy
  R : Row wr gr fr
  B : Box wr w.heap.size a
  k : Below w.heap.size w wr
theorem Lg.next {w wr w1 : World} {a : Int} {gx gy gr : Nat} {fx fy fr : Nat → Int} (h : Lg w wr a gx gy gr fx fy fr) (hb : Below wr.heap.size wr w1) : Lg w w1 a gx gy gr fx fy fr :=
  ⟨h.X.keeps hb, h.Y.keeps hb, h.R.keeps hb, h.B.keeps hb, bnext h.k hb⟩
theorem Lg.rest {w wr : World} {a : Int} {gx gy gr gr' : Nat} {fx fy fr fr' : Nat → Int} (h : Lg w wr a gx gy gr fx fy fr) (h' : Row wr gr' fr') : Lg w wr a gx gy gr' fx fy fr' := ⟨h.X, h.Y, h', h.B, h.k⟩

theorem hmk8 (w : World) : (Instr.makeSlice 90 (.int .i64 8) (.int .i64 8)).run Tryz.prog w = .ok (.slice (some ⟨w.heap.size, 0, none⟩) 8 8) (w.alloc (.cells #[.int .i64 0, .int .i64 0, .int .i64 0, .int .i64 0, .int .i64 0, .int .i64 0, .int .i64 0, .int .i64 0] 3)) := by kernel_rfl

theorem Row.zero (w : World) : Row (w.alloc (.cells #[.int .i64 0, .int .i64 0, .int .i64 0, .int .i64 0, .int .i64 0, .int .i64 0, .int .i64 0, .int .i64 0] 3)) w.heap.size (fun _ => 0) :=
  ⟨of_eight (by simp [go_sem]) (by simp [go_sem]) (by simp [go_sem]) (by simp [go_sem]) (by simp [go_sem]) (by simp [go_sem]) (by simp [go_sem]) (by simp [go_sem]), fun j _ => by simp [go_sem], by simp⟩

set_option maxRecDepth 100000 in
set_option maxHeartbeats 8000000 in
theorem refDivide_u {a : Int} (d : Int) (ia : In a) (w : World) (d1 : -9223372036854775808 ≤ d) (d2 : d ≤ 9223372036854775807) :
    Calls Tryz.prog 58 #[.agg #[.int .i64 (hi a), .int .u64 (lo a)], .int .i64 d] w fun e w' => e = .returned (.tuple #[.int .i64 (dv a d), .bool (dvOk a d)]) ∧ Below w.heap.size w w' := by
  by_cases hd : d = 0
  · have hn : dvOk a d = false := by unfold dvOk; simp [hd]
    have e1 := Lib.hid hn
    have e2 := Lib.hid (no_result hn)
    have h0 : (d == 0) = true := by rw [beq_iff_eq]; exact hd
    clear hn hd
    go_enter Tryz.func58, Tryz.ntmps58
    go_wp2
    go_ret2
    exact ⟨by rw [e1.out, e2.out]; rfl, balloc (b0 w) _⟩
  · have h0 : (d == 0) = false := by rw [beq_eq_false_iff_ne]; exact hd
    have id : In d := by unfold In; omega
    obtain ⟨A, D, ah, al, q, r, x, h⟩ : ∃ A D ah al q r x, Dv a d A D ah al q r x := ⟨_, _, _, _, _, _, _, rfl, rfl, rfl, rfl, rfl, rfl, rfl⟩
    have rA := ab_nonneg a
    have rA' : ab a < 340282366920938463463374607431768211456 := by unfold In at ia; unfold ab; split <;> omega
    have rD : 0 < ab d := by unfold ab; split <;> omega
    have rD' : ab d ≤ 9223372036854775808 := by unfold ab; split <;> omega
    have sa := hi_neg ia
    rw [h.A0] at rA rA'
    rw [h.D0] at rD rD'
    have CA := Lib.hid (fun w => refSize_any ia w)
    have CD := Lib.hid (fun w => refSize_any id w)
    have HD0 : Hid (ab d = D) := h.D0
    have HA0 : Hid (ab a = A) := h.A0
    have SA := Lib.hid sa
    have H := Lib.hid h
    clear sa h
    go_enter Tryz.func58, Tryz.ntmps58
    go_wp2_with fail
    refine (CA.out _).mono ?_
    rw [HA0.out]
    rintro e w1 ⟨gx, cx, fx, rfl, X, DX, hb⟩
    have B := (Box.new w a).keeps hb
    have k1 := bnext (balloc (b0 w) _) hb
    clear hb
    go_wp2_with fail
    refine (refOf_any d _ d1 d2).mono ?_
    rintro e w2 ⟨rfl, hb⟩
    replace X := X.keeps hb
    replace B := B.keeps hb
    have k2 := bnext k1 hb
    clear hb k1
    go_wp2_with fail
    refine (CD.out _).mono ?_
    rw [HD0.out]
    rintro e w3 ⟨gy, cy, fy, rfl, Y, DY, hb⟩
    replace X := X.keeps hb
    replace B := B.keeps hb
    have k3 := bnext k2 hb
    clear hb k2
    have hmk := hmk8
    have hb := (Below.refl w3.heap.size w3).alloc (Nat.le_refl _) (.cells #[.int .i64 0, .int .i64 0, .int .i64 0, .int .i64 0, .int .i64 0, .int .i64 0, .int .i64 0, .int .i64 0] 3)
    have L : Lg w _ a gx gy w3.heap.size fx fy (fun _ => 0) := ⟨X.keeps hb, Y.keeps hb, Row.zero w3, B.keeps hb, bnext k3 hb⟩
    have DR : Dg (fun _ => 0) (rk A D 128) := by
      rw [rk_top D rA rA']
      exact ⟨fun _ _ => by omega, fun _ _ => by omega, by simp [val]⟩
    have q128 := qk_top D rA rA'
    clear X Y B k3 hb
    go_wp2_with fail
    go_loopw [8, 9, 10] (fun vr vq vi wr => ∃ (k : Nat) (z : Int) (gr cr : Nat) (fr : Nat → Int), k ≤ 128 ∧ z = (k : Int) - 1 ∧ vi = .int .i64 z ∧ vq = .int .i64 (qk A D k) ∧ qk A D k ≤ 1152921504606846976 ∧ vr = .slice (some ⟨gr, 0, none⟩) 8 cr ∧ Dg fr (rk A D k) ∧ Lg w wr a gx gy gr fx fy fr) (fun _ _ i _ => (intOf i + 1).toNat)
    case atStart => exact ⟨128, 127, _, _, _, by omega, rfl, rfl, by rw [q128], by rw [q128]; omega, rfl, DR, L⟩
    case round =>
      clear L DR q128 hmk
      obtain ⟨k, z, gr, cr, fr, hk, hz, rfl, rfl, hq, rfl, DR, L⟩ := hrel
      cases k with
      | zero =>
        obtain rfl : z = -1 := by omega
        clear hz
        have r0 := rk_range (A := A) rD 0
        have q0 := (qk_range rA rD 0).1
        obtain ⟨r0, r1⟩ := r0
        have hqk : qk A D 0 = q := by rw [qk_zero, H.out.eq]
        have hrk : rk A D 0 = r := by rw [rk_zero, H.out.er]
        have hx := H.out.ex
        rw [hqk] at q0 hq
        rw [hrk] at r0 r1 DR
        have HX := Lib.hid hx
        have QK := Lib.hid hqk
        clear hx hrk hqk
        rw [QK.out]
        go_wp2_with fail
        refine (twice_any _ L.R DR (by omega) (by omega)).mono ?_
        rintro e w4 ⟨g4, c4, f4, rfl, R4, D4, hb⟩
        replace L := (L.next hb).rest R4
        clear hb R4 DR
        go_upto_region 19 with fail
        go_cut [65] (fun s wx => s = .bool (decide (x = 1)) ∧ Box wx w.heap.size a ∧ Below w.heap.size w wx)
        case first =>
          go_wp2_with fail
          by_cases c1 : D < 2 * r + 0
          · refine (below_any _ L.Y L.R DY D4 (by omega) (by omega) (by omega) (by omega)).mono ?_
            rw [decide_eq_true c1]
            rintro e w5 ⟨rfl, hb⟩
            replace L := L.next hb
            clear hb
            have hx : x = 1 := by rw [HX.out]; unfold ru; rw [if_pos (by omega)]
            have HX1 : Hid (decide (x = 1) = true) := by unfold Hid; rw [hx]; rfl
            clear hx c1
            go_wp2_with fail
            go_meet
            exact ⟨by rw [HX1.out], L.B, L.k⟩
          · refine (below_any _ L.Y L.R DY D4 (by omega) (by omega) (by omega) (by omega)).mono ?_
            rw [decide_eq_false c1]
            rintro e w5 ⟨rfl, hb⟩
            replace L := L.next hb
            clear hb
            go_wp2_with fail
            by_cases c2 : 2 * r + 0 < D
            · refine (below_any _ L.R L.Y D4 DY (by omega) (by omega) (by omega) (by omega)).mono ?_
              rw [decide_eq_true c2]
              rintro e w6 ⟨rfl, hb⟩
              replace L := L.next hb
              clear hb
              have hx : x = 0 := by rw [HX.out]; unfold ru; rw [if_neg (by omega)]
              have HX1 : Hid (decide (x = 1) = false) := by unfold Hid; rw [hx]; rfl
              clear hx c1 c2
              go_wp2_with fail
              go_meet
              exact ⟨by rw [HX1.out], L.B, L.k⟩
            · refine (below_any _ L.R L.Y D4 DY (by omega) (by omega) (by omega) (by omega)).mono ?_
              rw [decide_eq_false c2]
              rintro e w6 ⟨rfl, hb⟩
              replace L := L.next hb
              clear hb
              by_cases c3 : q % 2 = 1
              · have hx : x = 1 := by rw [HX.out]; unfold ru; rw [if_pos (by omega)]
                have HX1 : Hid (decide (x = 1) = true) := by unfold Hid; rw [hx]; rfl
                have c3' : (q % 2 == 1) = true := by rw [beq_iff_eq]; exact c3
                clear hx c1 c2 c3
                go_wp2_with fail
                go_meet
                exact ⟨by rw [HX1.out], L.B, L.k⟩
              · have hx : x = 0 := by rw [HX.out]; unfold ru; rw [if_neg (by omega)]
                have HX1 : Hid (decide (x = 1) = false) := by unfold Hid; rw [hx]; rfl
                have c3' : (q % 2 == 1) = false := by rw [beq_eq_false_iff_ne]; exact c3
                clear hx c1 c2 c3
                go_wp2_with fail
                go_meet
                exact ⟨by rw [HX1.out], L.B, L.k⟩
        case rest =>
          obtain ⟨rfl, B, k5⟩ := hcut
          clear L D4 DX DY
          have ⟨B0, B1⟩ := B
          have hx := ru_two q r D
          rw [← HX.out] at hx
          rcases hx with rfl | rfl
          · skip
            by_cases hl : q ≤ 1152921504606846976
            · clear HX QK hq
              have hs := H.out.sq
              have hok := dvOk_of H.out
              rw [decide_eq_true (show D ≠ 0 ∧ q + 0 ≤ 1152921504606846976 from ⟨by omega, by omega⟩)] at hok
              have N1 := Lib.hid hok
              have N2 := Lib.hid (dv_yes hok)
              clear hok
              by_cases t1 : a < 0
              · have t1' : hi a < 0 := SA.out.2 t1
                have t1'' : decide (hi a < 0) = true := by simp; omega
                by_cases t2 : d < 0
                · have t2' : decide (d < 0) = true := by simp; omega
                  rw [if_neg (by omega)] at hs
                  have N3 := Lib.hid hs
                  clear hs
                  go_wp2_with fail
                  go_ret2
                  exact ⟨by rw [N1.out, N2.out, N3.out]; rw [Int.add_zero]; rfl, k5⟩
                · have t2' : decide (d < 0) = false := by simp; omega
                  rw [if_pos (by omega)] at hs
                  have N3 := Lib.hid hs
                  clear hs
                  go_wp2_with fail
                  go_ret2
                  exact ⟨by rw [N1.out, N2.out, N3.out]; rw [Int.add_zero]; rfl, k5⟩
              · have t1' : ¬ hi a < 0 := fun h => t1 (SA.out.1 h)
                have t1'' : decide (hi a < 0) = false := by simp; omega
                by_cases t2 : d < 0
                · have t2' : decide (d < 0) = true := by simp; omega
                  rw [if_pos (by omega)] at hs
                  have N3 := Lib.hid hs
                  clear hs
                  go_wp2_with fail
                  go_ret2
                  exact ⟨by rw [N1.out, N2.out, N3.out]; rw [Int.add_zero]; rfl, k5⟩
                · have t2' : decide (d < 0) = false := by simp; omega
                  rw [if_neg (by omega)] at hs
                  have N3 := Lib.hid hs
                  clear hs
                  go_wp2_with fail
                  go_ret2
                  exact ⟨by rw [N1.out, N2.out, N3.out]; rw [Int.add_zero]; rfl, k5⟩
            · exact absurd hq hl
          · skip
            by_cases hl : q + 1 ≤ 1152921504606846976
            · clear HX QK hq
              have hs := H.out.sq
              have hok := dvOk_of H.out
              rw [decide_eq_true (show D ≠ 0 ∧ q + 1 ≤ 1152921504606846976 from ⟨by omega, by omega⟩)] at hok
              have N1 := Lib.hid hok
              have N2 := Lib.hid (dv_yes hok)
              clear hok
              by_cases t1 : a < 0
              · have t1' : hi a < 0 := SA.out.2 t1
                have t1'' : decide (hi a < 0) = true := by simp; omega
                by_cases t2 : d < 0
                · have t2' : decide (d < 0) = true := by simp; omega
                  rw [if_neg (by omega)] at hs
                  have N3 := Lib.hid hs
                  clear hs
                  go_wp2_with fail
                  go_ret2
                  exact ⟨by rw [N1.out, N2.out, N3.out]; rfl, k5⟩
                · have t2' : decide (d < 0) = false := by simp; omega
                  rw [if_pos (by omega)] at hs
                  have N3 := Lib.hid hs
                  clear hs
                  go_wp2_with fail
                  go_ret2
                  exact ⟨by rw [N1.out, N2.out, N3.out]; rfl, k5⟩
              · have t1' : ¬ hi a < 0 := fun h => t1 (SA.out.1 h)
                have t1'' : decide (hi a < 0) = false := by simp; omega
                by_cases t2 : d < 0
                · have t2' : decide (d < 0) = true := by simp; omega
                  rw [if_pos (by omega)] at hs
                  have N3 := Lib.hid hs
                  clear hs
                  go_wp2_with fail
                  go_ret2
                  exact ⟨by rw [N1.out, N2.out, N3.out]; rfl, k5⟩
                · have t2' : decide (d < 0) = false := by simp; omega
                  rw [if_neg (by omega)] at hs
                  have N3 := Lib.hid hs
                  clear hs
                  go_wp2_with fail
                  go_ret2
                  exact ⟨by rw [N1.out, N2.out, N3.out]; rfl, k5⟩
            · have hn := H.out.none2 (show 1152921504606846976 < q + 1 by omega)
              have N1 := Lib.hid hn
              have N2 := Lib.hid (no_result hn)
              clear hn HX QK
              go_wp2_with fail
              go_ret2
              exact ⟨by rw [N1.out, N2.out]; rfl, k5⟩
      | succ k =>
        obtain rfl : z = (k : Int) := by omega
        clear hz
        obtain ⟨j, s, hj, hs, hks⟩ : ∃ j s : Nat, j < 8 ∧ s < 16 ∧ k = 16 * j + s := ⟨k / 16, k % 16, by omega, by omega, by omega⟩
        have v1 : (k : Int) / 16 = (j : Int) := by omega
        have v2 : (k : Int) % 16 = (s : Int) := by omega
        have v3 : (j : Int) < 8 := by omega
        obtain ⟨b, hb2, hbit⟩ : ∃ b, fx j / 2 ^ s % 2 = b ∧ A / 2 ^ k % 2 = b := ⟨_, rfl, by rw [hks]; exact (bit_at DX rA rA' j s hj hs).symm⟩
        have b0' : 0 ≤ b := by omega
        have b1' : b ≤ 1 := by omega
        have ST := Lib.hid (long_step (A := A) (D := D) (b := b) k rD hbit)
        clear hbit hks
        have t0 := L.X.cell j hj
        have t1 := DX.lo j hj
        have t2 := DX.hi j hj
        have t3 : 0 ≤ fx j / 2 ^ s := Int.ediv_nonneg t1 (Int.le_of_lt (pw_pos s))
        have q0 := (qk_range rA rD (k + 1)).1
        have r0 := rk_range (A := A) rD (k + 1)
        obtain ⟨r0, r1⟩ := r0
        go_wp2_with fail
        refine (twice_any _ L.R DR b0' b1').mono ?_
        rintro e w4 ⟨g4, c4, f4, rfl, R4, D4, hb⟩
        replace L := (L.next hb).rest R4
        clear hb R4 DR t0 t1 t2 t3 hb2 v1 v2 v3
        go_wp2_with fail
        by_cases hT : 2 * rk A D (k + 1) + b < D
        · refine (below_any _ L.R L.Y D4 DY (by omega) (by omega) (by omega) (by omega)).mono ?_
          rw [decide_eq_true hT]
          rintro e w5 ⟨rfl, hb⟩
          replace L := L.next hb
          clear hb
          obtain ⟨s1, s2⟩ := ST.out.1 hT
          rw [← s2] at D4
          have q1 := (qk_range rA rD k).2
          by_cases hl : qk A D k ≤ 1152921504606846976
          · have l1 : 2 * qk A D (k + 1) ≤ 1152921504606846976 := by omega
            have S1 := Lib.hid s1
            clear s1 s2 hT
            go_wp2_with fail
            exact ⟨⟨k, (k : Int) - 1, g4, c4, f4, by omega, rfl, rfl, by rw [S1.out], hl, rfl, D4, L⟩, by simp [intOf]⟩
          · have l1 : 1152921504606846976 < 2 * qk A D (k + 1) := by omega
            have hn := H.out.none3 (by rw [H.out.eq]; omega)
            have N1 := Lib.hid hn
            have N2 := Lib.hid (no_result hn)
            clear s1 s2 hT hn
            go_wp2_with fail
            go_ret2
            exact ⟨by rw [N1.out, N2.out]; rfl, L.k⟩
        · refine (below_any _ L.R L.Y D4 DY (by omega) (by omega) (by omega) (by omega)).mono ?_
          rw [decide_eq_false hT]
          rintro e w5 ⟨rfl, hb⟩
          replace L := L.next hb
          clear hb
          go_wp2_with fail
          refine (minus_any _ L.R L.Y D4 DY).mono ?_
          rintro e w6 ⟨g6, c6, f6, rfl, R6, D6, hb⟩
          replace L := (L.next hb).rest R6
          clear hb R6 D4
          obtain ⟨s1, s2⟩ := ST.out.2 hT
          rw [← s2] at D6
          have q1 := (qk_range rA rD k).2
          by_cases hl : qk A D k ≤ 1152921504606846976
          · have l1 : 2 * qk A D (k + 1) + 1 ≤ 1152921504606846976 := by omega
            have S1 := Lib.hid s1
            clear s1 s2 hT
            go_wp2_with fail
            exact ⟨⟨k, (k : Int) - 1, g6, c6, f6, by omega, rfl, rfl, by rw [S1.out], hl, rfl, D6, L⟩, by simp [intOf]⟩
          · have l1 : 1152921504606846976 < 2 * qk A D (k + 1) + 1 := by omega
            have hn := H.out.none3 (by rw [H.out.eq]; omega)
            have N1 := Lib.hid hn
            have N2 := Lib.hid (no_result hn)
            clear s1 s2 hT hn
            go_wp2_with fail
            go_ret2
            exact ⟨by rw [N1.out, N2.out]; rfl, L.k⟩
end Go.Proofs.YtcndlcogainnkaaGreatDoor.dec
