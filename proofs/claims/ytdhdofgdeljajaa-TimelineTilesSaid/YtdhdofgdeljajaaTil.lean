/-
  The walk of TimelineTiles.
-/
import Derived.Test.YtdhdofgdeljajaaExa
import Derived.Test.YtdhdofgdeljajaaTlf
import Derived.WalkSmall
import Derived.Deep.CutRange
import Derived.BigQuiet
namespace Go.Proofs.Ytdhdofgdeljajaa
open Go.RowKit

theorem Sl.eqn {w : World} {a : Option Addr} {n cap : Nat} {l : List I2} (h : Sl w a n cap l) {m : Nat} (e : n = m) : Sl w a m cap l := e ▸ h
set_option maxRecDepth 100000 in
set_option maxHeartbeats 1000000 in
theorem walk_tiles (x y s t : Int) (w : World) : Calls Try.prog 10 #[.agg #[.int .i64 x, .int .i64 y], .int .i64 s, .int .i64 t] w fun e w' => e = .returned (.bool true) ∧ Below w.heap.size w w' := by
  have C1 := Lib.hid (buckets_any x y s)
  have C3 := Lib.hid example_any
  have F := Lib.hid (pt_buk x y s)
  generalize buk (x, y) s = P at *
  have A := Lib.hid (Bw.new w x y 23)
  have b1 := Lib.hid (balloc (b0 w) (.cells #[.int .i64 x, .int .i64 y] 23))
  go_enter Try.func10, Try.ntmps10
  go_wp2_with fail
  refine (C1.out _).mono ?_
  rintro e w1 ⟨v, rfl, O, d⟩
  obtain ⟨a, cap, rfl, L⟩ := O.sl
  replace A := Lib.hid (A.out.keeps d)
  replace b1 := Lib.hid (bnext b1.out d)
  have hlen := F.out.len
  obtain ⟨n, hn⟩ : ∃ n, P.length = n := ⟨_, rfl⟩
  rw [hn] at L hlen ⊢
  have hcap := L.hcap
  have hmax := L.hmax
  replace hn := Lib.hid hn
  replace L := Lib.hid L
  clear d C1 O
  go_wp2_with fail
  go_cut [39] from 16 to 38 (fun r wx => r = .bool false ∧ Hid (Below w1.heap.size w1 wx))
  case first =>
    obtain ⟨a0, a1, _, _⟩ := A.out
    by_cases h0 : n = 0
    · subst h0
      go_quiet (fail)
      go_wp2_with fail
      go_meet
      case rel => exact ⟨rfl, below_drewN (b0 w1) _⟩
    · obtain ⟨m, rfl⟩ : ∃ m, n = m + 1 := ⟨n - 1, by omega⟩
      have hn2 := hn.out
      obtain ⟨bk, off, rfl, hC⟩ := L.out.hat.resolve_left (by omega)
      obtain ⟨h0, h1⟩ := F.out.first m hn2
      have e0 := (hC 0 (by omega)).1
      have e1 := (hC m (by omega)).2
      rw [h0] at e0
      rw [h1] at e1
      clear hC h0 h1 hn2
      simp only [Nat.zero_mul, Nat.add_zero] at e0
      go_quiet (fail)
      go_wp2_with fail
      go_meet
      case rel => exact ⟨rfl, below_drewN (b0 w1) _⟩
  case rest =>
    obtain ⟨rfl, hbc⟩ := hcut
    replace L := Lib.hid (L.out.keeps hbc.out)
    replace b1 := Lib.hid (bnext b1.out hbc.out)
    clear hbc A
    generalize wc = w2 at *
    go_wp2_with fail
    go_loopw [8] (fun i wr => ∃ k : Nat, i = .int .i64 (k : Int) ∧ Hid (k ≤ n) ∧ Hid (Below w2.heap.size w2 wr)) (fun i _ => n - (intOf i).toNat)
    case atStart => exact ⟨0, rfl, Nat.zero_le _, b0 w2⟩
    case round =>
      obtain ⟨k, rfl, hk, hb⟩ := hrel
      have hL2 := L.out.keeps hb.out
      by_cases hlt : k < n
      · have q1 : decide ((k : Int) < (n : Int)) = true := decide_eq_true (by omega)
        have hn2 := hn.out
        obtain ⟨bk, off, rfl, hC⟩ := hL2.hat.resolve_left (by omega)
        have hsm := F.out.same k (by omega)
        have hsz := F.out.size (by intro h; rw [h] at hn2; simp at hn2; omega)
        have htk := F.out.tick k (by omega)
        have sn : s ≠ 0 := by omega
        have s0 : (s == 0) = false := by simpa using sn
        obtain ⟨e0, e1⟩ := hC k (by omega)
        obtain ⟨z, hz⟩ : ∃ z, (gt P k).1 / s = z := ⟨_, rfl⟩
        have hz1 : (gt P k).1.tdiv s = z := by rw [Int.tdiv_eq_ediv_of_nonneg htk.1]; exact hz
        have hz2 : (gt P k).2.tdiv s = z := hsm.trans hz1
        have hz3 : (gt P k).2 / s = z := by rw [← Int.tdiv_eq_ediv_of_nonneg (show 0 ≤ (gt P k).2 by omega)]; exact hz2
        have hdv : 0 ≤ z ∧ z ≤ 1099511627776 := by
          rw [← hz]
          refine ⟨Int.ediv_nonneg htk.1 (by omega), ?_⟩
          have h4 := Int.ediv_mul_le (gt P k).1 sn
          have h5 : 0 ≤ (gt P k).1 / s := Int.ediv_nonneg htk.1 (by omega)
          have h6 : (gt P k).1 / s * 1 ≤ (gt P k).1 / s * s := Int.mul_le_mul_of_nonneg_left hsz.1 h5
          omega
        by_cases hk0 : k = 0
        · subst hk0
          generalize (gt P 0).1 = u at *
          generalize (gt P 0).2 = v at *
          simp only [Nat.zero_mul, Nat.add_zero] at e0 e1
          clear hC hL2 hsm hn2
          go_wp2_with fail
          go_cut [79] from 46 to 78 (fun r wx => r = .bool false ∧ Hid (Below wr.heap.size wr wx))
          case first =>
            go_quiet (fail)
            go_wp2_with fail
            go_meet
            case rel => exact ⟨rfl, below_drewN (b0 wr) _⟩
          case rest =>
            obtain ⟨rfl, hbc⟩ := hcut
            clear e0 e1 hz hz1 hz2 hz3 hdv
            go_wp2_with fail
            go_roundw
            case rel => exact ⟨1, rfl, hlt, bnext hb.out hbc.out⟩
            case measure => simp only [intOf]; omega
        · obtain ⟨j, rfl⟩ : ∃ j, k = j + 1 := ⟨k - 1, by omega⟩
          have hnx := F.out.next j (by omega)
          have htj := F.out.tick j (by omega)
          obtain ⟨f0, f1⟩ := hC j (by omega)
          generalize (gt P (j + 1)).1 = u at *
          generalize (gt P (j + 1)).2 = v at *
          generalize (gt P j).2 = v0 at *
          subst hnx
          clear hC hL2 hsm hn2 hk0
          go_wp2_with fail
          go_cut [79] from 46 to 78 (fun r wx => r = .bool false ∧ Hid (Below wr.heap.size wr wx))
          case first =>
            go_quiet (fail)
            go_wp2_with fail
            go_meet
            case rel => exact ⟨rfl, below_drewN (b0 wr) _⟩
          case rest =>
            obtain ⟨rfl, hbc⟩ := hcut
            clear e0 e1 hz hz1 hz2 hz3 hdv f0 f1
            go_wp2_with fail
            go_roundw
            case rel => exact ⟨j + 1 + 1, rfl, hlt, bnext hb.out hbc.out⟩
            case measure => simp only [intOf]; omega
      · have q1 : decide ((k : Int) < (n : Int)) = false := decide_eq_false (by omega)
        replace b1 := Lib.hid (bnext b1.out hb.out)
        clear hL2 hb L F
        go_wp2_with fail
        have BC := bounds_any 3 s t wr
        by_cases hh : isz s = true ∧ (0 ≤ t ∧ t ≤ 1099511627776)
        · obtain ⟨hs, ht⟩ := hh
          have hbd : bd 3 s t = ((t - t % s, t), true) := by
            rw [bd_in ht, if_neg (by decide), if_neg (by decide), if_pos rfl, if_pos hs]
          rw [hbd] at BC
          refine BC.mono ?_
          rintro e w3 ⟨rfl, d⟩
          replace b1 := Lib.hid (bnext b1.out d)
          obtain ⟨m, hm1, hm2, t0, t1, t2, t3⟩ := tumble hs ht
          have hss := (isz_iff s).1 hs
          have sn : s ≠ 0 := by omega
          have s0 : (s == 0) = false := by simpa using sn
          obtain ⟨b, hb1⟩ : ∃ b, t / s = b := ⟨_, rfl⟩
          have hb2 : t.tdiv s = b := (Int.tdiv_eq_ediv_of_nonneg ht.1).trans hb1
          rw [hb1] at hm1 hm2 t0 t1 t2 t3
          have m1 := max_walk 0 (b - 3)
          obtain ⟨c, hc⟩ : ∃ c, max 0 (b - 3) = c := ⟨_, rfl⟩
          rw [hc] at hm1 hm2 t2 t3 m1
          have f1 : wrap64 (c * s) = c * s := fitsW (by omega) (by omega)
          have I := Lib.hid (Bw.new w3 (t - t % s) t 23)
          have BB := Lib.hid (buckets_any (c * s) t s)
          generalize buk (c * s, t) s = M at *
          generalize t - t % s = u at *
          generalize hcs : c * s = cs at *
          have hmM : M.length ≤ 4096 + 1 ∨ True := .inr trivial
          clear d BC hbd hmM
          go_wp2_with fail
          refine (BB.out _).mono ?_
          rintro e w4 ⟨v, rfl, O, d⟩
          obtain ⟨a2, cap2, rfl, L2⟩ := O.sl
          have hcap2 := L2.hcap
          have hmax2 := L2.hmax
          rw [hm1] at hcap2 L2 ⊢
          obtain ⟨bk, off, rfl, hC⟩ := L2.hat.resolve_left (by omega)
          obtain ⟨e0, e1⟩ := hC m (by omega)
          rw [hm2] at e0 e1
          simp only at e0 e1
          have sd := step_alloc d
          obtain ⟨i0, i1⟩ := (I.out.keeps d).grown
          replace e0 := cell_regrown e0
          replace e1 := cell_regrown e1
          replace b1 := Lib.hid (bnext b1.out sd)
          have K3 := Lib.hid (all_grown C3.out w4)
          clear d O L2 hC sd I BB C3 hm1 hm2 f1 m1 hb1 hb2 hc
          generalize w3.heap.size = r9 at *
          go_wp2_with fail
          refine wp_region_quiet_below (by kernel_rfl) (by kernel_rfl) ?_
          repeat (first | go_big_quiet_skip | (go_big_quiet_want; go_big_quiet_op; go_big_quiet_on) | quiet_step ((first | (go_at_call 14; exact K3.out _ _))))
          refine wpQuiet_nil ?_
          intro w5 hw5
          have hb := below_of hw5
          replace b1 := Lib.hid (bnext b1.out hb)
          clear hw5 hb K3 i0 i1 e0 e1
          go_wp2_with fail
          go_ret
          exact ⟨rfl, b1.out⟩
        · have hbd : bd 3 s t = ((0, 0), false) := by
            by_cases ht : 0 ≤ t ∧ t ≤ 1099511627776
            · rw [bd_in ht, if_neg (by decide), if_neg (by decide), if_pos rfl, if_neg (fun h => hh ⟨h, ht⟩)]
            · exact bd_out ht
          rw [hbd] at BC
          refine BC.mono ?_
          rintro e w3 ⟨rfl, d⟩
          replace b1 := Lib.hid (bnext b1.out d)
          clear d BC hbd hh
          go_wp2_with fail
          refine (C3.out _).mono ?_
          rintro e w4 ⟨rfl, d⟩
          replace b1 := Lib.hid (bnext b1.out (step_alloc d))
          clear d
          go_wp2_with fail
          go_ret
          exact ⟨rfl, b1.out⟩
end Go.Proofs.Ytdhdofgdeljajaa
