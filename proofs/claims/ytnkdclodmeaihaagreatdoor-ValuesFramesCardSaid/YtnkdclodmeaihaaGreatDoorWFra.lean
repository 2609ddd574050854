/-
  The walk of ValuesFrames.
-/
import Derived.Test.YtnkdclodmeaihaaGreatDoorLvs
import Derived.Test.YtnkdclodmeaihaaGreatDoorCat
import Derived.Test.YtnkdclodmeaihaaGreatDoorShv
import Derived.Test.YtnkdclodmeaihaaGreatDoorRck
import Derived.BigQuiet
namespace Go.Proofs.YtnkdclodmeaihaaGreatDoor
open Go.RowKit dec

set_option maxRecDepth 100000 in
set_option maxHeartbeats 4000000 in
theorem walk_frames (a : Option Addr) (n cap : Nat) (q : Nat → Va) (a1 : Option Addr) (m1 cap1 : Nat) (l1 : List Nat) (w : World) (hL : Lv w a n q) (hB : Li w a1 m1 cap1 l1) (T : Tabs w) :
    Calls Tryz.prog 4 #[.slice a n cap, .slice a1 m1 cap1] w fun e w' => e = .returned (.bool true) ∧ Below w.heap.size w w' := by
  have X := example_any _ T
  have HL := Lib.hid hL
  have HB := Lib.hid hB
  clear hL hB
  go_enter Tryz.func4, Tryz.ntmps4
  go_wp2_with fail
  refine X.mono ?_
  rintro e w1 ⟨rfl, kw⟩
  clear X
  by_cases hn : 20 < n
  · have hd : decide ((20 : Int) < (n : Int)) = true := decide_eq_true (by omega)
    go_wp2_with fail
    all_goals go_ret
    all_goals exact ⟨rfl, kw⟩
  have hd : decide ((20 : Int) < (n : Int)) = false := decide_eq_false (by omega)
  by_cases hm : 100 < m1
  · have hd1 : decide ((100 : Int) < (m1 : Int)) = true := decide_eq_true (by omega)
    go_wp2_with fail
    all_goals go_ret
    all_goals exact ⟨rfl, kw⟩
  have hd1 : decide ((100 : Int) < (m1 : Int)) = false := decide_eq_false (by omega)
  have KW := Lib.hid kw
  clear kw
  go_wp2_with fail
  go_loopw [5, 6] (fun v i wr => ∃ (k K c : Nat) (g : Option Addr), k ≤ n ∧ i = .int .i64 k ∧ v = .slice g K c ∧ Li wr g K c (ev q k) ∧ Hid (∀ i, i < k → ok (q i) = true) ∧ Below w.heap.size w wr) (fun _ i _ => n - (intOf i).toNat)
  case atStart => exact ⟨0, 0, 0, none, Nat.zero_le _, rfl, rfl, li_nil _, (fun i hi => absurd hi (Nat.not_lt_zero _)), KW.out⟩
  case round =>
    obtain ⟨k, K, c, g, hk, rfl, rfl, LB, hok, hb⟩ := hrel
    by_cases hlt : k < n
    · have LL := HL.out.keeps hb
      obtain ⟨b, off, rfl, hcell⟩ := LL.resolve_left (by omega)
      obtain ⟨c0, c1, c2⟩ := hcell k hlt
      have hK := ev_len q k
      rw [LB.hn] at hK
      have e1 : ev q (k + 1) = ev q k ++ enc (q k) := rfl
      obtain ⟨x, hx⟩ : ∃ x, q k = x := ⟨_, rfl⟩
      rw [hx] at c0 c1 c2 e1
      obtain ⟨k0, n0, s0⟩ := x
      have HX := Lib.hid hx
      have HE := Lib.hid e1
      have HLB := Lib.hid LB
      clear hx e1 LB LL hcell
      simp only at c0 c1 c2
      have CS := Lib.hid (fun W => short_any k0 n0 s0 W)
      go_wp2_with fail
      refine (CS.out _).mono ?_
      rintro e w2 ⟨rfl, b2⟩
      have LL2 := HL.out.keeps (bnext hb b2)
      obtain ⟨b', off', e', hcell⟩ := LL2.resolve_left (by omega)
      obtain ⟨rfl, rfl⟩ : b = b' ∧ off = off' := by simpa using e'
      obtain ⟨d0, d1, d2⟩ := hcell k hlt
      rw [HX.out] at d0 d1 d2
      simp only at d0 d1 d2
      replace HLB := Lib.hid (HLB.out.keeps b2)
      replace hb := bnext hb b2
      clear c0 c1 c2 CS LL2 hcell e' b2
      by_cases hs : s0.size ≤ 300
      case neg =>
        rw [decide_eq_false hs]
        go_wp2_with fail
        go_ret
        exact ⟨rfl, hb⟩
      rw [decide_eq_true hs]
      have CV := Lib.hid (fun W => valid_any k0 n0 s0 (by omega) W)
      go_wp2_with fail
      refine (CV.out _).mono ?_
      rintro e w3 ⟨rfl, b3⟩
      have LL2 := HL.out.keeps (bnext hb b3)
      obtain ⟨b', off', e', hcell⟩ := LL2.resolve_left (by omega)
      obtain ⟨rfl, rfl⟩ : b = b' ∧ off = off' := by simpa using e'
      obtain ⟨c0, c1, c2⟩ := hcell k hlt
      rw [HX.out] at c0 c1 c2
      simp only at c0 c1 c2
      replace HLB := Lib.hid (HLB.out.keeps b3)
      replace hb := bnext hb b3
      clear d0 d1 d2 CV LL2 hcell e' b3
      cases hv : ok ⟨k0, n0, s0⟩
      case false =>
        go_wp2_with fail
        go_ret
        exact ⟨rfl, hb⟩
      have HV := Lib.hid hv
      clear hv
      obtain ⟨N, hN⟩ : ∃ N, K + (enc ⟨k0, n0, s0⟩).length = N := ⟨_, rfl⟩
      have CA := Lib.hid (fun W h => appendV_any g K c (ev q k) k0 n0 s0 (by omega) W h (by omega) N hN)
      rw [← HE.out] at CA
      clear hN
      go_wp2_with fail
      refine (CA.out _ HLB.out).mono ?_
      rintro e w4 ⟨a4, c4, rfl, L4, b4⟩
      have HL4 := Lib.hid L4
      replace hb := bnext hb b4
      have HK : Hid (∀ i, i < k + 1 → ok (q i) = true) := fun i hi => by
        by_cases h : i < k
        · exact hok.out i h
        · obtain rfl : i = k := by omega
          rw [HX.out]; exact HV.out
      clear c0 c1 c2 CA HLB b4 hok HV HX HE L4
      go_wp2_with fail
      exact ⟨⟨k + 1, N, _, _, by omega, by go_num, rfl, HL4.out, HK, hb⟩, by simp only [intOf]; omega⟩
    · obtain rfl : k = n := by omega
      have hK := ev_len q k
      rw [LB.hn] at hK
      have hF := LB.hn
      have L0 := HB.out.keeps hb
      obtain ⟨N, hN⟩ : ∃ N, m1 + (en K).length + K + 4 = N := ⟨_, rfl⟩
      have h10 := en_ten (n := K) (by omega)
      have CF := Lib.hid (appendFrame_any a1 m1 cap1 l1 g K c (ev q k) wr L0 LB (by omega) (by omega) N hN)
      have hR := rF_back l1 (ev q k) [] (by omega)
      rw [List.append_nil, hF, L0.hn] at hR
      have hNN : m1 + ((en K).length + K + 4) = N := by omega
      rw [hNN] at hR
      have hN2 : N ≤ 2000 := by omega
      clear LB L0 hN h10 hNN
      generalize hbb : l1 ++ (en K ++ (ev q k ++ le4 (cs (ev q k)))) = bb at *
      clear hbb
      go_wp2_with fail
      refine CF.out.mono ?_
      rintro e w2 ⟨rfl, O, b2⟩
      replace hb := bnext hb b2
      have CR := readF_any _ _ _ _ (m1 : Int) w2 (O.li (by omega))
      rw [hR] at CR
      have HC := Lib.hid CR
      clear CF CR hR b2 O
      go_wp2_with fail
      refine HC.out.mono ?_
      rintro e w3 ⟨gp, rfl, hgp, OP, b3⟩
      replace hb := bnext hb b3
      have LP := Lib.hid (OP.li (by omega))
      rw [hF] at LP
      rw [hF]
      clear HC OP b3 hgp
      go_wp2_with fail
      go_loopw [11, 12] (fun p i wr => ∃ (j J : Nat), j ≤ k ∧ i = .int .i64 j ∧ p = .int .i64 (J : Int) ∧ Hid ((ev q j).length = J) ∧ J ≤ K ∧ Li wr (some ⟨gp, 0, none⟩) K K (ev q k) ∧ Below w.heap.size w wr) (fun _ i _ => k - (intOf i).toNat)
      case atStart => exact ⟨0, 0, by omega, rfl, rfl, rfl, by omega, LP.out, hb⟩
      case round =>
        obtain ⟨j, J, hj, rfl, rfl, hJ, hJK, L, hb⟩ := hrel
        by_cases hlt2 : j < k
        · have LL := HL.out.keeps hb
          obtain ⟨b, off, rfl, hcell⟩ := LL.resolve_left (by omega)
          obtain ⟨hr, hr1, hr2⟩ := ev_read q hlt2 (hok.out j hlt2)
          rw [hJ.out, hF] at *
          obtain ⟨N2, hN2'⟩ : ∃ N, (ev q (j + 1)).length = N := ⟨_, rfl⟩
          rw [hN2'] at hr hr1 hr2
          have HN := Lib.hid hN2'
          have CR := Lib.hid (readV_any (some ⟨gp, 0, none⟩) K K (ev q k) (J : Int) wr L (by omega) _ _ _ hr)
          obtain ⟨x, hx⟩ : ∃ x, q j = x := ⟨_, rfl⟩
          rw [hx] at CR
          obtain ⟨k0, n0, s0⟩ := x
          have HX := Lib.hid hx
          have HLP := Lib.hid L
          have HHL := Lib.hid LL
          clear hr hN2' hx LL hcell L
          go_wp2_with fail
          refine CR.out.mono ?_
          rintro e w4 ⟨rfl, b4⟩
          have b5 := balloc b4 (.cells #[.int .i64 k0, .int .i64 n0, .string s0] 23)
          obtain ⟨c0, c1, c2⟩ := Vx.new w4 k0 n0 s0 23
          obtain ⟨b', off', e', hcell⟩ := (HHL.out.keeps b5).resolve_left (by omega)
          obtain ⟨rfl, rfl⟩ : b = b' ∧ off = off' := by simpa using e'
          obtain ⟨d0, d1, d2⟩ := hcell j hlt2
          rw [HX.out] at d0 d1 d2
          simp only at d0 d1 d2
          have HP5 := Lib.hid (HLP.out.keeps b5)
          have hb5 := Lib.hid (bnext hb b5)
          have hd3 : decide ((N2 : Int) ≤ (J : Int)) = false := decide_eq_false (by omega)
          have hd4 : decide (N2 ≤ J) = false := decide_eq_false (by omega)
          clear CR HLP HHL hcell e' b4 b5 hb HX
          go_upto_region 21 with fail
          generalize w4.alloc (.cells #[.int .i64 k0, .int .i64 n0, .string s0] 23) = w5 at *
          generalize w4.heap.size = B4 at *
          go_quiet (fail)
          have hb6 := hb5.out.trans ((below_drewN' _ w5 nq).mono hb5.out.size)
          have HP6 := HP5.out.keeps (below_drewN' _ w5 nq)
          clear c0 c1 c2 d0 d1 d2 hb5 HP5
          generalize w5.drewN nq = w6 at *
          go_wp2_with fail
          exact ⟨⟨j + 1, N2, by omega, by go_num, rfl, HN, hr2, HP6, hb6⟩, by simp only [intOf]; omega⟩
        · obtain rfl : j = k := by omega
          obtain rfl : K = J := by rw [← hF]; exact hJ.out
          go_wp2_with fail
          go_ret
          exact ⟨rfl, hb⟩
end Go.Proofs.YtnkdclodmeaihaaGreatDoor
