/-
  candidate and Parse.
-/
import Derived.Test.YtcndlcogainnkaaGreatDoorSpl
import Derived.Test.YtcndlcogainnkaaGreatDoorCmb
namespace Go.Proofs.YtcndlcogainnkaaGreatDoor
open Go.RowKit dec

def facB (p : ByteArray) : Fa := fac p.data.toList
theorem cand_is (s : ByteArray) (h0 : s.size ≠ 0) : cand s.data.toList = (spB (min 5 (s.size + 1) - 1) s).map facB := by
  have e : s.data.toList.length = s.size := (Lib.size_eq s).symm
  unfold cand
  rw [if_neg (by omega), e, ← spB_data, List.map_map]
  rfl
theorem take_getD {l : List ByteArray} {j : Nat} (h : j < l.length) : l.take (j + 1) = l.take j ++ [l.getD j .empty] := by
  rw [List.take_add_one, List.getElem?_eq_getElem h, List.getD_eq_getElem?_getD, List.getElem?_eq_getElem h]
  rfl
theorem getD_mem' {l : List ByteArray} {j : Nat} (h : j < l.length) : l.getD j .empty ∈ l := by
  rw [List.getD_eq_getElem?_getD, List.getElem?_eq_getElem h]
  exact List.getElem_mem h
theorem ps_base {w w' : World} {g : Nat} {ps : List ByteArray} (h : PS w g ps) (hb : Below (g + 1) w w') : PS w' g ps := fun j hj => (hb.cell (p := ⟨g, j, none⟩) (Nat.lt_succ_self g)).trans (h j hj)
set_option maxRecDepth 100000 in
set_option maxHeartbeats 2000000 in
theorem candidate_any (s : ByteArray) (hs : s.size ≤ 140737488355328) (w : World) (T : Tabs w) :
    Calls Tryz.prog 41 #[.string s] w fun e w' => ∃ v, e = .returned v ∧ Out w' v (cand s.data.toList) ∧ Below w.heap.size w w' := by
  by_cases h0 : s.size = 0
  · have q1 : (s.toList == []) = true := by rw [toList_nil, h0]; rfl
    have hc : cand s.data.toList = [] := by unfold cand; rw [if_pos (by rw [← Lib.size_eq]; exact h0)]
    rw [hc]
    clear T hs h0 hc
    go_enter Tryz.func41, Tryz.ntmps41
    go_wp2_with fail
    go_ret
    exact ⟨_, rfl, Out.nil _, b0 w⟩
  · have q1 : (s.toList == []) = false := by rw [toList_nil]; exact decide_eq_false h0
    have hcand := Lib.hid (cand_is s h0)
    have SC := Lib.hid (fun W => splitN_any s hs (min 5 (s.size + 1)) rfl W)
    have hpz := Lib.hid (fun p hp => Nat.le_trans (spB_size (min 5 (s.size + 1) - 1) s p hp) hs)
    have hlen := Lib.hid (Nat.le_trans (spB_len (min 5 (s.size + 1) - 1) s) (show min 5 (s.size + 1) - 1 + 1 ≤ 5 by omega))
    have hN := Lib.hid (show (spB (min 5 (s.size + 1) - 1) s).length ≤ min 5 (s.size + 1) from Nat.le_trans (spB_len _ _) (by omega))
    have hN5 := Lib.hid (show min 5 (s.size + 1) ≤ 5 by omega)
    have P0 := Lib.hid (PS.new w (spB (min 5 (s.size + 1) - 1) s) (min 5 (s.size + 1)))
    have B0 := Lib.hid (balloc (b0 w) (.cells (Lib.cellsOf (spB (min 5 (s.size + 1) - 1) s) (min 5 (s.size + 1))) 9))
    have T0 := Lib.hid T
    clear h0 hs T
    generalize min 5 (s.size + 1) = N at *
    generalize spB (N - 1) s = ps at *
    have Z0 := Lib.hid (show w.heap.size + 1 ≤ (w.alloc (.cells (Lib.cellsOf ps N) 9)).heap.size by simp)
    generalize hk : ps.length = k at *
    have K0 := Lib.hid hk
    clear hk
    generalize hg : w.heap.size = g at *
    have G0 := Lib.hid hg
    clear hg
    go_enter Tryz.func41, Tryz.ntmps41
    go_wp2_with fail
    refine (SC.out _).mono ?_
    rintro e w' ⟨rfl, rfl⟩
    rw [G0.out]
    generalize w.alloc (.cells (Lib.cellsOf ps N) 9) = w1 at *
    go_wp2_with fail
    go_loopw [2, 14] (fun vu vi wr => ∃ j : Nat, vi = .int .i64 (j : Nat) ∧ Hid (j ≤ k) ∧ Hid (Own wr (g + 1) vu ((ps.take j).map facB)) ∧ Hid (Below g w wr) ∧ Hid (PS wr g ps) ∧ Hid (g + 1 ≤ wr.heap.size)) (fun _ vi _ => k - (intOf vi).toNat)
    case atStart => exact ⟨0, rfl, Lib.hid (Nat.zero_le _), Lib.hid (Own.nil _ _), B0, P0, Z0⟩
    case round =>
      obtain ⟨j, rfl, hj, hO, hb, hP, hZ⟩ := hrel
      by_cases hc : j < k
      · have hjl := Lib.hid (show j < ps.length by rw [K0.out]; exact hc)
        have c0 := hP.out j hjl.out
        have q2 : decide ((j : Int) < (k : Int)) = true := decide_eq_true (by omega)
        have q3 : j < k := hc
        have q4 : j < N := by have := hN.out; omega
        have f4 := Lib.hid (next_at (j := j) (by have := hlen.out; omega))
        have hn := Lib.hid (take_getD hjl.out)
        have hpj := Lib.hid (hpz.out _ (getD_mem' hjl.out))
        have hl8 := Lib.hid (show ((ps.take j).map facB).length < 5864062014805 by have := hlen.out; have := K0.out; simp; omega)
        generalize ps.getD j .empty = p at c0 hn hpj
        have CC := Lib.hid (fun W => cut_any p hpj.out W)
        have TB := Lib.hid (T0.out.stays (G0.out.symm ▸ hb.out))
        cases hf : (cutB p).2.2
        · have hfp := Lib.hid (show facB p = _ from fac_miss hf)
          rw [hf] at CC
          clear hf hpj TB
          generalize (cutB p).1 = x at *
          generalize (cutB p).2.1 = y at *
          go_wp2_with fail
          refine (CC.out _).mono ?_
          rintro e w3 ⟨rfl, b3⟩
          have O3 := Lib.hid (hO.out.keeps b3)
          have P3 := Lib.hid (hP.out.keeps b3)
          have B3 := Lib.hid (below_up3 hb.out G0.out b3)
          have Z3 := Lib.hid (Nat.le_trans hZ.out b3.size)
          clear b3 hO hP hb hZ
          go_wp2_with (at_builtin; refine is_app (.tmp 30) (.tmp 34) rfl ?_; refine wpList_push _ rfl (.tmp 30) (.tmp 34) rfl (g + 1) _ _ rfl (O3.out.keeps (balloc (b0 w3) _)) w3.heap.size x 1 rfl (Bw.new w3 (x, 1) 37) hl8.out (by have := Z3.out; simp; omega) ?_; intro v2 w6 O6 b6)
          have B6 := Lib.hid ((below_up3 B3.out G0.out (balloc (b0 w3) (.cells #[.string x, .int .i64 1] 37))).trans (b6.mono (by omega)))
          have P6 := Lib.hid (ps_base (P3.out.keeps (balloc (b0 w3) (.cells #[.string x, .int .i64 1] 37))) b6)
          have Z6 := Lib.hid (show g + 1 ≤ w6.heap.size from Nat.le_trans (by have := Z3.out; simp; omega) b6.size)
          have O7 := Lib.hid (show Own w6 (g + 1) v2 ((ps.take (j + 1)).map facB) by rw [hn.out, List.map_append, List.map_singleton, hfp.out]; exact O6)
          clear b6 O6
          go_wp2_with fail
          refine ⟨⟨j + 1, congrArg (Value.int .i64) f4.out, Lib.hid hc, O7, B6, P6, Z6⟩, less_at hc f4.out⟩
        · have hfp := Lib.hid (show facB p = _ from fac_hit hf)
          have AC := Lib.hid (fun W h => atoi_any (cutB p).2.1 (Nat.le_trans (cutB_size p).2 (Nat.le_trans hpj.out (by decide))) W h)
          rw [hf] at CC
          clear hf hpj
          generalize (cutB p).1 = x at *
          generalize (cutB p).2.1 = y at *
          generalize atoiN y.data.toList = z at *
          go_wp2_with fail
          refine (CC.out _).mono ?_
          rintro e w3 ⟨rfl, b3⟩
          have O3 := Lib.hid (hO.out.keeps b3)
          have P3 := Lib.hid (hP.out.keeps b3)
          have B3 := Lib.hid (below_up3 hb.out G0.out b3)
          have Z3 := Lib.hid (Nat.le_trans hZ.out b3.size)
          have T3 := Lib.hid (TB.out.stays b3)
          clear b3 hO hP hb hZ TB
          go_wp2_with fail
          refine (AC.out _ T3.out).mono ?_
          rintro e w4 ⟨x4, rfl, b4⟩
          have O4 := Lib.hid (O3.out.keeps b4)
          have P4 := Lib.hid (P3.out.keeps b4)
          have B4 := Lib.hid (below_up3 B3.out G0.out b4)
          have Z4 := Lib.hid (Nat.le_trans Z3.out b4.size)
          clear b4 O3 P3 B3 Z3 T3
          go_wp2_with (at_builtin; refine is_app (.tmp 30) (.tmp 34) rfl ?_; refine wpList_push _ rfl (.tmp 30) (.tmp 34) rfl (g + 1) _ _ rfl (O4.out.keeps (balloc (b0 w4) _)) w4.heap.size x z rfl (Bw.new w4 (x, z) 37) hl8.out (by have := Z4.out; simp; omega) ?_; intro v2 w6 O6 b6)
          have B6 := Lib.hid ((below_up3 B4.out G0.out (balloc (b0 w4) (.cells #[.string x, .int .i64 z] 37))).trans (b6.mono (by omega)))
          have P6 := Lib.hid (ps_base (P4.out.keeps (balloc (b0 w4) (.cells #[.string x, .int .i64 z] 37))) b6)
          have Z6 := Lib.hid (show g + 1 ≤ w6.heap.size from Nat.le_trans (by have := Z4.out; simp; omega) b6.size)
          have O7 := Lib.hid (show Own w6 (g + 1) v2 ((ps.take (j + 1)).map facB) by rw [hn.out, List.map_append, List.map_singleton, hfp.out]; exact O6)
          clear b6 O6
          go_wp2_with fail
          refine ⟨⟨j + 1, congrArg (Value.int .i64) f4.out, Lib.hid hc, O7, B6, P6, Z6⟩, less_at hc f4.out⟩
      · have q2 : decide ((j : Int) < (k : Int)) = false := decide_eq_false (by omega)
        have hO2 := hO.out
        rw [show ps.take j = ps from List.take_of_length_le (by have := K0.out; omega), ← hcand.out] at hO2
        have hO3 := Lib.hid hO2.out_
        clear hO hO2
        go_wp2_with fail
        go_ret
        exact ⟨_, rfl, hO3.out, G0.out.symm ▸ hb.out⟩
theorem ok_facts {l : List Fa} (h : Ok l) : (∀ x ∈ l, -9223372036854775808 ≤ x.2 ∧ x.2 ≤ 9223372036854775807) ∧ (∀ x ∈ l, x.1.size ≤ 1048576) ∧ l.length < 5864062014805 ∧ (fT l).length ≤ 140737488355328 :=
  ⟨fun x hx => by have := far_le (h.good x hx).2.2; omega, fun x hx => by have := word_size (h.good x hx).1; omega, by have := h.le; omega, by have := fT_len h; omega⟩
theorem arr_eq (l : List UInt8) (s : ByteArray) : ((⟨l.toArray⟩ : ByteArray).toList == s.toList) = decide (l = s.data.toList) := by
  rw [ByteArray.toList_eq, ByteArray.toList_eq]
  by_cases h : l = s.data.toList
  · rw [decide_eq_true h, ← h]
    simp
  · rw [decide_eq_false h]
    exact beq_eq_false_iff_ne.2 fun e => h (by simpa using e)
set_option maxRecDepth 100000 in
set_option maxHeartbeats 1000000 in
theorem parse_any (s : ByteArray) (hs : s.size ≤ 140737488355328) (w : World) (T : Tabs w) :
    Calls Tryz.prog 21 #[.string s] w fun e w' => Ret w w' e (psE s.data.toList) (psL s.data.toList) := by
  have C := Lib.hid (candidate_any s hs w T)
  have T0 := Lib.hid T
  clear T hs
  have hE := Lib.hid (rfl : psOk s.data.toList = psOk s.data.toList)
  by_cases h1 : ck (cand s.data.toList) = 0
  · have ok := (ck_iff _).1 h1
    obtain ⟨f1, f2, f3, f4⟩ := ok_facts ok
    have FC := Lib.hid (fun a n c W h t => format_any a n c (cand s.data.toList) W h f1 f2 f3 f4 t)
    have KC := Lib.hid (fun a n c W h => check_any a n c (cand s.data.toList) W h)
    have q1 := arr_eq (fT (cand s.data.toList)) s
    rw [h1] at KC
    clear f1 f2 f3 f4 hE
    by_cases h2 : fT (cand s.data.toList) = s.data.toList
    · have hp : psOk s.data.toList = true := by unfold psOk; rw [decide_eq_true h1, decide_eq_true h2]; rfl
      have hr := Lib.hid (show psE s.data.toList = 0 ∧ psL s.data.toList = cand s.data.toList by unfold psE psL; rw [hp]; exact ⟨rfl, rfl⟩)
      rw [decide_eq_true h2] at q1
      clear h1 h2 ok hp
      generalize cand s.data.toList = l at *
      generalize (⟨(fT l).toArray⟩ : ByteArray) = t at *
      have q2 : (t.toList != s.toList) = false := by rw [bne, q1]; rfl
      go_enter Tryz.func21, Tryz.ntmps21
      go_wp2_with fail
      refine C.out.mono ?_
      rintro e w1 ⟨v, rfl, ⟨a, cap, rfl, S⟩, b1⟩
      have SH := Lib.hid S
      have B1 := Lib.hid b1
      clear S b1
      generalize l.length = n at *
      go_wp2_with fail
      refine (KC.out _ _ _ _ SH.out).mono ?_
      rintro e w2 ⟨rfl, b2⟩
      have S2 := Lib.hid (SH.out.keeps b2)
      have B2 := Lib.hid (bnext B1.out b2)
      have T2 := Lib.hid (T0.out.stays B2.out)
      clear b2
      go_wp2_with fail
      refine (FC.out _ _ _ _ S2.out T2.out).mono ?_
      rintro e w3 ⟨rfl, b3⟩
      have S3 := Lib.hid (S2.out.keeps b3)
      have B3 := Lib.hid (bnext B2.out b3)
      clear b3
      go_wp2_with fail
      go_ret2
      exact ⟨.slice a n cap, by rw [hr.out.1]; rfl, by rw [hr.out.2]; exact ⟨a, cap, by rw [S3.out.hn], by rw [S3.out.hn]; exact S3.out⟩, B3.out⟩
    · have hp : psOk s.data.toList = false := by unfold psOk; rw [decide_eq_false h2, Bool.and_false]
      have hr := Lib.hid (show psE s.data.toList = 3 ∧ psL s.data.toList = [] by unfold psE psL; rw [hp]; exact ⟨rfl, rfl⟩)
      rw [decide_eq_false h2] at q1
      clear h1 h2 ok hp
      generalize cand s.data.toList = l at *
      generalize (⟨(fT l).toArray⟩ : ByteArray) = t at *
      have q2 : (t.toList != s.toList) = true := by rw [bne, q1]; rfl
      go_enter Tryz.func21, Tryz.ntmps21
      go_wp2_with fail
      refine C.out.mono ?_
      rintro e w1 ⟨v, rfl, ⟨a, cap, rfl, S⟩, b1⟩
      have SH := Lib.hid S
      have B1 := Lib.hid b1
      clear S b1
      generalize l.length = n at *
      go_wp2_with fail
      refine (KC.out _ _ _ _ SH.out).mono ?_
      rintro e w2 ⟨rfl, b2⟩
      have S2 := Lib.hid (SH.out.keeps b2)
      have B2 := Lib.hid (bnext B1.out b2)
      have T2 := Lib.hid (T0.out.stays B2.out)
      clear b2
      go_wp2_with fail
      refine (FC.out _ _ _ _ S2.out T2.out).mono ?_
      rintro e w3 ⟨rfl, b3⟩
      have B3 := Lib.hid (bnext B2.out b3)
      clear b3
      go_wp2_with fail
      go_ret2
      exact ⟨.slice none 0 0, by rw [hr.out.1]; rfl, by rw [hr.out.2]; exact Out.nil _, B3.out⟩
  · have hp : psOk s.data.toList = false := by unfold psOk; rw [decide_eq_false h1, Bool.false_and]
    have hr := Lib.hid (show psE s.data.toList = 3 ∧ psL s.data.toList = [] by unfold psE psL; rw [hp]; exact ⟨rfl, rfl⟩)
    have KC := Lib.hid (fun a n c W h => check_any a n c (cand s.data.toList) W h)
    have q5 : (ck (cand s.data.toList) != 0) = true := by rw [bne_iff_ne]; exact h1
    clear h1 hp hE
    generalize cand s.data.toList = l at *
    generalize ck l = c at *
    go_enter Tryz.func21, Tryz.ntmps21
    go_wp2_with fail
    refine C.out.mono ?_
    rintro e w1 ⟨v, rfl, ⟨a, cap, rfl, S⟩, b1⟩
    have SH := Lib.hid S
    have B1 := Lib.hid b1
    clear S b1
    generalize l.length = n at *
    go_wp2_with fail
    refine (KC.out _ _ _ _ SH.out).mono ?_
    rintro e w2 ⟨rfl, b2⟩
    have B2 := Lib.hid (bnext B1.out b2)
    clear b2
    go_wp2_with fail
    go_ret2
    exact ⟨.slice none 0 0, by rw [hr.out.1]; rfl, by rw [hr.out.2]; exact Out.nil _, B2.out⟩
end Go.Proofs.YtcndlcogainnkaaGreatDoor
