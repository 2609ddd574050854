/-
  For every list of factors and every integer, ParserUnits answers true, and what came in reads as it did; its ten listed package-level variables hold what the program's text lays.
-/
import Derived.BigQuiet
import Derived.Test.YtbpijgddfaefkaaGreatDoorU05
import Derived.Test.YtbpijgddfaefkaaGreatDoorU07
import Derived.Test.YtbpijgddfaefkaaGreatDoorU21
import Derived.Test.YtbpijgddfaefkaaGreatDoorU22
namespace Go.Proofs.YtbpijgddfaefkaaGreatDoor.un
open Go.RowKit dec

def OutW (w : World) (v : Value) (l : List Fa) : Prop := ∃ a cap, v = .slice a l.length cap ∧ Sl w a l.length cap l
theorem OutW.nil (w : World) : OutW w (.slice none 0 0) [] := ⟨none, 0, rfl, .nil _⟩
theorem Own.out_ {w : World} {base : Nat} {v : Value} {l : List Fa} (h : Own w base v l) : OutW w v l := by
  obtain ⟨a, cap, e, S⟩ := h.sl
  exact ⟨a, cap, e, S⟩
def RetW (w w' : World) (e : Ending) (c : Int) (l : List Fa) : Prop := ∃ v, e = .returned (.tuple #[v, .int .i64 c]) ∧ OutW w' v l ∧ Below w.heap.size w w'

def facB (p : ByteArray) : Fa := fac p.data.toList
theorem cand_is (s : ByteArray) (h0 : s.size ≠ 0) : cand s.data.toList = (spB (min 5 (s.size + 1) - 1) s).map facB := by
  have e : s.data.toList.length = s.size := (Lib.size_eq s).symm
  unfold cand
  rw [if_neg (by omega), e, ← spB_data, List.map_map]
  rfl
theorem take_getD {l : List ByteArray} {j : Nat} (h : j < l.length) : l.take (j + 1) = l.take j ++ [l.getD j .empty] := by
  rw [List.take_add_one, List.getElem?_eq_getElem h, List.getD_eq_getElem?_getD, List.getElem?_eq_getElem h]
  rfl
theorem getD_mem' {l : List ByteArray} {j : Nat} (h : j < l.length) : l.getD j .empty ∈ l := by
  rw [List.getD_eq_getElem?_getD, List.getElem?_eq_getElem h]
  exact List.getElem_mem h
theorem ps_base {w w' : World} {g : Nat} {ps : List ByteArray} (h : PS w g ps) (hb : Below (g + 1) w w') : PS w' g ps := fun j hj => (hb.cell (p := ⟨g, j, none⟩) (Nat.lt_succ_self g)).trans (h j hj)
set_option maxRecDepth 100000 in
set_option maxHeartbeats 2000000 in
theorem candidate_any (s : ByteArray) (hs : s.size ≤ 140737488355328) (w : World) (T : Tabs w) :
    Calls Tryz.prog 65 #[.string s] w fun e w' => ∃ v, e = .returned v ∧ OutW w' v (cand s.data.toList) ∧ Below w.heap.size w w' := by
  by_cases h0 : s.size = 0
  · have q1 : (s.toList == []) = true := by rw [toList_nil, h0]; rfl
    have hc : cand s.data.toList = [] := by unfold cand; rw [if_pos (by rw [← Lib.size_eq]; exact h0)]
    rw [hc]
    clear T hs h0 hc
    go_enter Tryz.func65, Tryz.ntmps65
    go_wp2_with fail
    go_ret
    exact ⟨_, rfl, OutW.nil _, b0 w⟩
  · have q1 : (s.toList == []) = false := by rw [toList_nil]; exact decide_eq_false h0
    have hcand := Lib.hid (cand_is s h0)
    have SC := Lib.hid (fun W => splitN_any s hs (min 5 (s.size + 1)) rfl W)
    have hpz := Lib.hid (fun p hp => Nat.le_trans (spB_size (min 5 (s.size + 1) - 1) s p hp) hs)
    have hlen := Lib.hid (Nat.le_trans (spB_len (min 5 (s.size + 1) - 1) s) (show min 5 (s.size + 1) - 1 + 1 ≤ 5 by omega))
    have hN := Lib.hid (show (spB (min 5 (s.size + 1) - 1) s).length ≤ min 5 (s.size + 1) from Nat.le_trans (spB_len _ _) (by omega))
    have hN5 := Lib.hid (show min 5 (s.size + 1) ≤ 5 by omega)
    have P0 := Lib.hid (PS.new w (spB (min 5 (s.size + 1) - 1) s) (min 5 (s.size + 1)))
    have B0 := Lib.hid (balloc (b0 w) (.cells (Lib.cellsOf (spB (min 5 (s.size + 1) - 1) s) (min 5 (s.size + 1))) 9))
    have T0 := Lib.hid T
    clear h0 hs T
    generalize min 5 (s.size + 1) = N at *
    generalize spB (N - 1) s = ps at *
    have Z0 := Lib.hid (show w.heap.size + 1 ≤ (w.alloc (.cells (Lib.cellsOf ps N) 9)).heap.size by simp)
    generalize hk : ps.length = k at *
    have K0 := Lib.hid hk
    clear hk
    generalize hg : w.heap.size = g at *
    have G0 := Lib.hid hg
    clear hg
    go_enter Tryz.func65, Tryz.ntmps65
    go_wp2_with fail
    refine (SC.out _).mono ?_
    rintro e w' ⟨rfl, rfl⟩
    rw [G0.out]
    generalize w.alloc (.cells (Lib.cellsOf ps N) 9) = w1 at *
    go_wp2_with fail
    go_loopw [2, 14] (fun vu vi wr => ∃ j : Nat, vi = .int .i64 (j : Nat) ∧ Hid (j ≤ k) ∧ Hid (Own wr (g + 1) vu ((ps.take j).map facB)) ∧ Hid (Below g w wr) ∧ Hid (PS wr g ps) ∧ Hid (g + 1 ≤ wr.heap.size)) (fun _ vi _ => k - (intOf vi).toNat)
    case atStart => exact ⟨0, rfl, Lib.hid (Nat.zero_le _), Lib.hid (Own.nil _ _), B0, P0, Z0⟩
    case round =>
      obtain ⟨j, rfl, hj, hO, hb, hP, hZ⟩ := hrel
      by_cases hc : j < k
      · have hjl := Lib.hid (show j < ps.length by rw [K0.out]; exact hc)
        have c0 := hP.out j hjl.out
        have q2 : decide ((j : Int) < (k : Int)) = true := decide_eq_true (by omega)
        have q3 : j < k := hc
        have q4 : j < N := by have := hN.out; omega
        have f4 := Lib.hid (next_at (j := j) (by have := hlen.out; omega))
        have hn := Lib.hid (take_getD hjl.out)
        have hpj := Lib.hid (hpz.out _ (getD_mem' hjl.out))
        have hl8 := Lib.hid (show ((ps.take j).map facB).length < 5864062014805 by have := hlen.out; have := K0.out; simp; omega)
        generalize ps.getD j .empty = p at c0 hn hpj
        have CC := Lib.hid (fun W => cut_any p hpj.out W)
        have TB := Lib.hid (T0.out.stays (G0.out.symm ▸ hb.out))
        cases hf : (cutB p).2.2
        · have hfp := Lib.hid (show facB p = _ from fac_miss hf)
          rw [hf] at CC
          clear hf hpj TB
          generalize (cutB p).1 = x at *
          generalize (cutB p).2.1 = y at *
          go_wp2_with fail
          refine (CC.out _).mono ?_
          rintro e w3 ⟨rfl, b3⟩
          have O3 := Lib.hid (hO.out.keeps b3)
          have P3 := Lib.hid (hP.out.keeps b3)
          have B3 := Lib.hid (below_up3 hb.out G0.out b3)
          have Z3 := Lib.hid (Nat.le_trans hZ.out b3.size)
          clear b3 hO hP hb hZ
          go_wp2_with (at_builtin; refine is_app (.tmp 30) (.tmp 34) rfl ?_; refine wpList_push _ rfl (.tmp 30) (.tmp 34) rfl (g + 1) _ _ rfl (O3.out.keeps (balloc (b0 w3) _)) w3.heap.size x 1 rfl (Bw.new w3 (x, 1) 55) hl8.out (by have := Z3.out; simp; omega) ?_; intro v2 w6 O6 b6)
          have B6 := Lib.hid ((below_up3 B3.out G0.out (balloc (b0 w3) (.cells #[.string x, .int .i64 1] 55))).trans (b6.mono (by omega)))
          have P6 := Lib.hid (ps_base (P3.out.keeps (balloc (b0 w3) (.cells #[.string x, .int .i64 1] 55))) b6)
          have Z6 := Lib.hid (show g + 1 ≤ w6.heap.size from Nat.le_trans (by have := Z3.out; simp; omega) b6.size)
          have O7 := Lib.hid (show Own w6 (g + 1) v2 ((ps.take (j + 1)).map facB) by rw [hn.out, List.map_append, List.map_singleton, hfp.out]; exact O6)
          clear b6 O6
          go_wp2_with fail
          refine ⟨⟨j + 1, congrArg (Value.int .i64) f4.out, Lib.hid hc, O7, B6, P6, Z6⟩, less_at hc f4.out⟩
        · have hfp := Lib.hid (show facB p = _ from fac_hit hf)
          have AC := Lib.hid (fun W h => atoi_any (cutB p).2.1 (Nat.le_trans (cutB_size p).2 (Nat.le_trans hpj.out (by decide))) W h)
          rw [hf] at CC
          clear hf hpj
          generalize (cutB p).1 = x at *
          generalize (cutB p).2.1 = y at *
          generalize atoiN y.data.toList = z at *
          go_wp2_with fail
          refine (CC.out _).mono ?_
          rintro e w3 ⟨rfl, b3⟩
          have O3 := Lib.hid (hO.out.keeps b3)
          have P3 := Lib.hid (hP.out.keeps b3)
          have B3 := Lib.hid (below_up3 hb.out G0.out b3)
          have Z3 := Lib.hid (Nat.le_trans hZ.out b3.size)
          have T3 := Lib.hid (TB.out.stays b3)
          clear b3 hO hP hb hZ TB
          go_wp2_with fail
          refine (AC.out _ T3.out).mono ?_
          rintro e w4 ⟨x4, rfl, b4⟩
          have O4 := Lib.hid (O3.out.keeps b4)
          have P4 := Lib.hid (P3.out.keeps b4)
          have B4 := Lib.hid (below_up3 B3.out G0.out b4)
          have Z4 := Lib.hid (Nat.le_trans Z3.out b4.size)
          clear b4 O3 P3 B3 Z3 T3
          go_wp2_with (at_builtin; refine is_app (.tmp 30) (.tmp 34) rfl ?_; refine wpList_push _ rfl (.tmp 30) (.tmp 34) rfl (g + 1) _ _ rfl (O4.out.keeps (balloc (b0 w4) _)) w4.heap.size x z rfl (Bw.new w4 (x, z) 55) hl8.out (by have := Z4.out; simp; omega) ?_; intro v2 w6 O6 b6)
          have B6 := Lib.hid ((below_up3 B4.out G0.out (balloc (b0 w4) (.cells #[.string x, .int .i64 z] 55))).trans (b6.mono (by omega)))
          have P6 := Lib.hid (ps_base (P4.out.keeps (balloc (b0 w4) (.cells #[.string x, .int .i64 z] 55))) b6)
          have Z6 := Lib.hid (show g + 1 ≤ w6.heap.size from Nat.le_trans (by have := Z4.out; simp; omega) b6.size)
          have O7 := Lib.hid (show Own w6 (g + 1) v2 ((ps.take (j + 1)).map facB) by rw [hn.out, List.map_append, List.map_singleton, hfp.out]; exact O6)
          clear b6 O6
          go_wp2_with fail
          refine ⟨⟨j + 1, congrArg (Value.int .i64) f4.out, Lib.hid hc, O7, B6, P6, Z6⟩, less_at hc f4.out⟩
      · have q2 : decide ((j : Int) < (k : Int)) = false := decide_eq_false (by omega)
        have hO2 := hO.out
        rw [show ps.take j = ps from List.take_of_length_le (by have := K0.out; omega), ← hcand.out] at hO2
        have hO3 := Lib.hid hO2.out_
        clear hO hO2
        go_wp2_with fail
        go_ret
        exact ⟨_, rfl, hO3.out, G0.out.symm ▸ hb.out⟩
theorem ok_facts {l : List Fa} (h : Ok l) : (∀ x ∈ l, -9223372036854775808 ≤ x.2 ∧ x.2 ≤ 9223372036854775807) ∧ (∀ x ∈ l, x.1.size ≤ 1048576) ∧ l.length < 5864062014805 ∧ (fT l).length ≤ 140737488355328 :=
  ⟨fun x hx => by have := far_le (h.good x hx).2.2; omega, fun x hx => by have := word_size (h.good x hx).1; omega, by have := h.le; omega, by have := fT_len h; omega⟩
theorem arr_eq (l : List UInt8) (s : ByteArray) : ((⟨l.toArray⟩ : ByteArray).toList == s.toList) = decide (l = s.data.toList) := by
  rw [ByteArray.toList_eq, ByteArray.toList_eq]
  by_cases h : l = s.data.toList
  · rw [decide_eq_true h, ← h]
    simp
  · rw [decide_eq_false h]
    exact beq_eq_false_iff_ne.2 fun e => h (by simpa using e)
set_option maxRecDepth 100000 in
set_option maxHeartbeats 1000000 in
theorem parse_any (s : ByteArray) (hs : s.size ≤ 140737488355328) (w : World) (T : Tabs w) :
    Calls Tryz.prog 21 #[.string s] w fun e w' => RetW w w' e (psE s.data.toList) (psL s.data.toList) := by
  have C := Lib.hid (candidate_any s hs w T)
  have T0 := Lib.hid T
  clear T hs
  have hE := Lib.hid (rfl : psOk s.data.toList = psOk s.data.toList)
  by_cases h1 : ck (cand s.data.toList) = 0
  · have ok := (ck_iff _).1 h1
    obtain ⟨f1, f2, f3, f4⟩ := ok_facts ok
    have FC := Lib.hid (fun a n c W h t => format_any a n c (cand s.data.toList) W h f1 f2 f3 f4 t)
    have KC := Lib.hid (fun a n c W h => check_any a n c (cand s.data.toList) W h)
    have q1 := arr_eq (fT (cand s.data.toList)) s
    rw [h1] at KC
    clear f1 f2 f3 f4 hE
    by_cases h2 : fT (cand s.data.toList) = s.data.toList
    · have hp : psOk s.data.toList = true := by unfold psOk; rw [decide_eq_true h1, decide_eq_true h2]; rfl
      have hr := Lib.hid (show psE s.data.toList = 0 ∧ psL s.data.toList = cand s.data.toList by unfold psE psL; rw [hp]; exact ⟨rfl, rfl⟩)
      rw [decide_eq_true h2] at q1
      clear h1 h2 ok hp
      generalize cand s.data.toList = l at *
      generalize (⟨(fT l).toArray⟩ : ByteArray) = t at *
      have q2 : (t.toList != s.toList) = false := by rw [bne, q1]; rfl
      go_enter Tryz.func21, Tryz.ntmps21
      go_wp2_with fail
      refine C.out.mono ?_
      rintro e w1 ⟨v, rfl, ⟨a, cap, rfl, S⟩, b1⟩
      have SH := Lib.hid S
      have B1 := Lib.hid b1
      clear S b1
      generalize l.length = n at *
      go_wp2_with fail
      refine (KC.out _ _ _ _ SH.out).mono ?_
      rintro e w2 ⟨rfl, b2⟩
      have S2 := Lib.hid (SH.out.keeps b2)
      have B2 := Lib.hid (bnext B1.out b2)
      have T2 := Lib.hid (T0.out.stays B2.out)
      clear b2
      go_wp2_with fail
      refine (FC.out _ _ _ _ S2.out T2.out).mono ?_
      rintro e w3 ⟨rfl, b3⟩
      have S3 := Lib.hid (S2.out.keeps b3)
      have B3 := Lib.hid (bnext B2.out b3)
      clear b3
      go_wp2_with fail
      go_ret2
      exact ⟨.slice a n cap, by rw [hr.out.1]; rfl, by rw [hr.out.2]; exact ⟨a, cap, by rw [S3.out.hn], by rw [S3.out.hn]; exact S3.out⟩, B3.out⟩
    · have hp : psOk s.data.toList = false := by unfold psOk; rw [decide_eq_false h2, Bool.and_false]
      have hr := Lib.hid (show psE s.data.toList = 3 ∧ psL s.data.toList = [] by unfold psE psL; rw [hp]; exact ⟨rfl, rfl⟩)
      rw [decide_eq_false h2] at q1
      clear h1 h2 ok hp
      generalize cand s.data.toList = l at *
      generalize (⟨(fT l).toArray⟩ : ByteArray) = t at *
      have q2 : (t.toList != s.toList) = true := by rw [bne, q1]; rfl
      go_enter Tryz.func21, Tryz.ntmps21
      go_wp2_with fail
      refine C.out.mono ?_
      rintro e w1 ⟨v, rfl, ⟨a, cap, rfl, S⟩, b1⟩
      have SH := Lib.hid S
      have B1 := Lib.hid b1
      clear S b1
      generalize l.length = n at *
      go_wp2_with fail
      refine (KC.out _ _ _ _ SH.out).mono ?_
      rintro e w2 ⟨rfl, b2⟩
      have S2 := Lib.hid (SH.out.keeps b2)
      have B2 := Lib.hid (bnext B1.out b2)
      have T2 := Lib.hid (T0.out.stays B2.out)
      clear b2
      go_wp2_with fail
      refine (FC.out _ _ _ _ S2.out T2.out).mono ?_
      rintro e w3 ⟨rfl, b3⟩
      have B3 := Lib.hid (bnext B2.out b3)
      clear b3
      go_wp2_with fail
      go_ret2
      exact ⟨.slice none 0 0, by rw [hr.out.1]; rfl, by rw [hr.out.2]; exact OutW.nil _, B3.out⟩
  · have hp : psOk s.data.toList = false := by unfold psOk; rw [decide_eq_false h1, Bool.false_and]
    have hr := Lib.hid (show psE s.data.toList = 3 ∧ psL s.data.toList = [] by unfold psE psL; rw [hp]; exact ⟨rfl, rfl⟩)
    have KC := Lib.hid (fun a n c W h => check_any a n c (cand s.data.toList) W h)
    have q5 : (ck (cand s.data.toList) != 0) = true := by rw [bne_iff_ne]; exact h1
    clear h1 hp hE
    generalize cand s.data.toList = l at *
    generalize ck l = c at *
    go_enter Tryz.func21, Tryz.ntmps21
    go_wp2_with fail
    refine C.out.mono ?_
    rintro e w1 ⟨v, rfl, ⟨a, cap, rfl, S⟩, b1⟩
    have SH := Lib.hid S
    have B1 := Lib.hid b1
    clear S b1
    generalize l.length = n at *
    go_wp2_with fail
    refine (KC.out _ _ _ _ SH.out).mono ?_
    rintro e w2 ⟨rfl, b2⟩
    have B2 := Lib.hid (bnext B1.out b2)
    clear b2
    go_wp2_with fail
    go_ret2
    exact ⟨.slice none 0 0, by rw [hr.out.1]; rfl, by rw [hr.out.2]; exact OutW.nil _, B2.out⟩
end Go.Proofs.YtbpijgddfaefkaaGreatDoor.un
namespace Go.Proofs.YtbpijgddfaefkaaGreatDoor.pa
open Go.RowKit dec

theorem cat_run (a b : ByteArray) (h : a.size + b.size ≤ 1000000) (W : World) : (Op.stringOp .add a b).run Tryz.prog W = .ok (.string (a ++ b)) W := run_string_add_sum (P := Tryz.prog) W a b (by omega)
end Go.Proofs.YtbpijgddfaefkaaGreatDoor.pa
namespace Go.Proofs.YtbpijgddfaefkaaGreatDoor.pa
open Go.RowKit dec

theorem un_tabs {w : World} (T : Tabs w) : un.Tabs w := ⟨T.ten, T.syn, T.ran⟩
/-- A factor as it may be printed. -/
def okF (x : un.Fa) : Prop := name x.1 = true ∧ -1000 ≤ x.2 ∧ x.2 ≤ 1000
theorem pf_of {l : List un.Fa} (h : ∀ k, k < l.length → okF (un.gt l k)) : Pf l := fun x hx => by
  obtain ⟨k, hk, rfl⟩ := List.getElem_of_mem hx
  have := h k hk
  rw [un.gt_eq hk] at this
  exact this
theorem okF_next {l : List un.Fa} {j : Nat} (h : ∀ k, k < j → okF (un.gt l k)) (hj : okF (un.gt l j)) : ∀ k, k < j + 1 → okF (un.gt l k) := fun k hk => by
  rcases Nat.lt_or_ge k j with h1 | h1
  · exact h k h1
  · rw [show k = j by omega]; exact hj
theorem name_small {s : ByteArray} (h : name s = true) : s.size ≤ 24 := by
  have h := ((pr_iff _).1 (name_pr h)).2
  have h' : flt 1 s.data.toList = 0 := h
  rw [flt_one, str_len] at h'
  split at h'
  · cases h'
  · omega
theorem blk_val {w : World} {g : Nat} {T : TypeId} {x : Ex} {ua aa : Option Addr} {uc ac : Nat} (h : Blk w g T (exC x ua uc aa ac)) : w.rangeAt g 4 [.int .i64 x.h.vk, .int .i64 x.h.vn, .string x.h.vs] := by
  intro j v hv
  match j, hv with
  | 0, hv => rw [← hv]; exact h.cell 4
  | 1, hv => rw [← hv]; exact h.cell 5
  | 2, hv => rw [← hv]; exact h.cell 6
/-- A load of some cells behind a guard that lets it run. -/
theorem arm_loadGM {T : TypeId} {n : Nat} {d : TypeDesc} (hi : (Tryz.prog.info? T).map (·.size) = some n) (hu : Tryz.prog.underlying T = some d) (hd : d.isRow = true)
    {ops : Array Oper} {rest : List Oper} {o : Oper} {a : Act} {w : World} {Q : Exit → Act → World → Prop} (x : Operand) (ho : o.op = .load T x) (hgd : Region.wanted o (yielded ops a.tmps) = true)
    (g off : Nat) (cells : List Value) (hx : a.eval x = .pointer (some ⟨g, off, none⟩)) (hR : w.rangeAt g off cells) (hc : cells.length = n)
    (h : wpList Tryz.prog ops Q rest (a.put o.dst (.agg cells.toArray)) w) : wpList Tryz.prog ops Q (o :: rest) a w := by
  refine wpList_step fun K hK => ?_
  rw [if_pos hgd]
  exact wp_load_mid T x ho g off hx cells d hR hu hd (by rw [hc]; exact hi) (hK _ _ h)
theorem infVal : (Tryz.prog.info? 37).map (·.size) = some 3 := by kernel_rfl
theorem slice_6 (a : Option Addr) (n c : Nat) (hk : 6 ≤ n) (h : n ≤ c) (W : World) : (Instr.slice 38 (.slice a n c) none (some (.int .i64 6)) none).run Tryz.prog W = .ok (.slice a 6 c) W := by
  have hel : Tryz.prog.elem 38 = 55 := by kernel_rfl
  have h1 := run_slice_h (P := Tryz.prog) (w := W) 38 a n c (by rw [hel]; exact Tryz.underlying38) .i64 6 (by omega) (by omega)
  rw [h1, hel, Tryz.sizeOf55]
  simp [Result.andThen, sliced]
  intro _
  cases a with
  | none => rfl
  | some x => simp only [Option.map_some, Option.some.injEq]; unfold Addr.add; split <;> simp_all
set_option maxRecDepth 100000 in
set_option maxHeartbeats 16000000 in
theorem wpu_few (a : Option Addr) (n cap m : Nat) (k : Int) (x : List un.Fa) (w : World) (hI : ∀ y ∈ x, -9223372036854775808 ≤ y.2 ∧ y.2 ≤ 9223372036854775807) (hZ : ∀ y ∈ x, y.1.size ≤ 140737488355328)
    (hX : un.Sl w a m cap x) (hm : m ≤ 6) (hn : m = n) (T : Tabs w) (EXA : ExA) :
    Calls Tryz.prog 5 #[.slice a n cap, .int .i64 k] w fun e w' => e = .returned (.bool true) ∧ Below w.heap.size w w' := by
  have T0 := Lib.hid T
  have EX := Lib.hid EXA
  have B0 := Lib.hid (b0 w)
  have X0 := Lib.hid hX
  have HI := Lib.hid hI
  have HZ := Lib.hid hZ
  have HM := Lib.hid hm
  have hl := Lib.hid hX.hn
  subst hn
  have q0 : decide (6 < (m : Int)) = false := decide_eq_false (by omega)
  clear hI hZ hX hm T EXA
  by_cases h0 : m = 0
  · subst h0
    have q1 : (((0 : Nat) : Int) == 0) = true := by decide
    clear X0 HI HZ HM hl
    go_enter Tryz.func5, Tryz.ntmps5
    go_wp2_with fail
    refine (EX.out _ (T0.out.stays B0.out)).mono ?_
    rintro e w1 ⟨rfl, b⟩
    have B1 := Lib.hid (bnext B0.out b)
    clear b
    go_wp2_with fail
    go_ret
    exact ⟨rfl, B1.out⟩
  have q1 : ((m : Int) == 0) = false := by rw [beq_eq_false_iff_ne]; omega
  have hpos := Lib.hid (show 0 < m by omega)
  clear h0
  go_enter Tryz.func5, Tryz.ntmps5
  go_wp2_with fail
  clear q0 q1
  go_loopw [6] (fun i wr => ∃ j : Nat, i = .int .i64 (j : Nat) ∧ Hid (j ≤ m) ∧ Hid (∀ k, k < j → okF (un.gt x k)) ∧ Below w.heap.size w wr) (fun i _ => m - (intOf i).toNat)
  case atStart => exact ⟨0, rfl, Lib.hid (Nat.zero_le _), Lib.hid (fun k hk => absurd hk (Nat.not_lt_zero _)), b0 w⟩
  case round =>
    clear B0
    obtain ⟨j, rfl, hj, hok, hb⟩ := hrel
    have BR := Lib.hid hb
    by_cases hlt : j < m
    · have q1 : decide ((j : Int) < (m : Int)) = true := decide_eq_true (by omega)
      have X1 := X0.out.keeps hb
      have hjl : j < x.length := by have := hl.out; omega
      obtain ⟨bk, off, rfl, hC⟩ := X1.hat.resolve_left (by omega)
      obtain ⟨c0, c1⟩ := hC j hjl
      have hcap := X1.hcap
      have hmax := X1.hmax
      have NC := Lib.hid (fun W h => nameW_any (un.gt x j).1 (HZ.out _ (un.gt_mem hjl)) W (T0.out.stays h))
      have OK1 := Lib.hid (fun h => okF_next hok.out h)
      have f4 := Lib.hid (next_at (j := j) (by have := HM.out; omega))
      have i1 : (j : Int) < (m : Int) := by omega
      clear X1 hC X0 hok HI HZ HM hjl hl hj hpos
      obtain ⟨q, hq⟩ : ∃ q, un.gt x j = q := ⟨_, rfl⟩
      rw [hq] at c0 c1 NC OK1
      clear hq
      cases hnm : name q.1
      · rw [hnm] at NC
        clear OK1 c1 f4
        go_wp2_with fail
        refine (NC.out _ BR.out).mono ?_
        rintro e w1 ⟨rfl, b⟩
        have B1 := Lib.hid (bnext BR.out b)
        clear b
        go_wp2_with fail
        refine (EX.out _ (T0.out.stays B1.out)).mono ?_
        rintro e w2 ⟨rfl, b⟩
        have B2 := Lib.hid (bnext B1.out b)
        clear b
        go_wp2_with fail
        go_ret
        exact ⟨rfl, B2.out⟩
      · rw [hnm] at NC
        by_cases h1 : q.2 < -1000
        · have p1 : decide (q.2 < -1000) = true := decide_eq_true h1
          clear OK1 f4 h1 hnm
          generalize q.2 = q2 at *
          go_wp2_with fail
          refine (NC.out _ BR.out).mono ?_
          rintro e w1 ⟨rfl, b⟩
          have B1 := Lib.hid (bnext BR.out b)
          replace c1 := dec.keeps b c1
          clear b c0
          go_wp2_with fail
          refine (EX.out _ (T0.out.stays B1.out)).mono ?_
          rintro e w2 ⟨rfl, b⟩
          have B2 := Lib.hid (bnext B1.out b)
          clear b
          go_wp2_with fail
          go_ret
          exact ⟨rfl, B2.out⟩
        · have p1 : decide (q.2 < -1000) = false := decide_eq_false h1
          by_cases h2 : 1000 < q.2
          · have p2 : decide (1000 < q.2) = true := decide_eq_true h2
            clear OK1 f4 h1 hnm h2
            generalize q.2 = q2 at *
            go_wp2_with fail
            refine (NC.out _ BR.out).mono ?_
            rintro e w1 ⟨rfl, b⟩
            have B1 := Lib.hid (bnext BR.out b)
            replace c1 := dec.keeps b c1
            clear b c0
            go_wp2_with fail
            refine (EX.out _ (T0.out.stays B1.out)).mono ?_
            rintro e w2 ⟨rfl, b⟩
            have B2 := Lib.hid (bnext B1.out b)
            clear b
            go_wp2_with fail
            go_ret
            exact ⟨rfl, B2.out⟩
          · have p2 : decide (1000 < q.2) = false := decide_eq_false h2
            have OK2 := Lib.hid (OK1.out ⟨hnm, by omega, by omega⟩)
            clear OK1 h1 hnm h2
            generalize q.2 = q2 at *
            go_wp2_with fail
            refine (NC.out _ BR.out).mono ?_
            rintro e w1 ⟨rfl, b⟩
            have B1 := Lib.hid (bnext BR.out b)
            replace c1 := dec.keeps b c1
            clear b c0
            go_wp2_with fail
            refine ⟨⟨j + 1, rfl, Lib.hid hlt, OK2, B1.out⟩, by simp [intOf]; omega⟩
    · have q1 : decide (j < m) = false := decide_eq_false hlt
      have q1' : decide ((j : Int) < (m : Int)) = false := decide_eq_false (by omega)
      have hpf := Lib.hid (pf_of (l := x) fun k hk => hok.out k (by have := hl.out; omega))
      have hne := Lib.hid (show x ≠ [] from fun e => by have h := hl.out; rw [e, List.length_nil] at h; have := hpos.out; omega)
      have hsm := Lib.hid (show ∀ y ∈ x, y.1.size ≤ 24 from fun y hy => name_small (hpf.out y hy).1)
      have FM := Lib.hid (fun W h => un.format_any a m cap x W (X0.out.keeps h) HI.out (fun y hy => Nat.le_trans (hsm.out y hy) (by decide)) (by have := hl.out; have := HM.out; omega) (by have := fT_size x hpf.out; have := hl.out; have := HM.out; omega) (un_tabs (T0.out.stays h)))
      have NM := Lib.hid (fun W h => un.normal_any a m cap x W (X0.out.keeps h) HI.out (by have := hl.out; have := HM.out; omega))
      obtain ⟨u, hu⟩ : ∃ u : ByteArray, u = ⟨(un.fT x).toArray⟩ := ⟨_, rfl⟩
      have hd : u.data.toList = un.fT x := by rw [hu]
      have hz : u.size ≤ 700 := by rw [← str_len, hd]; have := fT_size x hpf.out; have := hl.out; have := HM.out; omega
      obtain ⟨v1, hv1⟩ : ∃ v1 : ByteArray, v1 = ⟨#[91]⟩ ++ u := ⟨_, rfl⟩
      obtain ⟨v, hv⟩ : ∃ v : ByteArray, v = v1 ++ ⟨#[93]⟩ := ⟨_, rfl⟩
      obtain ⟨v7, hv7⟩ : ∃ v7 : ByteArray, v7 = ⟨#[55, 32]⟩ ++ v := ⟨_, rfl⟩
      obtain ⟨vd, hvd⟩ : ∃ vd : ByteArray, vd = ⟨#[100, 101, 99, 32]⟩ ++ v := ⟨_, rfl⟩
      have z1 : v1.size = u.size + 1 := by rw [hv1, ByteArray.size_append]; have : (⟨#[91]⟩ : ByteArray).size = 1 := rfl; omega
      have z2 : v.size = u.size + 2 := by rw [hv, ByteArray.size_append]; have : (⟨#[93]⟩ : ByteArray).size = 1 := rfl; omega
      have t1 := fun W => cat_run ⟨#[91]⟩ u (by have : (⟨#[91]⟩ : ByteArray).size = 1 := rfl; omega) W
      have t2 := fun W => cat_run v1 ⟨#[93]⟩ (by have : (⟨#[93]⟩ : ByteArray).size = 1 := rfl; omega) W
      have t3 := fun W => cat_run ⟨#[55, 32]⟩ v (by have : (⟨#[55, 32]⟩ : ByteArray).size = 2 := rfl; omega) W
      have t4 := fun W => cat_run ⟨#[100, 101, 99, 32]⟩ v (by have : (⟨#[100, 101, 99, 32]⟩ : ByteArray).size = 4 := rfl; omega) W
      rw [← hv1] at t1
      rw [← hv] at t2
      rw [← hv7] at t3
      rw [← hvd] at t4
      have e7 : v7 = s7 u := by rw [hv7, hv, hv1]; rfl
      have ed : vd = sd u := by rw [hvd, hv, hv1]; rfl
      have H7 := top_7 hne.out hpf.out hd (by omega)
      have HD := top_dec hne.out hpf.out hd (by omega)
      rw [← e7] at H7
      rw [← ed] at HD
      have zz := Lib.hid (show v7.size ≤ 1000 ∧ vd.size ≤ 1000 from ⟨by rw [e7, s7_size]; omega, by rw [ed, sd_size]; omega⟩)
      rw [← hu] at FM
      have T7 := Lib.hid H7
      have TD := Lib.hid HD
      have hok3 := Lib.hid (fun h => (un.nL_ok (l := x) h).1)
      clear X0 hok hpos hj hb hlt HI HZ HM hl hsm hpf hne hd hz hv1 hv hv7 hvd z1 z2 e7 ed H7 HD hu
      go_wp2_with fail
      refine (FM.out _ BR.out).mono ?_
      rintro e w1 ⟨rfl, b⟩
      have B1 := Lib.hid (bnext BR.out b)
      clear b FM BR
      go_wp2_with fail
      refine (NM.out _ B1.out).mono ?_
      rintro e w2 ⟨r, rfl, UO, b⟩
      obtain ⟨ad2, cap2, rfl, SL, _⟩ := UO
      have B2 := Lib.hid (bnext B1.out b)
      have SL2 := Lib.hid SL
      clear b NM B1 SL t1 t2
      obtain ⟨w3, k3, hcv3, hB3, b3⟩ := bytes_of w2 v7 (by have := zz.out; omega)
      by_cases hE : un.nE x = 0
      · have C3 := Lib.hid (topE_any _ _ _ v7 w3 hB3 ((T0.out.stays B2.out).stays b3) _ (T7.out.trans (if_pos hE)))
        have TD2 := Lib.hid (TD.out.trans (if_pos hE))
        have hok4 := Lib.hid (hok3.out hE)
        have q2 : (un.nE x != 0) = false := by rw [hE]; rfl
        have B3 := Lib.hid (bnext B2.out b3)
        have F3 := Lib.hid b3
        clear hB3 b3 T7 TD hok3 B2
        rw [hE] at q2 ⊢
        obtain ⟨y, hy⟩ : ∃ y, un.nL x = y := ⟨_, rfl⟩
        rw [hy] at C3 TD2 hok4 SL2
        rw [hy]
        clear hy hE
        have hy4 := Lib.hid hok4.out.le
        have hpb := un.ps_back hok4.out
        have hfl := un.fT_len hok4.out
        have hyi := Lib.hid (show ∀ z ∈ y, -9223372036854775808 ≤ z.2 ∧ z.2 ≤ 9223372036854775807 from fun z hz => by have := (hok4.out.good z hz).2.2; unfold un.far at this; rw [decide_eq_false_iff_not] at this; omega)
        have hyz := Lib.hid (show ∀ z ∈ y, z.1.size ≤ 1048576 from fun z hz => by have := (un.word_size (hok4.out.good z hz).1).2; omega)
        have FM2 := Lib.hid (fun W h t => un.format_any ad2 y.length cap2 y W (SL2.out.keeps h) hyi.out hyz.out (by have := hy4.out; omega) (by omega) (un_tabs t))
        obtain ⟨s9, hs9⟩ : ∃ s9 : ByteArray, s9 = ⟨(un.fT y).toArray⟩ := ⟨_, rfl⟩
        have hd9 : s9.data.toList = un.fT y := by rw [hs9]
        have PA := Lib.hid (fun W t => un.parse_any s9 (by rw [← str_len, hd9]; omega) W (un_tabs t))
        rw [hd9, hpb.1, hpb.2] at PA
        rw [← hs9] at FM2
        clear hpb hfl hyi hyz hs9 hd9 hok4 SL2
        go_wp2_with fail
        refine C3.out.mono ?_
        rintro e w4 ⟨r, rfl, V, b⟩
        obtain ⟨ua4, uc4, aa4, ac4, rfl, E⟩ := V
        have B4 := Lib.hid (bnext B3.out b)
        have G4 := Lib.hid b
        have U4 := Lib.hid (show Uc w4 ua4 y from Us.uc E.us)
        clear b E C3 hcv3 B3
        go_wp2_with (refine arm_storeT infX (.tmp 10) (.tmp 72) rfl rfl _ _ _ _ rfl rfl (Blk.new _ _ _) rfl rfl (exC_one _ _ _ _ _) ?_; intro w5 L s3; have b := (balloc (b0 w4) _).trans (s3.below (Nat.le_refl _)); have L5 := Lib.hid L; have F5 := Lib.hid b; have B5 := Lib.hid (bnext B4.out b); clear L s3 b; obtain ⟨w6, k6, hcv6, hB6, b6⟩ := bytes_of w5 vd (by have := zz.out; omega); have C6 := Lib.hid (topT_any _ _ _ _ w6 hB6 ((T0.out.stays B5.out).stays b6) _ TD2.out); have B6 := Lib.hid (bnext B5.out b6); have F6 := Lib.hid b6; clear b6 hB6)
        refine C6.out.mono ?_
        rintro e w7 ⟨r, rfl, V, b⟩
        obtain ⟨ua7, uc7, rfl, E⟩ := V
        have B7 := Lib.hid (bnext B6.out b)
        have F7 := Lib.hid b
        have U7 := Lib.hid (show Uc w7 ua7 y from Us.uc E)
        clear b E C6 hcv6
        go_wp2_with (refine arm_storeT infTy (.tmp 13) (.tmp 80) rfl rfl _ _ _ _ rfl rfl (Blk.new _ _ _) rfl rfl (by simp [Value.oneCell']) ?_; intro w8 L s3; have b := (balloc (b0 w7) _).trans (s3.below (Nat.le_refl _)); have L8 := Lib.hid L; have F8 := Lib.hid b; have B8 := Lib.hid (bnext B7.out b); clear L s3 b)
        have K8 := Lib.hid (bnext (bnext F6.out F7.out) F8.out)
        have L5' := Lib.hid (L5.out.below K8.out L5.out.lt)
        have U4' := Lib.hid ((U4.out.keeps F5.out).keeps K8.out)
        have U7' := Lib.hid (U7.out.keeps F8.out)
        have D8 := Lib.hid (bnext (bnext (bnext F3.out G4.out) F5.out) K8.out)
        clear L5 U4 U7 F3 G4 F5 F6 F7 F8 K8 B4 B5 B6 B7
        refine (FM2.out _ D8.out (T0.out.stays B8.out)).mono ?_
        rintro e w9 ⟨rfl, b⟩
        have B9 := Lib.hid (bnext B8.out b)
        have F9 := Lib.hid b
        clear b FM2 D8 B8
        go_wp2_with fail
        refine (PA.out _ (T0.out.stays B9.out)).mono ?_
        rintro e w10 ⟨r, rfl, UO, b⟩
        obtain ⟨ad3, cap3, rfl, SL⟩ := UO
        have B10 := Lib.hid (bnext B9.out b)
        have F10 := Lib.hid (bnext F9.out b)
        have UV := Lib.hid (show Uc w10 ad3 y from SL.hat)
        clear b SL PA B9 F9
        have L5 := Lib.hid (L5'.out.below F10.out L5'.out.lt)
        have L8' := Lib.hid (L8.out.below F10.out L8.out.lt)
        have U4 := Lib.hid (U4'.out.keeps F10.out)
        have U7 := Lib.hid (U7'.out.keeps F10.out)
        clear L5' L8 U4' U7' F10
        have g5 := L5.out.cell 7
        have R5 := blk_val L5.out
        simp only [litE, h0, exC, List.getElem?_toArray, List.getElem?_cons_zero, List.getElem?_cons_succ] at g5 R5
        have S1 := Lib.hid (sameUs_any y ua4 ad3 uc4 cap3 _ U4.out UV.out (by have := hy4.out; omega))
        go_wp2_with fail
        refine S1.out.mono ?_
        rintro e w11 ⟨rfl, b⟩
        have B11 := Lib.hid (bnext B10.out b)
        have L9 := Lib.hid (L8'.out.below b L8'.out.lt)
        have V9 := Lib.hid (L5.out.below b L5.out.lt)
        have S2 := Lib.hid (sameUs_any y ua7 ad3 uc7 cap3 _ (U7.out.keeps b) (UV.out.keeps b) (by have := hy4.out; omega))
        clear b S1 U4 U7 UV L5 L8' B10 g5 R5
        have g6 := L9.out.cell 1
        simp only [List.getElem?_toArray, List.getElem?_cons_zero, List.getElem?_cons_succ] at g6
        go_wp2_with fail
        refine S2.out.mono ?_
        rintro e w12 ⟨rfl, b⟩
        have B12 := Lib.hid (bnext B11.out b)
        have R9 : w12.rangeAt w4.heap.size 4 [.int .i64 2, .int .i64 7, .string ⟨#[]⟩] := blk_val (V9.out.below b V9.out.lt)
        clear b S2 L9 V9 g6 B11
        go_wp2_with (refine arm_loadGM infVal Tryz.underlying37 rfl (.tmp 129) rfl rfl _ 4 _ rfl R9 rfl ?_)
        refine (EX.out _ (T0.out.stays B12.out)).mono ?_
        rintro e w13 ⟨rfl, b⟩
        have B13 := Lib.hid (bnext B12.out b)
        clear b R9
        go_wp2_with fail
        go_ret
        exact ⟨rfl, B13.out⟩
      · have C3 := Lib.hid (topE_any _ _ _ v7 w3 hB3 ((T0.out.stays B2.out).stays b3) _ (T7.out.trans (if_neg hE)))
        have TD2 := Lib.hid (TD.out.trans (if_neg hE))
        have q2 : (un.nE x != 0) = true := bne_iff_ne.2 hE
        have q3 : (un.nE x == un.nE x) = true := beq_self_eq_true _
        have B3 := Lib.hid (bnext B2.out b3)
        clear hB3 b3 T7 TD hok3 B2 hE SL2
        generalize un.nE x = ne at *
        generalize un.nL x = y at *
        go_wp2_with fail
        refine C3.out.mono ?_
        rintro e w4 ⟨r, rfl, V, b⟩
        obtain ⟨ua4, uc4, aa4, ac4, rfl, E⟩ := V
        have B4 := Lib.hid (bnext B3.out b)
        clear b E C3 hcv3 B3
        go_wp2_with (refine arm_storeT infX (.tmp 10) (.tmp 72) rfl rfl _ _ _ _ rfl rfl (Blk.new _ _ _) rfl rfl (exC_one _ _ _ _ _) ?_; intro w5 L s3; have b := (balloc (b0 w4) _).trans (s3.below (Nat.le_refl _)); have B5 := Lib.hid (bnext B4.out b); clear L s3 b; obtain ⟨w6, k6, hcv6, hB6, b6⟩ := bytes_of w5 vd (by have := zz.out; omega); have C6 := Lib.hid (topT_any _ _ _ _ w6 hB6 ((T0.out.stays B5.out).stays b6) _ TD2.out); have B6 := Lib.hid (bnext B5.out b6); clear b6 hB6)
        refine C6.out.mono ?_
        rintro e w7 ⟨r, rfl, V, b⟩
        obtain ⟨ua7, uc7, rfl, E⟩ := V
        have B7 := Lib.hid (bnext B6.out b)
        clear b E C6 hcv6
        go_wp2_with (refine arm_storeT infTy (.tmp 13) (.tmp 80) rfl rfl _ _ _ _ rfl rfl (Blk.new _ _ _) rfl rfl (by simp [Value.oneCell']) ?_; intro w8 L s3; have b := (balloc (b0 w7) _).trans (s3.below (Nat.le_refl _)); have B8 := Lib.hid (bnext B7.out b); clear L s3 b)
        refine (EX.out _ (T0.out.stays B8.out)).mono ?_
        rintro e w9 ⟨rfl, b⟩
        have B9 := Lib.hid (bnext B8.out b)
        clear b
        go_wp2_with fail
        go_ret
        exact ⟨rfl, B9.out⟩
set_option maxRecDepth 100000 in
set_option maxHeartbeats 16000000 in
theorem wpu_many (a : Option Addr) (n cap m : Nat) (k : Int) (x : List un.Fa) (w : World) (hI : ∀ y ∈ x, -9223372036854775808 ≤ y.2 ∧ y.2 ≤ 9223372036854775807) (hZ : ∀ y ∈ x, y.1.size ≤ 140737488355328)
    (hX : un.Sl w a m cap x) (hm : m ≤ 6) (hn : m = 6 ∧ 6 < n ∧ n ≤ cap) (T : Tabs w) (EXA : ExA) :
    Calls Tryz.prog 5 #[.slice a n cap, .int .i64 k] w fun e w' => e = .returned (.bool true) ∧ Below w.heap.size w w' := by
  have T0 := Lib.hid T
  have EX := Lib.hid EXA
  have B0 := Lib.hid (b0 w)
  have X0 := Lib.hid hX
  have HI := Lib.hid hI
  have HZ := Lib.hid hZ
  have HM := Lib.hid hm
  have hl := Lib.hid hX.hn
  obtain ⟨rfl, hn6, hcap⟩ := hn
  have q0 : decide (6 < (n : Int)) = true := decide_eq_true (by omega)
  have sl := fun W => slice_6 a n cap (by omega) hcap W
  have q1 : ((6 : Int) == 0) = false := by decide
  have hpos := Lib.hid (show 0 < 6 by decide)
  clear hI hZ hX hm T EXA hn6 hcap
  go_enter Tryz.func5, Tryz.ntmps5
  go_wp2_with fail
  clear q0 q1 sl
  go_loopw [6] (fun i wr => ∃ j : Nat, i = .int .i64 (j : Nat) ∧ Hid (j ≤ 6) ∧ Hid (∀ k, k < j → okF (un.gt x k)) ∧ Below w.heap.size w wr) (fun i _ => 6 - (intOf i).toNat)
  case atStart => exact ⟨0, rfl, Lib.hid (Nat.zero_le _), Lib.hid (fun k hk => absurd hk (Nat.not_lt_zero _)), b0 w⟩
  case round =>
    clear B0
    obtain ⟨j, rfl, hj, hok, hb⟩ := hrel
    have BR := Lib.hid hb
    by_cases hlt : j < 6
    · have q1 : decide ((j : Int) < (6 : Int)) = true := decide_eq_true (by omega)
      have X1 := X0.out.keeps hb
      have hjl : j < x.length := by have := hl.out; omega
      obtain ⟨bk, off, rfl, hC⟩ := X1.hat.resolve_left (by omega)
      obtain ⟨c0, c1⟩ := hC j hjl
      have hcap := X1.hcap
      have hmax := X1.hmax
      have NC := Lib.hid (fun W h => nameW_any (un.gt x j).1 (HZ.out _ (un.gt_mem hjl)) W (T0.out.stays h))
      have OK1 := Lib.hid (fun h => okF_next hok.out h)
      have f4 := Lib.hid (next_at (j := j) (by have := HM.out; omega))
      have i1 : (j : Int) < (6 : Int) := by omega
      clear X1 hC X0 hok HI HZ HM hjl hl hj hpos
      obtain ⟨q, hq⟩ : ∃ q, un.gt x j = q := ⟨_, rfl⟩
      rw [hq] at c0 c1 NC OK1
      clear hq
      cases hnm : name q.1
      · rw [hnm] at NC
        clear OK1 c1 f4
        go_wp2_with fail
        refine (NC.out _ BR.out).mono ?_
        rintro e w1 ⟨rfl, b⟩
        have B1 := Lib.hid (bnext BR.out b)
        clear b
        go_wp2_with fail
        refine (EX.out _ (T0.out.stays B1.out)).mono ?_
        rintro e w2 ⟨rfl, b⟩
        have B2 := Lib.hid (bnext B1.out b)
        clear b
        go_wp2_with fail
        go_ret
        exact ⟨rfl, B2.out⟩
      · rw [hnm] at NC
        by_cases h1 : q.2 < -1000
        · have p1 : decide (q.2 < -1000) = true := decide_eq_true h1
          clear OK1 f4 h1 hnm
          generalize q.2 = q2 at *
          go_wp2_with fail
          refine (NC.out _ BR.out).mono ?_
          rintro e w1 ⟨rfl, b⟩
          have B1 := Lib.hid (bnext BR.out b)
          replace c1 := dec.keeps b c1
          clear b c0
          go_wp2_with fail
          refine (EX.out _ (T0.out.stays B1.out)).mono ?_
          rintro e w2 ⟨rfl, b⟩
          have B2 := Lib.hid (bnext B1.out b)
          clear b
          go_wp2_with fail
          go_ret
          exact ⟨rfl, B2.out⟩
        · have p1 : decide (q.2 < -1000) = false := decide_eq_false h1
          by_cases h2 : 1000 < q.2
          · have p2 : decide (1000 < q.2) = true := decide_eq_true h2
            clear OK1 f4 h1 hnm h2
            generalize q.2 = q2 at *
            go_wp2_with fail
            refine (NC.out _ BR.out).mono ?_
            rintro e w1 ⟨rfl, b⟩
            have B1 := Lib.hid (bnext BR.out b)
            replace c1 := dec.keeps b c1
            clear b c0
            go_wp2_with fail
            refine (EX.out _ (T0.out.stays B1.out)).mono ?_
            rintro e w2 ⟨rfl, b⟩
            have B2 := Lib.hid (bnext B1.out b)
            clear b
            go_wp2_with fail
            go_ret
            exact ⟨rfl, B2.out⟩
          · have p2 : decide (1000 < q.2) = false := decide_eq_false h2
            have OK2 := Lib.hid (OK1.out ⟨hnm, by omega, by omega⟩)
            clear OK1 h1 hnm h2
            generalize q.2 = q2 at *
            go_wp2_with fail
            refine (NC.out _ BR.out).mono ?_
            rintro e w1 ⟨rfl, b⟩
            have B1 := Lib.hid (bnext BR.out b)
            replace c1 := dec.keeps b c1
            clear b c0
            go_wp2_with fail
            refine ⟨⟨j + 1, rfl, Lib.hid hlt, OK2, B1.out⟩, by simp [intOf]; omega⟩
    · have q1 : decide (j < 6) = false := decide_eq_false hlt
      have q1' : decide ((j : Int) < (6 : Int)) = false := decide_eq_false (by omega)
      have hpf := Lib.hid (pf_of (l := x) fun k hk => hok.out k (by have := hl.out; omega))
      have hne := Lib.hid (show x ≠ [] from fun e => by have h := hl.out; rw [e, List.length_nil] at h; have := hpos.out; omega)
      have hsm := Lib.hid (show ∀ y ∈ x, y.1.size ≤ 24 from fun y hy => name_small (hpf.out y hy).1)
      have FM := Lib.hid (fun W h => un.format_any a 6 cap x W (X0.out.keeps h) HI.out (fun y hy => Nat.le_trans (hsm.out y hy) (by decide)) (by have := hl.out; have := HM.out; omega) (by have := fT_size x hpf.out; have := hl.out; have := HM.out; omega) (un_tabs (T0.out.stays h)))
      have NM := Lib.hid (fun W h => un.normal_any a 6 cap x W (X0.out.keeps h) HI.out (by have := hl.out; have := HM.out; omega))
      obtain ⟨u, hu⟩ : ∃ u : ByteArray, u = ⟨(un.fT x).toArray⟩ := ⟨_, rfl⟩
      have hd : u.data.toList = un.fT x := by rw [hu]
      have hz : u.size ≤ 700 := by rw [← str_len, hd]; have := fT_size x hpf.out; have := hl.out; have := HM.out; omega
      obtain ⟨v1, hv1⟩ : ∃ v1 : ByteArray, v1 = ⟨#[91]⟩ ++ u := ⟨_, rfl⟩
      obtain ⟨v, hv⟩ : ∃ v : ByteArray, v = v1 ++ ⟨#[93]⟩ := ⟨_, rfl⟩
      obtain ⟨v7, hv7⟩ : ∃ v7 : ByteArray, v7 = ⟨#[55, 32]⟩ ++ v := ⟨_, rfl⟩
      obtain ⟨vd, hvd⟩ : ∃ vd : ByteArray, vd = ⟨#[100, 101, 99, 32]⟩ ++ v := ⟨_, rfl⟩
      have z1 : v1.size = u.size + 1 := by rw [hv1, ByteArray.size_append]; have : (⟨#[91]⟩ : ByteArray).size = 1 := rfl; omega
      have z2 : v.size = u.size + 2 := by rw [hv, ByteArray.size_append]; have : (⟨#[93]⟩ : ByteArray).size = 1 := rfl; omega
      have t1 := fun W => cat_run ⟨#[91]⟩ u (by have : (⟨#[91]⟩ : ByteArray).size = 1 := rfl; omega) W
      have t2 := fun W => cat_run v1 ⟨#[93]⟩ (by have : (⟨#[93]⟩ : ByteArray).size = 1 := rfl; omega) W
      have t3 := fun W => cat_run ⟨#[55, 32]⟩ v (by have : (⟨#[55, 32]⟩ : ByteArray).size = 2 := rfl; omega) W
      have t4 := fun W => cat_run ⟨#[100, 101, 99, 32]⟩ v (by have : (⟨#[100, 101, 99, 32]⟩ : ByteArray).size = 4 := rfl; omega) W
      rw [← hv1] at t1
      rw [← hv] at t2
      rw [← hv7] at t3
      rw [← hvd] at t4
      have e7 : v7 = s7 u := by rw [hv7, hv, hv1]; rfl
      have ed : vd = sd u := by rw [hvd, hv, hv1]; rfl
      have H7 := top_7 hne.out hpf.out hd (by omega)
      have HD := top_dec hne.out hpf.out hd (by omega)
      rw [← e7] at H7
      rw [← ed] at HD
      have zz := Lib.hid (show v7.size ≤ 1000 ∧ vd.size ≤ 1000 from ⟨by rw [e7, s7_size]; omega, by rw [ed, sd_size]; omega⟩)
      rw [← hu] at FM
      have T7 := Lib.hid H7
      have TD := Lib.hid HD
      have hok3 := Lib.hid (fun h => (un.nL_ok (l := x) h).1)
      clear X0 hok hpos hj hb hlt HI HZ HM hl hsm hpf hne hd hz hv1 hv hv7 hvd z1 z2 e7 ed H7 HD hu
      go_wp2_with fail
      refine (FM.out _ BR.out).mono ?_
      rintro e w1 ⟨rfl, b⟩
      have B1 := Lib.hid (bnext BR.out b)
      clear b FM BR
      go_wp2_with fail
      refine (NM.out _ B1.out).mono ?_
      rintro e w2 ⟨r, rfl, UO, b⟩
      obtain ⟨ad2, cap2, rfl, SL, _⟩ := UO
      have B2 := Lib.hid (bnext B1.out b)
      have SL2 := Lib.hid SL
      clear b NM B1 SL t1 t2
      obtain ⟨w3, k3, hcv3, hB3, b3⟩ := bytes_of w2 v7 (by have := zz.out; omega)
      by_cases hE : un.nE x = 0
      · have C3 := Lib.hid (topE_any _ _ _ v7 w3 hB3 ((T0.out.stays B2.out).stays b3) _ (T7.out.trans (if_pos hE)))
        have TD2 := Lib.hid (TD.out.trans (if_pos hE))
        have hok4 := Lib.hid (hok3.out hE)
        have q2 : (un.nE x != 0) = false := by rw [hE]; rfl
        have B3 := Lib.hid (bnext B2.out b3)
        have F3 := Lib.hid b3
        clear hB3 b3 T7 TD hok3 B2
        rw [hE] at q2 ⊢
        obtain ⟨y, hy⟩ : ∃ y, un.nL x = y := ⟨_, rfl⟩
        rw [hy] at C3 TD2 hok4 SL2
        rw [hy]
        clear hy hE
        have hy4 := Lib.hid hok4.out.le
        have hpb := un.ps_back hok4.out
        have hfl := un.fT_len hok4.out
        have hyi := Lib.hid (show ∀ z ∈ y, -9223372036854775808 ≤ z.2 ∧ z.2 ≤ 9223372036854775807 from fun z hz => by have := (hok4.out.good z hz).2.2; unfold un.far at this; rw [decide_eq_false_iff_not] at this; omega)
        have hyz := Lib.hid (show ∀ z ∈ y, z.1.size ≤ 1048576 from fun z hz => by have := (un.word_size (hok4.out.good z hz).1).2; omega)
        have FM2 := Lib.hid (fun W h t => un.format_any ad2 y.length cap2 y W (SL2.out.keeps h) hyi.out hyz.out (by have := hy4.out; omega) (by omega) (un_tabs t))
        obtain ⟨s9, hs9⟩ : ∃ s9 : ByteArray, s9 = ⟨(un.fT y).toArray⟩ := ⟨_, rfl⟩
        have hd9 : s9.data.toList = un.fT y := by rw [hs9]
        have PA := Lib.hid (fun W t => un.parse_any s9 (by rw [← str_len, hd9]; omega) W (un_tabs t))
        rw [hd9, hpb.1, hpb.2] at PA
        rw [← hs9] at FM2
        clear hpb hfl hyi hyz hs9 hd9 hok4 SL2
        go_wp2_with fail
        refine C3.out.mono ?_
        rintro e w4 ⟨r, rfl, V, b⟩
        obtain ⟨ua4, uc4, aa4, ac4, rfl, E⟩ := V
        have B4 := Lib.hid (bnext B3.out b)
        have G4 := Lib.hid b
        have U4 := Lib.hid (show Uc w4 ua4 y from Us.uc E.us)
        clear b E C3 hcv3 B3
        go_wp2_with (refine arm_storeT infX (.tmp 10) (.tmp 72) rfl rfl _ _ _ _ rfl rfl (Blk.new _ _ _) rfl rfl (exC_one _ _ _ _ _) ?_; intro w5 L s3; have b := (balloc (b0 w4) _).trans (s3.below (Nat.le_refl _)); have L5 := Lib.hid L; have F5 := Lib.hid b; have B5 := Lib.hid (bnext B4.out b); clear L s3 b; obtain ⟨w6, k6, hcv6, hB6, b6⟩ := bytes_of w5 vd (by have := zz.out; omega); have C6 := Lib.hid (topT_any _ _ _ _ w6 hB6 ((T0.out.stays B5.out).stays b6) _ TD2.out); have B6 := Lib.hid (bnext B5.out b6); have F6 := Lib.hid b6; clear b6 hB6)
        refine C6.out.mono ?_
        rintro e w7 ⟨r, rfl, V, b⟩
        obtain ⟨ua7, uc7, rfl, E⟩ := V
        have B7 := Lib.hid (bnext B6.out b)
        have F7 := Lib.hid b
        have U7 := Lib.hid (show Uc w7 ua7 y from Us.uc E)
        clear b E C6 hcv6
        go_wp2_with (refine arm_storeT infTy (.tmp 13) (.tmp 80) rfl rfl _ _ _ _ rfl rfl (Blk.new _ _ _) rfl rfl (by simp [Value.oneCell']) ?_; intro w8 L s3; have b := (balloc (b0 w7) _).trans (s3.below (Nat.le_refl _)); have L8 := Lib.hid L; have F8 := Lib.hid b; have B8 := Lib.hid (bnext B7.out b); clear L s3 b)
        have K8 := Lib.hid (bnext (bnext F6.out F7.out) F8.out)
        have L5' := Lib.hid (L5.out.below K8.out L5.out.lt)
        have U4' := Lib.hid ((U4.out.keeps F5.out).keeps K8.out)
        have U7' := Lib.hid (U7.out.keeps F8.out)
        have D8 := Lib.hid (bnext (bnext (bnext F3.out G4.out) F5.out) K8.out)
        clear L5 U4 U7 F3 G4 F5 F6 F7 F8 K8 B4 B5 B6 B7
        refine (FM2.out _ D8.out (T0.out.stays B8.out)).mono ?_
        rintro e w9 ⟨rfl, b⟩
        have B9 := Lib.hid (bnext B8.out b)
        have F9 := Lib.hid b
        clear b FM2 D8 B8
        go_wp2_with fail
        refine (PA.out _ (T0.out.stays B9.out)).mono ?_
        rintro e w10 ⟨r, rfl, UO, b⟩
        obtain ⟨ad3, cap3, rfl, SL⟩ := UO
        have B10 := Lib.hid (bnext B9.out b)
        have F10 := Lib.hid (bnext F9.out b)
        have UV := Lib.hid (show Uc w10 ad3 y from SL.hat)
        clear b SL PA B9 F9
        have L5 := Lib.hid (L5'.out.below F10.out L5'.out.lt)
        have L8' := Lib.hid (L8.out.below F10.out L8.out.lt)
        have U4 := Lib.hid (U4'.out.keeps F10.out)
        have U7 := Lib.hid (U7'.out.keeps F10.out)
        clear L5' L8 U4' U7' F10
        have g5 := L5.out.cell 7
        have R5 := blk_val L5.out
        simp only [litE, h0, exC, List.getElem?_toArray, List.getElem?_cons_zero, List.getElem?_cons_succ] at g5 R5
        have S1 := Lib.hid (sameUs_any y ua4 ad3 uc4 cap3 _ U4.out UV.out (by have := hy4.out; omega))
        go_wp2_with fail
        refine S1.out.mono ?_
        rintro e w11 ⟨rfl, b⟩
        have B11 := Lib.hid (bnext B10.out b)
        have L9 := Lib.hid (L8'.out.below b L8'.out.lt)
        have V9 := Lib.hid (L5.out.below b L5.out.lt)
        have S2 := Lib.hid (sameUs_any y ua7 ad3 uc7 cap3 _ (U7.out.keeps b) (UV.out.keeps b) (by have := hy4.out; omega))
        clear b S1 U4 U7 UV L5 L8' B10 g5 R5
        have g6 := L9.out.cell 1
        simp only [List.getElem?_toArray, List.getElem?_cons_zero, List.getElem?_cons_succ] at g6
        go_wp2_with fail
        refine S2.out.mono ?_
        rintro e w12 ⟨rfl, b⟩
        have B12 := Lib.hid (bnext B11.out b)
        have R9 : w12.rangeAt w4.heap.size 4 [.int .i64 2, .int .i64 7, .string ⟨#[]⟩] := blk_val (V9.out.below b V9.out.lt)
        clear b S2 L9 V9 g6 B11
        go_wp2_with (refine arm_loadGM infVal Tryz.underlying37 rfl (.tmp 129) rfl rfl _ 4 _ rfl R9 rfl ?_)
        refine (EX.out _ (T0.out.stays B12.out)).mono ?_
        rintro e w13 ⟨rfl, b⟩
        have B13 := Lib.hid (bnext B12.out b)
        clear b R9
        go_wp2_with fail
        go_ret
        exact ⟨rfl, B13.out⟩
      · have C3 := Lib.hid (topE_any _ _ _ v7 w3 hB3 ((T0.out.stays B2.out).stays b3) _ (T7.out.trans (if_neg hE)))
        have TD2 := Lib.hid (TD.out.trans (if_neg hE))
        have q2 : (un.nE x != 0) = true := bne_iff_ne.2 hE
        have q3 : (un.nE x == un.nE x) = true := beq_self_eq_true _
        have B3 := Lib.hid (bnext B2.out b3)
        clear hB3 b3 T7 TD hok3 B2 hE SL2
        generalize un.nE x = ne at *
        generalize un.nL x = y at *
        go_wp2_with fail
        refine C3.out.mono ?_
        rintro e w4 ⟨r, rfl, V, b⟩
        obtain ⟨ua4, uc4, aa4, ac4, rfl, E⟩ := V
        have B4 := Lib.hid (bnext B3.out b)
        clear b E C3 hcv3 B3
        go_wp2_with (refine arm_storeT infX (.tmp 10) (.tmp 72) rfl rfl _ _ _ _ rfl rfl (Blk.new _ _ _) rfl rfl (exC_one _ _ _ _ _) ?_; intro w5 L s3; have b := (balloc (b0 w4) _).trans (s3.below (Nat.le_refl _)); have B5 := Lib.hid (bnext B4.out b); clear L s3 b; obtain ⟨w6, k6, hcv6, hB6, b6⟩ := bytes_of w5 vd (by have := zz.out; omega); have C6 := Lib.hid (topT_any _ _ _ _ w6 hB6 ((T0.out.stays B5.out).stays b6) _ TD2.out); have B6 := Lib.hid (bnext B5.out b6); clear b6 hB6)
        refine C6.out.mono ?_
        rintro e w7 ⟨r, rfl, V, b⟩
        obtain ⟨ua7, uc7, rfl, E⟩ := V
        have B7 := Lib.hid (bnext B6.out b)
        clear b E C6 hcv6
        go_wp2_with (refine arm_storeT infTy (.tmp 13) (.tmp 80) rfl rfl _ _ _ _ rfl rfl (Blk.new _ _ _) rfl rfl (by simp [Value.oneCell']) ?_; intro w8 L s3; have b := (balloc (b0 w7) _).trans (s3.below (Nat.le_refl _)); have B8 := Lib.hid (bnext B7.out b); clear L s3 b)
        refine (EX.out _ (T0.out.stays B8.out)).mono ?_
        rintro e w9 ⟨rfl, b⟩
        have B9 := Lib.hid (bnext B8.out b)
        clear b
        go_wp2_with fail
        go_ret
        exact ⟨rfl, B9.out⟩
theorem sl_few {w : World} {a : Option Addr} {n cap : Nat} {l : List un.Fa} (h : un.Sl w a n cap l) (hn : 6 < n) : un.Sl w a 6 cap (l.take 6) := by
  have h1 := h.hn
  have h2 := h.hcap
  have h3 := h.hmax
  have hlen : (l.take 6).length = 6 := by rw [List.length_take]; omega
  refine ⟨.inr ?_, hlen, by omega, h3, h.hno⟩
  obtain ⟨b, off, e, hC⟩ := h.hat.resolve_left (by omega)
  refine ⟨b, off, e, fun j hj => ?_⟩
  have hj6 : j < 6 := by omega
  have e1 : un.gt (l.take 6) j = un.gt l j := by
    rw [un.gt_eq hj, un.gt_eq (by omega)]
    simp
  rw [e1]
  exact hC j (by omega)
theorem walk_units (a : Option Addr) (n cap : Nat) (k : Int) (l : List un.Fa) (w : World) (hS : un.Sl w a n cap l) (hI : ∀ y ∈ l, -9223372036854775808 ≤ y.2 ∧ y.2 ≤ 9223372036854775807) (hZ : ∀ y ∈ l, y.1.size ≤ 140737488355328) (T : Tabs w) (EXA : ExA) :
    Calls Tryz.prog 5 #[.slice a n cap, .int .i64 k] w fun e w' => e = .returned (.bool true) ∧ Below w.heap.size w w' := by
  by_cases hn : 6 < n
  · exact wpu_many a n cap 6 k (l.take 6) w (fun y hy => hI y (List.mem_of_mem_take hy)) (fun y hy => hZ y (List.mem_of_mem_take hy)) (sl_few hS hn) (Nat.le_refl 6) ⟨rfl, hn, hS.hcap⟩ T EXA
  · exact wpu_few a n cap n k l w hI hZ hS (by omega) rfl T EXA
end Go.Proofs.YtbpijgddfaefkaaGreatDoor.pa
namespace Go.Proofs.YtbpijgddfaefkaaGreatDoor.parserUnits
open Go.ChangeShapes Go.WideShapes Go.ChangeAt Go.RowKit Go.Joins
open Go.ChangeMaps (open_string shut_string)

set_option maxRecDepth 100000 in
theorem lifted (os : Os) (started : os.Started) (H : Type) (enc : TypeId × Value → H) :
    ReturnsInHanded {} Tryz.checked os 5 .any (fun w args => (Rows.parserUnitsSpec.pre enc Tryz.prog Tryz.f5 [] false w args ∧ laidMetH Tryz.prog lu.laid10 w) ∧ sizedMet enc Tryz.prog Tryz.f5 (OpenSpec.ofChange Rows.parserUnitsSpec) false w args)
      (Rows.parserUnitsSpec.post enc Tryz.prog Tryz.f5 false true false false) := by
  refine returnsInHanded_of_change_and (C := Tryz.checked) (X := fun w _ => laidMetH Tryz.prog lu.laid10 w) (fun _ _ _ hh h => h.of_heap hh) own started (by kernel_rfl) Tryz.func5
    (ChangeSpec.witness_shaped (enc := enc) (C := Tryz.checked) (os := os) (X := fun w _ => laidMetH Tryz.prog lu.laid10 w) false (World.laidAll Tryz.prog os lu.laid10) #[.slice none 0 0, .int .i64 0] 8 (World.laidAll_os _ _ _) (lu.laid_shaped10 os) (by kernel_rfl) (by kernel_rfl) (by kernel_rfl) (lu.laid_met10 os _)) ?_
  intro Z base args ds gs before hval0 hW hcnd hsz hL _
  have hval : ∀ (j : Nat) t v, Tryz.f5.params[j]? = some t → args[j]? = some v → Value.okWide Tryz.prog Z .any base t v := hval0
  have hW' := hW
  obtain ⟨p, q, hA0, hV, rfl, hfz, hnd⟩ := hW
  have hA : DataW.TrodAll enc Tryz.prog Z 0 (fun _ => true) true Tryz.f5.params.toList args.toList ds p := hA0
  rw [Tryz.params5] at hA hval hsz
  obtain ⟨v0, vs0, d0, ds0, p0, q0, hargs, rfl, rfl, h0, r0⟩ := trodAll_cons hA
  obtain ⟨v1, vs1, d1, ds1, p1, q1, rfl, rfl, rfl, h1, r1⟩ := trodAll_cons r0
  obtain ⟨rfl, rfl, rfl⟩ := trodAll_nil r1
  obtain rfl : args = #[v0, v1] := by cases args; simp_all
  obtain ⟨rfl, rfl⟩ := trodVars_none hV
  obtain ⟨a0, len0, cap0, rfl⟩ := okWide_slice Tryz.underlying38 (hval 0 38 v0 rfl rfl)
  have k0 := h0
  have lt0 : ∀ x ∈ p0, x.block < Z.heap.size := by obtain ⟨m, hm⟩ := k0; exact DataW.trod_lt m _ _ _ hm
  have hL0 : ∃ l, un.Sl Z a0 len0 cap0 l ∧ (∀ q ∈ l, lu.Fin q) ∧ l.length < 5864062014805 := by
    obtain ⟨fuel, hf⟩ := h0
    obtain ⟨a, n, cap, l, e, h1, h2, h3⟩ := lu.fs_of (m := fuel) (c := .slice a0 len0 cap0) (by simpa [Value.cells] using hf) (lu.wk_of hsz (j := 0) (t := 38) rfl rfl)
    cases e
    exact ⟨l, h1, h2, h3⟩
  obtain ⟨l0, hL0, x0, n0⟩ := hL0
  obtain ⟨a1, rfl, rfl, rfl, w1⟩ := open_int Tryz.underlying3 (hval 1 3 v1 rfl rfl) h1
  have b1 := bounds_i64 w1
  clear hA0 hval0
  simp only [List.append_nil] at hW'
  refine (pa.walk_units _ _ _ _ _ Z hL0 (fun q hq => (x0 q hq).1) (fun q hq => (x0 q hq).2) (lu.tabs_of_laid10 hL) pa.example_any).mono fun e Z' ⟨he, bel⟩ => ?_
  subst he
  exact ⟨_, rfl, _, _, _, [], _, [], hW', trodAll_mk1 (shut_bool Tryz.underlying4 _), (trodAll_cons_mk (Below.trod laidOut (by kernel_rfl) (of_decide_eq_true (by kernel_rfl)) k0 bel lt0) (trodAll_cons_mk (shut_int Tryz.underlying3 w1) trodAll_mk0)), rfl, bel.frame _, fun h => by cases h⟩

theorem over : Rows.ParserUnitsSaid :=
  OpenClaim.holds_of_wide 5 Tryz.f5 rfl rfl rfl rfl rfl rfl rfl ⟨rfl, rfl, rfl, rfl, rfl⟩ rfl rfl rfl rfl rfl (by kernel_rfl) Tryz.func5 (by kernel_rfl)
    (of_decide_eq_true (by kernel_rfl)) (by unfold Func.isWrapper; first | (rw [if_pos (by decide +kernel)]; kernel_rfl) | (rw [if_neg (by decide +kernel)]; exact ⟨rfl, rfl⟩))
    (fun os started H enc _ => lifted os started H enc)

/-- The statement. -/
theorem proved : Rows.ParserUnitsCardSaid :=
  Claim7.holds_tied_plain_at .later [] [.data, .data, .data, .data, .sentinel, .sentinel, .data, .data, .data, .pinned] true _ true
    over (fun _ h => by cases h) (by kernel_rfl) (fun _ h => by cases h) parserUnits_row_tie rfl ⟨rfl, rfl⟩ (by kernel_rfl) rfl
    (fun f fn hf hfn => by
      obtain rfl : f = 5 := Option.some.inj ((show Tryz.prog.funcNamed "asof/asoflaw09.ParserUnits" = some 5 by kernel_rfl).symm.trans hf) |>.symm
      obtain rfl : fn = Tryz.f5 := (Option.some.inj (Tryz.func5.symm.trans hfn)).symm
      exact ⟨by kernel_rfl, fun j t ht => by
        rw [Tryz.params5] at ht
        have hm : t ∈ [38, 3] := by simpa using Array.mem_of_getElem? ht
        have hall : ([38, 3].all fun u => !Tryz.prog.wantsStandIn u) = true := by kernel_rfl
        exact (show Tryz.prog.wantsStandIn t = false by simpa using List.all_eq_true.1 hall t hm)⟩)
    (by kernel_rfl)
#print axioms proved
end Go.Proofs.YtbpijgddfaefkaaGreatDoor.parserUnits
