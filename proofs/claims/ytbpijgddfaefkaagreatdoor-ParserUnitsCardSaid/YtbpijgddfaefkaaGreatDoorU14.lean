/-
  Methods of a scope: operations; Expressions are read, whatever the tokens.
-/
import Derived.Deep.LoopGhost
import Derived.Test.YtbpijgddfaefkaaGreatDoorU12
import Derived.Test.YtbpijgddfaefkaaGreatDoorU13
namespace Go.Proofs.YtbpijgddfaefkaaGreatDoor.pa
open Go.RowKit dec

theorem wm {m : Nat} (h : m < 6) : wrap64 ((m : Int) - 1) = (m : Int) - 1 := by unfold wrap64; omega
theorem empty_of {s : ByteArray} (h : s.toList.isEmpty = true) : s = .empty := by
  have h1 : s.toList = [] := List.isEmpty_iff.1 h
  rw [ByteArray.toList_eq] at h1
  cases s
  simp only at h1
  have := Array.toList_eq_nil_iff.1 h1
  rw [this]
  rfl
set_option maxRecDepth 100000 in
set_option maxHeartbeats 8000000 in
theorem op_step (f : Nat) (H : ∀ k, k ≤ f → Rd k) (B : Nat) (i : Bool) (n : Nat) (hn : n ≤ 6) (l : List Tk) (w : World) (h : Ps w B l) (r : Rs Ex) (hr : pz (f + 1) i (.op n) l = r) (hne : r ≠ .out) :
    Calls Tryz.prog 89 #[.agg #[.pointer (some ⟨B, 0, none⟩), .bool i], .int .i64 (n : Nat)] w (Pst B Ev r w) := by
  have P := Lib.hid (h.keeps (balloc (balloc (b0 w) (.cells #[.pointer (some ⟨B, 0, none⟩), .bool i] 99)) (.cells zE 43)))
  have F := Lib.hid (Fr.start i h.lt)
  have NE := Lib.hid hne
  have R := H f (Nat.le_refl _)
  simp only [pz] at hr
  have HR := Lib.hid hr
  have HN := Lib.hid hn
  clear h hne hr hn
  by_cases h3 : n ≤ 3
  · cases ht : isT ⟨#[110, 111, 116]⟩ l
    · replace HR := HR.out
      rw [if_neg (fun h => by rw [ht] at h; exact absurd h.2 (by decide))] at HR
      replace HR := Lib.hid HR
      have HT := Lib.hid ht
      clear ht
      have q1 : decide ((n : Int) ≤ 3) = true := decide_eq_true (by omega)
      clear h3
      go_enter Tryz.func89, Tryz.ntmps89
      go_wp2_with fail
      refine (skip_no B ⟨#[110, 111, 116]⟩ l _ P.out HT.out).mono ?_
      rintro e w1 ⟨rfl, pp, mm⟩
      replace F := Lib.hid (F.out.next mm)
      replace P := Lib.hid pp
      clear pp mm
      have e0 := F.out.c0
      have e1 := F.out.c1
      go_wp2_with fail
      have hF := Lib.hid F.out.lt
      refine (R.ng B i l _ P.out (ne_left (by rw [HR.out]; exact NE.out))).mono ?_
      rintro e w2 h2
      rcases hG2 : pz f i .ng l with _ | ⟨v2, l2⟩ | ⟨a2, c2, l2⟩
      · exact absurd (by rw [← HR.out, hG2]; rfl) NE.out
      rotate_left
      · rw [hG2] at h2
        obtain ⟨rfl, pp, mm⟩ := h2
        unfold thr
        have hno := Lib.hid (show r = .no a2 c2 l2 by rw [← HR.out, hG2]; rfl)
        have PP := Lib.hid pp
        have MM := Lib.hid ((F.out.next mm).mv)
        clear pp mm hG2 e0 e1
        go_wp2_with fail
        exact ⟨rfl, pst_no hno.out PP.out MM.out⟩
      rw [hG2] at h2
      obtain ⟨u2, rfl, vv, pp, mm⟩ := h2
      replace HR := HR.out
      rw [hG2] at HR
      simp only [bind_okE] at HR
      replace HR := Lib.hid HR
      replace F := Lib.hid (F.out.next mm)
      replace P := Lib.hid pp
      clear pp mm hG2
      have V2 := Lib.hid vv
      clear vv
      clear e0 e1
      obtain ⟨ua2, uc2, aa2, ac2, rfl, E2⟩ := V2.out
      replace E2 := Lib.hid (Ec.less E2 hF.out)
      clear V2 hF
      go_wp2_with (refine arm_store (.tmp 4) (.tmp 18) rfl rfl _ _ _ _ rfl rfl F.out.rz rfl rfl (exC_one _ _ _ _ _) ?_; intro wz hb9 hs9; replace F := Lib.hid (F.out.set hs9 hb9); replace P := Lib.hid (P.out.st hs9 (Nat.lt_succ_of_lt F.out.hB)); replace E2 := Lib.hid (E2.out.kp (hs9.kp (by omega))); clear hb9 hs9)
      dsimp only [Act.put]
      go_loopg [5] f (fun k v wr => ∃ (m : Nat) (x : Ex) (ua : Option Addr) (uc : Nat) (aa : Option Addr) (ac : Nat) (l' : List Tk), v = .int .i64 ((m : Int) - 1) ∧ Hid (m ≤ 6) ∧ Hid (Fr w wr B i (exC x ua uc aa ac)) ∧ Hid (Ec (w.heap.size + 2) wr x ua aa) ∧ Hid (Ps wr B l') ∧ Hid (pz k i (.tl n m x) l' = r) ∧ Hid (k ≤ f))
      case atStart => exact ⟨6, _, ua2, uc2, aa2, ac2, _, rfl, Lib.hid (by decide), F, E2, P, HR, Lib.hid (Nat.le_refl _)⟩
      case round =>
        clear F P HR E2
        obtain ⟨m, x, ua, uc, aa, ac, l', rfl, hm, F, E, P, HR, hk⟩ := hrel
        rcases gk with _ | gk
        · exact absurd HR.out.symm NE.out
        by_cases hc : m ≤ n
        · have hok := Lib.hid (show Rs.ok x l' = r by rw [← HR.out]; simp only [pz]; rw [if_pos hc])
          have q1 : decide ((n : Int) ≤ (m : Int) - 1) = false := decide_eq_false (by omega)
          clear HR hm hk hc
          go_wp2_with (first | (refine arm_load (.tmp 4) rfl rfl _ _ _ rfl F.out.rz rfl ?_) | (refine arm_store (.tmp 4) (.tmp 41) rfl rfl _ _ _ _ rfl rfl F.out.rz rfl rfl (exC_one _ _ _ _ _) ?_; intro wz hb9 hs9))
          have F9 := F.out.set hs9 hb9
          have P9 := P.out.st hs9 (Nat.lt_succ_of_lt F.out.hB)
          refine ret_expr rfl _ _ _ _ _ rfl hb9 rfl ?_
          exact pst_ok hok.out.symm ⟨ua, uc, aa, ac, rfl, (E.out.kp (hs9.kp (by omega))).less (by omega)⟩ P9 F9.mv
        · rcases m with _ | m
          · exact absurd (Nat.zero_le _) hc
          have q1 : decide ((n : Int) ≤ ((m + 1 : Nat) : Int) - 1) = true := decide_eq_true (by omega)
          have q2 : (((m + 1 : Nat) : Int) - 1) = (m : Int) := by omega
          have hm6 := Lib.hid (show m < 6 by have := hm.out; omega)
          have hnm := Lib.hid (show ¬ m + 1 ≤ n from hc)
          rw [q2] at q1
          have q3 : decide (n ≤ m) = true := decide_eq_true (by omega)
          have q4 : n ≤ m := by omega
          rw [q2]
          clear hc hm q2
          have e0 := F.out.c0
          have e1 := F.out.c1
          go_wp2_with fail
          refine (operator_any B i m hm6.out l' wr P.out).mono ?_
          rintro e w2 ⟨rfl, pp, mm⟩
          have P2 := Lib.hid pp
          have F2 := Lib.hid (F.out.next mm)
          have E2 := Lib.hid (E.out.kp (mm.kp (Nat.lt_of_lt_of_le F.out.hB (Nat.le_add_right _ 2))))
          clear pp mm e0 e1 P F E
          go_wp2_with fail
          obtain ⟨go, hgo⟩ : ∃ go, go = gk + 1 := ⟨_, rfl⟩
          have hgf := Lib.hid (show go ≤ f from by rw [hgo]; exact hk.out)
          replace hgo := Lib.hid hgo
          have hgk := Lib.hid (show gk + 1 ≤ go from Nat.le_of_eq hgo.out.symm)
          go_loopg [6] (gk + 1) (fun k v w3 => ∃ (x : Ex) (ua : Option Addr) (uc : Nat) (aa : Option Addr) (ac : Nat) (l' : List Tk), v = .string (opr m l') ∧ Hid (Fr w w3 B i (exC x ua uc aa ac)) ∧ Hid (Ec (w.heap.size + 2) w3 x ua aa) ∧ Hid (Opp B m l' w3) ∧ Hid (pz k i (.tl n (m + 1) x) l' = r) ∧ Hid (k ≤ go))
          case atStart => exact ⟨x, ua, uc, aa, ac, l', rfl, F2, E2, P2, HR, hgk⟩
          case round =>
            clear F2 E2 P2 HR hgk q1 q3 q4
            obtain ⟨x, ua, uc, aa, ac, l', rfl, F, E, P, HR, hk3⟩ := hrel
            rcases gk with _ | gk
            · exact absurd HR.out.symm NE.out
            by_cases hop : opr m l' = .empty
            · have t1 : (opr m l').toList.isEmpty = true := by rw [hop, ByteArray.toList_eq]; rfl
              have HR2 := Lib.hid (show pz gk i (.tl n m x) l' = r from by rw [← HR.out]; simp only [pz]; rw [if_neg hnm.out, Nat.add_sub_cancel, if_pos hop])
              have P3 : Hid (Ps wr B l') := Lib.hid (by have := P.out; unfold Opp at this; rw [if_pos hop] at this; exact this)
              clear hop HR P
              generalize opr m l' = s at *
              go_wp2_with fail
              go_roundg gk
              case measure => have h1 := hgo.out; have h2 := hk3.out; omega
              case rel => exact ⟨m, x, ua, uc, aa, ac, l', congrArg (Value.int .i64) (wm hm6.out), Lib.hid (Nat.le_of_lt hm6.out), F, E, P3, HR2, Lib.hid (by have h1 := hgf.out; have h2 := hk3.out; omega)⟩
            · have t1 : (opr m l').toList.isEmpty = false := by
                cases hb : (opr m l').toList.isEmpty
                · rfl
                · exact absurd (empty_of hb) hop
              have HR2 := Lib.hid (show ((pz gk i (.op (m + 1)) l'.tail).bind fun y r => pz gk i (.tl n (if m + 1 = 4 then 3 else m + 1) (binE (opr m l') x y)) r) = r from by rw [← HR.out]; simp only [pz]; rw [if_neg hnm.out, Nat.add_sub_cancel, if_neg hop])
              have P3 : Hid (Ps wr B l'.tail) := Lib.hid (by have := P.out; unfold Opp at this; rw [if_neg hop] at this; exact this)
              have Rk := H gk (by have h1 := hgf.out; have h2 := hk3.out; omega)
              have hkf := Lib.hid (show gk ≤ f from by have h1 := hgf.out; have h2 := hk3.out; omega)
              have hkg := Lib.hid (show gk + 1 ≤ go from hk3.out)
              clear hop HR P hk3
              generalize opr m l' = s at *
              go_wp2_with fail
              have SS := Lib.hid (show Blk wr.drew w.heap.size 99 #[.pointer (some ⟨B, 0, none⟩), .bool i] from F.out.sc)
              replace P3 := Lib.hid (P3.out.keeps (b0 _).drew)
              replace E := Lib.hid (E.out.kp (kp_of (b0 wr).drew))
              replace F := Lib.hid (F.out.next (Mv.of (B := B) (b0 wr).drew))
              have f4 := next_at (j := m) (by have := hm6.out; omega)
              replace f4 := Lib.hid f4
              refine wp_region_held_drew (S := fun w' => Blk w' w.heap.size 99 #[.pointer (some ⟨B, 0, none⟩), .bool i]) (by kernel_rfl) SS.out (fun hH => ?_)
              clear SS
              refine held_take (i := 0) (d := 32) (v := ?_) rfl (by kernel_rfl) (by kernel_rfl) (by kernel_rfl) rfl (fun _ _ _ h => h) rfl hH (fun w' hS => ?_) ?_
              rotate_left
              · go_simp; first | done | with_reducible rfl
              simp only [List.set_cons_zero, List.set_cons_succ]
              refine held_take (i := 2) (d := 34) (v := .agg #[.pointer (some ⟨B, 0, none⟩), .bool i]) rfl (by kernel_rfl) (by kernel_rfl) (by kernel_rfl) rfl (fun _ _ _ h => h) rfl hH (fun w' hS => yield_load infSc Tryz.underlying99 rfl (.tmp 2) rfl _ _ _ rfl hS rfl) ?_
              simp only [List.set_cons_zero, List.set_cons_succ]
              refine held_take (i := 3) (d := 35) (v := ?_) rfl (by kernel_rfl) (by kernel_rfl) (by kernel_rfl) rfl (fun _ _ _ h => h) rfl hH (fun w' hS => ?_) ?_
              rotate_left
              · go_simp; first | done | with_reducible rfl
              simp only [List.set_cons_zero, List.set_cons_succ]
              refine held_take (i := 4) (d := 36) (v := .int .i64 ((m + 1 : Nat) : Int)) rfl (by kernel_rfl) (by kernel_rfl) (by kernel_rfl) rfl (fun _ _ _ h => h) rfl hH (fun w' hS => ?_) ?_
              · go_simp; first | done | with_reducible rfl | (have h6 := hm6.out; rw [IntKind.wrap_i64]; omega)
              simp only [List.set_cons_zero, List.set_cons_succ]
              refine held_two (i := 1) (j := 5) rfl rfl (by kernel_rfl) rfl rfl (fun K hK => ?_) (fun K hK => ?_)
              · refine op_load (.tmp 4) rfl _ _ _ rfl F.out.rz rfl ?_
                refine hK.out _ _ hH (fun hH => ?_)
                clear hK K
                refine held_only (i := 5) rfl (by kernel_rfl) rfl (fun K hK => ?_)
                go_simp
                refine (Rk.op B i (m + 1) l'.tail _ (by have := hm6.out; omega) P3.out (ne_left (by rw [HR2.out]; exact NE.out))).mono ?_
                rintro e w4 h4
                rcases hG4 : pz gk i (.op (m + 1)) l'.tail with _ | ⟨y, l4⟩ | ⟨a4, c4, l4⟩
                · exact absurd (by rw [← HR2.out, hG4]; rfl) NE.out
                rotate_left
                · rw [hG4] at h4
                  obtain ⟨rfl, pp, mm⟩ := h4
                  unfold thr
                  exact ⟨rfl, pst_no (by rw [← HR2.out, hG4]; rfl) pp (F.out.next mm).mv⟩
                rw [hG4] at h4
                obtain ⟨uy, rfl, vv, pp, mm⟩ := h4
                obtain ⟨uay, ucy, aay, acy, rfl, EY⟩ := vv
                have hB := F.out.hB
                replace EY := Lib.hid (Ec.less EY F.out.lt)
                have HR3 := Lib.hid (show pz gk i (.tl n (if m + 1 = 4 then 3 else m + 1) (binE s x y)) l4 = r by rw [← HR2.out, hG4]; rfl)
                replace E := Lib.hid (E.out.kp (mm.kp (show B < w.heap.size + 2 by omega)))
                replace hH := hH.mv mm (by omega) hH.lt
                replace F := Lib.hid (F.out.next mm)
                have P4 := Lib.hid pp
                clear pp mm hG4 HR2 hB
                refine hK.out _ _ hH (fun hH => ?_)
                clear hK K
                refine held_only (i := 6) rfl (by kernel_rfl) rfl (fun K hK => ?_)
                go_simp
                have hC := Lib.hid F.out.lt
                refine (binary_any s x ua uc aa ac y uay ucy aay acy (w.heap.size + 2) w4 E.out EY.out hC.out).mono ?_
                rintro e wU ⟨aaU, acU, rfl, EU, bb⟩
                replace EU := Lib.hid EU
                replace hH := hH.below bb hH.lt
                replace F := Lib.hid (F.out.nextB bb)
                replace P4 := Lib.hid (P4.out.keeps bb)
                clear bb E EY hC
                refine hK.out _ _ hH (fun hH => ?_)
                clear hK K
                refine held_only (i := 7) rfl (by kernel_rfl) rfl (fun K hK => ?_)
                refine op_store (.tmp 4) (.tmp 38) rfl _ _ _ _ rfl rfl F.out.rz rfl rfl (exC_one _ _ _ _ _) ?_
                intro w9 hb9 hs9
                refine hK.out _ _ (hH.st hs9 (by omega)) (fun hH => ?_)
                clear hK K
                replace F := Lib.hid (F.out.set hs9 hb9)
                replace P4 := Lib.hid (P4.out.st hs9 (by have := F.out.hB; omega))
                replace EU := Lib.hid (EU.out.kp (hs9.kp (by omega)))
                clear hb9 hs9 hH
                refine wpAnyH_done (by kernel_rfl) ?_ _
                by_cases hm3 : m = 3
                · have q5 : ((m : Int) == 3) = true := by simp; omega
                  have q6 := Lib.hid (show wrap64 ((m : Int) - 1) = ((3 : Nat) : Int) - 1 from by rw [wm hm6.out, hm3])
                  have HR4 := Lib.hid (show pz gk i (.tl n 3 (binE s x y)) l4 = r from by rw [← HR3.out, if_pos (by omega)])
                  clear hm3 HR3
                  go_wp2_with fail
                  go_roundg gk
                  case measure => have h1 := hgo.out; have h2 := hkg.out; omega
                  case rel => exact ⟨3, binE s x y, none, 0, aaU, acU, l4, congrArg (Value.int .i64) q6.out, Lib.hid (by decide), F, EU, P4, HR4, hkf⟩
                · have q5 : ((m : Int) == 3) = false := by simp; omega
                  have HR4 := Lib.hid (show pz gk i (.tl n (m + 1) (binE s x y)) l4 = r from by rw [← HR3.out, if_neg (by omega)])
                  clear hm3 HR3
                  have e0 := F.out.c0
                  have e1 := F.out.c1
                  go_wp2_with fail
                  refine (operator_any B i m hm6.out l4 w9 P4.out).mono ?_
                  rintro e w7 ⟨rfl, pp, mm⟩
                  have P5 := Lib.hid pp
                  have F5 := Lib.hid (F.out.next mm)
                  have E5 := Lib.hid (EU.out.kp (mm.kp (Nat.lt_of_lt_of_le F.out.hB (Nat.le_add_right _ 2))))
                  clear pp mm e0 e1
                  go_wp2_with fail
                  go_roundg gk
                  case measure => omega
                  case rel => exact ⟨binE s x y, none, 0, aaU, acU, l4, rfl, F5, E5, P5, HR4, Lib.hid (by have := hkg.out; omega)⟩
              · go_simp
                refine (Rk.op B i (m + 1) l'.tail _ (by have := hm6.out; omega) P3.out (ne_left (by rw [HR2.out]; exact NE.out))).mono ?_
                rintro e w4 h4
                rcases hG4 : pz gk i (.op (m + 1)) l'.tail with _ | ⟨y, l4⟩ | ⟨a4, c4, l4⟩
                · exact absurd (by rw [← HR2.out, hG4]; rfl) NE.out
                rotate_left
                · rw [hG4] at h4
                  obtain ⟨rfl, pp, mm⟩ := h4
                  unfold thr
                  exact ⟨rfl, pst_no (by rw [← HR2.out, hG4]; rfl) pp (F.out.next mm).mv⟩
                rw [hG4] at h4
                obtain ⟨uy, rfl, vv, pp, mm⟩ := h4
                obtain ⟨uay, ucy, aay, acy, rfl, EY⟩ := vv
                have hB := F.out.hB
                replace EY := Lib.hid (Ec.less EY F.out.lt)
                have HR3 := Lib.hid (show pz gk i (.tl n (if m + 1 = 4 then 3 else m + 1) (binE s x y)) l4 = r by rw [← HR2.out, hG4]; rfl)
                replace E := Lib.hid (E.out.kp (mm.kp (show B < w.heap.size + 2 by omega)))
                replace hH := hH.mv mm (by omega) hH.lt
                replace F := Lib.hid (F.out.next mm)
                have P4 := Lib.hid pp
                clear pp mm hG4 HR2 hB
                refine hK.out _ _ hH (fun hH => ?_)
                clear hK K
                refine held_only (i := 1) rfl (by kernel_rfl) rfl (fun K hK => ?_)
                refine op_load (.tmp 4) rfl _ _ _ rfl F.out.rz rfl ?_
                refine hK.out _ _ hH (fun hH => ?_)
                clear hK K
                refine held_only (i := 6) rfl (by kernel_rfl) rfl (fun K hK => ?_)
                go_simp
                have hC := Lib.hid F.out.lt
                refine (binary_any s x ua uc aa ac y uay ucy aay acy (w.heap.size + 2) w4 E.out EY.out hC.out).mono ?_
                rintro e wU ⟨aaU, acU, rfl, EU, bb⟩
                replace EU := Lib.hid EU
                replace hH := hH.below bb hH.lt
                replace F := Lib.hid (F.out.nextB bb)
                replace P4 := Lib.hid (P4.out.keeps bb)
                clear bb E EY hC
                refine hK.out _ _ hH (fun hH => ?_)
                clear hK K
                refine held_only (i := 7) rfl (by kernel_rfl) rfl (fun K hK => ?_)
                refine op_store (.tmp 4) (.tmp 38) rfl _ _ _ _ rfl rfl F.out.rz rfl rfl (exC_one _ _ _ _ _) ?_
                intro w9 hb9 hs9
                refine hK.out _ _ (hH.st hs9 (by omega)) (fun hH => ?_)
                clear hK K
                replace F := Lib.hid (F.out.set hs9 hb9)
                replace P4 := Lib.hid (P4.out.st hs9 (by have := F.out.hB; omega))
                replace EU := Lib.hid (EU.out.kp (hs9.kp (by omega)))
                clear hb9 hs9 hH
                refine wpAnyH_done (by kernel_rfl) ?_ _
                by_cases hm3 : m = 3
                · have q5 : ((m : Int) == 3) = true := by simp; omega
                  have q6 := Lib.hid (show wrap64 ((m : Int) - 1) = ((3 : Nat) : Int) - 1 from by rw [wm hm6.out, hm3])
                  have HR4 := Lib.hid (show pz gk i (.tl n 3 (binE s x y)) l4 = r from by rw [← HR3.out, if_pos (by omega)])
                  clear hm3 HR3
                  go_wp2_with fail
                  go_roundg gk
                  case measure => have h1 := hgo.out; have h2 := hkg.out; omega
                  case rel => exact ⟨3, binE s x y, none, 0, aaU, acU, l4, congrArg (Value.int .i64) q6.out, Lib.hid (by decide), F, EU, P4, HR4, hkf⟩
                · have q5 : ((m : Int) == 3) = false := by simp; omega
                  have HR4 := Lib.hid (show pz gk i (.tl n (m + 1) (binE s x y)) l4 = r from by rw [← HR3.out, if_neg (by omega)])
                  clear hm3 HR3
                  have e0 := F.out.c0
                  have e1 := F.out.c1
                  go_wp2_with fail
                  refine (operator_any B i m hm6.out l4 w9 P4.out).mono ?_
                  rintro e w7 ⟨rfl, pp, mm⟩
                  have P5 := Lib.hid pp
                  have F5 := Lib.hid (F.out.next mm)
                  have E5 := Lib.hid (EU.out.kp (mm.kp (Nat.lt_of_lt_of_le F.out.hB (Nat.le_add_right _ 2))))
                  clear pp mm e0 e1
                  go_wp2_with fail
                  go_roundg gk
                  case measure => omega
                  case rel => exact ⟨binE s x y, none, 0, aaU, acU, l4, rfl, F5, E5, P5, HR4, Lib.hid (by have := hkg.out; omega)⟩
    · replace HR := HR.out
      rw [if_pos ⟨h3, ht⟩] at HR
      replace HR := Lib.hid HR
      have HT := Lib.hid ht
      clear ht
      have q1 : decide ((n : Int) ≤ 3) = true := decide_eq_true (by omega)
      clear h3
      go_enter Tryz.func89, Tryz.ntmps89
      go_wp2_with fail
      refine (skip_yes B ⟨#[110, 111, 116]⟩ l _ P.out HT.out).mono ?_
      rintro e w1 ⟨rfl, pp, mm⟩
      replace F := Lib.hid (F.out.next mm)
      replace P := Lib.hid pp
      clear pp mm
      have e0 := F.out.c0
      have e1 := F.out.c1
      go_wp2_with fail
      have hF := Lib.hid F.out.lt
      refine (R.op B i 3 l.tail _ (by decide) P.out (ne_left (by rw [HR.out]; exact NE.out))).mono ?_
      rintro e w2 h2
      rcases hG2 : pz f i (.op 3) l.tail with _ | ⟨v2, l2⟩ | ⟨a2, c2, l2⟩
      · exact absurd (by rw [← HR.out, hG2]; rfl) NE.out
      rotate_left
      · rw [hG2] at h2
        obtain ⟨rfl, pp, mm⟩ := h2
        unfold thr
        have hno := Lib.hid (show r = .no a2 c2 l2 by rw [← HR.out, hG2]; rfl)
        have PP := Lib.hid pp
        have MM := Lib.hid ((F.out.next mm).mv)
        clear pp mm hG2 e0 e1
        go_wp2_with fail
        exact ⟨rfl, pst_no hno.out PP.out MM.out⟩
      rw [hG2] at h2
      obtain ⟨u2, rfl, vv, pp, mm⟩ := h2
      replace HR := HR.out
      rw [hG2] at HR
      simp only [bind_okE] at HR
      replace HR := Lib.hid HR
      replace F := Lib.hid (F.out.next mm)
      replace P := Lib.hid pp
      clear pp mm hG2
      have V2 := Lib.hid vv
      clear vv
      clear e0 e1
      obtain ⟨ua2, uc2, aa2, ac2, rfl, E2⟩ := V2.out
      replace E2 := Lib.hid (Ec.less E2 hF.out)
      clear V2 hF
      go_wp2_with fail
      have hC := Lib.hid F.out.lt
      refine (unary_any ⟨#[110, 111, 116]⟩ v2 ua2 uc2 aa2 ac2 (w.heap.size + 2) w2 E2.out hC.out).mono ?_
      rintro e wU ⟨aaU, acU, rfl, EU, bb⟩
      replace EU := Lib.hid EU
      replace F := Lib.hid (F.out.nextB bb)
      replace P := Lib.hid (P.out.keeps bb)
      clear bb E2 hC
      go_wp2_with (refine arm_store (.tmp 4) (.tmp 16) rfl rfl _ _ _ _ rfl rfl F.out.rz rfl rfl (exC_one _ _ _ _ _) ?_; intro wz hb9 hs9; replace F := Lib.hid (F.out.set hs9 hb9); replace P := Lib.hid (P.out.st hs9 (Nat.lt_succ_of_lt F.out.hB)); replace EU := Lib.hid (EU.out.kp (hs9.kp (by omega))); clear hb9 hs9)
      go_loopg [5] f (fun k v wr => ∃ (m : Nat) (x : Ex) (ua : Option Addr) (uc : Nat) (aa : Option Addr) (ac : Nat) (l' : List Tk), v = .int .i64 ((m : Int) - 1) ∧ Hid (m ≤ 6) ∧ Hid (Fr w wr B i (exC x ua uc aa ac)) ∧ Hid (Ec (w.heap.size + 2) wr x ua aa) ∧ Hid (Ps wr B l') ∧ Hid (pz k i (.tl n m x) l' = r) ∧ Hid (k ≤ f))
      case atStart => exact ⟨3, _, none, 0, aaU, acU, _, rfl, Lib.hid (by decide), F, EU, P, HR, Lib.hid (Nat.le_refl _)⟩
      case round =>
        clear F P HR EU
        obtain ⟨m, x, ua, uc, aa, ac, l', rfl, hm, F, E, P, HR, hk⟩ := hrel
        rcases gk with _ | gk
        · exact absurd HR.out.symm NE.out
        by_cases hc : m ≤ n
        · have hok := Lib.hid (show Rs.ok x l' = r by rw [← HR.out]; simp only [pz]; rw [if_pos hc])
          have q1 : decide ((n : Int) ≤ (m : Int) - 1) = false := decide_eq_false (by omega)
          clear HR hm hk hc
          go_wp2_with (first | (refine arm_load (.tmp 4) rfl rfl _ _ _ rfl F.out.rz rfl ?_) | (refine arm_store (.tmp 4) (.tmp 41) rfl rfl _ _ _ _ rfl rfl F.out.rz rfl rfl (exC_one _ _ _ _ _) ?_; intro wz hb9 hs9))
          have F9 := F.out.set hs9 hb9
          have P9 := P.out.st hs9 (Nat.lt_succ_of_lt F.out.hB)
          refine ret_expr rfl _ _ _ _ _ rfl hb9 rfl ?_
          exact pst_ok hok.out.symm ⟨ua, uc, aa, ac, rfl, (E.out.kp (hs9.kp (by omega))).less (by omega)⟩ P9 F9.mv
        · rcases m with _ | m
          · exact absurd (Nat.zero_le _) hc
          have q1 : decide ((n : Int) ≤ ((m + 1 : Nat) : Int) - 1) = true := decide_eq_true (by omega)
          have q2 : (((m + 1 : Nat) : Int) - 1) = (m : Int) := by omega
          have hm6 := Lib.hid (show m < 6 by have := hm.out; omega)
          have hnm := Lib.hid (show ¬ m + 1 ≤ n from hc)
          rw [q2] at q1
          have q3 : decide (n ≤ m) = true := decide_eq_true (by omega)
          have q4 : n ≤ m := by omega
          rw [q2]
          clear hc hm q2
          have e0 := F.out.c0
          have e1 := F.out.c1
          go_wp2_with fail
          refine (operator_any B i m hm6.out l' wr P.out).mono ?_
          rintro e w2 ⟨rfl, pp, mm⟩
          have P2 := Lib.hid pp
          have F2 := Lib.hid (F.out.next mm)
          have E2 := Lib.hid (E.out.kp (mm.kp (Nat.lt_of_lt_of_le F.out.hB (Nat.le_add_right _ 2))))
          clear pp mm e0 e1 P F E
          go_wp2_with fail
          obtain ⟨go, hgo⟩ : ∃ go, go = gk + 1 := ⟨_, rfl⟩
          have hgf := Lib.hid (show go ≤ f from by rw [hgo]; exact hk.out)
          replace hgo := Lib.hid hgo
          have hgk := Lib.hid (show gk + 1 ≤ go from Nat.le_of_eq hgo.out.symm)
          go_loopg [6] (gk + 1) (fun k v w3 => ∃ (x : Ex) (ua : Option Addr) (uc : Nat) (aa : Option Addr) (ac : Nat) (l' : List Tk), v = .string (opr m l') ∧ Hid (Fr w w3 B i (exC x ua uc aa ac)) ∧ Hid (Ec (w.heap.size + 2) w3 x ua aa) ∧ Hid (Opp B m l' w3) ∧ Hid (pz k i (.tl n (m + 1) x) l' = r) ∧ Hid (k ≤ go))
          case atStart => exact ⟨x, ua, uc, aa, ac, l', rfl, F2, E2, P2, HR, hgk⟩
          case round =>
            clear F2 E2 P2 HR hgk q1 q3 q4
            obtain ⟨x, ua, uc, aa, ac, l', rfl, F, E, P, HR, hk3⟩ := hrel
            rcases gk with _ | gk
            · exact absurd HR.out.symm NE.out
            by_cases hop : opr m l' = .empty
            · have t1 : (opr m l').toList.isEmpty = true := by rw [hop, ByteArray.toList_eq]; rfl
              have HR2 := Lib.hid (show pz gk i (.tl n m x) l' = r from by rw [← HR.out]; simp only [pz]; rw [if_neg hnm.out, Nat.add_sub_cancel, if_pos hop])
              have P3 : Hid (Ps wr B l') := Lib.hid (by have := P.out; unfold Opp at this; rw [if_pos hop] at this; exact this)
              clear hop HR P
              generalize opr m l' = s at *
              go_wp2_with fail
              go_roundg gk
              case measure => have h1 := hgo.out; have h2 := hk3.out; omega
              case rel => exact ⟨m, x, ua, uc, aa, ac, l', congrArg (Value.int .i64) (wm hm6.out), Lib.hid (Nat.le_of_lt hm6.out), F, E, P3, HR2, Lib.hid (by have h1 := hgf.out; have h2 := hk3.out; omega)⟩
            · have t1 : (opr m l').toList.isEmpty = false := by
                cases hb : (opr m l').toList.isEmpty
                · rfl
                · exact absurd (empty_of hb) hop
              have HR2 := Lib.hid (show ((pz gk i (.op (m + 1)) l'.tail).bind fun y r => pz gk i (.tl n (if m + 1 = 4 then 3 else m + 1) (binE (opr m l') x y)) r) = r from by rw [← HR.out]; simp only [pz]; rw [if_neg hnm.out, Nat.add_sub_cancel, if_neg hop])
              have P3 : Hid (Ps wr B l'.tail) := Lib.hid (by have := P.out; unfold Opp at this; rw [if_neg hop] at this; exact this)
              have Rk := H gk (by have h1 := hgf.out; have h2 := hk3.out; omega)
              have hkf := Lib.hid (show gk ≤ f from by have h1 := hgf.out; have h2 := hk3.out; omega)
              have hkg := Lib.hid (show gk + 1 ≤ go from hk3.out)
              clear hop HR P hk3
              generalize opr m l' = s at *
              go_wp2_with fail
              have SS := Lib.hid (show Blk wr.drew w.heap.size 99 #[.pointer (some ⟨B, 0, none⟩), .bool i] from F.out.sc)
              replace P3 := Lib.hid (P3.out.keeps (b0 _).drew)
              replace E := Lib.hid (E.out.kp (kp_of (b0 wr).drew))
              replace F := Lib.hid (F.out.next (Mv.of (B := B) (b0 wr).drew))
              have f4 := next_at (j := m) (by have := hm6.out; omega)
              replace f4 := Lib.hid f4
              refine wp_region_held_drew (S := fun w' => Blk w' w.heap.size 99 #[.pointer (some ⟨B, 0, none⟩), .bool i]) (by kernel_rfl) SS.out (fun hH => ?_)
              clear SS
              refine held_take (i := 0) (d := 32) (v := ?_) rfl (by kernel_rfl) (by kernel_rfl) (by kernel_rfl) rfl (fun _ _ _ h => h) rfl hH (fun w' hS => ?_) ?_
              rotate_left
              · go_simp; first | done | with_reducible rfl
              simp only [List.set_cons_zero, List.set_cons_succ]
              refine held_take (i := 2) (d := 34) (v := .agg #[.pointer (some ⟨B, 0, none⟩), .bool i]) rfl (by kernel_rfl) (by kernel_rfl) (by kernel_rfl) rfl (fun _ _ _ h => h) rfl hH (fun w' hS => yield_load infSc Tryz.underlying99 rfl (.tmp 2) rfl _ _ _ rfl hS rfl) ?_
              simp only [List.set_cons_zero, List.set_cons_succ]
              refine held_take (i := 3) (d := 35) (v := ?_) rfl (by kernel_rfl) (by kernel_rfl) (by kernel_rfl) rfl (fun _ _ _ h => h) rfl hH (fun w' hS => ?_) ?_
              rotate_left
              · go_simp; first | done | with_reducible rfl
              simp only [List.set_cons_zero, List.set_cons_succ]
              refine held_take (i := 4) (d := 36) (v := .int .i64 ((m + 1 : Nat) : Int)) rfl (by kernel_rfl) (by kernel_rfl) (by kernel_rfl) rfl (fun _ _ _ h => h) rfl hH (fun w' hS => ?_) ?_
              · go_simp; first | done | with_reducible rfl | (have h6 := hm6.out; rw [IntKind.wrap_i64]; omega)
              simp only [List.set_cons_zero, List.set_cons_succ]
              refine held_two (i := 1) (j := 5) rfl rfl (by kernel_rfl) rfl rfl (fun K hK => ?_) (fun K hK => ?_)
              · refine op_load (.tmp 4) rfl _ _ _ rfl F.out.rz rfl ?_
                refine hK.out _ _ hH (fun hH => ?_)
                clear hK K
                refine held_only (i := 5) rfl (by kernel_rfl) rfl (fun K hK => ?_)
                go_simp
                refine (Rk.op B i (m + 1) l'.tail _ (by have := hm6.out; omega) P3.out (ne_left (by rw [HR2.out]; exact NE.out))).mono ?_
                rintro e w4 h4
                rcases hG4 : pz gk i (.op (m + 1)) l'.tail with _ | ⟨y, l4⟩ | ⟨a4, c4, l4⟩
                · exact absurd (by rw [← HR2.out, hG4]; rfl) NE.out
                rotate_left
                · rw [hG4] at h4
                  obtain ⟨rfl, pp, mm⟩ := h4
                  unfold thr
                  exact ⟨rfl, pst_no (by rw [← HR2.out, hG4]; rfl) pp (F.out.next mm).mv⟩
                rw [hG4] at h4
                obtain ⟨uy, rfl, vv, pp, mm⟩ := h4
                obtain ⟨uay, ucy, aay, acy, rfl, EY⟩ := vv
                have hB := F.out.hB
                replace EY := Lib.hid (Ec.less EY F.out.lt)
                have HR3 := Lib.hid (show pz gk i (.tl n (if m + 1 = 4 then 3 else m + 1) (binE s x y)) l4 = r by rw [← HR2.out, hG4]; rfl)
                replace E := Lib.hid (E.out.kp (mm.kp (show B < w.heap.size + 2 by omega)))
                replace hH := hH.mv mm (by omega) hH.lt
                replace F := Lib.hid (F.out.next mm)
                have P4 := Lib.hid pp
                clear pp mm hG4 HR2 hB
                refine hK.out _ _ hH (fun hH => ?_)
                clear hK K
                refine held_only (i := 6) rfl (by kernel_rfl) rfl (fun K hK => ?_)
                go_simp
                have hC := Lib.hid F.out.lt
                refine (binary_any s x ua uc aa ac y uay ucy aay acy (w.heap.size + 2) w4 E.out EY.out hC.out).mono ?_
                rintro e wU ⟨aaU, acU, rfl, EU, bb⟩
                replace EU := Lib.hid EU
                replace hH := hH.below bb hH.lt
                replace F := Lib.hid (F.out.nextB bb)
                replace P4 := Lib.hid (P4.out.keeps bb)
                clear bb E EY hC
                refine hK.out _ _ hH (fun hH => ?_)
                clear hK K
                refine held_only (i := 7) rfl (by kernel_rfl) rfl (fun K hK => ?_)
                refine op_store (.tmp 4) (.tmp 38) rfl _ _ _ _ rfl rfl F.out.rz rfl rfl (exC_one _ _ _ _ _) ?_
                intro w9 hb9 hs9
                refine hK.out _ _ (hH.st hs9 (by omega)) (fun hH => ?_)
                clear hK K
                replace F := Lib.hid (F.out.set hs9 hb9)
                replace P4 := Lib.hid (P4.out.st hs9 (by have := F.out.hB; omega))
                replace EU := Lib.hid (EU.out.kp (hs9.kp (by omega)))
                clear hb9 hs9 hH
                refine wpAnyH_done (by kernel_rfl) ?_ _
                by_cases hm3 : m = 3
                · have q5 : ((m : Int) == 3) = true := by simp; omega
                  have q6 := Lib.hid (show wrap64 ((m : Int) - 1) = ((3 : Nat) : Int) - 1 from by rw [wm hm6.out, hm3])
                  have HR4 := Lib.hid (show pz gk i (.tl n 3 (binE s x y)) l4 = r from by rw [← HR3.out, if_pos (by omega)])
                  clear hm3 HR3
                  go_wp2_with fail
                  go_roundg gk
                  case measure => have h1 := hgo.out; have h2 := hkg.out; omega
                  case rel => exact ⟨3, binE s x y, none, 0, aaU, acU, l4, congrArg (Value.int .i64) q6.out, Lib.hid (by decide), F, EU, P4, HR4, hkf⟩
                · have q5 : ((m : Int) == 3) = false := by simp; omega
                  have HR4 := Lib.hid (show pz gk i (.tl n (m + 1) (binE s x y)) l4 = r from by rw [← HR3.out, if_neg (by omega)])
                  clear hm3 HR3
                  have e0 := F.out.c0
                  have e1 := F.out.c1
                  go_wp2_with fail
                  refine (operator_any B i m hm6.out l4 w9 P4.out).mono ?_
                  rintro e w7 ⟨rfl, pp, mm⟩
                  have P5 := Lib.hid pp
                  have F5 := Lib.hid (F.out.next mm)
                  have E5 := Lib.hid (EU.out.kp (mm.kp (Nat.lt_of_lt_of_le F.out.hB (Nat.le_add_right _ 2))))
                  clear pp mm e0 e1
                  go_wp2_with fail
                  go_roundg gk
                  case measure => omega
                  case rel => exact ⟨binE s x y, none, 0, aaU, acU, l4, rfl, F5, E5, P5, HR4, Lib.hid (by have := hkg.out; omega)⟩
              · go_simp
                refine (Rk.op B i (m + 1) l'.tail _ (by have := hm6.out; omega) P3.out (ne_left (by rw [HR2.out]; exact NE.out))).mono ?_
                rintro e w4 h4
                rcases hG4 : pz gk i (.op (m + 1)) l'.tail with _ | ⟨y, l4⟩ | ⟨a4, c4, l4⟩
                · exact absurd (by rw [← HR2.out, hG4]; rfl) NE.out
                rotate_left
                · rw [hG4] at h4
                  obtain ⟨rfl, pp, mm⟩ := h4
                  unfold thr
                  exact ⟨rfl, pst_no (by rw [← HR2.out, hG4]; rfl) pp (F.out.next mm).mv⟩
                rw [hG4] at h4
                obtain ⟨uy, rfl, vv, pp, mm⟩ := h4
                obtain ⟨uay, ucy, aay, acy, rfl, EY⟩ := vv
                have hB := F.out.hB
                replace EY := Lib.hid (Ec.less EY F.out.lt)
                have HR3 := Lib.hid (show pz gk i (.tl n (if m + 1 = 4 then 3 else m + 1) (binE s x y)) l4 = r by rw [← HR2.out, hG4]; rfl)
                replace E := Lib.hid (E.out.kp (mm.kp (show B < w.heap.size + 2 by omega)))
                replace hH := hH.mv mm (by omega) hH.lt
                replace F := Lib.hid (F.out.next mm)
                have P4 := Lib.hid pp
                clear pp mm hG4 HR2 hB
                refine hK.out _ _ hH (fun hH => ?_)
                clear hK K
                refine held_only (i := 1) rfl (by kernel_rfl) rfl (fun K hK => ?_)
                refine op_load (.tmp 4) rfl _ _ _ rfl F.out.rz rfl ?_
                refine hK.out _ _ hH (fun hH => ?_)
                clear hK K
                refine held_only (i := 6) rfl (by kernel_rfl) rfl (fun K hK => ?_)
                go_simp
                have hC := Lib.hid F.out.lt
                refine (binary_any s x ua uc aa ac y uay ucy aay acy (w.heap.size + 2) w4 E.out EY.out hC.out).mono ?_
                rintro e wU ⟨aaU, acU, rfl, EU, bb⟩
                replace EU := Lib.hid EU
                replace hH := hH.below bb hH.lt
                replace F := Lib.hid (F.out.nextB bb)
                replace P4 := Lib.hid (P4.out.keeps bb)
                clear bb E EY hC
                refine hK.out _ _ hH (fun hH => ?_)
                clear hK K
                refine held_only (i := 7) rfl (by kernel_rfl) rfl (fun K hK => ?_)
                refine op_store (.tmp 4) (.tmp 38) rfl _ _ _ _ rfl rfl F.out.rz rfl rfl (exC_one _ _ _ _ _) ?_
                intro w9 hb9 hs9
                refine hK.out _ _ (hH.st hs9 (by omega)) (fun hH => ?_)
                clear hK K
                replace F := Lib.hid (F.out.set hs9 hb9)
                replace P4 := Lib.hid (P4.out.st hs9 (by have := F.out.hB; omega))
                replace EU := Lib.hid (EU.out.kp (hs9.kp (by omega)))
                clear hb9 hs9 hH
                refine wpAnyH_done (by kernel_rfl) ?_ _
                by_cases hm3 : m = 3
                · have q5 : ((m : Int) == 3) = true := by simp; omega
                  have q6 := Lib.hid (show wrap64 ((m : Int) - 1) = ((3 : Nat) : Int) - 1 from by rw [wm hm6.out, hm3])
                  have HR4 := Lib.hid (show pz gk i (.tl n 3 (binE s x y)) l4 = r from by rw [← HR3.out, if_pos (by omega)])
                  clear hm3 HR3
                  go_wp2_with fail
                  go_roundg gk
                  case measure => have h1 := hgo.out; have h2 := hkg.out; omega
                  case rel => exact ⟨3, binE s x y, none, 0, aaU, acU, l4, congrArg (Value.int .i64) q6.out, Lib.hid (by decide), F, EU, P4, HR4, hkf⟩
                · have q5 : ((m : Int) == 3) = false := by simp; omega
                  have HR4 := Lib.hid (show pz gk i (.tl n (m + 1) (binE s x y)) l4 = r from by rw [← HR3.out, if_neg (by omega)])
                  clear hm3 HR3
                  have e0 := F.out.c0
                  have e1 := F.out.c1
                  go_wp2_with fail
                  refine (operator_any B i m hm6.out l4 w9 P4.out).mono ?_
                  rintro e w7 ⟨rfl, pp, mm⟩
                  have P5 := Lib.hid pp
                  have F5 := Lib.hid (F.out.next mm)
                  have E5 := Lib.hid (EU.out.kp (mm.kp (Nat.lt_of_lt_of_le F.out.hB (Nat.le_add_right _ 2))))
                  clear pp mm e0 e1
                  go_wp2_with fail
                  go_roundg gk
                  case measure => omega
                  case rel => exact ⟨binE s x y, none, 0, aaU, acU, l4, rfl, F5, E5, P5, HR4, Lib.hid (by have := hkg.out; omega)⟩
  · replace HR := HR.out
    rw [if_neg (fun h => h3 h.1)] at HR
    replace HR := Lib.hid HR
    have q1 : decide ((n : Int) ≤ 3) = false := decide_eq_false (by omega)
    clear h3
    go_enter Tryz.func89, Tryz.ntmps89
    go_wp2_with fail
    have hF := Lib.hid F.out.lt
    refine (R.ng B i l _ P.out (ne_left (by rw [HR.out]; exact NE.out))).mono ?_
    rintro e w1 h1
    rcases hG1 : pz f i .ng l with _ | ⟨v1, l1⟩ | ⟨a1, c1, l1⟩
    · exact absurd (by rw [← HR.out, hG1]; rfl) NE.out
    rotate_left
    · rw [hG1] at h1
      obtain ⟨rfl, pp, mm⟩ := h1
      unfold thr
      have hno := Lib.hid (show r = .no a1 c1 l1 by rw [← HR.out, hG1]; rfl)
      have PP := Lib.hid pp
      have MM := Lib.hid ((F.out.next mm).mv)
      clear pp mm hG1
      go_wp2_with fail
      exact ⟨rfl, pst_no hno.out PP.out MM.out⟩
    rw [hG1] at h1
    obtain ⟨u1, rfl, vv, pp, mm⟩ := h1
    replace HR := HR.out
    rw [hG1] at HR
    simp only [bind_okE] at HR
    replace HR := Lib.hid HR
    replace F := Lib.hid (F.out.next mm)
    replace P := Lib.hid pp
    clear pp mm hG1
    have V1 := Lib.hid vv
    clear vv
    obtain ⟨ua1, uc1, aa1, ac1, rfl, E1⟩ := V1.out
    replace E1 := Lib.hid (Ec.less E1 hF.out)
    clear V1 hF
    go_wp2_with (refine arm_store (.tmp 4) (.tmp 18) rfl rfl _ _ _ _ rfl rfl F.out.rz rfl rfl (exC_one _ _ _ _ _) ?_; intro wz hb9 hs9; replace F := Lib.hid (F.out.set hs9 hb9); replace P := Lib.hid (P.out.st hs9 (Nat.lt_succ_of_lt F.out.hB)); replace E1 := Lib.hid (E1.out.kp (hs9.kp (by omega))); clear hb9 hs9)
    dsimp only [Act.put]
    go_loopg [5] f (fun k v wr => ∃ (m : Nat) (x : Ex) (ua : Option Addr) (uc : Nat) (aa : Option Addr) (ac : Nat) (l' : List Tk), v = .int .i64 ((m : Int) - 1) ∧ Hid (m ≤ 6) ∧ Hid (Fr w wr B i (exC x ua uc aa ac)) ∧ Hid (Ec (w.heap.size + 2) wr x ua aa) ∧ Hid (Ps wr B l') ∧ Hid (pz k i (.tl n m x) l' = r) ∧ Hid (k ≤ f))
    case atStart => exact ⟨6, _, ua1, uc1, aa1, ac1, _, rfl, Lib.hid (by decide), F, E1, P, HR, Lib.hid (Nat.le_refl _)⟩
    case round =>
      clear F P HR E1
      obtain ⟨m, x, ua, uc, aa, ac, l', rfl, hm, F, E, P, HR, hk⟩ := hrel
      rcases gk with _ | gk
      · exact absurd HR.out.symm NE.out
      by_cases hc : m ≤ n
      · have hok := Lib.hid (show Rs.ok x l' = r by rw [← HR.out]; simp only [pz]; rw [if_pos hc])
        have q1 : decide ((n : Int) ≤ (m : Int) - 1) = false := decide_eq_false (by omega)
        clear HR hm hk hc
        go_wp2_with (first | (refine arm_load (.tmp 4) rfl rfl _ _ _ rfl F.out.rz rfl ?_) | (refine arm_store (.tmp 4) (.tmp 41) rfl rfl _ _ _ _ rfl rfl F.out.rz rfl rfl (exC_one _ _ _ _ _) ?_; intro wz hb9 hs9))
        have F9 := F.out.set hs9 hb9
        have P9 := P.out.st hs9 (Nat.lt_succ_of_lt F.out.hB)
        refine ret_expr rfl _ _ _ _ _ rfl hb9 rfl ?_
        exact pst_ok hok.out.symm ⟨ua, uc, aa, ac, rfl, (E.out.kp (hs9.kp (by omega))).less (by omega)⟩ P9 F9.mv
      · rcases m with _ | m
        · exact absurd (Nat.zero_le _) hc
        have q1 : decide ((n : Int) ≤ ((m + 1 : Nat) : Int) - 1) = true := decide_eq_true (by omega)
        have q2 : (((m + 1 : Nat) : Int) - 1) = (m : Int) := by omega
        have hm6 := Lib.hid (show m < 6 by have := hm.out; omega)
        have hnm := Lib.hid (show ¬ m + 1 ≤ n from hc)
        rw [q2] at q1
        have q3 : decide (n ≤ m) = true := decide_eq_true (by omega)
        have q4 : n ≤ m := by omega
        rw [q2]
        clear hc hm q2
        have e0 := F.out.c0
        have e1 := F.out.c1
        go_wp2_with fail
        refine (operator_any B i m hm6.out l' wr P.out).mono ?_
        rintro e w2 ⟨rfl, pp, mm⟩
        have P2 := Lib.hid pp
        have F2 := Lib.hid (F.out.next mm)
        have E2 := Lib.hid (E.out.kp (mm.kp (Nat.lt_of_lt_of_le F.out.hB (Nat.le_add_right _ 2))))
        clear pp mm e0 e1 P F E
        go_wp2_with fail
        obtain ⟨go, hgo⟩ : ∃ go, go = gk + 1 := ⟨_, rfl⟩
        have hgf := Lib.hid (show go ≤ f from by rw [hgo]; exact hk.out)
        replace hgo := Lib.hid hgo
        have hgk := Lib.hid (show gk + 1 ≤ go from Nat.le_of_eq hgo.out.symm)
        go_loopg [6] (gk + 1) (fun k v w3 => ∃ (x : Ex) (ua : Option Addr) (uc : Nat) (aa : Option Addr) (ac : Nat) (l' : List Tk), v = .string (opr m l') ∧ Hid (Fr w w3 B i (exC x ua uc aa ac)) ∧ Hid (Ec (w.heap.size + 2) w3 x ua aa) ∧ Hid (Opp B m l' w3) ∧ Hid (pz k i (.tl n (m + 1) x) l' = r) ∧ Hid (k ≤ go))
        case atStart => exact ⟨x, ua, uc, aa, ac, l', rfl, F2, E2, P2, HR, hgk⟩
        case round =>
          clear F2 E2 P2 HR hgk q1 q3 q4
          obtain ⟨x, ua, uc, aa, ac, l', rfl, F, E, P, HR, hk3⟩ := hrel
          rcases gk with _ | gk
          · exact absurd HR.out.symm NE.out
          by_cases hop : opr m l' = .empty
          · have t1 : (opr m l').toList.isEmpty = true := by rw [hop, ByteArray.toList_eq]; rfl
            have HR2 := Lib.hid (show pz gk i (.tl n m x) l' = r from by rw [← HR.out]; simp only [pz]; rw [if_neg hnm.out, Nat.add_sub_cancel, if_pos hop])
            have P3 : Hid (Ps wr B l') := Lib.hid (by have := P.out; unfold Opp at this; rw [if_pos hop] at this; exact this)
            clear hop HR P
            generalize opr m l' = s at *
            go_wp2_with fail
            go_roundg gk
            case measure => have h1 := hgo.out; have h2 := hk3.out; omega
            case rel => exact ⟨m, x, ua, uc, aa, ac, l', congrArg (Value.int .i64) (wm hm6.out), Lib.hid (Nat.le_of_lt hm6.out), F, E, P3, HR2, Lib.hid (by have h1 := hgf.out; have h2 := hk3.out; omega)⟩
          · have t1 : (opr m l').toList.isEmpty = false := by
              cases hb : (opr m l').toList.isEmpty
              · rfl
              · exact absurd (empty_of hb) hop
            have HR2 := Lib.hid (show ((pz gk i (.op (m + 1)) l'.tail).bind fun y r => pz gk i (.tl n (if m + 1 = 4 then 3 else m + 1) (binE (opr m l') x y)) r) = r from by rw [← HR.out]; simp only [pz]; rw [if_neg hnm.out, Nat.add_sub_cancel, if_neg hop])
            have P3 : Hid (Ps wr B l'.tail) := Lib.hid (by have := P.out; unfold Opp at this; rw [if_neg hop] at this; exact this)
            have Rk := H gk (by have h1 := hgf.out; have h2 := hk3.out; omega)
            have hkf := Lib.hid (show gk ≤ f from by have h1 := hgf.out; have h2 := hk3.out; omega)
            have hkg := Lib.hid (show gk + 1 ≤ go from hk3.out)
            clear hop HR P hk3
            generalize opr m l' = s at *
            go_wp2_with fail
            have SS := Lib.hid (show Blk wr.drew w.heap.size 99 #[.pointer (some ⟨B, 0, none⟩), .bool i] from F.out.sc)
            replace P3 := Lib.hid (P3.out.keeps (b0 _).drew)
            replace E := Lib.hid (E.out.kp (kp_of (b0 wr).drew))
            replace F := Lib.hid (F.out.next (Mv.of (B := B) (b0 wr).drew))
            have f4 := next_at (j := m) (by have := hm6.out; omega)
            replace f4 := Lib.hid f4
            refine wp_region_held_drew (S := fun w' => Blk w' w.heap.size 99 #[.pointer (some ⟨B, 0, none⟩), .bool i]) (by kernel_rfl) SS.out (fun hH => ?_)
            clear SS
            refine held_take (i := 0) (d := 32) (v := ?_) rfl (by kernel_rfl) (by kernel_rfl) (by kernel_rfl) rfl (fun _ _ _ h => h) rfl hH (fun w' hS => ?_) ?_
            rotate_left
            · go_simp; first | done | with_reducible rfl
            simp only [List.set_cons_zero, List.set_cons_succ]
            refine held_take (i := 2) (d := 34) (v := .agg #[.pointer (some ⟨B, 0, none⟩), .bool i]) rfl (by kernel_rfl) (by kernel_rfl) (by kernel_rfl) rfl (fun _ _ _ h => h) rfl hH (fun w' hS => yield_load infSc Tryz.underlying99 rfl (.tmp 2) rfl _ _ _ rfl hS rfl) ?_
            simp only [List.set_cons_zero, List.set_cons_succ]
            refine held_take (i := 3) (d := 35) (v := ?_) rfl (by kernel_rfl) (by kernel_rfl) (by kernel_rfl) rfl (fun _ _ _ h => h) rfl hH (fun w' hS => ?_) ?_
            rotate_left
            · go_simp; first | done | with_reducible rfl
            simp only [List.set_cons_zero, List.set_cons_succ]
            refine held_take (i := 4) (d := 36) (v := .int .i64 ((m + 1 : Nat) : Int)) rfl (by kernel_rfl) (by kernel_rfl) (by kernel_rfl) rfl (fun _ _ _ h => h) rfl hH (fun w' hS => ?_) ?_
            · go_simp; first | done | with_reducible rfl | (have h6 := hm6.out; rw [IntKind.wrap_i64]; omega)
            simp only [List.set_cons_zero, List.set_cons_succ]
            refine held_two (i := 1) (j := 5) rfl rfl (by kernel_rfl) rfl rfl (fun K hK => ?_) (fun K hK => ?_)
            · refine op_load (.tmp 4) rfl _ _ _ rfl F.out.rz rfl ?_
              refine hK.out _ _ hH (fun hH => ?_)
              clear hK K
              refine held_only (i := 5) rfl (by kernel_rfl) rfl (fun K hK => ?_)
              go_simp
              refine (Rk.op B i (m + 1) l'.tail _ (by have := hm6.out; omega) P3.out (ne_left (by rw [HR2.out]; exact NE.out))).mono ?_
              rintro e w4 h4
              rcases hG4 : pz gk i (.op (m + 1)) l'.tail with _ | ⟨y, l4⟩ | ⟨a4, c4, l4⟩
              · exact absurd (by rw [← HR2.out, hG4]; rfl) NE.out
              rotate_left
              · rw [hG4] at h4
                obtain ⟨rfl, pp, mm⟩ := h4
                unfold thr
                exact ⟨rfl, pst_no (by rw [← HR2.out, hG4]; rfl) pp (F.out.next mm).mv⟩
              rw [hG4] at h4
              obtain ⟨uy, rfl, vv, pp, mm⟩ := h4
              obtain ⟨uay, ucy, aay, acy, rfl, EY⟩ := vv
              have hB := F.out.hB
              replace EY := Lib.hid (Ec.less EY F.out.lt)
              have HR3 := Lib.hid (show pz gk i (.tl n (if m + 1 = 4 then 3 else m + 1) (binE s x y)) l4 = r by rw [← HR2.out, hG4]; rfl)
              replace E := Lib.hid (E.out.kp (mm.kp (show B < w.heap.size + 2 by omega)))
              replace hH := hH.mv mm (by omega) hH.lt
              replace F := Lib.hid (F.out.next mm)
              have P4 := Lib.hid pp
              clear pp mm hG4 HR2 hB
              refine hK.out _ _ hH (fun hH => ?_)
              clear hK K
              refine held_only (i := 6) rfl (by kernel_rfl) rfl (fun K hK => ?_)
              go_simp
              have hC := Lib.hid F.out.lt
              refine (binary_any s x ua uc aa ac y uay ucy aay acy (w.heap.size + 2) w4 E.out EY.out hC.out).mono ?_
              rintro e wU ⟨aaU, acU, rfl, EU, bb⟩
              replace EU := Lib.hid EU
              replace hH := hH.below bb hH.lt
              replace F := Lib.hid (F.out.nextB bb)
              replace P4 := Lib.hid (P4.out.keeps bb)
              clear bb E EY hC
              refine hK.out _ _ hH (fun hH => ?_)
              clear hK K
              refine held_only (i := 7) rfl (by kernel_rfl) rfl (fun K hK => ?_)
              refine op_store (.tmp 4) (.tmp 38) rfl _ _ _ _ rfl rfl F.out.rz rfl rfl (exC_one _ _ _ _ _) ?_
              intro w9 hb9 hs9
              refine hK.out _ _ (hH.st hs9 (by omega)) (fun hH => ?_)
              clear hK K
              replace F := Lib.hid (F.out.set hs9 hb9)
              replace P4 := Lib.hid (P4.out.st hs9 (by have := F.out.hB; omega))
              replace EU := Lib.hid (EU.out.kp (hs9.kp (by omega)))
              clear hb9 hs9 hH
              refine wpAnyH_done (by kernel_rfl) ?_ _
              by_cases hm3 : m = 3
              · have q5 : ((m : Int) == 3) = true := by simp; omega
                have q6 := Lib.hid (show wrap64 ((m : Int) - 1) = ((3 : Nat) : Int) - 1 from by rw [wm hm6.out, hm3])
                have HR4 := Lib.hid (show pz gk i (.tl n 3 (binE s x y)) l4 = r from by rw [← HR3.out, if_pos (by omega)])
                clear hm3 HR3
                go_wp2_with fail
                go_roundg gk
                case measure => have h1 := hgo.out; have h2 := hkg.out; omega
                case rel => exact ⟨3, binE s x y, none, 0, aaU, acU, l4, congrArg (Value.int .i64) q6.out, Lib.hid (by decide), F, EU, P4, HR4, hkf⟩
              · have q5 : ((m : Int) == 3) = false := by simp; omega
                have HR4 := Lib.hid (show pz gk i (.tl n (m + 1) (binE s x y)) l4 = r from by rw [← HR3.out, if_neg (by omega)])
                clear hm3 HR3
                have e0 := F.out.c0
                have e1 := F.out.c1
                go_wp2_with fail
                refine (operator_any B i m hm6.out l4 w9 P4.out).mono ?_
                rintro e w7 ⟨rfl, pp, mm⟩
                have P5 := Lib.hid pp
                have F5 := Lib.hid (F.out.next mm)
                have E5 := Lib.hid (EU.out.kp (mm.kp (Nat.lt_of_lt_of_le F.out.hB (Nat.le_add_right _ 2))))
                clear pp mm e0 e1
                go_wp2_with fail
                go_roundg gk
                case measure => omega
                case rel => exact ⟨binE s x y, none, 0, aaU, acU, l4, rfl, F5, E5, P5, HR4, Lib.hid (by have := hkg.out; omega)⟩
            · go_simp
              refine (Rk.op B i (m + 1) l'.tail _ (by have := hm6.out; omega) P3.out (ne_left (by rw [HR2.out]; exact NE.out))).mono ?_
              rintro e w4 h4
              rcases hG4 : pz gk i (.op (m + 1)) l'.tail with _ | ⟨y, l4⟩ | ⟨a4, c4, l4⟩
              · exact absurd (by rw [← HR2.out, hG4]; rfl) NE.out
              rotate_left
              · rw [hG4] at h4
                obtain ⟨rfl, pp, mm⟩ := h4
                unfold thr
                exact ⟨rfl, pst_no (by rw [← HR2.out, hG4]; rfl) pp (F.out.next mm).mv⟩
              rw [hG4] at h4
              obtain ⟨uy, rfl, vv, pp, mm⟩ := h4
              obtain ⟨uay, ucy, aay, acy, rfl, EY⟩ := vv
              have hB := F.out.hB
              replace EY := Lib.hid (Ec.less EY F.out.lt)
              have HR3 := Lib.hid (show pz gk i (.tl n (if m + 1 = 4 then 3 else m + 1) (binE s x y)) l4 = r by rw [← HR2.out, hG4]; rfl)
              replace E := Lib.hid (E.out.kp (mm.kp (show B < w.heap.size + 2 by omega)))
              replace hH := hH.mv mm (by omega) hH.lt
              replace F := Lib.hid (F.out.next mm)
              have P4 := Lib.hid pp
              clear pp mm hG4 HR2 hB
              refine hK.out _ _ hH (fun hH => ?_)
              clear hK K
              refine held_only (i := 1) rfl (by kernel_rfl) rfl (fun K hK => ?_)
              refine op_load (.tmp 4) rfl _ _ _ rfl F.out.rz rfl ?_
              refine hK.out _ _ hH (fun hH => ?_)
              clear hK K
              refine held_only (i := 6) rfl (by kernel_rfl) rfl (fun K hK => ?_)
              go_simp
              have hC := Lib.hid F.out.lt
              refine (binary_any s x ua uc aa ac y uay ucy aay acy (w.heap.size + 2) w4 E.out EY.out hC.out).mono ?_
              rintro e wU ⟨aaU, acU, rfl, EU, bb⟩
              replace EU := Lib.hid EU
              replace hH := hH.below bb hH.lt
              replace F := Lib.hid (F.out.nextB bb)
              replace P4 := Lib.hid (P4.out.keeps bb)
              clear bb E EY hC
              refine hK.out _ _ hH (fun hH => ?_)
              clear hK K
              refine held_only (i := 7) rfl (by kernel_rfl) rfl (fun K hK => ?_)
              refine op_store (.tmp 4) (.tmp 38) rfl _ _ _ _ rfl rfl F.out.rz rfl rfl (exC_one _ _ _ _ _) ?_
              intro w9 hb9 hs9
              refine hK.out _ _ (hH.st hs9 (by omega)) (fun hH => ?_)
              clear hK K
              replace F := Lib.hid (F.out.set hs9 hb9)
              replace P4 := Lib.hid (P4.out.st hs9 (by have := F.out.hB; omega))
              replace EU := Lib.hid (EU.out.kp (hs9.kp (by omega)))
              clear hb9 hs9 hH
              refine wpAnyH_done (by kernel_rfl) ?_ _
              by_cases hm3 : m = 3
              · have q5 : ((m : Int) == 3) = true := by simp; omega
                have q6 := Lib.hid (show wrap64 ((m : Int) - 1) = ((3 : Nat) : Int) - 1 from by rw [wm hm6.out, hm3])
                have HR4 := Lib.hid (show pz gk i (.tl n 3 (binE s x y)) l4 = r from by rw [← HR3.out, if_pos (by omega)])
                clear hm3 HR3
                go_wp2_with fail
                go_roundg gk
                case measure => have h1 := hgo.out; have h2 := hkg.out; omega
                case rel => exact ⟨3, binE s x y, none, 0, aaU, acU, l4, congrArg (Value.int .i64) q6.out, Lib.hid (by decide), F, EU, P4, HR4, hkf⟩
              · have q5 : ((m : Int) == 3) = false := by simp; omega
                have HR4 := Lib.hid (show pz gk i (.tl n (m + 1) (binE s x y)) l4 = r from by rw [← HR3.out, if_neg (by omega)])
                clear hm3 HR3
                have e0 := F.out.c0
                have e1 := F.out.c1
                go_wp2_with fail
                refine (operator_any B i m hm6.out l4 w9 P4.out).mono ?_
                rintro e w7 ⟨rfl, pp, mm⟩
                have P5 := Lib.hid pp
                have F5 := Lib.hid (F.out.next mm)
                have E5 := Lib.hid (EU.out.kp (mm.kp (Nat.lt_of_lt_of_le F.out.hB (Nat.le_add_right _ 2))))
                clear pp mm e0 e1
                go_wp2_with fail
                go_roundg gk
                case measure => omega
                case rel => exact ⟨binE s x y, none, 0, aaU, acU, l4, rfl, F5, E5, P5, HR4, Lib.hid (by have := hkg.out; omega)⟩
end Go.Proofs.YtbpijgddfaefkaaGreatDoor.pa
namespace Go.Proofs.YtbpijgddfaefkaaGreatDoor.pa
open Go.RowKit dec

theorem rd_all : ∀ f, Rd f := by
  intro f
  induction f using Nat.strongRecOn with
  | _ f ih =>
    rcases f with _ | f
    · exact ⟨fun _ _ _ _ _ h => absurd rfl h, fun _ _ _ _ _ h => absurd rfl h, fun _ _ _ _ _ h => absurd rfl h, fun _ _ _ _ _ h => absurd rfl h, fun _ _ _ _ _ h => absurd rfl h, fun _ _ _ _ _ h => absurd rfl h, fun _ _ _ _ _ _ _ h => absurd rfl h⟩
    · have R := ih f (Nat.lt_succ_self _)
      have H : ∀ k, k ≤ f → Rd k := fun k hk => ih k (Nat.lt_succ_of_le hk)
      exact ⟨fun B i l w h hn => ex_step f R B i l w h _ rfl hn, fun B i l w h hn => ng_step f R B i l w h _ rfl hn, fun B i l w h hn => pr_step f R B i l w h _ rfl hn, fun B i l w h hn => pa_step f R B i l w h _ rfl hn,
        fun B i l w h hn => ag_step f R B i l w h _ rfl hn, fun B i l w h hn => rf_step f R B i l w h _ rfl hn, fun B i n l w hm h hn => op_step f H B i n hm l w h _ rfl hn⟩
/-- An expression outside of an aggregate. -/
def exR (l : List Tk) : Rs Ex := pz (8 * l.length + 5) false .ex l
theorem exR_ne (l : List Tk) : exR l ≠ .out := pz_ne _ _ _ _ trivial (by simp only [Md.rk]; omega)
theorem expr_r (B : Nat) (l : List Tk) (w : World) (h : Ps w B l) : Calls Tryz.prog 46 #[.agg #[.pointer (some ⟨B, 0, none⟩), .bool false]] w (Pst B Ev (exR l) w) := (rd_all _).ex B false l w h (exR_ne l)
end Go.Proofs.YtbpijgddfaefkaaGreatDoor.pa
