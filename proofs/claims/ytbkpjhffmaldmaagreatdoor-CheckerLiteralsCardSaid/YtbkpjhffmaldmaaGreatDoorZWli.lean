/-
  CheckerLiterals.
-/
import Derived.Test.YtbkpjhffmaldmaaGreatDoorQ13
import Derived.Test.YtbkpjhffmaldmaaGreatDoorZFct
import Derived.Test.YtbkpjhffmaldmaaGreatDoorZVck
namespace Go.Proofs.YtbkpjhffmaldmaaGreatDoor.ch
open Go.RowKit dec

theorem ct_nil (w : World) : CtV w ctZ [] [] := ⟨none, 0, 0, none, 0, 0, none, 0, 0, none, 0, 0, rfl, Rw.nil _ _ _, Rw.nil _ _ _⟩
theorem lit_i (k n : Int) (s : ByteArray) (hs : s.size ≤ 140737488355328) (a : Option Addr) (c : Nat) (u : List un.Fa) (o : ByteArray) (w : World) (hS : un.Sl w a u.length c u) (hu : u.length ≤ K) (ho : o.size ≤ 140737488355328) (T : Tabs w) :
    Calls Tryz.prog 22 #[.agg ctZ, .string ⟨#[117, 115, 101, 114]⟩, .agg (exC (litX ⟨k, n, s⟩ u o).h 0 a c none 0)] w (IfV (if litB ⟨k, n, s⟩ u o = true then (0, ⟨k, u, o⟩) else noR 3) w) := by
  have h := Infer_any ctZ [] [] ⟨#[117, 115, 101, 114]⟩ (litX ⟨k, n, s⟩ u o) a none c 0 w (ct_nil w) ⟨fun t h => (by cases h), fun f h => (by cases h)⟩ ⟨⟨(by decide : (⟨#[]⟩ : ByteArray).size ≤ 140737488355328), ho, (by decide : (⟨#[]⟩ : ByteArray).size ≤ 140737488355328), hs⟩, trivial⟩ ⟨hu, trivial⟩ ⟨hS, Fs.nil w⟩ T
  rw [inf_lit, lit_iff] at h
  exact h
theorem ty_lit {v : Va} {u : List un.Fa} {o : ByteArray} (h : litB v u o = true) : tyE ⟨v.k, u, o⟩ = 0 := by
  rw [← lit_iff] at h
  unfold litH at h
  simp only [Bool.and_eq_true, decide_eq_true_eq] at h
  exact h.2.2.1
theorem has_lit {v : Va} {u : List un.Fa} {o : ByteArray} (h : litB v u o = true) : hsP v v.k = true := by
  unfold litB at h
  simp only [Bool.and_eq_true, decide_eq_true_eq] at h
  unfold hsP ok
  rw [decide_eq_true h.1.1]
  simp
set_option maxRecDepth 100000 in
set_option maxHeartbeats 8000000 in
theorem walk_literals (k n : Int) (s : ByteArray) (hs : s.size ≤ 140737488355328) (a : Option Addr) (c : Nat) (u : List un.Fa) (o : ByteArray) (w : World) (hS : un.Sl w a u.length c u) (hu : u.length ≤ K) (hz : ∀ f ∈ u, f.1.size ≤ 140737488355328) (ho : o.size ≤ 140737488355328) (T : Tabs w) :
    Calls Tryz.prog 9 #[.agg #[.int .i64 k, .int .i64 n, .string s], .slice a u.length c, .string o] w (Bl true w) := by
  have CE := Lib.hid (fun (W : World) (T : Tabs W) => example_any W T)
  have CI := Lib.hid (fun (W : World) (S : un.Sl W a u.length c u) (T : Tabs W) => lit_i k n s hs a c u o W S hu ho T)
  have CK := Lib.hid (fun (W : World) => check_any k n s hs W)
  have CU := Lib.hid (fun (W : World) (S : un.Sl W a u.length c u) => un.check_any a u.length c u W S)
  have CN := Lib.hid (fun (W : World) (T : Tabs W) => nameW_any o ho W T)
  have CM := Lib.hid (fun (j : Nat) (h : j < u.length) (W : World) (T : Tabs W) => nameW_any (un.gt u j).1 (hz _ (un.gt_mem h)) W T)
  have CS := Lib.hid (fun (W : World) (b : Option Addr) (d : Nat) (S1 : un.Sl W b u.length d u) (S2 : un.Sl W a u.length c u) => sameType_any ⟨k, u, o⟩ ⟨k, u, o⟩ b a d c W S1 S2)
  have CT := Lib.hid (fun (W : World) (b : Option Addr) (d : Nat) (S1 : un.Sl W b u.length d u) (T : Tabs W) => type_any ⟨k, u, o⟩ b d W S1 ho T)
  have CH := Lib.hid (fun (W : World) (b : Option Addr) (d : Nat) => has_any k n s hs k b u.length d o W)
  have HS := Lib.hid hS
  have HT := Lib.hid T
  have B0 := Lib.hid (balloc (b0 w) (.cells #[.int .i64 k, .int .i64 n, .string s] 23))
  have V0 := Lib.hid (Blk.new w 23 #[.int .i64 k, .int .i64 n, .string s])
  replace HS := Lib.hid (HS.out.keeps B0.out)
  replace HT := Lib.hid (HT.out.stays B0.out)
  have hlu := Lib.hid (show u.length ≤ 9223372036854775807 from by have := hS.hcap; have := hS.hmax; omega)
  obtain ⟨R, hR⟩ : ∃ R, R = (decide (ck ⟨k, n, s⟩ = 0) && (!decide (k = 0) && decide (0 ≤ n))) := ⟨_, rfl⟩
  have hB : litB ⟨k, n, s⟩ u o = (R && (if k = 2 ∨ k = 3 then decide (o = .empty) && (decide (un.ck u = 0) && nms u) else if k = 5 then decide (u.length = 0) && name o else decide (u.length = 0) && decide (o = .empty))) := by rw [hR]; rfl
  have hty := Lib.hid (fun h => ty_lit (v := ⟨k, n, s⟩) (u := u) (o := o) h)
  have hhs := Lib.hid (fun h => has_lit (v := ⟨k, n, s⟩) (u := u) (o := o) h)
  replace hR := Lib.hid hR
  replace hB := Lib.hid hB
  clear hS T
  generalize litB ⟨k, n, s⟩ u o = B at *
  generalize hr : (if B = true then ((0, ⟨k, u, o⟩) : Int × Ty) else noR 3) = r at *
  replace hr := Lib.hid hr
  generalize ck ⟨k, n, s⟩ = cv at *
  go_enter Tryz.func9, Tryz.ntmps9
  go_wp2_with fail
  refine (CE.out _ HT.out).mono ?_
  rintro e w1 ⟨rfl, b1⟩
  have B1 := Lib.hid (bnext B0.out b1)
  replace HS := Lib.hid (HS.out.keeps b1)
  replace HT := Lib.hid (HT.out.stays b1)
  replace V0 := Lib.hid (V0.out.keeps b1)
  clear b1
  clear CE
  generalize w.heap.size = g at V0 ⊢
  go_upto_region 3 with (first | (refine arm_loadT infVa Tryz.underlying23 rfl (.tmp 3) rfl rfl _ _ _ rfl V0.out rfl ?_) | (refine arm_storeT infX (.tmp 8) (.tmp 17) rfl rfl _ _ _ _ rfl rfl (Blk.new _ _ _) rfl rfl (by simp [Value.oneCell']) ?_; intro w2 L2 hs2))
  have bb2 := (balloc (b0 w1) (.cells #[.int .i64 0, .string ⟨#[]⟩, .string ⟨#[]⟩, .string ⟨#[]⟩, .int .i64 0, .int .i64 0, .string ⟨#[]⟩, .slice none 0 0, .int .i64 0, .int .i64 0, .int .i64 0, .slice none 0 0] 29)).trans (hs2.below (Nat.le_refl _))
  have B2 := Lib.hid (bnext B1.out bb2)
  replace HS := Lib.hid (HS.out.keeps bb2)
  replace HT := Lib.hid (HT.out.stays bb2)
  replace V0 := Lib.hid (V0.out.keeps bb2)
  replace L2 := Lib.hid L2
  clear bb2 hs2
  go_wp2_with (first | (refine arm_loadT infX Tryz.underlying29 rfl (.tmp 8) rfl rfl _ _ _ rfl L2.out rfl ?_))
  refine (CI.out _ HS.out HT.out).mono ?_
  rintro e w3 ⟨ya, yc, rfl, sy, b3⟩
  have B3 := Lib.hid (bnext B2.out b3)
  replace HS := Lib.hid (HS.out.keeps b3)
  replace HT := Lib.hid (HT.out.stays b3)
  replace V0 := Lib.hid (V0.out.keeps b3)
  have SY := Lib.hid sy
  clear b3 sy
  clear CI L2
  go_upto_region 4 with (first | (refine arm_storeT infTy (.tmp 9) (.tmp 22) rfl rfl _ _ _ _ rfl rfl (Blk.new _ _ _) rfl rfl (by simp [tyC, Value.oneCell']) ?_; intro w4 L4 hs4; have bb4 := (balloc (b0 w3) _).trans (hs4.below (Nat.le_refl _))))
  have B4 := Lib.hid (bnext B3.out bb4)
  replace HS := Lib.hid (HS.out.keeps bb4)
  replace HT := Lib.hid (HT.out.stays bb4)
  replace V0 := Lib.hid (V0.out.keeps bb4)
  replace SY := Lib.hid (SY.out.keeps bb4)
  replace L4 := Lib.hid L4
  clear bb4 hs4
  generalize w3.heap.size = g9 at *
  go_cut [11] from 24 to 36 (fun v11 wx => v11 = .bool R ∧ Hid (Below w4.heap.size w4 wx))
  case first =>
    go_wp2_with (first | (refine arm_loadT infVa Tryz.underlying23 rfl (.tmp 3) rfl rfl _ _ _ rfl V0.out rfl ?_))
    refine (CK.out _).mono ?_
    rintro e w5 ⟨rfl, b5⟩
    have c0 := (V0.out.keeps b5).cell 0
    have c1 := (V0.out.keeps b5).cell 1
    simp only [List.getElem?_toArray, List.getElem?_cons_zero, List.getElem?_cons_succ] at c0 c1
    have BW := Lib.hid b5
    clear b5
    by_cases hc : cv = 0
    · have qc := in_is hc
      replace hc := Lib.hid hc
      by_cases hk : k = 0
      · have qk : (k != 0) = false := by simp [hk]
        replace hk := Lib.hid hk
        go_wp2_with fail
        go_meet
        case rel => exact ⟨congrArg Value.bool (hR.out.trans (by rw [decide_eq_true hc.out, decide_eq_true hk.out]; rfl)).symm, BW⟩
      · have qk : (k != 0) = true := by simp [hk]
        replace hk := Lib.hid hk
        by_cases hn : 0 ≤ n
        · have qn : decide (0 ≤ n) = true := decide_eq_true hn
          replace hn := Lib.hid hn
          go_wp2_with fail
          go_meet
          case rel => exact ⟨congrArg Value.bool (hR.out.trans (by rw [decide_eq_true hc.out, decide_eq_false hk.out, decide_eq_true hn.out]; rfl)).symm, BW⟩
        · have qn : decide (0 ≤ n) = false := decide_eq_false hn
          replace hn := Lib.hid hn
          go_wp2_with fail
          go_meet
          case rel => exact ⟨congrArg Value.bool (hR.out.trans (by rw [decide_eq_true hc.out, decide_eq_false hk.out, decide_eq_false (Int.not_le.mpr hn.out)]; rfl)).symm, BW⟩
    · have qc := in_ne hc
      replace hc := Lib.hid hc
      go_wp2_with fail
      go_meet
      case rel => exact ⟨congrArg Value.bool (hR.out.trans (by rw [decide_eq_false hc.out]; rfl)).symm, BW⟩
  case rest =>
    obtain ⟨rfl, BW⟩ := hcut
    generalize wc = w5 at *
    have bw5 := BW.out
    have B5 := Lib.hid (bnext B4.out bw5)
    replace HS := Lib.hid (HS.out.keeps bw5)
    replace HT := Lib.hid (HT.out.stays bw5)
    replace V0 := Lib.hid (V0.out.keeps bw5)
    replace SY := Lib.hid (SY.out.keeps bw5)
    replace L4 := Lib.hid (L4.out.keeps bw5)
    clear bw5 BW CK hR
    have c0 := V0.out.cell 0
    simp only [List.getElem?_toArray, List.getElem?_cons_zero] at c0
    go_upto_block 0 with fail
    go_cut [11, 12] from 39 to 88 (fun v11 v12 wx => v11 = .bool B ∧ Hid (Below w5.heap.size w5 wx))
    case first =>
      by_cases h2 : k = 2
      · have hk23 : k = 2 ∨ k = 3 := .inl h2
        have qk2 := in_is h2
        replace h2 := Lib.hid h2
        go_upto_region 9 with fail
        replace hB := hB.out
        rw [if_pos hk23] at hB
        replace hB := Lib.hid hB
        clear hk23
        go_cut [11] from 52 to 61 (fun v wx => v = .bool (R && (decide (o = .empty) && decide (un.ck u = 0))) ∧ Hid (Below w5.heap.size w5 wx))
        case first =>
          cases R
          · have BW := Lib.hid (b0 w5)
            go_wp2_with fail
            go_meet
            case rel => exact ⟨rfl, BW⟩
          · by_cases ho2 : o = .empty
            · have qo : o.toList.isEmpty = true := by rw [eqE, decide_eq_true ho2]
              replace ho2 := Lib.hid ho2
              go_wp2_with fail
              refine (CU.out _ HS.out).mono ?_
              rintro e w6 ⟨rfl, b6⟩
              have BW := Lib.hid b6
              clear b6
              generalize un.ck u = uc at *
              by_cases hu2 : uc = 0
              · have qu := in_is hu2
                replace hu2 := Lib.hid hu2
                go_wp2_with fail
                go_meet
                case rel => exact ⟨by rw [decide_eq_true ho2.out, decide_eq_true hu2.out]; rfl, BW⟩
              · have qu := in_ne hu2
                replace hu2 := Lib.hid hu2
                go_wp2_with fail
                go_meet
                case rel => exact ⟨by rw [decide_eq_true ho2.out, decide_eq_false hu2.out]; rfl, BW⟩
            · have qo : o.toList.isEmpty = false := by rw [eqE, decide_eq_false ho2]
              have BW := Lib.hid (b0 w5)
              replace ho2 := Lib.hid ho2
              go_wp2_with fail
              go_meet
              case rel => exact ⟨by rw [decide_eq_false ho2.out]; rfl, BW⟩
        case rest =>
          obtain ⟨rfl, BW⟩ := hcut
          generalize wc = w6 at *
          replace HS := Lib.hid (HS.out.keeps BW.out)
          replace HT := Lib.hid (HT.out.stays BW.out)
          clear CU c0 V0
          have hB2 : B = ((R && (decide (o = .empty) && decide (un.ck u = 0))) && (u.drop 0).all fun f => name f.1) := by rw [hB.out, List.drop_zero]; cases R <;> cases decide (o = .empty) <;> cases decide (un.ck u = 0) <;> rfl
          replace hB2 := Lib.hid hB2
          clear hB
          generalize (R && (decide (o = .empty) && decide (un.ck u = 0))) = A0 at *
          go_wp2_with fail
          go_loopw [11, 12] (fun va vi wr => ∃ (j : Nat) (A : Bool), va = .bool A ∧ vi = .int .i64 (j : Nat) ∧ Hid (j ≤ u.length) ∧ Hid (B = (A && (u.drop j).all fun f => name f.1)) ∧ Hid (Below w6.heap.size w6 wr)) (fun _ vi _ => u.length - (intOf vi).toNat)
          case atStart => exact ⟨0, A0, rfl, rfl, Lib.hid (Nat.zero_le _), hB2, Lib.hid (b0 w6)⟩
          case round =>
            clear hB2
            obtain ⟨j, A, rfl, rfl, hj, hB, hb⟩ := hrel
            by_cases hlt : j < u.length
            · have q1 : decide ((j : Int) < (u.length : Int)) = true := decide_eq_true (by omega)
              have i1 : (j : Int) < (u.length : Int) := by omega
              have f4 := Lib.hid (next_at (j := j) (by have := hlu.out; omega))
              replace hB := hB.out
              rw [un.drop_gt hlt, List.all_cons] at hB
              replace hB := Lib.hid hB
              cases A
              · have hB3 := Lib.hid (hB.out.trans (show (false && (name (un.gt u j).1 && (u.drop (j + 1)).all fun f => name f.1)) = (false && (u.drop (j + 1)).all fun f => name f.1) from rfl))
                clear hB
                go_wp2_with fail
                exact ⟨⟨j + 1, false, rfl, congrArg (Value.int .i64) f4.out, Lib.hid hlt, hB3, hb⟩, less_at hlt f4.out⟩
              · have hlt2 := Lib.hid hlt
                obtain ⟨b, off, rfl, hc⟩ := HS.out.hat.resolve_left (by omega)
                have c1 := ((un.Cl.keeps hc hb.out) j hlt).1
                clear hc
                go_wp2_with fail
                refine (CM.out j hlt2.out _ (HT.out.stays hb.out)).mono ?_
                rintro e w7 ⟨rfl, b7⟩
                have B7 := Lib.hid (bnext hb.out b7)
                clear b7 c1
                generalize name (un.gt u j).1 = z at *
                have hB3 := Lib.hid (hB.out.trans (show (true && (z && (u.drop (j + 1)).all fun f => name f.1)) = (z && (u.drop (j + 1)).all fun f => name f.1) from rfl))
                clear hB
                go_wp2_with fail
                exact ⟨⟨j + 1, z, rfl, congrArg (Value.int .i64) f4.out, hlt2, hB3, B7⟩, less_at hlt2.out f4.out⟩
            · have q1 : decide ((j : Int) < (u.length : Int)) = false := decide_eq_false (by omega)
              have hB3 := Lib.hid (show B = A from by rw [hB.out, List.drop_eq_nil_of_le (by omega)]; cases A <;> rfl)
              have B8 := Lib.hid (bnext BW.out hb.out)
              clear hB
              go_wp2_with fail
              go_meet
              case rel => exact ⟨congrArg Value.bool hB3.out.symm, B8⟩
      · have qk2 := in_ne h2
        by_cases h3 : k = 3
        · have hk23 : k = 2 ∨ k = 3 := .inr h3
          have qk3 := in_is h3
          replace h3 := Lib.hid h3
          replace h2 := Lib.hid h2
          go_upto_region 9 with fail
          replace hB := hB.out
          rw [if_pos hk23] at hB
          replace hB := Lib.hid hB
          clear hk23
          go_cut [11] from 52 to 61 (fun v wx => v = .bool (R && (decide (o = .empty) && decide (un.ck u = 0))) ∧ Hid (Below w5.heap.size w5 wx))
          case first =>
            cases R
            · have BW := Lib.hid (b0 w5)
              go_wp2_with fail
              go_meet
              case rel => exact ⟨rfl, BW⟩
            · by_cases ho2 : o = .empty
              · have qo : o.toList.isEmpty = true := by rw [eqE, decide_eq_true ho2]
                replace ho2 := Lib.hid ho2
                go_wp2_with fail
                refine (CU.out _ HS.out).mono ?_
                rintro e w6 ⟨rfl, b6⟩
                have BW := Lib.hid b6
                clear b6
                generalize un.ck u = uc at *
                by_cases hu2 : uc = 0
                · have qu := in_is hu2
                  replace hu2 := Lib.hid hu2
                  go_wp2_with fail
                  go_meet
                  case rel => exact ⟨by rw [decide_eq_true ho2.out, decide_eq_true hu2.out]; rfl, BW⟩
                · have qu := in_ne hu2
                  replace hu2 := Lib.hid hu2
                  go_wp2_with fail
                  go_meet
                  case rel => exact ⟨by rw [decide_eq_true ho2.out, decide_eq_false hu2.out]; rfl, BW⟩
              · have qo : o.toList.isEmpty = false := by rw [eqE, decide_eq_false ho2]
                have BW := Lib.hid (b0 w5)
                replace ho2 := Lib.hid ho2
                go_wp2_with fail
                go_meet
                case rel => exact ⟨by rw [decide_eq_false ho2.out]; rfl, BW⟩
          case rest =>
            obtain ⟨rfl, BW⟩ := hcut
            generalize wc = w6 at *
            replace HS := Lib.hid (HS.out.keeps BW.out)
            replace HT := Lib.hid (HT.out.stays BW.out)
            clear CU c0 V0
            have hB2 : B = ((R && (decide (o = .empty) && decide (un.ck u = 0))) && (u.drop 0).all fun f => name f.1) := by rw [hB.out, List.drop_zero]; cases R <;> cases decide (o = .empty) <;> cases decide (un.ck u = 0) <;> rfl
            replace hB2 := Lib.hid hB2
            clear hB
            generalize (R && (decide (o = .empty) && decide (un.ck u = 0))) = A0 at *
            go_wp2_with fail
            go_loopw [11, 12] (fun va vi wr => ∃ (j : Nat) (A : Bool), va = .bool A ∧ vi = .int .i64 (j : Nat) ∧ Hid (j ≤ u.length) ∧ Hid (B = (A && (u.drop j).all fun f => name f.1)) ∧ Hid (Below w6.heap.size w6 wr)) (fun _ vi _ => u.length - (intOf vi).toNat)
            case atStart => exact ⟨0, A0, rfl, rfl, Lib.hid (Nat.zero_le _), hB2, Lib.hid (b0 w6)⟩
            case round =>
              clear hB2
              obtain ⟨j, A, rfl, rfl, hj, hB, hb⟩ := hrel
              by_cases hlt : j < u.length
              · have q1 : decide ((j : Int) < (u.length : Int)) = true := decide_eq_true (by omega)
                have i1 : (j : Int) < (u.length : Int) := by omega
                have f4 := Lib.hid (next_at (j := j) (by have := hlu.out; omega))
                replace hB := hB.out
                rw [un.drop_gt hlt, List.all_cons] at hB
                replace hB := Lib.hid hB
                cases A
                · have hB3 := Lib.hid (hB.out.trans (show (false && (name (un.gt u j).1 && (u.drop (j + 1)).all fun f => name f.1)) = (false && (u.drop (j + 1)).all fun f => name f.1) from rfl))
                  clear hB
                  go_wp2_with fail
                  exact ⟨⟨j + 1, false, rfl, congrArg (Value.int .i64) f4.out, Lib.hid hlt, hB3, hb⟩, less_at hlt f4.out⟩
                · have hlt2 := Lib.hid hlt
                  obtain ⟨b, off, rfl, hc⟩ := HS.out.hat.resolve_left (by omega)
                  have c1 := ((un.Cl.keeps hc hb.out) j hlt).1
                  clear hc
                  go_wp2_with fail
                  refine (CM.out j hlt2.out _ (HT.out.stays hb.out)).mono ?_
                  rintro e w7 ⟨rfl, b7⟩
                  have B7 := Lib.hid (bnext hb.out b7)
                  clear b7 c1
                  generalize name (un.gt u j).1 = z at *
                  have hB3 := Lib.hid (hB.out.trans (show (true && (z && (u.drop (j + 1)).all fun f => name f.1)) = (z && (u.drop (j + 1)).all fun f => name f.1) from rfl))
                  clear hB
                  go_wp2_with fail
                  exact ⟨⟨j + 1, z, rfl, congrArg (Value.int .i64) f4.out, hlt2, hB3, B7⟩, less_at hlt2.out f4.out⟩
              · have q1 : decide ((j : Int) < (u.length : Int)) = false := decide_eq_false (by omega)
                have hB3 := Lib.hid (show B = A from by rw [hB.out, List.drop_eq_nil_of_le (by omega)]; cases A <;> rfl)
                have B8 := Lib.hid (bnext BW.out hb.out)
                clear hB
                go_wp2_with fail
                go_meet
                case rel => exact ⟨congrArg Value.bool hB3.out.symm, B8⟩
        · have hk23 : ¬ (k = 2 ∨ k = 3) := fun e => e.elim h2 h3
          have qk3 := in_ne h3
          clear h2 h3
          by_cases hk5 : k = 5
          · replace hB := hB.out
            rw [if_neg hk23, if_pos hk5] at hB
            replace hB := Lib.hid hB
            have qk5 := in_is hk5
            clear hk23 hk5
            cases R
            · have BW := Lib.hid (b0 w5)
              go_wp2_with fail
              go_meet
              case rel => exact ⟨congrArg Value.bool (hB.out.trans (by rfl)).symm, BW⟩
            · by_cases hl : u.length = 0
              · have ql := in_is (a := (u.length : Int)) (b := 0) (by omega)
                replace hB := hB.out
                rw [decide_eq_true hl] at hB
                replace hB := Lib.hid hB
                clear hl
                go_wp2_with fail
                refine (CN.out _ HT.out).mono ?_
                rintro e w6 ⟨rfl, b6⟩
                have BW := Lib.hid b6
                clear b6
                generalize name o = z at *
                go_wp2_with fail
                go_meet
                case rel => exact ⟨congrArg Value.bool (hB.out.trans (by cases z <;> rfl)).symm, BW⟩
              · have ql := in_ne (a := (u.length : Int)) (b := 0) (by omega)
                have BW := Lib.hid (b0 w5)
                replace hB := hB.out
                rw [decide_eq_false hl] at hB
                replace hB := Lib.hid hB
                clear hl
                go_wp2_with fail
                go_meet
                case rel => exact ⟨congrArg Value.bool (hB.out.trans (by rfl)).symm, BW⟩
          · replace hB := hB.out
            rw [if_neg hk23, if_neg hk5] at hB
            replace hB := Lib.hid hB
            have qk5 := in_ne hk5
            clear hk23 hk5
            cases R
            · have BW := Lib.hid (b0 w5)
              go_wp2_with fail
              go_meet
              case rel => exact ⟨congrArg Value.bool (hB.out.trans (by rfl)).symm, BW⟩
            · by_cases hl : u.length = 0
              · have ql := in_is (a := (u.length : Int)) (b := 0) (by omega)
                have BW := Lib.hid (b0 w5)
                replace hB := hB.out
                rw [decide_eq_true hl] at hB
                replace hB := Lib.hid hB
                clear hl
                by_cases ho2 : o = .empty
                · have qo : o.toList.isEmpty = true := by rw [eqE, decide_eq_true ho2]
                  replace hB := hB.out
                  rw [decide_eq_true ho2] at hB
                  replace hB := Lib.hid hB
                  clear ho2
                  go_wp2_with fail
                  go_meet
                  case rel => exact ⟨congrArg Value.bool (hB.out.trans (by rfl)).symm, BW⟩
                · have qo : o.toList.isEmpty = false := by rw [eqE, decide_eq_false ho2]
                  replace hB := hB.out
                  rw [decide_eq_false ho2] at hB
                  replace hB := Lib.hid hB
                  clear ho2
                  go_wp2_with fail
                  go_meet
                  case rel => exact ⟨congrArg Value.bool (hB.out.trans (by rfl)).symm, BW⟩
              · have ql := in_ne (a := (u.length : Int)) (b := 0) (by omega)
                have BW := Lib.hid (b0 w5)
                replace hB := hB.out
                rw [decide_eq_false hl] at hB
                replace hB := Lib.hid hB
                clear hl
                go_wp2_with fail
                go_meet
                case rel => exact ⟨congrArg Value.bool (hB.out.trans (by rfl)).symm, BW⟩
    case rest =>
      obtain ⟨rfl, BW⟩ := hcut
      generalize wc = w6 at *
      have bw6 := BW.out
      clear c0
      have B6 := Lib.hid (bnext B5.out bw6)
      replace HS := Lib.hid (HS.out.keeps bw6)
      replace HT := Lib.hid (HT.out.stays bw6)
      replace V0 := Lib.hid (V0.out.keeps bw6)
      replace SY := Lib.hid (SY.out.keeps bw6)
      replace L4 := Lib.hid (L4.out.keeps bw6)
      clear bw6 BW hB CU CN CM
      have CS2 := Lib.hid (fun (W : World) (b : Option Addr) (d : Nat) (S1 : un.Sl W b u.length d u) (S2 : un.Sl W a u.length c u) => (show Calls Tryz.prog 23 #[.agg (tyC ⟨k, u, o⟩ b d), .agg #[.int .i64 k, .slice a u.length c, .string o]] W (Bl true W) from by have h := CS.out W b d S1 S2; rwa [sameT_refl] at h))
      have CH2 := Lib.hid (fun (W : World) (b : Option Addr) (d : Nat) => (show Calls Tryz.prog 33 #[.agg #[.int .i64 k, .int .i64 n, .string s], .agg (tyC ⟨k, u, o⟩ b d)] W (fun e w' => e = .returned (.bool (hsP ⟨k, n, s⟩ k)) ∧ Below W.heap.size W w') from CH.out W b d))
      clear CS CH
      cases B
      · have hr2 : noR 3 = r := hr.out
        subst hr2
        have B9 := B6
        clear CS2 CH2 CT hty hhs hr B6
        go_wp2_with fail
        go_ret
        exact bl_of rfl B9.out
      · have hr2 : ((0, ⟨k, u, o⟩) : Int × Ty) = r := hr.out
        subst hr2
        have hty2 := Lib.hid (hty.out rfl)
        have hhs2 := Lib.hid (hhs.out rfl)
        clear hr hty hhs
        have c0 := V0.out.cell 0
        simp only [List.getElem?_toArray, List.getElem?_cons_zero] at c0
        go_wp2_with (first | (refine arm_loadG infTy Tryz.underlying36 rfl (.tmp 9) rfl rfl _ _ _ rfl L4.out rfl ?_) | (refine arm_loadG infVa Tryz.underlying23 rfl (.tmp 3) rfl rfl _ _ _ rfl V0.out rfl ?_))
        refine (CS2.out _ ya yc SY.out HS.out).mono ?_
        rintro e w7 ⟨rfl, b7⟩
        have B7 := Lib.hid (bnext B6.out b7)
        replace HS := Lib.hid (HS.out.keeps b7)
        replace HT := Lib.hid (HT.out.stays b7)
        replace V0 := Lib.hid (V0.out.keeps b7)
        replace SY := Lib.hid (SY.out.keeps b7)
        replace L4 := Lib.hid (L4.out.keeps b7)
        clear b7
        go_wp2_with (first | (refine arm_loadG infTy Tryz.underlying36 rfl (.tmp 9) rfl rfl _ _ _ rfl L4.out rfl ?_) | (refine arm_loadG infVa Tryz.underlying23 rfl (.tmp 3) rfl rfl _ _ _ rfl V0.out rfl ?_))
        refine (CT.out _ ya yc SY.out HT.out).mono ?_
        rintro e w8 ⟨rfl, b8⟩
        have B8 := Lib.hid (bnext B7.out b8)
        replace V0 := Lib.hid (V0.out.keeps b8)
        replace L4 := Lib.hid (L4.out.keeps b8)
        clear b8
        have hty3 := hty2.out
        generalize tyE ⟨k, u, o⟩ = te at *
        subst hty3
        go_wp2_with (first | (refine arm_loadG infTy Tryz.underlying36 rfl (.tmp 9) rfl rfl _ _ _ rfl L4.out rfl ?_) | (refine arm_loadG infVa Tryz.underlying23 rfl (.tmp 3) rfl rfl _ _ _ rfl V0.out rfl ?_))
        refine (CH2.out _ ya yc).mono ?_
        rintro e w9 ⟨rfl, b9⟩
        have B9 := Lib.hid (bnext B8.out b9)
        clear b9
        have hhs3 := hhs2.out
        generalize hsP ⟨k, n, s⟩ k = hb at *
        subst hhs3
        go_wp2_with fail
        go_ret
        exact bl_of rfl B9.out
end Go.Proofs.YtbkpjhffmaldmaaGreatDoor.ch
