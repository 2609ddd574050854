/-
  The statement on what is refused, walked
-/
import Derived.Test.YtbahfelnbofjjaaGreatDoorQ15
namespace Go.Proofs.YtbahfelnbofjjaaGreatDoor.ch
open Go.RowKit dec

theorem emp_of {e : Int} {t : List UInt8} (h : e = 0 → t ≠ []) : (txO e t).toList.isEmpty = (e != 0) := by
  rw [eqE]
  unfold txO
  by_cases h0 : e = 0
  · rw [if_pos h0, decide_eq_false (b8_ne (h h0)), h0]
    rfl
  · rw [if_neg h0, show (e != 0) = true from bne_iff_ne.2 h0]
    rfl
theorem feT_ne (f : Fe) : feT f ≠ [] := by
  unfold feT
  simp
theorem tbT_ne (t : Tb) : tbT t ≠ [] := by
  unfold tbT
  simp
theorem fe_cat (f : Fe) (h2 : tyE f.ty = 0) (h3 : shE f.bo = 0) (h4 : pfE f = 0) : txO (pfE f) (feT f) = ⟨#[102, 101, 97, 116, 117, 114, 101, 32]⟩ ++ f.nm ++ ⟨#[32, 111, 102, 32]⟩ ++ f.en ++ ⟨#[58, 32]⟩ ++ txO (tyE f.ty) (tyT f.ty) ++ ⟨#[32, 61, 32]⟩ ++ txO (shE f.bo) (txE f.bo) ++ ⟨#[59]⟩ := by
  rw [h2, h3, h4, txO, txO, txO, if_pos rfl, if_pos rfl, if_pos rfl]
  apply ByteArray.ext
  apply Array.ext'
  simp [feT, B8_data]
set_option maxRecDepth 100000 in
set_option maxHeartbeats 4000000 in
theorem refuses_any (t : Tb) (a : Option Addr) (c : Nat) (f : Fe) (xa ua aa : Option Addr) (xc uc ac : Nat) (w : World) (ht : t.sz) (hA : Fis w a t.fs.length c t.fs)
    (h1 : f.nm.size ≤ 140737488355328) (h2 : f.en.size ≤ 140737488355328) (h3 : f.ty.of.size ≤ 140737488355328) (h4 : f.bo.szs) (hU : un.Sl w xa f.ty.un.length xc f.ty.un) (hE : Ec w f.bo ua uc aa ac) (T : Tabq w) :
    Calls Tryz.prog 10 #[.agg (tbC t a c), .agg (feC f xa xc ua uc aa ac)] w (Bl true w) := by
  have B := Lib.hid (below_two w (.cells (tbC t a c) 48) (.cells (feC f xa xc ua uc aa ac) 51))
  have G1 := Lib.hid ((Blk.new w 48 (tbC t a c)).past (.cells (feC f xa xc ua uc aa ac) 51))
  have G2 := Lib.hid (bw_new (w.alloc (.cells (tbC t a c) 48)) 51 (feC f xa xc ua uc aa ac) (w.heap.size + 1) (sz_al _ _).symm)
  have CE := Lib.hid (fun (W : World) (b : Below w.heap.size w W) => example_any W (T.stays b))
  have CT := Lib.hid (fun (W : World) (b : Below w.heap.size w W) => ptable_any t a c W ht (hA.keeps b) (T.stays b))
  have CY := Lib.hid (fun (W : World) (b : Below w.heap.size w W) => ptype_any f.ty xa xc W (hU.keeps b) h3 (T.stays b))
  have CX := Lib.hid (fun (hz : f.bo.ar.sz ≤ 3000) (W : World) (b : Below w.heap.size w W) => pexpr_any f.bo ua aa uc ac W h4 hz (hE.keeps b) (T.stays b))
  have CF := Lib.hid (fun (hz : f.bo.ar.sz ≤ 3000) (W : World) (b : Below w.heap.size w W) => pfeature_any f xa ua aa xc uc ac W ⟨h1, h2, h3, h4, hz⟩ (hU.keeps b) (hE.keeps b) (T.stays b))
  have DT := Lib.hid (fun (W : World) (b : Below w.heap.size w W) => table_any t a c W ht (hA.keeps b) (T.stays b).t)
  have DY := Lib.hid (fun (W : World) (b : Below w.heap.size w W) => (show Calls Tryz.prog 42 #[.agg (tyC f.ty xa xc)] W (Num (tyE f.ty) W) from type_any f.ty xa xc W (hU.keeps b) h3 (T.stays b).t))
  have DX := Lib.hid (fun (W : World) (b : Below w.heap.size w W) => shape_any' f.bo ua aa uc ac W h4 (hE.keeps b) (T.stays b).t)
  have N1 := Lib.hid (fun (W : World) (b : Below w.heap.size w W) => nameW_any f.nm h1 W (T.stays b).t)
  have N2 := Lib.hid (fun (W : World) (b : Below w.heap.size w W) => nameW_any f.en h2 W (T.stays b).t)
  have FT := Lib.hid (fun (W : World) (b : Below w.heap.size w W) => fewTable_any t a c W ht (hA.keeps b))
  have FF := Lib.hid (fun (W : World) (b : Below w.heap.size w W) => fewFeature_any f xa ua aa xc uc ac W h1 h2 h3 h4 (hU.keeps b) (hE.keeps b))
  have HI : pfE f = pfE f := rfl
  conv at HI => rhs; unfold pfE
  have HC := fe_cat f
  have Q1 := emp_of (e := tbE t) (fun _ => tbT_ne t)
  have Q2 := emp_of (e := tyE f.ty) (fun h => tyT_ne h)
  have Q3 := emp_of (e := shE f.bo) (fun h => txE_ne (shE_zero h))
  have Q4 := emp_of (e := pfE f) (fun _ => feT_ne f)
  have Z1 := Lib.hid h1
  have Z2 := Lib.hid h2
  have Z3 := Lib.hid (fun (h : tyE f.ty = 0) => (show (txO (tyE f.ty) (tyT f.ty)).size ≤ 1000000 from by
    have := tyT_len h
    rw [txO, if_pos h, B8_size]; omega))
  have Z4 := Lib.hid (fun (h : shE f.bo = 0) (hz : f.bo.ar.sz ≤ 3000) => (show (txO (shE f.bo) (txE f.bo)).size ≤ 1000000 from by
    have := txE_len (shE_zero h)
    rw [txO, if_pos h, B8_size]; omega))
  clear ht hA h1 h2 h3 h4 hU hE T
  obtain ⟨n1, hn1⟩ : ∃ n1, name f.nm = n1 := ⟨_, rfl⟩
  obtain ⟨n2, hn2⟩ : ∃ n2, name f.en = n2 := ⟨_, rfl⟩
  rw [hn1] at N1 HI
  rw [hn2] at N2 HI
  clear hn1 hn2
  generalize txO (tbE t) (tbT t) = s1 at *
  generalize txO (tyE f.ty) (tyT f.ty) = s2 at *
  generalize txO (shE f.bo) (txE f.bo) = s3 at *
  generalize txO (pfE f) (feT f) = s4 at *
  generalize tbE t = e1 at *
  generalize tyE f.ty = e2 at *
  generalize shE f.bo = e3 at *
  generalize pfE f = e4 at *
  obtain ⟨k1, P1⟩ : ∃ k1, (e1 != 0) = k1 := ⟨_, rfl⟩
  obtain ⟨k2, P2⟩ : ∃ k2, (e2 != 0) = k2 := ⟨_, rfl⟩
  obtain ⟨k3, P3⟩ : ∃ k3, (e3 != 0) = k3 := ⟨_, rfl⟩
  obtain ⟨k4, P4⟩ : ∃ k4, (e4 != 0) = k4 := ⟨_, rfl⟩
  rw [P1] at Q1
  rw [P2] at Q2
  rw [P3] at Q3
  rw [P4] at Q4
  replace HI := Lib.hid HI
  replace HC := Lib.hid HC
  replace Q4 := Lib.hid Q4
  replace P4 := Lib.hid P4
  unfold tbC feC tyC exC at *
  go_enter Tryz.func10, Tryz.ntmps10
  go_upto_region 1 with fail
  generalize hw0 : ((w.alloc (.cells #[.string t.nm, .string t.en, .slice a t.fs.length c, .int .i64 t.kp] 48)).alloc (.cells #[.string f.nm, .string f.en, .int .i64 f.ty.k, .slice xa f.ty.un.length xc, .string f.ty.of, .int .i64 f.bo.h.k, .string f.bo.h.op, .string f.bo.h.nm, .string f.bo.h.tb, .int .i64 f.bo.h.vk, .int .i64 f.bo.h.vn, .string f.bo.h.vs, .slice ua f.bo.h.un.length uc, .int .i64 f.bo.h.pa, .int .i64 f.bo.h.wk, .int .i64 f.bo.h.ws, .slice aa f.bo.ar.len ac, .int .i64 f.vr] 51)) = w0 at *
  clear hw0
  generalize w.heap.size + 1 = gf at *
  go_wp2_with fail
  refine (CE.out _ B.out).mono ?_
  rintro e w1 ⟨rfl, b1⟩
  replace B := Lib.hid (bnext B.out b1)
  replace G1 := Lib.hid (G1.out.keeps b1)
  replace G2 := Lib.hid (G2.out.keeps b1)
  clear b1
  clear CE
  go_upto_region 3 with fail
  go_cut [23] from 16 (fun v wx => (v = .bool true ∨ (v = .bool false ∧ f.bo.ar.sz ≤ 3000)) ∧ Hid (Below w1.heap.size w1 wx))
  case first =>
    have R := Lib.hid (b0 w1)
    go_wp2_with (refine arm_loadT infTb Tryz.underlying48 rfl (.tmp 2) rfl rfl _ _ _ rfl G1.out rfl ?_)
    refine (FT.out _ B.out).mono ?_
    rintro e w2 ⟨bq, rfl, -, b2⟩
    replace B := Lib.hid (bnext B.out b2)
    replace R := Lib.hid (bnext R.out b2)
    replace G1 := Lib.hid (G1.out.keeps b2)
    replace G2 := Lib.hid (G2.out.keeps b2)
    clear b2
    cases bq
    · go_wp2_with fail
      go_meet
      case rel => exact ⟨.inl rfl, Lib.hid R.out⟩
    go_wp2_with (refine arm_loadG infFe Tryz.underlying51 rfl (.tmp 3) rfl rfl _ _ _ rfl G2.out rfl ?_)
    refine (FF.out _ B.out).mono ?_
    rintro e w3 ⟨br, rfl, hz, b3⟩
    replace B := Lib.hid (bnext B.out b3)
    replace R := Lib.hid (bnext R.out b3)
    replace G1 := Lib.hid (G1.out.keeps b3)
    replace G2 := Lib.hid (G2.out.keeps b3)
    clear b3
    cases br
    · go_wp2_with fail
      go_meet
      case rel => exact ⟨.inl rfl, Lib.hid R.out⟩
    · have HZ := Lib.hid (show f.bo.ar.sz ≤ 3000 from by have := hz rfl; omega)
      clear hz
      go_wp2_with fail
      go_meet
      case rel => exact ⟨.inr ⟨rfl, HZ.out⟩, Lib.hid R.out⟩
  case rest =>
    obtain ⟨hv, BW⟩ := hcut
    replace B := Lib.hid (bnext B.out BW.out)
    replace G1 := Lib.hid (G1.out.keeps BW.out)
    replace G2 := Lib.hid (G2.out.keeps BW.out)
    clear BW FT FF
    generalize wc = w3 at *
    rcases hv with rfl | ⟨rfl, hz⟩
    · go_wp2_with fail
      go_ret
      exact ⟨rfl, B.out⟩
    have HZ := Lib.hid hz
    clear hz
    go_wp2_with (refine arm_loadT infTb Tryz.underlying48 rfl (.tmp 2) rfl rfl _ _ _ rfl G1.out rfl ?_)
    refine (CT.out _ B.out).mono ?_
    rintro e w4 ⟨rfl, b4⟩
    replace B := Lib.hid (bnext B.out b4)
    replace G1 := Lib.hid (G1.out.keeps b4)
    replace G2 := Lib.hid (G2.out.keeps b4)
    clear b4
    go_wp2_with (refine arm_mid infTy Tryz.underlying31 rfl (.tmp 30) rfl rfl gf 2 #[.int .i64 f.ty.k, .slice xa f.ty.un.length xc, .string f.ty.of] rfl (blk_range G2.out 2 _ rfl) rfl ?_)
    refine (CY.out _ B.out).mono ?_
    rintro e w5 ⟨rfl, b5⟩
    replace B := Lib.hid (bnext B.out b5)
    replace G1 := Lib.hid (G1.out.keeps b5)
    replace G2 := Lib.hid (G2.out.keeps b5)
    clear b5
    go_wp2_with (refine arm_mid infX Tryz.underlying29 rfl (.tmp 36) rfl rfl gf 5 #[.int .i64 f.bo.h.k, .string f.bo.h.op, .string f.bo.h.nm, .string f.bo.h.tb, .int .i64 f.bo.h.vk, .int .i64 f.bo.h.vn, .string f.bo.h.vs, .slice ua f.bo.h.un.length uc, .int .i64 f.bo.h.pa, .int .i64 f.bo.h.wk, .int .i64 f.bo.h.ws, .slice aa f.bo.ar.len ac] rfl (blk_range G2.out 5 _ rfl) rfl ?_)
    refine (CX.out HZ.out _ B.out).mono ?_
    rintro e w6 ⟨rfl, b6⟩
    replace B := Lib.hid (bnext B.out b6)
    replace G1 := Lib.hid (G1.out.keeps b6)
    replace G2 := Lib.hid (G2.out.keeps b6)
    clear b6
    go_wp2_with (refine arm_loadT infFe Tryz.underlying51 rfl (.tmp 3) rfl rfl _ _ _ rfl G2.out rfl ?_)
    refine (CF.out HZ.out _ B.out).mono ?_
    rintro e w7 ⟨rfl, b7⟩
    replace B := Lib.hid (bnext B.out b7)
    replace G1 := Lib.hid (G1.out.keeps b7)
    replace G2 := Lib.hid (G2.out.keeps b7)
    clear b7
    clear CT CY CX CF
    go_upto_region 9 with fail
    go_cut [84] from 46 (fun v wx => v = .bool false ∧ Hid (Below w7.heap.size w7 wx))
    case first =>
      have R := Lib.hid (b0 w7)
      go_wp2_with (refine arm_loadT infTb Tryz.underlying48 rfl (.tmp 2) rfl rfl _ _ _ rfl G1.out rfl ?_)
      refine (DT.out _ B.out).mono ?_
      rintro e w8 ⟨rfl, b8⟩
      replace B := Lib.hid (bnext B.out b8)
      replace R := Lib.hid (bnext R.out b8)
      replace G1 := Lib.hid (G1.out.keeps b8)
      replace G2 := Lib.hid (G2.out.keeps b8)
      clear b8
      go_wp2_with (refine arm_midG infTy Tryz.underlying31 rfl (.tmp 59) rfl rfl gf 2 #[.int .i64 f.ty.k, .slice xa f.ty.un.length xc, .string f.ty.of] rfl (blk_range G2.out 2 _ rfl) rfl ?_)
      refine (DY.out _ B.out).mono ?_
      rintro e w9 ⟨rfl, b9⟩
      replace B := Lib.hid (bnext B.out b9)
      replace R := Lib.hid (bnext R.out b9)
      replace G1 := Lib.hid (G1.out.keeps b9)
      replace G2 := Lib.hid (G2.out.keeps b9)
      clear b9
      go_wp2_with (refine arm_midG infX Tryz.underlying29 rfl (.tmp 73) rfl rfl gf 5 #[.int .i64 f.bo.h.k, .string f.bo.h.op, .string f.bo.h.nm, .string f.bo.h.tb, .int .i64 f.bo.h.vk, .int .i64 f.bo.h.vn, .string f.bo.h.vs, .slice ua f.bo.h.un.length uc, .int .i64 f.bo.h.pa, .int .i64 f.bo.h.wk, .int .i64 f.bo.h.ws, .slice aa f.bo.ar.len ac] rfl (blk_range G2.out 5 _ rfl) rfl ?_)
      refine (DX.out _ B.out).mono ?_
      rintro e w10 ⟨rfl, b10⟩
      replace B := Lib.hid (bnext B.out b10)
      replace R := Lib.hid (bnext R.out b10)
      replace G1 := Lib.hid (G1.out.keeps b10)
      replace G2 := Lib.hid (G2.out.keeps b10)
      clear b10
      go_wp2_with fail
      go_meet
      case rel => exact ⟨rfl, Lib.hid R.out⟩
    case rest =>
      obtain ⟨rfl, BW⟩ := hcut
      replace B := Lib.hid (bnext B.out BW.out)
      replace G2 := Lib.hid (G2.out.keeps BW.out)
      clear BW DT DY DX G1
      generalize wc = w8 at *
      have y0 := G2.out.cell 0
      have y1 := G2.out.cell 1
      simp only [List.getElem?_toArray, List.getElem?_cons_zero, List.getElem?_cons_succ] at y0 y1
      go_wp2_with fail
      clear y0 y1
      refine (N1.out _ B.out).mono ?_
      rintro e w9 ⟨rfl, b9⟩
      replace B := Lib.hid (bnext B.out b9)
      replace G2 := Lib.hid (G2.out.keeps b9)
      clear b9
      cases n1
      · rw [if_pos rfl] at HI
        obtain rfl : e4 = 3 := by exact HI.out
        obtain rfl : k4 = true := by have := P4.out; simpa using this.symm
        have Q5 := Q4.out
        have y0 := G2.out.cell 0
        have y1 := G2.out.cell 1
        simp only [List.getElem?_toArray, List.getElem?_cons_zero, List.getElem?_cons_succ] at y0 y1
        go_wp2_with fail
        go_ret
        exact ⟨rfl, B.out⟩
      · rw [if_neg (by decide)] at HI
        have y0 := G2.out.cell 0
        have y1 := G2.out.cell 1
        simp only [List.getElem?_toArray, List.getElem?_cons_zero, List.getElem?_cons_succ] at y0 y1
        go_wp2_with fail
        clear y0 y1
        refine (N2.out _ B.out).mono ?_
        rintro e w10 ⟨rfl, b10⟩
        replace B := Lib.hid (bnext B.out b10)
        replace G2 := Lib.hid (G2.out.keeps b10)
        clear b10
        cases n2
        · rw [if_pos rfl] at HI
          obtain rfl : e4 = 3 := by exact HI.out
          obtain rfl : k4 = true := by have := P4.out; simpa using this.symm
          have Q5 := Q4.out
          have y0 := G2.out.cell 0
          have y1 := G2.out.cell 1
          simp only [List.getElem?_toArray, List.getElem?_cons_zero, List.getElem?_cons_succ] at y0 y1
          go_wp2_with fail
          go_ret
          exact ⟨rfl, B.out⟩
        · rw [if_neg (by decide)] at HI
          cases k2
          · cases k3
            · obtain rfl : e4 = 0 := by have := HI.out; simpa [show e2 = 0 from by simpa using P2, show e3 = 0 from by simpa using P3] using this
              obtain rfl : k4 = false := by have := P4.out; simpa using this.symm
              have Q5 := Q4.out
              have L1 := Z1.out
              have L2 := Z2.out
              have L3 := Z3.out (by simpa using P2)
              have L4 := Z4.out (by simpa using P3) HZ.out
              have M1 : ¬ 9223372036854775807 < 8 + f.nm.size := by omega
              have M2 : ¬ 9223372036854775807 < 8 + f.nm.size + 4 := by omega
              have M3 : ¬ 9223372036854775807 < 8 + f.nm.size + 4 + f.en.size := by omega
              have M4 : ¬ 9223372036854775807 < 8 + f.nm.size + 4 + f.en.size + 2 := by omega
              have M5 : ¬ 9223372036854775807 < 8 + f.nm.size + 4 + f.en.size + 2 + s2.size := by omega
              have M6 : ¬ 9223372036854775807 < 8 + f.nm.size + 4 + f.en.size + 2 + s2.size + 3 := by omega
              have M7 : ¬ 9223372036854775807 < 8 + f.nm.size + 4 + f.en.size + 2 + s2.size + 3 + s3.size := by omega
              have M8 : ¬ 9223372036854775807 < 8 + f.nm.size + 4 + f.en.size + 2 + s2.size + 3 + s3.size + 1 := by omega
              have y0 := G2.out.cell 0
              have y1 := G2.out.cell 1
              simp only [List.getElem?_toArray, List.getElem?_cons_zero, List.getElem?_cons_succ] at y0 y1
              go_wp2_with fail
              go_ret
              exact ⟨by simp [HC.out (by simpa using P2) (by simpa using P3) trivial], B.out⟩
            · obtain rfl : e4 = e3 := by have := HI.out; simpa [show e2 = 0 from by simpa using P2] using this
              obtain rfl : k4 = true := by have := P4.out; exact this.symm.trans P3
              have Q5 := Q4.out
              have y0 := G2.out.cell 0
              have y1 := G2.out.cell 1
              simp only [List.getElem?_toArray, List.getElem?_cons_zero, List.getElem?_cons_succ] at y0 y1
              go_wp2_with fail
              go_ret
              exact ⟨rfl, B.out⟩
          · obtain rfl : e4 = e2 := by have := HI.out; simpa [show e2 ≠ 0 from by simpa using P2] using this
            obtain rfl : k4 = true := by have := P4.out; exact this.symm.trans P2
            have Q5 := Q4.out
            have y0 := G2.out.cell 0
            have y1 := G2.out.cell 1
            simp only [List.getElem?_toArray, List.getElem?_cons_zero, List.getElem?_cons_succ] at y0 y1
            go_wp2_with fail
            go_ret
            exact ⟨rfl, B.out⟩
end Go.Proofs.YtbahfelnbofjjaaGreatDoor.ch
