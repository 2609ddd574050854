/-
  CheckerDeclared.
-/
import Derived.Test.YtbkpjhffmaldmaaGreatDoorQ13
import Derived.Test.YtbkpjhffmaldmaaGreatDoorZApr
import Derived.Test.YtbkpjhffmaldmaaGreatDoorZFct
namespace Go.Proofs.YtbkpjhffmaldmaaGreatDoor.ch
open Go.RowKit dec

theorem Ow.form {α : Type} {T : TypeId} {sz : Nat} {Q : Array Value → α → Prop} {w : World} {base : Nat} {v : Value} {l : List α} (h : Ow T sz Q w base v l) : ∃ a cap, v = .slice a l.length cap := by
  obtain ⟨css, O⟩ := h
  rcases O.own.2 with ⟨h0, h1⟩ | ⟨g, cap, cur, rfl, _⟩
  · exact ⟨none, 0, by rw [h0, h1]⟩
  · exact ⟨_, _, rfl⟩
theorem Ow.st {α : Type} {T : TypeId} {sz g0 : Nat} {Q : Array Value → α → Prop} {w w' : World} {base : Nat} {v : Value} {l : List α} (h : Ow T sz Q w base v l) (M : St g0 w w') (hB : g0 < base) : Ow T sz Q w' base v l := by
  obtain ⟨css, O⟩ := h
  refine ⟨css, O.len, O.cel, ?_, O.q⟩
  obtain ⟨h1, h2⟩ := O.own
  refine ⟨h1, ?_⟩
  rcases h2 with h0 | ⟨g, cap, cur, e, hbg, hh, r⟩
  · exact .inl h0
  · exact .inr ⟨g, cap, cur, e, hbg, by rw [M.block _ (by omega)]; exact hh, r⟩
theorem Ow.row {α : Type} {T : TypeId} {sz : Nat} {Q : Array Value → α → Prop} {V : World → Array Value → α → Prop} {w : World} {base : Nat} {a : Option Addr} {n cap : Nat} {l : List α} (h : Ow T sz Q w base (.slice a n cap) l) (hV : ∀ c x, Q c x → V w c x) : Rw sz V w a n cap l := by
  obtain ⟨css, O⟩ := h
  obtain ⟨a', cap', e, R⟩ := O.rw hV
  injection e with e1 e2 e3
  subst e1 e2 e3
  exact R
theorem bFe : Tryz.prog.bytesOf 54 = 248 := by kernel_rfl
theorem ctl_cons {ts : List Tb} {gs : List Fe} {f : Fe} (h : CtL ts gs) (hf : f.ty.ln) : CtL ts (f :: gs) := ⟨h.t, fun x hx => by
  rcases List.mem_cons.1 hx with rfl | hx
  · exact hf
  · exact h.g x hx⟩
theorem infer_f (cs : Array Value) (ts : List Tb) (gs : List Fe) (en : ByteArray) (f : Fe) (ds : Array Value) (w : World) (hC : CtV w cs ts (f :: gs)) (hcl : CtL ts (f :: gs)) (hn : f.nm.size ≤ 140737488355328) (hnm : name f.nm = true) (hE : ExV w ds (feaX f.nm)) (T : Tabs w) :
    Calls Tryz.prog 22 #[.agg cs, .string en, .agg ds] w (IfV (if f.en = en then (0, f.ty) else noR 5) w) := by
  obtain ⟨ua, uc, aa, ac, rfl, E⟩ := hE
  have h := Infer_any cs ts (f :: gs) en (feaX f.nm) ua aa uc ac w hC hcl ⟨⟨(by decide : (⟨#[]⟩ : ByteArray).size ≤ 140737488355328), hn, (by decide : (⟨#[]⟩ : ByteArray).size ≤ 140737488355328), (by decide : (⟨#[]⟩ : ByteArray).size ≤ 140737488355328)⟩, trivial⟩ ⟨Nat.zero_le _, trivial⟩ E T
  rwa [inf_new _ _ _ _ hnm] at h
set_option maxRecDepth 100000 in
set_option maxHeartbeats 8000000 in
theorem walk_declared (cs : Array Value) (ts : List Tb) (gs : List Fe) (f : Fe) (xa ua aa : Option Addr) (xc uc ac : Nat) (w : World) (hC : CtV w cs ts gs) (hcl : CtL ts gs) (hs : f.szs) (hfl : f.ty.ln) (hU : un.Sl w xa f.ty.un.length xc f.ty.un) (hE : Ec w f.bo ua uc aa ac) (hgb : gs.length * 248 ≤ 140737488351232) (T : Tabs w) :
    Calls Tryz.prog 10 #[.agg cs, .agg (feC f xa xc ua uc aa ac)] w (Bl true w) := by
  obtain ⟨ta, tn, tc, ga, gn, gc, da, dn, dc, pa, pn, pc, rfl, hT, hG⟩ := hC
  unfold ctC
  have hC : CtV w #[.slice ta tn tc, .slice ga gn gc, .slice da dn dc, .slice pa pn pc] ts gs := ⟨ta, tn, tc, ga, gn, gc, da, dn, dc, pa, pn, pc, rfl, hT, hG⟩
  have CE := Lib.hid (fun (W : World) (T : Tabs W) => example_any W T)
  have CI := Lib.hid (fun (W : World) (hC : CtV W #[.slice ta tn tc, .slice ga gn gc, .slice da dn dc, .slice pa pn pc] ts gs) (hE : Ec W f.bo ua uc aa ac) (T : Tabs W) => Infer_any #[.slice ta tn tc, .slice ga gn gc, .slice da dn dc, .slice pa pn pc] ts gs f.en f.bo ua aa uc ac W hC hcl hs.bo hs.ln hE T)
  have C1 := Lib.hid (fun (W : World) (T : Tabs W) => nameW_any f.nm hs.nm W T)
  have C2 := Lib.hid (fun (W : World) (T : Tabs W) => nameW_any f.en hs.en W T)
  have C3 := Lib.hid (fun (W : World) (S : un.Sl W xa f.ty.un.length xc f.ty.un) (T : Tabs W) => type_any f.ty xa xc W S hs.of T)
  have C4 := Lib.hid (fun (t : Ty) (a : Option Addr) (d : Nat) (W : World) (S1 : un.Sl W a t.un.length d t.un) (S2 : un.Sl W xa f.ty.un.length xc f.ty.un) => sameType_any t f.ty a xa d xc W S1 S2)
  have C5 := Lib.hid (fun (W : World) (hC : CtV W #[.slice ta tn tc, .slice ga gn gc, .slice da dn dc, .slice pa pn pc] ts gs) (S : un.Sl W xa f.ty.un.length xc f.ty.un) (hE : Ec W f.bo ua uc aa ac) (T : Tabs W) => Feature_any #[.slice ta tn tc, .slice ga gn gc, .slice da dn dc, .slice pa pn pc] ts gs f xa ua aa xc uc ac W hC hcl hs S hE T)
  have C6 := Lib.hid (fun (W : World) => feature_x f.nm W)
  have C7 := Lib.hid (fun (hnm : name f.nm = true) (cs ds : Array Value) (en : ByteArray) (W : World) (hC : CtV W cs ts (f :: gs)) (hE : ExV W ds (feaX f.nm)) (T : Tabs W) => infer_f cs ts gs en f ds W hC (ctl_cons hcl hfl) hs.nm hnm hE T)
  have HC := Lib.hid hC
  have HT := Lib.hid T
  have HU := Lib.hid hU
  have HE := Lib.hid hE
  have HU0 := Lib.hid hU
  have HE0 := Lib.hid hE
  have HG := Lib.hid hG
  have HB := Lib.hid hT
  have hens := Lib.hid hs.en
  have hgn := Lib.hid (hG.hn)
  have HZ := Lib.hid hgb
  have hD : decB ts gs f = decB ts gs f := rfl
  conv at hD => rhs; unfold decB
  have hF := dec_iff ts gs f
  have hen := Lib.hid (en_ne f.en ⟨#[120]⟩ (by decide))
  generalize decB ts gs f = D at *
  generalize hr : inf ts gs f.en f.bo = r at *
  clear hr
  generalize hfe : feE ts gs f = fe at *
  clear hfe
  replace hD := Lib.hid hD
  replace hF := Lib.hid hF
  have bb := below_two w (.cells #[.slice ta tn tc, .slice ga gn gc, .slice da dn dc, .slice pa pn pc] 46) (.cells (feC f xa xc ua uc aa ac) 54)
  have B0 := Lib.hid bb
  have GG := bw_two w #[.slice ta tn tc, .slice ga gn gc, .slice da dn dc, .slice pa pn pc] (feC f xa xc ua uc aa ac) 46 54
  have V0 := Lib.hid GG.1
  have V1 := Lib.hid GG.2
  replace HC := Lib.hid (ct_keeps HC.out bb)
  replace HT := Lib.hid (HT.out.stays bb)
  replace HU := Lib.hid (HU.out.keeps bb)
  replace HE := Lib.hid (HE.out.keeps bb)
  clear hC hT hG T hU hE hcl hs hfl hgb bb GG
  unfold feC at *
  go_enter Tryz.func10, Tryz.ntmps10
  go_wp2_with fail
  refine (CE.out _ HT.out).mono ?_
  rintro e w1 ⟨rfl, b1⟩
  have B1 := Lib.hid (bnext B0.out b1)
  replace HC := Lib.hid (ct_keeps HC.out b1)
  replace HT := Lib.hid (HT.out.stays b1)
  replace HU := Lib.hid (HU.out.keeps b1)
  replace HE := Lib.hid (HE.out.keeps b1)
  replace V0 := Lib.hid (V0.out.keeps b1)
  replace V1 := Lib.hid (V1.out.keeps b1)
  clear b1
  clear CE
  have z0 := Lib.hid (show w.heap.size ≠ w.heap.size + 1 by omega)
  generalize hg1 : w.heap.size + 1 = g1 at V1 ⊢
  clear hg1
  generalize hg0 : w.heap.size = g0 at V0 ⊢
  clear hg0 z0
  have c1 := V1.out.cell 1
  simp only [List.getElem?_toArray, List.getElem?_cons_zero, List.getElem?_cons_succ] at c1
  have R1 := Lib.hid (blk_range V1.out 5 (exC f.bo.h f.bo.ar.len ua uc aa ac).toList rfl)
  go_wp2_with (first | (refine arm_loadT infCa Tryz.underlying46 rfl (.tmp 2) rfl rfl _ _ _ rfl V0.out rfl ?_) | (refine arm_mid infX Tryz.underlying29 rfl (.tmp 19) rfl rfl g1 5 (exC f.bo.h f.bo.ar.len ua uc aa ac) rfl R1.out rfl ?_))
  refine (CI.out _ HC.out HE.out HT.out).mono ?_
  rintro e w2 ⟨ya, yc, rfl, sy, b2⟩
  have B2 := Lib.hid (bnext B1.out b2)
  replace HC := Lib.hid (ct_keeps HC.out b2)
  replace HT := Lib.hid (HT.out.stays b2)
  replace HU := Lib.hid (HU.out.keeps b2)
  replace HE := Lib.hid (HE.out.keeps b2)
  replace V0 := Lib.hid (V0.out.keeps b2)
  replace V1 := Lib.hid (V1.out.keeps b2)
  have SY := Lib.hid sy
  clear b2 sy
  clear CI c1 R1
  go_upto_region 3 with (first | (refine arm_storeT infTy (.tmp 6) (.tmp 22) rfl rfl _ _ _ _ rfl rfl (Blk.new _ _ _) rfl rfl (by simp [tyC, Value.oneCell']) ?_; intro w4 L4 hs4; have bb4 := (balloc (b0 w2) _).trans (hs4.below (Nat.le_refl _))))
  have B4 := Lib.hid (bnext B2.out bb4)
  replace HC := Lib.hid (ct_keeps HC.out bb4)
  replace HT := Lib.hid (HT.out.stays bb4)
  replace HU := Lib.hid (HU.out.keeps bb4)
  replace HE := Lib.hid (HE.out.keeps bb4)
  replace V0 := Lib.hid (V0.out.keeps bb4)
  replace V1 := Lib.hid (V1.out.keeps bb4)
  replace SY := Lib.hid (SY.out.keeps bb4)
  replace L4 := Lib.hid L4
  clear bb4 hs4
  generalize w2.heap.size = g6 at *
  go_cut [8] from 24 to 52 (fun v8 wx => v8 = .bool D ∧ Hid (Below w4.heap.size w4 wx))
  case first =>
    have c0 := V1.out.cell 0
    simp only [List.getElem?_toArray, List.getElem?_cons_zero] at c0
    go_wp2_with fail
    refine (C1.out _ HT.out).mono ?_
    rintro e w5 ⟨rfl, b5⟩
    have BW := Lib.hid b5
    replace HT := Lib.hid (HT.out.stays b5)
    replace HU := Lib.hid (HU.out.keeps b5)
    replace V1 := Lib.hid (V1.out.keeps b5)
    replace SY := Lib.hid (SY.out.keeps b5)
    replace L4 := Lib.hid (L4.out.keeps b5)
    clear c0 b5
    have c0 := (V1.out).cell 0
    have c1 := (V1.out).cell 1
    have c17 := (V1.out).cell 17
    simp only [List.getElem?_toArray, List.getElem?_cons_zero, List.getElem?_cons_succ] at c0 c1 c17
    have RT := Lib.hid (blk_range V1.out 2 (tyC f.ty xa xc).toList rfl)
    generalize name f.nm = n1 at *
    cases n1
    · go_wp2_with fail
      go_meet
      case rel => exact ⟨congrArg Value.bool (hD.out.trans (by rfl)).symm, BW⟩
    · go_wp2_with fail
      refine (C2.out _ HT.out).mono ?_
      rintro e w6 ⟨rfl, b6⟩
      replace BW := Lib.hid (bnext BW.out b6)
      replace HT := Lib.hid (HT.out.stays b6)
      replace HU := Lib.hid (HU.out.keeps b6)
      replace V1 := Lib.hid (V1.out.keeps b6)
      replace SY := Lib.hid (SY.out.keeps b6)
      replace L4 := Lib.hid (L4.out.keeps b6)
      clear b6
      clear c0 c1 c17 RT
      have c0 := (V1.out).cell 0
      have c1 := (V1.out).cell 1
      have c17 := (V1.out).cell 17
      simp only [List.getElem?_toArray, List.getElem?_cons_zero, List.getElem?_cons_succ] at c0 c1 c17
      have RT := Lib.hid (blk_range V1.out 2 (tyC f.ty xa xc).toList rfl)
      generalize name f.en = n2 at *
      cases n2
      · go_wp2_with fail
        go_meet
        case rel => exact ⟨congrArg Value.bool (hD.out.trans (by rfl)).symm, BW⟩
      · by_cases hv : 0 ≤ f.vr
        · have qv := decide_eq_true hv
          replace hD := hD.out
          rw [decide_eq_true hv] at hD
          replace hD := Lib.hid hD
          replace hv := Lib.hid hv
          go_wp2_with (first | (refine arm_midG infTy Tryz.underlying36 rfl (.tmp 38) rfl rfl g1 2 (tyC f.ty xa xc) rfl RT.out rfl ?_))
          refine (C3.out _ HU.out HT.out).mono ?_
          rintro e w7 ⟨rfl, b7⟩
          replace BW := Lib.hid (bnext BW.out b7)
          replace HU := Lib.hid (HU.out.keeps b7)
          replace V1 := Lib.hid (V1.out.keeps b7)
          replace SY := Lib.hid (SY.out.keeps b7)
          replace L4 := Lib.hid (L4.out.keeps b7)
          clear b7
          clear c0 c1 c17 RT
          have RT := Lib.hid (blk_range V1.out 2 (tyC f.ty xa xc).toList rfl)
          generalize tyE f.ty = te at *
          by_cases ht : te = 0
          · have qt := in_is ht
            replace hD := hD.out
            rw [decide_eq_true ht] at hD
            replace hD := Lib.hid hD
            replace ht := Lib.hid ht
            by_cases hr : r.1 = 0
            · have qr := in_is hr
              replace hD := hD.out
              rw [decide_eq_true hr] at hD
              replace hD := Lib.hid hD
              replace hr := Lib.hid hr
              go_wp2_with (first | (refine arm_midG infTy Tryz.underlying36 rfl (.tmp 49) rfl rfl g1 2 (tyC f.ty xa xc) rfl RT.out rfl ?_) | (refine arm_loadG infTy Tryz.underlying36 rfl (.tmp 6) rfl rfl _ _ _ rfl L4.out rfl ?_))
              refine (C4.out r.2 ya yc _ SY.out HU.out).mono ?_
              rintro e w8 ⟨rfl, b8⟩
              replace BW := Lib.hid (bnext BW.out b8)
              clear b8
              generalize sameT r.2 f.ty = sb at *
              go_wp2_with fail
              go_meet
              case rel => exact ⟨congrArg Value.bool (hD.out.trans (by cases sb <;> rfl)).symm, BW⟩
            · have qr := in_ne hr
              replace hD := hD.out
              rw [decide_eq_false hr] at hD
              replace hD := Lib.hid hD
              replace hr := Lib.hid hr
              go_wp2_with fail
              go_meet
              case rel => exact ⟨congrArg Value.bool (hD.out.trans (by rfl)).symm, BW⟩
          · have qt := in_ne ht
            replace hD := hD.out
            rw [decide_eq_false ht] at hD
            replace hD := Lib.hid hD
            replace ht := Lib.hid ht
            go_wp2_with fail
            go_meet
            case rel => exact ⟨congrArg Value.bool (hD.out.trans (by rfl)).symm, BW⟩
        · have qv := decide_eq_false hv
          replace hD := hD.out
          rw [decide_eq_false hv] at hD
          replace hD := Lib.hid hD
          replace hv := Lib.hid hv
          go_wp2_with fail
          go_meet
          case rel => exact ⟨congrArg Value.bool (hD.out.trans (by rfl)).symm, BW⟩
  case rest =>
    have hnm : Hid (D = true → name f.nm = true) := Lib.hid (fun e => by rw [hD.out] at e; exact (Bool.and_eq_true _ _ ▸ e).1)
    obtain ⟨rfl, BW⟩ := hcut
    generalize wc = w5 at *
    have bw5 := BW.out
    have B5 := Lib.hid (bnext B4.out bw5)
    replace HC := Lib.hid (ct_keeps HC.out bw5)
    replace HT := Lib.hid (HT.out.stays bw5)
    replace HU := Lib.hid (HU.out.keeps bw5)
    replace HE := Lib.hid (HE.out.keeps bw5)
    replace V0 := Lib.hid (V0.out.keeps bw5)
    replace V1 := Lib.hid (V1.out.keeps bw5)
    replace SY := Lib.hid (SY.out.keeps bw5)
    replace L4 := Lib.hid (L4.out.keeps bw5)
    clear bw5 BW hD C1 C2 C3
    go_wp2_with (first | (refine arm_loadT infCa Tryz.underlying46 rfl (.tmp 2) rfl rfl _ _ _ rfl V0.out rfl ?_) | (refine arm_loadT infFe Tryz.underlying54 rfl (.tmp 3) rfl rfl _ _ _ rfl V1.out rfl ?_))
    refine (C5.out _ HC.out HU.out HE.out HT.out).mono ?_
    rintro e w6 ⟨rfl, b6⟩
    have B6 := Lib.hid (bnext B5.out b6)
    replace HC := Lib.hid (ct_keeps HC.out b6)
    replace HT := Lib.hid (HT.out.stays b6)
    replace HU := Lib.hid (HU.out.keeps b6)
    replace HE := Lib.hid (HE.out.keeps b6)
    replace V0 := Lib.hid (V0.out.keeps b6)
    replace V1 := Lib.hid (V1.out.keeps b6)
    replace SY := Lib.hid (SY.out.keeps b6)
    replace L4 := Lib.hid (L4.out.keeps b6)
    clear b6
    clear C5
    cases D
    · have qf : (fe == 0) = false := by rw [eqI]; exact hF.out.symm
      go_wp2_with fail
      go_ret
      exact bl_of rfl B6.out
    · have qf : (fe == 0) = true := by rw [eqI]; exact hF.out.symm
      have hn2 := Lib.hid (hnm.out rfl)
      clear hnm hF
      go_upto_region 9 with (first | (refine arm_loadT infCa Tryz.underlying46 rfl (.tmp 2) rfl rfl _ _ _ rfl V0.out rfl ?_))
      have q8 := Lib.hid (balloc (b0 w6) (.cells #[.slice ta tn tc, .slice ga gn gc, .slice da dn dc, .slice pa pn pc] 46))
      have V9 := Lib.hid (Blk.new w6 46 #[.slice ta tn tc, .slice ga gn gc, .slice da dn dc, .slice pa pn pc])
      have q9 := Lib.hid (balloc q8.out (.cells #[.string f.nm, .string f.en, .int .i64 f.ty.k, .slice xa f.ty.un.length xc, .string f.ty.of, .int .i64 f.bo.h.k, .string f.bo.h.op, .string f.bo.h.nm, .string f.bo.h.tb, .int .i64 f.bo.h.vk, .int .i64 f.bo.h.vn, .string f.bo.h.vs, .slice ua f.bo.h.un.length uc, .int .i64 f.bo.h.pa, .int .i64 f.bo.h.wk, .int .i64 f.bo.h.ws, .slice aa f.bo.ar.len ac, .int .i64 f.vr] 54))
      have c1 := (V0.out.keeps q9.out).cell 1
      simp only [List.getElem?_toArray, List.getElem?_cons_zero, List.getElem?_cons_succ] at c1
      have V18 := Lib.hid (V1.out.keeps q8.out)
      have LO := Lib.hid (Ow.lit (T := 54) (sz := 18) (Q := fun c x => FeV w c x) (w := (w6.alloc (.cells #[.slice ta tn tc, .slice ga gn gc, .slice da dn dc, .slice pa pn pc] 46))) (c := #[.string f.nm, .string f.en, .int .i64 f.ty.k, .slice xa f.ty.un.length xc, .string f.ty.of, .int .i64 f.bo.h.k, .string f.bo.h.op, .string f.bo.h.nm, .string f.bo.h.tb, .int .i64 f.bo.h.vk, .int .i64 f.bo.h.vn, .string f.bo.h.vs, .slice ua f.bo.h.un.length uc, .int .i64 f.bo.h.pa, .int .i64 f.bo.h.wk, .int .i64 f.bo.h.ws, .slice aa f.bo.ar.len ac, .int .i64 f.vr]) (x := f) (Nat.le_refl _) rfl (by simp [Value.oneCell']) ⟨xa, xc, ua, uc, aa, ac, rfl, HU0.out, HE0.out⟩)
      replace LO := LO.out
      rw [sz_al] at LO
      replace LO := Lib.hid LO
      go_upto_region 10 with (first | (refine arm_loadT infFe Tryz.underlying54 rfl (.tmp 3) rfl rfl _ _ _ rfl V18.out rfl ?_) | (refine wpList_catO iFe (Q := fun c x => FeV w c x) (V := FeV) (w0 := w) (bnext B6.out q9.out) rfl (.tmp 64) (.tmp 66) rfl (w6.heap.size + 1) _ [f] rfl LO.out ga gn gc gs rfl HG.out (fun c x h => ⟨h, fe_one h⟩) (by have := HZ.out; rw [List.length_singleton]; omega) (by have := HZ.out; rw [List.length_singleton]; omega) (by rw [sz_al, sz_al]; omega) ?_; intro v9 w9 O9 bw9; obtain ⟨a9, c9, rfl⟩ := O9.form; have D9 := (V9.out.past (.cells #[.string f.nm, .string f.en, .int .i64 f.ty.k, .slice xa f.ty.un.length xc, .string f.ty.of, .int .i64 f.bo.h.k, .string f.bo.h.op, .string f.bo.h.nm, .string f.bo.h.tb, .int .i64 f.bo.h.vk, .int .i64 f.bo.h.vn, .string f.bo.h.vs, .slice ua f.bo.h.un.length uc, .int .i64 f.bo.h.pa, .int .i64 f.bo.h.wk, .int .i64 f.bo.h.ws, .slice aa f.bo.ar.len ac, .int .i64 f.vr] 54)).below bw9 (Nat.lt_succ_self _); have d1 := D9.cell 1; simp only [List.getElem?_toArray, List.getElem?_cons_zero, List.getElem?_cons_succ] at d1; have z1 := D9.free 1))
      have P9 := D9.setCell 1 (.slice a9 ([f] ++ gs).length c9)
      have O10 := O9.st P9.2 (Nat.lt_succ_self _)
      have bw10 := (q9.out.trans (bw9.mono (Nat.le_succ _))).trans (P9.2.below (Nat.le_refl _))
      have V10 := Lib.hid (show Blk _ _ 46 #[.slice ta tn tc, .slice a9 ([f] ++ gs).length c9, .slice da dn dc, .slice pa pn pc] from P9.1)
      obtain ⟨w10, h10⟩ : ∃ W, W = w9.setCell ⟨w6.heap.size, 1, none⟩ (.slice a9 ([f] ++ gs).length c9) := ⟨_, rfl⟩
      rw [← h10] at O10 bw10 V10
      refine wp_world w10 h10 ?_
      clear h10 P9 D9 O9 bw9 d1 z1 c1 LO V18 V9 q8 q9
      replace O10 := Lib.hid O10
      generalize w6.heap.size = g9 at V10 ⊢
      have B10 := Lib.hid (bnext B6.out bw10)
      replace HT := Lib.hid (HT.out.stays bw10)
      replace HU := Lib.hid (HU.out.keeps bw10)
      replace V1 := Lib.hid (V1.out.keeps bw10)
      have HD := Lib.hid (show CtV w10 #[.slice ta tn tc, .slice a9 ([f] ++ gs).length c9, .slice da dn dc, .slice pa pn pc] ts (f :: gs) from ⟨ta, tn, tc, a9, ([f] ++ gs).length, c9, da, dn, dc, pa, pn, pc, rfl, Tbs'.keeps HB.out B10.out, O10.out.row (V := FeV) (fun c x h => h.keeps B10.out)⟩)
      clear O10 bw10 HC HE SY L4 V0 HU0 HE0 HG HB HZ B6 qf hgn
      have C8 := Lib.hid (fun (ds : Array Value) (W : World) (hC : CtV W #[.slice ta tn tc, .slice a9 ([f] ++ gs).length c9, .slice da dn dc, .slice pa pn pc] ts (f :: gs)) (hE : ExV W ds (feaX f.nm)) (T : Tabs W) => (show Calls Tryz.prog 22 #[.agg #[.slice ta tn tc, .slice a9 ([f] ++ gs).length c9, .slice da dn dc, .slice pa pn pc], .string f.en, .agg ds] W (IfV (0, f.ty) W) from by have h := C7.out hn2.out _ ds f.en W hC hE T; rwa [if_pos rfl] at h))
      have C9 := Lib.hid (fun (ds : Array Value) (W : World) (hC : CtV W #[.slice ta tn tc, .slice a9 ([f] ++ gs).length c9, .slice da dn dc, .slice pa pn pc] ts (f :: gs)) (hE : ExV W ds (feaX f.nm)) (T : Tabs W) => (show Calls Tryz.prog 22 #[.agg #[.slice ta tn tc, .slice a9 ([f] ++ gs).length c9, .slice da dn dc, .slice pa pn pc], .string (f.en ++ ⟨#[120]⟩), .agg ds] W (IfV (noR 5) W) from by have h := C7.out hn2.out _ ds (f.en ++ ⟨#[120]⟩) W hC hE T; rwa [if_neg hen.out] at h))
      clear C7 hen hn2
      go_cut [10, 11] from 69 to 78 (fun va vb wx => ∃ g ya yc, va = .pointer (some ⟨g, 0, none⟩) ∧ vb = .int .i64 0 ∧ Hid (Blk wx g 36 (tyC f.ty ya yc)) ∧ Hid (un.Sl wx ya f.ty.un.length yc f.ty.un) ∧ Hid (Below w10.heap.size w10 wx))
      case first =>
        refine wp_region_held_drew (S := fun w' => Below w10.heap.size w10 w') (by kernel_rfl) (b0 w10).drew (fun hH => ?_)
        refine held_take (i := 0) (d := 70) (v := .agg #[.slice ta tn tc, .slice a9 ([f] ++ gs).length c9, .slice da dn dc, .slice pa pn pc]) rfl (by kernel_rfl) (by kernel_rfl) (by kernel_rfl) rfl (fun _ _ _ h => h) rfl hH (fun w' hS => yield_load infCa Tryz.underlying46 rfl (.tmp 9) rfl _ _ _ rfl (V10.out.keeps hS) rfl) ?_
        simp only [List.set_cons_zero, List.set_cons_succ]
        refine held_take (i := 1) (d := 71) (v := ?_) rfl (by kernel_rfl) (by kernel_rfl) (by kernel_rfl) rfl (fun _ _ _ h => h) rfl hH (fun w' hS => ?_) ?_
        rotate_left
        · go_simp; first | done | with_reducible rfl
        simp only [List.set_cons_zero, List.set_cons_succ]
        refine held_take (i := 2) (d := 72) (v := ?_) rfl (by kernel_rfl) (by kernel_rfl) (by kernel_rfl) rfl (fun _ _ _ h => h) rfl hH (fun w' hS => ?_) ?_
        rotate_left
        · have c1 := (V1.out.keeps hS).cell 1; simp only [List.getElem?_toArray, List.getElem?_cons_zero, List.getElem?_cons_succ] at c1; go_simp; first | done | with_reducible rfl
        simp only [List.set_cons_zero, List.set_cons_succ]
        refine held_take (i := 3) (d := 73) (v := ?_) rfl (by kernel_rfl) (by kernel_rfl) (by kernel_rfl) rfl (fun _ _ _ h => h) rfl hH (fun w' hS => ?_) ?_
        rotate_left
        · go_simp; first | done | with_reducible rfl
        simp only [List.set_cons_zero, List.set_cons_succ]
        refine held_take (i := 4) (d := 74) (v := ?_) rfl (by kernel_rfl) (by kernel_rfl) (by kernel_rfl) rfl (fun _ _ _ h => h) rfl hH (fun w' hS => ?_) ?_
        rotate_left
        · have c0 := (V1.out.keeps hS).cell 0; simp only [List.getElem?_toArray, List.getElem?_cons_zero] at c0; go_simp; first | done | with_reducible rfl
        simp only [List.set_cons_zero, List.set_cons_succ]
        generalize w10.drew = yy at *
        refine held_two (i := 5) (j := 10) rfl rfl (by kernel_rfl) rfl rfl (fun K hK => ?_) (fun K hK => ?_)
        · go_simp
          refine (C6.out _).mono ?_
          rintro e y1101 ⟨cX, rfl, xX, b1101⟩
          refine hK.out _ _ (bnext hH b1101) (fun hH => ?_)
          clear hK K
          have XX := Lib.hid xX
          clear b1101 xX
          refine held_two (i := 6) (j := 10) rfl rfl (by kernel_rfl) rfl rfl (fun K hK => ?_) (fun K hK => ?_)
          · go_simp
            refine (C8.out cX _ (ct_keeps HD.out hH) XX.out (HT.out.stays hH)).mono ?_
            rintro e y1102 ⟨ya, yc, rfl, sy, b1102⟩
            refine hK.out _ _ (bnext hH b1102) (fun hH => ?_)
            clear hK K
            replace XX := Lib.hid (XX.out.keeps b1102)
            have SY := Lib.hid sy
            clear b1102 sy
            refine held_take (i := 7) (d := 69) (v := ?_) rfl (by kernel_rfl) (by kernel_rfl) (by kernel_rfl) rfl (fun _ _ _ h => h) rfl hH (fun w' hS => ?_) ?_
            rotate_left
            · go_simp; first | done | with_reducible rfl
            simp only [List.set_cons_zero, List.set_cons_succ]
            refine held_take (i := 8) (d := 77) (v := ?_) rfl (by kernel_rfl) (by kernel_rfl) (by kernel_rfl) rfl (fun _ _ _ h => h) rfl hH (fun w' hS => ?_) ?_
            rotate_left
            · go_simp; first | done | with_reducible rfl
            simp only [List.set_cons_zero, List.set_cons_succ]
            refine held_take (i := 9) (d := 78) (v := ?_) rfl (by kernel_rfl) (by kernel_rfl) (by kernel_rfl) rfl (fun _ _ _ h => h) rfl hH (fun w' hS => ?_) ?_
            rotate_left
            · go_simp; first | done | with_reducible rfl
            simp only [List.set_cons_zero, List.set_cons_succ]
            refine held_only (i := 10) rfl (by kernel_rfl) rfl (fun K hK => ?_)
            go_simp
            have lb := Lib.hid hH.size
            refine hK.out _ _ (balloc hH _) (fun hH => ?_)
            clear hK K
            have N1103 := Lib.hid (Blk.new y1102 36 #[.int .i64 0, .slice none 0 0, .string ⟨#[]⟩])
            replace XX := Lib.hid (XX.out.keeps (balloc (b0 y1102) (.cells #[.int .i64 0, .slice none 0 0, .string ⟨#[]⟩] 36)))
            replace SY := Lib.hid (SY.out.keeps (balloc (b0 y1102) (.cells #[.int .i64 0, .slice none 0 0, .string ⟨#[]⟩] 36)))
            generalize hz : (y1102.alloc (.cells #[.int .i64 0, .slice none 0 0, .string ⟨#[]⟩] 36)) = y1103 at *
            clear hz
            generalize y1102.heap.size = g1103 at *
            refine held_only (i := 11) rfl (by kernel_rfl) rfl (fun K hK => ?_)
            refine op_storeT infTy (.tmp 10) (.tmp 77) rfl g1103 _ (tyC f.ty ya yc) _ rfl rfl N1103.out rfl rfl (by simp [tyC, Value.oneCell']) ?_
            intro y9 L9 hs9
            refine hK.out _ _ (hH.trans (hs9.below lb.out)) (fun hH => ?_)
            clear hK K
            have U9 := sl_ty (t := t0) (ua := none) (uc := 0) SY.out N1103.out hs9
            refine held_take (i := 12) (d := 11) (v := ?_) rfl (by kernel_rfl) (by kernel_rfl) (by kernel_rfl) rfl (fun _ _ _ h => h) rfl hH (fun w' hS => ?_) ?_
            rotate_left
            · go_simp; first | done | with_reducible rfl
            simp only [List.set_cons_zero, List.set_cons_succ]
            refine wpAnyH_done (by kernel_rfl) ?_ _
            go_wp2_with fail
            go_meet
            case rel => exact ⟨g1103, ya, yc, rfl, rfl, Lib.hid L9, Lib.hid U9, Lib.hid hH⟩
          · go_simp
            have lb := Lib.hid hH.size
            refine hK.out _ _ (balloc hH _) (fun hH => ?_)
            clear hK K
            have N1104 := Lib.hid (Blk.new y1101 36 #[.int .i64 0, .slice none 0 0, .string ⟨#[]⟩])
            replace XX := Lib.hid (XX.out.keeps (balloc (b0 y1101) (.cells #[.int .i64 0, .slice none 0 0, .string ⟨#[]⟩] 36)))
            generalize hz : (y1101.alloc (.cells #[.int .i64 0, .slice none 0 0, .string ⟨#[]⟩] 36)) = y1104 at *
            clear hz
            generalize y1101.heap.size = g1104 at *
            refine held_only (i := 6) rfl (by kernel_rfl) rfl (fun K hK => ?_)
            go_simp
            refine (C8.out cX _ (ct_keeps HD.out hH) XX.out (HT.out.stays hH)).mono ?_
            rintro e y1105 ⟨ya, yc, rfl, sy, b1105⟩
            refine hK.out _ _ (bnext hH b1105) (fun hH => ?_)
            clear hK K
            replace XX := Lib.hid (XX.out.keeps b1105)
            replace N1104 := Lib.hid (N1104.out.keeps b1105)
            have SY := Lib.hid sy
            clear b1105 sy
            refine held_take (i := 7) (d := 69) (v := ?_) rfl (by kernel_rfl) (by kernel_rfl) (by kernel_rfl) rfl (fun _ _ _ h => h) rfl hH (fun w' hS => ?_) ?_
            rotate_left
            · go_simp; first | done | with_reducible rfl
            simp only [List.set_cons_zero, List.set_cons_succ]
            refine held_take (i := 8) (d := 77) (v := ?_) rfl (by kernel_rfl) (by kernel_rfl) (by kernel_rfl) rfl (fun _ _ _ h => h) rfl hH (fun w' hS => ?_) ?_
            rotate_left
            · go_simp; first | done | with_reducible rfl
            simp only [List.set_cons_zero, List.set_cons_succ]
            refine held_take (i := 9) (d := 78) (v := ?_) rfl (by kernel_rfl) (by kernel_rfl) (by kernel_rfl) rfl (fun _ _ _ h => h) rfl hH (fun w' hS => ?_) ?_
            rotate_left
            · go_simp; first | done | with_reducible rfl
            simp only [List.set_cons_zero, List.set_cons_succ]
            refine held_only (i := 11) rfl (by kernel_rfl) rfl (fun K hK => ?_)
            refine op_storeT infTy (.tmp 10) (.tmp 77) rfl g1104 _ (tyC f.ty ya yc) _ rfl rfl N1104.out rfl rfl (by simp [tyC, Value.oneCell']) ?_
            intro y9 L9 hs9
            refine hK.out _ _ (hH.trans (hs9.below lb.out)) (fun hH => ?_)
            clear hK K
            have U9 := sl_ty (t := t0) (ua := none) (uc := 0) SY.out N1104.out hs9
            refine held_take (i := 12) (d := 11) (v := ?_) rfl (by kernel_rfl) (by kernel_rfl) (by kernel_rfl) rfl (fun _ _ _ h => h) rfl hH (fun w' hS => ?_) ?_
            rotate_left
            · go_simp; first | done | with_reducible rfl
            simp only [List.set_cons_zero, List.set_cons_succ]
            refine wpAnyH_done (by kernel_rfl) ?_ _
            go_wp2_with fail
            go_meet
            case rel => exact ⟨g1104, ya, yc, rfl, rfl, Lib.hid L9, Lib.hid U9, Lib.hid hH⟩
        · go_simp
          have lb := Lib.hid hH.size
          refine hK.out _ _ (balloc hH _) (fun hH => ?_)
          clear hK K
          have N1106 := Lib.hid (Blk.new yy 36 #[.int .i64 0, .slice none 0 0, .string ⟨#[]⟩])
          generalize hz : (yy.alloc (.cells #[.int .i64 0, .slice none 0 0, .string ⟨#[]⟩] 36)) = y1106 at *
          clear hz
          generalize yy.heap.size = g1106 at *
          refine held_only (i := 5) rfl (by kernel_rfl) rfl (fun K hK => ?_)
          go_simp
          refine (C6.out _).mono ?_
          rintro e y1107 ⟨cX, rfl, xX, b1107⟩
          refine hK.out _ _ (bnext hH b1107) (fun hH => ?_)
          clear hK K
          replace N1106 := Lib.hid (N1106.out.keeps b1107)
          have XX := Lib.hid xX
          clear b1107 xX
          refine held_only (i := 6) rfl (by kernel_rfl) rfl (fun K hK => ?_)
          go_simp
          refine (C8.out cX _ (ct_keeps HD.out hH) XX.out (HT.out.stays hH)).mono ?_
          rintro e y1108 ⟨ya, yc, rfl, sy, b1108⟩
          refine hK.out _ _ (bnext hH b1108) (fun hH => ?_)
          clear hK K
          replace XX := Lib.hid (XX.out.keeps b1108)
          replace N1106 := Lib.hid (N1106.out.keeps b1108)
          have SY := Lib.hid sy
          clear b1108 sy
          refine held_take (i := 7) (d := 69) (v := ?_) rfl (by kernel_rfl) (by kernel_rfl) (by kernel_rfl) rfl (fun _ _ _ h => h) rfl hH (fun w' hS => ?_) ?_
          rotate_left
          · go_simp; first | done | with_reducible rfl
          simp only [List.set_cons_zero, List.set_cons_succ]
          refine held_take (i := 8) (d := 77) (v := ?_) rfl (by kernel_rfl) (by kernel_rfl) (by kernel_rfl) rfl (fun _ _ _ h => h) rfl hH (fun w' hS => ?_) ?_
          rotate_left
          · go_simp; first | done | with_reducible rfl
          simp only [List.set_cons_zero, List.set_cons_succ]
          refine held_take (i := 9) (d := 78) (v := ?_) rfl (by kernel_rfl) (by kernel_rfl) (by kernel_rfl) rfl (fun _ _ _ h => h) rfl hH (fun w' hS => ?_) ?_
          rotate_left
          · go_simp; first | done | with_reducible rfl
          simp only [List.set_cons_zero, List.set_cons_succ]
          refine held_only (i := 11) rfl (by kernel_rfl) rfl (fun K hK => ?_)
          refine op_storeT infTy (.tmp 10) (.tmp 77) rfl g1106 _ (tyC f.ty ya yc) _ rfl rfl N1106.out rfl rfl (by simp [tyC, Value.oneCell']) ?_
          intro y9 L9 hs9
          refine hK.out _ _ (hH.trans (hs9.below lb.out)) (fun hH => ?_)
          clear hK K
          have U9 := sl_ty (t := t0) (ua := none) (uc := 0) SY.out N1106.out hs9
          refine held_take (i := 12) (d := 11) (v := ?_) rfl (by kernel_rfl) (by kernel_rfl) (by kernel_rfl) rfl (fun _ _ _ h => h) rfl hH (fun w' hS => ?_) ?_
          rotate_left
          · go_simp; first | done | with_reducible rfl
          simp only [List.set_cons_zero, List.set_cons_succ]
          refine wpAnyH_done (by kernel_rfl) ?_ _
          go_wp2_with fail
          go_meet
          case rel => exact ⟨g1106, ya, yc, rfl, rfl, Lib.hid L9, Lib.hid U9, Lib.hid hH⟩
      case rest =>
        obtain ⟨g11, y11, e11, rfl, rfl, L11, S11, BW⟩ := hcut
        generalize wc = w11 at *
        have bw11 := BW.out
        have B11 := Lib.hid (bnext B10.out bw11)
        replace HT := Lib.hid (HT.out.stays bw11)
        replace HU := Lib.hid (HU.out.keeps bw11)
        replace V1 := Lib.hid (V1.out.keeps bw11)
        replace V10 := Lib.hid (V10.out.keeps bw11)
        replace HD := Lib.hid (ct_keeps HD.out bw11)
        clear bw11 BW C8
        go_upto_region 11 with fail
        go_cut [12, 13] from 79 to 89 (fun va vb wx => ∃ g ya yc, va = .pointer (some ⟨g, 0, none⟩) ∧ vb = .int .i64 5 ∧ Hid (Blk wx g 36 (tyC t0 ya yc)) ∧ Hid (un.Sl wx ya t0.un.length yc t0.un) ∧ Hid (Below w11.heap.size w11 wx))
        case first =>
          refine wp_region_held_drew (S := fun w' => Below w11.heap.size w11 w') (by kernel_rfl) (b0 w11).drew (fun hH => ?_)
          refine held_take (i := 0) (d := 80) (v := .agg #[.slice ta tn tc, .slice a9 ([f] ++ gs).length c9, .slice da dn dc, .slice pa pn pc]) rfl (by kernel_rfl) (by kernel_rfl) (by kernel_rfl) rfl (fun _ _ _ h => h) rfl hH (fun w' hS => yield_load infCa Tryz.underlying46 rfl (.tmp 9) rfl _ _ _ rfl (V10.out.keeps hS) rfl) ?_
          simp only [List.set_cons_zero, List.set_cons_succ]
          refine held_take (i := 1) (d := 81) (v := ?_) rfl (by kernel_rfl) (by kernel_rfl) (by kernel_rfl) rfl (fun _ _ _ h => h) rfl hH (fun w' hS => ?_) ?_
          rotate_left
          · go_simp; first | done | with_reducible rfl
          simp only [List.set_cons_zero, List.set_cons_succ]
          refine held_take (i := 2) (d := 82) (v := ?_) rfl (by kernel_rfl) (by kernel_rfl) (by kernel_rfl) rfl (fun _ _ _ h => h) rfl hH (fun w' hS => ?_) ?_
          rotate_left
          · have c1 := (V1.out.keeps hS).cell 1; simp only [List.getElem?_toArray, List.getElem?_cons_zero, List.getElem?_cons_succ] at c1; go_simp; first | done | with_reducible rfl
          simp only [List.set_cons_zero, List.set_cons_succ]
          refine held_take (i := 3) (d := 83) (v := ?_) rfl (by kernel_rfl) (by kernel_rfl) (by kernel_rfl) rfl (fun _ _ _ h => h) rfl hH (fun w' hS => ?_) ?_
          rotate_left
          · go_simp; have hz9 := hens.out; rw [if_neg (by omega)]
          simp only [List.set_cons_zero, List.set_cons_succ]
          refine held_take (i := 4) (d := 84) (v := ?_) rfl (by kernel_rfl) (by kernel_rfl) (by kernel_rfl) rfl (fun _ _ _ h => h) rfl hH (fun w' hS => ?_) ?_
          rotate_left
          · go_simp; first | done | with_reducible rfl
          simp only [List.set_cons_zero, List.set_cons_succ]
          refine held_take (i := 5) (d := 85) (v := ?_) rfl (by kernel_rfl) (by kernel_rfl) (by kernel_rfl) rfl (fun _ _ _ h => h) rfl hH (fun w' hS => ?_) ?_
          rotate_left
          · have c0 := (V1.out.keeps hS).cell 0; simp only [List.getElem?_toArray, List.getElem?_cons_zero] at c0; go_simp; first | done | with_reducible rfl
          simp only [List.set_cons_zero, List.set_cons_succ]
          generalize w11.drew = yy at *
          refine held_two (i := 6) (j := 11) rfl rfl (by kernel_rfl) rfl rfl (fun K hK => ?_) (fun K hK => ?_)
          · go_simp
            refine (C6.out _).mono ?_
            rintro e y1201 ⟨cX, rfl, xX, b1201⟩
            refine hK.out _ _ (bnext hH b1201) (fun hH => ?_)
            clear hK K
            have XX := Lib.hid xX
            clear b1201 xX
            refine held_two (i := 7) (j := 11) rfl rfl (by kernel_rfl) rfl rfl (fun K hK => ?_) (fun K hK => ?_)
            · go_simp
              refine (C9.out cX _ (ct_keeps HD.out hH) XX.out (HT.out.stays hH)).mono ?_
              rintro e y1202 ⟨ya, yc, rfl, sy, b1202⟩
              refine hK.out _ _ (bnext hH b1202) (fun hH => ?_)
              clear hK K
              replace XX := Lib.hid (XX.out.keeps b1202)
              have SY := Lib.hid sy
              clear b1202 sy
              refine held_take (i := 8) (d := 79) (v := ?_) rfl (by kernel_rfl) (by kernel_rfl) (by kernel_rfl) rfl (fun _ _ _ h => h) rfl hH (fun w' hS => ?_) ?_
              rotate_left
              · go_simp; first | done | with_reducible rfl
              simp only [List.set_cons_zero, List.set_cons_succ]
              refine held_take (i := 9) (d := 88) (v := ?_) rfl (by kernel_rfl) (by kernel_rfl) (by kernel_rfl) rfl (fun _ _ _ h => h) rfl hH (fun w' hS => ?_) ?_
              rotate_left
              · go_simp; first | done | with_reducible rfl
              simp only [List.set_cons_zero, List.set_cons_succ]
              refine held_take (i := 10) (d := 89) (v := ?_) rfl (by kernel_rfl) (by kernel_rfl) (by kernel_rfl) rfl (fun _ _ _ h => h) rfl hH (fun w' hS => ?_) ?_
              rotate_left
              · go_simp; first | done | with_reducible rfl
              simp only [List.set_cons_zero, List.set_cons_succ]
              refine held_only (i := 11) rfl (by kernel_rfl) rfl (fun K hK => ?_)
              go_simp
              have lb := Lib.hid hH.size
              refine hK.out _ _ (balloc hH _) (fun hH => ?_)
              clear hK K
              have N1203 := Lib.hid (Blk.new y1202 36 #[.int .i64 0, .slice none 0 0, .string ⟨#[]⟩])
              replace XX := Lib.hid (XX.out.keeps (balloc (b0 y1202) (.cells #[.int .i64 0, .slice none 0 0, .string ⟨#[]⟩] 36)))
              replace SY := Lib.hid (SY.out.keeps (balloc (b0 y1202) (.cells #[.int .i64 0, .slice none 0 0, .string ⟨#[]⟩] 36)))
              generalize hz : (y1202.alloc (.cells #[.int .i64 0, .slice none 0 0, .string ⟨#[]⟩] 36)) = y1203 at *
              clear hz
              generalize y1202.heap.size = g1203 at *
              refine held_only (i := 12) rfl (by kernel_rfl) rfl (fun K hK => ?_)
              refine op_storeT infTy (.tmp 12) (.tmp 88) rfl g1203 _ (tyC t0 ya yc) _ rfl rfl N1203.out rfl rfl (by simp [tyC, Value.oneCell']) ?_
              intro y9 L9 hs9
              refine hK.out _ _ (hH.trans (hs9.below lb.out)) (fun hH => ?_)
              clear hK K
              have U9 := sl_ty (t := t0) (ua := none) (uc := 0) SY.out N1203.out hs9
              refine held_take (i := 13) (d := 13) (v := ?_) rfl (by kernel_rfl) (by kernel_rfl) (by kernel_rfl) rfl (fun _ _ _ h => h) rfl hH (fun w' hS => ?_) ?_
              rotate_left
              · go_simp; first | done | with_reducible rfl
              simp only [List.set_cons_zero, List.set_cons_succ]
              refine wpAnyH_done (by kernel_rfl) ?_ _
              go_wp2_with fail
              go_meet
              case rel => exact ⟨g1203, ya, yc, rfl, rfl, Lib.hid L9, Lib.hid U9, Lib.hid hH⟩
            · go_simp
              have lb := Lib.hid hH.size
              refine hK.out _ _ (balloc hH _) (fun hH => ?_)
              clear hK K
              have N1204 := Lib.hid (Blk.new y1201 36 #[.int .i64 0, .slice none 0 0, .string ⟨#[]⟩])
              replace XX := Lib.hid (XX.out.keeps (balloc (b0 y1201) (.cells #[.int .i64 0, .slice none 0 0, .string ⟨#[]⟩] 36)))
              generalize hz : (y1201.alloc (.cells #[.int .i64 0, .slice none 0 0, .string ⟨#[]⟩] 36)) = y1204 at *
              clear hz
              generalize y1201.heap.size = g1204 at *
              refine held_only (i := 7) rfl (by kernel_rfl) rfl (fun K hK => ?_)
              go_simp
              refine (C9.out cX _ (ct_keeps HD.out hH) XX.out (HT.out.stays hH)).mono ?_
              rintro e y1205 ⟨ya, yc, rfl, sy, b1205⟩
              refine hK.out _ _ (bnext hH b1205) (fun hH => ?_)
              clear hK K
              replace XX := Lib.hid (XX.out.keeps b1205)
              replace N1204 := Lib.hid (N1204.out.keeps b1205)
              have SY := Lib.hid sy
              clear b1205 sy
              refine held_take (i := 8) (d := 79) (v := ?_) rfl (by kernel_rfl) (by kernel_rfl) (by kernel_rfl) rfl (fun _ _ _ h => h) rfl hH (fun w' hS => ?_) ?_
              rotate_left
              · go_simp; first | done | with_reducible rfl
              simp only [List.set_cons_zero, List.set_cons_succ]
              refine held_take (i := 9) (d := 88) (v := ?_) rfl (by kernel_rfl) (by kernel_rfl) (by kernel_rfl) rfl (fun _ _ _ h => h) rfl hH (fun w' hS => ?_) ?_
              rotate_left
              · go_simp; first | done | with_reducible rfl
              simp only [List.set_cons_zero, List.set_cons_succ]
              refine held_take (i := 10) (d := 89) (v := ?_) rfl (by kernel_rfl) (by kernel_rfl) (by kernel_rfl) rfl (fun _ _ _ h => h) rfl hH (fun w' hS => ?_) ?_
              rotate_left
              · go_simp; first | done | with_reducible rfl
              simp only [List.set_cons_zero, List.set_cons_succ]
              refine held_only (i := 12) rfl (by kernel_rfl) rfl (fun K hK => ?_)
              refine op_storeT infTy (.tmp 12) (.tmp 88) rfl g1204 _ (tyC t0 ya yc) _ rfl rfl N1204.out rfl rfl (by simp [tyC, Value.oneCell']) ?_
              intro y9 L9 hs9
              refine hK.out _ _ (hH.trans (hs9.below lb.out)) (fun hH => ?_)
              clear hK K
              have U9 := sl_ty (t := t0) (ua := none) (uc := 0) SY.out N1204.out hs9
              refine held_take (i := 13) (d := 13) (v := ?_) rfl (by kernel_rfl) (by kernel_rfl) (by kernel_rfl) rfl (fun _ _ _ h => h) rfl hH (fun w' hS => ?_) ?_
              rotate_left
              · go_simp; first | done | with_reducible rfl
              simp only [List.set_cons_zero, List.set_cons_succ]
              refine wpAnyH_done (by kernel_rfl) ?_ _
              go_wp2_with fail
              go_meet
              case rel => exact ⟨g1204, ya, yc, rfl, rfl, Lib.hid L9, Lib.hid U9, Lib.hid hH⟩
          · go_simp
            have lb := Lib.hid hH.size
            refine hK.out _ _ (balloc hH _) (fun hH => ?_)
            clear hK K
            have N1206 := Lib.hid (Blk.new yy 36 #[.int .i64 0, .slice none 0 0, .string ⟨#[]⟩])
            generalize hz : (yy.alloc (.cells #[.int .i64 0, .slice none 0 0, .string ⟨#[]⟩] 36)) = y1206 at *
            clear hz
            generalize yy.heap.size = g1206 at *
            refine held_only (i := 6) rfl (by kernel_rfl) rfl (fun K hK => ?_)
            go_simp
            refine (C6.out _).mono ?_
            rintro e y1207 ⟨cX, rfl, xX, b1207⟩
            refine hK.out _ _ (bnext hH b1207) (fun hH => ?_)
            clear hK K
            replace N1206 := Lib.hid (N1206.out.keeps b1207)
            have XX := Lib.hid xX
            clear b1207 xX
            refine held_only (i := 7) rfl (by kernel_rfl) rfl (fun K hK => ?_)
            go_simp
            refine (C9.out cX _ (ct_keeps HD.out hH) XX.out (HT.out.stays hH)).mono ?_
            rintro e y1208 ⟨ya, yc, rfl, sy, b1208⟩
            refine hK.out _ _ (bnext hH b1208) (fun hH => ?_)
            clear hK K
            replace XX := Lib.hid (XX.out.keeps b1208)
            replace N1206 := Lib.hid (N1206.out.keeps b1208)
            have SY := Lib.hid sy
            clear b1208 sy
            refine held_take (i := 8) (d := 79) (v := ?_) rfl (by kernel_rfl) (by kernel_rfl) (by kernel_rfl) rfl (fun _ _ _ h => h) rfl hH (fun w' hS => ?_) ?_
            rotate_left
            · go_simp; first | done | with_reducible rfl
            simp only [List.set_cons_zero, List.set_cons_succ]
            refine held_take (i := 9) (d := 88) (v := ?_) rfl (by kernel_rfl) (by kernel_rfl) (by kernel_rfl) rfl (fun _ _ _ h => h) rfl hH (fun w' hS => ?_) ?_
            rotate_left
            · go_simp; first | done | with_reducible rfl
            simp only [List.set_cons_zero, List.set_cons_succ]
            refine held_take (i := 10) (d := 89) (v := ?_) rfl (by kernel_rfl) (by kernel_rfl) (by kernel_rfl) rfl (fun _ _ _ h => h) rfl hH (fun w' hS => ?_) ?_
            rotate_left
            · go_simp; first | done | with_reducible rfl
            simp only [List.set_cons_zero, List.set_cons_succ]
            refine held_only (i := 12) rfl (by kernel_rfl) rfl (fun K hK => ?_)
            refine op_storeT infTy (.tmp 12) (.tmp 88) rfl g1206 _ (tyC t0 ya yc) _ rfl rfl N1206.out rfl rfl (by simp [tyC, Value.oneCell']) ?_
            intro y9 L9 hs9
            refine hK.out _ _ (hH.trans (hs9.below lb.out)) (fun hH => ?_)
            clear hK K
            have U9 := sl_ty (t := t0) (ua := none) (uc := 0) SY.out N1206.out hs9
            refine held_take (i := 13) (d := 13) (v := ?_) rfl (by kernel_rfl) (by kernel_rfl) (by kernel_rfl) rfl (fun _ _ _ h => h) rfl hH (fun w' hS => ?_) ?_
            rotate_left
            · go_simp; first | done | with_reducible rfl
            simp only [List.set_cons_zero, List.set_cons_succ]
            refine wpAnyH_done (by kernel_rfl) ?_ _
            go_wp2_with fail
            go_meet
            case rel => exact ⟨g1206, ya, yc, rfl, rfl, Lib.hid L9, Lib.hid U9, Lib.hid hH⟩
        case rest =>
          obtain ⟨g12, y12, e12, rfl, rfl, L12, S12, BW⟩ := hcut
          generalize wc = w12 at *
          have bw12 := BW.out
          have B12 := Lib.hid (bnext B11.out bw12)
          replace HU := Lib.hid (HU.out.keeps bw12)
          replace V1 := Lib.hid (V1.out.keeps bw12)
          replace L11 := Lib.hid (L11.out.keeps bw12)
          replace S11 := Lib.hid (S11.out.keeps bw12)
          clear bw12 BW C9 L12 S12 HD V10 HT C6
          have RT := Lib.hid (blk_range V1.out 2 (tyC f.ty xa xc).toList rfl)
          go_wp2_with (first | (refine arm_loadG infTy Tryz.underlying36 rfl (.tmp 10) rfl rfl _ _ _ rfl L11.out rfl ?_) | (refine arm_midG infTy Tryz.underlying36 rfl (.tmp 97) rfl rfl g1 2 (tyC f.ty xa xc) rfl RT.out rfl ?_))
          refine (C4.out f.ty y11 e11 _ S11.out HU.out).mono ?_
          rintro e w13 ⟨rfl, b13⟩
          have B13 := Lib.hid (bnext B12.out b13)
          clear b13 C4
          have hsr := sameT_refl f.ty
          generalize sameT f.ty f.ty = sb at *
          subst hsr
          go_wp2_with fail
          go_ret
          exact bl_of rfl B13.out
end Go.Proofs.YtbkpjhffmaldmaaGreatDoor.ch
