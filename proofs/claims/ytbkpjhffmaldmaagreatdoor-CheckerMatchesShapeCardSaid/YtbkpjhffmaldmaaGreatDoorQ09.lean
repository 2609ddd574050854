/-
  Features and fields; rules of types.
-/
import Derived.Deep.CutBlock
import Derived.Deep.DeepCutAuto
import Derived.Test.YtbkpjhffmaldmaaGreatDoorQ08
namespace Go.Proofs.YtbkpjhffmaldmaaGreatDoor.ch
open Go.RowKit dec

set_option maxRecDepth 100000 in
set_option maxHeartbeats 4000000 in
theorem field_of (nm : ByteArray) (t : Tb) (a : Option Addr) (c gT N : Nat) (w0 w : World) (hb0 : Below w0.heap.size w0 w) (hT : Blk w gT 39 (tbC t a c)) (hF : Fis w0 a t.fs.length c t.fs) :
    Calls Tryz.prog 74 #[.string nm, .pointer (some ⟨gT, 0, none⟩)] w (TrV (fldT t.fs nm) w0 N w) := by
  have bb := below_two w (.cells #[.string nm] 9) (.cells #[.int .i64 0, .slice none 0 0, .string ⟨#[]⟩] 36)
  have B0 := Lib.hid bb
  have GG := bw_two w #[.string nm] #[.int .i64 0, .slice none 0 0, .string ⟨#[]⟩] 9 36
  have G1 := Lib.hid GG.1
  have G2 := Lib.hid GG.2
  have GT := Lib.hid (hT.keeps bb)
  have gt2 := GT.out.cell 2
  have C := Lib.hid (findB_any a t.fs.length c t.fs nm w.heap.size w0 _ (hb0.trans (bb.mono hb0.size)) hF (G1.out.cell 0))
  clear hT bb GG hF hb0
  unfold tbC at gt2
  simp only [List.getElem?_toArray, List.getElem?_cons_zero, List.getElem?_cons_succ] at gt2
  go_enter Tryz.func74, Tryz.ntmps74
  go_wp2_with fail
  refine C.out.mono ?_
  rintro e w1 ⟨b1, hr⟩
  have B1 := Lib.hid (bnext B0.out b1)
  replace G2 := Lib.hid (G2.out.keeps b1)
  clear b1 C gt2 GT G1
  have hE : fldT t.fs nm = match t.fs.find? fun x => decide (x.nm = nm) with | none => noR 4 | some f => tyR f.ty := rfl
  generalize (t.fs.find? fun x => decide (x.nm = nm)) = r at *
  cases r
  · simp only at hE hr
    subst hr
    go_wp2_with (first | (refine arm_storeT infFi (.tmp 5) (.tmp 12) rfl rfl _ _ _ _ rfl rfl (Blk.new _ _ _) rfl rfl (by simp [zFi, Value.oneCell']) ?_; intro w5 L5 hs5; have bb5 := (balloc (b0 w1) _).trans (hs5.below (Nat.le_refl _)); have R5 := blk_range L5 1 (tyC t0 none 0).toList rfl) | (refine arm_mid infTy Tryz.underlying36 rfl (.tmp 14) rfl rfl w1.heap.size 1 (tyC t0 none 0) rfl R5 rfl ?_) | (refine arm_storeT infTy (.tmp 3) (.tmp 15) rfl rfl _ _ _ _ rfl rfl (G2.out.keeps bb5) rfl rfl (by simp [tyC, t0, Value.oneCell']) ?_; intro w6 L6 hs6))
    exact ret_T2 infTy Tryz.underlying36 rfl Tryz.results74 _ _ _ _ (tyC t0 none 0) rfl L6 rfl (tr_of hE (.nil _ _ _) ((bnext B1.out bb5).trans (hs6.below (by omega))))
  · rename_i x
    simp only at hE hr
    obtain ⟨cs, rfl, ua, uc, rfl, hU⟩ := hr
    have HU := Lib.hid hU
    clear hU
    go_wp2_with (first | (refine arm_storeT infFi (.tmp 5) (.tmp 12) rfl rfl _ _ _ _ rfl rfl (Blk.new _ _ _) rfl rfl (by simp [fiC, Value.oneCell']) ?_; intro w5 L5 hs5; have bb5 := (balloc (b0 w1) _).trans (hs5.below (Nat.le_refl _)); have R5 := blk_range L5 1 (tyC x.ty ua uc).toList rfl) | (refine arm_mid infTy Tryz.underlying36 rfl (.tmp 14) rfl rfl w1.heap.size 1 (tyC x.ty ua uc) rfl R5 rfl ?_) | (refine arm_storeT infTy (.tmp 3) (.tmp 15) rfl rfl _ _ _ _ rfl rfl (G2.out.keeps bb5) rfl rfl (by simp [tyC, Value.oneCell']) ?_; intro w6 L6 hs6))
    exact ret_T2 infTy Tryz.underlying36 rfl Tryz.results74 _ _ _ _ (tyC x.ty ua uc) rfl L6 rfl (tr_of hE (.inl HU.out) ((bnext B1.out bb5).trans (hs6.below (by omega))))
set_option maxRecDepth 100000 in
set_option maxHeartbeats 4000000 in
theorem featureOf_any (B : Nat) (ts : List Tb) (gs : List Fe) (en en' nm : ByteArray) (fl : List Fi) (N : Nat) (w0 w : World) (hb0 : Below w0.heap.size w0 w) (hS : Scp w0 w B ts gs en fl) :
    Calls Tryz.prog 112 #[.pointer (some ⟨B, 0, none⟩), .string en', .string nm] w (TrV (feaT gs en' nm) w0 N w) := by
  obtain ⟨L, hL⟩ := hS
  have bb := below_two w (.cells #[.string nm] 9) (.cells #[.int .i64 0, .slice none 0 0, .string ⟨#[]⟩] 36)
  have B0 := Lib.hid bb
  have GG := bw_two w #[.string nm] #[.int .i64 0, .slice none 0 0, .string ⟨#[]⟩] 9 36
  have G1 := Lib.hid GG.1
  have G2 := Lib.hid GG.2
  have GS := hL.blk.keeps bb
  have gs1 := GS.cell 1
  have C := Lib.hid (findD_any L.ga L.gn L.gc gs nm w.heap.size w0 _ (hb0.trans (bb.mono hb0.size)) hL.cg (G1.out.cell 0))
  clear bb GG hb0 hL GS
  unfold ScL.cs scC at gs1
  simp only [List.getElem?_toArray, List.getElem?_cons_zero, List.getElem?_cons_succ] at gs1
  go_enter Tryz.func112, Tryz.ntmps112
  go_wp2_with fail
  refine C.out.mono ?_
  rintro e w1 ⟨b1, hr⟩
  have B1 := Lib.hid (bnext B0.out b1)
  replace G2 := Lib.hid (G2.out.keeps b1)
  clear b1 C gs1 G1
  have hE : feaT gs en' nm = match gs.find? fun x => decide (x.nm = nm) with | none => noR 4 | some f => if f.en = en' then tyR f.ty else noR 5 := rfl
  generalize (gs.find? fun x => decide (x.nm = nm)) = r at *
  cases r
  · simp only at hE hr
    subst hr
    go_wp2_with (first | (refine arm_storeT infFe (.tmp 8) (.tmp 17) rfl rfl _ _ _ _ rfl rfl (Blk.new _ _ _) rfl rfl (by simp [zFe, Value.oneCell']) ?_; intro w5 L5 hs5; have bb5 := (balloc (b0 w1) _).trans (hs5.below (Nat.le_refl _))) | (refine arm_storeT infTy (.tmp 6) (.tmp 22) rfl rfl _ _ _ _ rfl rfl (G2.out.keeps bb5) rfl rfl (by simp [Value.oneCell']) ?_; intro w6 L6 hs6))
    exact ret_T2 infTy Tryz.underlying36 rfl Tryz.results112 _ _ _ _ (tyC t0 none 0) rfl L6 rfl (tr_of hE (.nil _ _ _) ((bnext B1.out bb5).trans (hs6.below (by omega))))
  · rename_i x
    simp only at hE hr
    obtain ⟨cs, rfl, ta, tc, ua, uc, aa, ac, rfl, hU, _⟩ := hr
    have HU := Lib.hid hU
    clear hU
    replace hE := Lib.hid hE
    by_cases he : x.en = en'
    · have qe := bs_is he
      replace hE := hE.out
      rw [if_pos he] at hE
      replace hE := Lib.hid hE
      clear he
      go_wp2_with (first | (refine arm_storeT infFe (.tmp 8) (.tmp 17) rfl rfl _ _ _ _ rfl rfl (Blk.new _ _ _) rfl rfl (by simp [feC, Value.oneCell']) ?_; intro w5 L5 hs5; have bb5 := (balloc (b0 w1) _).trans (hs5.below (Nat.le_refl _)); have R5 := blk_range L5 2 (tyC x.ty ta tc).toList rfl; have l51 := L5.cell 1; simp only [feC, List.getElem?_toArray, List.getElem?_cons_zero, List.getElem?_cons_succ] at l51) | (refine arm_mid infTy Tryz.underlying36 rfl (.tmp 30) rfl rfl w1.heap.size 2 (tyC x.ty ta tc) rfl R5 rfl ?_) | (refine arm_storeT infTy (.tmp 6) (.tmp 31) rfl rfl _ _ _ _ rfl rfl (G2.out.keeps bb5) rfl rfl (by simp [tyC, Value.oneCell']) ?_; intro w6 L6 hs6))
      exact ret_T2 infTy Tryz.underlying36 rfl Tryz.results112 _ _ _ _ (tyC x.ty ta tc) rfl L6 rfl (tr_of hE.out (.inl HU.out) ((bnext B1.out bb5).trans (hs6.below (by omega))))
    · have qe := bs_ne he
      replace hE := hE.out
      rw [if_neg he] at hE
      replace hE := Lib.hid hE
      clear he
      go_wp2_with (first | (refine arm_storeT infFe (.tmp 8) (.tmp 17) rfl rfl _ _ _ _ rfl rfl (Blk.new _ _ _) rfl rfl (by simp [feC, Value.oneCell']) ?_; intro w5 L5 hs5; have bb5 := (balloc (b0 w1) _).trans (hs5.below (Nat.le_refl _)); have l51 := L5.cell 1; simp only [feC, List.getElem?_toArray, List.getElem?_cons_zero, List.getElem?_cons_succ] at l51) | (refine arm_storeT infTy (.tmp 6) (.tmp 29) rfl rfl _ _ _ _ rfl rfl (G2.out.keeps bb5) rfl rfl (by simp [Value.oneCell']) ?_; intro w6 L6 hs6))
      exact ret_T2 infTy Tryz.underlying36 rfl Tryz.results112 _ _ _ _ (tyC t0 none 0) rfl L6 rfl (tr_of hE.out (.nil _ _ _) ((bnext B1.out bb5).trans (hs6.below (by omega))))
/-- What inside returns. -/
def InV (r : Int × List Fi) (w0 : World) (ts : List Tb) (gs : List Fe) (en : ByteArray) (w : World) (e : Ending) (w' : World) : Prop :=
  (if r.1 = 0 then ∃ B, e = .returned (.tuple #[.pointer (some ⟨B, 0, none⟩), .int .i64 0]) ∧ Scp w0 w' B ts gs en r.2 else e = .returned (.tuple #[.pointer none, .int .i64 r.1])) ∧ Below w.heap.size w w'
set_option maxRecDepth 100000 in
set_option maxHeartbeats 4000000 in
theorem inside_any (B : Nat) (ts : List Tb) (gs : List Fe) (en nm : ByteArray) (fl : List Fi) (w0 w : World) (hb0 : Below w0.heap.size w0 w) (hS : Scp w0 w B ts gs en fl) :
    Calls Tryz.prog 86 #[.pointer (some ⟨B, 0, none⟩), .string nm] w (InV (inT ts en nm) w0 ts gs en w) := by
  obtain ⟨L, hL⟩ := hS
  have bb := balloc (b0 w) (.cells #[.string nm] 9)
  have B0 := Lib.hid bb
  have G1 := Lib.hid (Blk.new w 9 #[.string nm])
  have GS := hL.blk.keeps bb
  have gs0 := GS.cell 0
  have C := Lib.hid (findC_any L.ta L.tn L.tc ts nm w.heap.size w0 _ (hb0.trans (bb.mono hb0.size)) hL.ct (G1.out.cell 0))
  have HC := Lib.hid (show CtV w0 (ctC L.ta L.tn L.tc L.ga L.gn L.gc L.da L.dn L.dc L.pa L.pn L.pc) ts gs from ⟨_, _, _, _, _, _, _, _, _, _, _, _, rfl, hL.ct, hL.cg⟩)
  replace GS := Lib.hid GS
  clear bb hb0 hL
  unfold ScL.cs scC at gs0 GS
  simp only [List.getElem?_toArray, List.getElem?_cons_zero] at gs0
  go_enter Tryz.func86, Tryz.ntmps86
  go_wp2_with fail
  refine C.out.mono ?_
  rintro e w1 ⟨b1, hr⟩
  have B1 := Lib.hid (bnext B0.out b1)
  replace GS := Lib.hid (GS.out.keeps b1)
  clear b1 C gs0 G1
  have hE : inT ts en nm = match ts.find? fun x => decide (x.nm = nm) with | none => (4, []) | some t => if t.en = en then (0, t.fs) else (5, []) := rfl
  generalize (ts.find? fun x => decide (x.nm = nm)) = r at *
  cases r
  · simp only at hE hr
    subst hr
    go_wp2_with (first | (refine arm_storeT infTb (.tmp 6) (.tmp 16) rfl rfl _ _ _ _ rfl rfl (Blk.new _ _ _) rfl rfl (by simp [zTb, Value.oneCell']) ?_; intro w5 L5 hs5; have bb5 := (balloc (b0 w1) _).trans (hs5.below (Nat.le_refl _))))
    go_ret2
    exact ⟨by rw [hE]; exact rfl, bnext B1.out bb5⟩
  · rename_i x
    simp only at hE hr
    obtain ⟨cs, rfl, a, c, rfl, hF⟩ := hr
    have HF := Lib.hid hF
    clear hF
    replace hE := Lib.hid hE
    go_wp2_with (first | (refine arm_storeT infTb (.tmp 6) (.tmp 16) rfl rfl _ _ _ _ rfl rfl (Blk.new _ _ _) rfl rfl (by simp [tbC, Value.oneCell']) ?_; intro w5 L5 hs5; have bb5 := (balloc (b0 w1) _).trans (hs5.below (Nat.le_refl _))))
    have B5 := Lib.hid (bnext B1.out bb5)
    replace GS := Lib.hid (GS.out.keeps bb5)
    have G5 := Lib.hid L5
    clear bb5 hs5 L5 B1 B0
    generalize hx : w1.heap.size = g at *
    clear hx
    by_cases he : x.en = en
    · have qe := bs_is he
      have qe2 : (!x.en.toList == en.toList) = false := by rw [qe]; rfl
      replace hE := hE.out
      rw [if_pos he] at hE
      replace hE := Lib.hid hE
      clear he
      refine wp_region_held_drew (S := fun w' => Blk w' B 107 #[.slice L.ta L.tn L.tc, .slice L.ga L.gn L.gc, .slice L.da L.dn L.dc, .slice L.pa L.pn L.pc, .string en, .func (.func 74) #[] #[.pointer (some ⟨L.gT, 0, none⟩)], .map (some L.mb)] ∧ Blk w' g 39 (tbC x a c)) (by kernel_rfl) ⟨GS.out.drew, G5.out.drew⟩ (fun hH => ?_)
      refine held_take (i := 0) (d := 23) (v := ?_) rfl (by kernel_rfl) (by kernel_rfl) (by kernel_rfl) rfl (fun _ _ _ h => h) rfl hH (fun w' hS => ?_) ?_
      rotate_left
      · have e1 := hS.2.cell 1; simp only [tbC, List.getElem?_toArray, List.getElem?_cons_zero, List.getElem?_cons_succ] at e1; go_simp; first | done | with_reducible rfl
      simp only [List.set_cons_zero, List.set_cons_succ]
      refine held_take (i := 1) (d := 24) (v := ?_) rfl (by kernel_rfl) (by kernel_rfl) (by kernel_rfl) rfl (fun _ _ _ h => h) rfl hH (fun w' hS => ?_) ?_
      rotate_left
      · have e1 := hS.2.cell 1; simp only [tbC, List.getElem?_toArray, List.getElem?_cons_zero, List.getElem?_cons_succ] at e1; go_simp; first | done | with_reducible rfl
      simp only [List.set_cons_zero, List.set_cons_succ]
      refine held_take (i := 2) (d := 25) (v := ?_) rfl (by kernel_rfl) (by kernel_rfl) (by kernel_rfl) rfl (fun _ _ _ h => h) rfl hH (fun w' hS => ?_) ?_
      rotate_left
      · go_simp; first | done | with_reducible rfl
      simp only [List.set_cons_zero, List.set_cons_succ]
      refine held_take (i := 3) (d := 26) (v := ?_) rfl (by kernel_rfl) (by kernel_rfl) (by kernel_rfl) rfl (fun _ _ _ h => h) rfl hH (fun w' hS => ?_) ?_
      rotate_left
      · have e1 := hS.1.cell 4; simp only [List.getElem?_toArray, List.getElem?_cons_zero, List.getElem?_cons_succ] at e1; go_simp; first | done | with_reducible rfl
      simp only [List.set_cons_zero, List.set_cons_succ]
      refine held_take (i := 4) (d := 27) (v := ?_) rfl (by kernel_rfl) (by kernel_rfl) (by kernel_rfl) rfl (fun _ _ _ h => h) rfl hH (fun w' hS => ?_) ?_
      rotate_left
      · have e1 := hS.1.cell 4; simp only [List.getElem?_toArray, List.getElem?_cons_zero, List.getElem?_cons_succ] at e1; go_simp; first | done | with_reducible rfl
      simp only [List.set_cons_zero, List.set_cons_succ]
      refine held_take (i := 5) (d := 28) (v := ?_) rfl (by kernel_rfl) (by kernel_rfl) (by kernel_rfl) rfl (fun _ _ _ h => h) rfl hH (fun w' hS => ?_) ?_
      rotate_left
      · have e1 := hS.1.cell 4; simp only [List.getElem?_toArray, List.getElem?_cons_zero, List.getElem?_cons_succ] at e1; go_simp; first | done | with_reducible rfl
      simp only [List.set_cons_zero, List.set_cons_succ]
      refine held_take (i := 6) (d := 29) (v := ?_) rfl (by kernel_rfl) (by kernel_rfl) (by kernel_rfl) rfl (fun _ _ _ h => h) rfl hH (fun w' hS => ?_) ?_
      rotate_left
      · go_simp; first | done | with_reducible rfl
      simp only [List.set_cons_zero, List.set_cons_succ]
      refine held_take (i := 7) (d := 22) (v := ?_) rfl (by kernel_rfl) (by kernel_rfl) (by kernel_rfl) rfl (fun _ _ _ h => h) rfl hH (fun w' hS => ?_) ?_
      rotate_left
      · go_simp; first | done | with_reducible rfl
      simp only [List.set_cons_zero, List.set_cons_succ]
      refine wpAnyH_done (by kernel_rfl) ?_ _
      have B6 := Lib.hid B5.out.drew
      replace GS := Lib.hid hH.1
      replace G5 := Lib.hid hH.2
      clear hH B5
      generalize w5.drew = w6 at *
      go_wp2_with fail
      have CN := Lib.hid (fun W => newScope_any w0 _ ts gs en x a c W HC.out HF.out)
      unfold ctC at CN
      refine wp_region_held_drew (S := fun w' => Blk w' B 107 #[.slice L.ta L.tn L.tc, .slice L.ga L.gn L.gc, .slice L.da L.dn L.dc, .slice L.pa L.pn L.pc, .string en, .func (.func 74) #[] #[.pointer (some ⟨L.gT, 0, none⟩)], .map (some L.mb)] ∧ Blk w' g 39 (tbC x a c) ∧ Below w.heap.size w w') (by kernel_rfl) ⟨GS.out.drew, G5.out.drew, B6.out.drew⟩ (fun hH => ?_)
      refine held_take (i := 0) (d := 30) (v := ?_) rfl (by kernel_rfl) (by kernel_rfl) (by kernel_rfl) rfl (fun _ _ _ h => h) rfl hH (fun w' hS => ?_) ?_
      rotate_left
      · go_simp; first | done | with_reducible rfl
      simp only [List.set_cons_zero, List.set_cons_succ]
      refine held_take (i := 1) (d := 31) (v := ?_) rfl (by kernel_rfl) (by kernel_rfl) (by kernel_rfl) rfl (fun _ _ _ h => h) rfl hH (fun w' hS => ?_) ?_
      rotate_left
      · have e1 := hS.1.cell 0; simp only [List.getElem?_toArray, List.getElem?_cons_zero] at e1; go_simp; first | done | with_reducible rfl
      simp only [List.set_cons_zero, List.set_cons_succ]
      refine held_take (i := 2) (d := 32) (v := ?_) rfl (by kernel_rfl) (by kernel_rfl) (by kernel_rfl) rfl (fun _ _ _ h => h) rfl hH (fun w' hS => ?_) ?_
      rotate_left
      · have e1 := hS.1.cell 0; simp only [List.getElem?_toArray, List.getElem?_cons_zero] at e1; go_simp; first | done | with_reducible rfl
      simp only [List.set_cons_zero, List.set_cons_succ]
      refine held_take (i := 3) (d := 33) (v := .agg #[.slice L.ta L.tn L.tc, .slice L.ga L.gn L.gc, .slice L.da L.dn L.dc, .slice L.pa L.pn L.pc]) rfl (by kernel_rfl) (by kernel_rfl) (by kernel_rfl) rfl (fun _ _ _ h => h) rfl hH (fun w' hS => yield_loadM infCa Tryz.underlying46 rfl (.tmp 32) rfl B 0 #[.slice L.ta L.tn L.tc, .slice L.ga L.gn L.gc, .slice L.da L.dn L.dc, .slice L.pa L.pn L.pc] rfl (blk_range hS.1 0 (Array.toList #[.slice L.ta L.tn L.tc, .slice L.ga L.gn L.gc, .slice L.da L.dn L.dc, .slice L.pa L.pn L.pc]) rfl) rfl) ?_
      simp only [List.set_cons_zero, List.set_cons_succ]
      refine held_take (i := 4) (d := 34) (v := ?_) rfl (by kernel_rfl) (by kernel_rfl) (by kernel_rfl) rfl (fun _ _ _ h => h) rfl hH (fun w' hS => ?_) ?_
      rotate_left
      · go_simp; first | done | with_reducible rfl
      simp only [List.set_cons_zero, List.set_cons_succ]
      refine held_take (i := 5) (d := 35) (v := ?_) rfl (by kernel_rfl) (by kernel_rfl) (by kernel_rfl) rfl (fun _ _ _ h => h) rfl hH (fun w' hS => ?_) ?_
      rotate_left
      · have e1 := hS.1.cell 4; simp only [List.getElem?_toArray, List.getElem?_cons_zero, List.getElem?_cons_succ] at e1; go_simp; first | done | with_reducible rfl
      simp only [List.set_cons_zero, List.set_cons_succ]
      refine held_take (i := 6) (d := 36) (v := ?_) rfl (by kernel_rfl) (by kernel_rfl) (by kernel_rfl) rfl (fun _ _ _ h => h) rfl hH (fun w' hS => ?_) ?_
      rotate_left
      · have e1 := hS.1.cell 4; simp only [List.getElem?_toArray, List.getElem?_cons_zero, List.getElem?_cons_succ] at e1; go_simp; first | done | with_reducible rfl
      simp only [List.set_cons_zero, List.set_cons_succ]
      refine held_take (i := 7) (d := 37) (v := ?_) rfl (by kernel_rfl) (by kernel_rfl) (by kernel_rfl) rfl (fun _ _ _ h => h) rfl hH (fun w' hS => ?_) ?_
      rotate_left
      · have e1 := hS.1.cell 4; simp only [List.getElem?_toArray, List.getElem?_cons_zero, List.getElem?_cons_succ] at e1; go_simp; first | done | with_reducible rfl
      simp only [List.set_cons_zero, List.set_cons_succ]
      refine held_take (i := 8) (d := 38) (v := .agg (tbC x a c)) rfl (by kernel_rfl) (by kernel_rfl) (by kernel_rfl) rfl (fun _ _ _ h => h) rfl hH (fun w' hS => yield_load infTb Tryz.underlying39 rfl (.tmp 6) rfl _ _ _ rfl hS.2.1 rfl) ?_
      simp only [List.set_cons_zero, List.set_cons_succ]
      refine held_only (i := 9) rfl (by kernel_rfl) rfl (fun K hK => ?_)
      go_simp
      refine (CN.out _).mono ?_
      rintro e w8 ⟨B2, rfl, hS2, b8⟩
      have b9 := bnext hH.2.2 b8
      refine hK.out _ _ ⟨hH.1.keeps b8, hH.2.1.keeps b8, b9⟩ (fun hH => ?_)
      clear hK K
      refine held_take (i := 10) (d := 4) (v := ?_) rfl (by kernel_rfl) (by kernel_rfl) (by kernel_rfl) rfl (fun _ _ _ h => h) rfl hH (fun w' hS => ?_) ?_
      rotate_left
      · go_simp; first | done | with_reducible rfl
      simp only [List.set_cons_zero, List.set_cons_succ]
      refine held_take (i := 11) (d := 5) (v := ?_) rfl (by kernel_rfl) (by kernel_rfl) (by kernel_rfl) rfl (fun _ _ _ h => h) rfl hH (fun w' hS => ?_) ?_
      rotate_left
      · go_simp; first | done | with_reducible rfl
      simp only [List.set_cons_zero, List.set_cons_succ]
      refine wpAnyH_done (by kernel_rfl) ?_ _
      have S2 := Lib.hid hS2
      have B9 := Lib.hid b9
      clear hH hS2 b8 b9 CN GS G5
      go_wp2_with fail
      go_ret2
      exact ⟨by rw [hE.out]; exact ⟨B2, rfl, S2.out⟩, B9.out⟩
    · have qe := bs_ne he
      have qe2 : (!x.en.toList == en.toList) = true := by rw [qe]; rfl
      replace hE := hE.out
      rw [if_neg he] at hE
      replace hE := Lib.hid hE
      clear he
      refine wp_region_held_drew (S := fun w' => Blk w' B 107 #[.slice L.ta L.tn L.tc, .slice L.ga L.gn L.gc, .slice L.da L.dn L.dc, .slice L.pa L.pn L.pc, .string en, .func (.func 74) #[] #[.pointer (some ⟨L.gT, 0, none⟩)], .map (some L.mb)] ∧ Blk w' g 39 (tbC x a c)) (by kernel_rfl) ⟨GS.out.drew, G5.out.drew⟩ (fun hH => ?_)
      refine held_take (i := 0) (d := 23) (v := ?_) rfl (by kernel_rfl) (by kernel_rfl) (by kernel_rfl) rfl (fun _ _ _ h => h) rfl hH (fun w' hS => ?_) ?_
      rotate_left
      · have e1 := hS.2.cell 1; simp only [tbC, List.getElem?_toArray, List.getElem?_cons_zero, List.getElem?_cons_succ] at e1; go_simp; first | done | with_reducible rfl
      simp only [List.set_cons_zero, List.set_cons_succ]
      refine held_take (i := 1) (d := 24) (v := ?_) rfl (by kernel_rfl) (by kernel_rfl) (by kernel_rfl) rfl (fun _ _ _ h => h) rfl hH (fun w' hS => ?_) ?_
      rotate_left
      · have e1 := hS.2.cell 1; simp only [tbC, List.getElem?_toArray, List.getElem?_cons_zero, List.getElem?_cons_succ] at e1; go_simp; first | done | with_reducible rfl
      simp only [List.set_cons_zero, List.set_cons_succ]
      refine held_take (i := 2) (d := 25) (v := ?_) rfl (by kernel_rfl) (by kernel_rfl) (by kernel_rfl) rfl (fun _ _ _ h => h) rfl hH (fun w' hS => ?_) ?_
      rotate_left
      · go_simp; first | done | with_reducible rfl
      simp only [List.set_cons_zero, List.set_cons_succ]
      refine held_take (i := 3) (d := 26) (v := ?_) rfl (by kernel_rfl) (by kernel_rfl) (by kernel_rfl) rfl (fun _ _ _ h => h) rfl hH (fun w' hS => ?_) ?_
      rotate_left
      · have e1 := hS.1.cell 4; simp only [List.getElem?_toArray, List.getElem?_cons_zero, List.getElem?_cons_succ] at e1; go_simp; first | done | with_reducible rfl
      simp only [List.set_cons_zero, List.set_cons_succ]
      refine held_take (i := 4) (d := 27) (v := ?_) rfl (by kernel_rfl) (by kernel_rfl) (by kernel_rfl) rfl (fun _ _ _ h => h) rfl hH (fun w' hS => ?_) ?_
      rotate_left
      · have e1 := hS.1.cell 4; simp only [List.getElem?_toArray, List.getElem?_cons_zero, List.getElem?_cons_succ] at e1; go_simp; first | done | with_reducible rfl
      simp only [List.set_cons_zero, List.set_cons_succ]
      refine held_take (i := 5) (d := 28) (v := ?_) rfl (by kernel_rfl) (by kernel_rfl) (by kernel_rfl) rfl (fun _ _ _ h => h) rfl hH (fun w' hS => ?_) ?_
      rotate_left
      · have e1 := hS.1.cell 4; simp only [List.getElem?_toArray, List.getElem?_cons_zero, List.getElem?_cons_succ] at e1; go_simp; first | done | with_reducible rfl
      simp only [List.set_cons_zero, List.set_cons_succ]
      refine held_take (i := 6) (d := 29) (v := ?_) rfl (by kernel_rfl) (by kernel_rfl) (by kernel_rfl) rfl (fun _ _ _ h => h) rfl hH (fun w' hS => ?_) ?_
      rotate_left
      · go_simp; first | done | with_reducible rfl
      simp only [List.set_cons_zero, List.set_cons_succ]
      refine held_take (i := 7) (d := 22) (v := ?_) rfl (by kernel_rfl) (by kernel_rfl) (by kernel_rfl) rfl (fun _ _ _ h => h) rfl hH (fun w' hS => ?_) ?_
      rotate_left
      · go_simp; first | done | with_reducible rfl
      simp only [List.set_cons_zero, List.set_cons_succ]
      refine wpAnyH_done (by kernel_rfl) ?_ _
      have B6 := Lib.hid B5.out.drew
      replace GS := Lib.hid hH.1
      replace G5 := Lib.hid hH.2
      clear hH B5
      generalize w5.drew = w6 at *
      go_wp2_with fail
      go_ret2
      exact ⟨by rw [hE.out]; exact rfl, B6.out⟩
end Go.Proofs.YtbkpjhffmaldmaaGreatDoor.ch
namespace Go.Proofs.YtbkpjhffmaldmaaGreatDoor.ch
open Go.RowKit dec

theorem op_storeT {T : TypeId} {n : Nat} (hi : (Tryz.prog.info? T).map (·.size) = some n) (x y : Operand) {o : Oper} {a : Act} {w : World} {K : Act → World → Prop} {Q : Exit → Act → World → Prop} (ho : o.op = .store T x y)
    (g : Nat) (T' : TypeId) (cells old : Array Value) (hx : a.eval x = .pointer (some ⟨g, 0, none⟩)) (hy : a.eval y = .agg cells) (hB : Blk w g T' old) (hs : old.size = n) (hc : cells.size = n) (h1 : cells.all (·.oneCell') = true)
    (h : ∀ w', Blk w' g T' cells → St g w w' → K (a.put o.dst undef) w') : o.wp Tryz.prog a w K Q :=
  wp_store_row T x y ho g cells hx hy T' old hB (by rw [hc]; exact hi) (by omega) h1 (h _ (setRow_blk hB cells) (setRow_st w g cells))
/-- The cells of an operand's type. -/
def TyU (w0 : World) (N : Nat) (w : World) (cs : Array Value) (t : Ty) : Prop := ∃ ua uc, cs = tyC t ua uc ∧ Uw w0 w N ua t.un.length uc t.un
theorem TyU.keeps {w0 w w' : World} {N : Nat} {cs : Array Value} {t : Ty} (h : TyU w0 N w cs t) (hb : Below w.heap.size w w') : TyU w0 N w' cs t := by
  obtain ⟨ua, uc, e, U⟩ := h
  exact ⟨ua, uc, e, U.keeps hb⟩
abbrev Ops (w0 : World) (N : Nat) := Rw 3 (TyU w0 N)
theorem Ops.keeps {w0 w w' : World} {N : Nat} {a : Option Addr} {n cap : Nat} {l : List Ty} (h : Ops w0 N w a n cap l) (hb : Below w.heap.size w w') : Ops w0 N w' a n cap l := Rw.keeps (V := TyU w0 N) (fun _ _ _ _ h hb => h.keeps hb) h hb
theorem Ops.at {w0 w : World} {N : Nat} {a : Option Addr} {n cap : Nat} {l : List Ty} (h : Ops w0 N w a n cap l) (hl : 0 < l.length) : ∃ b off, a = some ⟨b, off, none⟩ ∧ ∀ j (_ : j < l.length), ∃ ua uc, w.rangeAt b (off + j * 3) (tyC l[j] ua uc).toList ∧ Uw w0 w N ua l[j].un.length uc l[j].un := by
  obtain ⟨b, off, e, hA⟩ := h.hat.resolve_left (by omega)
  refine ⟨b, off, e, fun j hj => ?_⟩
  obtain ⟨cs, h1, h2, ua, uc, rfl, U⟩ := hA j hj
  exact ⟨ua, uc, h2, U⟩
end Go.Proofs.YtbkpjhffmaldmaaGreatDoor.ch
namespace Go.Proofs.YtbkpjhffmaldmaaGreatDoor.ch
open Go.RowKit dec

set_option maxRecDepth 100000 in
set_option maxHeartbeats 4000000 in
theorem typeLiteral_any (h : Hd) (ua aa : Option Addr) (uc m ac B : Nat) (ts : List Tb) (gs : List Fe) (en : ByteArray) (fl : List Fi) (N : Nat) (w0 w : World) (hb0 : Below w0.heap.size w0 w) (hN : N ≤ w.heap.size) (hS : Scp w0 w B ts gs en fl) (hU : un.Sl w0 ua h.un.length uc h.un) (a : Option Addr) (n cap : Nat) :
    Calls Tryz.prog 77 #[.pointer (some ⟨B, 0, none⟩), .agg (exC h m ua uc aa ac), .slice a n cap] w (TrV (tyR ⟨h.vk, h.un, h.nm⟩) w0 N w) := by
  have bb := below_two w (.cells (exC h m ua uc aa ac) 29) (.cells #[.int .i64 0, .slice none 0 0, .string ⟨#[]⟩] 36)
  have B0 := Lib.hid bb
  have GG := bw_two w (exC h m ua uc aa ac) #[.int .i64 0, .slice none 0 0, .string ⟨#[]⟩] 29 36
  have GX := Lib.hid GG.1
  have G6 := Lib.hid GG.2
  have H0 := Lib.hid hb0
  have HN := Lib.hid hN
  have HS := Lib.hid hS
  have HU := Lib.hid hU
  clear hb0 hN hS hU bb GG
  unfold exC at *
  have C := Lib.hid (fun W => typeOfLiteral_any h m ua aa uc ac W)
  unfold exC at C
  go_enter Tryz.func77, Tryz.ntmps77
  go_wp2_with fail
  refine (C.out _).mono ?_
  rintro e w1 ⟨rfl, b1⟩
  have B1 := Lib.hid (bnext B0.out b1)
  replace G6 := Lib.hid (G6.out.keeps b1)
  clear b1 C
  go_wp2_with (first | (refine arm_storeT infTy (.tmp 6) (.tmp 9) rfl rfl _ _ _ _ rfl rfl G6.out rfl rfl (by simp [tyC, Value.oneCell']) ?_; intro w5 L5 hs5))
  exact ret_T2 infTy Tryz.underlying36 rfl Tryz.results77 _ _ _ _ (tyC ⟨h.vk, h.un, h.nm⟩ ua uc) rfl L5 rfl (tr_of rfl (.inl HU.out) (B1.out.trans (hs5.below (by omega))))
set_option maxRecDepth 100000 in
set_option maxHeartbeats 4000000 in
theorem typeField_any (h : Hd) (ua aa : Option Addr) (uc m ac B : Nat) (ts : List Tb) (gs : List Fe) (en : ByteArray) (fl : List Fi) (N : Nat) (w0 w : World) (hb0 : Below w0.heap.size w0 w) (hN : N ≤ w.heap.size) (hS : Scp w0 w B ts gs en fl) (hU : un.Sl w0 ua h.un.length uc h.un) (a : Option Addr) (n cap : Nat) :
    Calls Tryz.prog 78 #[.pointer (some ⟨B, 0, none⟩), .agg (exC h m ua uc aa ac), .slice a n cap] w (TrV (fldT fl h.nm) w0 N w) := by
  have bb := below_two w (.cells (exC h m ua uc aa ac) 29) (.cells #[.int .i64 0, .slice none 0 0, .string ⟨#[]⟩] 36)
  have B0 := Lib.hid bb
  have GG := bw_two w (exC h m ua uc aa ac) #[.int .i64 0, .slice none 0 0, .string ⟨#[]⟩] 29 36
  have GX := Lib.hid GG.1
  have G6 := Lib.hid GG.2
  have H0 := Lib.hid hb0
  have HN := Lib.hid hN
  have HS := Lib.hid hS
  have HU := Lib.hid hU
  clear hb0 hN hS hU bb GG
  unfold exC at *
  obtain ⟨L, hL⟩ := HS.out
  replace hL := Lib.hid hL
  have C := Lib.hid (fun (W : World) (hW : Below w.heap.size w W) => (show Calls Tryz.prog 74 #[.string h.nm, .pointer (some ⟨L.gT, 0, none⟩)] W (TrV (fldT fl h.nm) w0 N W) by rw [← hL.out.fl]; exact field_of h.nm L.t L.a L.c L.gT N w0 W (H0.out.trans (hW.mono H0.out.size)) (hL.out.tab.below hW hL.out.tab.lt) hL.out.fis))
  generalize fldT fl h.nm = r at *
  go_enter Tryz.func78, Tryz.ntmps78
  go_wp2_with fail
  refine wp_region_held_drew (S := fun w' => Below w.heap.size w w' ∧ (Blk w' w.heap.size 29 #[.int .i64 h.k, .string h.op, .string h.nm, .string h.tb, .int .i64 h.vk, .int .i64 h.vn, .string h.vs, .slice ua h.un.length uc, .int .i64 h.pa, .int .i64 h.wk, .int .i64 h.ws, .slice aa m ac]) ∧ ∃ t9 a9 c9, Blk w' (w.heap.size + 1) 36 (tyC t9 a9 c9)) (by kernel_rfl) ⟨(B0.out).drew, GX.out.drew, t0, none, 0, G6.out.drew⟩ (fun hH => ?_)
  refine held_take (i := 0) (d := 8) (v := ?_) rfl (by kernel_rfl) (by kernel_rfl) (by kernel_rfl) rfl (fun _ _ _ h => h) rfl hH (fun w' hS => ?_) ?_
  rotate_left
  · go_simp; first | done | with_reducible rfl
  simp only [List.set_cons_zero, List.set_cons_succ]
  refine held_take (i := 1) (d := 9) (v := ?_) rfl (by kernel_rfl) (by kernel_rfl) (by kernel_rfl) rfl (fun _ _ _ h => h) rfl hH (fun w' hS => ?_) ?_
  rotate_left
  · have e1 := (hL.out.blk.below hS.1 hL.out.blk.lt).cell 5; simp only [ScL.cs, scC, List.getElem?_toArray, List.getElem?_cons_zero, List.getElem?_cons_succ] at e1; go_simp; first | done | with_reducible rfl
  simp only [List.set_cons_zero, List.set_cons_succ]
  refine held_take (i := 2) (d := 10) (v := ?_) rfl (by kernel_rfl) (by kernel_rfl) (by kernel_rfl) rfl (fun _ _ _ h => h) rfl hH (fun w' hS => ?_) ?_
  rotate_left
  · have e1 := (hL.out.blk.below hS.1 hL.out.blk.lt).cell 5; simp only [ScL.cs, scC, List.getElem?_toArray, List.getElem?_cons_zero, List.getElem?_cons_succ] at e1; go_simp; first | done | with_reducible rfl
  simp only [List.set_cons_zero, List.set_cons_succ]
  refine held_take (i := 3) (d := 11) (v := ?_) rfl (by kernel_rfl) (by kernel_rfl) (by kernel_rfl) rfl (fun _ _ _ h => h) rfl hH (fun w' hS => ?_) ?_
  rotate_left
  · have e1 := (hL.out.blk.below hS.1 hL.out.blk.lt).cell 5; simp only [ScL.cs, scC, List.getElem?_toArray, List.getElem?_cons_zero, List.getElem?_cons_succ] at e1; go_simp; first | done | with_reducible rfl
  simp only [List.set_cons_zero, List.set_cons_succ]
  refine held_take (i := 4) (d := 12) (v := ?_) rfl (by kernel_rfl) (by kernel_rfl) (by kernel_rfl) rfl (fun _ _ _ h => h) rfl hH (fun w' hS => ?_) ?_
  rotate_left
  · have e1 := hS.2.1.cell 2; simp only [List.getElem?_toArray, List.getElem?_cons_zero, List.getElem?_cons_succ] at e1; go_simp; first | done | with_reducible rfl
  simp only [List.set_cons_zero, List.set_cons_succ]
  refine held_take (i := 5) (d := 13) (v := ?_) rfl (by kernel_rfl) (by kernel_rfl) (by kernel_rfl) rfl (fun _ _ _ h => h) rfl hH (fun w' hS => ?_) ?_
  rotate_left
  · have e1 := hS.2.1.cell 2; simp only [List.getElem?_toArray, List.getElem?_cons_zero, List.getElem?_cons_succ] at e1; go_simp; first | done | with_reducible rfl
  simp only [List.set_cons_zero, List.set_cons_succ]
  refine held_only (i := 6) rfl (by kernel_rfl) rfl (fun K hK => ?_)
  go_simp
  refine (C.out _ hH.1).mono ?_
  rintro e w7 ⟨x7, c7, rfl, ux, b7⟩
  refine hK.out _ _ ⟨bnext hH.1 b7, hH.2.1.keeps b7, hH.2.2.imp fun _ h => h.imp fun _ h => h.imp fun _ h => h.keeps b7⟩ (fun hH => ?_)
  clear hK K
  refine held_take (i := 7) (d := 15) (v := ?_) rfl (by kernel_rfl) (by kernel_rfl) (by kernel_rfl) rfl (fun _ _ _ h => h) rfl hH (fun w' hS => ?_) ?_
  rotate_left
  · go_simp; first | done | with_reducible rfl
  simp only [List.set_cons_zero, List.set_cons_succ]
  refine held_take (i := 8) (d := 16) (v := ?_) rfl (by kernel_rfl) (by kernel_rfl) (by kernel_rfl) rfl (fun _ _ _ h => h) rfl hH (fun w' hS => ?_) ?_
  rotate_left
  · go_simp; first | done | with_reducible rfl
  simp only [List.set_cons_zero, List.set_cons_succ]
  obtain ⟨t9, a9, c9, hg9⟩ := hH.2.2
  refine held_only (i := 9) rfl (by kernel_rfl) rfl (fun K hK => ?_)
  refine op_storeT infTy (.tmp 6) (.tmp 15) rfl (w.heap.size + 1) _ (tyC r.2 x7 c7) _ rfl rfl hg9 rfl rfl (by simp [tyC, Value.oneCell']) ?_
  intro w8 L8 hs8
  refine hK.out _ _ ⟨hH.1.trans (hs8.below (by omega)), hH.2.1.st hs8 (by omega), _, _, _, L8⟩ (fun hH => ?_)
  clear hK K
  refine held_take (i := 10) (d := 7) (v := ?_) rfl (by kernel_rfl) (by kernel_rfl) (by kernel_rfl) rfl (fun _ _ _ h => h) rfl hH (fun w' hS => ?_) ?_
  rotate_left
  · go_simp; first | done | with_reducible rfl
  simp only [List.set_cons_zero, List.set_cons_succ]
  refine wpAnyH_done (by kernel_rfl) ?_ _
  have U8 := ux.ty hg9 hs8
  have B8 := hH.1
  clear hH
  go_wp2_with fail
  exact ret_T2 infTy Tryz.underlying36 rfl Tryz.results78 _ _ _ _ _ rfl L8 rfl ⟨_, _, rfl, U8, B8⟩
set_option maxRecDepth 100000 in
set_option maxHeartbeats 4000000 in
theorem typeFeature_any (h : Hd) (ua aa : Option Addr) (uc m ac B : Nat) (ts : List Tb) (gs : List Fe) (en : ByteArray) (fl : List Fi) (N : Nat) (w0 w : World) (hb0 : Below w0.heap.size w0 w) (hN : N ≤ w.heap.size) (hS : Scp w0 w B ts gs en fl) (hU : un.Sl w0 ua h.un.length uc h.un) (a : Option Addr) (n cap : Nat) :
    Calls Tryz.prog 79 #[.pointer (some ⟨B, 0, none⟩), .agg (exC h m ua uc aa ac), .slice a n cap] w (TrV (feaT gs en h.nm) w0 N w) := by
  have bb := below_two w (.cells (exC h m ua uc aa ac) 29) (.cells #[.int .i64 0, .slice none 0 0, .string ⟨#[]⟩] 36)
  have B0 := Lib.hid bb
  have GG := bw_two w (exC h m ua uc aa ac) #[.int .i64 0, .slice none 0 0, .string ⟨#[]⟩] 29 36
  have GX := Lib.hid GG.1
  have G6 := Lib.hid GG.2
  have H0 := Lib.hid hb0
  have HN := Lib.hid hN
  have HS := Lib.hid hS
  have HU := Lib.hid hU
  clear hb0 hN hS hU bb GG
  unfold exC at *
  have C := Lib.hid (fun (W : World) (hW : Below w.heap.size w W) => featureOf_any B ts gs en en h.nm fl N w0 W (H0.out.trans (hW.mono H0.out.size)) (HS.out.imp fun L hL => (⟨hL.blk.below hW hL.blk.lt, hL.mp.below hW hL.mp.lt, hL.tab.below hW hL.tab.lt, hL.fis, hL.fl, hL.ct, hL.cg⟩ : Sc1 w0 W B ts gs en fl L)))
  obtain ⟨L, hL⟩ := HS.out
  replace hL := Lib.hid hL
  generalize feaT gs en h.nm = r at *
  go_enter Tryz.func79, Tryz.ntmps79
  go_wp2_with fail
  refine wp_region_held_drew (S := fun w' => Below w.heap.size w w' ∧ (Blk w' w.heap.size 29 #[.int .i64 h.k, .string h.op, .string h.nm, .string h.tb, .int .i64 h.vk, .int .i64 h.vn, .string h.vs, .slice ua h.un.length uc, .int .i64 h.pa, .int .i64 h.wk, .int .i64 h.ws, .slice aa m ac]) ∧ ∃ t9 a9 c9, Blk w' (w.heap.size + 1) 36 (tyC t9 a9 c9)) (by kernel_rfl) ⟨(B0.out).drew, GX.out.drew, t0, none, 0, G6.out.drew⟩ (fun hH => ?_)
  refine held_take (i := 0) (d := 8) (v := ?_) rfl (by kernel_rfl) (by kernel_rfl) (by kernel_rfl) rfl (fun _ _ _ h => h) rfl hH (fun w' hS => ?_) ?_
  rotate_left
  · go_simp; first | done | with_reducible rfl
  simp only [List.set_cons_zero, List.set_cons_succ]
  refine held_take (i := 1) (d := 9) (v := ?_) rfl (by kernel_rfl) (by kernel_rfl) (by kernel_rfl) rfl (fun _ _ _ h => h) rfl hH (fun w' hS => ?_) ?_
  rotate_left
  · go_simp; first | done | with_reducible rfl
  simp only [List.set_cons_zero, List.set_cons_succ]
  refine held_take (i := 2) (d := 10) (v := ?_) rfl (by kernel_rfl) (by kernel_rfl) (by kernel_rfl) rfl (fun _ _ _ h => h) rfl hH (fun w' hS => ?_) ?_
  rotate_left
  · have e1 := (hL.out.blk.below hS.1 hL.out.blk.lt).cell 4; simp only [ScL.cs, scC, List.getElem?_toArray, List.getElem?_cons_zero, List.getElem?_cons_succ] at e1; go_simp; first | done | with_reducible rfl
  simp only [List.set_cons_zero, List.set_cons_succ]
  refine held_take (i := 3) (d := 11) (v := ?_) rfl (by kernel_rfl) (by kernel_rfl) (by kernel_rfl) rfl (fun _ _ _ h => h) rfl hH (fun w' hS => ?_) ?_
  rotate_left
  · have e1 := (hL.out.blk.below hS.1 hL.out.blk.lt).cell 4; simp only [ScL.cs, scC, List.getElem?_toArray, List.getElem?_cons_zero, List.getElem?_cons_succ] at e1; go_simp; first | done | with_reducible rfl
  simp only [List.set_cons_zero, List.set_cons_succ]
  refine held_take (i := 4) (d := 12) (v := ?_) rfl (by kernel_rfl) (by kernel_rfl) (by kernel_rfl) rfl (fun _ _ _ h => h) rfl hH (fun w' hS => ?_) ?_
  rotate_left
  · have e1 := (hL.out.blk.below hS.1 hL.out.blk.lt).cell 4; simp only [ScL.cs, scC, List.getElem?_toArray, List.getElem?_cons_zero, List.getElem?_cons_succ] at e1; go_simp; first | done | with_reducible rfl
  simp only [List.set_cons_zero, List.set_cons_succ]
  refine held_take (i := 5) (d := 13) (v := ?_) rfl (by kernel_rfl) (by kernel_rfl) (by kernel_rfl) rfl (fun _ _ _ h => h) rfl hH (fun w' hS => ?_) ?_
  rotate_left
  · have e1 := hS.2.1.cell 2; simp only [List.getElem?_toArray, List.getElem?_cons_zero, List.getElem?_cons_succ] at e1; go_simp; first | done | with_reducible rfl
  simp only [List.set_cons_zero, List.set_cons_succ]
  refine held_take (i := 6) (d := 14) (v := ?_) rfl (by kernel_rfl) (by kernel_rfl) (by kernel_rfl) rfl (fun _ _ _ h => h) rfl hH (fun w' hS => ?_) ?_
  rotate_left
  · have e1 := hS.2.1.cell 2; simp only [List.getElem?_toArray, List.getElem?_cons_zero, List.getElem?_cons_succ] at e1; go_simp; first | done | with_reducible rfl
  simp only [List.set_cons_zero, List.set_cons_succ]
  refine held_only (i := 7) rfl (by kernel_rfl) rfl (fun K hK => ?_)
  go_simp
  refine (C.out _ hH.1).mono ?_
  rintro e w7 ⟨x7, c7, rfl, ux, b7⟩
  refine hK.out _ _ ⟨bnext hH.1 b7, hH.2.1.keeps b7, hH.2.2.imp fun _ h => h.imp fun _ h => h.imp fun _ h => h.keeps b7⟩ (fun hH => ?_)
  clear hK K
  refine held_take (i := 8) (d := 16) (v := ?_) rfl (by kernel_rfl) (by kernel_rfl) (by kernel_rfl) rfl (fun _ _ _ h => h) rfl hH (fun w' hS => ?_) ?_
  rotate_left
  · go_simp; first | done | with_reducible rfl
  simp only [List.set_cons_zero, List.set_cons_succ]
  refine held_take (i := 9) (d := 17) (v := ?_) rfl (by kernel_rfl) (by kernel_rfl) (by kernel_rfl) rfl (fun _ _ _ h => h) rfl hH (fun w' hS => ?_) ?_
  rotate_left
  · go_simp; first | done | with_reducible rfl
  simp only [List.set_cons_zero, List.set_cons_succ]
  obtain ⟨t9, a9, c9, hg9⟩ := hH.2.2
  refine held_only (i := 10) rfl (by kernel_rfl) rfl (fun K hK => ?_)
  refine op_storeT infTy (.tmp 6) (.tmp 16) rfl (w.heap.size + 1) _ (tyC r.2 x7 c7) _ rfl rfl hg9 rfl rfl (by simp [tyC, Value.oneCell']) ?_
  intro w8 L8 hs8
  refine hK.out _ _ ⟨hH.1.trans (hs8.below (by omega)), hH.2.1.st hs8 (by omega), _, _, _, L8⟩ (fun hH => ?_)
  clear hK K
  refine held_take (i := 11) (d := 7) (v := ?_) rfl (by kernel_rfl) (by kernel_rfl) (by kernel_rfl) rfl (fun _ _ _ h => h) rfl hH (fun w' hS => ?_) ?_
  rotate_left
  · go_simp; first | done | with_reducible rfl
  simp only [List.set_cons_zero, List.set_cons_succ]
  refine wpAnyH_done (by kernel_rfl) ?_ _
  have U8 := ux.ty hg9 hs8
  have B8 := hH.1
  clear hH
  go_wp2_with fail
  exact ret_T2 infTy Tryz.underlying36 rfl Tryz.results79 _ _ _ _ _ rfl L8 rfl ⟨_, _, rfl, U8, B8⟩
set_option maxRecDepth 100000 in
set_option maxHeartbeats 4000000 in
theorem typeLookup_any (h : Hd) (ua aa : Option Addr) (uc m ac B : Nat) (ts : List Tb) (gs : List Fe) (en : ByteArray) (fl : List Fi) (N : Nat) (w0 w : World) (hb0 : Below w0.heap.size w0 w) (hN : N ≤ w.heap.size) (hS : Scp w0 w B ts gs en fl) (hU : un.Sl w0 ua h.un.length uc h.un) (a : Option Addr) (cap : Nat) (t : Ty) (hO : Ops w0 N w a 1 cap [t]) :
    Calls Tryz.prog 80 #[.pointer (some ⟨B, 0, none⟩), .agg (exC h m ua uc aa ac), .slice a 1 cap] w (TrV (if t.k = 5 then feaT gs t.of h.nm else noR 5) w0 N w) := by
  have bb := below_two w (.cells (exC h m ua uc aa ac) 29) (.cells #[.int .i64 0, .slice none 0 0, .string ⟨#[]⟩] 36)
  have B0 := Lib.hid bb
  have GG := bw_two w (exC h m ua uc aa ac) #[.int .i64 0, .slice none 0 0, .string ⟨#[]⟩] 29 36
  have GX := Lib.hid GG.1
  have G6 := Lib.hid GG.2
  have H0 := Lib.hid hb0
  have HN := Lib.hid hN
  have HS := Lib.hid hS
  have HU := Lib.hid hU
  obtain ⟨bk, off, rfl, hA⟩ := hO.at (by simp)
  obtain ⟨ua0, uc0, R0, U0⟩ := hA 0 (by simp)
  simp only [List.getElem_cons_zero] at R0 U0
  clear hA hO
  replace R0 : w.rangeAt bk (off) (tyC t ua0 uc0).toList := by simpa using R0
  have c00 := range_keeps R0 bb 0 _ rfl
  have c01 := range_keeps R0 bb 1 _ rfl
  have c02 := range_keeps R0 bb 2 _ rfl
  replace R0 := Lib.hid R0
  replace U0 := Lib.hid U0
  simp only [Nat.add_zero] at c00 c01 c02
  clear hb0 hN hS hU bb GG
  unfold exC at *
  have C := Lib.hid (fun (W : World) (hW : Below w.heap.size w W) => featureOf_any B ts gs en t.of h.nm fl N w0 W (H0.out.trans (hW.mono H0.out.size)) (HS.out.imp fun L hL => (⟨hL.blk.below hW hL.blk.lt, hL.mp.below hW hL.mp.lt, hL.tab.below hW hL.tab.lt, hL.fis, hL.fl, hL.ct, hL.cg⟩ : Sc1 w0 W B ts gs en fl L)))
  have hE : (if t.k = 5 then feaT gs t.of h.nm else noR 5) = (if t.k = 5 then feaT gs t.of h.nm else noR 5) := rfl
  replace hE := Lib.hid hE
  by_cases hk : t.k = 5
  · have q1 : (t.k != 5) = false := by simp [hk]
    rw [if_pos hk]
    clear hk hE
    generalize feaT gs t.of h.nm = r at *
    go_enter Tryz.func80, Tryz.ntmps80
    go_wp2_with fail
    refine wp_region_held_drew (S := fun w' => Below w.heap.size w w' ∧ (Blk w' w.heap.size 29 #[.int .i64 h.k, .string h.op, .string h.nm, .string h.tb, .int .i64 h.vk, .int .i64 h.vn, .string h.vs, .slice ua h.un.length uc, .int .i64 h.pa, .int .i64 h.wk, .int .i64 h.ws, .slice aa m ac]) ∧ ∃ t9 a9 c9, Blk w' (w.heap.size + 1) 36 (tyC t9 a9 c9)) (by kernel_rfl) ⟨(B0.out).drew, GX.out.drew, t0, none, 0, G6.out.drew⟩ (fun hH => ?_)
    refine held_take (i := 0) (d := 14) (v := ?_) rfl (by kernel_rfl) (by kernel_rfl) (by kernel_rfl) rfl (fun _ _ _ h => h) rfl hH (fun w' hS => ?_) ?_
    rotate_left
    · go_simp; first | done | with_reducible rfl
    simp only [List.set_cons_zero, List.set_cons_succ]
    refine held_take (i := 1) (d := 15) (v := ?_) rfl (by kernel_rfl) (by kernel_rfl) (by kernel_rfl) rfl (fun _ _ _ h => h) rfl hH (fun w' hS => ?_) ?_
    rotate_left
    · go_simp; first | done | with_reducible rfl
    simp only [List.set_cons_zero, List.set_cons_succ]
    refine held_take (i := 2) (d := 16) (v := ?_) rfl (by kernel_rfl) (by kernel_rfl) (by kernel_rfl) rfl (fun _ _ _ h => h) rfl hH (fun w' hS => ?_) ?_
    rotate_left
    · go_simp; first | done | with_reducible rfl
    simp only [List.set_cons_zero, List.set_cons_succ]
    refine held_take (i := 3) (d := 17) (v := ?_) rfl (by kernel_rfl) (by kernel_rfl) (by kernel_rfl) rfl (fun _ _ _ h => h) rfl hH (fun w' hS => ?_) ?_
    rotate_left
    · have e1 := range_keeps R0.out hS.1 2 _ rfl; (try simp only [Nat.add_zero, Nat.add_assoc, Nat.reduceAdd] at e1); go_simp; first | done | with_reducible rfl
    simp only [List.set_cons_zero, List.set_cons_succ]
    refine held_take (i := 4) (d := 18) (v := ?_) rfl (by kernel_rfl) (by kernel_rfl) (by kernel_rfl) rfl (fun _ _ _ h => h) rfl hH (fun w' hS => ?_) ?_
    rotate_left
    · have e1 := range_keeps R0.out hS.1 2 _ rfl; (try simp only [Nat.add_zero, Nat.add_assoc, Nat.reduceAdd] at e1); go_simp; first | done | with_reducible rfl
    simp only [List.set_cons_zero, List.set_cons_succ]
    refine held_take (i := 5) (d := 19) (v := ?_) rfl (by kernel_rfl) (by kernel_rfl) (by kernel_rfl) rfl (fun _ _ _ h => h) rfl hH (fun w' hS => ?_) ?_
    rotate_left
    · have e1 := hS.2.1.cell 2; simp only [List.getElem?_toArray, List.getElem?_cons_zero, List.getElem?_cons_succ] at e1; go_simp; first | done | with_reducible rfl
    simp only [List.set_cons_zero, List.set_cons_succ]
    refine held_take (i := 6) (d := 20) (v := ?_) rfl (by kernel_rfl) (by kernel_rfl) (by kernel_rfl) rfl (fun _ _ _ h => h) rfl hH (fun w' hS => ?_) ?_
    rotate_left
    · have e1 := hS.2.1.cell 2; simp only [List.getElem?_toArray, List.getElem?_cons_zero, List.getElem?_cons_succ] at e1; go_simp; first | done | with_reducible rfl
    simp only [List.set_cons_zero, List.set_cons_succ]
    refine held_only (i := 7) rfl (by kernel_rfl) rfl (fun K hK => ?_)
    go_simp
    refine (C.out _ hH.1).mono ?_
    rintro e w7 ⟨x7, c7, rfl, ux, b7⟩
    refine hK.out _ _ ⟨bnext hH.1 b7, hH.2.1.keeps b7, hH.2.2.imp fun _ h => h.imp fun _ h => h.imp fun _ h => h.keeps b7⟩ (fun hH => ?_)
    clear hK K
    refine held_take (i := 8) (d := 22) (v := ?_) rfl (by kernel_rfl) (by kernel_rfl) (by kernel_rfl) rfl (fun _ _ _ h => h) rfl hH (fun w' hS => ?_) ?_
    rotate_left
    · go_simp; first | done | with_reducible rfl
    simp only [List.set_cons_zero, List.set_cons_succ]
    refine held_take (i := 9) (d := 23) (v := ?_) rfl (by kernel_rfl) (by kernel_rfl) (by kernel_rfl) rfl (fun _ _ _ h => h) rfl hH (fun w' hS => ?_) ?_
    rotate_left
    · go_simp; first | done | with_reducible rfl
    simp only [List.set_cons_zero, List.set_cons_succ]
    obtain ⟨t9, a9, c9, hg9⟩ := hH.2.2
    refine held_only (i := 10) rfl (by kernel_rfl) rfl (fun K hK => ?_)
    refine op_storeT infTy (.tmp 6) (.tmp 22) rfl (w.heap.size + 1) _ (tyC r.2 x7 c7) _ rfl rfl hg9 rfl rfl (by simp [tyC, Value.oneCell']) ?_
    intro w8 L8 hs8
    refine hK.out _ _ ⟨hH.1.trans (hs8.below (by omega)), hH.2.1.st hs8 (by omega), _, _, _, L8⟩ (fun hH => ?_)
    clear hK K
    refine held_take (i := 11) (d := 7) (v := ?_) rfl (by kernel_rfl) (by kernel_rfl) (by kernel_rfl) rfl (fun _ _ _ h => h) rfl hH (fun w' hS => ?_) ?_
    rotate_left
    · go_simp; first | done | with_reducible rfl
    simp only [List.set_cons_zero, List.set_cons_succ]
    refine wpAnyH_done (by kernel_rfl) ?_ _
    have U8 := ux.ty hg9 hs8
    have B8 := hH.1
    clear hH
    go_wp2_with fail
    exact ret_T2 infTy Tryz.underlying36 rfl Tryz.results80 _ _ _ _ _ rfl L8 rfl ⟨_, _, rfl, U8, B8⟩
  · have q1 : (t.k != 5) = true := by simp [hk]
    rw [if_neg hk]
    clear hk hE C
    go_enter Tryz.func80, Tryz.ntmps80
    go_wp2_with (first | (refine arm_storeT infTy (.tmp 6) (.tmp 13) rfl rfl _ _ _ _ rfl rfl G6.out rfl rfl (by simp [Value.oneCell']) ?_; intro w5 L5 hs5))
    exact ret_T2 infTy Tryz.underlying36 rfl Tryz.results80 _ _ _ _ (tyC t0 none 0) rfl L5 rfl (tr_of rfl (.nil _ _ _) (B0.out.trans (hs5.below (by omega))))
set_option maxRecDepth 100000 in
set_option maxHeartbeats 4000000 in
theorem typeFallback_any (h : Hd) (ua aa : Option Addr) (uc m ac B : Nat) (ts : List Tb) (gs : List Fe) (en : ByteArray) (fl : List Fi) (N : Nat) (w0 w : World) (hb0 : Below w0.heap.size w0 w) (hN : N ≤ w.heap.size) (hS : Scp w0 w B ts gs en fl) (hU : un.Sl w0 ua h.un.length uc h.un) (a : Option Addr) (cap : Nat) (t u : Ty) (hO : Ops w0 N w a 2 cap [t, u]) :
    Calls Tryz.prog 85 #[.pointer (some ⟨B, 0, none⟩), .agg (exC h m ua uc aa ac), .slice a 2 cap] w (TrV (comT t u) w0 N w) := by
  have bb := below_two w (.cells (exC h m ua uc aa ac) 29) (.cells #[.int .i64 0, .slice none 0 0, .string ⟨#[]⟩] 36)
  have B0 := Lib.hid bb
  have GG := bw_two w (exC h m ua uc aa ac) #[.int .i64 0, .slice none 0 0, .string ⟨#[]⟩] 29 36
  have GX := Lib.hid GG.1
  have G6 := Lib.hid GG.2
  have H0 := Lib.hid hb0
  have HN := Lib.hid hN
  have HS := Lib.hid hS
  have HU := Lib.hid hU
  obtain ⟨bk, off, rfl, hA⟩ := hO.at (by simp)
  obtain ⟨ua0, uc0, R0, U0⟩ := hA 0 (by simp)
  obtain ⟨ua1, uc1, R1, U1⟩ := hA 1 (by simp)
  simp only [List.getElem_cons_zero, List.getElem_cons_succ] at R0 U0 R1 U1
  clear hA hO
  replace R0 : w.rangeAt bk (off) (tyC t ua0 uc0).toList := by simpa using R0
  have c00 := range_keeps R0 bb 0 _ rfl
  have c01 := range_keeps R0 bb 1 _ rfl
  have c02 := range_keeps R0 bb 2 _ rfl
  replace R0 := Lib.hid R0
  replace U0 := Lib.hid U0
  replace R1 : w.rangeAt bk (off + 3) (tyC u ua1 uc1).toList := by simpa using R1
  have c10 := range_keeps R1 bb 0 _ rfl
  have c11 := range_keeps R1 bb 1 _ rfl
  have c12 := range_keeps R1 bb 2 _ rfl
  replace R1 := Lib.hid R1
  replace U1 := Lib.hid U1
  simp only [Nat.add_zero, Nat.add_assoc, Nat.reduceAdd] at c00 c01 c02 c10 c11 c12
  clear hb0 hN hS hU bb GG
  unfold exC at *
  have C := Lib.hid (fun (W : World) (hW : Below w.heap.size w W) => common_any t u ua0 ua1 uc0 uc1 N w0 W (H0.out.trans (hW.mono H0.out.size)) (Nat.le_trans HN.out hW.size) (U0.out.keeps hW) (U1.out.keeps hW))
  generalize comT t u = r at *
  go_enter Tryz.func85, Tryz.ntmps85
  go_wp2_with fail
  refine wp_region_held_drew (S := fun w' => Below w.heap.size w w' ∧ (Blk w' w.heap.size 29 #[.int .i64 h.k, .string h.op, .string h.nm, .string h.tb, .int .i64 h.vk, .int .i64 h.vn, .string h.vs, .slice ua h.un.length uc, .int .i64 h.pa, .int .i64 h.wk, .int .i64 h.ws, .slice aa m ac]) ∧ ∃ t9 a9 c9, Blk w' (w.heap.size + 1) 36 (tyC t9 a9 c9)) (by kernel_rfl) ⟨(B0.out).drew, GX.out.drew, t0, none, 0, G6.out.drew⟩ (fun hH => ?_)
  refine held_take (i := 0) (d := 8) (v := ?_) rfl (by kernel_rfl) (by kernel_rfl) (by kernel_rfl) rfl (fun _ _ _ h => h) rfl hH (fun w' hS => ?_) ?_
  rotate_left
  · go_simp; first | done | with_reducible rfl
  simp only [List.set_cons_zero, List.set_cons_succ]
  refine held_take (i := 1) (d := 9) (v := ?_) rfl (by kernel_rfl) (by kernel_rfl) (by kernel_rfl) rfl (fun _ _ _ h => h) rfl hH (fun w' hS => ?_) ?_
  rotate_left
  · go_simp; first | done | with_reducible rfl
  simp only [List.set_cons_zero, List.set_cons_succ]
  refine held_take (i := 2) (d := 10) (v := .agg (tyC t ua0 uc0)) rfl (by kernel_rfl) (by kernel_rfl) (by kernel_rfl) rfl (fun _ _ _ h => h) rfl hH (fun w' hS => yield_loadM infTy Tryz.underlying36 rfl (.tmp 9) rfl bk (off) (tyC t ua0 uc0) rfl (range_keeps R0.out hS.1) rfl) ?_
  simp only [List.set_cons_zero, List.set_cons_succ]
  refine held_take (i := 3) (d := 11) (v := ?_) rfl (by kernel_rfl) (by kernel_rfl) (by kernel_rfl) rfl (fun _ _ _ h => h) rfl hH (fun w' hS => ?_) ?_
  rotate_left
  · go_simp; first | done | with_reducible rfl
  simp only [List.set_cons_zero, List.set_cons_succ]
  refine held_take (i := 4) (d := 12) (v := ?_) rfl (by kernel_rfl) (by kernel_rfl) (by kernel_rfl) rfl (fun _ _ _ h => h) rfl hH (fun w' hS => ?_) ?_
  rotate_left
  · go_simp; first | done | with_reducible rfl
  simp only [List.set_cons_zero, List.set_cons_succ]
  refine held_take (i := 5) (d := 13) (v := .agg (tyC u ua1 uc1)) rfl (by kernel_rfl) (by kernel_rfl) (by kernel_rfl) rfl (fun _ _ _ h => h) rfl hH (fun w' hS => yield_loadM infTy Tryz.underlying36 rfl (.tmp 12) rfl bk (off + 3) (tyC u ua1 uc1) rfl (range_keeps R1.out hS.1) rfl) ?_
  simp only [List.set_cons_zero, List.set_cons_succ]
  refine held_only (i := 6) rfl (by kernel_rfl) rfl (fun K hK => ?_)
  go_simp
  refine (C.out _ hH.1).mono ?_
  rintro e w7 ⟨x7, c7, rfl, ux, b7⟩
  refine hK.out _ _ ⟨bnext hH.1 b7, hH.2.1.keeps b7, hH.2.2.imp fun _ h => h.imp fun _ h => h.imp fun _ h => h.keeps b7⟩ (fun hH => ?_)
  clear hK K
  refine held_take (i := 7) (d := 15) (v := ?_) rfl (by kernel_rfl) (by kernel_rfl) (by kernel_rfl) rfl (fun _ _ _ h => h) rfl hH (fun w' hS => ?_) ?_
  rotate_left
  · go_simp; first | done | with_reducible rfl
  simp only [List.set_cons_zero, List.set_cons_succ]
  refine held_take (i := 8) (d := 16) (v := ?_) rfl (by kernel_rfl) (by kernel_rfl) (by kernel_rfl) rfl (fun _ _ _ h => h) rfl hH (fun w' hS => ?_) ?_
  rotate_left
  · go_simp; first | done | with_reducible rfl
  simp only [List.set_cons_zero, List.set_cons_succ]
  obtain ⟨t9, a9, c9, hg9⟩ := hH.2.2
  refine held_only (i := 9) rfl (by kernel_rfl) rfl (fun K hK => ?_)
  refine op_storeT infTy (.tmp 6) (.tmp 15) rfl (w.heap.size + 1) _ (tyC r.2 x7 c7) _ rfl rfl hg9 rfl rfl (by simp [tyC, Value.oneCell']) ?_
  intro w8 L8 hs8
  refine hK.out _ _ ⟨hH.1.trans (hs8.below (by omega)), hH.2.1.st hs8 (by omega), _, _, _, L8⟩ (fun hH => ?_)
  clear hK K
  refine held_take (i := 10) (d := 7) (v := ?_) rfl (by kernel_rfl) (by kernel_rfl) (by kernel_rfl) rfl (fun _ _ _ h => h) rfl hH (fun w' hS => ?_) ?_
  rotate_left
  · go_simp; first | done | with_reducible rfl
  simp only [List.set_cons_zero, List.set_cons_succ]
  refine wpAnyH_done (by kernel_rfl) ?_ _
  have U8 := ux.ty hg9 hs8
  have B8 := hH.1
  clear hH
  go_wp2_with fail
  exact ret_T2 infTy Tryz.underlying36 rfl Tryz.results85 _ _ _ _ _ rfl L8 rfl ⟨_, _, rfl, U8, B8⟩
set_option maxRecDepth 100000 in
set_option maxHeartbeats 4000000 in
theorem typeChoice_any (h : Hd) (ua aa : Option Addr) (uc m ac B : Nat) (ts : List Tb) (gs : List Fe) (en : ByteArray) (fl : List Fi) (N : Nat) (w0 w : World) (hb0 : Below w0.heap.size w0 w) (hN : N ≤ w.heap.size) (hS : Scp w0 w B ts gs en fl) (hU : un.Sl w0 ua h.un.length uc h.un) (a : Option Addr) (cap : Nat) (c t u : Ty) (hO : Ops w0 N w a 3 cap [c, t, u]) :
    Calls Tryz.prog 84 #[.pointer (some ⟨B, 0, none⟩), .agg (exC h m ua uc aa ac), .slice a 3 cap] w (TrV (if c.k = 1 then comT t u else noR 5) w0 N w) := by
  have bb := below_two w (.cells (exC h m ua uc aa ac) 29) (.cells #[.int .i64 0, .slice none 0 0, .string ⟨#[]⟩] 36)
  have B0 := Lib.hid bb
  have GG := bw_two w (exC h m ua uc aa ac) #[.int .i64 0, .slice none 0 0, .string ⟨#[]⟩] 29 36
  have GX := Lib.hid GG.1
  have G6 := Lib.hid GG.2
  have H0 := Lib.hid hb0
  have HN := Lib.hid hN
  have HS := Lib.hid hS
  have HU := Lib.hid hU
  obtain ⟨bk, off, rfl, hA⟩ := hO.at (by simp)
  obtain ⟨ua0, uc0, R0, U0⟩ := hA 0 (by simp)
  obtain ⟨ua1, uc1, R1, U1⟩ := hA 1 (by simp)
  obtain ⟨ua2, uc2, R2, U2⟩ := hA 2 (by simp)
  simp only [List.getElem_cons_zero, List.getElem_cons_succ] at R0 U0 R1 U1 R2 U2
  clear hA hO
  replace R0 : w.rangeAt bk (off) (tyC c ua0 uc0).toList := by simpa using R0
  have c00 := range_keeps R0 bb 0 _ rfl
  have c01 := range_keeps R0 bb 1 _ rfl
  have c02 := range_keeps R0 bb 2 _ rfl
  replace R0 := Lib.hid R0
  replace U0 := Lib.hid U0
  replace R1 : w.rangeAt bk (off + 3) (tyC t ua1 uc1).toList := by simpa using R1
  have c10 := range_keeps R1 bb 0 _ rfl
  have c11 := range_keeps R1 bb 1 _ rfl
  have c12 := range_keeps R1 bb 2 _ rfl
  replace R1 := Lib.hid R1
  replace U1 := Lib.hid U1
  replace R2 : w.rangeAt bk (off + 6) (tyC u ua2 uc2).toList := by simpa using R2
  have c20 := range_keeps R2 bb 0 _ rfl
  have c21 := range_keeps R2 bb 1 _ rfl
  have c22 := range_keeps R2 bb 2 _ rfl
  replace R2 := Lib.hid R2
  replace U2 := Lib.hid U2
  simp only [Nat.add_zero, Nat.add_assoc, Nat.reduceAdd] at c00 c01 c02 c10 c11 c12 c20 c21 c22
  clear hb0 hN hS hU bb GG
  unfold exC at *
  have C := Lib.hid (fun (W : World) (hW : Below w.heap.size w W) => common_any t u ua1 ua2 uc1 uc2 N w0 W (H0.out.trans (hW.mono H0.out.size)) (Nat.le_trans HN.out hW.size) (U1.out.keeps hW) (U2.out.keeps hW))
  by_cases hk : c.k = 1
  · have q1 : (c.k != 1) = false := by simp [hk]
    rw [if_pos hk]
    clear hk
    generalize comT t u = r at *
    go_enter Tryz.func84, Tryz.ntmps84
    go_wp2_with fail
    refine wp_region_held_drew (S := fun w' => Below w.heap.size w w' ∧ (Blk w' w.heap.size 29 #[.int .i64 h.k, .string h.op, .string h.nm, .string h.tb, .int .i64 h.vk, .int .i64 h.vn, .string h.vs, .slice ua h.un.length uc, .int .i64 h.pa, .int .i64 h.wk, .int .i64 h.ws, .slice aa m ac]) ∧ ∃ t9 a9 c9, Blk w' (w.heap.size + 1) 36 (tyC t9 a9 c9)) (by kernel_rfl) ⟨(B0.out).drew, GX.out.drew, t0, none, 0, G6.out.drew⟩ (fun hH => ?_)
    refine held_take (i := 0) (d := 14) (v := ?_) rfl (by kernel_rfl) (by kernel_rfl) (by kernel_rfl) rfl (fun _ _ _ h => h) rfl hH (fun w' hS => ?_) ?_
    rotate_left
    · go_simp; first | done | with_reducible rfl
    simp only [List.set_cons_zero, List.set_cons_succ]
    refine held_take (i := 1) (d := 15) (v := ?_) rfl (by kernel_rfl) (by kernel_rfl) (by kernel_rfl) rfl (fun _ _ _ h => h) rfl hH (fun w' hS => ?_) ?_
    rotate_left
    · go_simp; first | done | with_reducible rfl
    simp only [List.set_cons_zero, List.set_cons_succ]
    refine held_take (i := 2) (d := 16) (v := .agg (tyC t ua1 uc1)) rfl (by kernel_rfl) (by kernel_rfl) (by kernel_rfl) rfl (fun _ _ _ h => h) rfl hH (fun w' hS => yield_loadM infTy Tryz.underlying36 rfl (.tmp 15) rfl bk (off + 3) (tyC t ua1 uc1) rfl (range_keeps R1.out hS.1) rfl) ?_
    simp only [List.set_cons_zero, List.set_cons_succ]
    refine held_take (i := 3) (d := 17) (v := ?_) rfl (by kernel_rfl) (by kernel_rfl) (by kernel_rfl) rfl (fun _ _ _ h => h) rfl hH (fun w' hS => ?_) ?_
    rotate_left
    · go_simp; first | done | with_reducible rfl
    simp only [List.set_cons_zero, List.set_cons_succ]
    refine held_take (i := 4) (d := 18) (v := ?_) rfl (by kernel_rfl) (by kernel_rfl) (by kernel_rfl) rfl (fun _ _ _ h => h) rfl hH (fun w' hS => ?_) ?_
    rotate_left
    · go_simp; first | done | with_reducible rfl
    simp only [List.set_cons_zero, List.set_cons_succ]
    refine held_take (i := 5) (d := 19) (v := .agg (tyC u ua2 uc2)) rfl (by kernel_rfl) (by kernel_rfl) (by kernel_rfl) rfl (fun _ _ _ h => h) rfl hH (fun w' hS => yield_loadM infTy Tryz.underlying36 rfl (.tmp 18) rfl bk (off + 6) (tyC u ua2 uc2) rfl (range_keeps R2.out hS.1) rfl) ?_
    simp only [List.set_cons_zero, List.set_cons_succ]
    refine held_only (i := 6) rfl (by kernel_rfl) rfl (fun K hK => ?_)
    go_simp
    refine (C.out _ hH.1).mono ?_
    rintro e w7 ⟨x7, c7, rfl, ux, b7⟩
    refine hK.out _ _ ⟨bnext hH.1 b7, hH.2.1.keeps b7, hH.2.2.imp fun _ h => h.imp fun _ h => h.imp fun _ h => h.keeps b7⟩ (fun hH => ?_)
    clear hK K
    refine held_take (i := 7) (d := 21) (v := ?_) rfl (by kernel_rfl) (by kernel_rfl) (by kernel_rfl) rfl (fun _ _ _ h => h) rfl hH (fun w' hS => ?_) ?_
    rotate_left
    · go_simp; first | done | with_reducible rfl
    simp only [List.set_cons_zero, List.set_cons_succ]
    refine held_take (i := 8) (d := 22) (v := ?_) rfl (by kernel_rfl) (by kernel_rfl) (by kernel_rfl) rfl (fun _ _ _ h => h) rfl hH (fun w' hS => ?_) ?_
    rotate_left
    · go_simp; first | done | with_reducible rfl
    simp only [List.set_cons_zero, List.set_cons_succ]
    obtain ⟨t9, a9, c9, hg9⟩ := hH.2.2
    refine held_only (i := 9) rfl (by kernel_rfl) rfl (fun K hK => ?_)
    refine op_storeT infTy (.tmp 6) (.tmp 21) rfl (w.heap.size + 1) _ (tyC r.2 x7 c7) _ rfl rfl hg9 rfl rfl (by simp [tyC, Value.oneCell']) ?_
    intro w8 L8 hs8
    refine hK.out _ _ ⟨hH.1.trans (hs8.below (by omega)), hH.2.1.st hs8 (by omega), _, _, _, L8⟩ (fun hH => ?_)
    clear hK K
    refine held_take (i := 10) (d := 7) (v := ?_) rfl (by kernel_rfl) (by kernel_rfl) (by kernel_rfl) rfl (fun _ _ _ h => h) rfl hH (fun w' hS => ?_) ?_
    rotate_left
    · go_simp; first | done | with_reducible rfl
    simp only [List.set_cons_zero, List.set_cons_succ]
    refine wpAnyH_done (by kernel_rfl) ?_ _
    have U8 := ux.ty hg9 hs8
    have B8 := hH.1
    clear hH
    go_wp2_with fail
    exact ret_T2 infTy Tryz.underlying36 rfl Tryz.results84 _ _ _ _ _ rfl L8 rfl ⟨_, _, rfl, U8, B8⟩
  · have q1 : (c.k != 1) = true := by simp [hk]
    rw [if_neg hk]
    clear hk C
    go_enter Tryz.func84, Tryz.ntmps84
    go_wp2_with (first | (refine arm_storeT infTy (.tmp 6) (.tmp 13) rfl rfl _ _ _ _ rfl rfl G6.out rfl rfl (by simp [Value.oneCell']) ?_; intro w5 L5 hs5))
    exact ret_T2 infTy Tryz.underlying36 rfl Tryz.results84 _ _ _ _ (tyC t0 none 0) rfl L5 rfl (tr_of rfl (.nil _ _ _) (B0.out.trans (hs5.below (by omega))))
end Go.Proofs.YtbkpjhffmaldmaaGreatDoor.ch
namespace Go.Proofs.YtbkpjhffmaldmaaGreatDoor.ch
open Go.RowKit dec

set_option maxRecDepth 100000 in
set_option maxHeartbeats 4000000 in
theorem typeUnary_any (h : Hd) (ua aa : Option Addr) (uc m ac B : Nat) (ts : List Tb) (gs : List Fe) (en : ByteArray) (fl : List Fi) (N : Nat) (w0 w : World) (hb0 : Below w0.heap.size w0 w) (hN : N ≤ w.heap.size) (hS : Scp w0 w B ts gs en fl) (hU : un.Sl w0 ua h.un.length uc h.un) (a : Option Addr) (cap : Nat) (t : Ty) (hO : Ops w0 N w a 1 cap [t]) :
    Calls Tryz.prog 82 #[.pointer (some ⟨B, 0, none⟩), .agg (exC h m ua uc aa ac), .slice a 1 cap] w (TrV (unaT h.op t) w0 N w) := by
  have bb := below_two w (.cells (exC h m ua uc aa ac) 29) (.cells #[.int .i64 0, .slice none 0 0, .string ⟨#[]⟩] 36)
  have B0 := Lib.hid bb
  have GG := bw_two w (exC h m ua uc aa ac) #[.int .i64 0, .slice none 0 0, .string ⟨#[]⟩] 29 36
  have GX := Lib.hid GG.1
  have G6 := Lib.hid GG.2
  have H0 := Lib.hid hb0
  have HN := Lib.hid hN
  have HS := Lib.hid hS
  have HU := Lib.hid hU
  obtain ⟨bk, off, rfl, hA⟩ := hO.at (by simp)
  obtain ⟨ua0, uc0, R0, U0⟩ := hA 0 (by simp)
  simp only [List.getElem_cons_zero] at R0 U0
  clear hA hO
  replace R0 : w.rangeAt bk (off) (tyC t ua0 uc0).toList := by simpa using R0
  have c00 := range_keeps R0 bb 0 _ rfl
  have c01 := range_keeps R0 bb 1 _ rfl
  have c02 := range_keeps R0 bb 2 _ rfl
  replace R0 := Lib.hid R0
  replace U0 := Lib.hid U0
  simp only [Nat.add_zero] at c00 c01 c02
  clear hb0 hN hS hU bb GG
  unfold exC at *
  have C := Lib.hid (fun W => isNumber_any t ua0 uc0 W)
  have hE : unaT h.op t = unaT h.op t := rfl
  conv at hE => rhs; unfold unaT
  replace hE := Lib.hid hE
  generalize num t = m' at *
  by_cases hs27 : h.op = ⟨#[45]⟩
  · have qs27 : (h.op.toList == [45]) = true := by rw [eqL]; exact decide_eq_true hs27
    have qn27 : (!h.op.toList == [45]) = false := by rw [qs27]; rfl
    replace hs27 := Lib.hid hs27
    have qnot : (h.op.toList == [110, 111, 116]) = false := by rw [hs27.out, eqL]; decide
    go_enter Tryz.func82, Tryz.ntmps82
    go_upto_region 1 with fail
    have hz := Lib.hid (show ((w.alloc (.cells #[.int .i64 h.k, .string h.op, .string h.nm, .string h.tb, .int .i64 h.vk, .int .i64 h.vn, .string h.vs, .slice ua h.un.length uc, .int .i64 h.pa, .int .i64 h.wk, .int .i64 h.ws, .slice aa m ac] 29)).alloc (.cells #[.int .i64 0, .slice none 0 0, .string ⟨#[]⟩] 36)).heap.size = w.heap.size + 2 by simp)
    clear c00 c01 c02
    replace R0 := Lib.hid (range_keeps R0.out B0.out)
    replace U0 := Lib.hid (U0.out.keeps B0.out)
    generalize ((w.alloc (.cells #[.int .i64 h.k, .string h.op, .string h.nm, .string h.tb, .int .i64 h.vk, .int .i64 h.vn, .string h.vs, .slice ua h.un.length uc, .int .i64 h.pa, .int .i64 h.wk, .int .i64 h.ws, .slice aa m ac] 29)).alloc (.cells #[.int .i64 0, .slice none 0 0, .string ⟨#[]⟩] 36)) = wb at *
    go_wp2_with (first | (refine arm_mid infTy Tryz.underlying36 rfl (.tmp 10) rfl rfl bk off (tyC t ua0 uc0) rfl R0.out rfl ?_) | (refine arm_storeT infTy (.tmp 8) (.tmp 11) rfl rfl _ _ _ _ rfl rfl (Blk.new _ _ _) rfl rfl (by simp [tyC, Value.oneCell']) ?_; intro w5 L5 hs5; have bb5 := (balloc (b0 wb) _).trans (hs5.below (Nat.le_refl _)); have gx1 := (GX.out.keeps bb5).cell 1; have l50 := L5.cell 0; simp only [tyC, List.getElem?_toArray, List.getElem?_cons_zero, List.getElem?_cons_succ] at gx1 l50) | (refine arm_loadG infTy Tryz.underlying36 rfl (.tmp 8) rfl rfl _ _ _ rfl L5 rfl ?_))
    refine (C.out _).mono ?_
    rintro e w6 ⟨rfl, b6⟩
    have B6 := Lib.hid (bnext (B0.out.trans (bb5.mono B0.out.size)) b6)
    have G8 := Lib.hid (L5.keeps b6)
    have G6b := Lib.hid ((G6.out.keeps bb5).keeps b6)
    have gy1 := ((GX.out.keeps bb5).keeps b6).cell 1
    simp only [List.getElem?_toArray, List.getElem?_cons_zero, List.getElem?_cons_succ] at gy1
    have U9 := Lib.hid ((U0.out.keeps bb5).keeps b6)
    clear b6 bb5 hs5 L5 gx1 l50 C
    cases m'
    · replace hE := hE.out
      rw [if_pos ⟨hs27.out, rfl⟩] at hE
      replace hE := Lib.hid hE
      go_wp2_with (first | (refine arm_storeT infTy (.tmp 6) (.tmp 29) rfl rfl _ _ _ _ rfl rfl G6b.out rfl rfl (by simp [Value.oneCell']) ?_; intro w9 L9 hs9))
      exact ret_T2 infTy Tryz.underlying36 rfl Tryz.results82 _ _ _ _ (tyC t0 none 0) rfl L9 rfl (tr_of hE.out (.nil _ _ _) (B6.out.trans (hs9.below (by omega))))
    · replace hE := hE.out
      rw [if_neg (fun e => by cases e.2), if_neg (fun e => absurd (hs27.out.symm.trans e.1) (by decide)), if_pos hs27.out] at hE
      replace hE := Lib.hid hE
      go_wp2_with (first | (refine arm_loadT infTy Tryz.underlying36 rfl (.tmp 8) rfl rfl _ _ _ rfl G8.out rfl ?_) | (refine arm_storeT infTy (.tmp 6) (.tmp 34) rfl rfl _ _ _ _ rfl rfl G6b.out rfl rfl (by simp [tyC, Value.oneCell']) ?_; intro w9 L9 hs9))
      exact ret_T2 infTy Tryz.underlying36 rfl Tryz.results82 _ _ _ _ (tyC t ua0 uc0) rfl L9 rfl (tr_of hE.out (U9.out.ty (t := t0) (ua := none) (uc := 0) G6b.out hs9) (B6.out.trans (hs9.below (by omega))))
  · have qs27 : (h.op.toList == [45]) = false := by rw [eqL]; exact decide_eq_false hs27
    have qn27 : (!h.op.toList == [45]) = true := by rw [qs27]; rfl
    replace hs27 := Lib.hid hs27
    replace hE := hE.out
    rw [if_neg (fun e => hs27.out e.1)] at hE
    replace hE := Lib.hid hE
    clear C
    by_cases hs28 : h.op = ⟨#[110, 111, 116]⟩
    · have qs28 : (h.op.toList == [110, 111, 116]) = true := by rw [eqL]; exact decide_eq_true hs28
      have qn28 : (!h.op.toList == [110, 111, 116]) = false := by rw [qs28]; rfl
      replace hs28 := Lib.hid hs28
      by_cases hi29 : t.k = 1
      · have qi29 := in_is hi29
        have qj29 : (t.k != 1) = false := by simp [hi29]
        replace hi29 := Lib.hid hi29
        replace hE := hE.out
        rw [if_neg (fun e => e.2 hi29.out), if_neg hs27.out] at hE
        replace hE := Lib.hid hE
        go_enter Tryz.func82, Tryz.ntmps82
        go_upto_region 1 with fail
        have hz := Lib.hid (show ((w.alloc (.cells #[.int .i64 h.k, .string h.op, .string h.nm, .string h.tb, .int .i64 h.vk, .int .i64 h.vn, .string h.vs, .slice ua h.un.length uc, .int .i64 h.pa, .int .i64 h.wk, .int .i64 h.ws, .slice aa m ac] 29)).alloc (.cells #[.int .i64 0, .slice none 0 0, .string ⟨#[]⟩] 36)).heap.size = w.heap.size + 2 by simp)
        clear c00 c01 c02
        replace R0 := Lib.hid (range_keeps R0.out B0.out)
        replace U0 := Lib.hid (U0.out.keeps B0.out)
        generalize ((w.alloc (.cells #[.int .i64 h.k, .string h.op, .string h.nm, .string h.tb, .int .i64 h.vk, .int .i64 h.vn, .string h.vs, .slice ua h.un.length uc, .int .i64 h.pa, .int .i64 h.wk, .int .i64 h.ws, .slice aa m ac] 29)).alloc (.cells #[.int .i64 0, .slice none 0 0, .string ⟨#[]⟩] 36)) = wb at *
        go_wp2_with (first | (refine arm_mid infTy Tryz.underlying36 rfl (.tmp 10) rfl rfl bk off (tyC t ua0 uc0) rfl R0.out rfl ?_) | (refine arm_storeT infTy (.tmp 8) (.tmp 11) rfl rfl _ _ _ _ rfl rfl (Blk.new _ _ _) rfl rfl (by simp [tyC, Value.oneCell']) ?_; intro w5 L5 hs5; have bb5 := (balloc (b0 wb) _).trans (hs5.below (Nat.le_refl _)); have gx1 := (GX.out.keeps bb5).cell 1; have l50 := L5.cell 0; simp only [tyC, List.getElem?_toArray, List.getElem?_cons_zero, List.getElem?_cons_succ] at gx1 l50) | (refine arm_storeT infTy (.tmp 6) (.tmp 35) rfl rfl _ _ _ _ rfl rfl (G6.out.keeps bb5) rfl rfl (by simp [Value.oneCell']) ?_; intro w9 L9 hs9))
        exact ret_T2 infTy Tryz.underlying36 rfl Tryz.results82 _ _ _ _ (tyC boolT none 0) rfl L9 rfl (tr_of hE.out (.nil _ _ _) ((B0.out.trans (bb5.mono B0.out.size)).trans (hs9.below (by omega))))
      · have qi29 := in_ne hi29
        have qj29 : (t.k != 1) = true := by simp [hi29]
        replace hi29 := Lib.hid hi29
        replace hE := hE.out
        rw [if_pos ⟨hs28.out, hi29.out⟩] at hE
        replace hE := Lib.hid hE
        go_enter Tryz.func82, Tryz.ntmps82
        go_upto_region 1 with fail
        have hz := Lib.hid (show ((w.alloc (.cells #[.int .i64 h.k, .string h.op, .string h.nm, .string h.tb, .int .i64 h.vk, .int .i64 h.vn, .string h.vs, .slice ua h.un.length uc, .int .i64 h.pa, .int .i64 h.wk, .int .i64 h.ws, .slice aa m ac] 29)).alloc (.cells #[.int .i64 0, .slice none 0 0, .string ⟨#[]⟩] 36)).heap.size = w.heap.size + 2 by simp)
        clear c00 c01 c02
        replace R0 := Lib.hid (range_keeps R0.out B0.out)
        replace U0 := Lib.hid (U0.out.keeps B0.out)
        generalize ((w.alloc (.cells #[.int .i64 h.k, .string h.op, .string h.nm, .string h.tb, .int .i64 h.vk, .int .i64 h.vn, .string h.vs, .slice ua h.un.length uc, .int .i64 h.pa, .int .i64 h.wk, .int .i64 h.ws, .slice aa m ac] 29)).alloc (.cells #[.int .i64 0, .slice none 0 0, .string ⟨#[]⟩] 36)) = wb at *
        go_wp2_with (first | (refine arm_mid infTy Tryz.underlying36 rfl (.tmp 10) rfl rfl bk off (tyC t ua0 uc0) rfl R0.out rfl ?_) | (refine arm_storeT infTy (.tmp 8) (.tmp 11) rfl rfl _ _ _ _ rfl rfl (Blk.new _ _ _) rfl rfl (by simp [tyC, Value.oneCell']) ?_; intro w5 L5 hs5; have bb5 := (balloc (b0 wb) _).trans (hs5.below (Nat.le_refl _)); have gx1 := (GX.out.keeps bb5).cell 1; have l50 := L5.cell 0; simp only [tyC, List.getElem?_toArray, List.getElem?_cons_zero, List.getElem?_cons_succ] at gx1 l50) | (refine arm_storeT infTy (.tmp 6) (.tmp 29) rfl rfl _ _ _ _ rfl rfl (G6.out.keeps bb5) rfl rfl (by simp [Value.oneCell']) ?_; intro w9 L9 hs9))
        exact ret_T2 infTy Tryz.underlying36 rfl Tryz.results82 _ _ _ _ (tyC t0 none 0) rfl L9 rfl (tr_of hE.out (.nil _ _ _) ((B0.out.trans (bb5.mono B0.out.size)).trans (hs9.below (by omega))))
    · have qs28 : (h.op.toList == [110, 111, 116]) = false := by rw [eqL]; exact decide_eq_false hs28
      have qn28 : (!h.op.toList == [110, 111, 116]) = true := by rw [qs28]; rfl
      replace hs28 := Lib.hid hs28
      replace hE := hE.out
      rw [if_neg (fun e => hs28.out e.1), if_neg hs27.out] at hE
      replace hE := Lib.hid hE
      go_enter Tryz.func82, Tryz.ntmps82
      go_upto_region 1 with fail
      have hz := Lib.hid (show ((w.alloc (.cells #[.int .i64 h.k, .string h.op, .string h.nm, .string h.tb, .int .i64 h.vk, .int .i64 h.vn, .string h.vs, .slice ua h.un.length uc, .int .i64 h.pa, .int .i64 h.wk, .int .i64 h.ws, .slice aa m ac] 29)).alloc (.cells #[.int .i64 0, .slice none 0 0, .string ⟨#[]⟩] 36)).heap.size = w.heap.size + 2 by simp)
      clear c00 c01 c02
      replace R0 := Lib.hid (range_keeps R0.out B0.out)
      replace U0 := Lib.hid (U0.out.keeps B0.out)
      generalize ((w.alloc (.cells #[.int .i64 h.k, .string h.op, .string h.nm, .string h.tb, .int .i64 h.vk, .int .i64 h.vn, .string h.vs, .slice ua h.un.length uc, .int .i64 h.pa, .int .i64 h.wk, .int .i64 h.ws, .slice aa m ac] 29)).alloc (.cells #[.int .i64 0, .slice none 0 0, .string ⟨#[]⟩] 36)) = wb at *
      go_wp2_with (first | (refine arm_mid infTy Tryz.underlying36 rfl (.tmp 10) rfl rfl bk off (tyC t ua0 uc0) rfl R0.out rfl ?_) | (refine arm_storeT infTy (.tmp 8) (.tmp 11) rfl rfl _ _ _ _ rfl rfl (Blk.new _ _ _) rfl rfl (by simp [tyC, Value.oneCell']) ?_; intro w5 L5 hs5; have bb5 := (balloc (b0 wb) _).trans (hs5.below (Nat.le_refl _)); have gx1 := (GX.out.keeps bb5).cell 1; have l50 := L5.cell 0; simp only [tyC, List.getElem?_toArray, List.getElem?_cons_zero, List.getElem?_cons_succ] at gx1 l50) | (refine arm_storeT infTy (.tmp 6) (.tmp 35) rfl rfl _ _ _ _ rfl rfl (G6.out.keeps bb5) rfl rfl (by simp [Value.oneCell']) ?_; intro w9 L9 hs9))
      exact ret_T2 infTy Tryz.underlying36 rfl Tryz.results82 _ _ _ _ (tyC boolT none 0) rfl L9 rfl (tr_of hE.out (.nil _ _ _) ((B0.out.trans (bb5.mono B0.out.size)).trans (hs9.below (by omega))))
set_option maxRecDepth 100000 in
set_option maxHeartbeats 4000000 in
theorem typeBinary_any (h : Hd) (ua aa : Option Addr) (uc m ac B : Nat) (ts : List Tb) (gs : List Fe) (en : ByteArray) (fl : List Fi) (N : Nat) (w0 w : World) (hb0 : Below w0.heap.size w0 w) (hN : N ≤ w.heap.size) (hS : Scp w0 w B ts gs en fl) (hU : un.Sl w0 ua h.un.length uc h.un) (a : Option Addr) (cap : Nat) (t u : Ty) (hO : Ops w0 N w a 2 cap [t, u]) :
    Calls Tryz.prog 83 #[.pointer (some ⟨B, 0, none⟩), .agg (exC h m ua uc aa ac), .slice a 2 cap] w (TrV (binT h.op t u) w0 N w) := by
  have bb := below_two w (.cells (exC h m ua uc aa ac) 29) (.cells #[.int .i64 0, .slice none 0 0, .string ⟨#[]⟩] 36)
  have B0 := Lib.hid bb
  have GG := bw_two w (exC h m ua uc aa ac) #[.int .i64 0, .slice none 0 0, .string ⟨#[]⟩] 29 36
  have GX := Lib.hid GG.1
  have G6 := Lib.hid GG.2
  have H0 := Lib.hid hb0
  have HN := Lib.hid hN
  have HS := Lib.hid hS
  have HU := Lib.hid hU
  obtain ⟨bk, off, rfl, hA⟩ := hO.at (by simp)
  obtain ⟨ua0, uc0, R0, U0⟩ := hA 0 (by simp)
  obtain ⟨ua1, uc1, R1, U1⟩ := hA 1 (by simp)
  simp only [List.getElem_cons_zero, List.getElem_cons_succ] at R0 U0 R1 U1
  clear hA hO
  replace R0 : w.rangeAt bk (off) (tyC t ua0 uc0).toList := by simpa using R0
  have c00 := range_keeps R0 bb 0 _ rfl
  have c01 := range_keeps R0 bb 1 _ rfl
  have c02 := range_keeps R0 bb 2 _ rfl
  replace R0 := Lib.hid R0
  replace U0 := Lib.hid U0
  replace R1 : w.rangeAt bk (off + 3) (tyC u ua1 uc1).toList := by simpa using R1
  have c10 := range_keeps R1 bb 0 _ rfl
  have c11 := range_keeps R1 bb 1 _ rfl
  have c12 := range_keeps R1 bb 2 _ rfl
  replace R1 := Lib.hid R1
  replace U1 := Lib.hid U1
  simp only [Nat.add_zero, Nat.add_assoc, Nat.reduceAdd] at c00 c01 c02 c10 c11 c12
  clear hb0 hN hS hU bb GG
  unfold exC at *
  have C1 := Lib.hid (fun (W : World) (hW : Below w.heap.size w W) (h1 : Uw w0 W N ua0 t.un.length uc0 t.un) (h2 : Uw w0 W N ua1 u.un.length uc1 u.un) => calculate_any h.op t u ua0 ua1 uc0 uc1 N w0 W (H0.out.trans (hW.mono H0.out.size)) (Nat.le_trans HN.out hW.size) h1 h2)
  have C2 := Lib.hid (fun (W : World) (hW : Below w.heap.size w W) (h1 : Uw w0 W N ua0 t.un.length uc0 t.un) (h2 : Uw w0 W N ua1 u.un.length uc1 u.un) => compare_any h.op t u ua0 ua1 uc0 uc1 W (h1.sl (H0.out.trans (hW.mono H0.out.size))) (h2.sl (H0.out.trans (hW.mono H0.out.size))))
  have hE : binT h.op t u = binT h.op t u := rfl
  conv at hE => rhs; unfold binT
  replace hE := Lib.hid hE
  go_enter Tryz.func83, Tryz.ntmps83
  go_upto_region 1 with fail
  have hz := Lib.hid (show ((w.alloc (.cells #[.int .i64 h.k, .string h.op, .string h.nm, .string h.tb, .int .i64 h.vk, .int .i64 h.vn, .string h.vs, .slice ua h.un.length uc, .int .i64 h.pa, .int .i64 h.wk, .int .i64 h.ws, .slice aa m ac] 29)).alloc (.cells #[.int .i64 0, .slice none 0 0, .string ⟨#[]⟩] 36)).heap.size = w.heap.size + 2 by simp)
  clear c00 c01 c02
  replace R0 := Lib.hid (range_keeps R0.out B0.out)
  replace U0 := Lib.hid (U0.out.keeps B0.out)
  clear c10 c11 c12
  replace R1 := Lib.hid (range_keeps R1.out B0.out)
  replace U1 := Lib.hid (U1.out.keeps B0.out)
  generalize ((w.alloc (.cells #[.int .i64 h.k, .string h.op, .string h.nm, .string h.tb, .int .i64 h.vk, .int .i64 h.vn, .string h.vs, .slice ua h.un.length uc, .int .i64 h.pa, .int .i64 h.wk, .int .i64 h.ws, .slice aa m ac] 29)).alloc (.cells #[.int .i64 0, .slice none 0 0, .string ⟨#[]⟩] 36)) = wb at *
  go_cut [8, 9] from 10 (fun v8 v9 wx => ∃ g8 g9, v8 = .pointer (some ⟨g8, 0, none⟩) ∧ v9 = .pointer (some ⟨g9, 0, none⟩) ∧ Hid (Blk wx g8 36 (tyC t ua0 uc0)) ∧ Hid (Blk wx g9 36 (tyC u ua1 uc1)) ∧ Hid (Below wb.heap.size wb wx))
  case first =>
    refine wp_region_held_drew (S := fun w' => Below wb.heap.size wb w') (by kernel_rfl) (b0 wb).drew (fun hH => ?_)
    refine held_take (i := 0) (d := 10) (v := ?_) rfl (by kernel_rfl) (by kernel_rfl) (by kernel_rfl) rfl (fun _ _ _ h => h) rfl hH (fun w' hS => ?_) ?_
    rotate_left
    · go_simp; first | done | with_reducible rfl
    simp only [List.set_cons_zero, List.set_cons_succ]
    refine held_take (i := 1) (d := 11) (v := ?_) rfl (by kernel_rfl) (by kernel_rfl) (by kernel_rfl) rfl (fun _ _ _ h => h) rfl hH (fun w' hS => ?_) ?_
    rotate_left
    · go_simp; first | done | with_reducible rfl
    simp only [List.set_cons_zero, List.set_cons_succ]
    refine held_take (i := 2) (d := 12) (v := .agg (tyC t ua0 uc0)) rfl (by kernel_rfl) (by kernel_rfl) (by kernel_rfl) rfl (fun _ _ _ h => h) rfl hH (fun w' hS => yield_loadM infTy Tryz.underlying36 rfl (.tmp 11) rfl bk off (tyC t ua0 uc0) rfl (range_keeps R0.out hS) rfl) ?_
    simp only [List.set_cons_zero, List.set_cons_succ]
    refine held_take (i := 3) (d := 13) (v := ?_) rfl (by kernel_rfl) (by kernel_rfl) (by kernel_rfl) rfl (fun _ _ _ h => h) rfl hH (fun w' hS => ?_) ?_
    rotate_left
    · go_simp; first | done | with_reducible rfl
    simp only [List.set_cons_zero, List.set_cons_succ]
    refine held_take (i := 4) (d := 14) (v := ?_) rfl (by kernel_rfl) (by kernel_rfl) (by kernel_rfl) rfl (fun _ _ _ h => h) rfl hH (fun w' hS => ?_) ?_
    rotate_left
    · go_simp; first | done | with_reducible rfl
    simp only [List.set_cons_zero, List.set_cons_succ]
    refine held_take (i := 5) (d := 15) (v := .agg (tyC u ua1 uc1)) rfl (by kernel_rfl) (by kernel_rfl) (by kernel_rfl) rfl (fun _ _ _ h => h) rfl hH (fun w' hS => yield_loadM infTy Tryz.underlying36 rfl (.tmp 14) rfl bk (off + 3) (tyC u ua1 uc1) rfl (range_keeps R1.out hS) rfl) ?_
    simp only [List.set_cons_zero, List.set_cons_succ]
    generalize wb.drew = y0 at *
    refine held_two (i := 6) (j := 7) rfl rfl (by kernel_rfl) rfl rfl (fun K hK => ?_) (fun K hK => ?_)
    · go_simp
      have lb1 := Lib.hid hH.size
      refine hK.out _ _ (balloc hH _) (fun hH => ?_)
      clear hK K
      have N1 := Lib.hid (Blk.new y0 36 #[.int .i64 0, .slice none 0 0, .string ⟨#[]⟩])
      generalize hz1 : (y0.alloc (.cells #[.int .i64 0, .slice none 0 0, .string ⟨#[]⟩] 36)) = y1 at *
      clear hz1
      generalize y0.heap.size = g1 at *
      refine held_only (i := 7) rfl (by kernel_rfl) rfl (fun K hK => ?_)
      go_simp
      have lb2 := Lib.hid hH.size
      refine hK.out _ _ (balloc hH _) (fun hH => ?_)
      clear hK K
      have N2 := Lib.hid (Blk.new y1 36 #[.int .i64 0, .slice none 0 0, .string ⟨#[]⟩])
      have ne2N1 := Lib.hid (show g1 ≠ y1.heap.size from Nat.ne_of_lt N1.out.lt)
      replace N1 := Lib.hid (N1.out.past (.cells #[.int .i64 0, .slice none 0 0, .string ⟨#[]⟩] 36))
      generalize hz2 : (y1.alloc (.cells #[.int .i64 0, .slice none 0 0, .string ⟨#[]⟩] 36)) = y2 at *
      clear hz2
      generalize y1.heap.size = g2 at *
      refine held_only (i := 8) rfl (by kernel_rfl) rfl (fun K hK => ?_)
      refine op_storeT infTy (.tmp 8) (.tmp 12) rfl g1 _ (tyC t ua0 uc0) _ rfl rfl N1.out rfl rfl (by simp [tyC, Value.oneCell']) ?_
      intro y3 L3 hs3
      replace N2 := Lib.hid (N2.out.st hs3 (fun e => ne2N1.out e.symm))
      refine hK.out _ _ (hH.trans (hs3.below lb1.out)) (fun hH => ?_)
      clear hK K hs3
      have M3 := Lib.hid L3
      clear L3 N1
      refine held_only (i := 9) rfl (by kernel_rfl) rfl (fun K hK => ?_)
      refine op_storeT infTy (.tmp 9) (.tmp 15) rfl g2 _ (tyC u ua1 uc1) _ rfl rfl N2.out rfl rfl (by simp [tyC, Value.oneCell']) ?_
      intro y4 L4 hs4
      replace M3 := Lib.hid (M3.out.st hs4 ne2N1.out)
      refine hK.out _ _ (hH.trans (hs4.below lb2.out)) (fun hH => ?_)
      clear hK K hs4
      have M4 := Lib.hid L4
      clear L4 N2
      refine wpAnyH_done (by kernel_rfl) ?_ _
      go_wp2_with fail
      go_meet
      case rel => exact ⟨g1, g2, rfl, rfl, M3, M4, Lib.hid hH⟩
    · go_simp
      have lb5 := Lib.hid hH.size
      refine hK.out _ _ (balloc hH _) (fun hH => ?_)
      clear hK K
      have N5 := Lib.hid (Blk.new y0 36 #[.int .i64 0, .slice none 0 0, .string ⟨#[]⟩])
      generalize hz5 : (y0.alloc (.cells #[.int .i64 0, .slice none 0 0, .string ⟨#[]⟩] 36)) = y5 at *
      clear hz5
      generalize y0.heap.size = g5 at *
      refine held_only (i := 6) rfl (by kernel_rfl) rfl (fun K hK => ?_)
      go_simp
      have lb6 := Lib.hid hH.size
      refine hK.out _ _ (balloc hH _) (fun hH => ?_)
      clear hK K
      have N6 := Lib.hid (Blk.new y5 36 #[.int .i64 0, .slice none 0 0, .string ⟨#[]⟩])
      have ne6N5 := Lib.hid (show g5 ≠ y5.heap.size from Nat.ne_of_lt N5.out.lt)
      replace N5 := Lib.hid (N5.out.past (.cells #[.int .i64 0, .slice none 0 0, .string ⟨#[]⟩] 36))
      generalize hz6 : (y5.alloc (.cells #[.int .i64 0, .slice none 0 0, .string ⟨#[]⟩] 36)) = y6 at *
      clear hz6
      generalize y5.heap.size = g6 at *
      refine held_only (i := 8) rfl (by kernel_rfl) rfl (fun K hK => ?_)
      refine op_storeT infTy (.tmp 8) (.tmp 12) rfl g6 _ (tyC t ua0 uc0) _ rfl rfl N6.out rfl rfl (by simp [tyC, Value.oneCell']) ?_
      intro y7 L7 hs7
      replace N5 := Lib.hid (N5.out.st hs7 ne6N5.out)
      refine hK.out _ _ (hH.trans (hs7.below lb6.out)) (fun hH => ?_)
      clear hK K hs7
      have M7 := Lib.hid L7
      clear L7 N6
      refine held_only (i := 9) rfl (by kernel_rfl) rfl (fun K hK => ?_)
      refine op_storeT infTy (.tmp 9) (.tmp 15) rfl g5 _ (tyC u ua1 uc1) _ rfl rfl N5.out rfl rfl (by simp [tyC, Value.oneCell']) ?_
      intro y8 L8 hs8
      replace M7 := Lib.hid (M7.out.st hs8 (fun e => ne6N5.out e.symm))
      refine hK.out _ _ (hH.trans (hs8.below lb5.out)) (fun hH => ?_)
      clear hK K hs8
      have M8 := Lib.hid L8
      clear L8 N5
      refine wpAnyH_done (by kernel_rfl) ?_ _
      go_wp2_with fail
      go_meet
      case rel => exact ⟨g6, g5, rfl, rfl, M7, M8, Lib.hid hH⟩
  case rest =>
    obtain ⟨g8, g9, rfl, rfl, M8, M9, BW⟩ := hcut
    generalize wc = wz at *
    have B1 := Lib.hid (B0.out.trans (BW.out.mono B0.out.size))
    replace GX := Lib.hid (GX.out.keeps BW.out)
    replace G6 := Lib.hid (G6.out.keeps BW.out)
    replace U0 := Lib.hid (U0.out.keeps BW.out)
    replace U1 := Lib.hid (U1.out.keeps BW.out)
    have x1 := GX.out.cell 1
    have m80 := M8.out.cell 0
    have m81 := M8.out.cell 1
    have m90 := M9.out.cell 0
    simp only [tyC, List.getElem?_toArray, List.getElem?_cons_zero, List.getElem?_cons_succ] at x1 m80 m81 m90
    clear BW B0 R0 R1 hz
    by_cases hs30 : h.op = ⟨#[43]⟩
    · have qs30 : (h.op.toList == [43]) = true := by rw [eqL]; exact decide_eq_true hs30
      have qn30 : (!h.op.toList == [43]) = false := by rw [qs30]; rfl
      replace hs30 := Lib.hid hs30
      replace hE := hE.out
      rw [if_pos (.inl hs30.out)] at hE
      replace hE := Lib.hid hE
      clear C2
      generalize calT h.op t u = r at *
      go_wp2_with (first | (refine arm_loadT infTy Tryz.underlying36 rfl (.tmp 8) rfl rfl _ _ _ rfl M8.out rfl ?_) | (refine arm_loadT infTy Tryz.underlying36 rfl (.tmp 9) rfl rfl _ _ _ rfl M9.out rfl ?_))
      refine (C1.out _ B1.out U0.out U1.out).mono ?_
      rintro e w7 ⟨x7, c7, rfl, ux, b7⟩
      have B7 := Lib.hid (bnext B1.out b7)
      replace G6 := Lib.hid (G6.out.keeps b7)
      clear b7 C1 x1 m80 m81 m90
      go_wp2_with (first | (refine arm_storeT infTy (.tmp 6) (.tmp 28) rfl rfl _ _ _ _ rfl rfl G6.out rfl rfl (by simp [tyC, Value.oneCell']) ?_; intro w9 L9 hs9))
      exact ret_T2 infTy Tryz.underlying36 rfl Tryz.results83 _ _ _ _ (tyC r.2 x7 c7) rfl L9 rfl (by rw [hE.out]; exact ⟨_, _, rfl, ux.ty (t := t0) (ua := none) (uc := 0) G6.out hs9, B7.out.trans (hs9.below (by omega))⟩)
    · have qs30 : (h.op.toList == [43]) = false := by rw [eqL]; exact decide_eq_false hs30
      have qn30 : (!h.op.toList == [43]) = true := by rw [qs30]; rfl
      replace hs30 := Lib.hid hs30
      by_cases hs31 : h.op = ⟨#[45]⟩
      · have qs31 : (h.op.toList == [45]) = true := by rw [eqL]; exact decide_eq_true hs31
        have qn31 : (!h.op.toList == [45]) = false := by rw [qs31]; rfl
        replace hs31 := Lib.hid hs31
        replace hE := hE.out
        rw [if_pos (.inr (.inl hs31.out))] at hE
        replace hE := Lib.hid hE
        clear C2
        generalize calT h.op t u = r at *
        go_wp2_with (first | (refine arm_loadT infTy Tryz.underlying36 rfl (.tmp 8) rfl rfl _ _ _ rfl M8.out rfl ?_) | (refine arm_loadT infTy Tryz.underlying36 rfl (.tmp 9) rfl rfl _ _ _ rfl M9.out rfl ?_))
        refine (C1.out _ B1.out U0.out U1.out).mono ?_
        rintro e w7 ⟨x7, c7, rfl, ux, b7⟩
        have B7 := Lib.hid (bnext B1.out b7)
        replace G6 := Lib.hid (G6.out.keeps b7)
        clear b7 C1 x1 m80 m81 m90
        go_wp2_with (first | (refine arm_storeT infTy (.tmp 6) (.tmp 28) rfl rfl _ _ _ _ rfl rfl G6.out rfl rfl (by simp [tyC, Value.oneCell']) ?_; intro w9 L9 hs9))
        exact ret_T2 infTy Tryz.underlying36 rfl Tryz.results83 _ _ _ _ (tyC r.2 x7 c7) rfl L9 rfl (by rw [hE.out]; exact ⟨_, _, rfl, ux.ty (t := t0) (ua := none) (uc := 0) G6.out hs9, B7.out.trans (hs9.below (by omega))⟩)
      · have qs31 : (h.op.toList == [45]) = false := by rw [eqL]; exact decide_eq_false hs31
        have qn31 : (!h.op.toList == [45]) = true := by rw [qs31]; rfl
        replace hs31 := Lib.hid hs31
        by_cases hs32 : h.op = ⟨#[42]⟩
        · have qs32 : (h.op.toList == [42]) = true := by rw [eqL]; exact decide_eq_true hs32
          have qn32 : (!h.op.toList == [42]) = false := by rw [qs32]; rfl
          replace hs32 := Lib.hid hs32
          replace hE := hE.out
          rw [if_pos (.inr (.inr (.inl hs32.out)))] at hE
          replace hE := Lib.hid hE
          clear C2
          generalize calT h.op t u = r at *
          go_wp2_with (first | (refine arm_loadT infTy Tryz.underlying36 rfl (.tmp 8) rfl rfl _ _ _ rfl M8.out rfl ?_) | (refine arm_loadT infTy Tryz.underlying36 rfl (.tmp 9) rfl rfl _ _ _ rfl M9.out rfl ?_))
          refine (C1.out _ B1.out U0.out U1.out).mono ?_
          rintro e w7 ⟨x7, c7, rfl, ux, b7⟩
          have B7 := Lib.hid (bnext B1.out b7)
          replace G6 := Lib.hid (G6.out.keeps b7)
          clear b7 C1 x1 m80 m81 m90
          go_wp2_with (first | (refine arm_storeT infTy (.tmp 6) (.tmp 28) rfl rfl _ _ _ _ rfl rfl G6.out rfl rfl (by simp [tyC, Value.oneCell']) ?_; intro w9 L9 hs9))
          exact ret_T2 infTy Tryz.underlying36 rfl Tryz.results83 _ _ _ _ (tyC r.2 x7 c7) rfl L9 rfl (by rw [hE.out]; exact ⟨_, _, rfl, ux.ty (t := t0) (ua := none) (uc := 0) G6.out hs9, B7.out.trans (hs9.below (by omega))⟩)
        · have qs32 : (h.op.toList == [42]) = false := by rw [eqL]; exact decide_eq_false hs32
          have qn32 : (!h.op.toList == [42]) = true := by rw [qs32]; rfl
          replace hs32 := Lib.hid hs32
          by_cases hs33 : h.op = ⟨#[47]⟩
          · have qs33 : (h.op.toList == [47]) = true := by rw [eqL]; exact decide_eq_true hs33
            have qn33 : (!h.op.toList == [47]) = false := by rw [qs33]; rfl
            replace hs33 := Lib.hid hs33
            replace hE := hE.out
            rw [if_pos (.inr (.inr (.inr hs33.out)))] at hE
            replace hE := Lib.hid hE
            clear C2
            generalize calT h.op t u = r at *
            go_wp2_with (first | (refine arm_loadT infTy Tryz.underlying36 rfl (.tmp 8) rfl rfl _ _ _ rfl M8.out rfl ?_) | (refine arm_loadT infTy Tryz.underlying36 rfl (.tmp 9) rfl rfl _ _ _ rfl M9.out rfl ?_))
            refine (C1.out _ B1.out U0.out U1.out).mono ?_
            rintro e w7 ⟨x7, c7, rfl, ux, b7⟩
            have B7 := Lib.hid (bnext B1.out b7)
            replace G6 := Lib.hid (G6.out.keeps b7)
            clear b7 C1 x1 m80 m81 m90
            go_wp2_with (first | (refine arm_storeT infTy (.tmp 6) (.tmp 28) rfl rfl _ _ _ _ rfl rfl G6.out rfl rfl (by simp [tyC, Value.oneCell']) ?_; intro w9 L9 hs9))
            exact ret_T2 infTy Tryz.underlying36 rfl Tryz.results83 _ _ _ _ (tyC r.2 x7 c7) rfl L9 rfl (by rw [hE.out]; exact ⟨_, _, rfl, ux.ty (t := t0) (ua := none) (uc := 0) G6.out hs9, B7.out.trans (hs9.below (by omega))⟩)
          · have qs33 : (h.op.toList == [47]) = false := by rw [eqL]; exact decide_eq_false hs33
            have qn33 : (!h.op.toList == [47]) = true := by rw [qs33]; rfl
            replace hs33 := Lib.hid hs33
            replace hE := hE.out
            rw [if_neg (fun e => e.elim hs30.out fun e => e.elim hs31.out fun e => e.elim hs32.out hs33.out)] at hE
            replace hE := Lib.hid hE
            clear C1
            generalize cmpT h.op t u = r at *
            go_wp2_with (first | (refine arm_loadT infTy Tryz.underlying36 rfl (.tmp 8) rfl rfl _ _ _ rfl M8.out rfl ?_) | (refine arm_loadT infTy Tryz.underlying36 rfl (.tmp 9) rfl rfl _ _ _ rfl M9.out rfl ?_))
            refine (C2.out _ B1.out U0.out U1.out).mono ?_
            rintro e w7 ⟨rfl, b7⟩
            have B7 := Lib.hid (bnext B1.out b7)
            replace G6 := Lib.hid (G6.out.keeps b7)
            clear b7 C2 x1 m80 m81 m90
            by_cases hi34 : r = 0
            · have qi34 := in_is hi34
              have qj34 : (r != 0) = false := by simp [hi34]
              replace hi34 := Lib.hid hi34
              replace hE := hE.out
              rw [if_pos hi34.out] at hE
              replace hE := Lib.hid hE
              go_wp2_with (first | (refine arm_storeT infTy (.tmp 6) (.tmp 39) rfl rfl _ _ _ _ rfl rfl G6.out rfl rfl (by simp [Value.oneCell']) ?_; intro w9 L9 hs9))
              exact ret_T2 infTy Tryz.underlying36 rfl Tryz.results83 _ _ _ _ (tyC boolT none 0) rfl L9 rfl (tr_of hE.out (.nil _ _ _) (B7.out.trans (hs9.below (by omega))))
            · have qi34 := in_ne hi34
              have qj34 : (r != 0) = true := by simp [hi34]
              replace hi34 := Lib.hid hi34
              replace hE := hE.out
              rw [if_neg hi34.out] at hE
              replace hE := Lib.hid hE
              go_wp2_with (first | (refine arm_storeT infTy (.tmp 6) (.tmp 37) rfl rfl _ _ _ _ rfl rfl G6.out rfl rfl (by simp [Value.oneCell']) ?_; intro w9 L9 hs9))
              exact ret_T2 infTy Tryz.underlying36 rfl Tryz.results83 _ _ _ _ (tyC t0 none 0) rfl L9 rfl (tr_of hE.out (.nil _ _ _) (B7.out.trans (hs9.below (by omega))))
set_option maxRecDepth 100000 in
set_option maxHeartbeats 4000000 in
theorem typeAggregate_any (h : Hd) (ua aa : Option Addr) (uc m ac B : Nat) (ts : List Tb) (gs : List Fe) (en : ByteArray) (fl : List Fi) (N : Nat) (w0 w : World) (hb0 : Below w0.heap.size w0 w) (hN : N ≤ w.heap.size) (hS : Scp w0 w B ts gs en fl) (hU : un.Sl w0 ua h.un.length uc h.un) (a : Option Addr) (cap : Nat) (t u : Ty) (hO : Ops w0 N w a 2 cap [t, u]) :
    Calls Tryz.prog 81 #[.pointer (some ⟨B, 0, none⟩), .agg (exC h m ua uc aa ac), .slice a 2 cap] w (TrV (aggT h.op t u) w0 N w) := by
  have bb := below_two w (.cells (exC h m ua uc aa ac) 29) (.cells #[.int .i64 0, .slice none 0 0, .string ⟨#[]⟩] 36)
  have B0 := Lib.hid bb
  have GG := bw_two w (exC h m ua uc aa ac) #[.int .i64 0, .slice none 0 0, .string ⟨#[]⟩] 29 36
  have GX := Lib.hid GG.1
  have G6 := Lib.hid GG.2
  have H0 := Lib.hid hb0
  have HN := Lib.hid hN
  have HS := Lib.hid hS
  have HU := Lib.hid hU
  obtain ⟨bk, off, rfl, hA⟩ := hO.at (by simp)
  obtain ⟨ua0, uc0, R0, U0⟩ := hA 0 (by simp)
  obtain ⟨ua1, uc1, R1, U1⟩ := hA 1 (by simp)
  simp only [List.getElem_cons_zero, List.getElem_cons_succ] at R0 U0 R1 U1
  clear hA hO
  replace R0 : w.rangeAt bk (off) (tyC t ua0 uc0).toList := by simpa using R0
  have c00 := range_keeps R0 bb 0 _ rfl
  have c01 := range_keeps R0 bb 1 _ rfl
  have c02 := range_keeps R0 bb 2 _ rfl
  replace R0 := Lib.hid R0
  replace U0 := Lib.hid U0
  replace R1 : w.rangeAt bk (off + 3) (tyC u ua1 uc1).toList := by simpa using R1
  have c10 := range_keeps R1 bb 0 _ rfl
  have c11 := range_keeps R1 bb 1 _ rfl
  have c12 := range_keeps R1 bb 2 _ rfl
  replace R1 := Lib.hid R1
  replace U1 := Lib.hid U1
  simp only [Nat.add_zero, Nat.add_assoc, Nat.reduceAdd] at c00 c01 c02 c10 c11 c12
  clear hb0 hN hS hU bb GG
  unfold exC at *
  have C1 := Lib.hid (fun W => aggregates_any h.op t ua0 uc0 W)
  have hE : aggT h.op t u = aggT h.op t u := rfl
  conv at hE => rhs; unfold aggT
  replace hE := Lib.hid hE
  generalize aggO h.op t = ag at *
  go_enter Tryz.func81, Tryz.ntmps81
  go_upto_region 1 with fail
  have hz := Lib.hid (show ((w.alloc (.cells #[.int .i64 h.k, .string h.op, .string h.nm, .string h.tb, .int .i64 h.vk, .int .i64 h.vn, .string h.vs, .slice ua h.un.length uc, .int .i64 h.pa, .int .i64 h.wk, .int .i64 h.ws, .slice aa m ac] 29)).alloc (.cells #[.int .i64 0, .slice none 0 0, .string ⟨#[]⟩] 36)).heap.size = w.heap.size + 2 by simp)
  clear c00 c01 c02
  replace R0 := Lib.hid (range_keeps R0.out B0.out)
  replace U0 := Lib.hid (U0.out.keeps B0.out)
  clear c10 c11 c12
  replace R1 := Lib.hid (range_keeps R1.out B0.out)
  replace U1 := Lib.hid (U1.out.keeps B0.out)
  generalize ((w.alloc (.cells #[.int .i64 h.k, .string h.op, .string h.nm, .string h.tb, .int .i64 h.vk, .int .i64 h.vn, .string h.vs, .slice ua h.un.length uc, .int .i64 h.pa, .int .i64 h.wk, .int .i64 h.ws, .slice aa m ac] 29)).alloc (.cells #[.int .i64 0, .slice none 0 0, .string ⟨#[]⟩] 36)) = wb at *
  go_cut [8, 9] from 10 (fun v8 v9 wx => ∃ g8 g9, v8 = .pointer (some ⟨g8, 0, none⟩) ∧ v9 = .pointer (some ⟨g9, 0, none⟩) ∧ Hid (Blk wx g8 36 (tyC t ua0 uc0)) ∧ Hid (Blk wx g9 36 (tyC u ua1 uc1)) ∧ Hid (Below wb.heap.size wb wx))
  case first =>
    refine wp_region_held_drew (S := fun w' => Below wb.heap.size wb w') (by kernel_rfl) (b0 wb).drew (fun hH => ?_)
    refine held_take (i := 0) (d := 10) (v := ?_) rfl (by kernel_rfl) (by kernel_rfl) (by kernel_rfl) rfl (fun _ _ _ h => h) rfl hH (fun w' hS => ?_) ?_
    rotate_left
    · go_simp; first | done | with_reducible rfl
    simp only [List.set_cons_zero, List.set_cons_succ]
    refine held_take (i := 1) (d := 11) (v := ?_) rfl (by kernel_rfl) (by kernel_rfl) (by kernel_rfl) rfl (fun _ _ _ h => h) rfl hH (fun w' hS => ?_) ?_
    rotate_left
    · go_simp; first | done | with_reducible rfl
    simp only [List.set_cons_zero, List.set_cons_succ]
    refine held_take (i := 2) (d := 12) (v := .agg (tyC t ua0 uc0)) rfl (by kernel_rfl) (by kernel_rfl) (by kernel_rfl) rfl (fun _ _ _ h => h) rfl hH (fun w' hS => yield_loadM infTy Tryz.underlying36 rfl (.tmp 11) rfl bk off (tyC t ua0 uc0) rfl (range_keeps R0.out hS) rfl) ?_
    simp only [List.set_cons_zero, List.set_cons_succ]
    refine held_take (i := 3) (d := 13) (v := ?_) rfl (by kernel_rfl) (by kernel_rfl) (by kernel_rfl) rfl (fun _ _ _ h => h) rfl hH (fun w' hS => ?_) ?_
    rotate_left
    · go_simp; first | done | with_reducible rfl
    simp only [List.set_cons_zero, List.set_cons_succ]
    refine held_take (i := 4) (d := 14) (v := ?_) rfl (by kernel_rfl) (by kernel_rfl) (by kernel_rfl) rfl (fun _ _ _ h => h) rfl hH (fun w' hS => ?_) ?_
    rotate_left
    · go_simp; first | done | with_reducible rfl
    simp only [List.set_cons_zero, List.set_cons_succ]
    refine held_take (i := 5) (d := 15) (v := .agg (tyC u ua1 uc1)) rfl (by kernel_rfl) (by kernel_rfl) (by kernel_rfl) rfl (fun _ _ _ h => h) rfl hH (fun w' hS => yield_loadM infTy Tryz.underlying36 rfl (.tmp 14) rfl bk (off + 3) (tyC u ua1 uc1) rfl (range_keeps R1.out hS) rfl) ?_
    simp only [List.set_cons_zero, List.set_cons_succ]
    generalize wb.drew = y0 at *
    refine held_two (i := 6) (j := 7) rfl rfl (by kernel_rfl) rfl rfl (fun K hK => ?_) (fun K hK => ?_)
    · go_simp
      have lb1 := Lib.hid hH.size
      refine hK.out _ _ (balloc hH _) (fun hH => ?_)
      clear hK K
      have N1 := Lib.hid (Blk.new y0 36 #[.int .i64 0, .slice none 0 0, .string ⟨#[]⟩])
      generalize hz1 : (y0.alloc (.cells #[.int .i64 0, .slice none 0 0, .string ⟨#[]⟩] 36)) = y1 at *
      clear hz1
      generalize y0.heap.size = g1 at *
      refine held_only (i := 7) rfl (by kernel_rfl) rfl (fun K hK => ?_)
      go_simp
      have lb2 := Lib.hid hH.size
      refine hK.out _ _ (balloc hH _) (fun hH => ?_)
      clear hK K
      have N2 := Lib.hid (Blk.new y1 36 #[.int .i64 0, .slice none 0 0, .string ⟨#[]⟩])
      have ne2N1 := Lib.hid (show g1 ≠ y1.heap.size from Nat.ne_of_lt N1.out.lt)
      replace N1 := Lib.hid (N1.out.past (.cells #[.int .i64 0, .slice none 0 0, .string ⟨#[]⟩] 36))
      generalize hz2 : (y1.alloc (.cells #[.int .i64 0, .slice none 0 0, .string ⟨#[]⟩] 36)) = y2 at *
      clear hz2
      generalize y1.heap.size = g2 at *
      refine held_only (i := 8) rfl (by kernel_rfl) rfl (fun K hK => ?_)
      refine op_storeT infTy (.tmp 8) (.tmp 12) rfl g1 _ (tyC t ua0 uc0) _ rfl rfl N1.out rfl rfl (by simp [tyC, Value.oneCell']) ?_
      intro y3 L3 hs3
      replace N2 := Lib.hid (N2.out.st hs3 (fun e => ne2N1.out e.symm))
      refine hK.out _ _ (hH.trans (hs3.below lb1.out)) (fun hH => ?_)
      clear hK K hs3
      have M3 := Lib.hid L3
      clear L3 N1
      refine held_only (i := 9) rfl (by kernel_rfl) rfl (fun K hK => ?_)
      refine op_storeT infTy (.tmp 9) (.tmp 15) rfl g2 _ (tyC u ua1 uc1) _ rfl rfl N2.out rfl rfl (by simp [tyC, Value.oneCell']) ?_
      intro y4 L4 hs4
      replace M3 := Lib.hid (M3.out.st hs4 ne2N1.out)
      refine hK.out _ _ (hH.trans (hs4.below lb2.out)) (fun hH => ?_)
      clear hK K hs4
      have M4 := Lib.hid L4
      clear L4 N2
      refine wpAnyH_done (by kernel_rfl) ?_ _
      go_wp2_with fail
      go_meet
      case rel => exact ⟨g1, g2, rfl, rfl, M3, M4, Lib.hid hH⟩
    · go_simp
      have lb5 := Lib.hid hH.size
      refine hK.out _ _ (balloc hH _) (fun hH => ?_)
      clear hK K
      have N5 := Lib.hid (Blk.new y0 36 #[.int .i64 0, .slice none 0 0, .string ⟨#[]⟩])
      generalize hz5 : (y0.alloc (.cells #[.int .i64 0, .slice none 0 0, .string ⟨#[]⟩] 36)) = y5 at *
      clear hz5
      generalize y0.heap.size = g5 at *
      refine held_only (i := 6) rfl (by kernel_rfl) rfl (fun K hK => ?_)
      go_simp
      have lb6 := Lib.hid hH.size
      refine hK.out _ _ (balloc hH _) (fun hH => ?_)
      clear hK K
      have N6 := Lib.hid (Blk.new y5 36 #[.int .i64 0, .slice none 0 0, .string ⟨#[]⟩])
      have ne6N5 := Lib.hid (show g5 ≠ y5.heap.size from Nat.ne_of_lt N5.out.lt)
      replace N5 := Lib.hid (N5.out.past (.cells #[.int .i64 0, .slice none 0 0, .string ⟨#[]⟩] 36))
      generalize hz6 : (y5.alloc (.cells #[.int .i64 0, .slice none 0 0, .string ⟨#[]⟩] 36)) = y6 at *
      clear hz6
      generalize y5.heap.size = g6 at *
      refine held_only (i := 8) rfl (by kernel_rfl) rfl (fun K hK => ?_)
      refine op_storeT infTy (.tmp 8) (.tmp 12) rfl g6 _ (tyC t ua0 uc0) _ rfl rfl N6.out rfl rfl (by simp [tyC, Value.oneCell']) ?_
      intro y7 L7 hs7
      replace N5 := Lib.hid (N5.out.st hs7 ne6N5.out)
      refine hK.out _ _ (hH.trans (hs7.below lb6.out)) (fun hH => ?_)
      clear hK K hs7
      have M7 := Lib.hid L7
      clear L7 N6
      refine held_only (i := 9) rfl (by kernel_rfl) rfl (fun K hK => ?_)
      refine op_storeT infTy (.tmp 9) (.tmp 15) rfl g5 _ (tyC u ua1 uc1) _ rfl rfl N5.out rfl rfl (by simp [tyC, Value.oneCell']) ?_
      intro y8 L8 hs8
      replace M7 := Lib.hid (M7.out.st hs8 (fun e => ne6N5.out e.symm))
      refine hK.out _ _ (hH.trans (hs8.below lb5.out)) (fun hH => ?_)
      clear hK K hs8
      have M8 := Lib.hid L8
      clear L8 N5
      refine wpAnyH_done (by kernel_rfl) ?_ _
      go_wp2_with fail
      go_meet
      case rel => exact ⟨g6, g5, rfl, rfl, M7, M8, Lib.hid hH⟩
  case rest =>
    obtain ⟨g8, g9, rfl, rfl, M8, M9, BW⟩ := hcut
    generalize wc = wz at *
    have B1 := Lib.hid (B0.out.trans (BW.out.mono B0.out.size))
    replace GX := Lib.hid (GX.out.keeps BW.out)
    replace G6 := Lib.hid (G6.out.keeps BW.out)
    replace U0 := Lib.hid (U0.out.keeps BW.out)
    replace U1 := Lib.hid (U1.out.keeps BW.out)
    have x1 := GX.out.cell 1
    have m80 := M8.out.cell 0
    have m81 := M8.out.cell 1
    have m90 := M9.out.cell 0
    simp only [tyC, List.getElem?_toArray, List.getElem?_cons_zero, List.getElem?_cons_succ] at x1 m80 m81 m90
    clear BW B0 R0 R1 hz
    by_cases hi35 : u.k = 1
    · have qi35 := in_is hi35
      have qj35 : (u.k != 1) = false := by simp [hi35]
      replace hi35 := Lib.hid hi35
      replace hE := hE.out
      rw [if_neg (fun e => e hi35.out)] at hE
      replace hE := Lib.hid hE
      go_wp2_with (first | (refine arm_loadG infTy Tryz.underlying36 rfl (.tmp 8) rfl rfl _ _ _ rfl M8.out rfl ?_))
      refine (C1.out _).mono ?_
      rintro e w7 ⟨rfl, b7⟩
      have B7 := Lib.hid (bnext B1.out b7)
      replace G6 := Lib.hid (G6.out.keeps b7)
      replace M8 := Lib.hid (M8.out.keeps b7)
      replace U0 := Lib.hid (U0.out.keeps b7)
      have y1 := (GX.out.keeps b7).cell 1
      have n81 := M8.out.cell 1
      simp only [tyC, List.getElem?_toArray, List.getElem?_cons_zero, List.getElem?_cons_succ] at y1 n81
      clear b7 C1 x1 m80 m81 m90
      cases ag
      · replace hE := hE.out
        rw [if_pos rfl] at hE
        replace hE := Lib.hid hE
        go_wp2_with (first | (refine arm_storeT infTy (.tmp 6) (.tmp 26) rfl rfl _ _ _ _ rfl rfl G6.out rfl rfl (by simp [Value.oneCell']) ?_; intro w9 L9 hs9))
        exact ret_T2 infTy Tryz.underlying36 rfl Tryz.results81 _ _ _ _ (tyC t0 none 0) rfl L9 rfl (tr_of hE.out (.nil _ _ _) (B7.out.trans (hs9.below (by omega))))
      · replace hE := hE.out
        rw [if_neg (by decide)] at hE
        replace hE := Lib.hid hE
        by_cases hs36 : h.op = ⟨#[99, 111, 117, 110, 116]⟩
        · have qs36 : (h.op.toList == [99, 111, 117, 110, 116]) = true := by rw [eqL]; exact decide_eq_true hs36
          have qn36 : (!h.op.toList == [99, 111, 117, 110, 116]) = false := by rw [qs36]; rfl
          replace hs36 := Lib.hid hs36
          replace hE := hE.out
          rw [if_pos (.inl hs36.out)] at hE
          replace hE := Lib.hid hE
          go_wp2_with (first | (refine arm_storeT infTy (.tmp 6) (.tmp 32) rfl rfl _ _ _ _ rfl rfl G6.out rfl rfl (by simp [Value.oneCell']) ?_; intro w9 L9 hs9))
          exact ret_T2 infTy Tryz.underlying36 rfl Tryz.results81 _ _ _ _ (tyC ⟨2, [], .empty⟩ none 0) rfl L9 rfl (tr_of hE.out (.nil _ _ _) (B7.out.trans (hs9.below (by omega))))
        · have qs36 : (h.op.toList == [99, 111, 117, 110, 116]) = false := by rw [eqL]; exact decide_eq_false hs36
          have qn36 : (!h.op.toList == [99, 111, 117, 110, 116]) = true := by rw [qs36]; rfl
          replace hs36 := Lib.hid hs36
          by_cases hs37 : h.op = ⟨#[100, 105, 115, 116, 105, 110, 99, 116]⟩
          · have qs37 : (h.op.toList == [100, 105, 115, 116, 105, 110, 99, 116]) = true := by rw [eqL]; exact decide_eq_true hs37
            have qn37 : (!h.op.toList == [100, 105, 115, 116, 105, 110, 99, 116]) = false := by rw [qs37]; rfl
            replace hs37 := Lib.hid hs37
            replace hE := hE.out
            rw [if_pos (.inr hs37.out)] at hE
            replace hE := Lib.hid hE
            go_wp2_with (first | (refine arm_storeT infTy (.tmp 6) (.tmp 32) rfl rfl _ _ _ _ rfl rfl G6.out rfl rfl (by simp [Value.oneCell']) ?_; intro w9 L9 hs9))
            exact ret_T2 infTy Tryz.underlying36 rfl Tryz.results81 _ _ _ _ (tyC ⟨2, [], .empty⟩ none 0) rfl L9 rfl (tr_of hE.out (.nil _ _ _) (B7.out.trans (hs9.below (by omega))))
          · have qs37 : (h.op.toList == [100, 105, 115, 116, 105, 110, 99, 116]) = false := by rw [eqL]; exact decide_eq_false hs37
            have qn37 : (!h.op.toList == [100, 105, 115, 116, 105, 110, 99, 116]) = true := by rw [qs37]; rfl
            replace hs37 := Lib.hid hs37
            replace hE := hE.out
            rw [if_neg (fun e => e.elim hs36.out hs37.out)] at hE
            replace hE := Lib.hid hE
            by_cases hs38 : h.op = ⟨#[109, 101, 97, 110]⟩
            · have qs38 : (h.op.toList == [109, 101, 97, 110]) = true := by rw [eqL]; exact decide_eq_true hs38
              have qn38 : (!h.op.toList == [109, 101, 97, 110]) = false := by rw [qs38]; rfl
              replace hs38 := Lib.hid hs38
              replace hE := hE.out
              rw [if_pos (.inl hs38.out)] at hE
              replace hE := Lib.hid hE
              go_wp2_with (first | (refine arm_storeT infTy (.tmp 6) (.tmp 38) rfl rfl _ _ _ _ rfl rfl G6.out rfl rfl (by simp [Value.oneCell']) ?_; intro w9 L9 hs9))
              exact ret_T2 infTy Tryz.underlying36 rfl Tryz.results81 _ _ _ _ (tyC ⟨3, t.un, .empty⟩ ua0 uc0) rfl L9 rfl (tr_of hE.out (U0.out.ty (t := t0) (ua := none) (uc := 0) G6.out hs9) (B7.out.trans (hs9.below (by omega))))
            · have qs38 : (h.op.toList == [109, 101, 97, 110]) = false := by rw [eqL]; exact decide_eq_false hs38
              have qn38 : (!h.op.toList == [109, 101, 97, 110]) = true := by rw [qs38]; rfl
              replace hs38 := Lib.hid hs38
              by_cases hs39 : h.op = ⟨#[100, 101, 99, 97, 121]⟩
              · have qs39 : (h.op.toList == [100, 101, 99, 97, 121]) = true := by rw [eqL]; exact decide_eq_true hs39
                have qn39 : (!h.op.toList == [100, 101, 99, 97, 121]) = false := by rw [qs39]; rfl
                replace hs39 := Lib.hid hs39
                replace hE := hE.out
                rw [if_pos (.inr hs39.out)] at hE
                replace hE := Lib.hid hE
                go_wp2_with (first | (refine arm_storeT infTy (.tmp 6) (.tmp 38) rfl rfl _ _ _ _ rfl rfl G6.out rfl rfl (by simp [Value.oneCell']) ?_; intro w9 L9 hs9))
                exact ret_T2 infTy Tryz.underlying36 rfl Tryz.results81 _ _ _ _ (tyC ⟨3, t.un, .empty⟩ ua0 uc0) rfl L9 rfl (tr_of hE.out (U0.out.ty (t := t0) (ua := none) (uc := 0) G6.out hs9) (B7.out.trans (hs9.below (by omega))))
              · have qs39 : (h.op.toList == [100, 101, 99, 97, 121]) = false := by rw [eqL]; exact decide_eq_false hs39
                have qn39 : (!h.op.toList == [100, 101, 99, 97, 121]) = true := by rw [qs39]; rfl
                replace hs39 := Lib.hid hs39
                replace hE := hE.out
                rw [if_neg (fun e => e.elim hs38.out hs39.out)] at hE
                replace hE := Lib.hid hE
                go_wp2_with (first | (refine arm_loadT infTy Tryz.underlying36 rfl (.tmp 8) rfl rfl _ _ _ rfl M8.out rfl ?_) | (refine arm_storeT infTy (.tmp 6) (.tmp 39) rfl rfl _ _ _ _ rfl rfl G6.out rfl rfl (by simp [tyC, Value.oneCell']) ?_; intro w9 L9 hs9))
                exact ret_T2 infTy Tryz.underlying36 rfl Tryz.results81 _ _ _ _ (tyC t ua0 uc0) rfl L9 rfl (tr_of hE.out (U0.out.ty (t := t0) (ua := none) (uc := 0) G6.out hs9) (B7.out.trans (hs9.below (by omega))))
    · have qi35 := in_ne hi35
      have qj35 : (u.k != 1) = true := by simp [hi35]
      replace hi35 := Lib.hid hi35
      replace hE := hE.out
      rw [if_pos hi35.out] at hE
      replace hE := Lib.hid hE
      clear C1
      go_wp2_with (first | (refine arm_storeT infTy (.tmp 6) (.tmp 26) rfl rfl _ _ _ _ rfl rfl G6.out rfl rfl (by simp [Value.oneCell']) ?_; intro w9 L9 hs9))
      exact ret_T2 infTy Tryz.underlying36 rfl Tryz.results81 _ _ _ _ (tyC t0 none 0) rfl L9 rfl (tr_of hE.out (.nil _ _ _) (B1.out.trans (hs9.below (by omega))))
end Go.Proofs.YtbkpjhffmaldmaaGreatDoor.ch
