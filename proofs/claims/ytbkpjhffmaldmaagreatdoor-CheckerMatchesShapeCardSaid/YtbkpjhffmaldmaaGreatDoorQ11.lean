/-
  infer, Infer, Feature.
-/
import Derived.Laws.EntriesVeiled
import Derived.Test.YtbkpjhffmaldmaaGreatDoorQ10
namespace Go.Proofs.YtbkpjhffmaldmaaGreatDoor.ch
open Go.RowKit dec

set_option maxRecDepth 100000 in
set_option maxHeartbeats 8000000 in
theorem infer_agg (n : Nat) (IH : ∀ (i : Bool) (x : Ex) (ua aa : Option Addr) (uc ac B : Nat) (ts : List Tb) (gs : List Fe) (en : ByteArray) (fl : List Fi) (w0 w : World), x.ar.sz < n → fmE i x = true → Below w0.heap.size w0 w → Ec w0 x ua uc aa ac → Scp w0 w B ts gs en fl → Calls Tryz.prog 47 #[.pointer (some ⟨B, 0, none⟩), .agg (exC x.h x.ar.len ua uc aa ac)] w (TrV (infE ts gs en fl x) w0 w.heap.size w))
    (i : Bool) (x : Ex) (ua aa : Option Addr) (uc ac B : Nat) (ts : List Tb) (gs : List Fe) (en : ByteArray) (fl : List Fi) (w0 w : World) (hz : x.ar.sz = n) (hf : fmE i x = true) (hw0 : Below w0.heap.size w0 w) (hE : Ec w0 x ua uc aa ac) (hS : Scp w0 w B ts gs en fl) (hk5 : x.h.k = 5) : Calls Tryz.prog 47 #[.pointer (some ⟨B, 0, none⟩), .agg (exC x.h x.ar.len ua uc aa ac)] w (TrV (infE ts gs en fl x) w0 w.heap.size w) := by
  have bb := below_two w (.cells (exC x.h x.ar.len ua uc aa ac) 29) (.cells #[.int .i64 0, .slice none 0 0, .string ⟨#[]⟩] 36)
  have BP := Lib.hid bb
  have GG := bw_two w (exC x.h x.ar.len ua uc aa ac) #[.int .i64 0, .slice none 0 0, .string ⟨#[]⟩] 29 36
  have GX := Lib.hid GG.1
  have G4 := Lib.hid GG.2
  have HW0 := Lib.hid hw0
  have HS := Lib.hid hS
  have SP := Lib.hid (hS.keeps bb)
  have HU := Lib.hid hE.us
  have HA := Lib.hid hE.ar
  rw [fm_eq, Bool.and_eq_true] at hf
  have hnl := nod_len hf.1
  have HF := Lib.hid hf.2
  have hnn := Lib.hid hnl.2
  have hn3 := Lib.hid (show x.ar.len ≤ 3 by rw [hnl.2]; split <;> (try split) <;> (try split) <;> omega)
  have hkk := Lib.hid hnl.1
  have IH' := Lib.hid IH
  have HZ := Lib.hid hz
  clear hw0 hS hE hf hnl IH hz bb GG
  unfold exC at *
  have qk := in_is hk5
  have hE := Lib.hid (show infE ts gs en fl x = if (inT ts en x.h.tb).1 = 0 then (if (infL ts gs en x.ar (inT ts en x.h.tb).2).1 = 0 then rulT gs en fl x.h (infL ts gs en x.ar (inT ts en x.h.tb).2).2 else noR (infL ts gs en x.ar (inT ts en x.h.tb).2).1) else noR (inT ts en x.h.tb).1 by unfold infE; simp only [hk5, if_true]; split <;> simp_all)
  replace HF := Lib.hid (show fmA true x.ar = true by have := HF.out; rwa [decide_eq_true hk5, Bool.or_true] at this)
  have CI := Lib.hid (fun W hb hS => inside_any B ts gs en x.h.tb fl w0 W hb hS)
  replace hk5 := Lib.hid hk5
  generalize inT ts en x.h.tb = f at *
  obtain ⟨fe, ff⟩ := f
  simp only at hE
  go_enter Tryz.func47, Tryz.ntmps47
  go_upto_region 3 with fail
  generalize hwp : ((w.alloc (.cells #[.int .i64 x.h.k, .string x.h.op, .string x.h.nm, .string x.h.tb, .int .i64 x.h.vk, .int .i64 x.h.vn, .string x.h.vs, .slice ua x.h.un.length uc, .int .i64 x.h.pa, .int .i64 x.h.wk, .int .i64 x.h.ws, .slice aa x.ar.len ac] 29)).alloc (.cells #[.int .i64 0, .slice none 0 0, .string ⟨#[]⟩] 36)) = wq at *
  clear hwp
  have gx3 := GX.out.cell 3
  simp only [List.getElem?_toArray, List.getElem?_cons_zero, List.getElem?_cons_succ] at gx3
  go_wp2_with fail
  refine (CI.out _ (HW0.out.trans (BP.out.mono HW0.out.size)) SP.out).mono ?_
  rintro e wp ⟨hr, b7⟩
  replace BP := Lib.hid (bnext BP.out b7)
  replace GX := Lib.hid (GX.out.keeps b7)
  replace G4 := Lib.hid (G4.out.keeps b7)
  clear b7 CI gx3 SP
  simp only at hr
  by_cases hf0 : fe = 0
  · rw [if_pos hf0] at hr
    obtain ⟨B2, rfl, hS2⟩ := hr
    have SP := Lib.hid hS2
    clear hS2
    replace hE := Lib.hid (hE.out.trans (if_pos hf0))
    subst hf0
    go_upto_region 6 with fail
    have gx11 := GX.out.cell 11
    simp only [List.getElem?_toArray, List.getElem?_cons_zero, List.getElem?_cons_succ] at gx11
    go_wp2_with (first | (refine arm_make _ rfl (.tmp 27) (.tmp 27) rfl x.ar.len (by have := hn3.out; omega) rfl rfl ?_; intro wm cur G0 hc0 bm; have gy11 := (GX.out.keeps bm).cell 11; simp only [List.getElem?_toArray, List.getElem?_cons_zero, List.getElem?_cons_succ] at gy11))
    have hgw := Lib.hid BP.out.size
    replace bm := Lib.hid bm
    replace G0 := Lib.hid (⟨G0, hc0⟩ : Blk wm wp.heap.size 36 cur ∧ cur.size = x.ar.len * 3)
    clear hc0
    generalize hgO : wp.heap.size = gO at *
    replace hgO := Lib.hid hgO
    have hI := Lib.hid (infP_zero ts gs en ff x.ar)
    clear gx11 gy11
    go_loopw [32] (fun vi wr => ∃ (j : Nat) (l : List Ty) (cur : Array Value), vi = .int .i64 (j : Nat) ∧ Hid (j ≤ x.ar.len) ∧ Hid (l.length = j) ∧ Hid (infL ts gs en x.ar ff = infP ts gs en ff l (x.ar.drop j)) ∧ Hid (Below gO wp wr) ∧ Hid (Blk wr gO 36 cur ∧ cur.size = x.ar.len * 3) ∧ Hid (∀ i (h : i < l.length), ∃ xa xc, wr.rangeAt gO (i * 3) (tyC l[i] xa xc).toList ∧ Uw w0 wr (gO + 1) xa l[i].un.length xc l[i].un)) (fun vi _ => x.ar.len - (intOf vi).toNat)
    case atStart => exact ⟨0, [], cur, rfl, Lib.hid (Nat.zero_le _), Lib.hid rfl, hI, Lib.hid (hgO.out ▸ bm.out), G0, Lib.hid fun i h => absurd h (Nat.not_lt_zero _)⟩
    case round =>
      clear hI G0 bm
      obtain ⟨j, l, cur, rfl, hj, hlen, hI, hb, hG, hT⟩ := hrel
      have BW := Lib.hid (BP.out.trans (hb.out.mono hgw.out))
      by_cases hlt : j < x.ar.len
      · have q1 : decide ((j : Int) < (x.ar.len : Int)) = true := decide_eq_true (by omega)
        obtain ⟨bk, off, va, vc, wa, wc, rfl, R1, E1⟩ := HA.out.at hlt
        replace R1 := Lib.hid (range_keeps R1 (HW0.out.trans (BW.out.mono HW0.out.size)))
        have f4 := Lib.hid (next_at (j := j) (by have := hn3.out; omega))
        have i1 : (j : Int) < (x.ar.len : Int) := by omega
        have i2 : j < x.ar.len := hlt
        have hsz := Lib.hid (nth_sz x.ar j hlt)
        have hfj := Lib.hid (fmA_nth x.ar _ j HF.out hlt)
        have hno := Lib.hid (fun e => hI.out.trans (infP_no (ts := ts) (gs := gs) (en := en) (fl := ff) (l := l) hlt e))
        have hgo := Lib.hid (fun e => hI.out.trans (infP_go (ts := ts) (gs := gs) (en := en) (fl := ff) (l := l) hlt e))
        replace E1 := Lib.hid E1
        clear hI hj
        generalize x.ar.nth j = y at *
        go_wp2_with (first | (refine arm_mid infX Tryz.underlying29 rfl (.tmp 35) rfl rfl bk (off + j * 12) (exC y.h y.ar.len va vc wa wc) rfl R1.out rfl ?_) | (refine arm_storeT infX (.tmp 9) (.tmp 36) rfl rfl _ _ _ _ rfl rfl (Blk.new _ _ _) rfl rfl (exC_one _ _ _ _ _ _) ?_; intro w5 L5 hs5; have bb5 := (balloc (b0 wr) _).trans (hs5.below (Nat.le_refl _))) | (refine arm_loadT infX Tryz.underlying29 rfl (.tmp 9) rfl rfl _ _ _ rfl L5 rfl ?_))
        have BG5 := Lib.hid (hb.out.trans (bb5.mono (by have := hb.out.size; have := hgO.out; omega)))
        have BW5 := Lib.hid (BP.out.trans (BG5.out.mono hgw.out))
        have hG5 := Lib.hid (hG.out.1.keeps bb5)
        have hT5 := Lib.hid (fun i (h : i < l.length) => (hT.out i h).imp fun xa h => h.imp fun xc h => (⟨range_keeps h.1 bb5, h.2.keeps bb5⟩ : w5.rangeAt gO (i * 3) (tyC l[i] xa xc).toList ∧ Uw w0 w5 (gO + 1) xa l[i].un.length xc l[i].un))
        clear bb5 hs5 L5 R1 hT
        refine (IH'.out true y va wa vc wc B2 ts gs en ff w0 w5 (by have := hsz.out; have := HZ.out; omega) hfj.out (HW0.out.trans (BW5.out.mono HW0.out.size)) E1.out (SP.out.imp fun L hL => (⟨hL.blk.below BG5.out (hgO.out ▸ hL.blk.lt), hL.mp.below BG5.out (hgO.out ▸ hL.mp.lt), hL.tab.below BG5.out (hgO.out ▸ hL.tab.lt), hL.fis, hL.fl, hL.ct, hL.cg⟩ : Sc1 w0 w5 B2 ts gs en ff L))).mono ?_
        rintro e w6 ⟨xa, xc, rfl, ux, b6⟩
        have BG6 := Lib.hid (BG5.out.trans (b6.mono (by have := BG5.out.size; have := hgO.out; omega)))
        have hG6 := Lib.hid (hG5.out.keeps b6)
        have hT6 := Lib.hid (fun i (h : i < l.length) => (hT5.out i h).imp fun xa h => h.imp fun xc h => (⟨range_keeps h.1 b6, h.2.keeps b6⟩ : w6.rangeAt gO (i * 3) (tyC l[i] xa xc).toList ∧ Uw w0 w6 (gO + 1) xa l[i].un.length xc l[i].un))
        have hlt5 := Lib.hid hG5.out.lt
        have UX := Lib.hid ux
        clear b6 ux hG5 hT5
        generalize infE ts gs en ff y = r at *
        by_cases hr : r.1 = 0
        · have q2 : (r.1 != 0) = false := by simp [hr]
          replace hI := Lib.hid (hgo.out hr)
          replace hr := Lib.hid hr
          clear hno hgo
          go_wp2_with (first | (refine arm_put infTy (.tmp 45) (.tmp 43) rfl rfl gO (j * 3) _ (tyC r.2 xa xc) _ rfl rfl hG6.out (by have := hG.out.2; omega) rfl (by simp [tyC, Value.oneCell']) ?_; intro w8 new L8 hz8 R8 hk8 hs8))
          have BG8 := Lib.hid (BG6.out.trans (hs8.below (Nat.le_refl _)))
          have hT8 : ∀ k (h : k < (l ++ [r.2]).length), ∃ xa xc, w8.rangeAt gO (k * 3) (tyC (l ++ [r.2])[k] xa xc).toList ∧ Uw w0 w8 (gO + 1) xa (l ++ [r.2])[k].un.length xc (l ++ [r.2])[k].un := fun k h => by
            by_cases hk : k < l.length
            · rw [List.getElem_append_left hk]
              obtain ⟨ya, yc, h1, h2⟩ := hT6.out k hk
              exact ⟨ya, yc, range_put hG6.out L8 hk8 h1 (by have := hlen.out; simp [tyC]; omega), h2.st hs8 (Nat.lt_succ_self _)⟩
            · have hkl : k = l.length := by simp at h; omega
              subst hkl
              simp only [List.getElem_append_right (Nat.le_refl _), Nat.sub_self, List.getElem_cons_zero]
              exact ⟨xa, xc, by rw [hlen.out]; exact R8, (UX.out.st hs8 hlt5.out).less hlt5.out⟩
          exact ⟨⟨j + 1, l ++ [r.2], new, congrArg (Value.int .i64) f4.out, Lib.hid hlt, Lib.hid (by have := hlen.out; simp; omega), hI, BG8, Lib.hid ⟨L8, hz8.trans hG.out.2⟩, Lib.hid hT8⟩, less_at hlt f4.out⟩
        · have q2 : (r.1 != 0) = true := by simp [hr]
          replace hI := Lib.hid (hno.out hr)
          replace hE := Lib.hid (show infE ts gs en fl x = (r.1, t0) by rw [hE.out, hI.out]; exact if_neg hr)
          replace hr := Lib.hid hr
          clear hno hgo hI
          go_wp2_with (first | (refine arm_put infTy (.tmp 45) (.tmp 43) rfl rfl gO (j * 3) _ (tyC r.2 xa xc) _ rfl rfl hG6.out (by have := hG.out.2; omega) rfl (by simp [tyC, Value.oneCell']) ?_; intro w8 new L8 hz8 R8 hk8 hs8; have BG8 := BG6.out.trans (hs8.below (Nat.le_refl _)); have G8 := G4.out.below BG8 (by have := hgO.out; have := G4.out.lt; omega)) | (refine arm_storeT infTy (.tmp 4) (.tmp 48) rfl rfl _ _ _ _ rfl rfl G8 rfl rfl (by simp [Value.oneCell']) ?_; intro w9 L9 hs9))
          exact ret_T2 infTy Tryz.underlying36 rfl Tryz.results47 _ _ _ _ (tyC t0 none 0) rfl L9 rfl (tr_of hE.out (.nil _ _ _) ((BP.out.trans (BG8.mono hgw.out)).trans (hs9.below (by omega))))
      · have q1 : decide ((j : Int) < (x.ar.len : Int)) = false := decide_eq_false (by omega)
        have hIr : infL ts gs en x.ar ff = (0, l) := hI.out.trans (infP_end ts gs en ff l (by omega))
        replace hE := Lib.hid (show infE ts gs en fl x = rulT gs en fl x.h l by rw [hE.out, hIr]; rfl)
        replace hlen := Lib.hid (show l.length = x.ar.len by have := hlen.out; have := hj.out; omega)
        have hgl := Lib.hid (show w.heap.size + 1 < gO by have := hgO.out; have := G4.out.lt; omega)
        replace GX := Lib.hid (GX.out.below hb.out (by have := hgl.out; omega))
        replace G4 := Lib.hid (G4.out.below hb.out hgl.out)
        clear hIr hI hj IH' HZ HF SP HA BP hG q1
        replace hgO := Lib.hid (trivial : True)
        have q1 : decide ((j : Int) < (x.ar.len : Int)) = false := decide_eq_false (by omega)
        have hk := hk5.out
        replace hnn : x.ar.len = 2 := by have := hnn.out; rw [hk] at this; simpa using this
        replace hk := Lib.hid hk
        clear hn3 hkk
        have hne : ¬ (j < x.ar.len) := hlt
        clear hlt
        generalize x.ar.len = m at *
        subst hnn
        go_wp2_with fail
        obtain ⟨t, u, rfl⟩ : ∃ t u, l = [t, u] := by
          have hq : l.length = 2 := hlen.out
          match l, hq with
          | [t, u], _ => exact ⟨t, u, rfl⟩
        have hR := Lib.hid (show infE ts gs en fl x = (aggT x.h.op t u) by rw [hE.out]; unfold rulT; simp [hk.out])
        have C := Lib.hid (fun (W : World) (hb : Below w0.heap.size w0 W) (hN : w.heap.size ≤ W.heap.size) (hS : Scp w0 W B ts gs en fl) (hU : un.Sl w0 ua x.h.un.length uc x.h.un) (hO : Ops w0 w.heap.size W (some ⟨gO, 0, none⟩) 2 2 [t, u]) => (show Calls Tryz.prog 81 #[.pointer (some ⟨B, 0, none⟩), .agg (exC x.h 2 ua uc aa ac), .slice (some ⟨gO, 0, none⟩) 2 2] W (TrV (infE ts gs en fl x) w0 w.heap.size W) by rw [hR.out]; exact typeAggregate_any x.h ua aa uc 2 ac B ts gs en fl w.heap.size w0 W hb hN hS hU (some ⟨gO, 0, none⟩) 2 t u hO))
        have OO := Lib.hid (show Ops w0 w.heap.size wr (some ⟨gO, 0, none⟩) 2 2 [t, u] from ⟨.inr ⟨gO, 0, rfl, fun j hj => by obtain ⟨xa, xc, h1, h2⟩ := hT.out j hj; exact ⟨tyC _ xa xc, rfl, by simpa using h1, xa, xc, rfl, h2.less (by have := hgw.out; omega)⟩⟩, rfl, Nat.le_refl _, by omega, fun e => by cases e⟩)
        unfold exC at C
        obtain ⟨L, hL⟩ := HS.out
        replace hL := Lib.hid hL
        have hP := Lib.hid (hL.out.mp)
        refine wp_region_held_drew (S := fun w' => Below w.heap.size w w' ∧ (Blk w' w.heap.size 29 #[.int .i64 x.h.k, .string x.h.op, .string x.h.nm, .string x.h.tb, .int .i64 x.h.vk, .int .i64 x.h.vn, .string x.h.vs, .slice ua x.h.un.length uc, .int .i64 x.h.pa, .int .i64 x.h.wk, .int .i64 x.h.ws, .slice aa 2 ac]) ∧ ∃ t9 a9 c9, Blk w' (w.heap.size + 1) 36 (tyC t9 a9 c9)) (by kernel_rfl) ⟨BW.out.drew, GX.out.drew, t0, none, 0, G4.out.drew⟩ (fun hH => ?_)
        refine held_take (i := 0) (d := 51) (v := ?_) rfl (by kernel_rfl) (by kernel_rfl) (by kernel_rfl) rfl (fun _ _ _ h => h) rfl hH (fun w' hS => ?_) ?_
        rotate_left
        · go_simp; first | done | with_reducible rfl
        simp only [List.set_cons_zero, List.set_cons_succ]
        refine held_take (i := 1) (d := 52) (v := ?_) rfl (by kernel_rfl) (by kernel_rfl) (by kernel_rfl) rfl (fun _ _ _ h => h) rfl hH (fun w' hS => ?_) ?_
        rotate_left
        · have e1 := (hL.out.blk.below hS.1 hL.out.blk.lt).cell 6; simp only [ScL.cs, scC, List.getElem?_toArray, List.getElem?_cons_zero, List.getElem?_cons_succ] at e1; go_simp; first | done | with_reducible rfl
        simp only [List.set_cons_zero, List.set_cons_succ]
        refine held_take (i := 2) (d := 53) (v := ?_) rfl (by kernel_rfl) (by kernel_rfl) (by kernel_rfl) rfl (fun _ _ _ h => h) rfl hH (fun w' hS => ?_) ?_
        rotate_left
        · have e1 := (hL.out.blk.below hS.1 hL.out.blk.lt).cell 6; simp only [ScL.cs, scC, List.getElem?_toArray, List.getElem?_cons_zero, List.getElem?_cons_succ] at e1; go_simp; first | done | with_reducible rfl
        simp only [List.set_cons_zero, List.set_cons_succ]
        refine held_take (i := 3) (d := 54) (v := ?_) rfl (by kernel_rfl) (by kernel_rfl) (by kernel_rfl) rfl (fun _ _ _ h => h) rfl hH (fun w' hS => ?_) ?_
        rotate_left
        · have e1 := (hL.out.blk.below hS.1 hL.out.blk.lt).cell 6; simp only [ScL.cs, scC, List.getElem?_toArray, List.getElem?_cons_zero, List.getElem?_cons_succ] at e1; go_simp; first | done | with_reducible rfl
        simp only [List.set_cons_zero, List.set_cons_succ]
        refine held_take (i := 4) (d := 55) (v := ?_) rfl (by kernel_rfl) (by kernel_rfl) (by kernel_rfl) rfl (fun _ _ _ h => h) rfl hH (fun w' hS => ?_) ?_
        rotate_left
        · have e1 := hS.2.1.cell 0; simp only [List.getElem?_toArray, List.getElem?_cons_zero] at e1; go_simp; first | done | with_reducible rfl
        simp only [List.set_cons_zero, List.set_cons_succ]
        refine held_take (i := 5) (d := 56) (v := ?_) rfl (by kernel_rfl) (by kernel_rfl) (by kernel_rfl) rfl (fun _ _ _ h => h) rfl hH (fun w' hS => ?_) ?_
        rotate_left
        · have e1 := hS.2.1.cell 0; simp only [List.getElem?_toArray, List.getElem?_cons_zero] at e1; go_simp; first | done | with_reducible rfl
        simp only [List.set_cons_zero, List.set_cons_succ]
        refine held_take (i := 6) (d := 57) (v := ?_) rfl (by kernel_rfl) (by kernel_rfl) (by kernel_rfl) rfl (fun _ _ _ h => h) rfl hH (fun w' hS => ?_) ?_
        rotate_left
        · have e1 := run_look kTypes (hP.out.below hS.1 hP.out.lt) x.h.k 4 (by rw [hk.out]; rfl) (tyF 81 B) rfl; unfold tyF at e1; go_simp; first | done | with_reducible rfl
        simp only [List.set_cons_zero, List.set_cons_succ]
        refine held_take (i := 7) (d := 58) (v := .agg #[.int .i64 x.h.k, .string x.h.op, .string x.h.nm, .string x.h.tb, .int .i64 x.h.vk, .int .i64 x.h.vn, .string x.h.vs, .slice ua x.h.un.length uc, .int .i64 x.h.pa, .int .i64 x.h.wk, .int .i64 x.h.ws, .slice aa 2 ac]) rfl (by kernel_rfl) (by kernel_rfl) (by kernel_rfl) rfl (fun _ _ _ h => h) rfl hH (fun w' hS => yield_load infX Tryz.underlying29 rfl (.tmp 3) rfl _ _ _ rfl hS.2.1 rfl) ?_
        simp only [List.set_cons_zero, List.set_cons_succ]
        refine held_take (i := 8) (d := 59) (v := ?_) rfl (by kernel_rfl) (by kernel_rfl) (by kernel_rfl) rfl (fun _ _ _ h => h) rfl hH (fun w' hS => ?_) ?_
        rotate_left
        · go_simp; first | done | with_reducible rfl
        simp only [List.set_cons_zero, List.set_cons_succ]
        refine held_only (i := 9) rfl (by kernel_rfl) rfl (fun K hK => ?_)
        go_simp
        have bd := (b0 wr).drew
        refine (C.out _ ((HW0.out.trans (BW.out.mono HW0.out.size)).trans (bd.mono (Nat.le_trans HW0.out.size BW.out.size))) (Nat.le_trans BW.out.size bd.size) (HS.out.imp fun L hL => (⟨hL.blk.below hH.1 hL.blk.lt, hL.mp.below hH.1 hL.mp.lt, hL.tab.below hH.1 hL.tab.lt, hL.fis, hL.fl, hL.ct, hL.cg⟩ : Sc1 w0 _ B ts gs en fl L)) HU.out (OO.out.keeps bd)).mono ?_
        rintro e w7 ⟨x7, c7, rfl, ux, b7⟩
        refine hK.out _ _ ⟨bnext hH.1 b7, hH.2.1.keeps b7, hH.2.2.imp fun _ h => h.imp fun _ h => h.imp fun _ h => h.keeps b7⟩ (fun hH => ?_)
        clear hK K
        refine held_take (i := 10) (d := 61) (v := ?_) rfl (by kernel_rfl) (by kernel_rfl) (by kernel_rfl) rfl (fun _ _ _ h => h) rfl hH (fun w' hS => ?_) ?_
        rotate_left
        · go_simp; first | done | with_reducible rfl
        simp only [List.set_cons_zero, List.set_cons_succ]
        refine held_take (i := 11) (d := 62) (v := ?_) rfl (by kernel_rfl) (by kernel_rfl) (by kernel_rfl) rfl (fun _ _ _ h => h) rfl hH (fun w' hS => ?_) ?_
        rotate_left
        · go_simp; first | done | with_reducible rfl
        simp only [List.set_cons_zero, List.set_cons_succ]
        obtain ⟨t9, a9, c9, hg9⟩ := hH.2.2
        refine held_only (i := 12) rfl (by kernel_rfl) rfl (fun K hK => ?_)
        refine op_storeT infTy (.tmp 4) (.tmp 61) rfl (w.heap.size + 1) _ (tyC (infE ts gs en fl x).2 x7 c7) _ rfl rfl hg9 rfl rfl (by simp [tyC, Value.oneCell']) ?_
        intro w8 L8 hs8
        refine hK.out _ _ ⟨hH.1.trans (hs8.below (by omega)), hH.2.1.st hs8 (by omega), _, _, _, L8⟩ (fun hH => ?_)
        clear hK K
        refine held_take (i := 13) (d := 5) (v := ?_) rfl (by kernel_rfl) (by kernel_rfl) (by kernel_rfl) rfl (fun _ _ _ h => h) rfl hH (fun w' hS => ?_) ?_
        rotate_left
        · go_simp; first | done | with_reducible rfl
        simp only [List.set_cons_zero, List.set_cons_succ]
        refine wpAnyH_done (by kernel_rfl) ?_ _
        have U8 := ux.ty hg9 hs8
        have B8 := hH.1
        clear hH
        go_wp2_with fail
        exact ret_T2 infTy Tryz.underlying36 rfl Tryz.results47 _ _ _ _ _ rfl L8 rfl ⟨_, _, rfl, U8, B8⟩
  · rw [if_neg hf0] at hr
    subst hr
    have q0 : (fe != 0) = true := by simp [hf0]
    replace hE := Lib.hid (hE.out.trans (if_neg hf0))
    clear hf0
    go_wp2_with (first | (refine arm_storeT infTy (.tmp 4) (.tmp 23) rfl rfl _ _ _ _ rfl rfl G4.out rfl rfl (by simp [Value.oneCell']) ?_; intro w9 L9 hs9))
    exact ret_T2 infTy Tryz.underlying36 rfl Tryz.results47 _ _ _ _ (tyC t0 none 0) rfl L9 rfl (tr_of hE.out (.nil _ _ _) (BP.out.trans (hs9.below (by omega))))
theorem infer_any (i : Bool) (x : Ex) (ua aa : Option Addr) (uc ac B : Nat) (ts : List Tb) (gs : List Fe) (en : ByteArray) (fl : List Fi) (w0 w : World) (hf : fmE i x = true) (hw0 : Below w0.heap.size w0 w) (hE : Ec w0 x ua uc aa ac) (hS : Scp w0 w B ts gs en fl) : Calls Tryz.prog 47 #[.pointer (some ⟨B, 0, none⟩), .agg (exC x.h x.ar.len ua uc aa ac)] w (TrV (infE ts gs en fl x) w0 w.heap.size w) := by
  have key : ∀ n, ∀ (i : Bool) (x : Ex) (ua aa : Option Addr) (uc ac B : Nat) (ts : List Tb) (gs : List Fe) (en : ByteArray) (fl : List Fi) (w0 w : World), x.ar.sz < n → fmE i x = true → Below w0.heap.size w0 w → Ec w0 x ua uc aa ac → Scp w0 w B ts gs en fl → Calls Tryz.prog 47 #[.pointer (some ⟨B, 0, none⟩), .agg (exC x.h x.ar.len ua uc aa ac)] w (TrV (infE ts gs en fl x) w0 w.heap.size w) := by
    intro n
    induction n with
    | zero => intro i x ua aa uc ac B ts gs en fl w0 w h; exact absurd h (Nat.not_lt_zero _)
    | succ n ih =>
      intro i x ua aa uc ac B ts gs en fl w0 w h hf hw0 hE hS
      have ih' := fun i' x' ua' aa' uc' ac' B' ts' gs' en' fl' w0' w' (h' : x'.ar.sz < x.ar.sz) => ih i' x' ua' aa' uc' ac' B' ts' gs' en' fl' w0' w' (by omega)
      by_cases hk : x.h.k = 5
      · exact infer_agg x.ar.sz ih' i x ua aa uc ac B ts gs en fl w0 w rfl hf hw0 hE hS hk
      · exact infer_other x.ar.sz ih' i x ua aa uc ac B ts gs en fl w0 w rfl hf hw0 hE hS hk
  exact key _ i x ua aa uc ac B ts gs en fl w0 w (Nat.lt_succ_self _) hf hw0 hE hS
end Go.Proofs.YtbkpjhffmaldmaaGreatDoor.ch
namespace Go.Proofs.YtbkpjhffmaldmaaGreatDoor.ch
open Go.RowKit dec

/-- The greatest length of a unit in memory. -/
def K : Nat := 5864062014634
def Fo.lns : Fo → Prop
  | .nil => True
  | .cons h ar r => h.un.length ≤ K ∧ ar.lns ∧ r.lns
def Ty.ln (t : Ty) : Prop := t.un.length ≤ K
structure CtL (ts : List Tb) (gs : List Fe) : Prop where
  t : ∀ t ∈ ts, ∀ f ∈ t.fs, f.ty.ln
  g : ∀ f ∈ gs, f.ty.ln
theorem ln_nil (k : Int) (o : ByteArray) : Ty.ln ⟨k, [], o⟩ := Nat.zero_le _
theorem ln_t0 : t0.ln := Nat.zero_le _
theorem fld_ln {fl : List Fi} (h : ∀ f ∈ fl, f.ty.ln) (n : ByteArray) : (fldT fl n).2.ln := by
  unfold fldT
  split
  · exact ln_t0
  · rename_i f hf
    exact h f (List.mem_of_find?_eq_some hf)
theorem fea_ln {gs : List Fe} (h : ∀ f ∈ gs, f.ty.ln) (en n : ByteArray) : (feaT gs en n).2.ln := by
  unfold feaT
  split
  · exact ln_t0
  · rename_i f hf
    split
    · exact h f (List.mem_of_find?_eq_some hf)
    · exact ln_t0
theorem ok_ln {u : List un.Fa} (h : un.Ok u) : u.length ≤ K := Nat.le_trans h.le (by decide)
theorem cL_ln (p : Int) (a b : List un.Fa) : (un.cL p a b).length ≤ K := by
  by_cases h : un.cE p a b = 0
  · exact ok_ln (un.c_out h).1
  · unfold un.cL
    rw [if_neg h]
    exact Nat.zero_le _
theorem cal_ln {op : ByteArray} {a b : Ty} (ha : a.ln) : (calT op a b).2.ln := by
  have hu : (calU op a.un b.un).2.length ≤ K := by
    unfold calU
    split
    · exact cL_ln _ _ _
    · split
      · exact cL_ln _ _ _
      · split
        · exact ha
        · exact Nat.zero_le _
  unfold calT
  split
  · exact ln_t0
  · split
    · exact ln_t0
    · split
      · exact ln_t0
      · split
        · exact hu
        · exact hu
theorem com_ln {a b : Ty} (ha : a.ln) : (comT a b).2.ln := by
  unfold comT
  split
  · exact ha
  · exact ln_t0
theorem rul_ln {gs : List Fe} {en : ByteArray} {fl : List Fi} {h : Hd} {l : List Ty} (hg : ∀ f ∈ gs, f.ty.ln) (hf : ∀ f ∈ fl, f.ty.ln) (hh : h.un.length ≤ K) (hl : ∀ t ∈ l, t.ln) : (rulT gs en fl h l).2.ln := by
  have hd : ∀ j, (l.getD j t0).ln := fun j => by
    rw [List.getD_eq_getElem?_getD]
    cases hj : l[j]? with
    | none => exact ln_t0
    | some t => exact hl t (List.mem_of_getElem? hj)
  unfold rulT
  repeat' split
  · exact hh
  · exact fld_ln hf _
  · exact fea_ln hg _ _
  · exact fea_ln hg _ _
  · exact ln_t0
  · unfold aggT
    repeat' split
    all_goals first | exact ln_t0 | exact ln_nil _ _ | exact hd _
  · unfold unaT
    repeat' split
    all_goals first | exact ln_t0 | exact hd _ | exact ln_nil _ _
  · unfold binT
    repeat' split
    · exact cal_ln (hd _)
    · exact ln_nil _ _
    · exact ln_t0
  · exact com_ln (hd _)
  · exact ln_t0
  · exact com_ln (hd _)
theorem in_ln {ts : List Tb} (h : ∀ t ∈ ts, ∀ f ∈ t.fs, f.ty.ln) (en n : ByteArray) : ∀ f ∈ (inT ts en n).2, f.ty.ln := by
  unfold inT
  split
  · exact fun f hf => by cases hf
  · rename_i t ht
    split
    · exact h t (List.mem_of_find?_eq_some ht)
    · exact fun f hf => by cases hf
theorem infE_of {ts : List Tb} {gs : List Fe} {en : ByteArray} {fl : List Fi} {x : Ex} (hc : CtL ts gs) (hx : x.h.un.length ≤ K) (hf : ∀ f ∈ fl, f.ty.ln) (IH : ∀ fl' : List Fi, (∀ f ∈ fl', f.ty.ln) → ∀ t ∈ (infL ts gs en x.ar fl').2, t.ln) : (infE ts gs en fl x).2.ln := by
  have hin : ∀ f ∈ (if x.h.k = 5 then inT ts en x.h.tb else (0, fl)).2, f.ty.ln := by
    split
    · exact in_ln hc.t _ _
    · exact hf
  unfold infE
  generalize (if x.h.k = 5 then inT ts en x.h.tb else (0, fl)) = f at *
  simp only
  have ha : ∀ t ∈ (if f.1 = 0 then infL ts gs en x.ar f.2 else (f.1, [])).2, t.ln := by
    split
    · exact IH _ hin
    · exact fun t ht => by cases ht
  generalize (if f.1 = 0 then infL ts gs en x.ar f.2 else (f.1, [])) = a at *
  split
  · exact rul_ln hc.g hf hx ha
  · exact ln_t0
theorem infL_ln {ts : List Tb} {gs : List Fe} (en : ByteArray) (hc : CtL ts gs) : ∀ (F : Fo) (fl : List Fi), F.lns → (∀ f ∈ fl, f.ty.ln) → ∀ t ∈ (infL ts gs en F fl).2, t.ln
  | .nil, _, _, _, t, ht => by cases ht
  | .cons h ar r, fl, hF, hf, t, ht => by
    have hin : (infE ts gs en fl ⟨h, ar⟩).2.ln := infE_of hc hF.1 hf fun fl' hf' => infL_ln en hc ar fl' hF.2.1 hf'
    rw [infL_cons] at ht
    split at ht
    · simp only at ht
      split at ht
      · rcases List.mem_cons.1 ht with rfl | ht
        · exact hin
        · exact infL_ln en hc r fl hF.2.2 hf t ht
      · cases ht
    · cases ht
structure Ex.lns (x : Ex) : Prop where
  h : x.h.un.length ≤ K
  ar : x.ar.lns
theorem infE_ln {ts : List Tb} {gs : List Fe} (en : ByteArray) (hc : CtL ts gs) (x : Ex) (fl : List Fi) (hx : x.lns) (hf : ∀ f ∈ fl, f.ty.ln) : (infE ts gs en fl x).2.ln := infE_of hc hx.h hf fun fl' hf' => infL_ln en hc x.ar fl' hx.ar hf'
theorem inf_ln {ts : List Tb} {gs : List Fe} (en : ByteArray) (hc : CtL ts gs) (x : Ex) (hx : x.lns) : (inf ts gs en x).2.ln := by
  unfold inf
  split
  · exact infE_ln en hc x [] hx (fun f hf => by cases hf)
  · exact ln_t0
end Go.Proofs.YtbkpjhffmaldmaaGreatDoor.ch
namespace Go.Proofs.YtbkpjhffmaldmaaGreatDoor.ch
open Go.RowKit dec

theorem sh_fm {x : Ex} (h : shE x = 0) : fmE false x = true := by
  unfold shE at h
  split at h
  · cases h
  · split at h
    · assumption
    · cases h
theorem sl_ty {w w' : World} {g : Nat} {T : TypeId} {a : Option Addr} {n cap : Nat} {l : List un.Fa} {t : Ty} {ua : Option Addr} {uc : Nat} (h : un.Sl w a n cap l) (hG : Blk w g T (tyC t ua uc)) (hs : St g w w') : un.Sl w' a n cap l := by
  rcases Uw.ty (w0 := w') (N := 0) (w := w) (w' := w') (.inr ⟨h, fun _ _ => Nat.zero_le _⟩) hG hs with h | h
  · exact h
  · exact h.1
/-- What Infer returns. -/
def IfV (r : Int × Ty) (w : World) (e : Ending) (w' : World) : Prop := ∃ ua uc, e = .returned (.tuple #[.agg (tyC r.2 ua uc), .int .i64 r.1]) ∧ un.Sl w' ua r.2.un.length uc r.2.un ∧ Below w.heap.size w w'
set_option maxRecDepth 100000 in
set_option maxHeartbeats 8000000 in
theorem Infer_any (cs : Array Value) (ts : List Tb) (gs : List Fe) (en : ByteArray) (x : Ex) (ua aa : Option Addr) (uc ac : Nat) (w : World) (hC : CtV w cs ts gs) (hcl : CtL ts gs) (hs : x.szs) (hx : x.lns) (hE : Ec w x ua uc aa ac) (T : Tabs w) :
    Calls Tryz.prog 22 #[.agg cs, .string en, .agg (exC x.h x.ar.len ua uc aa ac)] w (IfV (inf ts gs en x) w) := by
  have hC' := hC
  obtain ⟨ta, tn, tc, ga, gn, gc, da, dn, dc, pa, pn, pc, rfl, _, _⟩ := hC
  have HC := Lib.hid hC'
  clear hC'
  have bb := below_three w (.cells (ctC ta tn tc ga gn gc da dn dc pa pn pc) 46) (.cells (exC x.h x.ar.len ua uc aa ac) 29) (.cells #[.int .i64 0, .slice none 0 0, .string ⟨#[]⟩] 36)
  have B0 := Lib.hid bb
  have GG := bw_three w (ctC ta tn tc ga gn gc da dn dc pa pn pc) (exC x.h x.ar.len ua uc aa ac) #[.int .i64 0, .slice none 0 0, .string ⟨#[]⟩] 46 29 36
  have GC := Lib.hid GG.1
  have GX := Lib.hid GG.2.1
  have G6 := Lib.hid GG.2.2
  have C1 := Lib.hid (shape_any' x ua aa uc ac _ hs (hE.keeps bb) (T.stays bb))
  have HE := Lib.hid hE
  have hLn := Lib.hid (inf_ln en hcl x hx)
  have CN := Lib.hid (fun W => newScope_any w _ ts gs en ⟨.empty, .empty, [], 0⟩ none 0 W HC.out (Rw.nil 4 FiV w))
  have CI := Lib.hid (fun (hf : fmE false x = true) (B : Nat) (W : World) (hb : Below w.heap.size w W) (hS : Scp w W B ts gs en []) => infer_any false x ua aa uc ac B ts gs en [] w W hf hb HE.out hS)
  have CC := Lib.hid (fun (t : Ty) (ht : t.ln) (a : Option Addr) (c : Nat) (W : World) (hU : un.Sl W a t.un.length c t.un) => un.clone_any a t.un.length c t.un W hU (Nat.lt_of_le_of_lt ht (by decide)))
  have hI : inf ts gs en x = inf ts gs en x := rfl
  conv at hI => rhs; unfold inf
  replace hI := Lib.hid hI
  have hsh : Hid (shE x = 0 → fmE false x = true) := Lib.hid sh_fm
  clear hE T hs hx hcl bb GG
  unfold exC ctC at *
  generalize shE x = q at *
  go_enter Tryz.func22, Tryz.ntmps22
  go_upto_region 1 with fail
  have hz : (((w.alloc (.cells #[.slice ta tn tc, .slice ga gn gc, .slice da dn dc, .slice pa pn pc] 46)).alloc (.cells #[.int .i64 x.h.k, .string x.h.op, .string x.h.nm, .string x.h.tb, .int .i64 x.h.vk, .int .i64 x.h.vn, .string x.h.vs, .slice ua x.h.un.length uc, .int .i64 x.h.pa, .int .i64 x.h.wk, .int .i64 x.h.ws, .slice aa x.ar.len ac] 29)).alloc (.cells #[.int .i64 0, .slice none 0 0, .string ⟨#[]⟩] 36)).heap.size = w.heap.size + 2 + 1 := by simp
  replace hz := Lib.hid hz
  simp only [Nat.add_assoc, Nat.reduceAdd] at *
  generalize (((w.alloc (.cells #[.slice ta tn tc, .slice ga gn gc, .slice da dn dc, .slice pa pn pc] 46)).alloc (.cells #[.int .i64 x.h.k, .string x.h.op, .string x.h.nm, .string x.h.tb, .int .i64 x.h.vk, .int .i64 x.h.vn, .string x.h.vs, .slice ua x.h.un.length uc, .int .i64 x.h.pa, .int .i64 x.h.wk, .int .i64 x.h.ws, .slice aa x.ar.len ac] 29)).alloc (.cells #[.int .i64 0, .slice none 0 0, .string ⟨#[]⟩] 36)) = wb at *
  go_wp2_with (first | (refine arm_loadT infX Tryz.underlying29 rfl (.tmp 5) rfl rfl _ _ _ rfl GX.out rfl ?_))
  refine (C1.out).mono ?_
  rintro e w1 ⟨rfl, b1⟩
  have B1 := Lib.hid (bnext B0.out b1)
  replace GC := Lib.hid (GC.out.keeps b1)
  replace GX := Lib.hid (GX.out.keeps b1)
  replace G6 := Lib.hid (G6.out.keeps b1)
  clear b1 C1
  by_cases hi27 : q = 0
  · have qi27 := in_is hi27
    have qj27 : (q != 0) = false := by simp [hi27]
    replace hi27 := Lib.hid hi27
    replace hI := Lib.hid (hI.out.trans (if_pos hi27.out))
    replace hsh := Lib.hid (hsh.out hi27.out)
    go_wp2_with fail
    unfold tbC at CN
    refine wp_region_held_drew (S := fun w' => Below w.heap.size w w' ∧ (Blk w' w.heap.size 46 #[.slice ta tn tc, .slice ga gn gc, .slice da dn dc, .slice pa pn pc]) ∧ (Blk w' (w.heap.size + 1) 29 #[.int .i64 x.h.k, .string x.h.op, .string x.h.nm, .string x.h.tb, .int .i64 x.h.vk, .int .i64 x.h.vn, .string x.h.vs, .slice ua x.h.un.length uc, .int .i64 x.h.pa, .int .i64 x.h.wk, .int .i64 x.h.ws, .slice aa x.ar.len ac]) ∧ ∃ t9 a9 c9, Blk w' (w.heap.size + 2) 36 (tyC t9 a9 c9)) (by kernel_rfl) ⟨B1.out.drew, GC.out.drew, GX.out.drew, t0, none, 0, G6.out.drew⟩ (fun hH => ?_)
    refine held_take (i := 0) (d := 15) (v := .agg #[.slice ta tn tc, .slice ga gn gc, .slice da dn dc, .slice pa pn pc]) rfl (by kernel_rfl) (by kernel_rfl) (by kernel_rfl) rfl (fun _ _ _ h => h) rfl hH (fun w' hS => yield_load infCa Tryz.underlying46 rfl (.tmp 3) rfl _ _ _ rfl hS.2.1 rfl) ?_
    simp only [List.set_cons_zero, List.set_cons_succ]
    refine held_take (i := 1) (d := 16) (v := ?_) rfl (by kernel_rfl) (by kernel_rfl) (by kernel_rfl) rfl (fun _ _ _ h => h) rfl hH (fun w' hS => ?_) ?_
    rotate_left
    · go_simp; first | done | with_reducible rfl
    simp only [List.set_cons_zero, List.set_cons_succ]
    refine held_take (i := 2) (d := 17) (v := ?_) rfl (by kernel_rfl) (by kernel_rfl) (by kernel_rfl) rfl (fun _ _ _ h => h) rfl hH (fun w' hS => ?_) ?_
    rotate_left
    · go_simp; first | done | with_reducible rfl
    simp only [List.set_cons_zero, List.set_cons_succ]
    refine held_take (i := 4) (d := 19) (v := .agg #[.int .i64 x.h.k, .string x.h.op, .string x.h.nm, .string x.h.tb, .int .i64 x.h.vk, .int .i64 x.h.vn, .string x.h.vs, .slice ua x.h.un.length uc, .int .i64 x.h.pa, .int .i64 x.h.wk, .int .i64 x.h.ws, .slice aa x.ar.len ac]) rfl (by kernel_rfl) (by kernel_rfl) (by kernel_rfl) rfl (fun _ _ _ h => h) rfl hH (fun w' hS => yield_load infX Tryz.underlying29 rfl (.tmp 5) rfl _ _ _ rfl hS.2.2.1 rfl) ?_
    simp only [List.set_cons_zero, List.set_cons_succ]
    refine held_only (i := 3) rfl (by kernel_rfl) rfl (fun K hK => ?_)
    go_simp
    refine (CN.out _).mono ?_
    rintro e w6 ⟨B, rfl, hS6, b6⟩
    refine hK.out _ _ ⟨bnext hH.1 b6, hH.2.1.keeps b6, hH.2.2.1.keeps b6, hH.2.2.2.imp fun _ h => h.imp fun _ h => h.imp fun _ h => h.keeps b6⟩ (fun hH => ?_)
    clear hK K
    refine held_only (i := 5) rfl (by kernel_rfl) rfl (fun K hK => ?_)
    go_simp
    refine (CI.out hsh.out B _ hH.1 hS6).mono ?_
    rintro e w7 ⟨x7, c7, rfl, ux, b7⟩
    have hs7 := ux.sl (bnext hH.1 b7)
    refine hK.out _ _ ⟨bnext hH.1 b7, hH.2.1.keeps b7, hH.2.2.1.keeps b7, hH.2.2.2.imp fun _ h => h.imp fun _ h => h.imp fun _ h => h.keeps b7⟩ (fun hH => ?_)
    clear hK K
    refine held_take (i := 6) (d := 14) (v := ?_) rfl (by kernel_rfl) (by kernel_rfl) (by kernel_rfl) rfl (fun _ _ _ h => h) rfl hH (fun w' hS => ?_) ?_
    rotate_left
    · go_simp; first | done | with_reducible rfl
    simp only [List.set_cons_zero, List.set_cons_succ]
    refine held_take (i := 7) (d := 21) (v := ?_) rfl (by kernel_rfl) (by kernel_rfl) (by kernel_rfl) rfl (fun _ _ _ h => h) rfl hH (fun w' hS => ?_) ?_
    rotate_left
    · go_simp; first | done | with_reducible rfl
    simp only [List.set_cons_zero, List.set_cons_succ]
    refine held_take (i := 8) (d := 22) (v := ?_) rfl (by kernel_rfl) (by kernel_rfl) (by kernel_rfl) rfl (fun _ _ _ h => h) rfl hH (fun w' hS => ?_) ?_
    rotate_left
    · go_simp; first | done | with_reducible rfl
    simp only [List.set_cons_zero, List.set_cons_succ]
    obtain ⟨t9, a9, c9, hg9⟩ := hH.2.2.2
    refine held_only (i := 9) rfl (by kernel_rfl) rfl (fun K hK => ?_)
    refine op_storeT infTy (.tmp 6) (.tmp 21) rfl (w.heap.size + 2) _ (tyC (infE ts gs en [] x).2 x7 c7) _ rfl rfl hg9 rfl rfl (by simp [tyC, Value.oneCell']) ?_
    intro w8 L8 hs8
    refine hK.out _ _ ⟨hH.1.trans (hs8.below (by omega)), hH.2.1.st hs8 (by omega), hH.2.2.1.st hs8 (by omega), _, _, _, L8⟩ (fun hH => ?_)
    clear hK K
    refine held_take (i := 10) (d := 7) (v := ?_) rfl (by kernel_rfl) (by kernel_rfl) (by kernel_rfl) rfl (fun _ _ _ h => h) rfl hH (fun w' hS => ?_) ?_
    rotate_left
    · go_simp; first | done | with_reducible rfl
    simp only [List.set_cons_zero, List.set_cons_succ]
    refine wpAnyH_done (by kernel_rfl) ?_ _
    have U8 := ux.ty hg9 hs8
    have B8 := Lib.hid hH.1
    have S8 := Lib.hid (U8.sl B8.out)
    have L8 := Lib.hid L8
    clear hH U8 ux hs8 hg9 b7 b6 hS6 hs7
    skip
    have hI2 := hI.out
    generalize infE ts gs en [] x = r at *
    have hr := Lib.hid (show r.2.ln by rw [← hI2]; exact hLn.out)
    replace hI := Lib.hid hI2
    clear hI2 hLn HC CN CI HE GC GX
    have e1 := L8.out.cell 1
    simp only [tyC, List.getElem?_toArray, List.getElem?_cons_zero, List.getElem?_cons_succ] at e1
    go_wp2_with fail
    refine (CC.out r.2 hr.out x7 c7 _ S8.out).mono ?_
    rintro e w10 ⟨v, rfl, o10, b10⟩
    obtain ⟨xa, xc, rfl, S10⟩ := o10.sl
    have B10 := Lib.hid (bnext B8.out b10)
    have L10 := Lib.hid (L8.out.keeps b10)
    have f1 := L10.out.cell 1
    have z1 := L10.out.free 1
    simp only [tyC, List.getElem?_toArray, List.getElem?_cons_zero, List.getElem?_cons_succ] at f1
    have P11 := L10.out.setCell 1 (.slice xa r.2.un.length xc)
    have L11 := Lib.hid (show Blk (w10.setCell ⟨w.heap.size + 2, 1, none⟩ (.slice xa r.2.un.length xc)) (w.heap.size + 2) 36 (tyC r.2 xa xc) from by simpa [tyC] using P11.1)
    have S11 := Lib.hid (sl_ty S10 L10.out P11.2)
    have B11 := Lib.hid (B10.out.trans (P11.2.below (by omega)))
    clear b10 o10 S10 P11 e1 CC
    go_wp2_with (first | (refine arm_loadT infTy Tryz.underlying36 rfl (.tmp 6) rfl rfl _ _ _ rfl L11.out rfl ?_) | (refine arm_storeT infTy (.tmp 6) (.tmp 27) rfl rfl _ _ _ _ rfl rfl L11.out rfl rfl (by simp [tyC, Value.oneCell']) ?_; intro w12 L12 hs12))
    exact ret_T2 infTy Tryz.underlying36 rfl Tryz.results22 _ _ _ _ (tyC r.2 xa xc) rfl L12 rfl (by show IfV (inf ts gs en x) w _ _; rw [hI.out]; exact ⟨xa, xc, rfl, sl_ty S11.out L11.out hs12, B11.out.trans (hs12.below (by omega))⟩)
  · have qi27 := in_ne hi27
    have qj27 : (q != 0) = true := by simp [hi27]
    replace hi27 := Lib.hid hi27
    replace hI := Lib.hid (hI.out.trans (if_neg hi27.out))
    clear CN CI CC hLn hsh
    go_wp2_with (first | (refine arm_storeT infTy (.tmp 6) (.tmp 12) rfl rfl _ _ _ _ rfl rfl G6.out rfl rfl (by simp [Value.oneCell']) ?_; intro w9 L9 hs9))
    exact ret_T2 infTy Tryz.underlying36 rfl Tryz.results22 _ _ _ _ (tyC t0 none 0) rfl L9 rfl ⟨none, 0, by rw [hI.out]; rfl, by rw [hI.out]; exact .nil _, B1.out.trans (hs9.below (by omega))⟩
end Go.Proofs.YtbkpjhffmaldmaaGreatDoor.ch
namespace Go.Proofs.YtbkpjhffmaldmaaGreatDoor.ch
open Go.RowKit dec

/-- The strings and units of a feature are those of a memory. -/
structure Fe.szs (f : Fe) : Prop where
  nm : f.nm.size ≤ 140737488355328
  en : f.en.size ≤ 140737488355328
  of : f.ty.of.size ≤ 140737488355328
  bo : f.bo.szs
  ln : f.bo.lns
set_option maxRecDepth 100000 in
set_option maxHeartbeats 8000000 in
theorem Feature_any (cs : Array Value) (ts : List Tb) (gs : List Fe) (f : Fe) (xa ua aa : Option Addr) (xc uc ac : Nat) (w : World) (hC : CtV w cs ts gs) (hcl : CtL ts gs) (hs : f.szs) (hU : un.Sl w xa f.ty.un.length xc f.ty.un) (hE : Ec w f.bo ua uc aa ac) (T : Tabs w) :
    Calls Tryz.prog 24 #[.agg cs, .agg (feC f xa xc ua uc aa ac)] w (Num (feE ts gs f) w) := by
  have hC' := hC
  obtain ⟨ta, tn, tc, ga, gn, gc, da, dn, dc, pa, pn, pc, rfl, _, _⟩ := hC
  have bb := below_two w (.cells (ctC ta tn tc ga gn gc da dn dc pa pn pc) 46) (.cells (feC f xa xc ua uc aa ac) 54)
  have B0 := Lib.hid bb
  have GG := bw_two w (ctC ta tn tc ga gn gc da dn dc pa pn pc) (feC f xa xc ua uc aa ac) 46 54
  have GC := Lib.hid GG.1
  have GF := Lib.hid GG.2
  have T0 := Lib.hid (T.stays bb)
  have S0 := Lib.hid (hU.keeps bb)
  have HS := Lib.hid hs
  have C1 := Lib.hid (fun W T => nameW_any f.nm hs.nm W T)
  have C2 := Lib.hid (fun W T => nameW_any f.en hs.en W T)
  have C3 := Lib.hid (fun W S T => type_any f.ty xa xc W S hs.of T)
  have C4 := Lib.hid (fun (W : World) (hb : Below w.heap.size w W) (T : Tabs W) => Infer_any (ctC ta tn tc ga gn gc da dn dc pa pn pc) ts gs f.en f.bo ua aa uc ac W (hC'.imp fun _ h => h.imp fun _ h => h.imp fun _ h => h.imp fun _ h => h.imp fun _ h => h.imp fun _ h => h.imp fun _ h => h.imp fun _ h => h.imp fun _ h => h.imp fun _ h => h.imp fun _ h => h.imp fun _ h => ⟨h.1, Tbs'.keeps h.2.1 hb, Fes.keeps h.2.2 hb⟩) hcl hs.bo hs.ln (hE.keeps hb) T)
  have C5 := Lib.hid (fun a uq cq W h1 h2 => difference_any a f.ty uq xa cq xc W h1 h2)
  have hI : feE ts gs f = feE ts gs f := rfl
  conv at hI => rhs; unfold feE
  replace hI := Lib.hid hI
  clear hC' hU hE T hs hcl bb GG
  unfold feC ctC at *
  generalize name f.nm = n1 at *
  generalize name f.en = n2 at *
  generalize tyE f.ty = te at *
  generalize inf ts gs f.en f.bo = r at *
  go_enter Tryz.func24, Tryz.ntmps24
  go_upto_region 1 with fail
  have hz := Lib.hid (show ((w.alloc (.cells #[.slice ta tn tc, .slice ga gn gc, .slice da dn dc, .slice pa pn pc] 46)).alloc (.cells #[.string f.nm, .string f.en, .int .i64 f.ty.k, .slice xa f.ty.un.length xc, .string f.ty.of, .int .i64 f.bo.h.k, .string f.bo.h.op, .string f.bo.h.nm, .string f.bo.h.tb, .int .i64 f.bo.h.vk, .int .i64 f.bo.h.vn, .string f.bo.h.vs, .slice ua f.bo.h.un.length uc, .int .i64 f.bo.h.pa, .int .i64 f.bo.h.wk, .int .i64 f.bo.h.ws, .slice aa f.bo.ar.len ac, .int .i64 f.vr] 54)).heap.size = w.heap.size + 2 by simp)
  generalize ((w.alloc (.cells #[.slice ta tn tc, .slice ga gn gc, .slice da dn dc, .slice pa pn pc] 46)).alloc (.cells #[.string f.nm, .string f.en, .int .i64 f.ty.k, .slice xa f.ty.un.length xc, .string f.ty.of, .int .i64 f.bo.h.k, .string f.bo.h.op, .string f.bo.h.nm, .string f.bo.h.tb, .int .i64 f.bo.h.vk, .int .i64 f.bo.h.vn, .string f.bo.h.vs, .slice ua f.bo.h.un.length uc, .int .i64 f.bo.h.pa, .int .i64 f.bo.h.wk, .int .i64 f.bo.h.ws, .slice aa f.bo.ar.len ac, .int .i64 f.vr] 54)) = wb at *
  have a0 := GF.out.cell 0
  simp only [List.getElem?_toArray, List.getElem?_cons_zero] at a0
  go_wp2_with fail
  refine (C1.out _ T0.out).mono ?_
  rintro e w1 ⟨rfl, b1⟩
  have B1 := Lib.hid (bnext B0.out b1)
  replace T0 := Lib.hid (T0.out.stays b1)
  replace S0 := Lib.hid (S0.out.keeps b1)
  replace GC := Lib.hid (GC.out.keeps b1)
  replace GF := Lib.hid (GF.out.keeps b1)
  have c1 := GF.out.cell 1
  have c17 := GF.out.cell 17
  simp only [List.getElem?_toArray, List.getElem?_cons_zero, List.getElem?_cons_succ] at c1 c17
  clear b1 C1 a0
  cases n1
  · replace hI := Lib.hid (hI.out.trans (if_pos rfl))
    go_wp2_with fail
    go_ret
    exact nu_of (by rw [hI.out]) B1.out
  · replace hI := Lib.hid (hI.out.trans (if_neg (by decide)))
    go_wp2_with fail
    refine (C2.out _ T0.out).mono ?_
    rintro e w2 ⟨rfl, b2⟩
    have B2 := Lib.hid (bnext B1.out b2)
    replace T0 := Lib.hid (T0.out.stays b2)
    replace S0 := Lib.hid (S0.out.keeps b2)
    replace GC := Lib.hid (GC.out.keeps b2)
    replace GF := Lib.hid (GF.out.keeps b2)
    have d1 := GF.out.cell 1
    have d2 := GF.out.cell 2
    have d3 := GF.out.cell 3
    have d4 := GF.out.cell 4
    have d17 := GF.out.cell 17
    simp only [List.getElem?_toArray, List.getElem?_cons_zero, List.getElem?_cons_succ] at d1 d2 d3 d4 d17
    clear b2 C2
    cases n2
    · replace hI := Lib.hid (hI.out.trans (if_pos rfl))
      go_wp2_with fail
      go_ret
      exact nu_of (by rw [hI.out]) B2.out
    · replace hI := Lib.hid (hI.out.trans (if_neg (by decide)))
      by_cases hv : f.vr < 0
      · have qv : decide (f.vr < 0) = true := decide_eq_true hv
        replace hI := Lib.hid (hI.out.trans (if_pos hv))
        go_wp2_with fail
        go_ret
        exact nu_of (by rw [hI.out]) B2.out
      · have qv : decide (f.vr < 0) = false := decide_eq_false hv
        replace hI := Lib.hid (hI.out.trans (if_neg hv))
        have R1 := Lib.hid (blk_range GF.out 2 (tyC f.ty xa xc).toList rfl)
        go_wp2_with (first | (refine arm_mid infTy Tryz.underlying36 rfl (.tmp 21) rfl rfl (w.heap.size + 1) 2 (tyC f.ty xa xc) rfl R1.out rfl ?_))
        refine (C3.out _ S0.out T0.out).mono ?_
        rintro e w3 ⟨rfl, b3⟩
        have B3 := Lib.hid (bnext B2.out b3)
        replace T0 := Lib.hid (T0.out.stays b3)
        replace S0 := Lib.hid (S0.out.keeps b3)
        replace GC := Lib.hid (GC.out.keeps b3)
        replace GF := Lib.hid (GF.out.keeps b3)
        have e1 := GF.out.cell 1
        have e2 := GF.out.cell 2
        have e3 := GF.out.cell 3
        have e4 := GF.out.cell 4
        have e5 := GF.out.cell 5
        simp only [List.getElem?_toArray, List.getElem?_cons_zero, List.getElem?_cons_succ] at e1 e2 e3 e4 e5
        clear b3 C3 R1
        by_cases hi27 : te = 0
        · have qi27 := in_is hi27
          have qj27 : (te != 0) = false := by simp [hi27]
          replace hi27 := Lib.hid hi27
          replace hI := Lib.hid (hI.out.trans (if_neg (fun e => e hi27.out)))
          have R2 := Lib.hid (blk_range GF.out 5 (exC f.bo.h f.bo.ar.len ua uc aa ac).toList rfl)
          go_wp2_with (first | (refine arm_loadT infCa Tryz.underlying46 rfl (.tmp 2) rfl rfl _ _ _ rfl GC.out rfl ?_) | (refine arm_mid infX Tryz.underlying29 rfl (.tmp 31) rfl rfl (w.heap.size + 1) 5 (exC f.bo.h f.bo.ar.len ua uc aa ac) rfl R2.out rfl ?_))
          refine (C4.out _ B3.out T0.out).mono ?_
          rintro e w7 ⟨ya, yc, rfl, sy, b7⟩
          have B7 := Lib.hid (bnext B3.out b7)
          have SY := Lib.hid sy
          replace S0 := Lib.hid (S0.out.keeps b7)
          replace GF := Lib.hid (GF.out.keeps b7)
          clear b7 sy C4 R2
          by_cases hi28 : r.1 = 0
          · have qi28 := in_is hi28
            have qj28 : (r.1 != 0) = false := by simp [hi28]
            replace hi28 := Lib.hid hi28
            replace hI := Lib.hid (hI.out.trans (if_neg (fun e => e hi28.out)))
            go_wp2_with (first | (refine arm_storeT infTy (.tmp 5) (.tmp 34) rfl rfl _ _ _ _ rfl rfl (Blk.new _ _ _) rfl rfl (by simp [tyC, Value.oneCell']) ?_; intro w8 L8 hs8; have bb8 := (balloc (b0 w7) _).trans (hs8.below (Nat.le_refl _)); have h2 := (GF.out.keeps bb8).cell 2; simp only [List.getElem?_toArray, List.getElem?_cons_zero, List.getElem?_cons_succ] at h2) | (refine arm_loadT infTy Tryz.underlying36 rfl (.tmp 5) rfl rfl _ _ _ rfl L8 rfl ?_) | (refine arm_mid infTy Tryz.underlying36 rfl (.tmp 40) rfl rfl (w.heap.size + 1) 2 (tyC f.ty xa xc) rfl (blk_range (GF.out.keeps bb8) 2 (tyC f.ty xa xc).toList rfl) rfl ?_))
            refine (C5.out r.2 ya yc _ (SY.out.keeps bb8) (S0.out.keeps bb8)).mono ?_
            rintro e w9 ⟨rfl, b9⟩
            have B9 := Lib.hid (bnext (bnext B7.out bb8) b9)
            clear b9 bb8 hs8 L8 C5
            go_wp2_with fail
            go_ret
            exact nu_of (by rw [hI.out]) B9.out
          · have qi28 := in_ne hi28
            have qj28 : (r.1 != 0) = true := by simp [hi28]
            replace hi28 := Lib.hid hi28
            replace hI := Lib.hid (hI.out.trans (if_pos hi28.out))
            go_wp2_with (first | (refine arm_storeT infTy (.tmp 5) (.tmp 34) rfl rfl _ _ _ _ rfl rfl (Blk.new _ _ _) rfl rfl (by simp [tyC, Value.oneCell']) ?_; intro w8 L8 hs8; have bb8 := (balloc (b0 w7) _).trans (hs8.below (Nat.le_refl _))))
            go_ret
            exact nu_of (by rw [hI.out]) (bnext B7.out bb8)
        · have qi27 := in_ne hi27
          have qj27 : (te != 0) = true := by simp [hi27]
          replace hi27 := Lib.hid hi27
          replace hI := Lib.hid (hI.out.trans (if_pos hi27.out))
          go_wp2_with fail
          go_ret
          exact nu_of (by rw [hI.out]) B3.out
end Go.Proofs.YtbkpjhffmaldmaaGreatDoor.ch
