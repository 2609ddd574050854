/-
  A feature; An item: a table or a feature, by a map of methods; leave: goes on behind the next ";"; SortFunc over problems, by offset; Module.
-/
import Derived.Maps.OwnSet
import Derived.Test.YtbpijgddfaefkaaGreatDoorU04
import Derived.Test.YtbpijgddfaefkaaGreatDoorU06
import Derived.Test.YtbpijgddfaefkaaGreatDoorU08
import Derived.Test.YtbpijgddfaefkaaGreatDoorU17
import Derived.Test.YtbpijgddfaefkaaGreatDoorU18
namespace Go.Proofs.YtbpijgddfaefkaaGreatDoor.pa
open Go.RowKit dec

set_option maxRecDepth 100000 in
set_option maxHeartbeats 4000000 in
theorem feature_r (w0 : World) (base B g : Nat) (ta : Option Addr) (n cap : Nat) (m : Mo) (l : List Tk) (w : World) (h : Mf w0 base B g ta n cap w m l) (hn : m.fs.length < 1048577) (r : Rs Fe) (hr : feaR l = r) (hne : r ≠ .out) :
    Calls Tryz.prog 74 #[.pointer (some ⟨B, 0, none⟩), .pointer (some ⟨g, 0, none⟩)] w (Mst w0 base B g ta n cap m (r.bind fun t q => .ok { m with fs := m.fs ++ [t] } q) w) := by
  have P := Lib.hid h.ps
  have M := Lib.hid (Mv.refl w.heap.size B w)
  have HF := Lib.hid h
  have NE := Lib.hid hne
  replace hn := Lib.hid hn
  unfold feaR at hr
  have HR := Lib.hid hr
  clear h hne hr
  go_enter Tryz.func74, Tryz.ntmps74
  go_wp2_with fail
  refine (nameAfter_r B ⟨#[102, 101, 97, 116, 117, 114, 101]⟩ l _ P.out _ rfl (nma_ne _ _)).mono ?_
  rintro e w1 h1
  rcases hG1 : nma ⟨#[102, 101, 97, 116, 117, 114, 101]⟩ l with _ | ⟨v1, l1⟩ | ⟨a1, c1, l1⟩
  · exact absurd (by rw [← HR.out, hG1]; rfl) NE.out
  rotate_left
  · rw [hG1] at h1
    obtain ⟨rfl, pp, mm⟩ := h1
    unfold thr
    have hno := Lib.hid (show r = .no a1 c1 l1 by rw [← HR.out, hG1]; rfl)
    have PP := Lib.hid pp
    have MM := Lib.hid (M.out.next mm)
    clear pp mm hG1
    go_wp2_with fail
    exact ⟨rfl, mst_no HF.out (by rw [hno.out]; rfl) PP.out MM.out⟩
  rw [hG1] at h1
  obtain ⟨u1, rfl, vv, pp, mm⟩ := h1
  replace HR := HR.out
  rw [hG1] at HR
  simp only [bind_okE] at HR
  replace HR := Lib.hid HR
  replace M := Lib.hid (M.out.next mm)
  replace P := Lib.hid pp
  clear pp mm hG1
  obtain rfl : u1 = .string v1 := vv
  go_wp2_with fail
  refine (nameAfter_r B ⟨#[111, 102]⟩ l1 _ P.out _ rfl (nma_ne _ _)).mono ?_
  rintro e w2 h2
  rcases hG2 : nma ⟨#[111, 102]⟩ l1 with _ | ⟨v2, l2⟩ | ⟨a2, c2, l2⟩
  · exact absurd (by rw [← HR.out, hG2]; rfl) NE.out
  rotate_left
  · rw [hG2] at h2
    obtain ⟨rfl, pp, mm⟩ := h2
    unfold thr
    have hno := Lib.hid (show r = .no a2 c2 l2 by rw [← HR.out, hG2]; rfl)
    have PP := Lib.hid pp
    have MM := Lib.hid (M.out.next mm)
    clear pp mm hG2
    go_wp2_with fail
    exact ⟨rfl, mst_no HF.out (by rw [hno.out]; rfl) PP.out MM.out⟩
  rw [hG2] at h2
  obtain ⟨u2, rfl, vv, pp, mm⟩ := h2
  replace HR := HR.out
  rw [hG2] at HR
  simp only [bind_okE] at HR
  replace HR := Lib.hid HR
  replace M := Lib.hid (M.out.next mm)
  replace P := Lib.hid pp
  clear pp mm hG2
  obtain rfl : u2 = .string v2 := vv
  go_wp2_with (refine arm_storeT infFe (.tmp 4) (.tmp 9) rfl rfl _ _ _ _ rfl rfl (Blk.new _ _ _) rfl rfl (by simp [Value.oneCell']) ?_; intro wL L hs; have bb := (balloc (b0 w2) _).trans (hs.below (Nat.le_refl _)); replace L := Lib.hid L; have gL := Lib.hid P.out.lt; have hL := Lib.hid M.out.size; replace M := Lib.hid (M.out.nextB bb); replace P := Lib.hid (P.out.keeps bb); clear bb hs)
  go_wp2_with fail
  refine (need_any B ⟨#[58]⟩ l2 _ P.out).mono ?_
  rintro e w3 h3
  rcases hG3 : need ⟨#[58]⟩ l2 with _ | ⟨v3, l3⟩ | ⟨a3, c3, l3⟩
  · exact absurd (by rw [← HR.out, hG3]; rfl) NE.out
  rotate_left
  · rw [hG3] at h3
    obtain ⟨rfl, pp, mm⟩ := h3
    unfold thr
    have hno := Lib.hid (show r = .no a3 c3 l3 by rw [← HR.out, hG3]; rfl)
    have PP := Lib.hid pp
    have MM := Lib.hid (M.out.next mm)
    clear pp mm hG3
    go_wp2_with fail
    exact ⟨rfl, mst_no HF.out (by rw [hno.out]; rfl) PP.out MM.out⟩
  rw [hG3] at h3
  obtain ⟨u3, rfl, vv, pp, mm⟩ := h3
  replace HR := HR.out
  rw [hG3] at HR
  simp only [bind_okE] at HR
  replace HR := Lib.hid HR
  replace M := Lib.hid (M.out.next mm)
  replace L := Lib.hid (L.out.mv mm (by have := gL.out; omega) L.out.lt)
  replace P := Lib.hid pp
  clear pp mm hG3
  obtain rfl : u3 = .tuple #[] := vv
  have sB := Lib.hid M.out.size
  go_wp2_with fail
  refine (type_r B l3 _ P.out _ rfl (typ_ne _)).mono ?_
  rintro e w4 h4
  rcases hG4 : typ l3 with _ | ⟨v4, l4⟩ | ⟨a4, c4, l4⟩
  · exact absurd (by rw [← HR.out, hG4]; rfl) NE.out
  rotate_left
  · rw [hG4] at h4
    obtain ⟨rfl, pp, mm⟩ := h4
    unfold thr
    have hno := Lib.hid (show r = .no a4 c4 l4 by rw [← HR.out, hG4]; rfl)
    have PP := Lib.hid pp
    have MM := Lib.hid (M.out.next mm)
    clear pp mm hG4
    go_wp2_with fail
    exact ⟨rfl, mst_no HF.out (by rw [hno.out]; rfl) PP.out MM.out⟩
  rw [hG4] at h4
  obtain ⟨u4, rfl, vv, pp, mm⟩ := h4
  replace HR := HR.out
  rw [hG4] at HR
  simp only [bind_okE] at HR
  replace HR := Lib.hid HR
  replace M := Lib.hid (M.out.next mm)
  replace L := Lib.hid (L.out.mv mm (by have := gL.out; omega) L.out.lt)
  replace P := Lib.hid pp
  clear pp mm hG4
  have V4 := Lib.hid vv
  clear vv
  obtain ⟨ua, uc, rfl, U⟩ := V4.out
  replace U := Lib.hid (Us.less (C' := base) U (Nat.le_trans HF.out.h4 sB.out))
  clear V4
  go_wp2_with (refine arm_storeAt infTy (.tmp 14) (.tmp 13) rfl rfl w2.heap.size 2 _ #[.int .i64 v4.k, .slice ua v4.un.length uc, .string v4.of] _ rfl rfl L.out (by simp) rfl (by simp [Value.oneCell']) ?_; intro wt L9 hs; have KA : KpT (fun T => T = 55 ∨ T = 43) base w4 wt := St.kpT hs L.out (by decide) _; replace U := Lib.hid (Us.kpT (ok := fun T => T = 55 ∨ T = 43) U.out (.inl rfl) KA); replace P := Lib.hid (P.out.st hs gL.out); replace M := Lib.hid (M.out.trans (hs.mv hL.out)); replace L := Lib.hid (show Blk wt w2.heap.size 88 #[.string v1, .string v2, .int .i64 v4.k, .slice ua v4.un.length uc, .string v4.of, .int .i64 0, .string .empty, .string .empty, .string .empty, .int .i64 0, .int .i64 0, .string .empty, .slice none 0 0, .int .i64 0, .int .i64 0, .int .i64 0, .slice none 0 0, .int .i64 0] from L9); clear L9 hs KA)
  refine (need_any B ⟨#[61]⟩ l4 _ P.out).mono ?_
  rintro e w5 h5
  rcases hG5 : need ⟨#[61]⟩ l4 with _ | ⟨v5, l5⟩ | ⟨a5, c5, l5⟩
  · exact absurd (by rw [← HR.out, hG5]; rfl) NE.out
  rotate_left
  · rw [hG5] at h5
    obtain ⟨rfl, pp, mm⟩ := h5
    unfold thr
    have hno := Lib.hid (show r = .no a5 c5 l5 by rw [← HR.out, hG5]; rfl)
    have PP := Lib.hid pp
    have MM := Lib.hid (M.out.next mm)
    clear pp mm hG5
    go_wp2_with fail
    exact ⟨rfl, mst_no HF.out (by rw [hno.out]; rfl) PP.out MM.out⟩
  rw [hG5] at h5
  obtain ⟨u5, rfl, vv, pp, mm⟩ := h5
  replace HR := HR.out
  rw [hG5] at HR
  simp only [bind_okE] at HR
  replace HR := Lib.hid HR
  replace M := Lib.hid (M.out.next mm)
  replace L := Lib.hid (L.out.mv mm (by have := gL.out; omega) L.out.lt)
  replace U := Lib.hid (Us.kp U.out (mm.kp HF.out.h3))
  replace P := Lib.hid pp
  clear pp mm hG5
  obtain rfl : u5 = .tuple #[] := vv
  go_wp2_with fail
  refine (outside_any B _).mono ?_
  rintro e w6 ⟨rfl, b⟩
  have mm := Mv.of (B := B) b
  replace M := Lib.hid (M.out.next mm)
  replace L := Lib.hid (L.out.mv mm (by have := gL.out; omega) L.out.lt)
  replace U := Lib.hid (Us.kp U.out (mm.kp HF.out.h3))
  replace P := Lib.hid (P.out.keeps b)
  clear mm b
  have sC := Lib.hid M.out.size
  go_wp2_with fail
  refine (expr_r B l5 _ P.out).mono ?_
  rintro e w7 h7
  rcases hG7 : exR l5 with _ | ⟨v7, l7⟩ | ⟨a7, c7, l7⟩
  · exact absurd (by rw [← HR.out, hG7]; rfl) NE.out
  rotate_left
  · rw [hG7] at h7
    obtain ⟨rfl, pp, mm⟩ := h7
    unfold thr
    have hno := Lib.hid (show r = .no a7 c7 l7 by rw [← HR.out, hG7]; rfl)
    have PP := Lib.hid pp
    have MM := Lib.hid (M.out.next mm)
    clear pp mm hG7
    go_wp2_with fail
    exact ⟨rfl, mst_no HF.out (by rw [hno.out]; rfl) PP.out MM.out⟩
  rw [hG7] at h7
  obtain ⟨u7, rfl, vv, pp, mm⟩ := h7
  replace HR := HR.out
  rw [hG7] at HR
  simp only [bind_okE] at HR
  replace HR := Lib.hid HR
  replace M := Lib.hid (M.out.next mm)
  replace L := Lib.hid (L.out.mv mm (by have := gL.out; omega) L.out.lt)
  replace U := Lib.hid (Us.kp U.out (mm.kp HF.out.h3))
  replace P := Lib.hid pp
  clear pp mm hG7
  have V7 := Lib.hid vv
  clear vv
  obtain ⟨ub, ud, aa, ac, rfl, E⟩ := V7.out
  replace E := Lib.hid (Ec.less (C' := base) E (Nat.le_trans HF.out.h4 sC.out))
  clear V7
  go_wp2_with (refine arm_storeAt infX (.tmp 20) (.tmp 19) rfl rfl w2.heap.size 5 _ (exC v7 ub ud aa ac) _ rfl rfl L.out (by simp) rfl (exC_one _ _ _ _ _) ?_; intro wx L9 hs; have KA : KpT (fun T => T = 55 ∨ T = 43) base w7 wx := St.kpT hs L.out (by decide) _; replace U := Lib.hid (Us.kpT (ok := fun T => T = 55 ∨ T = 43) U.out (.inl rfl) KA); replace E := Lib.hid (Ec.kpT (ok := fun T => T = 55 ∨ T = 43) (.inl rfl) (.inr rfl) E.out KA); replace P := Lib.hid (P.out.st hs gL.out); replace M := Lib.hid (M.out.trans (hs.mv hL.out)); replace L := Lib.hid (show Blk wx w2.heap.size 88 #[.string v1, .string v2, .int .i64 v4.k, .slice ua v4.un.length uc, .string v4.of, .int .i64 v7.h.k, .string v7.h.op, .string v7.h.nm, .string v7.h.tb, .int .i64 v7.h.vk, .int .i64 v7.h.vn, .string v7.h.vs, .slice ub v7.h.un.length ud, .int .i64 v7.h.pa, .int .i64 v7.h.wk, .int .i64 v7.h.ws, .slice aa v7.ar.len ac, .int .i64 0] from L9); clear L9 hs KA)
  refine (need_any B ⟨#[59]⟩ l7 _ P.out).mono ?_
  rintro e w8 h8
  rcases hG8 : need ⟨#[59]⟩ l7 with _ | ⟨v8, l8⟩ | ⟨a8, c8, l8⟩
  · exact absurd (by rw [← HR.out, hG8]; rfl) NE.out
  rotate_left
  · rw [hG8] at h8
    obtain ⟨rfl, pp, mm⟩ := h8
    unfold thr
    have hno := Lib.hid (show r = .no a8 c8 l8 by rw [← HR.out, hG8]; rfl)
    have PP := Lib.hid pp
    have MM := Lib.hid (M.out.next mm)
    clear pp mm hG8
    go_wp2_with fail
    exact ⟨rfl, mst_no HF.out (by rw [hno.out]; rfl) PP.out MM.out⟩
  rw [hG8] at h8
  obtain ⟨u8, rfl, vv, pp, mm⟩ := h8
  replace HR := HR.out
  rw [hG8] at HR
  simp only [bind_okE] at HR
  replace HR := Lib.hid HR
  replace M := Lib.hid (M.out.next mm)
  replace L := Lib.hid (L.out.mv mm (by have := gL.out; omega) L.out.lt)
  replace U := Lib.hid (Us.kp U.out (mm.kp HF.out.h3))
  replace E := Lib.hid (Ec.kp E.out (mm.kp HF.out.h3))
  replace P := Lib.hid pp
  clear pp mm hG8
  obtain rfl : u8 = .tuple #[] := vv
  go_wp2_with fail
  have FF := HF.out.step M.out P.out
  obtain ⟨tv, fv, ct, cf, hb, r1, r2, e1, e2⟩ := FF.mm.ex
  replace FF := Lib.hid FF
  replace r1 := Lib.hid r1
  replace r2 := Lib.hid r2
  replace hn := Lib.hid (show cf.length < 1048577 from by rw [e2.1]; exact hn.out)
  replace e1 := Lib.hid e1
  replace e2 := Lib.hid e2
  have hbb := Lib.hid hb
  have k0 := hb.cell 1
  have z0 := hb.free 1
  simp only [List.getElem?_toArray, List.getElem?_cons_zero, List.getElem?_cons_succ] at k0
  clear hb
  generalize hwc : w8 = wc at *
  have k1 : wc.drew.cell? ⟨g, 1, none⟩ = some fv := k0
  have L1 := Lib.hid (show Blk wc.drew w2.heap.size 88 #[.string v1, .string v2, .int .i64 v4.k, .slice ua v4.un.length uc, .string v4.of, .int .i64 v7.h.k, .string v7.h.op, .string v7.h.nm, .string v7.h.tb, .int .i64 v7.h.vk, .int .i64 v7.h.vn, .string v7.h.vs, .slice ub v7.h.un.length ud, .int .i64 v7.h.pa, .int .i64 v7.h.wk, .int .i64 v7.h.ws, .slice aa v7.ar.len ac, .int .i64 0] from L.out)
  refine wp_region_held_drew (S := fun _ => True) (by kernel_rfl) trivial (fun hH => ?_)
  refine held_take (i := 0) (d := 23) (v := ?_) rfl (by kernel_rfl) (by kernel_rfl) (by kernel_rfl) rfl (fun _ _ _ h => h) rfl hH (fun w' hS => ?_) ?_
  rotate_left
  · go_simp; first | done | with_reducible rfl
  simp only [List.set_cons_zero, List.set_cons_succ]
  refine held_take (i := 1) (d := 24) (v := ?_) rfl (by kernel_rfl) (by kernel_rfl) (by kernel_rfl) rfl (fun _ _ _ h => h) rfl hH (fun w' hS => ?_) ?_
  rotate_left
  · go_simp; first | done | with_reducible rfl
  simp only [List.set_cons_zero, List.set_cons_succ]
  refine held_take (i := 2) (d := 25) (v := ?_) rfl (by kernel_rfl) (by kernel_rfl) (by kernel_rfl) rfl (fun _ _ _ h => h) rfl hH (fun w' hS => ?_) ?_
  rotate_left
  · go_simp; first | done | with_reducible rfl
  simp only [List.set_cons_zero, List.set_cons_succ]
  refine held_take (i := 3) (d := 26) (v := ?_) rfl (by kernel_rfl) (by kernel_rfl) (by kernel_rfl) rfl (fun _ _ _ h => h) rfl hH (fun w' hS => ?_) ?_
  rotate_left
  · go_simp; first | done | with_reducible rfl
  simp only [List.set_cons_zero, List.set_cons_succ]
  refine held_two (i := 4) (j := 5) rfl rfl (by kernel_rfl) rfl rfl (fun K hK => ?_) (fun K hK => ?_)
  · go_simp
    refine hK.out _ _ trivial (fun _ => ?_)
    clear hK K
    refine held_only (i := 5) rfl (by kernel_rfl) rfl (fun K hK => ?_)
    refine op_loadT infFe Tryz.underlying88 rfl (.tmp 4) rfl w2.heap.size _ #[.string v1, .string v2, .int .i64 v4.k, .slice ua v4.un.length uc, .string v4.of, .int .i64 v7.h.k, .string v7.h.op, .string v7.h.nm, .string v7.h.tb, .int .i64 v7.h.vk, .int .i64 v7.h.vn, .string v7.h.vs, .slice ub v7.h.un.length ud, .int .i64 v7.h.pa, .int .i64 v7.h.wk, .int .i64 v7.h.ws, .slice aa v7.ar.len ac, .int .i64 0] rfl L1.out rfl ?_
    refine hK.out _ _ trivial (fun _ => ?_)
    clear hK K
    simp only [Act.put, List.setIfInBounds_toArray, List.set_cons_zero, List.set_cons_succ]
    refine held_only (i := 6) rfl (by kernel_rfl) rfl (fun K hK => ?_)
    refine op_build1 infFeatures (.tmp 28) rfl #[.string v1, .string v2, .int .i64 v4.k, .slice ua v4.un.length uc, .string v4.of, .int .i64 v7.h.k, .string v7.h.op, .string v7.h.nm, .string v7.h.tb, .int .i64 v7.h.vk, .int .i64 v7.h.vn, .string v7.h.vs, .slice ub v7.h.un.length ud, .int .i64 v7.h.pa, .int .i64 v7.h.wk, .int .i64 v7.h.ws, .slice aa v7.ar.len ac, .int .i64 0] rfl rfl (by decide) ?_
    refine hK.out _ _ trivial (fun _ => ?_)
    clear hK K
    simp only [Act.put, List.setIfInBounds_toArray, List.set_cons_zero, List.set_cons_succ]
    refine held_only (i := 7) rfl (by kernel_rfl) rfl (fun K hK => ?_)
    refine wp_pushR infFeatures _ (.tmp 27) (.tmp 29) rfl base fv cf rfl (r2.out.keeps (balloc (b0 wc).drew (.cells #[.string v1, .string v2, .int .i64 v4.k, .slice ua v4.un.length uc, .string v4.of, .int .i64 v7.h.k, .string v7.h.op, .string v7.h.nm, .string v7.h.tb, .int .i64 v7.h.vk, .int .i64 v7.h.vn, .string v7.h.vs, .slice ub v7.h.un.length ud, .int .i64 v7.h.pa, .int .i64 v7.h.wk, .int .i64 v7.h.ws, .slice aa v7.ar.len ac, .int .i64 0] 88))) wc.heap.size 88 [.string v1, .string v2, .int .i64 v4.k, .slice ua v4.un.length uc, .string v4.of, .int .i64 v7.h.k, .string v7.h.op, .string v7.h.nm, .string v7.h.tb, .int .i64 v7.h.vk, .int .i64 v7.h.vn, .string v7.h.vs, .slice ub v7.h.un.length ud, .int .i64 v7.h.pa, .int .i64 v7.h.wk, .int .i64 v7.h.ws, .slice aa v7.ar.len ac, .int .i64 0] rfl (Blk.new _ _ _) rfl (by simp [Value.oneCell']) hn.out (by have := FF.out.h4; simp; omega) ?_
    intro v' w9 O9 b9 g9
    have pf := FF.out.pushF (balloc (b0 wc).drew (.cells #[.string v1, .string v2, .int .i64 v4.k, .slice ua v4.un.length uc, .string v4.of, .int .i64 v7.h.k, .string v7.h.op, .string v7.h.nm, .string v7.h.tb, .int .i64 v7.h.vk, .int .i64 v7.h.vn, .string v7.h.vs, .slice ub v7.h.un.length ud, .int .i64 v7.h.pa, .int .i64 v7.h.wk, .int .i64 v7.h.ws, .slice aa v7.ar.len ac, .int .i64 0] 88)) hbb.out r1.out r2.out e1.out e2.out g9 O9 (x := ⟨v1, v2, v4, v7⟩) ⟨ua, uc, ub, ud, aa, ac, rfl, U.out, E.out⟩
    have hB9 : Blk w9 g 27 #[tv, fv] := (hbb.out.below (balloc (b0 wc).drew (.cells #[.string v1, .string v2, .int .i64 v4.k, .slice ua v4.un.length uc, .string v4.of, .int .i64 v7.h.k, .string v7.h.op, .string v7.h.nm, .string v7.h.tb, .int .i64 v7.h.vk, .int .i64 v7.h.vn, .string v7.h.vs, .slice ub v7.h.un.length ud, .int .i64 v7.h.pa, .int .i64 v7.h.wk, .int .i64 v7.h.ws, .slice aa v7.ar.len ac, .int .i64 0] 88)) hbb.out.lt).below b9 (by have := FF.out.h2; have := FF.out.h3; omega)
    have k9 : w9.cell? ⟨g, 1, none⟩ = some fv := hB9.cell 1
    have z9 := hB9.free 1
    obtain ⟨va, vn, vcap, rfl⟩ := O9.val
    replace pf := Lib.hid pf
    clear b9 g9 hB9
    refine hK.out _ _ trivial (fun _ => ?_)
    clear hK K
    simp only [Act.put, List.setIfInBounds_toArray, List.set_cons_zero, List.set_cons_succ]
    refine held_take (i := 8) (d := 31) (v := ?_) rfl (by kernel_rfl) (by kernel_rfl) (by kernel_rfl) rfl (fun _ _ _ h => h) rfl hH (fun w' hS => ?_) ?_
    rotate_left
    · go_simp; first | done | with_reducible rfl
    simp only [List.set_cons_zero, List.set_cons_succ]
    refine held_take (i := 9) (d := 32) (v := ?_) rfl (by kernel_rfl) (by kernel_rfl) (by kernel_rfl) rfl (fun _ _ _ h => h) rfl hH (fun w' hS => ?_) ?_
    rotate_left
    · go_simp; first | done | with_reducible rfl
    simp only [List.set_cons_zero, List.set_cons_succ]
    refine held_only (i := 10) rfl (by kernel_rfl) rfl (fun K hK => ?_)
    go_simp
    refine hK.out _ _ trivial (fun _ => ?_)
    clear hK K
    refine wpAnyH_done (by kernel_rfl) ?_ _
    go_wp2_with fail
    go_end0
    subst hwc
    exact mst_ok (by rw [← HR.out]; rfl) pf.out.1 ((Mq.mv M.out).trans pf.out.2)
  · refine op_loadT infFe Tryz.underlying88 rfl (.tmp 4) rfl w2.heap.size _ #[.string v1, .string v2, .int .i64 v4.k, .slice ua v4.un.length uc, .string v4.of, .int .i64 v7.h.k, .string v7.h.op, .string v7.h.nm, .string v7.h.tb, .int .i64 v7.h.vk, .int .i64 v7.h.vn, .string v7.h.vs, .slice ub v7.h.un.length ud, .int .i64 v7.h.pa, .int .i64 v7.h.wk, .int .i64 v7.h.ws, .slice aa v7.ar.len ac, .int .i64 0] rfl L1.out rfl ?_
    refine hK.out _ _ trivial (fun _ => ?_)
    clear hK K
    simp only [Act.put, List.setIfInBounds_toArray, List.set_cons_zero, List.set_cons_succ]
    refine held_two (i := 4) (j := 6) rfl rfl (by kernel_rfl) rfl rfl (fun K hK => ?_) (fun K hK => ?_)
    · go_simp
      refine hK.out _ _ trivial (fun _ => ?_)
      clear hK K
      refine held_only (i := 6) rfl (by kernel_rfl) rfl (fun K hK => ?_)
      refine op_build1 infFeatures (.tmp 28) rfl #[.string v1, .string v2, .int .i64 v4.k, .slice ua v4.un.length uc, .string v4.of, .int .i64 v7.h.k, .string v7.h.op, .string v7.h.nm, .string v7.h.tb, .int .i64 v7.h.vk, .int .i64 v7.h.vn, .string v7.h.vs, .slice ub v7.h.un.length ud, .int .i64 v7.h.pa, .int .i64 v7.h.wk, .int .i64 v7.h.ws, .slice aa v7.ar.len ac, .int .i64 0] rfl rfl (by decide) ?_
      refine hK.out _ _ trivial (fun _ => ?_)
      clear hK K
      simp only [Act.put, List.setIfInBounds_toArray, List.set_cons_zero, List.set_cons_succ]
      refine held_only (i := 7) rfl (by kernel_rfl) rfl (fun K hK => ?_)
      refine wp_pushR infFeatures _ (.tmp 27) (.tmp 29) rfl base fv cf rfl (r2.out.keeps (balloc (b0 wc).drew (.cells #[.string v1, .string v2, .int .i64 v4.k, .slice ua v4.un.length uc, .string v4.of, .int .i64 v7.h.k, .string v7.h.op, .string v7.h.nm, .string v7.h.tb, .int .i64 v7.h.vk, .int .i64 v7.h.vn, .string v7.h.vs, .slice ub v7.h.un.length ud, .int .i64 v7.h.pa, .int .i64 v7.h.wk, .int .i64 v7.h.ws, .slice aa v7.ar.len ac, .int .i64 0] 88))) wc.heap.size 88 [.string v1, .string v2, .int .i64 v4.k, .slice ua v4.un.length uc, .string v4.of, .int .i64 v7.h.k, .string v7.h.op, .string v7.h.nm, .string v7.h.tb, .int .i64 v7.h.vk, .int .i64 v7.h.vn, .string v7.h.vs, .slice ub v7.h.un.length ud, .int .i64 v7.h.pa, .int .i64 v7.h.wk, .int .i64 v7.h.ws, .slice aa v7.ar.len ac, .int .i64 0] rfl (Blk.new _ _ _) rfl (by simp [Value.oneCell']) hn.out (by have := FF.out.h4; simp; omega) ?_
      intro v' w9 O9 b9 g9
      have pf := FF.out.pushF (balloc (b0 wc).drew (.cells #[.string v1, .string v2, .int .i64 v4.k, .slice ua v4.un.length uc, .string v4.of, .int .i64 v7.h.k, .string v7.h.op, .string v7.h.nm, .string v7.h.tb, .int .i64 v7.h.vk, .int .i64 v7.h.vn, .string v7.h.vs, .slice ub v7.h.un.length ud, .int .i64 v7.h.pa, .int .i64 v7.h.wk, .int .i64 v7.h.ws, .slice aa v7.ar.len ac, .int .i64 0] 88)) hbb.out r1.out r2.out e1.out e2.out g9 O9 (x := ⟨v1, v2, v4, v7⟩) ⟨ua, uc, ub, ud, aa, ac, rfl, U.out, E.out⟩
      have hB9 : Blk w9 g 27 #[tv, fv] := (hbb.out.below (balloc (b0 wc).drew (.cells #[.string v1, .string v2, .int .i64 v4.k, .slice ua v4.un.length uc, .string v4.of, .int .i64 v7.h.k, .string v7.h.op, .string v7.h.nm, .string v7.h.tb, .int .i64 v7.h.vk, .int .i64 v7.h.vn, .string v7.h.vs, .slice ub v7.h.un.length ud, .int .i64 v7.h.pa, .int .i64 v7.h.wk, .int .i64 v7.h.ws, .slice aa v7.ar.len ac, .int .i64 0] 88)) hbb.out.lt).below b9 (by have := FF.out.h2; have := FF.out.h3; omega)
      have k9 : w9.cell? ⟨g, 1, none⟩ = some fv := hB9.cell 1
      have z9 := hB9.free 1
      obtain ⟨va, vn, vcap, rfl⟩ := O9.val
      replace pf := Lib.hid pf
      clear b9 g9 hB9
      refine hK.out _ _ trivial (fun _ => ?_)
      clear hK K
      simp only [Act.put, List.setIfInBounds_toArray, List.set_cons_zero, List.set_cons_succ]
      refine held_take (i := 8) (d := 31) (v := ?_) rfl (by kernel_rfl) (by kernel_rfl) (by kernel_rfl) rfl (fun _ _ _ h => h) rfl hH (fun w' hS => ?_) ?_
      rotate_left
      · go_simp; first | done | with_reducible rfl
      simp only [List.set_cons_zero, List.set_cons_succ]
      refine held_take (i := 9) (d := 32) (v := ?_) rfl (by kernel_rfl) (by kernel_rfl) (by kernel_rfl) rfl (fun _ _ _ h => h) rfl hH (fun w' hS => ?_) ?_
      rotate_left
      · go_simp; first | done | with_reducible rfl
      simp only [List.set_cons_zero, List.set_cons_succ]
      refine held_only (i := 10) rfl (by kernel_rfl) rfl (fun K hK => ?_)
      go_simp
      refine hK.out _ _ trivial (fun _ => ?_)
      clear hK K
      refine wpAnyH_done (by kernel_rfl) ?_ _
      go_wp2_with fail
      go_end0
      subst hwc
      exact mst_ok (by rw [← HR.out]; rfl) pf.out.1 ((Mq.mv M.out).trans pf.out.2)
    · refine op_build1 infFeatures (.tmp 28) rfl #[.string v1, .string v2, .int .i64 v4.k, .slice ua v4.un.length uc, .string v4.of, .int .i64 v7.h.k, .string v7.h.op, .string v7.h.nm, .string v7.h.tb, .int .i64 v7.h.vk, .int .i64 v7.h.vn, .string v7.h.vs, .slice ub v7.h.un.length ud, .int .i64 v7.h.pa, .int .i64 v7.h.wk, .int .i64 v7.h.ws, .slice aa v7.ar.len ac, .int .i64 0] rfl rfl (by decide) ?_
      refine hK.out _ _ trivial (fun _ => ?_)
      clear hK K
      simp only [Act.put, List.setIfInBounds_toArray, List.set_cons_zero, List.set_cons_succ]
      refine held_only (i := 4) rfl (by kernel_rfl) rfl (fun K hK => ?_)
      have k2 : (wc.alloc (.cells #[.string v1, .string v2, .int .i64 v4.k, .slice ua v4.un.length uc, .string v4.of, .int .i64 v7.h.k, .string v7.h.op, .string v7.h.nm, .string v7.h.tb, .int .i64 v7.h.vk, .int .i64 v7.h.vn, .string v7.h.vs, .slice ub v7.h.un.length ud, .int .i64 v7.h.pa, .int .i64 v7.h.wk, .int .i64 v7.h.ws, .slice aa v7.ar.len ac, .int .i64 0] 88)).cell? ⟨g, 1, none⟩ = some fv := by rw [World.cell?_alloc_some _ _ _ (by rw [k0]; rfl)]; exact k0
      go_simp
      refine hK.out _ _ trivial (fun _ => ?_)
      clear hK K
      refine held_only (i := 7) rfl (by kernel_rfl) rfl (fun K hK => ?_)
      refine wp_pushR infFeatures _ (.tmp 27) (.tmp 29) rfl base fv cf rfl (r2.out.keeps (balloc (b0 wc).drew (.cells #[.string v1, .string v2, .int .i64 v4.k, .slice ua v4.un.length uc, .string v4.of, .int .i64 v7.h.k, .string v7.h.op, .string v7.h.nm, .string v7.h.tb, .int .i64 v7.h.vk, .int .i64 v7.h.vn, .string v7.h.vs, .slice ub v7.h.un.length ud, .int .i64 v7.h.pa, .int .i64 v7.h.wk, .int .i64 v7.h.ws, .slice aa v7.ar.len ac, .int .i64 0] 88))) wc.heap.size 88 [.string v1, .string v2, .int .i64 v4.k, .slice ua v4.un.length uc, .string v4.of, .int .i64 v7.h.k, .string v7.h.op, .string v7.h.nm, .string v7.h.tb, .int .i64 v7.h.vk, .int .i64 v7.h.vn, .string v7.h.vs, .slice ub v7.h.un.length ud, .int .i64 v7.h.pa, .int .i64 v7.h.wk, .int .i64 v7.h.ws, .slice aa v7.ar.len ac, .int .i64 0] rfl (Blk.new _ _ _) rfl (by simp [Value.oneCell']) hn.out (by have := FF.out.h4; simp; omega) ?_
      intro v' w9 O9 b9 g9
      have pf := FF.out.pushF (balloc (b0 wc).drew (.cells #[.string v1, .string v2, .int .i64 v4.k, .slice ua v4.un.length uc, .string v4.of, .int .i64 v7.h.k, .string v7.h.op, .string v7.h.nm, .string v7.h.tb, .int .i64 v7.h.vk, .int .i64 v7.h.vn, .string v7.h.vs, .slice ub v7.h.un.length ud, .int .i64 v7.h.pa, .int .i64 v7.h.wk, .int .i64 v7.h.ws, .slice aa v7.ar.len ac, .int .i64 0] 88)) hbb.out r1.out r2.out e1.out e2.out g9 O9 (x := ⟨v1, v2, v4, v7⟩) ⟨ua, uc, ub, ud, aa, ac, rfl, U.out, E.out⟩
      have hB9 : Blk w9 g 27 #[tv, fv] := (hbb.out.below (balloc (b0 wc).drew (.cells #[.string v1, .string v2, .int .i64 v4.k, .slice ua v4.un.length uc, .string v4.of, .int .i64 v7.h.k, .string v7.h.op, .string v7.h.nm, .string v7.h.tb, .int .i64 v7.h.vk, .int .i64 v7.h.vn, .string v7.h.vs, .slice ub v7.h.un.length ud, .int .i64 v7.h.pa, .int .i64 v7.h.wk, .int .i64 v7.h.ws, .slice aa v7.ar.len ac, .int .i64 0] 88)) hbb.out.lt).below b9 (by have := FF.out.h2; have := FF.out.h3; omega)
      have k9 : w9.cell? ⟨g, 1, none⟩ = some fv := hB9.cell 1
      have z9 := hB9.free 1
      obtain ⟨va, vn, vcap, rfl⟩ := O9.val
      replace pf := Lib.hid pf
      clear b9 g9 hB9
      refine hK.out _ _ trivial (fun _ => ?_)
      clear hK K
      simp only [Act.put, List.setIfInBounds_toArray, List.set_cons_zero, List.set_cons_succ]
      refine held_take (i := 8) (d := 31) (v := ?_) rfl (by kernel_rfl) (by kernel_rfl) (by kernel_rfl) rfl (fun _ _ _ h => h) rfl hH (fun w' hS => ?_) ?_
      rotate_left
      · go_simp; first | done | with_reducible rfl
      simp only [List.set_cons_zero, List.set_cons_succ]
      refine held_take (i := 9) (d := 32) (v := ?_) rfl (by kernel_rfl) (by kernel_rfl) (by kernel_rfl) rfl (fun _ _ _ h => h) rfl hH (fun w' hS => ?_) ?_
      rotate_left
      · go_simp; first | done | with_reducible rfl
      simp only [List.set_cons_zero, List.set_cons_succ]
      refine held_only (i := 10) rfl (by kernel_rfl) rfl (fun K hK => ?_)
      go_simp
      refine hK.out _ _ trivial (fun _ => ?_)
      clear hK K
      refine wpAnyH_done (by kernel_rfl) ?_ _
      go_wp2_with fail
      go_end0
      subst hwc
      exact mst_ok (by rw [← HR.out]; rfl) pf.out.1 ((Mq.mv M.out).trans pf.out.2)
end Go.Proofs.YtbpijgddfaefkaaGreatDoor.pa
namespace Go.Proofs.YtbpijgddfaefkaaGreatDoor.pa
open Go.RowKit dec

theorem kMapF : Tryz.prog.underlying 128 = some (.map 9 74) := by kernel_rfl
def fnT (B : Nat) : Value := .func (.func 73) #[.pointer (some ⟨B, 0, none⟩)] #[]
def fnF (B : Nat) : Value := .func (.func 74) #[.pointer (some ⟨B, 0, none⟩)] #[]
def dI (n : Int) : DataW Unit := .lit (.int .i64 n)
theorem dI_inj {a b : Int} (h : dI a = dI b) : a = b := by
  unfold dI at h
  cases h
  rfl
open Classical in
/-- How a method in the map reads. -/
noncomputable def fnE (B : Nat) (v : Value) : Option (DataW Unit × List MemPlace) :=
  if v = .nilFunc then some (dI 0, []) else if v = fnT B then some (dI 1, []) else if v = fnF B then some (dI 2, []) else none
theorem fnE_nil (B : Nat) : fnE B .nilFunc = some (dI 0, []) := by simp [fnE]
theorem fnE_T (B : Nat) : fnE B (fnT B) = some (dI 1, []) := by simp [fnE, fnT]
theorem fnE_F (B : Nat) : fnE B (fnF B) = some (dI 2, []) := by simp [fnE, fnT, fnF]
theorem fnE_inv {B : Nat} {v : Value} {n : Int} {ps : List MemPlace} (h : fnE B v = some (dI n, ps)) : (n = 1 → v = fnT B) ∧ (n = 2 → v = fnF B) := by
  unfold fnE at h
  split at h
  · simp only [Option.some.injEq, Prod.mk.injEq] at h
    have := dI_inj h.1
    exact ⟨fun e => by omega, fun e => by omega⟩
  · split at h
    · rename_i h2
      simp only [Option.some.injEq, Prod.mk.injEq] at h
      have := dI_inj h.1
      exact ⟨fun _ => h2, fun e => by omega⟩
    · split at h
      · rename_i h3
        simp only [Option.some.injEq, Prod.mk.injEq] at h
        have := dI_inj h.1
        exact ⟨fun e => by omega, fun _ => h3⟩
      · cases h
theorem wpList_ins {B b n : Nat} {D : DataW Unit} {w : World} {ops : Array Oper} {rest : List Oper} {o : Oper} {a : Act} {Q : Exit → Act → World → Prop} (hg : o.guard = none) (m x v : Operand) (hop : o.op = .insert 128 m x v)
    (hm : a.eval m = .map (some b)) (h : w.ownsMap Tryz.prog 9 (fnE B) b n D) (hn : n < maxLen) (s : ByteArray) (val : Value) (hx : a.eval x = .string s) (hs : s.size ≤ maxLen) (hv : a.eval v = val) (d : DataW Unit) (hval : fnE B val = some (d, []))
    (hK : ∀ w', w'.ownsMap Tryz.prog 9 (fnE B) b (n + 1) (D.put (un.kS s) d) → w.grownBy w' (some b) → wpList Tryz.prog ops Q rest (a.put o.dst undef) w') : wpList Tryz.prog ops Q (o :: rest) a w := by
  refine wpList_plain hg fun K' hK' => ?_
  obtain ⟨w', hrun, r1, r2⟩ := h.update un.K9 kMapF hn (un.kS_key hs) hval
  unfold Oper.wp
  simp [execOp, hop, hm, hx, hv, hrun, Result.andThen]
  exact hK' _ _ (hK w' r1 r2)
theorem zeroF (w : World) : (zeroValue 74).run Tryz.prog w = .ok .nilFunc w := by kernel_rfl
/-- The map of the items. -/
def itD : DataW Unit := ((DataW.map []).put (un.kS ⟨#[116, 97, 98, 108, 101]⟩) (dI 1)).put (un.kS ⟨#[102, 101, 97, 116, 117, 114, 101]⟩) (dI 2)
theorem isM0 : Maps.IsMap (DataW.map [] : DataW Unit) := ⟨[], rfl⟩
theorem ks_ne {a b : ByteArray} (h : a ≠ b) : un.kS a ≠ un.kS b := fun e => h (un.kS_inj e)
theorem it_T : Maps.has itD (un.kS ⟨#[116, 97, 98, 108, 101]⟩) = true ∧ itD.atKey (un.kS ⟨#[116, 97, 98, 108, 101]⟩) (dI 0) = dI 1 := by
  unfold itD
  rw [Maps.has_put_other (ks_ne (by decide)), Maps.has_put_same isM0 (un.kS_lit (by decide)), Maps.atKey_put_other (ks_ne (by decide)), Maps.atKey_put_same isM0 (un.kS_lit (by decide))]
  exact ⟨rfl, rfl⟩
theorem it_F : Maps.has itD (un.kS ⟨#[102, 101, 97, 116, 117, 114, 101]⟩) = true ∧ itD.atKey (un.kS ⟨#[102, 101, 97, 116, 117, 114, 101]⟩) (dI 0) = dI 2 := by
  unfold itD
  rw [Maps.has_put_same (isM0.put _ _) (un.kS_lit (by decide)), Maps.atKey_put_same (isM0.put _ _) (un.kS_lit (by decide))]
  exact ⟨rfl, rfl⟩
theorem it_no {s : ByteArray} (h1 : s ≠ ⟨#[116, 97, 98, 108, 101]⟩) (h2 : s ≠ ⟨#[102, 101, 97, 116, 117, 114, 101]⟩) : Maps.has itD (un.kS s) = false := by
  unfold itD
  rw [Maps.has_put_other (ks_ne h2), Maps.has_put_other (ks_ne h1)]
  rfl
theorem look_it {B b n : Nat} {w : World} (h : w.ownsMap Tryz.prog 9 (fnE B) b n itD) (s : ByteArray) (hs : s.size ≤ maxLen) :
    ∃ v, (Instr.lookup 128 (.map (some b)) (.string s) true).run Tryz.prog w = .ok (.tuple #[v, .bool (decide (s = ⟨#[116, 97, 98, 108, 101]⟩) || decide (s = ⟨#[102, 101, 97, 116, 117, 114, 101]⟩))]) w ∧ (s = ⟨#[116, 97, 98, 108, 101]⟩ → v = fnT B) ∧ (s = ⟨#[102, 101, 97, 116, 117, 114, 101]⟩ → v = fnF B) := by
  obtain ⟨v, ps, hrun, hv⟩ := h.look_ok un.K9 kMapF (zeroF w) (fnE_nil B) (un.kS_key hs)
  refine ⟨v, ?_, fun e => ?_, fun e => ?_⟩
  · rw [hrun]
    by_cases h1 : s = ⟨#[116, 97, 98, 108, 101]⟩
    · subst h1
      rw [it_T.1]
      rfl
    · by_cases h2 : s = ⟨#[102, 101, 97, 116, 117, 114, 101]⟩
      · subst h2
        rw [it_F.1]
        rfl
      · rw [it_no h1 h2, decide_eq_false h1, decide_eq_false h2]
        rfl
  · subst e
    rw [it_T.2] at hv
    exact (fnE_inv hv).1 rfl
  · subst e
    rw [it_F.2] at hv
    exact (fnE_inv hv).2 rfl
set_option maxRecDepth 100000 in
set_option maxHeartbeats 2000000 in
theorem item_r (w0 : World) (base B g : Nat) (ta : Option Addr) (n cap : Nat) (m : Mo) (l : List Tk) (w : World) (h : Mf w0 base B g ta n cap w m l) (hn1 : m.ts.length < 1048577) (hn2 : m.fs.length < 1048577) :
    Calls Tryz.prog 27 #[.pointer (some ⟨B, 0, none⟩), .pointer (some ⟨g, 0, none⟩)] w (Mst w0 base B g ta n cap m (itmR m l) w) := by
  have P := Lib.hid h.ps
  have HF := Lib.hid h
  replace hn1 := Lib.hid hn1
  replace hn2 := Lib.hid hn2
  have F := tf1
  have hmm := @run_makeMap Tryz.prog
  have F2 := mi_prob
  have hsz := Lib.hid (show (hd l).t.size ≤ maxLen from by have := h.ps.tl.hd; unfold maxLen; omega)
  have hmf : ∀ (fn : Fn) (first cap : Array Value) (w : World), (Instr.makeFunc fn first cap).run Tryz.prog w = .ok (.func fn first cap) w := fun _ _ _ _ => rfl
  clear h
  go_enter Tryz.func27, Tryz.ntmps27
  go_wp2_with (first | (refine wpList_ins (B := B) rfl (.tmp 7) (.const _) (.tmp 9) rfl rfl (World.ownsMap_made w _ _ _) (by decide) ⟨#[116, 97, 98, 108, 101]⟩ (fnT B) rfl (by decide) rfl _ (fnE_T B) ?_; intro wa Oa ga) | (refine wpList_ins (B := B) rfl (.tmp 7) (.const _) (.tmp 11) rfl rfl Oa (by decide) ⟨#[102, 101, 97, 116, 117, 114, 101]⟩ (fnF B) rfl (by decide) rfl _ (fnE_F B) ?_; intro wb Ob gb))
  have bb := (((balloc (b0 w) (.map #[] 0)).grown ga (by simp) (fun k hk => by cases hk; exact Nat.le_refl _)).grown gb (by have := ga.size; simp at this; omega) (fun k hk => by cases hk; exact Nat.le_refl _))
  replace P := Lib.hid (P.out.keeps bb)
  have M := Lib.hid (Mv.of (B := B) bb)
  replace Ob := Lib.hid Ob
  clear Oa ga gb bb
  refine (now_any B l wb P.out).mono ?_
  rintro e w1 ⟨rfl, b1⟩
  obtain ⟨v, hl, hT, hV⟩ := look_it (Ob.out.kept (un.grown_below b1) (by simp)) (hd l).t hsz.out
  replace P := Lib.hid (P.out.keeps b1)
  replace M := Lib.hid (M.out.nextB b1)
  have HF1 := Lib.hid (HF.out.step M.out P.out)
  clear Ob b1
  by_cases h1 : (hd l).t = ⟨#[116, 97, 98, 108, 101]⟩
  · have q1 : (decide ((hd l).t = ⟨#[116, 97, 98, 108, 101]⟩) || decide ((hd l).t = ⟨#[102, 101, 97, 116, 117, 114, 101]⟩)) = true := by simp [h1]
    rw [q1] at hl
    obtain rfl := hT h1
    have hI := Lib.hid (show itmR m l = (tabR l).bind fun t r => .ok { m with ts := m.ts ++ [t] } r from by unfold itmR; rw [if_pos h1])
    unfold fnT at hl
    clear q1 hT hV h1
    generalize hx : hd l = x at *
    clear hx
    go_wp2_with fail
    refine (table_r w0 base B g ta n cap m l w1 HF1.out hn1.out _ rfl (tabR_ne l)).mono ?_
    rintro e w2 k2
    rw [← hI.out] at k2
    rcases hG : itmR m l with _ | ⟨m', l2⟩ | ⟨a, c, l2⟩
    · exact absurd hG (itmR_ne m l)
    · rw [hG] at k2
      obtain ⟨rfl, F9, Q9⟩ := k2
      have F9 := Lib.hid F9
      have Q9 := Lib.hid Q9
      go_wp2_with fail
      go_end0
      exact mst_ok hG F9.out ((Mq.mv M.out).trans Q9.out)
    · rw [hG] at k2
      obtain ⟨rfl, F9, Q9⟩ := k2
      have F9 := Lib.hid F9
      have Q9 := Lib.hid Q9
      unfold thr
      go_wp2_with fail
      exact ⟨rfl, rfl, F9.out, (Mq.mv M.out).trans Q9.out⟩
  · by_cases h2 : (hd l).t = ⟨#[102, 101, 97, 116, 117, 114, 101]⟩
    · have q1 : (decide ((hd l).t = ⟨#[116, 97, 98, 108, 101]⟩) || decide ((hd l).t = ⟨#[102, 101, 97, 116, 117, 114, 101]⟩)) = true := by simp [h2]
      rw [q1] at hl
      obtain rfl := hV h2
      have hI := Lib.hid (show itmR m l = (feaR l).bind fun f r => .ok { m with fs := m.fs ++ [f] } r from by unfold itmR; rw [if_neg h1, if_pos h2])
      unfold fnF at hl
      clear q1 hT hV h1 h2
      generalize hx : hd l = x at *
      clear hx
      go_wp2_with fail
      refine (feature_r w0 base B g ta n cap m l w1 HF1.out hn2.out _ rfl (feaR_ne l)).mono ?_
      rintro e w2 k2
      rw [← hI.out] at k2
      rcases hG : itmR m l with _ | ⟨m', l2⟩ | ⟨a, c, l2⟩
      · exact absurd hG (itmR_ne m l)
      · rw [hG] at k2
        obtain ⟨rfl, F9, Q9⟩ := k2
        have F9 := Lib.hid F9
        have Q9 := Lib.hid Q9
        go_wp2_with fail
        go_end0
        exact mst_ok hG F9.out ((Mq.mv M.out).trans Q9.out)
      · rw [hG] at k2
        obtain ⟨rfl, F9, Q9⟩ := k2
        have F9 := Lib.hid F9
        have Q9 := Lib.hid Q9
        unfold thr
        go_wp2_with fail
        exact ⟨rfl, rfl, F9.out, (Mq.mv M.out).trans Q9.out⟩
    · have q1 : (decide ((hd l).t = ⟨#[116, 97, 98, 108, 101]⟩) || decide ((hd l).t = ⟨#[102, 101, 97, 116, 117, 114, 101]⟩)) = false := by simp [h1, h2]
      rw [q1] at hl
      have hI := Lib.hid (show itmR m l = wrg l from by unfold itmR; rw [if_neg h1, if_neg h2])
      clear q1 hT hV h1 h2
      have C2 := Lib.hid (wrong_any B l w1 P.out)
      generalize hx : hd l = x at *
      go_wp2_with fail
      refine C2.out.mono ?_
      rintro e w2 ⟨rfl, b2⟩
      have P2 := Lib.hid (P.out.keeps b2)
      have M2 := Lib.hid (M.out.nextB b2)
      clear b2 C2
      go_wp2_with fail
      refine ⟨rfl, mst_no HF.out ?_ P2.out M2.out⟩
      rw [hI.out, wrg, hx]
end Go.Proofs.YtbpijgddfaefkaaGreatDoor.pa
namespace Go.Proofs.YtbpijgddfaefkaaGreatDoor.pa
open Go.RowKit dec

set_option maxRecDepth 100000 in
set_option maxHeartbeats 1000000 in
theorem leave_any (B : Nat) (l : List Tk) (w : World) (h : Ps w B l) :
    Calls Tryz.prog 28 #[.pointer (some ⟨B, 0, none⟩)] w fun e w' => e = .returned (.tuple #[]) ∧ Ps w' B (lvR l) ∧ Mv w.heap.size B w w' := by
  have P := Lib.hid h
  have M := Lib.hid (Mv.refl w.heap.size B w)
  have F := tf0
  clear h
  go_enter Tryz.func28, Tryz.ntmps28
  go_wp2_with fail
  go_loopg [] (l.length) (fun k wr => ∃ (l' : List Tk), Hid (Ps wr B l') ∧ Hid (Mv w.heap.size B w wr) ∧ Hid (lvR l' = lvR l) ∧ Hid (l'.length ≤ k))
  case atStart => exact ⟨l, P, M, Lib.hid rfl, Lib.hid (Nat.le_refl _)⟩
  case round =>
    clear P M
    obtain ⟨l', P, M, HL, hk⟩ := hrel
    rcases gk with _ | gk
    · exact absurd (List.eq_nil_of_length_eq_zero (Nat.le_zero.1 hk.out)) P.out.tl.ne
    have C1 := Lib.hid (now_any B l' _ P.out)
    go_wp2_with fail
    refine C1.out.mono ?_
    rintro e w1 ⟨rfl, b1⟩
    have P1 := Lib.hid (P.out.keeps b1)
    have M1 := Lib.hid (M.out.nextB b1)
    clear b1 C1 P M
    by_cases h6 : (hd l').k = 6
    · have q1 : ((hd l').k != 6) = false := by simp [h6]
      have e1 := Lib.hid (show lvR l' = l' from by rw [lvR_eq P1.out.tl.ne, if_pos h6])
      clear h6
      generalize hd l' = x at *
      go_wp2_with fail
      go_end0
      rw [← HL.out, e1.out]
      exact ⟨rfl, P1.out, M1.out⟩
    · have q1 : ((hd l').k != 6) = true := by simp [h6]
      cases ht : isT ⟨#[59]⟩ l'
      · have e1 := Lib.hid (show lvR l' = lvR l'.tail from by rw [lvR_eq P1.out.tl.ne, if_neg h6, ht, if_neg (by decide)])
        have HT := Lib.hid (P1.out.tl.tail h6)
        have hle := Lib.hid (show l'.tail.length + 1 ≤ l'.length from by have := P1.out.tl.ne; cases l' with | nil => exact absurd rfl this | cons x r => simp)
        have hF := Lib.hid ht
        clear h6 ht
        generalize hx : hd l' = x at *
        clear hx
        go_wp2_with fail
        refine (skip_no B ⟨#[59]⟩ l' _ P1.out hF.out).mono ?_
        rintro e w2 ⟨rfl, pp, mm⟩
        obtain ⟨q, c1, z, hq, P2⟩ := pp.go HT.out
        have f := Lib.hid (next_at hq)
        replace P2 := Lib.hid P2
        have M2 := Lib.hid ((M1.out.next mm).put 1 (.int .i64 ((q : Int) + 1)))
        clear pp mm P1 M1 hF HT
        go_wp2_with fail
        go_roundg gk
        case measure => have := hle.out; have := hk.out; omega
        case rel => exact ⟨l'.tail, P2, M2, Lib.hid (e1.out.symm.trans HL.out), Lib.hid (by have := hle.out; have := hk.out; omega)⟩
      · have e1 := Lib.hid (show lvR l' = l'.tail from by rw [lvR_eq P1.out.tl.ne, if_neg h6, ht, if_pos rfl])
        have hT := Lib.hid ht
        clear h6 ht
        generalize hx : hd l' = x at *
        clear hx
        go_wp2_with fail
        refine (skip_yes B ⟨#[59]⟩ l' _ P1.out hT.out).mono ?_
        rintro e w2 ⟨rfl, pp, mm⟩
        have P2 := Lib.hid pp
        have M2 := Lib.hid (M1.out.next mm)
        clear pp mm P1 M1
        go_wp2_with fail
        go_end0
        rw [← HL.out, e1.out]
        exact ⟨rfl, P2.out, M2.out⟩
end Go.Proofs.YtbpijgddfaefkaaGreatDoor.pa
namespace Go.Proofs.YtbpijgddfaefkaaGreatDoor.pb
open Go.RowKit Go.Sort Go.Lib dec

def cP (a b : Pb) : Int := Lib.compareInt a.1 b.1
theorem cmp2_any (x y : Pb) (W : World) :
    Calls Tryz.prog 30 #[.agg #[.int .i64 x.1, .int .i64 x.2], .agg #[.int .i64 y.1, .int .i64 y.2]] W fun e w' => e = .returned (.int .i64 (cP x y)) ∧ ∃ q os', w' = grow (W.drewN q) os' := by
  have hcon := Lib.hid (fun W' => Tryz.cmp_Compare_int x.1 y.1 W')
  have hW := un.grow2 W (.cells #[.int .i64 x.1, .int .i64 x.2] 72) (.cells #[.int .i64 y.1, .int .i64 y.2] 72)
  unfold cP
  generalize Lib.compareInt x.1 y.1 = r at hcon ⊢
  go_enter Tryz.func30, Tryz.ntmps30
  go_wp2_with fail
  refine (hcon.out _).mono ?_
  rintro e w' ⟨rfl, rfl⟩
  go_wp2_with fail
  go_ret
  obtain ⟨os, ho⟩ := hW
  exact ⟨rfl, 0, os, ho⟩
def enP (x : Pb) : List Value := [.int .i64 x.1, .int .i64 x.2]
theorem lt_enP (x y : Pb) : ltOf cP x y = decide (x.1 < y.1) := by
  show decide (cP x y < 0) = _
  unfold cP Lib.compareInt
  by_cases h : x.1 < y.1
  · simp [h]
  · by_cases h2 : y.1 < x.1 <;> simp [h, h2]
/-- By offset is a strict weak order. -/
theorem swo_enP : SWO (ltOf cP) where
  irrefl x := by rw [lt_enP]; simp
  trans x y z h1 h2 := by rw [lt_enP] at *; simp at *; omega
  ntrans x y z h1 h2 := by rw [lt_enP] at *; simp at *; omega
def WSrt (l : List Pb) : Prop := l.Pairwise fun x y => x.1 ≤ y.1
theorem cmpLays_any (blk off size : Nat) (w : World) : CmpLays Tryz.prog 30 #[] enP 2 cP blk off size w := by
  intro m os dk _ x y
  exact cmp2_any x y _
theorem holds_cl {w : World} {g : Nat} {l : List Pb} (h : Cl w g 0 l) (hf : ∀ j, w.frozen? ⟨g, j, none⟩ = false) : HoldsK enP 2 w g 0 l.toArray := by
  intro j hj
  have hj' : j < l.length * 2 := by simpa using hj
  have hd : j / 2 < l.length := by omega
  obtain ⟨c0, c1⟩ := h (j / 2) hd
  rw [get_flatK enP 2 _ _ (by simpa using hj')]
  have e1 : l.toArray[j / 2]! = gt l (j / 2) := by
    rw [gt_eq hd]
    simp [hd]
  rw [e1]
  rcases Nat.mod_two_eq_zero_or_one j with hm | hm
  · have : 0 + j / 2 * 2 = 0 + j := by omega
    rw [this] at c0
    rw [hm]
    exact ⟨c0, hf _⟩
  · have : 0 + j / 2 * 2 + 1 = 0 + j := by omega
    rw [this] at c1
    rw [hm]
    exact ⟨c1, hf _⟩
theorem cl_holds {w : World} {g : Nat} {d : Array Pb} (h : HoldsK enP 2 w g 0 d) : Cl w g 0 d.toList := by
  intro j hj
  have hj' : j < d.size := by simpa using hj
  have e1 : d[j]! = gt d.toList j := by
    rw [gt_eq hj]
    simp [hj']
  have h0 := (h.cell (c := 0) hj' (by decide)).1
  have h1 := (h.cell (c := 1) hj' (by decide)).1
  rw [e1] at h0 h1
  exact ⟨h0, h1⟩
/-- SortFunc over a slice that the call has made. -/
theorem sort_any (base : Nat) (v : Value) (l : List Pb) (w : World) (hO : Own w base v l) (hn : l.length < 5864062014805) :
    Calls Tryz.prog 29 #[v, .func (.func 30) #[] #[]] w fun e w' => e = .returned (.tuple #[]) ∧ ∃ a cap s, v = .slice a l.length cap ∧ s.Perm l ∧ WSrt s ∧ Sl w' a l.length cap s ∧ w.grownBy w' v.ownBlock ∧ (∀ x, v.ownBlock = some x → Tg w x 72 ∧ base ≤ x) := by
  rcases hO.2 with ⟨rfl, h0⟩ | ⟨g, cap, cur, rfl, hbg, hh, hc, hm, hsz0, _⟩
  · obtain rfl : l = [] := List.eq_nil_of_length_eq_zero h0
    have hS := AnyF.slices_SortFunc_none (P := Tryz.prog) (ρ := Tryz.sortPr_ren) { Tryz.sortPr with } none 0 (.func (.func 30) #[] #[]) w
    refine (show Calls Tryz.prog 29 _ _ _ from hS).mono ?_
    rintro e w' ⟨rfl, rfl⟩
    exact ⟨rfl, none, 0, [], rfl, List.Perm.refl _, by simp [WSrt], .nil _, ⟨rfl, rfl, rfl, Nat.le_refl _, fun _ _ _ => rfl⟩, fun x h => by cases h⟩
  · have eg : ∀ args w, (callFunc 30 args).run Tryz.prog w = .ok (.enter 30 args) w := enters_of Tryz.func30 (by kernel_rfl) rfl
    have hg : g < w.heap.size := heap_lt hh
    have hF : ∀ j, w.frozen? ⟨g, j, none⟩ = false := fun j => by simp [World.frozen?, hh]
    have hC : Cl w g 0 l := fun j hj => by
      rw [Nat.zero_add, hO.cellAt (j * 2) (by omega), hO.cellAt (j * 2 + 1) (by omega)]
      exact cs_at l j hj
    have hcon := AnyQ.slices_SortFunc Tryz.sortPr 2 Tryz.isAgg72 Tryz.sizeOf72 enP (fun _ => rfl) (fun x v hv => by simp [enP] at hv; rcases hv with rfl | rfl <;> rfl) cP swo_enP 30 #[] g 0 cap l.toArray w eg (cmpLays_any g 0 _ w) (holds_cl hC hF) hg (by simp; omega)
    simp only [List.size_toArray] at hcon
    refine (show Calls Tryz.prog 29 _ _ _ from hcon).mono ?_
    rintro e w' ⟨rfl, d', n, os, hp, hs, rfl⟩
    have hsz : d'.size = l.length := by have := hp.1; simpa using this
    have hpl : d'.toList.Perm l := by
      have := hp.2.2
      simp only [← hsz, Array.extract_size] at this
      simpa [hsz] using this
    have hH : HoldsK enP 2 (sortWorldK enP 2 w g 0 n d' os) g 0 d' := holdsK_grow enP 2 _ os g 0 d' (by unfold putRowK; simpa using hg) (holdsK_putRowK enP 2 (Sort.ahead w n) g 0 l.toArray d' (holdsK_ahead enP 2 w n g 0 _ (holds_cl hC hF)) (by simpa using hsz))
    refine ⟨rfl, _, cap, d'.toList, rfl, hpl, ?_, ⟨.inr ⟨g, 0, rfl, cl_holds hH⟩, by simpa using hsz, hc, by unfold maxLen at hm; omega, fun h => by cases h⟩, un.grownBy_put _, fun x h => by cases h; exact ⟨⟨_, _, hh⟩, hbg⟩⟩
    unfold WSrt
    rw [List.pairwise_iff_getElem]
    intro i j hi hj hij
    have h1 := hs i j (Nat.zero_le _) hij (by rw [← hsz]; simpa using hj)
    rw [lt_enP] at h1
    simp at hi hj
    simp [hi, hj] at h1
    simpa using h1
end Go.Proofs.YtbpijgddfaefkaaGreatDoor.pb
namespace Go.Proofs.YtbpijgddfaefkaaGreatDoor.pa
open Go.RowKit dec

theorem KpT.mono {ok ok' : TypeId → Prop} {C C' : Nat} {w w' : World} (h : KpT ok C w w') (hok : ∀ T, ok' T → ok T) (hC : C ≤ C') : KpT ok' C' w w' := fun b T cs fr hb hT hc => h b T cs fr (Nat.le_trans hC hb) (hok T hT) hc
/-- What changes no block but of problems. -/
theorem Mf.kp {w0 : World} {base B g : Nat} {ta : Option Addr} {n cap : Nat} {m : Mo} {l : List Tk} {w w' : World} (h : Mf w0 base B g ta n cap w m l) (K : KpT (fun T => T ≠ 72) 0 w w') (hb : Below w0.heap.size w w') : Mf w0 base B g ta n cap w' m l := by
  have h1 := h.h1
  have h2 := h.h2
  have h3 := h.h3
  obtain ⟨tv, fv, ct, cf, b, r1, r2, e1, e2⟩ := h.mm.ex
  have hB : w'.heap[B]? = w.heap[B]? := by
    obtain ⟨cs, fr, ht⟩ := h.ps.tag
    exact K B _ cs fr (Nat.zero_le _) (by decide) ht
  have hT : ∀ b off, ta = some ⟨b, off, none⟩ → w'.heap[b]? = w.heap[b]? := fun b off e => by
    obtain ⟨t1, t2, cs, fr, t3⟩ := h.tok b off e
    exact K b _ cs fr (Nat.zero_le _) (by decide) t3
  refine ⟨Ps.pass h.ps h.cB hB hT h.tabs (h.bel.trans hb) (by omega), (World.cell?_of_block (w := w) hB).trans h.cB, fun b off e => ?_, h.tabs, h.bel.trans hb, h1, h2, h3, by have := h.h4; have := hb.size; omega, ⟨tv, fv, ct, cf, (K g _ _ _ (Nat.zero_le _) (by decide) b).trans b, ?_, ?_, ?_, ?_⟩⟩
  · obtain ⟨t1, t2, t3⟩ := h.tok b off e
    exact ⟨t1, t2, K.tg (Nat.zero_le _) (by decide) t3⟩
  · exact Rw.kpT r1 K (by decide) (Nat.zero_le _)
  · exact Rw.kpT r2 K (by decide) (Nat.zero_le _)
  · exact e1.map fun c y hq => TbQ.kpT (ok := fun T => T ≠ 72) (by decide) (by decide) hq (KpT.mono K (fun _ h => h) (Nat.zero_le _))
  · exact e2.map fun c y hq => FeQ.kpT (ok := fun T => T ≠ 72) (by decide) (by decide) hq (KpT.mono K (fun _ h => h) (Nat.zero_le _))
theorem Mf.prob {w0 : World} {base B g k : Nat} {ta : Option Addr} {n cap : Nat} {m : Mo} {l : List Tk} {w w' : World} {cs : Array Value} (h : Mf w0 base B g ta n cap w m l) (hs : St k w w') (hb : Blk w k 72 cs) (hk : base ≤ k) : Mf w0 base B g ta n cap w' m l :=
  h.kp (St.kpT hs hb (by simp) 0) (hs.below (by have := h.h1; have := h.h2; have := h.h3; omega))
theorem pb_grow {w w' : World} {base : Nat} {v : Value} {l : List Pb} (hO : pb.Own w base v l) (hg : w.grownBy w' v.ownBlock) : KpT (fun T => T ≠ 72) 0 w w' := fun b T cs fr _ hT hc => hg.block b (heap_lt hc) (by
  intro e
  rcases hO.2 with ⟨rfl, _⟩ | ⟨g, cap, cur, rfl, _, hh, _⟩
  · cases e
  · cases e
    rw [hh] at hc
    cases hc
    exact hT rfl)
theorem pb_mq {w w' : World} {base B g : Nat} {v : Value} {l : List Pb} (hO : pb.Own w base v l) (Q : Mq B g w w') (hB : Tg w B 67) (hg : Tg w g 27) : pb.Own w' base v l := by
  obtain ⟨h1, h2⟩ := hO
  refine ⟨h1, ?_⟩
  rcases h2 with h0 | ⟨k, cap, cur, e, hbg, hh, r⟩
  · exact .inl h0
  · refine .inr ⟨k, cap, cur, e, hbg, ?_, r⟩
    rw [Q.block k _ cur (0, 0) hh ?_ ?_ (by decide) (by decide)]
    · exact hh
    · rintro rfl
      obtain ⟨cs, fr, ht⟩ := hB
      rw [ht] at hh
      cases hh
    · rintro rfl
      obtain ⟨cs, fr, ht⟩ := hg
      rw [ht] at hh
      cases hh
set_option maxRecDepth 100000 in
set_option maxHeartbeats 2000000 in
theorem mod1_r (bp : Nat) (w0 : World) (base B g : Nat) (ta : Option Addr) (n cap : Nat) (m : Mo) (l : List Tk) (w : World) (h : Mf w0 base B g ta n cap w m l) (hn1 : m.ts.length < 1048577) (hn2 : m.fs.length < 1048577) (hp : Blk w bp 65 #[.pointer (some ⟨B, 0, none⟩)]) :
    Calls Tryz.prog 26 #[.pointer (some ⟨bp, 0, none⟩), .pointer (some ⟨g, 0, none⟩)] w (Mst w0 base B g ta n cap m (itmR m l) w) := by
  have I := Lib.hid (item_r w0 base B g ta n cap m l w h hn1 hn2)
  have e0 : w.cell? ⟨bp, 0, none⟩ = some (.pointer (some ⟨B, 0, none⟩)) := hp.cell 0
  clear h hp
  go_enter Tryz.func26, Tryz.ntmps26
  go_wp2_with fail
  refine I.out.mono ?_
  rintro e w2 k2
  rcases hG : itmR m l with _ | ⟨m', l2⟩ | ⟨a, c, l2⟩
  · exact absurd hG (itmR_ne m l)
  · rw [hG] at k2
    obtain ⟨rfl, F9, Q9⟩ := k2
    have F9 := Lib.hid F9
    have Q9 := Lib.hid Q9
    go_wp2_with fail
    go_end0
    exact mst_ok hG F9.out Q9.out
  · rw [hG] at k2
    obtain ⟨rfl, F9, Q9⟩ := k2
    have F9 := Lib.hid F9
    have Q9 := Lib.hid Q9
    unfold thr
    go_wp2_with fail
    refine ⟨rfl, ?_⟩
    first | exact ⟨rfl, F9.out, Q9.out⟩ | (rw [hG]; exact ⟨rfl, F9.out, Q9.out⟩)
set_option maxRecDepth 100000 in
/-- An item is attempted. -/
theorem att_ok (bp : Nat) {w0 : World} {base B g : Nat} {ta : Option Addr} {n cap : Nat} {m m' : Mo} {l l' : List Tk} {w : World} (h : Mf w0 base B g ta n cap w m l) (hn1 : m.ts.length < 1048577) (hn2 : m.fs.length < 1048577) (hp : Blk w bp 65 #[.pointer (some ⟨B, 0, none⟩)]) (hG : itmR m l = .ok m' l') :
    Calls Tryz.prog 25 #[.func (.func 26) #[] #[.pointer (some ⟨bp, 0, none⟩), .pointer (some ⟨g, 0, none⟩)]] w fun e w' => e = .returned (.agg #[.int .i64 0, .int .i64 0]) ∧ Mf w0 base B g ta n cap w' m' l' ∧ Mq B g w w' := by
  have bb := balloc (b0 w) (.cells #[.int .i64 0, .int .i64 0] 72)
  have h1 := h.step (Mv.of bb) (h.ps.keeps bb)
  have hI := mod1_r bp w0 base B g ta n cap m l _ h1 hn1 hn2 (hp.past _)
  rw [hG] at hI
  have hBg : B < w.heap.size := h.ps.lt
  have hg : g < w.heap.size := Nat.lt_trans h.h2 hBg
  have n1 : w.heap.size ≠ B := Nat.ne_of_gt hBg
  have n2 : w.heap.size ≠ g := Nat.ne_of_gt hg
  have hY : ∀ w', Mq B g (w.alloc (.cells #[.int .i64 0, .int .i64 0] 72)) w' → Blk w' w.heap.size 72 #[.int .i64 0, .int .i64 0] := fun w' Q => by
    have := Q.block w.heap.size 72 _ (0, 0) (Blk.new w 72 #[.int .i64 0, .int .i64 0]) n1 n2 (by decide) (by decide)
    exact this.trans (Blk.new w _ _)
  refine (attempt_ok 26 _ w (fun w' => Mf w0 base B g ta n cap w' m' l' ∧ Mq B g (w.alloc (.cells #[.int .i64 0, .int .i64 0] 72)) w') (fun w' hY' => hY w' hY'.2) hI (fun _ => rfl)).mono ?_
  rintro e w'' ⟨w', ⟨F', Q'⟩, S', rfl⟩
  have hsz := Q'.size
  simp at hsz
  refine ⟨rfl, F'.prob S' (hY w' Q') h.h4, by have := S'.size; omega, fun k T cs fr hk hn hg' t1 t2 => ?_⟩
  have hlt := heap_lt hk
  have a1 := Go.heap_alloc_old w (.cells #[.int .i64 0, .int .i64 0] 72) hlt
  have a2 := Q'.block k T cs fr (a1.trans hk) hn hg' t1 t2
  exact (S'.block k (by omega)).trans (a2.trans a1)
set_option maxRecDepth 100000 in
/-- An item is attempted. -/
theorem att_no (bp : Nat) {w0 : World} {base B g : Nat} {ta : Option Addr} {n cap : Nat} {m : Mo} {l l' : List Tk} {w : World} (h : Mf w0 base B g ta n cap w m l) (hn1 : m.ts.length < 1048577) (hn2 : m.fs.length < 1048577) (hp : Blk w bp 65 #[.pointer (some ⟨B, 0, none⟩)]) {a c : Int} (hG : itmR m l = .no a c l') :
    Calls Tryz.prog 25 #[.func (.func 26) #[] #[.pointer (some ⟨bp, 0, none⟩), .pointer (some ⟨g, 0, none⟩)]] w fun e w' => e = .returned (.agg #[.int .i64 a, .int .i64 c]) ∧ Mf w0 base B g ta n cap w' m l' ∧ Mq B g w w' := by
  have bb := balloc (b0 w) (.cells #[.int .i64 0, .int .i64 0] 72)
  have h1 := h.step (Mv.of bb) (h.ps.keeps bb)
  have hI := mod1_r bp w0 base B g ta n cap m l _ h1 hn1 hn2 (hp.past _)
  rw [hG] at hI
  have hBg : B < w.heap.size := h.ps.lt
  have hg : g < w.heap.size := Nat.lt_trans h.h2 hBg
  have n1 : w.heap.size ≠ B := Nat.ne_of_gt hBg
  have n2 : w.heap.size ≠ g := Nat.ne_of_gt hg
  have hY : ∀ w', Mq B g (w.alloc (.cells #[.int .i64 0, .int .i64 0] 72)) w' → Blk w' w.heap.size 72 #[.int .i64 0, .int .i64 0] := fun w' Q => by
    have := Q.block w.heap.size 72 _ (0, 0) (Blk.new w 72 #[.int .i64 0, .int .i64 0]) n1 n2 (by decide) (by decide)
    exact this.trans (Blk.new w _ _)
  refine (attempt_no 26 _ w a c (fun w' => Mf w0 base B g ta n cap w' m l' ∧ Mq B g (w.alloc (.cells #[.int .i64 0, .int .i64 0] 72)) w') (fun w' hY' => hY w' hY'.2) hI (fun _ => rfl)).mono ?_
  rintro e w'' ⟨w', ⟨F', Q'⟩, S', rfl⟩
  have hsz := Q'.size
  simp at hsz
  refine ⟨rfl, F'.prob S' (hY w' Q') h.h4, by have := S'.size; omega, fun k T cs fr hk hn hg' t1 t2 => ?_⟩
  have hlt := heap_lt hk
  have a1 := Go.heap_alloc_old w (.cells #[.int .i64 0, .int .i64 0] 72) hlt
  have a2 := Q'.block k T cs fr (a1.trans hk) hn hg' t1 t2
  exact (S'.block k (by omega)).trans (a2.trans a1)
end Go.Proofs.YtbpijgddfaefkaaGreatDoor.pa
