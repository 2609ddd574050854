/-
  CheckerUnits.
-/
import Derived.Test.YtbkpjhffmaldmaaGreatDoorQ13
import Derived.Test.YtbkpjhffmaldmaaGreatDoorZFct
namespace Go.Proofs.YtbkpjhffmaldmaaGreatDoor.ch
open Go.RowKit dec

def kdT (a b : Ty) : Int := if a.k = 2 ∧ b.k = 2 then 2 else 3
theorem bin_mul {a b : Ty} (na : num a = true) (nb : num b = true) : binT ⟨#[42]⟩ a b = if un.cE 1 a.un b.un = 0 then (0, ⟨kdT a b, un.cL 1 a.un b.un, .empty⟩) else noR 70 := by
  unfold binT
  rw [if_pos (.inr (.inr (.inl rfl)))]
  unfold calT calU kdT
  rw [na, nb, if_neg (by decide), if_neg (by decide), if_pos rfl]
  by_cases h : un.cE 1 a.un b.un = 0
  · rw [if_neg (fun e => e h), if_pos h]
    by_cases hk : a.k = 2 ∧ b.k = 2
    · rw [if_pos ⟨by decide, hk.1, hk.2⟩, if_pos hk]
      rfl
    · rw [if_neg (fun e => hk e.2), if_neg hk]
      rfl
  · rw [if_pos h, if_neg h]
theorem bin_div {a b : Ty} (na : num a = true) (nb : num b = true) : binT ⟨#[47]⟩ a b = if un.cE (-1) a.un b.un = 0 then (0, ⟨3, un.cL (-1) a.un b.un, .empty⟩) else noR 70 := by
  unfold binT
  rw [if_pos (.inr (.inr (.inr rfl)))]
  unfold calT calU
  rw [na, nb, if_neg (by decide), if_neg (by decide), if_neg (by decide : ¬ (⟨#[47]⟩ : ByteArray) = ⟨#[42]⟩), if_pos rfl]
  by_cases h : un.cE (-1) a.un b.un = 0
  · rw [if_neg (fun e => e h), if_pos h, if_neg (fun e => e.1 rfl)]
    rfl
  · rw [if_pos h, if_neg h]
theorem bin_sub {a b : Ty} (na : num a = true) (nb : num b = true) : binT ⟨#[45]⟩ a b = if a.un = b.un then (0, ⟨kdT a b, a.un, .empty⟩) else noR 70 := by
  unfold binT
  rw [if_pos (.inr (.inl rfl))]
  unfold calT calU kdT
  rw [na, nb, if_neg (by decide), if_neg (by decide), if_neg (by decide : ¬ (⟨#[45]⟩ : ByteArray) = ⟨#[42]⟩), if_neg (by decide : ¬ (⟨#[45]⟩ : ByteArray) = ⟨#[47]⟩)]
  by_cases h : a.un = b.un
  · rw [if_pos h, if_pos h, if_neg (by simp)]
    by_cases hk : a.k = 2 ∧ b.k = 2
    · rw [if_pos ⟨by decide, hk.1, hk.2⟩, if_pos hk]
      rfl
    · rw [if_neg (fun e => hk e.2), if_neg hk]
      rfl
  · rw [if_neg h, if_neg h, if_pos (by simp)]
theorem bin_less {a b : Ty} (na : num a = true) (nb : num b = true) : binT ⟨#[60]⟩ a b = if a.un = b.un then (0, boolT) else noR 70 := by
  have hc : cmpT ⟨#[60]⟩ a b = if a.un = b.un then 0 else 70 := by
    unfold cmpT
    rw [if_neg (by decide : ¬ ((⟨#[60]⟩ : ByteArray) = ⟨#[97, 110, 100]⟩ ∨ (⟨#[60]⟩ : ByteArray) = ⟨#[111, 114]⟩)), na, nb, if_pos ⟨rfl, rfl⟩]
  unfold binT
  rw [if_neg (by decide : ¬ ((⟨#[60]⟩ : ByteArray) = ⟨#[43]⟩ ∨ (⟨#[60]⟩ : ByteArray) = ⟨#[45]⟩ ∨ (⟨#[60]⟩ : ByteArray) = ⟨#[42]⟩ ∨ (⟨#[60]⟩ : ByteArray) = ⟨#[47]⟩)), hc]
  by_cases h : a.un = b.un
  · rw [if_pos h, if_pos h, if_pos rfl]
    rfl
  · rw [if_neg h, if_neg h, if_neg (by decide)]
theorem bin_szs {op : ByteArray} {x y : Ex} (ho : op.size ≤ 140737488355328) (hx : x.szs) (hy : y.szs) : (binX op x y).szs := ⟨⟨ho, (by decide : (⟨#[]⟩ : ByteArray).size ≤ 140737488355328), (by decide : (⟨#[]⟩ : ByteArray).size ≤ 140737488355328), (by decide : (⟨#[]⟩ : ByteArray).size ≤ 140737488355328)⟩, hx.h, hx.ar, hy.h, hy.ar, trivial⟩
theorem bin_lns {op : ByteArray} {x y : Ex} (hx : x.lns) (hy : y.lns) : (binX op x y).lns := ⟨Nat.zero_le _, hx.h, hx.ar, hy.h, hy.ar, trivial⟩
theorem infer_v (cs : Array Value) (ts : List Tb) (gs : List Fe) (en : ByteArray) (x : Ex) (ds : Array Value) (w : World) (hC : CtV w cs ts gs) (hcl : CtL ts gs) (hs : x.szs) (hx : x.lns) (hE : ExV w ds x) (T : Tabs w) :
    Calls Tryz.prog 22 #[.agg cs, .string en, .agg ds] w (IfV (inf ts gs en x) w) := by
  obtain ⟨ua, uc, aa, ac, rfl, E⟩ := hE
  exact Infer_any cs ts gs en x ua aa uc ac w hC hcl hs hx E T
theorem shape_v (x : Ex) (ds : Array Value) (w : World) (hs : x.szs) (hE : ExV w ds x) (T : Tabs w) : Calls Tryz.prog 12 #[.agg ds] w (Num (shE x) w) := by
  obtain ⟨ua, uc, aa, ac, rfl, E⟩ := hE
  exact shape_any' x ua aa uc ac w hs E T
set_option maxRecDepth 100000 in
set_option maxHeartbeats 8000000 in
theorem walk_units (cs : Array Value) (ts : List Tb) (gs : List Fe) (en : ByteArray) (x y : Ex) (ua aa ub ab : Option Addr) (uc ac ud ad : Nat) (w : World) (hC : CtV w cs ts gs) (hcl : CtL ts gs) (hsx : x.szs) (hlx : x.lns) (hsy : y.szs) (hly : y.lns) (hX : Ec w x ua uc aa ac) (hY : Ec w y ub ud ab ad) (T : Tabs w) :
    Calls Tryz.prog 8 #[.agg cs, .string en, .agg (exC x.h x.ar.len ua uc aa ac), .agg (exC y.h y.ar.len ub ud ab ad)] w (Bl true w) := by
  obtain ⟨ta, tn, tc, ga, gn, gc, da, dn, dc, pa, pn, pc, rfl, hT, hG⟩ := hC
  unfold ctC
  have hC : CtV w #[.slice ta tn tc, .slice ga gn gc, .slice da dn dc, .slice pa pn pc] ts gs := ⟨ta, tn, tc, ga, gn, gc, da, dn, dc, pa, pn, pc, rfl, hT, hG⟩
  have hXV : ExV w (exC x.h x.ar.len ua uc aa ac) x := ⟨ua, uc, aa, ac, rfl, hX⟩
  have hYV : ExV w (exC y.h y.ar.len ub ud ab ad) y := ⟨ub, ud, ab, ad, rfl, hY⟩
  have CE := Lib.hid (fun (W : World) (b : Below w.heap.size w W) => example_any W (T.stays b))
  have CX := Lib.hid (fun (W : World) (b : Below w.heap.size w W) => infer_v #[.slice ta tn tc, .slice ga gn gc, .slice da dn dc, .slice pa pn pc] ts gs en x (exC x.h x.ar.len ua uc aa ac) W (ct_keeps hC b) hcl hsx hlx (hXV.keeps b) (T.stays b))
  have CY := Lib.hid (fun (W : World) (b : Below w.heap.size w W) => infer_v #[.slice ta tn tc, .slice ga gn gc, .slice da dn dc, .slice pa pn pc] ts gs en y (exC y.h y.ar.len ub ud ab ad) W (ct_keeps hC b) hcl hsy hly (hYV.keeps b) (T.stays b))
  have CN := Lib.hid (fun (t : Ty) (a : Option Addr) (c : Nat) (W : World) => rNumber_any t a c W)
  have CB := Lib.hid (fun (op : ByteArray) (W : World) (b : Below w.heap.size w W) => binary_x op x y (exC x.h x.ar.len ua uc aa ac) (exC y.h y.ar.len ub ud ab ad) W (hXV.keeps b) (hYV.keeps b))
  have CS := Lib.hid (fun (ds : Array Value) (W : World) (b : Below w.heap.size w W) (E : ExV W ds (binX ⟨#[42]⟩ x y)) => shape_v (binX ⟨#[42]⟩ x y) ds W (bin_szs (by decide) hsx hsy) E (T.stays b))
  have CI := Lib.hid (fun (op : ByteArray) (ho : op.size ≤ 140737488355328) (ds : Array Value) (W : World) (b : Below w.heap.size w W) (E : ExV W ds (binX op x y)) => infer_v #[.slice ta tn tc, .slice ga gn gc, .slice da dn dc, .slice pa pn pc] ts gs en (binX op x y) ds W (ct_keeps hC b) hcl (bin_szs ho hsx hsy) (bin_lns hlx hly) E (T.stays b))
  have CT := Lib.hid (fun (a : Option Addr) (n c : Nat) (b : Option Addr) (m d : Nat) (l r : List un.Fa) (W : World) (S1 : un.Sl W a n c l) (S2 : un.Sl W b m d r) => un.times_any a n c b m d l r W S1 S2)
  have CO := Lib.hid (fun (a : Option Addr) (n c : Nat) (b : Option Addr) (m d : Nat) (l r : List un.Fa) (W : World) (S1 : un.Sl W a n c l) (S2 : un.Sl W b m d r) => un.over_any a n c b m d l r W S1 S2)
  have CU := Lib.hid (fun (a : Option Addr) (n c : Nat) (b : Option Addr) (m d : Nat) (l r : List un.Fa) (W : World) (S1 : un.Sl W a n c l) (S2 : un.Sl W b m d r) => un.same_any a n c b m d l r W S1 S2)
  have CQ := Lib.hid (fun (t : Ty) (a b : Option Addr) (c d : Nat) (W : World) (S1 : un.Sl W a t.un.length c t.un) (S2 : un.Sl W b t.un.length d t.un) => (show Calls Tryz.prog 23 #[.agg (tyC t a c), .agg (tyC t b d)] W (Bl true W) from by have h := sameType_any t t a b c d W S1 S2; rwa [sameT_refl] at h))
  have hIB := Lib.hid (fun (a b : Ty) (op : ByteArray) (e1 : inf ts gs en x = (0, a)) (e2 : inf ts gs en y = (0, b)) (e : shE (binX op x y) = 0) => inf_bin e1 e2 e)
  have hSB := Lib.hid (fun (op : ByteArray) (e : shE (binX ⟨#[42]⟩ x y) = 0) (ho : binO op = true) => sh_bin (x := x) (y := y) e ho)
  have bb := below_three w (.cells #[.slice ta tn tc, .slice ga gn gc, .slice da dn dc, .slice pa pn pc] 46) (.cells (exC x.h x.ar.len ua uc aa ac) 29) (.cells (exC y.h y.ar.len ub ud ab ad) 29)
  have B0 := Lib.hid bb
  have GG := bw_three w #[.slice ta tn tc, .slice ga gn gc, .slice da dn dc, .slice pa pn pc] (exC x.h x.ar.len ua uc aa ac) (exC y.h y.ar.len ub ud ab ad) 46 29 29
  have V4 := Lib.hid GG.1
  have V6 := Lib.hid GG.2.1
  have V7 := Lib.hid GG.2.2
  clear hC hT hG T hX hY hXV hYV hcl hsx hsy hlx hly bb GG
  generalize hrx : inf ts gs en x = rx at *
  generalize hry : inf ts gs en y = ry at *
  replace hrx := Lib.hid hrx
  replace hry := Lib.hid hry
  generalize hsh : shE (binX ⟨#[42]⟩ x y) = sh at *
  replace hsh := Lib.hid hsh
  go_enter Tryz.func8, Tryz.ntmps8
  go_wp2_with fail
  refine (CE.out _ B0.out).mono ?_
  rintro e w1 ⟨rfl, b1⟩
  have B1 := Lib.hid (bnext B0.out b1)
  replace V4 := Lib.hid (V4.out.keeps b1)
  replace V6 := Lib.hid (V6.out.keeps b1)
  replace V7 := Lib.hid (V7.out.keeps b1)
  clear b1
  clear CE
  have z0 := Lib.hid (show w.heap.size < w.heap.size + 1 ∧ w.heap.size + 1 < w.heap.size + 2 from ⟨by omega, by omega⟩)
  generalize hg7 : w.heap.size + 2 = g7 at V7 z0 ⊢
  generalize hg6 : w.heap.size + 1 = g6 at V6 z0 ⊢
  generalize hg4 : w.heap.size = g4 at V4 z0 ⊢
  have hz4 := Lib.hid (Nat.le_of_eq hg4)
  clear hg7 hg6 hg4 z0
  go_wp2_with (first | (refine arm_loadT infCa Tryz.underlying46 rfl (.tmp 4) rfl rfl _ _ _ rfl V4.out rfl ?_) | (refine arm_loadT infX Tryz.underlying29 rfl (.tmp 6) rfl rfl _ _ _ rfl V6.out rfl ?_))
  refine (CX.out _ B1.out).mono ?_
  rintro e w2 ⟨xa, xc, rfl, sx, b2⟩
  have B2 := Lib.hid (bnext B1.out b2)
  replace V4 := Lib.hid (V4.out.keeps b2)
  replace V6 := Lib.hid (V6.out.keeps b2)
  replace V7 := Lib.hid (V7.out.keeps b2)
  have S10 := Lib.hid sx
  clear b2 sx
  clear CX
  go_upto_region 3 with (first | (refine arm_storeT infTy (.tmp 10) (.tmp 27) rfl rfl _ _ _ _ rfl rfl (Blk.new _ _ _) rfl rfl (by simp [tyC, Value.oneCell']) ?_; intro w31 L hs; have bb := (balloc (b0 w2) _).trans (hs.below (Nat.le_refl _))))
  have B31 := Lib.hid (bnext B2.out bb)
  replace V4 := Lib.hid (V4.out.keeps bb)
  replace V6 := Lib.hid (V6.out.keeps bb)
  replace V7 := Lib.hid (V7.out.keeps bb)
  replace S10 := Lib.hid (S10.out.keeps bb)
  have L10 := Lib.hid L
  clear L bb hs
  generalize w2.heap.size = g10 at *
  go_wp2_with (first | (refine arm_loadT infCa Tryz.underlying46 rfl (.tmp 4) rfl rfl _ _ _ rfl V4.out rfl ?_) | (refine arm_loadT infX Tryz.underlying29 rfl (.tmp 7) rfl rfl _ _ _ rfl V7.out rfl ?_))
  refine (CY.out _ B31.out).mono ?_
  rintro e w4 ⟨ya, yc, rfl, sy, b4⟩
  have B4 := Lib.hid (bnext B31.out b4)
  replace V4 := Lib.hid (V4.out.keeps b4)
  replace V6 := Lib.hid (V6.out.keeps b4)
  replace V7 := Lib.hid (V7.out.keeps b4)
  replace S10 := Lib.hid (S10.out.keeps b4)
  replace L10 := Lib.hid (L10.out.keeps b4)
  have S12 := Lib.hid sy
  clear b4 sy
  clear CY
  go_upto_region 4 with (first | (refine arm_storeT infTy (.tmp 12) (.tmp 34) rfl rfl _ _ _ _ rfl rfl (Blk.new _ _ _) rfl rfl (by simp [tyC, Value.oneCell']) ?_; intro w51 L hs; have bb := (balloc (b0 w4) _).trans (hs.below (Nat.le_refl _))))
  have B51 := Lib.hid (bnext B4.out bb)
  replace V4 := Lib.hid (V4.out.keeps bb)
  replace V6 := Lib.hid (V6.out.keeps bb)
  replace V7 := Lib.hid (V7.out.keeps bb)
  replace S10 := Lib.hid (S10.out.keeps bb)
  replace L10 := Lib.hid (L10.out.keeps bb)
  replace S12 := Lib.hid (S12.out.keeps bb)
  have L12 := Lib.hid L
  clear L bb hs
  generalize w4.heap.size = g12 at *
  by_cases hx : rx.1 = 0
  · have qx := in_is hx
    have qx2 : (rx.1 != 0) = false := by simp [hx]
    replace hx := Lib.hid hx
    by_cases hy : ry.1 = 0
    · have qy := in_is hy
      have qy2 : (ry.1 != 0) = false := by simp [hy]
      replace hy := Lib.hid hy
      go_wp2_with (first | (refine arm_loadG infTy Tryz.underlying36 rfl (.tmp 10) rfl rfl _ _ _ rfl L10.out rfl ?_) | (refine arm_loadG infTy Tryz.underlying36 rfl (.tmp 12) rfl rfl _ _ _ rfl L12.out rfl ?_) | (refine arm_loadG infX Tryz.underlying29 rfl (.tmp 6) rfl rfl _ _ _ rfl V6.out rfl ?_) | (refine arm_loadG infX Tryz.underlying29 rfl (.tmp 7) rfl rfl _ _ _ rfl V7.out rfl ?_))
      refine (CN.out rx.2 xa xc _).mono ?_
      rintro e w6 ⟨rfl, b6⟩
      have B6 := Lib.hid (bnext B51.out b6)
      replace V4 := Lib.hid (V4.out.keeps b6)
      replace V6 := Lib.hid (V6.out.keeps b6)
      replace V7 := Lib.hid (V7.out.keeps b6)
      replace S10 := Lib.hid (S10.out.keeps b6)
      replace L10 := Lib.hid (L10.out.keeps b6)
      replace S12 := Lib.hid (S12.out.keeps b6)
      replace L12 := Lib.hid (L12.out.keeps b6)
      clear b6
      generalize hna : num rx.2 = na at *
      replace hna := Lib.hid hna
      cases na
      · go_wp2_with fail
        go_ret
        exact bl_of rfl B6.out
      · go_wp2_with (first | (refine arm_loadG infTy Tryz.underlying36 rfl (.tmp 10) rfl rfl _ _ _ rfl L10.out rfl ?_) | (refine arm_loadG infTy Tryz.underlying36 rfl (.tmp 12) rfl rfl _ _ _ rfl L12.out rfl ?_) | (refine arm_loadG infX Tryz.underlying29 rfl (.tmp 6) rfl rfl _ _ _ rfl V6.out rfl ?_) | (refine arm_loadG infX Tryz.underlying29 rfl (.tmp 7) rfl rfl _ _ _ rfl V7.out rfl ?_))
        refine (CN.out ry.2 ya yc _).mono ?_
        rintro e w7 ⟨rfl, b7⟩
        have B7 := Lib.hid (bnext B6.out b7)
        replace V4 := Lib.hid (V4.out.keeps b7)
        replace V6 := Lib.hid (V6.out.keeps b7)
        replace V7 := Lib.hid (V7.out.keeps b7)
        replace S10 := Lib.hid (S10.out.keeps b7)
        replace L10 := Lib.hid (L10.out.keeps b7)
        replace S12 := Lib.hid (S12.out.keeps b7)
        replace L12 := Lib.hid (L12.out.keeps b7)
        clear b7
        generalize hnb : num ry.2 = nb at *
        replace hnb := Lib.hid hnb
        clear CN
        cases nb
        · go_wp2_with fail
          go_ret
          exact bl_of rfl B7.out
        · go_wp2_with (first | (refine arm_loadG infTy Tryz.underlying36 rfl (.tmp 10) rfl rfl _ _ _ rfl L10.out rfl ?_) | (refine arm_loadG infTy Tryz.underlying36 rfl (.tmp 12) rfl rfl _ _ _ rfl L12.out rfl ?_) | (refine arm_loadG infX Tryz.underlying29 rfl (.tmp 6) rfl rfl _ _ _ rfl V6.out rfl ?_) | (refine arm_loadG infX Tryz.underlying29 rfl (.tmp 7) rfl rfl _ _ _ rfl V7.out rfl ?_))
          refine (CB.out ⟨#[42]⟩ _ B7.out).mono ?_
          rintro e w8 ⟨cb, rfl, xb, b8⟩
          have B8 := Lib.hid (bnext B7.out b8)
          replace V4 := Lib.hid (V4.out.keeps b8)
          replace V6 := Lib.hid (V6.out.keeps b8)
          replace V7 := Lib.hid (V7.out.keeps b8)
          replace S10 := Lib.hid (S10.out.keeps b8)
          replace L10 := Lib.hid (L10.out.keeps b8)
          replace S12 := Lib.hid (S12.out.keeps b8)
          replace L12 := Lib.hid (L12.out.keeps b8)
          have XB := Lib.hid xb
          clear b8 xb
          go_wp2_with (first | (refine arm_loadG infTy Tryz.underlying36 rfl (.tmp 10) rfl rfl _ _ _ rfl L10.out rfl ?_) | (refine arm_loadG infTy Tryz.underlying36 rfl (.tmp 12) rfl rfl _ _ _ rfl L12.out rfl ?_) | (refine arm_loadG infX Tryz.underlying29 rfl (.tmp 6) rfl rfl _ _ _ rfl V6.out rfl ?_) | (refine arm_loadG infX Tryz.underlying29 rfl (.tmp 7) rfl rfl _ _ _ rfl V7.out rfl ?_))
          refine (CS.out cb _ B8.out XB.out).mono ?_
          rintro e w9 ⟨rfl, b9⟩
          have B9 := Lib.hid (bnext B8.out b9)
          replace V4 := Lib.hid (V4.out.keeps b9)
          replace V6 := Lib.hid (V6.out.keeps b9)
          replace V7 := Lib.hid (V7.out.keeps b9)
          replace S10 := Lib.hid (S10.out.keeps b9)
          replace L10 := Lib.hid (L10.out.keeps b9)
          replace S12 := Lib.hid (S12.out.keeps b9)
          replace L12 := Lib.hid (L12.out.keeps b9)
          clear b9
          clear CS XB
          by_cases hs0 : sh = 0
          · have qs : (sh != 0) = false := by simp [hs0]
            replace hs0 := Lib.hid hs0
            go_upto_region 6 with fail
            obtain ⟨e, a⟩ := rx
            obtain ⟨e', b⟩ := ry
            have hx2 : e = 0 := hx.out
            have hy2 : e' = 0 := hy.out
            subst hx2 hy2
            clear hx hy qx qx2 qy qy2 qs
            simp only at *
            have hs2 := hsh.out.trans hs0.out
            have rM := Lib.hid ((hIB.out a b ⟨#[42]⟩ rfl rfl hs2).trans (bin_mul hna.out hnb.out))
            have rD := Lib.hid ((hIB.out a b ⟨#[47]⟩ rfl rfl (hSB.out ⟨#[47]⟩ hs0.out (by decide))).trans (bin_div hna.out hnb.out))
            have rS := Lib.hid ((hIB.out a b ⟨#[45]⟩ rfl rfl (hSB.out ⟨#[45]⟩ hs0.out (by decide))).trans (bin_sub hna.out hnb.out))
            have rL := Lib.hid ((hIB.out a b ⟨#[60]⟩ rfl rfl (hSB.out ⟨#[60]⟩ hs0.out (by decide))).trans (bin_less hna.out hnb.out))
            clear hs2 hsh hs0 hIB hSB hrx hry hna hnb
            have k1 := L10.out.cell 0
            have k2 := L12.out.cell 0
            simp only [tyC, List.getElem?_toArray, List.getElem?_cons_zero] at k1 k2
            go_upto_region 7 with fail
            go_cut [67] from 60 to 67 (fun v wx => v = .bool (decide (a.k = 2) && decide (b.k = 2)) ∧ wx = w9)
            case first =>
              by_cases h1 : a.k = 2
              · have q1 := in_is h1
                replace h1 := Lib.hid h1
                by_cases h2 : b.k = 2
                · have q2 := in_is h2
                  replace h2 := Lib.hid h2
                  go_wp2_with fail
                  go_meet
                  case rel => exact ⟨by rw [decide_eq_true h1.out, decide_eq_true h2.out]; rfl, rfl⟩
                · have q2 := in_ne h2
                  replace h2 := Lib.hid h2
                  go_wp2_with fail
                  go_meet
                  case rel => exact ⟨by rw [decide_eq_true h1.out, decide_eq_false h2.out]; rfl, rfl⟩
              · have q1 := in_ne h1
                replace h1 := Lib.hid h1
                go_wp2_with fail
                go_meet
                case rel => exact ⟨by rw [decide_eq_false h1.out]; rfl, rfl⟩
            case rest =>
              obtain ⟨rfl, rfl⟩ := hcut
              clear k1 k2
              generalize hKB : (decide (a.k = 2) && decide (b.k = 2)) = KB at *
              have hkd := Lib.hid (show kdT a b = if KB = true then 2 else 3 from by rw [← hKB]; unfold kdT; by_cases h1 : a.k = 2 <;> by_cases h2 : b.k = 2 <;> simp [h1, h2])
              clear hKB
              go_upto_if 67 with fail
              go_cut [14] from 67 to 67 (fun v wx => v = .int .i64 (kdT a b) ∧ wx = wc)
              case first =>
                cases KB
                · go_wp2_with fail
                  go_meet
                  case rel => exact ⟨congrArg (Value.int .i64) hkd.out.symm, rfl⟩
                · go_wp2_with fail
                  go_meet
                  case rel => exact ⟨congrArg (Value.int .i64) hkd.out.symm, rfl⟩
              case rest =>
                obtain ⟨rfl, hwc⟩ := hcut
                subst hwc
                clear hkd
                rename_i w10
                generalize kdT a b = kd at *
                have m1 := L10.out.cell 1
                have m2 := L12.out.cell 1
                simp only [tyC, List.getElem?_toArray, List.getElem?_cons_zero, List.getElem?_cons_succ] at m1 m2
                go_wp2_with fail
                refine (CT.out xa a.un.length xc ya b.un.length yc a.un b.un _ S10.out S12.out).mono ?_
                rintro e w11 ⟨vm, rfl, ⟨ma, mc, rfl, sm, _⟩, b11⟩
                have B11 := Lib.hid (bnext B9.out b11)
                replace V4 := Lib.hid (V4.out.keeps b11)
                replace V6 := Lib.hid (V6.out.keeps b11)
                replace V7 := Lib.hid (V7.out.keeps b11)
                replace L10 := Lib.hid (L10.out.keeps b11)
                replace L12 := Lib.hid (L12.out.keeps b11)
                replace S10 := Lib.hid (S10.out.keeps b11)
                replace S12 := Lib.hid (S12.out.keeps b11)
                have SM := Lib.hid sm
                clear b11 sm
                clear CT m1 m2
                generalize un.cE 1 a.un b.un = em at *
                generalize un.cL 1 a.un b.un = lm at *
                generalize hRM : (if em = 0 then ((0, ⟨kd, lm, .empty⟩) : Int × Ty) else noR 70) = RM at *
                replace hRM := Lib.hid hRM
                go_upto_region 10 with fail
                have CI1 := Lib.hid (fun (ds : Array Value) (W : World) (b : Below w.heap.size w W) (E : ExV W ds (binX ⟨#[42]⟩ x y)) => (show Calls Tryz.prog 22 #[.agg #[.slice ta tn tc, .slice ga gn gc, .slice da dn dc, .slice pa pn pc], .string en, .agg ds] W (IfV RM W) from by have h := CI.out ⟨#[42]⟩ (by decide) ds W b E; rwa [rM.out] at h))
                clear rM
                go_cut [17, 18] from 76 to 84 (fun va vb wx => ∃ g qa qc, va = .pointer (some ⟨g, 0, none⟩) ∧ vb = .int .i64 RM.1 ∧ Hid (w11.heap.size ≤ g) ∧ Hid (Blk wx g 36 (tyC RM.2 qa qc)) ∧ Hid (un.Sl wx qa RM.2.un.length qc RM.2.un) ∧ Hid (Below w11.heap.size w11 wx))
                case first =>
                  refine wp_region_held_drew (S := fun w' => Below w11.heap.size w11 w') (by kernel_rfl) (b0 w11).drew (fun hH => ?_)
                  refine held_take (i := 0) (d := 77) (v := .agg #[.slice ta tn tc, .slice ga gn gc, .slice da dn dc, .slice pa pn pc]) rfl (by kernel_rfl) (by kernel_rfl) (by kernel_rfl) rfl (fun _ _ _ h => h) rfl hH (fun w' hS => yield_load infCa Tryz.underlying46 rfl (.tmp 4) rfl _ _ _ rfl (V4.out.keeps hS) rfl) ?_
                  simp only [List.set_cons_zero, List.set_cons_succ]
                  refine held_take (i := 1) (d := 78) (v := ?_) rfl (by kernel_rfl) (by kernel_rfl) (by kernel_rfl) rfl (fun _ _ _ h => h) rfl hH (fun w' hS => ?_) ?_
                  rotate_left
                  · go_simp; first | done | with_reducible rfl
                  simp only [List.set_cons_zero, List.set_cons_succ]
                  refine held_take (i := 2) (d := 79) (v := .agg (exC x.h x.ar.len ua uc aa ac)) rfl (by kernel_rfl) (by kernel_rfl) (by kernel_rfl) rfl (fun _ _ _ h => h) rfl hH (fun w' hS => yield_load infX Tryz.underlying29 rfl (.tmp 6) rfl _ _ _ rfl (V6.out.keeps hS) rfl) ?_
                  simp only [List.set_cons_zero, List.set_cons_succ]
                  refine held_take (i := 3) (d := 80) (v := .agg (exC y.h y.ar.len ub ud ab ad)) rfl (by kernel_rfl) (by kernel_rfl) (by kernel_rfl) rfl (fun _ _ _ h => h) rfl hH (fun w' hS => yield_load infX Tryz.underlying29 rfl (.tmp 7) rfl _ _ _ rfl (V7.out.keeps hS) rfl) ?_
                  simp only [List.set_cons_zero, List.set_cons_succ]
                  generalize w11.drew = yy at *
                  refine held_two (i := 4) (j := 9) rfl rfl (by kernel_rfl) rfl rfl (fun K hK => ?_) (fun K hK => ?_)
                  · go_simp
                    refine (CB.out ⟨#[42]⟩ _ (bnext B11.out hH)).mono ?_
                    rintro e y101 ⟨cX, rfl, xX, b101⟩
                    skip
                    refine hK.out _ _ (bnext hH b101) (fun hH => ?_)
                    clear hK K
                    have XX := Lib.hid xX
                    clear b101 xX
                    refine held_two (i := 5) (j := 9) rfl rfl (by kernel_rfl) rfl rfl (fun K hK => ?_) (fun K hK => ?_)
                    · go_simp
                      refine (CI1.out cX _ (bnext B11.out hH) XX.out).mono ?_
                      rintro e y102 ⟨qa, qc, rfl, sy, b102⟩
                      skip
                      refine hK.out _ _ (bnext hH b102) (fun hH => ?_)
                      clear hK K
                      replace XX := Lib.hid (XX.out.keeps b102)
                      have SY := Lib.hid sy
                      clear b102 sy
                      refine held_take (i := 6) (d := 76) (v := ?_) rfl (by kernel_rfl) (by kernel_rfl) (by kernel_rfl) rfl (fun _ _ _ h => h) rfl hH (fun w' hS => ?_) ?_
                      rotate_left
                      · go_simp; first | done | with_reducible rfl
                      simp only [List.set_cons_zero, List.set_cons_succ]
                      refine held_take (i := 7) (d := 83) (v := ?_) rfl (by kernel_rfl) (by kernel_rfl) (by kernel_rfl) rfl (fun _ _ _ h => h) rfl hH (fun w' hS => ?_) ?_
                      rotate_left
                      · go_simp; first | done | with_reducible rfl
                      simp only [List.set_cons_zero, List.set_cons_succ]
                      refine held_take (i := 8) (d := 84) (v := ?_) rfl (by kernel_rfl) (by kernel_rfl) (by kernel_rfl) rfl (fun _ _ _ h => h) rfl hH (fun w' hS => ?_) ?_
                      rotate_left
                      · go_simp; first | done | with_reducible rfl
                      simp only [List.set_cons_zero, List.set_cons_succ]
                      refine held_only (i := 9) rfl (by kernel_rfl) rfl (fun K hK => ?_)
                      go_simp
                      have lb := Lib.hid hH.size
                      refine hK.out _ _ (balloc hH _) (fun hH => ?_)
                      clear hK K
                      have N103 := Lib.hid (Blk.new y102 36 #[.int .i64 0, .slice none 0 0, .string ⟨#[]⟩])
                      replace XX := Lib.hid (XX.out.keeps (balloc (b0 y102) (.cells #[.int .i64 0, .slice none 0 0, .string ⟨#[]⟩] 36)))
                      replace SY := Lib.hid (SY.out.keeps (balloc (b0 y102) (.cells #[.int .i64 0, .slice none 0 0, .string ⟨#[]⟩] 36)))
                      generalize hz : (y102.alloc (.cells #[.int .i64 0, .slice none 0 0, .string ⟨#[]⟩] 36)) = y103 at *
                      clear hz
                      generalize y102.heap.size = g103 at *
                      refine held_only (i := 10) rfl (by kernel_rfl) rfl (fun K hK => ?_)
                      refine op_storeT infTy (.tmp 17) (.tmp 83) rfl g103 _ (tyC RM.2 qa qc) _ rfl rfl N103.out rfl rfl (by simp [tyC, Value.oneCell']) ?_
                      intro y9 L9 hs9
                      refine hK.out _ _ (hH.trans (hs9.below lb.out)) (fun hH => ?_)
                      clear hK K
                      have U9 := sl_ty (t := t0) (ua := none) (uc := 0) SY.out N103.out hs9
                      refine held_take (i := 11) (d := 18) (v := ?_) rfl (by kernel_rfl) (by kernel_rfl) (by kernel_rfl) rfl (fun _ _ _ h => h) rfl hH (fun w' hS => ?_) ?_
                      rotate_left
                      · go_simp; first | done | with_reducible rfl
                      simp only [List.set_cons_zero, List.set_cons_succ]
                      refine wpAnyH_done (by kernel_rfl) ?_ _
                      go_wp2_with fail
                      go_meet
                      case rel => exact ⟨g103, qa, qc, rfl, rfl, lb, Lib.hid L9, Lib.hid U9, Lib.hid hH⟩
                    · go_simp
                      have lb := Lib.hid hH.size
                      refine hK.out _ _ (balloc hH _) (fun hH => ?_)
                      clear hK K
                      have N104 := Lib.hid (Blk.new y101 36 #[.int .i64 0, .slice none 0 0, .string ⟨#[]⟩])
                      replace XX := Lib.hid (XX.out.keeps (balloc (b0 y101) (.cells #[.int .i64 0, .slice none 0 0, .string ⟨#[]⟩] 36)))
                      generalize hz : (y101.alloc (.cells #[.int .i64 0, .slice none 0 0, .string ⟨#[]⟩] 36)) = y104 at *
                      clear hz
                      generalize y101.heap.size = g104 at *
                      refine held_only (i := 5) rfl (by kernel_rfl) rfl (fun K hK => ?_)
                      go_simp
                      refine (CI1.out cX _ (bnext B11.out hH) XX.out).mono ?_
                      rintro e y105 ⟨qa, qc, rfl, sy, b105⟩
                      skip
                      refine hK.out _ _ (bnext hH b105) (fun hH => ?_)
                      clear hK K
                      replace XX := Lib.hid (XX.out.keeps b105)
                      replace N104 := Lib.hid (N104.out.keeps b105)
                      have SY := Lib.hid sy
                      clear b105 sy
                      refine held_take (i := 6) (d := 76) (v := ?_) rfl (by kernel_rfl) (by kernel_rfl) (by kernel_rfl) rfl (fun _ _ _ h => h) rfl hH (fun w' hS => ?_) ?_
                      rotate_left
                      · go_simp; first | done | with_reducible rfl
                      simp only [List.set_cons_zero, List.set_cons_succ]
                      refine held_take (i := 7) (d := 83) (v := ?_) rfl (by kernel_rfl) (by kernel_rfl) (by kernel_rfl) rfl (fun _ _ _ h => h) rfl hH (fun w' hS => ?_) ?_
                      rotate_left
                      · go_simp; first | done | with_reducible rfl
                      simp only [List.set_cons_zero, List.set_cons_succ]
                      refine held_take (i := 8) (d := 84) (v := ?_) rfl (by kernel_rfl) (by kernel_rfl) (by kernel_rfl) rfl (fun _ _ _ h => h) rfl hH (fun w' hS => ?_) ?_
                      rotate_left
                      · go_simp; first | done | with_reducible rfl
                      simp only [List.set_cons_zero, List.set_cons_succ]
                      refine held_only (i := 10) rfl (by kernel_rfl) rfl (fun K hK => ?_)
                      refine op_storeT infTy (.tmp 17) (.tmp 83) rfl g104 _ (tyC RM.2 qa qc) _ rfl rfl N104.out rfl rfl (by simp [tyC, Value.oneCell']) ?_
                      intro y9 L9 hs9
                      refine hK.out _ _ (hH.trans (hs9.below lb.out)) (fun hH => ?_)
                      clear hK K
                      have U9 := sl_ty (t := t0) (ua := none) (uc := 0) SY.out N104.out hs9
                      refine held_take (i := 11) (d := 18) (v := ?_) rfl (by kernel_rfl) (by kernel_rfl) (by kernel_rfl) rfl (fun _ _ _ h => h) rfl hH (fun w' hS => ?_) ?_
                      rotate_left
                      · go_simp; first | done | with_reducible rfl
                      simp only [List.set_cons_zero, List.set_cons_succ]
                      refine wpAnyH_done (by kernel_rfl) ?_ _
                      go_wp2_with fail
                      go_meet
                      case rel => exact ⟨g104, qa, qc, rfl, rfl, lb, Lib.hid L9, Lib.hid U9, Lib.hid hH⟩
                  · go_simp
                    have lb := Lib.hid hH.size
                    refine hK.out _ _ (balloc hH _) (fun hH => ?_)
                    clear hK K
                    have N106 := Lib.hid (Blk.new yy 36 #[.int .i64 0, .slice none 0 0, .string ⟨#[]⟩])
                    generalize hz : (yy.alloc (.cells #[.int .i64 0, .slice none 0 0, .string ⟨#[]⟩] 36)) = y106 at *
                    clear hz
                    generalize yy.heap.size = g106 at *
                    refine held_only (i := 4) rfl (by kernel_rfl) rfl (fun K hK => ?_)
                    go_simp
                    refine (CB.out ⟨#[42]⟩ _ (bnext B11.out hH)).mono ?_
                    rintro e y107 ⟨cX, rfl, xX, b107⟩
                    skip
                    refine hK.out _ _ (bnext hH b107) (fun hH => ?_)
                    clear hK K
                    replace N106 := Lib.hid (N106.out.keeps b107)
                    have XX := Lib.hid xX
                    clear b107 xX
                    refine held_only (i := 5) rfl (by kernel_rfl) rfl (fun K hK => ?_)
                    go_simp
                    refine (CI1.out cX _ (bnext B11.out hH) XX.out).mono ?_
                    rintro e y108 ⟨qa, qc, rfl, sy, b108⟩
                    skip
                    refine hK.out _ _ (bnext hH b108) (fun hH => ?_)
                    clear hK K
                    replace XX := Lib.hid (XX.out.keeps b108)
                    replace N106 := Lib.hid (N106.out.keeps b108)
                    have SY := Lib.hid sy
                    clear b108 sy
                    refine held_take (i := 6) (d := 76) (v := ?_) rfl (by kernel_rfl) (by kernel_rfl) (by kernel_rfl) rfl (fun _ _ _ h => h) rfl hH (fun w' hS => ?_) ?_
                    rotate_left
                    · go_simp; first | done | with_reducible rfl
                    simp only [List.set_cons_zero, List.set_cons_succ]
                    refine held_take (i := 7) (d := 83) (v := ?_) rfl (by kernel_rfl) (by kernel_rfl) (by kernel_rfl) rfl (fun _ _ _ h => h) rfl hH (fun w' hS => ?_) ?_
                    rotate_left
                    · go_simp; first | done | with_reducible rfl
                    simp only [List.set_cons_zero, List.set_cons_succ]
                    refine held_take (i := 8) (d := 84) (v := ?_) rfl (by kernel_rfl) (by kernel_rfl) (by kernel_rfl) rfl (fun _ _ _ h => h) rfl hH (fun w' hS => ?_) ?_
                    rotate_left
                    · go_simp; first | done | with_reducible rfl
                    simp only [List.set_cons_zero, List.set_cons_succ]
                    refine held_only (i := 10) rfl (by kernel_rfl) rfl (fun K hK => ?_)
                    refine op_storeT infTy (.tmp 17) (.tmp 83) rfl g106 _ (tyC RM.2 qa qc) _ rfl rfl N106.out rfl rfl (by simp [tyC, Value.oneCell']) ?_
                    intro y9 L9 hs9
                    refine hK.out _ _ (hH.trans (hs9.below lb.out)) (fun hH => ?_)
                    clear hK K
                    have U9 := sl_ty (t := t0) (ua := none) (uc := 0) SY.out N106.out hs9
                    refine held_take (i := 11) (d := 18) (v := ?_) rfl (by kernel_rfl) (by kernel_rfl) (by kernel_rfl) rfl (fun _ _ _ h => h) rfl hH (fun w' hS => ?_) ?_
                    rotate_left
                    · go_simp; first | done | with_reducible rfl
                    simp only [List.set_cons_zero, List.set_cons_succ]
                    refine wpAnyH_done (by kernel_rfl) ?_ _
                    go_wp2_with fail
                    go_meet
                    case rel => exact ⟨g106, qa, qc, rfl, rfl, lb, Lib.hid L9, Lib.hid U9, Lib.hid hH⟩
                case rest =>
                  obtain ⟨g17, ra, rc, rfl, rfl, hge, L17, S17, BW⟩ := hcut
                  generalize wc = w12 at *
                  have l4 := Lib.hid (Nat.lt_of_lt_of_le V4.out.lt hge.out)
                  have l6 := Lib.hid (Nat.lt_of_lt_of_le V6.out.lt hge.out)
                  have l7 := Lib.hid (Nat.lt_of_lt_of_le V7.out.lt hge.out)
                  have l10 := Lib.hid (Nat.lt_of_lt_of_le L10.out.lt hge.out)
                  have l12 := Lib.hid (Nat.lt_of_lt_of_le L12.out.lt hge.out)
                  have bw12 := BW.out
                  have B12 := Lib.hid (bnext B11.out bw12)
                  replace V4 := Lib.hid (V4.out.keeps bw12)
                  replace V6 := Lib.hid (V6.out.keeps bw12)
                  replace V7 := Lib.hid (V7.out.keeps bw12)
                  replace L10 := Lib.hid (L10.out.keeps bw12)
                  replace L12 := Lib.hid (L12.out.keeps bw12)
                  replace S10 := Lib.hid (S10.out.keeps bw12)
                  replace S12 := Lib.hid (S12.out.keeps bw12)
                  replace SM := Lib.hid (SM.out.keeps bw12)
                  clear bw12 BW hge CI1
                  go_upto_region 11 with fail
                  go_cut [109] from 85 to 109 (fun v wx => v = .bool false ∧ Hid (Below w12.heap.size w12 wx))
                  case first =>
                    have hR2 := hRM.out
                    clear hRM
                    by_cases he : em = 0
                    · rw [if_pos he] at hR2
                      subst hR2
                      have qe := in_is he
                      replace he := Lib.hid he
                      go_wp2_with (first | (refine arm_loadG infTy Tryz.underlying36 rfl (.tmp 17) rfl rfl _ _ _ rfl L17.out rfl ?_))
                      refine (CQ.out (⟨kd, lm, .empty⟩ : Ty) ra ma rc mc _ S17.out SM.out).mono ?_
                      rintro e9 y9 ⟨rfl, b9⟩
                      have BW := Lib.hid b9
                      clear b9
                      go_wp2_with fail
                      go_meet
                      case rel => exact ⟨rfl, BW⟩
                    · rw [if_neg he] at hR2
                      subst hR2
                      have qe := in_ne he
                      replace he := Lib.hid he
                      have BW := Lib.hid (b0 w12)
                      go_wp2_with fail
                      go_meet
                      case rel => exact ⟨rfl, BW⟩
                  case rest =>
                    obtain ⟨rfl, BW⟩ := hcut
                    generalize wc = w13 at *
                    have bw := BW.out
                    have B13 := Lib.hid (bnext B12.out bw)
                    replace V4 := Lib.hid (V4.out.keeps bw)
                    replace V6 := Lib.hid (V6.out.keeps bw)
                    replace V7 := Lib.hid (V7.out.keeps bw)
                    replace L10 := Lib.hid (L10.out.keeps bw)
                    replace L12 := Lib.hid (L12.out.keeps bw)
                    replace S10 := Lib.hid (S10.out.keeps bw)
                    replace S12 := Lib.hid (S12.out.keeps bw)
                    replace SM := Lib.hid (SM.out.keeps bw)
                    replace L17 := Lib.hid (L17.out.keeps bw)
                    replace S17 := Lib.hid (S17.out.keeps bw)
                    clear bw BW hRM
                    clear SM
                    have m1 := L10.out.cell 1
                    have m2 := L12.out.cell 1
                    simp only [tyC, List.getElem?_toArray, List.getElem?_cons_zero, List.getElem?_cons_succ] at m1 m2
                    go_wp2_with fail
                    refine (CO.out xa a.un.length xc ya b.un.length yc a.un b.un _ S10.out S12.out).mono ?_
                    rintro e w14 ⟨vm, rfl, ⟨ma, mc, rfl, sm, _⟩, b14⟩
                    have B14 := Lib.hid (bnext B13.out b14)
                    replace V4 := Lib.hid (V4.out.keeps b14)
                    replace V6 := Lib.hid (V6.out.keeps b14)
                    replace V7 := Lib.hid (V7.out.keeps b14)
                    replace L10 := Lib.hid (L10.out.keeps b14)
                    replace L12 := Lib.hid (L12.out.keeps b14)
                    replace S10 := Lib.hid (S10.out.keeps b14)
                    replace S12 := Lib.hid (S12.out.keeps b14)
                    replace L17 := Lib.hid (L17.out.keeps b14)
                    replace S17 := Lib.hid (S17.out.keeps b14)
                    have SM := Lib.hid sm
                    clear b14 sm
                    clear CO m1 m2
                    generalize un.cE (-1) a.un b.un = eo at *
                    generalize un.cL (-1) a.un b.un = lo at *
                    generalize hRD : (if eo = 0 then ((0, ⟨3, lo, .empty⟩) : Int × Ty) else noR 70) = RD at *
                    replace hRD := Lib.hid hRD
                    go_upto_region 14 with fail
                    have CI2 := Lib.hid (fun (ds : Array Value) (W : World) (b : Below w.heap.size w W) (E : ExV W ds (binX ⟨#[47]⟩ x y)) => (show Calls Tryz.prog 22 #[.agg #[.slice ta tn tc, .slice ga gn gc, .slice da dn dc, .slice pa pn pc], .string en, .agg ds] W (IfV RD W) from by have h := CI.out ⟨#[47]⟩ (by decide) ds W b E; rwa [rD.out] at h))
                    clear rD
                    have lz := Lib.hid (show w.heap.size ≤ g17 from Nat.le_of_lt (Nat.lt_of_le_of_lt hz4.out l4.out))
                    go_cut [18] from 118 to 126 (fun vb wx => ∃ qa qc wM, vb = .int .i64 RD.1 ∧ Hid (Below w14.heap.size w14 wM) ∧ Hid (St g17 wM wx) ∧ Hid (Blk wx g17 36 (tyC RD.2 qa qc)) ∧ Hid (un.Sl wx qa RD.2.un.length qc RD.2.un))
                    case first =>
                      have hL := (b0 w14).drew
                      refine wp_region_held_drew (S := fun w' => Below g17 w14 w') (by kernel_rfl) (hL.mono (Nat.le_of_lt L17.out.lt)) (fun hH => ?_)
                      refine held_take (i := 0) (d := 119) (v := .agg #[.slice ta tn tc, .slice ga gn gc, .slice da dn dc, .slice pa pn pc]) rfl (by kernel_rfl) (by kernel_rfl) (by kernel_rfl) rfl (fun _ _ _ h => h) rfl hH (fun w' hS => yield_load infCa Tryz.underlying46 rfl (.tmp 4) rfl _ _ _ rfl (V4.out.below hS l4.out) rfl) ?_
                      simp only [List.set_cons_zero, List.set_cons_succ]
                      refine held_take (i := 1) (d := 120) (v := ?_) rfl (by kernel_rfl) (by kernel_rfl) (by kernel_rfl) rfl (fun _ _ _ h => h) rfl hH (fun w' hS => ?_) ?_
                      rotate_left
                      · go_simp; first | done | with_reducible rfl
                      simp only [List.set_cons_zero, List.set_cons_succ]
                      refine held_take (i := 2) (d := 121) (v := .agg (exC x.h x.ar.len ua uc aa ac)) rfl (by kernel_rfl) (by kernel_rfl) (by kernel_rfl) rfl (fun _ _ _ h => h) rfl hH (fun w' hS => yield_load infX Tryz.underlying29 rfl (.tmp 6) rfl _ _ _ rfl (V6.out.below hS l6.out) rfl) ?_
                      simp only [List.set_cons_zero, List.set_cons_succ]
                      refine held_take (i := 3) (d := 122) (v := .agg (exC y.h y.ar.len ub ud ab ad)) rfl (by kernel_rfl) (by kernel_rfl) (by kernel_rfl) rfl (fun _ _ _ h => h) rfl hH (fun w' hS => yield_load infX Tryz.underlying29 rfl (.tmp 7) rfl _ _ _ rfl (V7.out.below hS l7.out) rfl) ?_
                      simp only [List.set_cons_zero, List.set_cons_succ]
                      generalize w14.drew = yy at *
                      refine held_only (i := 4) rfl (by kernel_rfl) rfl (fun K hK => ?_)
                      go_simp
                      refine (CB.out ⟨#[47]⟩ _ (bnext B14.out hL)).mono ?_
                      rintro e y141 ⟨cX, rfl, xX, b141⟩
                      have hL := bnext hL b141
                      refine hK.out _ _ (hL.mono (Nat.le_of_lt L17.out.lt)) (fun hH => ?_)
                      clear hK K
                      have XX := Lib.hid xX
                      clear b141 xX
                      refine held_only (i := 5) rfl (by kernel_rfl) rfl (fun K hK => ?_)
                      go_simp
                      refine (CI2.out cX _ (bnext B14.out hL) XX.out).mono ?_
                      rintro e y142 ⟨qa, qc, rfl, sy, b142⟩
                      have hL := bnext hL b142
                      refine hK.out _ _ (hL.mono (Nat.le_of_lt L17.out.lt)) (fun hH => ?_)
                      clear hK K
                      replace XX := Lib.hid (XX.out.keeps b142)
                      have SY := Lib.hid sy
                      clear b142 sy
                      refine held_take (i := 6) (d := 118) (v := ?_) rfl (by kernel_rfl) (by kernel_rfl) (by kernel_rfl) rfl (fun _ _ _ h => h) rfl hH (fun w' hS => ?_) ?_
                      rotate_left
                      · go_simp; first | done | with_reducible rfl
                      simp only [List.set_cons_zero, List.set_cons_succ]
                      refine held_take (i := 7) (d := 125) (v := ?_) rfl (by kernel_rfl) (by kernel_rfl) (by kernel_rfl) rfl (fun _ _ _ h => h) rfl hH (fun w' hS => ?_) ?_
                      rotate_left
                      · go_simp; first | done | with_reducible rfl
                      simp only [List.set_cons_zero, List.set_cons_succ]
                      refine held_take (i := 8) (d := 126) (v := ?_) rfl (by kernel_rfl) (by kernel_rfl) (by kernel_rfl) rfl (fun _ _ _ h => h) rfl hH (fun w' hS => ?_) ?_
                      rotate_left
                      · go_simp; first | done | with_reducible rfl
                      simp only [List.set_cons_zero, List.set_cons_succ]
                      refine held_only (i := 9) rfl (by kernel_rfl) rfl (fun K hK => ?_)
                      refine op_storeT infTy (.tmp 17) (.tmp 125) rfl g17 _ (tyC RD.2 qa qc) _ rfl rfl (L17.out.keeps hL) rfl rfl (by simp [tyC, Value.oneCell']) ?_
                      intro y9 L9 hs9
                      refine hK.out _ _ (hH.trans (hs9.below (Nat.le_refl _))) (fun hH => ?_)
                      clear hK K
                      have U9 := sl_ty SY.out (L17.out.keeps hL) hs9
                      refine held_take (i := 10) (d := 18) (v := ?_) rfl (by kernel_rfl) (by kernel_rfl) (by kernel_rfl) rfl (fun _ _ _ h => h) rfl hH (fun w' hS => ?_) ?_
                      rotate_left
                      · go_simp; first | done | with_reducible rfl
                      simp only [List.set_cons_zero, List.set_cons_succ]
                      refine wpAnyH_done (by kernel_rfl) ?_ _
                      go_wp2_with fail
                      go_meet
                      case rel => exact ⟨qa, qc, y142, rfl, Lib.hid hL, Lib.hid hs9, Lib.hid L9, Lib.hid U9⟩
                    case rest =>
                      obtain ⟨ra2, rc2, wM, rfl, BM, hs, L2, S2⟩ := hcut
                      generalize wc = w15 at *
                      have l17 := L17.out.keeps BM.out
                      replace V4 := Lib.hid ((V4.out.keeps BM.out).st hs.out (Nat.ne_of_lt l4.out))
                      replace V6 := Lib.hid ((V6.out.keeps BM.out).st hs.out (Nat.ne_of_lt l6.out))
                      replace V7 := Lib.hid ((V7.out.keeps BM.out).st hs.out (Nat.ne_of_lt l7.out))
                      replace L10 := Lib.hid ((L10.out.keeps BM.out).st hs.out (Nat.ne_of_lt l10.out))
                      replace L12 := Lib.hid ((L12.out.keeps BM.out).st hs.out (Nat.ne_of_lt l12.out))
                      replace S10 := Lib.hid (sl_ty (S10.out.keeps BM.out) l17 hs.out)
                      replace S12 := Lib.hid (sl_ty (S12.out.keeps BM.out) l17 hs.out)
                      replace SM := Lib.hid (sl_ty (SM.out.keeps BM.out) l17 hs.out)
                      have B15 := Lib.hid ((bnext B14.out BM.out).trans (hs.out.below lz.out))
                      clear L17 S17 l17
                      have L17 := L2
                      have S17 := S2
                      clear L2 S2 BM hs
                      clear CI2
                      go_upto_region 15 with fail
                      go_cut [150] from 127 to 150 (fun v wx => v = .bool false ∧ Hid (Below w15.heap.size w15 wx))
                      case first =>
                        have hR2 := hRD.out
                        clear hRD
                        by_cases he : eo = 0
                        · rw [if_pos he] at hR2
                          subst hR2
                          have qe := in_is he
                          replace he := Lib.hid he
                          go_wp2_with (first | (refine arm_loadG infTy Tryz.underlying36 rfl (.tmp 17) rfl rfl _ _ _ rfl L17.out rfl ?_))
                          refine (CQ.out (⟨3, lo, .empty⟩ : Ty) ra2 ma rc2 mc _ S17.out SM.out).mono ?_
                          rintro e9 y9 ⟨rfl, b9⟩
                          have BW := Lib.hid b9
                          clear b9
                          go_wp2_with fail
                          go_meet
                          case rel => exact ⟨rfl, BW⟩
                        · rw [if_neg he] at hR2
                          subst hR2
                          have qe := in_ne he
                          replace he := Lib.hid he
                          have BW := Lib.hid (b0 w15)
                          go_wp2_with fail
                          go_meet
                          case rel => exact ⟨rfl, BW⟩
                      case rest =>
                        obtain ⟨rfl, BW⟩ := hcut
                        generalize wc = w16 at *
                        have bw := BW.out
                        have B16 := Lib.hid (bnext B15.out bw)
                        replace V4 := Lib.hid (V4.out.keeps bw)
                        replace V6 := Lib.hid (V6.out.keeps bw)
                        replace V7 := Lib.hid (V7.out.keeps bw)
                        replace L10 := Lib.hid (L10.out.keeps bw)
                        replace L12 := Lib.hid (L12.out.keeps bw)
                        replace S10 := Lib.hid (S10.out.keeps bw)
                        replace S12 := Lib.hid (S12.out.keeps bw)
                        replace L17 := Lib.hid (L17.out.keeps bw)
                        replace S17 := Lib.hid (S17.out.keeps bw)
                        replace SM := Lib.hid (SM.out.keeps bw)
                        clear bw BW hRD
                        clear SM
                        generalize hRS : (if a.un = b.un then ((0, ⟨kd, a.un, .empty⟩) : Int × Ty) else noR 70) = RS at *
                        replace hRS := Lib.hid hRS
                        generalize hRL : (if a.un = b.un then ((0, boolT) : Int × Ty) else noR 70) = RL at *
                        replace hRL := Lib.hid hRL
                        go_upto_region 17 with fail
                        have CI3 := Lib.hid (fun (ds : Array Value) (W : World) (b : Below w.heap.size w W) (E : ExV W ds (binX ⟨#[45]⟩ x y)) => (show Calls Tryz.prog 22 #[.agg #[.slice ta tn tc, .slice ga gn gc, .slice da dn dc, .slice pa pn pc], .string en, .agg ds] W (IfV RS W) from by have h := CI.out ⟨#[45]⟩ (by decide) ds W b E; rwa [rS.out] at h))
                        have CI4 := Lib.hid (fun (ds : Array Value) (W : World) (b : Below w.heap.size w W) (E : ExV W ds (binX ⟨#[60]⟩ x y)) => (show Calls Tryz.prog 22 #[.agg #[.slice ta tn tc, .slice ga gn gc, .slice da dn dc, .slice pa pn pc], .string en, .agg ds] W (IfV RL W) from by have h := CI.out ⟨#[60]⟩ (by decide) ds W b E; rwa [rL.out] at h))
                        clear rS rL CI
                        generalize RD.2 = tD at *
                        generalize ra2 = rz at *
                        generalize rc2 = rzc at *
                        go_cut [18] from 151 to 159 (fun vb wx => ∃ qa qc wM, vb = .int .i64 RS.1 ∧ Hid (Below w16.heap.size w16 wM) ∧ Hid (St g17 wM wx) ∧ Hid (Blk wx g17 36 (tyC RS.2 qa qc)) ∧ Hid (un.Sl wx qa RS.2.un.length qc RS.2.un))
                        case first =>
                          have hL := (b0 w16).drew
                          refine wp_region_held_drew (S := fun w' => Below g17 w16 w') (by kernel_rfl) (hL.mono (Nat.le_of_lt L17.out.lt)) (fun hH => ?_)
                          refine held_take (i := 0) (d := 152) (v := .agg #[.slice ta tn tc, .slice ga gn gc, .slice da dn dc, .slice pa pn pc]) rfl (by kernel_rfl) (by kernel_rfl) (by kernel_rfl) rfl (fun _ _ _ h => h) rfl hH (fun w' hS => yield_load infCa Tryz.underlying46 rfl (.tmp 4) rfl _ _ _ rfl (V4.out.below hS l4.out) rfl) ?_
                          simp only [List.set_cons_zero, List.set_cons_succ]
                          refine held_take (i := 1) (d := 153) (v := ?_) rfl (by kernel_rfl) (by kernel_rfl) (by kernel_rfl) rfl (fun _ _ _ h => h) rfl hH (fun w' hS => ?_) ?_
                          rotate_left
                          · go_simp; first | done | with_reducible rfl
                          simp only [List.set_cons_zero, List.set_cons_succ]
                          refine held_take (i := 2) (d := 154) (v := .agg (exC x.h x.ar.len ua uc aa ac)) rfl (by kernel_rfl) (by kernel_rfl) (by kernel_rfl) rfl (fun _ _ _ h => h) rfl hH (fun w' hS => yield_load infX Tryz.underlying29 rfl (.tmp 6) rfl _ _ _ rfl (V6.out.below hS l6.out) rfl) ?_
                          simp only [List.set_cons_zero, List.set_cons_succ]
                          refine held_take (i := 3) (d := 155) (v := .agg (exC y.h y.ar.len ub ud ab ad)) rfl (by kernel_rfl) (by kernel_rfl) (by kernel_rfl) rfl (fun _ _ _ h => h) rfl hH (fun w' hS => yield_load infX Tryz.underlying29 rfl (.tmp 7) rfl _ _ _ rfl (V7.out.below hS l7.out) rfl) ?_
                          simp only [List.set_cons_zero, List.set_cons_succ]
                          generalize w16.drew = yy at *
                          refine held_only (i := 4) rfl (by kernel_rfl) rfl (fun K hK => ?_)
                          go_simp
                          refine (CB.out ⟨#[45]⟩ _ (bnext B16.out hL)).mono ?_
                          rintro e y171 ⟨cX, rfl, xX, b171⟩
                          have hL := bnext hL b171
                          refine hK.out _ _ (hL.mono (Nat.le_of_lt L17.out.lt)) (fun hH => ?_)
                          clear hK K
                          have XX := Lib.hid xX
                          clear b171 xX
                          refine held_only (i := 5) rfl (by kernel_rfl) rfl (fun K hK => ?_)
                          go_simp
                          refine (CI3.out cX _ (bnext B16.out hL) XX.out).mono ?_
                          rintro e y172 ⟨qa, qc, rfl, sy, b172⟩
                          have hL := bnext hL b172
                          refine hK.out _ _ (hL.mono (Nat.le_of_lt L17.out.lt)) (fun hH => ?_)
                          clear hK K
                          replace XX := Lib.hid (XX.out.keeps b172)
                          have SY := Lib.hid sy
                          clear b172 sy
                          refine held_take (i := 6) (d := 151) (v := ?_) rfl (by kernel_rfl) (by kernel_rfl) (by kernel_rfl) rfl (fun _ _ _ h => h) rfl hH (fun w' hS => ?_) ?_
                          rotate_left
                          · go_simp; first | done | with_reducible rfl
                          simp only [List.set_cons_zero, List.set_cons_succ]
                          refine held_take (i := 7) (d := 158) (v := ?_) rfl (by kernel_rfl) (by kernel_rfl) (by kernel_rfl) rfl (fun _ _ _ h => h) rfl hH (fun w' hS => ?_) ?_
                          rotate_left
                          · go_simp; first | done | with_reducible rfl
                          simp only [List.set_cons_zero, List.set_cons_succ]
                          refine held_take (i := 8) (d := 159) (v := ?_) rfl (by kernel_rfl) (by kernel_rfl) (by kernel_rfl) rfl (fun _ _ _ h => h) rfl hH (fun w' hS => ?_) ?_
                          rotate_left
                          · go_simp; first | done | with_reducible rfl
                          simp only [List.set_cons_zero, List.set_cons_succ]
                          refine held_only (i := 9) rfl (by kernel_rfl) rfl (fun K hK => ?_)
                          refine op_storeT infTy (.tmp 17) (.tmp 158) rfl g17 _ (tyC RS.2 qa qc) _ rfl rfl (L17.out.keeps hL) rfl rfl (by simp [tyC, Value.oneCell']) ?_
                          intro y9 L9 hs9
                          refine hK.out _ _ (hH.trans (hs9.below (Nat.le_refl _))) (fun hH => ?_)
                          clear hK K
                          have U9 := sl_ty SY.out (L17.out.keeps hL) hs9
                          refine held_take (i := 10) (d := 18) (v := ?_) rfl (by kernel_rfl) (by kernel_rfl) (by kernel_rfl) rfl (fun _ _ _ h => h) rfl hH (fun w' hS => ?_) ?_
                          rotate_left
                          · go_simp; first | done | with_reducible rfl
                          simp only [List.set_cons_zero, List.set_cons_succ]
                          refine wpAnyH_done (by kernel_rfl) ?_ _
                          go_wp2_with fail
                          go_meet
                          case rel => exact ⟨qa, qc, y172, rfl, Lib.hid hL, Lib.hid hs9, Lib.hid L9, Lib.hid U9⟩
                        case rest =>
                          obtain ⟨ra2, rc2, wM, rfl, BM, hs, L2, S2⟩ := hcut
                          generalize wc = w17 at *
                          have l17 := L17.out.keeps BM.out
                          replace V4 := Lib.hid ((V4.out.keeps BM.out).st hs.out (Nat.ne_of_lt l4.out))
                          replace V6 := Lib.hid ((V6.out.keeps BM.out).st hs.out (Nat.ne_of_lt l6.out))
                          replace V7 := Lib.hid ((V7.out.keeps BM.out).st hs.out (Nat.ne_of_lt l7.out))
                          replace L10 := Lib.hid ((L10.out.keeps BM.out).st hs.out (Nat.ne_of_lt l10.out))
                          replace L12 := Lib.hid ((L12.out.keeps BM.out).st hs.out (Nat.ne_of_lt l12.out))
                          replace S10 := Lib.hid (sl_ty (S10.out.keeps BM.out) l17 hs.out)
                          replace S12 := Lib.hid (sl_ty (S12.out.keeps BM.out) l17 hs.out)
                          have B17 := Lib.hid ((bnext B16.out BM.out).trans (hs.out.below lz.out))
                          clear L17 S17 l17
                          have L17 := L2
                          have S17 := S2
                          clear L2 S2 BM hs
                          clear CI3
                          go_upto_region 18 with fail
                          go_cut [19, 20] from 160 to 168 (fun va vb wx => ∃ g qa qc, va = .pointer (some ⟨g, 0, none⟩) ∧ vb = .int .i64 RL.1 ∧ Hid (w17.heap.size ≤ g) ∧ Hid (Blk wx g 36 (tyC RL.2 qa qc)) ∧ Hid (un.Sl wx qa RL.2.un.length qc RL.2.un) ∧ Hid (Below w17.heap.size w17 wx))
                          case first =>
                            refine wp_region_held_drew (S := fun w' => Below w17.heap.size w17 w') (by kernel_rfl) (b0 w17).drew (fun hH => ?_)
                            refine held_take (i := 0) (d := 161) (v := .agg #[.slice ta tn tc, .slice ga gn gc, .slice da dn dc, .slice pa pn pc]) rfl (by kernel_rfl) (by kernel_rfl) (by kernel_rfl) rfl (fun _ _ _ h => h) rfl hH (fun w' hS => yield_load infCa Tryz.underlying46 rfl (.tmp 4) rfl _ _ _ rfl (V4.out.keeps hS) rfl) ?_
                            simp only [List.set_cons_zero, List.set_cons_succ]
                            refine held_take (i := 1) (d := 162) (v := ?_) rfl (by kernel_rfl) (by kernel_rfl) (by kernel_rfl) rfl (fun _ _ _ h => h) rfl hH (fun w' hS => ?_) ?_
                            rotate_left
                            · go_simp; first | done | with_reducible rfl
                            simp only [List.set_cons_zero, List.set_cons_succ]
                            refine held_take (i := 2) (d := 163) (v := .agg (exC x.h x.ar.len ua uc aa ac)) rfl (by kernel_rfl) (by kernel_rfl) (by kernel_rfl) rfl (fun _ _ _ h => h) rfl hH (fun w' hS => yield_load infX Tryz.underlying29 rfl (.tmp 6) rfl _ _ _ rfl (V6.out.keeps hS) rfl) ?_
                            simp only [List.set_cons_zero, List.set_cons_succ]
                            refine held_take (i := 3) (d := 164) (v := .agg (exC y.h y.ar.len ub ud ab ad)) rfl (by kernel_rfl) (by kernel_rfl) (by kernel_rfl) rfl (fun _ _ _ h => h) rfl hH (fun w' hS => yield_load infX Tryz.underlying29 rfl (.tmp 7) rfl _ _ _ rfl (V7.out.keeps hS) rfl) ?_
                            simp only [List.set_cons_zero, List.set_cons_succ]
                            generalize w17.drew = yy at *
                            refine held_two (i := 4) (j := 9) rfl rfl (by kernel_rfl) rfl rfl (fun K hK => ?_) (fun K hK => ?_)
                            · go_simp
                              refine (CB.out ⟨#[60]⟩ _ (bnext B17.out hH)).mono ?_
                              rintro e y181 ⟨cX, rfl, xX, b181⟩
                              skip
                              refine hK.out _ _ (bnext hH b181) (fun hH => ?_)
                              clear hK K
                              have XX := Lib.hid xX
                              clear b181 xX
                              refine held_two (i := 5) (j := 9) rfl rfl (by kernel_rfl) rfl rfl (fun K hK => ?_) (fun K hK => ?_)
                              · go_simp
                                refine (CI4.out cX _ (bnext B17.out hH) XX.out).mono ?_
                                rintro e y182 ⟨qa, qc, rfl, sy, b182⟩
                                skip
                                refine hK.out _ _ (bnext hH b182) (fun hH => ?_)
                                clear hK K
                                replace XX := Lib.hid (XX.out.keeps b182)
                                have SY := Lib.hid sy
                                clear b182 sy
                                refine held_take (i := 6) (d := 160) (v := ?_) rfl (by kernel_rfl) (by kernel_rfl) (by kernel_rfl) rfl (fun _ _ _ h => h) rfl hH (fun w' hS => ?_) ?_
                                rotate_left
                                · go_simp; first | done | with_reducible rfl
                                simp only [List.set_cons_zero, List.set_cons_succ]
                                refine held_take (i := 7) (d := 167) (v := ?_) rfl (by kernel_rfl) (by kernel_rfl) (by kernel_rfl) rfl (fun _ _ _ h => h) rfl hH (fun w' hS => ?_) ?_
                                rotate_left
                                · go_simp; first | done | with_reducible rfl
                                simp only [List.set_cons_zero, List.set_cons_succ]
                                refine held_take (i := 8) (d := 168) (v := ?_) rfl (by kernel_rfl) (by kernel_rfl) (by kernel_rfl) rfl (fun _ _ _ h => h) rfl hH (fun w' hS => ?_) ?_
                                rotate_left
                                · go_simp; first | done | with_reducible rfl
                                simp only [List.set_cons_zero, List.set_cons_succ]
                                refine held_only (i := 9) rfl (by kernel_rfl) rfl (fun K hK => ?_)
                                go_simp
                                have lb := Lib.hid hH.size
                                refine hK.out _ _ (balloc hH _) (fun hH => ?_)
                                clear hK K
                                have N183 := Lib.hid (Blk.new y182 36 #[.int .i64 0, .slice none 0 0, .string ⟨#[]⟩])
                                replace XX := Lib.hid (XX.out.keeps (balloc (b0 y182) (.cells #[.int .i64 0, .slice none 0 0, .string ⟨#[]⟩] 36)))
                                replace SY := Lib.hid (SY.out.keeps (balloc (b0 y182) (.cells #[.int .i64 0, .slice none 0 0, .string ⟨#[]⟩] 36)))
                                generalize hz : (y182.alloc (.cells #[.int .i64 0, .slice none 0 0, .string ⟨#[]⟩] 36)) = y183 at *
                                clear hz
                                generalize y182.heap.size = g183 at *
                                refine held_only (i := 10) rfl (by kernel_rfl) rfl (fun K hK => ?_)
                                refine op_storeT infTy (.tmp 19) (.tmp 167) rfl g183 _ (tyC RL.2 qa qc) _ rfl rfl N183.out rfl rfl (by simp [tyC, Value.oneCell']) ?_
                                intro y9 L9 hs9
                                refine hK.out _ _ (hH.trans (hs9.below lb.out)) (fun hH => ?_)
                                clear hK K
                                have U9 := sl_ty (t := t0) (ua := none) (uc := 0) SY.out N183.out hs9
                                refine held_take (i := 11) (d := 20) (v := ?_) rfl (by kernel_rfl) (by kernel_rfl) (by kernel_rfl) rfl (fun _ _ _ h => h) rfl hH (fun w' hS => ?_) ?_
                                rotate_left
                                · go_simp; first | done | with_reducible rfl
                                simp only [List.set_cons_zero, List.set_cons_succ]
                                refine wpAnyH_done (by kernel_rfl) ?_ _
                                go_wp2_with fail
                                go_meet
                                case rel => exact ⟨g183, qa, qc, rfl, rfl, lb, Lib.hid L9, Lib.hid U9, Lib.hid hH⟩
                              · go_simp
                                have lb := Lib.hid hH.size
                                refine hK.out _ _ (balloc hH _) (fun hH => ?_)
                                clear hK K
                                have N184 := Lib.hid (Blk.new y181 36 #[.int .i64 0, .slice none 0 0, .string ⟨#[]⟩])
                                replace XX := Lib.hid (XX.out.keeps (balloc (b0 y181) (.cells #[.int .i64 0, .slice none 0 0, .string ⟨#[]⟩] 36)))
                                generalize hz : (y181.alloc (.cells #[.int .i64 0, .slice none 0 0, .string ⟨#[]⟩] 36)) = y184 at *
                                clear hz
                                generalize y181.heap.size = g184 at *
                                refine held_only (i := 5) rfl (by kernel_rfl) rfl (fun K hK => ?_)
                                go_simp
                                refine (CI4.out cX _ (bnext B17.out hH) XX.out).mono ?_
                                rintro e y185 ⟨qa, qc, rfl, sy, b185⟩
                                skip
                                refine hK.out _ _ (bnext hH b185) (fun hH => ?_)
                                clear hK K
                                replace XX := Lib.hid (XX.out.keeps b185)
                                replace N184 := Lib.hid (N184.out.keeps b185)
                                have SY := Lib.hid sy
                                clear b185 sy
                                refine held_take (i := 6) (d := 160) (v := ?_) rfl (by kernel_rfl) (by kernel_rfl) (by kernel_rfl) rfl (fun _ _ _ h => h) rfl hH (fun w' hS => ?_) ?_
                                rotate_left
                                · go_simp; first | done | with_reducible rfl
                                simp only [List.set_cons_zero, List.set_cons_succ]
                                refine held_take (i := 7) (d := 167) (v := ?_) rfl (by kernel_rfl) (by kernel_rfl) (by kernel_rfl) rfl (fun _ _ _ h => h) rfl hH (fun w' hS => ?_) ?_
                                rotate_left
                                · go_simp; first | done | with_reducible rfl
                                simp only [List.set_cons_zero, List.set_cons_succ]
                                refine held_take (i := 8) (d := 168) (v := ?_) rfl (by kernel_rfl) (by kernel_rfl) (by kernel_rfl) rfl (fun _ _ _ h => h) rfl hH (fun w' hS => ?_) ?_
                                rotate_left
                                · go_simp; first | done | with_reducible rfl
                                simp only [List.set_cons_zero, List.set_cons_succ]
                                refine held_only (i := 10) rfl (by kernel_rfl) rfl (fun K hK => ?_)
                                refine op_storeT infTy (.tmp 19) (.tmp 167) rfl g184 _ (tyC RL.2 qa qc) _ rfl rfl N184.out rfl rfl (by simp [tyC, Value.oneCell']) ?_
                                intro y9 L9 hs9
                                refine hK.out _ _ (hH.trans (hs9.below lb.out)) (fun hH => ?_)
                                clear hK K
                                have U9 := sl_ty (t := t0) (ua := none) (uc := 0) SY.out N184.out hs9
                                refine held_take (i := 11) (d := 20) (v := ?_) rfl (by kernel_rfl) (by kernel_rfl) (by kernel_rfl) rfl (fun _ _ _ h => h) rfl hH (fun w' hS => ?_) ?_
                                rotate_left
                                · go_simp; first | done | with_reducible rfl
                                simp only [List.set_cons_zero, List.set_cons_succ]
                                refine wpAnyH_done (by kernel_rfl) ?_ _
                                go_wp2_with fail
                                go_meet
                                case rel => exact ⟨g184, qa, qc, rfl, rfl, lb, Lib.hid L9, Lib.hid U9, Lib.hid hH⟩
                            · go_simp
                              have lb := Lib.hid hH.size
                              refine hK.out _ _ (balloc hH _) (fun hH => ?_)
                              clear hK K
                              have N186 := Lib.hid (Blk.new yy 36 #[.int .i64 0, .slice none 0 0, .string ⟨#[]⟩])
                              generalize hz : (yy.alloc (.cells #[.int .i64 0, .slice none 0 0, .string ⟨#[]⟩] 36)) = y186 at *
                              clear hz
                              generalize yy.heap.size = g186 at *
                              refine held_only (i := 4) rfl (by kernel_rfl) rfl (fun K hK => ?_)
                              go_simp
                              refine (CB.out ⟨#[60]⟩ _ (bnext B17.out hH)).mono ?_
                              rintro e y187 ⟨cX, rfl, xX, b187⟩
                              skip
                              refine hK.out _ _ (bnext hH b187) (fun hH => ?_)
                              clear hK K
                              replace N186 := Lib.hid (N186.out.keeps b187)
                              have XX := Lib.hid xX
                              clear b187 xX
                              refine held_only (i := 5) rfl (by kernel_rfl) rfl (fun K hK => ?_)
                              go_simp
                              refine (CI4.out cX _ (bnext B17.out hH) XX.out).mono ?_
                              rintro e y188 ⟨qa, qc, rfl, sy, b188⟩
                              skip
                              refine hK.out _ _ (bnext hH b188) (fun hH => ?_)
                              clear hK K
                              replace XX := Lib.hid (XX.out.keeps b188)
                              replace N186 := Lib.hid (N186.out.keeps b188)
                              have SY := Lib.hid sy
                              clear b188 sy
                              refine held_take (i := 6) (d := 160) (v := ?_) rfl (by kernel_rfl) (by kernel_rfl) (by kernel_rfl) rfl (fun _ _ _ h => h) rfl hH (fun w' hS => ?_) ?_
                              rotate_left
                              · go_simp; first | done | with_reducible rfl
                              simp only [List.set_cons_zero, List.set_cons_succ]
                              refine held_take (i := 7) (d := 167) (v := ?_) rfl (by kernel_rfl) (by kernel_rfl) (by kernel_rfl) rfl (fun _ _ _ h => h) rfl hH (fun w' hS => ?_) ?_
                              rotate_left
                              · go_simp; first | done | with_reducible rfl
                              simp only [List.set_cons_zero, List.set_cons_succ]
                              refine held_take (i := 8) (d := 168) (v := ?_) rfl (by kernel_rfl) (by kernel_rfl) (by kernel_rfl) rfl (fun _ _ _ h => h) rfl hH (fun w' hS => ?_) ?_
                              rotate_left
                              · go_simp; first | done | with_reducible rfl
                              simp only [List.set_cons_zero, List.set_cons_succ]
                              refine held_only (i := 10) rfl (by kernel_rfl) rfl (fun K hK => ?_)
                              refine op_storeT infTy (.tmp 19) (.tmp 167) rfl g186 _ (tyC RL.2 qa qc) _ rfl rfl N186.out rfl rfl (by simp [tyC, Value.oneCell']) ?_
                              intro y9 L9 hs9
                              refine hK.out _ _ (hH.trans (hs9.below lb.out)) (fun hH => ?_)
                              clear hK K
                              have U9 := sl_ty (t := t0) (ua := none) (uc := 0) SY.out N186.out hs9
                              refine held_take (i := 11) (d := 20) (v := ?_) rfl (by kernel_rfl) (by kernel_rfl) (by kernel_rfl) rfl (fun _ _ _ h => h) rfl hH (fun w' hS => ?_) ?_
                              rotate_left
                              · go_simp; first | done | with_reducible rfl
                              simp only [List.set_cons_zero, List.set_cons_succ]
                              refine wpAnyH_done (by kernel_rfl) ?_ _
                              go_wp2_with fail
                              go_meet
                              case rel => exact ⟨g186, qa, qc, rfl, rfl, lb, Lib.hid L9, Lib.hid U9, Lib.hid hH⟩
                          case rest =>
                            obtain ⟨g19, sa, sc, rfl, rfl, hge, L19, S19, BW⟩ := hcut
                            generalize wc = w18 at *
                            have bw18 := BW.out
                            have B18 := Lib.hid (bnext B17.out bw18)
                            replace V4 := Lib.hid (V4.out.keeps bw18)
                            replace V6 := Lib.hid (V6.out.keeps bw18)
                            replace V7 := Lib.hid (V7.out.keeps bw18)
                            replace L10 := Lib.hid (L10.out.keeps bw18)
                            replace L12 := Lib.hid (L12.out.keeps bw18)
                            replace S10 := Lib.hid (S10.out.keeps bw18)
                            replace S12 := Lib.hid (S12.out.keeps bw18)
                            replace L17 := Lib.hid (L17.out.keeps bw18)
                            replace S17 := Lib.hid (S17.out.keeps bw18)
                            clear bw18 BW hge CI4 CB S19
                            have m1 := L10.out.cell 1
                            have m2 := L12.out.cell 1
                            simp only [tyC, List.getElem?_toArray, List.getElem?_cons_zero, List.getElem?_cons_succ] at m1 m2
                            go_wp2_with fail
                            refine (CU.out xa a.un.length xc ya b.un.length yc a.un b.un _ S10.out S12.out).mono ?_
                            rintro e w19 ⟨rfl, b19⟩
                            have B19 := Lib.hid (bnext B18.out b19)
                            replace L10 := Lib.hid (L10.out.keeps b19)
                            replace S10 := Lib.hid (S10.out.keeps b19)
                            replace L17 := Lib.hid (L17.out.keeps b19)
                            replace S17 := Lib.hid (S17.out.keeps b19)
                            replace L19 := Lib.hid (L19.out.keeps b19)
                            clear b19 m1 m2 CU
                            have hu : un.sameB a.un b.un = decide (a.un = b.un) := rfl
                            have hR3 := hRS.out
                            have hR4 := hRL.out
                            clear hRS hRL
                            by_cases h9 : a.un = b.un
                            · rw [if_pos h9] at hR3 hR4
                              subst hR3 hR4
                              rw [decide_eq_true h9] at hu
                              replace h9 := Lib.hid h9
                              generalize un.sameB a.un b.un = sb at *
                              subst hu
                              have m1 := L10.out.cell 1
                              have m3 := L19.out.cell 0
                              simp only [tyC, boolT, List.getElem?_toArray, List.getElem?_cons_zero, List.getElem?_cons_succ] at m1 m3
                              go_wp2_with (first | (refine arm_loadG infTy Tryz.underlying36 rfl (.tmp 17) rfl rfl _ _ _ rfl L17.out rfl ?_))
                              refine (CQ.out (⟨kd, a.un, .empty⟩ : Ty) ra2 xa rc2 xc _ S17.out S10.out).mono ?_
                              rintro e9 y9 ⟨rfl, b9⟩
                              have B20 := Lib.hid (bnext B19.out b9)
                              replace L19 := Lib.hid (L19.out.keeps b9)
                              clear b9 m1 m3
                              have m3 := L19.out.cell 0
                              simp only [tyC, boolT, List.getElem?_toArray, List.getElem?_cons_zero] at m3
                              go_wp2_with fail
                              go_ret
                              exact bl_of rfl B20.out
                            · rw [if_neg h9] at hR3 hR4
                              subst hR3 hR4
                              rw [decide_eq_false h9] at hu
                              replace h9 := Lib.hid h9
                              generalize un.sameB a.un b.un = sb at *
                              subst hu
                              go_wp2_with fail
                              go_ret
                              exact bl_of rfl B19.out
          · have qs : (sh != 0) = true := by simp [hs0]
            replace hs0 := Lib.hid hs0
            go_wp2_with fail
            go_ret
            exact bl_of rfl B9.out
    · have qy := in_ne hy
      have qy2 : (ry.1 != 0) = true := by simp [hy]
      replace hy := Lib.hid hy
      go_wp2_with fail
      go_ret
      exact bl_of rfl B51.out
  · have qx := in_ne hx
    have qx2 : (rx.1 != 0) = true := by simp [hx]
    replace hx := Lib.hid hx
    go_wp2_with fail
    go_ret
    exact bl_of rfl B51.out
end Go.Proofs.YtbkpjhffmaldmaaGreatDoor.ch
