/-
  checker.follows, permits and Shape.
-/
import Derived.Test.YtbahfelnbofjjaaGreatDoorT07
set_option maxRecDepth 100000
set_option maxHeartbeats 16000000
namespace Go.Proofs.YtbahfelnbofjjaaGreatDoor.ch
open Go.RowKit dec
def _root_.Go.Proofs.YtbahfelnbofjjaaGreatDoor.Fo.szs : Fo → Prop
 | .nil => True
 | .cons h ar r => h.sz ∧ ar.szs ∧ r.szs
structure _root_.Go.Proofs.YtbahfelnbofjjaaGreatDoor.Ex.szs (x : Ex) : Prop where
 h : x.h.sz
 ar : x.ar.szs
theorem h0_sz : h0.sz := ⟨by decide, by decide, by decide, by decide⟩
theorem nth_szs : ∀ (F : Fo) (j : Nat), F.szs → (F.nth j).szs
 | .nil, _, _ => ⟨h0_sz, trivial⟩
 | .cons _ _ _, 0, hs => ⟨hs.1, hs.2.1⟩
 | .cons _ _ r, j + 1, hs => nth_szs r j hs.2.2
theorem fmA_at {F : Fo} {j : Nat} (h : j < F.len) (i : Bool) : fmA i (F.drop j) = (fmE i (F.nth j) && fmA i (F.drop (j + 1))) := by
 rw [drop_nth F j h]
 show (_ && (_ && _)) = ((_ && _) && _)
 rw [Bool.and_assoc]
theorem fm_eq (i : Bool) (x : Ex) : fmE i x = (nodE i x.h x.ar.len (x.ar.nth 0).h && fmA (i || decide (x.h.k = 5)) x.ar) := rfl
theorem has_is (k : Int) (n : Nat) (h g : Hd) (m : Nat) (hk : k = (m : Nat)) : hasR k n h g = (same h g && decide (n = m)) := by
 unfold hasR
 rw [Bool.and_comm]
 congr 1
 rw [hk, decide_eq_decide]
 omega
theorem nod_1 {h : Hd} (hk : h.k = 1) (i : Bool) (n : Nat) (g : Hd) : litR n h = nodE i h n g := by
 unfold nodE litR litH
 rw [if_pos hk, has_is 0 n h _ 0 rfl]
 simp only [Bool.and_assoc]
theorem nod_2 {h : Hd} (hk : h.k = 2) {p : Int} (n : Nat) (g : Hd) : (decide (p = 1) && namR 0 n h) = nodE (decide (p = 1)) h n g := by
 unfold nodE namR namH
 rw [if_neg (by omega), if_pos hk, has_is 0 n h _ 0 rfl]
 simp only [Bool.and_assoc]
theorem nod_3 {h : Hd} (hk : h.k = 3) {p : Int} (hp : p = 0 ∨ p = 1) (n : Nat) (g : Hd) : (decide (p = 0) && namR 0 n h) = nodE (decide (p = 1)) h n g := by
 unfold nodE namR namH
 rw [if_neg (by omega), if_neg (by omega), if_pos hk, has_is 0 n h _ 0 rfl, show decide (p = 0) = !decide (p = 1) by rcases hp with rfl | rfl <;> rfl]
 simp only [Bool.and_assoc]
theorem nod_4 {h : Hd} (hk : h.k = 4) {p : Int} (hp : p = 0 ∨ p = 1) (n : Nat) (g : Hd) : (decide (p = 0) && namR 1 n h) = nodE (decide (p = 1)) h n g := by
 unfold nodE namR namH
 rw [if_neg (by omega), if_neg (by omega), if_neg (by omega), if_pos hk, has_is 1 n h _ 1 rfl, show decide (p = 0) = !decide (p = 1) by rcases hp with rfl | rfl <;> rfl]
 simp only [Bool.and_assoc]
theorem nod_5 {h : Hd} (hk : h.k = 5) {p : Int} (hp : p = 0 ∨ p = 1) (n : Nat) (g : Hd) : aggR p n h g = nodE (decide (p = 1)) h n g := by
 unfold nodE aggR aggH
 rw [if_neg (by omega), if_neg (by omega), if_neg (by omega), if_neg (by omega), if_pos hk, has_is 2 n h _ 2 rfl, show decide (p = 0) = !decide (p = 1) by rcases hp with rfl | rfl <;> rfl]
 simp only [Bool.and_assoc]
theorem nod_6 {h : Hd} (hk : h.k = 6) (i : Bool) (n : Nat) (g : Hd) : (unaO h.op && hasR 1 n h { h0 with op := h.op }) = nodE i h n g := by
 unfold nodE
 rw [if_neg (by omega), if_neg (by omega), if_neg (by omega), if_neg (by omega), if_neg (by omega), if_pos hk, has_is 1 n h _ 1 rfl]
theorem nod_7 {h : Hd} (hk : h.k = 7) (i : Bool) (n : Nat) (g : Hd) : (binO h.op && hasR 2 n h { h0 with op := h.op }) = nodE i h n g := by
 unfold nodE
 rw [if_neg (by omega), if_neg (by omega), if_neg (by omega), if_neg (by omega), if_neg (by omega), if_neg (by omega), if_pos hk, has_is 2 n h _ 2 rfl]
theorem nod_8 {h : Hd} (hk : h.k = 8) (i : Bool) (n : Nat) (g : Hd) : hasR 3 n h h0 = nodE i h n g := by
 unfold nodE
 rw [if_neg (by omega), if_neg (by omega), if_neg (by omega), if_neg (by omega), if_neg (by omega), if_neg (by omega), if_neg (by omega), if_pos hk, has_is 3 n h _ 3 rfl]
theorem nod_9 {h : Hd} (hk : h.k = 9) (i : Bool) (n : Nat) (g : Hd) : hasR 2 n h h0 = nodE i h n g := by
 unfold nodE
 rw [if_neg (by omega), if_neg (by omega), if_neg (by omega), if_neg (by omega), if_neg (by omega), if_neg (by omega), if_neg (by omega), if_neg (by omega), if_pos hk, has_is 2 n h _ 2 rfl]
theorem nod_no {h : Hd} (hk : ¬ (1 ≤ h.k ∧ h.k ≤ 9)) (i : Bool) (n : Nat) (g : Hd) : nodE i h n g = false := by
 unfold nodE
 rw [if_neg (by omega), if_neg (by omega), if_neg (by omega), if_neg (by omega), if_neg (by omega), if_neg (by omega), if_neg (by omega), if_neg (by omega), if_neg (by omega)]
theorem follows_no (p : Int) (x : Ex) (ua aa : Option Addr) (uc ac b : Nat) (w : World) (hM : Mp w b (ruL p)) (hk : ¬ (1 ≤ x.h.k ∧ x.h.k ≤ 9)) : Calls Tryz.prog 148 #[.agg (exC x.h x.ar.len ua uc aa ac), .map (some b)] w (Bl (fmE (decide (p = 1)) x) w) := by
 have bb := balloc (b0 w) (.cells (exC x.h x.ar.len ua uc aa ac) 29)
 have B0 := Lib.hid bb
 have hl := run_lookNo kRules (hM.keeps bb) zRules x.h.k hk
 have hF := Lib.hid (show fmE (decide (p = 1)) x = false by rw [fm_eq, nod_no hk, Bool.false_and])
 clear bb hM hk
 unfold exC at *
 go_enter Tryz.func148, Tryz.ntmps148
 go_wp2_with fail
 go_ret
 exact bl_of (by rw [hF.out]) B0.out
theorem follows_1 (n : Nat) (IH : ∀ (p : Int) (x : Ex) (ua aa : Option Addr) (uc ac b : Nat) (w : World), x.ar.sz < n → (p = 0 ∨ p = 1) → x.szs → Ec w x ua uc aa ac → Mp w b (ruL p) → Tabs w → Calls Tryz.prog 148 #[.agg (exC x.h x.ar.len ua uc aa ac), .map (some b)] w (Bl (fmE (decide (p = 1)) x) w))
  (p : Int) (x : Ex) (ua aa : Option Addr) (uc ac b : Nat) (w : World) (hz : x.ar.sz = n) (hp : p = 0 ∨ p = 1) (hs : x.szs) (hE : Ec w x ua uc aa ac) (hM : Mp w b (ruL p)) (T : Tabs w) (hk : x.h.k = 1) : Calls Tryz.prog 148 #[.agg (exC x.h x.ar.len ua uc aa ac), .map (some b)] w (Bl (fmE (decide (p = 1)) x) w) := by
 have bb := balloc (b0 w) (.cells (exC x.h x.ar.len ua uc aa ac) 29)
 have B0 := Lib.hid bb
 have G := Lib.hid (Blk.new w 29 (exC x.h x.ar.len ua uc aa ac))
 have T0 := Lib.hid (T.stays bb)
 have E0 := Lib.hid (hE.keeps bb)
 have M0 := Lib.hid (hM.keeps bb)
 have hl := run_lookOk kRules M0.out x.h.k 0 (by rw [hk]; rfl) (ruF 207 p) rfl
 have C := Lib.hid (fun (W : World) (hU : un.Sl W ua x.h.un.length uc x.h.un) (hA : Fs W aa x.ar.len ac x.ar) (T : Tabs W) => (show Calls Tryz.prog 207 #[.int .i64 p, .agg #[.int .i64 x.h.k, .string x.h.op, .string x.h.nm, .string x.h.tb, .int .i64 x.h.vk, .int .i64 x.h.vn, .string x.h.vs, .slice ua x.h.un.length uc, .int .i64 x.h.pa, .int .i64 x.h.wk, .int .i64 x.h.ws, .slice aa x.ar.len ac]] W (Bl (nodE (decide (p = 1)) x.h x.ar.len (x.ar.nth 0).h) W) by have := literal_any p x.h x.ar.len ua aa uc ac W hs.h hU T; rw [nod_1 hk _ _ _] at this; exact this))
 have hq : (x.h.k == 5) = false := in_ne (by omega)
 have hF := Lib.hid (show fmE (decide (p = 1)) x = (nodE (decide (p = 1)) x.h x.ar.len (x.ar.nth 0).h && fmA (decide (p = 1)) x.ar) by rw [fm_eq]; congr 2; simp [hk])
 have HS := Lib.hid hs.ar
 have HP := Lib.hid hp
 have IH' := Lib.hid IH
 have HZ := Lib.hid hz
 have hL := Lib.hid (show x.ar.len ≤ 9223372036854775807 by have := hE.ar.hcap; have := hE.ar.hmax; omega)
 clear bb T hE hM hk hs hp IH hz
 unfold exC at *
 unfold ruF at hl
 generalize nodE (decide (p = 1)) x.h x.ar.len (x.ar.nth 0).h = nd at *
 go_enter Tryz.func148, Tryz.ntmps148
 go_wp2_with (first | (refine arm_loadG infX Tryz.underlying29 rfl (.tmp 2) rfl rfl _ _ _ rfl G.out rfl ?_))
 refine (C.out _ E0.out.us E0.out.ar T0.out).mono ?_
 rintro e w1 ⟨rfl, b1⟩
 have B1 := Lib.hid (bnext B0.out b1)
 replace T0 := Lib.hid (T0.out.stays b1)
 replace E0 := Lib.hid (E0.out.keeps b1)
 replace G := Lib.hid (G.out.keeps b1)
 replace M0 := Lib.hid (M0.out.keeps b1)
 have c0 := G.out.cell 0
 have c11 := G.out.cell 11
 simp only [List.getElem?_toArray, List.getElem?_cons_zero, List.getElem?_cons_succ] at c0 c11
 clear b1 C hl
 cases nd
 ·replace hF := Lib.hid (hF.out.trans (Bool.false_and _))
  go_wp2_with fail
  go_ret
  exact bl_of (by rw [hF.out]) B1.out
 ·replace hF := Lib.hid (hF.out.trans (Bool.true_and _))
  go_wp2_with fail
  have hI := Lib.hid (show fmA (decide (p = 1)) x.ar = fmA (decide (p = 1)) (x.ar.drop 0) by rw [drop_zero])
  have B9 := B1
  have M9 := M0
  clear c0 c11  
  go_loopw [31] (fun vi wr => ∃ (j : Nat), vi = .int .i64 (j : Nat) ∧ Hid (j ≤ x.ar.len) ∧ Hid (fmA (decide (p = 1)) x.ar = fmA (decide (p = 1)) (x.ar.drop j)) ∧ Hid (Below w.heap.size w wr) ∧ Hid (Tabs wr) ∧ Hid (Ec wr x ua uc aa ac) ∧ Hid (Mp wr b (ruL p))) (fun vi _ => x.ar.len - (intOf vi).toNat)
  case atStart => exact ⟨0, rfl, Lib.hid (Nat.zero_le _), hI, B9, T0, E0, M9⟩
  case round =>
   clear hI B9 T0 E0 M9
   obtain ⟨j, rfl, hj, hI, hb, T0, E0, M0⟩ := hrel
   by_cases hlt : j < x.ar.len
   ·have q1 : decide ((j : Int) < (x.ar.len : Int)) = true := decide_eq_true (by omega)
    obtain ⟨bk, off, va, vc, wa, wc, rfl, R1, E1⟩ := E0.out.ar.at hlt
    have f4 := Lib.hid (next_at (j := j) (by have := hL.out; omega))
    have i1 : (j : Int) < (x.ar.len : Int) := by omega
    replace hI := Lib.hid (hI.out.trans (fmA_at hlt _))
    have hsz := Lib.hid (nth_sz x.ar j hlt)
    have hss := Lib.hid (nth_szs x.ar j HS.out)
    replace R1 := Lib.hid R1
    replace E1 := Lib.hid E1
    clear hj
    generalize x.ar.nth j = y at *
    go_wp2_with (first | (refine arm_mid infX Tryz.underlying29 rfl (.tmp 33) rfl rfl bk (off + j * 12) (exC y.h y.ar.len va vc wa wc) rfl R1.out rfl ?_) | (refine arm_storeT infX (.tmp 8) (.tmp 34) rfl rfl _ _ _ _ rfl rfl (Blk.new _ _ _) rfl rfl (exC_one _ _ _ _ _ _) ?_; intro w5 L5 hs5; have bb5 := (balloc (b0 wr) _).trans (hs5.below (Nat.le_refl _))) | (refine arm_loadT infX Tryz.underlying29 rfl (.tmp 8) rfl rfl _ _ _ rfl L5 rfl ?_))
    have B5 := Lib.hid (bnext hb.out bb5)
    have X5 := Lib.hid (E1.out.keeps bb5)
    have T5 := Lib.hid (T0.out.stays bb5)
    have M5 := Lib.hid (M0.out.keeps bb5)
    have E5 := Lib.hid (E0.out.keeps bb5)
    clear bb5 hs5 L5 R1 E1 T0 M0 E0 hb
    have CF : Calls Tryz.prog 148 #[.agg (exC y.h y.ar.len va vc wa wc), .map (some b)] w5 (Bl (fmE (decide (p = 1)) y) w5) := IH'.out p y va wa vc wc b w5 (by have := hsz.out; have := HZ.out; omega) HP.out hss.out X5.out M5.out T5.out
    refine CF.mono ?_
    rintro e w6 ⟨rfl, b6⟩
    have B6 := Lib.hid (bnext B5.out b6)
    have T6 := Lib.hid (T5.out.stays b6)
    have M6 := Lib.hid (M5.out.keeps b6)
    have E6 := Lib.hid (E5.out.keeps b6)
    clear b6 B5 X5 T5 M5 E5
    generalize fmE (decide (p = 1)) y = f at *
    cases f
    ·replace hF := Lib.hid (hF.out.trans (hI.out.trans (Bool.false_and _)))
     go_wp2_with fail
     go_ret
     exact bl_of (by rw [hF.out]) B6.out
    ·replace hI := Lib.hid (hI.out.trans (Bool.true_and _))
     go_wp2_with fail
     exact ⟨⟨j + 1, congrArg (Value.int .i64) f4.out, Lib.hid hlt, hI, B6, T6, E6, M6⟩, less_at hlt f4.out⟩
   ·have q1 : decide ((j : Int) < (x.ar.len : Int)) = false := decide_eq_false (by omega)
    replace hF := Lib.hid (show fmE (decide (p = 1)) x = true by rw [hF.out, hI.out, drop_end _ _ (by omega)]; rfl)
    clear hj hI
    go_wp2_with fail
    go_ret
    exact bl_of (by rw [hF.out]) hb.out
theorem follows_2 (n : Nat) (IH : ∀ (p : Int) (x : Ex) (ua aa : Option Addr) (uc ac b : Nat) (w : World), x.ar.sz < n → (p = 0 ∨ p = 1) → x.szs → Ec w x ua uc aa ac → Mp w b (ruL p) → Tabs w → Calls Tryz.prog 148 #[.agg (exC x.h x.ar.len ua uc aa ac), .map (some b)] w (Bl (fmE (decide (p = 1)) x) w))
  (p : Int) (x : Ex) (ua aa : Option Addr) (uc ac b : Nat) (w : World) (hz : x.ar.sz = n) (hp : p = 0 ∨ p = 1) (hs : x.szs) (hE : Ec w x ua uc aa ac) (hM : Mp w b (ruL p)) (T : Tabs w) (hk : x.h.k = 2) : Calls Tryz.prog 148 #[.agg (exC x.h x.ar.len ua uc aa ac), .map (some b)] w (Bl (fmE (decide (p = 1)) x) w) := by
 have bb := balloc (b0 w) (.cells (exC x.h x.ar.len ua uc aa ac) 29)
 have B0 := Lib.hid bb
 have G := Lib.hid (Blk.new w 29 (exC x.h x.ar.len ua uc aa ac))
 have T0 := Lib.hid (T.stays bb)
 have E0 := Lib.hid (hE.keeps bb)
 have M0 := Lib.hid (hM.keeps bb)
 have hl := run_lookOk kRules M0.out x.h.k 1 (by rw [hk]; rfl) (ruF 208 p) rfl
 have C := Lib.hid (fun (W : World) (hU : un.Sl W ua x.h.un.length uc x.h.un) (hA : Fs W aa x.ar.len ac x.ar) (T : Tabs W) => (show Calls Tryz.prog 208 #[.int .i64 p, .agg #[.int .i64 x.h.k, .string x.h.op, .string x.h.nm, .string x.h.tb, .int .i64 x.h.vk, .int .i64 x.h.vn, .string x.h.vs, .slice ua x.h.un.length uc, .int .i64 x.h.pa, .int .i64 x.h.wk, .int .i64 x.h.ws, .slice aa x.ar.len ac]] W (Bl (nodE (decide (p = 1)) x.h x.ar.len (x.ar.nth 0).h) W) by have := field_any p x.h x.ar.len ua aa uc ac W hs.h hU T; rw [nod_2 hk _ _] at this; exact this))
 have hq : (x.h.k == 5) = false := in_ne (by omega)
 have hF := Lib.hid (show fmE (decide (p = 1)) x = (nodE (decide (p = 1)) x.h x.ar.len (x.ar.nth 0).h && fmA (decide (p = 1)) x.ar) by rw [fm_eq]; congr 2; simp [hk])
 have HS := Lib.hid hs.ar
 have HP := Lib.hid hp
 have IH' := Lib.hid IH
 have HZ := Lib.hid hz
 have hL := Lib.hid (show x.ar.len ≤ 9223372036854775807 by have := hE.ar.hcap; have := hE.ar.hmax; omega)
 clear bb T hE hM hk hs hp IH hz
 unfold exC at *
 unfold ruF at hl
 generalize nodE (decide (p = 1)) x.h x.ar.len (x.ar.nth 0).h = nd at *
 go_enter Tryz.func148, Tryz.ntmps148
 go_wp2_with (first | (refine arm_loadG infX Tryz.underlying29 rfl (.tmp 2) rfl rfl _ _ _ rfl G.out rfl ?_))
 refine (C.out _ E0.out.us E0.out.ar T0.out).mono ?_
 rintro e w1 ⟨rfl, b1⟩
 have B1 := Lib.hid (bnext B0.out b1)
 replace T0 := Lib.hid (T0.out.stays b1)
 replace E0 := Lib.hid (E0.out.keeps b1)
 replace G := Lib.hid (G.out.keeps b1)
 replace M0 := Lib.hid (M0.out.keeps b1)
 have c0 := G.out.cell 0
 have c11 := G.out.cell 11
 simp only [List.getElem?_toArray, List.getElem?_cons_zero, List.getElem?_cons_succ] at c0 c11
 clear b1 C hl
 cases nd
 ·replace hF := Lib.hid (hF.out.trans (Bool.false_and _))
  go_wp2_with fail
  go_ret
  exact bl_of (by rw [hF.out]) B1.out
 ·replace hF := Lib.hid (hF.out.trans (Bool.true_and _))
  go_wp2_with fail
  have hI := Lib.hid (show fmA (decide (p = 1)) x.ar = fmA (decide (p = 1)) (x.ar.drop 0) by rw [drop_zero])
  have B9 := B1
  have M9 := M0
  clear c0 c11  
  go_loopw [31] (fun vi wr => ∃ (j : Nat), vi = .int .i64 (j : Nat) ∧ Hid (j ≤ x.ar.len) ∧ Hid (fmA (decide (p = 1)) x.ar = fmA (decide (p = 1)) (x.ar.drop j)) ∧ Hid (Below w.heap.size w wr) ∧ Hid (Tabs wr) ∧ Hid (Ec wr x ua uc aa ac) ∧ Hid (Mp wr b (ruL p))) (fun vi _ => x.ar.len - (intOf vi).toNat)
  case atStart => exact ⟨0, rfl, Lib.hid (Nat.zero_le _), hI, B9, T0, E0, M9⟩
  case round =>
   clear hI B9 T0 E0 M9
   obtain ⟨j, rfl, hj, hI, hb, T0, E0, M0⟩ := hrel
   by_cases hlt : j < x.ar.len
   ·have q1 : decide ((j : Int) < (x.ar.len : Int)) = true := decide_eq_true (by omega)
    obtain ⟨bk, off, va, vc, wa, wc, rfl, R1, E1⟩ := E0.out.ar.at hlt
    have f4 := Lib.hid (next_at (j := j) (by have := hL.out; omega))
    have i1 : (j : Int) < (x.ar.len : Int) := by omega
    replace hI := Lib.hid (hI.out.trans (fmA_at hlt _))
    have hsz := Lib.hid (nth_sz x.ar j hlt)
    have hss := Lib.hid (nth_szs x.ar j HS.out)
    replace R1 := Lib.hid R1
    replace E1 := Lib.hid E1
    clear hj
    generalize x.ar.nth j = y at *
    go_wp2_with (first | (refine arm_mid infX Tryz.underlying29 rfl (.tmp 33) rfl rfl bk (off + j * 12) (exC y.h y.ar.len va vc wa wc) rfl R1.out rfl ?_) | (refine arm_storeT infX (.tmp 8) (.tmp 34) rfl rfl _ _ _ _ rfl rfl (Blk.new _ _ _) rfl rfl (exC_one _ _ _ _ _ _) ?_; intro w5 L5 hs5; have bb5 := (balloc (b0 wr) _).trans (hs5.below (Nat.le_refl _))) | (refine arm_loadT infX Tryz.underlying29 rfl (.tmp 8) rfl rfl _ _ _ rfl L5 rfl ?_))
    have B5 := Lib.hid (bnext hb.out bb5)
    have X5 := Lib.hid (E1.out.keeps bb5)
    have T5 := Lib.hid (T0.out.stays bb5)
    have M5 := Lib.hid (M0.out.keeps bb5)
    have E5 := Lib.hid (E0.out.keeps bb5)
    clear bb5 hs5 L5 R1 E1 T0 M0 E0 hb
    have CF : Calls Tryz.prog 148 #[.agg (exC y.h y.ar.len va vc wa wc), .map (some b)] w5 (Bl (fmE (decide (p = 1)) y) w5) := IH'.out p y va wa vc wc b w5 (by have := hsz.out; have := HZ.out; omega) HP.out hss.out X5.out M5.out T5.out
    refine CF.mono ?_
    rintro e w6 ⟨rfl, b6⟩
    have B6 := Lib.hid (bnext B5.out b6)
    have T6 := Lib.hid (T5.out.stays b6)
    have M6 := Lib.hid (M5.out.keeps b6)
    have E6 := Lib.hid (E5.out.keeps b6)
    clear b6 B5 X5 T5 M5 E5
    generalize fmE (decide (p = 1)) y = f at *
    cases f
    ·replace hF := Lib.hid (hF.out.trans (hI.out.trans (Bool.false_and _)))
     go_wp2_with fail
     go_ret
     exact bl_of (by rw [hF.out]) B6.out
    ·replace hI := Lib.hid (hI.out.trans (Bool.true_and _))
     go_wp2_with fail
     exact ⟨⟨j + 1, congrArg (Value.int .i64) f4.out, Lib.hid hlt, hI, B6, T6, E6, M6⟩, less_at hlt f4.out⟩
   ·have q1 : decide ((j : Int) < (x.ar.len : Int)) = false := decide_eq_false (by omega)
    replace hF := Lib.hid (show fmE (decide (p = 1)) x = true by rw [hF.out, hI.out, drop_end _ _ (by omega)]; rfl)
    clear hj hI
    go_wp2_with fail
    go_ret
    exact bl_of (by rw [hF.out]) hb.out
theorem follows_3 (n : Nat) (IH : ∀ (p : Int) (x : Ex) (ua aa : Option Addr) (uc ac b : Nat) (w : World), x.ar.sz < n → (p = 0 ∨ p = 1) → x.szs → Ec w x ua uc aa ac → Mp w b (ruL p) → Tabs w → Calls Tryz.prog 148 #[.agg (exC x.h x.ar.len ua uc aa ac), .map (some b)] w (Bl (fmE (decide (p = 1)) x) w))
  (p : Int) (x : Ex) (ua aa : Option Addr) (uc ac b : Nat) (w : World) (hz : x.ar.sz = n) (hp : p = 0 ∨ p = 1) (hs : x.szs) (hE : Ec w x ua uc aa ac) (hM : Mp w b (ruL p)) (T : Tabs w) (hk : x.h.k = 3) : Calls Tryz.prog 148 #[.agg (exC x.h x.ar.len ua uc aa ac), .map (some b)] w (Bl (fmE (decide (p = 1)) x) w) := by
 have bb := balloc (b0 w) (.cells (exC x.h x.ar.len ua uc aa ac) 29)
 have B0 := Lib.hid bb
 have G := Lib.hid (Blk.new w 29 (exC x.h x.ar.len ua uc aa ac))
 have T0 := Lib.hid (T.stays bb)
 have E0 := Lib.hid (hE.keeps bb)
 have M0 := Lib.hid (hM.keeps bb)
 have hl := run_lookOk kRules M0.out x.h.k 2 (by rw [hk]; rfl) (ruF 209 p) rfl
 have C := Lib.hid (fun (W : World) (hU : un.Sl W ua x.h.un.length uc x.h.un) (hA : Fs W aa x.ar.len ac x.ar) (T : Tabs W) => (show Calls Tryz.prog 209 #[.int .i64 p, .agg #[.int .i64 x.h.k, .string x.h.op, .string x.h.nm, .string x.h.tb, .int .i64 x.h.vk, .int .i64 x.h.vn, .string x.h.vs, .slice ua x.h.un.length uc, .int .i64 x.h.pa, .int .i64 x.h.wk, .int .i64 x.h.ws, .slice aa x.ar.len ac]] W (Bl (nodE (decide (p = 1)) x.h x.ar.len (x.ar.nth 0).h) W) by have := feature_any p x.h x.ar.len ua aa uc ac W hs.h hU T; rw [nod_3 hk hp _ _] at this; exact this))
 have hq : (x.h.k == 5) = false := in_ne (by omega)
 have hF := Lib.hid (show fmE (decide (p = 1)) x = (nodE (decide (p = 1)) x.h x.ar.len (x.ar.nth 0).h && fmA (decide (p = 1)) x.ar) by rw [fm_eq]; congr 2; simp [hk])
 have HS := Lib.hid hs.ar
 have HP := Lib.hid hp
 have IH' := Lib.hid IH
 have HZ := Lib.hid hz
 have hL := Lib.hid (show x.ar.len ≤ 9223372036854775807 by have := hE.ar.hcap; have := hE.ar.hmax; omega)
 clear bb T hE hM hk hs hp IH hz
 unfold exC at *
 unfold ruF at hl
 generalize nodE (decide (p = 1)) x.h x.ar.len (x.ar.nth 0).h = nd at *
 go_enter Tryz.func148, Tryz.ntmps148
 go_wp2_with (first | (refine arm_loadG infX Tryz.underlying29 rfl (.tmp 2) rfl rfl _ _ _ rfl G.out rfl ?_))
 refine (C.out _ E0.out.us E0.out.ar T0.out).mono ?_
 rintro e w1 ⟨rfl, b1⟩
 have B1 := Lib.hid (bnext B0.out b1)
 replace T0 := Lib.hid (T0.out.stays b1)
 replace E0 := Lib.hid (E0.out.keeps b1)
 replace G := Lib.hid (G.out.keeps b1)
 replace M0 := Lib.hid (M0.out.keeps b1)
 have c0 := G.out.cell 0
 have c11 := G.out.cell 11
 simp only [List.getElem?_toArray, List.getElem?_cons_zero, List.getElem?_cons_succ] at c0 c11
 clear b1 C hl
 cases nd
 ·replace hF := Lib.hid (hF.out.trans (Bool.false_and _))
  go_wp2_with fail
  go_ret
  exact bl_of (by rw [hF.out]) B1.out
 ·replace hF := Lib.hid (hF.out.trans (Bool.true_and _))
  go_wp2_with fail
  have hI := Lib.hid (show fmA (decide (p = 1)) x.ar = fmA (decide (p = 1)) (x.ar.drop 0) by rw [drop_zero])
  have B9 := B1
  have M9 := M0
  clear c0 c11  
  go_loopw [31] (fun vi wr => ∃ (j : Nat), vi = .int .i64 (j : Nat) ∧ Hid (j ≤ x.ar.len) ∧ Hid (fmA (decide (p = 1)) x.ar = fmA (decide (p = 1)) (x.ar.drop j)) ∧ Hid (Below w.heap.size w wr) ∧ Hid (Tabs wr) ∧ Hid (Ec wr x ua uc aa ac) ∧ Hid (Mp wr b (ruL p))) (fun vi _ => x.ar.len - (intOf vi).toNat)
  case atStart => exact ⟨0, rfl, Lib.hid (Nat.zero_le _), hI, B9, T0, E0, M9⟩
  case round =>
   clear hI B9 T0 E0 M9
   obtain ⟨j, rfl, hj, hI, hb, T0, E0, M0⟩ := hrel
   by_cases hlt : j < x.ar.len
   ·have q1 : decide ((j : Int) < (x.ar.len : Int)) = true := decide_eq_true (by omega)
    obtain ⟨bk, off, va, vc, wa, wc, rfl, R1, E1⟩ := E0.out.ar.at hlt
    have f4 := Lib.hid (next_at (j := j) (by have := hL.out; omega))
    have i1 : (j : Int) < (x.ar.len : Int) := by omega
    replace hI := Lib.hid (hI.out.trans (fmA_at hlt _))
    have hsz := Lib.hid (nth_sz x.ar j hlt)
    have hss := Lib.hid (nth_szs x.ar j HS.out)
    replace R1 := Lib.hid R1
    replace E1 := Lib.hid E1
    clear hj
    generalize x.ar.nth j = y at *
    go_wp2_with (first | (refine arm_mid infX Tryz.underlying29 rfl (.tmp 33) rfl rfl bk (off + j * 12) (exC y.h y.ar.len va vc wa wc) rfl R1.out rfl ?_) | (refine arm_storeT infX (.tmp 8) (.tmp 34) rfl rfl _ _ _ _ rfl rfl (Blk.new _ _ _) rfl rfl (exC_one _ _ _ _ _ _) ?_; intro w5 L5 hs5; have bb5 := (balloc (b0 wr) _).trans (hs5.below (Nat.le_refl _))) | (refine arm_loadT infX Tryz.underlying29 rfl (.tmp 8) rfl rfl _ _ _ rfl L5 rfl ?_))
    have B5 := Lib.hid (bnext hb.out bb5)
    have X5 := Lib.hid (E1.out.keeps bb5)
    have T5 := Lib.hid (T0.out.stays bb5)
    have M5 := Lib.hid (M0.out.keeps bb5)
    have E5 := Lib.hid (E0.out.keeps bb5)
    clear bb5 hs5 L5 R1 E1 T0 M0 E0 hb
    have CF : Calls Tryz.prog 148 #[.agg (exC y.h y.ar.len va vc wa wc), .map (some b)] w5 (Bl (fmE (decide (p = 1)) y) w5) := IH'.out p y va wa vc wc b w5 (by have := hsz.out; have := HZ.out; omega) HP.out hss.out X5.out M5.out T5.out
    refine CF.mono ?_
    rintro e w6 ⟨rfl, b6⟩
    have B6 := Lib.hid (bnext B5.out b6)
    have T6 := Lib.hid (T5.out.stays b6)
    have M6 := Lib.hid (M5.out.keeps b6)
    have E6 := Lib.hid (E5.out.keeps b6)
    clear b6 B5 X5 T5 M5 E5
    generalize fmE (decide (p = 1)) y = f at *
    cases f
    ·replace hF := Lib.hid (hF.out.trans (hI.out.trans (Bool.false_and _)))
     go_wp2_with fail
     go_ret
     exact bl_of (by rw [hF.out]) B6.out
    ·replace hI := Lib.hid (hI.out.trans (Bool.true_and _))
     go_wp2_with fail
     exact ⟨⟨j + 1, congrArg (Value.int .i64) f4.out, Lib.hid hlt, hI, B6, T6, E6, M6⟩, less_at hlt f4.out⟩
   ·have q1 : decide ((j : Int) < (x.ar.len : Int)) = false := decide_eq_false (by omega)
    replace hF := Lib.hid (show fmE (decide (p = 1)) x = true by rw [hF.out, hI.out, drop_end _ _ (by omega)]; rfl)
    clear hj hI
    go_wp2_with fail
    go_ret
    exact bl_of (by rw [hF.out]) hb.out
theorem follows_4 (n : Nat) (IH : ∀ (p : Int) (x : Ex) (ua aa : Option Addr) (uc ac b : Nat) (w : World), x.ar.sz < n → (p = 0 ∨ p = 1) → x.szs → Ec w x ua uc aa ac → Mp w b (ruL p) → Tabs w → Calls Tryz.prog 148 #[.agg (exC x.h x.ar.len ua uc aa ac), .map (some b)] w (Bl (fmE (decide (p = 1)) x) w))
  (p : Int) (x : Ex) (ua aa : Option Addr) (uc ac b : Nat) (w : World) (hz : x.ar.sz = n) (hp : p = 0 ∨ p = 1) (hs : x.szs) (hE : Ec w x ua uc aa ac) (hM : Mp w b (ruL p)) (T : Tabs w) (hk : x.h.k = 4) : Calls Tryz.prog 148 #[.agg (exC x.h x.ar.len ua uc aa ac), .map (some b)] w (Bl (fmE (decide (p = 1)) x) w) := by
 have bb := balloc (b0 w) (.cells (exC x.h x.ar.len ua uc aa ac) 29)
 have B0 := Lib.hid bb
 have G := Lib.hid (Blk.new w 29 (exC x.h x.ar.len ua uc aa ac))
 have T0 := Lib.hid (T.stays bb)
 have E0 := Lib.hid (hE.keeps bb)
 have M0 := Lib.hid (hM.keeps bb)
 have hl := run_lookOk kRules M0.out x.h.k 3 (by rw [hk]; rfl) (ruF 210 p) rfl
 have C := Lib.hid (fun (W : World) (hU : un.Sl W ua x.h.un.length uc x.h.un) (hA : Fs W aa x.ar.len ac x.ar) (T : Tabs W) => (show Calls Tryz.prog 210 #[.int .i64 p, .agg #[.int .i64 x.h.k, .string x.h.op, .string x.h.nm, .string x.h.tb, .int .i64 x.h.vk, .int .i64 x.h.vn, .string x.h.vs, .slice ua x.h.un.length uc, .int .i64 x.h.pa, .int .i64 x.h.wk, .int .i64 x.h.ws, .slice aa x.ar.len ac]] W (Bl (nodE (decide (p = 1)) x.h x.ar.len (x.ar.nth 0).h) W) by have := lookup_any p x.h x.ar.len ua aa uc ac W hs.h hU T; rw [nod_4 hk hp _ _] at this; exact this))
 have hq : (x.h.k == 5) = false := in_ne (by omega)
 have hF := Lib.hid (show fmE (decide (p = 1)) x = (nodE (decide (p = 1)) x.h x.ar.len (x.ar.nth 0).h && fmA (decide (p = 1)) x.ar) by rw [fm_eq]; congr 2; simp [hk])
 have HS := Lib.hid hs.ar
 have HP := Lib.hid hp
 have IH' := Lib.hid IH
 have HZ := Lib.hid hz
 have hL := Lib.hid (show x.ar.len ≤ 9223372036854775807 by have := hE.ar.hcap; have := hE.ar.hmax; omega)
 clear bb T hE hM hk hs hp IH hz
 unfold exC at *
 unfold ruF at hl
 generalize nodE (decide (p = 1)) x.h x.ar.len (x.ar.nth 0).h = nd at *
 go_enter Tryz.func148, Tryz.ntmps148
 go_wp2_with (first | (refine arm_loadG infX Tryz.underlying29 rfl (.tmp 2) rfl rfl _ _ _ rfl G.out rfl ?_))
 refine (C.out _ E0.out.us E0.out.ar T0.out).mono ?_
 rintro e w1 ⟨rfl, b1⟩
 have B1 := Lib.hid (bnext B0.out b1)
 replace T0 := Lib.hid (T0.out.stays b1)
 replace E0 := Lib.hid (E0.out.keeps b1)
 replace G := Lib.hid (G.out.keeps b1)
 replace M0 := Lib.hid (M0.out.keeps b1)
 have c0 := G.out.cell 0
 have c11 := G.out.cell 11
 simp only [List.getElem?_toArray, List.getElem?_cons_zero, List.getElem?_cons_succ] at c0 c11
 clear b1 C hl
 cases nd
 ·replace hF := Lib.hid (hF.out.trans (Bool.false_and _))
  go_wp2_with fail
  go_ret
  exact bl_of (by rw [hF.out]) B1.out
 ·replace hF := Lib.hid (hF.out.trans (Bool.true_and _))
  go_wp2_with fail
  have hI := Lib.hid (show fmA (decide (p = 1)) x.ar = fmA (decide (p = 1)) (x.ar.drop 0) by rw [drop_zero])
  have B9 := B1
  have M9 := M0
  clear c0 c11  
  go_loopw [31] (fun vi wr => ∃ (j : Nat), vi = .int .i64 (j : Nat) ∧ Hid (j ≤ x.ar.len) ∧ Hid (fmA (decide (p = 1)) x.ar = fmA (decide (p = 1)) (x.ar.drop j)) ∧ Hid (Below w.heap.size w wr) ∧ Hid (Tabs wr) ∧ Hid (Ec wr x ua uc aa ac) ∧ Hid (Mp wr b (ruL p))) (fun vi _ => x.ar.len - (intOf vi).toNat)
  case atStart => exact ⟨0, rfl, Lib.hid (Nat.zero_le _), hI, B9, T0, E0, M9⟩
  case round =>
   clear hI B9 T0 E0 M9
   obtain ⟨j, rfl, hj, hI, hb, T0, E0, M0⟩ := hrel
   by_cases hlt : j < x.ar.len
   ·have q1 : decide ((j : Int) < (x.ar.len : Int)) = true := decide_eq_true (by omega)
    obtain ⟨bk, off, va, vc, wa, wc, rfl, R1, E1⟩ := E0.out.ar.at hlt
    have f4 := Lib.hid (next_at (j := j) (by have := hL.out; omega))
    have i1 : (j : Int) < (x.ar.len : Int) := by omega
    replace hI := Lib.hid (hI.out.trans (fmA_at hlt _))
    have hsz := Lib.hid (nth_sz x.ar j hlt)
    have hss := Lib.hid (nth_szs x.ar j HS.out)
    replace R1 := Lib.hid R1
    replace E1 := Lib.hid E1
    clear hj
    generalize x.ar.nth j = y at *
    go_wp2_with (first | (refine arm_mid infX Tryz.underlying29 rfl (.tmp 33) rfl rfl bk (off + j * 12) (exC y.h y.ar.len va vc wa wc) rfl R1.out rfl ?_) | (refine arm_storeT infX (.tmp 8) (.tmp 34) rfl rfl _ _ _ _ rfl rfl (Blk.new _ _ _) rfl rfl (exC_one _ _ _ _ _ _) ?_; intro w5 L5 hs5; have bb5 := (balloc (b0 wr) _).trans (hs5.below (Nat.le_refl _))) | (refine arm_loadT infX Tryz.underlying29 rfl (.tmp 8) rfl rfl _ _ _ rfl L5 rfl ?_))
    have B5 := Lib.hid (bnext hb.out bb5)
    have X5 := Lib.hid (E1.out.keeps bb5)
    have T5 := Lib.hid (T0.out.stays bb5)
    have M5 := Lib.hid (M0.out.keeps bb5)
    have E5 := Lib.hid (E0.out.keeps bb5)
    clear bb5 hs5 L5 R1 E1 T0 M0 E0 hb
    have CF : Calls Tryz.prog 148 #[.agg (exC y.h y.ar.len va vc wa wc), .map (some b)] w5 (Bl (fmE (decide (p = 1)) y) w5) := IH'.out p y va wa vc wc b w5 (by have := hsz.out; have := HZ.out; omega) HP.out hss.out X5.out M5.out T5.out
    refine CF.mono ?_
    rintro e w6 ⟨rfl, b6⟩
    have B6 := Lib.hid (bnext B5.out b6)
    have T6 := Lib.hid (T5.out.stays b6)
    have M6 := Lib.hid (M5.out.keeps b6)
    have E6 := Lib.hid (E5.out.keeps b6)
    clear b6 B5 X5 T5 M5 E5
    generalize fmE (decide (p = 1)) y = f at *
    cases f
    ·replace hF := Lib.hid (hF.out.trans (hI.out.trans (Bool.false_and _)))
     go_wp2_with fail
     go_ret
     exact bl_of (by rw [hF.out]) B6.out
    ·replace hI := Lib.hid (hI.out.trans (Bool.true_and _))
     go_wp2_with fail
     exact ⟨⟨j + 1, congrArg (Value.int .i64) f4.out, Lib.hid hlt, hI, B6, T6, E6, M6⟩, less_at hlt f4.out⟩
   ·have q1 : decide ((j : Int) < (x.ar.len : Int)) = false := decide_eq_false (by omega)
    replace hF := Lib.hid (show fmE (decide (p = 1)) x = true by rw [hF.out, hI.out, drop_end _ _ (by omega)]; rfl)
    clear hj hI
    go_wp2_with fail
    go_ret
    exact bl_of (by rw [hF.out]) hb.out
theorem follows_5 (n : Nat) (IH : ∀ (p : Int) (x : Ex) (ua aa : Option Addr) (uc ac b : Nat) (w : World), x.ar.sz < n → (p = 0 ∨ p = 1) → x.szs → Ec w x ua uc aa ac → Mp w b (ruL p) → Tabs w → Calls Tryz.prog 148 #[.agg (exC x.h x.ar.len ua uc aa ac), .map (some b)] w (Bl (fmE (decide (p = 1)) x) w))
  (p : Int) (x : Ex) (ua aa : Option Addr) (uc ac b : Nat) (w : World) (hz : x.ar.sz = n) (hp : p = 0 ∨ p = 1) (hs : x.szs) (hE : Ec w x ua uc aa ac) (hM : Mp w b (ruL p)) (T : Tabs w) (hk : x.h.k = 5) : Calls Tryz.prog 148 #[.agg (exC x.h x.ar.len ua uc aa ac), .map (some b)] w (Bl (fmE (decide (p = 1)) x) w) := by
 have bb := balloc (b0 w) (.cells (exC x.h x.ar.len ua uc aa ac) 29)
 have B0 := Lib.hid bb
 have G := Lib.hid (Blk.new w 29 (exC x.h x.ar.len ua uc aa ac))
 have T0 := Lib.hid (T.stays bb)
 have E0 := Lib.hid (hE.keeps bb)
 have M0 := Lib.hid (hM.keeps bb)
 have hl := run_lookOk kRules M0.out x.h.k 4 (by rw [hk]; rfl) (ruF 211 p) rfl
 have C := Lib.hid (fun (W : World) (hU : un.Sl W ua x.h.un.length uc x.h.un) (hA : Fs W aa x.ar.len ac x.ar) (T : Tabs W) => (show Calls Tryz.prog 211 #[.int .i64 p, .agg #[.int .i64 x.h.k, .string x.h.op, .string x.h.nm, .string x.h.tb, .int .i64 x.h.vk, .int .i64 x.h.vn, .string x.h.vs, .slice ua x.h.un.length uc, .int .i64 x.h.pa, .int .i64 x.h.wk, .int .i64 x.h.ws, .slice aa x.ar.len ac]] W (Bl (nodE (decide (p = 1)) x.h x.ar.len (x.ar.nth 0).h) W) by have := aggregate_any p x.h x.ar.len ua aa uc ac W hs.h hU x.ar hA _ rfl T; rw [nod_5 hk hp _ _] at this; exact this))
 have hq : (x.h.k == 5) = true := in_is hk
 have hF := Lib.hid (show fmE (decide (p = 1)) x = (nodE (decide (p = 1)) x.h x.ar.len (x.ar.nth 0).h && fmA (true) x.ar) by rw [fm_eq]; congr 2; simp [hk])
 have HS := Lib.hid hs.ar
 have HP := Lib.hid hp
 have IH' := Lib.hid IH
 have HZ := Lib.hid hz
 have hL := Lib.hid (show x.ar.len ≤ 9223372036854775807 by have := hE.ar.hcap; have := hE.ar.hmax; omega)
 clear bb T hE hM hk hs hp IH hz
 unfold exC at *
 unfold ruF at hl
 generalize nodE (decide (p = 1)) x.h x.ar.len (x.ar.nth 0).h = nd at *
 go_enter Tryz.func148, Tryz.ntmps148
 go_wp2_with (first | (refine arm_loadG infX Tryz.underlying29 rfl (.tmp 2) rfl rfl _ _ _ rfl G.out rfl ?_))
 refine (C.out _ E0.out.us E0.out.ar T0.out).mono ?_
 rintro e w1 ⟨rfl, b1⟩
 have B1 := Lib.hid (bnext B0.out b1)
 replace T0 := Lib.hid (T0.out.stays b1)
 replace E0 := Lib.hid (E0.out.keeps b1)
 replace G := Lib.hid (G.out.keeps b1)
 replace M0 := Lib.hid (M0.out.keeps b1)
 have c0 := G.out.cell 0
 have c11 := G.out.cell 11
 simp only [List.getElem?_toArray, List.getElem?_cons_zero, List.getElem?_cons_succ] at c0 c11
 clear b1 C hl
 cases nd
 ·replace hF := Lib.hid (hF.out.trans (Bool.false_and _))
  go_wp2_with fail
  go_ret
  exact bl_of (by rw [hF.out]) B1.out
 ·replace hF := Lib.hid (hF.out.trans (Bool.true_and _))
  go_wp2_with fail
  have RC := rules_any 1
  refine (RC _).mono ?_
  rintro e w7 ⟨b2, rfl, hb2, m2, b7⟩
  have B7 := Lib.hid (bnext B1.out b7)
  replace T0 := Lib.hid (T0.out.stays b7)
  replace E0 := Lib.hid (E0.out.keeps b7)
  replace G := Lib.hid (G.out.keeps b7)
  have M7 := Lib.hid m2
  have e11 := G.out.cell 11
  simp only [List.getElem?_toArray, List.getElem?_cons_zero, List.getElem?_cons_succ] at e11
  clear b7 m2 hb2 RC M0
  go_wp2_with fail
  have hI := Lib.hid (show fmA (true) x.ar = fmA (true) (x.ar.drop 0) by rw [drop_zero])
  have B9 := B7
  have M9 := M7
  clear c0 c11 e11 
  go_loopw [31] (fun vi wr => ∃ (j : Nat), vi = .int .i64 (j : Nat) ∧ Hid (j ≤ x.ar.len) ∧ Hid (fmA (true) x.ar = fmA (true) (x.ar.drop j)) ∧ Hid (Below w.heap.size w wr) ∧ Hid (Tabs wr) ∧ Hid (Ec wr x ua uc aa ac) ∧ Hid (Mp wr b2 (ruL 1))) (fun vi _ => x.ar.len - (intOf vi).toNat)
  case atStart => exact ⟨0, rfl, Lib.hid (Nat.zero_le _), hI, B9, T0, E0, M9⟩
  case round =>
   clear hI B9 T0 E0 M9
   obtain ⟨j, rfl, hj, hI, hb, T0, E0, M0⟩ := hrel
   by_cases hlt : j < x.ar.len
   ·have q1 : decide ((j : Int) < (x.ar.len : Int)) = true := decide_eq_true (by omega)
    obtain ⟨bk, off, va, vc, wa, wc, rfl, R1, E1⟩ := E0.out.ar.at hlt
    have f4 := Lib.hid (next_at (j := j) (by have := hL.out; omega))
    have i1 : (j : Int) < (x.ar.len : Int) := by omega
    replace hI := Lib.hid (hI.out.trans (fmA_at hlt _))
    have hsz := Lib.hid (nth_sz x.ar j hlt)
    have hss := Lib.hid (nth_szs x.ar j HS.out)
    replace R1 := Lib.hid R1
    replace E1 := Lib.hid E1
    clear hj
    generalize x.ar.nth j = y at *
    go_wp2_with (first | (refine arm_mid infX Tryz.underlying29 rfl (.tmp 33) rfl rfl bk (off + j * 12) (exC y.h y.ar.len va vc wa wc) rfl R1.out rfl ?_) | (refine arm_storeT infX (.tmp 8) (.tmp 34) rfl rfl _ _ _ _ rfl rfl (Blk.new _ _ _) rfl rfl (exC_one _ _ _ _ _ _) ?_; intro w5 L5 hs5; have bb5 := (balloc (b0 wr) _).trans (hs5.below (Nat.le_refl _))) | (refine arm_loadT infX Tryz.underlying29 rfl (.tmp 8) rfl rfl _ _ _ rfl L5 rfl ?_))
    have B5 := Lib.hid (bnext hb.out bb5)
    have X5 := Lib.hid (E1.out.keeps bb5)
    have T5 := Lib.hid (T0.out.stays bb5)
    have M5 := Lib.hid (M0.out.keeps bb5)
    have E5 := Lib.hid (E0.out.keeps bb5)
    clear bb5 hs5 L5 R1 E1 T0 M0 E0 hb
    have CF : Calls Tryz.prog 148 #[.agg (exC y.h y.ar.len va vc wa wc), .map (some b2)] w5 (Bl (fmE (true) y) w5) := IH'.out 1 y va wa vc wc b2 w5 (by have := hsz.out; have := HZ.out; omega) (.inr rfl) hss.out X5.out M5.out T5.out
    refine CF.mono ?_
    rintro e w6 ⟨rfl, b6⟩
    have B6 := Lib.hid (bnext B5.out b6)
    have T6 := Lib.hid (T5.out.stays b6)
    have M6 := Lib.hid (M5.out.keeps b6)
    have E6 := Lib.hid (E5.out.keeps b6)
    clear b6 B5 X5 T5 M5 E5
    generalize fmE (true) y = f at *
    cases f
    ·replace hF := Lib.hid (hF.out.trans (hI.out.trans (Bool.false_and _)))
     go_wp2_with fail
     go_ret
     exact bl_of (by rw [hF.out]) B6.out
    ·replace hI := Lib.hid (hI.out.trans (Bool.true_and _))
     go_wp2_with fail
     exact ⟨⟨j + 1, congrArg (Value.int .i64) f4.out, Lib.hid hlt, hI, B6, T6, E6, M6⟩, less_at hlt f4.out⟩
   ·have q1 : decide ((j : Int) < (x.ar.len : Int)) = false := decide_eq_false (by omega)
    replace hF := Lib.hid (show fmE (decide (p = 1)) x = true by rw [hF.out, hI.out, drop_end _ _ (by omega)]; rfl)
    clear hj hI
    go_wp2_with fail
    go_ret
    exact bl_of (by rw [hF.out]) hb.out
theorem follows_6 (n : Nat) (IH : ∀ (p : Int) (x : Ex) (ua aa : Option Addr) (uc ac b : Nat) (w : World), x.ar.sz < n → (p = 0 ∨ p = 1) → x.szs → Ec w x ua uc aa ac → Mp w b (ruL p) → Tabs w → Calls Tryz.prog 148 #[.agg (exC x.h x.ar.len ua uc aa ac), .map (some b)] w (Bl (fmE (decide (p = 1)) x) w))
  (p : Int) (x : Ex) (ua aa : Option Addr) (uc ac b : Nat) (w : World) (hz : x.ar.sz = n) (hp : p = 0 ∨ p = 1) (hs : x.szs) (hE : Ec w x ua uc aa ac) (hM : Mp w b (ruL p)) (T : Tabs w) (hk : x.h.k = 6) : Calls Tryz.prog 148 #[.agg (exC x.h x.ar.len ua uc aa ac), .map (some b)] w (Bl (fmE (decide (p = 1)) x) w) := by
 have bb := balloc (b0 w) (.cells (exC x.h x.ar.len ua uc aa ac) 29)
 have B0 := Lib.hid bb
 have G := Lib.hid (Blk.new w 29 (exC x.h x.ar.len ua uc aa ac))
 have T0 := Lib.hid (T.stays bb)
 have E0 := Lib.hid (hE.keeps bb)
 have M0 := Lib.hid (hM.keeps bb)
 have hl := run_lookOk kRules M0.out x.h.k 5 (by rw [hk]; rfl) (ruF 212 p) rfl
 have C := Lib.hid (fun (W : World) (hU : un.Sl W ua x.h.un.length uc x.h.un) (hA : Fs W aa x.ar.len ac x.ar) (T : Tabs W) => (show Calls Tryz.prog 212 #[.int .i64 p, .agg #[.int .i64 x.h.k, .string x.h.op, .string x.h.nm, .string x.h.tb, .int .i64 x.h.vk, .int .i64 x.h.vn, .string x.h.vs, .slice ua x.h.un.length uc, .int .i64 x.h.pa, .int .i64 x.h.wk, .int .i64 x.h.ws, .slice aa x.ar.len ac]] W (Bl (nodE (decide (p = 1)) x.h x.ar.len (x.ar.nth 0).h) W) by have := unary_any p x.h x.ar.len ua aa uc ac W hs.h hU T; rw [nod_6 hk _ _ _] at this; exact this))
 have hq : (x.h.k == 5) = false := in_ne (by omega)
 have hF := Lib.hid (show fmE (decide (p = 1)) x = (nodE (decide (p = 1)) x.h x.ar.len (x.ar.nth 0).h && fmA (decide (p = 1)) x.ar) by rw [fm_eq]; congr 2; simp [hk])
 have HS := Lib.hid hs.ar
 have HP := Lib.hid hp
 have IH' := Lib.hid IH
 have HZ := Lib.hid hz
 have hL := Lib.hid (show x.ar.len ≤ 9223372036854775807 by have := hE.ar.hcap; have := hE.ar.hmax; omega)
 clear bb T hE hM hk hs hp IH hz
 unfold exC at *
 unfold ruF at hl
 generalize nodE (decide (p = 1)) x.h x.ar.len (x.ar.nth 0).h = nd at *
 go_enter Tryz.func148, Tryz.ntmps148
 go_wp2_with (first | (refine arm_loadG infX Tryz.underlying29 rfl (.tmp 2) rfl rfl _ _ _ rfl G.out rfl ?_))
 refine (C.out _ E0.out.us E0.out.ar T0.out).mono ?_
 rintro e w1 ⟨rfl, b1⟩
 have B1 := Lib.hid (bnext B0.out b1)
 replace T0 := Lib.hid (T0.out.stays b1)
 replace E0 := Lib.hid (E0.out.keeps b1)
 replace G := Lib.hid (G.out.keeps b1)
 replace M0 := Lib.hid (M0.out.keeps b1)
 have c0 := G.out.cell 0
 have c11 := G.out.cell 11
 simp only [List.getElem?_toArray, List.getElem?_cons_zero, List.getElem?_cons_succ] at c0 c11
 clear b1 C hl
 cases nd
 ·replace hF := Lib.hid (hF.out.trans (Bool.false_and _))
  go_wp2_with fail
  go_ret
  exact bl_of (by rw [hF.out]) B1.out
 ·replace hF := Lib.hid (hF.out.trans (Bool.true_and _))
  go_wp2_with fail
  have hI := Lib.hid (show fmA (decide (p = 1)) x.ar = fmA (decide (p = 1)) (x.ar.drop 0) by rw [drop_zero])
  have B9 := B1
  have M9 := M0
  clear c0 c11  
  go_loopw [31] (fun vi wr => ∃ (j : Nat), vi = .int .i64 (j : Nat) ∧ Hid (j ≤ x.ar.len) ∧ Hid (fmA (decide (p = 1)) x.ar = fmA (decide (p = 1)) (x.ar.drop j)) ∧ Hid (Below w.heap.size w wr) ∧ Hid (Tabs wr) ∧ Hid (Ec wr x ua uc aa ac) ∧ Hid (Mp wr b (ruL p))) (fun vi _ => x.ar.len - (intOf vi).toNat)
  case atStart => exact ⟨0, rfl, Lib.hid (Nat.zero_le _), hI, B9, T0, E0, M9⟩
  case round =>
   clear hI B9 T0 E0 M9
   obtain ⟨j, rfl, hj, hI, hb, T0, E0, M0⟩ := hrel
   by_cases hlt : j < x.ar.len
   ·have q1 : decide ((j : Int) < (x.ar.len : Int)) = true := decide_eq_true (by omega)
    obtain ⟨bk, off, va, vc, wa, wc, rfl, R1, E1⟩ := E0.out.ar.at hlt
    have f4 := Lib.hid (next_at (j := j) (by have := hL.out; omega))
    have i1 : (j : Int) < (x.ar.len : Int) := by omega
    replace hI := Lib.hid (hI.out.trans (fmA_at hlt _))
    have hsz := Lib.hid (nth_sz x.ar j hlt)
    have hss := Lib.hid (nth_szs x.ar j HS.out)
    replace R1 := Lib.hid R1
    replace E1 := Lib.hid E1
    clear hj
    generalize x.ar.nth j = y at *
    go_wp2_with (first | (refine arm_mid infX Tryz.underlying29 rfl (.tmp 33) rfl rfl bk (off + j * 12) (exC y.h y.ar.len va vc wa wc) rfl R1.out rfl ?_) | (refine arm_storeT infX (.tmp 8) (.tmp 34) rfl rfl _ _ _ _ rfl rfl (Blk.new _ _ _) rfl rfl (exC_one _ _ _ _ _ _) ?_; intro w5 L5 hs5; have bb5 := (balloc (b0 wr) _).trans (hs5.below (Nat.le_refl _))) | (refine arm_loadT infX Tryz.underlying29 rfl (.tmp 8) rfl rfl _ _ _ rfl L5 rfl ?_))
    have B5 := Lib.hid (bnext hb.out bb5)
    have X5 := Lib.hid (E1.out.keeps bb5)
    have T5 := Lib.hid (T0.out.stays bb5)
    have M5 := Lib.hid (M0.out.keeps bb5)
    have E5 := Lib.hid (E0.out.keeps bb5)
    clear bb5 hs5 L5 R1 E1 T0 M0 E0 hb
    have CF : Calls Tryz.prog 148 #[.agg (exC y.h y.ar.len va vc wa wc), .map (some b)] w5 (Bl (fmE (decide (p = 1)) y) w5) := IH'.out p y va wa vc wc b w5 (by have := hsz.out; have := HZ.out; omega) HP.out hss.out X5.out M5.out T5.out
    refine CF.mono ?_
    rintro e w6 ⟨rfl, b6⟩
    have B6 := Lib.hid (bnext B5.out b6)
    have T6 := Lib.hid (T5.out.stays b6)
    have M6 := Lib.hid (M5.out.keeps b6)
    have E6 := Lib.hid (E5.out.keeps b6)
    clear b6 B5 X5 T5 M5 E5
    generalize fmE (decide (p = 1)) y = f at *
    cases f
    ·replace hF := Lib.hid (hF.out.trans (hI.out.trans (Bool.false_and _)))
     go_wp2_with fail
     go_ret
     exact bl_of (by rw [hF.out]) B6.out
    ·replace hI := Lib.hid (hI.out.trans (Bool.true_and _))
     go_wp2_with fail
     exact ⟨⟨j + 1, congrArg (Value.int .i64) f4.out, Lib.hid hlt, hI, B6, T6, E6, M6⟩, less_at hlt f4.out⟩
   ·have q1 : decide ((j : Int) < (x.ar.len : Int)) = false := decide_eq_false (by omega)
    replace hF := Lib.hid (show fmE (decide (p = 1)) x = true by rw [hF.out, hI.out, drop_end _ _ (by omega)]; rfl)
    clear hj hI
    go_wp2_with fail
    go_ret
    exact bl_of (by rw [hF.out]) hb.out
theorem follows_7 (n : Nat) (IH : ∀ (p : Int) (x : Ex) (ua aa : Option Addr) (uc ac b : Nat) (w : World), x.ar.sz < n → (p = 0 ∨ p = 1) → x.szs → Ec w x ua uc aa ac → Mp w b (ruL p) → Tabs w → Calls Tryz.prog 148 #[.agg (exC x.h x.ar.len ua uc aa ac), .map (some b)] w (Bl (fmE (decide (p = 1)) x) w))
  (p : Int) (x : Ex) (ua aa : Option Addr) (uc ac b : Nat) (w : World) (hz : x.ar.sz = n) (hp : p = 0 ∨ p = 1) (hs : x.szs) (hE : Ec w x ua uc aa ac) (hM : Mp w b (ruL p)) (T : Tabs w) (hk : x.h.k = 7) : Calls Tryz.prog 148 #[.agg (exC x.h x.ar.len ua uc aa ac), .map (some b)] w (Bl (fmE (decide (p = 1)) x) w) := by
 have bb := balloc (b0 w) (.cells (exC x.h x.ar.len ua uc aa ac) 29)
 have B0 := Lib.hid bb
 have G := Lib.hid (Blk.new w 29 (exC x.h x.ar.len ua uc aa ac))
 have T0 := Lib.hid (T.stays bb)
 have E0 := Lib.hid (hE.keeps bb)
 have M0 := Lib.hid (hM.keeps bb)
 have hl := run_lookOk kRules M0.out x.h.k 6 (by rw [hk]; rfl) (ruF 213 p) rfl
 have C := Lib.hid (fun (W : World) (hU : un.Sl W ua x.h.un.length uc x.h.un) (hA : Fs W aa x.ar.len ac x.ar) (T : Tabs W) => (show Calls Tryz.prog 213 #[.int .i64 p, .agg #[.int .i64 x.h.k, .string x.h.op, .string x.h.nm, .string x.h.tb, .int .i64 x.h.vk, .int .i64 x.h.vn, .string x.h.vs, .slice ua x.h.un.length uc, .int .i64 x.h.pa, .int .i64 x.h.wk, .int .i64 x.h.ws, .slice aa x.ar.len ac]] W (Bl (nodE (decide (p = 1)) x.h x.ar.len (x.ar.nth 0).h) W) by have := binary_any p x.h x.ar.len ua aa uc ac W hs.h hU T; rw [nod_7 hk _ _ _] at this; exact this))
 have hq : (x.h.k == 5) = false := in_ne (by omega)
 have hF := Lib.hid (show fmE (decide (p = 1)) x = (nodE (decide (p = 1)) x.h x.ar.len (x.ar.nth 0).h && fmA (decide (p = 1)) x.ar) by rw [fm_eq]; congr 2; simp [hk])
 have HS := Lib.hid hs.ar
 have HP := Lib.hid hp
 have IH' := Lib.hid IH
 have HZ := Lib.hid hz
 have hL := Lib.hid (show x.ar.len ≤ 9223372036854775807 by have := hE.ar.hcap; have := hE.ar.hmax; omega)
 clear bb T hE hM hk hs hp IH hz
 unfold exC at *
 unfold ruF at hl
 generalize nodE (decide (p = 1)) x.h x.ar.len (x.ar.nth 0).h = nd at *
 go_enter Tryz.func148, Tryz.ntmps148
 go_wp2_with (first | (refine arm_loadG infX Tryz.underlying29 rfl (.tmp 2) rfl rfl _ _ _ rfl G.out rfl ?_))
 refine (C.out _ E0.out.us E0.out.ar T0.out).mono ?_
 rintro e w1 ⟨rfl, b1⟩
 have B1 := Lib.hid (bnext B0.out b1)
 replace T0 := Lib.hid (T0.out.stays b1)
 replace E0 := Lib.hid (E0.out.keeps b1)
 replace G := Lib.hid (G.out.keeps b1)
 replace M0 := Lib.hid (M0.out.keeps b1)
 have c0 := G.out.cell 0
 have c11 := G.out.cell 11
 simp only [List.getElem?_toArray, List.getElem?_cons_zero, List.getElem?_cons_succ] at c0 c11
 clear b1 C hl
 cases nd
 ·replace hF := Lib.hid (hF.out.trans (Bool.false_and _))
  go_wp2_with fail
  go_ret
  exact bl_of (by rw [hF.out]) B1.out
 ·replace hF := Lib.hid (hF.out.trans (Bool.true_and _))
  go_wp2_with fail
  have hI := Lib.hid (show fmA (decide (p = 1)) x.ar = fmA (decide (p = 1)) (x.ar.drop 0) by rw [drop_zero])
  have B9 := B1
  have M9 := M0
  clear c0 c11  
  go_loopw [31] (fun vi wr => ∃ (j : Nat), vi = .int .i64 (j : Nat) ∧ Hid (j ≤ x.ar.len) ∧ Hid (fmA (decide (p = 1)) x.ar = fmA (decide (p = 1)) (x.ar.drop j)) ∧ Hid (Below w.heap.size w wr) ∧ Hid (Tabs wr) ∧ Hid (Ec wr x ua uc aa ac) ∧ Hid (Mp wr b (ruL p))) (fun vi _ => x.ar.len - (intOf vi).toNat)
  case atStart => exact ⟨0, rfl, Lib.hid (Nat.zero_le _), hI, B9, T0, E0, M9⟩
  case round =>
   clear hI B9 T0 E0 M9
   obtain ⟨j, rfl, hj, hI, hb, T0, E0, M0⟩ := hrel
   by_cases hlt : j < x.ar.len
   ·have q1 : decide ((j : Int) < (x.ar.len : Int)) = true := decide_eq_true (by omega)
    obtain ⟨bk, off, va, vc, wa, wc, rfl, R1, E1⟩ := E0.out.ar.at hlt
    have f4 := Lib.hid (next_at (j := j) (by have := hL.out; omega))
    have i1 : (j : Int) < (x.ar.len : Int) := by omega
    replace hI := Lib.hid (hI.out.trans (fmA_at hlt _))
    have hsz := Lib.hid (nth_sz x.ar j hlt)
    have hss := Lib.hid (nth_szs x.ar j HS.out)
    replace R1 := Lib.hid R1
    replace E1 := Lib.hid E1
    clear hj
    generalize x.ar.nth j = y at *
    go_wp2_with (first | (refine arm_mid infX Tryz.underlying29 rfl (.tmp 33) rfl rfl bk (off + j * 12) (exC y.h y.ar.len va vc wa wc) rfl R1.out rfl ?_) | (refine arm_storeT infX (.tmp 8) (.tmp 34) rfl rfl _ _ _ _ rfl rfl (Blk.new _ _ _) rfl rfl (exC_one _ _ _ _ _ _) ?_; intro w5 L5 hs5; have bb5 := (balloc (b0 wr) _).trans (hs5.below (Nat.le_refl _))) | (refine arm_loadT infX Tryz.underlying29 rfl (.tmp 8) rfl rfl _ _ _ rfl L5 rfl ?_))
    have B5 := Lib.hid (bnext hb.out bb5)
    have X5 := Lib.hid (E1.out.keeps bb5)
    have T5 := Lib.hid (T0.out.stays bb5)
    have M5 := Lib.hid (M0.out.keeps bb5)
    have E5 := Lib.hid (E0.out.keeps bb5)
    clear bb5 hs5 L5 R1 E1 T0 M0 E0 hb
    have CF : Calls Tryz.prog 148 #[.agg (exC y.h y.ar.len va vc wa wc), .map (some b)] w5 (Bl (fmE (decide (p = 1)) y) w5) := IH'.out p y va wa vc wc b w5 (by have := hsz.out; have := HZ.out; omega) HP.out hss.out X5.out M5.out T5.out
    refine CF.mono ?_
    rintro e w6 ⟨rfl, b6⟩
    have B6 := Lib.hid (bnext B5.out b6)
    have T6 := Lib.hid (T5.out.stays b6)
    have M6 := Lib.hid (M5.out.keeps b6)
    have E6 := Lib.hid (E5.out.keeps b6)
    clear b6 B5 X5 T5 M5 E5
    generalize fmE (decide (p = 1)) y = f at *
    cases f
    ·replace hF := Lib.hid (hF.out.trans (hI.out.trans (Bool.false_and _)))
     go_wp2_with fail
     go_ret
     exact bl_of (by rw [hF.out]) B6.out
    ·replace hI := Lib.hid (hI.out.trans (Bool.true_and _))
     go_wp2_with fail
     exact ⟨⟨j + 1, congrArg (Value.int .i64) f4.out, Lib.hid hlt, hI, B6, T6, E6, M6⟩, less_at hlt f4.out⟩
   ·have q1 : decide ((j : Int) < (x.ar.len : Int)) = false := decide_eq_false (by omega)
    replace hF := Lib.hid (show fmE (decide (p = 1)) x = true by rw [hF.out, hI.out, drop_end _ _ (by omega)]; rfl)
    clear hj hI
    go_wp2_with fail
    go_ret
    exact bl_of (by rw [hF.out]) hb.out
theorem follows_8 (n : Nat) (IH : ∀ (p : Int) (x : Ex) (ua aa : Option Addr) (uc ac b : Nat) (w : World), x.ar.sz < n → (p = 0 ∨ p = 1) → x.szs → Ec w x ua uc aa ac → Mp w b (ruL p) → Tabs w → Calls Tryz.prog 148 #[.agg (exC x.h x.ar.len ua uc aa ac), .map (some b)] w (Bl (fmE (decide (p = 1)) x) w))
  (p : Int) (x : Ex) (ua aa : Option Addr) (uc ac b : Nat) (w : World) (hz : x.ar.sz = n) (hp : p = 0 ∨ p = 1) (hs : x.szs) (hE : Ec w x ua uc aa ac) (hM : Mp w b (ruL p)) (T : Tabs w) (hk : x.h.k = 8) : Calls Tryz.prog 148 #[.agg (exC x.h x.ar.len ua uc aa ac), .map (some b)] w (Bl (fmE (decide (p = 1)) x) w) := by
 have bb := balloc (b0 w) (.cells (exC x.h x.ar.len ua uc aa ac) 29)
 have B0 := Lib.hid bb
 have G := Lib.hid (Blk.new w 29 (exC x.h x.ar.len ua uc aa ac))
 have T0 := Lib.hid (T.stays bb)
 have E0 := Lib.hid (hE.keeps bb)
 have M0 := Lib.hid (hM.keeps bb)
 have hl := run_lookOk kRules M0.out x.h.k 7 (by rw [hk]; rfl) (ruF 214 p) rfl
 have C := Lib.hid (fun (W : World) (hU : un.Sl W ua x.h.un.length uc x.h.un) (hA : Fs W aa x.ar.len ac x.ar) (T : Tabs W) => (show Calls Tryz.prog 214 #[.int .i64 p, .agg #[.int .i64 x.h.k, .string x.h.op, .string x.h.nm, .string x.h.tb, .int .i64 x.h.vk, .int .i64 x.h.vn, .string x.h.vs, .slice ua x.h.un.length uc, .int .i64 x.h.pa, .int .i64 x.h.wk, .int .i64 x.h.ws, .slice aa x.ar.len ac]] W (Bl (nodE (decide (p = 1)) x.h x.ar.len (x.ar.nth 0).h) W) by have := choice_any p x.h x.ar.len ua aa uc ac W hs.h hU T; rw [nod_8 hk _ _ _] at this; exact this))
 have hq : (x.h.k == 5) = false := in_ne (by omega)
 have hF := Lib.hid (show fmE (decide (p = 1)) x = (nodE (decide (p = 1)) x.h x.ar.len (x.ar.nth 0).h && fmA (decide (p = 1)) x.ar) by rw [fm_eq]; congr 2; simp [hk])
 have HS := Lib.hid hs.ar
 have HP := Lib.hid hp
 have IH' := Lib.hid IH
 have HZ := Lib.hid hz
 have hL := Lib.hid (show x.ar.len ≤ 9223372036854775807 by have := hE.ar.hcap; have := hE.ar.hmax; omega)
 clear bb T hE hM hk hs hp IH hz
 unfold exC at *
 unfold ruF at hl
 generalize nodE (decide (p = 1)) x.h x.ar.len (x.ar.nth 0).h = nd at *
 go_enter Tryz.func148, Tryz.ntmps148
 go_wp2_with (first | (refine arm_loadG infX Tryz.underlying29 rfl (.tmp 2) rfl rfl _ _ _ rfl G.out rfl ?_))
 refine (C.out _ E0.out.us E0.out.ar T0.out).mono ?_
 rintro e w1 ⟨rfl, b1⟩
 have B1 := Lib.hid (bnext B0.out b1)
 replace T0 := Lib.hid (T0.out.stays b1)
 replace E0 := Lib.hid (E0.out.keeps b1)
 replace G := Lib.hid (G.out.keeps b1)
 replace M0 := Lib.hid (M0.out.keeps b1)
 have c0 := G.out.cell 0
 have c11 := G.out.cell 11
 simp only [List.getElem?_toArray, List.getElem?_cons_zero, List.getElem?_cons_succ] at c0 c11
 clear b1 C hl
 cases nd
 ·replace hF := Lib.hid (hF.out.trans (Bool.false_and _))
  go_wp2_with fail
  go_ret
  exact bl_of (by rw [hF.out]) B1.out
 ·replace hF := Lib.hid (hF.out.trans (Bool.true_and _))
  go_wp2_with fail
  have hI := Lib.hid (show fmA (decide (p = 1)) x.ar = fmA (decide (p = 1)) (x.ar.drop 0) by rw [drop_zero])
  have B9 := B1
  have M9 := M0
  clear c0 c11  
  go_loopw [31] (fun vi wr => ∃ (j : Nat), vi = .int .i64 (j : Nat) ∧ Hid (j ≤ x.ar.len) ∧ Hid (fmA (decide (p = 1)) x.ar = fmA (decide (p = 1)) (x.ar.drop j)) ∧ Hid (Below w.heap.size w wr) ∧ Hid (Tabs wr) ∧ Hid (Ec wr x ua uc aa ac) ∧ Hid (Mp wr b (ruL p))) (fun vi _ => x.ar.len - (intOf vi).toNat)
  case atStart => exact ⟨0, rfl, Lib.hid (Nat.zero_le _), hI, B9, T0, E0, M9⟩
  case round =>
   clear hI B9 T0 E0 M9
   obtain ⟨j, rfl, hj, hI, hb, T0, E0, M0⟩ := hrel
   by_cases hlt : j < x.ar.len
   ·have q1 : decide ((j : Int) < (x.ar.len : Int)) = true := decide_eq_true (by omega)
    obtain ⟨bk, off, va, vc, wa, wc, rfl, R1, E1⟩ := E0.out.ar.at hlt
    have f4 := Lib.hid (next_at (j := j) (by have := hL.out; omega))
    have i1 : (j : Int) < (x.ar.len : Int) := by omega
    replace hI := Lib.hid (hI.out.trans (fmA_at hlt _))
    have hsz := Lib.hid (nth_sz x.ar j hlt)
    have hss := Lib.hid (nth_szs x.ar j HS.out)
    replace R1 := Lib.hid R1
    replace E1 := Lib.hid E1
    clear hj
    generalize x.ar.nth j = y at *
    go_wp2_with (first | (refine arm_mid infX Tryz.underlying29 rfl (.tmp 33) rfl rfl bk (off + j * 12) (exC y.h y.ar.len va vc wa wc) rfl R1.out rfl ?_) | (refine arm_storeT infX (.tmp 8) (.tmp 34) rfl rfl _ _ _ _ rfl rfl (Blk.new _ _ _) rfl rfl (exC_one _ _ _ _ _ _) ?_; intro w5 L5 hs5; have bb5 := (balloc (b0 wr) _).trans (hs5.below (Nat.le_refl _))) | (refine arm_loadT infX Tryz.underlying29 rfl (.tmp 8) rfl rfl _ _ _ rfl L5 rfl ?_))
    have B5 := Lib.hid (bnext hb.out bb5)
    have X5 := Lib.hid (E1.out.keeps bb5)
    have T5 := Lib.hid (T0.out.stays bb5)
    have M5 := Lib.hid (M0.out.keeps bb5)
    have E5 := Lib.hid (E0.out.keeps bb5)
    clear bb5 hs5 L5 R1 E1 T0 M0 E0 hb
    have CF : Calls Tryz.prog 148 #[.agg (exC y.h y.ar.len va vc wa wc), .map (some b)] w5 (Bl (fmE (decide (p = 1)) y) w5) := IH'.out p y va wa vc wc b w5 (by have := hsz.out; have := HZ.out; omega) HP.out hss.out X5.out M5.out T5.out
    refine CF.mono ?_
    rintro e w6 ⟨rfl, b6⟩
    have B6 := Lib.hid (bnext B5.out b6)
    have T6 := Lib.hid (T5.out.stays b6)
    have M6 := Lib.hid (M5.out.keeps b6)
    have E6 := Lib.hid (E5.out.keeps b6)
    clear b6 B5 X5 T5 M5 E5
    generalize fmE (decide (p = 1)) y = f at *
    cases f
    ·replace hF := Lib.hid (hF.out.trans (hI.out.trans (Bool.false_and _)))
     go_wp2_with fail
     go_ret
     exact bl_of (by rw [hF.out]) B6.out
    ·replace hI := Lib.hid (hI.out.trans (Bool.true_and _))
     go_wp2_with fail
     exact ⟨⟨j + 1, congrArg (Value.int .i64) f4.out, Lib.hid hlt, hI, B6, T6, E6, M6⟩, less_at hlt f4.out⟩
   ·have q1 : decide ((j : Int) < (x.ar.len : Int)) = false := decide_eq_false (by omega)
    replace hF := Lib.hid (show fmE (decide (p = 1)) x = true by rw [hF.out, hI.out, drop_end _ _ (by omega)]; rfl)
    clear hj hI
    go_wp2_with fail
    go_ret
    exact bl_of (by rw [hF.out]) hb.out
theorem follows_9 (n : Nat) (IH : ∀ (p : Int) (x : Ex) (ua aa : Option Addr) (uc ac b : Nat) (w : World), x.ar.sz < n → (p = 0 ∨ p = 1) → x.szs → Ec w x ua uc aa ac → Mp w b (ruL p) → Tabs w → Calls Tryz.prog 148 #[.agg (exC x.h x.ar.len ua uc aa ac), .map (some b)] w (Bl (fmE (decide (p = 1)) x) w))
  (p : Int) (x : Ex) (ua aa : Option Addr) (uc ac b : Nat) (w : World) (hz : x.ar.sz = n) (hp : p = 0 ∨ p = 1) (hs : x.szs) (hE : Ec w x ua uc aa ac) (hM : Mp w b (ruL p)) (T : Tabs w) (hk : x.h.k = 9) : Calls Tryz.prog 148 #[.agg (exC x.h x.ar.len ua uc aa ac), .map (some b)] w (Bl (fmE (decide (p = 1)) x) w) := by
 have bb := balloc (b0 w) (.cells (exC x.h x.ar.len ua uc aa ac) 29)
 have B0 := Lib.hid bb
 have G := Lib.hid (Blk.new w 29 (exC x.h x.ar.len ua uc aa ac))
 have T0 := Lib.hid (T.stays bb)
 have E0 := Lib.hid (hE.keeps bb)
 have M0 := Lib.hid (hM.keeps bb)
 have hl := run_lookOk kRules M0.out x.h.k 8 (by rw [hk]; rfl) (ruF 215 p) rfl
 have C := Lib.hid (fun (W : World) (hU : un.Sl W ua x.h.un.length uc x.h.un) (hA : Fs W aa x.ar.len ac x.ar) (T : Tabs W) => (show Calls Tryz.prog 215 #[.int .i64 p, .agg #[.int .i64 x.h.k, .string x.h.op, .string x.h.nm, .string x.h.tb, .int .i64 x.h.vk, .int .i64 x.h.vn, .string x.h.vs, .slice ua x.h.un.length uc, .int .i64 x.h.pa, .int .i64 x.h.wk, .int .i64 x.h.ws, .slice aa x.ar.len ac]] W (Bl (nodE (decide (p = 1)) x.h x.ar.len (x.ar.nth 0).h) W) by have := fallback_any p x.h x.ar.len ua aa uc ac W hs.h hU T; rw [nod_9 hk _ _ _] at this; exact this))
 have hq : (x.h.k == 5) = false := in_ne (by omega)
 have hF := Lib.hid (show fmE (decide (p = 1)) x = (nodE (decide (p = 1)) x.h x.ar.len (x.ar.nth 0).h && fmA (decide (p = 1)) x.ar) by rw [fm_eq]; congr 2; simp [hk])
 have HS := Lib.hid hs.ar
 have HP := Lib.hid hp
 have IH' := Lib.hid IH
 have HZ := Lib.hid hz
 have hL := Lib.hid (show x.ar.len ≤ 9223372036854775807 by have := hE.ar.hcap; have := hE.ar.hmax; omega)
 clear bb T hE hM hk hs hp IH hz
 unfold exC at *
 unfold ruF at hl
 generalize nodE (decide (p = 1)) x.h x.ar.len (x.ar.nth 0).h = nd at *
 go_enter Tryz.func148, Tryz.ntmps148
 go_wp2_with (first | (refine arm_loadG infX Tryz.underlying29 rfl (.tmp 2) rfl rfl _ _ _ rfl G.out rfl ?_))
 refine (C.out _ E0.out.us E0.out.ar T0.out).mono ?_
 rintro e w1 ⟨rfl, b1⟩
 have B1 := Lib.hid (bnext B0.out b1)
 replace T0 := Lib.hid (T0.out.stays b1)
 replace E0 := Lib.hid (E0.out.keeps b1)
 replace G := Lib.hid (G.out.keeps b1)
 replace M0 := Lib.hid (M0.out.keeps b1)
 have c0 := G.out.cell 0
 have c11 := G.out.cell 11
 simp only [List.getElem?_toArray, List.getElem?_cons_zero, List.getElem?_cons_succ] at c0 c11
 clear b1 C hl
 cases nd
 ·replace hF := Lib.hid (hF.out.trans (Bool.false_and _))
  go_wp2_with fail
  go_ret
  exact bl_of (by rw [hF.out]) B1.out
 ·replace hF := Lib.hid (hF.out.trans (Bool.true_and _))
  go_wp2_with fail
  have hI := Lib.hid (show fmA (decide (p = 1)) x.ar = fmA (decide (p = 1)) (x.ar.drop 0) by rw [drop_zero])
  have B9 := B1
  have M9 := M0
  clear c0 c11  
  go_loopw [31] (fun vi wr => ∃ (j : Nat), vi = .int .i64 (j : Nat) ∧ Hid (j ≤ x.ar.len) ∧ Hid (fmA (decide (p = 1)) x.ar = fmA (decide (p = 1)) (x.ar.drop j)) ∧ Hid (Below w.heap.size w wr) ∧ Hid (Tabs wr) ∧ Hid (Ec wr x ua uc aa ac) ∧ Hid (Mp wr b (ruL p))) (fun vi _ => x.ar.len - (intOf vi).toNat)
  case atStart => exact ⟨0, rfl, Lib.hid (Nat.zero_le _), hI, B9, T0, E0, M9⟩
  case round =>
   clear hI B9 T0 E0 M9
   obtain ⟨j, rfl, hj, hI, hb, T0, E0, M0⟩ := hrel
   by_cases hlt : j < x.ar.len
   ·have q1 : decide ((j : Int) < (x.ar.len : Int)) = true := decide_eq_true (by omega)
    obtain ⟨bk, off, va, vc, wa, wc, rfl, R1, E1⟩ := E0.out.ar.at hlt
    have f4 := Lib.hid (next_at (j := j) (by have := hL.out; omega))
    have i1 : (j : Int) < (x.ar.len : Int) := by omega
    replace hI := Lib.hid (hI.out.trans (fmA_at hlt _))
    have hsz := Lib.hid (nth_sz x.ar j hlt)
    have hss := Lib.hid (nth_szs x.ar j HS.out)
    replace R1 := Lib.hid R1
    replace E1 := Lib.hid E1
    clear hj
    generalize x.ar.nth j = y at *
    go_wp2_with (first | (refine arm_mid infX Tryz.underlying29 rfl (.tmp 33) rfl rfl bk (off + j * 12) (exC y.h y.ar.len va vc wa wc) rfl R1.out rfl ?_) | (refine arm_storeT infX (.tmp 8) (.tmp 34) rfl rfl _ _ _ _ rfl rfl (Blk.new _ _ _) rfl rfl (exC_one _ _ _ _ _ _) ?_; intro w5 L5 hs5; have bb5 := (balloc (b0 wr) _).trans (hs5.below (Nat.le_refl _))) | (refine arm_loadT infX Tryz.underlying29 rfl (.tmp 8) rfl rfl _ _ _ rfl L5 rfl ?_))
    have B5 := Lib.hid (bnext hb.out bb5)
    have X5 := Lib.hid (E1.out.keeps bb5)
    have T5 := Lib.hid (T0.out.stays bb5)
    have M5 := Lib.hid (M0.out.keeps bb5)
    have E5 := Lib.hid (E0.out.keeps bb5)
    clear bb5 hs5 L5 R1 E1 T0 M0 E0 hb
    have CF : Calls Tryz.prog 148 #[.agg (exC y.h y.ar.len va vc wa wc), .map (some b)] w5 (Bl (fmE (decide (p = 1)) y) w5) := IH'.out p y va wa vc wc b w5 (by have := hsz.out; have := HZ.out; omega) HP.out hss.out X5.out M5.out T5.out
    refine CF.mono ?_
    rintro e w6 ⟨rfl, b6⟩
    have B6 := Lib.hid (bnext B5.out b6)
    have T6 := Lib.hid (T5.out.stays b6)
    have M6 := Lib.hid (M5.out.keeps b6)
    have E6 := Lib.hid (E5.out.keeps b6)
    clear b6 B5 X5 T5 M5 E5
    generalize fmE (decide (p = 1)) y = f at *
    cases f
    ·replace hF := Lib.hid (hF.out.trans (hI.out.trans (Bool.false_and _)))
     go_wp2_with fail
     go_ret
     exact bl_of (by rw [hF.out]) B6.out
    ·replace hI := Lib.hid (hI.out.trans (Bool.true_and _))
     go_wp2_with fail
     exact ⟨⟨j + 1, congrArg (Value.int .i64) f4.out, Lib.hid hlt, hI, B6, T6, E6, M6⟩, less_at hlt f4.out⟩
   ·have q1 : decide ((j : Int) < (x.ar.len : Int)) = false := decide_eq_false (by omega)
    replace hF := Lib.hid (show fmE (decide (p = 1)) x = true by rw [hF.out, hI.out, drop_end _ _ (by omega)]; rfl)
    clear hj hI
    go_wp2_with fail
    go_ret
    exact bl_of (by rw [hF.out]) hb.out
theorem follows_any (p : Int) (x : Ex) (ua aa : Option Addr) (uc ac b : Nat) (w : World) (hp : p = 0 ∨ p = 1) (hs : x.szs) (hE : Ec w x ua uc aa ac) (hM : Mp w b (ruL p)) (T : Tabs w) : Calls Tryz.prog 148 #[.agg (exC x.h x.ar.len ua uc aa ac), .map (some b)] w (Bl (fmE (decide (p = 1)) x) w) := by
 have key : ∀ n, ∀ (p : Int) (x : Ex) (ua aa : Option Addr) (uc ac b : Nat) (w : World), x.ar.sz < n → (p = 0 ∨ p = 1) → x.szs → Ec w x ua uc aa ac → Mp w b (ruL p) → Tabs w → Calls Tryz.prog 148 #[.agg (exC x.h x.ar.len ua uc aa ac), .map (some b)] w (Bl (fmE (decide (p = 1)) x) w) := by
  intro n
  induction n with
  | zero => intro p x ua aa uc ac b w h; exact absurd h (Nat.not_lt_zero _)
  | succ n ih =>
   intro p x ua aa uc ac b w h hp hs hE hM T
   have ih' := fun p' x' ua' aa' uc' ac' b' w' (h' : x'.ar.sz < x.ar.sz) => ih p' x' ua' aa' uc' ac' b' w' (by omega)
   by_cases hk : 1 ≤ x.h.k ∧ x.h.k ≤ 9
   ·rcases (show x.h.k = 1 ∨ x.h.k = 2 ∨ x.h.k = 3 ∨ x.h.k = 4 ∨ x.h.k = 5 ∨ x.h.k = 6 ∨ x.h.k = 7 ∨ x.h.k = 8 ∨ x.h.k = 9 by omega) with h1 | h1 | h1 | h1 | h1 | h1 | h1 | h1 | h1
    ·exact follows_1 x.ar.sz ih' p x ua aa uc ac b w rfl hp hs hE hM T h1
    ·exact follows_2 x.ar.sz ih' p x ua aa uc ac b w rfl hp hs hE hM T h1
    ·exact follows_3 x.ar.sz ih' p x ua aa uc ac b w rfl hp hs hE hM T h1
    ·exact follows_4 x.ar.sz ih' p x ua aa uc ac b w rfl hp hs hE hM T h1
    ·exact follows_5 x.ar.sz ih' p x ua aa uc ac b w rfl hp hs hE hM T h1
    ·exact follows_6 x.ar.sz ih' p x ua aa uc ac b w rfl hp hs hE hM T h1
    ·exact follows_7 x.ar.sz ih' p x ua aa uc ac b w rfl hp hs hE hM T h1
    ·exact follows_8 x.ar.sz ih' p x ua aa uc ac b w rfl hp hs hE hM T h1
    ·exact follows_9 x.ar.sz ih' p x ua aa uc ac b w rfl hp hs hE hM T h1
   ·exact follows_no p x ua aa uc ac b w hM hk
 exact key _ p x ua aa uc ac b w (Nat.lt_succ_self _) hp hs hE hM T
end Go.Proofs.YtbahfelnbofjjaaGreatDoor.ch
