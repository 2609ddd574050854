/-
  CheckerReplaced.
-/
import Derived.Test.YtbkpjhffmaldmaaGreatDoorZApr
import Derived.Test.YtbkpjhffmaldmaaGreatDoorZWop
namespace Go.Proofs.YtbkpjhffmaldmaaGreatDoor.ch
open Go.RowKit dec

theorem splL_gt : ∀ (cs : List Value) (o : Nat) (vs : List Value) (i : Nat), o + vs.length ≤ i → (splL cs o vs)[i]? = cs[i]?
  | [], _, _, _, _ => by simp [splL]
  | c :: cs, o, [], i, _ => by rw [splL_nil]
  | c :: cs, 0, v :: vs, 0, h => by simp at h
  | c :: cs, 0, v :: vs, i + 1, h => by
    have := splL_gt cs 0 vs i (by simp at h ⊢; omega)
    simpa [splL] using this
  | c :: cs, o + 1, v :: vs, 0, h => by simp at h
  | c :: cs, o + 1, v :: vs, i + 1, h => by
    have := splL_gt cs o (v :: vs) i (by simp at h ⊢; omega)
    simpa [splL] using this
/-- A value is stored into the midst of a row; the cells around it stay. -/
theorem arm_put2 {T : TypeId} {n : Nat} (hi : (Tryz.prog.info? T).map (·.size) = some n) {ops : Array Oper} {rest : List Oper} {o : Oper} {a : Act} {w : World} {Q : Exit → Act → World → Prop} (x y : Operand) (ho : o.op = .store T x y) (hgd : o.guard = none)
    (g off : Nat) (T' : TypeId) (cells old : Array Value) (hx : a.eval x = .pointer (some ⟨g, off, none⟩)) (hy : a.eval y = .agg cells) (hB : Blk w g T' old) (hs : off + n ≤ old.size) (hc : cells.size = n) (h1 : cells.all (·.oneCell') = true)
    (h : ∀ w' new, Blk w' g T' new → w'.rangeAt g off cells.toList → (∀ i, i < off ∨ off + n ≤ i → new[i]? = old[i]?) → St g w w' → wpList Tryz.prog ops Q rest (a.put o.dst undef) w') : wpList Tryz.prog ops Q (o :: rest) a w := by
  have hb := Blk.setCells cells.toList off w old hB
  rw [spl_list] at hb
  refine wpList_store_mid hgd T x y ho g off cells hx hy (fun j hj => ⟨?_, hB.free _⟩) (by rw [hc]; exact hi) h1 (h _ _ hb.1 (fun j v hv => ?_) (fun i hi => ?_) hb.2)
  · rw [hB.cell, Array.getElem?_eq_getElem (by omega)]
    rfl
  · rw [hb.1.cell, List.getElem?_toArray, splL_in _ _ _ _ (by simp; omega) (List.getElem?_eq_some_iff.1 hv).1]
    exact hv
  · rw [List.getElem?_toArray]
    rcases hi with hi | hi
    · rw [splL_lt _ _ _ _ hi, Array.getElem?_toList]
    · rw [splL_gt _ _ _ _ (by rw [Array.length_toList, hc]; exact hi), Array.getElem?_toList]
def toL : Fo → List Ex
  | .nil => []
  | .cons h ar r => ⟨h, ar⟩ :: toL r
theorem toL_len : ∀ F : Fo, (toL F).length = F.len
  | .nil => rfl
  | .cons h ar r => by simp [toL, Fo.len, toL_len r]
theorem toL_nth : ∀ (F : Fo) (j : Nat) (h : j < (toL F).length), (toL F)[j] = F.nth j
  | .cons h ar r, 0, _ => rfl
  | .cons h ar r, j + 1, h' => toL_nth r j (by simpa [toL] using h')
theorem rw_fs {w : World} {a : Option Addr} {n cap : Nat} {F : Fo} (h : Fs w a n cap F) : Rw 12 ExV w a n cap (toL F) := by
  refine ⟨?_, by rw [toL_len, h.hn], h.hcap, h.hmax, h.hno⟩
  refine h.hat.imp (fun e => by rw [toL_len]; exact e) fun ⟨b, off, e, hF⟩ => ⟨b, off, e, fun j hj => ?_⟩
  have hj2 := hj
  rw [toL_len] at hj2
  obtain ⟨ua, uc, aa, ac, h1, h2⟩ := fo_at F b off j hF hj2
  exact ⟨_, rfl, h1, by rw [toL_nth]; exact ⟨ua, uc, aa, ac, rfl, h2⟩⟩
/-- The arguments with one replaced, in a row of the call's own. -/
theorem fs_put {w0 w w' : World} {base g cap : Nat} {v : Value} {F : Fo} {css : List (Array Value)} {cur new : Array Value} {y : Ex} {cy : Array Value} {j : Nat} (hO : OwC 29 12 (fun c x => ExV w0 c x) w base v (toL F) css) (hj : j < F.len)
    (hc : F.len ≤ cap) (hm : cap ≤ 9223372036854775807) (hcur : cur.toList.take ((toL F).length * 12) = flC css) (hB : Blk w' g 29 new) (hR : w'.rangeAt g (j * 12) cy.toList) (hN : ∀ i, i < j * 12 ∨ j * 12 + 12 ≤ i → new[i]? = cur[i]?)
    (hb : Below w0.heap.size w0 w') (hy : ExV w0 cy y) : Fs w' (some ⟨g, 0, none⟩) F.len cap (F.set j y) := by
  have hsz : ∀ c ∈ css, c.size = 12 := fun c hc => (hO.cel c hc).1
  refine ⟨.inr ⟨g, 0, rfl, fo_of g _ 0 fun k hk => ?_⟩, set_len _ _ _, hc, hm, fun e => by cases e⟩
  rw [set_len] at hk
  rw [set_nth _ _ _ _ hj]
  by_cases e : k = j
  · rw [if_pos e]
    subst e
    obtain ⟨ub, ud, ab, ad, rfl, E⟩ := hy
    exact ⟨ub, ud, ab, ad, by rw [Nat.zero_add]; exact hR, E.keeps hb⟩
  · rw [if_neg e]
    have hk2 : k < css.length := by rw [hO.len, toL_len]; exact hk
    have hk3 : k < (toL F).length := by rw [toL_len]; exact hk
    have hq := hO.q k hk2 hk3
    rw [toL_nth] at hq
    obtain ⟨ub, ud, ab, ad, hce, E⟩ := hq
    refine ⟨ub, ud, ab, ad, fun i u hu => ?_, E.keeps hb⟩
    have hi : i < 12 := (List.getElem?_eq_some_iff.1 hu).1
    have h1 := flC_at hsz k i hk2 hi
    have hlt : k * 12 + i < (toL F).length * 12 := by
      have : (k + 1) * 12 ≤ (toL F).length * 12 := Nat.mul_le_mul_right _ hk3
      omega
    rw [← hcur, List.getElem?_take_of_lt hlt, hce] at h1
    rw [hB.cell, Nat.zero_add, hN _ (by omega), ← Array.getElem?_toList, h1, ← Array.getElem?_toList]
    exact hu
theorem shape_ex {w0 w : World} {base : Nat} {v : Value} {F : Fo} {css : List (Array Value)} (O : OwC 29 12 (fun c x => ExV w0 c x) w base v ([] ++ toL F) css) (h : 0 < F.len) :
    ∃ g cap cur, v = .slice (some ⟨g, 0, none⟩) F.len cap ∧ base ≤ g ∧ Blk w g 29 cur ∧ F.len ≤ cap ∧ cap ≤ 9223372036854775807 ∧ cur.size = cap * 12 ∧ cur.toList.take ((toL F).length * 12) = flC css ∧ OwC 29 12 (fun c x => ExV w0 c x) w base v (toL F) css := by
  have O2 : OwC 29 12 (fun c x => ExV w0 c x) w base v (toL F) css := O
  rcases O2.own.2 with ⟨_, h1⟩ | ⟨g, cap, cur, e, hb, hg, hc, hm, hs, ht⟩
  · rw [toL_len] at h1
    omega
  · have hl := toL_len F
    exact ⟨g, cap, cur, by rw [e, hl], hb, hg, by omega, by unfold maxLen at hm; omega, hs, ht, O2⟩
theorem lim_or {p q : Prop} [Decidable p] [Decidable q] : decide (p ∨ q) = (decide p || decide q) := by by_cases p <;> by_cases q <;> simp_all
set_option maxRecDepth 100000 in
set_option maxHeartbeats 8000000 in
theorem walk_replaced (cs : Array Value) (ts : List Tb) (gs : List Fe) (en : ByteArray) (x y : Ex) (i : Int) (_hi1 : -9223372036854775808 ≤ i) (_hi2 : i ≤ 9223372036854775807) (ua aa ub ab : Option Addr) (uc ac ud ad : Nat) (w : World) (hC : CtV w cs ts gs) (hcl : CtL ts gs) (hsx : x.szs) (hlx : x.lns) (hsy : y.szs) (hly : y.lns) (hX : Ec w x ua uc aa ac) (hY : Ec w y ub ud ab ad) (hz : x.ar.sz ≤ 1048576) (T : Tabs w) :
    Calls Tryz.prog 6 #[.agg cs, .string en, .agg (exC x.h x.ar.len ua uc aa ac), .agg (exC y.h y.ar.len ub ud ab ad), .int .i64 i] w (Bl true w) := by
  obtain ⟨ta, tn, tc, ga, gn, gc, da, dn, dc, pa, pn, pc, rfl, hT, hG⟩ := hC
  unfold ctC
  have hC : CtV w #[.slice ta tn tc, .slice ga gn gc, .slice da dn dc, .slice pa pn pc] ts gs := ⟨ta, tn, tc, ga, gn, gc, da, dn, dc, pa, pn, pc, rfl, hT, hG⟩
  have hXV : ExV w (exC x.h x.ar.len ua uc aa ac) x := ⟨ua, uc, aa, ac, rfl, hX⟩
  have hYV : ExV w (exC y.h y.ar.len ub ud ab ad) y := ⟨ub, ud, ab, ad, rfl, hY⟩
  have CE := Lib.hid (fun (W : World) (b : Below w.heap.size w W) => example_any W (T.stays b))
  have CX := Lib.hid (fun (W : World) (b : Below w.heap.size w W) => infer_v #[.slice ta tn tc, .slice ga gn gc, .slice da dn dc, .slice pa pn pc] ts gs en x (exC x.h x.ar.len ua uc aa ac) W (ct_keeps hC b) hcl hsx hlx (hXV.keeps b) (T.stays b))
  have CY := Lib.hid (fun (W : World) (b : Below w.heap.size w W) => infer_v #[.slice ta tn tc, .slice ga gn gc, .slice da dn dc, .slice pa pn pc] ts gs en y (exC y.h y.ar.len ub ud ab ad) W (ct_keeps hC b) hcl hsy hly (hYV.keeps b) (T.stays b))
  have CJ := Lib.hid (fun (j : Nat) (ds : Array Value) (W : World) (b : Below w.heap.size w W) (E : ExV W ds (x.ar.nth j)) => infer_v #[.slice ta tn tc, .slice ga gn gc, .slice da dn dc, .slice pa pn pc] ts gs en (x.ar.nth j) ds W (ct_keeps hC b) hcl (nth_szs _ j hsx.ar) (nth_lns _ j hlx.ar) E (T.stays b))
  have CZ := Lib.hid (fun (j : Nat) (ds : Array Value) (W : World) (b : Below w.heap.size w W) (E : ExV W ds ⟨x.h, x.ar.set j y⟩) => infer_v #[.slice ta tn tc, .slice ga gn gc, .slice da dn dc, .slice pa pn pc] ts gs en ⟨x.h, x.ar.set j y⟩ ds W (ct_keeps hC b) hcl ⟨hsx.h, set_szs _ _ _ hsx.ar hsy⟩ ⟨hlx.h, set_lns _ _ _ hlx.ar hly⟩ E (T.stays b))
  have C1 := Lib.hid (fun (y : Ex) (ds : Array Value) (W : World) (E : ExV W ds y) => size_e y ds W E)
  have C2 := Lib.hid (fun (y : Ex) (ds : Array Value) (W : World) (E : ExV W ds y) => depth_e y ds W E)
  have CQ := Lib.hid (fun (t u : Ty) (a b : Option Addr) (c d : Nat) (W : World) (S1 : un.Sl W a t.un.length c t.un) (S2 : un.Sl W b u.un.length d u.un) => sameType_any t u a b c d W S1 S2)
  have HX := Lib.hid hX
  have HYV := Lib.hid hYV
  have HR := Lib.hid (rw_fs hX.ar)
  have hzz : x.ar.sz ≤ 4611686018427387903 := by omega
  have hop := Lib.hid (fun (hk : x.h.k ≠ 5) (h : (inf ts gs en x).1 = 0) (j : Nat) (hj : j < x.ar.len) => inf_op hzz hk h hj)
  have hst := Lib.hid (fun (j : Nat) (t a b : Ty) (hk : x.h.k ≠ 5) (hj : j < x.ar.len) (e1 : inf ts gs en x = (0, t)) (e2 : inf ts gs en (x.ar.nth j) = (0, a)) (e3 : inf ts gs en y = (0, b)) (e4 : sameT a b = true) => inf_set (x := x) (y := y) hk hj e1 e2 e3 e4)
  have hL := Lib.hid (show x.ar.len ≤ 1048576 from by have := fo_lens x.ar; omega)
  have bb := below_three w (.cells #[.slice ta tn tc, .slice ga gn gc, .slice da dn dc, .slice pa pn pc] 46) (.cells (exC x.h x.ar.len ua uc aa ac) 29) (.cells (exC y.h y.ar.len ub ud ab ad) 29)
  have B0 := Lib.hid bb
  have GG := bw_three w #[.slice ta tn tc, .slice ga gn gc, .slice da dn dc, .slice pa pn pc] (exC x.h x.ar.len ua uc aa ac) (exC y.h y.ar.len ub ud ab ad) 46 29 29
  have V5 := Lib.hid GG.1
  have V7 := Lib.hid GG.2.1
  have V8 := Lib.hid GG.2.2
  clear hC hT hG T hX hY hXV hYV hcl hsx hsy hlx hly hzz hz bb GG
  generalize hrx : inf ts gs en x = rx at *
  generalize hry : inf ts gs en y = ry at *
  clear hrx hry
  go_enter Tryz.func6, Tryz.ntmps6
  go_wp2_with fail
  refine (CE.out _ B0.out).mono ?_
  rintro e w1 ⟨rfl, b1⟩
  have B1 := Lib.hid (bnext B0.out b1)
  replace V5 := Lib.hid (V5.out.keeps b1)
  replace V7 := Lib.hid (V7.out.keeps b1)
  replace V8 := Lib.hid (V8.out.keeps b1)
  clear b1
  clear CE
  generalize hg8 : w.heap.size + 2 = g8 at V8 ⊢
  generalize hg7 : w.heap.size + 1 = g7 at V7 ⊢
  generalize hg5 : w.heap.size = g5 at V5 ⊢
  have hz5 := Lib.hid (Nat.le_of_eq hg5)
  clear hg8 hg7 hg5
  go_wp2_with (first | (refine arm_loadT infCa Tryz.underlying46 rfl (.tmp 5) rfl rfl _ _ _ rfl V5.out rfl ?_) | (refine arm_loadT infX Tryz.underlying29 rfl (.tmp 7) rfl rfl _ _ _ rfl V7.out rfl ?_))
  refine (CX.out _ B1.out).mono ?_
  rintro e w2 ⟨xa, xc, rfl, sx, b2⟩
  have B2 := Lib.hid (bnext B1.out b2)
  replace V5 := Lib.hid (V5.out.keeps b2)
  replace V7 := Lib.hid (V7.out.keeps b2)
  replace V8 := Lib.hid (V8.out.keeps b2)
  have S12 := Lib.hid sx
  clear b2 sx
  clear CX
  go_upto_region 3 with (first | (refine arm_storeT infTy (.tmp 12) (.tmp 27) rfl rfl _ _ _ _ rfl rfl (Blk.new _ _ _) rfl rfl (by simp [tyC, Value.oneCell']) ?_; intro w31 L hs; have bb := (balloc (b0 w2) _).trans (hs.below (Nat.le_refl _))))
  have B31 := Lib.hid (bnext B2.out bb)
  replace V5 := Lib.hid (V5.out.keeps bb)
  replace V7 := Lib.hid (V7.out.keeps bb)
  replace V8 := Lib.hid (V8.out.keeps bb)
  replace S12 := Lib.hid (S12.out.keeps bb)
  have L12 := Lib.hid L
  clear L bb hs
  generalize w2.heap.size = g12 at *
  have n0 := V7.out.cell 0
  have n11 := V7.out.cell 11
  simp only [exC, List.getElem?_toArray, List.getElem?_cons_zero, List.getElem?_cons_succ] at n0 n11
  by_cases hx : rx.1 = 0
  · have q := in_is hx
    have q2 : (rx.1 != 0) = false := by simp [hx]
    by_cases hk : x.h.k = 5
    · have qk := in_is hk
      replace hk := Lib.hid hk
      replace hx := Lib.hid hx
      go_wp2_with fail
      go_ret
      exact bl_of rfl B31.out
    · have qk := in_ne hk
      by_cases hl : x.ar.len = 0
      · have ql := in_is (a := (x.ar.len : Int)) (b := 0) (by omega)
        replace hl := Lib.hid hl
        replace hk := Lib.hid hk
        replace hx := Lib.hid hx
        go_wp2_with fail
        go_ret
        exact bl_of rfl B31.out
      · have ql := in_ne (a := (x.ar.len : Int)) (b := 0) (by omega)
        have hop2 := Lib.hid (fun j hj => hop.out hk hx j hj)
        have hl2 := Lib.hid (show (0 : Int) < (x.ar.len : Int) by omega)
        replace hl := Lib.hid hl
        replace hk := Lib.hid hk
        replace hx := Lib.hid hx
        clear hop
        go_upto_region 5 with fail
        go_upto_region 6 with fail
        have m1 : -(x.ar.len : Int) < i.tmod x.ar.len ∧ i.tmod x.ar.len < (x.ar.len : Int) := ⟨Int.lt_tmod_of_pos i hl2.out, Int.tmod_lt_of_pos i hl2.out⟩
        replace m1 := Lib.hid m1
        generalize i.tmod (x.ar.len : Int) = m at *
        obtain ⟨j, hj⟩ : ∃ j : Nat, (j : Int) = if m < 0 then m + x.ar.len else m := ⟨(if m < 0 then m + x.ar.len else m).toNat, by have := m1.out; split <;> omega⟩
        have hlt := Lib.hid (show j < x.ar.len from by have := m1.out; split at hj <;> omega)
        replace hj := Lib.hid hj
        go_upto_if 49 with fail
        go_cut [4] from 49 to 54 (fun v wx => v = .int .i64 (j : Nat) ∧ wx = w31)
        case first =>
          by_cases hm : m < 0
          · have qm : decide (m < 0) = true := decide_eq_true hm
            have hjj := Lib.hid (hj.out.trans (if_pos hm))
            have m2 := m1.out
            have m3 := hL.out
            replace hm := Lib.hid hm
            go_wp2_with fail
            all_goals first | (exfalso; have hmo := hm.out; omega) | skip
            go_meet
            case rel => exact ⟨congrArg (Value.int .i64) hjj.out.symm, rfl⟩
          · have qm : decide (m < 0) = false := decide_eq_false hm
            have hjj := Lib.hid (hj.out.trans (if_neg hm))
            replace hm := Lib.hid hm
            go_wp2_with fail
            go_meet
            case rel => exact ⟨congrArg (Value.int .i64) hjj.out.symm, rfl⟩
        case rest =>
          obtain ⟨rfl, hwc⟩ := hcut
          subst hwc
          generalize wc = w4 at *
          clear hj m1 n0 n11
          obtain ⟨bk, off, va, vc, wa, wc2, rfl, R1, E1⟩ := HX.out.ar.at hlt.out
          replace R1 := Lib.hid R1
          replace E1 := Lib.hid E1
          have i1 : (j : Int) < (x.ar.len : Int) := by have := hlt.out; omega
          have q1 : decide ((j : Int) < (x.ar.len : Int)) = true := decide_eq_true i1
          have CJj := Lib.hid (fun ds W b E => CJ.out j ds W b E)
          have hra := Lib.hid (hop2.out j hlt.out)
          clear CJ hop2
          generalize hyn : x.ar.nth j = ya at CJj hra R1 E1
          generalize hri : inf ts gs en ya = ra at *
          replace hyn := Lib.hid hyn
          replace hri := Lib.hid hri
          go_upto_region 8 with fail
          go_cut [14, 15] from 55 to 65 (fun va_ vb wx => ∃ g qa qc, va_ = .pointer (some ⟨g, 0, none⟩) ∧ vb = .int .i64 ra.1 ∧ Hid (Blk wx g 36 (tyC ra.2 qa qc)) ∧ Hid (un.Sl wx qa ra.2.un.length qc ra.2.un) ∧ Hid (Below w4.heap.size w4 wx))
          case first =>
            refine wp_region_held_drew (S := fun w' => Below w4.heap.size w4 w') (by kernel_rfl) (b0 w4).drew (fun hH => ?_)
            refine held_take (i := 0) (d := 56) (v := .agg #[.slice ta tn tc, .slice ga gn gc, .slice da dn dc, .slice pa pn pc]) rfl (by kernel_rfl) (by kernel_rfl) (by kernel_rfl) rfl (fun _ _ _ h => h) rfl hH (fun w' hS => yield_load infCa Tryz.underlying46 rfl (.tmp 5) rfl _ _ _ rfl (V5.out.keeps hS) rfl) ?_
            simp only [List.set_cons_zero, List.set_cons_succ]
            refine held_take (i := 1) (d := 57) (v := ?_) rfl (by kernel_rfl) (by kernel_rfl) (by kernel_rfl) rfl (fun _ _ _ h => h) rfl hH (fun w' hS => ?_) ?_
            rotate_left
            · go_simp; first | done | with_reducible rfl
            simp only [List.set_cons_zero, List.set_cons_succ]
            refine held_take (i := 2) (d := 58) (v := ?_) rfl (by kernel_rfl) (by kernel_rfl) (by kernel_rfl) rfl (fun _ _ _ h => h) rfl hH (fun w' hS => ?_) ?_
            rotate_left
            · go_simp; first | done | with_reducible rfl
            simp only [List.set_cons_zero, List.set_cons_succ]
            refine held_take (i := 3) (d := 59) (v := ?_) rfl (by kernel_rfl) (by kernel_rfl) (by kernel_rfl) rfl (fun _ _ _ h => h) rfl hH (fun w' hS => ?_) ?_
            rotate_left
            · have m11 := (V7.out.keeps hS).cell 11; simp only [exC, List.getElem?_toArray, List.getElem?_cons_zero, List.getElem?_cons_succ] at m11; go_simp; first | done | with_reducible rfl
            simp only [List.set_cons_zero, List.set_cons_succ]
            refine held_take (i := 4) (d := 60) (v := ?_) rfl (by kernel_rfl) (by kernel_rfl) (by kernel_rfl) rfl (fun _ _ _ h => h) rfl hH (fun w' hS => ?_) ?_
            rotate_left
            · go_simp; first | done | with_reducible rfl
            simp only [List.set_cons_zero, List.set_cons_succ]
            refine held_take (i := 5) (d := 61) (v := ?_) rfl (by kernel_rfl) (by kernel_rfl) (by kernel_rfl) rfl (fun _ _ _ h => h) rfl hH (fun w' hS => ?_) ?_
            rotate_left
            · go_simp; first | done | with_reducible rfl
            simp only [List.set_cons_zero, List.set_cons_succ]
            refine held_take (i := 6) (d := 62) (v := .agg (exC ya.h ya.ar.len va vc wa wc2)) rfl (by kernel_rfl) (by kernel_rfl) (by kernel_rfl) rfl (fun _ _ _ h => h) rfl hH (fun w' hS => yield_loadM infX Tryz.underlying29 rfl (.tmp 61) rfl bk (off + j * 12) (exC ya.h ya.ar.len va vc wa wc2) rfl (range_keeps R1.out (bnext B31.out hS)) rfl) ?_
            simp only [List.set_cons_zero, List.set_cons_succ]
            generalize w4.drew = yy at *
            refine held_two (i := 7) (j := 11) rfl rfl (by kernel_rfl) rfl rfl (fun K hK => ?_) (fun K hK => ?_)
            · go_simp
              refine (CJj.out _ _ (bnext B31.out hH) ⟨va, vc, wa, wc2, rfl, E1.out.keeps (bnext B31.out hH)⟩).mono ?_
              rintro e y81 ⟨qa, qc, rfl, sy, b81⟩
              skip
              refine hK.out _ _ (bnext hH b81) (fun hH => ?_)
              clear hK K
              have SY := Lib.hid sy
              clear b81 sy
              refine held_take (i := 8) (d := 55) (v := ?_) rfl (by kernel_rfl) (by kernel_rfl) (by kernel_rfl) rfl (fun _ _ _ h => h) rfl hH (fun w' hS => ?_) ?_
              rotate_left
              · go_simp; first | done | with_reducible rfl
              simp only [List.set_cons_zero, List.set_cons_succ]
              refine held_take (i := 9) (d := 64) (v := ?_) rfl (by kernel_rfl) (by kernel_rfl) (by kernel_rfl) rfl (fun _ _ _ h => h) rfl hH (fun w' hS => ?_) ?_
              rotate_left
              · go_simp; first | done | with_reducible rfl
              simp only [List.set_cons_zero, List.set_cons_succ]
              refine held_take (i := 10) (d := 65) (v := ?_) rfl (by kernel_rfl) (by kernel_rfl) (by kernel_rfl) rfl (fun _ _ _ h => h) rfl hH (fun w' hS => ?_) ?_
              rotate_left
              · go_simp; first | done | with_reducible rfl
              simp only [List.set_cons_zero, List.set_cons_succ]
              refine held_only (i := 11) rfl (by kernel_rfl) rfl (fun K hK => ?_)
              go_simp
              have lb := Lib.hid hH.size
              refine hK.out _ _ (balloc hH _) (fun hH => ?_)
              clear hK K
              have N82 := Lib.hid (Blk.new y81 36 #[.int .i64 0, .slice none 0 0, .string ⟨#[]⟩])
              replace SY := Lib.hid (SY.out.keeps (balloc (b0 y81) (.cells #[.int .i64 0, .slice none 0 0, .string ⟨#[]⟩] 36)))
              generalize hz : (y81.alloc (.cells #[.int .i64 0, .slice none 0 0, .string ⟨#[]⟩] 36)) = y82 at *
              clear hz
              generalize y81.heap.size = g82 at *
              refine held_only (i := 12) rfl (by kernel_rfl) rfl (fun K hK => ?_)
              refine op_storeT infTy (.tmp 14) (.tmp 64) rfl g82 _ (tyC ra.2 qa qc) _ rfl rfl N82.out rfl rfl (by simp [tyC, Value.oneCell']) ?_
              intro y9 L9 hs9
              refine hK.out _ _ (hH.trans (hs9.below lb.out)) (fun hH => ?_)
              clear hK K
              have U9 := sl_ty (t := t0) (ua := none) (uc := 0) SY.out N82.out hs9
              refine held_take (i := 13) (d := 15) (v := ?_) rfl (by kernel_rfl) (by kernel_rfl) (by kernel_rfl) rfl (fun _ _ _ h => h) rfl hH (fun w' hS => ?_) ?_
              rotate_left
              · go_simp; first | done | with_reducible rfl
              simp only [List.set_cons_zero, List.set_cons_succ]
              refine wpAnyH_done (by kernel_rfl) ?_ _
              go_wp2_with fail
              go_meet
              case rel => exact ⟨g82, qa, qc, rfl, rfl, Lib.hid L9, Lib.hid U9, Lib.hid hH⟩
            · go_simp
              have lb := Lib.hid hH.size
              refine hK.out _ _ (balloc hH _) (fun hH => ?_)
              clear hK K
              have N83 := Lib.hid (Blk.new yy 36 #[.int .i64 0, .slice none 0 0, .string ⟨#[]⟩])
              generalize hz : (yy.alloc (.cells #[.int .i64 0, .slice none 0 0, .string ⟨#[]⟩] 36)) = y83 at *
              clear hz
              generalize yy.heap.size = g83 at *
              refine held_only (i := 7) rfl (by kernel_rfl) rfl (fun K hK => ?_)
              go_simp
              refine (CJj.out _ _ (bnext B31.out hH) ⟨va, vc, wa, wc2, rfl, E1.out.keeps (bnext B31.out hH)⟩).mono ?_
              rintro e y84 ⟨qa, qc, rfl, sy, b84⟩
              skip
              refine hK.out _ _ (bnext hH b84) (fun hH => ?_)
              clear hK K
              replace N83 := Lib.hid (N83.out.keeps b84)
              have SY := Lib.hid sy
              clear b84 sy
              refine held_take (i := 8) (d := 55) (v := ?_) rfl (by kernel_rfl) (by kernel_rfl) (by kernel_rfl) rfl (fun _ _ _ h => h) rfl hH (fun w' hS => ?_) ?_
              rotate_left
              · go_simp; first | done | with_reducible rfl
              simp only [List.set_cons_zero, List.set_cons_succ]
              refine held_take (i := 9) (d := 64) (v := ?_) rfl (by kernel_rfl) (by kernel_rfl) (by kernel_rfl) rfl (fun _ _ _ h => h) rfl hH (fun w' hS => ?_) ?_
              rotate_left
              · go_simp; first | done | with_reducible rfl
              simp only [List.set_cons_zero, List.set_cons_succ]
              refine held_take (i := 10) (d := 65) (v := ?_) rfl (by kernel_rfl) (by kernel_rfl) (by kernel_rfl) rfl (fun _ _ _ h => h) rfl hH (fun w' hS => ?_) ?_
              rotate_left
              · go_simp; first | done | with_reducible rfl
              simp only [List.set_cons_zero, List.set_cons_succ]
              refine held_only (i := 12) rfl (by kernel_rfl) rfl (fun K hK => ?_)
              refine op_storeT infTy (.tmp 14) (.tmp 64) rfl g83 _ (tyC ra.2 qa qc) _ rfl rfl N83.out rfl rfl (by simp [tyC, Value.oneCell']) ?_
              intro y9 L9 hs9
              refine hK.out _ _ (hH.trans (hs9.below lb.out)) (fun hH => ?_)
              clear hK K
              have U9 := sl_ty (t := t0) (ua := none) (uc := 0) SY.out N83.out hs9
              refine held_take (i := 13) (d := 15) (v := ?_) rfl (by kernel_rfl) (by kernel_rfl) (by kernel_rfl) rfl (fun _ _ _ h => h) rfl hH (fun w' hS => ?_) ?_
              rotate_left
              · go_simp; first | done | with_reducible rfl
              simp only [List.set_cons_zero, List.set_cons_succ]
              refine wpAnyH_done (by kernel_rfl) ?_ _
              go_wp2_with fail
              go_meet
              case rel => exact ⟨g83, qa, qc, rfl, rfl, Lib.hid L9, Lib.hid U9, Lib.hid hH⟩
          case rest =>
            obtain ⟨g14, pa1, pc1, rfl, rfl, L14, S14, BW⟩ := hcut
            generalize wc = w5 at *
            have bw5 := BW.out
            have B5 := Lib.hid (bnext B31.out bw5)
            replace V5 := Lib.hid (V5.out.keeps bw5)
            replace V7 := Lib.hid (V7.out.keeps bw5)
            replace V8 := Lib.hid (V8.out.keeps bw5)
            replace S12 := Lib.hid (S12.out.keeps bw5)
            replace L12 := Lib.hid (L12.out.keeps bw5)
            clear bw5 BW CJj R1 E1 q1
            go_wp2_with (first | (refine arm_loadT infCa Tryz.underlying46 rfl (.tmp 5) rfl rfl _ _ _ rfl V5.out rfl ?_) | (refine arm_loadT infX Tryz.underlying29 rfl (.tmp 8) rfl rfl _ _ _ rfl V8.out rfl ?_))
            refine (CY.out _ B5.out).mono ?_
            rintro e w6 ⟨pa2, pc2, rfl, sz, b6⟩
            have B6 := Lib.hid (bnext B5.out b6)
            replace V5 := Lib.hid (V5.out.keeps b6)
            replace V7 := Lib.hid (V7.out.keeps b6)
            replace V8 := Lib.hid (V8.out.keeps b6)
            replace S12 := Lib.hid (S12.out.keeps b6)
            replace L12 := Lib.hid (L12.out.keeps b6)
            replace L14 := Lib.hid (L14.out.keeps b6)
            replace S14 := Lib.hid (S14.out.keeps b6)
            have S16 := Lib.hid sz
            clear b6 sz
            clear CY
            go_upto_region 10 with (first | (refine arm_storeT infTy (.tmp 16) (.tmp 71) rfl rfl _ _ _ _ rfl rfl (Blk.new _ _ _) rfl rfl (by simp [tyC, Value.oneCell']) ?_; intro w7 L hs; have bb := (balloc (b0 w6) _).trans (hs.below (Nat.le_refl _))))
            have B7 := Lib.hid (bnext B6.out bb)
            replace V5 := Lib.hid (V5.out.keeps bb)
            replace V7 := Lib.hid (V7.out.keeps bb)
            replace V8 := Lib.hid (V8.out.keeps bb)
            replace S12 := Lib.hid (S12.out.keeps bb)
            replace L12 := Lib.hid (L12.out.keeps bb)
            replace L14 := Lib.hid (L14.out.keeps bb)
            replace S14 := Lib.hid (S14.out.keeps bb)
            replace S16 := Lib.hid (S16.out.keeps bb)
            have L16 := Lib.hid L
            clear L bb hs
            generalize w6.heap.size = g16 at *
            have qa1 : (ra.1 != 0) = false := by rw [hra.out]; rfl
            have qa2 : (ra.1 == 0) = true := by rw [hra.out]; rfl
            by_cases hy : ry.1 = 0
            · have qy := in_is hy
              have qy2 : (ry.1 != 0) = false := by simp [hy]
              replace hy := Lib.hid hy
              go_wp2_with (first | (refine arm_loadG infTy Tryz.underlying36 rfl (.tmp 14) rfl rfl _ _ _ rfl L14.out rfl ?_) | (refine arm_loadG infTy Tryz.underlying36 rfl (.tmp 16) rfl rfl _ _ _ rfl L16.out rfl ?_))
              refine (CQ.out ra.2 ry.2 pa1 pa2 pc1 pc2 _ S14.out S16.out).mono ?_
              rintro e w8 ⟨rfl, b8⟩
              have B8 := Lib.hid (bnext B7.out b8)
              replace V5 := Lib.hid (V5.out.keeps b8)
              replace V7 := Lib.hid (V7.out.keeps b8)
              replace V8 := Lib.hid (V8.out.keeps b8)
              replace S12 := Lib.hid (S12.out.keeps b8)
              replace L12 := Lib.hid (L12.out.keeps b8)
              clear b8
              generalize hsb : sameT ra.2 ry.2 = sb at *
              replace hsb := Lib.hid hsb
              clear S14 S16 L14 L16
              cases sb
              · go_wp2_with fail
                go_ret
                exact bl_of rfl B8.out
              · have hZ := hst.out j rx.2 ra.2 ry.2 hk.out hlt.out (by rw [← hx.out]) (by rw [hyn.out, hri.out, ← hra.out]) (by rw [← hy.out]) hsb.out
                replace hZ := Lib.hid hZ
                clear hst hsb hri hyn hra hk
                have CZj := Lib.hid (fun ds W b E => CZ.out j ds W b E)
                clear CZ
                go_upto_region 13 with (first | (refine arm_loadT infX Tryz.underlying29 rfl (.tmp 7) rfl rfl _ _ _ rfl V7.out rfl ?_) | (refine arm_storeT infX (.tmp 18) (.tmp 90) rfl rfl _ _ _ _ rfl rfl (Blk.new _ _ _) rfl rfl (exC_one _ _ _ _ _ _) ?_; intro w9 L18 hs9; have bb9 := (balloc (b0 w8) _).trans (hs9.below (Nat.le_refl _)); have zz9 := hs9.size.trans (sz_al _ _)))
                replace bb9 := Lib.hid bb9
                replace L18 := Lib.hid L18
                replace zz9 := Lib.hid zz9
                clear hs9
                have q10 := Lib.hid (bb9.out.alloc (by have := zz9.out; omega) (.cells #[] 29))
                have LO := Lib.hid (Ow.none_ (α := Ex) (T := 29) (sz := 12) (Q := fun c x => ExV w c x) (w := w9) (Nat.le_refl _))
                have n11 := ((V7.out.keeps bb9.out).past (.cells #[] 29)).cell 11
                simp only [exC, List.getElem?_toArray, List.getElem?_cons_zero, List.getElem?_cons_succ] at n11
                go_upto_region 14 with (first | (refine wpList_catO iEx (Q := fun c x => ExV w c x) (V := ExV) (w0 := w) (bnext B8.out q10.out) rfl (.tmp 91) (.tmp 93) rfl w9.heap.size _ ([] : List Ex) rfl LO.out (some ⟨bk, off, none⟩) x.ar.len ac (toL x.ar) rfl HR.out (fun c x h => ⟨h, ex_one h⟩) (by rw [List.length_nil, toL_len]; have := hL.out; omega) (by rw [List.length_nil, toL_len]; have := hL.out; omega) (by rw [sz_al]; omega) ?_; intro v10 w10 O10 bw10; obtain ⟨css, O10⟩ := O10; obtain ⟨g, cap, cur, rfl, hbg, BG, hc, hm, hcs, hcur, OO⟩ := shape_ex O10 (Nat.lt_of_le_of_lt (Nat.zero_le _) hlt.out); have D18 := (L18.out.past (.cells #[] 29)).below bw10 L18.out.lt; have d11 := D18.cell 11; simp only [exC, List.getElem?_toArray, List.getElem?_cons_zero, List.getElem?_cons_succ] at d11; have z11 := D18.free 11))
                have P9 := D18.setCell 11 (.slice (some ⟨g, 0, none⟩) x.ar.len cap)
                have hgz : w8.heap.size < g := by have := zz9.out; omega
                have bw11 := (q10.out.trans (bw10.mono (by have := zz9.out; omega))).trans (P9.2.below (Nat.le_refl _))
                have BG2 := BG.st P9.2 (Nat.ne_of_gt hgz)
                have Z18 := Lib.hid (show Blk _ _ 29 (exC x.h x.ar.len ua uc (some ⟨g, 0, none⟩) cap) from P9.1)
                obtain ⟨w11, h11⟩ : ∃ W, W = w10.setCell ⟨w8.heap.size, 11, none⟩ (.slice (some ⟨g, 0, none⟩) x.ar.len cap) := ⟨_, rfl⟩
                rw [← h11] at bw11 BG2 Z18
                refine wp_world w11 h11 ?_
                clear h11 P9 D18 d11 z11 bw10 BG O10 LO n11 q10 L18 bb9 hbg zz9
                replace bw11 := Lib.hid bw11
                replace BG2 := Lib.hid BG2
                replace OO := Lib.hid OO
                replace hgz := Lib.hid hgz
                replace hc := Lib.hid hc
                replace hm := Lib.hid hm
                replace hcs := Lib.hid hcs
                replace hcur := Lib.hid hcur
                have e11 := Z18.out.cell 11
                simp only [exC, List.getElem?_toArray, List.getElem?_cons_zero, List.getElem?_cons_succ] at e11
                have V8b := Lib.hid (V8.out.keeps bw11.out)
                go_upto_region 15 with (first | (refine arm_loadT infX Tryz.underlying29 rfl (.tmp 8) rfl rfl _ _ _ rfl V8b.out rfl ?_) | (refine arm_put2 infX (.tmp 100) (.tmp 99) rfl rfl g (j * 12) 29 (exC y.h y.ar.len ub ud ab ad) cur rfl rfl BG2.out (by rw [hcs.out]; have h1 := hlt.out; have h2 := hc.out; have h3 := Nat.mul_le_mul_right 12 (show j + 1 ≤ cap by omega); omega) rfl (exC_one _ _ _ _ _ _) ?_; intro w12 new NB NR NN Ns))
                have bw12 := bw11.out.trans (Ns.below (Nat.le_of_lt hgz.out))
                have Z18b := Lib.hid (Z18.out.st Ns (Nat.ne_of_lt hgz.out))
                have B12 := Lib.hid (bnext B8.out bw12)
                replace V5 := Lib.hid (V5.out.keeps bw12)
                replace V7 := Lib.hid (V7.out.keeps bw12)
                replace V8 := Lib.hid (V8.out.keeps bw12)
                replace S12 := Lib.hid (S12.out.keeps bw12)
                replace L12 := Lib.hid (L12.out.keeps bw12)
                have FZ := fs_put OO.out hlt.out hc.out hm.out hcur.out NB NR NN B12.out HYV.out
                have EZ := Lib.hid (show ExV w12 (exC x.h x.ar.len ua uc (some ⟨g, 0, none⟩) cap) ⟨x.h, x.ar.set j y⟩ from ⟨ua, uc, some ⟨g, 0, none⟩, cap, by rw [set_len], ⟨HX.out.us.keeps B12.out, by rw [set_len]; exact FZ⟩⟩)
                clear FZ NB NR NN Ns OO hc hm hcs hcur BG2 bw11 bw12 Z18 V8b e11 cur new HYV HR
                generalize w8.heap.size = g18 at Z18b ⊢
                clear hgz
                generalize hz : (⟨x.h, x.ar.set j y⟩ : Ex) = z at *
                clear hz
                have hzs := Lib.hid (exC_size x.h x.ar.len ua uc (some ⟨g, 0, none⟩) cap)
                generalize (exC x.h x.ar.len ua uc (some ⟨g, 0, none⟩) cap) = zc at Z18b EZ hzs
                go_wp2_with (first | (refine arm_loadT infCa Tryz.underlying46 rfl (.tmp 5) rfl rfl _ _ _ rfl V5.out rfl ?_) | (refine arm_loadT infX Tryz.underlying29 rfl (.tmp 18) rfl rfl _ _ _ rfl Z18b.out hzs.out ?_))
                refine (CZj.out zc _ B12.out EZ.out).mono ?_
                rintro e w13 ⟨pa3, pc3, rfl, sz, b13⟩
                have B13 := Lib.hid (bnext B12.out b13)
                replace V5 := Lib.hid (V5.out.keeps b13)
                replace S12 := Lib.hid (S12.out.keeps b13)
                replace L12 := Lib.hid (L12.out.keeps b13)
                replace Z18b := Lib.hid (Z18b.out.keeps b13)
                replace EZ := Lib.hid (EZ.out.keeps b13)
                have S19 := Lib.hid sz
                clear b13 sz
                clear CZj
                generalize inf ts gs en z = rz at *
                go_upto_region 16 with (first | (refine arm_storeT infTy (.tmp 19) (.tmp 106) rfl rfl _ _ _ _ rfl rfl (Blk.new _ _ _) rfl rfl (by simp [tyC, Value.oneCell']) ?_; intro w14 L hs; have bb := (balloc (b0 w13) _).trans (hs.below (Nat.le_refl _))))
                have B14 := Lib.hid (bnext B13.out bb)
                replace V5 := Lib.hid (V5.out.keeps bb)
                replace S12 := Lib.hid (S12.out.keeps bb)
                replace L12 := Lib.hid (L12.out.keeps bb)
                replace Z18b := Lib.hid (Z18b.out.keeps bb)
                replace EZ := Lib.hid (EZ.out.keeps bb)
                replace S19 := Lib.hid (S19.out.keeps bb)
                have L19 := Lib.hid L
                clear L bb hs
                generalize w13.heap.size = g19 at *
                go_wp2_with (first | (refine arm_loadG infX Tryz.underlying29 rfl (.tmp 18) rfl rfl _ _ _ rfl Z18b.out hzs.out ?_))
                refine (C1.out z zc _ EZ.out).mono ?_
                rintro e w15 ⟨rfl, b15⟩
                have B15 := Lib.hid (bnext B14.out b15)
                replace V5 := Lib.hid (V5.out.keeps b15)
                replace S12 := Lib.hid (S12.out.keeps b15)
                replace L12 := Lib.hid (L12.out.keeps b15)
                replace Z18b := Lib.hid (Z18b.out.keeps b15)
                replace EZ := Lib.hid (EZ.out.keeps b15)
                replace S19 := Lib.hid (S19.out.keeps b15)
                replace L19 := Lib.hid (L19.out.keeps b15)
                clear b15
                clear C1
                by_cases a1 : 64 < szE z
                · have qz : decide (64 < szE z) = true := decide_eq_true a1
                  have hZ2 := hZ.out
                  clear hZ
                  rw [if_pos (.inl a1)] at hZ2
                  subst hZ2
                  replace a1 := Lib.hid a1
                  go_wp2_with fail
                  go_ret
                  exact bl_of rfl B15.out
                · have qz : decide (64 < szE z) = false := decide_eq_false a1
                  have a1' := Lib.hid a1
                  go_wp2_with (first | (refine arm_loadG infX Tryz.underlying29 rfl (.tmp 18) rfl rfl _ _ _ rfl Z18b.out hzs.out ?_))
                  refine (C2.out z zc _ EZ.out).mono ?_
                  rintro e w16 ⟨rfl, b16⟩
                  have B16 := Lib.hid (bnext B15.out b16)
                  replace V5 := Lib.hid (V5.out.keeps b16)
                  replace S12 := Lib.hid (S12.out.keeps b16)
                  replace L12 := Lib.hid (L12.out.keeps b16)
                  replace S19 := Lib.hid (S19.out.keeps b16)
                  replace L19 := Lib.hid (L19.out.keeps b16)
                  clear b16
                  clear C2
                  by_cases a2 : 12 < dpE z
                  · have qd : decide (12 < dpE z) = true := decide_eq_true a2
                    have hZ2 := hZ.out
                    clear hZ
                    rw [if_pos (.inr a2)] at hZ2
                    subst hZ2
                    replace a2 := Lib.hid a2
                    go_wp2_with fail
                    go_ret
                    exact bl_of rfl B16.out
                  · have qd : decide (12 < dpE z) = false := decide_eq_false a2
                    have hZ2 := hZ.out
                    clear hZ
                    rw [if_neg (fun e => e.elim (Int.not_lt.mpr a1'.out) a2)] at hZ2
                    subst hZ2
                    replace a2 := Lib.hid a2
                    go_wp2_with (first | (refine arm_loadG infTy Tryz.underlying36 rfl (.tmp 12) rfl rfl _ _ _ rfl L12.out rfl ?_) | (refine arm_loadG infTy Tryz.underlying36 rfl (.tmp 19) rfl rfl _ _ _ rfl L19.out rfl ?_))
                    refine (CQ.out rx.2 rx.2 xa pa3 xc pc3 _ S12.out S19.out).mono ?_
                    rintro e w17 ⟨rfl, b17⟩
                    have B17 := Lib.hid (bnext B16.out b17)
                    clear b17
                    have hsr := sameT_refl rx.2
                    generalize sameT rx.2 rx.2 = sr at *
                    subst hsr
                    go_wp2_with fail
                    go_ret
                    exact bl_of rfl B17.out
            · have qy := in_ne hy
              have qy2 : (ry.1 != 0) = true := by simp [hy]
              replace hy := Lib.hid hy
              go_wp2_with fail
              go_ret
              exact bl_of rfl B7.out
  · have q := in_ne hx
    have q2 : (rx.1 != 0) = true := by simp [hx]
    replace hx := Lib.hid hx
    go_wp2_with fail
    go_ret
    exact bl_of rfl B31.out
end Go.Proofs.YtbkpjhffmaldmaaGreatDoor.ch
