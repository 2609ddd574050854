/-
  Types, operands.
-/
import Derived.Test.YtkgclmikhpjheaaGreatDoorQ01
import Derived.Test.YtkgclmikhpjheaaGreatDoorQ05
namespace Go.Proofs.YtkgclmikhpjheaaGreatDoor.pa
open Go.RowKit dec

set_option maxRecDepth 100000 in
set_option maxHeartbeats 1000000 in
theorem window_r (B : Nat) (l : List Tk) (w : World) (h : Ps w B l) (r : Rs (Int × Int)) (hr : win l = r) (hne : r ≠ .out) :
    Calls Tryz.prog 258 #[.pointer (some ⟨B, 0, none⟩)] w (Pst B Wv r w) := by
  have P := Lib.hid h
  have M := Lib.hid (Mv.refl w.heap.size B w)
  have NE := Lib.hid hne
  unfold win wrg at hr
  have HR := Lib.hid hr
  clear h hne hr
  have b1 := balloc (b0 w) (.cells #[.int .i64 0, .int .i64 0] 40)
  have hlt := Lib.hid P.out.lt
  replace P := Lib.hid (P.out.keeps b1)
  replace M := Lib.hid (Mv.of (B := B) b1)
  have R := Lib.hid (Blk.new w 40 #[.int .i64 0, .int .i64 0])
  have F2 := mi_prob
  clear b1
  cases ht0 : isT ⟨#[97, 108, 108]⟩ l
  · replace HR := HR.out
    rw [ht0, if_neg (by decide)] at HR
    replace HR := Lib.hid HR
    replace ht0 := Lib.hid ht0
    cases ht1 : isT ⟨#[115, 108, 105, 100, 105, 110, 103]⟩ l
    · replace HR := HR.out
      rw [ht1, if_neg (by decide)] at HR
      replace HR := Lib.hid HR
      replace ht1 := Lib.hid ht1
      cases ht2 : isT ⟨#[116, 117, 109, 98, 108, 105, 110, 103]⟩ l
      · replace HR := HR.out
        rw [ht2, if_neg (by decide)] at HR
        replace HR := Lib.hid HR
        replace ht2 := Lib.hid ht2
        cases ht3 : isT ⟨#[115, 101, 115, 115, 105, 111, 110]⟩ l
        · replace HR := HR.out
          rw [ht3, if_neg (by decide)] at HR
          replace HR := Lib.hid HR
          replace ht3 := Lib.hid ht3
          go_enter Tryz.func258, Tryz.ntmps258
          go_wp2_with fail
          refine (skip_no B ⟨#[97, 108, 108]⟩ l _ P.out ht0.out).mono ?_
          rintro e w1 ⟨rfl, pp, mm⟩
          replace M := Lib.hid (M.out.next mm)
          replace R := Lib.hid (R.out.mv mm (by have := hlt.out; omega) R.out.lt)
          replace P := Lib.hid pp
          clear pp mm
          go_wp2_with fail
          refine (skip_no B ⟨#[115, 108, 105, 100, 105, 110, 103]⟩ l _ P.out ht1.out).mono ?_
          rintro e w2 ⟨rfl, pp, mm⟩
          replace M := Lib.hid (M.out.next mm)
          replace R := Lib.hid (R.out.mv mm (by have := hlt.out; omega) R.out.lt)
          replace P := Lib.hid pp
          clear pp mm
          go_wp2_with fail
          refine (skip_no B ⟨#[116, 117, 109, 98, 108, 105, 110, 103]⟩ l _ P.out ht2.out).mono ?_
          rintro e w3 ⟨rfl, pp, mm⟩
          replace M := Lib.hid (M.out.next mm)
          replace R := Lib.hid (R.out.mv mm (by have := hlt.out; omega) R.out.lt)
          replace P := Lib.hid pp
          clear pp mm
          go_wp2_with fail
          refine (skip_no B ⟨#[115, 101, 115, 115, 105, 111, 110]⟩ l _ P.out ht3.out).mono ?_
          rintro e w4 ⟨rfl, pp, mm⟩
          replace M := Lib.hid (M.out.next mm)
          replace R := Lib.hid (R.out.mv mm (by have := hlt.out; omega) R.out.lt)
          replace P := Lib.hid pp
          clear pp mm
          have C9 := Lib.hid (wrong_any B l _ P.out)
          go_wp2_with fail
          refine (C9.out).mono ?_
          rintro e w5 ⟨rfl, b⟩
          have mm := Mv.of (B := B) b
          replace M := Lib.hid (M.out.next mm)
          replace R := Lib.hid (R.out.mv mm (by have := hlt.out; omega) R.out.lt)
          replace P := Lib.hid (P.out.keeps b)
          clear mm b
          go_wp2_with fail
          exact ⟨rfl, pst_no HR.out.symm P.out M.out⟩
        · replace HR := HR.out
          rw [ht3, if_pos rfl] at HR
          replace HR := Lib.hid HR
          replace ht3 := Lib.hid ht3
          go_enter Tryz.func258, Tryz.ntmps258
          go_wp2_with fail
          refine (skip_no B ⟨#[97, 108, 108]⟩ l _ P.out ht0.out).mono ?_
          rintro e w1 ⟨rfl, pp, mm⟩
          replace M := Lib.hid (M.out.next mm)
          replace R := Lib.hid (R.out.mv mm (by have := hlt.out; omega) R.out.lt)
          replace P := Lib.hid pp
          clear pp mm
          go_wp2_with fail
          refine (skip_no B ⟨#[115, 108, 105, 100, 105, 110, 103]⟩ l _ P.out ht1.out).mono ?_
          rintro e w2 ⟨rfl, pp, mm⟩
          replace M := Lib.hid (M.out.next mm)
          replace R := Lib.hid (R.out.mv mm (by have := hlt.out; omega) R.out.lt)
          replace P := Lib.hid pp
          clear pp mm
          go_wp2_with fail
          refine (skip_no B ⟨#[116, 117, 109, 98, 108, 105, 110, 103]⟩ l _ P.out ht2.out).mono ?_
          rintro e w3 ⟨rfl, pp, mm⟩
          replace M := Lib.hid (M.out.next mm)
          replace R := Lib.hid (R.out.mv mm (by have := hlt.out; omega) R.out.lt)
          replace P := Lib.hid pp
          clear pp mm
          go_wp2_with fail
          refine (skip_yes B ⟨#[115, 101, 115, 115, 105, 111, 110]⟩ l _ P.out ht3.out).mono ?_
          rintro e w4 ⟨rfl, pp, mm⟩
          replace M := Lib.hid (M.out.next mm)
          replace R := Lib.hid (R.out.mv mm (by have := hlt.out; omega) R.out.lt)
          replace P := Lib.hid pp
          clear pp mm
          go_wp2_with fail
          refine (integer_r B l.tail _ P.out _ rfl (int_ne _)).mono ?_
          rintro e w5 h5
          rcases hG5 : int l.tail with _ | ⟨v5, l5⟩ | ⟨a5, c5, l5⟩
          · exact absurd (by rw [← HR.out, hG5]; rfl) NE.out
          rotate_left
          · rw [hG5] at h5
            obtain ⟨rfl, pp, mm⟩ := h5
            unfold thr
            have hno := Lib.hid (show r = .no a5 c5 l5 by rw [← HR.out, hG5]; rfl)
            have PP := Lib.hid pp
            have MM := Lib.hid (M.out.next mm)
            clear pp mm hG5
            go_wp2_with fail
            exact ⟨rfl, pst_no hno.out PP.out MM.out⟩
          rw [hG5] at h5
          obtain ⟨u5, rfl, vv, pp, mm⟩ := h5
          replace HR := HR.out
          rw [hG5] at HR
          simp only [bind_okE] at HR
          replace HR := Lib.hid HR
          replace M := Lib.hid (M.out.next mm)
          replace R := Lib.hid (R.out.mv mm (by have := hlt.out; omega) R.out.lt)
          replace P := Lib.hid pp
          clear pp mm hG5
          obtain rfl : u5 = .int .i64 v5 := vv
          go_wp2_with (refine arm_storeT infWi (.tmp 2) (.tmp 24) rfl rfl _ _ _ _ rfl rfl R.out rfl rfl (by simp [Value.oneCell']) ?_; intro w9 hb9 hs9)
          have P9 := Lib.hid (P.out.st hs9 hlt.out)
          have M9 := Lib.hid (M.out.trans (hs9.mv (Nat.le_refl _)))
          refine ret_T infWi Tryz.underlying40 rfl rfl _ _ _ _ _ rfl hb9 rfl ?_
          exact pst_ok HR.out.symm rfl P9.out M9.out
      · replace HR := HR.out
        rw [ht2, if_pos rfl] at HR
        replace HR := Lib.hid HR
        replace ht2 := Lib.hid ht2
        go_enter Tryz.func258, Tryz.ntmps258
        go_wp2_with fail
        refine (skip_no B ⟨#[97, 108, 108]⟩ l _ P.out ht0.out).mono ?_
        rintro e w1 ⟨rfl, pp, mm⟩
        replace M := Lib.hid (M.out.next mm)
        replace R := Lib.hid (R.out.mv mm (by have := hlt.out; omega) R.out.lt)
        replace P := Lib.hid pp
        clear pp mm
        go_wp2_with fail
        refine (skip_no B ⟨#[115, 108, 105, 100, 105, 110, 103]⟩ l _ P.out ht1.out).mono ?_
        rintro e w2 ⟨rfl, pp, mm⟩
        replace M := Lib.hid (M.out.next mm)
        replace R := Lib.hid (R.out.mv mm (by have := hlt.out; omega) R.out.lt)
        replace P := Lib.hid pp
        clear pp mm
        go_wp2_with fail
        refine (skip_yes B ⟨#[116, 117, 109, 98, 108, 105, 110, 103]⟩ l _ P.out ht2.out).mono ?_
        rintro e w3 ⟨rfl, pp, mm⟩
        replace M := Lib.hid (M.out.next mm)
        replace R := Lib.hid (R.out.mv mm (by have := hlt.out; omega) R.out.lt)
        replace P := Lib.hid pp
        clear pp mm
        go_wp2_with fail
        refine (integer_r B l.tail _ P.out _ rfl (int_ne _)).mono ?_
        rintro e w4 h4
        rcases hG4 : int l.tail with _ | ⟨v4, l4⟩ | ⟨a4, c4, l4⟩
        · exact absurd (by rw [← HR.out, hG4]; rfl) NE.out
        rotate_left
        · rw [hG4] at h4
          obtain ⟨rfl, pp, mm⟩ := h4
          unfold thr
          have hno := Lib.hid (show r = .no a4 c4 l4 by rw [← HR.out, hG4]; rfl)
          have PP := Lib.hid pp
          have MM := Lib.hid (M.out.next mm)
          clear pp mm hG4
          go_wp2_with fail
          exact ⟨rfl, pst_no hno.out PP.out MM.out⟩
        rw [hG4] at h4
        obtain ⟨u4, rfl, vv, pp, mm⟩ := h4
        replace HR := HR.out
        rw [hG4] at HR
        simp only [bind_okE] at HR
        replace HR := Lib.hid HR
        replace M := Lib.hid (M.out.next mm)
        replace R := Lib.hid (R.out.mv mm (by have := hlt.out; omega) R.out.lt)
        replace P := Lib.hid pp
        clear pp mm hG4
        obtain rfl : u4 = .int .i64 v4 := vv
        go_wp2_with (refine arm_storeT infWi (.tmp 2) (.tmp 18) rfl rfl _ _ _ _ rfl rfl R.out rfl rfl (by simp [Value.oneCell']) ?_; intro w9 hb9 hs9)
        have P9 := Lib.hid (P.out.st hs9 hlt.out)
        have M9 := Lib.hid (M.out.trans (hs9.mv (Nat.le_refl _)))
        refine ret_T infWi Tryz.underlying40 rfl rfl _ _ _ _ _ rfl hb9 rfl ?_
        exact pst_ok HR.out.symm rfl P9.out M9.out
    · replace HR := HR.out
      rw [ht1, if_pos rfl] at HR
      replace HR := Lib.hid HR
      replace ht1 := Lib.hid ht1
      go_enter Tryz.func258, Tryz.ntmps258
      go_wp2_with fail
      refine (skip_no B ⟨#[97, 108, 108]⟩ l _ P.out ht0.out).mono ?_
      rintro e w1 ⟨rfl, pp, mm⟩
      replace M := Lib.hid (M.out.next mm)
      replace R := Lib.hid (R.out.mv mm (by have := hlt.out; omega) R.out.lt)
      replace P := Lib.hid pp
      clear pp mm
      go_wp2_with fail
      refine (skip_yes B ⟨#[115, 108, 105, 100, 105, 110, 103]⟩ l _ P.out ht1.out).mono ?_
      rintro e w2 ⟨rfl, pp, mm⟩
      replace M := Lib.hid (M.out.next mm)
      replace R := Lib.hid (R.out.mv mm (by have := hlt.out; omega) R.out.lt)
      replace P := Lib.hid pp
      clear pp mm
      go_wp2_with fail
      refine (integer_r B l.tail _ P.out _ rfl (int_ne _)).mono ?_
      rintro e w3 h3
      rcases hG3 : int l.tail with _ | ⟨v3, l3⟩ | ⟨a3, c3, l3⟩
      · exact absurd (by rw [← HR.out, hG3]; rfl) NE.out
      rotate_left
      · rw [hG3] at h3
        obtain ⟨rfl, pp, mm⟩ := h3
        unfold thr
        have hno := Lib.hid (show r = .no a3 c3 l3 by rw [← HR.out, hG3]; rfl)
        have PP := Lib.hid pp
        have MM := Lib.hid (M.out.next mm)
        clear pp mm hG3
        go_wp2_with fail
        exact ⟨rfl, pst_no hno.out PP.out MM.out⟩
      rw [hG3] at h3
      obtain ⟨u3, rfl, vv, pp, mm⟩ := h3
      replace HR := HR.out
      rw [hG3] at HR
      simp only [bind_okE] at HR
      replace HR := Lib.hid HR
      replace M := Lib.hid (M.out.next mm)
      replace R := Lib.hid (R.out.mv mm (by have := hlt.out; omega) R.out.lt)
      replace P := Lib.hid pp
      clear pp mm hG3
      obtain rfl : u3 = .int .i64 v3 := vv
      go_wp2_with (refine arm_storeT infWi (.tmp 2) (.tmp 12) rfl rfl _ _ _ _ rfl rfl R.out rfl rfl (by simp [Value.oneCell']) ?_; intro w9 hb9 hs9)
      have P9 := Lib.hid (P.out.st hs9 hlt.out)
      have M9 := Lib.hid (M.out.trans (hs9.mv (Nat.le_refl _)))
      refine ret_T infWi Tryz.underlying40 rfl rfl _ _ _ _ _ rfl hb9 rfl ?_
      exact pst_ok HR.out.symm rfl P9.out M9.out
  · replace HR := HR.out
    rw [ht0, if_pos rfl] at HR
    replace HR := Lib.hid HR
    replace ht0 := Lib.hid ht0
    go_enter Tryz.func258, Tryz.ntmps258
    go_wp2_with fail
    refine (skip_yes B ⟨#[97, 108, 108]⟩ l _ P.out ht0.out).mono ?_
    rintro e w1 ⟨rfl, pp, mm⟩
    replace M := Lib.hid (M.out.next mm)
    replace R := Lib.hid (R.out.mv mm (by have := hlt.out; omega) R.out.lt)
    replace P := Lib.hid pp
    clear pp mm
    go_wp2_with (refine arm_storeT infWi (.tmp 2) (.tmp 6) rfl rfl _ _ _ _ rfl rfl R.out rfl rfl (by simp [Value.oneCell']) ?_; intro w9 hb9 hs9)
    have P9 := Lib.hid (P.out.st hs9 hlt.out)
    have M9 := Lib.hid (M.out.trans (hs9.mv (Nat.le_refl _)))
    refine ret_T infWi Tryz.underlying40 rfl rfl _ _ _ _ _ rfl hb9 rfl ?_
    exact pst_ok HR.out.symm rfl P9.out M9.out
set_option maxRecDepth 100000 in
set_option maxHeartbeats 1000000 in
theorem type_r (B : Nat) (l : List Tk) (w : World) (h : Ps w B l) (r : Rs Ty) (hr : typ l = r) (hne : r ≠ .out) :
    Calls Tryz.prog 58 #[.pointer (some ⟨B, 0, none⟩)] w (Pst B Tv r w) := by
  have P := Lib.hid h
  have M := Lib.hid (Mv.refl w.heap.size B w)
  have NE := Lib.hid hne
  unfold typ wrg at hr
  have HR := Lib.hid hr
  clear h hne hr
  have b1 := balloc (b0 w) (.cells #[.int .i64 0, .slice none 0 0, .string ⟨#[]⟩] 47)
  have hlt := Lib.hid P.out.lt
  replace P := Lib.hid (P.out.keeps b1)
  replace M := Lib.hid (Mv.of (B := B) b1)
  have R := Lib.hid (Blk.new w 47 #[.int .i64 0, .slice none 0 0, .string ⟨#[]⟩])
  have F2 := mi_prob
  clear b1
  cases ht0 : isT ⟨#[98, 111, 111, 108]⟩ l
  · replace HR := HR.out
    rw [ht0, if_neg (by decide)] at HR
    replace HR := Lib.hid HR
    replace ht0 := Lib.hid ht0
    cases ht1 : isT ⟨#[116, 101, 120, 116]⟩ l
    · replace HR := HR.out
      rw [ht1, if_neg (by decide)] at HR
      replace HR := Lib.hid HR
      replace ht1 := Lib.hid ht1
      cases ht2 : isT ⟨#[107, 101, 121]⟩ l
      · replace HR := HR.out
        rw [ht2, if_neg (by decide)] at HR
        replace HR := Lib.hid HR
        replace ht2 := Lib.hid ht2
        cases ht3 : isT ⟨#[105, 110, 116]⟩ l
        · replace HR := HR.out
          rw [ht3, if_neg (by decide)] at HR
          replace HR := Lib.hid HR
          replace ht3 := Lib.hid ht3
          cases ht4 : isT ⟨#[100, 101, 99]⟩ l
          · replace HR := HR.out
            rw [ht4, if_neg (by decide)] at HR
            replace HR := Lib.hid HR
            replace ht4 := Lib.hid ht4
            go_enter Tryz.func58, Tryz.ntmps58
            go_wp2_with fail
            refine (skip_no B ⟨#[98, 111, 111, 108]⟩ l _ P.out ht0.out).mono ?_
            rintro e w1 ⟨rfl, pp, mm⟩
            replace M := Lib.hid (M.out.next mm)
            replace R := Lib.hid (R.out.mv mm (by have := hlt.out; omega) R.out.lt)
            replace P := Lib.hid pp
            clear pp mm
            go_wp2_with fail
            refine (skip_no B ⟨#[116, 101, 120, 116]⟩ l _ P.out ht1.out).mono ?_
            rintro e w2 ⟨rfl, pp, mm⟩
            replace M := Lib.hid (M.out.next mm)
            replace R := Lib.hid (R.out.mv mm (by have := hlt.out; omega) R.out.lt)
            replace P := Lib.hid pp
            clear pp mm
            go_wp2_with fail
            refine (skip_no B ⟨#[107, 101, 121]⟩ l _ P.out ht2.out).mono ?_
            rintro e w3 ⟨rfl, pp, mm⟩
            replace M := Lib.hid (M.out.next mm)
            replace R := Lib.hid (R.out.mv mm (by have := hlt.out; omega) R.out.lt)
            replace P := Lib.hid pp
            clear pp mm
            go_wp2_with fail
            refine (skip_no B ⟨#[105, 110, 116]⟩ l _ P.out ht3.out).mono ?_
            rintro e w4 ⟨rfl, pp, mm⟩
            replace M := Lib.hid (M.out.next mm)
            replace R := Lib.hid (R.out.mv mm (by have := hlt.out; omega) R.out.lt)
            replace P := Lib.hid pp
            clear pp mm
            go_wp2_with fail
            refine (skip_no B ⟨#[100, 101, 99]⟩ l _ P.out ht4.out).mono ?_
            rintro e w5 ⟨rfl, pp, mm⟩
            replace M := Lib.hid (M.out.next mm)
            replace R := Lib.hid (R.out.mv mm (by have := hlt.out; omega) R.out.lt)
            replace P := Lib.hid pp
            clear pp mm
            have C9 := Lib.hid (wrong_any B l _ P.out)
            go_wp2_with fail
            refine (C9.out).mono ?_
            rintro e w6 ⟨rfl, b⟩
            have mm := Mv.of (B := B) b
            replace M := Lib.hid (M.out.next mm)
            replace R := Lib.hid (R.out.mv mm (by have := hlt.out; omega) R.out.lt)
            replace P := Lib.hid (P.out.keeps b)
            clear mm b
            go_wp2_with fail
            exact ⟨rfl, pst_no HR.out.symm P.out M.out⟩
          · replace HR := HR.out
            rw [ht4, if_pos rfl] at HR
            replace HR := Lib.hid HR
            replace ht4 := Lib.hid ht4
            go_enter Tryz.func58, Tryz.ntmps58
            go_wp2_with fail
            refine (skip_no B ⟨#[98, 111, 111, 108]⟩ l _ P.out ht0.out).mono ?_
            rintro e w1 ⟨rfl, pp, mm⟩
            replace M := Lib.hid (M.out.next mm)
            replace R := Lib.hid (R.out.mv mm (by have := hlt.out; omega) R.out.lt)
            replace P := Lib.hid pp
            clear pp mm
            go_wp2_with fail
            refine (skip_no B ⟨#[116, 101, 120, 116]⟩ l _ P.out ht1.out).mono ?_
            rintro e w2 ⟨rfl, pp, mm⟩
            replace M := Lib.hid (M.out.next mm)
            replace R := Lib.hid (R.out.mv mm (by have := hlt.out; omega) R.out.lt)
            replace P := Lib.hid pp
            clear pp mm
            go_wp2_with fail
            refine (skip_no B ⟨#[107, 101, 121]⟩ l _ P.out ht2.out).mono ?_
            rintro e w3 ⟨rfl, pp, mm⟩
            replace M := Lib.hid (M.out.next mm)
            replace R := Lib.hid (R.out.mv mm (by have := hlt.out; omega) R.out.lt)
            replace P := Lib.hid pp
            clear pp mm
            go_wp2_with fail
            refine (skip_no B ⟨#[105, 110, 116]⟩ l _ P.out ht3.out).mono ?_
            rintro e w4 ⟨rfl, pp, mm⟩
            replace M := Lib.hid (M.out.next mm)
            replace R := Lib.hid (R.out.mv mm (by have := hlt.out; omega) R.out.lt)
            replace P := Lib.hid pp
            clear pp mm
            go_wp2_with fail
            refine (skip_yes B ⟨#[100, 101, 99]⟩ l _ P.out ht4.out).mono ?_
            rintro e w5 ⟨rfl, pp, mm⟩
            replace M := Lib.hid (M.out.next mm)
            replace R := Lib.hid (R.out.mv mm (by have := hlt.out; omega) R.out.lt)
            replace P := Lib.hid pp
            clear pp mm
            go_wp2_with fail
            have hg := Lib.hid R.out.lt
            refine (unit_r B l.tail _ P.out _ rfl (uni_ne _)).mono ?_
            rintro e w6 h6
            rcases hG6 : uni l.tail with _ | ⟨v6, l6⟩ | ⟨a6, c6, l6⟩
            · exact absurd (by rw [← HR.out, hG6]; rfl) NE.out
            rotate_left
            · rw [hG6] at h6
              obtain ⟨rfl, pp, mm⟩ := h6
              unfold thr
              have hno := Lib.hid (show r = .no a6 c6 l6 by rw [← HR.out, hG6]; rfl)
              have PP := Lib.hid pp
              have MM := Lib.hid (M.out.next mm)
              clear pp mm hG6
              go_wp2_with fail
              exact ⟨rfl, pst_no hno.out PP.out MM.out⟩
            rw [hG6] at h6
            obtain ⟨u6, rfl, vv, pp, mm⟩ := h6
            replace HR := HR.out
            rw [hG6] at HR
            simp only [bind_okE] at HR
            replace HR := Lib.hid HR
            replace M := Lib.hid (M.out.next mm)
            replace R := Lib.hid (R.out.mv mm (by have := hlt.out; omega) R.out.lt)
            replace P := Lib.hid pp
            clear pp mm hG6
            have V6 := Lib.hid vv
            clear vv
            obtain ⟨ua, uc, rfl, U⟩ := V6.out
            replace U := Lib.hid (Us.less U hg.out)
            clear V6
            go_wp2_with (refine arm_storeT infTy (.tmp 2) (.tmp 28) rfl rfl _ _ _ _ rfl rfl R.out rfl rfl (by simp [Value.oneCell']) ?_; intro w9 hb9 hs9)
            have P9 := Lib.hid (P.out.st hs9 hlt.out)
            have M9 := Lib.hid (M.out.trans (hs9.mv (Nat.le_refl _)))
            have U9 := Lib.hid ((Us.kp U.out (hs9.kp (Nat.lt_succ_self _))).less (Nat.le_succ _))
            refine ret_T infTy Tryz.underlying47 rfl rfl _ _ _ _ _ rfl hb9 rfl ?_
            exact pst_ok HR.out.symm ⟨ua, uc, rfl, U9.out⟩ P9.out M9.out
        · replace HR := HR.out
          rw [ht3, if_pos rfl] at HR
          replace HR := Lib.hid HR
          replace ht3 := Lib.hid ht3
          go_enter Tryz.func58, Tryz.ntmps58
          go_wp2_with fail
          refine (skip_no B ⟨#[98, 111, 111, 108]⟩ l _ P.out ht0.out).mono ?_
          rintro e w1 ⟨rfl, pp, mm⟩
          replace M := Lib.hid (M.out.next mm)
          replace R := Lib.hid (R.out.mv mm (by have := hlt.out; omega) R.out.lt)
          replace P := Lib.hid pp
          clear pp mm
          go_wp2_with fail
          refine (skip_no B ⟨#[116, 101, 120, 116]⟩ l _ P.out ht1.out).mono ?_
          rintro e w2 ⟨rfl, pp, mm⟩
          replace M := Lib.hid (M.out.next mm)
          replace R := Lib.hid (R.out.mv mm (by have := hlt.out; omega) R.out.lt)
          replace P := Lib.hid pp
          clear pp mm
          go_wp2_with fail
          refine (skip_no B ⟨#[107, 101, 121]⟩ l _ P.out ht2.out).mono ?_
          rintro e w3 ⟨rfl, pp, mm⟩
          replace M := Lib.hid (M.out.next mm)
          replace R := Lib.hid (R.out.mv mm (by have := hlt.out; omega) R.out.lt)
          replace P := Lib.hid pp
          clear pp mm
          go_wp2_with fail
          refine (skip_yes B ⟨#[105, 110, 116]⟩ l _ P.out ht3.out).mono ?_
          rintro e w4 ⟨rfl, pp, mm⟩
          replace M := Lib.hid (M.out.next mm)
          replace R := Lib.hid (R.out.mv mm (by have := hlt.out; omega) R.out.lt)
          replace P := Lib.hid pp
          clear pp mm
          go_wp2_with fail
          have hg := Lib.hid R.out.lt
          refine (unit_r B l.tail _ P.out _ rfl (uni_ne _)).mono ?_
          rintro e w5 h5
          rcases hG5 : uni l.tail with _ | ⟨v5, l5⟩ | ⟨a5, c5, l5⟩
          · exact absurd (by rw [← HR.out, hG5]; rfl) NE.out
          rotate_left
          · rw [hG5] at h5
            obtain ⟨rfl, pp, mm⟩ := h5
            unfold thr
            have hno := Lib.hid (show r = .no a5 c5 l5 by rw [← HR.out, hG5]; rfl)
            have PP := Lib.hid pp
            have MM := Lib.hid (M.out.next mm)
            clear pp mm hG5
            go_wp2_with fail
            exact ⟨rfl, pst_no hno.out PP.out MM.out⟩
          rw [hG5] at h5
          obtain ⟨u5, rfl, vv, pp, mm⟩ := h5
          replace HR := HR.out
          rw [hG5] at HR
          simp only [bind_okE] at HR
          replace HR := Lib.hid HR
          replace M := Lib.hid (M.out.next mm)
          replace R := Lib.hid (R.out.mv mm (by have := hlt.out; omega) R.out.lt)
          replace P := Lib.hid pp
          clear pp mm hG5
          have V5 := Lib.hid vv
          clear vv
          obtain ⟨ua, uc, rfl, U⟩ := V5.out
          replace U := Lib.hid (Us.less U hg.out)
          clear V5
          go_wp2_with (refine arm_storeT infTy (.tmp 2) (.tmp 22) rfl rfl _ _ _ _ rfl rfl R.out rfl rfl (by simp [Value.oneCell']) ?_; intro w9 hb9 hs9)
          have P9 := Lib.hid (P.out.st hs9 hlt.out)
          have M9 := Lib.hid (M.out.trans (hs9.mv (Nat.le_refl _)))
          have U9 := Lib.hid ((Us.kp U.out (hs9.kp (Nat.lt_succ_self _))).less (Nat.le_succ _))
          refine ret_T infTy Tryz.underlying47 rfl rfl _ _ _ _ _ rfl hb9 rfl ?_
          exact pst_ok HR.out.symm ⟨ua, uc, rfl, U9.out⟩ P9.out M9.out
      · replace HR := HR.out
        rw [ht2, if_pos rfl] at HR
        replace HR := Lib.hid HR
        replace ht2 := Lib.hid ht2
        go_enter Tryz.func58, Tryz.ntmps58
        go_wp2_with fail
        refine (skip_no B ⟨#[98, 111, 111, 108]⟩ l _ P.out ht0.out).mono ?_
        rintro e w1 ⟨rfl, pp, mm⟩
        replace M := Lib.hid (M.out.next mm)
        replace R := Lib.hid (R.out.mv mm (by have := hlt.out; omega) R.out.lt)
        replace P := Lib.hid pp
        clear pp mm
        go_wp2_with fail
        refine (skip_no B ⟨#[116, 101, 120, 116]⟩ l _ P.out ht1.out).mono ?_
        rintro e w2 ⟨rfl, pp, mm⟩
        replace M := Lib.hid (M.out.next mm)
        replace R := Lib.hid (R.out.mv mm (by have := hlt.out; omega) R.out.lt)
        replace P := Lib.hid pp
        clear pp mm
        go_wp2_with fail
        refine (skip_yes B ⟨#[107, 101, 121]⟩ l _ P.out ht2.out).mono ?_
        rintro e w3 ⟨rfl, pp, mm⟩
        replace M := Lib.hid (M.out.next mm)
        replace R := Lib.hid (R.out.mv mm (by have := hlt.out; omega) R.out.lt)
        replace P := Lib.hid pp
        clear pp mm
        go_wp2_with fail
        refine (name_r B l.tail _ P.out _ rfl (nam_ne _)).mono ?_
        rintro e w4 h4
        rcases hG4 : nam l.tail with _ | ⟨v4, l4⟩ | ⟨a4, c4, l4⟩
        · exact absurd (by rw [← HR.out, hG4]; rfl) NE.out
        rotate_left
        · rw [hG4] at h4
          obtain ⟨rfl, pp, mm⟩ := h4
          unfold thr
          have hno := Lib.hid (show r = .no a4 c4 l4 by rw [← HR.out, hG4]; rfl)
          have PP := Lib.hid pp
          have MM := Lib.hid (M.out.next mm)
          clear pp mm hG4
          go_wp2_with fail
          exact ⟨rfl, pst_no hno.out PP.out MM.out⟩
        rw [hG4] at h4
        obtain ⟨u4, rfl, vv, pp, mm⟩ := h4
        replace HR := HR.out
        rw [hG4] at HR
        simp only [bind_okE] at HR
        replace HR := Lib.hid HR
        replace M := Lib.hid (M.out.next mm)
        replace R := Lib.hid (R.out.mv mm (by have := hlt.out; omega) R.out.lt)
        replace P := Lib.hid pp
        clear pp mm hG4
        obtain rfl : u4 = .string v4 := vv
        go_wp2_with (refine arm_storeT infTy (.tmp 2) (.tmp 16) rfl rfl _ _ _ _ rfl rfl R.out rfl rfl (by simp [Value.oneCell']) ?_; intro w9 hb9 hs9)
        have P9 := Lib.hid (P.out.st hs9 hlt.out)
        have M9 := Lib.hid (M.out.trans (hs9.mv (Nat.le_refl _)))
        refine ret_T infTy Tryz.underlying47 rfl rfl _ _ _ _ _ rfl hb9 rfl ?_
        exact pst_ok HR.out.symm ⟨none, 0, rfl, Us.nil _ _ _⟩ P9.out M9.out
    · replace HR := HR.out
      rw [ht1, if_pos rfl] at HR
      replace HR := Lib.hid HR
      replace ht1 := Lib.hid ht1
      go_enter Tryz.func58, Tryz.ntmps58
      go_wp2_with fail
      refine (skip_no B ⟨#[98, 111, 111, 108]⟩ l _ P.out ht0.out).mono ?_
      rintro e w1 ⟨rfl, pp, mm⟩
      replace M := Lib.hid (M.out.next mm)
      replace R := Lib.hid (R.out.mv mm (by have := hlt.out; omega) R.out.lt)
      replace P := Lib.hid pp
      clear pp mm
      go_wp2_with fail
      refine (skip_yes B ⟨#[116, 101, 120, 116]⟩ l _ P.out ht1.out).mono ?_
      rintro e w2 ⟨rfl, pp, mm⟩
      replace M := Lib.hid (M.out.next mm)
      replace R := Lib.hid (R.out.mv mm (by have := hlt.out; omega) R.out.lt)
      replace P := Lib.hid pp
      clear pp mm
      go_wp2_with (refine arm_storeT infTy (.tmp 2) (.tmp 10) rfl rfl _ _ _ _ rfl rfl R.out rfl rfl (by simp [Value.oneCell']) ?_; intro w9 hb9 hs9)
      have P9 := Lib.hid (P.out.st hs9 hlt.out)
      have M9 := Lib.hid (M.out.trans (hs9.mv (Nat.le_refl _)))
      refine ret_T infTy Tryz.underlying47 rfl rfl _ _ _ _ _ rfl hb9 rfl ?_
      exact pst_ok HR.out.symm ⟨none, 0, rfl, Us.nil _ _ _⟩ P9.out M9.out
  · replace HR := HR.out
    rw [ht0, if_pos rfl] at HR
    replace HR := Lib.hid HR
    replace ht0 := Lib.hid ht0
    go_enter Tryz.func58, Tryz.ntmps58
    go_wp2_with fail
    refine (skip_yes B ⟨#[98, 111, 111, 108]⟩ l _ P.out ht0.out).mono ?_
    rintro e w1 ⟨rfl, pp, mm⟩
    replace M := Lib.hid (M.out.next mm)
    replace R := Lib.hid (R.out.mv mm (by have := hlt.out; omega) R.out.lt)
    replace P := Lib.hid pp
    clear pp mm
    go_wp2_with (refine arm_storeT infTy (.tmp 2) (.tmp 6) rfl rfl _ _ _ _ rfl rfl R.out rfl rfl (by simp [Value.oneCell']) ?_; intro w9 hb9 hs9)
    have P9 := Lib.hid (P.out.st hs9 hlt.out)
    have M9 := Lib.hid (M.out.trans (hs9.mv (Nat.le_refl _)))
    refine ret_T infTy Tryz.underlying47 rfl rfl _ _ _ _ _ rfl hb9 rfl ?_
    exact pst_ok HR.out.symm ⟨none, 0, rfl, Us.nil _ _ _⟩ P9.out M9.out
def fie (l : List Tk) : Rs Fi := (nam l).bind fun n r => (need ⟨#[58]⟩ r).bind fun _ r => (typ r).bind fun t r => .ok ⟨n, t⟩ r
theorem fie_lt {l r : List Tk} {v : Fi} (h : fie l = .ok v r) : r.length < l.length := by
  obtain ⟨n, q, h1, h⟩ := bind_ok h
  obtain ⟨_, q2, h2, h⟩ := bind_ok h
  obtain ⟨t, q3, h3, h⟩ := bind_ok h
  cases h
  have := nam_lt h1
  have := need_lt h2
  have := typ_lt h3
  omega
theorem fie_ne (l : List Tk) : fie l ≠ .out := bind_ne (nam_ne _) fun _ _ _ => bind_ne (need_ne _ _) fun _ _ _ => bind_ne (typ_ne _) fun _ _ _ h => by cases h
set_option maxRecDepth 100000 in
set_option maxHeartbeats 1000000 in
theorem field_r (B : Nat) (l : List Tk) (w : World) (h : Ps w B l) (r : Rs Fi) (hr : fie l = r) (hne : r ≠ .out) :
    Calls Tryz.prog 130 #[.pointer (some ⟨B, 0, none⟩)] w (Pst B Dv r w) := by
  have P := Lib.hid h
  have M := Lib.hid (Mv.refl w.heap.size B w)
  have NE := Lib.hid hne
  unfold fie at hr
  have HR := Lib.hid hr
  clear h hne hr
  have b1 := balloc (b0 w) (.cells #[.string ⟨#[]⟩, .int .i64 0, .slice none 0 0, .string ⟨#[]⟩] 149)
  have hlt := Lib.hid P.out.lt
  replace P := Lib.hid (P.out.keeps b1)
  replace M := Lib.hid (Mv.of (B := B) b1)
  have R := Lib.hid (Blk.new w 149 #[.string ⟨#[]⟩, .int .i64 0, .slice none 0 0, .string ⟨#[]⟩])
  have F2 := mi_prob
  clear b1
  go_enter Tryz.func130, Tryz.ntmps130
  go_wp2_with fail
  refine (name_r B l _ P.out _ rfl (nam_ne _)).mono ?_
  rintro e w1 h1
  rcases hG1 : nam l with _ | ⟨v1, l1⟩ | ⟨a1, c1, l1⟩
  · exact absurd (by rw [← HR.out, hG1]; rfl) NE.out
  rotate_left
  · rw [hG1] at h1
    obtain ⟨rfl, pp, mm⟩ := h1
    unfold thr
    have hno := Lib.hid (show r = .no a1 c1 l1 by rw [← HR.out, hG1]; rfl)
    have PP := Lib.hid pp
    have MM := Lib.hid (M.out.next mm)
    clear pp mm hG1
    go_wp2_with fail
    exact ⟨rfl, pst_no hno.out PP.out MM.out⟩
  rw [hG1] at h1
  obtain ⟨u1, rfl, vv, pp, mm⟩ := h1
  replace HR := HR.out
  rw [hG1] at HR
  simp only [bind_okE] at HR
  replace HR := Lib.hid HR
  replace M := Lib.hid (M.out.next mm)
  replace R := Lib.hid (R.out.mv mm (by have := hlt.out; omega) R.out.lt)
  replace P := Lib.hid pp
  clear pp mm hG1
  obtain rfl : u1 = .string v1 := vv
  go_wp2_with fail
  refine (need_any B ⟨#[58]⟩ l1 _ P.out).mono ?_
  rintro e w2 h2
  rcases hG2 : need ⟨#[58]⟩ l1 with _ | ⟨v2, l2⟩ | ⟨a2, c2, l2⟩
  · exact absurd (by rw [← HR.out, hG2]; rfl) NE.out
  rotate_left
  · rw [hG2] at h2
    obtain ⟨rfl, pp, mm⟩ := h2
    unfold thr
    have hno := Lib.hid (show r = .no a2 c2 l2 by rw [← HR.out, hG2]; rfl)
    have PP := Lib.hid pp
    have MM := Lib.hid (M.out.next mm)
    clear pp mm hG2
    go_wp2_with fail
    exact ⟨rfl, pst_no hno.out PP.out MM.out⟩
  rw [hG2] at h2
  obtain ⟨u2, rfl, vv, pp, mm⟩ := h2
  replace HR := HR.out
  rw [hG2] at HR
  simp only [bind_okE] at HR
  replace HR := Lib.hid HR
  replace M := Lib.hid (M.out.next mm)
  replace R := Lib.hid (R.out.mv mm (by have := hlt.out; omega) R.out.lt)
  replace P := Lib.hid pp
  clear pp mm hG2
  obtain rfl : u2 = .tuple #[] := vv
  have hg := Lib.hid R.out.lt
  go_wp2_with fail
  refine (type_r B l2 _ P.out _ rfl (typ_ne _)).mono ?_
  rintro e w3 h3
  rcases hG3 : typ l2 with _ | ⟨v3, l3⟩ | ⟨a3, c3, l3⟩
  · exact absurd (by rw [← HR.out, hG3]; rfl) NE.out
  rotate_left
  · rw [hG3] at h3
    obtain ⟨rfl, pp, mm⟩ := h3
    unfold thr
    have hno := Lib.hid (show r = .no a3 c3 l3 by rw [← HR.out, hG3]; rfl)
    have PP := Lib.hid pp
    have MM := Lib.hid (M.out.next mm)
    clear pp mm hG3
    go_wp2_with fail
    exact ⟨rfl, pst_no hno.out PP.out MM.out⟩
  rw [hG3] at h3
  obtain ⟨u3, rfl, vv, pp, mm⟩ := h3
  replace HR := HR.out
  rw [hG3] at HR
  simp only [bind_okE] at HR
  replace HR := Lib.hid HR
  replace M := Lib.hid (M.out.next mm)
  replace R := Lib.hid (R.out.mv mm (by have := hlt.out; omega) R.out.lt)
  replace P := Lib.hid pp
  clear pp mm hG3
  have V3 := Lib.hid vv
  clear vv
  obtain ⟨ua, uc, rfl, U⟩ := V3.out
  replace U := Lib.hid (Us.less U hg.out)
  clear V3
  go_wp2_with (refine arm_storeT infFi (.tmp 2) (.tmp 11) rfl rfl _ _ _ _ rfl rfl R.out rfl rfl (by simp [Value.oneCell']) ?_; intro w9 hb9 hs9)
  have P9 := Lib.hid (P.out.st hs9 hlt.out)
  have M9 := Lib.hid (M.out.trans (hs9.mv (Nat.le_refl _)))
  have U9 := Lib.hid ((Us.kp U.out (hs9.kp (Nat.lt_succ_self _))).less (Nat.le_succ _))
  refine ret_T infFi Tryz.underlying149 rfl rfl _ _ _ _ _ rfl hb9 rfl ?_
  exact pst_ok HR.out.symm ⟨ua, uc, rfl, U9.out⟩ P9.out M9.out
end Go.Proofs.YtkgclmikhpjheaaGreatDoor.pa
namespace Go.Proofs.YtkgclmikhpjheaaGreatDoor.pa
open Go.RowKit dec

theorem str_eq (a : ByteArray) (l : List UInt8) : (a.toList == l) = decide (a = ⟨l.toArray⟩) := by
  rw [ByteArray.toList_eq]
  by_cases hs : a = ⟨l.toArray⟩
  · subst hs
    simp
  · rw [decide_eq_false hs, beq_eq_false_iff_ne]
    intro e
    apply hs
    cases a
    simp only at e
    rw [← e]
def ex1 (x : Ex) (uax : Option Addr) (ucx : Nat) (aax : Option Addr) (acx : Nat) : Array Value := #[.int .i64 x.h.k, .string x.h.op, .string x.h.nm, .string x.h.tb, .int .i64 x.h.vk, .int .i64 x.h.vn, .string x.h.vs, .slice uax x.h.un.length ucx, .int .i64 x.h.pa, .int .i64 x.h.wk, .int .i64 x.h.ws, .slice aax x.ar.len acx]
theorem as_1 {C : Nat} {w : World} {g : Nat} {x : Ex} {uax : Option Addr} {ucx : Nat} {aax : Option Addr} {acx : Nat} (hB : Blk w g 43 (ex1 x uax ucx aax acx)) (Ex : Ec C w x uax aax) (hC : C ≤ g) : As C w (some ⟨g, 0, none⟩) (.cons x.h x.ar .nil) :=
  .inr ⟨g, 0, rfl, hC, hB.tg, ⟨⟨uax, ucx, aax, acx, ⟨hB.cell (0), hB.cell (0 + 1), hB.cell (0 + 2), hB.cell (0 + 3), hB.cell (0 + 4), hB.cell (0 + 5), hB.cell (0 + 6), hB.cell (0 + 7), hB.cell (0 + 8), hB.cell (0 + 9), hB.cell (0 + 10), hB.cell (0 + 11)⟩, Ex.us, Ex.ar⟩, trivial⟩⟩
def ex2 (x : Ex) (uax : Option Addr) (ucx : Nat) (aax : Option Addr) (acx : Nat) (y : Ex) (uay : Option Addr) (ucy : Nat) (aay : Option Addr) (acy : Nat) : Array Value := #[.int .i64 x.h.k, .string x.h.op, .string x.h.nm, .string x.h.tb, .int .i64 x.h.vk, .int .i64 x.h.vn, .string x.h.vs, .slice uax x.h.un.length ucx, .int .i64 x.h.pa, .int .i64 x.h.wk, .int .i64 x.h.ws, .slice aax x.ar.len acx, .int .i64 y.h.k, .string y.h.op, .string y.h.nm, .string y.h.tb, .int .i64 y.h.vk, .int .i64 y.h.vn, .string y.h.vs, .slice uay y.h.un.length ucy, .int .i64 y.h.pa, .int .i64 y.h.wk, .int .i64 y.h.ws, .slice aay y.ar.len acy]
theorem as_2 {C : Nat} {w : World} {g : Nat} {x : Ex} {uax : Option Addr} {ucx : Nat} {aax : Option Addr} {acx : Nat} {y : Ex} {uay : Option Addr} {ucy : Nat} {aay : Option Addr} {acy : Nat} (hB : Blk w g 43 (ex2 x uax ucx aax acx y uay ucy aay acy)) (Ex : Ec C w x uax aax) (Ey : Ec C w y uay aay) (hC : C ≤ g) : As C w (some ⟨g, 0, none⟩) (.cons x.h x.ar (.cons y.h y.ar .nil)) :=
  .inr ⟨g, 0, rfl, hC, hB.tg, ⟨⟨uax, ucx, aax, acx, ⟨hB.cell (0), hB.cell (0 + 1), hB.cell (0 + 2), hB.cell (0 + 3), hB.cell (0 + 4), hB.cell (0 + 5), hB.cell (0 + 6), hB.cell (0 + 7), hB.cell (0 + 8), hB.cell (0 + 9), hB.cell (0 + 10), hB.cell (0 + 11)⟩, Ex.us, Ex.ar⟩, ⟨⟨uay, ucy, aay, acy, ⟨hB.cell (0 + 12), hB.cell (0 + 12 + 1), hB.cell (0 + 12 + 2), hB.cell (0 + 12 + 3), hB.cell (0 + 12 + 4), hB.cell (0 + 12 + 5), hB.cell (0 + 12 + 6), hB.cell (0 + 12 + 7), hB.cell (0 + 12 + 8), hB.cell (0 + 12 + 9), hB.cell (0 + 12 + 10), hB.cell (0 + 12 + 11)⟩, Ey.us, Ey.ar⟩, trivial⟩⟩⟩
def ex3 (x : Ex) (uax : Option Addr) (ucx : Nat) (aax : Option Addr) (acx : Nat) (y : Ex) (uay : Option Addr) (ucy : Nat) (aay : Option Addr) (acy : Nat) (z : Ex) (uaz : Option Addr) (ucz : Nat) (aaz : Option Addr) (acz : Nat) : Array Value := #[.int .i64 x.h.k, .string x.h.op, .string x.h.nm, .string x.h.tb, .int .i64 x.h.vk, .int .i64 x.h.vn, .string x.h.vs, .slice uax x.h.un.length ucx, .int .i64 x.h.pa, .int .i64 x.h.wk, .int .i64 x.h.ws, .slice aax x.ar.len acx, .int .i64 y.h.k, .string y.h.op, .string y.h.nm, .string y.h.tb, .int .i64 y.h.vk, .int .i64 y.h.vn, .string y.h.vs, .slice uay y.h.un.length ucy, .int .i64 y.h.pa, .int .i64 y.h.wk, .int .i64 y.h.ws, .slice aay y.ar.len acy, .int .i64 z.h.k, .string z.h.op, .string z.h.nm, .string z.h.tb, .int .i64 z.h.vk, .int .i64 z.h.vn, .string z.h.vs, .slice uaz z.h.un.length ucz, .int .i64 z.h.pa, .int .i64 z.h.wk, .int .i64 z.h.ws, .slice aaz z.ar.len acz]
theorem as_3 {C : Nat} {w : World} {g : Nat} {x : Ex} {uax : Option Addr} {ucx : Nat} {aax : Option Addr} {acx : Nat} {y : Ex} {uay : Option Addr} {ucy : Nat} {aay : Option Addr} {acy : Nat} {z : Ex} {uaz : Option Addr} {ucz : Nat} {aaz : Option Addr} {acz : Nat} (hB : Blk w g 43 (ex3 x uax ucx aax acx y uay ucy aay acy z uaz ucz aaz acz)) (Ex : Ec C w x uax aax) (Ey : Ec C w y uay aay) (Ez : Ec C w z uaz aaz) (hC : C ≤ g) : As C w (some ⟨g, 0, none⟩) (.cons x.h x.ar (.cons y.h y.ar (.cons z.h z.ar .nil))) :=
  .inr ⟨g, 0, rfl, hC, hB.tg, ⟨⟨uax, ucx, aax, acx, ⟨hB.cell (0), hB.cell (0 + 1), hB.cell (0 + 2), hB.cell (0 + 3), hB.cell (0 + 4), hB.cell (0 + 5), hB.cell (0 + 6), hB.cell (0 + 7), hB.cell (0 + 8), hB.cell (0 + 9), hB.cell (0 + 10), hB.cell (0 + 11)⟩, Ex.us, Ex.ar⟩, ⟨⟨uay, ucy, aay, acy, ⟨hB.cell (0 + 12), hB.cell (0 + 12 + 1), hB.cell (0 + 12 + 2), hB.cell (0 + 12 + 3), hB.cell (0 + 12 + 4), hB.cell (0 + 12 + 5), hB.cell (0 + 12 + 6), hB.cell (0 + 12 + 7), hB.cell (0 + 12 + 8), hB.cell (0 + 12 + 9), hB.cell (0 + 12 + 10), hB.cell (0 + 12 + 11)⟩, Ey.us, Ey.ar⟩, ⟨⟨uaz, ucz, aaz, acz, ⟨hB.cell (0 + 12 + 12), hB.cell (0 + 12 + 12 + 1), hB.cell (0 + 12 + 12 + 2), hB.cell (0 + 12 + 12 + 3), hB.cell (0 + 12 + 12 + 4), hB.cell (0 + 12 + 12 + 5), hB.cell (0 + 12 + 12 + 6), hB.cell (0 + 12 + 12 + 7), hB.cell (0 + 12 + 12 + 8), hB.cell (0 + 12 + 12 + 9), hB.cell (0 + 12 + 12 + 10), hB.cell (0 + 12 + 12 + 11)⟩, Ez.us, Ez.ar⟩, trivial⟩⟩⟩⟩
set_option maxRecDepth 100000 in
set_option maxHeartbeats 1000000 in
theorem boolean_any (n : Int) (w : World) : Calls Tryz.prog 226 #[.int .i64 n] w fun e w' => e = .returned (.agg (exC (booE n) none 0 none 0)) ∧ Below w.heap.size w w' := by
  go_enter Tryz.func226, Tryz.ntmps226
  go_wp2_with fail
  refine ret_expr rfl _ _ w.heap.size _ _ rfl (Blk.new w _ _) rfl ?_
  exact ⟨rfl, balloc (b0 w) _⟩
theorem boo_ec (C : Nat) (n : Int) (w : World) : Ec C w (booE n) none none := ⟨.inl rfl, .inl rfl⟩
set_option maxRecDepth 100000 in
set_option maxHeartbeats 1000000 in
theorem unary_any (op : ByteArray) (x : Ex) (uax : Option Addr) (ucx : Nat) (aax : Option Addr) (acx : Nat) (C : Nat) (w : World) (E : Ec C w x uax aax) (hC : C ≤ w.heap.size) : Calls Tryz.prog 150 #[.string op, .agg (exC x uax ucx aax acx)] w fun e w' =>
    ∃ aa ac, e = .returned (.agg (exC (unaE op x) none 0 aa ac)) ∧ Ec C w' (unaE op x) none aa ∧ Below w.heap.size w w' := by
  have EH := Lib.hid E
  clear E
  unfold exC
  go_enter Tryz.func150, Tryz.ntmps150
  go_wp2_with fail
  refine ret_expr rfl _ _ (w.heap.size + 1) _ _ rfl (by have := (Blk.new (w.alloc (.cells (ex1 x uax ucx aax acx) 43)) 43 (exC (unaE op x) none 0 (some ⟨w.heap.size + 2, 0, none⟩) 1)).past (.cells (ex1 x uax ucx aax acx) 43); rw [show (w.alloc (.cells (ex1 x uax ucx aax acx) 43)).heap.size = w.heap.size + 1 by simp] at this; exact this) rfl ?_
  refine ⟨some ⟨w.heap.size + 2, 0, none⟩, 1, rfl, ⟨.inl rfl, ?_⟩, balloc (balloc (balloc (b0 w) _) _) _⟩
  have hB := Blk.new ((w.alloc (.cells (ex1 x uax ucx aax acx) 43)).alloc (.cells (exC (unaE op x) none 0 (some ⟨w.heap.size + 2, 0, none⟩) 1) 43)) 43 (ex1 x uax ucx aax acx)
  rw [show ((w.alloc (.cells (ex1 x uax ucx aax acx) 43)).alloc (.cells (exC (unaE op x) none 0 (some ⟨w.heap.size + 2, 0, none⟩) 1) 43)).heap.size = w.heap.size + 2 by simp] at hB
  exact as_1 hB (EH.out.kp (kp_of (balloc (balloc (balloc (b0 w) _) _) _))) (by omega)
set_option maxRecDepth 100000 in
set_option maxHeartbeats 1000000 in
theorem binary_any (op : ByteArray) (x : Ex) (uax : Option Addr) (ucx : Nat) (aax : Option Addr) (acx : Nat) (y : Ex) (uay : Option Addr) (ucy : Nat) (aay : Option Addr) (acy : Nat) (C : Nat) (w : World) (E : Ec C w x uax aax) (E2 : Ec C w y uay aay) (hC : C ≤ w.heap.size) :
    Calls Tryz.prog 153 #[.string op, .agg (exC x uax ucx aax acx), .agg (exC y uay ucy aay acy)] w fun e w' =>
    ∃ aa ac, e = .returned (.agg (exC (binE op x y) none 0 aa ac)) ∧ Ec C w' (binE op x y) none aa ∧ Below w.heap.size w w' := by
  have EH := Lib.hid E
  have EH2 := Lib.hid E2
  clear E E2
  have q0 := str_eq op [100, 101, 102, 97, 117, 108, 116]
  unfold binE
  by_cases hop : op = ⟨#[100, 101, 102, 97, 117, 108, 116]⟩
  · rw [if_pos hop]
    rw [decide_eq_true hop] at q0
    clear hop
    unfold exC
    go_enter Tryz.func153, Tryz.ntmps153
    go_wp2_with fail
    refine ret_expr rfl _ _ (w.heap.size + 2) _ _ rfl (by have := (Blk.new ((w.alloc (.cells (ex1 x uax ucx aax acx) 43)).alloc (.cells (ex1 y uay ucy aay acy) 43)) 43 (exC ⟨{ h0 with k := 9 }, .cons x.h x.ar (.cons y.h y.ar .nil)⟩ none 0 (some ⟨w.heap.size + 3, 0, none⟩) 2)).past (.cells (ex2 x uax ucx aax acx y uay ucy aay acy) 43); rw [show ((w.alloc (.cells (ex1 x uax ucx aax acx) 43)).alloc (.cells (ex1 y uay ucy aay acy) 43)).heap.size = w.heap.size + 2 by simp] at this; exact this) rfl ?_
    refine ⟨some ⟨w.heap.size + 3, 0, none⟩, 2, rfl, ⟨.inl rfl, ?_⟩, balloc (balloc (balloc (balloc (b0 w) _) _) _) _⟩
    have hB := Blk.new (((w.alloc (.cells (ex1 x uax ucx aax acx) 43)).alloc (.cells (ex1 y uay ucy aay acy) 43)).alloc (.cells (exC ⟨{ h0 with k := 9 }, .cons x.h x.ar (.cons y.h y.ar .nil)⟩ none 0 (some ⟨w.heap.size + 3, 0, none⟩) 2) 43)) 43 (ex2 x uax ucx aax acx y uay ucy aay acy)
    rw [show (((w.alloc (.cells (ex1 x uax ucx aax acx) 43)).alloc (.cells (ex1 y uay ucy aay acy) 43)).alloc (.cells (exC ⟨{ h0 with k := 9 }, .cons x.h x.ar (.cons y.h y.ar .nil)⟩ none 0 (some ⟨w.heap.size + 3, 0, none⟩) 2) 43)).heap.size = w.heap.size + 3 by simp] at hB
    have hk := kp_of (C := C) (balloc (balloc (balloc (balloc (b0 w) (.cells (ex1 x uax ucx aax acx) 43)) (.cells (ex1 y uay ucy aay acy) 43)) (.cells (exC ⟨{ h0 with k := 9 }, .cons x.h x.ar (.cons y.h y.ar .nil)⟩ none 0 (some ⟨w.heap.size + 3, 0, none⟩) 2) 43)) (.cells (ex2 x uax ucx aax acx y uay ucy aay acy) 43))
    exact as_2 hB (EH.out.kp hk) (EH2.out.kp hk) (by omega)
  · rw [if_neg hop]
    rw [decide_eq_false hop] at q0
    clear hop
    unfold exC
    go_enter Tryz.func153, Tryz.ntmps153
    go_wp2_with fail
    refine ret_expr rfl _ _ (w.heap.size + 2) _ _ rfl (by have := (Blk.new ((w.alloc (.cells (ex1 x uax ucx aax acx) 43)).alloc (.cells (ex1 y uay ucy aay acy) 43)) 43 (exC ⟨{ h0 with k := 7, op := op }, .cons x.h x.ar (.cons y.h y.ar .nil)⟩ none 0 (some ⟨w.heap.size + 3, 0, none⟩) 2)).past (.cells (ex2 x uax ucx aax acx y uay ucy aay acy) 43); rw [show ((w.alloc (.cells (ex1 x uax ucx aax acx) 43)).alloc (.cells (ex1 y uay ucy aay acy) 43)).heap.size = w.heap.size + 2 by simp] at this; exact this) rfl ?_
    refine ⟨some ⟨w.heap.size + 3, 0, none⟩, 2, rfl, ⟨.inl rfl, ?_⟩, balloc (balloc (balloc (balloc (b0 w) _) _) _) _⟩
    have hB := Blk.new (((w.alloc (.cells (ex1 x uax ucx aax acx) 43)).alloc (.cells (ex1 y uay ucy aay acy) 43)).alloc (.cells (exC ⟨{ h0 with k := 7, op := op }, .cons x.h x.ar (.cons y.h y.ar .nil)⟩ none 0 (some ⟨w.heap.size + 3, 0, none⟩) 2) 43)) 43 (ex2 x uax ucx aax acx y uay ucy aay acy)
    rw [show (((w.alloc (.cells (ex1 x uax ucx aax acx) 43)).alloc (.cells (ex1 y uay ucy aay acy) 43)).alloc (.cells (exC ⟨{ h0 with k := 7, op := op }, .cons x.h x.ar (.cons y.h y.ar .nil)⟩ none 0 (some ⟨w.heap.size + 3, 0, none⟩) 2) 43)).heap.size = w.heap.size + 3 by simp] at hB
    have hk := kp_of (C := C) (balloc (balloc (balloc (balloc (b0 w) (.cells (ex1 x uax ucx aax acx) 43)) (.cells (ex1 y uay ucy aay acy) 43)) (.cells (exC ⟨{ h0 with k := 7, op := op }, .cons x.h x.ar (.cons y.h y.ar .nil)⟩ none 0 (some ⟨w.heap.size + 3, 0, none⟩) 2) 43)) (.cells (ex2 x uax ucx aax acx y uay ucy aay acy) 43))
    exact as_2 hB (EH.out.kp hk) (EH2.out.kp hk) (by omega)
end Go.Proofs.YtkgclmikhpjheaaGreatDoor.pa
namespace Go.Proofs.YtkgclmikhpjheaaGreatDoor.pa
open Go.RowKit dec

/-- None of the first operators of a rank follows. -/
def noneF (n j : Nat) (l : List Tk) : Prop := ∀ k (hk : k < (opL n).length), k < j → isT (opL n)[k] l = false
theorem opr_hit {n j : Nat} {l : List Tk} (h : noneF n j l) (hj : j < (opL n).length) (ht : isT (opL n)[j] l = true) : opr n l = (opL n)[j] := by
  unfold opr
  have : (opL n).find? (fun s => isT s l) = some (opL n)[j] := by
    rw [List.find?_eq_some_iff_getElem]
    refine ⟨ht, j, hj, rfl, fun k hk => ?_⟩
    rw [h k (by omega) hk]
    rfl
  rw [this]
  rfl
theorem opr_miss {n : Nat} {l : List Tk} (h : noneF n (opL n).length l) : opr n l = .empty := by
  unfold opr
  have : (opL n).find? (fun s => isT s l) = none := by
    rw [List.find?_eq_none]
    intro x hx
    obtain ⟨k, hk, rfl⟩ := List.getElem_of_mem hx
    rw [h k hk hk]
    decide
  rw [this]
  rfl
theorem opL_ne : ∀ (n : Nat), ∀ x ∈ opL n, x ≠ .empty := by
  intro n x hx
  rcases n with _ | _ | _ | _ | _ | n <;> simp only [opL, List.mem_cons, List.not_mem_nil, or_false] at hx
  all_goals (rcases hx with rfl | rfl | rfl | rfl) <;> (intro e; have := congrArg (fun b : ByteArray => b.size) e; revert this; decide)
theorem opL_len (n : Nat) : (opL n).length ≤ 4 := by
  rcases n with _ | _ | _ | _ | _ | n <;> simp [opL]
/-- The reader stands behind the operator, if one follows. -/
def Opp (B n : Nat) (l : List Tk) (w' : World) : Prop := Ps w' B (if opr n l = .empty then l else l.tail)
set_option maxRecDepth 100000 in
set_option maxHeartbeats 1000000 in
theorem operator_any (B : Nat) (i : Bool) (n : Nat) (hn : n < 6) (l : List Tk) (w : World) (h : Ps w B l) :
    Calls Tryz.prog 152 #[.agg #[.pointer (some ⟨B, 0, none⟩), .bool i], .int .i64 (n : Nat)] w fun e w' => e = .returned (.string (opr n l)) ∧ Opp B n l w' ∧ Mv w.heap.size B w w' := by
  have hlt := Lib.hid h.lt
  obtain ⟨w0, T, h0, hB⟩ := h.tb
  obtain ⟨b, off, cap, hc, hcs⟩ := T.ops n hn
  have h0' := h0.trans ((balloc (b0 w) (.cells #[.pointer (some ⟨B, 0, none⟩), .bool i] 107)).mono h0.size)
  have c0 := (h0'.cell (p := ⟨4, n, none⟩) (block_lt_of_cell hc)).trans hc
  have P := Lib.hid (h.keeps (balloc (b0 w) (.cells #[.pointer (some ⟨B, 0, none⟩), .bool i] 107)))
  have M := Lib.hid (Mv.of (B := B) (balloc (b0 w) (.cells #[.pointer (some ⟨B, 0, none⟩), .bool i] 107)))
  have SC := Lib.hid (Blk.new w 107 #[.pointer (some ⟨B, 0, none⟩), .bool i])
  have H0 := Lib.hid h0'
  have HC := Lib.hid hcs
  have HB := Lib.hid hB
  have h4 := Lib.hid (opL_len n)
  have q1 : (n : Int) < 6 := by omega
  have q2 : (0 : Int) ≤ (n : Int) := by omega
  clear h T h0 h0' hc hcs hB
  go_enter Tryz.func152, Tryz.ntmps152
  go_wp2_with fail
  clear c0 q1 q2
  obtain ⟨N, hN⟩ : ∃ N, (opL n).length = N := ⟨_, rfl⟩
  have NN := Lib.hid hN
  rw [hN] at h4
  rw [hN]
  clear hN
  go_loopw [11] (fun x wr => ∃ j : Nat, x = .int .i64 (j : Nat) ∧ Hid (j ≤ N) ∧ Hid (noneF n j l) ∧ Hid (Ps wr B l) ∧ Hid (Mv w.heap.size B w wr) ∧ Hid (Blk wr w.heap.size 107 #[.pointer (some ⟨B, 0, none⟩), .bool i]) ∧ Hid (Below w0.heap.size w0 wr)) (fun x _ => N - (intOf x).toNat)
  case atStart => exact ⟨0, rfl, Lib.hid (Nat.zero_le _), Lib.hid (fun k _ hk => absurd hk (Nat.not_lt_zero _)), P, M, SC, H0⟩
  case round =>
    clear P M SC H0
    obtain ⟨j, rfl, hj, hF, P, M, SC, H0⟩ := hrel
    by_cases hc : j < N
    · have hjl : j < (opL n).length := by have := NN.out; omega
      have c1 := (H0.out.cell (p := ⟨b, off + j, none⟩) (block_lt_of_cell (HC.out j hjl))).trans (HC.out j hjl)
      have q2 : decide ((j : Int) < (N : Int)) = true := decide_eq_true (by omega)
      have q3 : (j : Int) < (N : Int) := by omega
      have q4 : (0 : Int) ≤ (j : Int) := by omega
      have f4 := Lib.hid (next_at (j := j) (by have := h4.out; omega))
      have e0 := SC.out.cell 0
      cases ht : isT (opL n)[j] l
      · have hF2 := Lib.hid (show noneF n (j + 1) l from fun k hk hkj => by
          rcases Nat.lt_succ_iff_lt_or_eq.1 hkj with h | rfl
          · exact hF.out k hk h
          · exact ht)
        have HT := Lib.hid ht
        clear ht hF
        generalize (opL n)[j] = s at *
        go_wp2_with fail
        refine (skip_no B s l _ P.out HT.out).mono ?_
        rintro e w3 ⟨rfl, pp, mm⟩
        have P3 := Lib.hid pp
        have SC3 := Lib.hid (SC.out.mv mm (by have := hlt.out; omega) SC.out.lt)
        have M3 := Lib.hid (M.out.next mm)
        have H3 := Lib.hid (H0.out.trans (mm.below HB.out (by have := H0.out.size; omega)))
        clear pp mm P SC M H0 e0 c1
        go_wp2_with fail
        exact ⟨⟨j + 1, congrArg (Value.int .i64) f4.out, Lib.hid hc, hF2, P3, M3, SC3, H3⟩, less_at hc f4.out⟩
      · have hO := Lib.hid (opr_hit hF.out hjl ht)
        have hne := Lib.hid (opL_ne n _ (List.getElem_mem hjl))
        have HT := Lib.hid ht
        clear ht hF
        generalize (opL n)[j] = s at *
        go_wp2_with fail
        refine (skip_yes B s l _ P.out HT.out).mono ?_
        rintro e w3 ⟨rfl, pp, mm⟩
        have P3 := Lib.hid pp
        have M3 := Lib.hid (M.out.next mm)
        clear pp mm P SC M H0 e0 c1
        go_wp2_with fail
        go_ret
        refine ⟨by rw [hO.out]; rfl, ?_, M3.out⟩
        unfold Opp
        rw [if_neg (by rw [hO.out]; exact hne.out)]
        exact P3.out
    · have hO := Lib.hid (opr_miss (n := n) (l := l) (fun k hk h => hF.out k hk (by have := NN.out; omega)))
      have q2 : decide ((j : Int) < (N : Int)) = false := decide_eq_false (by omega)
      clear hF
      go_wp2_with fail
      go_ret
      refine ⟨by rw [hO.out]; rfl, ?_, M.out⟩
      unfold Opp
      rw [if_pos hO.out]
      exact P.out
end Go.Proofs.YtkgclmikhpjheaaGreatDoor.pa
namespace Go.Proofs.YtkgclmikhpjheaaGreatDoor.pa
open Go.RowKit dec

/-- What the methods of a scope do in f steps. -/
structure Rd (f : Nat) : Prop where
  ex : ∀ (B : Nat) (i : Bool) (l : List Tk) (w : World), Ps w B l → pz f i .ex l ≠ .out → Calls Tryz.prog 53 #[.agg #[.pointer (some ⟨B, 0, none⟩), .bool i]] w (Pst B Ev (pz f i .ex l) w)
  ng : ∀ (B : Nat) (i : Bool) (l : List Tk) (w : World), Ps w B l → pz f i .ng l ≠ .out → Calls Tryz.prog 151 #[.agg #[.pointer (some ⟨B, 0, none⟩), .bool i]] w (Pst B Ev (pz f i .ng l) w)
  pr : ∀ (B : Nat) (i : Bool) (l : List Tk) (w : World), Ps w B l → pz f i .pr l ≠ .out → Calls Tryz.prog 191 #[.agg #[.pointer (some ⟨B, 0, none⟩), .bool i]] w (Pst B Ev (pz f i .pr l) w)
  pa : ∀ (B : Nat) (i : Bool) (l : List Tk) (w : World), Ps w B l → pz f i .pa l ≠ .out → Calls Tryz.prog 228 #[.agg #[.pointer (some ⟨B, 0, none⟩), .bool i]] w (Pst B Ev (pz f i .pa l) w)
  ag : ∀ (B : Nat) (i : Bool) (l : List Tk) (w : World), Ps w B l → pz f i .ag l ≠ .out → Calls Tryz.prog 230 #[.agg #[.pointer (some ⟨B, 0, none⟩), .bool i]] w (Pst B Ev (pz f i .ag l) w)
  rf : ∀ (B : Nat) (i : Bool) (l : List Tk) (w : World), Ps w B l → pz f i .rf l ≠ .out → Calls Tryz.prog 231 #[.agg #[.pointer (some ⟨B, 0, none⟩), .bool i]] w (Pst B Ev (pz f i .rf l) w)
  op : ∀ (B : Nat) (i : Bool) (n : Nat) (l : List Tk) (w : World), n ≤ 6 → Ps w B l → pz f i (.op n) l ≠ .out → Calls Tryz.prog 97 #[.agg #[.pointer (some ⟨B, 0, none⟩), .bool i], .int .i64 (n : Nat)] w (Pst B Ev (pz f i (.op n) l) w)
set_option maxRecDepth 100000 in
set_option maxHeartbeats 1000000 in
theorem ng_step (f : Nat) (R : Rd f) (B : Nat) (i : Bool) (l : List Tk) (w : World) (h : Ps w B l) (r : Rs Ex) (hr : pz (f + 1) i .ng l = r) (hne : r ≠ .out) :
    Calls Tryz.prog 151 #[.agg #[.pointer (some ⟨B, 0, none⟩), .bool i]] w (Pst B Ev r w) := by
  have P := Lib.hid (h.keeps (balloc (balloc (b0 w) (.cells #[.pointer (some ⟨B, 0, none⟩), .bool i] 107)) (.cells zE 43)))
  have F := Lib.hid (Fr.start i h.lt)
  have NE := Lib.hid hne
  simp only [pz] at hr
  have HR := Lib.hid hr
  clear h hne hr
  cases ht : isT ⟨#[45]⟩ l
  · replace HR := HR.out
    rw [ht, if_neg (by decide), ← bind_id (pz f i .pr l)] at HR
    replace HR := Lib.hid HR
    have HT := Lib.hid ht
    clear ht
    go_enter Tryz.func151, Tryz.ntmps151
    go_wp2_with fail
    refine (skip_no B ⟨#[45]⟩ l _ P.out HT.out).mono ?_
    rintro e w1 ⟨rfl, pp, mm⟩
    replace F := Lib.hid (F.out.next mm)
    replace P := Lib.hid pp
    clear pp mm
    have e0 := F.out.c0
    have e1 := F.out.c1
    go_wp2_with fail
    have hF := Lib.hid F.out.lt
    refine (R.pr B i l _ P.out (ne_left (by rw [HR.out]; exact NE.out))).mono ?_
    rintro e w2 h2
    rcases hG2 : pz f i .pr l with _ | ⟨v2, l2⟩ | ⟨a2, c2, l2⟩
    · exact absurd (by rw [← HR.out, hG2]; rfl) NE.out
    rotate_left
    · rw [hG2] at h2
      obtain ⟨rfl, pp, mm⟩ := h2
      unfold thr
      have hno := Lib.hid (show r = .no a2 c2 l2 by rw [← HR.out, hG2]; rfl)
      have PP := Lib.hid pp
      have MM := Lib.hid ((F.out.next mm).mv)
      clear pp mm hG2 e0 e1
      go_wp2_with fail
      exact ⟨rfl, pst_no hno.out PP.out MM.out⟩
    rw [hG2] at h2
    obtain ⟨u2, rfl, vv, pp, mm⟩ := h2
    replace HR := HR.out
    rw [hG2] at HR
    simp only [bind_okE] at HR
    replace HR := Lib.hid HR
    replace F := Lib.hid (F.out.next mm)
    replace P := Lib.hid pp
    clear pp mm hG2
    have V2 := Lib.hid vv
    clear vv
    clear e0 e1
    obtain ⟨ua2, uc2, aa2, ac2, rfl, E2⟩ := V2.out
    replace E2 := Lib.hid (Ec.less E2 hF.out)
    clear V2 hF
    go_wp2_with (refine arm_store (.tmp 2) (.tmp 10) rfl rfl _ _ _ _ rfl rfl F.out.rz rfl rfl (exC_one _ _ _ _ _) ?_; intro w9 hb9 hs9)
    have F9 := F.out.set hs9 hb9
    have P9 := P.out.st hs9 (Nat.lt_succ_of_lt F.out.hB)
    refine ret_expr rfl _ _ _ _ _ rfl hb9 rfl ?_
    exact pst_ok HR.out.symm ⟨ua2, uc2, aa2, ac2, rfl, (E2.out.kp (hs9.kp (by omega))).less (by omega)⟩ P9 F9.mv
  · replace HR := HR.out
    rw [ht, if_pos rfl] at HR
    replace HR := Lib.hid HR
    have HT := Lib.hid ht
    clear ht
    go_enter Tryz.func151, Tryz.ntmps151
    go_wp2_with fail
    refine (skip_yes B ⟨#[45]⟩ l _ P.out HT.out).mono ?_
    rintro e w1 ⟨rfl, pp, mm⟩
    replace F := Lib.hid (F.out.next mm)
    replace P := Lib.hid pp
    clear pp mm
    have e0 := F.out.c0
    have e1 := F.out.c1
    go_wp2_with fail
    have hF := Lib.hid F.out.lt
    refine (R.ng B i l.tail _ P.out (ne_left (by rw [HR.out]; exact NE.out))).mono ?_
    rintro e w2 h2
    rcases hG2 : pz f i .ng l.tail with _ | ⟨v2, l2⟩ | ⟨a2, c2, l2⟩
    · exact absurd (by rw [← HR.out, hG2]; rfl) NE.out
    rotate_left
    · rw [hG2] at h2
      obtain ⟨rfl, pp, mm⟩ := h2
      unfold thr
      have hno := Lib.hid (show r = .no a2 c2 l2 by rw [← HR.out, hG2]; rfl)
      have PP := Lib.hid pp
      have MM := Lib.hid ((F.out.next mm).mv)
      clear pp mm hG2 e0 e1
      go_wp2_with fail
      exact ⟨rfl, pst_no hno.out PP.out MM.out⟩
    rw [hG2] at h2
    obtain ⟨u2, rfl, vv, pp, mm⟩ := h2
    replace HR := HR.out
    rw [hG2] at HR
    simp only [bind_okE] at HR
    replace HR := Lib.hid HR
    replace F := Lib.hid (F.out.next mm)
    replace P := Lib.hid pp
    clear pp mm hG2
    have V2 := Lib.hid vv
    clear vv
    clear e0 e1
    obtain ⟨ua2, uc2, aa2, ac2, rfl, E2⟩ := V2.out
    replace E2 := Lib.hid (Ec.less E2 hF.out)
    clear V2 hF
    go_wp2_with fail
    have hC := Lib.hid F.out.lt
    refine (unary_any ⟨#[45]⟩ v2 ua2 uc2 aa2 ac2 (w.heap.size + 2) w2 E2.out hC.out).mono ?_
    rintro e wU ⟨aaU, acU, rfl, EU, bb⟩
    replace EU := Lib.hid EU
    replace F := Lib.hid (F.out.nextB bb)
    replace P := Lib.hid (P.out.keeps bb)
    clear bb
    go_wp2_with (refine arm_store (.tmp 2) (.tmp 8) rfl rfl _ _ _ _ rfl rfl F.out.rz rfl rfl (exC_one _ _ _ _ _) ?_; intro w9 hb9 hs9)
    have F9 := F.out.set hs9 hb9
    have P9 := P.out.st hs9 (Nat.lt_succ_of_lt F.out.hB)
    refine ret_expr rfl _ _ _ _ _ rfl hb9 rfl ?_
    exact pst_ok HR.out.symm ⟨none, 0, aaU, acU, rfl, (EU.out.kp (hs9.kp (by omega))).less (by omega)⟩ P9 F9.mv
set_option maxRecDepth 100000 in
set_option maxHeartbeats 1000000 in
theorem pa_step (f : Nat) (R : Rd f) (B : Nat) (i : Bool) (l : List Tk) (w : World) (h : Ps w B l) (r : Rs Ex) (hr : pz (f + 1) i .pa l = r) (hne : r ≠ .out) :
    Calls Tryz.prog 228 #[.agg #[.pointer (some ⟨B, 0, none⟩), .bool i]] w (Pst B Ev r w) := by
  have P := Lib.hid (h.keeps (balloc (balloc (b0 w) (.cells #[.pointer (some ⟨B, 0, none⟩), .bool i] 107)) (.cells zE 43)))
  have F := Lib.hid (Fr.start i h.lt)
  have NE := Lib.hid hne
  simp only [pz] at hr
  have HR := Lib.hid hr
  clear h hne hr
  go_enter Tryz.func228, Tryz.ntmps228
  go_wp2_with fail
  have hF := Lib.hid F.out.lt
  refine (need_any B ⟨#[40]⟩ l _ P.out).mono ?_
  rintro e w1 h1
  rcases hG1 : need ⟨#[40]⟩ l with _ | ⟨v1, l1⟩ | ⟨a1, c1, l1⟩
  · exact absurd (by rw [← HR.out, hG1]; rfl) NE.out
  rotate_left
  · rw [hG1] at h1
    obtain ⟨rfl, pp, mm⟩ := h1
    unfold thr
    have hno := Lib.hid (show r = .no a1 c1 l1 by rw [← HR.out, hG1]; rfl)
    have PP := Lib.hid pp
    have MM := Lib.hid ((F.out.next mm).mv)
    clear pp mm hG1
    go_wp2_with fail
    exact ⟨rfl, pst_no hno.out PP.out MM.out⟩
  rw [hG1] at h1
  obtain ⟨u1, rfl, vv, pp, mm⟩ := h1
  replace HR := HR.out
  rw [hG1] at HR
  simp only [bind_okE] at HR
  replace HR := Lib.hid HR
  replace F := Lib.hid (F.out.next mm)
  replace P := Lib.hid pp
  clear pp mm hG1
  obtain rfl : u1 = .tuple #[] := vv
  clear hF
  have e0 := F.out.c0
  have e1 := F.out.c1
  go_wp2_with fail
  have hF := Lib.hid F.out.lt
  refine (R.ex B i l1 _ P.out (ne_left (by rw [HR.out]; exact NE.out))).mono ?_
  rintro e w2 h2
  rcases hG2 : pz f i .ex l1 with _ | ⟨v2, l2⟩ | ⟨a2, c2, l2⟩
  · exact absurd (by rw [← HR.out, hG2]; rfl) NE.out
  rotate_left
  · rw [hG2] at h2
    obtain ⟨rfl, pp, mm⟩ := h2
    unfold thr
    have hno := Lib.hid (show r = .no a2 c2 l2 by rw [← HR.out, hG2]; rfl)
    have PP := Lib.hid pp
    have MM := Lib.hid ((F.out.next mm).mv)
    clear pp mm hG2 e0 e1
    go_wp2_with fail
    exact ⟨rfl, pst_no hno.out PP.out MM.out⟩
  rw [hG2] at h2
  obtain ⟨u2, rfl, vv, pp, mm⟩ := h2
  replace HR := HR.out
  rw [hG2] at HR
  simp only [bind_okE] at HR
  replace HR := Lib.hid HR
  replace F := Lib.hid (F.out.next mm)
  replace P := Lib.hid pp
  clear pp mm hG2
  have V2 := Lib.hid vv
  clear vv
  clear e0 e1
  obtain ⟨ua2, uc2, aa2, ac2, rfl, E2⟩ := V2.out
  replace E2 := Lib.hid (Ec.less E2 hF.out)
  clear V2 hF
  go_wp2_with (refine arm_store (.tmp 3) (.tmp 8) rfl rfl _ _ _ _ rfl rfl (Blk.new _ _ _) rfl rfl (exC_one _ _ _ _ _) ?_; intro w2L L3 hs; have bb := (balloc (b0 w2) _).trans (hs.below (Nat.le_refl _)); replace L3 := Lib.hid L3; have gB3 := Lib.hid (show B < w2.heap.size from by have := F.out.lt; have := F.out.hB; omega); have gF3 := Lib.hid F.out.lt; replace F := Lib.hid (F.out.nextB bb); replace E2 := Lib.hid (E2.out.kp (kp_of bb)); replace P := Lib.hid (P.out.keeps bb); clear bb hs; have e0 := F.out.c0; have e1 := F.out.c1)
  have hF := Lib.hid F.out.lt
  refine (need_any B ⟨#[41]⟩ l2 _ P.out).mono ?_
  rintro e w3 h3
  rcases hG3 : need ⟨#[41]⟩ l2 with _ | ⟨v3, l3⟩ | ⟨a3, c3, l3⟩
  · exact absurd (by rw [← HR.out, hG3]; rfl) NE.out
  rotate_left
  · rw [hG3] at h3
    obtain ⟨rfl, pp, mm⟩ := h3
    unfold thr
    have hno := Lib.hid (show r = .no a3 c3 l3 by rw [← HR.out, hG3]; rfl)
    have PP := Lib.hid pp
    have MM := Lib.hid ((F.out.next mm).mv)
    clear pp mm hG3 e0 e1
    go_wp2_with fail
    exact ⟨rfl, pst_no hno.out PP.out MM.out⟩
  rw [hG3] at h3
  obtain ⟨u3, rfl, vv, pp, mm⟩ := h3
  replace HR := HR.out
  rw [hG3] at HR
  simp only [bind_okE] at HR
  replace HR := Lib.hid HR
  replace F := Lib.hid (F.out.next mm)
  replace E2 := Lib.hid (E2.out.kp (mm.kp (Nat.lt_of_lt_of_le F.out.hB (Nat.le_add_right _ 2))))
  replace L3 := Lib.hid (L3.out.mv mm (by have := gB3.out; omega) L3.out.lt)
  replace P := Lib.hid pp
  clear pp mm hG3
  obtain rfl : u3 = .tuple #[] := vv
  clear e0 e1
  clear hF
  go_wp2_with (first | (refine arm_load (.tmp 3) rfl rfl _ _ _ rfl L3.out rfl ?_) | (refine arm_store (.tmp 2) (.tmp 12) rfl rfl _ _ _ _ rfl rfl F.out.rz rfl rfl (exC_one _ _ _ _ _) ?_; intro w9 hb9 hs9))
  have F9 := F.out.set hs9 hb9
  have P9 := P.out.st hs9 (Nat.lt_succ_of_lt F.out.hB)
  refine ret_expr rfl _ _ _ _ _ rfl hb9 rfl ?_
  exact pst_ok HR.out.symm ⟨ua2, uc2, aa2, ac2, rfl, (E2.out.kp (hs9.kp (by omega))).less (by omega)⟩ P9 F9.mv
end Go.Proofs.YtkgclmikhpjheaaGreatDoor.pa
namespace Go.Proofs.YtkgclmikhpjheaaGreatDoor.pa
open Go.RowKit dec

theorem St.trans {g : Nat} {a b c : World} (h : St g a b) (k : St g b c) : St g a c := ⟨k.os.trans h.os, k.tape.trans h.tape, k.output.trans h.output, k.size.trans h.size, fun i hi => (k.block i hi).trans (h.block i hi)⟩
set_option maxRecDepth 100000 in
set_option maxHeartbeats 1000000 in
theorem rf_step (f : Nat) (R : Rd f) (B : Nat) (i : Bool) (l : List Tk) (w : World) (h : Ps w B l) (r : Rs Ex) (hr : pz (f + 1) i .rf l = r) (hne : r ≠ .out) :
    Calls Tryz.prog 231 #[.agg #[.pointer (some ⟨B, 0, none⟩), .bool i]] w (Pst B Ev r w) := by
  have P := Lib.hid (h.keeps (balloc (balloc (b0 w) (.cells #[.pointer (some ⟨B, 0, none⟩), .bool i] 107)) (.cells zE 43)))
  have F := Lib.hid (Fr.start i h.lt)
  have NE := Lib.hid hne
  simp only [pz] at hr
  have HR := Lib.hid hr
  clear h hne hr
  go_enter Tryz.func231, Tryz.ntmps231
  go_wp2_with fail
  have hF := Lib.hid F.out.lt
  refine (name_r B l _ P.out _ rfl (nam_ne _)).mono ?_
  rintro e w1 h1
  rcases hG1 : nam l with _ | ⟨v1, l1⟩ | ⟨a1, c1, l1⟩
  · exact absurd (by rw [← HR.out, hG1]; rfl) NE.out
  rotate_left
  · rw [hG1] at h1
    obtain ⟨rfl, pp, mm⟩ := h1
    unfold thr
    have hno := Lib.hid (show r = .no a1 c1 l1 by rw [← HR.out, hG1]; rfl)
    have PP := Lib.hid pp
    have MM := Lib.hid ((F.out.next mm).mv)
    clear pp mm hG1
    go_wp2_with fail
    exact ⟨rfl, pst_no hno.out PP.out MM.out⟩
  rw [hG1] at h1
  obtain ⟨u1, rfl, vv, pp, mm⟩ := h1
  replace HR := HR.out
  rw [hG1] at HR
  simp only [bind_okE] at HR
  replace HR := Lib.hid HR
  replace F := Lib.hid (F.out.next mm)
  replace P := Lib.hid pp
  clear pp mm hG1
  obtain rfl : u1 = .string v1 := vv
  clear hF
  cases ht : isT ⟨#[111, 102]⟩ l1
  · replace HR := HR.out
    rw [ht, if_neg (by decide)] at HR
    replace HR := Lib.hid HR
    have HT := Lib.hid ht
    clear ht
    have e0 := F.out.c0
    have e1 := F.out.c1
    go_wp2_with fail
    refine (skip_no B ⟨#[111, 102]⟩ l1 _ P.out HT.out).mono ?_
    rintro e w2 ⟨rfl, pp, mm⟩
    replace F := Lib.hid (F.out.next mm)
    replace P := Lib.hid pp
    clear pp mm
    clear e0 e1
    go_wp2_with (refine arm_store (.tmp 2) (.tmp 16) rfl rfl _ _ _ _ rfl rfl F.out.rz rfl rfl (by simp [Value.oneCell']) ?_; intro w9 hb9 hs9)
    have F9 := F.out.set hs9 hb9
    have P9 := P.out.st hs9 (Nat.lt_succ_of_lt F.out.hB)
    refine ret_expr rfl _ _ _ _ _ rfl hb9 rfl ?_
    exact pst_ok HR.out.symm ⟨none, 0, none, 0, rfl, ⟨.inl rfl, .inl rfl⟩⟩ P9 F9.mv
  · replace HR := HR.out
    rw [ht, if_pos rfl] at HR
    replace HR := Lib.hid HR
    have HT := Lib.hid ht
    clear ht
    have e0 := F.out.c0
    have e1 := F.out.c1
    go_wp2_with fail
    refine (skip_yes B ⟨#[111, 102]⟩ l1 _ P.out HT.out).mono ?_
    rintro e w2 ⟨rfl, pp, mm⟩
    replace F := Lib.hid (F.out.next mm)
    replace P := Lib.hid pp
    clear pp mm
    clear e0 e1
    have e0 := F.out.c0
    have e1 := F.out.c1
    go_wp2_with fail
    have hF := Lib.hid F.out.lt
    refine (R.pa B i l1.tail _ P.out (ne_left (by rw [HR.out]; exact NE.out))).mono ?_
    rintro e w3 h3
    rcases hG3 : pz f i .pa l1.tail with _ | ⟨v3, l3⟩ | ⟨a3, c3, l3⟩
    · exact absurd (by rw [← HR.out, hG3]; rfl) NE.out
    rotate_left
    · rw [hG3] at h3
      obtain ⟨rfl, pp, mm⟩ := h3
      unfold thr
      have hno := Lib.hid (show r = .no a3 c3 l3 by rw [← HR.out, hG3]; rfl)
      have PP := Lib.hid pp
      have MM := Lib.hid ((F.out.next mm).mv)
      clear pp mm hG3 e0 e1
      go_wp2_with fail
      exact ⟨rfl, pst_no hno.out PP.out MM.out⟩
    rw [hG3] at h3
    obtain ⟨u3, rfl, vv, pp, mm⟩ := h3
    replace HR := HR.out
    rw [hG3] at HR
    simp only [bind_okE] at HR
    replace HR := Lib.hid HR
    replace F := Lib.hid (F.out.next mm)
    replace P := Lib.hid pp
    clear pp mm hG3
    have V3 := Lib.hid vv
    clear vv
    clear e0 e1
    obtain ⟨ua3, uc3, aa3, ac3, rfl, E3⟩ := V3.out
    replace E3 := Lib.hid (Ec.less E3 hF.out)
    clear V3 hF
    simp only [exC]
    go_wp2_with (refine arm_store (.tmp 2) (.tmp 14) rfl rfl _ _ _ _ rfl rfl (F.out.alloc _).rz rfl rfl (by simp [Value.oneCell']) ?_; intro w9 hb9 hs9)
    have hB := Blk.new w3 43 (ex1 v3 ua3 uc3 aa3 ac3)
    have bb := balloc (b0 w3) (.cells (ex1 v3 ua3 uc3 aa3 ac3) 43)
    have F9 := (F.out.alloc (.cells (ex1 v3 ua3 uc3 aa3 ac3) 43)).set hs9 hb9
    have P9 := (P.out.keeps bb).st hs9 (Nat.lt_succ_of_lt F.out.hB)
    have A9 := ((as_1 hB (E3.out.kp (kp_of bb)) F.out.lt).kp (hs9.kp (by omega))).less (show w.heap.size ≤ w.heap.size + 2 by omega)
    refine ret_expr rfl _ _ _ _ _ rfl hb9 rfl ?_
    exact pst_ok HR.out.symm ⟨none, 0, some ⟨w3.heap.size, 0, none⟩, 1, rfl, ⟨.inl rfl, A9⟩⟩ P9 F9.mv
set_option maxRecDepth 100000 in
set_option maxHeartbeats 1000000 in
theorem key_r (B : Nat) (i : Bool) (l : List Tk) (w : World) (h : Ps w B l) (r : Rs Ex) (hr : key l = r) (hne : r ≠ .out) :
    Calls Tryz.prog 227 #[.agg #[.pointer (some ⟨B, 0, none⟩), .bool i]] w (Pst B Ev r w) := by
  have P := Lib.hid (h.keeps (balloc (balloc (b0 w) (.cells #[.pointer (some ⟨B, 0, none⟩), .bool i] 107)) (.cells zE 43)))
  have F := Lib.hid (Fr.start i h.lt)
  have NE := Lib.hid hne
  have F2 := mi_prob
  unfold key at hr
  have HR := Lib.hid hr
  clear h hne hr
  go_enter Tryz.func227, Tryz.ntmps227
  go_wp2_with fail
  have hF := Lib.hid F.out.lt
  refine (nameAfter_r B ⟨#[64]⟩ l _ P.out _ rfl (nma_ne _ _)).mono ?_
  rintro e w1 h1
  rcases hG1 : nma ⟨#[64]⟩ l with _ | ⟨v1, l1⟩ | ⟨a1, c1, l1⟩
  · exact absurd (by rw [← HR.out, hG1]; rfl) NE.out
  rotate_left
  · rw [hG1] at h1
    obtain ⟨rfl, pp, mm⟩ := h1
    unfold thr
    have hno := Lib.hid (show r = .no a1 c1 l1 by rw [← HR.out, hG1]; rfl)
    have PP := Lib.hid pp
    have MM := Lib.hid ((F.out.next mm).mv)
    clear pp mm hG1
    go_wp2_with fail
    exact ⟨rfl, pst_no hno.out PP.out MM.out⟩
  rw [hG1] at h1
  obtain ⟨u1, rfl, vv, pp, mm⟩ := h1
  replace HR := HR.out
  rw [hG1] at HR
  simp only [bind_okE] at HR
  replace HR := Lib.hid HR
  replace F := Lib.hid (F.out.next mm)
  replace P := Lib.hid pp
  clear pp mm hG1
  obtain rfl : u1 = .string v1 := vv
  clear hF
  have bb := balloc (b0 w1) (.cells #[.int .i64 1, .string ⟨#[]⟩, .string v1, .string ⟨#[]⟩, .int .i64 0, .int .i64 0, .string ⟨#[]⟩, .slice none 0 0, .int .i64 0, .int .i64 0, .int .i64 0, .slice none 0 0] 43)
  have L3 := Lib.hid (Blk.new w1 43 #[.int .i64 1, .string ⟨#[]⟩, .string v1, .string ⟨#[]⟩, .int .i64 0, .int .i64 0, .string ⟨#[]⟩, .slice none 0 0, .int .i64 0, .int .i64 0, .int .i64 0, .slice none 0 0])
  have gB3 := Lib.hid (show w.heap.size + 1 < w1.heap.size from by have := F.out.lt; omega)
  replace F := Lib.hid (F.out.nextB bb)
  replace P := Lib.hid (P.out.keeps bb)
  clear bb
  have C1 := Lib.hid (now_any B l1 _ P.out)
  have F1 := tf2
  have e0 := F.out.c0
  have e1 := F.out.c1
  have SZ := Lib.hid (fun v l2 => tak_size (k := 4) (l := l1) (v := v) (r := l2) P.out.tl)
  generalize (hd l1).k = xk at *
  generalize (hd l1).t = xt at *
  generalize (hd l1).a = xa at *
  go_wp2_with fail
  refine (C1.out).mono ?_
  rintro e w2 ⟨rfl, b⟩
  have mm := Mv.of (B := B) b
  replace F := Lib.hid (F.out.next mm)
  replace L3 := Lib.hid (L3.out.mv mm (by have := gB3.out; have := F.out.hB; omega) L3.out.lt)
  replace P := Lib.hid (P.out.keeps b)
  clear mm b
  clear e0 e1
  have e0 := F.out.c0
  have e1 := F.out.c1
  go_wp2_with fail
  clear C1 F1
  have hF := Lib.hid F.out.lt
  refine (take_any B 4 (by decide) l1 _ P.out).mono ?_
  rintro e w3 h3
  rcases hG3 : tak 4 l1 with _ | ⟨v3, l3⟩ | ⟨a3, c3, l3⟩
  · exact absurd (by rw [← HR.out, hG3]; rfl) NE.out
  rotate_left
  · rw [hG3] at h3
    obtain ⟨rfl, pp, mm⟩ := h3
    unfold thr
    have hno := Lib.hid (show r = .no a3 c3 l3 by rw [← HR.out, hG3]; rfl)
    have PP := Lib.hid pp
    have MM := Lib.hid ((F.out.next mm).mv)
    clear pp mm hG3 e0 e1
    go_wp2_with fail
    exact ⟨rfl, pst_no hno.out PP.out MM.out⟩
  rw [hG3] at h3
  obtain ⟨u3, rfl, vv, pp, mm⟩ := h3
  replace HR := HR.out
  rw [hG3] at HR
  simp only [bind_okE] at HR
  replace HR := Lib.hid HR
  replace F := Lib.hid (F.out.next mm)
  replace L3 := Lib.hid (L3.out.mv mm (by have := gB3.out; have := F.out.hB; omega) L3.out.lt)
  replace P := Lib.hid pp
  have hsz := Lib.hid (SZ.out _ _ hG3)
  clear pp mm hG3
  obtain rfl : u3 = .string v3 := vv
  clear e0 e1
  clear hF
  have c4 := L3.out.cell 4
  have c5 := L3.out.cell 5
  have c6 := L3.out.cell 6
  have z4 := L3.out.free 4
  have z5 := L3.out.free 5
  have z6 := L3.out.free 6
  have k4 := L3.out.setCell 4 (.int .i64 5)
  have k5 := k4.1.setCell 5 (.int .i64 0)
  have k6 := k5.1.setCell 6 (.string v3)
  have S6 := Lib.hid (St.trans (St.trans k4.2 k5.2) k6.2)
  have L6 := Lib.hid (show Blk _ w1.heap.size 43 (exC (keyE v1 v3) none 0 none 0) from k6.1)
  clear k4 k5 k6
  go_wp2_with fail
  replace P := Lib.hid (P.out.st S6.out (by have := gB3.out; have := F.out.hB; omega))
  replace F := Lib.hid (F.out.st S6.out gB3.out)
  clear c4 c5 c6 z4 z5 z6 S6 L3
  generalize ((w3.setCell ⟨w1.heap.size, 4, none⟩ (.int .i64 5)).setCell ⟨w1.heap.size, 5, none⟩ (.int .i64 0)).setCell ⟨w1.heap.size, 6, none⟩ (.string v3) = w4 at *
  generalize w1.heap.size = g3 at *
  refine (check_any 5 0 v3 hsz.out w4).mono ?_
  rintro e w5 ⟨rfl, bb⟩
  replace F := Lib.hid (F.out.nextB bb)
  replace P := Lib.hid (P.out.keeps bb)
  replace L6 := Lib.hid (L6.out.below bb L6.out.lt)
  clear bb
  by_cases hk : ck ⟨5, 0, v3⟩ = 0
  · have q1 : (ck ⟨5, 0, v3⟩ != 0) = false := by simp [hk]
    replace HR := HR.out
    rw [if_pos hk] at HR
    replace HR := Lib.hid HR
    clear hk
    generalize ck ⟨5, 0, v3⟩ = ce at *
    go_wp2_with (first | (refine arm_load (.tmp 3) rfl rfl _ _ _ rfl L6.out rfl ?_) | (refine arm_store (.tmp 2) (.tmp 25) rfl rfl _ _ _ _ rfl rfl F.out.rz rfl rfl (exC_one _ _ _ _ _) ?_; intro w9 hb9 hs9))
    have F9 := F.out.set hs9 hb9
    have P9 := P.out.st hs9 (Nat.lt_succ_of_lt F.out.hB)
    refine ret_expr rfl _ _ _ _ _ rfl hb9 rfl ?_
    exact pst_ok HR.out.symm ⟨none, 0, none, 0, rfl, ⟨.inl rfl, .inl rfl⟩⟩ P9 F9.mv
  · have q1 : (ck ⟨5, 0, v3⟩ != 0) = true := by simp [hk]
    replace HR := HR.out
    rw [if_neg hk] at HR
    replace HR := Lib.hid HR
    clear hk
    generalize ck ⟨5, 0, v3⟩ = ce at *
    go_wp2_with fail
    exact ⟨rfl, pst_no HR.out.symm P.out F.out.mv⟩
set_option maxRecDepth 100000 in
set_option maxHeartbeats 1000000 in
theorem ex_step (f : Nat) (R : Rd f) (B : Nat) (i : Bool) (l : List Tk) (w : World) (h : Ps w B l) (r : Rs Ex) (hr : pz (f + 1) i .ex l = r) (hne : r ≠ .out) :
    Calls Tryz.prog 53 #[.agg #[.pointer (some ⟨B, 0, none⟩), .bool i]] w (Pst B Ev r w) := by
  have P := Lib.hid (h.keeps (balloc (balloc (b0 w) (.cells #[.pointer (some ⟨B, 0, none⟩), .bool i] 107)) (.cells zE 43)))
  have F := Lib.hid (Fr.start i h.lt)
  have NE := Lib.hid hne
  simp only [pz] at hr
  have HR := Lib.hid hr
  clear h hne hr
  cases ht : isT ⟨#[105, 102]⟩ l
  · replace HR := HR.out
    rw [ht, if_neg (by decide), ← bind_id (pz f i (.op 0) l)] at HR
    replace HR := Lib.hid HR
    have HT := Lib.hid ht
    clear ht
    go_enter Tryz.func53, Tryz.ntmps53
    go_wp2_with fail
    refine (skip_no B ⟨#[105, 102]⟩ l _ P.out HT.out).mono ?_
    rintro e w1 ⟨rfl, pp, mm⟩
    replace F := Lib.hid (F.out.next mm)
    replace P := Lib.hid pp
    clear pp mm
    have e0 := F.out.c0
    have e1 := F.out.c1
    go_wp2_with fail
    have hF := Lib.hid F.out.lt
    refine (R.op B i 0 l _ (Nat.zero_le _) P.out (ne_left (by rw [HR.out]; exact NE.out))).mono ?_
    rintro e w2 h2
    rcases hG2 : pz f i (.op 0) l with _ | ⟨v2, l2⟩ | ⟨a2, c2, l2⟩
    · exact absurd (by rw [← HR.out, hG2]; rfl) NE.out
    rotate_left
    · rw [hG2] at h2
      obtain ⟨rfl, pp, mm⟩ := h2
      unfold thr
      have hno := Lib.hid (show r = .no a2 c2 l2 by rw [← HR.out, hG2]; rfl)
      have PP := Lib.hid pp
      have MM := Lib.hid ((F.out.next mm).mv)
      clear pp mm hG2 e0 e1
      go_wp2_with fail
      exact ⟨rfl, pst_no hno.out PP.out MM.out⟩
    rw [hG2] at h2
    obtain ⟨u2, rfl, vv, pp, mm⟩ := h2
    replace HR := HR.out
    rw [hG2] at HR
    simp only [bind_okE] at HR
    replace HR := Lib.hid HR
    replace F := Lib.hid (F.out.next mm)
    replace P := Lib.hid pp
    clear pp mm hG2
    have V2 := Lib.hid vv
    clear vv
    clear e0 e1
    obtain ⟨ua2, uc2, aa2, ac2, rfl, E2⟩ := V2.out
    replace E2 := Lib.hid (Ec.less E2 hF.out)
    clear V2 hF
    go_wp2_with (refine arm_store (.tmp 2) (.tmp 10) rfl rfl _ _ _ _ rfl rfl F.out.rz rfl rfl (exC_one _ _ _ _ _) ?_; intro w9 hb9 hs9)
    have F9 := F.out.set hs9 hb9
    have P9 := P.out.st hs9 (Nat.lt_succ_of_lt F.out.hB)
    refine ret_expr rfl _ _ _ _ _ rfl hb9 rfl ?_
    exact pst_ok HR.out.symm ⟨ua2, uc2, aa2, ac2, rfl, (E2.out.kp (hs9.kp (by omega))).less (by omega)⟩ P9 F9.mv
  · replace HR := HR.out
    rw [ht, if_pos rfl] at HR
    replace HR := Lib.hid HR
    have HT := Lib.hid ht
    clear ht
    go_enter Tryz.func53, Tryz.ntmps53
    go_wp2_with fail
    refine (skip_yes B ⟨#[105, 102]⟩ l _ P.out HT.out).mono ?_
    rintro e w1 ⟨rfl, pp, mm⟩
    replace F := Lib.hid (F.out.next mm)
    replace P := Lib.hid pp
    clear pp mm
    have e0 := F.out.c0
    have e1 := F.out.c1
    go_wp2_with fail
    have hF := Lib.hid F.out.lt
    refine (R.ex B i l.tail _ P.out (ne_left (by rw [HR.out]; exact NE.out))).mono ?_
    rintro e w2 h2
    rcases hG2 : pz f i .ex l.tail with _ | ⟨v2, l2⟩ | ⟨a2, c2, l2⟩
    · exact absurd (by rw [← HR.out, hG2]; rfl) NE.out
    rotate_left
    · rw [hG2] at h2
      obtain ⟨rfl, pp, mm⟩ := h2
      unfold thr
      have hno := Lib.hid (show r = .no a2 c2 l2 by rw [← HR.out, hG2]; rfl)
      have PP := Lib.hid pp
      have MM := Lib.hid ((F.out.next mm).mv)
      clear pp mm hG2 e0 e1
      go_wp2_with fail
      exact ⟨rfl, pst_no hno.out PP.out MM.out⟩
    rw [hG2] at h2
    obtain ⟨u2, rfl, vv, pp, mm⟩ := h2
    replace HR := HR.out
    rw [hG2] at HR
    simp only [bind_okE] at HR
    replace HR := Lib.hid HR
    replace F := Lib.hid (F.out.next mm)
    replace P := Lib.hid pp
    clear pp mm hG2
    have V2 := Lib.hid vv
    clear vv
    clear e0 e1
    obtain ⟨ua2, uc2, aa2, ac2, rfl, E2⟩ := V2.out
    replace E2 := Lib.hid (Ec.less E2 hF.out)
    clear V2 hF
    go_wp2_with (refine arm_store (.tmp 3) (.tmp 12) rfl rfl _ _ _ _ rfl rfl (Blk.new _ _ _) rfl rfl (exC_one _ _ _ _ _) ?_; intro w2L L3 hs; have bb := (balloc (b0 w2) _).trans (hs.below (Nat.le_refl _)); replace L3 := Lib.hid L3; have gB3 := Lib.hid (show B < w2.heap.size from by have := F.out.lt; have := F.out.hB; omega); have gF3 := Lib.hid F.out.lt; replace F := Lib.hid (F.out.nextB bb); replace E2 := Lib.hid (E2.out.kp (kp_of bb)); replace P := Lib.hid (P.out.keeps bb); clear bb hs; have e0 := F.out.c0; have e1 := F.out.c1)
    have hF := Lib.hid F.out.lt
    refine (need_any B ⟨#[116, 104, 101, 110]⟩ l2 _ P.out).mono ?_
    rintro e w3 h3
    rcases hG3 : need ⟨#[116, 104, 101, 110]⟩ l2 with _ | ⟨v3, l3⟩ | ⟨a3, c3, l3⟩
    · exact absurd (by rw [← HR.out, hG3]; rfl) NE.out
    rotate_left
    · rw [hG3] at h3
      obtain ⟨rfl, pp, mm⟩ := h3
      unfold thr
      have hno := Lib.hid (show r = .no a3 c3 l3 by rw [← HR.out, hG3]; rfl)
      have PP := Lib.hid pp
      have MM := Lib.hid ((F.out.next mm).mv)
      clear pp mm hG3 e0 e1
      go_wp2_with fail
      exact ⟨rfl, pst_no hno.out PP.out MM.out⟩
    rw [hG3] at h3
    obtain ⟨u3, rfl, vv, pp, mm⟩ := h3
    replace HR := HR.out
    rw [hG3] at HR
    simp only [bind_okE] at HR
    replace HR := Lib.hid HR
    replace F := Lib.hid (F.out.next mm)
    replace E2 := Lib.hid (E2.out.kp (mm.kp (Nat.lt_of_lt_of_le F.out.hB (Nat.le_add_right _ 2))))
    replace L3 := Lib.hid (L3.out.mv mm (by have := gB3.out; omega) L3.out.lt)
    replace P := Lib.hid pp
    clear pp mm hG3
    obtain rfl : u3 = .tuple #[] := vv
    clear e0 e1
    clear hF
    have e0 := F.out.c0
    have e1 := F.out.c1
    go_wp2_with fail
    have hF := Lib.hid F.out.lt
    refine (R.ex B i l3 _ P.out (ne_left (by rw [HR.out]; exact NE.out))).mono ?_
    rintro e w4 h4
    rcases hG4 : pz f i .ex l3 with _ | ⟨v4, l4⟩ | ⟨a4, c4, l4⟩
    · exact absurd (by rw [← HR.out, hG4]; rfl) NE.out
    rotate_left
    · rw [hG4] at h4
      obtain ⟨rfl, pp, mm⟩ := h4
      unfold thr
      have hno := Lib.hid (show r = .no a4 c4 l4 by rw [← HR.out, hG4]; rfl)
      have PP := Lib.hid pp
      have MM := Lib.hid ((F.out.next mm).mv)
      clear pp mm hG4 e0 e1
      go_wp2_with fail
      exact ⟨rfl, pst_no hno.out PP.out MM.out⟩
    rw [hG4] at h4
    obtain ⟨u4, rfl, vv, pp, mm⟩ := h4
    replace HR := HR.out
    rw [hG4] at HR
    simp only [bind_okE] at HR
    replace HR := Lib.hid HR
    replace F := Lib.hid (F.out.next mm)
    replace E2 := Lib.hid (E2.out.kp (mm.kp (Nat.lt_of_lt_of_le F.out.hB (Nat.le_add_right _ 2))))
    replace L3 := Lib.hid (L3.out.mv mm (by have := gB3.out; omega) L3.out.lt)
    replace P := Lib.hid pp
    clear pp mm hG4
    have V4 := Lib.hid vv
    clear vv
    clear e0 e1
    obtain ⟨ua4, uc4, aa4, ac4, rfl, E4⟩ := V4.out
    replace E4 := Lib.hid (Ec.less E4 hF.out)
    clear V4 hF
    go_wp2_with (refine arm_store (.tmp 4) (.tmp 17) rfl rfl _ _ _ _ rfl rfl (Blk.new _ _ _) rfl rfl (exC_one _ _ _ _ _) ?_; intro w4L L4 hs; have bb := (balloc (b0 w4) _).trans (hs.below (Nat.le_refl _)); replace L4 := Lib.hid L4; have gB4 := Lib.hid (show B < w4.heap.size from by have := F.out.lt; have := F.out.hB; omega); have gF4 := Lib.hid F.out.lt; replace F := Lib.hid (F.out.nextB bb); replace E2 := Lib.hid (E2.out.kp (kp_of bb)); replace L3 := Lib.hid (L3.out.below bb L3.out.lt); replace E4 := Lib.hid (E4.out.kp (kp_of bb)); replace P := Lib.hid (P.out.keeps bb); clear bb hs; have e0 := F.out.c0; have e1 := F.out.c1)
    have hF := Lib.hid F.out.lt
    refine (need_any B ⟨#[101, 108, 115, 101]⟩ l4 _ P.out).mono ?_
    rintro e w5 h5
    rcases hG5 : need ⟨#[101, 108, 115, 101]⟩ l4 with _ | ⟨v5, l5⟩ | ⟨a5, c5, l5⟩
    · exact absurd (by rw [← HR.out, hG5]; rfl) NE.out
    rotate_left
    · rw [hG5] at h5
      obtain ⟨rfl, pp, mm⟩ := h5
      unfold thr
      have hno := Lib.hid (show r = .no a5 c5 l5 by rw [← HR.out, hG5]; rfl)
      have PP := Lib.hid pp
      have MM := Lib.hid ((F.out.next mm).mv)
      clear pp mm hG5 e0 e1
      go_wp2_with fail
      exact ⟨rfl, pst_no hno.out PP.out MM.out⟩
    rw [hG5] at h5
    obtain ⟨u5, rfl, vv, pp, mm⟩ := h5
    replace HR := HR.out
    rw [hG5] at HR
    simp only [bind_okE] at HR
    replace HR := Lib.hid HR
    replace F := Lib.hid (F.out.next mm)
    replace E2 := Lib.hid (E2.out.kp (mm.kp (Nat.lt_of_lt_of_le F.out.hB (Nat.le_add_right _ 2))))
    replace L3 := Lib.hid (L3.out.mv mm (by have := gB3.out; omega) L3.out.lt)
    replace E4 := Lib.hid (E4.out.kp (mm.kp (Nat.lt_of_lt_of_le F.out.hB (Nat.le_add_right _ 2))))
    replace L4 := Lib.hid (L4.out.mv mm (by have := gB4.out; omega) L4.out.lt)
    replace P := Lib.hid pp
    clear pp mm hG5
    obtain rfl : u5 = .tuple #[] := vv
    clear e0 e1
    clear hF
    go_wp2_with fail
    have SS := Lib.hid (show Blk w5.drew w2.heap.size 43 (exC v2 ua2 uc2 aa2 ac2) ∧ Blk w5.drew w4.heap.size 43 (exC v4 ua4 uc4 aa4 ac4) ∧ Blk w5.drew w.heap.size 107 #[.pointer (some ⟨B, 0, none⟩), .bool i] from ⟨L3.out, L4.out, F.out.sc⟩)
    replace P := Lib.hid (P.out.keeps (b0 _).drew)
    have MD := Mv.of (B := B) (b0 w5).drew
    replace E2 := Lib.hid (E2.out.kp (kp_of (b0 w5).drew))
    replace E4 := Lib.hid (E4.out.kp (kp_of (b0 w5).drew))
    replace F := Lib.hid (F.out.next MD)
    have hg3 := Lib.hid L3.out.lt
    have hg4 := Lib.hid L4.out.lt
    clear MD L3 L4
    refine wp_region_held_drew (S := fun w' => Blk w' w2.heap.size 43 (exC v2 ua2 uc2 aa2 ac2) ∧ Blk w' w4.heap.size 43 (exC v4 ua4 uc4 aa4 ac4) ∧ Blk w' w.heap.size 107 #[.pointer (some ⟨B, 0, none⟩), .bool i]) (by kernel_rfl) SS.out (fun hH => ?_)
    clear SS
    refine held_take (i := 0) (d := 21) (v := .agg (exC v2 ua2 uc2 aa2 ac2)) rfl (by kernel_rfl) (by kernel_rfl) (by kernel_rfl) rfl (fun _ _ _ h => h) rfl hH (fun w' hS => yield_load infX Tryz.underlying43 rfl (.tmp 3) rfl _ _ _ rfl hS.1 rfl) ?_
    simp only [List.set_cons_zero, List.set_cons_succ]
    refine held_take (i := 1) (d := 22) (v := .agg (exC v4 ua4 uc4 aa4 ac4)) rfl (by kernel_rfl) (by kernel_rfl) (by kernel_rfl) rfl (fun _ _ _ h => h) rfl hH (fun w' hS => yield_load infX Tryz.underlying43 rfl (.tmp 4) rfl _ _ _ rfl hS.2.1 rfl) ?_
    simp only [List.set_cons_zero, List.set_cons_succ]
    refine held_take (i := 2) (d := 23) (v := .agg #[.pointer (some ⟨B, 0, none⟩), .bool i]) rfl (by kernel_rfl) (by kernel_rfl) (by kernel_rfl) rfl (fun _ _ _ h => h) rfl hH (fun w' hS => yield_load infSc Tryz.underlying107 rfl (.tmp 1) rfl _ _ _ rfl hS.2.2 rfl) ?_
    simp only [List.set_cons_zero, List.set_cons_succ]
    refine held_only (i := 3) rfl (by kernel_rfl) rfl (fun K hK => ?_)
    go_simp
    refine (R.ex B i l5 _ P.out (ne_left (by rw [HR.out]; exact NE.out))).mono ?_
    rintro e w6 h6
    rcases hG6 : pz f i .ex l5 with _ | ⟨v6, l6⟩ | ⟨a6, c6, l6⟩
    · exact absurd (by rw [← HR.out, hG6]; rfl) NE.out
    rotate_left
    · rw [hG6] at h6
      obtain ⟨rfl, pp, mm⟩ := h6
      unfold thr
      exact ⟨rfl, pst_no (by rw [← HR.out, hG6]; rfl) pp (F.out.next mm).mv⟩
    rw [hG6] at h6
    obtain ⟨u6, rfl, vv, pp, mm⟩ := h6
    obtain ⟨ua6, uc6, aa6, ac6, rfl, E6⟩ := vv
    have hB := F.out.hB
    replace E6 := Lib.hid (Ec.less E6 F.out.lt)
    replace HR := Lib.hid (show Rs.ok (ifE v2 v4 v6) l6 = r by rw [← HR.out, hG6]; rfl)
    replace E2 := Lib.hid (E2.out.kp (mm.kp (show B < w.heap.size + 2 by omega)))
    replace E4 := Lib.hid (E4.out.kp (mm.kp (show B < w.heap.size + 2 by omega)))
    replace hH := And.intro (hH.1.mv mm (by have := gB3.out; omega) hH.1.lt) (And.intro (hH.2.1.mv mm (by have := gB4.out; omega) hH.2.1.lt) (hH.2.2.mv mm (by omega) hH.2.2.lt))
    replace F := Lib.hid (F.out.next mm)
    replace P := Lib.hid pp
    clear pp mm hG6 hB
    refine hK.out _ _ hH (fun hH => ?_)
    clear hK K
    refine held_only (i := 4) rfl (by kernel_rfl) rfl (fun K hK => ?_)
    simp only [exC]
    go_simp
    refine hK.out _ _ ⟨hH.1.past _, hH.2.1.past _, hH.2.2.past _⟩ (fun hH => ?_)
    clear hK K
    refine held_only (i := 5) rfl (by kernel_rfl) rfl (fun K hK => ?_)
    go_simp
    refine hK.out _ _ hH (fun hH => ?_)
    clear hK K
    refine held_only (i := 6) rfl (by kernel_rfl) rfl (fun K hK => ?_)
    refine op_store (.tmp 2) (.tmp 26) rfl _ _ _ _ rfl rfl (F.out.alloc _).rz rfl rfl (by simp [Value.oneCell']) ?_
    intro w9 hb9 hs9
    have h1 := gF3.out
    have h2 := gF4.out
    refine hK.out _ _ ⟨hH.1.st hs9 (by omega), hH.2.1.st hs9 (by omega), hH.2.2.st hs9 (by omega)⟩ (fun hH => ?_)
    clear hK K
    have hB := Blk.new w6 43 (ex3 v2 ua2 uc2 aa2 ac2 v4 ua4 uc4 aa4 ac4 v6 ua6 uc6 aa6 ac6)
    have bb := balloc (b0 w6) (.cells (ex3 v2 ua2 uc2 aa2 ac2 v4 ua4 uc4 aa4 ac4 v6 ua6 uc6 aa6 ac6) 43)
    have F9 := Lib.hid ((F.out.alloc (.cells (ex3 v2 ua2 uc2 aa2 ac2 v4 ua4 uc4 aa4 ac4 v6 ua6 uc6 aa6 ac6) 43)).set hs9 hb9)
    have P9 := Lib.hid ((P.out.keeps bb).st hs9 (Nat.lt_succ_of_lt F.out.hB))
    have A9 := Lib.hid (((as_3 hB (E2.out.kp (kp_of bb)) (E4.out.kp (kp_of bb)) (E6.out.kp (kp_of bb)) F.out.lt).kp (hs9.kp (by omega))).less (show w.heap.size ≤ w.heap.size + 2 by omega))
    replace hb9 := Lib.hid hb9
    clear hB bb hs9 hH h1 h2
    refine wpAnyH_done (by kernel_rfl) ?_ _
    go_wp2_with fail
    refine ret_expr rfl _ _ _ _ _ rfl hb9.out rfl ?_
    exact pst_ok HR.out.symm ⟨none, 0, some ⟨w6.heap.size, 0, none⟩, 3, rfl, ⟨.inl rfl, A9.out⟩⟩ P9.out F9.out.mv
end Go.Proofs.YtkgclmikhpjheaaGreatDoor.pa
