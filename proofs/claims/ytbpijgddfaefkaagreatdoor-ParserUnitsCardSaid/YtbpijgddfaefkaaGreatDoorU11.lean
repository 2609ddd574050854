/-
  Methods of a scope: what each step does, by what the steps below it do; Methods of a scope: references, keys, conditional expressions.
-/
import Derived.Test.YtbpijgddfaefkaaGreatDoorU10
namespace Go.Proofs.YtbpijgddfaefkaaGreatDoor.pa
open Go.RowKit dec

/-- What the methods of a scope do in f steps. -/
structure Rd (f : Nat) : Prop where
  ex : ∀ (B : Nat) (i : Bool) (l : List Tk) (w : World), Ps w B l → pz f i .ex l ≠ .out → Calls Tryz.prog 46 #[.agg #[.pointer (some ⟨B, 0, none⟩), .bool i]] w (Pst B Ev (pz f i .ex l) w)
  ng : ∀ (B : Nat) (i : Bool) (l : List Tk) (w : World), Ps w B l → pz f i .ng l ≠ .out → Calls Tryz.prog 143 #[.agg #[.pointer (some ⟨B, 0, none⟩), .bool i]] w (Pst B Ev (pz f i .ng l) w)
  pr : ∀ (B : Nat) (i : Bool) (l : List Tk) (w : World), Ps w B l → pz f i .pr l ≠ .out → Calls Tryz.prog 183 #[.agg #[.pointer (some ⟨B, 0, none⟩), .bool i]] w (Pst B Ev (pz f i .pr l) w)
  pa : ∀ (B : Nat) (i : Bool) (l : List Tk) (w : World), Ps w B l → pz f i .pa l ≠ .out → Calls Tryz.prog 220 #[.agg #[.pointer (some ⟨B, 0, none⟩), .bool i]] w (Pst B Ev (pz f i .pa l) w)
  ag : ∀ (B : Nat) (i : Bool) (l : List Tk) (w : World), Ps w B l → pz f i .ag l ≠ .out → Calls Tryz.prog 222 #[.agg #[.pointer (some ⟨B, 0, none⟩), .bool i]] w (Pst B Ev (pz f i .ag l) w)
  rf : ∀ (B : Nat) (i : Bool) (l : List Tk) (w : World), Ps w B l → pz f i .rf l ≠ .out → Calls Tryz.prog 223 #[.agg #[.pointer (some ⟨B, 0, none⟩), .bool i]] w (Pst B Ev (pz f i .rf l) w)
  op : ∀ (B : Nat) (i : Bool) (n : Nat) (l : List Tk) (w : World), n ≤ 6 → Ps w B l → pz f i (.op n) l ≠ .out → Calls Tryz.prog 89 #[.agg #[.pointer (some ⟨B, 0, none⟩), .bool i], .int .i64 (n : Nat)] w (Pst B Ev (pz f i (.op n) l) w)
set_option maxRecDepth 100000 in
set_option maxHeartbeats 1000000 in
theorem ng_step (f : Nat) (R : Rd f) (B : Nat) (i : Bool) (l : List Tk) (w : World) (h : Ps w B l) (r : Rs Ex) (hr : pz (f + 1) i .ng l = r) (hne : r ≠ .out) :
    Calls Tryz.prog 143 #[.agg #[.pointer (some ⟨B, 0, none⟩), .bool i]] w (Pst B Ev r w) := by
  have P := Lib.hid (h.keeps (balloc (balloc (b0 w) (.cells #[.pointer (some ⟨B, 0, none⟩), .bool i] 99)) (.cells zE 43)))
  have F := Lib.hid (Fr.start i h.lt)
  have NE := Lib.hid hne
  simp only [pz] at hr
  have HR := Lib.hid hr
  clear h hne hr
  cases ht : isT ⟨#[45]⟩ l
  · replace HR := HR.out
    rw [ht, if_neg (by decide), ← bind_id (pz f i .pr l)] at HR
    replace HR := Lib.hid HR
    have HT := Lib.hid ht
    clear ht
    go_enter Tryz.func143, Tryz.ntmps143
    go_wp2_with fail
    refine (skip_no B ⟨#[45]⟩ l _ P.out HT.out).mono ?_
    rintro e w1 ⟨rfl, pp, mm⟩
    replace F := Lib.hid (F.out.next mm)
    replace P := Lib.hid pp
    clear pp mm
    have e0 := F.out.c0
    have e1 := F.out.c1
    go_wp2_with fail
    have hF := Lib.hid F.out.lt
    refine (R.pr B i l _ P.out (ne_left (by rw [HR.out]; exact NE.out))).mono ?_
    rintro e w2 h2
    rcases hG2 : pz f i .pr l with _ | ⟨v2, l2⟩ | ⟨a2, c2, l2⟩
    · exact absurd (by rw [← HR.out, hG2]; rfl) NE.out
    rotate_left
    · rw [hG2] at h2
      obtain ⟨rfl, pp, mm⟩ := h2
      unfold thr
      have hno := Lib.hid (show r = .no a2 c2 l2 by rw [← HR.out, hG2]; rfl)
      have PP := Lib.hid pp
      have MM := Lib.hid ((F.out.next mm).mv)
      clear pp mm hG2 e0 e1
      go_wp2_with fail
      exact ⟨rfl, pst_no hno.out PP.out MM.out⟩
    rw [hG2] at h2
    obtain ⟨u2, rfl, vv, pp, mm⟩ := h2
    replace HR := HR.out
    rw [hG2] at HR
    simp only [bind_okE] at HR
    replace HR := Lib.hid HR
    replace F := Lib.hid (F.out.next mm)
    replace P := Lib.hid pp
    clear pp mm hG2
    have V2 := Lib.hid vv
    clear vv
    clear e0 e1
    obtain ⟨ua2, uc2, aa2, ac2, rfl, E2⟩ := V2.out
    replace E2 := Lib.hid (Ec.less E2 hF.out)
    clear V2 hF
    go_wp2_with (refine arm_store (.tmp 2) (.tmp 10) rfl rfl _ _ _ _ rfl rfl F.out.rz rfl rfl (exC_one _ _ _ _ _) ?_; intro w9 hb9 hs9)
    have F9 := F.out.set hs9 hb9
    have P9 := P.out.st hs9 (Nat.lt_succ_of_lt F.out.hB)
    refine ret_expr rfl _ _ _ _ _ rfl hb9 rfl ?_
    exact pst_ok HR.out.symm ⟨ua2, uc2, aa2, ac2, rfl, (E2.out.kp (hs9.kp (by omega))).less (by omega)⟩ P9 F9.mv
  · replace HR := HR.out
    rw [ht, if_pos rfl] at HR
    replace HR := Lib.hid HR
    have HT := Lib.hid ht
    clear ht
    go_enter Tryz.func143, Tryz.ntmps143
    go_wp2_with fail
    refine (skip_yes B ⟨#[45]⟩ l _ P.out HT.out).mono ?_
    rintro e w1 ⟨rfl, pp, mm⟩
    replace F := Lib.hid (F.out.next mm)
    replace P := Lib.hid pp
    clear pp mm
    have e0 := F.out.c0
    have e1 := F.out.c1
    go_wp2_with fail
    have hF := Lib.hid F.out.lt
    refine (R.ng B i l.tail _ P.out (ne_left (by rw [HR.out]; exact NE.out))).mono ?_
    rintro e w2 h2
    rcases hG2 : pz f i .ng l.tail with _ | ⟨v2, l2⟩ | ⟨a2, c2, l2⟩
    · exact absurd (by rw [← HR.out, hG2]; rfl) NE.out
    rotate_left
    · rw [hG2] at h2
      obtain ⟨rfl, pp, mm⟩ := h2
      unfold thr
      have hno := Lib.hid (show r = .no a2 c2 l2 by rw [← HR.out, hG2]; rfl)
      have PP := Lib.hid pp
      have MM := Lib.hid ((F.out.next mm).mv)
      clear pp mm hG2 e0 e1
      go_wp2_with fail
      exact ⟨rfl, pst_no hno.out PP.out MM.out⟩
    rw [hG2] at h2
    obtain ⟨u2, rfl, vv, pp, mm⟩ := h2
    replace HR := HR.out
    rw [hG2] at HR
    simp only [bind_okE] at HR
    replace HR := Lib.hid HR
    replace F := Lib.hid (F.out.next mm)
    replace P := Lib.hid pp
    clear pp mm hG2
    have V2 := Lib.hid vv
    clear vv
    clear e0 e1
    obtain ⟨ua2, uc2, aa2, ac2, rfl, E2⟩ := V2.out
    replace E2 := Lib.hid (Ec.less E2 hF.out)
    clear V2 hF
    go_wp2_with fail
    have hC := Lib.hid F.out.lt
    refine (unary_any ⟨#[45]⟩ v2 ua2 uc2 aa2 ac2 (w.heap.size + 2) w2 E2.out hC.out).mono ?_
    rintro e wU ⟨aaU, acU, rfl, EU, bb⟩
    replace EU := Lib.hid EU
    replace F := Lib.hid (F.out.nextB bb)
    replace P := Lib.hid (P.out.keeps bb)
    clear bb
    go_wp2_with (refine arm_store (.tmp 2) (.tmp 8) rfl rfl _ _ _ _ rfl rfl F.out.rz rfl rfl (exC_one _ _ _ _ _) ?_; intro w9 hb9 hs9)
    have F9 := F.out.set hs9 hb9
    have P9 := P.out.st hs9 (Nat.lt_succ_of_lt F.out.hB)
    refine ret_expr rfl _ _ _ _ _ rfl hb9 rfl ?_
    exact pst_ok HR.out.symm ⟨none, 0, aaU, acU, rfl, (EU.out.kp (hs9.kp (by omega))).less (by omega)⟩ P9 F9.mv
set_option maxRecDepth 100000 in
set_option maxHeartbeats 1000000 in
theorem pa_step (f : Nat) (R : Rd f) (B : Nat) (i : Bool) (l : List Tk) (w : World) (h : Ps w B l) (r : Rs Ex) (hr : pz (f + 1) i .pa l = r) (hne : r ≠ .out) :
    Calls Tryz.prog 220 #[.agg #[.pointer (some ⟨B, 0, none⟩), .bool i]] w (Pst B Ev r w) := by
  have P := Lib.hid (h.keeps (balloc (balloc (b0 w) (.cells #[.pointer (some ⟨B, 0, none⟩), .bool i] 99)) (.cells zE 43)))
  have F := Lib.hid (Fr.start i h.lt)
  have NE := Lib.hid hne
  simp only [pz] at hr
  have HR := Lib.hid hr
  clear h hne hr
  go_enter Tryz.func220, Tryz.ntmps220
  go_wp2_with fail
  have hF := Lib.hid F.out.lt
  refine (need_any B ⟨#[40]⟩ l _ P.out).mono ?_
  rintro e w1 h1
  rcases hG1 : need ⟨#[40]⟩ l with _ | ⟨v1, l1⟩ | ⟨a1, c1, l1⟩
  · exact absurd (by rw [← HR.out, hG1]; rfl) NE.out
  rotate_left
  · rw [hG1] at h1
    obtain ⟨rfl, pp, mm⟩ := h1
    unfold thr
    have hno := Lib.hid (show r = .no a1 c1 l1 by rw [← HR.out, hG1]; rfl)
    have PP := Lib.hid pp
    have MM := Lib.hid ((F.out.next mm).mv)
    clear pp mm hG1
    go_wp2_with fail
    exact ⟨rfl, pst_no hno.out PP.out MM.out⟩
  rw [hG1] at h1
  obtain ⟨u1, rfl, vv, pp, mm⟩ := h1
  replace HR := HR.out
  rw [hG1] at HR
  simp only [bind_okE] at HR
  replace HR := Lib.hid HR
  replace F := Lib.hid (F.out.next mm)
  replace P := Lib.hid pp
  clear pp mm hG1
  obtain rfl : u1 = .tuple #[] := vv
  clear hF
  have e0 := F.out.c0
  have e1 := F.out.c1
  go_wp2_with fail
  have hF := Lib.hid F.out.lt
  refine (R.ex B i l1 _ P.out (ne_left (by rw [HR.out]; exact NE.out))).mono ?_
  rintro e w2 h2
  rcases hG2 : pz f i .ex l1 with _ | ⟨v2, l2⟩ | ⟨a2, c2, l2⟩
  · exact absurd (by rw [← HR.out, hG2]; rfl) NE.out
  rotate_left
  · rw [hG2] at h2
    obtain ⟨rfl, pp, mm⟩ := h2
    unfold thr
    have hno := Lib.hid (show r = .no a2 c2 l2 by rw [← HR.out, hG2]; rfl)
    have PP := Lib.hid pp
    have MM := Lib.hid ((F.out.next mm).mv)
    clear pp mm hG2 e0 e1
    go_wp2_with fail
    exact ⟨rfl, pst_no hno.out PP.out MM.out⟩
  rw [hG2] at h2
  obtain ⟨u2, rfl, vv, pp, mm⟩ := h2
  replace HR := HR.out
  rw [hG2] at HR
  simp only [bind_okE] at HR
  replace HR := Lib.hid HR
  replace F := Lib.hid (F.out.next mm)
  replace P := Lib.hid pp
  clear pp mm hG2
  have V2 := Lib.hid vv
  clear vv
  clear e0 e1
  obtain ⟨ua2, uc2, aa2, ac2, rfl, E2⟩ := V2.out
  replace E2 := Lib.hid (Ec.less E2 hF.out)
  clear V2 hF
  go_wp2_with (refine arm_store (.tmp 3) (.tmp 8) rfl rfl _ _ _ _ rfl rfl (Blk.new _ _ _) rfl rfl (exC_one _ _ _ _ _) ?_; intro w2L L3 hs; have bb := (balloc (b0 w2) _).trans (hs.below (Nat.le_refl _)); replace L3 := Lib.hid L3; have gB3 := Lib.hid (show B < w2.heap.size from by have := F.out.lt; have := F.out.hB; omega); have gF3 := Lib.hid F.out.lt; replace F := Lib.hid (F.out.nextB bb); replace E2 := Lib.hid (E2.out.kp (kp_of bb)); replace P := Lib.hid (P.out.keeps bb); clear bb hs; have e0 := F.out.c0; have e1 := F.out.c1)
  have hF := Lib.hid F.out.lt
  refine (need_any B ⟨#[41]⟩ l2 _ P.out).mono ?_
  rintro e w3 h3
  rcases hG3 : need ⟨#[41]⟩ l2 with _ | ⟨v3, l3⟩ | ⟨a3, c3, l3⟩
  · exact absurd (by rw [← HR.out, hG3]; rfl) NE.out
  rotate_left
  · rw [hG3] at h3
    obtain ⟨rfl, pp, mm⟩ := h3
    unfold thr
    have hno := Lib.hid (show r = .no a3 c3 l3 by rw [← HR.out, hG3]; rfl)
    have PP := Lib.hid pp
    have MM := Lib.hid ((F.out.next mm).mv)
    clear pp mm hG3 e0 e1
    go_wp2_with fail
    exact ⟨rfl, pst_no hno.out PP.out MM.out⟩
  rw [hG3] at h3
  obtain ⟨u3, rfl, vv, pp, mm⟩ := h3
  replace HR := HR.out
  rw [hG3] at HR
  simp only [bind_okE] at HR
  replace HR := Lib.hid HR
  replace F := Lib.hid (F.out.next mm)
  replace E2 := Lib.hid (E2.out.kp (mm.kp (Nat.lt_of_lt_of_le F.out.hB (Nat.le_add_right _ 2))))
  replace L3 := Lib.hid (L3.out.mv mm (by have := gB3.out; omega) L3.out.lt)
  replace P := Lib.hid pp
  clear pp mm hG3
  obtain rfl : u3 = .tuple #[] := vv
  clear e0 e1
  clear hF
  go_wp2_with (first | (refine arm_load (.tmp 3) rfl rfl _ _ _ rfl L3.out rfl ?_) | (refine arm_store (.tmp 2) (.tmp 12) rfl rfl _ _ _ _ rfl rfl F.out.rz rfl rfl (exC_one _ _ _ _ _) ?_; intro w9 hb9 hs9))
  have F9 := F.out.set hs9 hb9
  have P9 := P.out.st hs9 (Nat.lt_succ_of_lt F.out.hB)
  refine ret_expr rfl _ _ _ _ _ rfl hb9 rfl ?_
  exact pst_ok HR.out.symm ⟨ua2, uc2, aa2, ac2, rfl, (E2.out.kp (hs9.kp (by omega))).less (by omega)⟩ P9 F9.mv
end Go.Proofs.YtbpijgddfaefkaaGreatDoor.pa
namespace Go.Proofs.YtbpijgddfaefkaaGreatDoor.pa
open Go.RowKit dec

theorem St.trans {g : Nat} {a b c : World} (h : St g a b) (k : St g b c) : St g a c := ⟨k.os.trans h.os, k.tape.trans h.tape, k.output.trans h.output, k.size.trans h.size, fun i hi => (k.block i hi).trans (h.block i hi)⟩
set_option maxRecDepth 100000 in
set_option maxHeartbeats 1000000 in
theorem rf_step (f : Nat) (R : Rd f) (B : Nat) (i : Bool) (l : List Tk) (w : World) (h : Ps w B l) (r : Rs Ex) (hr : pz (f + 1) i .rf l = r) (hne : r ≠ .out) :
    Calls Tryz.prog 223 #[.agg #[.pointer (some ⟨B, 0, none⟩), .bool i]] w (Pst B Ev r w) := by
  have P := Lib.hid (h.keeps (balloc (balloc (b0 w) (.cells #[.pointer (some ⟨B, 0, none⟩), .bool i] 99)) (.cells zE 43)))
  have F := Lib.hid (Fr.start i h.lt)
  have NE := Lib.hid hne
  simp only [pz] at hr
  have HR := Lib.hid hr
  clear h hne hr
  go_enter Tryz.func223, Tryz.ntmps223
  go_wp2_with fail
  have hF := Lib.hid F.out.lt
  refine (name_r B l _ P.out _ rfl (nam_ne _)).mono ?_
  rintro e w1 h1
  rcases hG1 : nam l with _ | ⟨v1, l1⟩ | ⟨a1, c1, l1⟩
  · exact absurd (by rw [← HR.out, hG1]; rfl) NE.out
  rotate_left
  · rw [hG1] at h1
    obtain ⟨rfl, pp, mm⟩ := h1
    unfold thr
    have hno := Lib.hid (show r = .no a1 c1 l1 by rw [← HR.out, hG1]; rfl)
    have PP := Lib.hid pp
    have MM := Lib.hid ((F.out.next mm).mv)
    clear pp mm hG1
    go_wp2_with fail
    exact ⟨rfl, pst_no hno.out PP.out MM.out⟩
  rw [hG1] at h1
  obtain ⟨u1, rfl, vv, pp, mm⟩ := h1
  replace HR := HR.out
  rw [hG1] at HR
  simp only [bind_okE] at HR
  replace HR := Lib.hid HR
  replace F := Lib.hid (F.out.next mm)
  replace P := Lib.hid pp
  clear pp mm hG1
  obtain rfl : u1 = .string v1 := vv
  clear hF
  cases ht : isT ⟨#[111, 102]⟩ l1
  · replace HR := HR.out
    rw [ht, if_neg (by decide)] at HR
    replace HR := Lib.hid HR
    have HT := Lib.hid ht
    clear ht
    have e0 := F.out.c0
    have e1 := F.out.c1
    go_wp2_with fail
    refine (skip_no B ⟨#[111, 102]⟩ l1 _ P.out HT.out).mono ?_
    rintro e w2 ⟨rfl, pp, mm⟩
    replace F := Lib.hid (F.out.next mm)
    replace P := Lib.hid pp
    clear pp mm
    clear e0 e1
    go_wp2_with (refine arm_store (.tmp 2) (.tmp 16) rfl rfl _ _ _ _ rfl rfl F.out.rz rfl rfl (by simp [Value.oneCell']) ?_; intro w9 hb9 hs9)
    have F9 := F.out.set hs9 hb9
    have P9 := P.out.st hs9 (Nat.lt_succ_of_lt F.out.hB)
    refine ret_expr rfl _ _ _ _ _ rfl hb9 rfl ?_
    exact pst_ok HR.out.symm ⟨none, 0, none, 0, rfl, ⟨.inl rfl, .inl rfl⟩⟩ P9 F9.mv
  · replace HR := HR.out
    rw [ht, if_pos rfl] at HR
    replace HR := Lib.hid HR
    have HT := Lib.hid ht
    clear ht
    have e0 := F.out.c0
    have e1 := F.out.c1
    go_wp2_with fail
    refine (skip_yes B ⟨#[111, 102]⟩ l1 _ P.out HT.out).mono ?_
    rintro e w2 ⟨rfl, pp, mm⟩
    replace F := Lib.hid (F.out.next mm)
    replace P := Lib.hid pp
    clear pp mm
    clear e0 e1
    have e0 := F.out.c0
    have e1 := F.out.c1
    go_wp2_with fail
    have hF := Lib.hid F.out.lt
    refine (R.pa B i l1.tail _ P.out (ne_left (by rw [HR.out]; exact NE.out))).mono ?_
    rintro e w3 h3
    rcases hG3 : pz f i .pa l1.tail with _ | ⟨v3, l3⟩ | ⟨a3, c3, l3⟩
    · exact absurd (by rw [← HR.out, hG3]; rfl) NE.out
    rotate_left
    · rw [hG3] at h3
      obtain ⟨rfl, pp, mm⟩ := h3
      unfold thr
      have hno := Lib.hid (show r = .no a3 c3 l3 by rw [← HR.out, hG3]; rfl)
      have PP := Lib.hid pp
      have MM := Lib.hid ((F.out.next mm).mv)
      clear pp mm hG3 e0 e1
      go_wp2_with fail
      exact ⟨rfl, pst_no hno.out PP.out MM.out⟩
    rw [hG3] at h3
    obtain ⟨u3, rfl, vv, pp, mm⟩ := h3
    replace HR := HR.out
    rw [hG3] at HR
    simp only [bind_okE] at HR
    replace HR := Lib.hid HR
    replace F := Lib.hid (F.out.next mm)
    replace P := Lib.hid pp
    clear pp mm hG3
    have V3 := Lib.hid vv
    clear vv
    clear e0 e1
    obtain ⟨ua3, uc3, aa3, ac3, rfl, E3⟩ := V3.out
    replace E3 := Lib.hid (Ec.less E3 hF.out)
    clear V3 hF
    simp only [exC]
    go_wp2_with (refine arm_store (.tmp 2) (.tmp 14) rfl rfl _ _ _ _ rfl rfl (F.out.alloc _).rz rfl rfl (by simp [Value.oneCell']) ?_; intro w9 hb9 hs9)
    have hB := Blk.new w3 43 (ex1 v3 ua3 uc3 aa3 ac3)
    have bb := balloc (b0 w3) (.cells (ex1 v3 ua3 uc3 aa3 ac3) 43)
    have F9 := (F.out.alloc (.cells (ex1 v3 ua3 uc3 aa3 ac3) 43)).set hs9 hb9
    have P9 := (P.out.keeps bb).st hs9 (Nat.lt_succ_of_lt F.out.hB)
    have A9 := ((as_1 hB (E3.out.kp (kp_of bb)) F.out.lt).kp (hs9.kp (by omega))).less (show w.heap.size ≤ w.heap.size + 2 by omega)
    refine ret_expr rfl _ _ _ _ _ rfl hb9 rfl ?_
    exact pst_ok HR.out.symm ⟨none, 0, some ⟨w3.heap.size, 0, none⟩, 1, rfl, ⟨.inl rfl, A9⟩⟩ P9 F9.mv
set_option maxRecDepth 100000 in
set_option maxHeartbeats 1000000 in
theorem key_r (B : Nat) (i : Bool) (l : List Tk) (w : World) (h : Ps w B l) (r : Rs Ex) (hr : key l = r) (hne : r ≠ .out) :
    Calls Tryz.prog 219 #[.agg #[.pointer (some ⟨B, 0, none⟩), .bool i]] w (Pst B Ev r w) := by
  have P := Lib.hid (h.keeps (balloc (balloc (b0 w) (.cells #[.pointer (some ⟨B, 0, none⟩), .bool i] 99)) (.cells zE 43)))
  have F := Lib.hid (Fr.start i h.lt)
  have NE := Lib.hid hne
  have F2 := mi_prob
  unfold key at hr
  have HR := Lib.hid hr
  clear h hne hr
  go_enter Tryz.func219, Tryz.ntmps219
  go_wp2_with fail
  have hF := Lib.hid F.out.lt
  refine (nameAfter_r B ⟨#[64]⟩ l _ P.out _ rfl (nma_ne _ _)).mono ?_
  rintro e w1 h1
  rcases hG1 : nma ⟨#[64]⟩ l with _ | ⟨v1, l1⟩ | ⟨a1, c1, l1⟩
  · exact absurd (by rw [← HR.out, hG1]; rfl) NE.out
  rotate_left
  · rw [hG1] at h1
    obtain ⟨rfl, pp, mm⟩ := h1
    unfold thr
    have hno := Lib.hid (show r = .no a1 c1 l1 by rw [← HR.out, hG1]; rfl)
    have PP := Lib.hid pp
    have MM := Lib.hid ((F.out.next mm).mv)
    clear pp mm hG1
    go_wp2_with fail
    exact ⟨rfl, pst_no hno.out PP.out MM.out⟩
  rw [hG1] at h1
  obtain ⟨u1, rfl, vv, pp, mm⟩ := h1
  replace HR := HR.out
  rw [hG1] at HR
  simp only [bind_okE] at HR
  replace HR := Lib.hid HR
  replace F := Lib.hid (F.out.next mm)
  replace P := Lib.hid pp
  clear pp mm hG1
  obtain rfl : u1 = .string v1 := vv
  clear hF
  have bb := balloc (b0 w1) (.cells #[.int .i64 1, .string ⟨#[]⟩, .string v1, .string ⟨#[]⟩, .int .i64 0, .int .i64 0, .string ⟨#[]⟩, .slice none 0 0, .int .i64 0, .int .i64 0, .int .i64 0, .slice none 0 0] 43)
  have L3 := Lib.hid (Blk.new w1 43 #[.int .i64 1, .string ⟨#[]⟩, .string v1, .string ⟨#[]⟩, .int .i64 0, .int .i64 0, .string ⟨#[]⟩, .slice none 0 0, .int .i64 0, .int .i64 0, .int .i64 0, .slice none 0 0])
  have gB3 := Lib.hid (show w.heap.size + 1 < w1.heap.size from by have := F.out.lt; omega)
  replace F := Lib.hid (F.out.nextB bb)
  replace P := Lib.hid (P.out.keeps bb)
  clear bb
  have C1 := Lib.hid (now_any B l1 _ P.out)
  have F1 := tf2
  have e0 := F.out.c0
  have e1 := F.out.c1
  have SZ := Lib.hid (fun v l2 => tak_size (k := 4) (l := l1) (v := v) (r := l2) P.out.tl)
  generalize (hd l1).k = xk at *
  generalize (hd l1).t = xt at *
  generalize (hd l1).a = xa at *
  go_wp2_with fail
  refine (C1.out).mono ?_
  rintro e w2 ⟨rfl, b⟩
  have mm := Mv.of (B := B) b
  replace F := Lib.hid (F.out.next mm)
  replace L3 := Lib.hid (L3.out.mv mm (by have := gB3.out; have := F.out.hB; omega) L3.out.lt)
  replace P := Lib.hid (P.out.keeps b)
  clear mm b
  clear e0 e1
  have e0 := F.out.c0
  have e1 := F.out.c1
  go_wp2_with fail
  clear C1 F1
  have hF := Lib.hid F.out.lt
  refine (take_any B 4 (by decide) l1 _ P.out).mono ?_
  rintro e w3 h3
  rcases hG3 : tak 4 l1 with _ | ⟨v3, l3⟩ | ⟨a3, c3, l3⟩
  · exact absurd (by rw [← HR.out, hG3]; rfl) NE.out
  rotate_left
  · rw [hG3] at h3
    obtain ⟨rfl, pp, mm⟩ := h3
    unfold thr
    have hno := Lib.hid (show r = .no a3 c3 l3 by rw [← HR.out, hG3]; rfl)
    have PP := Lib.hid pp
    have MM := Lib.hid ((F.out.next mm).mv)
    clear pp mm hG3 e0 e1
    go_wp2_with fail
    exact ⟨rfl, pst_no hno.out PP.out MM.out⟩
  rw [hG3] at h3
  obtain ⟨u3, rfl, vv, pp, mm⟩ := h3
  replace HR := HR.out
  rw [hG3] at HR
  simp only [bind_okE] at HR
  replace HR := Lib.hid HR
  replace F := Lib.hid (F.out.next mm)
  replace L3 := Lib.hid (L3.out.mv mm (by have := gB3.out; have := F.out.hB; omega) L3.out.lt)
  replace P := Lib.hid pp
  have hsz := Lib.hid (SZ.out _ _ hG3)
  clear pp mm hG3
  obtain rfl : u3 = .string v3 := vv
  clear e0 e1
  clear hF
  have c4 := L3.out.cell 4
  have c5 := L3.out.cell 5
  have c6 := L3.out.cell 6
  have z4 := L3.out.free 4
  have z5 := L3.out.free 5
  have z6 := L3.out.free 6
  have k4 := L3.out.setCell 4 (.int .i64 5)
  have k5 := k4.1.setCell 5 (.int .i64 0)
  have k6 := k5.1.setCell 6 (.string v3)
  have S6 := Lib.hid (St.trans (St.trans k4.2 k5.2) k6.2)
  have L6 := Lib.hid (show Blk _ w1.heap.size 43 (exC (keyE v1 v3) none 0 none 0) from k6.1)
  clear k4 k5 k6
  go_wp2_with fail
  replace P := Lib.hid (P.out.st S6.out (by have := gB3.out; have := F.out.hB; omega))
  replace F := Lib.hid (F.out.st S6.out gB3.out)
  clear c4 c5 c6 z4 z5 z6 S6 L3
  generalize ((w3.setCell ⟨w1.heap.size, 4, none⟩ (.int .i64 5)).setCell ⟨w1.heap.size, 5, none⟩ (.int .i64 0)).setCell ⟨w1.heap.size, 6, none⟩ (.string v3) = w4 at *
  generalize w1.heap.size = g3 at *
  refine (check_any 5 0 v3 hsz.out w4).mono ?_
  rintro e w5 ⟨rfl, bb⟩
  replace F := Lib.hid (F.out.nextB bb)
  replace P := Lib.hid (P.out.keeps bb)
  replace L6 := Lib.hid (L6.out.below bb L6.out.lt)
  clear bb
  by_cases hk : ck ⟨5, 0, v3⟩ = 0
  · have q1 : (ck ⟨5, 0, v3⟩ != 0) = false := by simp [hk]
    replace HR := HR.out
    rw [if_pos hk] at HR
    replace HR := Lib.hid HR
    clear hk
    generalize ck ⟨5, 0, v3⟩ = ce at *
    go_wp2_with (first | (refine arm_load (.tmp 3) rfl rfl _ _ _ rfl L6.out rfl ?_) | (refine arm_store (.tmp 2) (.tmp 25) rfl rfl _ _ _ _ rfl rfl F.out.rz rfl rfl (exC_one _ _ _ _ _) ?_; intro w9 hb9 hs9))
    have F9 := F.out.set hs9 hb9
    have P9 := P.out.st hs9 (Nat.lt_succ_of_lt F.out.hB)
    refine ret_expr rfl _ _ _ _ _ rfl hb9 rfl ?_
    exact pst_ok HR.out.symm ⟨none, 0, none, 0, rfl, ⟨.inl rfl, .inl rfl⟩⟩ P9 F9.mv
  · have q1 : (ck ⟨5, 0, v3⟩ != 0) = true := by simp [hk]
    replace HR := HR.out
    rw [if_neg hk] at HR
    replace HR := Lib.hid HR
    clear hk
    generalize ck ⟨5, 0, v3⟩ = ce at *
    go_wp2_with fail
    exact ⟨rfl, pst_no HR.out.symm P.out F.out.mv⟩
set_option maxRecDepth 100000 in
set_option maxHeartbeats 1000000 in
theorem ex_step (f : Nat) (R : Rd f) (B : Nat) (i : Bool) (l : List Tk) (w : World) (h : Ps w B l) (r : Rs Ex) (hr : pz (f + 1) i .ex l = r) (hne : r ≠ .out) :
    Calls Tryz.prog 46 #[.agg #[.pointer (some ⟨B, 0, none⟩), .bool i]] w (Pst B Ev r w) := by
  have P := Lib.hid (h.keeps (balloc (balloc (b0 w) (.cells #[.pointer (some ⟨B, 0, none⟩), .bool i] 99)) (.cells zE 43)))
  have F := Lib.hid (Fr.start i h.lt)
  have NE := Lib.hid hne
  simp only [pz] at hr
  have HR := Lib.hid hr
  clear h hne hr
  cases ht : isT ⟨#[105, 102]⟩ l
  · replace HR := HR.out
    rw [ht, if_neg (by decide), ← bind_id (pz f i (.op 0) l)] at HR
    replace HR := Lib.hid HR
    have HT := Lib.hid ht
    clear ht
    go_enter Tryz.func46, Tryz.ntmps46
    go_wp2_with fail
    refine (skip_no B ⟨#[105, 102]⟩ l _ P.out HT.out).mono ?_
    rintro e w1 ⟨rfl, pp, mm⟩
    replace F := Lib.hid (F.out.next mm)
    replace P := Lib.hid pp
    clear pp mm
    have e0 := F.out.c0
    have e1 := F.out.c1
    go_wp2_with fail
    have hF := Lib.hid F.out.lt
    refine (R.op B i 0 l _ (Nat.zero_le _) P.out (ne_left (by rw [HR.out]; exact NE.out))).mono ?_
    rintro e w2 h2
    rcases hG2 : pz f i (.op 0) l with _ | ⟨v2, l2⟩ | ⟨a2, c2, l2⟩
    · exact absurd (by rw [← HR.out, hG2]; rfl) NE.out
    rotate_left
    · rw [hG2] at h2
      obtain ⟨rfl, pp, mm⟩ := h2
      unfold thr
      have hno := Lib.hid (show r = .no a2 c2 l2 by rw [← HR.out, hG2]; rfl)
      have PP := Lib.hid pp
      have MM := Lib.hid ((F.out.next mm).mv)
      clear pp mm hG2 e0 e1
      go_wp2_with fail
      exact ⟨rfl, pst_no hno.out PP.out MM.out⟩
    rw [hG2] at h2
    obtain ⟨u2, rfl, vv, pp, mm⟩ := h2
    replace HR := HR.out
    rw [hG2] at HR
    simp only [bind_okE] at HR
    replace HR := Lib.hid HR
    replace F := Lib.hid (F.out.next mm)
    replace P := Lib.hid pp
    clear pp mm hG2
    have V2 := Lib.hid vv
    clear vv
    clear e0 e1
    obtain ⟨ua2, uc2, aa2, ac2, rfl, E2⟩ := V2.out
    replace E2 := Lib.hid (Ec.less E2 hF.out)
    clear V2 hF
    go_wp2_with (refine arm_store (.tmp 2) (.tmp 10) rfl rfl _ _ _ _ rfl rfl F.out.rz rfl rfl (exC_one _ _ _ _ _) ?_; intro w9 hb9 hs9)
    have F9 := F.out.set hs9 hb9
    have P9 := P.out.st hs9 (Nat.lt_succ_of_lt F.out.hB)
    refine ret_expr rfl _ _ _ _ _ rfl hb9 rfl ?_
    exact pst_ok HR.out.symm ⟨ua2, uc2, aa2, ac2, rfl, (E2.out.kp (hs9.kp (by omega))).less (by omega)⟩ P9 F9.mv
  · replace HR := HR.out
    rw [ht, if_pos rfl] at HR
    replace HR := Lib.hid HR
    have HT := Lib.hid ht
    clear ht
    go_enter Tryz.func46, Tryz.ntmps46
    go_wp2_with fail
    refine (skip_yes B ⟨#[105, 102]⟩ l _ P.out HT.out).mono ?_
    rintro e w1 ⟨rfl, pp, mm⟩
    replace F := Lib.hid (F.out.next mm)
    replace P := Lib.hid pp
    clear pp mm
    have e0 := F.out.c0
    have e1 := F.out.c1
    go_wp2_with fail
    have hF := Lib.hid F.out.lt
    refine (R.ex B i l.tail _ P.out (ne_left (by rw [HR.out]; exact NE.out))).mono ?_
    rintro e w2 h2
    rcases hG2 : pz f i .ex l.tail with _ | ⟨v2, l2⟩ | ⟨a2, c2, l2⟩
    · exact absurd (by rw [← HR.out, hG2]; rfl) NE.out
    rotate_left
    · rw [hG2] at h2
      obtain ⟨rfl, pp, mm⟩ := h2
      unfold thr
      have hno := Lib.hid (show r = .no a2 c2 l2 by rw [← HR.out, hG2]; rfl)
      have PP := Lib.hid pp
      have MM := Lib.hid ((F.out.next mm).mv)
      clear pp mm hG2 e0 e1
      go_wp2_with fail
      exact ⟨rfl, pst_no hno.out PP.out MM.out⟩
    rw [hG2] at h2
    obtain ⟨u2, rfl, vv, pp, mm⟩ := h2
    replace HR := HR.out
    rw [hG2] at HR
    simp only [bind_okE] at HR
    replace HR := Lib.hid HR
    replace F := Lib.hid (F.out.next mm)
    replace P := Lib.hid pp
    clear pp mm hG2
    have V2 := Lib.hid vv
    clear vv
    clear e0 e1
    obtain ⟨ua2, uc2, aa2, ac2, rfl, E2⟩ := V2.out
    replace E2 := Lib.hid (Ec.less E2 hF.out)
    clear V2 hF
    go_wp2_with (refine arm_store (.tmp 3) (.tmp 12) rfl rfl _ _ _ _ rfl rfl (Blk.new _ _ _) rfl rfl (exC_one _ _ _ _ _) ?_; intro w2L L3 hs; have bb := (balloc (b0 w2) _).trans (hs.below (Nat.le_refl _)); replace L3 := Lib.hid L3; have gB3 := Lib.hid (show B < w2.heap.size from by have := F.out.lt; have := F.out.hB; omega); have gF3 := Lib.hid F.out.lt; replace F := Lib.hid (F.out.nextB bb); replace E2 := Lib.hid (E2.out.kp (kp_of bb)); replace P := Lib.hid (P.out.keeps bb); clear bb hs; have e0 := F.out.c0; have e1 := F.out.c1)
    have hF := Lib.hid F.out.lt
    refine (need_any B ⟨#[116, 104, 101, 110]⟩ l2 _ P.out).mono ?_
    rintro e w3 h3
    rcases hG3 : need ⟨#[116, 104, 101, 110]⟩ l2 with _ | ⟨v3, l3⟩ | ⟨a3, c3, l3⟩
    · exact absurd (by rw [← HR.out, hG3]; rfl) NE.out
    rotate_left
    · rw [hG3] at h3
      obtain ⟨rfl, pp, mm⟩ := h3
      unfold thr
      have hno := Lib.hid (show r = .no a3 c3 l3 by rw [← HR.out, hG3]; rfl)
      have PP := Lib.hid pp
      have MM := Lib.hid ((F.out.next mm).mv)
      clear pp mm hG3 e0 e1
      go_wp2_with fail
      exact ⟨rfl, pst_no hno.out PP.out MM.out⟩
    rw [hG3] at h3
    obtain ⟨u3, rfl, vv, pp, mm⟩ := h3
    replace HR := HR.out
    rw [hG3] at HR
    simp only [bind_okE] at HR
    replace HR := Lib.hid HR
    replace F := Lib.hid (F.out.next mm)
    replace E2 := Lib.hid (E2.out.kp (mm.kp (Nat.lt_of_lt_of_le F.out.hB (Nat.le_add_right _ 2))))
    replace L3 := Lib.hid (L3.out.mv mm (by have := gB3.out; omega) L3.out.lt)
    replace P := Lib.hid pp
    clear pp mm hG3
    obtain rfl : u3 = .tuple #[] := vv
    clear e0 e1
    clear hF
    have e0 := F.out.c0
    have e1 := F.out.c1
    go_wp2_with fail
    have hF := Lib.hid F.out.lt
    refine (R.ex B i l3 _ P.out (ne_left (by rw [HR.out]; exact NE.out))).mono ?_
    rintro e w4 h4
    rcases hG4 : pz f i .ex l3 with _ | ⟨v4, l4⟩ | ⟨a4, c4, l4⟩
    · exact absurd (by rw [← HR.out, hG4]; rfl) NE.out
    rotate_left
    · rw [hG4] at h4
      obtain ⟨rfl, pp, mm⟩ := h4
      unfold thr
      have hno := Lib.hid (show r = .no a4 c4 l4 by rw [← HR.out, hG4]; rfl)
      have PP := Lib.hid pp
      have MM := Lib.hid ((F.out.next mm).mv)
      clear pp mm hG4 e0 e1
      go_wp2_with fail
      exact ⟨rfl, pst_no hno.out PP.out MM.out⟩
    rw [hG4] at h4
    obtain ⟨u4, rfl, vv, pp, mm⟩ := h4
    replace HR := HR.out
    rw [hG4] at HR
    simp only [bind_okE] at HR
    replace HR := Lib.hid HR
    replace F := Lib.hid (F.out.next mm)
    replace E2 := Lib.hid (E2.out.kp (mm.kp (Nat.lt_of_lt_of_le F.out.hB (Nat.le_add_right _ 2))))
    replace L3 := Lib.hid (L3.out.mv mm (by have := gB3.out; omega) L3.out.lt)
    replace P := Lib.hid pp
    clear pp mm hG4
    have V4 := Lib.hid vv
    clear vv
    clear e0 e1
    obtain ⟨ua4, uc4, aa4, ac4, rfl, E4⟩ := V4.out
    replace E4 := Lib.hid (Ec.less E4 hF.out)
    clear V4 hF
    go_wp2_with (refine arm_store (.tmp 4) (.tmp 17) rfl rfl _ _ _ _ rfl rfl (Blk.new _ _ _) rfl rfl (exC_one _ _ _ _ _) ?_; intro w4L L4 hs; have bb := (balloc (b0 w4) _).trans (hs.below (Nat.le_refl _)); replace L4 := Lib.hid L4; have gB4 := Lib.hid (show B < w4.heap.size from by have := F.out.lt; have := F.out.hB; omega); have gF4 := Lib.hid F.out.lt; replace F := Lib.hid (F.out.nextB bb); replace E2 := Lib.hid (E2.out.kp (kp_of bb)); replace L3 := Lib.hid (L3.out.below bb L3.out.lt); replace E4 := Lib.hid (E4.out.kp (kp_of bb)); replace P := Lib.hid (P.out.keeps bb); clear bb hs; have e0 := F.out.c0; have e1 := F.out.c1)
    have hF := Lib.hid F.out.lt
    refine (need_any B ⟨#[101, 108, 115, 101]⟩ l4 _ P.out).mono ?_
    rintro e w5 h5
    rcases hG5 : need ⟨#[101, 108, 115, 101]⟩ l4 with _ | ⟨v5, l5⟩ | ⟨a5, c5, l5⟩
    · exact absurd (by rw [← HR.out, hG5]; rfl) NE.out
    rotate_left
    · rw [hG5] at h5
      obtain ⟨rfl, pp, mm⟩ := h5
      unfold thr
      have hno := Lib.hid (show r = .no a5 c5 l5 by rw [← HR.out, hG5]; rfl)
      have PP := Lib.hid pp
      have MM := Lib.hid ((F.out.next mm).mv)
      clear pp mm hG5 e0 e1
      go_wp2_with fail
      exact ⟨rfl, pst_no hno.out PP.out MM.out⟩
    rw [hG5] at h5
    obtain ⟨u5, rfl, vv, pp, mm⟩ := h5
    replace HR := HR.out
    rw [hG5] at HR
    simp only [bind_okE] at HR
    replace HR := Lib.hid HR
    replace F := Lib.hid (F.out.next mm)
    replace E2 := Lib.hid (E2.out.kp (mm.kp (Nat.lt_of_lt_of_le F.out.hB (Nat.le_add_right _ 2))))
    replace L3 := Lib.hid (L3.out.mv mm (by have := gB3.out; omega) L3.out.lt)
    replace E4 := Lib.hid (E4.out.kp (mm.kp (Nat.lt_of_lt_of_le F.out.hB (Nat.le_add_right _ 2))))
    replace L4 := Lib.hid (L4.out.mv mm (by have := gB4.out; omega) L4.out.lt)
    replace P := Lib.hid pp
    clear pp mm hG5
    obtain rfl : u5 = .tuple #[] := vv
    clear e0 e1
    clear hF
    go_wp2_with fail
    have SS := Lib.hid (show Blk w5.drew w2.heap.size 43 (exC v2 ua2 uc2 aa2 ac2) ∧ Blk w5.drew w4.heap.size 43 (exC v4 ua4 uc4 aa4 ac4) ∧ Blk w5.drew w.heap.size 99 #[.pointer (some ⟨B, 0, none⟩), .bool i] from ⟨L3.out, L4.out, F.out.sc⟩)
    replace P := Lib.hid (P.out.keeps (b0 _).drew)
    have MD := Mv.of (B := B) (b0 w5).drew
    replace E2 := Lib.hid (E2.out.kp (kp_of (b0 w5).drew))
    replace E4 := Lib.hid (E4.out.kp (kp_of (b0 w5).drew))
    replace F := Lib.hid (F.out.next MD)
    have hg3 := Lib.hid L3.out.lt
    have hg4 := Lib.hid L4.out.lt
    clear MD L3 L4
    refine wp_region_held_drew (S := fun w' => Blk w' w2.heap.size 43 (exC v2 ua2 uc2 aa2 ac2) ∧ Blk w' w4.heap.size 43 (exC v4 ua4 uc4 aa4 ac4) ∧ Blk w' w.heap.size 99 #[.pointer (some ⟨B, 0, none⟩), .bool i]) (by kernel_rfl) SS.out (fun hH => ?_)
    clear SS
    refine held_take (i := 0) (d := 21) (v := .agg (exC v2 ua2 uc2 aa2 ac2)) rfl (by kernel_rfl) (by kernel_rfl) (by kernel_rfl) rfl (fun _ _ _ h => h) rfl hH (fun w' hS => yield_load infX Tryz.underlying43 rfl (.tmp 3) rfl _ _ _ rfl hS.1 rfl) ?_
    simp only [List.set_cons_zero, List.set_cons_succ]
    refine held_take (i := 1) (d := 22) (v := .agg (exC v4 ua4 uc4 aa4 ac4)) rfl (by kernel_rfl) (by kernel_rfl) (by kernel_rfl) rfl (fun _ _ _ h => h) rfl hH (fun w' hS => yield_load infX Tryz.underlying43 rfl (.tmp 4) rfl _ _ _ rfl hS.2.1 rfl) ?_
    simp only [List.set_cons_zero, List.set_cons_succ]
    refine held_take (i := 2) (d := 23) (v := .agg #[.pointer (some ⟨B, 0, none⟩), .bool i]) rfl (by kernel_rfl) (by kernel_rfl) (by kernel_rfl) rfl (fun _ _ _ h => h) rfl hH (fun w' hS => yield_load infSc Tryz.underlying99 rfl (.tmp 1) rfl _ _ _ rfl hS.2.2 rfl) ?_
    simp only [List.set_cons_zero, List.set_cons_succ]
    refine held_only (i := 3) rfl (by kernel_rfl) rfl (fun K hK => ?_)
    go_simp
    refine (R.ex B i l5 _ P.out (ne_left (by rw [HR.out]; exact NE.out))).mono ?_
    rintro e w6 h6
    rcases hG6 : pz f i .ex l5 with _ | ⟨v6, l6⟩ | ⟨a6, c6, l6⟩
    · exact absurd (by rw [← HR.out, hG6]; rfl) NE.out
    rotate_left
    · rw [hG6] at h6
      obtain ⟨rfl, pp, mm⟩ := h6
      unfold thr
      exact ⟨rfl, pst_no (by rw [← HR.out, hG6]; rfl) pp (F.out.next mm).mv⟩
    rw [hG6] at h6
    obtain ⟨u6, rfl, vv, pp, mm⟩ := h6
    obtain ⟨ua6, uc6, aa6, ac6, rfl, E6⟩ := vv
    have hB := F.out.hB
    replace E6 := Lib.hid (Ec.less E6 F.out.lt)
    replace HR := Lib.hid (show Rs.ok (ifE v2 v4 v6) l6 = r by rw [← HR.out, hG6]; rfl)
    replace E2 := Lib.hid (E2.out.kp (mm.kp (show B < w.heap.size + 2 by omega)))
    replace E4 := Lib.hid (E4.out.kp (mm.kp (show B < w.heap.size + 2 by omega)))
    replace hH := And.intro (hH.1.mv mm (by have := gB3.out; omega) hH.1.lt) (And.intro (hH.2.1.mv mm (by have := gB4.out; omega) hH.2.1.lt) (hH.2.2.mv mm (by omega) hH.2.2.lt))
    replace F := Lib.hid (F.out.next mm)
    replace P := Lib.hid pp
    clear pp mm hG6 hB
    refine hK.out _ _ hH (fun hH => ?_)
    clear hK K
    refine held_only (i := 4) rfl (by kernel_rfl) rfl (fun K hK => ?_)
    simp only [exC]
    go_simp
    refine hK.out _ _ ⟨hH.1.past _, hH.2.1.past _, hH.2.2.past _⟩ (fun hH => ?_)
    clear hK K
    refine held_only (i := 5) rfl (by kernel_rfl) rfl (fun K hK => ?_)
    go_simp
    refine hK.out _ _ hH (fun hH => ?_)
    clear hK K
    refine held_only (i := 6) rfl (by kernel_rfl) rfl (fun K hK => ?_)
    refine op_store (.tmp 2) (.tmp 26) rfl _ _ _ _ rfl rfl (F.out.alloc _).rz rfl rfl (by simp [Value.oneCell']) ?_
    intro w9 hb9 hs9
    have h1 := gF3.out
    have h2 := gF4.out
    refine hK.out _ _ ⟨hH.1.st hs9 (by omega), hH.2.1.st hs9 (by omega), hH.2.2.st hs9 (by omega)⟩ (fun hH => ?_)
    clear hK K
    have hB := Blk.new w6 43 (ex3 v2 ua2 uc2 aa2 ac2 v4 ua4 uc4 aa4 ac4 v6 ua6 uc6 aa6 ac6)
    have bb := balloc (b0 w6) (.cells (ex3 v2 ua2 uc2 aa2 ac2 v4 ua4 uc4 aa4 ac4 v6 ua6 uc6 aa6 ac6) 43)
    have F9 := Lib.hid ((F.out.alloc (.cells (ex3 v2 ua2 uc2 aa2 ac2 v4 ua4 uc4 aa4 ac4 v6 ua6 uc6 aa6 ac6) 43)).set hs9 hb9)
    have P9 := Lib.hid ((P.out.keeps bb).st hs9 (Nat.lt_succ_of_lt F.out.hB))
    have A9 := Lib.hid (((as_3 hB (E2.out.kp (kp_of bb)) (E4.out.kp (kp_of bb)) (E6.out.kp (kp_of bb)) F.out.lt).kp (hs9.kp (by omega))).less (show w.heap.size ≤ w.heap.size + 2 by omega))
    replace hb9 := Lib.hid hb9
    clear hB bb hs9 hH h1 h2
    refine wpAnyH_done (by kernel_rfl) ?_ _
    go_wp2_with fail
    refine ret_expr rfl _ _ _ _ _ rfl hb9.out rfl ?_
    exact pst_ok HR.out.symm ⟨none, 0, some ⟨w6.heap.size, 0, none⟩, 3, rfl, ⟨.inl rfl, A9.out⟩⟩ P9.out F9.out.mv
end Go.Proofs.YtbpijgddfaefkaaGreatDoor.pa
