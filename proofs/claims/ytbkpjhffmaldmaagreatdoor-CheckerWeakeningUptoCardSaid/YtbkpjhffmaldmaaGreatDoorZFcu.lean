/-
  Facts about sizes, operands, replaced operands and longer catalogs.
-/
import Derived.Test.YtbkpjhffmaldmaaGreatDoorZFct
namespace Go.Proofs.YtbkpjhffmaldmaaGreatDoor.ch
open Go.RowKit dec

/-! Sizes and depths without wrapping. -/
def Fo.dp : Fo → Nat
  | .nil => 0
  | .cons _ ar r => max (ar.dp + 1) r.dp
theorem dp_sz : ∀ F : Fo, F.dp ≤ F.sz
  | .nil => Nat.le_refl _
  | .cons _ ar r => by
    have := dp_sz ar
    have := dp_sz r
    simp only [Fo.dp, Fo.sz]
    omega
theorem wrapS {n : Int} (h1 : 0 ≤ n) (h2 : n ≤ 4611686018427387904) : wrap64 n = n := by
  unfold wrap64
  omega
theorem szA_is : ∀ (F : Fo) (n : Int), 0 ≤ n → n + F.sz ≤ 4611686018427387904 → szA F n = n + F.sz
  | .nil, n, _, _ => by simp [szA, Fo.sz]
  | .cons _ ar r, n, h0, h => by
    simp only [Fo.sz] at h ⊢
    have e1 := szA_is ar 1 (by omega) (by omega)
    unfold szA
    rw [e1, wrapS (by omega) (by omega), szA_is r _ (by omega) (by omega)]
    omega
theorem dpA_is : ∀ (F : Fo) (n : Nat), F.sz ≤ 4611686018427387903 → dpA F n = ((max n F.dp : Nat) : Int)
  | .nil, n, _ => by simp [dpA, Fo.dp]
  | .cons _ ar r, n, h => by
    simp only [Fo.sz] at h
    have e1 := dpA_is ar 0 (by omega)
    have h2 := dp_sz ar
    have e2 : max (n : Int) (wrap64 (dpA ar 0 + 1)) = ((max n (ar.dp + 1) : Nat) : Int) := by
      rw [show dpA ar 0 = ((max 0 ar.dp : Nat) : Int) from e1, Nat.zero_max, wrapS (by omega) (by omega)]
      omega
    unfold dpA
    rw [e2, dpA_is r _ (by omega)]
    simp only [Fo.dp]
    congr 1
    omega
theorem szE_is {x : Ex} (h : x.ar.sz ≤ 4611686018427387903) : szE x = ((x.ar.sz + 1 : Nat) : Int) := by
  unfold szE
  rw [szA_is _ _ (by omega) (by omega)]
  omega
theorem dpE_is {x : Ex} (h : x.ar.sz ≤ 4611686018427387903) : dpE x = ((x.ar.dp + 1 : Nat) : Int) := by
  have := dp_sz x.ar
  unfold dpE
  rw [show dpA x.ar 0 = ((max 0 x.ar.dp : Nat) : Int) from dpA_is _ 0 h, Nat.zero_max, wrapS (by omega) (by omega)]
  omega
theorem nth_dp : ∀ (F : Fo) (j : Nat), j < F.len → (F.nth j).ar.dp + 1 ≤ F.dp
  | .nil, _, h => absurd h (Nat.not_lt_zero _)
  | .cons h ar r, 0, _ => by
    simp only [Fo.nth, Fo.dp]
    omega
  | .cons h ar r, j + 1, hj => by
    have := nth_dp r j (by simpa [Fo.len] using hj)
    simp only [Fo.nth, Fo.dp]
    omega
theorem size_depth {x : Ex} (h : x.ar.sz ≤ 4611686018427387903) : ¬ szE x < dpE x := by
  have := dp_sz x.ar
  rw [szE_is h, dpE_is h]
  omega
theorem size_op {x : Ex} (h : x.ar.sz ≤ 4611686018427387903) {j : Nat} (hj : j < x.ar.len) : szE (x.ar.nth j) < szE x ∧ dpE (x.ar.nth j) < dpE x := by
  have h1 := nth_sz x.ar j hj
  have h2 := nth_dp x.ar j hj
  rw [szE_is h, dpE_is h, szE_is (by omega), dpE_is (by omega)]
  omega

/-! Operands. -/
theorem fmA_op : ∀ (F : Fo) (i : Bool) (j : Nat), fmA i F = true → j < F.len → fmE i (F.nth j) = true
  | .nil, _, _, _, h => absurd h (Nat.not_lt_zero _)
  | .cons h ar r, i, 0, hf, _ => by
    simp only [fmA, Bool.and_eq_true] at hf
    show (_ && _) = true
    rw [Bool.and_eq_true]
    exact ⟨hf.1, hf.2.1⟩
  | .cons h ar r, i, j + 1, hf, hj => by
    simp only [fmA, Bool.and_eq_true] at hf
    exact fmA_op r i j hf.2.2 (by simpa [Fo.len] using hj)
theorem infL_nth {ts : List Tb} {gs : List Fe} {en : ByteArray} {fl : List Fi} : ∀ (F : Fo) (j : Nat), (infL ts gs en F fl).1 = 0 → j < F.len → (infE ts gs en fl (F.nth j)).1 = 0
  | .nil, _, _, h => absurd h (Nat.not_lt_zero _)
  | .cons h ar r, 0, hf, _ => by
    rw [infL_cons] at hf
    split at hf
    · assumption
    · exact hf
  | .cons h ar r, j + 1, hf, hj => by
    rw [infL_cons] at hf
    split at hf
    · exact infL_nth r j hf (by simpa [Fo.len] using hj)
    · rename_i h1
      exact absurd hf h1
theorem infE_ops {ts : List Tb} {gs : List Fe} {en : ByteArray} {fl : List Fi} {x : Ex} (hk : x.h.k ≠ 5) (h : (infE ts gs en fl x).1 = 0) : (infL ts gs en x.ar fl).1 = 0 ∧ infE ts gs en fl x = rulT gs en fl x.h (infL ts gs en x.ar fl).2 := by
  have e : infE ts gs en fl x = if (infL ts gs en x.ar fl).1 = 0 then rulT gs en fl x.h (infL ts gs en x.ar fl).2 else noR (infL ts gs en x.ar fl).1 := by
    unfold infE
    rw [if_neg hk]
    rfl
  rw [e] at h ⊢
  split at h
  · rename_i h1
    exact ⟨h1, by rw [if_pos h1]⟩
  · rename_i h1
    exact absurd h h1
theorem fm_ops {x : Ex} (hk : x.h.k ≠ 5) (h : fmE false x = true) : nodE false x.h x.ar.len (x.ar.nth 0).h = true ∧ fmA false x.ar = true := by
  rw [fm_eq, Bool.and_eq_true, decide_eq_false hk] at h
  exact h
/-- An operand of what has a type has one. -/
theorem inf_op {ts : List Tb} {gs : List Fe} {en : ByteArray} {x : Ex} (hz : x.ar.sz ≤ 4611686018427387903) (hk : x.h.k ≠ 5) (h : (inf ts gs en x).1 = 0) {j : Nat} (hj : j < x.ar.len) : (inf ts gs en (x.ar.nth j)).1 = 0 := by
  obtain ⟨hs, he⟩ := inf_ok h
  obtain ⟨s1, s2, s3⟩ := sh_ok hs
  rw [he] at h
  obtain ⟨o1, o2⟩ := size_op hz hj
  have hs2 : shE (x.ar.nth j) = 0 := sh_of (by omega) (by omega) (fmA_op _ _ _ (fm_ops hk s3).2 hj)
  unfold inf
  rw [if_pos hs2]
  exact infL_nth _ _ (infE_ops hk h).1 hj

/-! Replaced operands. -/
def Fo.set : Fo → Nat → Ex → Fo
  | .nil, _, _ => .nil
  | .cons _ _ r, 0, y => .cons y.h y.ar r
  | .cons h ar r, j + 1, y => .cons h ar (r.set j y)
theorem set_len : ∀ (F : Fo) (j : Nat) (y : Ex), (F.set j y).len = F.len
  | .nil, _, _ => rfl
  | .cons _ _ r, 0, y => rfl
  | .cons h ar r, j + 1, y => by simp [Fo.set, Fo.len, set_len r j y]
theorem set_nth : ∀ (F : Fo) (j : Nat) (y : Ex) (i : Nat), j < F.len → (F.set j y).nth i = if i = j then y else F.nth i
  | .nil, _, _, _, h => absurd h (Nat.not_lt_zero _)
  | .cons _ _ r, 0, y, 0, _ => rfl
  | .cons _ _ r, 0, y, i + 1, _ => rfl
  | .cons h ar r, j + 1, y, 0, _ => rfl
  | .cons h ar r, j + 1, y, i + 1, hj => by
    have := set_nth r j y i (by simpa [Fo.len] using hj)
    simp only [Fo.set, Fo.nth, this, Nat.add_right_cancel_iff]
theorem set_szs : ∀ (F : Fo) (j : Nat) (y : Ex), F.szs → y.szs → (F.set j y).szs
  | .nil, _, _, _, _ => trivial
  | .cons _ _ _, 0, _, h, hy => ⟨hy.h, hy.ar, h.2.2⟩
  | .cons _ _ r, j + 1, y, h, hy => ⟨h.1, h.2.1, set_szs r j y h.2.2 hy⟩
theorem set_lns : ∀ (F : Fo) (j : Nat) (y : Ex), F.lns → y.lns → (F.set j y).lns
  | .nil, _, _, _, _ => trivial
  | .cons _ _ _, 0, _, h, hy => ⟨hy.h, hy.ar, h.2.2⟩
  | .cons _ _ r, j + 1, y, h, hy => ⟨h.1, h.2.1, set_lns r j y h.2.2 hy⟩
theorem set_sz : ∀ (F : Fo) (j : Nat) (y : Ex), (F.set j y).sz ≤ F.sz + (y.ar.sz + 1)
  | .nil, _, _ => by simp [Fo.set, Fo.sz]
  | .cons _ _ r, 0, y => by
    simp only [Fo.set, Fo.sz]
    omega
  | .cons _ _ r, j + 1, y => by
    have := set_sz r j y
    simp only [Fo.set, Fo.sz]
    omega
theorem set_fm : ∀ (F : Fo) (j : Nat) (y : Ex) (i : Bool), fmA i F = true → fmE i y = true → fmA i (F.set j y) = true
  | .nil, _, _, _, _, _ => rfl
  | .cons h ar r, 0, y, i, hf, hy => by
    simp only [fmA, Bool.and_eq_true] at hf
    rw [fm_eq, Bool.and_eq_true] at hy
    simp only [Fo.set, fmA, Bool.and_eq_true]
    exact ⟨hy.1, hy.2, hf.2.2⟩
  | .cons h ar r, j + 1, y, i, hf, hy => by
    simp only [fmA, Bool.and_eq_true] at hf
    simp only [Fo.set, fmA, Bool.and_eq_true]
    exact ⟨hf.1, hf.2.1, set_fm r j y i hf.2.2 hy⟩
theorem set_inf {ts : List Tb} {gs : List Fe} {en : ByteArray} {fl : List Fi} : ∀ (F : Fo) (j : Nat) (y : Ex), j < F.len → infE ts gs en fl y = infE ts gs en fl (F.nth j) → infL ts gs en (F.set j y) fl = infL ts gs en F fl
  | .nil, _, _, h, _ => absurd h (Nat.not_lt_zero _)
  | .cons h ar r, 0, y, _, he => by
    simp only [Fo.set]
    rw [infL_cons, infL_cons, show (⟨y.h, y.ar⟩ : Ex) = y from rfl, he]
    rfl
  | .cons h ar r, j + 1, y, hj, he => by
    simp only [Fo.set]
    rw [infL_cons, infL_cons, set_inf r j y (by simpa [Fo.len] using hj) he]
theorem nod_g {i : Bool} {h : Hd} {n : Nat} (hk : h.k ≠ 5) (g g' : Hd) : nodE i h n g = nodE i h n g' := by
  unfold nodE
  rw [if_neg hk, if_neg hk]
theorem fm_set {x y : Ex} {j : Nat} (hk : x.h.k ≠ 5) (hx : fmE false x = true) (hy : fmE false y = true) : fmE false ⟨x.h, x.ar.set j y⟩ = true := by
  obtain ⟨h1, h2⟩ := fm_ops hk hx
  rw [fm_eq, Bool.and_eq_true]
  simp only
  rw [set_len, decide_eq_false hk, nod_g hk _ (x.ar.nth 0).h]
  exact ⟨h1, set_fm _ _ _ _ h2 hy⟩
/-- What the statement on replaced operands asks. -/
theorem inf_set {ts : List Tb} {gs : List Fe} {en : ByteArray} {x y : Ex} {j : Nat} {t a b : Ty} (hk : x.h.k ≠ 5) (hj : j < x.ar.len) (hx : inf ts gs en x = (0, t)) (ha : inf ts gs en (x.ar.nth j) = (0, a)) (hy : inf ts gs en y = (0, b)) (hab : sameT a b = true) :
    inf ts gs en ⟨x.h, x.ar.set j y⟩ = if 64 < szE ⟨x.h, x.ar.set j y⟩ ∨ 12 < dpE ⟨x.h, x.ar.set j y⟩ then noR 2 else (0, t) := by
  have hx' := inf_ok (by rw [hx])
  have hy' := inf_ok (by rw [hy])
  have ha' := inf_ok (by rw [ha])
  have hfm := fm_set (j := j) hk (sh_ok hx'.1).2.2 (sh_ok hy'.1).2.2
  have hz : shE ⟨x.h, x.ar.set j y⟩ = if 64 < szE ⟨x.h, x.ar.set j y⟩ ∨ 12 < dpE ⟨x.h, x.ar.set j y⟩ then 2 else 0 := by
    unfold shE
    rw [if_pos hfm]
  unfold inf
  rw [hz]
  split
  · rfl
  · rw [if_pos rfl]
    obtain rfl := sameT_eq hab
    have e1 : infE ts gs en [] x = (0, t) := hx'.2.symm.trans hx
    obtain ⟨i1, i2⟩ := infE_ops hk (by rw [e1])
    have e2 : infL ts gs en (x.ar.set j y) [] = infL ts gs en x.ar [] := set_inf _ _ _ hj (by rw [← hy'.2, ← ha'.2, hy, ha])
    have e3 : infE ts gs en [] ⟨x.h, x.ar.set j y⟩ = infE ts gs en [] x := by
      unfold infE
      simp only
      rw [if_neg hk]
      simp only [if_true]
      rw [e2]
    rw [e3, e1]

/-! Longer catalogs. -/
section
variable {ts ts' : List Tb} {gs gs' : List Fe} {en : ByteArray}
theorem inT_app {n : ByteArray} (h : (inT ts en n).1 = 0) : inT (ts ++ ts') en n = inT ts en n := by
  unfold inT at *
  rw [List.find?_append]
  cases hf : ts.find? fun t => decide (t.nm = n) with
  | none => rw [hf] at h; cases h
  | some t => rfl
theorem feaT_app {n : ByteArray} (h : (feaT gs en n).1 = 0) : feaT (gs ++ gs') en n = feaT gs en n := by
  unfold feaT at *
  rw [List.find?_append]
  cases hf : gs.find? fun f => decide (f.nm = n) with
  | none => rw [hf] at h; cases h
  | some t => rfl
theorem rulT_app {fl : List Fi} {h : Hd} {l : List Ty} (he : (rulT gs en fl h l).1 = 0) : rulT (gs ++ gs') en fl h l = rulT gs en fl h l := by
  unfold rulT at *
  by_cases h1 : h.k = 1
  · rw [if_pos h1, if_pos h1]
  rw [if_neg h1] at he ⊢
  rw [if_neg h1]
  by_cases h2 : h.k = 2
  · rw [if_pos h2, if_pos h2]
  rw [if_neg h2] at he ⊢
  rw [if_neg h2]
  by_cases h3 : h.k = 3
  · rw [if_pos h3] at he ⊢
    rw [if_pos h3]
    exact feaT_app he
  rw [if_neg h3] at he ⊢
  rw [if_neg h3]
  by_cases h4 : h.k = 4
  · rw [if_pos h4] at he ⊢
    rw [if_pos h4]
    split at he
    · rename_i h5
      rw [if_pos h5, if_pos h5]
      exact feaT_app he
    · rename_i h5
      rw [if_neg h5, if_neg h5]
  rw [if_neg h4, if_neg h4]
theorem infE_app {fl : List Fi} {x : Ex} (IH : ∀ fl', (infL ts gs en x.ar fl').1 = 0 → infL (ts ++ ts') (gs ++ gs') en x.ar fl' = infL ts gs en x.ar fl') (h : (infE ts gs en fl x).1 = 0) : infE (ts ++ ts') (gs ++ gs') en fl x = infE ts gs en fl x := by
  unfold infE at *
  have hf : (if x.h.k = 5 then inT ts en x.h.tb else (0, fl)).1 = 0 := by
    generalize (if x.h.k = 5 then inT ts en x.h.tb else (0, fl)) = f at *
    simp only at h
    by_cases h1 : f.1 = 0
    · exact h1
    · rw [if_neg h1] at h
      simp only at h
      rw [if_neg h1] at h
      exact absurd h h1
  have hf2 : (if x.h.k = 5 then inT (ts ++ ts') en x.h.tb else (0, fl)) = (if x.h.k = 5 then inT ts en x.h.tb else (0, fl)) := by
    by_cases hk : x.h.k = 5
    · rw [if_pos hk] at hf ⊢
      rw [if_pos hk]
      exact inT_app hf
    · rw [if_neg hk, if_neg hk]
  rw [hf2]
  generalize (if x.h.k = 5 then inT ts en x.h.tb else (0, fl)) = f at *
  simp only [hf, if_true] at h ⊢
  have ha : (infL ts gs en x.ar f.2).1 = 0 := by
    by_cases h1 : (infL ts gs en x.ar f.2).1 = 0
    · exact h1
    · rw [if_neg h1] at h
      exact absurd h h1
  rw [IH _ ha, if_pos ha, if_pos ha]
  rw [if_pos ha] at h
  exact rulT_app h
theorem infL_app : ∀ (F : Fo) (fl : List Fi), (infL ts gs en F fl).1 = 0 → infL (ts ++ ts') (gs ++ gs') en F fl = infL ts gs en F fl
  | .nil, _, _ => rfl
  | .cons h ar r, fl, he => by
    rw [infL_cons] at he
    have h1 : (infE ts gs en fl ⟨h, ar⟩).1 = 0 := by
      by_cases h1 : (infE ts gs en fl ⟨h, ar⟩).1 = 0
      · exact h1
      · rw [if_neg h1] at he
        exact absurd he h1
    rw [if_pos h1] at he
    have h2 : (infL ts gs en r fl).1 = 0 := he
    rw [infL_cons, infL_cons, infE_app (x := ⟨h, ar⟩) (fun fl' hf => infL_app ar fl' hf) h1, infL_app r fl h2]
theorem inf_app {x : Ex} (h : (inf ts gs en x).1 = 0) : inf (ts ++ ts') (gs ++ gs') en x = inf ts gs en x := by
  obtain ⟨hs, he⟩ := inf_ok h
  rw [he] at h
  unfold inf
  rw [if_pos hs, if_pos hs]
  exact infE_app (fun fl' hf => infL_app _ fl' hf) h
theorem feE_app {f : Fe} (h : feE ts gs f = 0) : feE (ts ++ ts') (gs ++ gs') f = 0 := by
  have h1 := dec_iff ts gs f
  have h2 := dec_iff (ts ++ ts') (gs ++ gs') f
  rw [decide_eq_true h] at h1
  unfold decB at h1 h2
  simp only [Bool.and_eq_true, decide_eq_true_eq] at h1
  rw [inf_app h1.2.2.2.2.1, h1.1, h1.2.1, decide_eq_true h1.2.2.1, decide_eq_true h1.2.2.2.1, decide_eq_true h1.2.2.2.2.1, h1.2.2.2.2.2] at h2
  simpa using h2.symm
end
end Go.Proofs.YtbkpjhffmaldmaaGreatDoor.ch
