/-
  Facts about the types of expressions that the statements speak of.
-/
import Derived.Test.YtbkpjhffmaldmaaGreatDoorQ12
namespace Go.Proofs.YtbkpjhffmaldmaaGreatDoor.ch
open Go.RowKit dec

theorem sameT_eq {a b : Ty} (h : sameT a b = true) : a = b := by
  unfold sameT at h
  simp only [Bool.and_eq_true, decide_eq_true_eq] at h
  obtain ⟨k, u, o⟩ := a
  obtain ⟨k', u', o'⟩ := b
  obtain ⟨rfl, rfl, rfl⟩ := h
  rfl
theorem sameT_refl (a : Ty) : sameT a a = true := by simp [sameT]
theorem dif_same (a b : Ty) : difT a b = 0 ↔ sameT a b = true := by
  constructor
  · intro h
    unfold difT at h
    split at h
    · cases h
    · split at h
      · cases h
      · split at h
        · rename_i h1 h2 h3
          simp only [ne_eq, Decidable.not_not] at h1 h2
          simp [sameT, h1, h2, h3]
        · cases h
  · intro h
    obtain rfl := sameT_eq h
    simp [difT]

/-! Literals. -/
def litX (v : Va) (u : List un.Fa) (o : ByteArray) : Ex := ⟨{ h0 with k := 1, nm := o, vk := v.k, vn := v.n, vs := v.s, un := u }, .nil⟩
theorem fm_flat (i : Bool) (h : Hd) : fmE i ⟨h, .nil⟩ = nodE i h 0 h0 := by
  show (nodE i h 0 h0 && true) = _
  rw [Bool.and_true]
theorem sh_flat (h : Hd) : shE ⟨h, .nil⟩ = if nodE false h 0 h0 = true then 0 else 3 := by
  unfold shE
  rw [if_neg (fun e => by rcases e with e | e
                          · exact absurd e (show ¬ (64 : Int) < 1 by decide)
                          · exact absurd e (show ¬ (12 : Int) < wrap64 (0 + 1) by unfold wrap64; omega)), fm_flat]
theorem inf_lit (ts : List Tb) (gs : List Fe) (en : ByteArray) (v : Va) (u : List un.Fa) (o : ByteArray) :
    inf ts gs en (litX v u o) = if litH (litX v u o).h = true then (0, ⟨v.k, u, o⟩) else noR 3 := by
  have hn : nodE false (litX v u o).h 0 h0 = litH (litX v u o).h := by
    unfold nodE
    rw [if_pos (show (litX v u o).h.k = 1 from rfl)]
    simp
  unfold inf
  rw [show litX v u o = ⟨(litX v u o).h, .nil⟩ from rfl, sh_flat, hn]
  cases litH (litX v u o).h <;> rfl
theorem ck_k {v : Va} (h : ck v = 0) : 0 ≤ v.k ∧ v.k ≤ 5 := by
  have hf : fmd v = true := by
    unfold ck at h
    cases hf : fmd v with
    | true => rfl
    | false => rw [hf] at h; cases h
  unfold fmd at hf
  repeat' split at hf
  all_goals first | omega | (exfalso; revert hf; simp)
def nms (u : List un.Fa) : Bool := u.all fun f => name f.1
/-- What the statement on literals asks. -/
def litB (v : Va) (u : List un.Fa) (o : ByteArray) : Bool :=
  (decide (ck v = 0) && (!decide (v.k = 0) && decide (0 ≤ v.n))) &&
  (if v.k = 2 ∨ v.k = 3 then decide (o = .empty) && (decide (un.ck u = 0) && nms u)
   else if v.k = 5 then decide (u.length = 0) && name o
   else decide (u.length = 0) && decide (o = .empty))
theorem okU_nil : okU [] = true := by decide +kernel
theorem lit_iff (v : Va) (u : List un.Fa) (o : ByteArray) : litH (litX v u o).h = litB v u o := by
  have hs : same (litX v u o).h { h0 with nm := (litX v u o).h.nm, vk := (litX v u o).h.vk, vn := (litX v u o).h.vn, vs := (litX v u o).h.vs, un := (litX v u o).h.un } = true := by simp [same, litX, h0]
  unfold litH
  rw [hs, Bool.and_true]
  show (decide (ck v = 0) && (decide (0 ≤ v.n) && decide (tyE ⟨v.k, u, o⟩ = 0))) = litB v u o
  unfold litB
  by_cases hc : ck v = 0
  · have hk := ck_k hc
    rw [decide_eq_true hc, Bool.true_and, Bool.true_and]
    by_cases h0 : v.k = 0
    · have : tyE ⟨v.k, u, o⟩ ≠ 0 := by
        unfold tyE
        rw [if_pos (by simp only; omega)]
        decide
      rw [decide_eq_false this, decide_eq_true h0]
      simp
    · rw [decide_eq_false h0, Bool.not_false, Bool.true_and]
      congr 1
      by_cases h23 : v.k = 2 ∨ v.k = 3
      · rw [if_pos h23]
        have hn : num ⟨v.k, u, o⟩ = true := by
          unfold num
          rcases h23 with h | h <;> simp [h]
        unfold tyE
        rw [if_neg (by simp only; omega), if_neg (fun e => by have := e.1; simp only at this; omega)]
        by_cases ho : o = .empty
        · rw [if_neg (fun e => e.2 ho), if_neg (by rw [hn]; simp), decide_eq_true ho, Bool.true_and]
          unfold okU
          show decide ((if (decide (un.ck u = 0) && nms u) = true then (0 : Int) else 70) = 0) = _
          cases (decide (un.ck u = 0) && nms u) <;> rfl
        · rw [if_pos ⟨by simp only; omega, ho⟩, decide_eq_false ho]
          rfl
      · rw [if_neg h23]
        have hn : num ⟨v.k, u, o⟩ = false := by
          unfold num
          simp only
          rw [decide_eq_false (by omega), decide_eq_false (by omega)]
          rfl
        by_cases h5 : v.k = 5
        · rw [if_pos h5]
          unfold tyE
          rw [if_neg (by simp only; omega)]
          cases hno : name o with
          | false =>
            rw [if_pos ⟨h5, rfl⟩]
            simp
          | true =>
            rw [if_neg (fun e => by cases e.2), if_neg (fun e => e.1 h5), hn, Bool.and_true]
            by_cases hu : u.length = 0
            · rw [if_neg (by simp [hu]), List.eq_nil_of_length_eq_zero hu, okU_nil]
              rfl
            · rw [if_pos ⟨rfl, by simp only; omega⟩, decide_eq_false hu]
              rfl
        · rw [if_neg h5]
          unfold tyE
          rw [if_neg (by simp only; omega), if_neg (fun e => h5 e.1)]
          by_cases ho : o = .empty
          · rw [if_neg (fun e => e.2 ho), hn, decide_eq_true ho, Bool.and_true]
            by_cases hu : u.length = 0
            · rw [if_neg (by simp [hu]), List.eq_nil_of_length_eq_zero hu, okU_nil]
              rfl
            · rw [if_pos ⟨rfl, by simp only; omega⟩, decide_eq_false hu]
              rfl
          · rw [if_pos ⟨h5, ho⟩, decide_eq_false ho, Bool.and_false]
            rfl
  · rw [decide_eq_false hc]
    rfl

/-! Features. -/
def decB (ts : List Tb) (gs : List Fe) (f : Fe) : Bool :=
  name f.nm && (name f.en && (decide (0 ≤ f.vr) && (decide (tyE f.ty = 0) && (decide ((inf ts gs f.en f.bo).1 = 0) && sameT (inf ts gs f.en f.bo).2 f.ty))))
theorem dec_iff (ts : List Tb) (gs : List Fe) (f : Fe) : decB ts gs f = decide (feE ts gs f = 0) := by
  unfold decB feE
  cases h1 : name f.nm
  · simp
  cases h2 : name f.en
  · simp
  by_cases h3 : f.vr < 0
  · rw [decide_eq_false (show ¬ 0 ≤ f.vr by omega)]
    simp [h3]
  rw [decide_eq_true (show 0 ≤ f.vr by omega)]
  by_cases h4 : tyE f.ty = 0
  · by_cases h5 : (inf ts gs f.en f.bo).1 = 0
    · simp only [Bool.true_and, h3, h4, h5, ne_eq, not_true_eq_false, if_false, decide_true, Bool.true_eq_false]
      rw [Bool.eq_iff_iff, decide_eq_true_eq, dif_same]
    · simp [h3, h4, h5]
  · simp [h3, h4]
theorem inf_fea (ts : List Tb) (gs : List Fe) (en n : ByteArray) (hn : name n = true) : inf ts gs en (feaX n) = feaT gs en n := by
  have h : nodE false (feaX n).h 0 h0 = true := by
    have e3 : (feaX n).h.k = 3 := rfl
    unfold nodE
    rw [if_neg (by rw [e3]; decide), if_neg (by rw [e3]; decide), if_pos e3]
    simp [namH, same, feaX, h0, hn]
  unfold inf
  rw [show feaX n = ⟨(feaX n).h, .nil⟩ from rfl, sh_flat, if_pos h]
  rfl
theorem inf_new (ts : List Tb) (gs : List Fe) (f : Fe) (en : ByteArray) (hn : name f.nm = true) : inf ts (f :: gs) en (feaX f.nm) = if f.en = en then (0, f.ty) else noR 5 := by
  rw [inf_fea _ _ _ _ hn]
  unfold feaT
  rw [List.find?_cons_of_pos (by simp)]
  rfl
theorem en_ne (en x : ByteArray) (hx : 0 < x.size) : en ≠ en ++ x := fun e => by
  have := congrArg ByteArray.size e
  rw [ByteArray.size_append] at this
  omega

/-! Operations. -/
theorem inf_ok {ts : List Tb} {gs : List Fe} {en : ByteArray} {x : Ex} (h : (inf ts gs en x).1 = 0) : shE x = 0 ∧ inf ts gs en x = infE ts gs en [] x := by
  by_cases hs : shE x = 0
  · exact ⟨hs, by unfold inf; rw [if_pos hs]⟩
  · unfold inf at h
    rw [if_neg hs] at h
    exact absurd h hs
theorem sh_ok {x : Ex} (h : shE x = 0) : ¬ 64 < szE x ∧ ¬ 12 < dpE x ∧ fmE false x = true := by
  unfold shE at h
  split at h
  · cases h
  · rename_i h1
    split at h
    · rename_i h2
      exact ⟨fun e => h1 (.inl e), fun e => h1 (.inr e), h2⟩
    · cases h
theorem sh_of {x : Ex} (h1 : ¬ 64 < szE x) (h2 : ¬ 12 < dpE x) (h3 : fmE false x = true) : shE x = 0 := by
  unfold shE
  rw [if_neg (fun e => e.elim h1 h2), if_pos h3]
theorem fm_bin (op : ByteArray) (x y : Ex) : fmE false (binX op x y) = (binO op && (fmE false x && fmE false y)) := by
  have hn : nodE false (binX op x y).h 2 x.h = binO op := by
    have e7 : (binX op x y).h.k = 7 := rfl
    unfold nodE
    rw [if_neg (by rw [e7]; decide), if_neg (by rw [e7]; decide), if_neg (by rw [e7]; decide), if_neg (by rw [e7]; decide), if_neg (by rw [e7]; decide), if_neg (by rw [e7]; decide), if_pos e7]
    simp [same, binX, h0]
  show (nodE false (binX op x y).h 2 x.h && (_ && (_ && (_ && (_ && true))))) = _
  rw [hn, Bool.and_true]
  show (binO op && (_ && (_ && (_ && _)))) = (binO op && ((_ && _) && (_ && _)))
  rw [Bool.and_assoc]
  rfl
theorem sh_bin {op op' : ByteArray} {x y : Ex} (h : shE (binX op x y) = 0) (ho : binO op' = true) : shE (binX op' x y) = 0 := by
  obtain ⟨h1, h2, h3⟩ := sh_ok h
  refine sh_of h1 h2 ?_
  rw [fm_bin] at h3 ⊢
  rw [ho]
  exact (Bool.and_eq_true _ _ ▸ h3).2
theorem inf_bin {ts : List Tb} {gs : List Fe} {en : ByteArray} {x y : Ex} {op : ByteArray} {a b : Ty} (hx : inf ts gs en x = (0, a)) (hy : inf ts gs en y = (0, b)) (h : shE (binX op x y) = 0) : inf ts gs en (binX op x y) = binT op a b := by
  have ex := (inf_ok (by rw [hx])).2.symm.trans hx
  have ey := (inf_ok (by rw [hy])).2.symm.trans hy
  unfold inf
  rw [if_pos h]
  have hl : infL ts gs en (binX op x y).ar [] = (0, [a, b]) := by
    show infL ts gs en (.cons x.h x.ar (.cons y.h y.ar .nil)) [] = _
    rw [infL_cons, infL_cons, show (⟨x.h, x.ar⟩ : Ex) = x from rfl, show (⟨y.h, y.ar⟩ : Ex) = y from rfl, ex, ey]
    rfl
  have e7 : (binX op x y).h.k = 7 := rfl
  have e5 : ¬ (binX op x y).h.k = 5 := by rw [e7]; decide
  have h1 : infE ts gs en [] (binX op x y) = rulT gs en [] (binX op x y).h [a, b] := by
    unfold infE
    rw [if_neg e5]
    simp only [if_true]
    rw [hl]
    rfl
  rw [h1]
  unfold rulT
  rw [if_neg (by rw [e7]; decide), if_neg (by rw [e7]; decide), if_neg (by rw [e7]; decide), if_neg (by rw [e7]; decide), if_neg e5, if_neg (by rw [e7]; decide), if_pos e7]
  rfl
end Go.Proofs.YtbkpjhffmaldmaaGreatDoor.ch
