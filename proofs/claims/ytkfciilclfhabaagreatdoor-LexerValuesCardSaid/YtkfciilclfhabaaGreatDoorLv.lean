/-
  Numbers, texts and words as tokens.
-/
import Derived.Test.YtkfciilclfhabaaGreatDoorLz
import Derived.Test.YtkfciilclfhabaaGreatDoorLp
namespace Go.Proofs.YtkfciilclfhabaaGreatDoor
open dec

theorem flt_one (p : List UInt8) : flt 1 p = if 24 < p.length then 2 else 0 := rfl
theorem flt_two (p : List UInt8) : flt 2 p = if 1152921504606846976 < dval 0 p then 2 else 0 := rfl
theorem flt_three (p : List UInt8) : flt 3 p = paE p := rfl
theorem flt_four (p : List UInt8) : flt 4 p = txE (cont 4 p) := rfl
theorem flt_five (p : List UInt8) : flt 5 p = 0 := rfl
theorem flt_zero (p : List UInt8) : flt 0 p = 80 := rfl
theorem isL_D {c : UInt8} (h : isD c = true) : ¬ isL c = true := by
  unfold isD at h
  unfold isL
  rw [Bool.and_eq_true, decide_eq_true_eq, decide_eq_true_eq] at h ⊢
  omega
theorem pr_int {t : ByteArray} {ds : List UInt8} (ht : t.data.toList = ds) (h0 : ds ≠ []) (hd : ∀ c ∈ ds, isD c = true) (hv : dval 0 ds ≤ 1152921504606846976) (a : Int) : pr ⟨2, t, a⟩ = true := by
  rw [pr_iff]
  have hs : so ⟨2, t, a⟩ = ds := ht
  rw [hs]
  refine ⟨?_, by show flt 2 ds = 0; rw [flt_two, if_neg (by omega)]⟩
  cases ds with
  | nil => exact absurd rfl h0
  | cons c r =>
    have hc := hd c (List.mem_cons_self ..)
    rw [shp_cons, if_neg (isL_D hc), if_pos hc, run_whole hd, List.drop_length, if_pos (show pnt [] = 0 from rfl)]
theorem pr_decimal {t : ByteArray} {ds fs : List UInt8} (ht : t.data.toList = ds ++ 46 :: fs) (h1 : ds ≠ []) (h2 : fs ≠ []) (hd : ∀ c ∈ ds, isD c = true) (hf : ∀ c ∈ fs, isD c = true) (hp : paE (ds ++ 46 :: fs) = 0) (a : Int) : pr ⟨3, t, a⟩ = true := by
  rw [pr_iff]
  have hs : so ⟨3, t, a⟩ = ds ++ 46 :: fs := ht
  rw [hs]
  refine ⟨?_, by show flt 3 _ = 0; rw [flt_three, hp]⟩
  cases ds with
  | nil => exact absurd rfl h1
  | cons c r =>
    have hc := hd c (List.mem_cons_self ..)
    have hr : run isD ((c :: r) ++ 46 :: fs) = (c :: r).length := by
      rw [run_stop (by decide), run_whole hd]
    rw [List.cons_append] at hr ⊢
    rw [shp_cons, if_neg (isL_D hc), if_pos hc, hr, ← List.cons_append, List.drop_left, show pnt (46 :: fs) = fs.length by rw [pnt_cons, if_pos (by decide), run_whole hf], if_neg (by cases fs; exact absurd rfl h2; simp)]
    simp
    omega
theorem pr_txt {t : ByteArray} (h : txE t.data.toList = 0) (a : Int) : pr ⟨4, t, a⟩ = true := by
  rw [pr_iff]
  have hs : so ⟨4, t, a⟩ = 34 :: (t.data.toList ++ [34]) := rfl
  have hc : cont 4 (34 :: (t.data.toList ++ [34])) = t.data.toList := cont_so ⟨4, t, a⟩
  rw [hs]
  refine ⟨?_, by show flt 4 _ = 0; rw [flt_four, hc, h]⟩
  have hq : ∀ c ∈ t.data.toList, isQ c = true := by
    have hp : pB 32 t.data.toList = true := by
      unfold txE at h
      split at h
      · cases h
      · split at h
        · assumption
        · cases h
    unfold pB at hp
    rw [List.all_eq_true] at hp
    intro c hc
    have := hp c hc
    unfold okB at this
    unfold isQ
    simp only [Bool.and_eq_true, decide_eq_true_eq, Bool.not_eq_true', decide_eq_false_iff_not] at this ⊢
    omega
  have hr : run isQ (t.data.toList ++ [34]) = t.data.toList.length := by
    rw [run_stop (by decide), run_whole hq]
  rw [shp_cons, if_neg (by decide), if_neg (by decide), hr, List.drop_left, if_pos ⟨by decide, rfl⟩]
  simp
/-- A word. -/
def wordP (l : List UInt8) : Bool := match l with
  | [] => false
  | c :: r => isL c && decide (run isW (c :: r) = (c :: r).length) && decide ((c :: r).length ≤ 24)
theorem wd1_eq (s : ByteArray) : wd1 s = wordP s.data.toList := by
  unfold wd1
  rw [Bool.eq_iff_iff, pr_iff]
  show shp s.data.toList = (1, s.data.toList.length) ∧ flt 1 s.data.toList = 0 ↔ _
  rw [flt_one]
  cases h : s.data.toList with
  | nil => simp [shp, wordP]
  | cons c r =>
    show _ ↔ (isL c && decide (run isW (c :: r) = (c :: r).length) && decide ((c :: r).length ≤ 24)) = true
    rw [Bool.and_eq_true, Bool.and_eq_true, decide_eq_true_eq, decide_eq_true_eq, shp_cons]
    constructor
    · rintro ⟨h1, h2⟩
      split at h1
      · rename_i hl
        refine ⟨⟨hl, (Prod.mk.inj h1).2⟩, ?_⟩
        split at h2
        · cases h2
        · omega
      · split at h1
        · split at h1
          · have := (Prod.mk.inj h1).1; omega
          · have := (Prod.mk.inj h1).1; omega
        · split at h1
          · have := (Prod.mk.inj h1).1; omega
          · rw [sgn_cons] at h1
            split at h1
            · have := (Prod.mk.inj h1).1; omega
            · split at h1
              · have := (Prod.mk.inj h1).1; omega
              · have := (Prod.mk.inj h1).1; omega
    · rintro ⟨⟨h1, h2⟩, h3⟩
      rw [if_pos h1, if_neg (by omega), h2]
      exact ⟨rfl, rfl⟩
def mns : ByteArray := ⟨#[45]⟩
theorem lex_minus {x : Tk} (h : pr x = true) : lxs 0 false (45 :: so x) = ([⟨5, mns, 0⟩, ⟨x.k, x.t, 1⟩], []) := by
  have hs : sk false (45 :: so x) = 0 := sk_none (by decide) (by decide) _
  have hp : shp (45 :: so x) = (5, 1) := by
    rw [shp_cons, if_neg (by decide), if_neg (by decide), if_neg (by intro h; exact absurd h.1 (by decide)), sgn_cons, if_neg (by rintro ⟨h, _⟩; revert h; decide), if_pos (by decide)]
  rw [lex_step (l' := 45 :: so x) (by rw [hs, List.drop_zero]) (by simp), hp, hs]
  show (if flt 5 _ = 0 then _ else _) = _
  rw [flt_five, if_pos rfl]
  show (_ :: (lxs (0 + 0 + 1) (decide ((5 : Int) = 0)) (so x)).1, (lxs (0 + 0 + 1) (decide ((5 : Int) = 0)) (so x)).2) = _
  rw [lex_alone h]
  rfl
end Go.Proofs.YtkfciilclfhabaaGreatDoor
