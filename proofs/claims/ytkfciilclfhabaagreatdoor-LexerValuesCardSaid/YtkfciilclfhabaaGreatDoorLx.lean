/-
  Sources and tokens as plain data: what is skipped, the shape of what a source begins with, the codes of problems, the tokens and problems of a source.
-/
import Derived.Test.YtkfciilclfhabaaGreatDoorVaA
namespace Go.Proofs.YtkfciilclfhabaaGreatDoor
open dec

/-- How many bytes a list begins with of which p holds. -/
def run (p : UInt8 → Bool) : List UInt8 → Nat
  | [] => 0
  | c :: r => if p c = true then run p r + 1 else 0
def isL (c : UInt8) : Bool := decide (97 ≤ c.toNat) && decide (c.toNat ≤ 122)
def isB (c : UInt8) : Bool := decide (c.toNat = 9) || decide (c.toNat = 10) || decide (c.toNat = 13) || decide (c.toNat = 32)
def isW (c : UInt8) : Bool := isL c || isD c || decide (c.toNat = 95)
def isC (c : UInt8) : Bool := !decide (c.toNat = 10)
def isQ (c : UInt8) : Bool := !decide (c.toNat = 34) && !decide (c.toNat = 10)
def isS (c : UInt8) : Bool := decide (c.toNat ∈ [123, 125, 40, 41, 91, 93, 44, 58, 59, 61, 60, 43, 45, 42, 47, 94, 64])
/-- Blanks and comments; m: within a comment. -/
def sk : Bool → List UInt8 → Nat
  | _, [] => 0
  | m, c :: r => if ((m && isC c) || isB c || decide (c.toNat = 35)) = true then sk (isC c && (m || decide (c.toNat = 35))) r + 1 else 0
def sgn : List UInt8 → Int × Nat
  | [] => (0, 0)
  | c :: r => if (c.toNat = 61 ∨ c.toNat = 33 ∨ c.toNat = 60) ∧ r.head? = some 61 then (5, 2) else if isS c = true then (5, 1) else (0, 1)
/-- The digits behind a point. -/
def pnt : List UInt8 → Nat
  | [] => 0
  | c :: r => if c.toNat = 46 then run isD r else 0
def shp : List UInt8 → Int × Nat
  | [] => (0, 0)
  | c :: r =>
    if isL c = true then (1, run isW (c :: r))
    else if isD c = true then
      (if pnt ((c :: r).drop (run isD (c :: r))) = 0 then (2, run isD (c :: r)) else (3, run isD (c :: r) + 1 + pnt ((c :: r).drop (run isD (c :: r)))))
    else if c.toNat = 34 ∧ (r.drop (run isQ r)).head? = some 34 then (4, run isQ r + 2)
    else sgn (c :: r)
def cont (k : Int) (p : List UInt8) : List UInt8 := if k = 4 then (p.drop 1).take (p.length - 2) else p
def txE (s : List UInt8) : Int := if 64 < s.length then 2 else if pB 32 s = true then 0 else 3
def flt (k : Int) (p : List UInt8) : Int :=
  if k = 1 then (if 24 < p.length then 2 else 0)
  else if k = 2 then (if 1152921504606846976 < dval 0 p then 2 else 0)
  else if k = 3 then paE p
  else if k = 4 then txE (cont k p)
  else if k = 0 then 80
  else 0
structure Tk where
  k : Int
  t : ByteArray
  a : Int
abbrev Pb := Int × Int
/-- The source of a token. -/
def so (x : Tk) : List UInt8 := if x.k = 4 then 34 :: (x.t.data.toList ++ [34]) else x.t.data.toList

theorem run_le (p : UInt8 → Bool) : ∀ l : List UInt8, run p l ≤ l.length
  | [] => Nat.le_refl _
  | c :: r => by
    have := run_le p r
    unfold run
    rw [List.length_cons]
    split <;> omega
theorem run_stop {p : UInt8 → Bool} {d : UInt8} (h : p d = false) (r : List UInt8) : ∀ l : List UInt8, run p (l ++ d :: r) = run p l
  | [] => by simp [run, h]
  | c :: l => by
    rw [List.cons_append]
    unfold run
    rw [run_stop h r l]
theorem run_take (p : UInt8 → Bool) : ∀ (l : List UInt8) (n : Nat), run p (l.take n) = min n (run p l)
  | [], n => by simp [run]
  | c :: l, 0 => by simp [run]
  | c :: l, n + 1 => by
    rw [List.take_succ_cons]
    unfold run
    rw [run_take p l n]
    split <;> omega
theorem run_at (p : UInt8 → Bool) : ∀ (l : List UInt8) (c : UInt8), (l.drop (run p l)).head? = some c → p c = false
  | [], c, h => by simp [run] at h
  | d :: l, c, h => by
    unfold run at h
    split at h
    · rw [List.drop_succ_cons] at h
      exact run_at p l c h
    · rename_i hd
      simp only [List.drop_zero, List.head?_cons, Option.some.injEq] at h
      subst h
      simpa using hd
theorem run_all (p : UInt8 → Bool) : ∀ (l : List UInt8), ∀ c ∈ l.take (run p l), p c = true
  | [], c, h => by simp at h
  | d :: l, c, h => by
    unfold run at h
    split at h
    · rename_i hd
      rw [List.take_succ_cons, List.mem_cons] at h
      rcases h with rfl | h
      · exact hd
      · exact run_all p l c h
    · simp at h
theorem run_whole {p : UInt8 → Bool} : ∀ {l : List UInt8}, (∀ c ∈ l, p c = true) → run p l = l.length
  | [], _ => rfl
  | c :: l, h => by
    unfold run
    rw [if_pos (h c (List.mem_cons_self ..)), run_whole fun d hd => h d (List.mem_cons_of_mem _ hd), List.length_cons]
theorem run_past {p : UInt8 → Bool} (r : List UInt8) : ∀ {l : List UInt8}, (∀ c ∈ l, p c = true) → run p (l ++ r) = l.length + run p r
  | [], _ => by simp
  | c :: l, h => by
    rw [List.cons_append]
    show (if p c = true then run p (l ++ r) + 1 else 0) = _
    rw [if_pos (h c (List.mem_cons_self ..)), run_past r fun d hd => h d (List.mem_cons_of_mem _ hd), List.length_cons]
    omega

/-! What is skipped. -/
theorem sk_le : ∀ (m : Bool) (l : List UInt8), sk m l ≤ l.length
  | _, [] => Nat.le_refl _
  | m, c :: r => by
    have := sk_le (isC c && (m || decide (c.toNat = 35))) r
    unfold sk
    rw [List.length_cons]
    split <;> omega
theorem sk_blank {c : UInt8} (h : isB c = true) (r : List UInt8) : sk false (c :: r) = sk false r + 1 := by
  have h35 : decide (c.toNat = 35) = false := by
    unfold isB at h
    simp only [Bool.or_eq_true, decide_eq_true_eq] at h
    exact decide_eq_false (by omega)
  show (if ((false && isC c) || isB c || decide (c.toNat = 35)) = true then sk (isC c && (false || decide (c.toNat = 35))) r + 1 else 0) = _
  rw [h, h35]
  simp
theorem sk_blanks : ∀ l : List UInt8, sk false l = run isB l + sk false (l.drop (run isB l))
  | [] => rfl
  | c :: r => by
    unfold run
    split
    · rename_i h
      rw [sk_blank h, List.drop_succ_cons, sk_blanks r]
      omega
    · simp
theorem isC_10 {c : UInt8} (h : c.toNat = 10) : isC c = false := by unfold isC; rw [h]; rfl
theorem isB_10 {c : UInt8} (h : c.toNat = 10) : isB c = true := by unfold isB; rw [h]; rfl
theorem sk_true : ∀ l : List UInt8, sk true l = run isC l + sk false (l.drop (run isC l))
  | [] => rfl
  | c :: r => by
    unfold run
    split
    · rename_i h
      rw [List.drop_succ_cons]
      show (if ((true && isC c) || isB c || decide (c.toNat = 35)) = true then sk (isC c && (true || decide (c.toNat = 35))) r + 1 else 0) = _
      rw [h]
      simp only [Bool.true_and, Bool.true_or, if_true]
      rw [sk_true r]
      omega
    · rename_i h
      have h10 : c.toNat = 10 := by unfold isC at h; simpa using h
      rw [List.drop_zero, sk_blank (isB_10 h10)]
      show (if ((true && isC c) || isB c || decide (c.toNat = 35)) = true then sk (isC c && (true || decide (c.toNat = 35))) r + 1 else 0) = _
      rw [isC_10 h10, isB_10 h10]
      simp
theorem sk_hash {c : UInt8} (h : c.toNat = 35) (r : List UInt8) : sk false (c :: r) = run isC (c :: r) + sk false ((c :: r).drop (run isC (c :: r))) := by
  have hc : isC c = true := by unfold isC; rw [h]; rfl
  have e : run isC (c :: r) = run isC r + 1 := by
    show (if isC c = true then run isC r + 1 else 0) = _
    rw [if_pos hc]
  rw [e, List.drop_succ_cons]
  show (if ((false && isC c) || isB c || decide (c.toNat = 35)) = true then sk (isC c && (false || decide (c.toNat = 35))) r + 1 else 0) = _
  rw [hc, decide_eq_true h]
  simp only [Bool.or_true, if_true, Bool.true_and]
  rw [sk_true r]
  omega
theorem sk_none {c : UInt8} (h1 : isB c = false) (h2 : c.toNat ≠ 35) (r : List UInt8) : sk false (c :: r) = 0 := by
  show (if ((false && isC c) || isB c || decide (c.toNat = 35)) = true then sk (isC c && (false || decide (c.toNat = 35))) r + 1 else 0) = _
  rw [h1, decide_eq_false h2]
  rfl
/-- Where skipping ends no blank and no comment begins. -/
theorem sk_at : ∀ (m : Bool) (l : List UInt8) (c : UInt8), (l.drop (sk m l)).head? = some c → isB c = false ∧ c.toNat ≠ 35
  | _, [], c, h => by simp [sk] at h
  | m, d :: l, c, h => by
    unfold sk at h
    split at h
    · rw [List.drop_succ_cons] at h
      exact sk_at _ l c h
    · rename_i hd
      simp only [List.drop_zero, List.head?_cons, Option.some.injEq] at h
      subst h
      simp only [Bool.or_eq_true, decide_eq_true_eq, not_or, Bool.not_eq_true] at hd
      exact ⟨hd.1.2, hd.2⟩
theorem sk_cons (m : Bool) (c : UInt8) (r : List UInt8) : sk m (c :: r) = if ((m && isC c) || isB c || decide (c.toNat = 35)) = true then sk (isC c && (m || decide (c.toNat = 35))) r + 1 else 0 := rfl
theorem sk_app : ∀ (m : Bool) (l r : List UInt8), sk m (l ++ 10 :: r) = if sk m l < l.length then sk m l else l.length + 1 + sk false r
  | m, [], r => by
    have h1 : isB 10 = true := by decide
    have h2 : isC 10 = false := by decide
    show (if ((m && isC 10) || isB 10 || decide ((10 : UInt8).toNat = 35)) = true then sk (isC 10 && (m || decide ((10 : UInt8).toNat = 35))) r + 1 else 0) = _
    rw [h1, h2]
    simp [sk]
    omega
  | m, c :: l, r => by
    have ih := sk_app (isC c && (m || decide (c.toNat = 35))) l r
    rw [List.cons_append, sk_cons, sk_cons, ih, List.length_cons]
    split
    · split
      · rw [if_pos (by omega)]
      · rw [if_neg (by omega)]
        omega
    · rw [if_pos (by omega)]

/-! Shapes. -/
theorem sgn_cons (c : UInt8) (r : List UInt8) : sgn (c :: r) = if (c.toNat = 61 ∨ c.toNat = 33 ∨ c.toNat = 60) ∧ r.head? = some 61 then (5, 2) else if isS c = true then (5, 1) else (0, 1) := rfl
theorem sgn_le : ∀ l : List UInt8, (sgn l).2 ≤ l.length
  | [] => Nat.le_refl _
  | [c] => by
    rw [sgn_cons]
    split
    · rename_i h; simp at h
    · split <;> exact Nat.le_refl 1
  | c :: d :: r => by
    rw [sgn_cons]
    simp only [List.length_cons]
    split
    · exact Nat.le_add_left 2 _
    · split <;> exact Nat.le_add_left 1 _
theorem sgn_pos {l : List UInt8} (h : l ≠ []) : 1 ≤ (sgn l).2 := by
  cases l with
  | nil => exact absurd rfl h
  | cons c r =>
    rw [sgn_cons]
    split
    · exact Nat.le_succ 1
    · split <;> exact Nat.le_refl 1
theorem pnt_cons (c : UInt8) (r : List UInt8) : pnt (c :: r) = if c.toNat = 46 then run isD r else 0 := rfl
theorem pnt_le (l : List UInt8) : pnt l = 0 ∨ (1 ≤ pnt l ∧ pnt l + 1 ≤ l.length) := by
  cases l with
  | nil => exact .inl rfl
  | cons c r =>
    have := run_le isD r
    rw [pnt_cons, List.length_cons]
    split <;> omega
theorem shp_cons (c : UInt8) (r : List UInt8) : shp (c :: r) = if isL c = true then (1, run isW (c :: r)) else if isD c = true then
      (if pnt ((c :: r).drop (run isD (c :: r))) = 0 then (2, run isD (c :: r)) else (3, run isD (c :: r) + 1 + pnt ((c :: r).drop (run isD (c :: r)))))
    else if c.toNat = 34 ∧ (r.drop (run isQ r)).head? = some 34 then (4, run isQ r + 2) else sgn (c :: r) := rfl
theorem isW_L {c : UInt8} (h : isL c = true) : isW c = true := by unfold isW; rw [h]; rfl
theorem run_cons {p : UInt8 → Bool} {c : UInt8} (h : p c = true) (r : List UInt8) : run p (c :: r) = run p r + 1 := by
  show (if p c = true then run p r + 1 else 0) = _
  rw [if_pos h]
theorem head_len {l : List UInt8} {n : Nat} {c : UInt8} (h : (l.drop n).head? = some c) : n < l.length := by
  rcases Nat.lt_or_ge n l.length with h1 | h1
  · exact h1
  · rw [List.drop_eq_nil_of_le h1] at h; cases h
theorem shp_le : ∀ l : List UInt8, (shp l).2 ≤ l.length
  | [] => Nat.le_refl _
  | c :: r => by
    rw [shp_cons]
    split
    · exact run_le _ _
    · split
      · rename_i hd
        have h2 := run_le isD (c :: r)
        rcases pnt_le ((c :: r).drop (run isD (c :: r))) with h | ⟨h, h1⟩
        · rw [if_pos h]; exact h2
        · rw [if_neg (by omega)]
          rw [List.length_drop] at h1
          show run isD (c :: r) + 1 + _ ≤ _
          omega
      · split
        · rename_i h
          have := head_len h.2
          rw [List.length_cons]
          show run isQ r + 2 ≤ _
          omega
        · exact sgn_le _
theorem shp_pos {l : List UInt8} (h : l ≠ []) : 1 ≤ (shp l).2 := by
  cases l with
  | nil => exact absurd rfl h
  | cons c r =>
    rw [shp_cons]
    split
    · rename_i hl
      show 1 ≤ run isW (c :: r)
      rw [run_cons (isW_L hl)]
      omega
    · split
      · rename_i hd
        have : 1 ≤ run isD (c :: r) := by rw [run_cons hd]; omega
        split
        · exact this
        · show 1 ≤ run isD (c :: r) + 1 + _
          omega
      · split
        · exact Nat.le_add_left 1 _
        · exact sgn_pos (by simp)
theorem shp_kind (l : List UInt8) : (shp l).1 = 0 ∨ (shp l).1 = 1 ∨ (shp l).1 = 2 ∨ (shp l).1 = 3 ∨ (shp l).1 = 4 ∨ (shp l).1 = 5 := by
  cases l with
  | nil => exact .inl rfl
  | cons c r =>
    rw [shp_cons]
    split
    · simp
    · split
      · split <;> simp
      · split
        · simp
        · rw [sgn_cons]
          split
          · simp
          · split <;> simp

/-! The tokens and problems of a source. -/
def lxs (p : Nat) (f : Bool) (l : List UInt8) : List Tk × List Pb :=
  if _h : l.drop (sk false l) = [] then ([], [])
  else
    let l' := l.drop (sk false l)
    let R := lxs (p + sk false l + (shp l').2) (decide ((shp l').1 = 0)) (l'.drop (shp l').2)
    if flt (shp l').1 (l'.take (shp l').2) = 0 then (⟨(shp l').1, ⟨(cont (shp l').1 (l'.take (shp l').2)).toArray⟩, ((p + sk false l : Nat) : Int)⟩ :: R.1, R.2)
    else if (shp l').1 = 0 ∧ f = true ∧ sk false l = 0 then R
    else (R.1, (((p + sk false l : Nat) : Int), flt (shp l').1 (l'.take (shp l').2)) :: R.2)
termination_by l.length
decreasing_by
  have h1 := shp_pos _h
  have h2 : (l.drop (sk false l)).length ≠ 0 := fun e => _h (List.eq_nil_of_length_eq_zero e)
  rw [List.length_drop, List.length_drop]
  rw [List.length_drop] at h2
  omega
theorem lex_done {l : List UInt8} (h : l.drop (sk false l) = []) (p : Nat) (f : Bool) : lxs p f l = ([], []) := by
  rw [lxs, dif_pos h]
theorem lex_step {l l' : List UInt8} (h : l.drop (sk false l) = l') (h0 : l' ≠ []) (p : Nat) (f : Bool) : lxs p f l =
    if flt (shp l').1 (l'.take (shp l').2) = 0 then (⟨(shp l').1, ⟨(cont (shp l').1 (l'.take (shp l').2)).toArray⟩, ((p + sk false l : Nat) : Int)⟩ :: (lxs (p + sk false l + (shp l').2) (decide ((shp l').1 = 0)) (l'.drop (shp l').2)).1, (lxs (p + sk false l + (shp l').2) (decide ((shp l').1 = 0)) (l'.drop (shp l').2)).2)
    else if (shp l').1 = 0 ∧ f = true ∧ sk false l = 0 then lxs (p + sk false l + (shp l').2) (decide ((shp l').1 = 0)) (l'.drop (shp l').2)
    else ((lxs (p + sk false l + (shp l').2) (decide ((shp l').1 = 0)) (l'.drop (shp l').2)).1, (((p + sk false l : Nat) : Int), flt (shp l').1 (l'.take (shp l').2)) :: (lxs (p + sk false l + (shp l').2) (decide ((shp l').1 = 0)) (l'.drop (shp l').2)).2) := by
  subst h
  rw [lxs, dif_neg h0]
end Go.Proofs.YtkfciilclfhabaaGreatDoor
