/-
  Sources and tokens as plain data: what is skipped, the shape of what a source begins with, the codes of problems, the tokens and problems of a source; What the tokens of sources have to do with each other: tokens alone, gaps between them, sources one after the other, offsets; Offsets, lines, what stands where, and words: facts of the tokens of sources as plain data; The error of a decimal that con
-/
import Derived.Lib.Join
import Derived.WalkMore
import Derived.ScopeJumps
import Derived.Test.YtbahfelnbofjjaaGreatDoorQ02
namespace Go.Proofs.YtbahfelnbofjjaaGreatDoor
open dec

/-- How many bytes a list begins with of which p holds. -/
def run (p : UInt8 → Bool) : List UInt8 → Nat
  | [] => 0
  | c :: r => if p c = true then run p r + 1 else 0
def isL (c : UInt8) : Bool := decide (97 ≤ c.toNat) && decide (c.toNat ≤ 122)
def isB (c : UInt8) : Bool := decide (c.toNat = 9) || decide (c.toNat = 10) || decide (c.toNat = 13) || decide (c.toNat = 32)
def isW (c : UInt8) : Bool := isL c || isD c || decide (c.toNat = 95)
def isC (c : UInt8) : Bool := !decide (c.toNat = 10)
def isQ (c : UInt8) : Bool := !decide (c.toNat = 34) && !decide (c.toNat = 10)
def isS (c : UInt8) : Bool := decide (c.toNat ∈ [123, 125, 40, 41, 91, 93, 44, 58, 59, 61, 60, 43, 45, 42, 47, 94, 64])
/-- Blanks and comments; m: within a comment. -/
def sk : Bool → List UInt8 → Nat
  | _, [] => 0
  | m, c :: r => if ((m && isC c) || isB c || decide (c.toNat = 35)) = true then sk (isC c && (m || decide (c.toNat = 35))) r + 1 else 0
def sgn : List UInt8 → Int × Nat
  | [] => (0, 0)
  | c :: r => if (c.toNat = 61 ∨ c.toNat = 33 ∨ c.toNat = 60) ∧ r.head? = some 61 then (5, 2) else if isS c = true then (5, 1) else (0, 1)
/-- The digits behind a point. -/
def pnt : List UInt8 → Nat
  | [] => 0
  | c :: r => if c.toNat = 46 then run isD r else 0
def shp : List UInt8 → Int × Nat
  | [] => (0, 0)
  | c :: r =>
    if isL c = true then (1, run isW (c :: r))
    else if isD c = true then
      (if pnt ((c :: r).drop (run isD (c :: r))) = 0 then (2, run isD (c :: r)) else (3, run isD (c :: r) + 1 + pnt ((c :: r).drop (run isD (c :: r)))))
    else if c.toNat = 34 ∧ (r.drop (run isQ r)).head? = some 34 then (4, run isQ r + 2)
    else sgn (c :: r)
def cont (k : Int) (p : List UInt8) : List UInt8 := if k = 4 then (p.drop 1).take (p.length - 2) else p
def txE (s : List UInt8) : Int := if 64 < s.length then 2 else if pB 32 s = true then 0 else 3
def flt (k : Int) (p : List UInt8) : Int :=
  if k = 1 then (if 24 < p.length then 2 else 0)
  else if k = 2 then (if 1152921504606846976 < dval 0 p then 2 else 0)
  else if k = 3 then paE p
  else if k = 4 then txE (cont k p)
  else if k = 0 then 80
  else 0
structure Tk where
  k : Int
  t : ByteArray
  a : Int
abbrev Pb := Int × Int
/-- The source of a token. -/
def so (x : Tk) : List UInt8 := if x.k = 4 then 34 :: (x.t.data.toList ++ [34]) else x.t.data.toList

theorem run_le (p : UInt8 → Bool) : ∀ l : List UInt8, run p l ≤ l.length
  | [] => Nat.le_refl _
  | c :: r => by
    have := run_le p r
    unfold run
    rw [List.length_cons]
    split <;> omega
theorem run_stop {p : UInt8 → Bool} {d : UInt8} (h : p d = false) (r : List UInt8) : ∀ l : List UInt8, run p (l ++ d :: r) = run p l
  | [] => by simp [run, h]
  | c :: l => by
    rw [List.cons_append]
    unfold run
    rw [run_stop h r l]
theorem run_take (p : UInt8 → Bool) : ∀ (l : List UInt8) (n : Nat), run p (l.take n) = min n (run p l)
  | [], n => by simp [run]
  | c :: l, 0 => by simp [run]
  | c :: l, n + 1 => by
    rw [List.take_succ_cons]
    unfold run
    rw [run_take p l n]
    split <;> omega
theorem run_at (p : UInt8 → Bool) : ∀ (l : List UInt8) (c : UInt8), (l.drop (run p l)).head? = some c → p c = false
  | [], c, h => by simp [run] at h
  | d :: l, c, h => by
    unfold run at h
    split at h
    · rw [List.drop_succ_cons] at h
      exact run_at p l c h
    · rename_i hd
      simp only [List.drop_zero, List.head?_cons, Option.some.injEq] at h
      subst h
      simpa using hd
theorem run_all (p : UInt8 → Bool) : ∀ (l : List UInt8), ∀ c ∈ l.take (run p l), p c = true
  | [], c, h => by simp at h
  | d :: l, c, h => by
    unfold run at h
    split at h
    · rename_i hd
      rw [List.take_succ_cons, List.mem_cons] at h
      rcases h with rfl | h
      · exact hd
      · exact run_all p l c h
    · simp at h
theorem run_whole {p : UInt8 → Bool} : ∀ {l : List UInt8}, (∀ c ∈ l, p c = true) → run p l = l.length
  | [], _ => rfl
  | c :: l, h => by
    unfold run
    rw [if_pos (h c (List.mem_cons_self ..)), run_whole fun d hd => h d (List.mem_cons_of_mem _ hd), List.length_cons]
theorem run_past {p : UInt8 → Bool} (r : List UInt8) : ∀ {l : List UInt8}, (∀ c ∈ l, p c = true) → run p (l ++ r) = l.length + run p r
  | [], _ => by simp
  | c :: l, h => by
    rw [List.cons_append]
    show (if p c = true then run p (l ++ r) + 1 else 0) = _
    rw [if_pos (h c (List.mem_cons_self ..)), run_past r fun d hd => h d (List.mem_cons_of_mem _ hd), List.length_cons]
    omega

/-! What is skipped. -/
theorem sk_le : ∀ (m : Bool) (l : List UInt8), sk m l ≤ l.length
  | _, [] => Nat.le_refl _
  | m, c :: r => by
    have := sk_le (isC c && (m || decide (c.toNat = 35))) r
    unfold sk
    rw [List.length_cons]
    split <;> omega
theorem sk_blank {c : UInt8} (h : isB c = true) (r : List UInt8) : sk false (c :: r) = sk false r + 1 := by
  have h35 : decide (c.toNat = 35) = false := by
    unfold isB at h
    simp only [Bool.or_eq_true, decide_eq_true_eq] at h
    exact decide_eq_false (by omega)
  show (if ((false && isC c) || isB c || decide (c.toNat = 35)) = true then sk (isC c && (false || decide (c.toNat = 35))) r + 1 else 0) = _
  rw [h, h35]
  simp
theorem sk_blanks : ∀ l : List UInt8, sk false l = run isB l + sk false (l.drop (run isB l))
  | [] => rfl
  | c :: r => by
    unfold run
    split
    · rename_i h
      rw [sk_blank h, List.drop_succ_cons, sk_blanks r]
      omega
    · simp
theorem isC_10 {c : UInt8} (h : c.toNat = 10) : isC c = false := by unfold isC; rw [h]; rfl
theorem isB_10 {c : UInt8} (h : c.toNat = 10) : isB c = true := by unfold isB; rw [h]; rfl
theorem sk_true : ∀ l : List UInt8, sk true l = run isC l + sk false (l.drop (run isC l))
  | [] => rfl
  | c :: r => by
    unfold run
    split
    · rename_i h
      rw [List.drop_succ_cons]
      show (if ((true && isC c) || isB c || decide (c.toNat = 35)) = true then sk (isC c && (true || decide (c.toNat = 35))) r + 1 else 0) = _
      rw [h]
      simp only [Bool.true_and, Bool.true_or, if_true]
      rw [sk_true r]
      omega
    · rename_i h
      have h10 : c.toNat = 10 := by unfold isC at h; simpa using h
      rw [List.drop_zero, sk_blank (isB_10 h10)]
      show (if ((true && isC c) || isB c || decide (c.toNat = 35)) = true then sk (isC c && (true || decide (c.toNat = 35))) r + 1 else 0) = _
      rw [isC_10 h10, isB_10 h10]
      simp
theorem sk_hash {c : UInt8} (h : c.toNat = 35) (r : List UInt8) : sk false (c :: r) = run isC (c :: r) + sk false ((c :: r).drop (run isC (c :: r))) := by
  have hc : isC c = true := by unfold isC; rw [h]; rfl
  have e : run isC (c :: r) = run isC r + 1 := by
    show (if isC c = true then run isC r + 1 else 0) = _
    rw [if_pos hc]
  rw [e, List.drop_succ_cons]
  show (if ((false && isC c) || isB c || decide (c.toNat = 35)) = true then sk (isC c && (false || decide (c.toNat = 35))) r + 1 else 0) = _
  rw [hc, decide_eq_true h]
  simp only [Bool.or_true, if_true, Bool.true_and]
  rw [sk_true r]
  omega
theorem sk_none {c : UInt8} (h1 : isB c = false) (h2 : c.toNat ≠ 35) (r : List UInt8) : sk false (c :: r) = 0 := by
  show (if ((false && isC c) || isB c || decide (c.toNat = 35)) = true then sk (isC c && (false || decide (c.toNat = 35))) r + 1 else 0) = _
  rw [h1, decide_eq_false h2]
  rfl
/-- Where skipping ends no blank and no comment begins. -/
theorem sk_at : ∀ (m : Bool) (l : List UInt8) (c : UInt8), (l.drop (sk m l)).head? = some c → isB c = false ∧ c.toNat ≠ 35
  | _, [], c, h => by simp [sk] at h
  | m, d :: l, c, h => by
    unfold sk at h
    split at h
    · rw [List.drop_succ_cons] at h
      exact sk_at _ l c h
    · rename_i hd
      simp only [List.drop_zero, List.head?_cons, Option.some.injEq] at h
      subst h
      simp only [Bool.or_eq_true, decide_eq_true_eq, not_or, Bool.not_eq_true] at hd
      exact ⟨hd.1.2, hd.2⟩
theorem sk_cons (m : Bool) (c : UInt8) (r : List UInt8) : sk m (c :: r) = if ((m && isC c) || isB c || decide (c.toNat = 35)) = true then sk (isC c && (m || decide (c.toNat = 35))) r + 1 else 0 := rfl
theorem sk_app : ∀ (m : Bool) (l r : List UInt8), sk m (l ++ 10 :: r) = if sk m l < l.length then sk m l else l.length + 1 + sk false r
  | m, [], r => by
    have h1 : isB 10 = true := by decide
    have h2 : isC 10 = false := by decide
    show (if ((m && isC 10) || isB 10 || decide ((10 : UInt8).toNat = 35)) = true then sk (isC 10 && (m || decide ((10 : UInt8).toNat = 35))) r + 1 else 0) = _
    rw [h1, h2]
    simp [sk]
    omega
  | m, c :: l, r => by
    have ih := sk_app (isC c && (m || decide (c.toNat = 35))) l r
    rw [List.cons_append, sk_cons, sk_cons, ih, List.length_cons]
    split
    · split
      · rw [if_pos (by omega)]
      · rw [if_neg (by omega)]
        omega
    · rw [if_pos (by omega)]

/-! Shapes. -/
theorem sgn_cons (c : UInt8) (r : List UInt8) : sgn (c :: r) = if (c.toNat = 61 ∨ c.toNat = 33 ∨ c.toNat = 60) ∧ r.head? = some 61 then (5, 2) else if isS c = true then (5, 1) else (0, 1) := rfl
theorem sgn_le : ∀ l : List UInt8, (sgn l).2 ≤ l.length
  | [] => Nat.le_refl _
  | [c] => by
    rw [sgn_cons]
    split
    · rename_i h; simp at h
    · split <;> exact Nat.le_refl 1
  | c :: d :: r => by
    rw [sgn_cons]
    simp only [List.length_cons]
    split
    · exact Nat.le_add_left 2 _
    · split <;> exact Nat.le_add_left 1 _
theorem sgn_pos {l : List UInt8} (h : l ≠ []) : 1 ≤ (sgn l).2 := by
  cases l with
  | nil => exact absurd rfl h
  | cons c r =>
    rw [sgn_cons]
    split
    · exact Nat.le_succ 1
    · split <;> exact Nat.le_refl 1
theorem pnt_cons (c : UInt8) (r : List UInt8) : pnt (c :: r) = if c.toNat = 46 then run isD r else 0 := rfl
theorem pnt_le (l : List UInt8) : pnt l = 0 ∨ (1 ≤ pnt l ∧ pnt l + 1 ≤ l.length) := by
  cases l with
  | nil => exact .inl rfl
  | cons c r =>
    have := run_le isD r
    rw [pnt_cons, List.length_cons]
    split <;> omega
theorem shp_cons (c : UInt8) (r : List UInt8) : shp (c :: r) = if isL c = true then (1, run isW (c :: r)) else if isD c = true then
      (if pnt ((c :: r).drop (run isD (c :: r))) = 0 then (2, run isD (c :: r)) else (3, run isD (c :: r) + 1 + pnt ((c :: r).drop (run isD (c :: r)))))
    else if c.toNat = 34 ∧ (r.drop (run isQ r)).head? = some 34 then (4, run isQ r + 2) else sgn (c :: r) := rfl
theorem isW_L {c : UInt8} (h : isL c = true) : isW c = true := by unfold isW; rw [h]; rfl
theorem run_cons {p : UInt8 → Bool} {c : UInt8} (h : p c = true) (r : List UInt8) : run p (c :: r) = run p r + 1 := by
  show (if p c = true then run p r + 1 else 0) = _
  rw [if_pos h]
theorem head_len {l : List UInt8} {n : Nat} {c : UInt8} (h : (l.drop n).head? = some c) : n < l.length := by
  rcases Nat.lt_or_ge n l.length with h1 | h1
  · exact h1
  · rw [List.drop_eq_nil_of_le h1] at h; cases h
theorem shp_le : ∀ l : List UInt8, (shp l).2 ≤ l.length
  | [] => Nat.le_refl _
  | c :: r => by
    rw [shp_cons]
    split
    · exact run_le _ _
    · split
      · rename_i hd
        have h2 := run_le isD (c :: r)
        rcases pnt_le ((c :: r).drop (run isD (c :: r))) with h | ⟨h, h1⟩
        · rw [if_pos h]; exact h2
        · rw [if_neg (by omega)]
          rw [List.length_drop] at h1
          show run isD (c :: r) + 1 + _ ≤ _
          omega
      · split
        · rename_i h
          have := head_len h.2
          rw [List.length_cons]
          show run isQ r + 2 ≤ _
          omega
        · exact sgn_le _
theorem shp_pos {l : List UInt8} (h : l ≠ []) : 1 ≤ (shp l).2 := by
  cases l with
  | nil => exact absurd rfl h
  | cons c r =>
    rw [shp_cons]
    split
    · rename_i hl
      show 1 ≤ run isW (c :: r)
      rw [run_cons (isW_L hl)]
      omega
    · split
      · rename_i hd
        have : 1 ≤ run isD (c :: r) := by rw [run_cons hd]; omega
        split
        · exact this
        · show 1 ≤ run isD (c :: r) + 1 + _
          omega
      · split
        · exact Nat.le_add_left 1 _
        · exact sgn_pos (by simp)
theorem shp_kind (l : List UInt8) : (shp l).1 = 0 ∨ (shp l).1 = 1 ∨ (shp l).1 = 2 ∨ (shp l).1 = 3 ∨ (shp l).1 = 4 ∨ (shp l).1 = 5 := by
  cases l with
  | nil => exact .inl rfl
  | cons c r =>
    rw [shp_cons]
    split
    · simp
    · split
      · split <;> simp
      · split
        · simp
        · rw [sgn_cons]
          split
          · simp
          · split <;> simp

/-! The tokens and problems of a source. -/
def lxs (p : Nat) (f : Bool) (l : List UInt8) : List Tk × List Pb :=
  if _h : l.drop (sk false l) = [] then ([], [])
  else
    let l' := l.drop (sk false l)
    let R := lxs (p + sk false l + (shp l').2) (decide ((shp l').1 = 0)) (l'.drop (shp l').2)
    if flt (shp l').1 (l'.take (shp l').2) = 0 then (⟨(shp l').1, ⟨(cont (shp l').1 (l'.take (shp l').2)).toArray⟩, ((p + sk false l : Nat) : Int)⟩ :: R.1, R.2)
    else if (shp l').1 = 0 ∧ f = true ∧ sk false l = 0 then R
    else (R.1, (((p + sk false l : Nat) : Int), flt (shp l').1 (l'.take (shp l').2)) :: R.2)
termination_by l.length
decreasing_by
  have h1 := shp_pos _h
  have h2 : (l.drop (sk false l)).length ≠ 0 := fun e => _h (List.eq_nil_of_length_eq_zero e)
  rw [List.length_drop, List.length_drop]
  rw [List.length_drop] at h2
  omega
theorem lex_done {l : List UInt8} (h : l.drop (sk false l) = []) (p : Nat) (f : Bool) : lxs p f l = ([], []) := by
  rw [lxs, dif_pos h]
theorem lex_step {l l' : List UInt8} (h : l.drop (sk false l) = l') (h0 : l' ≠ []) (p : Nat) (f : Bool) : lxs p f l =
    if flt (shp l').1 (l'.take (shp l').2) = 0 then (⟨(shp l').1, ⟨(cont (shp l').1 (l'.take (shp l').2)).toArray⟩, ((p + sk false l : Nat) : Int)⟩ :: (lxs (p + sk false l + (shp l').2) (decide ((shp l').1 = 0)) (l'.drop (shp l').2)).1, (lxs (p + sk false l + (shp l').2) (decide ((shp l').1 = 0)) (l'.drop (shp l').2)).2)
    else if (shp l').1 = 0 ∧ f = true ∧ sk false l = 0 then lxs (p + sk false l + (shp l').2) (decide ((shp l').1 = 0)) (l'.drop (shp l').2)
    else ((lxs (p + sk false l + (shp l').2) (decide ((shp l').1 = 0)) (l'.drop (shp l').2)).1, (((p + sk false l : Nat) : Int), flt (shp l').1 (l'.take (shp l').2)) :: (lxs (p + sk false l + (shp l').2) (decide ((shp l').1 = 0)) (l'.drop (shp l').2)).2) := by
  subst h
  rw [lxs, dif_neg h0]
end Go.Proofs.YtbahfelnbofjjaaGreatDoor
namespace Go.Proofs.YtbahfelnbofjjaaGreatDoor
open dec

def Sep (x : List UInt8) : Prop := x = [] ∨ ∃ r, x = 32 :: r
theorem run_end {p : UInt8 → Bool} (h : p 32 = false) {x : List UInt8} (hx : Sep x) (l : List UInt8) : run p (l ++ x) = run p l := by
  rcases hx with rfl | ⟨r, rfl⟩
  · rw [List.append_nil]
  · exact run_stop h r l
theorem take_run (p : UInt8 → Bool) (l : List UInt8) : run p (l.take (run p l)) = run p l := by rw [run_take]; omega
theorem drop_cons {l : List UInt8} {n : Nat} {c : UInt8} (h : (l.drop n).head? = some c) : l.drop n = c :: l.drop (n + 1) := by
  have hl := head_len h
  rw [List.drop_eq_getElem_cons hl] at h ⊢
  simp only [List.head?_cons, Option.some.injEq] at h
  rw [h]
theorem split_at {l : List UInt8} {n : Nat} {c : UInt8} (h : (l.drop n).head? = some c) : l = l.take n ++ c :: l.drop (n + 1) := by
  rw [← drop_cons h, List.take_append_drop]
theorem take_len {l : List UInt8} {n : Nat} (h : n ≤ l.length) : (l.take n).length = n := by rw [List.length_take]; omega
theorem take_past {l r : List UInt8} {m : Nat} (k : Nat) (h : m = l.length) : (l ++ r).take (m + k) = l ++ r.take k := by
  subst h
  exact List.take_length_add_append k
theorem drop_to {l r : List UInt8} {m : Nat} (h : m = l.length) : (l ++ r).drop m = r := by subst h; exact List.drop_left' rfl
theorem take_more {l : List UInt8} {n : Nat} {c : UInt8} (h : (l.drop n).head? = some c) (k : Nat) : l.take (n + 1 + k) = l.take n ++ c :: (l.drop (n + 1)).take k := by
  rw [show n + 1 + k = n + (k + 1) by omega, List.take_add, drop_cons h, List.take_succ_cons]
theorem pnt_sep {x : List UInt8} (hx : Sep x) : pnt x = 0 := by
  rcases hx with rfl | ⟨r, rfl⟩
  · rfl
  · rfl
theorem pnt_some {l : List UInt8} (h : pnt l ≠ 0) : ∃ c r, l = c :: r ∧ c.toNat = 46 ∧ pnt l = run isD r := by
  cases l with
  | nil => exact absurd rfl h
  | cons c r =>
    rw [pnt_cons] at h ⊢
    split at h
    · rename_i hc
      exact ⟨c, r, rfl, hc, by rw [if_pos hc]⟩
    · exact absurd rfl h
theorem isD_46 {c : UInt8} (h : c.toNat = 46) : isD c = false := by unfold isD; rw [h]; rfl
theorem isQ_34 {c : UInt8} (h : c.toNat = 34) : isQ c = false := by unfold isQ; rw [h]; rfl
theorem toNat_of {c : UInt8} {d : UInt8} (h : c.toNat = d.toNat) : c = d := UInt8.toNat_inj.1 h
theorem sign_34 {c : UInt8} (h : isS c = true ∨ c.toNat = 61 ∨ c.toNat = 33 ∨ c.toNat = 60) : c.toNat ≠ 34 := by
  intro e
  rcases h with h | h
  · unfold isS at h
    rw [e] at h
    exact absurd h (by decide)
  · omega
/-- A token, with nothing or a blank behind it, has its shape. -/
theorem shp_part {l x : List UInt8} (hk : (shp l).1 ≠ 0) (hx : Sep x) : shp (l.take (shp l).2 ++ x) = shp l := by
  cases l with
  | nil => exact absurd rfl hk
  | cons c r =>
    by_cases hl : isL c = true
    · have e : shp (c :: r) = (1, run isW r + 1) := by rw [shp_cons, if_pos hl, run_cons (isW_L hl)]
      rw [e, List.take_succ_cons, List.cons_append, shp_cons, if_pos hl, run_cons (isW_L hl), run_end (by decide) hx, take_run]
    · by_cases hd : isD c = true
      · have ed := run_cons hd r
        by_cases hp : pnt ((c :: r).drop (run isD (c :: r))) = 0
        · have e : shp (c :: r) = (2, run isD r + 1) := by rw [shp_cons, if_neg hl, if_pos hd, if_pos hp, ed]
          have e2 : run isD (c :: (r.take (run isD r) ++ x)) = run isD r + 1 := by rw [run_cons hd, run_end (by decide) hx, take_run]
          rw [e, List.take_succ_cons, List.cons_append, shp_cons, if_neg hl, if_pos hd, e2, List.drop_succ_cons, drop_to (take_len (run_le _ _)).symm, if_pos (pnt_sep hx)]
        · have e : shp (c :: r) = (3, run isD (c :: r) + 1 + pnt ((c :: r).drop (run isD (c :: r)))) := by rw [shp_cons, if_neg hl, if_pos hd, if_neg hp]
          obtain ⟨d, y, hy, h46, hq⟩ := pnt_some hp
          have hs := split_at (l := c :: r) (n := run isD (c :: r)) (c := d) (by rw [hy]; rfl)
          have hy2 : (c :: r).drop (run isD (c :: r) + 1) = y := by
            have := drop_cons (l := c :: r) (n := run isD (c :: r)) (c := d) (by rw [hy]; rfl)
            rw [hy] at this
            exact (List.cons.inj this).2.symm
          rw [hy2] at hs
          rw [e, hq]
          have hn := take_len (run_le isD (c :: r))
          have et : (c :: r).take (run isD (c :: r) + 1 + run isD y) = (c :: r).take (run isD (c :: r)) ++ d :: y.take (run isD y) := by
            rw [take_more (c := d) (by rw [hy]; rfl), hy2]
          have hc : (c :: r).take (run isD (c :: r)) = c :: r.take (run isD r) := by rw [ed, List.take_succ_cons]
          have et2 : (c :: r).take (run isD (c :: r) + 1 + run isD y) ++ x = c :: (r.take (run isD r) ++ d :: (y.take (run isD y) ++ x)) := by
            rw [et, hc]; simp
          have en : run isD (c :: (r.take (run isD r) ++ d :: (y.take (run isD y) ++ x))) = run isD r + 1 := by
            rw [run_cons hd, run_stop (isD_46 h46), take_run]
          have ep : pnt ((c :: (r.take (run isD r) ++ d :: (y.take (run isD y) ++ x))).drop (run isD r + 1)) = run isD y := by
            rw [List.drop_succ_cons, drop_to (take_len (run_le _ _)).symm, pnt_cons, if_pos h46, run_end (by decide) hx, take_run]
          rw [et2, shp_cons, if_neg hl, if_pos hd, en, ep, if_neg (by omega), ed]
      · by_cases hq : c.toNat = 34 ∧ (r.drop (run isQ r)).head? = some 34
        · have e : shp (c :: r) = (4, run isQ r + 1 + 1) := by rw [shp_cons, if_neg hl, if_neg hd, if_pos hq]
          have hs := split_at hq.2
          have et : r.take (run isQ r + 1) = r.take (run isQ r) ++ [34] := by
            have := take_more hq.2 0
            simpa using this
          have en : run isQ (r.take (run isQ r) ++ 34 :: x) = run isQ r := by rw [run_stop (by decide), take_run]
          rw [e, List.take_succ_cons, List.cons_append, et, List.append_assoc, shp_cons, if_neg hl, if_neg hd]
          show (if c.toNat = 34 ∧ ((r.take (run isQ r) ++ 34 :: x).drop (run isQ (r.take (run isQ r) ++ 34 :: x))).head? = some 34 then (4, run isQ (r.take (run isQ r) ++ 34 :: x) + 2) else _) = _
          rw [en, drop_to (take_len (run_le _ _)).symm, if_pos ⟨hq.1, rfl⟩]
        · have e : shp (c :: r) = sgn (c :: r) := by rw [shp_cons, if_neg hl, if_neg hd, if_neg hq]
          rw [e] at hk ⊢
          rw [sgn_cons] at hk ⊢
          by_cases h2 : (c.toNat = 61 ∨ c.toNat = 33 ∨ c.toNat = 60) ∧ r.head? = some 61
          · rw [if_pos h2]
            cases r with
            | nil => cases h2.2
            | cons d r =>
              have hd61 : d = 61 := by simpa using h2.2
              subst hd61
              show shp (c :: 61 :: x) = _
              rw [shp_cons, if_neg hl, if_neg hd, if_neg (fun h => sign_34 (.inr h2.1) h.1), sgn_cons, if_pos ⟨h2.1, rfl⟩]
          · rw [if_neg h2] at hk ⊢
            by_cases hS : isS c = true
            · rw [if_pos hS]
              show shp (c :: x) = _
              rw [shp_cons, if_neg hl, if_neg hd, if_neg (fun h => sign_34 (.inl hS) h.1), sgn_cons, if_neg, if_pos hS]
              rintro ⟨_, h⟩
              rcases hx with rfl | ⟨r, rfl⟩
              · cases h
              · cases h
            · rw [if_neg hS] at hk
              exact absurd rfl hk
/-- A byte 10 behind a source does not change its shape. -/
theorem shp_line {l : List UInt8} (h0 : l ≠ []) (s : List UInt8) : shp (l ++ 10 :: s) = shp l := by
  cases l with
  | nil => exact absurd rfl h0
  | cons c r =>
    have hW := run_stop (p := isW) (d := 10) (by decide) s (c :: r)
    have hD := run_stop (p := isD) (d := 10) (by decide) s (c :: r)
    have hQ := run_stop (p := isQ) (d := 10) (by decide) s r
    rw [List.cons_append] at hW hD ⊢
    rw [shp_cons, shp_cons, hW, hD, hQ, sgn_cons, sgn_cons]
    have hp : pnt ((c :: (r ++ 10 :: s)).drop (run isD (c :: r))) = pnt ((c :: r).drop (run isD (c :: r))) := by
      rw [← List.cons_append, List.drop_append_of_le_length (run_le _ _)]
      generalize (c :: r).drop (run isD (c :: r)) = y
      cases y with
      | nil => rfl
      | cons d y => rw [List.cons_append, pnt_cons, pnt_cons, run_stop (by decide)]
    have hq : ((r ++ 10 :: s).drop (run isQ r)).head? = some 34 ↔ (r.drop (run isQ r)).head? = some 34 := by
      rw [List.drop_append_of_le_length (run_le _ _)]
      generalize r.drop (run isQ r) = y
      cases y with
      | nil => simp
      | cons d y => simp
    have h6 : (r ++ 10 :: s).head? = some 61 ↔ r.head? = some 61 := by
      cases r with
      | nil => simp
      | cons d y => simp
    simp only [hp, hq, h6]
theorem shp_head {l : List UInt8} (hk : (shp l).1 ≠ 0) (x : List UInt8) : sk false (l ++ x) = 0 := by
  cases l with
  | nil => exact absurd rfl hk
  | cons c r =>
    rw [List.cons_append]
    refine sk_none ?_ ?_ _
    · cases hb : isB c
      · rfl
      · exfalso
        apply hk
        have hb' := hb
        unfold isB at hb'
        simp only [Bool.or_eq_true, decide_eq_true_eq] at hb'
        have h1 : ¬ isL c = true := by unfold isL; rw [Bool.and_eq_true, decide_eq_true_eq, decide_eq_true_eq]; omega
        have h2 : ¬ isD c = true := by unfold isD; rw [Bool.and_eq_true, decide_eq_true_eq, decide_eq_true_eq]; omega
        have h3 : ¬ isS c = true := by
          unfold isS
          rw [decide_eq_true_eq]
          simp
          omega
        rw [shp_cons, if_neg h1, if_neg h2, if_neg (by omega), sgn_cons, if_neg (by omega), if_neg h3]
    · intro hb'
      apply hk
      have h1 : ¬ isL c = true := by unfold isL; rw [Bool.and_eq_true, decide_eq_true_eq, decide_eq_true_eq]; omega
      have h2 : ¬ isD c = true := by unfold isD; rw [Bool.and_eq_true, decide_eq_true_eq, decide_eq_true_eq]; omega
      have h3 : ¬ isS c = true := by
        unfold isS
        rw [decide_eq_true_eq]
        simp
        omega
      rw [shp_cons, if_neg h1, if_neg h2, if_neg (by omega), sgn_cons, if_neg (by omega), if_neg h3]
/-- What stands between the quotes of a text. -/
theorem shp_text {l : List UInt8} (h : (shp l).1 = 4) : l.take (shp l).2 = 34 :: (cont 4 (l.take (shp l).2) ++ [34]) := by
  cases l with
  | nil => cases h
  | cons c r =>
    rw [shp_cons] at h ⊢
    split at h
    · cases h
    · rename_i hl
      split at h
      · split at h <;> cases h
      · rename_i hd
        split at h
        · rename_i hq
          rw [if_neg hl, if_neg hd, if_pos hq]
          have hs := split_at hq.2
          have et : r.take (run isQ r + 1) = r.take (run isQ r) ++ [34] := by
            have := take_more hq.2 0
            simpa using this
          have hc : c = 34 := toNat_of hq.1
          subst hc
          show (34 :: r).take (run isQ r + 1 + 1) = _
          rw [List.take_succ_cons, et]
          unfold cont
          rw [if_pos rfl]
          simp
        · rw [sgn_cons] at h
          split at h
          · cases h
          · split at h <;> cases h
theorem cont_other {k : Int} (h : k ≠ 4) (p : List UInt8) : cont k p = p := by unfold cont; rw [if_neg h]
/-- The source of a token that was found. -/
theorem so_part (l : List UInt8) (a : Int) : so ⟨(shp l).1, ⟨(cont (shp l).1 (l.take (shp l).2)).toArray⟩, a⟩ = l.take (shp l).2 := by
  unfold so
  by_cases h : (shp l).1 = 4
  · rw [if_pos h, h]
    exact (shp_text h).symm
  · rw [if_neg h]
    show (cont _ _) = _
    rw [cont_other h]
theorem cont_so (x : Tk) : cont x.k (so x) = x.t.data.toList := by
  unfold cont so
  split
  · simp
  · rfl
/-- The token alone. -/
def pr (x : Tk) : Bool := decide (shp (so x) = (x.k, (so x).length)) && decide (flt x.k (so x) = 0)
theorem pr_iff (x : Tk) : pr x = true ↔ shp (so x) = (x.k, (so x).length) ∧ flt x.k (so x) = 0 := by unfold pr; rw [Bool.and_eq_true, decide_eq_true_eq, decide_eq_true_eq]
theorem pr_kind {x : Tk} (h : pr x = true) : x.k = 1 ∨ x.k = 2 ∨ x.k = 3 ∨ x.k = 4 ∨ x.k = 5 := by
  have h2 := (pr_iff x).1 h
  have h3 := shp_kind (so x)
  rw [h2.1] at h3
  rcases h3 with h3 | h3
  · have h4 := h2.2
    rw [show x.k = 0 from h3] at h4
    unfold flt at h4
    simp at h4
  · exact h3
theorem kt_pr {x y : Tk} (h1 : x.k = y.k) (h2 : x.t = y.t) : so x = so y ∧ pr x = pr y := by
  have : so x = so y := by unfold so; rw [h1, h2]
  refine ⟨this, ?_⟩
  unfold pr
  rw [this, h1]
theorem lex_tok {x : Tk} (h : pr x = true) {y : List UInt8} (hy : Sep y) (p : Nat) (f : Bool) :
    lxs p f (so x ++ y) = (⟨x.k, x.t, (p : Nat)⟩ :: (lxs (p + (so x).length) false y).1, (lxs (p + (so x).length) false y).2) := by
  have hk := pr_kind h
  obtain ⟨h1, h2⟩ := (pr_iff x).1 h
  have hk0 : (shp (so x)).1 ≠ 0 := by rw [h1]; show x.k ≠ 0; omega
  have hn : (shp (so x)).2 = (so x).length := by rw [h1]
  have hs := shp_head hk0 y
  have hp : shp (so x ++ y) = (x.k, (so x).length) := by
    have := shp_part hk0 hy
    rw [hn, List.take_length] at this
    rw [this, h1]
  have hne : so x ++ y ≠ [] := by
    intro e
    rw [(List.append_eq_nil_iff.1 e).1] at hk0
    exact hk0 rfl
  have ht : (so x ++ y).take (so x).length = so x := List.take_left
  have hd : (so x ++ y).drop (so x).length = y := List.drop_left
  have hk1 : x.k ≠ 0 := by omega
  rw [lex_step (l' := so x ++ y) (by rw [hs, List.drop_zero]) hne, hp, hs]
  simp only [ht, hd, h2, if_true, cont_so, Nat.add_zero, decide_eq_false hk1]
theorem lex_nil (p : Nat) (f : Bool) : lxs p f [] = ([], []) := lex_done rfl p f
theorem lex_alone {x : Tk} (h : pr x = true) (p : Nat) (f : Bool) : lxs p f (so x) = ([⟨x.k, x.t, (p : Nat)⟩], []) := by
  have := lex_tok h (.inl rfl) p f
  rw [List.append_nil, lex_nil] at this
  exact this
/-- What is skipped as a whole, wherever it stands. -/
structure Gp (g : List UInt8) : Prop where
  ne : ∃ r, g = 32 :: r
  sk : ∀ r, sk false (g ++ r) = g.length + sk false r
theorem gp_one : Gp [32] := ⟨⟨[], rfl⟩, fun r => by rw [List.singleton_append, sk_blank (by decide)]; simp; omega⟩
theorem lex_gap {g : List UInt8} (h : Gp g) (l : List UInt8) (p : Nat) (f : Bool) : lxs p f (g ++ l) = lxs (p + g.length) false l := by
  have hs := h.sk l
  have hg : 1 ≤ g.length := by obtain ⟨r, rfl⟩ := h.ne; simp
  have hd : (g ++ l).drop (g.length + sk false l) = l.drop (sk false l) := by
    rw [← List.drop_drop, List.drop_left]
  by_cases h0 : l.drop (sk false l) = []
  · rw [lex_done (by rw [hs, hd, h0]), lex_done h0]
  · rw [lex_step (by rw [hs, hd]) h0, lex_step rfl h0, hs, show p + (g.length + sk false l) = p + g.length + sk false l by omega]
    simp only [Bool.false_eq_true, false_and, and_false, if_false]
    rw [if_neg (show ¬ ((shp (l.drop (sk false l))).1 = 0 ∧ f = true ∧ g.length + sk false l = 0) by omega)]
/-- Tokens with gaps in front of them. -/
def mix : List (List UInt8 × Tk) → List UInt8 → List UInt8
  | [], e => e
  | (g, x) :: l, e => g ++ (so x ++ mix l e)
def kt (x : Tk) : Int × ByteArray := (x.k, x.t)
theorem mix_sep {e : List UInt8} (he : ∃ r, e = 32 :: r) : ∀ l : List (List UInt8 × Tk), (∀ q ∈ l, Gp q.1) → Sep (mix l e)
  | [], _ => .inr he
  | (g, x) :: l, h => by
    obtain ⟨r, hr⟩ := (h (g, x) (List.mem_cons_self ..)).ne
    right
    unfold mix
    rw [show g = 32 :: r from hr]
    exact ⟨r ++ (so x ++ mix l e), rfl⟩
theorem lex_mix {e : List UInt8} (he : ∃ r, e = 32 :: r) (hl : ∀ p f, lxs p f e = ([], [])) : ∀ (l : List (List UInt8 × Tk)) (p : Nat) (f : Bool), (∀ q ∈ l, Gp q.1 ∧ pr q.2 = true) → ((lxs p f (mix l e)).1.map kt = l.map fun q => kt q.2) ∧ (lxs p f (mix l e)).2 = []
  | [], p, f, _ => by
    unfold mix
    rw [hl]
    exact ⟨rfl, rfl⟩
  | (g, x) :: l, p, f, h => by
    have h1 := h (g, x) (List.mem_cons_self ..)
    have h2 : ∀ q ∈ l, Gp q.1 ∧ pr q.2 = true := fun q hq => h q (List.mem_cons_of_mem _ hq)
    unfold mix
    rw [lex_gap h1.1, lex_tok h1.2 (mix_sep he l fun q hq => (h2 q hq).1)]
    obtain ⟨h3, h4⟩ := lex_mix he hl l (p + g.length + (so x).length) false h2
    refine ⟨?_, h4⟩
    show _ :: _ = _
    rw [h3]
    rfl
theorem lex_join : ∀ (l : List Tk) (p : Nat) (f : Bool), (∀ x ∈ l, pr x = true) → ((lxs p f (Lib.join (l.map so) [32])).1.map kt = l.map kt) ∧ (lxs p f (Lib.join (l.map so) [32])).2 = []
  | [], p, f, _ => by
    show (lxs p f []).1.map kt = _ ∧ (lxs p f []).2 = []
    rw [lex_nil]
    exact ⟨rfl, rfl⟩
  | [x], p, f, h => by
    rw [List.map_singleton, Lib.join_one, lex_alone (h x (List.mem_cons_self ..))]
    exact ⟨rfl, rfl⟩
  | x :: y :: l, p, f, h => by
    have e : Lib.join ((x :: y :: l).map so) [32] = so x ++ ([32] ++ Lib.join ((y :: l).map so) [32]) := by
      rw [List.map_cons, List.map_cons, Lib.join_cons, Lib.join_cons]
      simp [Lib.joinTail]
    rw [e, lex_tok (y := [32] ++ Lib.join ((y :: l).map so) [32]) (h x (List.mem_cons_self ..)) (.inr ⟨_, rfl⟩), lex_gap gp_one]
    obtain ⟨h3, h4⟩ := lex_join (y :: l) (p + (so x).length + [(32 : UInt8)].length) false fun z hz => h z (List.mem_cons_of_mem _ hz)
    refine ⟨?_, h4⟩
    show _ :: _ = _
    rw [h3]
    rfl

/-! By the length of what is left. -/
theorem lex_ind {C : Nat → Bool → List UInt8 → Prop} (h0 : ∀ p f l, l.drop (sk false l) = [] → C p f l)
    (h1 : ∀ p f l l', l.drop (sk false l) = l' → l' ≠ [] → C (p + sk false l + (shp l').2) (decide ((shp l').1 = 0)) (l'.drop (shp l').2) → C p f l) : ∀ (n p : Nat) (f : Bool) (l : List UInt8), l.length ≤ n → C p f l
  | n, p, f, l, hn => by
    by_cases h : l.drop (sk false l) = []
    · exact h0 p f l h
    · refine h1 p f l _ rfl h ?_
      have h1 := shp_pos h
      have h2 := shp_le (l.drop (sk false l))
      have h3 : (l.drop (sk false l)).length ≠ 0 := fun e => h (List.eq_nil_of_length_eq_zero e)
      have h4 : (l.drop (sk false l)).length ≤ l.length := by rw [List.length_drop]; omega
      match n, hn with
      | 0, hn => omega
      | n + 1, hn => exact lex_ind h0 h1' n _ _ _ (by rw [List.length_drop]; omega)
where
  h1' : ∀ p f l l', l.drop (sk false l) = l' → l' ≠ [] → C (p + sk false l + (shp l').2) (decide ((shp l').1 = 0)) (l'.drop (shp l').2) → C p f l := h1
end Go.Proofs.YtbahfelnbofjjaaGreatDoor
namespace Go.Proofs.YtbahfelnbofjjaaGreatDoor
open dec

def shT (d : Nat) (x : Tk) : Tk := ⟨x.k, x.t, x.a + d⟩
def shB (d : Nat) (q : Pb) : Pb := (q.1 + d, q.2)
theorem lex_shift (d : Nat) (p : Nat) (f : Bool) (l : List UInt8) : lxs (p + d) f l = ((lxs p f l).1.map (shT d), (lxs p f l).2.map (shB d)) := by
  refine lex_ind (C := fun p f l => lxs (p + d) f l = ((lxs p f l).1.map (shT d), (lxs p f l).2.map (shB d))) ?_ ?_ l.length p f l (Nat.le_refl _)
  · intro p f l h
    rw [lex_done h, lex_done h]
    rfl
  · intro p f l l' h h0 ih
    rw [lex_step h h0, lex_step h h0, show p + d + sk false l + (shp l').2 = p + sk false l + (shp l').2 + d by omega, ih, show p + d + sk false l = p + sk false l + d by omega]
    split
    · simp only [List.map_cons, shT, Int.natCast_add]
    · split
      · rfl
      · simp only [List.map_cons, shB, Int.natCast_add]
/-- Sources one after the other, a byte 10 between them. -/
theorem lex_lines (s : List UInt8) (p : Nat) (f : Bool) (l : List UInt8) : lxs p f (l ++ 10 :: s) = ((lxs p f l).1 ++ (lxs (p + l.length + 1) false s).1, (lxs p f l).2 ++ (lxs (p + l.length + 1) false s).2) := by
  refine lex_ind (C := fun p f l => lxs p f (l ++ 10 :: s) = ((lxs p f l).1 ++ (lxs (p + l.length + 1) false s).1, (lxs p f l).2 ++ (lxs (p + l.length + 1) false s).2)) ?_ ?_ l.length p f l (Nat.le_refl _)
  · intro p f l h
    have hl : sk false l = l.length := by
      have h1 := sk_le false l
      have h2 := congrArg List.length h
      rw [List.length_drop, List.length_nil] at h2
      omega
    have hs : sk false (l ++ 10 :: s) = l.length + 1 + sk false s := by
      rw [sk_app, if_neg (by omega)]
    have hd : (l ++ 10 :: s).drop (l.length + 1 + sk false s) = s.drop (sk false s) := by
      rw [← List.drop_drop, show l ++ 10 :: s = (l ++ [10]) ++ s by simp, drop_to (by simp)]
    rw [lex_done h]
    by_cases h3 : s.drop (sk false s) = []
    · rw [lex_done (by rw [hs, hd, h3]), lex_done h3]
      rfl
    · rw [lex_step (by rw [hs, hd]) h3, lex_step rfl h3, hs, show p + (l.length + 1 + sk false s) = p + l.length + 1 + sk false s by omega]
      simp only [Bool.false_eq_true, false_and, and_false, if_false, List.nil_append]
      rw [if_neg (show ¬ ((shp (s.drop (sk false s))).1 = 0 ∧ f = true ∧ l.length + 1 + sk false s = 0) by omega)]
  · intro p f l l' h h0 ih
    have hlt : sk false l < l.length := by
      rcases Nat.lt_or_ge (sk false l) l.length with h1 | h1
      · exact h1
      · rw [List.drop_eq_nil_of_le h1] at h
        exact absurd h.symm h0
    have hs : sk false (l ++ 10 :: s) = sk false l := by
      rw [sk_app, if_pos hlt]
    have hd : (l ++ 10 :: s).drop (sk false (l ++ 10 :: s)) = l' ++ 10 :: s := by
      rw [hs, List.drop_append_of_le_length (Nat.le_of_lt hlt), h]
    have hn := shp_le l'
    have ht : (l' ++ 10 :: s).take (shp l').2 = l'.take (shp l').2 := List.take_append_of_le_length hn
    have hdd : (l' ++ 10 :: s).drop (shp l').2 = l'.drop (shp l').2 ++ 10 :: s := List.drop_append_of_le_length hn
    have hlen : l'.length = l.length - sk false l := by rw [← h, List.length_drop]
    have hq : p + sk false l + (shp l').2 + (l'.drop (shp l').2).length + 1 = p + l.length + 1 := by rw [List.length_drop]; omega
    rw [hq] at ih
    rw [lex_step hd (by simp [h0]), shp_line h0, hs, ht, hdd, ih, lex_step h h0]
    split
    · rfl
    · split
      · rfl
      · rfl
/-- The tokens stand in a source from a place on, one after the other. -/
def Cov (src : List UInt8) : Nat → List Tk → Prop
  | _, [] => True
  | p, x :: l => ∃ a : Nat, x.a = (a : Nat) ∧ p ≤ a ∧ a + (so x).length ≤ src.length ∧ (src.drop a).take (so x).length = so x ∧ x.k ≠ 6 ∧ Cov src (a + (so x).length) l
def CovB (n : Nat) : Nat → List Pb → Prop
  | _, [] => True
  | p, q :: l => ∃ a : Nat, q.1 = (a : Nat) ∧ p ≤ a ∧ a < n ∧ q.2 ≠ 0 ∧ CovB n (a + 1) l
theorem CovB.less {n : Nat} : ∀ {l : List Pb} {p q : Nat}, q ≤ p → CovB n p l → CovB n q l
  | [], _, _, _, _ => trivial
  | _ :: _, _, _, h, ⟨a, h1, h2, h3⟩ => ⟨a, h1, Nat.le_trans h h2, h3⟩
theorem Cov.less {s : List UInt8} : ∀ {l : List Tk} {p q : Nat}, q ≤ p → Cov s p l → Cov s q l
  | [], _, _, _, _ => trivial
  | _ :: _, _, _, h, ⟨a, h1, h2, h3⟩ => ⟨a, h1, Nat.le_trans h h2, h3⟩
theorem lex_cov (src : List UInt8) (p : Nat) (f : Bool) (l : List UInt8) (h : src.drop p = l) (hp : p ≤ src.length) : Cov src p (lxs p f l).1 ∧ CovB src.length p (lxs p f l).2 := by
  refine lex_ind (C := fun p f l => src.drop p = l → p ≤ src.length → Cov src p (lxs p f l).1 ∧ CovB src.length p (lxs p f l).2) ?_ ?_ l.length p f l (Nat.le_refl _) h hp
  · intro p f l h _ _
    rw [lex_done h]
    exact ⟨trivial, trivial⟩
  · intro p f l l' h h0 ih hl hp
    have hn := shp_le l'
    have h1 := shp_pos h0
    have hlen : l'.length = l.length - sk false l := by rw [← h, List.length_drop]
    have hlen2 : l.length = src.length - p := by rw [← hl, List.length_drop]
    have hsk := sk_le false l
    have hdr : src.drop (p + sk false l) = l' := by rw [← List.drop_drop, hl, h]
    obtain ⟨i1, i2⟩ := ih (by rw [← hdr, List.drop_drop]) (by omega)
    have hso := so_part l'
    have htl : (l'.take (shp l').2).length = (shp l').2 := take_len hn
    rw [lex_step h h0]
    split
    · refine ⟨⟨p + sk false l, rfl, by omega, ?_, ?_, ?_, ?_⟩, i2.less (by omega)⟩
      · rw [hso, htl]; omega
      · rw [hso, htl, hdr]
      · have := shp_kind l'
        show (shp l').1 ≠ 6
        omega
      · rw [hso, htl]
        exact i1
    · rename_i hf
      split
      · exact ⟨i1.less (by omega), i2.less (by omega)⟩
      · exact ⟨i1.less (by omega), ⟨p + sk false l, rfl, by omega, by omega, hf, i2.less (by omega)⟩⟩
/-- Each token that was found is one alone. -/
theorem lex_pr (p : Nat) (f : Bool) (l : List UInt8) : ∀ x ∈ (lxs p f l).1, pr x = true := by
  refine lex_ind (C := fun p f l => ∀ x ∈ (lxs p f l).1, pr x = true) ?_ ?_ l.length p f l (Nat.le_refl _)
  · intro p f l h x hx
    rw [lex_done h] at hx
    cases hx
  · intro p f l l' h h0 ih x hx
    rw [lex_step h h0] at hx
    split at hx
    · rename_i hf
      rcases List.mem_cons.1 hx with rfl | hx
      · have hk : (shp l').1 ≠ 0 := by
          intro e
          rw [e] at hf
          unfold flt at hf
          simp at hf
        have hs := shp_part hk (.inl rfl : Sep [])
        rw [List.append_nil] at hs
        rw [pr_iff]
        show shp (so _) = ((shp l').1, (so _).length) ∧ flt (shp l').1 (so _) = 0
        rw [so_part, hs, take_len (shp_le l')]
        exact ⟨rfl, hf⟩
      · exact ih x hx
    · split at hx
      · exact ih x hx
      · exact ih x hx
theorem sum_cov (src : List UInt8) : ∀ (l : List Tk) (p : Nat), p ≤ src.length → Cov src p l → (l.map fun x => (so x).length).sum ≤ src.length - p
  | [], _, _, _ => Nat.zero_le _
  | x :: l, p, hp, ⟨a, h1, h2, h3, _, _, h4⟩ => by
    have := sum_cov src l _ h3 h4
    rw [List.map_cons, List.sum_cons]
    omega
theorem pr_pos {x : Tk} (h : pr x = true) : 1 ≤ (so x).length := by
  obtain ⟨h1, h2⟩ := (pr_iff x).1 h
  have h3 := pr_kind h
  have := shp_pos (l := so x) (fun e => by rw [e] at h1; have := (Prod.mk.inj h1).1; omega)
  rw [h1] at this
  exact this
theorem join_le (l : List Tk) : (Lib.join (l.map so) [32]).length ≤ (l.map fun x => (so x).length).sum + l.length := by
  induction l with
  | nil => exact Nat.zero_le _
  | cons x l ih =>
    cases l with
    | nil => rw [List.map_singleton, Lib.join_one]; simp
    | cons y l =>
      have e : Lib.join ((x :: y :: l).map so) [32] = so x ++ 32 :: Lib.join ((y :: l).map so) [32] := by
        rw [List.map_cons, List.map_cons, Lib.join_cons, Lib.join_cons]
        simp [Lib.joinTail]
      rw [e]
      generalize Lib.join ((y :: l).map so) [32] = J at *
      simp only [List.length_append, List.map_cons, List.sum_cons, List.length_cons] at *
      omega
theorem len_sum : ∀ (l : List Tk), (∀ x ∈ l, pr x = true) → l.length ≤ (l.map fun x => (so x).length).sum
  | [], _ => Nat.le_refl _
  | x :: l, h => by
    have h1 := pr_pos (h x (List.mem_cons_self ..))
    have h2 := len_sum l fun y hy => h y (List.mem_cons_of_mem _ hy)
    rw [List.map_cons, List.sum_cons, List.length_cons]
    omega
/-- The tokens of a source, joined, are not much longer than it. -/
theorem lex_short (s : List UInt8) : (Lib.join ((lxs 0 false s).1.map so) [32]).length ≤ 2 * s.length := by
  have h1 := sum_cov s _ 0 (Nat.zero_le _) (lex_cov s 0 false s rfl (Nat.zero_le _)).1
  have h2 := len_sum _ (lex_pr 0 false s)
  have h3 := join_le (lxs 0 false s).1
  omega
theorem so_kt : ∀ {l r : List Tk}, l.map kt = r.map kt → l.map so = r.map so
  | [], [], _ => rfl
  | x :: l, y :: r, h => by
    rw [List.map_cons, List.map_cons] at h
    obtain ⟨h1, h2⟩ := List.cons.inj h
    obtain ⟨h3, h4⟩ := Prod.mk.inj h1
    rw [List.map_cons, List.map_cons, so_kt h2, (kt_pr h3 h4).1]
  | [], y :: r, h => by cases h
  | x :: l, [], h => by cases h
/-- The words. -/
def wd1 (s : ByteArray) : Bool := pr ⟨1, s, 0⟩
theorem lex_word (s : ByteArray) : lxs 0 false s.data.toList = ([⟨1, s, 0⟩], []) ↔ wd1 s = true := by
  constructor
  · intro h
    exact lex_pr 0 false s.data.toList _ (by rw [h]; exact List.mem_cons_self ..)
  · intro h
    exact lex_alone (x := ⟨1, s, 0⟩) h 0 false
end Go.Proofs.YtbahfelnbofjjaaGreatDoor
namespace Go.Proofs.YtbahfelnbofjjaaGreatDoor
open dec

/-- n is v as far as v is in range, and out of range if v is. -/
def Tw (n : Int) (v : Nat) : Prop := (v ≤ 1152921504606846976 ∧ n = v) ∨ (1152921504606846976 < v ∧ 1152921504606846976 < n)
theorem wd_tw {n d : Int} {a c : Nat} (h : Tw n a) (hd : d = (c : Int)) (hc : c ≤ 9) : Tw (wd n d) (a * 10 + c) := by
  unfold Tw at *
  unfold wd
  split <;> omega
theorem sat_tw {n a c : Nat} (h : Tw (n : Int) a) (hc : c ≤ 9) : Tw ((sat n c : Nat) : Int) (a * 10 + c) := by
  unfold Tw at *
  unfold sat
  omega
theorem rd_tw (l : List UInt8) : ∀ (ds r : List UInt8) (k i : Nat) (n : Int) (a p : Nat), l.drop i = ds ++ r → (∀ c ∈ ds, isD c = true) → Tw n a →
    ∃ n', Tw n' (dval a ds) ∧ dec.rd l (k + ds.length) i n p = dec.rd l k (i + ds.length) n' p
  | [], r, k, i, n, a, p, _, _, ht => ⟨n, ht, rfl⟩
  | c :: ds, r, k, i, n, a, p, h, hd, ht => by
    obtain ⟨hi, hb, hr⟩ := byte_of_drop h
    have hc := (isD_iff c).1 (hd c (List.mem_cons_self ..))
    have hw := wd_tw (d := byteAt l i - 48) (c := c.toNat - 48) ht (by rw [hb]; omega) (by omega)
    obtain ⟨n', h1, h2⟩ := rd_tw l ds r k (i + 1) _ _ p hr (fun d hd' => hd d (List.mem_cons_of_mem _ hd')) hw
    refine ⟨n', by rw [dval_cons]; exact h1, ?_⟩
    rw [List.length_cons, ← Nat.add_assoc, dec.rd, if_pos hi, if_pos (by rw [hb]; omega), h2, Nat.add_assoc, Nat.add_comm 1]
theorem stp_tw : ∀ (ds : List UInt8) (x a : Nat) (b : Int), (∀ d ∈ ds, isD d = true) → Tw (x : Int) a → ∃ x' : Nat, Tw (x' : Int) (dval a ds) ∧ ds.foldl stp (x, b) = (x', if 0 ≤ b then b + ds.length else b)
  | [], x, a, b, _, ht => ⟨x, ht, by simp⟩
  | c :: ds, x, a, b, h, ht => by
    have hc := h c (List.mem_cons_self ..)
    have hc2 := (isD_iff c).1 hc
    have e46 : c ≠ 46 := ne_of_toNat (n := 46) (by decide) (by omega)
    have hs : stp (x, b) c = (sat x (c.toNat - 48), if 0 ≤ b then b + 1 else b) := by
      unfold stp
      simp only [if_neg e46, hc, if_true]
    obtain ⟨x', h1, h2⟩ := stp_tw ds _ _ (if 0 ≤ b then b + 1 else b) (fun d hd => h d (List.mem_cons_of_mem _ hd)) (sat_tw (c := c.toNat - 48) ht (by omega))
    refine ⟨x', by rw [dval_cons]; exact h1, ?_⟩
    rw [List.foldl_cons, hs, h2, List.length_cons]
    congr 1
    by_cases hb : 0 ≤ b
    · rw [if_pos hb, if_pos (by omega), if_pos hb]; omega
    · rw [if_neg hb, if_neg hb, if_neg hb]
theorem scl_tw : ∀ (k x a : Nat), Tw (x : Int) a → Tw ((scl k x : Nat) : Int) (a * 10 ^ k)
  | 0, x, a, h => by rw [Nat.pow_zero, Nat.mul_one]; exact h
  | k + 1, x, a, h => by
    have h1 := scl_tw k _ _ (sat_tw (c := 0) h (by omega))
    rw [Nat.add_zero, Nat.mul_assoc, ← Nat.pow_succ'] at h1
    exact h1
theorem tw_mul {n : Int} {v : Nat} (h : Tw n v) {q : Nat} (hq : 1 ≤ q) : 0 ≤ n ∧ (1152921504606846976 < n * q ↔ 1152921504606846976 < v * q) := by
  have h0 : 0 ≤ n := by unfold Tw at h; omega
  refine ⟨h0, ?_⟩
  rcases h with ⟨h1, rfl⟩ | ⟨h1, h2⟩
  · rw [← Int.natCast_mul]
    generalize v * q = z
    omega
  · have a1 := Int.mul_le_mul_of_nonneg_left (show (1 : Int) ≤ (q : Int) by omega) h0
    have a2 := Nat.mul_le_mul_left v hq
    rw [Int.mul_one] at a1
    rw [Nat.mul_one] at a2
    generalize n * (q : Int) = z at *
    generalize v * q = y at *
    omega
theorem pow_tab {k : Nat} (h : k ≤ 6) : powTab.getD (6 - (k : Int)).toNat 0 = ((10 ^ (6 - k) : Nat) : Int) := by
  obtain h | h | h | h | h | h | h : k = 0 ∨ k = 1 ∨ k = 2 ∨ k = 3 ∨ k = 4 ∨ k = 5 ∨ k = 6 := by omega
  all_goals (subst h; rfl)
/-- The error of digits, a point, and digits. -/
def dcE (ds fs : List UInt8) : Int := if 6 < fs.length then 3 else if 1152921504606846976 < dval (dval 0 ds) fs * 10 ^ (6 - fs.length) then 2 else 0
theorem tw_zero : Tw 0 0 := .inl ⟨by omega, rfl⟩
theorem pa_dec {ds fs : List UInt8} (h1 : ds ≠ []) (h2 : fs ≠ []) (hd : ∀ c ∈ ds, isD c = true) (hf : ∀ c ∈ fs, isD c = true) : paE (ds ++ 46 :: fs) = dcE ds fs := by
  obtain ⟨l, hl⟩ : ∃ l, l = ds ++ 46 :: fs := ⟨_, rfl⟩
  have hdl : 1 ≤ ds.length := by cases ds; exact absurd rfl h1; simp
  have hfl : 1 ≤ fs.length := by cases fs; exact absurd rfl h2; simp
  have hlen : l.length = ds.length + (fs.length + 1) := by rw [hl]; simp
  obtain ⟨n1, t1, s1⟩ := rd_tw l ds (46 :: fs) (fs.length + 1) 0 0 0 l.length (by rw [hl]; rfl) hd tw_zero
  rw [Nat.zero_add] at s1
  have hdr : l.drop ds.length = 46 :: fs := by rw [hl, List.drop_left]
  obtain ⟨b1, b2, b3⟩ := byte_of_drop hdr
  have e46 : byteAt l ds.length = 46 := by rw [b2]; rfl
  have s2 : dec.rd l (fs.length + 1) ds.length n1 l.length = dec.rd l fs.length (ds.length + 1) n1 ds.length := by
    rw [dec.rd, if_pos b1, if_neg (by omega), if_pos ⟨e46, rfl⟩]
  obtain ⟨n2, t2, s3⟩ := rd_tw l fs [] 0 (ds.length + 1) n1 _ ds.length (by rw [b3, List.append_nil]) hf t1
  rw [Nat.zero_add] at s3
  have s4 : dec.rd l l.length 0 0 l.length = (ds.length + 1 + fs.length, n2, ds.length) := by
    rw [show dec.rd l l.length 0 0 l.length = dec.rd l (fs.length + 1 + ds.length) 0 0 l.length by rw [show fs.length + 1 + ds.length = l.length by omega], s1, s2, s3]
    rfl
  have hall : rdAll l = if 6 < fs.length then (0, 0, false) else (n2, (fs.length : Int), true) := by
    unfold rdAll
    rw [s4]
    unfold rdEnd
    simp only
    rw [hlen, if_neg (by omega), if_neg (by omega)]
    by_cases h6 : 6 < fs.length
    · rw [if_pos h6, if_pos (by omega)]
    · rw [if_neg h6, if_neg (by omega)]
      congr 2
      omega
  obtain ⟨c, r, rfl⟩ : ∃ c r, ds = c :: r := by cases ds; exact absurd rfl h1; exact ⟨_, _, rfl⟩
  have hc := (isD_iff c).1 (hd c (List.mem_cons_self ..))
  have hpre := pre_other (c := c) (ne_of_toNat (n := 45) (by decide) (by omega)) (r ++ 46 :: fs)
  rw [← List.cons_append, ← hl] at hpre
  rw [← hl]
  unfold paE pmOf dcE
  rw [hpre.1, hpre.2, hall]
  by_cases h6 : 6 < fs.length
  · rw [if_pos h6, if_pos h6]
    rfl
  · rw [if_neg h6, if_neg h6]
    simp only [Bool.false_eq_true, if_false, if_true]
    rw [pow_tab (by omega)]
    obtain ⟨t3, t4⟩ := tw_mul t2 (q := 10 ^ (6 - fs.length)) (Nat.pow_pos (by decide))
    have t5 := Int.mul_nonneg t3 (Int.natCast_nonneg (10 ^ (6 - fs.length)))
    generalize n2 * ((10 ^ (6 - fs.length) : Nat) : Int) = z at *
    generalize dval (dval 0 (c :: r)) fs * 10 ^ (6 - fs.length) = y at *
    by_cases h7 : 1152921504606846976 < y
    · rw [if_pos h7, (rg_no z).2 (by omega)]
      rfl
    · rw [if_neg h7, (rg_iff z).2 (by omega)]
      rfl
theorem rp_dec {ds fs : List UInt8} (h1 : ds ≠ []) (h2 : fs ≠ []) (hd : ∀ c ∈ ds, isD c = true) (hf : ∀ c ∈ fs, isD c = true) : (rpP (ds ++ 46 :: fs)).2 = dcE ds fs := by
  obtain ⟨l, hl⟩ : ∃ l, l = ds ++ 46 :: fs := ⟨_, rfl⟩
  have hdl : 1 ≤ ds.length := by cases ds; exact absurd rfl h1; simp
  have hfl : 1 ≤ fs.length := by cases fs; exact absurd rfl h2; simp
  have hlen : l.length = ds.length + (fs.length + 1) := by rw [hl]; simp
  have hh : l.head? ≠ some 45 := by
    obtain ⟨c, r, rfl⟩ : ∃ c r, ds = c :: r := by cases ds; exact absurd rfl h1; exact ⟨_, _, rfl⟩
    have hc := (isD_iff c).1 (hd c (List.mem_cons_self ..))
    rw [hl, List.cons_append, List.head?_cons]
    simpa using ne_of_toNat (n := 45) (by decide) (by omega)
  have ha : atP l = 0 := by unfold atP; rw [if_neg hh]
  have hg1 : dgn l = ds.length := by rw [hl]; exact dgn_digits 46 rfl fs ds hd
  have hdr : l.drop ds.length = 46 :: fs := by rw [hl, List.drop_left]
  have hdr2 : l.drop (ds.length + 1) = fs := by rw [← List.drop_drop, hdr]; rfl
  have hg2 : dgn fs = fs.length := dgn_all fs hf
  have hgd : l.getD ds.length 0 = 46 := by
    have := (byte_of_drop hdr).1
    rw [List.drop_eq_getElem_cons this] at hdr
    injection hdr with h1 _
    rw [List.getD_eq_getElem?_getD, List.getElem?_eq_getElem this, h1]
    rfl
  have hform : formP l = decide (fs.length ≤ 6) := by
    unfold formP
    rw [ha, List.drop_zero, hg1, Nat.zero_add, hdr2, hg2, hgd, if_neg (by omega), hlen, if_neg (by omega)]
    rw [Bool.eq_iff_iff]
    simp only [Bool.and_eq_true, decide_eq_true_eq]
    constructor
    · intro h; omega
    · intro h
      exact ⟨⟨⟨trivial, hfl⟩, h⟩, by omega⟩
  obtain ⟨x1, t1, s1⟩ := stp_tw ds 0 0 (-1) hd tw_zero
  obtain ⟨x2, t2, s2⟩ := stp_tw fs x1 _ 0 hf t1
  have hfold : l.foldl stp (0, -1) = (x2, (fs.length : Int)) := by
    rw [hl, List.foldl_append, s1, if_neg (by omega), List.foldl_cons, show stp (x1, -1) 46 = (x1, 0) from rfl, s2, if_pos (by omega), Int.zero_add]
  rw [← hl]
  unfold rpP dcE
  rw [hform, hfold]
  by_cases h6 : 6 < fs.length
  · rw [if_pos h6, decide_eq_false (by omega)]
    rfl
  · rw [if_neg h6, decide_eq_true (by omega), if_pos rfl]
    have e6 : 6 - (max ((x2, (fs.length : Int)) : Nat × Int).2 0).toNat = 6 - fs.length := by
      show 6 - (max (fs.length : Int) 0).toNat = _
      omega
    rw [e6]
    have t3 := scl_tw (6 - fs.length) x2 _ t2
    show (rpEnd l (scl (6 - fs.length) x2)).2 = _
    unfold rpEnd
    generalize scl (6 - fs.length) x2 = y at *
    generalize dval (dval 0 ds) fs * 10 ^ (6 - fs.length) = z at *
    unfold Tw at t3
    by_cases h7 : 1152921504606846976 < z
    · rw [if_pos h7, if_pos (by omega)]
    · rw [if_neg h7, if_neg (by omega)]
/-- What a decimal's shape consists of. -/
theorem shp_dec {l : List UInt8} (h : (shp l).1 = 3) : ∃ ds fs, l.take (shp l).2 = ds ++ 46 :: fs ∧ ds ≠ [] ∧ fs ≠ [] ∧ (∀ c ∈ ds, isD c = true) ∧ ∀ c ∈ fs, isD c = true := by
  cases l with
  | nil => cases h
  | cons c r =>
    rw [shp_cons] at h ⊢
    split at h
    · cases h
    · rename_i hl
      split at h
      · rename_i hd
        split at h
        · cases h
        · rename_i hp
          rw [if_neg hl, if_pos hd, if_neg hp]
          cases hy : (c :: r).drop (run isD (c :: r)) with
          | nil => rw [hy] at hp; exact absurd rfl hp
          | cons d y =>
            rw [hy, pnt_cons] at hp
            rw [pnt_cons]
            split at hp
            · rename_i h46
              have hd46 : d = 46 := UInt8.toNat_inj.1 h46
              subst hd46
              refine ⟨(c :: r).take (run isD (c :: r)), y.take (run isD y), ?_, ?_, ?_, run_all _ _, run_all _ _⟩
              · rw [if_pos h46]
                show (c :: r).take (run isD (c :: r) + 1 + run isD y) = _
                rw [show run isD (c :: r) + 1 + run isD y = run isD (c :: r) + (run isD y + 1) by omega, List.take_add, hy, List.take_succ_cons]
              · rw [run_cons hd]
                simp
              · intro e
                have := congrArg List.length e
                rw [List.length_take, List.length_nil] at this
                have := run_le isD y
                omega
            · exact absurd rfl hp
      · split at h
        · cases h
        · rw [sgn_cons] at h
          split at h
          · cases h
          · split at h <;> cases h
/-- Where a shape is a decimal, both say the same of it. -/
theorem dec_same {l : List UInt8} (h : (shp l).1 = 3) : (rpP (l.take (shp l).2)).2 = paE (l.take (shp l).2) := by
  obtain ⟨ds, fs, e, h1, h2, h3, h4⟩ := shp_dec h
  rw [e, rp_dec h1 h2 h3 h4, pa_dec h1 h2 h3 h4]
/-- strconv.Atoi of digits. -/
theorem uint_any : ∀ (l : List UInt8) (a : Nat), (∀ c ∈ l, isD c = true) → a < 18446744073709551616 → Lib.parseUint10 a l = if dval a l < 18446744073709551616 then .ok (dval a l) else .range
  | [], a, _, ha => by
    show Lib.NumEnd.ok a = if a < _ then _ else _
    rw [if_pos ha]
    rfl
  | c :: l, a, h, ha => by
    have hc := (isD_iff c).1 (h c (List.mem_cons_self ..))
    have hg := dval_ge l (a * 10 + (c.toNat - 48))
    rw [dval_cons]
    unfold Lib.parseUint10
    rw [if_pos hc]
    by_cases h1 : 1844674407370955162 ≤ a
    · rw [if_pos h1, if_neg (by omega)]
    · rw [if_neg h1]
      by_cases h2 : 18446744073709551616 ≤ a * 10 + (c.toNat - 48)
      · rw [if_pos h2, if_neg (by omega)]
      · rw [if_neg h2, uint_any l _ (fun d hd => h d (List.mem_cons_of_mem _ hd)) (by omega)]
theorem atoi_digits {l : List UInt8} (h0 : l ≠ []) (h : ∀ c ∈ l, isD c = true) : Lib.atoiAll l = if dval 0 l < 9223372036854775808 then .ok (dval 0 l : Nat) else .range := by
  cases l with
  | nil => exact absurd rfl h0
  | cons c r =>
    have hc := (isD_iff c).1 (h c (List.mem_cons_self ..))
    rw [Lib.atoiAll_plain c r (by omega) (by omega)]
    unfold Lib.parseMag
    rw [if_neg (by simp), uint_any _ 0 h (by omega)]
    by_cases h1 : dval 0 (c :: r) < 18446744073709551616
    · rw [if_pos h1]
      unfold Lib.signless
      by_cases h2 : dval 0 (c :: r) < 9223372036854775808
      · rw [if_pos h2]
        simp only
        rw [if_neg (by omega)]
      · rw [if_neg h2]
        simp only
        rw [if_pos (by omega)]
    · rw [if_neg h1, if_neg (by omega)]
      rfl
theorem shp_int {l : List UInt8} (h : shp l = (2, l.length)) : l ≠ [] ∧ ∀ c ∈ l, isD c = true := by
  cases l with
  | nil => cases (Prod.mk.inj h).1
  | cons c r =>
    refine ⟨by simp, ?_⟩
    rw [shp_cons] at h
    split at h
    · cases (Prod.mk.inj h).1
    · split at h
      · split at h
        · have e := (Prod.mk.inj h).2
          have := run_all isD (c :: r)
          rw [e, List.take_length] at this
          exact this
        · cases (Prod.mk.inj h).1
      · split at h
        · cases (Prod.mk.inj h).1
        · rw [sgn_cons] at h
          split at h
          · cases (Prod.mk.inj h).1
          · split at h <;> cases (Prod.mk.inj h).1
end Go.Proofs.YtbahfelnbofjjaaGreatDoor
namespace Go.Proofs.YtbahfelnbofjjaaGreatDoor
open dec

theorem flt_one (p : List UInt8) : flt 1 p = if 24 < p.length then 2 else 0 := rfl
theorem flt_two (p : List UInt8) : flt 2 p = if 1152921504606846976 < dval 0 p then 2 else 0 := rfl
theorem flt_three (p : List UInt8) : flt 3 p = paE p := rfl
theorem flt_four (p : List UInt8) : flt 4 p = txE (cont 4 p) := rfl
theorem flt_five (p : List UInt8) : flt 5 p = 0 := rfl
theorem flt_zero (p : List UInt8) : flt 0 p = 80 := rfl
theorem isL_D {c : UInt8} (h : isD c = true) : ¬ isL c = true := by
  unfold isD at h
  unfold isL
  rw [Bool.and_eq_true, decide_eq_true_eq, decide_eq_true_eq] at h ⊢
  omega
theorem pr_int {t : ByteArray} {ds : List UInt8} (ht : t.data.toList = ds) (h0 : ds ≠ []) (hd : ∀ c ∈ ds, isD c = true) (hv : dval 0 ds ≤ 1152921504606846976) (a : Int) : pr ⟨2, t, a⟩ = true := by
  rw [pr_iff]
  have hs : so ⟨2, t, a⟩ = ds := ht
  rw [hs]
  refine ⟨?_, by show flt 2 ds = 0; rw [flt_two, if_neg (by omega)]⟩
  cases ds with
  | nil => exact absurd rfl h0
  | cons c r =>
    have hc := hd c (List.mem_cons_self ..)
    rw [shp_cons, if_neg (isL_D hc), if_pos hc, run_whole hd, List.drop_length, if_pos (show pnt [] = 0 from rfl)]
theorem pr_decimal {t : ByteArray} {ds fs : List UInt8} (ht : t.data.toList = ds ++ 46 :: fs) (h1 : ds ≠ []) (h2 : fs ≠ []) (hd : ∀ c ∈ ds, isD c = true) (hf : ∀ c ∈ fs, isD c = true) (hp : paE (ds ++ 46 :: fs) = 0) (a : Int) : pr ⟨3, t, a⟩ = true := by
  rw [pr_iff]
  have hs : so ⟨3, t, a⟩ = ds ++ 46 :: fs := ht
  rw [hs]
  refine ⟨?_, by show flt 3 _ = 0; rw [flt_three, hp]⟩
  cases ds with
  | nil => exact absurd rfl h1
  | cons c r =>
    have hc := hd c (List.mem_cons_self ..)
    have hr : run isD ((c :: r) ++ 46 :: fs) = (c :: r).length := by
      rw [run_stop (by decide), run_whole hd]
    rw [List.cons_append] at hr ⊢
    rw [shp_cons, if_neg (isL_D hc), if_pos hc, hr, ← List.cons_append, List.drop_left, show pnt (46 :: fs) = fs.length by rw [pnt_cons, if_pos (by decide), run_whole hf], if_neg (by cases fs; exact absurd rfl h2; simp)]
    simp
    omega
theorem pr_txt {t : ByteArray} (h : txE t.data.toList = 0) (a : Int) : pr ⟨4, t, a⟩ = true := by
  rw [pr_iff]
  have hs : so ⟨4, t, a⟩ = 34 :: (t.data.toList ++ [34]) := rfl
  have hc : cont 4 (34 :: (t.data.toList ++ [34])) = t.data.toList := cont_so ⟨4, t, a⟩
  rw [hs]
  refine ⟨?_, by show flt 4 _ = 0; rw [flt_four, hc, h]⟩
  have hq : ∀ c ∈ t.data.toList, isQ c = true := by
    have hp : pB 32 t.data.toList = true := by
      unfold txE at h
      split at h
      · cases h
      · split at h
        · assumption
        · cases h
    unfold pB at hp
    rw [List.all_eq_true] at hp
    intro c hc
    have := hp c hc
    unfold okB at this
    unfold isQ
    simp only [Bool.and_eq_true, decide_eq_true_eq, Bool.not_eq_true', decide_eq_false_iff_not] at this ⊢
    omega
  have hr : run isQ (t.data.toList ++ [34]) = t.data.toList.length := by
    rw [run_stop (by decide), run_whole hq]
  rw [shp_cons, if_neg (by decide), if_neg (by decide), hr, List.drop_left, if_pos ⟨by decide, rfl⟩]
  simp
/-- A word. -/
def wordP (l : List UInt8) : Bool := match l with
  | [] => false
  | c :: r => isL c && decide (run isW (c :: r) = (c :: r).length) && decide ((c :: r).length ≤ 24)
theorem wd1_eq (s : ByteArray) : wd1 s = wordP s.data.toList := by
  unfold wd1
  rw [Bool.eq_iff_iff, pr_iff]
  show shp s.data.toList = (1, s.data.toList.length) ∧ flt 1 s.data.toList = 0 ↔ _
  rw [flt_one]
  cases h : s.data.toList with
  | nil => simp [shp, wordP]
  | cons c r =>
    show _ ↔ (isL c && decide (run isW (c :: r) = (c :: r).length) && decide ((c :: r).length ≤ 24)) = true
    rw [Bool.and_eq_true, Bool.and_eq_true, decide_eq_true_eq, decide_eq_true_eq, shp_cons]
    constructor
    · rintro ⟨h1, h2⟩
      split at h1
      · rename_i hl
        refine ⟨⟨hl, (Prod.mk.inj h1).2⟩, ?_⟩
        split at h2
        · cases h2
        · omega
      · split at h1
        · split at h1
          · have := (Prod.mk.inj h1).1; omega
          · have := (Prod.mk.inj h1).1; omega
        · split at h1
          · have := (Prod.mk.inj h1).1; omega
          · rw [sgn_cons] at h1
            split at h1
            · have := (Prod.mk.inj h1).1; omega
            · split at h1
              · have := (Prod.mk.inj h1).1; omega
              · have := (Prod.mk.inj h1).1; omega
    · rintro ⟨⟨h1, h2⟩, h3⟩
      rw [if_pos h1, if_neg (by omega), h2]
      exact ⟨rfl, rfl⟩
def mns : ByteArray := ⟨#[45]⟩
theorem lex_minus {x : Tk} (h : pr x = true) : lxs 0 false (45 :: so x) = ([⟨5, mns, 0⟩, ⟨x.k, x.t, 1⟩], []) := by
  have hs : sk false (45 :: so x) = 0 := sk_none (by decide) (by decide) _
  have hp : shp (45 :: so x) = (5, 1) := by
    rw [shp_cons, if_neg (by decide), if_neg (by decide), if_neg (by intro h; exact absurd h.1 (by decide)), sgn_cons, if_neg (by rintro ⟨h, _⟩; revert h; decide), if_pos (by decide)]
  rw [lex_step (l' := 45 :: so x) (by rw [hs, List.drop_zero]) (by simp), hp, hs]
  show (if flt 5 _ = 0 then _ else _) = _
  rw [flt_five, if_pos rfl]
  show (_ :: (lxs (0 + 0 + 1) (decide ((5 : Int) = 0)) (so x)).1, (lxs (0 + 0 + 1) (decide ((5 : Int) = 0)) (so x)).2) = _
  rw [lex_alone h]
  rfl
end Go.Proofs.YtbahfelnbofjjaaGreatDoor
namespace Go.Proofs.YtbahfelnbofjjaaGreatDoor
open Go.RowKit dec

def cls (c : UInt8) : Int := if c.toNat < 126 then clsTab.getD c.toNat 0 else 0
theorem all_bytes {p : UInt8 → Bool} (h : (List.range 256).all (fun n => p (UInt8.ofNat n)) = true) (c : UInt8) : p c = true := by
  have := List.all_eq_true.1 h c.toNat (List.mem_range.2 c.toNat_lt)
  rwa [UInt8.ofNat_toNat] at this
/-- What the classes mean. -/
def clsOk (c : UInt8) : Bool := decide (0 ≤ cls c ∧ cls c ≤ 8) && ((decide (cls c = 1) || decide (cls c = 2)) == isB c) && (!decide (cls c = 2) == isC c) && ((decide (cls c = 4) || decide (cls c = 5) || decide (cls c = 6)) == isW c)
  && (decide (cls c = 5) == isD c) && ((!decide (cls c = 7) && !decide (cls c = 2)) == isQ c) && (decide (cls c = 4) == isL c) && (decide (cls c = 8) == isS c) && (decide (cls c = 3) == decide (c.toNat = 35)) && (decide (cls c = 7) == decide (c.toNat = 34))
theorem clsOk_all (c : UInt8) : clsOk c = true := all_bytes (by decide +kernel) c
theorem classOf_any (c : UInt8) (w : World) (T : Tabs w) : Calls Tryz.prog 140 #[.int .u8 (c.toNat : Nat)] w fun e w' => e = .returned (.int .u8 (cls c)) ∧ w' = w := by
  have hc := fun h => T.cls.cell gCls c.toNat h
  have hl : clsTab.length = 126 := rfl
  rw [hl] at hc
  clear T hl
  have hlt := c.toNat_lt
  unfold cls
  generalize c.toNat = n at *
  go_enter Tryz.func140, Tryz.ntmps140
  by_cases h : n < 126
  · have h1 := hc h
    rw [if_pos h]
    generalize clsTab.getD n 0 = x at *
    clear hc
    have q1 : decide ((n : Int) < 126) = true := decide_eq_true (by omega)
    go_wp2
    go_ret
    exact ⟨rfl, rfl⟩
  · rw [if_neg h]
    have q1 : decide ((n : Int) < 126) = false := decide_eq_false (by omega)
    clear hc
    go_wp2
    go_ret
    exact ⟨rfl, rfl⟩
end Go.Proofs.YtbahfelnbofjjaaGreatDoor
namespace Go.Proofs.YtbahfelnbofjjaaGreatDoor
open Go.RowKit dec

/-- The set st of classes is the predicate p. -/
def Set (st : Int) (p : UInt8 → Bool) : Prop := ∀ c, bits .and .i64 (st.fdiv (2 ^ min (cls c).toNat 64)) 1 = if p c = true then 1 else 0
def setB (st : Int) (p : UInt8 → Bool) (c : UInt8) : Bool := decide (bits .and .i64 (st.fdiv (2 ^ min (cls c).toNat 64)) 1 = if p c = true then 1 else 0)
theorem set_of {st : Int} {p : UInt8 → Bool} (h : (List.range 256).all (fun n => setB st p (UInt8.ofNat n)) = true) : Set st p := fun c => by
  have := all_bytes h c
  unfold setB at this
  exact of_decide_eq_true this
theorem set_B : Set 6 isB := set_of (by decide +kernel)
theorem set_C : Set (-5) isC := set_of (by decide +kernel)
theorem set_W : Set 112 isW := set_of (by decide +kernel)
theorem set_D : Set 32 isD := set_of (by decide +kernel)
theorem set_Q : Set (-133) isQ := set_of (by decide +kernel)
theorem shift_run (st k : Int) (hk : 0 ≤ k) (W : World) : (Op.shift .shr .i64 st .u8 k).run Tryz.prog W = .ok (.int .i64 (st.fdiv (2 ^ min k.toNat 64))) W := by
  unfold Op.shift
  rw [if_neg (by omega)]
  rfl
theorem cls_nonneg (c : UInt8) : 0 ≤ cls c := by
  have := clsOk_all c
  unfold clsOk at this
  simp only [Bool.and_eq_true, decide_eq_true_eq] at this
  omega
theorem str_len (s : ByteArray) : s.data.toList.length = s.size := by rw [Array.length_toList]; rfl
theorem at_drop (s : ByteArray) {j : Nat} (h : j < s.size) : s.data.toList.drop j = s[j] :: s.data.toList.drop (j + 1) := by
  have h' : j < s.data.toList.length := by rw [str_len]; exact h
  rw [List.drop_eq_getElem_cons h']
  rfl
theorem run_drop (p : UInt8 → Bool) (s : ByteArray) {j : Nat} (h : j < s.size) : run p (s.data.toList.drop j) = if p s[j] = true then run p (s.data.toList.drop (j + 1)) + 1 else 0 := by
  rw [at_drop s h]
  rfl
theorem run_out (p : UInt8 → Bool) (s : ByteArray) {j : Nat} (h : s.size ≤ j) : run p (s.data.toList.drop j) = 0 := by
  rw [List.drop_eq_nil_of_le (by rw [str_len]; exact h)]
  rfl
theorem less_dn2 {n d : Nat} (h : d < n) : n - (intOf (Value.int .i64 ((d : Int) + 1))).toNat < n - (intOf (Value.int .i64 (d : Int))).toNat := by
  show n - (((d : Int) + 1)).toNat < n - ((d : Nat) : Int).toNat
  omega
theorem next_at {j : Nat} (h : j < 9223372036854775807) : wrap64 ((j : Int) + 1) = ((j + 1 : Nat) : Int) := by unfold wrap64; omega
theorem less_at {n j : Nat} (h : j < n) {x : Int} (hx : x = ((j + 1 : Nat) : Int)) : n - (intOf (Value.int .i64 x)).toNat < n - (intOf (Value.int .i64 ((j : Nat) : Int))).toNat := by
  subst hx
  show n - ((j + 1 : Nat) : Int).toNat < n - ((j : Nat) : Int).toNat
  omega
theorem retN {a b : Nat} (h : a = b) : Ending.returned (Value.int .i64 (a : Nat)) = Ending.returned (Value.int .i64 (b : Nat)) := by rw [h]
/-- The closure. -/
theorem run_any {st : Int} {p : UInt8 → Bool} (hst : Set st p) (s : ByteArray) (hs : s.size ≤ 140737488355328) (i : Nat) (hi : i ≤ s.size) (b : Nat) (w : World) (hb : w.cell? ⟨b, 0, none⟩ = some (.string s)) (T : Tabs w) :
    Calls Tryz.prog 196 #[.int .i64 (i : Nat), .int .i64 st, .pointer (some ⟨b, 0, none⟩)] w fun e w' => e = .returned (.int .i64 (i + run p (s.data.toList.drop i) : Nat)) ∧ w' = w := by
  have T0 := Lib.hid T
  have H0 := Lib.hid hst
  have Z0 := Lib.hid hs
  obtain ⟨R, hR⟩ : ∃ R, i + run p (s.data.toList.drop i) = R := ⟨_, rfl⟩
  rw [hR]
  replace hR := Lib.hid hR
  replace hi := Lib.hid hi
  clear T hst hs
  go_enter Tryz.func196, Tryz.ntmps196
  go_wp2_with fail
  go_loopw [0] (fun x wr => ∃ j : Nat, x = .int .i64 (j : Nat) ∧ Hid (j ≤ s.size) ∧ Hid (j + run p (s.data.toList.drop j) = R) ∧ wr = w) (fun x _ => s.size - (intOf x).toNat)
  case atStart => exact ⟨i, rfl, hi, hR, rfl⟩
  case round =>
    obtain ⟨j, rfl, hj, hr, rfl⟩ := hrel
    by_cases hc : j < s.size
    · have q2 : decide ((j : Int) < (s.size : Int)) = true := decide_eq_true (by omega)
      have hst := run_drop p s hc
      have f4 := Lib.hid (next_at (j := j) (by have := Z0.out; omega))
      have hbit := H0.out s[j]
      have C := Lib.hid (classOf_any s[j] wr T0.out)
      have HST := Lib.hid hst
      clear hst
      have hsh := shift_run st _ (cls_nonneg s[j])
      generalize cls s[j] = k at C hbit hsh
      generalize st.fdiv (2 ^ min k.toNat 64) = x at hbit hsh
      cases hy : p s[j]
      · rw [hy] at HST hbit
        rw [if_neg (by decide)] at hbit
        have HD : Hid (j = R) := by unfold Hid; rw [← hr.out, HST.out]; rfl
        clear hy hr HST
        go_wp2_with (go_at_call 140; refine (C.out).mono ?_; rintro e w' ⟨rfl, rfl⟩)
        go_ret
        exact ⟨retN HD.out, rfl⟩
      · rw [hy] at HST hbit
        rw [if_pos rfl] at hbit
        have HD : Hid (j + 1 + run p (s.data.toList.drop (j + 1)) = R) := by unfold Hid; rw [← hr.out, HST.out, if_pos rfl]; omega
        clear hy hr HST
        go_wp2_with (go_at_call 140; refine (C.out).mono ?_; rintro e w' ⟨rfl, rfl⟩)
        refine ⟨⟨j + 1, by first | exact congrArg (Value.int .i64) f4.out | rfl, Lib.hid hc, HD, trivial⟩, by first | exact less_at hc f4.out | exact less_dn2 hc⟩
    · have hz := run_out p s (j := j) (by omega)
      have HD : Hid (j = R) := by unfold Hid; rw [← hr.out, hz, Nat.add_zero]
      have q2 : decide ((j : Int) < (s.size : Int)) = false := decide_eq_false (by omega)
      clear hz hr
      go_wp2_with fail
      go_ret
      exact ⟨retN HD.out, rfl⟩
/-- What runsOf hands back. -/
theorem runsOf_any (s : ByteArray) (w : World) : Calls Tryz.prog 139 #[.string s] w fun e w' => e = .returned (.func (.func 196) #[] #[.pointer (some ⟨w.heap.size, 0, none⟩)]) ∧ w'.cell? ⟨w.heap.size, 0, none⟩ = some (.string s) ∧ w'.heap.size = w.heap.size + 1 ∧ Below w.heap.size w w' := by
  have hb := balloc (b0 w) (.cells #[.string s] 9)
  have hc : (w.alloc (.cells #[.string s] 9)).cell? ⟨w.heap.size, 0, none⟩ = some (.string s) := by simp [go_sem]
  have hz : (w.alloc (.cells #[.string s] 9)).heap.size = w.heap.size + 1 := by simp
  go_enter Tryz.func139, Tryz.ntmps139
  go_wp2_with fail
  go_ret
  exact ⟨rfl, hc, hz, hb⟩
end Go.Proofs.YtbahfelnbofjjaaGreatDoor
namespace Go.Proofs.YtbahfelnbofjjaaGreatDoor
open Go.RowKit dec

theorem sk_end (s : ByteArray) {j : Nat} (h : s.size ≤ j) : sk false (s.data.toList.drop j) = 0 := by
  rw [List.drop_eq_nil_of_le (by rw [str_len]; exact h)]
  rfl
/-- One pass: blanks, then perhaps a comment. -/
theorem sk_pass (s : ByteArray) (i : Nat) : i + sk false (s.data.toList.drop i) = (i + run isB (s.data.toList.drop i)) + sk false (s.data.toList.drop (i + run isB (s.data.toList.drop i))) := by
  conv => lhs; rw [sk_blanks]
  rw [List.drop_drop]
  omega
theorem sk_comment (s : ByteArray) {j : Nat} (h : j < s.size) (hc : s[j].toNat = 35) : j + sk false (s.data.toList.drop j) = (j + run isC (s.data.toList.drop j)) + sk false (s.data.toList.drop (j + run isC (s.data.toList.drop j))) := by
  have e := at_drop s h
  conv => lhs; rw [e]
  rw [sk_hash hc, ← e, List.drop_drop]
  omega
theorem sk_stop (s : ByteArray) {j : Nat} (h : j < s.size) (h1 : isB s[j] = false) (hc : s[j].toNat ≠ 35) : sk false (s.data.toList.drop j) = 0 := by
  rw [at_drop s h]
  exact sk_none h1 hc _
theorem run_here (p : UInt8 → Bool) (s : ByteArray) {i j : Nat} (hj : j = i + run p (s.data.toList.drop i)) (h : j < s.size) : p s[j] = false := by
  subst hj
  refine run_at p (s.data.toList.drop i) _ ?_
  rw [List.drop_drop, at_drop s h]
  rfl
theorem run_size (p : UInt8 → Bool) (s : ByteArray) {i : Nat} (h : i ≤ s.size) : i + run p (s.data.toList.drop i) ≤ s.size := by
  have := run_le p (s.data.toList.drop i)
  rw [List.length_drop, str_len] at this
  omega
theorem run_more (p : UInt8 → Bool) (s : ByteArray) {j : Nat} (h : j < s.size) (hp : p s[j] = true) : j < j + run p (s.data.toList.drop j) := by
  rw [run_drop p s h, if_pos hp]
  omega
theorem eqb (a b : Int) : (a == b) = decide (a = b) := by
  rw [Bool.eq_iff_iff]
  simp
theorem cls_hash (c : UInt8) : (cls c == 3) = decide (c.toNat = 35) := by
  have := clsOk_all c
  unfold clsOk at this
  simp only [Bool.and_eq_true, beq_iff_eq] at this
  rw [← this.1.2, eqb]
set_option maxRecDepth 100000 in
set_option maxHeartbeats 2000000 in
theorem skip_any (s : ByteArray) (hs : s.size ≤ 140737488355328) (i : Nat) (hi : i ≤ s.size) (w : World) (T : Tabs w) :
    Calls Tryz.prog 84 #[.string s, .int .i64 (i : Nat)] w fun e w' => e = .returned (.int .i64 (i + sk false (s.data.toList.drop i) : Nat)) ∧ Below w.heap.size w w' := by
  have RC := Lib.hid (runsOf_any s w)
  have CB := Lib.hid (fun i hi W h T => run_any set_B s hs i hi w.heap.size W h T)
  have CC := Lib.hid (fun i hi W h T => run_any set_C s hs i hi w.heap.size W h T)
  have CO := Lib.hid (fun (c : UInt8) W T => classOf_any c W T)
  have T0 := Lib.hid T
  have Z0 := Lib.hid hs
  obtain ⟨R, hR⟩ : ∃ R, i + sk false (s.data.toList.drop i) = R := ⟨_, rfl⟩
  rw [hR]
  replace hR := Lib.hid hR
  replace hi := Lib.hid hi
  clear T hs
  go_enter Tryz.func84, Tryz.ntmps84
  go_wp2_with fail
  refine wp_scope_jumps 0 (fun a' w' => ∃ (j : Nat) (f0 f1 f2 f3 f4 f5 f6 f7 f8 f9 f10 f11 f12 f13 f14 f15 f16 f17 f18 f19 : Value), a' = { tmps := #[.string s, .int .i64 (j : Nat), undef, undef, .int .i64 0, .func (.func 196) #[] #[.pointer (some ⟨w.heap.size, 0, none⟩)], f0, f1, f2, f3, f4, f5, f6, f7, f8, f9, f10, f11, f12, f13, f14, f15, f16, f17, f18, f19], defers := [] } ∧ Hid (j ≤ s.size) ∧ Hid (j + sk false (s.data.toList.drop j) = R) ∧ w'.cell? ⟨w.heap.size, 0, none⟩ = some (.string s) ∧ Hid (Below w.heap.size w w')) (fun a' _ => s.size - (intOf (a'.tmps.getD 1 undef)).toNat) rfl ?_ ?_
  · go_wp2_with fail
    refine RC.out.mono ?_
    rintro e w1 ⟨rfl, c1, z1, b1⟩
    have B1 := Lib.hid b1
    clear b1 z1
    go_wp2_with fail
    go_step3
    go_wp2_with fail
    refine (CB.out i hi.out _ c1 (T0.out.stays B1.out)).mono ?_
    rintro e w2 ⟨rfl, rfl⟩
    have hp := Lib.hid ((sk_pass s i).symm.trans hR.out)
    have hz1 := Lib.hid (run_size isB s hi.out)
    have hw1 := Lib.hid (fun h => run_here isB s (i := i) rfl h)
    have hge := Lib.hid (Nat.le_add_right i (run isB (s.data.toList.drop i)))
    generalize i + run isB (s.data.toList.drop i) = j1 at *
    by_cases hc : j1 < s.size
    · have q2 : decide ((j1 : Int) < (s.size : Int)) = true := decide_eq_true (by omega)
      have hcl := cls_hash s[j1]
      have C := Lib.hid (CO.out s[j1] w2 (T0.out.stays B1.out))
      by_cases h35 : s[j1].toNat = 35
      · rw [decide_eq_true h35] at hcl
        have hq := Lib.hid ((sk_comment s hc h35).symm.trans hp.out)
        have hz2 := Lib.hid (run_size isC s (Nat.le_of_lt hc))
        have hmore := Lib.hid (run_more isC s hc (by unfold isC; rw [h35]; rfl))
        have C2 := Lib.hid (CC.out j1 (Nat.le_of_lt hc) w2 c1 (T0.out.stays B1.out))
        clear h35 hp
        generalize cls s[j1] = k at C hcl
        generalize j1 + run isC (s.data.toList.drop j1) = j2 at *
        go_wp2_with (first | (go_at_call 140; refine (C.out).mono ?_; rintro e w' ⟨rfl, rfl⟩) | (go_at_call 196; refine (C2.out).mono ?_; rintro e w' ⟨rfl, rfl⟩))
        go_step3
        exact ⟨rfl, j2, _, _, _, _, _, _, _, _, _, _, _, _, _, _, _, _, _, _, _, _, rfl, hz2, hq, c1, B1⟩
      · rw [decide_eq_false h35] at hcl
        have hq := Lib.hid (show j1 = R by rw [← hp.out, sk_stop s hc (hw1.out hc) h35, Nat.add_zero])
        clear h35 hp
        generalize cls s[j1] = k at C hcl
        go_wp2_with (go_at_call 140; refine (C.out).mono ?_; rintro e w' ⟨rfl, rfl⟩)
        simp only [Exit.jump]
        go_ret
        exact ⟨retN hq.out, B1.out⟩
    · have q2 : decide ((j1 : Int) < (s.size : Int)) = false := decide_eq_false (by omega)
      have hq := Lib.hid (show j1 = R by rw [← hp.out, sk_end s (by omega), Nat.add_zero])
      clear hp
      go_wp2_with fail
      simp only [Exit.jump]
      go_ret
      exact ⟨retN hq.out, B1.out⟩
  · rintro a' w1 ⟨j, f0, f1, f2, f3, f4, f5, f6, f7, f8, f9, f10, f11, f12, f13, f14, f15, f16, f17, f18, f19, rfl, hj, hr, c1, B1⟩
    go_wp2_with fail
    refine (CB.out j hj.out _ c1 (T0.out.stays B1.out)).mono ?_
    rintro e w2 ⟨rfl, rfl⟩
    have hp := Lib.hid ((sk_pass s j).symm.trans hr.out)
    have hz1 := Lib.hid (run_size isB s hj.out)
    have hw1 := Lib.hid (fun h => run_here isB s (i := j) rfl h)
    have hge := Lib.hid (Nat.le_add_right j (run isB (s.data.toList.drop j)))
    generalize j + run isB (s.data.toList.drop j) = j1 at *
    by_cases hc : j1 < s.size
    · have q2 : decide ((j1 : Int) < (s.size : Int)) = true := decide_eq_true (by omega)
      have hcl := cls_hash s[j1]
      have C := Lib.hid (CO.out s[j1] w2 (T0.out.stays B1.out))
      by_cases h35 : s[j1].toNat = 35
      · rw [decide_eq_true h35] at hcl
        have hq := Lib.hid ((sk_comment s hc h35).symm.trans hp.out)
        have hz2 := Lib.hid (run_size isC s (Nat.le_of_lt hc))
        have hmore := Lib.hid (run_more isC s hc (by unfold isC; rw [h35]; rfl))
        have C2 := Lib.hid (CC.out j1 (Nat.le_of_lt hc) w2 c1 (T0.out.stays B1.out))
        clear h35 hp
        generalize cls s[j1] = k at C hcl
        generalize j1 + run isC (s.data.toList.drop j1) = j2 at *
        go_wp2_with (first | (go_at_call 140; refine (C.out).mono ?_; rintro e w' ⟨rfl, rfl⟩) | (go_at_call 196; refine (C2.out).mono ?_; rintro e w' ⟨rfl, rfl⟩))
        go_step3
        refine ⟨rfl, ⟨j2, _, _, _, _, _, _, _, _, _, _, _, _, _, _, _, _, _, _, _, _, rfl, hz2, hq, c1, B1⟩, ?_⟩
        · have := hmore.out
          have := hge.out
          show s.size - ((j2 : Nat) : Int).toNat < s.size - ((j : Nat) : Int).toNat
          omega
      · rw [decide_eq_false h35] at hcl
        have hq := Lib.hid (show j1 = R by rw [← hp.out, sk_stop s hc (hw1.out hc) h35, Nat.add_zero])
        clear h35 hp
        generalize cls s[j1] = k at C hcl
        go_wp2_with (go_at_call 140; refine (C.out).mono ?_; rintro e w' ⟨rfl, rfl⟩)
        simp only [Exit.jump]
        go_ret
        exact ⟨retN hq.out, B1.out⟩
    · have q2 : decide ((j1 : Int) < (s.size : Int)) = false := decide_eq_false (by omega)
      have hq := Lib.hid (show j1 = R by rw [← hp.out, sk_end s (by omega), Nat.add_zero])
      clear hp
      go_wp2_with fail
      simp only [Exit.jump]
      go_ret
      exact ⟨retN hq.out, B1.out⟩
end Go.Proofs.YtbahfelnbofjjaaGreatDoor
