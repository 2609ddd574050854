/-
  Sources and tokens as plain data: what is skipped, the shape of what a source begins with, the codes of problems, the tokens and problems of a source; What the tokens of sources have to do with each other: tokens alone, gaps between them, sources one after the other, offsets; Offsets, lines, what stands where, and words: facts of the tokens of sources as plain data; The error of a decimal that consists of digits, a point and digits: decimal.Parse and the reference agree; Numbers, texts and words as tokens; The classes of bytes: package lexer's table and what it says; Runs of bytes: the closure that collects them; what is skipped; What is skipped; The shape of what a string begins with.
-/
import Derived.Lib.Join
import Derived.WalkMore
import Derived.ScopeJumps
import Derived.Test.YtbpijgddfaefkaaGreatDoorU02
namespace Go.Proofs.YtbpijgddfaefkaaGreatDoor
open dec

/-- How many bytes a list begins with of which p holds. -/
def run (p : UInt8 → Bool) : List UInt8 → Nat
  | [] => 0
  | c :: r => if p c = true then run p r + 1 else 0
def isL (c : UInt8) : Bool := decide (97 ≤ c.toNat) && decide (c.toNat ≤ 122)
def isB (c : UInt8) : Bool := decide (c.toNat = 9) || decide (c.toNat = 10) || decide (c.toNat = 13) || decide (c.toNat = 32)
def isW (c : UInt8) : Bool := isL c || isD c || decide (c.toNat = 95)
def isC (c : UInt8) : Bool := !decide (c.toNat = 10)
def isQ (c : UInt8) : Bool := !decide (c.toNat = 34) && !decide (c.toNat = 10)
def isS (c : UInt8) : Bool := decide (c.toNat ∈ [123, 125, 40, 41, 91, 93, 44, 58, 59, 61, 60, 43, 45, 42, 47, 94, 64])
/-- Blanks and comments; m: within a comment. -/
def sk : Bool → List UInt8 → Nat
  | _, [] => 0
  | m, c :: r => if ((m && isC c) || isB c || decide (c.toNat = 35)) = true then sk (isC c && (m || decide (c.toNat = 35))) r + 1 else 0
def sgn : List UInt8 → Int × Nat
  | [] => (0, 0)
  | c :: r => if (c.toNat = 61 ∨ c.toNat = 33 ∨ c.toNat = 60) ∧ r.head? = some 61 then (5, 2) else if isS c = true then (5, 1) else (0, 1)
/-- The digits behind a point. -/
def pnt : List UInt8 → Nat
  | [] => 0
  | c :: r => if c.toNat = 46 then run isD r else 0
def shp : List UInt8 → Int × Nat
  | [] => (0, 0)
  | c :: r =>
    if isL c = true then (1, run isW (c :: r))
    else if isD c = true then
      (if pnt ((c :: r).drop (run isD (c :: r))) = 0 then (2, run isD (c :: r)) else (3, run isD (c :: r) + 1 + pnt ((c :: r).drop (run isD (c :: r)))))
    else if c.toNat = 34 ∧ (r.drop (run isQ r)).head? = some 34 then (4, run isQ r + 2)
    else sgn (c :: r)
def cont (k : Int) (p : List UInt8) : List UInt8 := if k = 4 then (p.drop 1).take (p.length - 2) else p
def txE (s : List UInt8) : Int := if 64 < s.length then 2 else if pB 32 s = true then 0 else 3
def flt (k : Int) (p : List UInt8) : Int :=
  if k = 1 then (if 24 < p.length then 2 else 0)
  else if k = 2 then (if 1152921504606846976 < dval 0 p then 2 else 0)
  else if k = 3 then paE p
  else if k = 4 then txE (cont k p)
  else if k = 0 then 80
  else 0
structure Tk where
  k : Int
  t : ByteArray
  a : Int
abbrev Pb := Int × Int
/-- The source of a token. -/
def so (x : Tk) : List UInt8 := if x.k = 4 then 34 :: (x.t.data.toList ++ [34]) else x.t.data.toList

theorem run_le (p : UInt8 → Bool) : ∀ l : List UInt8, run p l ≤ l.length
  | [] => Nat.le_refl _
  | c :: r => by
    have := run_le p r
    unfold run
    rw [List.length_cons]
    split <;> omega
theorem run_stop {p : UInt8 → Bool} {d : UInt8} (h : p d = false) (r : List UInt8) : ∀ l : List UInt8, run p (l ++ d :: r) = run p l
  | [] => by simp [run, h]
  | c :: l => by
    rw [List.cons_append]
    unfold run
    rw [run_stop h r l]
theorem run_take (p : UInt8 → Bool) : ∀ (l : List UInt8) (n : Nat), run p (l.take n) = min n (run p l)
  | [], n => by simp [run]
  | c :: l, 0 => by simp [run]
  | c :: l, n + 1 => by
    rw [List.take_succ_cons]
    unfold run
    rw [run_take p l n]
    split <;> omega
theorem run_at (p : UInt8 → Bool) : ∀ (l : List UInt8) (c : UInt8), (l.drop (run p l)).head? = some c → p c = false
  | [], c, h => by simp [run] at h
  | d :: l, c, h => by
    unfold run at h
    split at h
    · rw [List.drop_succ_cons] at h
      exact run_at p l c h
    · rename_i hd
      simp only [List.drop_zero, List.head?_cons, Option.some.injEq] at h
      subst h
      simpa using hd
theorem run_all (p : UInt8 → Bool) : ∀ (l : List UInt8), ∀ c ∈ l.take (run p l), p c = true
  | [], c, h => by simp at h
  | d :: l, c, h => by
    unfold run at h
    split at h
    · rename_i hd
      rw [List.take_succ_cons, List.mem_cons] at h
      rcases h with rfl | h
      · exact hd
      · exact run_all p l c h
    · simp at h
theorem run_whole {p : UInt8 → Bool} : ∀ {l : List UInt8}, (∀ c ∈ l, p c = true) → run p l = l.length
  | [], _ => rfl
  | c :: l, h => by
    unfold run
    rw [if_pos (h c (List.mem_cons_self ..)), run_whole fun d hd => h d (List.mem_cons_of_mem _ hd), List.length_cons]
theorem sk_le : ∀ (m : Bool) (l : List UInt8), sk m l ≤ l.length
  | _, [] => Nat.le_refl _
  | m, c :: r => by
    have := sk_le (isC c && (m || decide (c.toNat = 35))) r
    unfold sk
    rw [List.length_cons]
    split <;> omega
theorem sk_blank {c : UInt8} (h : isB c = true) (r : List UInt8) : sk false (c :: r) = sk false r + 1 := by
  have h35 : decide (c.toNat = 35) = false := by
    unfold isB at h
    simp only [Bool.or_eq_true, decide_eq_true_eq] at h
    exact decide_eq_false (by omega)
  show (if ((false && isC c) || isB c || decide (c.toNat = 35)) = true then sk (isC c && (false || decide (c.toNat = 35))) r + 1 else 0) = _
  rw [h, h35]
  simp
theorem sk_blanks : ∀ l : List UInt8, sk false l = run isB l + sk false (l.drop (run isB l))
  | [] => rfl
  | c :: r => by
    unfold run
    split
    · rename_i h
      rw [sk_blank h, List.drop_succ_cons, sk_blanks r]
      omega
    · simp
theorem isC_10 {c : UInt8} (h : c.toNat = 10) : isC c = false := by unfold isC; rw [h]; rfl
theorem isB_10 {c : UInt8} (h : c.toNat = 10) : isB c = true := by unfold isB; rw [h]; rfl
theorem sk_true : ∀ l : List UInt8, sk true l = run isC l + sk false (l.drop (run isC l))
  | [] => rfl
  | c :: r => by
    unfold run
    split
    · rename_i h
      rw [List.drop_succ_cons]
      show (if ((true && isC c) || isB c || decide (c.toNat = 35)) = true then sk (isC c && (true || decide (c.toNat = 35))) r + 1 else 0) = _
      rw [h]
      simp only [Bool.true_and, Bool.true_or, if_true]
      rw [sk_true r]
      omega
    · rename_i h
      have h10 : c.toNat = 10 := by unfold isC at h; simpa using h
      rw [List.drop_zero, sk_blank (isB_10 h10)]
      show (if ((true && isC c) || isB c || decide (c.toNat = 35)) = true then sk (isC c && (true || decide (c.toNat = 35))) r + 1 else 0) = _
      rw [isC_10 h10, isB_10 h10]
      simp
theorem sk_hash {c : UInt8} (h : c.toNat = 35) (r : List UInt8) : sk false (c :: r) = run isC (c :: r) + sk false ((c :: r).drop (run isC (c :: r))) := by
  have hc : isC c = true := by unfold isC; rw [h]; rfl
  have e : run isC (c :: r) = run isC r + 1 := by
    show (if isC c = true then run isC r + 1 else 0) = _
    rw [if_pos hc]
  rw [e, List.drop_succ_cons]
  show (if ((false && isC c) || isB c || decide (c.toNat = 35)) = true then sk (isC c && (false || decide (c.toNat = 35))) r + 1 else 0) = _
  rw [hc, decide_eq_true h]
  simp only [Bool.or_true, if_true, Bool.true_and]
  rw [sk_true r]
  omega
theorem sk_none {c : UInt8} (h1 : isB c = false) (h2 : c.toNat ≠ 35) (r : List UInt8) : sk false (c :: r) = 0 := by
  show (if ((false && isC c) || isB c || decide (c.toNat = 35)) = true then sk (isC c && (false || decide (c.toNat = 35))) r + 1 else 0) = _
  rw [h1, decide_eq_false h2]
  rfl
theorem sgn_cons (c : UInt8) (r : List UInt8) : sgn (c :: r) = if (c.toNat = 61 ∨ c.toNat = 33 ∨ c.toNat = 60) ∧ r.head? = some 61 then (5, 2) else if isS c = true then (5, 1) else (0, 1) := rfl
theorem sgn_le : ∀ l : List UInt8, (sgn l).2 ≤ l.length
  | [] => Nat.le_refl _
  | [c] => by
    rw [sgn_cons]
    split
    · rename_i h; simp at h
    · split <;> exact Nat.le_refl 1
  | c :: d :: r => by
    rw [sgn_cons]
    simp only [List.length_cons]
    split
    · exact Nat.le_add_left 2 _
    · split <;> exact Nat.le_add_left 1 _
theorem sgn_pos {l : List UInt8} (h : l ≠ []) : 1 ≤ (sgn l).2 := by
  cases l with
  | nil => exact absurd rfl h
  | cons c r =>
    rw [sgn_cons]
    split
    · exact Nat.le_succ 1
    · split <;> exact Nat.le_refl 1
theorem pnt_cons (c : UInt8) (r : List UInt8) : pnt (c :: r) = if c.toNat = 46 then run isD r else 0 := rfl
theorem pnt_le (l : List UInt8) : pnt l = 0 ∨ (1 ≤ pnt l ∧ pnt l + 1 ≤ l.length) := by
  cases l with
  | nil => exact .inl rfl
  | cons c r =>
    have := run_le isD r
    rw [pnt_cons, List.length_cons]
    split <;> omega
theorem shp_cons (c : UInt8) (r : List UInt8) : shp (c :: r) = if isL c = true then (1, run isW (c :: r)) else if isD c = true then
      (if pnt ((c :: r).drop (run isD (c :: r))) = 0 then (2, run isD (c :: r)) else (3, run isD (c :: r) + 1 + pnt ((c :: r).drop (run isD (c :: r)))))
    else if c.toNat = 34 ∧ (r.drop (run isQ r)).head? = some 34 then (4, run isQ r + 2) else sgn (c :: r) := rfl
theorem isW_L {c : UInt8} (h : isL c = true) : isW c = true := by unfold isW; rw [h]; rfl
theorem run_cons {p : UInt8 → Bool} {c : UInt8} (h : p c = true) (r : List UInt8) : run p (c :: r) = run p r + 1 := by
  show (if p c = true then run p r + 1 else 0) = _
  rw [if_pos h]
theorem head_len {l : List UInt8} {n : Nat} {c : UInt8} (h : (l.drop n).head? = some c) : n < l.length := by
  rcases Nat.lt_or_ge n l.length with h1 | h1
  · exact h1
  · rw [List.drop_eq_nil_of_le h1] at h; cases h
theorem shp_le : ∀ l : List UInt8, (shp l).2 ≤ l.length
  | [] => Nat.le_refl _
  | c :: r => by
    rw [shp_cons]
    split
    · exact run_le _ _
    · split
      · rename_i hd
        have h2 := run_le isD (c :: r)
        rcases pnt_le ((c :: r).drop (run isD (c :: r))) with h | ⟨h, h1⟩
        · rw [if_pos h]; exact h2
        · rw [if_neg (by omega)]
          rw [List.length_drop] at h1
          show run isD (c :: r) + 1 + _ ≤ _
          omega
      · split
        · rename_i h
          have := head_len h.2
          rw [List.length_cons]
          show run isQ r + 2 ≤ _
          omega
        · exact sgn_le _
theorem shp_pos {l : List UInt8} (h : l ≠ []) : 1 ≤ (shp l).2 := by
  cases l with
  | nil => exact absurd rfl h
  | cons c r =>
    rw [shp_cons]
    split
    · rename_i hl
      show 1 ≤ run isW (c :: r)
      rw [run_cons (isW_L hl)]
      omega
    · split
      · rename_i hd
        have : 1 ≤ run isD (c :: r) := by rw [run_cons hd]; omega
        split
        · exact this
        · show 1 ≤ run isD (c :: r) + 1 + _
          omega
      · split
        · exact Nat.le_add_left 1 _
        · exact sgn_pos (by simp)
theorem shp_kind (l : List UInt8) : (shp l).1 = 0 ∨ (shp l).1 = 1 ∨ (shp l).1 = 2 ∨ (shp l).1 = 3 ∨ (shp l).1 = 4 ∨ (shp l).1 = 5 := by
  cases l with
  | nil => exact .inl rfl
  | cons c r =>
    rw [shp_cons]
    split
    · simp
    · split
      · split <;> simp
      · split
        · simp
        · rw [sgn_cons]
          split
          · simp
          · split <;> simp

/-! The tokens and problems of a source. -/
def lxs (p : Nat) (f : Bool) (l : List UInt8) : List Tk × List Pb :=
  if _h : l.drop (sk false l) = [] then ([], [])
  else
    let l' := l.drop (sk false l)
    let R := lxs (p + sk false l + (shp l').2) (decide ((shp l').1 = 0)) (l'.drop (shp l').2)
    if flt (shp l').1 (l'.take (shp l').2) = 0 then (⟨(shp l').1, ⟨(cont (shp l').1 (l'.take (shp l').2)).toArray⟩, ((p + sk false l : Nat) : Int)⟩ :: R.1, R.2)
    else if (shp l').1 = 0 ∧ f = true ∧ sk false l = 0 then R
    else (R.1, (((p + sk false l : Nat) : Int), flt (shp l').1 (l'.take (shp l').2)) :: R.2)
termination_by l.length
decreasing_by
  have h1 := shp_pos _h
  have h2 : (l.drop (sk false l)).length ≠ 0 := fun e => _h (List.eq_nil_of_length_eq_zero e)
  rw [List.length_drop, List.length_drop]
  rw [List.length_drop] at h2
  omega
theorem lex_done {l : List UInt8} (h : l.drop (sk false l) = []) (p : Nat) (f : Bool) : lxs p f l = ([], []) := by
  rw [lxs, dif_pos h]
theorem lex_step {l l' : List UInt8} (h : l.drop (sk false l) = l') (h0 : l' ≠ []) (p : Nat) (f : Bool) : lxs p f l =
    if flt (shp l').1 (l'.take (shp l').2) = 0 then (⟨(shp l').1, ⟨(cont (shp l').1 (l'.take (shp l').2)).toArray⟩, ((p + sk false l : Nat) : Int)⟩ :: (lxs (p + sk false l + (shp l').2) (decide ((shp l').1 = 0)) (l'.drop (shp l').2)).1, (lxs (p + sk false l + (shp l').2) (decide ((shp l').1 = 0)) (l'.drop (shp l').2)).2)
    else if (shp l').1 = 0 ∧ f = true ∧ sk false l = 0 then lxs (p + sk false l + (shp l').2) (decide ((shp l').1 = 0)) (l'.drop (shp l').2)
    else ((lxs (p + sk false l + (shp l').2) (decide ((shp l').1 = 0)) (l'.drop (shp l').2)).1, (((p + sk false l : Nat) : Int), flt (shp l').1 (l'.take (shp l').2)) :: (lxs (p + sk false l + (shp l').2) (decide ((shp l').1 = 0)) (l'.drop (shp l').2)).2) := by
  subst h
  rw [lxs, dif_neg h0]
end Go.Proofs.YtbpijgddfaefkaaGreatDoor
namespace Go.Proofs.YtbpijgddfaefkaaGreatDoor
open dec

def Sep (x : List UInt8) : Prop := x = [] ∨ ∃ r, x = 32 :: r
theorem run_end {p : UInt8 → Bool} (h : p 32 = false) {x : List UInt8} (hx : Sep x) (l : List UInt8) : run p (l ++ x) = run p l := by
  rcases hx with rfl | ⟨r, rfl⟩
  · rw [List.append_nil]
  · exact run_stop h r l
theorem take_run (p : UInt8 → Bool) (l : List UInt8) : run p (l.take (run p l)) = run p l := by rw [run_take]; omega
theorem drop_cons {l : List UInt8} {n : Nat} {c : UInt8} (h : (l.drop n).head? = some c) : l.drop n = c :: l.drop (n + 1) := by
  have hl := head_len h
  rw [List.drop_eq_getElem_cons hl] at h ⊢
  simp only [List.head?_cons, Option.some.injEq] at h
  rw [h]
theorem split_at {l : List UInt8} {n : Nat} {c : UInt8} (h : (l.drop n).head? = some c) : l = l.take n ++ c :: l.drop (n + 1) := by
  rw [← drop_cons h, List.take_append_drop]
theorem take_len {l : List UInt8} {n : Nat} (h : n ≤ l.length) : (l.take n).length = n := by rw [List.length_take]; omega
theorem drop_to {l r : List UInt8} {m : Nat} (h : m = l.length) : (l ++ r).drop m = r := by subst h; exact List.drop_left' rfl
theorem take_more {l : List UInt8} {n : Nat} {c : UInt8} (h : (l.drop n).head? = some c) (k : Nat) : l.take (n + 1 + k) = l.take n ++ c :: (l.drop (n + 1)).take k := by
  rw [show n + 1 + k = n + (k + 1) by omega, List.take_add, drop_cons h, List.take_succ_cons]
theorem pnt_sep {x : List UInt8} (hx : Sep x) : pnt x = 0 := by
  rcases hx with rfl | ⟨r, rfl⟩
  · rfl
  · rfl
theorem pnt_some {l : List UInt8} (h : pnt l ≠ 0) : ∃ c r, l = c :: r ∧ c.toNat = 46 ∧ pnt l = run isD r := by
  cases l with
  | nil => exact absurd rfl h
  | cons c r =>
    rw [pnt_cons] at h ⊢
    split at h
    · rename_i hc
      exact ⟨c, r, rfl, hc, by rw [if_pos hc]⟩
    · exact absurd rfl h
theorem isD_46 {c : UInt8} (h : c.toNat = 46) : isD c = false := by unfold isD; rw [h]; rfl
theorem toNat_of {c : UInt8} {d : UInt8} (h : c.toNat = d.toNat) : c = d := UInt8.toNat_inj.1 h
theorem sign_34 {c : UInt8} (h : isS c = true ∨ c.toNat = 61 ∨ c.toNat = 33 ∨ c.toNat = 60) : c.toNat ≠ 34 := by
  intro e
  rcases h with h | h
  · unfold isS at h
    rw [e] at h
    exact absurd h (by decide)
  · omega
/-- A token, with nothing or a blank behind it, has its shape. -/
theorem shp_part {l x : List UInt8} (hk : (shp l).1 ≠ 0) (hx : Sep x) : shp (l.take (shp l).2 ++ x) = shp l := by
  cases l with
  | nil => exact absurd rfl hk
  | cons c r =>
    by_cases hl : isL c = true
    · have e : shp (c :: r) = (1, run isW r + 1) := by rw [shp_cons, if_pos hl, run_cons (isW_L hl)]
      rw [e, List.take_succ_cons, List.cons_append, shp_cons, if_pos hl, run_cons (isW_L hl), run_end (by decide) hx, take_run]
    · by_cases hd : isD c = true
      · have ed := run_cons hd r
        by_cases hp : pnt ((c :: r).drop (run isD (c :: r))) = 0
        · have e : shp (c :: r) = (2, run isD r + 1) := by rw [shp_cons, if_neg hl, if_pos hd, if_pos hp, ed]
          have e2 : run isD (c :: (r.take (run isD r) ++ x)) = run isD r + 1 := by rw [run_cons hd, run_end (by decide) hx, take_run]
          rw [e, List.take_succ_cons, List.cons_append, shp_cons, if_neg hl, if_pos hd, e2, List.drop_succ_cons, drop_to (take_len (run_le _ _)).symm, if_pos (pnt_sep hx)]
        · have e : shp (c :: r) = (3, run isD (c :: r) + 1 + pnt ((c :: r).drop (run isD (c :: r)))) := by rw [shp_cons, if_neg hl, if_pos hd, if_neg hp]
          obtain ⟨d, y, hy, h46, hq⟩ := pnt_some hp
          have hs := split_at (l := c :: r) (n := run isD (c :: r)) (c := d) (by rw [hy]; rfl)
          have hy2 : (c :: r).drop (run isD (c :: r) + 1) = y := by
            have := drop_cons (l := c :: r) (n := run isD (c :: r)) (c := d) (by rw [hy]; rfl)
            rw [hy] at this
            exact (List.cons.inj this).2.symm
          rw [hy2] at hs
          rw [e, hq]
          have hn := take_len (run_le isD (c :: r))
          have et : (c :: r).take (run isD (c :: r) + 1 + run isD y) = (c :: r).take (run isD (c :: r)) ++ d :: y.take (run isD y) := by
            rw [take_more (c := d) (by rw [hy]; rfl), hy2]
          have hc : (c :: r).take (run isD (c :: r)) = c :: r.take (run isD r) := by rw [ed, List.take_succ_cons]
          have et2 : (c :: r).take (run isD (c :: r) + 1 + run isD y) ++ x = c :: (r.take (run isD r) ++ d :: (y.take (run isD y) ++ x)) := by
            rw [et, hc]; simp
          have en : run isD (c :: (r.take (run isD r) ++ d :: (y.take (run isD y) ++ x))) = run isD r + 1 := by
            rw [run_cons hd, run_stop (isD_46 h46), take_run]
          have ep : pnt ((c :: (r.take (run isD r) ++ d :: (y.take (run isD y) ++ x))).drop (run isD r + 1)) = run isD y := by
            rw [List.drop_succ_cons, drop_to (take_len (run_le _ _)).symm, pnt_cons, if_pos h46, run_end (by decide) hx, take_run]
          rw [et2, shp_cons, if_neg hl, if_pos hd, en, ep, if_neg (by omega), ed]
      · by_cases hq : c.toNat = 34 ∧ (r.drop (run isQ r)).head? = some 34
        · have e : shp (c :: r) = (4, run isQ r + 1 + 1) := by rw [shp_cons, if_neg hl, if_neg hd, if_pos hq]
          have hs := split_at hq.2
          have et : r.take (run isQ r + 1) = r.take (run isQ r) ++ [34] := by
            have := take_more hq.2 0
            simpa using this
          have en : run isQ (r.take (run isQ r) ++ 34 :: x) = run isQ r := by rw [run_stop (by decide), take_run]
          rw [e, List.take_succ_cons, List.cons_append, et, List.append_assoc, shp_cons, if_neg hl, if_neg hd]
          show (if c.toNat = 34 ∧ ((r.take (run isQ r) ++ 34 :: x).drop (run isQ (r.take (run isQ r) ++ 34 :: x))).head? = some 34 then (4, run isQ (r.take (run isQ r) ++ 34 :: x) + 2) else _) = _
          rw [en, drop_to (take_len (run_le _ _)).symm, if_pos ⟨hq.1, rfl⟩]
        · have e : shp (c :: r) = sgn (c :: r) := by rw [shp_cons, if_neg hl, if_neg hd, if_neg hq]
          rw [e] at hk ⊢
          rw [sgn_cons] at hk ⊢
          by_cases h2 : (c.toNat = 61 ∨ c.toNat = 33 ∨ c.toNat = 60) ∧ r.head? = some 61
          · rw [if_pos h2]
            cases r with
            | nil => cases h2.2
            | cons d r =>
              have hd61 : d = 61 := by simpa using h2.2
              subst hd61
              show shp (c :: 61 :: x) = _
              rw [shp_cons, if_neg hl, if_neg hd, if_neg (fun h => sign_34 (.inr h2.1) h.1), sgn_cons, if_pos ⟨h2.1, rfl⟩]
          · rw [if_neg h2] at hk ⊢
            by_cases hS : isS c = true
            · rw [if_pos hS]
              show shp (c :: x) = _
              rw [shp_cons, if_neg hl, if_neg hd, if_neg (fun h => sign_34 (.inl hS) h.1), sgn_cons, if_neg, if_pos hS]
              rintro ⟨_, h⟩
              rcases hx with rfl | ⟨r, rfl⟩
              · cases h
              · cases h
            · rw [if_neg hS] at hk
              exact absurd rfl hk
theorem shp_head {l : List UInt8} (hk : (shp l).1 ≠ 0) (x : List UInt8) : sk false (l ++ x) = 0 := by
  cases l with
  | nil => exact absurd rfl hk
  | cons c r =>
    rw [List.cons_append]
    refine sk_none ?_ ?_ _
    · cases hb : isB c
      · rfl
      · exfalso
        apply hk
        have hb' := hb
        unfold isB at hb'
        simp only [Bool.or_eq_true, decide_eq_true_eq] at hb'
        have h1 : ¬ isL c = true := by unfold isL; rw [Bool.and_eq_true, decide_eq_true_eq, decide_eq_true_eq]; omega
        have h2 : ¬ isD c = true := by unfold isD; rw [Bool.and_eq_true, decide_eq_true_eq, decide_eq_true_eq]; omega
        have h3 : ¬ isS c = true := by
          unfold isS
          rw [decide_eq_true_eq]
          simp
          omega
        rw [shp_cons, if_neg h1, if_neg h2, if_neg (by omega), sgn_cons, if_neg (by omega), if_neg h3]
    · intro hb'
      apply hk
      have h1 : ¬ isL c = true := by unfold isL; rw [Bool.and_eq_true, decide_eq_true_eq, decide_eq_true_eq]; omega
      have h2 : ¬ isD c = true := by unfold isD; rw [Bool.and_eq_true, decide_eq_true_eq, decide_eq_true_eq]; omega
      have h3 : ¬ isS c = true := by
        unfold isS
        rw [decide_eq_true_eq]
        simp
        omega
      rw [shp_cons, if_neg h1, if_neg h2, if_neg (by omega), sgn_cons, if_neg (by omega), if_neg h3]
/-- What stands between the quotes of a text. -/
theorem shp_text {l : List UInt8} (h : (shp l).1 = 4) : l.take (shp l).2 = 34 :: (cont 4 (l.take (shp l).2) ++ [34]) := by
  cases l with
  | nil => cases h
  | cons c r =>
    rw [shp_cons] at h ⊢
    split at h
    · cases h
    · rename_i hl
      split at h
      · split at h <;> cases h
      · rename_i hd
        split at h
        · rename_i hq
          rw [if_neg hl, if_neg hd, if_pos hq]
          have hs := split_at hq.2
          have et : r.take (run isQ r + 1) = r.take (run isQ r) ++ [34] := by
            have := take_more hq.2 0
            simpa using this
          have hc : c = 34 := toNat_of hq.1
          subst hc
          show (34 :: r).take (run isQ r + 1 + 1) = _
          rw [List.take_succ_cons, et]
          unfold cont
          rw [if_pos rfl]
          simp
        · rw [sgn_cons] at h
          split at h
          · cases h
          · split at h <;> cases h
theorem cont_other {k : Int} (h : k ≠ 4) (p : List UInt8) : cont k p = p := by unfold cont; rw [if_neg h]
/-- The source of a token that was found. -/
theorem so_part (l : List UInt8) (a : Int) : so ⟨(shp l).1, ⟨(cont (shp l).1 (l.take (shp l).2)).toArray⟩, a⟩ = l.take (shp l).2 := by
  unfold so
  by_cases h : (shp l).1 = 4
  · rw [if_pos h, h]
    exact (shp_text h).symm
  · rw [if_neg h]
    show (cont _ _) = _
    rw [cont_other h]
theorem cont_so (x : Tk) : cont x.k (so x) = x.t.data.toList := by
  unfold cont so
  split
  · simp
  · rfl
/-- The token alone. -/
def pr (x : Tk) : Bool := decide (shp (so x) = (x.k, (so x).length)) && decide (flt x.k (so x) = 0)
theorem pr_iff (x : Tk) : pr x = true ↔ shp (so x) = (x.k, (so x).length) ∧ flt x.k (so x) = 0 := by unfold pr; rw [Bool.and_eq_true, decide_eq_true_eq, decide_eq_true_eq]
theorem pr_kind {x : Tk} (h : pr x = true) : x.k = 1 ∨ x.k = 2 ∨ x.k = 3 ∨ x.k = 4 ∨ x.k = 5 := by
  have h2 := (pr_iff x).1 h
  have h3 := shp_kind (so x)
  rw [h2.1] at h3
  rcases h3 with h3 | h3
  · have h4 := h2.2
    rw [show x.k = 0 from h3] at h4
    unfold flt at h4
    simp at h4
  · exact h3
theorem lex_tok {x : Tk} (h : pr x = true) {y : List UInt8} (hy : Sep y) (p : Nat) (f : Bool) :
    lxs p f (so x ++ y) = (⟨x.k, x.t, (p : Nat)⟩ :: (lxs (p + (so x).length) false y).1, (lxs (p + (so x).length) false y).2) := by
  have hk := pr_kind h
  obtain ⟨h1, h2⟩ := (pr_iff x).1 h
  have hk0 : (shp (so x)).1 ≠ 0 := by rw [h1]; show x.k ≠ 0; omega
  have hn : (shp (so x)).2 = (so x).length := by rw [h1]
  have hs := shp_head hk0 y
  have hp : shp (so x ++ y) = (x.k, (so x).length) := by
    have := shp_part hk0 hy
    rw [hn, List.take_length] at this
    rw [this, h1]
  have hne : so x ++ y ≠ [] := by
    intro e
    rw [(List.append_eq_nil_iff.1 e).1] at hk0
    exact hk0 rfl
  have ht : (so x ++ y).take (so x).length = so x := List.take_left
  have hd : (so x ++ y).drop (so x).length = y := List.drop_left
  have hk1 : x.k ≠ 0 := by omega
  rw [lex_step (l' := so x ++ y) (by rw [hs, List.drop_zero]) hne, hp, hs]
  simp only [ht, hd, h2, if_true, cont_so, Nat.add_zero, decide_eq_false hk1]
theorem lex_nil (p : Nat) (f : Bool) : lxs p f [] = ([], []) := lex_done rfl p f
/-- What is skipped as a whole, wherever it stands. -/
structure Gp (g : List UInt8) : Prop where
  ne : ∃ r, g = 32 :: r
  sk : ∀ r, sk false (g ++ r) = g.length + sk false r
theorem gp_one : Gp [32] := ⟨⟨[], rfl⟩, fun r => by rw [List.singleton_append, sk_blank (by decide)]; simp; omega⟩
theorem lex_gap {g : List UInt8} (h : Gp g) (l : List UInt8) (p : Nat) (f : Bool) : lxs p f (g ++ l) = lxs (p + g.length) false l := by
  have hs := h.sk l
  have hg : 1 ≤ g.length := by obtain ⟨r, rfl⟩ := h.ne; simp
  have hd : (g ++ l).drop (g.length + sk false l) = l.drop (sk false l) := by
    rw [← List.drop_drop, List.drop_left]
  by_cases h0 : l.drop (sk false l) = []
  · rw [lex_done (by rw [hs, hd, h0]), lex_done h0]
  · rw [lex_step (by rw [hs, hd]) h0, lex_step rfl h0, hs, show p + (g.length + sk false l) = p + g.length + sk false l by omega]
    simp only [Bool.false_eq_true, false_and, and_false, if_false]
    rw [if_neg (show ¬ ((shp (l.drop (sk false l))).1 = 0 ∧ f = true ∧ g.length + sk false l = 0) by omega)]
theorem lex_ind {C : Nat → Bool → List UInt8 → Prop} (h0 : ∀ p f l, l.drop (sk false l) = [] → C p f l)
    (h1 : ∀ p f l l', l.drop (sk false l) = l' → l' ≠ [] → C (p + sk false l + (shp l').2) (decide ((shp l').1 = 0)) (l'.drop (shp l').2) → C p f l) : ∀ (n p : Nat) (f : Bool) (l : List UInt8), l.length ≤ n → C p f l
  | n, p, f, l, hn => by
    by_cases h : l.drop (sk false l) = []
    · exact h0 p f l h
    · refine h1 p f l _ rfl h ?_
      have h1 := shp_pos h
      have h2 := shp_le (l.drop (sk false l))
      have h3 : (l.drop (sk false l)).length ≠ 0 := fun e => h (List.eq_nil_of_length_eq_zero e)
      have h4 : (l.drop (sk false l)).length ≤ l.length := by rw [List.length_drop]; omega
      match n, hn with
      | 0, hn => omega
      | n + 1, hn => exact lex_ind h0 h1' n _ _ _ (by rw [List.length_drop]; omega)
where
  h1' : ∀ p f l l', l.drop (sk false l) = l' → l' ≠ [] → C (p + sk false l + (shp l').2) (decide ((shp l').1 = 0)) (l'.drop (shp l').2) → C p f l := h1
end Go.Proofs.YtbpijgddfaefkaaGreatDoor
namespace Go.Proofs.YtbpijgddfaefkaaGreatDoor
open dec

def shT (d : Nat) (x : Tk) : Tk := ⟨x.k, x.t, x.a + d⟩
/-- The tokens stand in a source from a place on, one after the other. -/
def Cov (src : List UInt8) : Nat → List Tk → Prop
  | _, [] => True
  | p, x :: l => ∃ a : Nat, x.a = (a : Nat) ∧ p ≤ a ∧ a + (so x).length ≤ src.length ∧ (src.drop a).take (so x).length = so x ∧ x.k ≠ 6 ∧ Cov src (a + (so x).length) l
def CovB (n : Nat) : Nat → List Pb → Prop
  | _, [] => True
  | p, q :: l => ∃ a : Nat, q.1 = (a : Nat) ∧ p ≤ a ∧ a < n ∧ q.2 ≠ 0 ∧ CovB n (a + 1) l
theorem CovB.less {n : Nat} : ∀ {l : List Pb} {p q : Nat}, q ≤ p → CovB n p l → CovB n q l
  | [], _, _, _, _ => trivial
  | _ :: _, _, _, h, ⟨a, h1, h2, h3⟩ => ⟨a, h1, Nat.le_trans h h2, h3⟩
theorem Cov.less {s : List UInt8} : ∀ {l : List Tk} {p q : Nat}, q ≤ p → Cov s p l → Cov s q l
  | [], _, _, _, _ => trivial
  | _ :: _, _, _, h, ⟨a, h1, h2, h3⟩ => ⟨a, h1, Nat.le_trans h h2, h3⟩
theorem lex_cov (src : List UInt8) (p : Nat) (f : Bool) (l : List UInt8) (h : src.drop p = l) (hp : p ≤ src.length) : Cov src p (lxs p f l).1 ∧ CovB src.length p (lxs p f l).2 := by
  refine lex_ind (C := fun p f l => src.drop p = l → p ≤ src.length → Cov src p (lxs p f l).1 ∧ CovB src.length p (lxs p f l).2) ?_ ?_ l.length p f l (Nat.le_refl _) h hp
  · intro p f l h _ _
    rw [lex_done h]
    exact ⟨trivial, trivial⟩
  · intro p f l l' h h0 ih hl hp
    have hn := shp_le l'
    have h1 := shp_pos h0
    have hlen : l'.length = l.length - sk false l := by rw [← h, List.length_drop]
    have hlen2 : l.length = src.length - p := by rw [← hl, List.length_drop]
    have hsk := sk_le false l
    have hdr : src.drop (p + sk false l) = l' := by rw [← List.drop_drop, hl, h]
    obtain ⟨i1, i2⟩ := ih (by rw [← hdr, List.drop_drop]) (by omega)
    have hso := so_part l'
    have htl : (l'.take (shp l').2).length = (shp l').2 := take_len hn
    rw [lex_step h h0]
    split
    · refine ⟨⟨p + sk false l, rfl, by omega, ?_, ?_, ?_, ?_⟩, i2.less (by omega)⟩
      · rw [hso, htl]; omega
      · rw [hso, htl, hdr]
      · have := shp_kind l'
        show (shp l').1 ≠ 6
        omega
      · rw [hso, htl]
        exact i1
    · rename_i hf
      split
      · exact ⟨i1.less (by omega), i2.less (by omega)⟩
      · exact ⟨i1.less (by omega), ⟨p + sk false l, rfl, by omega, by omega, hf, i2.less (by omega)⟩⟩
/-- Each token that was found is one alone. -/
theorem lex_pr (p : Nat) (f : Bool) (l : List UInt8) : ∀ x ∈ (lxs p f l).1, pr x = true := by
  refine lex_ind (C := fun p f l => ∀ x ∈ (lxs p f l).1, pr x = true) ?_ ?_ l.length p f l (Nat.le_refl _)
  · intro p f l h x hx
    rw [lex_done h] at hx
    cases hx
  · intro p f l l' h h0 ih x hx
    rw [lex_step h h0] at hx
    split at hx
    · rename_i hf
      rcases List.mem_cons.1 hx with rfl | hx
      · have hk : (shp l').1 ≠ 0 := by
          intro e
          rw [e] at hf
          unfold flt at hf
          simp at hf
        have hs := shp_part hk (.inl rfl : Sep [])
        rw [List.append_nil] at hs
        rw [pr_iff]
        show shp (so _) = ((shp l').1, (so _).length) ∧ flt (shp l').1 (so _) = 0
        rw [so_part, hs, take_len (shp_le l')]
        exact ⟨rfl, hf⟩
      · exact ih x hx
    · split at hx
      · exact ih x hx
      · exact ih x hx
theorem sum_cov (src : List UInt8) : ∀ (l : List Tk) (p : Nat), p ≤ src.length → Cov src p l → (l.map fun x => (so x).length).sum ≤ src.length - p
  | [], _, _, _ => Nat.zero_le _
  | x :: l, p, hp, ⟨a, h1, h2, h3, _, _, h4⟩ => by
    have := sum_cov src l _ h3 h4
    rw [List.map_cons, List.sum_cons]
    omega
theorem pr_pos {x : Tk} (h : pr x = true) : 1 ≤ (so x).length := by
  obtain ⟨h1, h2⟩ := (pr_iff x).1 h
  have h3 := pr_kind h
  have := shp_pos (l := so x) (fun e => by rw [e] at h1; have := (Prod.mk.inj h1).1; omega)
  rw [h1] at this
  exact this
theorem len_sum : ∀ (l : List Tk), (∀ x ∈ l, pr x = true) → l.length ≤ (l.map fun x => (so x).length).sum
  | [], _ => Nat.le_refl _
  | x :: l, h => by
    have h1 := pr_pos (h x (List.mem_cons_self ..))
    have h2 := len_sum l fun y hy => h y (List.mem_cons_of_mem _ hy)
    rw [List.map_cons, List.sum_cons, List.length_cons]
    omega
end Go.Proofs.YtbpijgddfaefkaaGreatDoor
namespace Go.Proofs.YtbpijgddfaefkaaGreatDoor
open dec

/-- strconv.Atoi of digits. -/
theorem uint_any : ∀ (l : List UInt8) (a : Nat), (∀ c ∈ l, isD c = true) → a < 18446744073709551616 → Lib.parseUint10 a l = if dval a l < 18446744073709551616 then .ok (dval a l) else .range
  | [], a, _, ha => by
    show Lib.NumEnd.ok a = if a < _ then _ else _
    rw [if_pos ha]
    rfl
  | c :: l, a, h, ha => by
    have hc := (isD_iff c).1 (h c (List.mem_cons_self ..))
    have hg := dval_ge l (a * 10 + (c.toNat - 48))
    rw [dval_cons]
    unfold Lib.parseUint10
    rw [if_pos hc]
    by_cases h1 : 1844674407370955162 ≤ a
    · rw [if_pos h1, if_neg (by omega)]
    · rw [if_neg h1]
      by_cases h2 : 18446744073709551616 ≤ a * 10 + (c.toNat - 48)
      · rw [if_pos h2, if_neg (by omega)]
      · rw [if_neg h2, uint_any l _ (fun d hd => h d (List.mem_cons_of_mem _ hd)) (by omega)]
theorem atoi_digits {l : List UInt8} (h0 : l ≠ []) (h : ∀ c ∈ l, isD c = true) : Lib.atoiAll l = if dval 0 l < 9223372036854775808 then .ok (dval 0 l : Nat) else .range := by
  cases l with
  | nil => exact absurd rfl h0
  | cons c r =>
    have hc := (isD_iff c).1 (h c (List.mem_cons_self ..))
    rw [Lib.atoiAll_plain c r (by omega) (by omega)]
    unfold Lib.parseMag
    rw [if_neg (by simp), uint_any _ 0 h (by omega)]
    by_cases h1 : dval 0 (c :: r) < 18446744073709551616
    · rw [if_pos h1]
      unfold Lib.signless
      by_cases h2 : dval 0 (c :: r) < 9223372036854775808
      · rw [if_pos h2]
        simp only
        rw [if_neg (by omega)]
      · rw [if_neg h2]
        simp only
        rw [if_pos (by omega)]
    · rw [if_neg h1, if_neg (by omega)]
      rfl
theorem shp_int {l : List UInt8} (h : shp l = (2, l.length)) : l ≠ [] ∧ ∀ c ∈ l, isD c = true := by
  cases l with
  | nil => cases (Prod.mk.inj h).1
  | cons c r =>
    refine ⟨by simp, ?_⟩
    rw [shp_cons] at h
    split at h
    · cases (Prod.mk.inj h).1
    · split at h
      · split at h
        · have e := (Prod.mk.inj h).2
          have := run_all isD (c :: r)
          rw [e, List.take_length] at this
          exact this
        · cases (Prod.mk.inj h).1
      · split at h
        · cases (Prod.mk.inj h).1
        · rw [sgn_cons] at h
          split at h
          · cases (Prod.mk.inj h).1
          · split at h <;> cases (Prod.mk.inj h).1
end Go.Proofs.YtbpijgddfaefkaaGreatDoor
namespace Go.Proofs.YtbpijgddfaefkaaGreatDoor
open dec

theorem flt_one (p : List UInt8) : flt 1 p = if 24 < p.length then 2 else 0 := rfl
theorem flt_two (p : List UInt8) : flt 2 p = if 1152921504606846976 < dval 0 p then 2 else 0 := rfl
theorem flt_three (p : List UInt8) : flt 3 p = paE p := rfl
theorem flt_four (p : List UInt8) : flt 4 p = txE (cont 4 p) := rfl
theorem flt_zero (p : List UInt8) : flt 0 p = 80 := rfl
theorem isL_D {c : UInt8} (h : isD c = true) : ¬ isL c = true := by
  unfold isD at h
  unfold isL
  rw [Bool.and_eq_true, decide_eq_true_eq, decide_eq_true_eq] at h ⊢
  omega
theorem pr_int {t : ByteArray} {ds : List UInt8} (ht : t.data.toList = ds) (h0 : ds ≠ []) (hd : ∀ c ∈ ds, isD c = true) (hv : dval 0 ds ≤ 1152921504606846976) (a : Int) : pr ⟨2, t, a⟩ = true := by
  rw [pr_iff]
  have hs : so ⟨2, t, a⟩ = ds := ht
  rw [hs]
  refine ⟨?_, by show flt 2 ds = 0; rw [flt_two, if_neg (by omega)]⟩
  cases ds with
  | nil => exact absurd rfl h0
  | cons c r =>
    have hc := hd c (List.mem_cons_self ..)
    rw [shp_cons, if_neg (isL_D hc), if_pos hc, run_whole hd, List.drop_length, if_pos (show pnt [] = 0 from rfl)]
end Go.Proofs.YtbpijgddfaefkaaGreatDoor
namespace Go.Proofs.YtbpijgddfaefkaaGreatDoor
open Go.RowKit dec

def cls (c : UInt8) : Int := if c.toNat < 126 then clsTab.getD c.toNat 0 else 0
theorem all_bytes {p : UInt8 → Bool} (h : (List.range 256).all (fun n => p (UInt8.ofNat n)) = true) (c : UInt8) : p c = true := by
  have := List.all_eq_true.1 h c.toNat (List.mem_range.2 c.toNat_lt)
  rwa [UInt8.ofNat_toNat] at this
/-- What the classes mean. -/
def clsOk (c : UInt8) : Bool := decide (0 ≤ cls c ∧ cls c ≤ 8) && ((decide (cls c = 1) || decide (cls c = 2)) == isB c) && (!decide (cls c = 2) == isC c) && ((decide (cls c = 4) || decide (cls c = 5) || decide (cls c = 6)) == isW c)
  && (decide (cls c = 5) == isD c) && ((!decide (cls c = 7) && !decide (cls c = 2)) == isQ c) && (decide (cls c = 4) == isL c) && (decide (cls c = 8) == isS c) && (decide (cls c = 3) == decide (c.toNat = 35)) && (decide (cls c = 7) == decide (c.toNat = 34))
theorem clsOk_all (c : UInt8) : clsOk c = true := all_bytes (by decide +kernel) c
theorem classOf_any (c : UInt8) (w : World) (T : Tabs w) : Calls Tryz.prog 115 #[.int .u8 (c.toNat : Nat)] w fun e w' => e = .returned (.int .u8 (cls c)) ∧ w' = w := by
  have hc := fun h => T.cls.cell gCls c.toNat h
  have hl : clsTab.length = 126 := rfl
  rw [hl] at hc
  clear T hl
  have hlt := c.toNat_lt
  unfold cls
  generalize c.toNat = n at *
  go_enter Tryz.func115, Tryz.ntmps115
  by_cases h : n < 126
  · have h1 := hc h
    rw [if_pos h]
    generalize clsTab.getD n 0 = x at *
    clear hc
    have q1 : decide ((n : Int) < 126) = true := decide_eq_true (by omega)
    go_wp2
    go_ret
    exact ⟨rfl, rfl⟩
  · rw [if_neg h]
    have q1 : decide ((n : Int) < 126) = false := decide_eq_false (by omega)
    clear hc
    go_wp2
    go_ret
    exact ⟨rfl, rfl⟩
end Go.Proofs.YtbpijgddfaefkaaGreatDoor
namespace Go.Proofs.YtbpijgddfaefkaaGreatDoor
open Go.RowKit dec

/-- The set st of classes is the predicate p. -/
def Set (st : Int) (p : UInt8 → Bool) : Prop := ∀ c, bits .and .i64 (st.fdiv (2 ^ min (cls c).toNat 64)) 1 = if p c = true then 1 else 0
def setB (st : Int) (p : UInt8 → Bool) (c : UInt8) : Bool := decide (bits .and .i64 (st.fdiv (2 ^ min (cls c).toNat 64)) 1 = if p c = true then 1 else 0)
theorem set_of {st : Int} {p : UInt8 → Bool} (h : (List.range 256).all (fun n => setB st p (UInt8.ofNat n)) = true) : Set st p := fun c => by
  have := all_bytes h c
  unfold setB at this
  exact of_decide_eq_true this
theorem set_B : Set 6 isB := set_of (by decide +kernel)
theorem set_C : Set (-5) isC := set_of (by decide +kernel)
theorem set_W : Set 112 isW := set_of (by decide +kernel)
theorem set_D : Set 32 isD := set_of (by decide +kernel)
theorem set_Q : Set (-133) isQ := set_of (by decide +kernel)
theorem shift_run (st k : Int) (hk : 0 ≤ k) (W : World) : (Op.shift .shr .i64 st .u8 k).run Tryz.prog W = .ok (.int .i64 (st.fdiv (2 ^ min k.toNat 64))) W := by
  unfold Op.shift
  rw [if_neg (by omega)]
  rfl
theorem cls_nonneg (c : UInt8) : 0 ≤ cls c := by
  have := clsOk_all c
  unfold clsOk at this
  simp only [Bool.and_eq_true, decide_eq_true_eq] at this
  omega
theorem str_len (s : ByteArray) : s.data.toList.length = s.size := by rw [Array.length_toList]; rfl
theorem at_drop (s : ByteArray) {j : Nat} (h : j < s.size) : s.data.toList.drop j = s[j] :: s.data.toList.drop (j + 1) := by
  have h' : j < s.data.toList.length := by rw [str_len]; exact h
  rw [List.drop_eq_getElem_cons h']
  rfl
theorem run_drop (p : UInt8 → Bool) (s : ByteArray) {j : Nat} (h : j < s.size) : run p (s.data.toList.drop j) = if p s[j] = true then run p (s.data.toList.drop (j + 1)) + 1 else 0 := by
  rw [at_drop s h]
  rfl
theorem run_out (p : UInt8 → Bool) (s : ByteArray) {j : Nat} (h : s.size ≤ j) : run p (s.data.toList.drop j) = 0 := by
  rw [List.drop_eq_nil_of_le (by rw [str_len]; exact h)]
  rfl
theorem less_dn2 {n d : Nat} (h : d < n) : n - (intOf (Value.int .i64 ((d : Int) + 1))).toNat < n - (intOf (Value.int .i64 (d : Int))).toNat := by
  show n - (((d : Int) + 1)).toNat < n - ((d : Nat) : Int).toNat
  omega
theorem next_at {j : Nat} (h : j < 9223372036854775807) : wrap64 ((j : Int) + 1) = ((j + 1 : Nat) : Int) := by unfold wrap64; omega
theorem less_at {n j : Nat} (h : j < n) {x : Int} (hx : x = ((j + 1 : Nat) : Int)) : n - (intOf (Value.int .i64 x)).toNat < n - (intOf (Value.int .i64 ((j : Nat) : Int))).toNat := by
  subst hx
  show n - ((j + 1 : Nat) : Int).toNat < n - ((j : Nat) : Int).toNat
  omega
theorem retN {a b : Nat} (h : a = b) : Ending.returned (Value.int .i64 (a : Nat)) = Ending.returned (Value.int .i64 (b : Nat)) := by rw [h]
/-- The closure. -/
theorem run_any {st : Int} {p : UInt8 → Bool} (hst : Set st p) (s : ByteArray) (hs : s.size ≤ 140737488355328) (i : Nat) (hi : i ≤ s.size) (b : Nat) (w : World) (hb : w.cell? ⟨b, 0, none⟩ = some (.string s)) (T : Tabs w) :
    Calls Tryz.prog 164 #[.int .i64 (i : Nat), .int .i64 st, .pointer (some ⟨b, 0, none⟩)] w fun e w' => e = .returned (.int .i64 (i + run p (s.data.toList.drop i) : Nat)) ∧ w' = w := by
  have T0 := Lib.hid T
  have H0 := Lib.hid hst
  have Z0 := Lib.hid hs
  obtain ⟨R, hR⟩ : ∃ R, i + run p (s.data.toList.drop i) = R := ⟨_, rfl⟩
  rw [hR]
  replace hR := Lib.hid hR
  replace hi := Lib.hid hi
  clear T hst hs
  go_enter Tryz.func164, Tryz.ntmps164
  go_wp2_with fail
  go_loopw [0] (fun x wr => ∃ j : Nat, x = .int .i64 (j : Nat) ∧ Hid (j ≤ s.size) ∧ Hid (j + run p (s.data.toList.drop j) = R) ∧ wr = w) (fun x _ => s.size - (intOf x).toNat)
  case atStart => exact ⟨i, rfl, hi, hR, rfl⟩
  case round =>
    obtain ⟨j, rfl, hj, hr, rfl⟩ := hrel
    by_cases hc : j < s.size
    · have q2 : decide ((j : Int) < (s.size : Int)) = true := decide_eq_true (by omega)
      have hst := run_drop p s hc
      have f4 := Lib.hid (next_at (j := j) (by have := Z0.out; omega))
      have hbit := H0.out s[j]
      have C := Lib.hid (classOf_any s[j] wr T0.out)
      have HST := Lib.hid hst
      clear hst
      have hsh := shift_run st _ (cls_nonneg s[j])
      generalize cls s[j] = k at C hbit hsh
      generalize st.fdiv (2 ^ min k.toNat 64) = x at hbit hsh
      cases hy : p s[j]
      · rw [hy] at HST hbit
        rw [if_neg (by decide)] at hbit
        have HD : Hid (j = R) := by unfold Hid; rw [← hr.out, HST.out]; rfl
        clear hy hr HST
        go_wp2_with (go_at_call 115; refine (C.out).mono ?_; rintro e w' ⟨rfl, rfl⟩)
        go_ret
        exact ⟨retN HD.out, rfl⟩
      · rw [hy] at HST hbit
        rw [if_pos rfl] at hbit
        have HD : Hid (j + 1 + run p (s.data.toList.drop (j + 1)) = R) := by unfold Hid; rw [← hr.out, HST.out, if_pos rfl]; omega
        clear hy hr HST
        go_wp2_with (go_at_call 115; refine (C.out).mono ?_; rintro e w' ⟨rfl, rfl⟩)
        refine ⟨⟨j + 1, by first | exact congrArg (Value.int .i64) f4.out | rfl, Lib.hid hc, HD, trivial⟩, by first | exact less_at hc f4.out | exact less_dn2 hc⟩
    · have hz := run_out p s (j := j) (by omega)
      have HD : Hid (j = R) := by unfold Hid; rw [← hr.out, hz, Nat.add_zero]
      have q2 : decide ((j : Int) < (s.size : Int)) = false := decide_eq_false (by omega)
      clear hz hr
      go_wp2_with fail
      go_ret
      exact ⟨retN HD.out, rfl⟩
/-- What runsOf hands back. -/
theorem runsOf_any (s : ByteArray) (w : World) : Calls Tryz.prog 114 #[.string s] w fun e w' => e = .returned (.func (.func 164) #[] #[.pointer (some ⟨w.heap.size, 0, none⟩)]) ∧ w'.cell? ⟨w.heap.size, 0, none⟩ = some (.string s) ∧ w'.heap.size = w.heap.size + 1 ∧ Below w.heap.size w w' := by
  have hb := balloc (b0 w) (.cells #[.string s] 9)
  have hc : (w.alloc (.cells #[.string s] 9)).cell? ⟨w.heap.size, 0, none⟩ = some (.string s) := by simp [go_sem]
  have hz : (w.alloc (.cells #[.string s] 9)).heap.size = w.heap.size + 1 := by simp
  go_enter Tryz.func114, Tryz.ntmps114
  go_wp2_with fail
  go_ret
  exact ⟨rfl, hc, hz, hb⟩
end Go.Proofs.YtbpijgddfaefkaaGreatDoor
namespace Go.Proofs.YtbpijgddfaefkaaGreatDoor
open Go.RowKit dec

theorem sk_end (s : ByteArray) {j : Nat} (h : s.size ≤ j) : sk false (s.data.toList.drop j) = 0 := by
  rw [List.drop_eq_nil_of_le (by rw [str_len]; exact h)]
  rfl
/-- One pass: blanks, then perhaps a comment. -/
theorem sk_pass (s : ByteArray) (i : Nat) : i + sk false (s.data.toList.drop i) = (i + run isB (s.data.toList.drop i)) + sk false (s.data.toList.drop (i + run isB (s.data.toList.drop i))) := by
  conv => lhs; rw [sk_blanks]
  rw [List.drop_drop]
  omega
theorem sk_comment (s : ByteArray) {j : Nat} (h : j < s.size) (hc : s[j].toNat = 35) : j + sk false (s.data.toList.drop j) = (j + run isC (s.data.toList.drop j)) + sk false (s.data.toList.drop (j + run isC (s.data.toList.drop j))) := by
  have e := at_drop s h
  conv => lhs; rw [e]
  rw [sk_hash hc, ← e, List.drop_drop]
  omega
theorem sk_stop (s : ByteArray) {j : Nat} (h : j < s.size) (h1 : isB s[j] = false) (hc : s[j].toNat ≠ 35) : sk false (s.data.toList.drop j) = 0 := by
  rw [at_drop s h]
  exact sk_none h1 hc _
theorem run_here (p : UInt8 → Bool) (s : ByteArray) {i j : Nat} (hj : j = i + run p (s.data.toList.drop i)) (h : j < s.size) : p s[j] = false := by
  subst hj
  refine run_at p (s.data.toList.drop i) _ ?_
  rw [List.drop_drop, at_drop s h]
  rfl
theorem run_size (p : UInt8 → Bool) (s : ByteArray) {i : Nat} (h : i ≤ s.size) : i + run p (s.data.toList.drop i) ≤ s.size := by
  have := run_le p (s.data.toList.drop i)
  rw [List.length_drop, str_len] at this
  omega
theorem run_more (p : UInt8 → Bool) (s : ByteArray) {j : Nat} (h : j < s.size) (hp : p s[j] = true) : j < j + run p (s.data.toList.drop j) := by
  rw [run_drop p s h, if_pos hp]
  omega
theorem eqb (a b : Int) : (a == b) = decide (a = b) := by
  rw [Bool.eq_iff_iff]
  simp
theorem cls_hash (c : UInt8) : (cls c == 3) = decide (c.toNat = 35) := by
  have := clsOk_all c
  unfold clsOk at this
  simp only [Bool.and_eq_true, beq_iff_eq] at this
  rw [← this.1.2, eqb]
set_option maxRecDepth 100000 in
set_option maxHeartbeats 2000000 in
theorem skip_any (s : ByteArray) (hs : s.size ≤ 140737488355328) (i : Nat) (hi : i ≤ s.size) (w : World) (T : Tabs w) :
    Calls Tryz.prog 68 #[.string s, .int .i64 (i : Nat)] w fun e w' => e = .returned (.int .i64 (i + sk false (s.data.toList.drop i) : Nat)) ∧ Below w.heap.size w w' := by
  have RC := Lib.hid (runsOf_any s w)
  have CB := Lib.hid (fun i hi W h T => run_any set_B s hs i hi w.heap.size W h T)
  have CC := Lib.hid (fun i hi W h T => run_any set_C s hs i hi w.heap.size W h T)
  have CO := Lib.hid (fun (c : UInt8) W T => classOf_any c W T)
  have T0 := Lib.hid T
  have Z0 := Lib.hid hs
  obtain ⟨R, hR⟩ : ∃ R, i + sk false (s.data.toList.drop i) = R := ⟨_, rfl⟩
  rw [hR]
  replace hR := Lib.hid hR
  replace hi := Lib.hid hi
  clear T hs
  go_enter Tryz.func68, Tryz.ntmps68
  go_wp2_with fail
  refine wp_scope_jumps 0 (fun a' w' => ∃ (j : Nat) (f0 f1 f2 f3 f4 f5 f6 f7 f8 f9 f10 f11 f12 f13 f14 f15 f16 f17 f18 f19 : Value), a' = { tmps := #[.string s, .int .i64 (j : Nat), undef, undef, .int .i64 0, .func (.func 164) #[] #[.pointer (some ⟨w.heap.size, 0, none⟩)], f0, f1, f2, f3, f4, f5, f6, f7, f8, f9, f10, f11, f12, f13, f14, f15, f16, f17, f18, f19], defers := [] } ∧ Hid (j ≤ s.size) ∧ Hid (j + sk false (s.data.toList.drop j) = R) ∧ w'.cell? ⟨w.heap.size, 0, none⟩ = some (.string s) ∧ Hid (Below w.heap.size w w')) (fun a' _ => s.size - (intOf (a'.tmps.getD 1 undef)).toNat) rfl ?_ ?_
  · go_wp2_with fail
    refine RC.out.mono ?_
    rintro e w1 ⟨rfl, c1, z1, b1⟩
    have B1 := Lib.hid b1
    clear b1 z1
    go_wp2_with fail
    go_step3
    go_wp2_with fail
    refine (CB.out i hi.out _ c1 (T0.out.stays B1.out)).mono ?_
    rintro e w2 ⟨rfl, rfl⟩
    have hp := Lib.hid ((sk_pass s i).symm.trans hR.out)
    have hz1 := Lib.hid (run_size isB s hi.out)
    have hw1 := Lib.hid (fun h => run_here isB s (i := i) rfl h)
    have hge := Lib.hid (Nat.le_add_right i (run isB (s.data.toList.drop i)))
    generalize i + run isB (s.data.toList.drop i) = j1 at *
    by_cases hc : j1 < s.size
    · have q2 : decide ((j1 : Int) < (s.size : Int)) = true := decide_eq_true (by omega)
      have hcl := cls_hash s[j1]
      have C := Lib.hid (CO.out s[j1] w2 (T0.out.stays B1.out))
      by_cases h35 : s[j1].toNat = 35
      · rw [decide_eq_true h35] at hcl
        have hq := Lib.hid ((sk_comment s hc h35).symm.trans hp.out)
        have hz2 := Lib.hid (run_size isC s (Nat.le_of_lt hc))
        have hmore := Lib.hid (run_more isC s hc (by unfold isC; rw [h35]; rfl))
        have C2 := Lib.hid (CC.out j1 (Nat.le_of_lt hc) w2 c1 (T0.out.stays B1.out))
        clear h35 hp
        generalize cls s[j1] = k at C hcl
        generalize j1 + run isC (s.data.toList.drop j1) = j2 at *
        go_wp2_with (first | (go_at_call 115; refine (C.out).mono ?_; rintro e w' ⟨rfl, rfl⟩) | (go_at_call 164; refine (C2.out).mono ?_; rintro e w' ⟨rfl, rfl⟩))
        go_step3
        exact ⟨rfl, j2, _, _, _, _, _, _, _, _, _, _, _, _, _, _, _, _, _, _, _, _, rfl, hz2, hq, c1, B1⟩
      · rw [decide_eq_false h35] at hcl
        have hq := Lib.hid (show j1 = R by rw [← hp.out, sk_stop s hc (hw1.out hc) h35, Nat.add_zero])
        clear h35 hp
        generalize cls s[j1] = k at C hcl
        go_wp2_with (go_at_call 115; refine (C.out).mono ?_; rintro e w' ⟨rfl, rfl⟩)
        simp only [Exit.jump]
        go_ret
        exact ⟨retN hq.out, B1.out⟩
    · have q2 : decide ((j1 : Int) < (s.size : Int)) = false := decide_eq_false (by omega)
      have hq := Lib.hid (show j1 = R by rw [← hp.out, sk_end s (by omega), Nat.add_zero])
      clear hp
      go_wp2_with fail
      simp only [Exit.jump]
      go_ret
      exact ⟨retN hq.out, B1.out⟩
  · rintro a' w1 ⟨j, f0, f1, f2, f3, f4, f5, f6, f7, f8, f9, f10, f11, f12, f13, f14, f15, f16, f17, f18, f19, rfl, hj, hr, c1, B1⟩
    go_wp2_with fail
    refine (CB.out j hj.out _ c1 (T0.out.stays B1.out)).mono ?_
    rintro e w2 ⟨rfl, rfl⟩
    have hp := Lib.hid ((sk_pass s j).symm.trans hr.out)
    have hz1 := Lib.hid (run_size isB s hj.out)
    have hw1 := Lib.hid (fun h => run_here isB s (i := j) rfl h)
    have hge := Lib.hid (Nat.le_add_right j (run isB (s.data.toList.drop j)))
    generalize j + run isB (s.data.toList.drop j) = j1 at *
    by_cases hc : j1 < s.size
    · have q2 : decide ((j1 : Int) < (s.size : Int)) = true := decide_eq_true (by omega)
      have hcl := cls_hash s[j1]
      have C := Lib.hid (CO.out s[j1] w2 (T0.out.stays B1.out))
      by_cases h35 : s[j1].toNat = 35
      · rw [decide_eq_true h35] at hcl
        have hq := Lib.hid ((sk_comment s hc h35).symm.trans hp.out)
        have hz2 := Lib.hid (run_size isC s (Nat.le_of_lt hc))
        have hmore := Lib.hid (run_more isC s hc (by unfold isC; rw [h35]; rfl))
        have C2 := Lib.hid (CC.out j1 (Nat.le_of_lt hc) w2 c1 (T0.out.stays B1.out))
        clear h35 hp
        generalize cls s[j1] = k at C hcl
        generalize j1 + run isC (s.data.toList.drop j1) = j2 at *
        go_wp2_with (first | (go_at_call 115; refine (C.out).mono ?_; rintro e w' ⟨rfl, rfl⟩) | (go_at_call 164; refine (C2.out).mono ?_; rintro e w' ⟨rfl, rfl⟩))
        go_step3
        refine ⟨rfl, ⟨j2, _, _, _, _, _, _, _, _, _, _, _, _, _, _, _, _, _, _, _, _, rfl, hz2, hq, c1, B1⟩, ?_⟩
        · have := hmore.out
          have := hge.out
          show s.size - ((j2 : Nat) : Int).toNat < s.size - ((j : Nat) : Int).toNat
          omega
      · rw [decide_eq_false h35] at hcl
        have hq := Lib.hid (show j1 = R by rw [← hp.out, sk_stop s hc (hw1.out hc) h35, Nat.add_zero])
        clear h35 hp
        generalize cls s[j1] = k at C hcl
        go_wp2_with (go_at_call 115; refine (C.out).mono ?_; rintro e w' ⟨rfl, rfl⟩)
        simp only [Exit.jump]
        go_ret
        exact ⟨retN hq.out, B1.out⟩
    · have q2 : decide ((j1 : Int) < (s.size : Int)) = false := decide_eq_false (by omega)
      have hq := Lib.hid (show j1 = R by rw [← hp.out, sk_end s (by omega), Nat.add_zero])
      clear hp
      go_wp2_with fail
      simp only [Exit.jump]
      go_ret
      exact ⟨retN hq.out, B1.out⟩
end Go.Proofs.YtbpijgddfaefkaaGreatDoor
namespace Go.Proofs.YtbpijgddfaefkaaGreatDoor
open Go.RowKit dec

theorem toList_nil (s : ByteArray) : (s.toList == []) = decide (s.size = 0) := by
  rw [ByteArray.toList_eq, Lib.size_eq s]
  cases s.data.toList <;> simp
theorem ext_data (s : ByteArray) (i j : Nat) : (s.extract i j).data.toList = (s.data.toList.drop i).take (j - i) := by
  rw [ByteArray.data_extract, Array.toList_extract, List.extract_eq_take_drop]
theorem ext_tail (s : ByteArray) (i : Nat) : (s.extract i s.size).data.toList = s.data.toList.drop i := by
  rw [ext_data, List.take_of_length_le]
  rw [List.length_drop, str_len]
  omega
theorem pre_two (c : UInt8) (r : List UInt8) (a : UInt8) : Lib.hasPrefix (c :: r) [a, 61] = decide (c = a ∧ r.head? = some 61) := by
  cases r with
  | nil =>
    rw [Bool.eq_iff_iff]
    simp [Lib.hasPrefix, List.isPrefixOf]
  | cons d r =>
    rw [Bool.eq_iff_iff]
    simp only [Lib.hasPrefix, List.isPrefixOf, Bool.and_eq_true, beq_iff_eq, List.head?_cons, Option.some.injEq, decide_eq_true_eq, Bool.and_true]
    constructor
    · rintro ⟨h1, h2⟩; exact ⟨h1.symm, h2.symm⟩
    · rintro ⟨h1, h2⟩; exact ⟨h1.symm, h2.symm⟩
theorem pre_dot (l : List UInt8) : Lib.hasPrefix l [46] = decide (l.head? = some 46) := by
  cases l with
  | nil => rfl
  | cons d r =>
    rw [Bool.eq_iff_iff]
    simp only [Lib.hasPrefix, List.isPrefixOf, beq_iff_eq, List.head?_cons, Option.some.injEq, decide_eq_true_eq, Bool.and_true]
    exact eq_comm
theorem u8_is {c : UInt8} {n : Nat} (d : UInt8) (hd : d.toNat = n) : c.toNat = n ↔ c = d := by
  rw [← hd]
  exact ⟨fun h => UInt8.toNat_inj.1 h, fun h => by rw [h]⟩
theorem sgn_parts (c : UInt8) (r : List UInt8) : sgn (c :: r) = if (Lib.hasPrefix (c :: r) [61, 61] || Lib.hasPrefix (c :: r) [33, 61] || Lib.hasPrefix (c :: r) [60, 61]) = true then (5, 2) else if isS c = true then (5, 1) else (0, 1) := by
  have e1 : c.toNat = 61 ↔ c = 61 := u8_is 61 rfl
  have e2 : c.toNat = 33 ↔ c = 33 := u8_is 33 rfl
  have e3 : c.toNat = 60 ↔ c = 60 := u8_is 60 rfl
  rw [sgn_cons, pre_two, pre_two, pre_two]
  have e : (decide (c = 61 ∧ r.head? = some 61) || decide (c = 33 ∧ r.head? = some 61) || decide (c = 60 ∧ r.head? = some 61)) = true ↔ (c = 61 ∨ c = 33 ∨ c = 60) ∧ r.head? = some 61 := by
    simp only [Bool.or_eq_true, decide_eq_true_eq]
    constructor
    · rintro ((h | h) | h)
      · exact ⟨.inl h.1, h.2⟩
      · exact ⟨.inr (.inl h.1), h.2⟩
      · exact ⟨.inr (.inr h.1), h.2⟩
    · rintro ⟨h | h | h, h2⟩
      · exact .inl (.inl ⟨h, h2⟩)
      · exact .inl (.inr ⟨h, h2⟩)
      · exact .inr ⟨h, h2⟩
  simp only [e, e1, e2, e3]
theorem cls_is (c : UInt8) : (cls c == 8) = isS c ∧ (cls c == 4) = isL c ∧ (cls c == 5) = isD c ∧ (cls c == 7) = decide (c.toNat = 34) := by
  have := clsOk_all c
  unfold clsOk at this
  simp only [Bool.and_eq_true, beq_iff_eq] at this
  refine ⟨?_, ?_, ?_, ?_⟩
  · rw [← this.1.1.2, eqb]
  · rw [← this.1.1.1.2, eqb]
  · rw [← this.1.1.1.1.1.2, eqb]
  · rw [← this.2, eqb]
set_option maxRecDepth 100000 in
set_option maxHeartbeats 2000000 in
theorem signShape_any (s : ByteArray) (h0 : 0 < s.size) (w : World) (T : Tabs w) :
    Calls Tryz.prog 117 #[.string s] w fun e w' => e = .returned (.tuple #[.int .i64 (sgn s.data.toList).1, .int .i64 ((sgn s.data.toList).2 : Nat)]) ∧ w' = w := by
  have H1 := Lib.hid (fun W => Tryz.strings_HasPrefix s ⟨#[61, 61]⟩ W)
  have H2 := Lib.hid (fun W => Tryz.strings_HasPrefix s ⟨#[33, 61]⟩ W)
  have H3 := Lib.hid (fun W => Tryz.strings_HasPrefix s ⟨#[60, 61]⟩ W)
  have e := at_drop s h0
  rw [List.drop_zero] at e
  have hg := sgn_parts s[0] (s.data.toList.drop (0 + 1))
  rw [← e] at hg
  rw [show (⟨#[61, 61]⟩ : ByteArray).data.toList = [61, 61] from rfl] at H1
  rw [show (⟨#[33, 61]⟩ : ByteArray).data.toList = [33, 61] from rfl] at H2
  rw [show (⟨#[60, 61]⟩ : ByteArray).data.toList = [60, 61] from rfl] at H3
  generalize Lib.hasPrefix s.data.toList [61, 61] = b1 at *
  generalize Lib.hasPrefix s.data.toList [33, 61] = b2 at *
  generalize Lib.hasPrefix s.data.toList [60, 61] = b3 at *
  have C := Lib.hid (classOf_any s[0] w T)
  have hS := (cls_is s[0]).1
  generalize isS s[0] = z at hS hg
  generalize cls s[0] = k at C hS
  generalize sgn s.data.toList = g at *
  clear T e
  cases b1
  · cases b2
    · cases b3
      · cases z
        · simp only [Bool.or_self, Bool.false_eq_true, if_false] at hg
          subst hg
          go_enter Tryz.func117, Tryz.ntmps117
          go_wp2_with fail
          refine (H1.out _).mono ?_
          rintro e w' ⟨rfl, rfl⟩
          go_wp2_with fail
          refine (H2.out _).mono ?_
          rintro e w' ⟨rfl, rfl⟩
          go_wp2_with fail
          refine (H3.out _).mono ?_
          rintro e w' ⟨rfl, rfl⟩
          go_wp2_with fail
          refine C.out.mono ?_
          rintro e w' ⟨rfl, rfl⟩
          go_wp2_with fail
          go_ret2
          exact ⟨rfl, rfl⟩
        · simp only [Bool.or_self, Bool.false_eq_true, if_false, if_true] at hg
          subst hg
          go_enter Tryz.func117, Tryz.ntmps117
          go_wp2_with fail
          refine (H1.out _).mono ?_
          rintro e w' ⟨rfl, rfl⟩
          go_wp2_with fail
          refine (H2.out _).mono ?_
          rintro e w' ⟨rfl, rfl⟩
          go_wp2_with fail
          refine (H3.out _).mono ?_
          rintro e w' ⟨rfl, rfl⟩
          go_wp2_with fail
          refine C.out.mono ?_
          rintro e w' ⟨rfl, rfl⟩
          go_wp2_with fail
          go_ret2
          exact ⟨rfl, rfl⟩
      · simp only [Bool.or_true, if_true] at hg
        subst hg
        go_enter Tryz.func117, Tryz.ntmps117
        go_wp2_with fail
        refine (H1.out _).mono ?_
        rintro e w' ⟨rfl, rfl⟩
        go_wp2_with fail
        refine (H2.out _).mono ?_
        rintro e w' ⟨rfl, rfl⟩
        go_wp2_with fail
        refine (H3.out _).mono ?_
        rintro e w' ⟨rfl, rfl⟩
        go_wp2_with fail
        go_ret2
        exact ⟨rfl, rfl⟩
    · simp only [Bool.or_true, Bool.true_or, if_true] at hg
      subst hg
      go_enter Tryz.func117, Tryz.ntmps117
      go_wp2_with fail
      refine (H1.out _).mono ?_
      rintro e w' ⟨rfl, rfl⟩
      go_wp2_with fail
      refine (H2.out _).mono ?_
      rintro e w' ⟨rfl, rfl⟩
      go_wp2_with fail
      go_ret2
      exact ⟨rfl, rfl⟩
  · simp only [Bool.true_or, if_true] at hg
    subst hg
    go_enter Tryz.func117, Tryz.ntmps117
    go_wp2_with fail
    refine (H1.out _).mono ?_
    rintro e w' ⟨rfl, rfl⟩
    go_wp2_with fail
    go_ret2
    exact ⟨rfl, rfl⟩
end Go.Proofs.YtbpijgddfaefkaaGreatDoor
