/-
  What the tokens of sources have to do with each other: tokens alone, gaps between them, sources one after the other, offsets; Offsets, lines, what stands where, and words: facts of the tokens of sources as plain data; Numbers, texts and words as tokens; The classes of bytes: package lexer's table and what it says; Runs of bytes: the closure that collects them; what is skipped; What is skipped; The shape of what a string begins with; The shape of what a string begins with: lexer.shape; values.Check and Has, and the reference's: for every value; What a token's text is, and the codes of problems; Tokens alone, keywords, names; Keywords and names; lexer.Name of a string of any length; Units as plain data: words, checks, products, texts; nothing of the program.
-/
import Derived.Lib.Join
import Derived.WalkMore
import Derived.ScopeJumps
import Derived.WalkKit
import Derived.Lib.Strings
import Derived.Lib.ItoaNum
import Derived.Lib.AtoiAll
import Derived.Test.YtbahfelnbofjjaaGreatDoorT01
set_option maxRecDepth 100000
set_option maxHeartbeats 16000000
namespace Go.Proofs.YtbahfelnbofjjaaGreatDoor
open dec
def Sep (x : List UInt8) : Prop := x = [] ∨ ∃ r, x = 32 :: r
theorem run_end {p : UInt8 → Bool} (h : p 32 = false) {x : List UInt8} (hx : Sep x) (l : List UInt8) : run p (l ++ x) = run p l := by
 rcases hx with rfl | ⟨r, rfl⟩
 ·rw [List.append_nil]
 ·exact run_stop h r l
theorem take_run (p : UInt8 → Bool) (l : List UInt8) : run p (l.take (run p l)) = run p l := by rw [run_take]; omega
theorem drop_cons {l : List UInt8} {n : Nat} {c : UInt8} (h : (l.drop n).head? = some c) : l.drop n = c :: l.drop (n + 1) := by
 have hl := head_len h
 rw [List.drop_eq_getElem_cons hl] at h ⊢
 simp only [List.head?_cons, Option.some.injEq] at h
 rw [h]
theorem split_at {l : List UInt8} {n : Nat} {c : UInt8} (h : (l.drop n).head? = some c) : l = l.take n ++ c :: l.drop (n + 1) := by
 rw [← drop_cons h, List.take_append_drop]
theorem take_len {l : List UInt8} {n : Nat} (h : n ≤ l.length) : (l.take n).length = n := by rw [List.length_take]; omega
theorem drop_to {l r : List UInt8} {m : Nat} (h : m = l.length) : (l ++ r).drop m = r := by subst h; exact List.drop_left' rfl
theorem take_more {l : List UInt8} {n : Nat} {c : UInt8} (h : (l.drop n).head? = some c) (k : Nat) : l.take (n + 1 + k) = l.take n ++ c :: (l.drop (n + 1)).take k := by
 rw [show n + 1 + k = n + (k + 1) by omega, List.take_add, drop_cons h, List.take_succ_cons]
theorem pnt_sep {x : List UInt8} (hx : Sep x) : pnt x = 0 := by
 rcases hx with rfl | ⟨r, rfl⟩
 ·rfl
 ·rfl
theorem pnt_some {l : List UInt8} (h : pnt l ≠ 0) : ∃ c r, l = c :: r ∧ c.toNat = 46 ∧ pnt l = run isD r := by
 cases l with
 | nil => exact absurd rfl h
 | cons c r =>
  rw [pnt_cons] at h ⊢
  split at h
  ·rename_i hc
   exact ⟨c, r, rfl, hc, by rw [if_pos hc]⟩
  ·exact absurd rfl h
theorem isD_46 {c : UInt8} (h : c.toNat = 46) : isD c = false := by unfold isD; rw [h]; rfl
theorem sign_34 {c : UInt8} (h : isS c = true ∨ c.toNat = 61 ∨ c.toNat = 33 ∨ c.toNat = 60) : c.toNat ≠ 34 := by
 intro e
 rcases h with h | h
 ·unfold isS at h
  rw [e] at h
  exact absurd h (by decide)
 ·omega
theorem shp_part {l x : List UInt8} (hk : (shp l).1 ≠ 0) (hx : Sep x) : shp (l.take (shp l).2 ++ x) = shp l := by
 cases l with
 | nil => exact absurd rfl hk
 | cons c r =>
  by_cases hl : isL c = true
  ·have e : shp (c :: r) = (1, run isW r + 1) := by rw [shp_cons, if_pos hl, run_cons (isW_L hl)]
   rw [e, List.take_succ_cons, List.cons_append, shp_cons, if_pos hl, run_cons (isW_L hl), run_end (by decide) hx, take_run]
  ·by_cases hd : isD c = true
   ·have ed := run_cons hd r
    by_cases hp : pnt ((c :: r).drop (run isD (c :: r))) = 0
    ·have e : shp (c :: r) = (2, run isD r + 1) := by rw [shp_cons, if_neg hl, if_pos hd, if_pos hp, ed]
     have e2 : run isD (c :: (r.take (run isD r) ++ x)) = run isD r + 1 := by rw [run_cons hd, run_end (by decide) hx, take_run]
     rw [e, List.take_succ_cons, List.cons_append, shp_cons, if_neg hl, if_pos hd, e2, List.drop_succ_cons, drop_to (take_len (run_le _ _)).symm, if_pos (pnt_sep hx)]
    ·have e : shp (c :: r) = (3, run isD (c :: r) + 1 + pnt ((c :: r).drop (run isD (c :: r)))) := by rw [shp_cons, if_neg hl, if_pos hd, if_neg hp]
     obtain ⟨d, y, hy, h46, hq⟩ := pnt_some hp
     have hs := split_at (l := c :: r) (n := run isD (c :: r)) (c := d) (by rw [hy]; rfl)
     have hy2 : (c :: r).drop (run isD (c :: r) + 1) = y := by
      have := drop_cons (l := c :: r) (n := run isD (c :: r)) (c := d) (by rw [hy]; rfl)
      rw [hy] at this
      exact (List.cons.inj this).2.symm
     rw [hy2] at hs
     rw [e, hq]
     have hn := take_len (run_le isD (c :: r))
     have et : (c :: r).take (run isD (c :: r) + 1 + run isD y) = (c :: r).take (run isD (c :: r)) ++ d :: y.take (run isD y) := by
      rw [take_more (c := d) (by rw [hy]; rfl), hy2]
     have hc : (c :: r).take (run isD (c :: r)) = c :: r.take (run isD r) := by rw [ed, List.take_succ_cons]
     have et2 : (c :: r).take (run isD (c :: r) + 1 + run isD y) ++ x = c :: (r.take (run isD r) ++ d :: (y.take (run isD y) ++ x)) := by
      rw [et, hc]; simp
     have en : run isD (c :: (r.take (run isD r) ++ d :: (y.take (run isD y) ++ x))) = run isD r + 1 := by
      rw [run_cons hd, run_stop (isD_46 h46), take_run]
     have ep : pnt ((c :: (r.take (run isD r) ++ d :: (y.take (run isD y) ++ x))).drop (run isD r + 1)) = run isD y := by
      rw [List.drop_succ_cons, drop_to (take_len (run_le _ _)).symm, pnt_cons, if_pos h46, run_end (by decide) hx, take_run]
     rw [et2, shp_cons, if_neg hl, if_pos hd, en, ep, if_neg (by omega), ed]
   ·by_cases hq : c.toNat = 34 ∧ (r.drop (run isQ r)).head? = some 34
    ·have e : shp (c :: r) = (4, run isQ r + 1 + 1) := by rw [shp_cons, if_neg hl, if_neg hd, if_pos hq]
     have hs := split_at hq.2
     have et : r.take (run isQ r + 1) = r.take (run isQ r) ++ [34] := by
      have := take_more hq.2 0
      simpa using this
     have en : run isQ (r.take (run isQ r) ++ 34 :: x) = run isQ r := by rw [run_stop (by decide), take_run]
     rw [e, List.take_succ_cons, List.cons_append, et, List.append_assoc, shp_cons, if_neg hl, if_neg hd]
     show (if c.toNat = 34 ∧ ((r.take (run isQ r) ++ 34 :: x).drop (run isQ (r.take (run isQ r) ++ 34 :: x))).head? = some 34 then (4, run isQ (r.take (run isQ r) ++ 34 :: x) + 2) else _) = _
     rw [en, drop_to (take_len (run_le _ _)).symm, if_pos ⟨hq.1, rfl⟩]
    ·have e : shp (c :: r) = sgn (c :: r) := by rw [shp_cons, if_neg hl, if_neg hd, if_neg hq]
     rw [e] at hk ⊢
     rw [sgn_cons] at hk ⊢
     by_cases h2 : (c.toNat = 61 ∨ c.toNat = 33 ∨ c.toNat = 60) ∧ r.head? = some 61
     ·rw [if_pos h2]
      cases r with
      | nil => cases h2.2
      | cons d r =>
       have hd61 : d = 61 := by simpa using h2.2
       subst hd61
       show shp (c :: 61 :: x) = _
       rw [shp_cons, if_neg hl, if_neg hd, if_neg (fun h => sign_34 (.inr h2.1) h.1), sgn_cons, if_pos ⟨h2.1, rfl⟩]
     ·rw [if_neg h2] at hk ⊢
      by_cases hS : isS c = true
      ·rw [if_pos hS]
       show shp (c :: x) = _
       rw [shp_cons, if_neg hl, if_neg hd, if_neg (fun h => sign_34 (.inl hS) h.1), sgn_cons, if_neg, if_pos hS]
       rintro ⟨_, h⟩
       rcases hx with rfl | ⟨r, rfl⟩
       ·cases h
       ·cases h
      ·rw [if_neg hS] at hk
       exact absurd rfl hk
theorem shp_head {l : List UInt8} (hk : (shp l).1 ≠ 0) (x : List UInt8) : sk false (l ++ x) = 0 := by
 cases l with
 | nil => exact absurd rfl hk
 | cons c r =>
  rw [List.cons_append]
  refine sk_none ?_ ?_ _
  ·cases hb : isB c
   ·rfl
   ·exfalso
    apply hk
    have hb' := hb
    unfold isB at hb'
    simp only [Bool.or_eq_true, decide_eq_true_eq] at hb'
    have h1 : ¬ isL c = true := by unfold isL; rw [Bool.and_eq_true, decide_eq_true_eq, decide_eq_true_eq]; omega
    have h2 : ¬ isD c = true := by unfold isD; rw [Bool.and_eq_true, decide_eq_true_eq, decide_eq_true_eq]; omega
    have h3 : ¬ isS c = true := by
     unfold isS
     rw [decide_eq_true_eq]
     simp
     omega
    rw [shp_cons, if_neg h1, if_neg h2, if_neg (by omega), sgn_cons, if_neg (by omega), if_neg h3]
  ·intro hb'
   apply hk
   have h1 : ¬ isL c = true := by unfold isL; rw [Bool.and_eq_true, decide_eq_true_eq, decide_eq_true_eq]; omega
   have h2 : ¬ isD c = true := by unfold isD; rw [Bool.and_eq_true, decide_eq_true_eq, decide_eq_true_eq]; omega
   have h3 : ¬ isS c = true := by
    unfold isS
    rw [decide_eq_true_eq]
    simp
    omega
   rw [shp_cons, if_neg h1, if_neg h2, if_neg (by omega), sgn_cons, if_neg (by omega), if_neg h3]
theorem cont_so (x : Tk) : cont x.k (so x) = x.t.data.toList := by
 unfold cont so
 split
 ·simp
 ·rfl
def pr (x : Tk) : Bool := decide (shp (so x) = (x.k, (so x).length)) && decide (flt x.k (so x) = 0)
theorem pr_iff (x : Tk) : pr x = true ↔ shp (so x) = (x.k, (so x).length) ∧ flt x.k (so x) = 0 := by unfold pr; rw [Bool.and_eq_true, decide_eq_true_eq, decide_eq_true_eq]
theorem pr_kind {x : Tk} (h : pr x = true) : x.k = 1 ∨ x.k = 2 ∨ x.k = 3 ∨ x.k = 4 ∨ x.k = 5 := by
 have h2 := (pr_iff x).1 h
 have h3 := shp_kind (so x)
 rw [h2.1] at h3
 rcases h3 with h3 | h3
 ·have h4 := h2.2
  rw [show x.k = 0 from h3] at h4
  unfold flt at h4
  simp at h4
 ·exact h3
theorem lex_tok {x : Tk} (h : pr x = true) {y : List UInt8} (hy : Sep y) (p : Nat) (f : Bool) :
  lxs p f (so x ++ y) = (⟨x.k, x.t, (p : Nat)⟩ :: (lxs (p + (so x).length) false y).1, (lxs (p + (so x).length) false y).2) := by
 have hk := pr_kind h
 obtain ⟨h1, h2⟩ := (pr_iff x).1 h
 have hk0 : (shp (so x)).1 ≠ 0 := by rw [h1]; show x.k ≠ 0; omega
 have hn : (shp (so x)).2 = (so x).length := by rw [h1]
 have hs := shp_head hk0 y
 have hp : shp (so x ++ y) = (x.k, (so x).length) := by
  have := shp_part hk0 hy
  rw [hn, List.take_length] at this
  rw [this, h1]
 have hne : so x ++ y ≠ [] := by
  intro e
  rw [(List.append_eq_nil_iff.1 e).1] at hk0
  exact hk0 rfl
 have ht : (so x ++ y).take (so x).length = so x := List.take_left
 have hd : (so x ++ y).drop (so x).length = y := List.drop_left
 have hk1 : x.k ≠ 0 := by omega
 rw [lex_step (l' := so x ++ y) (by rw [hs, List.drop_zero]) hne, hp, hs]
 simp only [ht, hd, h2, if_true, cont_so, Nat.add_zero, decide_eq_false hk1]
theorem lex_nil (p : Nat) (f : Bool) : lxs p f [] = ([], []) := lex_done rfl p f
theorem lex_alone {x : Tk} (h : pr x = true) (p : Nat) (f : Bool) : lxs p f (so x) = ([⟨x.k, x.t, (p : Nat)⟩], []) := by
 have := lex_tok h (.inl rfl) p f
 rw [List.append_nil, lex_nil] at this
 exact this
structure Gp (g : List UInt8) : Prop where
 ne : ∃ r, g = 32 :: r
 sk : ∀ r, sk false (g ++ r) = g.length + sk false r
theorem gp_one : Gp [32] := ⟨⟨[], rfl⟩, fun r => by rw [List.singleton_append, sk_blank (by decide)]; simp; omega⟩
theorem lex_gap {g : List UInt8} (h : Gp g) (l : List UInt8) (p : Nat) (f : Bool) : lxs p f (g ++ l) = lxs (p + g.length) false l := by
 have hs := h.sk l
 have hg : 1 ≤ g.length := by obtain ⟨r, rfl⟩ := h.ne; simp
 have hd : (g ++ l).drop (g.length + sk false l) = l.drop (sk false l) := by
  rw [← List.drop_drop, List.drop_left]
 by_cases h0 : l.drop (sk false l) = []
 ·rw [lex_done (by rw [hs, hd, h0]), lex_done h0]
 ·rw [lex_step (by rw [hs, hd]) h0, lex_step rfl h0, hs, show p + (g.length + sk false l) = p + g.length + sk false l by omega]
  simp only [Bool.false_eq_true, false_and, and_false, if_false]
  rw [if_neg (show ¬ ((shp (l.drop (sk false l))).1 = 0 ∧ f = true ∧ g.length + sk false l = 0) by omega)]
def kt (x : Tk) : Int × ByteArray := (x.k, x.t)
end Go.Proofs.YtbahfelnbofjjaaGreatDoor
namespace Go.Proofs.YtbahfelnbofjjaaGreatDoor
open dec
theorem pr_pos {x : Tk} (h : pr x = true) : 1 ≤ (so x).length := by
 obtain ⟨h1, h2⟩ := (pr_iff x).1 h
 have h3 := pr_kind h
 have := shp_pos (l := so x) (fun e => by rw [e] at h1; have := (Prod.mk.inj h1).1; omega)
 rw [h1] at this
 exact this
def wd1 (s : ByteArray) : Bool := pr ⟨1, s, 0⟩
end Go.Proofs.YtbahfelnbofjjaaGreatDoor
namespace Go.Proofs.YtbahfelnbofjjaaGreatDoor
open dec
end Go.Proofs.YtbahfelnbofjjaaGreatDoor
namespace Go.Proofs.YtbahfelnbofjjaaGreatDoor
open dec
theorem flt_one (p : List UInt8) : flt 1 p = if 24 < p.length then 2 else 0 := rfl
theorem flt_two (p : List UInt8) : flt 2 p = if 1152921504606846976 < dval 0 p then 2 else 0 := rfl
theorem flt_three (p : List UInt8) : flt 3 p = paE p := rfl
theorem flt_four (p : List UInt8) : flt 4 p = txE (cont 4 p) := rfl
theorem isL_D {c : UInt8} (h : isD c = true) : ¬ isL c = true := by
 unfold isD at h
 unfold isL
 rw [Bool.and_eq_true, decide_eq_true_eq, decide_eq_true_eq] at h ⊢
 omega
theorem pr_int {t : ByteArray} {ds : List UInt8} (ht : t.data.toList = ds) (h0 : ds ≠ []) (hd : ∀ c ∈ ds, isD c = true) (hv : dval 0 ds ≤ 1152921504606846976) (a : Int) : pr ⟨2, t, a⟩ = true := by
 rw [pr_iff]
 have hs : so ⟨2, t, a⟩ = ds := ht
 rw [hs]
 refine ⟨?_, by show flt 2 ds = 0; rw [flt_two, if_neg (by omega)]⟩
 cases ds with
 | nil => exact absurd rfl h0
 | cons c r =>
  have hc := hd c (List.mem_cons_self ..)
  rw [shp_cons, if_neg (isL_D hc), if_pos hc, run_whole hd, List.drop_length, if_pos (show pnt [] = 0 from rfl)]
theorem pr_decimal {t : ByteArray} {ds fs : List UInt8} (ht : t.data.toList = ds ++ 46 :: fs) (h1 : ds ≠ []) (h2 : fs ≠ []) (hd : ∀ c ∈ ds, isD c = true) (hf : ∀ c ∈ fs, isD c = true) (hp : paE (ds ++ 46 :: fs) = 0) (a : Int) : pr ⟨3, t, a⟩ = true := by
 rw [pr_iff]
 have hs : so ⟨3, t, a⟩ = ds ++ 46 :: fs := ht
 rw [hs]
 refine ⟨?_, by show flt 3 _ = 0; rw [flt_three, hp]⟩
 cases ds with
 | nil => exact absurd rfl h1
 | cons c r =>
  have hc := hd c (List.mem_cons_self ..)
  have hr : run isD ((c :: r) ++ 46 :: fs) = (c :: r).length := by
   rw [run_stop (by decide), run_whole hd]
  rw [List.cons_append] at hr ⊢
  rw [shp_cons, if_neg (isL_D hc), if_pos hc, hr, ← List.cons_append, List.drop_left, show pnt (46 :: fs) = fs.length by rw [pnt_cons, if_pos (by decide), run_whole hf], if_neg (by cases fs; exact absurd rfl h2; simp)]
  simp
  omega
theorem pr_txt {t : ByteArray} (h : txE t.data.toList = 0) (a : Int) : pr ⟨4, t, a⟩ = true := by
 rw [pr_iff]
 have hs : so ⟨4, t, a⟩ = 34 :: (t.data.toList ++ [34]) := rfl
 have hc : cont 4 (34 :: (t.data.toList ++ [34])) = t.data.toList := cont_so ⟨4, t, a⟩
 rw [hs]
 refine ⟨?_, by show flt 4 _ = 0; rw [flt_four, hc, h]⟩
 have hq : ∀ c ∈ t.data.toList, isQ c = true := by
  have hp : pB 32 t.data.toList = true := by
   unfold txE at h
   split at h
   ·cases h
   ·split at h
    ·assumption
    ·cases h
  unfold pB at hp
  rw [List.all_eq_true] at hp
  intro c hc
  have := hp c hc
  unfold okB at this
  unfold isQ
  simp only [Bool.and_eq_true, decide_eq_true_eq, Bool.not_eq_true', decide_eq_false_iff_not] at this ⊢
  omega
 have hr : run isQ (t.data.toList ++ [34]) = t.data.toList.length := by
  rw [run_stop (by decide), run_whole hq]
 rw [shp_cons, if_neg (by decide), if_neg (by decide), hr, List.drop_left, if_pos ⟨by decide, rfl⟩]
 simp
def wordP (l : List UInt8) : Bool := match l with
 | [] => false
 | c :: r => isL c && decide (run isW (c :: r) = (c :: r).length) && decide ((c :: r).length ≤ 24)
theorem wd1_eq (s : ByteArray) : wd1 s = wordP s.data.toList := by
 unfold wd1
 rw [Bool.eq_iff_iff, pr_iff]
 show shp s.data.toList = (1, s.data.toList.length) ∧ flt 1 s.data.toList = 0 ↔ _
 rw [flt_one]
 cases h : s.data.toList with
 | nil => simp [shp, wordP]
 | cons c r =>
  show _ ↔ (isL c && decide (run isW (c :: r) = (c :: r).length) && decide ((c :: r).length ≤ 24)) = true
  rw [Bool.and_eq_true, Bool.and_eq_true, decide_eq_true_eq, decide_eq_true_eq, shp_cons]
  constructor
  ·rintro ⟨h1, h2⟩
   split at h1
   ·rename_i hl
    refine ⟨⟨hl, (Prod.mk.inj h1).2⟩, ?_⟩
    split at h2
    ·cases h2
    ·omega
   ·split at h1
    ·split at h1
     ·have := (Prod.mk.inj h1).1; omega
     ·have := (Prod.mk.inj h1).1; omega
    ·split at h1
     ·have := (Prod.mk.inj h1).1; omega
     ·rw [sgn_cons] at h1
      split at h1
      ·have := (Prod.mk.inj h1).1; omega
      ·split at h1
       ·have := (Prod.mk.inj h1).1; omega
       ·have := (Prod.mk.inj h1).1; omega
  ·rintro ⟨⟨h1, h2⟩, h3⟩
   rw [if_pos h1, if_neg (by omega), h2]
   exact ⟨rfl, rfl⟩
end Go.Proofs.YtbahfelnbofjjaaGreatDoor
namespace Go.Proofs.YtbahfelnbofjjaaGreatDoor
open Go.RowKit dec
def cls (c : UInt8) : Int := if c.toNat < 126 then clsTab.getD c.toNat 0 else 0
theorem all_bytes {p : UInt8 → Bool} (h : (List.range 256).all (fun n => p (UInt8.ofNat n)) = true) (c : UInt8) : p c = true := by
 have := List.all_eq_true.1 h c.toNat (List.mem_range.2 c.toNat_lt)
 rwa [UInt8.ofNat_toNat] at this
def clsOk (c : UInt8) : Bool := decide (0 ≤ cls c ∧ cls c ≤ 8) && ((decide (cls c = 1) || decide (cls c = 2)) == isB c) && (!decide (cls c = 2) == isC c) && ((decide (cls c = 4) || decide (cls c = 5) || decide (cls c = 6)) == isW c)
 && (decide (cls c = 5) == isD c) && ((!decide (cls c = 7) && !decide (cls c = 2)) == isQ c) && (decide (cls c = 4) == isL c) && (decide (cls c = 8) == isS c) && (decide (cls c = 3) == decide (c.toNat = 35)) && (decide (cls c = 7) == decide (c.toNat = 34))
theorem clsOk_all (c : UInt8) : clsOk c = true := all_bytes (by decide +kernel) c
theorem classOf_any (c : UInt8) (w : World) (T : Tabs w) : Calls Tryz.prog 140 #[.int .u8 (c.toNat : Nat)] w fun e w' => e = .returned (.int .u8 (cls c)) ∧ w' = w := by
 have hc := fun h => T.cls.cell gCls c.toNat h
 have hl : clsTab.length = 126 := rfl
 rw [hl] at hc
 clear T hl
 have hlt := c.toNat_lt
 unfold cls
 generalize c.toNat = n at *
 go_enter Tryz.func140, Tryz.ntmps140
 by_cases h : n < 126
 ·have h1 := hc h
  rw [if_pos h]
  generalize clsTab.getD n 0 = x at *
  clear hc
  have q1 : decide ((n : Int) < 126) = true := decide_eq_true (by omega)
  go_wp2
  go_ret
  exact ⟨rfl, rfl⟩
 ·rw [if_neg h]
  have q1 : decide ((n : Int) < 126) = false := decide_eq_false (by omega)
  clear hc
  go_wp2
  go_ret
  exact ⟨rfl, rfl⟩
end Go.Proofs.YtbahfelnbofjjaaGreatDoor
namespace Go.Proofs.YtbahfelnbofjjaaGreatDoor
open Go.RowKit dec
def Set (st : Int) (p : UInt8 → Bool) : Prop := ∀ c, bits .and .i64 (st.fdiv (2 ^ min (cls c).toNat 64)) 1 = if p c = true then 1 else 0
def setB (st : Int) (p : UInt8 → Bool) (c : UInt8) : Bool := decide (bits .and .i64 (st.fdiv (2 ^ min (cls c).toNat 64)) 1 = if p c = true then 1 else 0)
theorem set_of {st : Int} {p : UInt8 → Bool} (h : (List.range 256).all (fun n => setB st p (UInt8.ofNat n)) = true) : Set st p := fun c => by
 have := all_bytes h c
 unfold setB at this
 exact of_decide_eq_true this
theorem set_W : Set 112 isW := set_of (by decide +kernel)
theorem set_D : Set 32 isD := set_of (by decide +kernel)
theorem set_Q : Set (-133) isQ := set_of (by decide +kernel)
theorem shift_run (st k : Int) (hk : 0 ≤ k) (W : World) : (Op.shift .shr .i64 st .u8 k).run Tryz.prog W = .ok (.int .i64 (st.fdiv (2 ^ min k.toNat 64))) W := by
 unfold Op.shift
 rw [if_neg (by omega)]
 rfl
theorem cls_nonneg (c : UInt8) : 0 ≤ cls c := by
 have := clsOk_all c
 unfold clsOk at this
 simp only [Bool.and_eq_true, decide_eq_true_eq] at this
 omega
theorem str_len (s : ByteArray) : s.data.toList.length = s.size := by rw [Array.length_toList]; rfl
theorem at_drop (s : ByteArray) {j : Nat} (h : j < s.size) : s.data.toList.drop j = s[j] :: s.data.toList.drop (j + 1) := by
 have h' : j < s.data.toList.length := by rw [str_len]; exact h
 rw [List.drop_eq_getElem_cons h']
 rfl
theorem run_drop (p : UInt8 → Bool) (s : ByteArray) {j : Nat} (h : j < s.size) : run p (s.data.toList.drop j) = if p s[j] = true then run p (s.data.toList.drop (j + 1)) + 1 else 0 := by
 rw [at_drop s h]
 rfl
theorem run_out (p : UInt8 → Bool) (s : ByteArray) {j : Nat} (h : s.size ≤ j) : run p (s.data.toList.drop j) = 0 := by
 rw [List.drop_eq_nil_of_le (by rw [str_len]; exact h)]
 rfl
theorem less_dn2 {n d : Nat} (h : d < n) : n - (intOf (Value.int .i64 ((d : Int) + 1))).toNat < n - (intOf (Value.int .i64 (d : Int))).toNat := by
 show n - (((d : Int) + 1)).toNat < n - ((d : Nat) : Int).toNat
 omega
theorem next_at {j : Nat} (h : j < 9223372036854775807) : wrap64 ((j : Int) + 1) = ((j + 1 : Nat) : Int) := by unfold wrap64; omega
theorem less_at {n j : Nat} (h : j < n) {x : Int} (hx : x = ((j + 1 : Nat) : Int)) : n - (intOf (Value.int .i64 x)).toNat < n - (intOf (Value.int .i64 ((j : Nat) : Int))).toNat := by
 subst hx
 show n - ((j + 1 : Nat) : Int).toNat < n - ((j : Nat) : Int).toNat
 omega
theorem retN {a b : Nat} (h : a = b) : Ending.returned (Value.int .i64 (a : Nat)) = Ending.returned (Value.int .i64 (b : Nat)) := by rw [h]
theorem run_any {st : Int} {p : UInt8 → Bool} (hst : Set st p) (s : ByteArray) (hs : s.size ≤ 140737488355328) (i : Nat) (hi : i ≤ s.size) (b : Nat) (w : World) (hb : w.cell? ⟨b, 0, none⟩ = some (.string s)) (T : Tabs w) :
  Calls Tryz.prog 196 #[.int .i64 (i : Nat), .int .i64 st, .pointer (some ⟨b, 0, none⟩)] w fun e w' => e = .returned (.int .i64 (i + run p (s.data.toList.drop i) : Nat)) ∧ w' = w := by
 have T0 := Lib.hid T
 have H0 := Lib.hid hst
 have Z0 := Lib.hid hs
 obtain ⟨R, hR⟩ : ∃ R, i + run p (s.data.toList.drop i) = R := ⟨_, rfl⟩
 rw [hR]
 replace hR := Lib.hid hR
 replace hi := Lib.hid hi
 clear T hst hs
 go_enter Tryz.func196, Tryz.ntmps196
 go_wp2_with fail
 go_loopw [0] (fun x wr => ∃ j : Nat, x = .int .i64 (j : Nat) ∧ Hid (j ≤ s.size) ∧ Hid (j + run p (s.data.toList.drop j) = R) ∧ wr = w) (fun x _ => s.size - (intOf x).toNat)
 case atStart => exact ⟨i, rfl, hi, hR, rfl⟩
 case round =>
  obtain ⟨j, rfl, hj, hr, rfl⟩ := hrel
  by_cases hc : j < s.size
  ·have q2 : decide ((j : Int) < (s.size : Int)) = true := decide_eq_true (by omega)
   have hst := run_drop p s hc
   have f4 := Lib.hid (next_at (j := j) (by have := Z0.out; omega))
   have hbit := H0.out s[j]
   have C := Lib.hid (classOf_any s[j] wr T0.out)
   have HST := Lib.hid hst
   clear hst
   have hsh := shift_run st _ (cls_nonneg s[j])
   generalize cls s[j] = k at C hbit hsh
   generalize st.fdiv (2 ^ min k.toNat 64) = x at hbit hsh
   cases hy : p s[j]
   ·rw [hy] at HST hbit
    rw [if_neg (by decide)] at hbit
    have HD : Hid (j = R) := by unfold Hid; rw [← hr.out, HST.out]; rfl
    clear hy hr HST
    go_wp2_with (go_at_call 140; refine (C.out).mono ?_; rintro e w' ⟨rfl, rfl⟩)
    go_ret
    exact ⟨retN HD.out, rfl⟩
   ·rw [hy] at HST hbit
    rw [if_pos rfl] at hbit
    have HD : Hid (j + 1 + run p (s.data.toList.drop (j + 1)) = R) := by unfold Hid; rw [← hr.out, HST.out, if_pos rfl]; omega
    clear hy hr HST
    go_wp2_with (go_at_call 140; refine (C.out).mono ?_; rintro e w' ⟨rfl, rfl⟩)
    refine ⟨⟨j + 1, by first | exact congrArg (Value.int .i64) f4.out | rfl, Lib.hid hc, HD, trivial⟩, by first | exact less_at hc f4.out | exact less_dn2 hc⟩
  ·have hz := run_out p s (j := j) (by omega)
   have HD : Hid (j = R) := by unfold Hid; rw [← hr.out, hz, Nat.add_zero]
   have q2 : decide ((j : Int) < (s.size : Int)) = false := decide_eq_false (by omega)
   clear hz hr
   go_wp2_with fail
   go_ret
   exact ⟨retN HD.out, rfl⟩
theorem runsOf_any (s : ByteArray) (w : World) : Calls Tryz.prog 139 #[.string s] w fun e w' => e = .returned (.func (.func 196) #[] #[.pointer (some ⟨w.heap.size, 0, none⟩)]) ∧ w'.cell? ⟨w.heap.size, 0, none⟩ = some (.string s) ∧ w'.heap.size = w.heap.size + 1 ∧ Below w.heap.size w w' := by
 have hb := balloc (b0 w) (.cells #[.string s] 9)
 have hc : (w.alloc (.cells #[.string s] 9)).cell? ⟨w.heap.size, 0, none⟩ = some (.string s) := by simp [go_sem]
 have hz : (w.alloc (.cells #[.string s] 9)).heap.size = w.heap.size + 1 := by simp
 go_enter Tryz.func139, Tryz.ntmps139
 go_wp2_with fail
 go_ret
 exact ⟨rfl, hc, hz, hb⟩
end Go.Proofs.YtbahfelnbofjjaaGreatDoor
namespace Go.Proofs.YtbahfelnbofjjaaGreatDoor
open Go.RowKit dec
theorem run_size (p : UInt8 → Bool) (s : ByteArray) {i : Nat} (h : i ≤ s.size) : i + run p (s.data.toList.drop i) ≤ s.size := by
 have := run_le p (s.data.toList.drop i)
 rw [List.length_drop, str_len] at this
 omega
theorem eqb (a b : Int) : (a == b) = decide (a = b) := by
 rw [Bool.eq_iff_iff]
 simp
end Go.Proofs.YtbahfelnbofjjaaGreatDoor
namespace Go.Proofs.YtbahfelnbofjjaaGreatDoor
open Go.RowKit dec
theorem toList_nil (s : ByteArray) : (s.toList == []) = decide (s.size = 0) := by
 rw [ByteArray.toList_eq, Lib.size_eq s]
 cases s.data.toList <;> simp
theorem ext_data (s : ByteArray) (i j : Nat) : (s.extract i j).data.toList = (s.data.toList.drop i).take (j - i) := by
 rw [ByteArray.data_extract, Array.toList_extract, List.extract_eq_take_drop]
theorem ext_tail (s : ByteArray) (i : Nat) : (s.extract i s.size).data.toList = s.data.toList.drop i := by
 rw [ext_data, List.take_of_length_le]
 rw [List.length_drop, str_len]
 omega
theorem pre_two (c : UInt8) (r : List UInt8) (a : UInt8) : Lib.hasPrefix (c :: r) [a, 61] = decide (c = a ∧ r.head? = some 61) := by
 cases r with
 | nil =>
  rw [Bool.eq_iff_iff]
  simp [Lib.hasPrefix, List.isPrefixOf]
 | cons d r =>
  rw [Bool.eq_iff_iff]
  simp only [Lib.hasPrefix, List.isPrefixOf, Bool.and_eq_true, beq_iff_eq, List.head?_cons, Option.some.injEq, decide_eq_true_eq, Bool.and_true]
  constructor
  ·rintro ⟨h1, h2⟩; exact ⟨h1.symm, h2.symm⟩
  ·rintro ⟨h1, h2⟩; exact ⟨h1.symm, h2.symm⟩
theorem pre_dot (l : List UInt8) : Lib.hasPrefix l [46] = decide (l.head? = some 46) := by
 cases l with
 | nil => rfl
 | cons d r =>
  rw [Bool.eq_iff_iff]
  simp only [Lib.hasPrefix, List.isPrefixOf, beq_iff_eq, List.head?_cons, Option.some.injEq, decide_eq_true_eq, Bool.and_true]
  exact eq_comm
theorem u8_is {c : UInt8} {n : Nat} (d : UInt8) (hd : d.toNat = n) : c.toNat = n ↔ c = d := by
 rw [← hd]
 exact ⟨fun h => UInt8.toNat_inj.1 h, fun h => by rw [h]⟩
theorem sgn_parts (c : UInt8) (r : List UInt8) : sgn (c :: r) = if (Lib.hasPrefix (c :: r) [61, 61] || Lib.hasPrefix (c :: r) [33, 61] || Lib.hasPrefix (c :: r) [60, 61]) = true then (5, 2) else if isS c = true then (5, 1) else (0, 1) := by
 have e1 : c.toNat = 61 ↔ c = 61 := u8_is 61 rfl
 have e2 : c.toNat = 33 ↔ c = 33 := u8_is 33 rfl
 have e3 : c.toNat = 60 ↔ c = 60 := u8_is 60 rfl
 rw [sgn_cons, pre_two, pre_two, pre_two]
 have e : (decide (c = 61 ∧ r.head? = some 61) || decide (c = 33 ∧ r.head? = some 61) || decide (c = 60 ∧ r.head? = some 61)) = true ↔ (c = 61 ∨ c = 33 ∨ c = 60) ∧ r.head? = some 61 := by
  simp only [Bool.or_eq_true, decide_eq_true_eq]
  constructor
  ·rintro ((h | h) | h)
   ·exact ⟨.inl h.1, h.2⟩
   ·exact ⟨.inr (.inl h.1), h.2⟩
   ·exact ⟨.inr (.inr h.1), h.2⟩
  ·rintro ⟨h | h | h, h2⟩
   ·exact .inl (.inl ⟨h, h2⟩)
   ·exact .inl (.inr ⟨h, h2⟩)
   ·exact .inr ⟨h, h2⟩
 simp only [e, e1, e2, e3]
theorem cls_is (c : UInt8) : (cls c == 8) = isS c ∧ (cls c == 4) = isL c ∧ (cls c == 5) = isD c ∧ (cls c == 7) = decide (c.toNat = 34) := by
 have := clsOk_all c
 unfold clsOk at this
 simp only [Bool.and_eq_true, beq_iff_eq] at this
 refine ⟨?_, ?_, ?_, ?_⟩
 ·rw [← this.1.1.2, eqb]
 ·rw [← this.1.1.1.2, eqb]
 ·rw [← this.1.1.1.1.1.2, eqb]
 ·rw [← this.2, eqb]
theorem signShape_any (s : ByteArray) (h0 : 0 < s.size) (w : World) (T : Tabs w) :
  Calls Tryz.prog 142 #[.string s] w fun e w' => e = .returned (.tuple #[.int .i64 (sgn s.data.toList).1, .int .i64 ((sgn s.data.toList).2 : Nat)]) ∧ w' = w := by
 have H1 := Lib.hid (fun W => Tryz.strings_HasPrefix s ⟨#[61, 61]⟩ W)
 have H2 := Lib.hid (fun W => Tryz.strings_HasPrefix s ⟨#[33, 61]⟩ W)
 have H3 := Lib.hid (fun W => Tryz.strings_HasPrefix s ⟨#[60, 61]⟩ W)
 have e := at_drop s h0
 rw [List.drop_zero] at e
 have hg := sgn_parts s[0] (s.data.toList.drop (0 + 1))
 rw [← e] at hg
 rw [show (⟨#[61, 61]⟩ : ByteArray).data.toList = [61, 61] from rfl] at H1
 rw [show (⟨#[33, 61]⟩ : ByteArray).data.toList = [33, 61] from rfl] at H2
 rw [show (⟨#[60, 61]⟩ : ByteArray).data.toList = [60, 61] from rfl] at H3
 generalize Lib.hasPrefix s.data.toList [61, 61] = b1 at *
 generalize Lib.hasPrefix s.data.toList [33, 61] = b2 at *
 generalize Lib.hasPrefix s.data.toList [60, 61] = b3 at *
 have C := Lib.hid (classOf_any s[0] w T)
 have hS := (cls_is s[0]).1
 generalize isS s[0] = z at hS hg
 generalize cls s[0] = k at C hS
 generalize sgn s.data.toList = g at *
 clear T e
 cases b1
 ·cases b2
  ·cases b3
   ·cases z
    ·simp only [Bool.or_self, Bool.false_eq_true, if_false] at hg
     subst hg
     go_enter Tryz.func142, Tryz.ntmps142
     go_wp2_with fail
     refine (H1.out _).mono ?_
     rintro e w' ⟨rfl, rfl⟩
     go_wp2_with fail
     refine (H2.out _).mono ?_
     rintro e w' ⟨rfl, rfl⟩
     go_wp2_with fail
     refine (H3.out _).mono ?_
     rintro e w' ⟨rfl, rfl⟩
     go_wp2_with fail
     refine C.out.mono ?_
     rintro e w' ⟨rfl, rfl⟩
     go_wp2_with fail
     go_ret2
     exact ⟨rfl, rfl⟩
    ·simp only [Bool.or_self, Bool.false_eq_true, if_false, if_true] at hg
     subst hg
     go_enter Tryz.func142, Tryz.ntmps142
     go_wp2_with fail
     refine (H1.out _).mono ?_
     rintro e w' ⟨rfl, rfl⟩
     go_wp2_with fail
     refine (H2.out _).mono ?_
     rintro e w' ⟨rfl, rfl⟩
     go_wp2_with fail
     refine (H3.out _).mono ?_
     rintro e w' ⟨rfl, rfl⟩
     go_wp2_with fail
     refine C.out.mono ?_
     rintro e w' ⟨rfl, rfl⟩
     go_wp2_with fail
     go_ret2
     exact ⟨rfl, rfl⟩
   ·simp only [Bool.or_true, if_true] at hg
    subst hg
    go_enter Tryz.func142, Tryz.ntmps142
    go_wp2_with fail
    refine (H1.out _).mono ?_
    rintro e w' ⟨rfl, rfl⟩
    go_wp2_with fail
    refine (H2.out _).mono ?_
    rintro e w' ⟨rfl, rfl⟩
    go_wp2_with fail
    refine (H3.out _).mono ?_
    rintro e w' ⟨rfl, rfl⟩
    go_wp2_with fail
    go_ret2
    exact ⟨rfl, rfl⟩
  ·simp only [Bool.or_true, Bool.true_or, if_true] at hg
   subst hg
   go_enter Tryz.func142, Tryz.ntmps142
   go_wp2_with fail
   refine (H1.out _).mono ?_
   rintro e w' ⟨rfl, rfl⟩
   go_wp2_with fail
   refine (H2.out _).mono ?_
   rintro e w' ⟨rfl, rfl⟩
   go_wp2_with fail
   go_ret2
   exact ⟨rfl, rfl⟩
 ·simp only [Bool.true_or, if_true] at hg
  subst hg
  go_enter Tryz.func142, Tryz.ntmps142
  go_wp2_with fail
  refine (H1.out _).mono ?_
  rintro e w' ⟨rfl, rfl⟩
  go_wp2_with fail
  go_ret2
  exact ⟨rfl, rfl⟩
end Go.Proofs.YtbahfelnbofjjaaGreatDoor
namespace Go.Proofs.YtbahfelnbofjjaaGreatDoor
open Go.RowKit dec
theorem run0_any {st : Int} {p : UInt8 → Bool} (hst : Set st p) (s : ByteArray) (hs : s.size ≤ 140737488355328) (b : Nat) (w : World) (hb : w.cell? ⟨b, 0, none⟩ = some (.string s)) (T : Tabs w) :
  Calls Tryz.prog 196 #[.int .i64 0, .int .i64 st, .pointer (some ⟨b, 0, none⟩)] w fun e w' => e = .returned (.int .i64 (run p s.data.toList : Nat)) ∧ w' = w := by
 have := run_any hst s hs 0 (Nat.zero_le _) b w hb T
 rw [List.drop_zero, Nat.zero_add] at this
 exact this
theorem run1_any {st : Int} {p : UInt8 → Bool} (hst : Set st p) (s : ByteArray) (hs : s.size ≤ 140737488355328) (i : Nat) (hi : i + 1 ≤ s.size) (b : Nat) (w : World) (hb : w.cell? ⟨b, 0, none⟩ = some (.string s)) (T : Tabs w) :
  Calls Tryz.prog 196 #[.int .i64 ((i : Nat) + 1), .int .i64 st, .pointer (some ⟨b, 0, none⟩)] w fun e w' => e = .returned (.int .i64 ((i + 1 + run p (s.data.toList.drop (i + 1)) : Nat) : Int)) ∧ w' = w :=
 run_any hst s hs (i + 1) hi b w hb T
theorem shp_at (s : ByteArray) (h0 : 0 < s.size) : s.data.toList = s[0] :: s.data.toList.drop 1 := by
 have e := at_drop s h0
 rwa [List.drop_zero] at e
theorem shp_L (s : ByteArray) (h0 : 0 < s.size) (h : isL s[0] = true) : shp s.data.toList = (1, run isW s.data.toList) := by
 have e := shp_at s h0
 rw [e, shp_cons, if_pos h]
theorem shp_D (s : ByteArray) (h0 : 0 < s.size) (h : isD s[0] = true) : shp s.data.toList = if pnt (s.data.toList.drop (run isD s.data.toList)) = 0 then (2, run isD s.data.toList) else (3, run isD s.data.toList + 1 + pnt (s.data.toList.drop (run isD s.data.toList))) := by
 have e := shp_at s h0
 rw [e, shp_cons, if_neg (isL_D h), if_pos h]
theorem pnt_hit {l : List UInt8} (h : l.head? = some 46) : pnt l = run isD (l.drop 1) := by
 cases l with
 | nil => cases h
 | cons c r =>
  rw [List.head?_cons, Option.some.injEq] at h
  rw [pnt_cons, if_pos (by rw [h]; rfl)]
  rfl
theorem pnt_miss {l : List UInt8} (h : l.head? ≠ some 46) : pnt l = 0 := by
 cases l with
 | nil => rfl
 | cons c r =>
  rw [List.head?_cons, ne_eq, Option.some.injEq] at h
  rw [pnt_cons, if_neg (fun e => h (UInt8.toNat_inj.1 (e.trans rfl)))]
theorem head_drop (s : ByteArray) (n : Nat) : (s.data.toList.drop n).head? = if h : n < s.size then some s[n] else none := by
 by_cases h : n < s.size
 ·rw [dif_pos h, at_drop s h]
  rfl
 ·rw [dif_neg h, List.drop_eq_nil_of_le (by rw [str_len]; omega)]
  rfl
theorem shp_Q (s : ByteArray) (h0 : 0 < s.size) (h : s[0].toNat = 34) : shp s.data.toList = if (s.data.toList.drop (1 + run isQ (s.data.toList.drop 1))).head? = some 34 then (4, 1 + run isQ (s.data.toList.drop 1) + 1) else sgn s.data.toList := by
 have e := shp_at s h0
 have h1 : ¬ isL s[0] = true := by unfold isL; rw [h]; decide
 have h2 : ¬ isD s[0] = true := by unfold isD; rw [h]; decide
 generalize s.data.toList.drop 1 = r at e
 rw [e, shp_cons, if_neg h1, if_neg h2, Nat.add_comm 1 (run isQ r), List.drop_succ_cons]
 simp only [h, true_and]
theorem shp_S (s : ByteArray) (h0 : 0 < s.size) (h1 : isL s[0] = false) (h2 : isD s[0] = false) (h : s[0].toNat ≠ 34) : shp s.data.toList = sgn s.data.toList := by
 have e := shp_at s h0
 generalize s.data.toList.drop 1 = r at e
 rw [e, shp_cons, if_neg (by rw [h1]; decide), if_neg (by rw [h2]; decide), if_neg (by omega)]
theorem shape_any (s : ByteArray) (hs : s.size ≤ 140737488355328) (w : World) (T : Tabs w) :
  Calls Tryz.prog 85 #[.string s] w fun e w' => e = .returned (.tuple #[.int .i64 (shp s.data.toList).1, .int .i64 ((shp s.data.toList).2 : Nat)]) ∧ Below w.heap.size w w' := by
 by_cases h0 : 0 < s.size
 ·have q1 : (s.toList == []) = false := by rw [toList_nil]; exact decide_eq_false (by omega)
  have RC := Lib.hid (runsOf_any s w)
  have T0 := Lib.hid T
  have C := Lib.hid (fun W T => classOf_any s[0] W T)
  have SG := Lib.hid (fun W T => signShape_any s h0 W T)
  obtain ⟨_, k4, k5, k7⟩ := cls_is s[0]
  have fL := Lib.hid (shp_L s h0)
  have fD := Lib.hid (shp_D s h0)
  have fQ := Lib.hid (shp_Q s h0)
  have fS := Lib.hid (shp_S s h0)
  obtain ⟨g, hg⟩ : ∃ g, shp s.data.toList = g := ⟨_, rfl⟩
  rw [hg] at fL fD fQ fS ⊢
  clear hg T
  cases hL : isL s[0]
  ·cases hD : isD s[0]
   ·by_cases h34 : s[0].toNat = 34
    ·rw [hL] at k4
     rw [hD] at k5
     rw [decide_eq_true h34] at k7
     have hgQ := fQ.out h34
     have hnz := run_size isQ s (i := 1) h0
     obtain ⟨n, hn⟩ : ∃ n, 1 + run isQ (s.data.toList.drop 1) = n := ⟨_, rfl⟩
     have CQ := Lib.hid (fun W h T => (run_any set_Q s hs 1 h0 w.heap.size W h T : Calls Tryz.prog 196 #[.int .i64 1, .int .i64 (-133), .pointer (some ⟨w.heap.size, 0, none⟩)] W fun e w' => e = .returned (.int .i64 ((1 + run isQ (s.data.toList.drop 1) : Nat) : Int)) ∧ w' = W))
     rw [hn] at CQ hgQ hnz
     rw [head_drop] at hgQ
     generalize cls s[0] = k at C k4 k5 k7
     clear hL hD h34 fL fD fQ fS hn
     generalize sgn s.data.toList = q at *
     by_cases hc : n < s.size
     ·rw [dif_pos hc] at hgQ
      have q2 : decide ((n : Int) < (s.size : Int)) = true := decide_eq_true (by omega)
      have C2 := Lib.hid (fun W T => classOf_any s[n] W T)
      have k77 := (cls_is s[n]).2.2.2
      generalize cls s[n] = kk at C2 k77
      by_cases h2 : s[n].toNat = 34
      ·rw [if_pos (by rw [show s[n] = 34 from UInt8.toNat_inj.1 h2])] at hgQ
       rw [decide_eq_true h2] at k77
       replace hgQ := Lib.hid hgQ
       clear h2 SG
       go_enter Tryz.func85, Tryz.ntmps85
       go_wp2_with fail
       refine RC.out.mono ?_
       rintro e w1 ⟨rfl, c1, z1, b1⟩
       have B1 := Lib.hid b1
       have T1 := Lib.hid (T0.out.stays b1)
       clear b1 z1
       go_wp2_with fail
       refine (C.out _ T1.out).mono ?_
       rintro e w2 ⟨rfl, rfl⟩
       have CQ1 := Lib.hid (CQ.out w2 c1 T1.out)
       go_wp2_with fail
       refine CQ1.out.mono ?_
       rintro e w3 ⟨rfl, rfl⟩
       go_wp2_with fail
       refine (C2.out _ T1.out).mono ?_
       rintro e w3 ⟨rfl, rfl⟩
       go_wp2_with fail
       go_ret2
       exact ⟨by rw [hgQ.out]; rfl, B1.out⟩
      ·rw [if_neg (by intro e; apply h2; rw [Option.some.inj e]; rfl)] at hgQ
       rw [decide_eq_false h2] at k77
       replace hgQ := Lib.hid hgQ
       clear h2
       go_enter Tryz.func85, Tryz.ntmps85
       go_wp2_with fail
       refine RC.out.mono ?_
       rintro e w1 ⟨rfl, c1, z1, b1⟩
       have B1 := Lib.hid b1
       have T1 := Lib.hid (T0.out.stays b1)
       clear b1 z1
       go_wp2_with fail
       refine (C.out _ T1.out).mono ?_
       rintro e w2 ⟨rfl, rfl⟩
       have CQ1 := Lib.hid (CQ.out w2 c1 T1.out)
       go_wp2_with fail
       refine CQ1.out.mono ?_
       rintro e w3 ⟨rfl, rfl⟩
       go_wp2_with fail
       refine (C2.out _ T1.out).mono ?_
       rintro e w3 ⟨rfl, rfl⟩
       go_wp2_with fail
       refine (SG.out _ T1.out).mono ?_
       rintro e w3 ⟨rfl, rfl⟩
       go_wp2_with fail
       go_ret2
       exact ⟨by rw [hgQ.out]; rfl, B1.out⟩
     ·rw [dif_neg hc, if_neg (by intro e; cases e)] at hgQ
      have q2 : decide ((n : Int) < (s.size : Int)) = false := decide_eq_false (by omega)
      replace hgQ := Lib.hid hgQ
      go_enter Tryz.func85, Tryz.ntmps85
      go_wp2_with fail
      refine RC.out.mono ?_
      rintro e w1 ⟨rfl, c1, z1, b1⟩
      have B1 := Lib.hid b1
      have T1 := Lib.hid (T0.out.stays b1)
      clear b1 z1
      go_wp2_with fail
      refine (C.out _ T1.out).mono ?_
      rintro e w2 ⟨rfl, rfl⟩
      have CQ1 := Lib.hid (CQ.out w2 c1 T1.out)
      go_wp2_with fail
      refine CQ1.out.mono ?_
      rintro e w3 ⟨rfl, rfl⟩
      go_wp2_with fail
      refine (SG.out _ T1.out).mono ?_
      rintro e w3 ⟨rfl, rfl⟩
      go_wp2_with fail
      go_ret2
      exact ⟨by rw [hgQ.out]; rfl, B1.out⟩
    ·rw [hL] at k4
     rw [hD] at k5
     rw [decide_eq_false h34] at k7
     have hgS := Lib.hid (fS.out hL hD h34)
     generalize cls s[0] = k at C k4 k5 k7
     clear hL hD h34 fL fD fQ fS
     generalize sgn s.data.toList = q at *
     go_enter Tryz.func85, Tryz.ntmps85
     go_wp2_with fail
     refine RC.out.mono ?_
     rintro e w1 ⟨rfl, c1, z1, b1⟩
     have B1 := Lib.hid b1
     have T1 := Lib.hid (T0.out.stays b1)
     clear b1 z1
     go_wp2_with fail
     refine (C.out _ T1.out).mono ?_
     rintro e w2 ⟨rfl, rfl⟩
     go_wp2_with fail
     refine (SG.out _ T1.out).mono ?_
     rintro e w2 ⟨rfl, rfl⟩
     go_wp2_with fail
     go_ret2
     exact ⟨by rw [hgS.out]; rfl, B1.out⟩
   ·rw [hL] at k4
    rw [hD] at k5
    have hgD := fD.out hD
    have hnz := run_size isD s (i := 0) (Nat.zero_le _)
    rw [List.drop_zero, Nat.zero_add] at hnz
    have CD := Lib.hid (fun W h T => run0_any set_D s hs w.heap.size W h T)
    have CE := Lib.hid (fun i hi W h T => run1_any set_D s hs i hi w.heap.size W h T)
    obtain ⟨n, hn⟩ : ∃ n, run isD s.data.toList = n := ⟨_, rfl⟩
    rw [hn] at CD hgD hnz
    have HP := Lib.hid (fun W => Tryz.strings_HasPrefix (s.extract n s.size) ⟨#[46]⟩ W)
    rw [ext_tail, show (⟨#[46]⟩ : ByteArray).data.toList = [46] from rfl, pre_dot] at HP
    generalize cls s[0] = k at C k4 k5 k7
    clear hL hD fL fD fQ fS hn SG k7
    by_cases hh : (s.data.toList.drop n).head? = some 46
    ·have hnl : n < s.size := by
      rcases Nat.lt_or_ge n s.size with h1 | h1
      ·exact h1
      ·rw [head_drop, dif_neg (by omega)] at hh
       cases hh
     have hmz := run_size isD s (i := n + 1) hnl
     rw [decide_eq_true hh] at HP
     rw [pnt_hit hh, List.drop_drop] at hgD
     have CE1 := Lib.hid (CE.out n hnl)
     generalize run isD (s.data.toList.drop (n + 1)) = m at *
     clear hh CE
     by_cases hm : m = 0
     ·subst hm
      rw [if_pos rfl] at hgD
      replace hgD := Lib.hid hgD
      rw [Nat.add_zero] at CE1
      have q3 : decide (((n : Int) + 1) < ((n + 1 : Nat) : Int)) = false := decide_eq_false (by omega)
      go_enter Tryz.func85, Tryz.ntmps85
      go_wp2_with fail
      refine RC.out.mono ?_
      rintro e w1 ⟨rfl, c1, z1, b1⟩
      have B1 := Lib.hid b1
      have T1 := Lib.hid (T0.out.stays b1)
      clear b1 z1
      go_wp2_with fail
      refine (C.out _ T1.out).mono ?_
      rintro e w2 ⟨rfl, rfl⟩
      have CD1 := Lib.hid (CD.out w2 c1 T1.out)
      have CE2 := Lib.hid (CE1.out w2 c1 T1.out)
      go_wp2_with fail
      refine CD1.out.mono ?_
      rintro e w3 ⟨rfl, rfl⟩
      go_wp2_with fail
      refine (HP.out _).mono ?_
      rintro e w3 ⟨rfl, rfl⟩
      go_wp2_with fail
      refine CE2.out.mono ?_
      rintro e w3 ⟨rfl, rfl⟩
      go_wp2_with fail
      go_ret2
      exact ⟨by rw [hgD.out]; rfl, B1.out⟩
     ·rw [if_neg hm] at hgD
      replace hgD := Lib.hid hgD
      have q3 : decide (((n : Int) + 1) < ((n + 1 + m : Nat) : Int)) = true := decide_eq_true (by omega)
      go_enter Tryz.func85, Tryz.ntmps85
      go_wp2_with fail
      refine RC.out.mono ?_
      rintro e w1 ⟨rfl, c1, z1, b1⟩
      have B1 := Lib.hid b1
      have T1 := Lib.hid (T0.out.stays b1)
      clear b1 z1
      go_wp2_with fail
      refine (C.out _ T1.out).mono ?_
      rintro e w2 ⟨rfl, rfl⟩
      have CD1 := Lib.hid (CD.out w2 c1 T1.out)
      have CE2 := Lib.hid (CE1.out w2 c1 T1.out)
      go_wp2_with fail
      refine CD1.out.mono ?_
      rintro e w3 ⟨rfl, rfl⟩
      go_wp2_with fail
      refine (HP.out _).mono ?_
      rintro e w3 ⟨rfl, rfl⟩
      go_wp2_with fail
      refine CE2.out.mono ?_
      rintro e w3 ⟨rfl, rfl⟩
      go_wp2_with fail
      refine CE2.out.mono ?_
      rintro e w3 ⟨rfl, rfl⟩
      go_wp2_with fail
      go_ret2
      exact ⟨by rw [hgD.out]; rfl, B1.out⟩
    ·rw [decide_eq_false hh] at HP
     rw [pnt_miss hh, if_pos rfl] at hgD
     replace hgD := Lib.hid hgD
     clear hh CE
     go_enter Tryz.func85, Tryz.ntmps85
     go_wp2_with fail
     refine RC.out.mono ?_
     rintro e w1 ⟨rfl, c1, z1, b1⟩
     have B1 := Lib.hid b1
     have T1 := Lib.hid (T0.out.stays b1)
     clear b1 z1
     go_wp2_with fail
     refine (C.out _ T1.out).mono ?_
     rintro e w2 ⟨rfl, rfl⟩
     have CD1 := Lib.hid (CD.out w2 c1 T1.out)
     go_wp2_with fail
     refine CD1.out.mono ?_
     rintro e w3 ⟨rfl, rfl⟩
     go_wp2_with fail
     refine (HP.out _).mono ?_
     rintro e w3 ⟨rfl, rfl⟩
     go_wp2_with fail
     go_ret2
     exact ⟨by rw [hgD.out]; rfl, B1.out⟩
  ·have hgL := Lib.hid (fL.out hL)
   rw [hL] at k4
   generalize cls s[0] = k at C k4 k5 k7
   clear hL fL fD fQ fS k5 k7 SG
   go_enter Tryz.func85, Tryz.ntmps85
   go_wp2_with fail
   refine RC.out.mono ?_
   rintro e w1 ⟨rfl, c1, z1, b1⟩
   have B1 := Lib.hid b1
   have T1 := Lib.hid (T0.out.stays b1)
   have CW := Lib.hid (run0_any set_W s hs w.heap.size w1 c1 T1.out)
   clear b1 z1
   generalize run isW s.data.toList = n at *
   go_wp2_with fail
   refine (C.out _ T1.out).mono ?_
   rintro e w2 ⟨rfl, rfl⟩
   go_wp2_with fail
   refine CW.out.mono ?_
   rintro e w2 ⟨rfl, rfl⟩
   go_wp2_with fail
   go_ret2
   exact ⟨by rw [hgL.out]; rfl, B1.out⟩
 ·have q1 : (s.toList == []) = true := by rw [toList_nil]; exact decide_eq_true (by omega)
  have hn : s.data.toList = [] := List.eq_nil_of_length_eq_zero (by rw [str_len]; omega)
  have hg := Lib.hid (show shp s.data.toList = (0, 0) by rw [hn]; rfl)
  clear T hn hs
  go_enter Tryz.func85, Tryz.ntmps85
  go_wp2_with fail
  go_ret2
  exact ⟨by rw [hg.out]; rfl, b0 w⟩
end Go.Proofs.YtbahfelnbofjjaaGreatDoor
namespace Go.Proofs.YtbahfelnbofjjaaGreatDoor
open Go.RowKit dec
theorem emp (s : ByteArray) : s.toList.isEmpty = decide (s.size = 0) := by
 rw [ByteArray.toList_eq, Lib.size_eq s]
 cases s.data.toList <;> simp
theorem isFormed_any (k n : Int) (s : ByteArray) (w : World) : Calls Tryz.prog 204 #[.agg #[.int .i64 k, .int .i64 n, .string s]] w fun e w' => e = .returned (.bool (fmd ⟨k, n, s⟩)) ∧ Below w.heap.size w w' := by
 go_enter Tryz.func204, Tryz.ntmps204
 go_wp2
 all_goals go_ret
 all_goals refine ⟨congrArg (fun b => Ending.returned (Value.bool b)) ?_, balloc (b0 w) _⟩
 all_goals simp_all [fmd, emp]
 all_goals rfl
theorem isLimited_any (k n : Int) (s : ByteArray) (w : World) : Calls Tryz.prog 205 #[.agg #[.int .i64 k, .int .i64 n, .string s]] w fun e w' => e = .returned (.bool (lmt ⟨k, n, s⟩)) ∧ Below w.heap.size w w' := by
 go_enter Tryz.func205, Tryz.ntmps205
 go_wp2
 all_goals go_ret
 all_goals refine ⟨congrArg (fun b => Ending.returned (Value.bool b)) ?_, balloc (b0 w) _⟩
 all_goals simp_all [lmt, rg]
 all_goals omega
theorem pB_drop (lo : Nat) (l : List UInt8) {i : Nat} (hi : i < l.length) : pB lo (l.drop i) = (okB lo l[i] && pB lo (l.drop (i + 1))) := by
 rw [List.drop_eq_getElem_cons hi]
 rfl
theorem okB_no (lo : Nat) (c : UInt8) : okB lo c = false ↔ (c.toNat < lo ∨ 126 < c.toNat) ∨ c.toNat = 34 ∨ c.toNat = 92 := by
 unfold okB
 simp only [Bool.and_eq_false_iff, Bool.not_eq_false', decide_eq_false_iff_not, decide_eq_true_eq]
 omega
theorem okB_yes (lo : Nat) (c : UInt8) : okB lo c = true ↔ (lo ≤ c.toNat ∧ c.toNat ≤ 126) ∧ c.toNat ≠ 34 ∧ c.toNat ≠ 92 := by
 unfold okB
 simp only [Bool.and_eq_true, Bool.not_eq_true', decide_eq_false_iff_not, decide_eq_true_eq]
 omega
theorem pB_step (lo : Nat) (s : ByteArray) {i : Nat} (hi : i < s.size) : (okB lo s[i] = false → pB lo (s.data.toList.drop i) = false) ∧ (okB lo s[i] = true → pB lo (s.data.toList.drop i) = pB lo (s.data.toList.drop (i + 1))) := by
 have hi' : i < s.data.toList.length := by rw [← Lib.size_eq]; exact hi
 have e : s.data.toList[i] = s[i] := rfl
 rw [pB_drop lo _ hi', e]
 constructor
 ·intro h; rw [h]; rfl
 ·intro h; rw [h]; rfl
theorem pB_end (lo : Nat) (s : ByteArray) {i : Nat} (hi : ¬ i < s.size) : pB lo (s.data.toList.drop i) = true := by
 rw [List.drop_eq_nil_of_le (by rw [← Lib.size_eq]; omega)]
 rfl
theorem consists_any (lo : Nat) (s : ByteArray) (hs : s.size ≤ 9223372036854775806) (w : World) : Calls Tryz.prog 259 #[.int .u8 (lo : Nat), .string s] w fun e w' => e = .returned (.bool (pB lo s.data.toList)) ∧ w = w' := by
 go_enter Tryz.func259, Tryz.ntmps259
 go_wp2
 go_loopw [9] (fun x wr => ∃ i : Nat, x = .int .i64 (i : Nat) ∧ i ≤ s.size ∧ Hid (pB lo s.data.toList = pB lo (s.data.toList.drop i)) ∧ wr = w) (fun x _ => s.size - (intOf x).toNat)
 case atStart => exact ⟨0, rfl, by omega, rfl, rfl⟩
 case round =>
  obtain ⟨i, rfl, hi, hp, rfl⟩ := hrel
  go_wp2
  case roundEnd =>
   have h1 : i < s.size := by omega
   rename_i h2
   simp only [beq_eq_false_iff_ne] at h2
   refine ⟨⟨i + 1, rfl, by omega, ?_, trivial⟩, ?_⟩
   ·exact Lib.hid (hp.out.trans ((pB_step lo s h1).2 ((okB_yes lo s[i]).2 (by omega))))
   ·show s.size - ((i : Int) + 1).toNat < s.size - ((i : Nat) : Int).toNat
    omega
  all_goals go_ret
  all_goals refine ⟨congrArg (fun b => Ending.returned (Value.bool b)) (Eq.symm ?_), rfl⟩
  all_goals rw [hp.out]
  all_goals first
   | exact pB_end lo s (by omega)
   | exact (pB_step lo s (by omega)).1 ((okB_no lo _).2 (by omega))
   | (rename_i h2; simp only [beq_iff_eq] at h2; exact (pB_step lo s (by omega)).1 ((okB_no lo _).2 (by omega)))
def Vx (w : World) (b : Nat) (k n : Int) (s : ByteArray) : Prop := w.cell? ⟨b, 0, none⟩ = some (.int .i64 k) ∧ w.cell? ⟨b, 1, none⟩ = some (.int .i64 n) ∧ w.cell? ⟨b, 2, none⟩ = some (.string s)
theorem Vx.new (w : World) (k n : Int) (s : ByteArray) (T : TypeId) : Vx (w.alloc (.cells #[.int .i64 k, .int .i64 n, .string s] T)) w.heap.size k n s := ⟨by simp [go_sem], by simp [go_sem], by simp [go_sem]⟩
theorem Vx.keeps {w w1 : World} {b : Nat} {k n : Int} {s : ByteArray} (h : Vx w b k n s) (hb : Below w.heap.size w w1) : Vx w1 b k n s := ⟨dec.keeps hb h.1, dec.keeps hb h.2.1, dec.keeps hb h.2.2⟩
theorem Vx.past {w : World} {b : Nat} {k n : Int} {s : ByteArray} (h : Vx w b k n s) (o : Obj) : Vx (w.alloc o) b k n s := h.keeps (balloc (b0 w) o)
theorem isSpelled_any (k n : Int) (s : ByteArray) (hs : s.size ≤ 140737488355328) (w : World) : Calls Tryz.prog 206 #[.agg #[.int .i64 k, .int .i64 n, .string s]] w fun e w' => e = .returned (.bool (spl ⟨k, n, s⟩)) ∧ Below w.heap.size w w' := by
 have C1 : Hid (∀ w, Calls Tryz.prog 259 #[.int .u8 32, .string s] w fun e w' => e = .returned (.bool (pB 32 s.data.toList)) ∧ w = w') := Lib.hid (fun w => consists_any 32 s (by omega) w)
 have C2 : Hid (∀ w, Calls Tryz.prog 259 #[.int .u8 33, .string s] w fun e w' => e = .returned (.bool (pB 33 s.data.toList)) ∧ w = w') := Lib.hid (fun w => consists_any 33 s (by omega) w)
 by_cases k4 : k = 4
 ·subst k4
  clear C2
  go_enter Tryz.func206, Tryz.ntmps206
  go_wp2_with fail
  refine (C1.out _).mono ?_
  rintro e w' ⟨rfl, rfl⟩
  go_wp2
  go_ret
  refine ⟨congrArg (fun b => Ending.returned (Value.bool b)) ?_, balloc (b0 _) _⟩
  simp [spl]
 by_cases k5 : k = 5
 ·subst k5
  clear C1
  by_cases hz : s.size = 0
  ·have hz2 := size_zero hz
   subst hz2
   go_enter Tryz.func206, Tryz.ntmps206
   go_wp2_with fail
   go_ret
   refine ⟨congrArg (fun b => Ending.returned (Value.bool b)) ?_, balloc (b0 _) _⟩
   simp [spl]
  ·have he : s.toList.isEmpty = false := by rw [emp]; exact decide_eq_false hz
   go_enter Tryz.func206, Tryz.ntmps206
   go_wp2_with fail
   refine (C2.out _).mono ?_
   rintro e w' ⟨rfl, rfl⟩
   go_wp2
   go_ret
   refine ⟨congrArg (fun b => Ending.returned (Value.bool b)) ?_, balloc (b0 _) _⟩
   simp_all [spl]
 clear C1 C2
 go_enter Tryz.func206, Tryz.ntmps206
 go_wp2_with fail
 go_ret
 refine ⟨congrArg (fun b => Ending.returned (Value.bool b)) ?_, balloc (b0 _) _⟩
 simp_all [spl]
theorem check_any (k n : Int) (s : ByteArray) (hs : s.size ≤ 140737488355328) (w : World) : Calls Tryz.prog 145 #[.agg #[.int .i64 k, .int .i64 n, .string s]] w fun e w' => e = .returned (.int .i64 (ck ⟨k, n, s⟩)) ∧ Below w.heap.size w w' := by
 have C1 := Lib.hid (isFormed_any k n s)
 have C2 := Lib.hid (isLimited_any k n s)
 have C3 := Lib.hid (isSpelled_any k n s hs)
 have V0 := Vx.new w k n s 23
 unfold ck
 generalize fmd ⟨k, n, s⟩ = f at *
 generalize lmt ⟨k, n, s⟩ = l at *
 generalize spl ⟨k, n, s⟩ = p at *
 go_enter Tryz.func145, Tryz.ntmps145
 go_wp2_with fail
 refine (C1.out _).mono ?_
 rintro e w1 ⟨rfl, b1⟩
 obtain ⟨c0, c1, c2⟩ := V0.keeps b1
 have V1 := Lib.hid (V0.keeps b1)
 replace b1 := (balloc (b0 w) _).trans (b1.mono (by simp))
 cases f
 ·go_wp2_with fail
  go_ret
  exact ⟨rfl, b1⟩
 go_wp2_with fail
 refine (C2.out _).mono ?_
 rintro e w2 ⟨rfl, b2⟩
 obtain ⟨c0, c1, c2⟩ := V1.out.keeps b2
 have V2 := Lib.hid (V1.out.keeps b2)
 replace b2 := bnext b1 b2
 cases l
 ·go_wp2_with fail
  go_ret
  exact ⟨rfl, b2⟩
 go_wp2_with fail
 refine (C3.out _).mono ?_
 rintro e w3 ⟨rfl, b3⟩
 replace b3 := bnext b2 b3
 cases p
 ·go_wp2_with fail
  go_ret
  exact ⟨rfl, b3⟩
 ·go_wp2_with fail
  go_ret
  exact ⟨rfl, b3⟩
end Go.Proofs.YtbahfelnbofjjaaGreatDoor
namespace Go.Proofs.YtbahfelnbofjjaaGreatDoor
open Go.RowKit dec
theorem ret_int {k : IntKind} {a b : Int} (h : a = b) : Ending.returned (Value.int k a) = .returned (.int k b) := by rw [h]
theorem ret_bool {a b : Bool} (h : a = b) : Ending.returned (Value.bool a) = .returned (.bool b) := by rw [h]
end Go.Proofs.YtbahfelnbofjjaaGreatDoor
namespace Go.Proofs.YtbahfelnbofjjaaGreatDoor
open Go.RowKit dec
def prB (k : Int) (s : ByteArray) : Bool := decide (shp s.data.toList = (k, s.size)) && decide (flt k s.data.toList = 0)
theorem prB_pr (x : Tk) {s : ByteArray} (h : s.data.toList = so x) : prB x.k s = pr x := by
 unfold prB pr
 rw [h, ← h, str_len]
theorem add_str (x y : List UInt8) (hx : x.length ≤ 1048576) (hy : y.length ≤ 1048576) (W : World) : (Op.stringOp .add ⟨x.toArray⟩ ⟨y.toArray⟩).run Tryz.prog W = .ok (.string ⟨(x ++ y).toArray⟩) W := run_string_add_lists W x y (by omega) (by omega)
end Go.Proofs.YtbahfelnbofjjaaGreatDoor
namespace Go.Proofs.YtbahfelnbofjjaaGreatDoor
open Go.RowKit dec
def kwL : List (List UInt8) := [[116, 97, 98, 108, 101], [102, 101, 97, 116, 117, 114, 101], [111, 102], [107, 101, 101, 112], [98, 111, 111, 108], [116, 101, 120, 116], [107, 101, 121], [105, 110, 116], [100, 101, 99], [105, 102], [116, 104, 101, 110], [101, 108, 115, 101], [100, 101, 102, 97, 117, 108, 116], [111, 114], [97, 110, 100], [110, 111, 116], [116, 114, 117, 101], [102, 97, 108, 115, 101], [110, 117, 108, 108], [99, 111, 117, 110, 116], [115, 117, 109], [109, 101, 97, 110], [109, 105, 110], [109, 97, 120], [102, 105, 114, 115, 116], [108, 97, 115, 116], [100, 105, 115, 116, 105, 110, 99, 116], [113, 117, 97, 110, 116, 105, 108, 101], [100, 101, 99, 97, 121], [97, 108, 108], [115, 108, 105, 100, 105, 110, 103], [116, 117, 109, 98, 108, 105, 110, 103], [115, 101, 115, 115, 105, 111, 110], [119, 104, 101, 114, 101]]
def kw (s : ByteArray) : Bool := kwL.any fun l => s.toList == l
theorem keyword_any (s : ByteArray) (w : World) :
  Calls Tryz.prog 99 #[.string s] w fun e w' => e = .returned (.bool (kw s)) ∧ w' = w := by
 go_enter Tryz.func99, Tryz.ntmps99
 go_wp2
 all_goals go_ret
 all_goals refine ⟨ret_bool ?_, rfl⟩
 all_goals first | (rename_i h1 h2; rw [h1] at h2; cases h2; done) | (unfold kw kwL; simp [*]; done)
def name (s : ByteArray) : Bool := prB 1 s && !kw s
end Go.Proofs.YtbahfelnbofjjaaGreatDoor
namespace Go.Proofs.YtbahfelnbofjjaaGreatDoor
open Go.RowKit dec
theorem faultW_any (s : ByteArray) (w : World) :
  Calls Tryz.prog 86 #[.int .i64 1, .string s] w fun e w' => e = .returned (.int .i64 (flt 1 s.data.toList)) ∧ Below w.heap.size w w' := by
 have hf := Lib.hid (flt_one s.data.toList)
 rw [str_len] at hf
 by_cases hc : 24 < s.size
 ·have q : decide (24 < (s.size : Int)) = true := decide_eq_true (by omega)
  rw [if_pos hc] at hf
  go_enter Tryz.func86, Tryz.ntmps86
  go_wp2_with fail
  go_ret
  exact ⟨ret_int hf.out.symm, b0 w⟩
 ·have q : decide (24 < (s.size : Int)) = false := decide_eq_false (by omega)
  rw [if_neg hc] at hf
  go_enter Tryz.func86, Tryz.ntmps86
  go_wp2_with fail
  go_ret
  exact ⟨ret_int hf.out.symm, b0 w⟩
theorem isTokenW_any (s : ByteArray) (hs : s.size ≤ 140737488355328) (w : World) (T : Tabs w) :
  Calls Tryz.prog 91 #[.int .i64 1, .string s] w fun e w' => e = .returned (.bool (prB 1 s)) ∧ Below w.heap.size w w' := by
 have SC := Lib.hid (shape_any s hs w T)
 clear T
 obtain ⟨q, hq⟩ : ∃ q, shp s.data.toList = q := ⟨_, rfl⟩
 obtain ⟨k1, n⟩ := q
 rw [hq] at SC
 by_cases h1 : k1 = 1
 ·subst h1
  by_cases h2 : n = s.size
  ·subst h2
   have q2 : ((s.size : Int) == (s.size : Int)) = true := by rw [beq_iff_eq]
   have FC := Lib.hid (fun W => faultW_any s W)
   have hp := Lib.hid (show prB 1 s = (flt 1 s.data.toList == 0) by unfold prB; rw [decide_eq_true hq, Bool.true_and, eqb])
   clear hq hs
   generalize flt 1 s.data.toList = f at *
   go_enter Tryz.func91, Tryz.ntmps91
   go_wp2_with fail
   refine SC.out.mono ?_
   rintro e w1 ⟨rfl, b1⟩
   have B1 := Lib.hid b1
   clear b1
   go_wp2_with fail
   refine (FC.out _).mono ?_
   rintro e w2 ⟨rfl, b2⟩
   have B2 := Lib.hid (bnext B1.out b2)
   clear b2
   generalize hf : (f == 0) = b at *
   cases b
   ·go_wp2_with fail
    go_ret
    exact ⟨ret_bool hp.out.symm, B2.out⟩
   ·go_wp2_with fail
    go_ret
    exact ⟨ret_bool hp.out.symm, B2.out⟩
  ·have q2 : ((n : Int) == (s.size : Int)) = false := by rw [beq_eq_false_iff_ne]; omega
   have hp := Lib.hid (show prB 1 s = false by unfold prB; rw [decide_eq_false (by rw [hq]; intro e; exact h2 (Prod.mk.inj e).2), Bool.false_and])
   clear hq hs h2
   go_enter Tryz.func91, Tryz.ntmps91
   go_wp2_with fail
   refine SC.out.mono ?_
   rintro e w1 ⟨rfl, b1⟩
   have B1 := Lib.hid b1
   clear b1
   go_wp2_with fail
   go_ret
   exact ⟨ret_bool hp.out.symm, B1.out⟩
 ·have q1 : (k1 == 1) = false := by rw [beq_eq_false_iff_ne]; exact h1
  have hp := Lib.hid (show prB 1 s = false by unfold prB; rw [decide_eq_false (by rw [hq]; intro e; exact h1 (Prod.mk.inj e).1), Bool.false_and])
  clear hq hs h1
  go_enter Tryz.func91, Tryz.ntmps91
  go_wp2_with fail
  refine SC.out.mono ?_
  rintro e w1 ⟨rfl, b1⟩
  have B1 := Lib.hid b1
  clear b1
  go_wp2_with fail
  go_ret
  exact ⟨ret_bool hp.out.symm, B1.out⟩
theorem nameW_any (s : ByteArray) (hs : s.size ≤ 140737488355328) (w : World) (T : Tabs w) :
  Calls Tryz.prog 43 #[.string s] w fun e w' => e = .returned (.bool (name s)) ∧ Below w.heap.size w w' := by
 have IC := Lib.hid (isTokenW_any s hs w T)
 have KC := Lib.hid (fun W => keyword_any s W)
 have hn : Hid (name s = (prB 1 s && !kw s)) := Lib.hid rfl
 generalize prB 1 s = p at *
 generalize kw s = q at *
 clear T
 cases p
 ·go_enter Tryz.func43, Tryz.ntmps43
  go_wp2_with fail
  refine IC.out.mono ?_
  rintro e w1 ⟨rfl, b1⟩
  have B1 := Lib.hid b1
  clear b1
  go_wp2_with fail
  go_ret
  exact ⟨ret_bool hn.out.symm, B1.out⟩
 ·go_enter Tryz.func43, Tryz.ntmps43
  go_wp2_with fail
  refine IC.out.mono ?_
  rintro e w1 ⟨rfl, b1⟩
  have B1 := Lib.hid b1
  clear b1
  go_wp2_with fail
  refine (KC.out _).mono ?_
  rintro e w2 ⟨rfl, rfl⟩
  go_wp2_with fail
  go_ret
  exact ⟨ret_bool hn.out.symm, B1.out⟩
end Go.Proofs.YtbahfelnbofjjaaGreatDoor
namespace Go.Proofs.YtbahfelnbofjjaaGreatDoor.un
theorem less_irr : ∀ (l : List UInt8), Op.bytesLess l l = false
 | [] => rfl
 | a :: x => by rw [Op.bytesLess, less_irr x]; simp
theorem u8_lt {a b : UInt8} : (a < b) = (a.toNat < b.toNat) := rfl
theorem u8_eq {a b : UInt8} : (a = b) = (a.toNat = b.toNat) := propext ⟨fun h => by rw [h], fun h => UInt8.toNat_inj.1 h⟩
theorem less_cons (a b : UInt8) (x y : List UInt8) : Op.bytesLess (a :: x) (b :: y) = true ↔ a.toNat < b.toNat ∨ (a.toNat = b.toNat ∧ Op.bytesLess x y = true) := by
 rw [Op.bytesLess, Bool.or_eq_true, Bool.and_eq_true, decide_eq_true_eq, beq_iff_eq, u8_lt, u8_eq]
theorem less_tr : ∀ (x y z : List UInt8), Op.bytesLess x y = true → Op.bytesLess y z = true → Op.bytesLess x z = true
 | [], [], z, h, _ => by cases h
 | [], b :: y, [], _, h => by cases h
 | [], b :: y, c :: z, _, _ => rfl
 | a :: x, [], z, h, _ => by cases h
 | a :: x, b :: y, [], _, h => by cases h
 | a :: x, b :: y, c :: z, h1, h2 => by
  rw [less_cons] at *
  rcases h1 with h1 | ⟨h1, h1'⟩ <;> rcases h2 with h2 | ⟨h2, h2'⟩
  ·omega
  ·omega
  ·omega
  ·exact .inr ⟨by omega, less_tr x y z h1' h2'⟩
theorem less_tri : ∀ (x y : List UInt8), Op.bytesLess x y = false → x ≠ y → Op.bytesLess y x = true
 | [], [], _, h => absurd rfl h
 | [], b :: y, h, _ => by cases h
 | a :: x, [], _, _ => rfl
 | a :: x, b :: y, h, hne => by
  have h' : ¬ Op.bytesLess (a :: x) (b :: y) = true := by rw [h]; decide
  rw [less_cons] at h' ⊢
  by_cases e : a.toNat = b.toNat
  ·refine .inr ⟨e.symm, less_tri x y ?_ ?_⟩
   ·cases hx : Op.bytesLess x y
    ·rfl
    ·exact absurd (.inr ⟨e, hx⟩) h'
   ·intro hxy
    apply hne
    rw [hxy, UInt8.toNat_inj.1 e]
  ·exact .inl (by omega)
theorem toList_inj {a b : ByteArray} (h : a.toList = b.toList) : a = b := by
 rw [ByteArray.toList_eq, ByteArray.toList_eq] at h
 cases a; cases b
 simp only at h
 rw [Array.toList_inj.1 h]
def ltS (a b : ByteArray) : Bool := Op.bytesLess a.toList b.toList
theorem ltS_irr (a : ByteArray) : ltS a a = false := less_irr _
theorem ltS_tr {a b c : ByteArray} (h1 : ltS a b = true) (h2 : ltS b c = true) : ltS a c = true := less_tr _ _ _ h1 h2
theorem ltS_as {a b : ByteArray} (h : ltS a b = true) : ltS b a = false := by
 cases h' : ltS b a
 ·rfl
 ·have := ltS_tr h h'
  rw [ltS_irr] at this; cases this
theorem ltS_ne {a b : ByteArray} (h : ltS a b = true) : a ≠ b := fun e => by rw [e, ltS_irr] at h; cases h
theorem ltS_empty (b : ByteArray) : ltS .empty b = decide (b.size ≠ 0) := by
 have e : b.size = b.toList.length := by rw [ByteArray.toList_eq]; rfl
 unfold ltS
 rw [e]
 have e0 : ByteArray.empty.toList = [] := by rw [ByteArray.toList_eq]; rfl
 rw [e0]
 cases b.toList <;> rfl
abbrev Fa := ByteArray × Int
def lett (c : Int) : Bool := decide (97 ≤ c ∧ c ≤ 122)
def digi (c : Int) : Bool := decide (48 ≤ c ∧ c ≤ 57)
def wch (c : UInt8) : Bool := lett c.toNat || (digi c.toNat || c.toNat == 95)
def wordL (l : List UInt8) : Bool := decide (1 ≤ l.length ∧ l.length ≤ 24) && (lett (l.headD 0).toNat && l.all wch)
def word (s : ByteArray) : Bool := wordL s.data.toList
def far (n : Int) : Bool := decide (8 < n ∨ n < -8)
def ck1 (b : ByteArray) (x : Fa) : Int := if word x.1 = false then 1 else if x.2 = 0 ∨ far x.2 = true then 70 else if ltS b x.1 = true then 0 else 3
def ckFrom (b : ByteArray) : List Fa → Int
 | [] => 0
 | x :: l => if ck1 b x = 0 then ckFrom x.1 l else ck1 b x
def ck (l : List Fa) : Int := if 4 < l.length then 2 else ckFrom .empty l
def Srt (l : List Fa) : Prop := l.Pairwise fun x y => ltS x.1 y.1 = true
structure Ok (l : List Fa) : Prop where
 le : l.length ≤ 4
 good : ∀ x ∈ l, word x.1 = true ∧ x.2 ≠ 0 ∧ far x.2 = false
 srt : Srt l
theorem word_size {s : ByteArray} (h : word s = true) : 1 ≤ s.size ∧ s.size ≤ 24 := by
 unfold word wordL at h
 simp only [Bool.and_eq_true, decide_eq_true_eq] at h
 rw [Lib.size_eq]
 exact h.1
theorem ck1_zero {b : ByteArray} {x : Fa} (h : ck1 b x = 0) : word x.1 = true ∧ x.2 ≠ 0 ∧ far x.2 = false ∧ ltS b x.1 = true := by
 unfold ck1 at h
 split at h
 ·cases h
 ·split at h
  ·cases h
  ·split at h
   ·refine ⟨by simp_all, by simp_all, by simp_all, by assumption⟩
   ·cases h
theorem ck1_of {b : ByteArray} {x : Fa} (h1 : word x.1 = true) (h2 : x.2 ≠ 0) (h3 : far x.2 = false) (h4 : ltS b x.1 = true) : ck1 b x = 0 := by
 unfold ck1
 rw [h1, h3, h4]
 simp [h2]
theorem ckFrom_ok : ∀ (l : List Fa) (b : ByteArray), ckFrom b l = 0 → (∀ x ∈ l, word x.1 = true ∧ x.2 ≠ 0 ∧ far x.2 = false) ∧ Srt l ∧ ∀ x ∈ l, ltS b x.1 = true
 | [], _, _ => ⟨fun x h => (by cases h), .nil, fun x h => by cases h⟩
 | x :: l, b, h => by
  unfold ckFrom at h
  split at h
  ·rename_i h0
   obtain ⟨a1, a2, a3, a4⟩ := ck1_zero h0
   obtain ⟨i1, i2, i3⟩ := ckFrom_ok l x.1 h
   refine ⟨fun y hy => ?_, List.pairwise_cons.2 ⟨fun y hy => i3 y hy, i2⟩, fun y hy => ?_⟩
   ·rcases List.mem_cons.1 hy with rfl | hy
    ·exact ⟨a1, a2, a3⟩
    ·exact i1 y hy
   ·rcases List.mem_cons.1 hy with rfl | hy
    ·exact a4
    ·exact ltS_tr a4 (i3 y hy)
  ·rename_i h0
   exact absurd h h0
theorem ckFrom_of : ∀ (l : List Fa) (b : ByteArray), (∀ x ∈ l, word x.1 = true ∧ x.2 ≠ 0 ∧ far x.2 = false) → Srt l → (∀ x ∈ l, ltS b x.1 = true) → ckFrom b l = 0
 | [], _, _, _, _ => rfl
 | x :: l, b, h1, h2, h3 => by
  obtain ⟨g1, g2, g3⟩ := h1 x (List.mem_cons_self ..)
  obtain ⟨p1, p2⟩ := List.pairwise_cons.1 h2
  unfold ckFrom
  rw [if_pos (ck1_of g1 g2 g3 (h3 x (List.mem_cons_self ..)))]
  exact ckFrom_of l x.1 (fun y hy => h1 y (List.mem_cons_of_mem _ hy)) p2 p1
theorem ck_iff (l : List Fa) : ck l = 0 ↔ Ok l := by
 unfold ck
 constructor
 ·intro h
  split at h
  ·cases h
  ·obtain ⟨a, b, _⟩ := ckFrom_ok l _ h
   exact ⟨by omega, a, b⟩
 ·intro h
  rw [if_neg (by have := h.le; omega)]
  refine ckFrom_of l _ h.good h.srt fun x hx => ?_
  rw [ltS_empty]
  have := word_size (h.good x hx).1
  exact decide_eq_true (by omega)
theorem Ok.nil : Ok [] := ⟨by simp, fun x h => (by cases h), .nil⟩
def ex : List Fa → ByteArray → Int
 | [], _ => 0
 | x :: l, n => (if x.1 = n then x.2 else 0) + ex l n
def ins (x : ByteArray) : List ByteArray → List ByteArray
 | [] => [x]
 | y :: l => if ltS y x = true then y :: ins x l else if y = x then y :: l else x :: y :: l
def ns (l : List Fa) : List ByteArray := l.foldl (fun o x => ins x.1 o) []
def nzOf (l : List Fa) (o : List ByteArray) : List Fa := (o.filter fun n => decide (ex l n ≠ 0)).map fun n => (n, ex l n)
def nz (l : List Fa) : List Fa := nzOf l (ns l)
def wds (l : List Fa) : Bool := l.all fun x => word x.1
def anyFar (l : List Fa) : Bool := (ns l).any fun n => far (ex l n)
def nE (l : List Fa) : Int := if wds l = true then (if anyFar l = true then 70 else if 4 < (nz l).length then 2 else 0) else 1
theorem wds_iff {l : List Fa} : wds l = true ↔ ∀ x ∈ l, word x.1 = true := by unfold wds; rw [List.all_eq_true]
theorem Ok.wds {l : List Fa} (h : Ok l) : wds l = true := wds_iff.2 fun x hx => (h.good x hx).1
def sc (p : Int) (b : List Fa) : List Fa := b.map fun x => (x.1, x.2 * p)
def cE (p : Int) (a b : List Fa) : Int := if ck a = 0 then (if ck b = 0 then nE (a ++ sc p b) else ck b) else ck a
end Go.Proofs.YtbahfelnbofjjaaGreatDoor.un
