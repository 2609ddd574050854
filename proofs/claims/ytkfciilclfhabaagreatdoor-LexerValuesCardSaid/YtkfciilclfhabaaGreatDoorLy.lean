/-
  What the tokens of sources have to do with each other: tokens alone, gaps between them, sources one after the other, offsets.
-/
import Derived.Test.YtkfciilclfhabaaGreatDoorLx
import Derived.Lib.Join
namespace Go.Proofs.YtkfciilclfhabaaGreatDoor
open dec

def Sep (x : List UInt8) : Prop := x = [] ∨ ∃ r, x = 32 :: r
theorem run_end {p : UInt8 → Bool} (h : p 32 = false) {x : List UInt8} (hx : Sep x) (l : List UInt8) : run p (l ++ x) = run p l := by
  rcases hx with rfl | ⟨r, rfl⟩
  · rw [List.append_nil]
  · exact run_stop h r l
theorem take_run (p : UInt8 → Bool) (l : List UInt8) : run p (l.take (run p l)) = run p l := by rw [run_take]; omega
theorem drop_cons {l : List UInt8} {n : Nat} {c : UInt8} (h : (l.drop n).head? = some c) : l.drop n = c :: l.drop (n + 1) := by
  have hl := head_len h
  rw [List.drop_eq_getElem_cons hl] at h ⊢
  simp only [List.head?_cons, Option.some.injEq] at h
  rw [h]
theorem split_at {l : List UInt8} {n : Nat} {c : UInt8} (h : (l.drop n).head? = some c) : l = l.take n ++ c :: l.drop (n + 1) := by
  rw [← drop_cons h, List.take_append_drop]
theorem take_len {l : List UInt8} {n : Nat} (h : n ≤ l.length) : (l.take n).length = n := by rw [List.length_take]; omega
theorem take_past {l r : List UInt8} {m : Nat} (k : Nat) (h : m = l.length) : (l ++ r).take (m + k) = l ++ r.take k := by
  subst h
  exact List.take_length_add_append k
theorem drop_to {l r : List UInt8} {m : Nat} (h : m = l.length) : (l ++ r).drop m = r := by subst h; exact List.drop_left' rfl
theorem take_more {l : List UInt8} {n : Nat} {c : UInt8} (h : (l.drop n).head? = some c) (k : Nat) : l.take (n + 1 + k) = l.take n ++ c :: (l.drop (n + 1)).take k := by
  rw [show n + 1 + k = n + (k + 1) by omega, List.take_add, drop_cons h, List.take_succ_cons]
theorem pnt_sep {x : List UInt8} (hx : Sep x) : pnt x = 0 := by
  rcases hx with rfl | ⟨r, rfl⟩
  · rfl
  · rfl
theorem pnt_some {l : List UInt8} (h : pnt l ≠ 0) : ∃ c r, l = c :: r ∧ c.toNat = 46 ∧ pnt l = run isD r := by
  cases l with
  | nil => exact absurd rfl h
  | cons c r =>
    rw [pnt_cons] at h ⊢
    split at h
    · rename_i hc
      exact ⟨c, r, rfl, hc, by rw [if_pos hc]⟩
    · exact absurd rfl h
theorem isD_46 {c : UInt8} (h : c.toNat = 46) : isD c = false := by unfold isD; rw [h]; rfl
theorem isQ_34 {c : UInt8} (h : c.toNat = 34) : isQ c = false := by unfold isQ; rw [h]; rfl
theorem toNat_of {c : UInt8} {d : UInt8} (h : c.toNat = d.toNat) : c = d := UInt8.toNat_inj.1 h
theorem sign_34 {c : UInt8} (h : isS c = true ∨ c.toNat = 61 ∨ c.toNat = 33 ∨ c.toNat = 60) : c.toNat ≠ 34 := by
  intro e
  rcases h with h | h
  · unfold isS at h
    rw [e] at h
    exact absurd h (by decide)
  · omega
/-- A token, with nothing or a blank behind it, has its shape. -/
theorem shp_part {l x : List UInt8} (hk : (shp l).1 ≠ 0) (hx : Sep x) : shp (l.take (shp l).2 ++ x) = shp l := by
  cases l with
  | nil => exact absurd rfl hk
  | cons c r =>
    by_cases hl : isL c = true
    · have e : shp (c :: r) = (1, run isW r + 1) := by rw [shp_cons, if_pos hl, run_cons (isW_L hl)]
      rw [e, List.take_succ_cons, List.cons_append, shp_cons, if_pos hl, run_cons (isW_L hl), run_end (by decide) hx, take_run]
    · by_cases hd : isD c = true
      · have ed := run_cons hd r
        by_cases hp : pnt ((c :: r).drop (run isD (c :: r))) = 0
        · have e : shp (c :: r) = (2, run isD r + 1) := by rw [shp_cons, if_neg hl, if_pos hd, if_pos hp, ed]
          have e2 : run isD (c :: (r.take (run isD r) ++ x)) = run isD r + 1 := by rw [run_cons hd, run_end (by decide) hx, take_run]
          rw [e, List.take_succ_cons, List.cons_append, shp_cons, if_neg hl, if_pos hd, e2, List.drop_succ_cons, drop_to (take_len (run_le _ _)).symm, if_pos (pnt_sep hx)]
        · have e : shp (c :: r) = (3, run isD (c :: r) + 1 + pnt ((c :: r).drop (run isD (c :: r)))) := by rw [shp_cons, if_neg hl, if_pos hd, if_neg hp]
          obtain ⟨d, y, hy, h46, hq⟩ := pnt_some hp
          have hs := split_at (l := c :: r) (n := run isD (c :: r)) (c := d) (by rw [hy]; rfl)
          have hy2 : (c :: r).drop (run isD (c :: r) + 1) = y := by
            have := drop_cons (l := c :: r) (n := run isD (c :: r)) (c := d) (by rw [hy]; rfl)
            rw [hy] at this
            exact (List.cons.inj this).2.symm
          rw [hy2] at hs
          rw [e, hq]
          have hn := take_len (run_le isD (c :: r))
          have et : (c :: r).take (run isD (c :: r) + 1 + run isD y) = (c :: r).take (run isD (c :: r)) ++ d :: y.take (run isD y) := by
            rw [take_more (c := d) (by rw [hy]; rfl), hy2]
          have hc : (c :: r).take (run isD (c :: r)) = c :: r.take (run isD r) := by rw [ed, List.take_succ_cons]
          have et2 : (c :: r).take (run isD (c :: r) + 1 + run isD y) ++ x = c :: (r.take (run isD r) ++ d :: (y.take (run isD y) ++ x)) := by
            rw [et, hc]; simp
          have en : run isD (c :: (r.take (run isD r) ++ d :: (y.take (run isD y) ++ x))) = run isD r + 1 := by
            rw [run_cons hd, run_stop (isD_46 h46), take_run]
          have ep : pnt ((c :: (r.take (run isD r) ++ d :: (y.take (run isD y) ++ x))).drop (run isD r + 1)) = run isD y := by
            rw [List.drop_succ_cons, drop_to (take_len (run_le _ _)).symm, pnt_cons, if_pos h46, run_end (by decide) hx, take_run]
          rw [et2, shp_cons, if_neg hl, if_pos hd, en, ep, if_neg (by omega), ed]
      · by_cases hq : c.toNat = 34 ∧ (r.drop (run isQ r)).head? = some 34
        · have e : shp (c :: r) = (4, run isQ r + 1 + 1) := by rw [shp_cons, if_neg hl, if_neg hd, if_pos hq]
          have hs := split_at hq.2
          have et : r.take (run isQ r + 1) = r.take (run isQ r) ++ [34] := by
            have := take_more hq.2 0
            simpa using this
          have en : run isQ (r.take (run isQ r) ++ 34 :: x) = run isQ r := by rw [run_stop (by decide), take_run]
          rw [e, List.take_succ_cons, List.cons_append, et, List.append_assoc, shp_cons, if_neg hl, if_neg hd]
          show (if c.toNat = 34 ∧ ((r.take (run isQ r) ++ 34 :: x).drop (run isQ (r.take (run isQ r) ++ 34 :: x))).head? = some 34 then (4, run isQ (r.take (run isQ r) ++ 34 :: x) + 2) else _) = _
          rw [en, drop_to (take_len (run_le _ _)).symm, if_pos ⟨hq.1, rfl⟩]
        · have e : shp (c :: r) = sgn (c :: r) := by rw [shp_cons, if_neg hl, if_neg hd, if_neg hq]
          rw [e] at hk ⊢
          rw [sgn_cons] at hk ⊢
          by_cases h2 : (c.toNat = 61 ∨ c.toNat = 33 ∨ c.toNat = 60) ∧ r.head? = some 61
          · rw [if_pos h2]
            cases r with
            | nil => cases h2.2
            | cons d r =>
              have hd61 : d = 61 := by simpa using h2.2
              subst hd61
              show shp (c :: 61 :: x) = _
              rw [shp_cons, if_neg hl, if_neg hd, if_neg (fun h => sign_34 (.inr h2.1) h.1), sgn_cons, if_pos ⟨h2.1, rfl⟩]
          · rw [if_neg h2] at hk ⊢
            by_cases hS : isS c = true
            · rw [if_pos hS]
              show shp (c :: x) = _
              rw [shp_cons, if_neg hl, if_neg hd, if_neg (fun h => sign_34 (.inl hS) h.1), sgn_cons, if_neg, if_pos hS]
              rintro ⟨_, h⟩
              rcases hx with rfl | ⟨r, rfl⟩
              · cases h
              · cases h
            · rw [if_neg hS] at hk
              exact absurd rfl hk
/-- A byte 10 behind a source does not change its shape. -/
theorem shp_line {l : List UInt8} (h0 : l ≠ []) (s : List UInt8) : shp (l ++ 10 :: s) = shp l := by
  cases l with
  | nil => exact absurd rfl h0
  | cons c r =>
    have hW := run_stop (p := isW) (d := 10) (by decide) s (c :: r)
    have hD := run_stop (p := isD) (d := 10) (by decide) s (c :: r)
    have hQ := run_stop (p := isQ) (d := 10) (by decide) s r
    rw [List.cons_append] at hW hD ⊢
    rw [shp_cons, shp_cons, hW, hD, hQ, sgn_cons, sgn_cons]
    have hp : pnt ((c :: (r ++ 10 :: s)).drop (run isD (c :: r))) = pnt ((c :: r).drop (run isD (c :: r))) := by
      rw [← List.cons_append, List.drop_append_of_le_length (run_le _ _)]
      generalize (c :: r).drop (run isD (c :: r)) = y
      cases y with
      | nil => rfl
      | cons d y => rw [List.cons_append, pnt_cons, pnt_cons, run_stop (by decide)]
    have hq : ((r ++ 10 :: s).drop (run isQ r)).head? = some 34 ↔ (r.drop (run isQ r)).head? = some 34 := by
      rw [List.drop_append_of_le_length (run_le _ _)]
      generalize r.drop (run isQ r) = y
      cases y with
      | nil => simp
      | cons d y => simp
    have h6 : (r ++ 10 :: s).head? = some 61 ↔ r.head? = some 61 := by
      cases r with
      | nil => simp
      | cons d y => simp
    simp only [hp, hq, h6]
theorem shp_head {l : List UInt8} (hk : (shp l).1 ≠ 0) (x : List UInt8) : sk false (l ++ x) = 0 := by
  cases l with
  | nil => exact absurd rfl hk
  | cons c r =>
    rw [List.cons_append]
    refine sk_none ?_ ?_ _
    · cases hb : isB c
      · rfl
      · exfalso
        apply hk
        have hb' := hb
        unfold isB at hb'
        simp only [Bool.or_eq_true, decide_eq_true_eq] at hb'
        have h1 : ¬ isL c = true := by unfold isL; rw [Bool.and_eq_true, decide_eq_true_eq, decide_eq_true_eq]; omega
        have h2 : ¬ isD c = true := by unfold isD; rw [Bool.and_eq_true, decide_eq_true_eq, decide_eq_true_eq]; omega
        have h3 : ¬ isS c = true := by
          unfold isS
          rw [decide_eq_true_eq]
          simp
          omega
        rw [shp_cons, if_neg h1, if_neg h2, if_neg (by omega), sgn_cons, if_neg (by omega), if_neg h3]
    · intro hb'
      apply hk
      have h1 : ¬ isL c = true := by unfold isL; rw [Bool.and_eq_true, decide_eq_true_eq, decide_eq_true_eq]; omega
      have h2 : ¬ isD c = true := by unfold isD; rw [Bool.and_eq_true, decide_eq_true_eq, decide_eq_true_eq]; omega
      have h3 : ¬ isS c = true := by
        unfold isS
        rw [decide_eq_true_eq]
        simp
        omega
      rw [shp_cons, if_neg h1, if_neg h2, if_neg (by omega), sgn_cons, if_neg (by omega), if_neg h3]
/-- What stands between the quotes of a text. -/
theorem shp_text {l : List UInt8} (h : (shp l).1 = 4) : l.take (shp l).2 = 34 :: (cont 4 (l.take (shp l).2) ++ [34]) := by
  cases l with
  | nil => cases h
  | cons c r =>
    rw [shp_cons] at h ⊢
    split at h
    · cases h
    · rename_i hl
      split at h
      · split at h <;> cases h
      · rename_i hd
        split at h
        · rename_i hq
          rw [if_neg hl, if_neg hd, if_pos hq]
          have hs := split_at hq.2
          have et : r.take (run isQ r + 1) = r.take (run isQ r) ++ [34] := by
            have := take_more hq.2 0
            simpa using this
          have hc : c = 34 := toNat_of hq.1
          subst hc
          show (34 :: r).take (run isQ r + 1 + 1) = _
          rw [List.take_succ_cons, et]
          unfold cont
          rw [if_pos rfl]
          simp
        · rw [sgn_cons] at h
          split at h
          · cases h
          · split at h <;> cases h
theorem cont_other {k : Int} (h : k ≠ 4) (p : List UInt8) : cont k p = p := by unfold cont; rw [if_neg h]
/-- The source of a token that was found. -/
theorem so_part (l : List UInt8) (a : Int) : so ⟨(shp l).1, ⟨(cont (shp l).1 (l.take (shp l).2)).toArray⟩, a⟩ = l.take (shp l).2 := by
  unfold so
  by_cases h : (shp l).1 = 4
  · rw [if_pos h, h]
    exact (shp_text h).symm
  · rw [if_neg h]
    show (cont _ _) = _
    rw [cont_other h]
theorem cont_so (x : Tk) : cont x.k (so x) = x.t.data.toList := by
  unfold cont so
  split
  · simp
  · rfl
/-- The token alone. -/
def pr (x : Tk) : Bool := decide (shp (so x) = (x.k, (so x).length)) && decide (flt x.k (so x) = 0)
theorem pr_iff (x : Tk) : pr x = true ↔ shp (so x) = (x.k, (so x).length) ∧ flt x.k (so x) = 0 := by unfold pr; rw [Bool.and_eq_true, decide_eq_true_eq, decide_eq_true_eq]
theorem pr_kind {x : Tk} (h : pr x = true) : x.k = 1 ∨ x.k = 2 ∨ x.k = 3 ∨ x.k = 4 ∨ x.k = 5 := by
  have h2 := (pr_iff x).1 h
  have h3 := shp_kind (so x)
  rw [h2.1] at h3
  rcases h3 with h3 | h3
  · have h4 := h2.2
    rw [show x.k = 0 from h3] at h4
    unfold flt at h4
    simp at h4
  · exact h3
theorem kt_pr {x y : Tk} (h1 : x.k = y.k) (h2 : x.t = y.t) : so x = so y ∧ pr x = pr y := by
  have : so x = so y := by unfold so; rw [h1, h2]
  refine ⟨this, ?_⟩
  unfold pr
  rw [this, h1]
theorem lex_tok {x : Tk} (h : pr x = true) {y : List UInt8} (hy : Sep y) (p : Nat) (f : Bool) :
    lxs p f (so x ++ y) = (⟨x.k, x.t, (p : Nat)⟩ :: (lxs (p + (so x).length) false y).1, (lxs (p + (so x).length) false y).2) := by
  have hk := pr_kind h
  obtain ⟨h1, h2⟩ := (pr_iff x).1 h
  have hk0 : (shp (so x)).1 ≠ 0 := by rw [h1]; show x.k ≠ 0; omega
  have hn : (shp (so x)).2 = (so x).length := by rw [h1]
  have hs := shp_head hk0 y
  have hp : shp (so x ++ y) = (x.k, (so x).length) := by
    have := shp_part hk0 hy
    rw [hn, List.take_length] at this
    rw [this, h1]
  have hne : so x ++ y ≠ [] := by
    intro e
    rw [(List.append_eq_nil_iff.1 e).1] at hk0
    exact hk0 rfl
  have ht : (so x ++ y).take (so x).length = so x := List.take_left
  have hd : (so x ++ y).drop (so x).length = y := List.drop_left
  have hk1 : x.k ≠ 0 := by omega
  rw [lex_step (l' := so x ++ y) (by rw [hs, List.drop_zero]) hne, hp, hs]
  simp only [ht, hd, h2, if_true, cont_so, Nat.add_zero, decide_eq_false hk1]
theorem lex_nil (p : Nat) (f : Bool) : lxs p f [] = ([], []) := lex_done rfl p f
theorem lex_alone {x : Tk} (h : pr x = true) (p : Nat) (f : Bool) : lxs p f (so x) = ([⟨x.k, x.t, (p : Nat)⟩], []) := by
  have := lex_tok h (.inl rfl) p f
  rw [List.append_nil, lex_nil] at this
  exact this
/-- What is skipped as a whole, wherever it stands. -/
structure Gp (g : List UInt8) : Prop where
  ne : ∃ r, g = 32 :: r
  sk : ∀ r, sk false (g ++ r) = g.length + sk false r
theorem gp_one : Gp [32] := ⟨⟨[], rfl⟩, fun r => by rw [List.singleton_append, sk_blank (by decide)]; simp; omega⟩
theorem lex_gap {g : List UInt8} (h : Gp g) (l : List UInt8) (p : Nat) (f : Bool) : lxs p f (g ++ l) = lxs (p + g.length) false l := by
  have hs := h.sk l
  have hg : 1 ≤ g.length := by obtain ⟨r, rfl⟩ := h.ne; simp
  have hd : (g ++ l).drop (g.length + sk false l) = l.drop (sk false l) := by
    rw [← List.drop_drop, List.drop_left]
  by_cases h0 : l.drop (sk false l) = []
  · rw [lex_done (by rw [hs, hd, h0]), lex_done h0]
  · rw [lex_step (by rw [hs, hd]) h0, lex_step rfl h0, hs, show p + (g.length + sk false l) = p + g.length + sk false l by omega]
    simp only [Bool.false_eq_true, false_and, and_false, if_false]
    rw [if_neg (show ¬ ((shp (l.drop (sk false l))).1 = 0 ∧ f = true ∧ g.length + sk false l = 0) by omega)]
/-- Tokens with gaps in front of them. -/
def mix : List (List UInt8 × Tk) → List UInt8 → List UInt8
  | [], e => e
  | (g, x) :: l, e => g ++ (so x ++ mix l e)
def kt (x : Tk) : Int × ByteArray := (x.k, x.t)
theorem mix_sep {e : List UInt8} (he : ∃ r, e = 32 :: r) : ∀ l : List (List UInt8 × Tk), (∀ q ∈ l, Gp q.1) → Sep (mix l e)
  | [], _ => .inr he
  | (g, x) :: l, h => by
    obtain ⟨r, hr⟩ := (h (g, x) (List.mem_cons_self ..)).ne
    right
    unfold mix
    rw [show g = 32 :: r from hr]
    exact ⟨r ++ (so x ++ mix l e), rfl⟩
theorem lex_mix {e : List UInt8} (he : ∃ r, e = 32 :: r) (hl : ∀ p f, lxs p f e = ([], [])) : ∀ (l : List (List UInt8 × Tk)) (p : Nat) (f : Bool), (∀ q ∈ l, Gp q.1 ∧ pr q.2 = true) → ((lxs p f (mix l e)).1.map kt = l.map fun q => kt q.2) ∧ (lxs p f (mix l e)).2 = []
  | [], p, f, _ => by
    unfold mix
    rw [hl]
    exact ⟨rfl, rfl⟩
  | (g, x) :: l, p, f, h => by
    have h1 := h (g, x) (List.mem_cons_self ..)
    have h2 : ∀ q ∈ l, Gp q.1 ∧ pr q.2 = true := fun q hq => h q (List.mem_cons_of_mem _ hq)
    unfold mix
    rw [lex_gap h1.1, lex_tok h1.2 (mix_sep he l fun q hq => (h2 q hq).1)]
    obtain ⟨h3, h4⟩ := lex_mix he hl l (p + g.length + (so x).length) false h2
    refine ⟨?_, h4⟩
    show _ :: _ = _
    rw [h3]
    rfl
theorem lex_join : ∀ (l : List Tk) (p : Nat) (f : Bool), (∀ x ∈ l, pr x = true) → ((lxs p f (Lib.join (l.map so) [32])).1.map kt = l.map kt) ∧ (lxs p f (Lib.join (l.map so) [32])).2 = []
  | [], p, f, _ => by
    show (lxs p f []).1.map kt = _ ∧ (lxs p f []).2 = []
    rw [lex_nil]
    exact ⟨rfl, rfl⟩
  | [x], p, f, h => by
    rw [List.map_singleton, Lib.join_one, lex_alone (h x (List.mem_cons_self ..))]
    exact ⟨rfl, rfl⟩
  | x :: y :: l, p, f, h => by
    have e : Lib.join ((x :: y :: l).map so) [32] = so x ++ ([32] ++ Lib.join ((y :: l).map so) [32]) := by
      rw [List.map_cons, List.map_cons, Lib.join_cons, Lib.join_cons]
      simp [Lib.joinTail]
    rw [e, lex_tok (y := [32] ++ Lib.join ((y :: l).map so) [32]) (h x (List.mem_cons_self ..)) (.inr ⟨_, rfl⟩), lex_gap gp_one]
    obtain ⟨h3, h4⟩ := lex_join (y :: l) (p + (so x).length + [(32 : UInt8)].length) false fun z hz => h z (List.mem_cons_of_mem _ hz)
    refine ⟨?_, h4⟩
    show _ :: _ = _
    rw [h3]
    rfl

/-! By the length of what is left. -/
theorem lex_ind {C : Nat → Bool → List UInt8 → Prop} (h0 : ∀ p f l, l.drop (sk false l) = [] → C p f l)
    (h1 : ∀ p f l l', l.drop (sk false l) = l' → l' ≠ [] → C (p + sk false l + (shp l').2) (decide ((shp l').1 = 0)) (l'.drop (shp l').2) → C p f l) : ∀ (n p : Nat) (f : Bool) (l : List UInt8), l.length ≤ n → C p f l
  | n, p, f, l, hn => by
    by_cases h : l.drop (sk false l) = []
    · exact h0 p f l h
    · refine h1 p f l _ rfl h ?_
      have h1 := shp_pos h
      have h2 := shp_le (l.drop (sk false l))
      have h3 : (l.drop (sk false l)).length ≠ 0 := fun e => h (List.eq_nil_of_length_eq_zero e)
      have h4 : (l.drop (sk false l)).length ≤ l.length := by rw [List.length_drop]; omega
      match n, hn with
      | 0, hn => omega
      | n + 1, hn => exact lex_ind h0 h1' n _ _ _ (by rw [List.length_drop]; omega)
where
  h1' : ∀ p f l l', l.drop (sk false l) = l' → l' ≠ [] → C (p + sk false l + (shp l').2) (decide ((shp l').1 = 0)) (l'.drop (shp l').2) → C p f l := h1
end Go.Proofs.YtkfciilclfhabaaGreatDoor
