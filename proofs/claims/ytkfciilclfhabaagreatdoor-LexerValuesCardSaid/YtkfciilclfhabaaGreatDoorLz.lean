/-
  Offsets, lines, what stands where, and words: facts of the tokens of sources as plain data.
-/
import Derived.Test.YtkfciilclfhabaaGreatDoorLy
namespace Go.Proofs.YtkfciilclfhabaaGreatDoor
open dec

def shT (d : Nat) (x : Tk) : Tk := ⟨x.k, x.t, x.a + d⟩
def shB (d : Nat) (q : Pb) : Pb := (q.1 + d, q.2)
theorem lex_shift (d : Nat) (p : Nat) (f : Bool) (l : List UInt8) : lxs (p + d) f l = ((lxs p f l).1.map (shT d), (lxs p f l).2.map (shB d)) := by
  refine lex_ind (C := fun p f l => lxs (p + d) f l = ((lxs p f l).1.map (shT d), (lxs p f l).2.map (shB d))) ?_ ?_ l.length p f l (Nat.le_refl _)
  · intro p f l h
    rw [lex_done h, lex_done h]
    rfl
  · intro p f l l' h h0 ih
    rw [lex_step h h0, lex_step h h0, show p + d + sk false l + (shp l').2 = p + sk false l + (shp l').2 + d by omega, ih, show p + d + sk false l = p + sk false l + d by omega]
    split
    · simp only [List.map_cons, shT, Int.natCast_add]
    · split
      · rfl
      · simp only [List.map_cons, shB, Int.natCast_add]
/-- Sources one after the other, a byte 10 between them. -/
theorem lex_lines (s : List UInt8) (p : Nat) (f : Bool) (l : List UInt8) : lxs p f (l ++ 10 :: s) = ((lxs p f l).1 ++ (lxs (p + l.length + 1) false s).1, (lxs p f l).2 ++ (lxs (p + l.length + 1) false s).2) := by
  refine lex_ind (C := fun p f l => lxs p f (l ++ 10 :: s) = ((lxs p f l).1 ++ (lxs (p + l.length + 1) false s).1, (lxs p f l).2 ++ (lxs (p + l.length + 1) false s).2)) ?_ ?_ l.length p f l (Nat.le_refl _)
  · intro p f l h
    have hl : sk false l = l.length := by
      have h1 := sk_le false l
      have h2 := congrArg List.length h
      rw [List.length_drop, List.length_nil] at h2
      omega
    have hs : sk false (l ++ 10 :: s) = l.length + 1 + sk false s := by
      rw [sk_app, if_neg (by omega)]
    have hd : (l ++ 10 :: s).drop (l.length + 1 + sk false s) = s.drop (sk false s) := by
      rw [← List.drop_drop, show l ++ 10 :: s = (l ++ [10]) ++ s by simp, drop_to (by simp)]
    rw [lex_done h]
    by_cases h3 : s.drop (sk false s) = []
    · rw [lex_done (by rw [hs, hd, h3]), lex_done h3]
      rfl
    · rw [lex_step (by rw [hs, hd]) h3, lex_step rfl h3, hs, show p + (l.length + 1 + sk false s) = p + l.length + 1 + sk false s by omega]
      simp only [Bool.false_eq_true, false_and, and_false, if_false, List.nil_append]
      rw [if_neg (show ¬ ((shp (s.drop (sk false s))).1 = 0 ∧ f = true ∧ l.length + 1 + sk false s = 0) by omega)]
  · intro p f l l' h h0 ih
    have hlt : sk false l < l.length := by
      rcases Nat.lt_or_ge (sk false l) l.length with h1 | h1
      · exact h1
      · rw [List.drop_eq_nil_of_le h1] at h
        exact absurd h.symm h0
    have hs : sk false (l ++ 10 :: s) = sk false l := by
      rw [sk_app, if_pos hlt]
    have hd : (l ++ 10 :: s).drop (sk false (l ++ 10 :: s)) = l' ++ 10 :: s := by
      rw [hs, List.drop_append_of_le_length (Nat.le_of_lt hlt), h]
    have hn := shp_le l'
    have ht : (l' ++ 10 :: s).take (shp l').2 = l'.take (shp l').2 := List.take_append_of_le_length hn
    have hdd : (l' ++ 10 :: s).drop (shp l').2 = l'.drop (shp l').2 ++ 10 :: s := List.drop_append_of_le_length hn
    have hlen : l'.length = l.length - sk false l := by rw [← h, List.length_drop]
    have hq : p + sk false l + (shp l').2 + (l'.drop (shp l').2).length + 1 = p + l.length + 1 := by rw [List.length_drop]; omega
    rw [hq] at ih
    rw [lex_step hd (by simp [h0]), shp_line h0, hs, ht, hdd, ih, lex_step h h0]
    split
    · rfl
    · split
      · rfl
      · rfl
/-- The tokens stand in a source from a place on, one after the other. -/
def Cov (src : List UInt8) : Nat → List Tk → Prop
  | _, [] => True
  | p, x :: l => ∃ a : Nat, x.a = (a : Nat) ∧ p ≤ a ∧ a + (so x).length ≤ src.length ∧ (src.drop a).take (so x).length = so x ∧ x.k ≠ 6 ∧ Cov src (a + (so x).length) l
def CovB (n : Nat) : Nat → List Pb → Prop
  | _, [] => True
  | p, q :: l => ∃ a : Nat, q.1 = (a : Nat) ∧ p ≤ a ∧ a < n ∧ q.2 ≠ 0 ∧ CovB n (a + 1) l
theorem CovB.less {n : Nat} : ∀ {l : List Pb} {p q : Nat}, q ≤ p → CovB n p l → CovB n q l
  | [], _, _, _, _ => trivial
  | _ :: _, _, _, h, ⟨a, h1, h2, h3⟩ => ⟨a, h1, Nat.le_trans h h2, h3⟩
theorem Cov.less {s : List UInt8} : ∀ {l : List Tk} {p q : Nat}, q ≤ p → Cov s p l → Cov s q l
  | [], _, _, _, _ => trivial
  | _ :: _, _, _, h, ⟨a, h1, h2, h3⟩ => ⟨a, h1, Nat.le_trans h h2, h3⟩
theorem lex_cov (src : List UInt8) (p : Nat) (f : Bool) (l : List UInt8) (h : src.drop p = l) (hp : p ≤ src.length) : Cov src p (lxs p f l).1 ∧ CovB src.length p (lxs p f l).2 := by
  refine lex_ind (C := fun p f l => src.drop p = l → p ≤ src.length → Cov src p (lxs p f l).1 ∧ CovB src.length p (lxs p f l).2) ?_ ?_ l.length p f l (Nat.le_refl _) h hp
  · intro p f l h _ _
    rw [lex_done h]
    exact ⟨trivial, trivial⟩
  · intro p f l l' h h0 ih hl hp
    have hn := shp_le l'
    have h1 := shp_pos h0
    have hlen : l'.length = l.length - sk false l := by rw [← h, List.length_drop]
    have hlen2 : l.length = src.length - p := by rw [← hl, List.length_drop]
    have hsk := sk_le false l
    have hdr : src.drop (p + sk false l) = l' := by rw [← List.drop_drop, hl, h]
    obtain ⟨i1, i2⟩ := ih (by rw [← hdr, List.drop_drop]) (by omega)
    have hso := so_part l'
    have htl : (l'.take (shp l').2).length = (shp l').2 := take_len hn
    rw [lex_step h h0]
    split
    · refine ⟨⟨p + sk false l, rfl, by omega, ?_, ?_, ?_, ?_⟩, i2.less (by omega)⟩
      · rw [hso, htl]; omega
      · rw [hso, htl, hdr]
      · have := shp_kind l'
        show (shp l').1 ≠ 6
        omega
      · rw [hso, htl]
        exact i1
    · rename_i hf
      split
      · exact ⟨i1.less (by omega), i2.less (by omega)⟩
      · exact ⟨i1.less (by omega), ⟨p + sk false l, rfl, by omega, by omega, hf, i2.less (by omega)⟩⟩
/-- Each token that was found is one alone. -/
theorem lex_pr (p : Nat) (f : Bool) (l : List UInt8) : ∀ x ∈ (lxs p f l).1, pr x = true := by
  refine lex_ind (C := fun p f l => ∀ x ∈ (lxs p f l).1, pr x = true) ?_ ?_ l.length p f l (Nat.le_refl _)
  · intro p f l h x hx
    rw [lex_done h] at hx
    cases hx
  · intro p f l l' h h0 ih x hx
    rw [lex_step h h0] at hx
    split at hx
    · rename_i hf
      rcases List.mem_cons.1 hx with rfl | hx
      · have hk : (shp l').1 ≠ 0 := by
          intro e
          rw [e] at hf
          unfold flt at hf
          simp at hf
        have hs := shp_part hk (.inl rfl : Sep [])
        rw [List.append_nil] at hs
        rw [pr_iff]
        show shp (so _) = ((shp l').1, (so _).length) ∧ flt (shp l').1 (so _) = 0
        rw [so_part, hs, take_len (shp_le l')]
        exact ⟨rfl, hf⟩
      · exact ih x hx
    · split at hx
      · exact ih x hx
      · exact ih x hx
theorem sum_cov (src : List UInt8) : ∀ (l : List Tk) (p : Nat), p ≤ src.length → Cov src p l → (l.map fun x => (so x).length).sum ≤ src.length - p
  | [], _, _, _ => Nat.zero_le _
  | x :: l, p, hp, ⟨a, h1, h2, h3, _, _, h4⟩ => by
    have := sum_cov src l _ h3 h4
    rw [List.map_cons, List.sum_cons]
    omega
theorem pr_pos {x : Tk} (h : pr x = true) : 1 ≤ (so x).length := by
  obtain ⟨h1, h2⟩ := (pr_iff x).1 h
  have h3 := pr_kind h
  have := shp_pos (l := so x) (fun e => by rw [e] at h1; have := (Prod.mk.inj h1).1; omega)
  rw [h1] at this
  exact this
theorem join_le (l : List Tk) : (Lib.join (l.map so) [32]).length ≤ (l.map fun x => (so x).length).sum + l.length := by
  induction l with
  | nil => exact Nat.zero_le _
  | cons x l ih =>
    cases l with
    | nil => rw [List.map_singleton, Lib.join_one]; simp
    | cons y l =>
      have e : Lib.join ((x :: y :: l).map so) [32] = so x ++ 32 :: Lib.join ((y :: l).map so) [32] := by
        rw [List.map_cons, List.map_cons, Lib.join_cons, Lib.join_cons]
        simp [Lib.joinTail]
      rw [e]
      generalize Lib.join ((y :: l).map so) [32] = J at *
      simp only [List.length_append, List.map_cons, List.sum_cons, List.length_cons] at *
      omega
theorem len_sum : ∀ (l : List Tk), (∀ x ∈ l, pr x = true) → l.length ≤ (l.map fun x => (so x).length).sum
  | [], _ => Nat.le_refl _
  | x :: l, h => by
    have h1 := pr_pos (h x (List.mem_cons_self ..))
    have h2 := len_sum l fun y hy => h y (List.mem_cons_of_mem _ hy)
    rw [List.map_cons, List.sum_cons, List.length_cons]
    omega
/-- The tokens of a source, joined, are not much longer than it. -/
theorem lex_short (s : List UInt8) : (Lib.join ((lxs 0 false s).1.map so) [32]).length ≤ 2 * s.length := by
  have h1 := sum_cov s _ 0 (Nat.zero_le _) (lex_cov s 0 false s rfl (Nat.zero_le _)).1
  have h2 := len_sum _ (lex_pr 0 false s)
  have h3 := join_le (lxs 0 false s).1
  omega
theorem so_kt : ∀ {l r : List Tk}, l.map kt = r.map kt → l.map so = r.map so
  | [], [], _ => rfl
  | x :: l, y :: r, h => by
    rw [List.map_cons, List.map_cons] at h
    obtain ⟨h1, h2⟩ := List.cons.inj h
    obtain ⟨h3, h4⟩ := Prod.mk.inj h1
    rw [List.map_cons, List.map_cons, so_kt h2, (kt_pr h3 h4).1]
  | [], y :: r, h => by cases h
  | x :: l, [], h => by cases h
/-- The words. -/
def wd1 (s : ByteArray) : Bool := pr ⟨1, s, 0⟩
theorem lex_word (s : ByteArray) : lxs 0 false s.data.toList = ([⟨1, s, 0⟩], []) ↔ wd1 s = true := by
  constructor
  · intro h
    exact lex_pr 0 false s.data.toList _ (by rw [h]; exact List.mem_cons_self ..)
  · intro h
    exact lex_alone (x := ⟨1, s, 0⟩) h 0 false
end Go.Proofs.YtkfciilclfhabaaGreatDoor
