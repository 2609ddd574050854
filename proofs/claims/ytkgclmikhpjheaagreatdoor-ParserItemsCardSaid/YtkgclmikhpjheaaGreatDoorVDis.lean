/-
  Where a module's problems lie: no two at one place.
-/
import Derived.Test.YtkgclmikhpjheaaGreatDoorVItl
namespace Go.Proofs.YtkgclmikhpjheaaGreatDoor.pa
open Go.RowKit dec

section
variable {P : Int → Prop}
/-- A reader's problem lies at a token that it had, or where P says. -/
def Sy {α : Type} (P : Int → Prop) (x : Rs α) (l : List Tk) : Prop :=
  match x with
  | .out => True
  | .ok _ r => r <:+ l
  | .no a _ r => ∃ C, l = C ++ r ∧ (P a ∨ a = (hd r).a ∨ ∃ t ∈ C, a = t.a)
theorem Sy.mono {α : Type} {x : Rs α} {l q : List Tk} (h : Sy P x l) (hl : l <:+ q) : Sy P x q := by
  cases x with
  | out => trivial
  | ok v r => exact List.IsSuffix.trans h hl
  | no a c r =>
    obtain ⟨C, rfl, h2⟩ := h
    obtain ⟨D, rfl⟩ := hl
    refine ⟨D ++ C, by rw [List.append_assoc], ?_⟩
    rcases h2 with h2 | h2 | ⟨t, ht, e⟩
    · exact .inl h2
    · exact .inr (.inl h2)
    · exact .inr (.inr ⟨t, List.mem_append_right _ ht, e⟩)
theorem Sy.tail {α : Type} {x : Rs α} {l : List Tk} (h : Sy P x l.tail) : Sy P x l := h.mono (List.tail_suffix l)
theorem Sy.cons {α : Type} {x : Rs α} {l : List Tk} (hl : l ≠ []) (h : Sy (fun a => a = (hd l).a ∨ P a) x l.tail) : Sy P x l := by
  cases l with
  | nil => exact absurd rfl hl
  | cons y l =>
    cases x with
    | out => trivial
    | ok v r => exact List.IsSuffix.trans h (List.suffix_cons _ _)
    | no a c r =>
      obtain ⟨C, h1, h2⟩ := h
      have h1 : l = C ++ r := h1
      subst h1
      refine ⟨y :: C, rfl, ?_⟩
      rcases h2 with (h2 | h2) | h2 | ⟨t, ht, e⟩
      · exact .inr (.inr ⟨y, List.mem_cons_self, h2⟩)
      · exact .inl h2
      · exact .inr (.inl h2)
      · exact .inr (.inr ⟨t, List.mem_cons_of_mem _ ht, e⟩)
theorem Sy.bind {α β : Type} {x : Rs α} {g : α → List Tk → Rs β} {l : List Tk} (h : Sy P x l) (hg : ∀ v r, x = .ok v r → Sy P (g v r) r) : Sy P (x.bind g) l := by
  cases x with
  | out => trivial
  | ok v r => exact (hg v r rfl).mono h
  | no a c r => exact h
theorem sy_ok {α : Type} (v : α) (l : List Tk) : Sy P (.ok v l : Rs α) l := List.suffix_refl l
theorem sy_okt {α : Type} (v : α) (l : List Tk) : Sy P (.ok v l.tail : Rs α) l := List.tail_suffix l
theorem sy_wrg {α : Type} (l : List Tk) : Sy P (wrg l : Rs α) l := ⟨[], rfl, .inr (.inl rfl)⟩
theorem sy_need (s : ByteArray) (l : List Tk) : Sy P (need s l) l := by
  unfold need
  split
  · exact sy_okt _ _
  · exact sy_wrg _
theorem sy_tak (k : Int) (l : List Tk) : Sy P (tak k l) l := by
  unfold tak
  split
  · exact sy_okt _ _
  · exact sy_wrg _
theorem sy_nam (l : List Tk) : Sy P (nam l) l := by
  unfold nam
  split
  · exact sy_tak _ _
  · exact sy_wrg _
theorem sy_nma (s : ByteArray) (l : List Tk) : Sy P (nma s l) l := Sy.bind (sy_need _ _) fun _ _ _ => sy_nam _
theorem sy_int (l : List Tk) : Sy P (int l) l := Sy.bind (sy_tak _ _) fun _ _ _ => sy_ok _ _
theorem sy_deci (l : List Tk) : Sy P (deci l) l := Sy.bind (sy_tak _ _) fun _ _ _ => sy_ok _ _
theorem sy_fac (l : List Tk) : Sy P (fac l) l := by
  refine Sy.bind (sy_nam _) fun n r _ => ?_
  split
  · split
    · exact (Sy.bind (sy_int _) fun _ _ _ => sy_ok _ _).tail.tail
    · exact (Sy.bind (sy_int _) fun _ _ _ => sy_ok _ _).tail
  · exact sy_ok _ _
theorem sy_more {α : Type} {one : List Tk → Rs α} {s : ByteArray} (h1 : ∀ l, Sy P (one l) l) : ∀ (f : Nat) (x : List α) (l : List Tk), Sy P (more one s f x l) l
  | 0, _, _ => trivial
  | f + 1, x, l => by
    unfold more
    split
    · exact (Sy.bind (h1 _) fun _ _ _ => sy_more h1 f _ _).tail
    · exact sy_ok _ _
theorem sy_lst {α : Type} {one : List Tk → Rs α} {s : ByteArray} (h1 : ∀ l, Sy P (one l) l) (l : List Tk) : Sy P (lst one s l) l := Sy.bind (h1 _) fun _ _ _ => sy_more h1 _ _ _
theorem sy_uni (l : List Tk) : Sy P (uni l) l := by
  unfold uni
  split
  · rename_i t
    have hne : l ≠ [] := fun e => isT_hd t (by rw [e]; rfl)
    refine Sy.cons hne (Sy.bind (sy_lst sy_fac _) fun u r _ => Sy.bind (sy_need _ _) fun _ r' _ => ?_)
    split
    · exact sy_ok _ _
    · exact ⟨[], rfl, .inl (.inl rfl)⟩
  · exact sy_ok _ _
theorem sy_typ (l : List Tk) : Sy P (typ l) l := by
  unfold typ
  split
  · exact sy_okt _ _
  split
  · exact sy_okt _ _
  split
  · exact (Sy.bind (sy_nam _) fun _ _ _ => sy_ok _ _).tail
  split
  · exact (Sy.bind (sy_uni _) fun _ _ _ => sy_ok _ _).tail
  split
  · exact (Sy.bind (sy_uni _) fun _ _ _ => sy_ok _ _).tail
  · exact sy_wrg _
theorem sy_win (l : List Tk) : Sy P (win l) l := by
  unfold win
  split
  · exact sy_okt _ _
  iterate 3
    split
    · exact (Sy.bind (sy_int _) fun _ _ _ => sy_ok _ _).tail
  · exact sy_wrg _
theorem sy_key (l : List Tk) : Sy P (key l) l := by
  refine Sy.bind (sy_nma _ _) fun n r _ => ?_
  unfold tak
  split
  · rename_i hk
    have hne : r ≠ [] := fun e => by rw [e] at hk; exact absurd hk (by decide)
    refine Sy.cons hne ?_
    rw [ok_bind]
    split
    · exact sy_ok _ _
    · exact ⟨[], rfl, .inl (.inl rfl)⟩
  · exact sy_wrg _
theorem sy_pz : ∀ (f : Nat) (i : Bool) (m : Md) (l : List Tk), Sy P (pz f i m l) l := by
  intro f
  induction f with
  | zero => intro i m l; exact trivial
  | succ f ih =>
    intro i m l
    cases m with
    | ex =>
      simp only [pz]
      split
      · exact (Sy.bind (ih _ _ _) fun _ _ _ => Sy.bind (sy_need _ _) fun _ _ _ => Sy.bind (ih _ _ _) fun _ _ _ => Sy.bind (sy_need _ _) fun _ _ _ => Sy.bind (ih _ _ _) fun _ _ _ => sy_ok _ _).tail
      · exact ih _ _ _
    | op least =>
      simp only [pz]
      split
      · exact (Sy.bind (ih _ _ _) fun _ _ _ => ih _ _ _).tail
      · exact Sy.bind (ih _ _ _) fun _ _ _ => ih _ _ _
    | tl least n y =>
      simp only [pz]
      split
      · exact sy_ok _ _
      · split
        · exact ih _ _ _
        · exact (Sy.bind (ih _ _ _) fun _ _ _ => ih _ _ _).tail
    | ng =>
      simp only [pz]
      split
      · exact (Sy.bind (ih _ _ _) fun _ _ _ => sy_ok _ _).tail
      · exact ih _ _ _
    | pa =>
      simp only [pz]
      exact Sy.bind (sy_need _ _) fun _ _ _ => Sy.bind (ih _ _ _) fun _ _ _ => Sy.bind (sy_need _ _) fun _ _ _ => sy_ok _ _
    | rf =>
      simp only [pz]
      refine Sy.bind (sy_nam _) fun n r _ => ?_
      split
      · exact (Sy.bind (ih _ _ _) fun _ _ _ => sy_ok _ _).tail
      · exact sy_ok _ _
    | ag =>
      simp only [pz]
      refine Sy.bind (sy_tak _ _) fun op r _ => Sy.bind (sy_need _ _) fun _ r _ => Sy.bind (sy_nam _) fun t r _ => Sy.bind (sy_need _ _) fun _ r _ => Sy.bind ?_ fun x r _ => Sy.bind ?_ fun p r _ => Sy.bind (sy_win _) fun w r _ => Sy.bind ?_ fun y r _ => Sy.bind (sy_need _ _) fun _ _ _ => sy_ok _ _
      · split
        · exact sy_ok _ _
        · exact Sy.bind (ih _ _ _) fun _ _ _ => Sy.bind (sy_need _ _) fun _ _ _ => sy_ok _ _
      · split
        · exact Sy.bind (sy_int _) fun _ _ _ => Sy.bind (sy_need _ _) fun _ _ _ => sy_ok _ _
        · exact sy_ok _ _
      · split
        · exact (ih _ _ _).tail
        · exact sy_ok _ _
    | pr =>
      simp only [pz]
      split
      · exact Sy.bind (sy_int _) fun _ _ _ => Sy.bind (sy_uni _) fun _ _ _ => sy_ok _ _
      split
      · exact Sy.bind (sy_deci _) fun _ _ _ => Sy.bind (sy_uni _) fun _ _ _ => sy_ok _ _
      split
      · exact Sy.bind (sy_tak _ _) fun _ _ _ => sy_ok _ _
      split
      · exact sy_okt _ _
      split
      · exact sy_okt _ _
      split
      · exact sy_key _
      split
      · exact (Sy.bind (ih _ _ _) fun _ _ _ => sy_ok _ _).tail
      split
      · exact ih _ _ _
      split
      · exact Sy.bind (sy_nam _) fun _ _ _ => sy_ok _ _
      split
      · exact ih _ _ _
      · exact ih _ _ _
theorem sy_exR (l : List Tk) : Sy P (exR l) l := sy_pz _ _ _ _
theorem sy_fie (l : List Tk) : Sy P (fie l) l := Sy.bind (sy_nam _) fun _ _ _ => Sy.bind (sy_need _ _) fun _ _ _ => Sy.bind (sy_typ _) fun _ _ _ => sy_ok _ _
theorem sy_tabF (l : List Tk) : Sy P (tabF l) l := by
  unfold tabF
  split
  · exact sy_okt _ _
  · exact Sy.bind (sy_lst sy_fie _) fun _ _ _ => Sy.bind (sy_need _ _) fun _ _ _ => sy_ok _ _
theorem sy_keeR (l : List Tk) : Sy P (keeR l) l := by
  unfold keeR
  split
  · exact (sy_int _).tail
  · exact sy_ok _ _
theorem sy_tabR (l : List Tk) : Sy P (tabR l) l := Sy.bind (sy_nma _ _) fun _ _ _ => Sy.bind (sy_nma _ _) fun _ _ _ => Sy.bind (sy_need _ _) fun _ _ _ => Sy.bind (sy_tabF _) fun _ _ _ => Sy.bind (sy_keeR _) fun _ _ _ => Sy.bind (sy_need _ _) fun _ _ _ => sy_ok _ _
theorem sy_feaR (l : List Tk) : Sy P (feaR l) l := Sy.bind (sy_nma _ _) fun _ _ _ => Sy.bind (sy_nma _ _) fun _ _ _ => Sy.bind (sy_need _ _) fun _ _ _ => Sy.bind (sy_typ _) fun _ _ _ => Sy.bind (sy_need _ _) fun _ _ _ => Sy.bind (sy_exR _) fun _ _ _ => Sy.bind (sy_need _ _) fun _ _ _ => sy_ok _ _
theorem sy_itmR (m : Mo) (l : List Tk) : Sy P (itmR m l) l := by
  unfold itmR
  split
  · exact Sy.bind (sy_tabR _) fun _ _ _ => sy_ok _ _
  · split
    · exact Sy.bind (sy_feaR _) fun _ _ _ => sy_ok _ _
    · exact sy_wrg _
end
theorem itm_at {m : Mo} {l r : List Tk} {a c : Int} (h : itmR m l = .no a c r) : ∃ C, l = C ++ r ∧ (a = (hd r).a ∨ ∃ t ∈ C, a = t.a) := by
  have hs := sy_itmR (P := fun _ => False) m l
  rw [h] at hs
  obtain ⟨C, h1, h2⟩ := hs
  exact ⟨C, h1, h2.resolve_left fun h => h⟩
theorem lvR_suf : ∀ l : List Tk, lvR l <:+ l
  | [] => List.suffix_refl _
  | x :: l => by
    unfold lvR
    split
    · exact List.suffix_refl _
    · split
      · exact List.suffix_cons _ _
      · exact List.IsSuffix.trans (lvR_suf l) (List.suffix_cons _ _)
theorem lvR_tl {x : Tk} {l : List Tk} (h : x.k ≠ 6) : lvR (x :: l) <:+ l := by
  unfold lvR
  rw [if_neg h]
  split
  · exact List.suffix_refl _
  · exact lvR_suf l
theorem sim_self {e : Tk} (he : e.k = 6) : ∀ T : List Tk, SimR (fun a b => a = b) (T ++ [e]) (T ++ [e])
  | [] => .last he rfl rfl rfl
  | _ :: T => .cons rfl rfl rfl (sim_self he T)
theorem modL_at : ∀ (f : Nat) (m : Mo) (b : List Pb) (l : List Tk) (m1 : Mo) (b1 : List Pb), SimR (fun a b => a = b) l l → l.Pairwise (fun x y => x.a < y.a) → modL f m b l = some (m1, b1) → ∃ c : List Pb, b1 = b ++ c ∧ c.Pairwise (fun p q => p.1 < q.1) ∧ ∀ p ∈ c, ∃ t ∈ l, p.1 = t.a
  | 0, _, _, _, _, _, _, _, h => by cases h
  | f + 1, m, b, l, m1, b1, hS, hp, h => by
    unfold modL at h
    split at h
    · cases h
      exact ⟨[], (List.append_nil _).symm, .nil, fun p hp => by cases hp⟩
    · have hs := itmR_sim (m := m) hS
      cases hi : itmR m l with
      | out => rw [hi] at h; cases h
      | ok m' r =>
        rw [hi] at h hs
        have hx : r <:+ l := by have := sx_itmR m l; rw [hi] at this; exact this
        have hr : SimR (fun a b => a = b) r r := by
          cases hs with
          | ok v h => exact h
        obtain ⟨c, e, p, q⟩ := modL_at f _ _ _ _ _ hr (hp.sublist hx.sublist) h
        exact ⟨c, e, p, fun x hx' => let ⟨t, ht, e⟩ := q x hx'; ⟨t, hx.subset ht, e⟩⟩
      | no a c r =>
        rw [hi] at h hs
        replace h : modL f m (b ++ [(a, c)]) (lvR r) = some (m1, b1) := h
        obtain ⟨C, hl, ha⟩ := itm_at hi
        subst hl
        have hr : SimR (fun a b => a = b) r r := by
          cases hs with
          | no c ha h => exact h
        have hl := lvR_sim hr
        obtain ⟨x, r', rfl⟩ : ∃ x r', r = x :: r' := by
          cases r with
          | nil => cases hr
          | cons x r' => exact ⟨x, r', rfl⟩
        obtain ⟨t, ht, hta⟩ : ∃ t ∈ C ++ [x], a = t.a := by
          rcases ha with ha | ⟨t, ht, e⟩
          · exact ⟨x, List.mem_append_right _ List.mem_cons_self, ha⟩
          · exact ⟨t, List.mem_append_left _ ht, e⟩
        have htl : t ∈ C ++ x :: r' := by
          rcases List.mem_append.1 ht with h | h
          · exact List.mem_append_left _ h
          · exact List.mem_append_right _ (by rw [List.mem_singleton.1 h]; exact List.mem_cons_self)
        by_cases hk : x.k = 6
        · have hv : lvR (x :: r') = x :: r' := by unfold lvR; rw [if_pos hk]
          rw [hv] at h
          cases f with
          | zero => cases h
          | succ f =>
            unfold modL at h
            rw [if_pos (show (hd (x :: r')).k = 6 from hk)] at h
            cases h
            exact ⟨[(a, c)], rfl, List.pairwise_singleton _ _, fun p hp => by rw [List.mem_singleton.1 hp]; exact ⟨t, htl, hta⟩⟩
        · have hv := lvR_tl (l := r') hk
          have hp' : (C ++ [x] ++ r').Pairwise (fun x y => x.a < y.a) := by rw [List.append_assoc]; exact hp
          obtain ⟨p1, p2, p3⟩ := List.pairwise_append.1 hp'
          obtain ⟨c', e, p, q⟩ := modL_at f _ _ _ _ _ hl (p2.sublist hv.sublist) h
          refine ⟨(a, c) :: c', by rw [e, List.append_assoc]; rfl, List.pairwise_cons.2 ⟨fun y hy => ?_, p⟩, fun y hy => ?_⟩
          · obtain ⟨t', ht', e'⟩ := q y hy
            have := p3 t ht t' (hv.subset ht')
            show a < y.1
            omega
          · rcases List.mem_cons.1 hy with rfl | hy
            · exact ⟨t, htl, hta⟩
            · obtain ⟨t', ht', e'⟩ := q y hy
              exact ⟨t', List.mem_append_right _ (List.mem_cons_of_mem _ (hv.subset ht')), e'⟩
/-- The lexer's tokens and problems, each in its own place. -/
theorem lex_dis (p : Nat) (f : Bool) (l : List UInt8) : (lxs p f l).1.Pairwise (fun x y => x.a < y.a) ∧ (lxs p f l).2.Pairwise (fun x y => x.1 < y.1) ∧ (∀ t ∈ (lxs p f l).1, (p : Int) ≤ t.a ∧ t.a < ((p + l.length : Nat) : Int)) ∧ (∀ q ∈ (lxs p f l).2, (p : Int) ≤ q.1 ∧ q.1 < ((p + l.length : Nat) : Int)) ∧ ∀ t ∈ (lxs p f l).1, ∀ q ∈ (lxs p f l).2, q.1 ≠ t.a := by
  refine lex_ind (C := fun p f l => (lxs p f l).1.Pairwise (fun x y => x.a < y.a) ∧ (lxs p f l).2.Pairwise (fun x y => x.1 < y.1) ∧ (∀ t ∈ (lxs p f l).1, (p : Int) ≤ t.a ∧ t.a < ((p + l.length : Nat) : Int)) ∧ (∀ q ∈ (lxs p f l).2, (p : Int) ≤ q.1 ∧ q.1 < ((p + l.length : Nat) : Int)) ∧ ∀ t ∈ (lxs p f l).1, ∀ q ∈ (lxs p f l).2, q.1 ≠ t.a) ?_ ?_ l.length p f l (Nat.le_refl _)
  · intro p f l h
    rw [lex_done h]
    refine ⟨.nil, .nil, ?_, ?_, ?_⟩ <;> (intro _ h; cases h)
  · intro p f l l' h h0 ih
    have hn := shp_le l'
    have h1 := shp_pos h0
    have hlen : l'.length = l.length - sk false l := by rw [← h, List.length_drop]
    have hne : l'.length ≠ 0 := fun e => h0 (List.eq_nil_of_length_eq_zero e)
    rw [List.length_drop] at ih
    obtain ⟨i1, i2, i3, i4, i5⟩ := ih
    rw [lex_step h h0]
    generalize lxs (p + sk false l + (shp l').2) (decide ((shp l').1 = 0)) (l'.drop (shp l').2) = R at *
    split
    · refine ⟨List.pairwise_cons.2 ⟨fun t ht => ?_, i1⟩, i2, fun t ht => ?_, fun q hq => ?_, fun t ht q hq => ?_⟩
      · have := i3 t ht
        show ((p + sk false l : Nat) : Int) < t.a
        omega
      · rcases List.mem_cons.1 ht with rfl | ht
        · show (p : Int) ≤ ((p + sk false l : Nat) : Int) ∧ ((p + sk false l : Nat) : Int) < _
          omega
        · have := i3 t ht
          omega
      · have := i4 q hq
        omega
      · rcases List.mem_cons.1 ht with rfl | ht
        · have := i4 q hq
          show q.1 ≠ ((p + sk false l : Nat) : Int)
          omega
        · exact i5 t ht q hq
    · split
      · refine ⟨i1, i2, fun t ht => ?_, fun q hq => ?_, i5⟩
        · have := i3 t ht
          omega
        · have := i4 q hq
          omega
      · refine ⟨i1, List.pairwise_cons.2 ⟨fun q hq => ?_, i2⟩, fun t ht => ?_, fun q hq => ?_, fun t ht q hq => ?_⟩
        · have := i4 q hq
          show ((p + sk false l : Nat) : Int) < q.1
          omega
        · have := i3 t ht
          omega
        · rcases List.mem_cons.1 hq with rfl | hq
          · show (p : Int) ≤ ((p + sk false l : Nat) : Int) ∧ ((p + sk false l : Nat) : Int) < _
            omega
          · have := i4 q hq
            omega
        · rcases List.mem_cons.1 hq with rfl | hq
          · have := i3 t ht
            show ((p + sk false l : Nat) : Int) ≠ t.a
            omega
          · exact i5 t ht q hq
theorem prob_in {s : ByteArray} (hs : ¬ 16384 < s.size) {m : Mo} {b : List Pb} (h : modR s = some (m, b)) : ∀ p ∈ b, 0 ≤ p.1 ∧ p.1 ≤ (s.size : Nat) := by
  unfold modR at h
  rw [tokL_eq hs] at h
  obtain ⟨d1, d2, d3, d4, d5⟩ := lex_dis 0 false s.data.toList
  rw [str_len, Nat.zero_add] at d3 d4
  have hP : ((lxs 0 false s.data.toList).1 ++ [endT s]).Pairwise (fun x y => x.a < y.a) := by
    refine List.pairwise_append.2 ⟨d1, List.pairwise_singleton _ _, fun t ht e he => ?_⟩
    rw [List.mem_singleton.1 he]
    exact (d3 t ht).2
  obtain ⟨c, rfl, c1, c2⟩ := modL_at _ _ _ _ _ _ (sim_self rfl _) hP h
  intro p hp
  rcases List.mem_append.1 hp with hp | hp
  · unfold tokB at hp
    rw [if_neg hs] at hp
    have := d4 p (List.mem_of_mem_take hp)
    omega
  · obtain ⟨t, ht, e⟩ := c2 p hp
    rw [e]
    rcases List.mem_append.1 ht with ht | ht
    · have := d3 t ht
      omega
    · rw [List.mem_singleton.1 ht]
      show (0 : Int) ≤ ((s.size : Nat) : Int) ∧ ((s.size : Nat) : Int) ≤ _
      omega
/-- No two of a source's problems lie at one place. -/
theorem prob_dis {s : ByteArray} (hs : ¬ 16384 < s.size) {m : Mo} {b : List Pb} (h : modR s = some (m, b)) : b.Pairwise (fun p q => p.1 ≠ q.1) := by
  unfold modR at h
  rw [tokL_eq hs] at h
  obtain ⟨d1, d2, d3, d4, d5⟩ := lex_dis 0 false s.data.toList
  rw [str_len, Nat.zero_add] at d3 d4
  have hP : ((lxs 0 false s.data.toList).1 ++ [endT s]).Pairwise (fun x y => x.a < y.a) := by
    refine List.pairwise_append.2 ⟨d1, List.pairwise_singleton _ _, fun t ht e he => ?_⟩
    rw [List.mem_singleton.1 he]
    exact (d3 t ht).2
  obtain ⟨c, rfl, c1, c2⟩ := modL_at _ _ _ _ _ _ (sim_self rfl _) hP h
  have hB : ∀ p ∈ tokB s, p ∈ (lxs 0 false s.data.toList).2 := by
    intro p hp
    unfold tokB at hp
    rw [if_neg hs] at hp
    exact List.mem_of_mem_take hp
  refine List.pairwise_append.2 ⟨?_, c1.imp fun h => by omega, fun p hp q hq => ?_⟩
  · unfold tokB
    rw [if_neg hs]
    exact (d2.sublist (List.take_sublist _ _)).imp fun h => by omega
  · obtain ⟨t, ht, e⟩ := c2 q hq
    rw [e]
    rcases List.mem_append.1 ht with ht | ht
    · exact d5 t ht p (hB p hp)
    · rw [List.mem_singleton.1 ht]
      have := (d4 p (hB p hp)).2
      show p.1 ≠ ((s.size : Nat) : Int)
      omega
theorem pbl_eq : ∀ (p q : List Pb), p.Perm q → p.Pairwise (fun x y => x.1 < y.1) → q.Pairwise (fun x y => x.1 < y.1) → p = q
  | [], q, h, _, _ => by rw [List.nil_perm.1 h]
  | x :: p, [], h, _, _ => by have := h.length_eq; simp at this
  | x :: p, y :: q, h, h1, h2 => by
    by_cases e : x = y
    · subst e
      rw [pbl_eq p q h.cons_inv (List.pairwise_cons.1 h1).2 (List.pairwise_cons.1 h2).2]
    · have a1 : x ∈ q := by
        rcases List.mem_cons.1 (h.subset List.mem_cons_self) with h | h
        · exact absurd h e
        · exact h
      have a2 : y ∈ p := by
        rcases List.mem_cons.1 (h.symm.subset List.mem_cons_self) with h | h
        · exact absurd h.symm e
        · exact h
      have b1 := (List.pairwise_cons.1 h1).1 y a2
      have b2 := (List.pairwise_cons.1 h2).1 x a1
      omega
theorem srt_eq {p q b : List Pb} (hp : p.Perm b) (hq : q.Perm b) (h1 : pb.WSrt p) (h2 : pb.WSrt q) (hb : b.Pairwise fun x y => x.1 ≠ y.1) : p = q := by
  have k : ∀ {l : List Pb}, l.Perm b → pb.WSrt l → l.Pairwise fun x y => x.1 < y.1 := by
    intro l hl hs
    have hn : l.Pairwise fun x y => x.1 ≠ y.1 := (hl.pairwise_iff fun h => h.symm).2 hb
    have := hs.and hn
    exact this.imp fun h => by omega
  exact pbl_eq p q (hp.trans hq.symm) (k hp h1) (k hq h2)
/-- The problems of the second source, sorted and put off, are those of both, sorted. -/
theorem shift_srt {p q b : List Pb} {d : Nat} (hp : p.Perm b) (hq : q.Perm (b.map (shB d))) (h1 : pb.WSrt p) (h2 : pb.WSrt q) (hb : b.Pairwise fun x y => x.1 ≠ y.1) : q = p.map (shB d) := by
  have e : ∀ x : Pb, (shB d x).1 = x.1 + (d : Int) := fun x => rfl
  refine srt_eq hq (hp.map _) h2 (List.pairwise_map.2 (h1.imp fun h => by rw [e, e]; omega)) (List.pairwise_map.2 (hb.imp fun h => by rw [e, e]; omega))
end Go.Proofs.YtkgclmikhpjheaaGreatDoor.pa
