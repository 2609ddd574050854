/-
  Sources one after the other: the items of both.
-/
import Derived.Test.YtkgclmikhpjheaaGreatDoorQ15
namespace Go.Proofs.YtkgclmikhpjheaaGreatDoor.pa
open Go.RowKit dec

theorem bind_assoc {α β γ : Type} (x : Rs α) (f : α → List Tk → Rs β) (g : β → List Tk → Rs γ) : (x.bind f).bind g = x.bind fun v r => (f v r).bind g := by
  cases x <;> rfl
theorem ok_bind {α β : Type} (v : α) (r : List Tk) (g : α → List Tk → Rs β) : (Rs.ok v r).bind g = g v r := rfl
/-- Items without their semicolons. -/
def tabP (l : List Tk) : Rs Tb := (nma ⟨#[116, 97, 98, 108, 101]⟩ l).bind fun n r => (nma ⟨#[111, 102]⟩ r).bind fun e r => (need ⟨#[123]⟩ r).bind fun _ r => (tabF r).bind fun fs r => (keeR r).bind fun k r => .ok ⟨n, e, fs, k⟩ r
def feaP (l : List Tk) : Rs Fe := (nma ⟨#[102, 101, 97, 116, 117, 114, 101]⟩ l).bind fun n r => (nma ⟨#[111, 102]⟩ r).bind fun e r => (need ⟨#[58]⟩ r).bind fun _ r => (typ r).bind fun t r => (need ⟨#[61]⟩ r).bind fun _ r => (exR r).bind fun x r => .ok ⟨n, e, t, x⟩ r
def itmP (m : Mo) (l : List Tk) : Rs Mo :=
  if (hd l).t = ⟨#[116, 97, 98, 108, 101]⟩ then (tabP l).bind fun t r => .ok { m with ts := m.ts ++ [t] } r
  else if (hd l).t = ⟨#[102, 101, 97, 116, 117, 114, 101]⟩ then (feaP l).bind fun f r => .ok { m with fs := m.fs ++ [f] } r
  else wrg l
theorem tabR_eq (l : List Tk) : tabR l = (tabP l).bind fun t r => (need ⟨#[59]⟩ r).bind fun _ r => .ok t r := by
  unfold tabR tabP
  simp only [bind_assoc, ok_bind]
theorem feaR_eq (l : List Tk) : feaR l = (feaP l).bind fun t r => (need ⟨#[59]⟩ r).bind fun _ r => .ok t r := by
  unfold feaR feaP
  simp only [bind_assoc, ok_bind]
theorem itmR_eq (m : Mo) (l : List Tk) : itmR m l = (itmP m l).bind fun m' r => (need ⟨#[59]⟩ r).bind fun _ r => .ok m' r := by
  unfold itmR itmP
  split
  · rw [tabR_eq]
    simp only [bind_assoc, ok_bind]
  · split
    · rw [feaR_eq]
      simp only [bind_assoc, ok_bind]
    · rfl
theorem sx_itmP (m : Mo) (l : List Tk) : Sx (itmP m l) l := by
  unfold itmP
  split
  · exact Sx.bind (Sx.bind (sx_nma _ _) fun _ _ _ => Sx.bind (sx_nma _ _) fun _ _ _ => Sx.bind (sx_need _ _) fun _ _ _ => Sx.bind (sx_tabF _) fun _ _ _ => Sx.bind (sx_keeR _) fun _ _ _ => sx_ok _ _) fun _ _ _ => sx_ok _ _
  · split
    · exact Sx.bind (Sx.bind (sx_nma _ _) fun _ _ _ => Sx.bind (sx_nma _ _) fun _ _ _ => Sx.bind (sx_need _ _) fun _ _ _ => Sx.bind (sx_typ _) fun _ _ _ => Sx.bind (sx_need _ _) fun _ _ _ => Sx.bind (sx_exR _) fun _ _ _ => sx_ok _ _) fun _ _ _ => sx_ok _ _
    · exact sx_wrg _
section
variable {t1 t2 : List Tk}
theorem tabP_loc (E : Ends t1 t2) {l r : List Tk} (h : Loc t1 t2 l r) : RL t1 t2 (tabP l) (tabP r) := (nma_loc E h).bind fun _ _ _ h => (nma_loc E h).bind fun _ _ _ h => (need_loc E h).bind fun _ _ _ h => (tabF_loc E h).bind fun _ _ _ h => (keeR_loc E h).bind fun _ _ _ h => rl_ok _ h
theorem feaP_loc (E : Ends t1 t2) {l r : List Tk} (h : Loc t1 t2 l r) : RL t1 t2 (feaP l) (feaP r) := (nma_loc E h).bind fun _ _ _ h => (nma_loc E h).bind fun _ _ _ h => (need_loc E h).bind fun _ _ _ h => (typ_loc E h).bind fun _ _ _ h => (need_loc E h).bind fun _ _ _ h => (exR_loc E h).bind fun _ _ _ h => rl_ok _ h
theorem Stp.text {l : List Tk} (h : Stp l) : (hd l).t ≠ ⟨#[116, 97, 98, 108, 101]⟩ ∧ (hd l).t ≠ ⟨#[102, 101, 97, 116, 117, 114, 101]⟩ := by
  rcases h with ⟨hk, ht⟩ | ⟨hk, ht⟩ | ⟨hk, ht⟩ <;> rw [ht] <;> decide
theorem itmP_loc (E : Ends t1 t2) {m : Mo} {l r : List Tk} (h : Loc t1 t2 l r) : RL t1 t2 (itmP m l) (itmP m r) := by
  cases h with
  | base =>
    unfold itmP
    rw [if_neg E.l.text.1, if_neg E.l.text.2]
    exact rl_wrg
  | @cons x y l r hk ht h =>
    have h' : Loc t1 t2 (x :: l) (y :: r) := .cons hk ht h
    unfold itmP
    rw [show (hd (y :: r)).t = (hd (x :: l)).t from ht]
    split
    · exact (tabP_loc E h').bind fun _ _ _ h => rl_ok _ h
    · split
      · exact (feaP_loc E h').bind fun _ _ _ h => rl_ok _ h
      · exact rl_wrg
end
/-- Tokens before the end. -/
def Inn (T : List Tk) : Prop := ∀ x ∈ T, x.k ≠ 6 ∧ (x.k = 1 → x.t ≠ ⟨#[59]⟩)
theorem inn_lxs (p : Nat) (f : Bool) (l : List UInt8) : Inn (lxs p f l).1 := fun x hx => by
  refine ⟨lxs_kind p f l x hx, fun hk ht => ?_⟩
  have h := ((pr_iff x).1 (lex_pr p f l x hx)).1
  have hs : so x = [59] := by
    unfold so
    rw [hk, ht]
    decide
  rw [hs, hk] at h
  exact absurd h (by decide)
theorem Inn.shift {T : List Tk} (h : Inn T) (d : Nat) : Inn (T.map (shT d)) := fun x hx => by
  obtain ⟨y, hy, rfl⟩ := List.mem_map.1 hx
  exact h y hy
theorem concat_inj {α : Type} {a b : List α} {x y : α} (h : a ++ [x] = b ++ [y]) : a = b ∧ x = y := by
  have := List.append_inj' h rfl
  exact ⟨this.1, by simpa using this.2⟩
theorem isT_text {s : ByteArray} {l : List Tk} (h : (hd l).t ≠ s) : isT s l = false := by
  unfold isT
  rw [decide_eq_false h, Bool.and_false]
/-- An item is read alike, whatever comes behind its semicolon. -/
theorem itm_app {T : List Tk} {e : Tk} {m m' : Mo} {q : List Tk} (hT : Inn T) (he : e.k = 6) (h : itmR m (T ++ [e]) = .ok m' q) : ∃ C T', T = C ++ T' ∧ C ≠ [] ∧ q = T' ++ [e] ∧ ∀ t2, itmR m (T ++ t2) = .ok m' (T' ++ t2) := by
  rw [itmR_eq] at h
  obtain ⟨m1, z, h1, h2⟩ := bind_ok h
  obtain ⟨_, q1, h3, h4⟩ := bind_ok h2
  cases h4
  obtain ⟨h5, h6⟩ := need_ok h3
  have hs := sx_itmP m (T ++ [e])
  rw [h1] at hs
  obtain ⟨D, hD⟩ : z <:+ T ++ [e] := hs
  cases z with
  | nil => exact absurd rfl (isT_ne h5)
  | cons x q2 =>
    have hq : q = q2 := h6
    subst hq
    have hx6 : x.k ≠ 6 := isT_hd h5
    rcases List.eq_nil_or_concat q with h0 | ⟨T', e', h0⟩
    · subst h0
      exact absurd (by rw [(concat_inj hD).2]; exact he) hx6
    · rw [List.concat_eq_append] at h0
      subst h0
      have hD2 : (D ++ x :: T') ++ [e'] = T ++ [e] := by rw [← hD]; simp
      obtain ⟨h7, h8⟩ := concat_inj hD2
      subst h8
      have hxT : x ∈ T := by rw [← h7]; simp
      have hxk : x.k = 5 ∧ x.t = ⟨#[59]⟩ := by
        unfold isT hd at h5
        simp only [List.headD_cons, Bool.and_eq_true, Bool.or_eq_true] at h5
        rcases h5.1 with hk | hk
        · exact absurd (of_decide_eq_true h5.2) ((hT x hxT).2 (of_decide_eq_true hk))
        · exact ⟨of_decide_eq_true hk, of_decide_eq_true h5.2⟩
      refine ⟨D ++ [x], T', by rw [← h7]; simp, by simp, rfl, fun t2 => ?_⟩
      have E : Ends (x :: (T' ++ [e'])) (x :: (T' ++ t2)) := ⟨.inr (.inr hxk), .inr (.inr hxk), isT_text (show x.t ≠ ⟨#[41]⟩ by rw [hxk.2]; decide)⟩
      obtain ⟨z2, h9, h10⟩ := itmP_loc E (m := m) (Loc.app D) _ _ (by rw [hD]; exact h1)
      have := h10.fin
      subst this
      have hl : T ++ t2 = D ++ x :: (T' ++ t2) := by rw [← h7]; simp
      rw [hl, itmR_eq, h9]
      show Rs.bind (need ⟨#[59]⟩ (x :: (T' ++ t2))) _ = _
      unfold need
      rw [if_pos (show isT ⟨#[59]⟩ (x :: (T' ++ t2)) = true from h5)]
      rfl
theorem modL_grow : ∀ (f : Nat) (m : Mo) (b : List Pb) (l : List Tk) (m1 : Mo) (b1 : List Pb), modL f m b l = some (m1, b1) → b.length ≤ b1.length ∧ b <+: b1
  | 0, _, _, _, _, _, h => by cases h
  | f + 1, m, b, l, m1, b1, h => by
    unfold modL at h
    split at h
    · cases h
      exact ⟨Nat.le_refl _, List.prefix_refl _⟩
    · cases hi : itmR m l with
      | out => rw [hi] at h; cases h
      | ok m' r => rw [hi] at h; exact modL_grow f _ _ _ _ _ h
      | no a c r =>
        rw [hi] at h
        obtain ⟨h1, h2⟩ := modL_grow f _ _ _ _ _ h
        refine ⟨?_, List.IsPrefix.trans (List.prefix_append _ _) h2⟩
        rw [List.length_append, List.length_singleton] at h1
        omega
/-- The items of tokens without problems, and what follows. -/
theorem modL_app : ∀ (f : Nat) (T : List Tk) (e : Tk) (m m1 : Mo) (b : List Pb), Inn T → e.k = 6 → modL f m b (T ++ [e]) = some (m1, b) → ∀ (g : Nat) (b2 : List Pb) (t2 : List Tk) (x : Mo × List Pb), modL g m1 b2 t2 = some x → ∃ k, modL k m b2 (T ++ t2) = some x
  | 0, _, _, _, _, _, _, _, h, _, _, _, _, _ => by cases h
  | f + 1, T, e, m, m1, b, hT, he, h, g, b2, t2, x, hx => by
    cases T with
    | nil =>
      unfold modL at h
      rw [if_pos (show (hd ([] ++ [e])).k = 6 from he)] at h
      cases h
      exact ⟨g, hx⟩
    | cons y T =>
      have hy : y.k ≠ 6 := (hT y (List.mem_cons_self ..)).1
      unfold modL at h
      rw [if_neg (show ¬ (hd (y :: T ++ [e])).k = 6 from hy)] at h
      cases hi : itmR m (y :: T ++ [e]) with
      | out => rw [hi] at h; cases h
      | ok m' r =>
        rw [hi] at h
        obtain ⟨C, T', h1, h2, h3, h4⟩ := itm_app hT he hi
        subst h3
        have hT' : Inn T' := fun z hz => hT z (by rw [h1]; exact List.mem_append_right _ hz)
        obtain ⟨k, hk⟩ := modL_app f T' e m' m1 b hT' he h g b2 t2 x hx
        refine ⟨k + 1, ?_⟩
        unfold modL
        rw [if_neg (show ¬ (hd (y :: T ++ t2)).k = 6 from hy), h4 t2]
        exact hk
      | no a c r =>
        rw [hi] at h
        exfalso
        obtain ⟨h1, _⟩ := modL_grow f _ _ _ _ _ h
        rw [List.length_append, List.length_singleton] at h1
        omega
/-- Modules one after the other. -/
def Mo.app (a m : Mo) : Mo := ⟨a.ts ++ m.ts, a.fs ++ m.fs⟩
theorem itmR_acc (a m : Mo) (l : List Tk) : itmR (a.app m) l = (itmR m l).bind fun m' r => .ok (a.app m') r := by
  unfold itmR
  split
  · simp only [bind_assoc, ok_bind]
    unfold Mo.app
    simp only [List.append_assoc]
  · split
    · simp only [bind_assoc, ok_bind]
      unfold Mo.app
      simp only [List.append_assoc]
    · rfl
theorem modL_acc (a : Mo) (c : List Pb) : ∀ (f : Nat) (m : Mo) (b : List Pb) (l : List Tk) (m1 : Mo) (b1 : List Pb), modL f m b l = some (m1, b1) → modL f (a.app m) (c ++ b) l = some (a.app m1, c ++ b1)
  | 0, _, _, _, _, _, h => by cases h
  | f + 1, m, b, l, m1, b1, h => by
    unfold modL at h ⊢
    rw [itmR_acc]
    split at h
    · rename_i h6
      rw [if_pos h6]
      cases h
      rfl
    · rename_i h6
      rw [if_neg h6]
      cases hi : itmR m l with
      | out => rw [hi] at h; cases h
      | ok m' r => rw [hi] at h; exact modL_acc a c f _ _ _ _ _ h
      | no x y r =>
        rw [hi] at h
        have := modL_acc a c f _ _ _ _ _ h
        rw [← List.append_assoc] at this
        exact this
theorem sim_shift {d : Nat} {e e' : Tk} (he : e.k = 6) (hk : e'.k = e.k) (ht : e'.t = e.t) (ha : e'.a = e.a + (d : Int)) : ∀ T : List Tk, SimR (fun a b => b = a + (d : Int)) (T ++ [e]) (T.map (shT d) ++ [e'])
  | [] => .last he hk ht ha
  | _ :: T => .cons rfl rfl rfl (sim_shift he hk ht ha T)
theorem pbR_shift {d : Nat} : ∀ b : List Pb, PbR (fun a b => b = a + (d : Int)) b (b.map (shB d))
  | [] => .nil
  | (_, _) :: b => .cons rfl (pbR_shift b)
theorem pbR_eq {d : Nat} {b c : List Pb} (h : PbR (fun a b => b = a + (d : Int)) b c) : c = b.map (shB d) := by
  induction h with
  | nil => rfl
  | cons ha h ih =>
    rw [List.map_cons, ← ih, ha]
    rfl
theorem tokB_nil {s : ByteArray} {m : Mo} (h : modR s = some (m, [])) : tokB s = [] := by
  have := (modL_grow _ _ _ _ _ _ h).1
  exact List.eq_nil_of_length_eq_zero (by simpa using this)
/-- The source behind another one. -/
theorem lines_ok {x y z : ByteArray} (hz : z.data.toList = x.data.toList ++ 10 :: y.data.toList) (hs : ¬ 16384 < z.size) (hb : tokB x = []) :
    z.size = x.size + 1 + y.size ∧ tokL z = (lxs 0 false x.data.toList).1 ++ ((lxs 0 false y.data.toList).1.map (shT (x.size + 1)) ++ [endT z]) ∧ tokB z = (tokB y).map (shB (x.size + 1)) := by
  have hsz : z.size = x.size + 1 + y.size := by
    rw [← str_len, hz]
    simp only [List.length_append, List.length_cons, str_len]
    omega
  have hl := lex_lines y.data.toList 0 false x.data.toList
  rw [← hz, str_len] at hl
  have hsh := lex_shift (x.size + 1) 0 false y.data.toList
  rw [show 0 + (x.size + 1) = 0 + x.size + 1 by omega] at hsh
  rw [hsh, lxsB_nil (by omega) hb] at hl
  refine ⟨hsz, ?_, ?_⟩
  · rw [tokL_eq hs, hl, List.append_assoc]
  · unfold tokB
    rw [if_neg hs, if_neg (by omega), hl, List.nil_append, List.map_take]
theorem items_ok {x y z : ByteArray} (hz : z.data.toList = x.data.toList ++ 10 :: y.data.toList) (hs : ¬ 16384 < z.size) {m n : Mo} {b : List Pb} (h1 : modR x = some (m, [])) (h2 : modR y = some (n, b)) :
    modR z = some (m.app n, b.map (shB (x.size + 1))) := by
  have hb := tokB_nil h1
  obtain ⟨hsz, hl, ht⟩ := lines_ok hz hs hb
  unfold modR at h1 h2
  rw [tokL_eq (by omega)] at h1 h2
  obtain ⟨p2, h3, h4⟩ := modL_sim _ _ (sim_shift (d := x.size + 1) (e := endT y) (e' := endT z) rfl rfl rfl (by show ((z.size : Nat) : Int) = ((y.size : Nat) : Int) + _; omega) (lxs 0 false y.data.toList).1) (pbR_shift (tokB y)) _ _ h2
  rw [pbR_eq h4] at h3
  have h5 := modL_acc m [] _ _ _ _ _ _ h3
  rw [hb] at h1
  have hm : m.app ⟨[], []⟩ = m := by unfold Mo.app; simp
  rw [hm, List.nil_append, List.nil_append] at h5
  obtain ⟨k, hk⟩ := modL_app _ _ _ _ _ _ (inn_lxs 0 false x.data.toList) rfl h1 _ _ _ _ h5
  refine modR_of (f := k) ?_
  rw [hl, ht]
  exact hk
end Go.Proofs.YtkgclmikhpjheaaGreatDoor.pa
