/-
  ParserUnits as plain data: the tokens of a text with a unit, and what is read of them; slices.Equal and units.Same: of equal lists of factors; lexer.Name of a string of any length; append of a whole slice; Clone; what combine returns, as cases; formatFactor and Format; strconv's two; what the listed variables hold; strings.SplitN at one byte and five pieces, strings.Cut at one byte: for strings of every length.
-/
import Derived.Lib.Slices
import Derived.Laws.Concat
import Derived.Deep.QuietTactic
import Derived.BigQuiet
import Derived.Deep.DeepCutAuto
import Derived.Lib.Split
import Derived.Deep.OwnRows
import Derived.Deep.LoopGhost
import Derived.Shelf.RegionOpenPlain
import Derived.Laws.Strings3
import Derived.Test.YtbpijgddfaefkaaGreatDoorU04
import Derived.Test.YtbpijgddfaefkaaGreatDoorU08
import Derived.Test.YtbpijgddfaefkaaGreatDoorU09
import Derived.Test.YtbpijgddfaefkaaGreatDoorU20
import Derived.Test.YtbpijgddfaefkaaGreatDoorU21
namespace Go.Proofs.YtbpijgddfaefkaaGreatDoor.pa
open Go.RowKit dec

/-- One token at the beginning, whatever makes it end. -/
theorem lex_one {x : Tk} (h : pr x = true) {y : List UInt8} (hp : shp (so x ++ y) = (x.k, (so x).length)) (p : Nat) :
    lxs p false (so x ++ y) = (⟨x.k, x.t, (p : Nat)⟩ :: (lxs (p + (so x).length) false y).1, (lxs (p + (so x).length) false y).2) := by
  have hk := pr_kind h
  obtain ⟨h1, h2⟩ := (pr_iff x).1 h
  have hk0 : (shp (so x)).1 ≠ 0 := by rw [h1]; show x.k ≠ 0; omega
  have hs := shp_head hk0 y
  have hne : so x ++ y ≠ [] := by
    intro e
    rw [(List.append_eq_nil_iff.1 e).1] at hk0
    exact hk0 rfl
  have ht : (so x ++ y).take (so x).length = so x := List.take_left
  have hd : (so x ++ y).drop (so x).length = y := List.drop_left
  have hk1 : x.k ≠ 0 := by omega
  rw [lex_step (l' := so x ++ y) (by rw [hs, List.drop_zero]) hne, hp, hs]
  simp only [ht, hd, h2, if_true, cont_so, Nat.add_zero, decide_eq_false hk1]
theorem lex_sign {c : UInt8} (r : List UInt8) (h0 : pr ⟨5, ⟨#[c]⟩, 0⟩ = true) (h1 : isL c = false) (h2 : isD c = false) (h3 : c.toNat ≠ 34) (h4 : ¬ (c.toNat = 61 ∨ c.toNat = 33 ∨ c.toNat = 60)) (h5 : isS c = true) (p : Nat) :
    lxs p false (c :: r) = (⟨5, ⟨#[c]⟩, (p : Nat)⟩ :: (lxs (p + 1) false r).1, (lxs (p + 1) false r).2) :=
  lex_one (x := ⟨5, ⟨#[c]⟩, 0⟩) h0 (y := r) (by
    show shp (c :: r) = (5, 1)
    rw [shp_cons, if_neg (by rw [h1]; decide), if_neg (by rw [h2]; decide), if_neg (fun h => h3 h.1), sgn_cons, if_neg (fun h => h4 h.1), if_pos h5]) p
theorem lex_42 (r : List UInt8) (p : Nat) : lxs p false (42 :: r) = (⟨5, ⟨#[42]⟩, (p : Nat)⟩ :: (lxs (p + 1) false r).1, (lxs (p + 1) false r).2) := lex_sign r (by decide) (by decide) (by decide) (by decide) (by decide) (by decide) p
theorem lex_45 (r : List UInt8) (p : Nat) : lxs p false (45 :: r) = (⟨5, ⟨#[45]⟩, (p : Nat)⟩ :: (lxs (p + 1) false r).1, (lxs (p + 1) false r).2) := lex_sign r (by decide) (by decide) (by decide) (by decide) (by decide) (by decide) p
theorem lex_91 (r : List UInt8) (p : Nat) : lxs p false (91 :: r) = (⟨5, ⟨#[91]⟩, (p : Nat)⟩ :: (lxs (p + 1) false r).1, (lxs (p + 1) false r).2) := lex_sign r (by decide) (by decide) (by decide) (by decide) (by decide) (by decide) p
theorem lex_93 (r : List UInt8) (p : Nat) : lxs p false (93 :: r) = (⟨5, ⟨#[93]⟩, (p : Nat)⟩ :: (lxs (p + 1) false r).1, (lxs (p + 1) false r).2) := lex_sign r (by decide) (by decide) (by decide) (by decide) (by decide) (by decide) p
theorem lex_94 (r : List UInt8) (p : Nat) : lxs p false (94 :: r) = (⟨5, ⟨#[94]⟩, (p : Nat)⟩ :: (lxs (p + 1) false r).1, (lxs (p + 1) false r).2) := lex_sign r (by decide) (by decide) (by decide) (by decide) (by decide) (by decide) p
theorem lex_wd {s : ByteArray} (h : pr ⟨1, s, 0⟩ = true) {c : UInt8} (hc : isW c = false) (r : List UInt8) (p : Nat) :
    lxs p false (s.data.toList ++ c :: r) = (⟨1, s, (p : Nat)⟩ :: (lxs (p + s.data.toList.length) false (c :: r)).1, (lxs (p + s.data.toList.length) false (c :: r)).2) :=
  lex_one (x := ⟨1, s, 0⟩) h (y := c :: r) (by
    have h1 := ((pr_iff _).1 h).1
    show shp (s.data.toList ++ c :: r) = (1, s.data.toList.length)
    replace h1 : shp s.data.toList = (1, s.data.toList.length) := h1
    revert h1
    cases s.data.toList with
    | nil => intro h1; exact absurd (congrArg Prod.fst h1) (by decide)
    | cons d q =>
      intro h1
      rw [shp_cons] at h1
      by_cases hl : isL d = true
      · rw [if_pos hl] at h1
        rw [List.cons_append, shp_cons, if_pos hl, ← List.cons_append, run_stop hc]
        exact h1
      · exfalso
        rw [if_neg hl] at h1
        split at h1
        · split at h1 <;> exact absurd (congrArg Prod.fst h1) (by simp)
        · split at h1
          · exact absurd (congrArg Prod.fst h1) (by simp)
          · rw [sgn_cons] at h1
            split at h1
            · exact absurd (congrArg Prod.fst h1) (by simp)
            · split at h1 <;> exact absurd (congrArg Prod.fst h1) (by simp)) p
theorem lex_num {u : Nat} (hu : u ≤ 1152921504606846976) {c : UInt8} (hc : isD c = false) (h46 : c.toNat ≠ 46) (r : List UInt8) (p : Nat) :
    lxs p false (Lib.decDigits u ++ c :: r) = (⟨2, ⟨(Lib.decDigits u).toArray⟩, (p : Nat)⟩ :: (lxs (p + (Lib.decDigits u).length) false (c :: r)).1, (lxs (p + (Lib.decDigits u).length) false (c :: r)).2) := by
  have hd := dec_isD u
  have hne : Lib.decDigits u ≠ [] := by obtain ⟨c, q, e⟩ := dec_cons u; rw [e]; exact List.cons_ne_nil _ _
  have hp : pr ⟨2, ⟨(Lib.decDigits u).toArray⟩, 0⟩ = true := pr_int rfl hne hd (by rw [dec_dval]; exact hu) 0
  refine lex_one (x := ⟨2, ⟨(Lib.decDigits u).toArray⟩, 0⟩) hp (y := c :: r) ?_ p
  show shp (Lib.decDigits u ++ c :: r) = (2, (Lib.decDigits u).length)
  have h1 : run isD (Lib.decDigits u ++ c :: r) = (Lib.decDigits u).length := by rw [run_stop hc, run_whole hd]
  obtain ⟨d, q, e⟩ := dec_cons u
  rw [e] at h1 hd ⊢
  have hd0 := hd d (List.mem_cons_self ..)
  rw [List.cons_append] at h1 ⊢
  rw [shp_cons, if_neg (isL_D hd0), if_pos hd0, h1]
  have : ((d :: (q ++ c :: r)).drop (d :: q).length) = c :: r := by rw [← List.cons_append]; exact List.drop_left
  rw [this, pnt_cons, if_neg h46, if_pos rfl]
theorem name_pr {s : ByteArray} (h : name s = true) : pr ⟨1, s, 0⟩ = true := by
  unfold name at h
  rw [Bool.and_eq_true] at h
  rw [← prB_pr ⟨1, s, 0⟩ (s := s) rfl]
  exact h.1
/-- Tokens that a factor is read from, whatever follows but ^. -/
def Fr (x : un.Fa) (T : List Tk) : Prop := T ≠ [] ∧ ∀ L, isT ⟨#[94]⟩ L = false → fac (T ++ L) = .ok x L
theorem hd_cons (x : Tk) (l : List Tk) : hd (x :: l) = x := rfl
theorem nam_tok {s : ByteArray} (h : name s = true) (a : Int) (L : List Tk) : nam (⟨1, s, a⟩ :: L) = .ok s L := by
  unfold nam tak
  rw [hd_cons, if_pos h, if_pos rfl]
  rfl
theorem int_tok (u : Nat) (hu : u ≤ 1000) (a : Int) (L : List Tk) : int (⟨2, ⟨(Lib.decDigits u).toArray⟩, a⟩ :: L) = .ok (u : Int) L := by
  unfold int tak
  rw [hd_cons, if_pos rfl]
  show Rs.ok (atoiN (Lib.decDigits u)) L = _
  have := atoi_back (n := (u : Int)) (by omega) (by omega)
  unfold Lib.itoa at this
  rw [if_neg (by omega), Int.toNat_natCast] at this
  rw [this]
theorem isT_5 {s t : ByteArray} {a : Int} {l : List Tk} : isT s (⟨5, t, a⟩ :: l) = decide (t = s) := by
  unfold isT hd
  simp
theorem isT_2 {s t : ByteArray} {a : Int} {l : List Tk} : isT s (⟨2, t, a⟩ :: l) = false := by
  unfold isT hd
  simp
theorem lex_fac (x : un.Fa) (hn : name x.1 = true) (h1 : -1000 ≤ x.2) (h2 : x.2 ≤ 1000) (c : UInt8) (hc : c = 42 ∨ c = 93) (r : List UInt8) (p : Nat) :
    ∃ T, lxs p false (un.f1 x ++ c :: r) = (T ++ (lxs (p + (un.f1 x).length) false (c :: r)).1, (lxs (p + (un.f1 x).length) false (c :: r)).2) ∧ Fr x T := by
  have hp := name_pr hn
  have hW : isW c = false := by rcases hc with rfl | rfl <;> decide
  have hD : isD c = false := by rcases hc with rfl | rfl <;> decide
  have h46 : c.toNat ≠ 46 := by rcases hc with rfl | rfl <;> decide
  unfold un.f1
  by_cases hx : x.2 = 1
  · rw [if_pos hx, lex_wd hp hW]
    refine ⟨[⟨1, x.1, p⟩], rfl, List.cons_ne_nil _ _, fun L hL => ?_⟩
    unfold fac
    rw [List.singleton_append, nam_tok hn]
    rw [bind_okE, if_neg (by rw [hL]; decide), ← hx]
  · rw [if_neg hx]
    unfold Lib.itoa
    by_cases hneg : x.2 < 0
    · rw [if_pos hneg]
      have hu : (x.2.natAbs : Nat) ≤ 1000 := by omega
      rw [show x.1.data.toList ++ 94 :: 45 :: Lib.decDigits x.2.natAbs ++ c :: r = x.1.data.toList ++ 94 :: (45 :: (Lib.decDigits x.2.natAbs ++ c :: r)) by simp]
      rw [lex_wd hp (by decide), lex_94, lex_45, lex_num (by omega) hD h46]
      refine ⟨[⟨1, x.1, p⟩, ⟨5, ⟨#[94]⟩, ((p + x.1.data.toList.length : Nat) : Int)⟩, ⟨5, ⟨#[45]⟩, ((p + x.1.data.toList.length + 1 : Nat) : Int)⟩, ⟨2, ⟨(Lib.decDigits x.2.natAbs).toArray⟩, ((p + x.1.data.toList.length + 1 + 1 : Nat) : Int)⟩], ?_, List.cons_ne_nil _ _, fun L hL => ?_⟩
      · rw [show p + (x.1.data.toList ++ 94 :: 45 :: Lib.decDigits x.2.natAbs).length = p + x.1.data.toList.length + 1 + 1 + (Lib.decDigits x.2.natAbs).length by simp; omega]
        rfl
      · unfold fac
        rw [List.cons_append, nam_tok hn]
        rw [bind_okE, List.cons_append, isT_5, if_pos (by decide)]
        rw [List.tail_cons, List.cons_append, isT_5, if_pos (by decide), List.tail_cons, List.cons_append, int_tok _ hu]
        show Rs.ok (x.1, IntKind.i64.wrap (-1 * min ((x.2.natAbs : Nat) : Int) 1099511627776)) L = _
        have e : IntKind.i64.wrap (-1 * min ((x.2.natAbs : Nat) : Int) 1099511627776) = x.2 := by
          rw [show (-1 * min ((x.2.natAbs : Nat) : Int) 1099511627776) = x.2 by omega]
          rw [IntKind.wrap_i64]; omega
        rw [e]
    · rw [if_neg hneg]
      have hu : (x.2.toNat : Nat) ≤ 1000 := by omega
      rw [show x.1.data.toList ++ 94 :: Lib.decDigits x.2.toNat ++ c :: r = x.1.data.toList ++ 94 :: (Lib.decDigits x.2.toNat ++ c :: r) by simp]
      rw [lex_wd hp (by decide), lex_94, lex_num (by omega) hD h46]
      refine ⟨[⟨1, x.1, p⟩, ⟨5, ⟨#[94]⟩, ((p + x.1.data.toList.length : Nat) : Int)⟩, ⟨2, ⟨(Lib.decDigits x.2.toNat).toArray⟩, ((p + x.1.data.toList.length + 1 : Nat) : Int)⟩], ?_, List.cons_ne_nil _ _, fun L hL => ?_⟩
      · rw [show p + (x.1.data.toList ++ 94 :: Lib.decDigits x.2.toNat).length = p + x.1.data.toList.length + 1 + (Lib.decDigits x.2.toNat).length by simp; omega]
        rfl
      · unfold fac
        rw [List.cons_append, nam_tok hn]
        rw [bind_okE, List.cons_append, isT_5, if_pos (by decide)]
        rw [List.tail_cons, List.cons_append, isT_2, if_neg (by decide), int_tok _ hu]
        show Rs.ok (x.1, IntKind.i64.wrap (1 * min ((x.2.toNat : Nat) : Int) 1099511627776)) L = _
        have e : IntKind.i64.wrap (1 * min ((x.2.toNat : Nat) : Int) 1099511627776) = x.2 := by
          rw [show (1 * min ((x.2.toNat : Nat) : Int) 1099511627776) = x.2 by omega]
          rw [IntKind.wrap_i64]; omega
        rw [e]
/-- Factors as they may be printed. -/
def Pf (l : List un.Fa) : Prop := ∀ x ∈ l, name x.1 = true ∧ -1000 ≤ x.2 ∧ x.2 ≤ 1000
/-- The factors behind the first one. -/
theorem lex_more : ∀ (xs : List un.Fa) (_ : Pf xs) (r : List UInt8) (p : Nat),
    ∃ T q, lxs p false (Lib.joinTail [42] (xs.map un.f1) ++ 93 :: r) = (T ++ (lxs q false (93 :: r)).1, (lxs q false (93 :: r)).2) ∧ xs.length ≤ T.length ∧ (∀ L, isT ⟨#[94]⟩ L = false → isT ⟨#[94]⟩ (T ++ L) = false) ∧
      ∀ (L : List Tk) (acc : List un.Fa) (f : Nat), isT ⟨#[94]⟩ L = false → isT ⟨#[42]⟩ L = false → xs.length < f → more fac ⟨#[42]⟩ f acc (T ++ L) = .ok (acc ++ xs) L
  | [], _, r, p => by
    refine ⟨[], p, rfl, Nat.le_refl _, fun L h => h, fun L acc f h1 h2 hf => ?_⟩
    cases f with
    | zero => omega
    | succ f =>
      unfold more
      rw [List.nil_append, if_neg (by rw [h2]; decide), List.append_nil]
  | x :: xs, h, r, p => by
    obtain ⟨g1, g2, g3⟩ := h x (List.mem_cons_self ..)
    have hxs : Pf xs := fun y hy => h y (List.mem_cons_of_mem _ hy)
    have hh : ∃ c s, Lib.joinTail [42] (xs.map un.f1) ++ 93 :: r = c :: s ∧ (c = 42 ∨ c = 93) := by
      cases xs with
      | nil => exact ⟨93, r, rfl, .inr rfl⟩
      | cons y ys => exact ⟨42, _, by simp [Lib.joinTail]; rfl, .inl rfl⟩
    obtain ⟨c, s, hcs, hc⟩ := hh
    obtain ⟨T1, e1, k0, k1⟩ := lex_fac x g1 g2 g3 c hc s (p + 1)
    obtain ⟨T2, q, e2, l2, n2, m2⟩ := lex_more xs hxs r (p + 1 + (un.f1 x).length)
    refine ⟨⟨5, ⟨#[42]⟩, (p : Nat)⟩ :: (T1 ++ T2), q, ?_, ?_, fun L _ => by rw [List.cons_append, isT_5]; decide, fun L acc f h1 h2 hf => ?_⟩
    · have e0 : Lib.joinTail [42] ((x :: xs).map un.f1) ++ 93 :: r = 42 :: (un.f1 x ++ (Lib.joinTail [42] (xs.map un.f1) ++ 93 :: r)) := by simp [Lib.joinTail]
      rw [e0, lex_42, hcs, e1, ← hcs, e2]
      simp
    · have : 1 ≤ T1.length := by cases T1 with | nil => exact absurd rfl k0 | cons _ _ => simp
      simp only [List.length_cons, List.length_append]
      omega
    · cases f with
      | zero => omega
      | succ f =>
        unfold more
        rw [List.cons_append, isT_5, if_pos (by decide), List.tail_cons, List.append_assoc, k1 _ (n2 L h1)]
        show more fac ⟨#[42]⟩ f (acc ++ [x]) (T2 ++ L) = _
        rw [m2 L (acc ++ [x]) f h1 h2 (by simpa using hf), List.append_assoc]
        rfl
theorem lex_unit {l : List un.Fa} (hl : l ≠ []) (h : Pf l) (r : List UInt8) (p : Nat) :
    ∃ T q, lxs p false (91 :: (un.fT l ++ 93 :: r)) = (⟨5, ⟨#[91]⟩, (p : Nat)⟩ :: (T ++ ⟨5, ⟨#[93]⟩, (q : Nat)⟩ :: (lxs (q + 1) false r).1), (lxs (q + 1) false r).2) ∧
      ∀ L, uni (⟨5, ⟨#[91]⟩, (p : Nat)⟩ :: (T ++ ⟨5, ⟨#[93]⟩, (q : Nat)⟩ :: L)) = if un.nE l = 0 then .ok (un.nL l) L else .no (p : Nat) (un.nE l) L := by
  cases l with
  | nil => exact absurd rfl hl
  | cons x xs =>
    obtain ⟨g1, g2, g3⟩ := h x (List.mem_cons_self ..)
    have hxs : Pf xs := fun y hy => h y (List.mem_cons_of_mem _ hy)
    have hh : ∃ c s, Lib.joinTail [42] (xs.map un.f1) ++ 93 :: r = c :: s ∧ (c = 42 ∨ c = 93) := by
      cases xs with
      | nil => exact ⟨93, r, rfl, .inr rfl⟩
      | cons y ys => exact ⟨42, _, by simp [Lib.joinTail]; rfl, .inl rfl⟩
    obtain ⟨c, s, hcs, hc⟩ := hh
    obtain ⟨T1, e1, k0, k1⟩ := lex_fac x g1 g2 g3 c hc s (p + 1)
    obtain ⟨T2, q, e2, l2, n2, m2⟩ := lex_more xs hxs r (p + 1 + (un.f1 x).length)
    refine ⟨T1 ++ T2, q, ?_, fun L => ?_⟩
    · have e0 : un.fT (x :: xs) ++ 93 :: r = un.f1 x ++ (Lib.joinTail [42] (xs.map un.f1) ++ 93 :: r) := by
        unfold un.fT
        rw [List.map_cons, Lib.join_cons, List.append_assoc]
      rw [e0, lex_91, hcs, e1, ← hcs, e2, lex_93]
      simp
    · have hB : isT ⟨#[94]⟩ (⟨5, ⟨#[93]⟩, (q : Nat)⟩ :: L) = false := by rw [isT_5]; decide
      have hS : isT ⟨#[42]⟩ (⟨5, ⟨#[93]⟩, (q : Nat)⟩ :: L) = false := by rw [isT_5]; decide
      have hlst : lst fac ⟨#[42]⟩ (T1 ++ T2 ++ ⟨5, ⟨#[93]⟩, (q : Nat)⟩ :: L) = .ok (x :: xs) (⟨5, ⟨#[93]⟩, (q : Nat)⟩ :: L) := by
        unfold lst
        rw [List.append_assoc, k1 _ (n2 _ hB)]
        show more fac ⟨#[42]⟩ _ [x] _ = _
        rw [m2 _ [x] _ hB hS (by simp only [List.length_append, List.length_cons]; omega)]
        rfl
      unfold uni
      rw [isT_5, if_pos (by decide), List.tail_cons, hlst]
      rw [bind_okE]
      unfold need
      rw [isT_5, if_pos (by decide), List.tail_cons, hd_cons]
      rfl
/-- What follows behind a unit: nothing. -/
theorem uni_whole {l : List un.Fa} (hl : l ≠ []) (h : Pf l) (p : Nat) : ∃ T q, lxs p false (91 :: (un.fT l ++ [93])) = (⟨5, ⟨#[91]⟩, (p : Nat)⟩ :: (T ++ [⟨5, ⟨#[93]⟩, (q : Nat)⟩]), []) ∧
    ∀ L, uni (⟨5, ⟨#[91]⟩, (p : Nat)⟩ :: (T ++ ⟨5, ⟨#[93]⟩, (q : Nat)⟩ :: L)) = if un.nE l = 0 then .ok (un.nL l) L else .no (p : Nat) (un.nE l) L := by
  obtain ⟨T, q, h1, h2⟩ := lex_unit hl h [] p
  rw [lex_nil] at h1
  exact ⟨T, q, h1, h2⟩
theorem isT_1 {s t : ByteArray} {a : Int} {l : List Tk} : isT s (⟨1, t, a⟩ :: l) = decide (t = s) := by
  unfold isT hd
  simp
theorem stp_end (s : ByteArray) : Stp [endT s] := .inl ⟨rfl, rfl⟩
/-- The sources of the statement. -/
def s7 (u : ByteArray) : ByteArray := ⟨#[55, 32]⟩ ++ (⟨#[91]⟩ ++ u ++ ⟨#[93]⟩)
def sd (u : ByteArray) : ByteArray := ⟨#[100, 101, 99, 32]⟩ ++ (⟨#[91]⟩ ++ u ++ ⟨#[93]⟩)
theorem s7_data (u : ByteArray) : (s7 u).data.toList = 55 :: 32 :: 91 :: (u.data.toList ++ [93]) := by
  unfold s7
  simp [ByteArray.data_append]
theorem sd_data (u : ByteArray) : (sd u).data.toList = 100 :: 101 :: 99 :: 32 :: 91 :: (u.data.toList ++ [93]) := by
  unfold sd
  simp [ByteArray.data_append]
theorem s7_size (u : ByteArray) : (s7 u).size = u.size + 4 := by rw [← str_len, s7_data, ← str_len]; simp
theorem sd_size (u : ByteArray) : (sd u).size = u.size + 6 := by rw [← str_len, sd_data, ← str_len]; simp
theorem lex_7 (l : List UInt8) : lxs 0 false (55 :: 32 :: l) = (⟨2, ⟨#[55]⟩, 0⟩ :: (lxs 2 false l).1, (lxs 2 false l).2) := by
  have h := lex_tok (x := ⟨2, ⟨#[55]⟩, 0⟩) (pr_int (ds := [55]) rfl (by decide) (by decide) (by decide) 0) (y := 32 :: l) (.inr ⟨_, rfl⟩) 0 false
  have g := lex_gap gp_one l 1 false
  rw [show lxs 2 false l = lxs 1 false ([32] ++ l) from g.symm]
  exact h
theorem lex_dec (l : List UInt8) : lxs 0 false (100 :: 101 :: 99 :: 32 :: l) = (⟨1, ⟨#[100, 101, 99]⟩, 0⟩ :: (lxs 4 false l).1, (lxs 4 false l).2) := by
  have h := lex_tok (x := ⟨1, ⟨#[100, 101, 99]⟩, 0⟩) (by rw [pr_iff]; exact ⟨by decide, by decide⟩) (y := 32 :: l) (.inr ⟨_, rfl⟩) 0 false
  have g := lex_gap gp_one l 3 false
  rw [show lxs 4 false l = lxs 3 false ([32] ++ l) from g.symm]
  exact h
theorem tok_of {s : ByteArray} (hs : s.size ≤ 16384) {L : List Tk} (h : lxs 0 false s.data.toList = (L, [])) : tokE s = 0 ∧ tokB s = [] ∧ tokL s = L ++ [endT s] := by
  have h0 : ¬ 16384 < s.size := by omega
  refine ⟨by unfold tokE; rw [if_neg h0], by unfold tokB; rw [if_neg h0, h]; rfl, by rw [tokL_eq h0, h]⟩
theorem int_7 (a : Int) (L : List Tk) : int (⟨2, ⟨#[55]⟩, a⟩ :: L) = .ok 7 L := by
  have := int_tok 7 (by decide) a L
  rw [Lib.decDigits_one (by decide)] at this
  exact this
theorem all_no {α : Type} {one : List Tk → Rs α} {l r : List Tk} {a c : Int} (h : one l = .no a c r) : allR one l = .no a c r := by
  unfold allR
  rw [h]
  rfl
theorem pz_int {f : Nat} {i : Bool} {l : List Tk} (h : (hd l).k = 2) : pz (f + 1) i .pr l = (int l).bind fun n r => (uni r).bind fun u r => .ok (litE 2 n u) r := by
  simp only [pz]
  rw [if_pos h]
theorem top_7 {l : List un.Fa} (hl : l ≠ []) (h : Pf l) {u : ByteArray} (hu : u.data.toList = un.fT l) (hs : u.size ≤ 16000) :
    topR (α := Ex) ⟨h0, .nil⟩ exR (s7 u) = if un.nE l = 0 then (litE 2 7 (un.nL l), 0, 0) else (⟨h0, .nil⟩, 2, un.nE l) := by
  obtain ⟨T, q, h1, h2⟩ := uni_whole hl h 2
  have hz := s7_size u
  have hx : lxs 0 false (s7 u).data.toList = (⟨2, ⟨#[55]⟩, 0⟩ :: ⟨5, ⟨#[91]⟩, ((2 : Nat) : Int)⟩ :: (T ++ [⟨5, ⟨#[93]⟩, (q : Nat)⟩]), []) := by
    rw [s7_data, hu, lex_7, h1]
  obtain ⟨t1, t2, t3⟩ := tok_of (by omega) hx
  have e3 : tokL (s7 u) = ⟨2, ⟨#[55]⟩, 0⟩ :: ⟨5, ⟨#[91]⟩, ((2 : Nat) : Int)⟩ :: (T ++ ⟨5, ⟨#[93]⟩, (q : Nat)⟩ :: [endT (s7 u)]) := by rw [t3]; simp
  have e2 := h2 [endT (s7 u)]
  have hpz : exR (tokL (s7 u)) = if un.nE l = 0 then .ok (litE 2 7 (un.nL l)) [endT (s7 u)] else .no ((2 : Nat) : Int) (un.nE l) [endT (s7 u)] := by
    rw [e3]
    generalize hL : (⟨5, ⟨#[91]⟩, ((2 : Nat) : Int)⟩ :: (T ++ ⟨5, ⟨#[93]⟩, (q : Nat)⟩ :: [endT (s7 u)]) : List Tk) = L at e2 ⊢
    unfold exR
    have hlen : 1 ≤ L.length := by rw [← hL]; simp
    obtain ⟨g, hg⟩ : ∃ g, 8 * (⟨2, ⟨#[55]⟩, 0⟩ :: L : List Tk).length + 5 = g + 12 := ⟨8 * (⟨2, ⟨#[55]⟩, 0⟩ :: L : List Tk).length + 5 - 12, by simp only [List.length_cons]; omega⟩
    rw [hg, pz_ex (f := g + 11) isT_2, pz_op (f := g + 10) isT_2, pz_ng (f := g + 9) isT_2]
    rw [pz_int rfl, int_7, bind_okE, e2]
    by_cases hE : un.nE l = 0
    · rw [if_pos hE, if_pos hE]
      exact tl_end (stp_end _) false _ 6 (g + 10) (by omega)
    · rw [if_neg hE, if_neg hE]
      rfl
  by_cases hE : un.nE l = 0
  · rw [if_pos hE] at hpz ⊢
    exact topR_ok t1 t2 (all_of hpz rfl)
  · rw [if_neg hE] at hpz ⊢
    exact topR_no t1 t2 (all_no hpz)
theorem top_dec {l : List un.Fa} (hl : l ≠ []) (h : Pf l) {u : ByteArray} (hu : u.data.toList = un.fT l) (hs : u.size ≤ 16000) :
    topR (α := Ty) ⟨0, [], .empty⟩ typ (sd u) = if un.nE l = 0 then (⟨3, un.nL l, .empty⟩, 0, 0) else (⟨0, [], .empty⟩, 4, un.nE l) := by
  obtain ⟨T, q, h1, h2⟩ := uni_whole hl h 4
  have hz := sd_size u
  have hx : lxs 0 false (sd u).data.toList = (⟨1, ⟨#[100, 101, 99]⟩, 0⟩ :: ⟨5, ⟨#[91]⟩, ((4 : Nat) : Int)⟩ :: (T ++ [⟨5, ⟨#[93]⟩, (q : Nat)⟩]), []) := by
    rw [sd_data, hu, lex_dec, h1]
  obtain ⟨t1, t2, t3⟩ := tok_of (by omega) hx
  have e3 : tokL (sd u) = ⟨1, ⟨#[100, 101, 99]⟩, 0⟩ :: ⟨5, ⟨#[91]⟩, ((4 : Nat) : Int)⟩ :: (T ++ ⟨5, ⟨#[93]⟩, (q : Nat)⟩ :: [endT (sd u)]) := by rw [t3]; simp
  have e2 := h2 [endT (sd u)]
  have hpz : typ (tokL (sd u)) = if un.nE l = 0 then .ok ⟨3, un.nL l, .empty⟩ [endT (sd u)] else .no ((4 : Nat) : Int) (un.nE l) [endT (sd u)] := by
    rw [e3]
    unfold typ
    rw [isT_1, if_neg (by decide), isT_1, if_neg (by decide), isT_1, if_neg (by decide), isT_1, if_neg (by decide), isT_1, if_pos (by decide), List.tail_cons, e2]
    by_cases hE : un.nE l = 0
    · rw [if_pos hE, if_pos hE]
      rfl
    · rw [if_neg hE, if_neg hE]
      rfl
  by_cases hE : un.nE l = 0
  · rw [if_pos hE] at hpz ⊢
    exact topR_ok t1 t2 (all_of hpz rfl)
  · rw [if_neg hE] at hpz ⊢
    exact topR_no t1 t2 (all_no hpz)
/-- The size of what is printed. -/
theorem f1_size {x : un.Fa} (hn : name x.1 = true) (h1 : -1000 ≤ x.2) (h2 : x.2 ≤ 1000) : (un.f1 x).length ≤ 100 := by
  have hw : x.1.data.toList.length ≤ 24 := by
    have h := ((pr_iff _).1 (name_pr hn)).2
    have h' : flt 1 x.1.data.toList = 0 := h
    rw [flt_one] at h'
    split at h'
    · cases h'
    · omega
  have hd : ∀ u : Nat, u ≤ 1000 → (Lib.decDigits u).length ≤ 4 := by
    intro u hu
    by_cases h : u < 10
    · rw [Lib.decDigits_one h]; simp
    · by_cases h' : u < 100
      · rw [Lib.decDigits_two h h']; simp
      · rw [Lib.decDigits, dif_neg h]
        by_cases h3 : u / 10 < 10
        · omega
        · by_cases h4 : u / 10 < 100
          · rw [Lib.decDigits_two h3 h4]; simp
          · rw [show u = 1000 by omega]
            rw [Lib.decDigits, dif_neg (by decide), Lib.decDigits_two (by decide) (by decide)]
            simp
  unfold un.f1
  split
  · omega
  · rw [List.length_append, List.length_cons]
    unfold Lib.itoa
    have a1 := hd x.2.natAbs (by omega)
    have a2 := hd x.2.toNat (by omega)
    split
    · rw [List.length_cons]; omega
    · omega
theorem fT_size : ∀ (l : List un.Fa), Pf l → (un.fT l).length ≤ 101 * l.length
  | [], _ => Nat.zero_le _
  | [x], h => by
    obtain ⟨g1, g2, g3⟩ := h x (List.mem_cons_self ..)
    unfold un.fT
    rw [List.map_singleton, Lib.join_one]
    have := f1_size g1 g2 g3
    simp only [List.length_singleton]
    omega
  | x :: y :: l, h => by
    obtain ⟨g1, g2, g3⟩ := h x (List.mem_cons_self ..)
    have ih := fT_size (y :: l) fun z hz => h z (List.mem_cons_of_mem _ hz)
    have hx := f1_size g1 g2 g3
    unfold un.fT at ih ⊢
    rw [List.map_cons, List.map_cons] at *
    rw [Lib.join_cons] at ih ⊢
    rw [List.length_append] at ih ⊢
    simp only [Lib.joinTail, List.map_cons, List.flatten_cons, List.length_append, List.length_cons, List.length_nil] at ih ⊢
    omega
end Go.Proofs.YtbpijgddfaefkaaGreatDoor.pa
namespace Go.Proofs.YtbpijgddfaefkaaGreatDoor.pa
open Go.RowKit dec

/-- A list of factors that is read. -/
def Uc (w : World) (a : Option Addr) (l : List un.Fa) : Prop := l.length = 0 ∨ ∃ b off, a = some ⟨b, off, none⟩ ∧ un.Cl w b off l
theorem Uc.keeps {w w' : World} {a : Option Addr} {l : List un.Fa} (h : Uc w a l) (hb : Below w.heap.size w w') : Uc w' a l := h.imp id fun ⟨b, off, e, hC⟩ => ⟨b, off, e, hC.keeps hb⟩
theorem Us.uc {C : Nat} {w : World} {a : Option Addr} {l : List un.Fa} (h : Us C w a l) : Uc w a l := h.imp id fun ⟨b, off, e, _, hC, _⟩ => ⟨b, off, e, hC⟩
set_option maxRecDepth 100000 in
set_option maxHeartbeats 1000000 in
theorem eqU_any (l : List un.Fa) (ua ub : Option Addr) (uc ud : Nat) (w : World) (hA : Uc w ua l) (hB : Uc w ub l) (hn : l.length ≤ 1048576) :
    Calls Tryz.prog 67 #[.slice ua l.length uc, .slice ub l.length ud] w (Say (.bool true) w) := by
  have h1 := Lib.hid hA
  have h2 := Lib.hid hB
  have hN := Lib.hid hn
  clear hA hB hn
  have qn : ((l.length : Int) != (l.length : Int)) = false := by simp
  go_enter Tryz.func67, Tryz.ntmps67
  go_wp2_with fail
  go_loopw [13] (fun i wr => ∃ j : Nat, i = .int .i64 (j : Nat) ∧ Hid (j ≤ l.length) ∧ Below w.heap.size w wr) (fun i _ => l.length - (intOf i).toNat)
  case atStart => exact ⟨0, rfl, Lib.hid (Nat.zero_le _), b0 w⟩
  case round =>
    obtain ⟨j, rfl, hj, hb⟩ := hrel
    by_cases hlt : j < l.length
    · have q1 : decide ((j : Int) < (l.length : Int)) = true := decide_eq_true (by omega)
      obtain ⟨bk, off, rfl, hC⟩ := (h1.out.keeps hb).resolve_left (by omega)
      obtain ⟨bk2, off2, rfl, hD⟩ := (h2.out.keeps hb).resolve_left (by omega)
      obtain ⟨c0, c1⟩ := hC j (by omega)
      obtain ⟨d0, d1⟩ := hD j (by omega)
      have f4 := Lib.hid (next_at (j := j) (by have := hN.out; omega))
      have hbh := Lib.hid hb
      have i1 : (j : Int) < (l.length : Int) := by omega
      clear hC hD h1 h2 hj hb
      generalize un.gt l j = x at *
      go_wp2_with fail
      go_region
      go_wp2_with fail
      refine ⟨⟨j + 1, congrArg (Value.int .i64) f4.out, Lib.hid hlt, hbh.out.drew⟩, less_at hlt f4.out⟩
    · have q1 : decide ((j : Int) < (l.length : Int)) = false := decide_eq_false (by omega)
      have hbh := Lib.hid hb
      clear h1 h2 hj hb
      go_wp2_with fail
      go_ret
      exact ⟨rfl, hbh.out⟩
theorem sameUs_any (l : List un.Fa) (ua ub : Option Addr) (uc ud : Nat) (w : World) (hA : Uc w ua l) (hB : Uc w ub l) (hn : l.length ≤ 1048576) :
    Calls Tryz.prog 22 #[.slice ua l.length uc, .slice ub l.length ud] w (Say (.bool true) w) := by
  have C := Lib.hid (eqU_any l ua ub uc ud w hA hB hn)
  clear hA hB
  go_enter Tryz.func22, Tryz.ntmps22
  go_wp2_with fail
  refine C.out.mono ?_
  rintro e w1 ⟨rfl, b1⟩
  go_wp2_with fail
  go_ret
  exact ⟨rfl, b1⟩
end Go.Proofs.YtbpijgddfaefkaaGreatDoor.pa
namespace Go.Proofs.YtbpijgddfaefkaaGreatDoor
open Go.RowKit dec

set_option maxRecDepth 100000 in
set_option maxHeartbeats 1000000 in
theorem faultW_any (s : ByteArray) (w : World) :
    Calls Tryz.prog 70 #[.int .i64 1, .string s] w fun e w' => e = .returned (.int .i64 (flt 1 s.data.toList)) ∧ Below w.heap.size w w' := by
  have hf := Lib.hid (flt_one s.data.toList)
  rw [str_len] at hf
  by_cases hc : 24 < s.size
  · have q : decide (24 < (s.size : Int)) = true := decide_eq_true (by omega)
    rw [if_pos hc] at hf
    go_enter Tryz.func70, Tryz.ntmps70
    go_wp2_with fail
    go_ret
    exact ⟨ret_int hf.out.symm, b0 w⟩
  · have q : decide (24 < (s.size : Int)) = false := decide_eq_false (by omega)
    rw [if_neg hc] at hf
    go_enter Tryz.func70, Tryz.ntmps70
    go_wp2_with fail
    go_ret
    exact ⟨ret_int hf.out.symm, b0 w⟩
set_option maxRecDepth 100000 in
set_option maxHeartbeats 1000000 in
theorem isTokenW_any (s : ByteArray) (hs : s.size ≤ 140737488355328) (w : World) (T : Tabs w) :
    Calls Tryz.prog 54 #[.int .i64 1, .string s] w fun e w' => e = .returned (.bool (prB 1 s)) ∧ Below w.heap.size w w' := by
  have SC := Lib.hid (shape_any s hs w T)
  clear T
  obtain ⟨q, hq⟩ : ∃ q, shp s.data.toList = q := ⟨_, rfl⟩
  obtain ⟨k1, n⟩ := q
  rw [hq] at SC
  by_cases h1 : k1 = 1
  · subst h1
    by_cases h2 : n = s.size
    · subst h2
      have q2 : ((s.size : Int) == (s.size : Int)) = true := by rw [beq_iff_eq]
      have FC := Lib.hid (fun W => faultW_any s W)
      have hp := Lib.hid (show prB 1 s = (flt 1 s.data.toList == 0) by unfold prB; rw [decide_eq_true hq, Bool.true_and, eqb])
      clear hq hs
      generalize flt 1 s.data.toList = f at *
      go_enter Tryz.func54, Tryz.ntmps54
      go_wp2_with fail
      refine SC.out.mono ?_
      rintro e w1 ⟨rfl, b1⟩
      have B1 := Lib.hid b1
      clear b1
      go_wp2_with fail
      refine (FC.out _).mono ?_
      rintro e w2 ⟨rfl, b2⟩
      have B2 := Lib.hid (bnext B1.out b2)
      clear b2
      generalize hf : (f == 0) = b at *
      cases b
      · go_wp2_with fail
        go_ret
        exact ⟨ret_bool hp.out.symm, B2.out⟩
      · go_wp2_with fail
        go_ret
        exact ⟨ret_bool hp.out.symm, B2.out⟩
    · have q2 : ((n : Int) == (s.size : Int)) = false := by rw [beq_eq_false_iff_ne]; omega
      have hp := Lib.hid (show prB 1 s = false by unfold prB; rw [decide_eq_false (by rw [hq]; intro e; exact h2 (Prod.mk.inj e).2), Bool.false_and])
      clear hq hs h2
      go_enter Tryz.func54, Tryz.ntmps54
      go_wp2_with fail
      refine SC.out.mono ?_
      rintro e w1 ⟨rfl, b1⟩
      have B1 := Lib.hid b1
      clear b1
      go_wp2_with fail
      go_ret
      exact ⟨ret_bool hp.out.symm, B1.out⟩
  · have q1 : (k1 == 1) = false := by rw [beq_eq_false_iff_ne]; exact h1
    have hp := Lib.hid (show prB 1 s = false by unfold prB; rw [decide_eq_false (by rw [hq]; intro e; exact h1 (Prod.mk.inj e).1), Bool.false_and])
    clear hq hs h1
    go_enter Tryz.func54, Tryz.ntmps54
    go_wp2_with fail
    refine SC.out.mono ?_
    rintro e w1 ⟨rfl, b1⟩
    have B1 := Lib.hid b1
    clear b1
    go_wp2_with fail
    go_ret
    exact ⟨ret_bool hp.out.symm, B1.out⟩
set_option maxRecDepth 100000 in
theorem nameW_any (s : ByteArray) (hs : s.size ≤ 140737488355328) (w : World) (T : Tabs w) :
    Calls Tryz.prog 18 #[.string s] w fun e w' => e = .returned (.bool (name s)) ∧ Below w.heap.size w w' := by
  have IC := Lib.hid (isTokenW_any s hs w T)
  have KC := Lib.hid (fun W => keyword_any s W)
  have hn : Hid (name s = (prB 1 s && !kw s)) := Lib.hid rfl
  generalize prB 1 s = p at *
  generalize kw s = q at *
  clear T
  cases p
  · go_enter Tryz.func18, Tryz.ntmps18
    go_wp2_with fail
    refine IC.out.mono ?_
    rintro e w1 ⟨rfl, b1⟩
    have B1 := Lib.hid b1
    clear b1
    go_wp2_with fail
    go_ret
    exact ⟨ret_bool hn.out.symm, B1.out⟩
  · go_enter Tryz.func18, Tryz.ntmps18
    go_wp2_with fail
    refine IC.out.mono ?_
    rintro e w1 ⟨rfl, b1⟩
    have B1 := Lib.hid b1
    clear b1
    go_wp2_with fail
    refine (KC.out _).mono ?_
    rintro e w2 ⟨rfl, rfl⟩
    go_wp2_with fail
    go_ret
    exact ⟨ret_bool hn.out.symm, B1.out⟩
end Go.Proofs.YtbpijgddfaefkaaGreatDoor
namespace Go.Proofs.YtbpijgddfaefkaaGreatDoor.un
open Go.RowKit dec

end Go.Proofs.YtbpijgddfaefkaaGreatDoor.un
namespace Go.Proofs.YtbpijgddfaefkaaGreatDoor.un
open Go.RowKit dec

/-- What Times and Over return. -/
def OutS (base : Nat) (w : World) (v : Value) (l : List Fa) : Prop := ∃ a cap, v = .slice a l.length cap ∧ Sl w a l.length cap l ∧ ∀ x, a = some x → base ≤ x.block
theorem OutS.nil (base : Nat) (w : World) : OutS base w (.slice none 0 0) [] := ⟨none, 0, rfl, .nil _, fun _ h => by cases h⟩
theorem Out.weak {base base' : Nat} {w : World} {v : Value} {l : List Fa} (h : Out base w v l) (hb : base' ≤ base) : OutS base' w v l := by
  obtain ⟨a, cap, e, S, T⟩ := h
  exact ⟨a, cap, e, S, fun x hx => Nat.le_trans hb (T x hx).1⟩
theorem far_le {x : Int} (h : far x = false) : -8 ≤ x ∧ x ≤ 8 := by
  unfold far at h
  rw [decide_eq_false_iff_not] at h
  omega
end Go.Proofs.YtbpijgddfaefkaaGreatDoor.un
namespace Go.Proofs.YtbpijgddfaefkaaGreatDoor.un
open Go.RowKit dec

structure Tabs (w : World) : Prop where
  ten : Lib.TabIs Tryz.prog w "internal/strconv.uint64pow10" .u64 Lib.pow10Tab
  syn : ∃ tp p, w.var? Tryz.prog "strconv.ErrSyntax" = some #[.iface tp p]
  ran : ∃ tp p, w.var? Tryz.prog "strconv.ErrRange" = some #[.iface tp p]
theorem gSyn : Tryz.prog.globalNamed "strconv.ErrSyntax" = some 6 := by kernel_rfl
theorem gRan : Tryz.prog.globalNamed "strconv.ErrRange" = some 7 := by kernel_rfl
theorem tab_keeps {W W' : World} {nm : String} {q : IntKind} {tab : List Int} (h : Lib.TabIs Tryz.prog W nm q tab) (hb : Below W.heap.size W W') : Lib.TabIs Tryz.prog W' nm q tab := by
  unfold Lib.TabIs at *
  cases hg : Tryz.prog.globalNamed nm with
  | none => unfold World.var? at h; simp [hg] at h
  | some g => exact Go.Joins.var_stays hg h hb (Nat.le_refl _)
theorem Tabs.stays {w w' : World} (h : Tabs w) (hb : Below w.heap.size w w') : Tabs w' := by
  obtain ⟨tp, p, h1⟩ := h.syn
  obtain ⟨tq, q, h2⟩ := h.ran
  exact ⟨tab_keeps h.ten hb, ⟨tp, p, Go.Joins.var_stays gSyn h1 hb (Nat.le_refl _)⟩, ⟨tq, q, Go.Joins.var_stays gRan h2 hb (Nat.le_refl _)⟩⟩
theorem below_bytes (w : World) (e : TypeId) (s : ByteArray) : Below w.heap.size w (Lib.bytesWorld w e s) := by
  refine ⟨rfl, rfl, rfl, ?_, fun j hj => Lib.bytesWorld_at_old w e s j hj⟩
  rw [Lib.bytesWorld_size]
  omega
theorem atoi_any (s : ByteArray) (hs : s.size ≤ 281474976710656) (w : World) (T : Tabs w) :
    Calls Tryz.prog 113 #[.string s] w fun e w' => ∃ x, e = .returned (.tuple #[.int .i64 (atoiN s.data.toList), x]) ∧ Below w.heap.size w w' := by
  unfold atoiN
  rcases h : Lib.atoiAll s.data.toList with v | _ | _
  · refine (Tryz.strconv_Atoi_ok s (by omega) v h w).mono ?_
    rintro e w' ⟨rfl, rfl | ⟨t, rfl⟩⟩
    · exact ⟨_, rfl, b0 _⟩
    · exact ⟨_, rfl, below_bytes _ _ _⟩
  · obtain ⟨tp, p, h1⟩ := T.syn
    refine (Tryz.strconv_Atoi_syntax_var s (by omega) h tp p w h1).mono ?_
    rintro e w' ⟨N, rfl, h2⟩
    exact ⟨_, rfl, h2.2.2⟩
  · obtain ⟨tp, p, h1⟩ := T.ran
    refine (Tryz.strconv_Atoi_range_var s (by omega) h tp p w h1).mono ?_
    rintro e w' ⟨N, rfl, h2⟩
    exact ⟨_, rfl, h2.2.2⟩
theorem itoa_any (n : Int) (h0 : -9223372036854775808 ≤ n) (h1 : n ≤ 9223372036854775807) (w : World) (T : Tabs w) :
    Calls Tryz.prog 97 #[.int .i64 n] w fun e w' => e = .returned (.string ⟨(Lib.itoa n).toArray⟩) ∧ Below w.heap.size w w' := by
  refine (Tryz.strconv_Itoa n h0 h1 w T.ten).mono ?_
  rintro e w' ⟨rfl, k, os, rfl⟩
  exact ⟨rfl, below_regrown w (w.drewN k).drawn os⟩
theorem add_str (x y : List UInt8) (hx : x.length ≤ 2097152) (hy : y.length ≤ 2097152) (W : World) : (Op.stringOp .add ⟨x.toArray⟩ ⟨y.toArray⟩).run Tryz.prog W = .ok (.string ⟨(x ++ y).toArray⟩) W := run_string_add_lists W x y (by omega) (by omega)
theorem nd_le : ∀ (k u : Nat), u < 10 ^ (k + 1) → Lib.nDigits u ≤ k + 1
  | 0, u, h => by rw [Lib.nDigits_small (by simpa using h)]; omega
  | k + 1, u, h => by
    by_cases h9 : u < 10
    · rw [Lib.nDigits_small h9]; omega
    · rw [Lib.nDigits_big h9]
      have := nd_le k (u / 10) (by rw [Nat.pow_succ] at h; omega)
      omega
theorem itoa_len (n : Int) (h0 : -9223372036854775808 ≤ n) (h1 : n ≤ 9223372036854775807) : (Lib.itoa n).length ≤ 20 := by
  have hd : ∀ u : Nat, u < 10000000000000000000 → (Lib.decDigits u).length ≤ 19 := fun u hu => by
    rw [Lib.decDigits_eq, List.length_map, List.length_range]
    rcases Nat.lt_or_ge (Lib.nDigits u) 20 with h | h
    · omega
    · exfalso
      have := nd_le 18 u (by omega)
      omega
  unfold Lib.itoa
  split
  · rw [List.length_cons]
    have := hd n.natAbs (by omega)
    omega
  · have := hd n.toNat (by omega)
    omega
set_option maxRecDepth 100000 in
set_option maxHeartbeats 1000000 in
theorem factor_any (x : Fa) (hs : x.1.size ≤ 1048576) (h0 : -9223372036854775808 ≤ x.2) (h1 : x.2 ≤ 9223372036854775807) (w : World) (T : Tabs w) :
    Calls Tryz.prog 56 #[.agg #[.string x.1, .int .i64 x.2]] w fun e w' => e = .returned (.string ⟨(f1 x).toArray⟩) ∧ Below w.heap.size w w' := by
  have I := Lib.hid (fun W (h : Below w.heap.size w W) => itoa_any x.2 h0 h1 W (T.stays h))
  have L := itoa_len x.2 h0 h1
  by_cases hx : x.2 = 1
  · have q1 : (x.2 == 1) = true := beq_iff_eq.2 hx
    have hr := Lib.hid (show f1 x = x.1.data.toList by unfold f1; rw [if_pos hx])
    clear I hx L h0 h1 T hs
    generalize x.2 = y at *
    go_enter Tryz.func56, Tryz.ntmps56
    go_wp2_with fail
    go_ret
    exact ⟨by rw [hr.out]; rfl, balloc (b0 w) _⟩
  · have q1 : (x.2 == 1) = false := beq_eq_false_iff_ne.2 hx
    have hr := Lib.hid (show (⟨(f1 x).toArray⟩ : ByteArray) = ⟨(x.1.data.toList ++ 94 :: Lib.itoa x.2).toArray⟩ by unfold f1; rw [if_neg hx])
    have hsz : x.1.data.toList.length ≤ 1048576 := by rw [← Lib.size_eq]; exact hs
    have A := add_str x.1.data.toList [94] (by omega) (by simp)
    replace A : ∀ W, (Op.stringOp .add x.1 ⟨#[94]⟩).run Tryz.prog W = .ok (.string ⟨(x.1.data.toList ++ [94]).toArray⟩) W := A
    have B := add_str (x.1.data.toList ++ [94]) (Lib.itoa x.2) (by rw [List.length_append]; simp; omega) (by omega)
    rw [show x.1.data.toList ++ [94] ++ Lib.itoa x.2 = x.1.data.toList ++ 94 :: Lib.itoa x.2 by simp] at B
    have C0 := Lib.hid ((Bw.new w x 55).c0)
    have C1 := Lib.hid ((Bw.new w x 55).c1)
    have BB := Lib.hid (balloc (b0 w) (.cells #[.string x.1, .int .i64 x.2] 55))
    clear hx L h0 h1 T hs hsz
    generalize x.1.data.toList ++ 94 :: Lib.itoa x.2 = l3 at *
    generalize (⟨(x.1.data.toList ++ [94]).toArray⟩ : ByteArray) = s1 at *
    generalize (⟨(Lib.itoa x.2).toArray⟩ : ByteArray) = s2 at *
    generalize (⟨l3.toArray⟩ : ByteArray) = s3 at *
    go_enter Tryz.func56, Tryz.ntmps56
    go_wp2_with fail
    generalize w.alloc (.cells #[.string x.1, .int .i64 x.2] 55) = W1 at *
    have c0 := cell_regrown C0.out
    have c1 := cell_regrown C1.out
    have K1 := Lib.hid (fun d os => Calls.regrown_of (I.out (Sort.grow (redrawn W1 d) os) (bnext BB.out (below_regrown W1 d os))))
    clear C0 C1 I
    refine wp_region_quiet_below (by kernel_rfl) (by kernel_rfl) ?_
    repeat (first | go_big_quiet_skip | (go_big_quiet_want; go_big_quiet_op; go_big_quiet_on) | quiet_step ((first | (go_at_call 97; exact K1.out _ _))))
    refine wpQuiet_nil ?_
    intro w9 hw9
    have hb9 := below_of hw9
    clear hw9 K1 c0 c1
    go_wp2_with fail
    go_ret
    exact ⟨by rw [hr.out]; rfl, bnext BB.out hb9⟩

/-! Lists of strings of the call's own. -/
theorem infoS : (Tryz.prog.info? 9).map (fun i => (i.zero, i.size, i.bytes)) = some (some (.string ByteArray.empty), 1, 16) := by kernel_rfl
def OS (w : World) (base : Nat) (v : Value) (l : List ByteArray) : Prop := w.ownsRow base 9 1 v l.length (l.map Value.string)
theorem OS.nil (w : World) (base : Nat) : OS w base (.slice none 0 0) [] := World.ownsRow_nil _ _ _ _
theorem OS.keeps {w w1 : World} {base : Nat} {v : Value} {l : List ByteArray} (h : OS w base v l) (hb : Below w.heap.size w w1) : OS w1 base v l := by
  obtain ⟨h1, h2⟩ := h
  refine ⟨h1, ?_⟩
  rcases h2 with h0 | ⟨g, cap, cur, e, hbg, hh, r⟩
  · exact .inl h0
  · refine .inr ⟨g, cap, cur, e, hbg, ?_, r⟩
    have : g < w.heap.size := by
      rcases Nat.lt_or_ge g w.heap.size with h' | h'
      · exact h'
      · rw [Array.getElem?_eq_none h'] at hh; cases hh
    rw [hb.block _ this]
    exact hh
theorem wpList_pushS (w : World) {ops : Array Oper} {rest : List Oper} {o : Oper} {a : Act} {Q : Exit → Act → World → Prop} (hgd : o.guard = none) (s x : Operand)
    (ho : o.op = .call { callee := .builtin .append, args := #[s, x], argTypes := #[108, 108] })
    (base : Nat) (v : Value) (l : List ByteArray) (hs : a.eval s = v) (hown : OS w base v l) (b : Nat) (t : ByteArray) (hx : a.eval x = .slice (some ⟨b, 0, none⟩) 1 1) (hB : w.cell? ⟨b, 0, none⟩ = some (.string t))
    (hn : l.length < 5864062014805) (hbase : base ≤ w.heap.size)
    (h : ∀ v' w', OS w' base v' (l ++ [t]) → Below base w w' → wpList Tryz.prog ops Q rest (a.put o.dst v') w') : wpList Tryz.prog ops Q (o :: rest) a w := by
  refine wpList_plain hgd fun _ hK => ?_
  obtain ⟨i, hi, hz0, hz1, hz2⟩ := info_parts infoS
  refine wp_append_own w s x 108 ho base 9 i (.string ByteArray.empty) 1 16 Tryz.underlying108 hi hz0 hz1 hz2 rfl (by decide) v l.length (l.map Value.string) hs hown ⟨b, 0, none⟩ 1 1 [.string t] hx rfl ?_ (fun u hu => by simp at hu; subst hu; rfl)
    (by unfold maxLen; omega) (by omega) hbase fun v' w' h1 h2 _ => hK _ _ (h v' w' (by unfold OS; rw [List.map_append, List.length_append]; exact h1) ((Below.refl base w).grown h2 hbase fun k hk => (hown.lt k hk).1))
  intro j u hu
  match j, hu with
  | 0, hu => simp at hu; subst hu; exact hB
  | j + 1, hu => simp at hu
theorem is_appS {w : World} {ops : Array Oper} {rest : List Oper} {o : Oper} {a : Act} {Q : Exit → Act → World → Prop} (s x : Operand) (_ : o.op = .call { callee := .builtin .append, args := #[s, x], argTypes := #[108, 108] })
    (k : wpList Tryz.prog ops Q (o :: rest) a w) : wpList Tryz.prog ops Q (o :: rest) a w := k
/-- strings.Join over such a list. -/
theorem join_any (v : Value) (l : List ByteArray) (base : Nat) (w : World) (hO : OS w base v l) (hn : l.length < 5864062014805) (hl : (Lib.join (l.map (·.data.toList)) [42]).length ≤ 140737488355328) :
    Calls Tryz.prog 57 #[v, .string ⟨#[42]⟩] w fun e w' => e = .returned (.string ⟨(Lib.join (l.map (·.data.toList)) [42]).toArray⟩) ∧ Below w.heap.size w w' := by
  obtain ⟨h1, h2⟩ := id hO
  rcases h2 with ⟨rfl, h0⟩ | ⟨g, cap, cur, rfl, hbg, hh, hc, hm, hs, ht⟩
  · have hz : l = [] := List.eq_nil_of_length_eq_zero h0
    subst hz
    refine (Tryz.strings_Join_none none 0 ⟨#[42]⟩ w).mono ?_
    rintro e w' ⟨rfl, rfl⟩
    exact ⟨rfl, b0 _⟩
  · refine (Tryz.strings_Join g 0 cap l ⟨#[42]⟩ w (fun j x hx => ?_) (hO.lt g rfl).2 (by omega) hc hl).mono ?_
    · have hj : j < l.length := (List.getElem?_eq_some_iff.1 hx).1
      rw [Nat.zero_add, World.ownsRow.cellAt hO j (by simpa using hj), List.getElem?_map, hx]
      rfl
    · rintro e w' ⟨rfl, hb⟩
      exact ⟨rfl, hb⟩
theorem f1_map (l : List Fa) : (l.map fun x => (⟨(f1 x).toArray⟩ : ByteArray)).map (·.data.toList) = l.map f1 := by
  rw [List.map_map]
  rfl
set_option maxRecDepth 100000 in
set_option maxHeartbeats 1000000 in
theorem format_any (a : Option Addr) (n cap : Nat) (l : List Fa) (w : World) (hS : Sl w a n cap l) (hx : ∀ x ∈ l, -9223372036854775808 ≤ x.2 ∧ x.2 ≤ 9223372036854775807) (hz : ∀ x ∈ l, x.1.size ≤ 1048576) (hlen : l.length < 5864062014805) (ht : (fT l).length ≤ 140737488355328) (T : Tabs w) :
    Calls Tryz.prog 19 #[.slice a n cap] w fun e w' => e = .returned (.string ⟨(fT l).toArray⟩) ∧ Below w.heap.size w w' := by
  have S0 := Lib.hid hS
  have X0 := Lib.hid hx
  have Z0 := Lib.hid hz
  have N0 := Lib.hid hlen
  have T0 := Lib.hid T
  have J0 := Lib.hid (fun v W h => join_any v (l.map fun x => (⟨(f1 x).toArray⟩ : ByteArray)) w.heap.size W h (by rw [List.length_map]; exact hlen) (by rw [f1_map]; exact ht))
  rw [f1_map] at J0
  clear hS hx hz hlen T ht
  go_enter Tryz.func19, Tryz.ntmps19
  go_wp2_with fail
  go_loopw [3, 8] (fun vu vi wr => ∃ j : Nat, vi = .int .i64 (j : Nat) ∧ Hid (j ≤ n) ∧ Hid (OS wr w.heap.size vu ((l.take j).map fun x => (⟨(f1 x).toArray⟩ : ByteArray))) ∧ Hid (Below w.heap.size w wr)) (fun _ vi _ => n - (intOf vi).toNat)
  case atStart => exact ⟨0, rfl, Lib.hid (Nat.zero_le _), Lib.hid (OS.nil _ _), Lib.hid (b0 w)⟩
  case round =>
    obtain ⟨j, rfl, hj, hO, hb⟩ := hrel
    by_cases hc : j < n
    · have hln := Lib.hid (show j < l.length by have := S0.out.hn; omega)
      obtain ⟨bk, off, rfl, hC⟩ := (S0.out.keeps hb.out).hat.resolve_left (by have := hln.out; omega)
      obtain ⟨c0, c1⟩ := hC j hln.out
      have q2 : decide ((j : Int) < (n : Int)) = true := decide_eq_true (by omega)
      have q3 : j < n := hc
      have f4 := Lib.hid (next_at (j := j) (by have := S0.out.hcap; have := S0.out.hmax; omega))
      have hm := gt_mem hln.out
      have FC := Lib.hid (fun W (h : Below w.heap.size w W) => factor_any (gt l j) (Z0.out _ hm) (X0.out _ hm).1 (X0.out _ hm).2 W (T0.out.stays h))
      have hn := Lib.hid (take_gt hln.out)
      have hl8 := Lib.hid (show ((l.take j).map fun x => (⟨(f1 x).toArray⟩ : ByteArray)).length < 5864062014805 by have := N0.out; simp; omega)
      clear hC hm
      generalize gt l j = x at c0 c1 hn FC
      have BB := Lib.hid (balloc hb.out (.cells #[.string x.1, .int .i64 x.2] 55))
      have OO := Lib.hid (hO.out.keeps (balloc (b0 wr) (.cells #[.string x.1, .int .i64 x.2] 55)))
      generalize hs1 : (⟨(f1 x).toArray⟩ : ByteArray) = s1 at FC
      replace hs1 := Lib.hid hs1
      go_wp2_with fail
      refine (FC.out _ BB.out).mono ?_
      rintro e w3 ⟨rfl, b3⟩
      have B3 := Lib.hid (bnext BB.out b3)
      have O3 := Lib.hid (OO.out.keeps b3)
      clear b3 BB OO
      go_wp2_with (at_builtin; refine is_appS (.tmp 12) (.tmp 15) rfl ?_; refine wpList_pushS _ rfl (.tmp 12) (.tmp 15) rfl w.heap.size _ _ rfl (O3.out.keeps (balloc (b0 w3) _)) w3.heap.size s1 rfl (by simp [go_sem]) hl8.out (by have := B3.out.size; simp; omega) ?_; intro v2 w6 O6 b6)
      have B6 := Lib.hid ((balloc B3.out (.cells #[.string s1] 9)).trans b6)
      have O7 := Lib.hid (show OS w6 w.heap.size v2 ((l.take (j + 1)).map fun x => (⟨(f1 x).toArray⟩ : ByteArray)) by rw [hn.out, List.map_append, List.map_singleton, hs1.out]; exact O6)
      clear b6 O6
      go_wp2_with fail
      refine ⟨⟨j + 1, congrArg (Value.int .i64) f4.out, Lib.hid hc, O7, B6⟩, less_at hc f4.out⟩
    · have q2 : decide ((j : Int) < (n : Int)) = false := decide_eq_false (by omega)
      have hO2 := Lib.hid hO.out
      rw [show l.take j = l from List.take_of_length_le (by have := S0.out.hn; omega)] at hO2
      clear hO
      go_wp2_with fail
      refine (J0.out _ _ hO2.out).mono ?_
      rintro e w7 ⟨rfl, b7⟩
      have B7 := Lib.hid (bnext hb.out b7)
      clear b7
      go_wp2_with fail
      go_ret
      exact ⟨rfl, B7.out⟩
end Go.Proofs.YtbpijgddfaefkaaGreatDoor.un
namespace Go.Proofs.YtbpijgddfaefkaaGreatDoor.un
open Go.RowKit dec

def spB : Nat → ByteArray → List ByteArray
  | 0, s => [s]
  | k + 1, s => if Lib.indexByte s.data.toList 42 = -1 then [s] else s.extract 0 (Lib.indexByte s.data.toList 42).toNat :: spB k (s.extract ((Lib.indexByte s.data.toList 42).toNat + 1) s.size)
theorem ext_end (s : ByteArray) (a : Nat) : (s.extract a s.size).data.toList = s.data.toList.drop a := by
  rw [Lib.extract_data]
  refine List.take_of_length_le ?_
  rw [List.length_drop, ← Lib.size_eq]
  omega
theorem ext_zero (s : ByteArray) (a : Nat) : (s.extract 0 a).data.toList = s.data.toList.take a := by
  rw [Lib.extract_data]
  simp
theorem spB_data : ∀ (k : Nat) (s : ByteArray), (spB k s).map (·.data.toList) = spL k s.data.toList
  | 0, _ => rfl
  | k + 1, s => by
    unfold spB spL
    split
    · rfl
    · rw [List.map_cons, spB_data k, ext_zero, ext_end]
theorem spB_len : ∀ (k : Nat) (s : ByteArray), (spB k s).length ≤ k + 1
  | 0, _ => Nat.le_refl _
  | k + 1, s => by
    unfold spB
    split
    · simp
    · have := spB_len k (s.extract ((Lib.indexByte s.data.toList 42).toNat + 1) s.size)
      simp only [List.length_cons]
      omega
theorem spB_miss {k : Nat} {s : ByteArray} (h : Lib.indexByte s.data.toList 42 = -1) : spB k s = [s] := by
  cases k with
  | zero => rfl
  | succ k => unfold spB; rw [if_pos h]
theorem spB_hit {k i : Nat} {s : ByteArray} (h : Lib.indexByte s.data.toList 42 = (i : Nat)) : spB (k + 1) s = s.extract 0 i :: spB k (s.extract (i + 1) s.size) := by
  rw [spB, if_neg (by omega), h, Int.toNat_natCast]
theorem less_dl {n d : Nat} (h : d < n) : n - (intOf (Value.int .i64 ((d : Int) + 1))).toNat < n - (intOf (Value.int .i64 (d : Int))).toNat := by
  show n - (((d : Int) + 1)).toNat < n - ((d : Nat) : Int).toNat
  omega
set_option maxRecDepth 1000000 in
set_option maxHeartbeats 2000000 in
theorem gen_any (s : ByteArray) (hs : s.size ≤ 140737488355328) (N : Nat) (hN : N = min 5 (s.size + 1)) (w : World) :
    Calls Tryz.prog 160 #[.string s, .string ⟨#[42]⟩, .int .i64 0, .int .i64 5] w fun e w' =>
      e = .returned (.slice (some ⟨w.heap.size, 0, none⟩) (spB (N - 1) s).length N) ∧ w' = w.alloc (.cells (Lib.cellsOf (spB (N - 1) s) N) 9) := by
  have IX := Lib.hid (fun x W => Tryz.strings_Index_one x 42 W)
  have hmk := run_make_row' (P := Tryz.prog) 108 9 (.string ByteArray.empty) 16 Tryz.underlying108 infoS rfl .i64 .i64 N (by omega) (by omega)
  have eN : min (5 : Int) ((s.size : Int) + 1) = (N : Int) := by omega
  have hN1 : 1 ≤ N ∧ N ≤ 5 := by omega
  have f1 : wrap64 ((s.size : Int) + 1) = (s.size : Int) + 1 := by unfold wrap64; omega
  have f2 : wrap64 ((N : Int) - 1) = ((N - 1 : Nat) : Int) := by unfold wrap64; omega
  replace hs := Lib.hid hs
  clear hN
  go_enter Tryz.func160, Tryz.ntmps160
  go_wp2_with fail
  clear f1 f2 eN hmk
  go_loopw [0, 10] (fun vs vi wr => ∃ (done : List ByteArray) (rest : ByteArray), vs = .string rest ∧ vi = .int .i64 (done.length : Nat) ∧ Hid (done.length ≤ N - 1) ∧ Hid (rest.size ≤ s.size) ∧ Hid (done ++ spB (N - 1 - done.length) rest = spB (N - 1) s) ∧ wr = w.alloc (.cells (Lib.cellsOf done N) 9)) (fun _ vi _ => N - 1 - (intOf vi).toNat)
  case atStart => exact ⟨[], s, rfl, rfl, Lib.hid (Nat.zero_le _), Lib.hid (Nat.le_refl _), Lib.hid rfl, by rw [Lib.cellsOf_nil]⟩
  case round =>
    obtain ⟨done, rest, rfl, rfl, hd, hr, hsp, rfl⟩ := hrel
    have fin := Lib.hid (fun (h : spB (N - 1 - done.length) rest = [rest]) => show (spB (N - 1) s).length = done.length + 1 ∧ (Lib.cellsOf done N).setIfInBounds done.length (.string rest) = Lib.cellsOf (spB (N - 1) s) N from by
      have e := hsp.out
      rw [h] at e
      rw [← e]
      exact ⟨by simp, Lib.cellsOf_set (by have := hd.out; omega) rest⟩)
    have hnext : (Lib.cellsOf done N)[done.length]? = some (.string ByteArray.empty) := Lib.cellsOf_next (by have := hd.out; omega)
    have hdN : done.length < N := by have := hd.out; omega
    have hdz : ((done.length : Nat) : Int) < (N : Int) := by omega
    have f6 := Lib.hid (show wrap64 (((done.length : Nat) : Int) + 1) = ((done.length + 1 : Nat) : Int) from next_at (by omega))
    have hszc := Lib.hid (Lib.cellsOf_size (done := done) (N := N) (by omega))
    generalize hdl : done.length = dl at *
    have hb1 : (0 : Int) ≤ (dl : Int) + 1 := by omega
    have hb2 : (dl : Int) + 1 ≤ (N : Int) := by omega
    by_cases hlt : dl < N - 1
    · have q1 : decide ((dl : Int) < (N : Int) - 1) = true := decide_eq_true (by omega)
      rcases ix_le 42 rest.data.toList with hix | ⟨hx1, hx2⟩
      · have e9 := Lib.hid (fin.out (spB_miss hix))
        have IXm := Lib.hid (fun W => IX.out rest W)
        rw [hix] at IXm
        clear hix IX
        have f7 : wrap64 ((dl : Int) + 1) = (dl : Int) + 1 := by unfold wrap64; omega
        go_wp2_with fail
        refine (IXm.out _).mono ?_
        rintro e w' ⟨rfl, rfl⟩
        go_wp2_with fail
        go_ret
        rw [e9.out.1, ← e9.out.2]
        exact ⟨by first | rfl | (congr 2; omega), rfl⟩
      · obtain ⟨i, hi⟩ : ∃ i : Nat, Lib.indexByte rest.data.toList 42 = (i : Nat) := ⟨(Lib.indexByte rest.data.toList 42).toNat, by omega⟩
        have hir : i < rest.size := by rw [Lib.size_eq]; omega
        have IXm := Lib.hid (fun W => IX.out rest W)
        rw [hi] at IXm
        have hst := spB_hit (k := N - 1 - (dl + 1)) hi
        rw [show N - 1 - (dl + 1) + 1 = N - 1 - dl by omega] at hst
        have hnew := Lib.hid (show (done ++ [rest.extract 0 i]) ++ spB (N - 1 - (done ++ [rest.extract 0 i]).length) (rest.extract (i + 1) rest.size) = spB (N - 1) s by
          rw [← hsp.out, hst, List.length_append, List.length_singleton, hdl]
          simp)
        have hset := Lib.hid (show (Lib.cellsOf done N).setIfInBounds dl (.string (rest.extract 0 i)) = Lib.cellsOf (done ++ [rest.extract 0 i]) N by rw [← hdl]; exact Lib.cellsOf_set (by omega) _)
        have hlen2 := Lib.hid (show dl + 1 = (done ++ [rest.extract 0 i]).length by rw [List.length_append, List.length_singleton, hdl])
        have hrs := Lib.hid (show (rest.extract (i + 1) rest.size).size ≤ s.size by have := hr.out; rw [ByteArray.size_extract]; omega)
        have hN2 := Lib.hid (show dl + 1 ≤ N - 1 by omega)
        have c0 : ¬ ((i : Int) < 0) := by omega
        have c1 : (0 : Int) ≤ (i : Int) := by omega
        have c2 : (i : Int) ≤ (rest.size : Int) := by omega
        have c3 : (0 : Int) ≤ (i : Int) + 1 := by omega
        have c4 : (i : Int) + 1 ≤ (rest.size : Int) := by omega
        have hlt2 := Lib.hid hlt
        have f9 : wrap64 (i : Int) = (i : Int) := by have := hs.out; have := hr.out; unfold wrap64; omega
        have f8 : wrap64 ((i : Int) + 1) = (i : Int) + 1 := by have := hs.out; have := hr.out; clear f9; unfold wrap64; omega
        clear IX fin hst hx1 hx2 hi
        go_wp2_with fail
        refine (IXm.out _).mono ?_
        rintro e w' ⟨rfl, rfl⟩
        go_wp2_with fail
        rw [hset.out]
        refine ⟨⟨done ++ [rest.extract 0 i], rest.extract (i + 1) rest.size, rfl, by rw [← hlen2.out]; rfl, by rw [← hlen2.out]; exact hN2, hrs, hnew, rfl⟩, less_dl hlt2.out⟩
    · have q1 : decide ((dl : Int) < (N : Int) - 1) = false := decide_eq_false (by omega)
      have e9 := Lib.hid (fin.out (by rw [show N - 1 - dl = 0 by omega]; rfl))
      have f7 : wrap64 ((dl : Int) + 1) = (dl : Int) + 1 := by unfold wrap64; omega
      clear fin IX
      go_wp2_with fail
      go_ret
      rw [e9.out.1, ← e9.out.2]
      exact ⟨by first | rfl | (congr 2; omega), rfl⟩
theorem splitN_any (s : ByteArray) (hs : s.size ≤ 140737488355328) (N : Nat) (hN : N = min 5 (s.size + 1)) (w : World) :
    Calls Tryz.prog 111 #[.string s, .string ⟨#[42]⟩, .int .i64 5] w fun e w' =>
      e = .returned (.slice (some ⟨w.heap.size, 0, none⟩) (spB (N - 1) s).length N) ∧ w' = w.alloc (.cells (Lib.cellsOf (spB (N - 1) s) N) 9) := by
  have C := Lib.hid (gen_any s hs N hN w)
  clear hs hN
  go_enter Tryz.func111, Tryz.ntmps111
  go_wp2_with fail
  refine C.out.mono ?_
  rintro e w' ⟨rfl, hw⟩
  have H := Lib.hid hw
  clear hw
  go_wp2_with fail
  go_ret
  exact ⟨rfl, H.out⟩
def cutB (s : ByteArray) : ByteArray × ByteArray × Bool := if Lib.indexByte s.data.toList 94 = -1 then (s, .empty, false) else (s.extract 0 (Lib.indexByte s.data.toList 94).toNat, s.extract ((Lib.indexByte s.data.toList 94).toNat + 1) s.size, true)
theorem cutB_miss {s : ByteArray} (h : Lib.indexByte s.data.toList 94 = -1) : cutB s = (s, .empty, false) := by unfold cutB; rw [if_pos h]
theorem cutB_hit {s : ByteArray} {i : Nat} (h : Lib.indexByte s.data.toList 94 = (i : Nat)) : cutB s = (s.extract 0 i, s.extract (i + 1) s.size, true) := by
  unfold cutB
  rw [if_neg (by omega), h, Int.toNat_natCast]
theorem cut1_any (s : ByteArray) (hs : s.size ≤ 140737488355328) (w : World) :
    Calls Tryz.prog 161 #[.string s, .string ⟨#[94]⟩] w fun e w' => e = .returned (.tuple #[.string (cutB s).1, .string (cutB s).2.1, .bool (cutB s).2.2]) ∧ Below w.heap.size w w' := by
  have IX := Lib.hid (fun W => Tryz.stringslite_Index_one s 94 W)
  rcases ix_le 94 s.data.toList with hix | ⟨hx1, hx2⟩
  · rw [hix] at IX
    rw [cutB_miss hix]
    clear hix hs
    go_enter Tryz.func161, Tryz.ntmps161
    go_wp2_with fail
    refine (IX.out _).mono ?_
    rintro e w' ⟨rfl, rfl⟩
    go_wp2_with fail
    go_ret3
    exact ⟨rfl, b0 _⟩
  · obtain ⟨i, hi⟩ : ∃ i : Nat, Lib.indexByte s.data.toList 94 = (i : Nat) := ⟨(Lib.indexByte s.data.toList 94).toNat, by omega⟩
    have hir : i < s.size := by rw [Lib.size_eq]; omega
    rw [hi] at IX
    rw [cutB_hit hi]
    have c0 : (0 : Int) ≤ (i : Int) := by omega
    have c2 : (i : Int) ≤ (s.size : Int) := by omega
    have c3 : (0 : Int) ≤ (i : Int) + 1 := by omega
    have c4 : (i : Int) + 1 ≤ (s.size : Int) := by omega
    have f8 : wrap64 ((i : Int) + 1) = (i : Int) + 1 := by unfold wrap64; omega
    clear hi hx1 hx2
    go_enter Tryz.func161, Tryz.ntmps161
    go_wp2_with fail
    refine (IX.out _).mono ?_
    rintro e w' ⟨rfl, rfl⟩
    go_wp2_with fail
    go_region
    go_wp2_with fail
    go_ret3
    exact ⟨rfl, (b0 _).drew⟩
theorem cut_any (s : ByteArray) (hs : s.size ≤ 140737488355328) (w : World) :
    Calls Tryz.prog 112 #[.string s, .string ⟨#[94]⟩] w fun e w' => e = .returned (.tuple #[.string (cutB s).1, .string (cutB s).2.1, .bool (cutB s).2.2]) ∧ Below w.heap.size w w' := by
  have C := Lib.hid (cut1_any s hs w)
  clear hs
  generalize (cutB s).1 = x at *
  generalize (cutB s).2.1 = y at *
  generalize (cutB s).2.2 = z at *
  go_enter Tryz.func112, Tryz.ntmps112
  go_wp2_with fail
  refine C.out.mono ?_
  rintro e w' ⟨rfl, hb⟩
  have H := Lib.hid hb
  clear hb
  go_wp2_with fail
  go_ret3
  exact ⟨rfl, H.out⟩
theorem ba_ext {a b : ByteArray} (h : a.data.toList = b.data.toList) : a = b := by
  cases a; cases b
  simp only at h
  rw [Array.toList_inj.1 h]
theorem fac_miss {s : ByteArray} (h : (cutB s).2.2 = false) : fac s.data.toList = ((cutB s).1, 1) := by
  unfold cutB at h ⊢
  unfold fac
  split
  · rfl
  · rename_i h'
    rw [if_neg h'] at h
    cases h
theorem fac_hit {s : ByteArray} (h : (cutB s).2.2 = true) : fac s.data.toList = ((cutB s).1, atoiN (cutB s).2.1.data.toList) := by
  unfold cutB at h ⊢
  unfold fac
  split
  · rename_i h'
    rw [if_pos h'] at h
    cases h
  · rename_i h'
    refine Prod.ext ?_ ?_
    · exact ba_ext (by rw [ext_zero])
    · show atoiN _ = atoiN _
      rw [ext_end]
theorem cutB_size (s : ByteArray) : (cutB s).1.size ≤ s.size ∧ (cutB s).2.1.size ≤ s.size := by
  unfold cutB
  split
  · exact ⟨Nat.le_refl _, Nat.zero_le _⟩
  · constructor <;> (simp only [ByteArray.size_extract]; omega)
/-- Pieces in the cells of a block. -/
def PS (w : World) (b : Nat) (ps : List ByteArray) : Prop := ∀ j, j < ps.length → w.cell? ⟨b, j, none⟩ = some (.string (ps.getD j .empty))
theorem PS.new (w : World) (ps : List ByteArray) (N : Nat) : PS (w.alloc (.cells (Lib.cellsOf ps N) 9)) w.heap.size ps := by
  intro j hj
  have : (Lib.cellsOf ps N)[j]? = some (.string (ps.getD j .empty)) := by
    unfold Lib.cellsOf
    rw [List.getElem?_toArray, List.getElem?_append_left (by simpa using hj), List.getElem?_map, List.getElem?_eq_getElem hj, List.getD_eq_getElem?_getD, List.getElem?_eq_getElem hj]
    rfl
  simp [go_sem, this]
theorem PS.keeps {w w' : World} {b : Nat} {ps : List ByteArray} (h : PS w b ps) (hb : Below w.heap.size w w') : PS w' b ps := fun j hj => dec.keeps hb (h j hj)
theorem spB_size : ∀ (k : Nat) (s : ByteArray), ∀ p ∈ spB k s, p.size ≤ s.size
  | 0, s, p, h => by
    have : p = s := by simpa [spB] using h
    rw [this]; exact Nat.le_refl _
  | k + 1, s, p, h => by
    rw [spB] at h
    split at h
    · have : p = s := by simpa using h
      rw [this]; exact Nat.le_refl _
    · rcases List.mem_cons.1 h with rfl | h
      · simp only [ByteArray.size_extract]; omega
      · have := spB_size k _ p h
        simp only [ByteArray.size_extract] at this
        omega
end Go.Proofs.YtbpijgddfaefkaaGreatDoor.un
namespace Go.Proofs.YtbpijgddfaefkaaGreatDoor.un
open Go.RowKit dec

end Go.Proofs.YtbpijgddfaefkaaGreatDoor.un
