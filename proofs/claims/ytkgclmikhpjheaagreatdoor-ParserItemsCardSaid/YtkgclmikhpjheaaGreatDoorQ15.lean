/-
  What is read where; helpers of the statements.
-/
import Derived.Lib.SlBytesConst
import Derived.BigQuiet
import Derived.Test.YtkgclmikhpjheaaGreatDoorQ03
import Derived.Test.YtkgclmikhpjheaaGreatDoorQ05
import Derived.Test.YtkgclmikhpjheaaGreatDoorQ11
import Derived.Test.YtkgclmikhpjheaaGreatDoorQ13
import Derived.Test.YtkgclmikhpjheaaGreatDoorQ14
namespace Go.Proofs.YtkgclmikhpjheaaGreatDoor.pa
open Go.RowKit dec

/-- Lists of tokens, each with its end, that differ in their offsets alone, and these as R says. -/
inductive SimR (R : Int → Int → Prop) : List Tk → List Tk → Prop where
  | last {x y : Tk} (hk : x.k = 6) (hy : y.k = x.k) (ht : y.t = x.t) (ha : R x.a y.a) : SimR R [x] [y]
  | cons {x y : Tk} {l r : List Tk} (hk : y.k = x.k) (ht : y.t = x.t) (ha : R x.a y.a) (h : SimR R l r) : SimR R (x :: l) (y :: r)
theorem SimR.hk {R : Int → Int → Prop} {l r : List Tk} (h : SimR R l r) : (hd r).k = (hd l).k := by
  cases h with
  | last hk hy ht ha => exact hy
  | cons hk ht ha h => exact hk
theorem SimR.ht {R : Int → Int → Prop} {l r : List Tk} (h : SimR R l r) : (hd r).t = (hd l).t := by
  cases h with
  | last hk hy ht ha => exact ht
  | cons hk ht ha h => exact ht
theorem SimR.ha {R : Int → Int → Prop} {l r : List Tk} (h : SimR R l r) : R (hd l).a (hd r).a := by
  cases h with
  | last hk hy ht ha => exact ha
  | cons hk ht ha h => exact ha
theorem SimR.len {R : Int → Int → Prop} {l r : List Tk} (h : SimR R l r) : r.length = l.length := by
  induction h with
  | last hk hy ht ha => rfl
  | cons hk ht ha h ih => simp only [List.length_cons, ih]
theorem SimR.tail {R : Int → Int → Prop} {l r : List Tk} (h : SimR R l r) (h6 : (hd l).k ≠ 6) : SimR R l.tail r.tail := by
  cases h with
  | last hk hy ht ha => exact absurd hk h6
  | cons hk ht ha h => exact h
theorem SimR.sT {R : Int → Int → Prop} {l r : List Tk} (h : SimR R l r) (s : ByteArray) : isT s r = isT s l := by
  unfold Go.Proofs.YtkgclmikhpjheaaGreatDoor.isT
  rw [h.hk, h.ht]
theorem SimR.of {R : Int → Int → Prop} {l r : List Tk} (h : SimR R l r) {s : ByteArray} (hs : isT s l = true) : SimR R l.tail r.tail := h.tail (isT_hd hs)
/-- Outcomes that differ in offsets alone. -/
inductive RSim {α : Type} (R : Int → Int → Prop) : Rs α → Rs α → Prop where
  | out : RSim R .out .out
  | ok (v : α) {l r : List Tk} (h : SimR R l r) : RSim R (.ok v l) (.ok v r)
  | no {a b : Int} (c : Int) {l r : List Tk} (ha : R a b) (h : SimR R l r) : RSim R (.no a c l) (.no b c r)
theorem RSim.bind {α β : Type} {R : Int → Int → Prop} {x y : Rs α} {g k : α → List Tk → Rs β} (h : RSim R x y) (hg : ∀ v l r, SimR R l r → RSim R (g v l) (k v r)) : RSim R (x.bind g) (y.bind k) := by
  cases h with
  | out => exact .out
  | ok v h => exact hg v _ _ h
  | no c ha h => exact .no c ha h
section
variable {R : Int → Int → Prop}
theorem wrg_sim {α : Type} {l r : List Tk} (h : SimR R l r) : RSim R (wrg l : Rs α) (wrg r) := .no 90 h.ha h
theorem need_sim {s : ByteArray} {l r : List Tk} (h : SimR R l r) : RSim R (need s l) (need s r) := by
  unfold need
  rw [h.sT]
  split
  · rename_i t; exact .ok () (h.of t)
  · exact wrg_sim h
theorem tak_sim {k : Int} (hk : k ≠ 6) {l r : List Tk} (h : SimR R l r) : RSim R (tak k l) (tak k r) := by
  unfold tak
  rw [h.hk, h.ht]
  split
  · rename_i t; exact .ok _ (h.tail (by rw [t]; exact hk))
  · exact wrg_sim h
theorem nam_sim {l r : List Tk} (h : SimR R l r) : RSim R (nam l) (nam r) := by
  unfold nam
  rw [h.ht]
  split
  · exact tak_sim (by decide) h
  · exact wrg_sim h
theorem nma_sim {s : ByteArray} {l r : List Tk} (h : SimR R l r) : RSim R (nma s l) (nma s r) := (need_sim h).bind fun _ _ _ h => nam_sim h
theorem int_sim {l r : List Tk} (h : SimR R l r) : RSim R (int l) (int r) := (tak_sim (by decide) h).bind fun _ _ _ h => .ok _ h
theorem deci_sim {l r : List Tk} (h : SimR R l r) : RSim R (deci l) (deci r) := (tak_sim (by decide) h).bind fun _ _ _ h => .ok _ h
theorem fac_sim {l r : List Tk} (h : SimR R l r) : RSim R (fac l) (fac r) := by
  refine (nam_sim h).bind fun n l r h => ?_
  rw [h.sT]
  split
  · rename_i t
    have h1 := h.of t
    rw [h1.sT]
    split
    · rename_i t1
      exact (int_sim (h1.of t1)).bind fun _ _ _ h => .ok _ h
    · exact (int_sim h1).bind fun _ _ _ h => .ok _ h
  · exact .ok _ h
theorem more_sim {α : Type} {one : List Tk → Rs α} {s : ByteArray} (h1 : ∀ {l r : List Tk}, SimR R l r → RSim R (one l) (one r)) : ∀ (f : Nat) (x : List α) {l r : List Tk}, SimR R l r → RSim R (more one s f x l) (more one s f x r)
  | 0, _, _, _, _ => .out
  | f + 1, x, l, r, h => by
    unfold more
    rw [h.sT]
    split
    · rename_i t
      exact (h1 (h.of t)).bind fun y l r h => more_sim h1 f _ h
    · exact .ok _ h
theorem lst_sim {α : Type} {one : List Tk → Rs α} {s : ByteArray} (h1 : ∀ {l r : List Tk}, SimR R l r → RSim R (one l) (one r)) {l r : List Tk} (h : SimR R l r) : RSim R (lst one s l) (lst one s r) :=
  (h1 h).bind fun y l r h => by rw [h.len]; exact more_sim h1 _ _ h
theorem uni_sim {l r : List Tk} (h : SimR R l r) : RSim R (uni l) (uni r) := by
  unfold uni
  rw [h.sT]
  split
  · rename_i t
    refine (lst_sim fac_sim (h.of t)).bind fun u l' r' h' => (need_sim h').bind fun _ l' r' h' => ?_
    split
    · exact .ok _ h'
    · exact .no _ h.ha h'
  · exact .ok _ h
theorem typ_sim {l r : List Tk} (h : SimR R l r) : RSim R (typ l) (typ r) := by
  unfold typ
  simp only [h.sT]
  split
  · rename_i t; exact .ok _ (h.of t)
  split
  · rename_i t; exact .ok _ (h.of t)
  split
  · rename_i t; exact (nam_sim (h.of t)).bind fun _ _ _ h => .ok _ h
  split
  · rename_i t; exact (uni_sim (h.of t)).bind fun _ _ _ h => .ok _ h
  split
  · rename_i t; exact (uni_sim (h.of t)).bind fun _ _ _ h => .ok _ h
  · exact wrg_sim h
theorem win_sim {l r : List Tk} (h : SimR R l r) : RSim R (win l) (win r) := by
  unfold win
  simp only [h.sT]
  split
  · rename_i t; exact .ok _ (h.of t)
  iterate 3
    split
    · rename_i t; exact (int_sim (h.of t)).bind fun _ _ _ h => .ok _ h
  · exact wrg_sim h
theorem key_sim {l r : List Tk} (h : SimR R l r) : RSim R (key l) (key r) := by
  refine (nma_sim h).bind fun n l r h => (tak_sim (by decide) h).bind fun s l' r' h' => ?_
  split
  · exact .ok _ h'
  · exact .no _ h.ha h'
theorem opr_sim {n : Nat} {l r : List Tk} (h : SimR R l r) : opr n r = opr n l := by
  unfold opr
  rw [show (fun s => isT s r) = fun s => isT s l from funext fun s => h.sT s]
theorem pz_sim : ∀ (f : Nat) (i : Bool) (m : Md) {l r : List Tk}, SimR R l r → RSim R (pz f i m l) (pz f i m r) := by
  intro f
  induction f with
  | zero => intro i m l r _; exact .out
  | succ f ih =>
    intro i m l r h
    cases m with
    | ex =>
      simp only [pz, h.sT]
      split
      · rename_i t
        exact (ih _ _ (h.of t)).bind fun _ _ _ h => (need_sim h).bind fun _ _ _ h => (ih _ _ h).bind fun _ _ _ h => (need_sim h).bind fun _ _ _ h => (ih _ _ h).bind fun _ _ _ h => .ok _ h
      · exact ih _ _ h
    | op least =>
      simp only [pz, h.sT]
      split
      · rename_i t
        exact (ih _ _ (h.of t.2)).bind fun _ _ _ h => ih _ _ h
      · exact (ih _ _ h).bind fun _ _ _ h => ih _ _ h
    | tl least n y =>
      simp only [pz, opr_sim h]
      split
      · exact .ok _ h
      · split
        · exact ih _ _ h
        · rename_i t
          exact (ih _ _ (h.of (opr_ne t))).bind fun _ _ _ h => ih _ _ h
    | ng =>
      simp only [pz, h.sT]
      split
      · rename_i t
        exact (ih _ _ (h.of t)).bind fun _ _ _ h => .ok _ h
      · exact ih _ _ h
    | pa =>
      simp only [pz]
      exact (need_sim h).bind fun _ _ _ h => (ih _ _ h).bind fun _ _ _ h => (need_sim h).bind fun _ _ _ h => .ok _ h
    | rf =>
      simp only [pz]
      refine (nam_sim h).bind fun n l r h => ?_
      rw [h.sT]
      split
      · rename_i t
        exact (ih _ _ (h.of t)).bind fun _ _ _ h => .ok _ h
      · exact .ok _ h
    | ag =>
      simp only [pz]
      refine (tak_sim (by decide) h).bind fun op _ _ h => (need_sim h).bind fun _ _ _ h => (nam_sim h).bind fun t _ _ h => (need_sim h).bind fun _ l r h => RSim.bind (x := if op = ⟨#[99, 111, 117, 110, 116]⟩ then .ok (booE 1) l else _) (y := if op = ⟨#[99, 111, 117, 110, 116]⟩ then .ok (booE 1) r else _) ?_ fun x l r h => RSim.bind (x := if op = ⟨#[113, 117, 97, 110, 116, 105, 108, 101]⟩ ∨ op = ⟨#[100, 101, 99, 97, 121]⟩ then _ else .ok 0 l) (y := if op = ⟨#[113, 117, 97, 110, 116, 105, 108, 101]⟩ ∨ op = ⟨#[100, 101, 99, 97, 121]⟩ then _ else .ok 0 r) ?_ fun p l r h => (win_sim h).bind fun w l r h => RSim.bind (x := if isT ⟨#[119, 104, 101, 114, 101]⟩ l = true then _ else _) (y := if isT ⟨#[119, 104, 101, 114, 101]⟩ r = true then _ else _) ?_ fun y l r h => (need_sim h).bind fun _ _ _ h => .ok _ h
      · split
        · exact .ok _ h
        · exact (ih _ _ h).bind fun _ _ _ h => (need_sim h).bind fun _ _ _ h => .ok _ h
      · split
        · exact (int_sim h).bind fun _ _ _ h => (need_sim h).bind fun _ _ _ h => .ok _ h
        · exact .ok _ h
      · rw [h.sT]
        split
        · rename_i t; exact ih _ _ (h.of t)
        · exact .ok _ h
    | pr =>
      simp only [pz, h.sT, h.hk, h.ht]
      split
      · exact (int_sim h).bind fun _ _ _ h => (uni_sim h).bind fun _ _ _ h => .ok _ h
      split
      · exact (deci_sim h).bind fun _ _ _ h => (uni_sim h).bind fun _ _ _ h => .ok _ h
      split
      · exact (tak_sim (by decide) h).bind fun _ _ _ h => .ok _ h
      split
      · rename_i t; exact .ok _ (h.of t)
      split
      · rename_i t; exact .ok _ (h.of t)
      split
      · exact key_sim h
      split
      · rename_i t; exact (ih _ _ (h.of t)).bind fun _ _ _ h => .ok _ h
      split
      · exact ih _ _ h
      split
      · exact (nam_sim h).bind fun _ _ _ h => .ok _ h
      split
      · exact ih _ _ h
      · exact ih _ _ h
theorem exR_sim {l r : List Tk} (h : SimR R l r) : RSim R (exR l) (exR r) := by
  unfold exR
  rw [h.len]
  exact pz_sim _ _ _ h
theorem fie_sim {l r : List Tk} (h : SimR R l r) : RSim R (fie l) (fie r) := (nam_sim h).bind fun _ _ _ h => (need_sim h).bind fun _ _ _ h => (typ_sim h).bind fun _ _ _ h => .ok _ h
theorem tabF_sim {l r : List Tk} (h : SimR R l r) : RSim R (tabF l) (tabF r) := by
  unfold tabF
  rw [h.sT]
  split
  · rename_i t; exact .ok _ (h.of t)
  · exact (lst_sim fie_sim h).bind fun _ _ _ h => (need_sim h).bind fun _ _ _ h => .ok _ h
theorem keeR_sim {l r : List Tk} (h : SimR R l r) : RSim R (keeR l) (keeR r) := by
  unfold keeR
  rw [h.sT]
  split
  · rename_i t; exact int_sim (h.of t)
  · exact .ok _ h
theorem tabR_sim {l r : List Tk} (h : SimR R l r) : RSim R (tabR l) (tabR r) := (nma_sim h).bind fun _ _ _ h => (nma_sim h).bind fun _ _ _ h => (need_sim h).bind fun _ _ _ h => (tabF_sim h).bind fun _ _ _ h => (keeR_sim h).bind fun _ _ _ h => (need_sim h).bind fun _ _ _ h => .ok _ h
theorem feaR_sim {l r : List Tk} (h : SimR R l r) : RSim R (feaR l) (feaR r) := (nma_sim h).bind fun _ _ _ h => (nma_sim h).bind fun _ _ _ h => (need_sim h).bind fun _ _ _ h => (typ_sim h).bind fun _ _ _ h => (need_sim h).bind fun _ _ _ h => (exR_sim h).bind fun _ _ _ h => (need_sim h).bind fun _ _ _ h => .ok _ h
theorem itmR_sim {m : Mo} {l r : List Tk} (h : SimR R l r) : RSim R (itmR m l) (itmR m r) := by
  unfold itmR
  rw [h.ht]
  split
  · exact (tabR_sim h).bind fun _ _ _ h => .ok _ h
  · split
    · exact (feaR_sim h).bind fun _ _ _ h => .ok _ h
    · exact wrg_sim h
theorem lvR_sim {l r : List Tk} (h : SimR R l r) : SimR R (lvR l) (lvR r) := by
  induction h with
  | last hk hy ht ha =>
    unfold lvR
    rw [if_pos hk, if_pos (hy.trans hk)]
    exact .last hk hy ht ha
  | @cons x y l r hk ht ha h ih =>
    have h' : SimR R (x :: l) (y :: r) := .cons hk ht ha h
    unfold lvR
    rw [hk, h'.sT]
    split
    · exact h'
    · split
      · exact h
      · exact ih
/-- Problems that differ in their offsets alone. -/
inductive PbR (R : Int → Int → Prop) : List Pb → List Pb → Prop where
  | nil : PbR R [] []
  | cons {a b c : Int} {l r : List Pb} (ha : R a b) (h : PbR R l r) : PbR R ((a, c) :: l) ((b, c) :: r)
theorem PbR.push {l r : List Pb} (h : PbR R l r) {a b : Int} (c : Int) (ha : R a b) : PbR R (l ++ [(a, c)]) (r ++ [(b, c)]) := by
  induction h with
  | nil => exact .cons ha .nil
  | cons ha' h ih => exact .cons ha' ih
theorem PbR.len {l r : List Pb} (h : PbR R l r) : r.length = l.length := by
  induction h with
  | nil => rfl
  | cons ha h ih => simp only [List.length_cons, ih]
theorem modL_sim : ∀ (f : Nat) (m : Mo) {b b' : List Pb} {l r : List Tk}, SimR R l r → PbR R b b' → ∀ m1 p1, modL f m b l = some (m1, p1) → ∃ p2, modL f m b' r = some (m1, p2) ∧ PbR R p1 p2
  | 0, _, _, _, _, _, _, _, _, _, h => by cases h
  | f + 1, m, b, b', l, r, h, hb, m1, p1, hm => by
    unfold modL at hm ⊢
    rw [h.hk]
    split at hm
    · rename_i h6
      cases hm
      rw [if_pos h6]
      exact ⟨_, rfl, hb⟩
    · rename_i h6
      rw [if_neg h6]
      have hi := itmR_sim (m := m) h
      generalize itmR m l = x at hi hm
      generalize itmR m r = y at hi
      cases hi with
      | out => cases hm
      | ok v h' => exact modL_sim f v h' hb m1 p1 hm
      | no c ha h' => exact modL_sim f m (lvR_sim h') (hb.push c ha) m1 p1 hm
end
end Go.Proofs.YtkgclmikhpjheaaGreatDoor.pa
namespace Go.Proofs.YtkgclmikhpjheaaGreatDoor.pa
open Go.RowKit dec

/-! More steps. -/
def RM {α : Type} (x y : Rs α) : Prop := x ≠ .out → y = x
theorem RM.refl {α : Type} (x : Rs α) : RM x x := fun _ => rfl
theorem RM.bind {α β : Type} {x y : Rs α} {g k : α → List Tk → Rs β} (h : RM x y) (hg : ∀ v q, RM (g v q) (k v q)) : RM (x.bind g) (y.bind k) := by
  intro hn
  rw [h (ne_left hn)]
  cases x with
  | out => exact absurd rfl hn
  | ok v q => exact hg v q hn
  | no a c q => rfl
theorem pz_more {f g : Nat} (ih : ∀ i m l, RM (pz f i m l) (pz g i m l)) (i : Bool) (m : Md) (l : List Tk) : RM (pz (f + 1) i m l) (pz (g + 1) i m l) := by
  cases m with
  | ex =>
    simp only [pz]
    split
    · exact (ih _ _ _).bind fun _ _ => (RM.refl _).bind fun _ _ => (ih _ _ _).bind fun _ _ => (RM.refl _).bind fun _ _ => (ih _ _ _).bind fun _ _ => RM.refl _
    · exact ih _ _ _
  | op least =>
    simp only [pz]
    split
    · exact (ih _ _ _).bind fun _ _ => ih _ _ _
    · exact (ih _ _ _).bind fun _ _ => ih _ _ _
  | tl least n y =>
    simp only [pz]
    split
    · exact RM.refl _
    · split
      · exact ih _ _ _
      · exact (ih _ _ _).bind fun _ _ => ih _ _ _
  | ng =>
    simp only [pz]
    split
    · exact (ih _ _ _).bind fun _ _ => RM.refl _
    · exact ih _ _ _
  | pa =>
    simp only [pz]
    exact (RM.refl _).bind fun _ _ => (ih _ _ _).bind fun _ _ => (RM.refl _).bind fun _ _ => RM.refl _
  | rf =>
    simp only [pz]
    refine (RM.refl _).bind fun n r => ?_
    split
    · exact (ih _ _ _).bind fun _ _ => RM.refl _
    · exact RM.refl _
  | ag =>
    simp only [pz]
    refine (RM.refl _).bind fun op _ => (RM.refl _).bind fun _ _ => (RM.refl _).bind fun t _ => (RM.refl _).bind fun _ l => RM.bind ?_ fun x l => (RM.refl _).bind fun p l => (RM.refl _).bind fun w l => RM.bind ?_ fun y l => RM.refl _
    · split
      · exact RM.refl _
      · exact (ih _ _ _).bind fun _ _ => RM.refl _
    · split
      · exact ih _ _ _
      · exact RM.refl _
  | pr =>
    simp only [pz]
    split
    · exact RM.refl _
    split
    · exact RM.refl _
    split
    · exact RM.refl _
    split
    · exact RM.refl _
    split
    · exact RM.refl _
    split
    · exact RM.refl _
    split
    · exact (ih _ _ _).bind fun _ _ => RM.refl _
    split
    · exact ih _ _ _
    split
    · exact RM.refl _
    split
    · exact ih _ _ _
    · exact ih _ _ _
theorem pz_le : ∀ (f g : Nat), f ≤ g → ∀ i m l, RM (pz f i m l) (pz g i m l)
  | 0, _, _, _, _, _ => fun h => absurd rfl h
  | f + 1, 0, h, _, _, _ => by omega
  | f + 1, g + 1, h, i, m, l => pz_more (pz_le f g (by omega)) i m l
/-- Two numbers of steps with answers: the same answers. -/
theorem pz_two {f g : Nat} {i : Bool} {m : Md} {l : List Tk} (h1 : pz f i m l ≠ .out) (h2 : pz g i m l ≠ .out) : pz f i m l = pz g i m l := by
  rcases Nat.le_total f g with h | h
  · exact (pz_le f g h i m l h1).symm
  · exact pz_le g f h i m l h2
theorem exR_of {f : Nat} {l : List Tk} (h : pz f false .ex l ≠ .out) : exR l = pz f false .ex l := pz_two (exR_ne l) h
theorem exR_eq {f : Nat} {l r : List Tk} {x : Ex} (h : pz f false .ex l = .ok x r) : exR l = .ok x r := by rw [exR_of (f := f) (by rw [h]; exact fun h => by cases h), h]
theorem modL_more : ∀ (f : Nat) (m : Mo) (b : List Pb) (l : List Tk) (x : Mo × List Pb), modL f m b l = some x → ∀ g, f ≤ g → modL g m b l = some x
  | 0, _, _, _, _, h, _, _ => by cases h
  | f + 1, m, b, l, x, h, 0, hg => by omega
  | f + 1, m, b, l, x, h, g + 1, hg => by
    unfold modL at h ⊢
    split at h
    · rename_i h6
      rw [if_pos h6]
      exact h
    · rename_i h6
      rw [if_neg h6]
      cases hi : itmR m l with
      | out => rw [hi] at h; cases h
      | ok m' r =>
        rw [hi] at h
        exact modL_more f _ _ _ _ h g (by omega)
      | no a c r =>
        rw [hi] at h
        exact modL_more f _ _ _ _ h g (by omega)
theorem modL_two {f g : Nat} {m : Mo} {b : List Pb} {l : List Tk} {x y : Mo × List Pb} (h1 : modL f m b l = some x) (h2 : modL g m b l = some y) : x = y := by
  rcases Nat.le_total f g with h | h
  · have := modL_more f m b l x h1 g h
    rw [h2] at this
    cases this
    rfl
  · have := modL_more g m b l y h2 f h
    rw [h1] at this
    cases this
    rfl

/-! What is read. -/
theorem isT_same {l r : List Tk} (hk : (hd r).k = (hd l).k) (ht : (hd r).t = (hd l).t) (s : ByteArray) : isT s r = isT s l := by
  unfold isT
  rw [hk, ht]
/-- No expression and no type goes on so. -/
def Stp (l : List Tk) : Prop := ((hd l).k = 6 ∧ (hd l).t = .empty) ∨ ((hd l).k = 5 ∧ (hd l).t = ⟨#[41]⟩) ∨ ((hd l).k = 5 ∧ (hd l).t = ⟨#[59]⟩)
theorem Stp.sT {l : List Tk} (h : Stp l) {s : ByteArray} (h1 : s ≠ ⟨#[41]⟩) (h2 : s ≠ ⟨#[59]⟩) : isT s l = false := by
  unfold Go.Proofs.YtkgclmikhpjheaaGreatDoor.isT
  rcases h with ⟨hk, ht⟩ | ⟨hk, ht⟩ | ⟨hk, ht⟩
  · rw [hk]; rfl
  · rw [hk, ht, decide_eq_false (p := (⟨#[41]⟩ : ByteArray) = s) (fun e => h1 e.symm)]; rfl
  · rw [hk, ht, decide_eq_false (p := (⟨#[59]⟩ : ByteArray) = s) (fun e => h2 e.symm)]; rfl
theorem Stp.hk {l : List Tk} (h : Stp l) : (hd l).k = 6 ∨ (hd l).k = 5 := by
  rcases h with ⟨hk, ht⟩ | ⟨hk, ht⟩ | ⟨hk, ht⟩
  · exact .inl hk
  · exact .inr hk
  · exact .inr hk
theorem Stp.ag {l : List Tk} (h : Stp l) : agg (hd l).t = false := by
  rcases h with ⟨hk, ht⟩ | ⟨hk, ht⟩ | ⟨hk, ht⟩ <;> rw [ht] <;> decide
/-- Lists that have the same tokens, but for their offsets, up to their ends t1 and t2. -/
inductive Loc (t1 t2 : List Tk) : List Tk → List Tk → Prop where
  | base : Loc t1 t2 t1 t2
  | cons {x y : Tk} {l r : List Tk} (hk : y.k = x.k) (ht : y.t = x.t) (h : Loc t1 t2 l r) : Loc t1 t2 (x :: l) (y :: r)
theorem Loc.le {t1 t2 l r : List Tk} (h : Loc t1 t2 l r) : t1.length ≤ l.length := by
  induction h with
  | base => exact Nat.le_refl _
  | cons hk ht h ih => exact Nat.le_succ_of_le ih
theorem Loc.fin {t1 t2 r : List Tk} (h : Loc t1 t2 t1 r) : r = t2 := by
  generalize hl : t1 = l at h
  cases h with
  | base => rfl
  | cons hk ht h =>
    have := h.le
    rw [← hl] at this
    have h2 := congrArg List.length hl
    rw [List.length_cons] at h2
    omega
theorem Loc.app {t1 t2 : List Tk} : ∀ C : List Tk, Loc t1 t2 (C ++ t1) (C ++ t2)
  | [] => .base
  | _ :: C => .cons rfl rfl (Loc.app C)
/-- What may stand at the ends. -/
structure Ends (t1 t2 : List Tk) : Prop where
  l : Stp t1
  r : Stp t2
  p : isT ⟨#[41]⟩ t1 = false
section
variable {t1 t2 : List Tk}
theorem Loc.sT (E : Ends t1 t2) {l r : List Tk} (h : Loc t1 t2 l r) {s : ByteArray} (h1 : s ≠ ⟨#[41]⟩ := by decide) (h2 : s ≠ ⟨#[59]⟩ := by decide) : isT s r = isT s l := by
  cases h with
  | base => rw [E.l.sT h1 h2, E.r.sT h1 h2]
  | @cons x y l r hk ht h => exact isT_same (l := x :: l) (r := y :: r) hk ht s
theorem Loc.of (E : Ends t1 t2) {l r : List Tk} (h : Loc t1 t2 l r) {s : ByteArray} (t : Go.Proofs.YtkgclmikhpjheaaGreatDoor.isT s l = true) (h2 : s ≠ ⟨#[59]⟩ := by decide) : Loc t1 t2 l.tail r.tail := by
  cases h with
  | base =>
    exfalso
    by_cases h1 : s = ⟨#[41]⟩
    · subst h1
      rw [E.p] at t
      cases t
    · rw [E.l.sT h1 h2] at t
      cases t
  | cons hk ht h => exact h
theorem Loc.par (E : Ends t1 t2) {l r : List Tk} (h : Loc t1 t2 l r) (t : Go.Proofs.YtkgclmikhpjheaaGreatDoor.isT ⟨#[41]⟩ l = true) : Go.Proofs.YtkgclmikhpjheaaGreatDoor.isT ⟨#[41]⟩ r = true := by
  cases h with
  | base => rw [E.p] at t; cases t
  | @cons x y l r hk ht h =>
    rw [isT_same (l := x :: l) (r := y :: r) hk ht]
    exact t
theorem Loc.kd (E : Ends t1 t2) {l r : List Tk} (h : Loc t1 t2 l r) {k : Int} (h5 : k ≠ 5) (h6 : k ≠ 6) : ((hd r).k = k) = ((hd l).k = k) := by
  cases h with
  | base =>
    have := E.l.hk
    have := E.r.hk
    exact propext ⟨fun e => by omega, fun e => by omega⟩
  | cons hk ht h => rw [show (hd (_ :: _)).k = _ from hk]; rfl
theorem Loc.ag (E : Ends t1 t2) {l r : List Tk} (h : Loc t1 t2 l r) : agg (hd r).t = agg (hd l).t := by
  cases h with
  | base => rw [E.l.ag, E.r.ag]
  | cons hk ht h => rw [show (hd (_ :: _)).t = _ from ht]; rfl
/-- What succeeds on the one list succeeds on the other. -/
def RL (t1 t2 : List Tk) {α : Type} (x y : Rs α) : Prop := ∀ v q, x = .ok v q → ∃ q', y = .ok v q' ∧ Loc t1 t2 q q'
theorem RL.bind {α β : Type} {x y : Rs α} {g k : α → List Tk → Rs β} (h : RL t1 t2 x y) (hg : ∀ v q q', Loc t1 t2 q q' → RL t1 t2 (g v q) (k v q')) : RL t1 t2 (x.bind g) (y.bind k) := by
  intro v q e
  obtain ⟨u, s, h1, h2⟩ := bind_ok e
  obtain ⟨s', h3, h4⟩ := h u s h1
  obtain ⟨q', h5, h6⟩ := hg u s s' h4 v q h2
  exact ⟨q', by rw [h3]; exact h5, h6⟩
theorem rl_ok {α : Type} (v : α) {l r : List Tk} (h : Loc t1 t2 l r) : RL t1 t2 (.ok v l) (.ok v r) := fun u q e => by
  cases e
  exact ⟨r, rfl, h⟩
theorem rl_no {α : Type} {a c : Int} {l : List Tk} {y : Rs α} : RL t1 t2 (.no a c l) y := fun u q e => by cases e
theorem rl_wrg {α : Type} {l : List Tk} {y : Rs α} : RL t1 t2 (wrg l) y := rl_no
theorem need_loc (E : Ends t1 t2) {s : ByteArray} {l r : List Tk} (h : Loc t1 t2 l r) (h1 : s ≠ ⟨#[41]⟩ := by decide) (h2 : s ≠ ⟨#[59]⟩ := by decide) : RL t1 t2 (need s l) (need s r) := by
  unfold need
  rw [h.sT E h1 h2]
  split
  · rename_i t; exact rl_ok () (h.of E t h2)
  · exact rl_wrg
theorem need_par (E : Ends t1 t2) {l r : List Tk} (h : Loc t1 t2 l r) : RL t1 t2 (need ⟨#[41]⟩ l) (need ⟨#[41]⟩ r) := by
  unfold need
  by_cases t : isT ⟨#[41]⟩ l = true
  · rw [if_pos t, if_pos (h.par E t)]
    exact rl_ok () (h.of E t)
  · rw [if_neg t]
    exact rl_wrg
theorem tak_loc (E : Ends t1 t2) {k : Int} (h5 : k ≠ 5) (h6 : k ≠ 6) {l r : List Tk} (h : Loc t1 t2 l r) : RL t1 t2 (tak k l) (tak k r) := by
  unfold tak
  by_cases t : (hd l).k = k
  · rw [if_pos t, if_pos ((h.kd E h5 h6).mpr t)]
    cases h with
    | base =>
      have := E.l.hk
      omega
    | cons hk ht h =>
      rw [show (hd (_ :: _)).t = _ from ht]
      exact rl_ok _ h
  · rw [if_neg t]
    exact rl_wrg
theorem nam_loc (E : Ends t1 t2) {l r : List Tk} (h : Loc t1 t2 l r) : RL t1 t2 (nam l) (nam r) := by
  unfold nam
  split
  · rename_i t
    cases h with
    | base =>
      unfold tak
      have := E.l.hk
      rw [if_neg (by omega)]
      exact rl_wrg
    | cons hk ht h =>
      rw [if_pos (by rw [show (hd (_ :: _)).t = _ from ht]; exact t)]
      exact tak_loc E (by decide) (by decide) (.cons hk ht h)
  · exact rl_wrg
theorem nma_loc (E : Ends t1 t2) {s : ByteArray} {l r : List Tk} (h : Loc t1 t2 l r) (h1 : s ≠ ⟨#[41]⟩ := by decide) (h2 : s ≠ ⟨#[59]⟩ := by decide) : RL t1 t2 (nma s l) (nma s r) := (need_loc E h h1 h2).bind fun _ _ _ h => nam_loc E h
theorem int_loc (E : Ends t1 t2) {l r : List Tk} (h : Loc t1 t2 l r) : RL t1 t2 (int l) (int r) := (tak_loc E (by decide) (by decide) h).bind fun _ _ _ h => rl_ok _ h
theorem deci_loc (E : Ends t1 t2) {l r : List Tk} (h : Loc t1 t2 l r) : RL t1 t2 (deci l) (deci r) := (tak_loc E (by decide) (by decide) h).bind fun _ _ _ h => rl_ok _ h
theorem fac_loc (E : Ends t1 t2) {l r : List Tk} (h : Loc t1 t2 l r) : RL t1 t2 (fac l) (fac r) := by
  refine (nam_loc E h).bind fun n l r h => ?_
  rw [h.sT E (s := ⟨#[94]⟩)]
  split
  · rename_i t
    have h1 := h.of E t
    rw [h1.sT E (s := ⟨#[45]⟩)]
    split
    · rename_i t1
      exact (int_loc E (h1.of E t1)).bind fun _ _ _ h => rl_ok _ h
    · exact (int_loc E h1).bind fun _ _ _ h => rl_ok _ h
  · exact rl_ok _ h
theorem more_loc (E : Ends t1 t2) {α : Type} {one : List Tk → Rs α} {s : ByteArray} (h1 : ∀ {l r : List Tk}, Loc t1 t2 l r → RL t1 t2 (one l) (one r)) (hlt : ∀ l v r, one l = .ok v r → r.length < l.length) (hs1 : s ≠ ⟨#[41]⟩) (hs2 : s ≠ ⟨#[59]⟩) :
    ∀ (f f' : Nat) (x : List α) {l r : List Tk}, Loc t1 t2 l r → r.length < f' → RL t1 t2 (more one s f x l) (more one s f' x r)
  | 0, _, _, _, _, _, _ => fun v q e => by cases e
  | f + 1, 0, _, _, _, _, hf => by omega
  | f + 1, f' + 1, x, l, r, h, hf => by
    unfold more
    rw [h.sT E hs1 hs2]
    split
    · rename_i t
      intro v q e
      obtain ⟨y, u, h2, h3⟩ := bind_ok e
      obtain ⟨u', h4, h5⟩ := h1 (h.of E t hs2) y u h2
      have g1 := hlt _ _ _ h4
      have g2 := tail_lt (s := s) (l := r) (by rw [h.sT E hs1 hs2]; exact t)
      obtain ⟨q', h6, h7⟩ := more_loc E h1 hlt hs1 hs2 f f' (x ++ [y]) h5 (by omega) v q h3
      exact ⟨q', by rw [h4]; exact h6, h7⟩
    · exact rl_ok _ h
theorem lst_loc (E : Ends t1 t2) {α : Type} {one : List Tk → Rs α} {s : ByteArray} (h1 : ∀ {l r : List Tk}, Loc t1 t2 l r → RL t1 t2 (one l) (one r)) (hlt : ∀ l v r, one l = .ok v r → r.length < l.length) {l r : List Tk} (h : Loc t1 t2 l r) (hs1 : s ≠ ⟨#[41]⟩ := by decide) (hs2 : s ≠ ⟨#[59]⟩ := by decide) : RL t1 t2 (lst one s l) (lst one s r) :=
  (h1 h).bind fun _ _ _ h => more_loc E h1 hlt hs1 hs2 _ _ _ h (Nat.lt_succ_self _)
theorem uni_loc (E : Ends t1 t2) {l r : List Tk} (h : Loc t1 t2 l r) : RL t1 t2 (uni l) (uni r) := by
  unfold uni
  rw [h.sT E (s := ⟨#[91]⟩)]
  split
  · rename_i t
    refine (lst_loc E (fac_loc E) (fun _ _ _ => fac_lt) (h.of E t)).bind fun u l' r' h' => (need_loc E h').bind fun _ l' r' h' => ?_
    split
    · exact rl_ok _ h'
    · exact rl_no
  · exact rl_ok _ h
theorem typ_loc (E : Ends t1 t2) {l r : List Tk} (h : Loc t1 t2 l r) : RL t1 t2 (typ l) (typ r) := by
  unfold typ
  rw [h.sT E (s := ⟨#[98, 111, 111, 108]⟩), h.sT E (s := ⟨#[116, 101, 120, 116]⟩), h.sT E (s := ⟨#[107, 101, 121]⟩), h.sT E (s := ⟨#[105, 110, 116]⟩), h.sT E (s := ⟨#[100, 101, 99]⟩)]
  split
  · rename_i t; exact rl_ok _ (h.of E t)
  split
  · rename_i t; exact rl_ok _ (h.of E t)
  split
  · rename_i t; exact (nam_loc E (h.of E t)).bind fun _ _ _ h => rl_ok _ h
  split
  · rename_i t; exact (uni_loc E (h.of E t)).bind fun _ _ _ h => rl_ok _ h
  split
  · rename_i t; exact (uni_loc E (h.of E t)).bind fun _ _ _ h => rl_ok _ h
  · exact rl_wrg
theorem win_loc (E : Ends t1 t2) {l r : List Tk} (h : Loc t1 t2 l r) : RL t1 t2 (win l) (win r) := by
  unfold win
  rw [h.sT E (s := ⟨#[97, 108, 108]⟩), h.sT E (s := ⟨#[115, 108, 105, 100, 105, 110, 103]⟩), h.sT E (s := ⟨#[116, 117, 109, 98, 108, 105, 110, 103]⟩), h.sT E (s := ⟨#[115, 101, 115, 115, 105, 111, 110]⟩)]
  split
  · rename_i t; exact rl_ok _ (h.of E t)
  iterate 3
    split
    · rename_i t; exact (int_loc E (h.of E t)).bind fun _ _ _ h => rl_ok _ h
  · exact rl_wrg
theorem key_loc (E : Ends t1 t2) {l r : List Tk} (h : Loc t1 t2 l r) : RL t1 t2 (key l) (key r) := by
  refine (nma_loc E h).bind fun n l r h => (tak_loc E (by decide) (by decide) h).bind fun s l' r' h' => ?_
  split
  · exact rl_ok _ h'
  · exact rl_no
theorem find_loc (E : Ends t1 t2) {l r : List Tk} (h : Loc t1 t2 l r) : ∀ L : List ByteArray, (∀ s ∈ L, s ≠ ⟨#[41]⟩ ∧ s ≠ ⟨#[59]⟩) → (L.find? fun s => isT s r) = L.find? fun s => isT s l
  | [], _ => rfl
  | s :: L, hL => by
    rw [List.find?_cons, List.find?_cons, h.sT E (hL s (List.mem_cons_self ..)).1 (hL s (List.mem_cons_self ..)).2, find_loc E h L fun x hx => hL x (List.mem_cons_of_mem _ hx)]
theorem opL_ok : ∀ n, ∀ s ∈ opL n, s ≠ ⟨#[41]⟩ ∧ s ≠ ⟨#[59]⟩
  | 0 => by decide
  | 1 => by decide
  | 2 => by decide
  | 3 => by decide
  | 4 => by decide
  | n + 5 => by
    show ∀ s ∈ [(⟨#[42]⟩ : ByteArray), ⟨#[47]⟩], _
    decide
theorem opr_loc (E : Ends t1 t2) {n : Nat} {l r : List Tk} (h : Loc t1 t2 l r) : opr n r = opr n l := by
  unfold opr
  rw [find_loc E h _ (opL_ok n)]
theorem opr_ok {n : Nat} {l : List Tk} (h : opr n l ≠ .empty) : opr n l ≠ ⟨#[59]⟩ := by
  unfold opr at h ⊢
  cases hf : (opL n).find? fun s => isT s l with
  | none => rw [hf] at h; exact absurd rfl h
  | some s => exact (opL_ok n s (List.mem_of_find?_eq_some hf)).2
theorem pz_loc (E : Ends t1 t2) : ∀ (f : Nat) (i : Bool) (m : Md) {l r : List Tk}, Loc t1 t2 l r → RL t1 t2 (pz f i m l) (pz f i m r) := by
  intro f
  induction f with
  | zero => intro i m l r _ v q e; cases e
  | succ f ih =>
    intro i m l r h
    cases m with
    | ex =>
      simp only [pz]
      rw [h.sT E (s := ⟨#[105, 102]⟩)]
      split
      · rename_i t
        exact (ih _ _ (h.of E t)).bind fun _ _ _ h => (need_loc E h).bind fun _ _ _ h => (ih _ _ h).bind fun _ _ _ h => (need_loc E h).bind fun _ _ _ h => (ih _ _ h).bind fun _ _ _ h => rl_ok _ h
      · exact ih _ _ h
    | op least =>
      simp only [pz]
      rw [h.sT E (s := ⟨#[110, 111, 116]⟩)]
      split
      · rename_i t
        exact (ih _ _ (h.of E t.2)).bind fun _ _ _ h => ih _ _ h
      · exact (ih _ _ h).bind fun _ _ _ h => ih _ _ h
    | tl least n y =>
      simp only [pz, opr_loc E h]
      split
      · exact rl_ok _ h
      · split
        · exact ih _ _ h
        · rename_i t
          exact (ih _ _ (h.of E (opr_ne t) (opr_ok t))).bind fun _ _ _ h => ih _ _ h
    | ng =>
      simp only [pz]
      rw [h.sT E (s := ⟨#[45]⟩)]
      split
      · rename_i t
        exact (ih _ _ (h.of E t)).bind fun _ _ _ h => rl_ok _ h
      · exact ih _ _ h
    | pa =>
      simp only [pz]
      exact (need_loc E h).bind fun _ _ _ h => (ih _ _ h).bind fun _ _ _ h => (need_par E h).bind fun _ _ _ h => rl_ok _ h
    | rf =>
      simp only [pz]
      refine (nam_loc E h).bind fun n l r h => ?_
      rw [h.sT E (s := ⟨#[111, 102]⟩)]
      split
      · rename_i t
        exact (ih _ _ (h.of E t)).bind fun _ _ _ h => rl_ok _ h
      · exact rl_ok _ h
    | ag =>
      simp only [pz]
      refine (tak_loc E (by decide) (by decide) h).bind fun op _ _ h => (need_loc E h).bind fun _ _ _ h => (nam_loc E h).bind fun t _ _ h => (need_loc E h).bind fun _ l r h => RL.bind ?_ fun x l r h => RL.bind ?_ fun p l r h => (win_loc E h).bind fun w l r h => RL.bind ?_ fun y l r h => (need_par E h).bind fun _ _ _ h => rl_ok _ h
      · split
        · exact rl_ok _ h
        · exact (ih _ _ h).bind fun _ _ _ h => (need_loc E h).bind fun _ _ _ h => rl_ok _ h
      · split
        · exact (int_loc E h).bind fun _ _ _ h => (need_loc E h).bind fun _ _ _ h => rl_ok _ h
        · exact rl_ok _ h
      · rw [h.sT E (s := ⟨#[119, 104, 101, 114, 101]⟩)]
        split
        · rename_i t; exact ih _ _ (h.of E t)
        · exact rl_ok _ h
    | pr =>
      simp only [pz]
      rw [h.sT E (s := ⟨#[116, 114, 117, 101]⟩), h.sT E (s := ⟨#[102, 97, 108, 115, 101]⟩), h.sT E (s := ⟨#[64]⟩), h.sT E (s := ⟨#[110, 117, 108, 108]⟩), h.sT E (s := ⟨#[40]⟩), h.ag E]
      simp only [h.kd E (k := 2) (by decide) (by decide), h.kd E (k := 3) (by decide) (by decide), h.kd E (k := 4) (by decide) (by decide)]
      split
      · exact (int_loc E h).bind fun _ _ _ h => (uni_loc E h).bind fun _ _ _ h => rl_ok _ h
      split
      · exact (deci_loc E h).bind fun _ _ _ h => (uni_loc E h).bind fun _ _ _ h => rl_ok _ h
      split
      · exact (tak_loc E (by decide) (by decide) h).bind fun _ _ _ h => rl_ok _ h
      split
      · rename_i t; exact rl_ok _ (h.of E t)
      split
      · rename_i t; exact rl_ok _ (h.of E t)
      split
      · exact key_loc E h
      split
      · rename_i t; exact (ih _ _ (h.of E t)).bind fun _ _ _ h => rl_ok _ h
      split
      · exact ih _ _ h
      split
      · exact (nam_loc E h).bind fun _ _ _ h => rl_ok _ h
      split
      · exact ih _ _ h
      · exact ih _ _ h
theorem exR_loc (E : Ends t1 t2) {l r : List Tk} (h : Loc t1 t2 l r) : RL t1 t2 (exR l) (exR r) := by
  intro v q e
  obtain ⟨q', h1, h2⟩ := pz_loc E _ _ _ h v q e
  exact ⟨q', exR_eq h1, h2⟩
theorem fie_loc (E : Ends t1 t2) {l r : List Tk} (h : Loc t1 t2 l r) : RL t1 t2 (fie l) (fie r) := (nam_loc E h).bind fun _ _ _ h => (need_loc E h).bind fun _ _ _ h => (typ_loc E h).bind fun _ _ _ h => rl_ok _ h
theorem tabF_loc (E : Ends t1 t2) {l r : List Tk} (h : Loc t1 t2 l r) : RL t1 t2 (tabF l) (tabF r) := by
  unfold tabF
  rw [h.sT E (s := ⟨#[125]⟩)]
  split
  · rename_i t; exact rl_ok _ (h.of E t)
  · exact (lst_loc E (fie_loc E) (fun _ _ _ => fie_lt) h).bind fun _ _ _ h => (need_loc E h).bind fun _ _ _ h => rl_ok _ h
theorem keeR_loc (E : Ends t1 t2) {l r : List Tk} (h : Loc t1 t2 l r) : RL t1 t2 (keeR l) (keeR r) := by
  unfold keeR
  rw [h.sT E (s := ⟨#[107, 101, 101, 112]⟩)]
  split
  · rename_i t; exact int_loc E (h.of E t)
  · exact rl_ok _ h
end
end Go.Proofs.YtkgclmikhpjheaaGreatDoor.pa
namespace Go.Proofs.YtkgclmikhpjheaaGreatDoor.pa
open Go.RowKit dec

theorem lxs_par (l : List UInt8) : lxs 0 false (40 :: l) = (⟨5, ⟨#[40]⟩, 0⟩ :: (lxs 1 false l).1, (lxs 1 false l).2) := by
  have h1 : sk false (40 :: l) = 0 := sk_none (by decide) (by decide) l
  have h2 : shp (40 :: l) = (5, 1) := by
    rw [shp_cons, if_neg (by decide), if_neg (by decide), if_neg (fun h => absurd h.1 (by decide)), sgn_cons, if_neg (fun h => absurd h.1 (by decide)), if_pos (by decide)]
  rw [lex_step (l' := 40 :: l) (by rw [h1]; rfl) (List.cons_ne_nil _ _), h1, h2]
  have h3 : (40 :: l : List UInt8).take 1 = [40] := rfl
  have h4 : (40 :: l : List UInt8).drop 1 = l := rfl
  simp only [h3, h4]
  rw [if_pos (by decide)]
  rfl
theorem lxs_end (p : Nat) : lxs p false [41] = ([⟨5, ⟨#[41]⟩, (p : Nat)⟩], []) := lex_alone (x := ⟨5, ⟨#[41]⟩, 0⟩) (by decide) p false
/-- The tokens of a source between parentheses. -/
theorem lxs_group (x : List UInt8) : lxs 0 false (40 :: (x ++ [10, 41])) = (⟨5, ⟨#[40]⟩, 0⟩ :: ((lxs 0 false x).1.map (shT 1) ++ [⟨5, ⟨#[41]⟩, ((1 + x.length + 1 : Nat) : Int)⟩]), (lxs 0 false x).2.map (shB 1)) := by
  rw [lxs_par, lex_lines [41] 1 false x, lxs_end]
  have := lex_shift 1 0 false x
  rw [Nat.zero_add] at this
  rw [this]
  simp
theorem lxs_kind (p : Nat) (f : Bool) (l : List UInt8) : ∀ x ∈ (lxs p f l).1, x.k ≠ 6 := fun x hx => by
  have := pr_kind (lex_pr p f l x hx)
  omega
theorem opr_stp {n : Nat} {l : List Tk} (h : Stp l) : opr n l = .empty := by
  unfold opr
  rw [List.find?_eq_none.2 fun s hs => by rw [h.sT (opL_ok n s hs).1 (opL_ok n s hs).2]; decide]
  rfl
theorem tl_end {l : List Tk} (h : Stp l) (i : Bool) (x : Ex) : ∀ (n f : Nat), n < f → pz f i (.tl 0 n x) l = .ok x l
  | _, 0, hf => by omega
  | 0, f + 1, _ => by simp only [pz]; rw [if_pos (Nat.le_refl 0)]
  | n + 1, f + 1, hf => by
    simp only [pz]
    rw [if_neg (by omega), if_pos (by rw [Nat.add_sub_cancel]; exact opr_stp h), Nat.add_sub_cancel]
    exact tl_end h i x n f (by omega)
theorem isT_sign {s t : ByteArray} {a : Int} {l : List Tk} : isT s (⟨5, t, a⟩ :: l) = decide (t = s) := by
  unfold isT hd
  simp
theorem pz_ex {f : Nat} {i : Bool} {l : List Tk} (h : isT ⟨#[105, 102]⟩ l = false) : pz (f + 1) i .ex l = pz f i (.op 0) l := by
  simp only [pz]
  rw [if_neg (by rw [h]; decide)]
theorem pz_op {f n : Nat} {i : Bool} {l : List Tk} (h : isT ⟨#[110, 111, 116]⟩ l = false) : pz (f + 1) i (.op n) l = (pz f i .ng l).bind fun x r => pz f i (.tl n 6 x) r := by
  simp only [pz]
  rw [if_neg (fun e => by rw [h] at e; exact absurd e.2 (by decide))]
theorem pz_ng {f : Nat} {i : Bool} {l : List Tk} (h : isT ⟨#[45]⟩ l = false) : pz (f + 1) i .ng l = pz f i .pr l := by
  simp only [pz]
  rw [if_neg (by rw [h]; decide)]
theorem pz_pr_par {f : Nat} {i : Bool} {n : Int} {r : List Tk} : pz (f + 1) i .pr (⟨5, ⟨#[40]⟩, n⟩ :: r) = pz f i .pa (⟨5, ⟨#[40]⟩, n⟩ :: r) := by
  simp only [pz, isT_sign]
  have hk : (hd ((⟨5, ⟨#[40]⟩, n⟩ : Tk) :: r)).k = 5 := rfl
  rw [hk, if_neg (by decide), if_neg (by decide), if_neg (by decide), if_neg (by decide), if_neg (by decide), if_neg (by decide), if_neg (by decide), if_pos (by decide)]
theorem pz_pa {f : Nat} {i : Bool} {l : List Tk} : pz (f + 1) i .pa l = (need ⟨#[40]⟩ l).bind fun _ r => (pz f i .ex r).bind fun x r => (need ⟨#[41]⟩ r).bind fun _ r => .ok x r := by
  simp only [pz]
theorem par_ok {r : List Tk} {x : Ex} {c e n : Int} {f : Nat} (hf : 4 ≤ f) (h : pz f false .ex r = .ok x (⟨5, ⟨#[41]⟩, c⟩ :: [⟨6, .empty, e⟩])) : pz (f + 5) false .ex (⟨5, ⟨#[40]⟩, n⟩ :: r) = .ok x [⟨6, .empty, e⟩] := by
  have hp : pz (f + 1) false .pa (⟨5, ⟨#[40]⟩, n⟩ :: r) = .ok x [⟨6, .empty, e⟩] := by
    rw [pz_pa]
    unfold need
    rw [isT_sign, if_pos (by decide)]
    show Rs.bind (pz f false .ex r) _ = _
    rw [h]
    simp only [Rs.bind, isT_sign]
    rw [if_pos (by decide)]
    rfl
  rw [pz_ex (by rw [isT_sign]; decide), pz_op (by rw [isT_sign]; decide), pz_ng (by rw [isT_sign]; decide), pz_pr_par, hp]
  show pz (f + 3) false (.tl 0 6 x) [⟨6, .empty, e⟩] = _
  exact tl_end (.inl ⟨rfl, rfl⟩) false x 6 (f + 3) (by omega)
theorem Loc.map {t1 t2 : List Tk} (d : Nat) : ∀ C : List Tk, Loc t1 t2 (C ++ t1) (C.map (shT d) ++ t2)
  | [] => .base
  | _ :: C => .cons rfl rfl (Loc.map d C)
/-- Where a reader of a whole source stops. -/
theorem all_ok {α : Type} {one : List Tk → Rs α} {l r : List Tk} {v : α} (h : allR one l = .ok v r) : one l = .ok v r ∧ (hd r).k = 6 := by
  obtain ⟨u, q, h1, h2⟩ := bind_ok h
  obtain ⟨_, q2, h3, h4⟩ := bind_ok h2
  cases h4
  unfold endR at h3
  split at h3
  · rename_i hk
    cases h3
    exact ⟨h1, hk⟩
  · cases h3
theorem all_of {α : Type} {one : List Tk → Rs α} {l r : List Tk} {v : α} (h : one l = .ok v r) (hk : (hd r).k = 6) : allR one l = .ok v r := by
  unfold allR
  rw [h]
  show Rs.bind (endR r) _ = _
  unfold endR
  rw [if_pos hk]
  rfl
theorem Loc.left {t1 t2 l r : List Tk} (h : Loc t1 t2 l r) : ∃ C, l = C ++ t1 := by
  induction h with
  | base => exact ⟨[], rfl⟩
  | @cons x y l r hk ht h ih =>
    obtain ⟨C, e⟩ := ih
    exact ⟨x :: C, by rw [e]; rfl⟩
theorem stop_at {T C : List Tk} {e : Tk} {l : List Tk} (hT : ∀ x ∈ T, x.k ≠ 6) (hl : l <:+ T ++ [e]) (h : l = C ++ [e]) (hk : (hd l).k = 6) : l = [e] := by
  subst h
  cases C with
  | nil => rfl
  | cons x C =>
    exfalso
    obtain ⟨D, hD⟩ := hl
    have h2 : D ++ x :: C = T := by
      have : (D ++ x :: C) ++ [e] = T ++ [e] := by rw [← hD]; simp
      exact List.append_cancel_right this
    exact hT x (by rw [← h2]; simp) hk
theorem isT_end {s : ByteArray} (e : Int) : isT s [⟨6, .empty, e⟩] = false := by
  unfold isT
  rw [show (hd [(⟨6, .empty, e⟩ : Tk)]).k = 6 from rfl]
  rfl
theorem group_pz {T : List Tk} (hT : ∀ x ∈ T, x.k ≠ 6) {a : Ex} {c e e2 : Int} {r : List Tk} (h : allR exR (T ++ [⟨6, .empty, e⟩]) = .ok a r) :
    ∃ q, allR exR ((⟨5, ⟨#[40]⟩, 0⟩ : Tk) :: (T.map (shT 1) ++ (⟨5, ⟨#[41]⟩, c⟩ :: [⟨6, .empty, e2⟩]))) = .ok a q := by
  obtain ⟨h1, h6⟩ := all_ok h
  have E : Ends [⟨6, .empty, e⟩] (⟨5, ⟨#[41]⟩, c⟩ :: [⟨6, .empty, e2⟩]) := ⟨.inl ⟨rfl, rfl⟩, .inr (.inl ⟨rfl, rfl⟩), isT_end e⟩
  obtain ⟨q', h2, h3⟩ := exR_loc E (Loc.map 1 T) a r h1
  obtain ⟨C, hC⟩ := h3.left
  have hs := sx_exR (T ++ [⟨6, .empty, e⟩])
  rw [h1] at hs
  have hs : r <:+ T ++ [⟨6, .empty, e⟩] := hs
  have hr := stop_at hT hs hC h6
  rw [hr] at h3
  have hq := h3.fin
  rw [hq] at h2
  unfold exR at h2
  have h4 := par_ok (n := 0) (by omega) h2
  exact ⟨_, all_of (exR_eq h4) rfl⟩
/-- A source that is read is read between parentheses as well. -/
theorem group_ok {x : List UInt8} {a : Ex} {e e2 : Int} {r : List Tk} (h : allR exR ((lxs 0 false x).1 ++ [⟨6, .empty, e⟩]) = .ok a r) :
    ∃ q, allR exR ((lxs 0 false (40 :: (x ++ [10, 41]))).1 ++ [⟨6, .empty, e2⟩]) = .ok a q := by
  rw [lxs_group]
  obtain ⟨q, hq⟩ := group_pz (c := ((1 + x.length + 1 : Nat) : Int)) (e2 := e2) (lxs_kind 0 false x) h
  refine ⟨q, ?_⟩
  rw [← hq]
  generalize (lxs 0 false x).1.map (shT 1) = U
  simp
theorem exR_nz {l r : List Tk} {a c : Int} (h : exR l = .no a c r) : c ≠ 0 := by
  have hs := sx_exR l
  rw [h] at hs
  exact hs.1
theorem typ_nz {l r : List Tk} {a c : Int} (h : typ l = .no a c r) : c ≠ 0 := by
  have hs := sx_typ l
  rw [h] at hs
  exact hs.1
theorem endR_nz {l r : List Tk} {a c : Int} (h : endR l = .no a c r) : c ≠ 0 := by
  unfold endR at h
  split at h
  · cases h
  · cases h
    decide
theorem all_nz {α : Type} {one : List Tk → Rs α} (h1 : ∀ {l r a c}, one l = .no a c r → c ≠ 0) {l r : List Tk} {a c : Int} (h : allR one l = .no a c r) : c ≠ 0 := by
  unfold allR at h
  cases h2 : one l with
  | out => rw [h2] at h; cases h
  | ok v q =>
    rw [h2] at h
    cases h3 : endR q with
    | out => exact absurd h3 (endR_ne q)
    | ok u q2 =>
      simp only [Rs.bind, h3] at h
      cases h
    | no a' c' q2 =>
      simp only [Rs.bind, h3] at h
      cases h
      exact endR_nz h3
  | no a' c' q =>
    rw [h2] at h
    cases h
    exact h1 h2
theorem tokB_nz {s : ByteArray} {q : Pb} {qs : List Pb} (h : tokB s = q :: qs) : q.2 ≠ 0 := by
  unfold tokB at h
  split at h
  · cases h
  · have hc := (lex_cov s.data.toList 0 false s.data.toList rfl (Nat.zero_le _)).2
    cases hl : (lxs 0 false s.data.toList).2 with
    | nil => rw [hl] at h; cases h
    | cons p ps =>
      rw [hl] at h hc
      obtain ⟨a, h1, h2, h3, h4, h5⟩ := hc
      rw [show (32 : Nat) = 31 + 1 from rfl, List.take_succ_cons] at h
      injection h with e1 e2
      rw [← e1]
      exact h4
/-- A source without problems. -/
theorem top_ok {α : Type} {z : α} {one : List Tk → Rs α} (h0 : ∀ l, one l ≠ .out) (h1 : ∀ {l r a c}, one l = .no a c r → c ≠ 0) {s : ByteArray} {x : α} {a : Int} (h : topR z one s = (x, a, 0)) : tokE s = 0 ∧ tokB s = [] ∧ a = 0 ∧ ∃ r, allR one (tokL s) = .ok x r := by
  unfold topR at h
  split at h
  · rename_i he
    refine ⟨he, ?_⟩
    cases hb : tokB s with
    | cons q qs =>
      rw [hb] at h
      exfalso
      have := congrArg (fun t => t.2.2) h
      exact tokB_nz hb this
    | nil =>
      rw [hb] at h
      cases ha : allR one (tokL s) with
      | out => exact absurd ha (allR_ne h0 _)
      | ok v r =>
        rw [ha] at h
        cases h
        exact ⟨rfl, rfl, r, rfl⟩
      | no a' c r =>
        rw [ha] at h
        exfalso
        cases h
        exact all_nz h1 ha rfl
  · rename_i he
    exfalso
    have := congrArg (fun t => t.2.2) h
    exact he this
theorem modR_of {s : ByteArray} {f : Nat} {x : Mo × List Pb} (h : modL f ⟨[], []⟩ (tokB s) (tokL s) = some x) : modR s = some x := by
  unfold modR
  cases hm : modL ((tokL s).length + 1) ⟨[], []⟩ (tokB s) (tokL s) with
  | none => exact absurd hm (modL_ne _ _ _ _ (Nat.lt_succ_self _))
  | some y => rw [modL_two hm h]
theorem tokL_eq {s : ByteArray} (hs : ¬ 16384 < s.size) : tokL s = (lxs 0 false s.data.toList).1 ++ [endT s] := by
  unfold tokL
  rw [if_neg hs]
theorem lxsB_nil {s : ByteArray} (hs : ¬ 16384 < s.size) (h : tokB s = []) : (lxs 0 false s.data.toList).2 = [] := by
  unfold tokB at h
  rw [if_neg hs] at h
  cases hl : (lxs 0 false s.data.toList).2 with
  | nil => rfl
  | cons p ps =>
    rw [hl, show (32 : Nat) = 31 + 1 from rfl, List.take_succ_cons] at h
    cases h
end Go.Proofs.YtkgclmikhpjheaaGreatDoor.pa
namespace Go.Proofs.YtkgclmikhpjheaaGreatDoor.pa
open Go.RowKit dec

theorem more_all {α : Type} {one : List Tk → Rs α} {s : ByteArray} {P : α → Prop} (h1 : ∀ l v r, one l = .ok v r → r.length < l.length ∧ P v) : ∀ (f : Nat) (x : List α) (l : List Tk) (v : List α) (r : List Tk), (∀ y ∈ x, P y) → more one s f x l = .ok v r → v.length ≤ x.length + l.length ∧ ∀ y ∈ v, P y
  | 0, _, _, _, _, _, h => by cases h
  | f + 1, x, l, v, r, hx, h => by
    unfold more at h
    split at h
    · rename_i t
      obtain ⟨y, q, h2, h3⟩ := bind_ok h
      obtain ⟨g1, g2⟩ := h1 _ _ _ h2
      obtain ⟨g3, g4⟩ := more_all h1 f (x ++ [y]) q v r (fun z hz => by
        rcases List.mem_append.1 hz with hz | hz
        · exact hx z hz
        · rw [List.mem_singleton.1 hz]; exact g2) h3
      have := tail_lt t
      rw [List.length_append, List.length_singleton] at g3
      exact ⟨by omega, g4⟩
    · cases h
      exact ⟨Nat.le_add_right _ _, hx⟩
theorem lst_all {α : Type} {one : List Tk → Rs α} {s : ByteArray} {P : α → Prop} (h1 : ∀ l v r, one l = .ok v r → r.length < l.length ∧ P v) {l : List Tk} {v : List α} {r : List Tk} (h : lst one s l = .ok v r) : v.length ≤ l.length ∧ ∀ y ∈ v, P y := by
  obtain ⟨y, q, h2, h3⟩ := bind_ok h
  obtain ⟨g1, g2⟩ := h1 _ _ _ h2
  obtain ⟨g3, g4⟩ := more_all h1 _ [y] q v r (fun z hz => by rw [List.mem_singleton.1 hz]; exact g2) h3
  rw [List.length_singleton] at g3
  exact ⟨by omega, g4⟩
theorem fie_sm {l r : List Tk} {v : Fi} (h : fie l = .ok v r) : r.length < l.length ∧ v.ty.un.length ≤ 1048576 := by
  refine ⟨fie_lt h, ?_⟩
  obtain ⟨n, q, h1, h⟩ := bind_ok h
  obtain ⟨_, q2, h2, h⟩ := bind_ok h
  obtain ⟨t, q3, h3, h⟩ := bind_ok h
  cases h
  exact typ_sm h3
def TbS (t : Tb) : Prop := t.fs.length ≤ 1048576 ∧ ∀ f ∈ t.fs, f.ty.un.length ≤ 1048576
def FeS (f : Fe) : Prop := f.ty.un.length ≤ 1048576 ∧ f.bo.sm
theorem tabR_sm {l r : List Tk} {t : Tb} (hl : l.length ≤ 1048576) (h : tabR l = .ok t r) : TbS t := by
  obtain ⟨n, q1, h1, h⟩ := bind_ok h
  obtain ⟨e, q2, h2, h⟩ := bind_ok h
  obtain ⟨_, q3, h3, h⟩ := bind_ok h
  obtain ⟨fs, q4, h4, h⟩ := bind_ok h
  obtain ⟨k, q5, h5, h⟩ := bind_ok h
  obtain ⟨_, q6, h6, h⟩ := bind_ok h
  cases h
  have g1 := nma_lt h1
  have g2 := nma_lt h2
  have g3 := need_lt h3
  unfold tabF at h4
  split at h4
  · cases h4
    exact ⟨Nat.zero_le _, fun f hf => by cases hf⟩
  · obtain ⟨v, p1, k1, h4⟩ := bind_ok h4
    obtain ⟨_, p2, k2, h4⟩ := bind_ok h4
    cases h4
    obtain ⟨g4, g5⟩ := lst_all (P := fun f : Fi => f.ty.un.length ≤ 1048576) (fun _ _ _ => fie_sm) k1
    exact ⟨Nat.le_trans g4 (by omega), g5⟩
theorem feaR_sm {l r : List Tk} {f : Fe} (h : feaR l = .ok f r) : FeS f := by
  obtain ⟨n, q1, h1, h⟩ := bind_ok h
  obtain ⟨e, q2, h2, h⟩ := bind_ok h
  obtain ⟨_, q3, h3, h⟩ := bind_ok h
  obtain ⟨t, q4, h4, h⟩ := bind_ok h
  obtain ⟨_, q5, h5, h⟩ := bind_ok h
  obtain ⟨x, q6, h6, h⟩ := bind_ok h
  obtain ⟨_, q7, h7, h⟩ := bind_ok h
  cases h
  exact ⟨typ_sm h4, pz_sm _ _ .ex _ _ _ trivial h6⟩
theorem itmR_sm {m m' : Mo} {l r : List Tk} (hl : l.length ≤ 1048576) (h : itmR m l = .ok m' r) : m'.ts.length + m'.fs.length = m.ts.length + m.fs.length + 1 ∧ ((∀ t ∈ m.ts, TbS t) → ∀ t ∈ m'.ts, TbS t) ∧ ((∀ f ∈ m.fs, FeS f) → ∀ f ∈ m'.fs, FeS f) := by
  unfold itmR at h
  split at h
  · obtain ⟨t, q, h1, h2⟩ := bind_ok h
    cases h2
    refine ⟨by simp only [List.length_append, List.length_singleton]; omega, fun hm x hx => ?_, fun hm => hm⟩
    rcases List.mem_append.1 hx with hx | hx
    · exact hm x hx
    · rw [List.mem_singleton.1 hx]
      exact tabR_sm hl h1
  · split at h
    · obtain ⟨t, q, h1, h2⟩ := bind_ok h
      cases h2
      refine ⟨by simp only [List.length_append, List.length_singleton]; omega, fun hm => hm, fun hm x hx => ?_⟩
      rcases List.mem_append.1 hx with hx | hx
      · exact hm x hx
      · rw [List.mem_singleton.1 hx]
        exact feaR_sm h1
    · cases h
theorem modL_sm : ∀ (f : Nat) (m : Mo) (b : List Pb) (l : List Tk) (m1 : Mo) (b1 : List Pb), l.length ≤ 1048576 → modL f m b l = some (m1, b1) → m1.ts.length + m1.fs.length ≤ m.ts.length + m.fs.length + l.length ∧ ((∀ t ∈ m.ts, TbS t) → ∀ t ∈ m1.ts, TbS t) ∧ ((∀ f ∈ m.fs, FeS f) → ∀ f ∈ m1.fs, FeS f)
  | 0, _, _, _, _, _, _, h => by cases h
  | f + 1, m, b, l, m1, b1, hl, h => by
    unfold modL at h
    split at h
    · cases h
      exact ⟨Nat.le_add_right _ _, fun h => h, fun h => h⟩
    · rename_i h6
      cases hi : itmR m l with
      | out => rw [hi] at h; cases h
      | ok m' r =>
        rw [hi] at h
        have g1 := itmR_lt hi
        obtain ⟨g2, g3, g4⟩ := itmR_sm hl hi
        obtain ⟨g5, g6, g7⟩ := modL_sm f _ _ _ _ _ (by omega) h
        exact ⟨by omega, fun h => g6 (g3 h), fun h => g7 (g4 h)⟩
      | no a c r =>
        rw [hi] at h
        have g1 := lvR_no hi h6
        obtain ⟨g5, g6, g7⟩ := modL_sm f _ _ _ _ _ (by omega) h
        exact ⟨by omega, g6, g7⟩
theorem modR_sm {s : ByteArray} (hs : ¬ 16384 < s.size) {m : Mo} {b : List Pb} (h : modR s = some (m, b)) : m.sm := by
  have hl := (tl_tok hs).ln
  obtain ⟨g1, g2, g3⟩ := modL_sm _ _ _ _ _ _ hl h
  have g4 := g2 (fun t ht => by cases ht)
  have g5 := g3 (fun t ht => by cases ht)
  simp only [List.length_nil] at g1
  exact ⟨by omega, by omega, g4, g5⟩
theorem top_sm {s : ByteArray} {x : Ex} {a c : Int} (h : topR (α := Ex) ⟨h0, .nil⟩ exR s = (x, a, c)) : x.sm := by
  have hz : Ex.sm ⟨h0, .nil⟩ := sm0 (by simp [h0])
  unfold topR at h
  split at h
  · cases hb : tokB s with
    | cons q qs => rw [hb] at h; cases h; exact hz
    | nil =>
      rw [hb] at h
      cases ha : allR exR (tokL s) with
      | out => rw [ha] at h; cases h; exact hz
      | ok v r =>
        rw [ha] at h
        cases h
        obtain ⟨h1, _⟩ := all_ok ha
        exact pz_sm _ _ .ex _ _ _ trivial h1
      | no a' c' r => rw [ha] at h; cases h; exact hz
  · cases h; exact hz
end Go.Proofs.YtkgclmikhpjheaaGreatDoor.pa
namespace Go.Proofs.YtkgclmikhpjheaaGreatDoor.pa
open Go.RowKit dec

theorem bs_lit (w : World) (cs : Array Value) (s : ByteArray) (T : TypeId) (fr : Nat × Nat) (n : Nat) (hs : s.size = n) (hc : (bv s.data.toList).toArray = cs) (hn : n ≤ 1000000) : Bs (w.alloc (.cells cs T fr)) (some ⟨w.heap.size, 0, none⟩) n n s := by
  refine ⟨.inr ⟨w.heap.size, 0, rfl, fun j hj => ?_⟩, hs, Nat.le_refl _, by omega, fun h => by cases h⟩
  rw [Nat.zero_add, World.cell?_alloc_mark w cs T fr j, ← hc]
  rw [List.getElem?_toArray]
  unfold bv
  rw [List.getElem?_map, List.getElem?_eq_getElem (by rw [str_len]; exact hj)]
  rfl
theorem cv_bb (w : World) (C : Array Value) (n c : Nat) : (convert 22 22 (.slice (some ⟨w.heap.size, 0, none⟩) n c)).run Tryz.prog (w.alloc (.cells C 5)) = .ok (.slice (some ⟨w.heap.size, 0, none⟩) n c) (w.alloc (.cells C 5 (C.size, C.size + 1))) := Lib.run_convert_bytes_const (P := Tryz.prog) w 22 5 C n c Tryz.underlying22 Tryz.underlying5
/-- The examples of the statements hold. -/
def ExA : Prop := ∀ W, Tabs W → Calls Tryz.prog 16 #[] W fun e w' => e = .returned (.bool true) ∧ Below W.heap.size W w'
theorem bv_set (l : List UInt8) (j : Nat) (b : UInt8) : (bv l).toArray.setIfInBounds j (.int .u8 (b.toNat : Int)) = (bv (l.set j b)).toArray := by
  unfold bv
  simp [List.map_set]
theorem bv_at {w : World} {g : Nat} {T : TypeId} {l : List UInt8} (h : Blk w g T (bv l).toArray) {j : Nat} (hj : j < l.length) : w.cell? ⟨g, j, none⟩ = some (.int .u8 (l[j].toNat : Int)) := by
  rw [h.cell j, List.getElem?_toArray]
  unfold bv
  rw [List.getElem?_map, List.getElem?_eq_getElem hj]
  rfl
theorem ba_at (x : ByteArray) (k : Nat) (hk : k < x.size) : x.data.toList[k]? = some x[k] := by
  rw [List.getElem?_eq_getElem (by rw [str_len]; exact hk)]
  rfl
theorem bs_blk {w : World} {g : Nat} {T : TypeId} {l : List UInt8} (h : Blk w g T (bv l).toArray) (n c : Nat) (hn : n ≤ l.length) (hc : n ≤ c) (hm : c ≤ 1000000) : Bs w (some ⟨g, 0, none⟩) n c ⟨(l.take n).toArray⟩ := by
  have hs : (⟨(l.take n).toArray⟩ : ByteArray).size = n := by
    rw [← str_len]
    show (l.take n).length = n
    rw [List.length_take]
    omega
  refine ⟨.inr ⟨g, 0, rfl, fun j hj => ?_⟩, hs, hc, by omega, fun h => by cases h⟩
  rw [Nat.zero_add, bv_at h (j := j) (by omega)]
  have e := ba_at ⟨(l.take n).toArray⟩ j hj
  rw [show (⟨(l.take n).toArray⟩ : ByteArray).data.toList = l.take n from rfl, List.getElem?_take, if_pos (by omega), List.getElem?_eq_getElem (by omega)] at e
  rw [Option.some.inj e]
end Go.Proofs.YtkgclmikhpjheaaGreatDoor.pa
namespace Go.Proofs.YtkgclmikhpjheaaGreatDoor.pa
open Go.RowKit dec

theorem slice_b (a : Option Addr) (n c k : Nat) (h : k ≤ n) (hc : n ≤ c) (W : World) : (Instr.slice 22 (.slice a n c) none (some (.int .i64 (k : Int))) none).run Tryz.prog W = .ok (.slice a k c) W := by
  have hel : Tryz.prog.elem 22 = 5 := by kernel_rfl
  have h1 := run_slice_h (P := Tryz.prog) (w := W) 22 a n c (by rw [hel]; exact Tryz.underlying22) .i64 (k : Int) (by omega) (by omega)
  have e : ((k : Int)).toNat = k := by omega
  rw [h1, hel, Tryz.sizeOf5, e]
  simp [Result.andThen, sliced]
  intro _
  cases a with
  | none => rfl
  | some x => simp only [Option.map_some, Option.some.injEq]; unfold Addr.add; split <;> simp_all
/-- The first bytes. -/
def fewS (k : Nat) (s : ByteArray) : ByteArray := if k < s.size then ⟨(s.data.toList.take k).toArray⟩ else s
theorem fewS_size (k : Nat) (s : ByteArray) : (fewS k s).size ≤ k := by
  unfold fewS
  split
  · rw [← str_len]
    show (s.data.toList.take k).length ≤ k
    rw [List.length_take]
    omega
  · omega
theorem bs_few {w : World} {a : Option Addr} {n c : Nat} {s : ByteArray} (h : Bs w a n c s) (k : Nat) : Bs w a (fewS k s).size c (fewS k s) := by
  have hn := h.hn
  have hc := h.hcap
  unfold fewS
  by_cases hk : k < s.size
  · rw [if_pos hk]
    have hs : (⟨(s.data.toList.take k).toArray⟩ : ByteArray).size = k := by
      rw [← str_len]
      show (s.data.toList.take k).length = k
      rw [List.length_take, str_len]
      omega
    rw [hs]
    refine { h with hat := ?_, hn := hs, hcap := by omega }
    rcases h.hat with h0 | ⟨b, off, e, hB⟩
    · omega
    · refine .inr ⟨b, off, e, fun j hj => ?_⟩
      rw [hB j (by omega)]
      have e1 := ba_at ⟨(s.data.toList.take k).toArray⟩ j hj
      rw [show (⟨(s.data.toList.take k).toArray⟩ : ByteArray).data.toList = s.data.toList.take k from rfl, List.getElem?_take, if_pos (by omega), ba_at s j (by omega)] at e1
      rw [Option.some.inj e1]
  · rw [if_neg hk, hn]
    exact h
set_option maxRecDepth 100000 in
theorem few_any (a : Option Addr) (n c k : Nat) (s : ByteArray) (w : World) (h : Bs w a n c s) :
    Calls Tryz.prog 11 #[.slice a n c, .int .i64 (k : Int)] w fun e w' => e = .returned (.slice a (fewS k s).size c) ∧ w' = w := by
  have hn := h.hn
  have hc := h.hcap
  unfold fewS
  by_cases hk : k < s.size
  · rw [if_pos hk]
    have hs : (⟨(s.data.toList.take k).toArray⟩ : ByteArray).size = k := by
      rw [← str_len]
      show (s.data.toList.take k).length = k
      rw [List.length_take, str_len]
      omega
    rw [hs]
    have q1 : decide ((n : Int) > (k : Int)) = true := decide_eq_true (by omega)
    have q2 : decide ((k : Int) < (n : Int)) = true := decide_eq_true (by omega)
    have sl := slice_b a n c k (by omega) hc
    have hkn : k < n := by omega
    have q3 : decide (k < n) = true := decide_eq_true hkn
    clear h hk hs hn hc
    go_enter Tryz.func11, Tryz.ntmps11
    go_wp2_with fail
    go_ret
    exact ⟨rfl, rfl⟩
  · rw [if_neg hk]
    have q1 : decide ((n : Int) > (k : Int)) = false := decide_eq_false (by omega)
    have q2 : decide ((k : Int) < (n : Int)) = false := decide_eq_false (by omega)
    have hkn : ¬ k < n := by omega
    have q3 : decide (k < n) = false := decide_eq_false hkn
    rw [hn]
    clear h hk hn hc
    go_enter Tryz.func11, Tryz.ntmps11
    go_wp2_with fail
    go_ret
    exact ⟨rfl, rfl⟩
theorem cat_run (a b : ByteArray) (h : a.size + b.size ≤ 1000000) (W : World) : (Op.stringOp .add a b).run Tryz.prog W = .ok (.string (a ++ b)) W := run_string_add_sum (P := Tryz.prog) W a b (by omega)
/-- A load behind a guard that lets it run. -/
theorem arm_loadG {T : TypeId} {n : Nat} {d : TypeDesc} (hi : (Tryz.prog.info? T).map (·.size) = some n) (hu : Tryz.prog.underlying T = some d) (hd : rowD d = true)
    {ops : Array Oper} {rest : List Oper} {o : Oper} {a : Act} {w : World} {Q : Exit → Act → World → Prop} (x : Operand) (ho : o.op = .load T x) (hgd : Region.wanted o (yielded ops a.tmps) = true)
    (g : Nat) (T' : TypeId) (cells : Array Value) (hx : a.eval x = .pointer (some ⟨g, 0, none⟩)) (hB : Blk w g T' cells) (hc : cells.size = n)
    (h : wpList Tryz.prog ops Q rest (a.put o.dst (.agg cells)) w) : wpList Tryz.prog ops Q (o :: rest) a w := by
  refine wpList_step fun K hK => ?_
  rw [if_pos hgd]
  exact wp_load_row T x ho g hx T' cells (0, 0) d hB hu (by cases d <;> first | rfl | cases hd) (by rw [hc]; exact hi) (hK _ _ h)
end Go.Proofs.YtkgclmikhpjheaaGreatDoor.pa
namespace Go.Proofs.YtkgclmikhpjheaaGreatDoor.pa
open Go.RowKit dec

def Hd.eqb (a b : Hd) : Bool := decide (a.k = b.k) && decide (a.op = b.op) && decide (a.nm = b.nm) && decide (a.tb = b.tb) && decide (a.vk = b.vk) && decide (a.vn = b.vn) && decide (a.vs = b.vs) && decide (a.un = b.un) && decide (a.pa = b.pa) && decide (a.wk = b.wk) && decide (a.ws = b.ws)
theorem Hd.eq_of {a b : Hd} (h : Hd.eqb a b = true) : a = b := by
  unfold Hd.eqb at h
  simp only [Bool.and_eq_true, decide_eq_true_eq] at h
  obtain ⟨⟨⟨⟨⟨⟨⟨⟨⟨⟨h1, h2⟩, h3⟩, h4⟩, h5⟩, h6⟩, h7⟩, h8⟩, h9⟩, h10⟩, h11⟩ := h
  cases a
  cases b
  simp_all
def Fo.eqb : Fo → Fo → Bool
  | .nil, .nil => true
  | .cons h ar r, .cons h' ar' r' => Hd.eqb h h' && Fo.eqb ar ar' && Fo.eqb r r'
  | _, _ => false
theorem Fo.eq_of : ∀ {a b : Fo}, Fo.eqb a b = true → a = b
  | .nil, .nil, _ => rfl
  | .cons h ar r, .cons h' ar' r', e => by
    simp only [Fo.eqb, Bool.and_eq_true] at e
    rw [Hd.eq_of e.1.1, Fo.eq_of e.1.2, Fo.eq_of e.2]
  | .nil, .cons _ _ _, e => by cases e
  | .cons _ _ _, .nil, e => by cases e
def Ex.eqb (a b : Ex) : Bool := Hd.eqb a.h b.h && Fo.eqb a.ar b.ar
theorem Ex.eq_of {a b : Ex} (h : Ex.eqb a b = true) : a = b := by
  unfold Ex.eqb at h
  rw [Bool.and_eq_true] at h
  obtain ⟨ha, aa⟩ := a
  obtain ⟨hb, ab⟩ := b
  obtain rfl : ha = hb := Hd.eq_of h.1
  obtain rfl : aa = ab := Fo.eq_of h.2
  rfl
def opS : Nat → ByteArray
  | 0 => ⟨#[32, 100, 101, 102, 97, 117, 108, 116, 32]⟩
  | 1 => ⟨#[32, 111, 114, 32]⟩
  | 2 => ⟨#[32, 97, 110, 100, 32]⟩
  | 3 => ⟨#[32, 61, 61, 32]⟩
  | 4 => ⟨#[32, 33, 61, 32]⟩
  | 5 => ⟨#[32, 60, 32]⟩
  | 6 => ⟨#[32, 60, 61, 32]⟩
  | 7 => ⟨#[32, 43, 32]⟩
  | 8 => ⟨#[32, 45, 32]⟩
  | 9 => ⟨#[32, 42, 32]⟩
  | _ => ⟨#[32, 47, 32]⟩
def rkI : Nat → Int
  | 0 => 1
  | 1 => 2
  | 2 => 3
  | 3 => 4
  | 4 => 4
  | 5 => 4
  | 6 => 4
  | 7 => 5
  | 8 => 5
  | 9 => 6
  | _ => 6
def sOne (i j : Nat) : ByteArray := ⟨#[120]⟩ ++ opS i ++ ⟨#[121]⟩ ++ opS j ++ ⟨#[122]⟩
def sLeft (i j : Nat) : ByteArray := ⟨#[40, 120]⟩ ++ opS i ++ ⟨#[121, 41]⟩ ++ opS j ++ ⟨#[122]⟩
def sRight (i j : Nat) : ByteArray := ⟨#[120]⟩ ++ opS i ++ ⟨#[40, 121]⟩ ++ opS j ++ ⟨#[122, 41]⟩
def sTwo (i j : Nat) : ByteArray := if rkI i < rkI j then sRight i j else sLeft i j
def rTop (s : ByteArray) : Ex × Int × Int := topR (α := Ex) ⟨h0, .nil⟩ exR s
def chk (i j : Nat) : Bool :=
  if rkI i = 4 ∧ rkI j = 4 then decide ((rTop (sOne i j)).2.2 = 90) && decide ((rTop (sTwo i j)).2.2 = 0)
  else decide ((rTop (sOne i j)).2.2 = 0) && decide ((rTop (sTwo i j)).2.2 = 0) && Ex.eqb (rTop (sOne i j)).1 (rTop (sTwo i j)).1
set_option maxRecDepth 100000 in
theorem chk_all : ((List.range 11).all fun i => (List.range 11).all fun j => chk i j) = true := by kernel_rfl
theorem chk_at {i j : Nat} (hi : i < 11) (hj : j < 11) : chk i j = true := by
  have h1 := List.all_eq_true.1 chk_all i (List.mem_range.2 hi)
  exact List.all_eq_true.1 h1 j (List.mem_range.2 hj)
theorem ranks_cmp {i j : Nat} (hi : i < 11) (hj : j < 11) (h : rkI i = 4 ∧ rkI j = 4) : (rTop (sOne i j)).2.2 = 90 ∧ (rTop (sTwo i j)).2.2 = 0 := by
  have := chk_at hi hj
  unfold chk at this
  rw [if_pos h, Bool.and_eq_true, decide_eq_true_eq, decide_eq_true_eq] at this
  exact this
theorem ranks_same {i j : Nat} (hi : i < 11) (hj : j < 11) (h : ¬ (rkI i = 4 ∧ rkI j = 4)) : (rTop (sOne i j)).2.2 = 0 ∧ (rTop (sTwo i j)).2.2 = 0 ∧ (rTop (sTwo i j)).1 = (rTop (sOne i j)).1 := by
  have := chk_at hi hj
  unfold chk at this
  rw [if_neg h, Bool.and_eq_true, Bool.and_eq_true, decide_eq_true_eq, decide_eq_true_eq] at this
  exact ⟨this.1.1, this.1.2, (Ex.eq_of this.2).symm⟩
end Go.Proofs.YtkgclmikhpjheaaGreatDoor.pa
namespace Go.Proofs.YtkgclmikhpjheaaGreatDoor.pa
open Go.RowKit dec

def rkA : Array Value := #[.string (opS 0), .string (opS 1), .string (opS 2), .string (opS 3), .string (opS 4), .string (opS 5), .string (opS 6), .string (opS 7), .string (opS 8), .string (opS 9), .string (opS 10)]
def rkB : Array Value := #[.int .i64 1, .int .i64 2, .int .i64 3, .int .i64 4, .int .i64 4, .int .i64 4, .int .i64 4, .int .i64 5, .int .i64 5, .int .i64 6, .int .i64 6]
theorem rkA_at (k : Nat) (hk : k < 11) : rkA[k]? = some (.string (opS k)) := by
  match k, hk with
  | 0, _ => rfl
  | 1, _ => rfl
  | 2, _ => rfl
  | 3, _ => rfl
  | 4, _ => rfl
  | 5, _ => rfl
  | 6, _ => rfl
  | 7, _ => rfl
  | 8, _ => rfl
  | 9, _ => rfl
  | 10, _ => rfl
theorem rkB_at (k : Nat) (hk : k < 11) : rkB[k]? = some (.int .i64 (rkI k)) := by
  match k, hk with
  | 0, _ => rfl
  | 1, _ => rfl
  | 2, _ => rfl
  | 3, _ => rfl
  | 4, _ => rfl
  | 5, _ => rfl
  | 6, _ => rfl
  | 7, _ => rfl
  | 8, _ => rfl
  | 9, _ => rfl
  | 10, _ => rfl
set_option maxRecDepth 100000 in
set_option maxHeartbeats 4000000 in
theorem rank_pos (n : Int) (k : Nat) (hk : k < 11) (h : Int.tmod n 11 = (k : Int)) (w : World) :
    Calls Tryz.prog 25 #[.int .i64 n] w fun e w' => e = .returned (.tuple #[.string (opS k), .int .i64 (rkI k)]) ∧ Below w.heap.size w w' := by
  have HK := Lib.hid hk
  clear hk
  go_enter Tryz.func25, Tryz.ntmps25
  go_wp2_with fail
  have BB := Lib.hid (balloc (balloc (b0 w) (.cells #[.string ⟨#[32, 100, 101, 102, 97, 117, 108, 116, 32]⟩, .string ⟨#[32, 111, 114, 32]⟩, .string ⟨#[32, 97, 110, 100, 32]⟩, .string ⟨#[32, 61, 61, 32]⟩, .string ⟨#[32, 33, 61, 32]⟩, .string ⟨#[32, 60, 32]⟩, .string ⟨#[32, 60, 61, 32]⟩, .string ⟨#[32, 43, 32]⟩, .string ⟨#[32, 45, 32]⟩, .string ⟨#[32, 42, 32]⟩, .string ⟨#[32, 47, 32]⟩] 9)) (.cells #[.int .i64 1, .int .i64 2, .int .i64 3, .int .i64 4, .int .i64 4, .int .i64 4, .int .i64 4, .int .i64 5, .int .i64 5, .int .i64 6, .int .i64 6] 3))
  have c1 : ((w.alloc (.cells #[.string ⟨#[32, 100, 101, 102, 97, 117, 108, 116, 32]⟩, .string ⟨#[32, 111, 114, 32]⟩, .string ⟨#[32, 97, 110, 100, 32]⟩, .string ⟨#[32, 61, 61, 32]⟩, .string ⟨#[32, 33, 61, 32]⟩, .string ⟨#[32, 60, 32]⟩, .string ⟨#[32, 60, 61, 32]⟩, .string ⟨#[32, 43, 32]⟩, .string ⟨#[32, 45, 32]⟩, .string ⟨#[32, 42, 32]⟩, .string ⟨#[32, 47, 32]⟩] 9)).alloc (.cells #[.int .i64 1, .int .i64 2, .int .i64 3, .int .i64 4, .int .i64 4, .int .i64 4, .int .i64 4, .int .i64 5, .int .i64 5, .int .i64 6, .int .i64 6] 3)).cell? ⟨w.heap.size, k, none⟩ = some (.string (opS k)) := by
    rw [((Blk.new w 9 #[.string ⟨#[32, 100, 101, 102, 97, 117, 108, 116, 32]⟩, .string ⟨#[32, 111, 114, 32]⟩, .string ⟨#[32, 97, 110, 100, 32]⟩, .string ⟨#[32, 61, 61, 32]⟩, .string ⟨#[32, 33, 61, 32]⟩, .string ⟨#[32, 60, 32]⟩, .string ⟨#[32, 60, 61, 32]⟩, .string ⟨#[32, 43, 32]⟩, .string ⟨#[32, 45, 32]⟩, .string ⟨#[32, 42, 32]⟩, .string ⟨#[32, 47, 32]⟩]).past (.cells #[.int .i64 1, .int .i64 2, .int .i64 3, .int .i64 4, .int .i64 4, .int .i64 4, .int .i64 4, .int .i64 5, .int .i64 5, .int .i64 6, .int .i64 6] 3)).cell k]
    exact rkA_at k HK.out
  have c2 : ((w.alloc (.cells #[.string ⟨#[32, 100, 101, 102, 97, 117, 108, 116, 32]⟩, .string ⟨#[32, 111, 114, 32]⟩, .string ⟨#[32, 97, 110, 100, 32]⟩, .string ⟨#[32, 61, 61, 32]⟩, .string ⟨#[32, 33, 61, 32]⟩, .string ⟨#[32, 60, 32]⟩, .string ⟨#[32, 60, 61, 32]⟩, .string ⟨#[32, 43, 32]⟩, .string ⟨#[32, 45, 32]⟩, .string ⟨#[32, 42, 32]⟩, .string ⟨#[32, 47, 32]⟩] 9)).alloc (.cells #[.int .i64 1, .int .i64 2, .int .i64 3, .int .i64 4, .int .i64 4, .int .i64 4, .int .i64 4, .int .i64 5, .int .i64 5, .int .i64 6, .int .i64 6] 3)).cell? ⟨w.heap.size + 1, k, none⟩ = some (.int .i64 (rkI k)) := by
    have := (Blk.new (w.alloc (.cells #[.string ⟨#[32, 100, 101, 102, 97, 117, 108, 116, 32]⟩, .string ⟨#[32, 111, 114, 32]⟩, .string ⟨#[32, 97, 110, 100, 32]⟩, .string ⟨#[32, 61, 61, 32]⟩, .string ⟨#[32, 33, 61, 32]⟩, .string ⟨#[32, 60, 32]⟩, .string ⟨#[32, 60, 61, 32]⟩, .string ⟨#[32, 43, 32]⟩, .string ⟨#[32, 45, 32]⟩, .string ⟨#[32, 42, 32]⟩, .string ⟨#[32, 47, 32]⟩] 9)) 3 #[.int .i64 1, .int .i64 2, .int .i64 3, .int .i64 4, .int .i64 4, .int .i64 4, .int .i64 4, .int .i64 5, .int .i64 5, .int .i64 6, .int .i64 6]).cell k
    rw [show (w.alloc (.cells #[.string ⟨#[32, 100, 101, 102, 97, 117, 108, 116, 32]⟩, .string ⟨#[32, 111, 114, 32]⟩, .string ⟨#[32, 97, 110, 100, 32]⟩, .string ⟨#[32, 61, 61, 32]⟩, .string ⟨#[32, 33, 61, 32]⟩, .string ⟨#[32, 60, 32]⟩, .string ⟨#[32, 60, 61, 32]⟩, .string ⟨#[32, 43, 32]⟩, .string ⟨#[32, 45, 32]⟩, .string ⟨#[32, 42, 32]⟩, .string ⟨#[32, 47, 32]⟩] 9)).heap.size = w.heap.size + 1 by simp] at this
    rw [this]
    exact rkB_at k HK.out
  have i1 : (k : Int) < 11 := by have := HK.out; omega
  have i2 : k < 11 := HK.out
  generalize ((w.alloc (.cells #[.string ⟨#[32, 100, 101, 102, 97, 117, 108, 116, 32]⟩, .string ⟨#[32, 111, 114, 32]⟩, .string ⟨#[32, 97, 110, 100, 32]⟩, .string ⟨#[32, 61, 61, 32]⟩, .string ⟨#[32, 33, 61, 32]⟩, .string ⟨#[32, 60, 32]⟩, .string ⟨#[32, 60, 61, 32]⟩, .string ⟨#[32, 43, 32]⟩, .string ⟨#[32, 45, 32]⟩, .string ⟨#[32, 42, 32]⟩, .string ⟨#[32, 47, 32]⟩] 9)).alloc (.cells #[.int .i64 1, .int .i64 2, .int .i64 3, .int .i64 4, .int .i64 4, .int .i64 4, .int .i64 4, .int .i64 5, .int .i64 5, .int .i64 6, .int .i64 6] 3)) = w2 at *
  clear HK
  go_quiet (fail)
  go_wp2_with fail
  go_ret2
  exact ⟨rfl, below_drewN' BB.out _⟩
set_option maxRecDepth 100000 in
set_option maxHeartbeats 4000000 in
theorem rank_neg (n : Int) (k : Nat) (hk : k < 11) (h : Int.tmod n 11 = -(k : Int)) (h0 : 0 < k) (w : World) :
    Calls Tryz.prog 25 #[.int .i64 n] w fun e w' => e = .returned (.tuple #[.string (opS k), .int .i64 (rkI k)]) ∧ Below w.heap.size w w' := by
  have HK := Lib.hid hk
  have q1 : decide (-(k : Int) < 0) = true := decide_eq_true (by omega)
  have q2 : -(k : Int) < 0 := by omega
  have q3 : wrap64 (k : Int) = (k : Int) := by unfold wrap64; omega
  clear hk
  go_enter Tryz.func25, Tryz.ntmps25
  go_wp2_with fail
  have BB := Lib.hid (balloc (balloc (b0 w) (.cells #[.string ⟨#[32, 100, 101, 102, 97, 117, 108, 116, 32]⟩, .string ⟨#[32, 111, 114, 32]⟩, .string ⟨#[32, 97, 110, 100, 32]⟩, .string ⟨#[32, 61, 61, 32]⟩, .string ⟨#[32, 33, 61, 32]⟩, .string ⟨#[32, 60, 32]⟩, .string ⟨#[32, 60, 61, 32]⟩, .string ⟨#[32, 43, 32]⟩, .string ⟨#[32, 45, 32]⟩, .string ⟨#[32, 42, 32]⟩, .string ⟨#[32, 47, 32]⟩] 9)) (.cells #[.int .i64 1, .int .i64 2, .int .i64 3, .int .i64 4, .int .i64 4, .int .i64 4, .int .i64 4, .int .i64 5, .int .i64 5, .int .i64 6, .int .i64 6] 3))
  have c1 : ((w.alloc (.cells #[.string ⟨#[32, 100, 101, 102, 97, 117, 108, 116, 32]⟩, .string ⟨#[32, 111, 114, 32]⟩, .string ⟨#[32, 97, 110, 100, 32]⟩, .string ⟨#[32, 61, 61, 32]⟩, .string ⟨#[32, 33, 61, 32]⟩, .string ⟨#[32, 60, 32]⟩, .string ⟨#[32, 60, 61, 32]⟩, .string ⟨#[32, 43, 32]⟩, .string ⟨#[32, 45, 32]⟩, .string ⟨#[32, 42, 32]⟩, .string ⟨#[32, 47, 32]⟩] 9)).alloc (.cells #[.int .i64 1, .int .i64 2, .int .i64 3, .int .i64 4, .int .i64 4, .int .i64 4, .int .i64 4, .int .i64 5, .int .i64 5, .int .i64 6, .int .i64 6] 3)).cell? ⟨w.heap.size, k, none⟩ = some (.string (opS k)) := by
    rw [((Blk.new w 9 #[.string ⟨#[32, 100, 101, 102, 97, 117, 108, 116, 32]⟩, .string ⟨#[32, 111, 114, 32]⟩, .string ⟨#[32, 97, 110, 100, 32]⟩, .string ⟨#[32, 61, 61, 32]⟩, .string ⟨#[32, 33, 61, 32]⟩, .string ⟨#[32, 60, 32]⟩, .string ⟨#[32, 60, 61, 32]⟩, .string ⟨#[32, 43, 32]⟩, .string ⟨#[32, 45, 32]⟩, .string ⟨#[32, 42, 32]⟩, .string ⟨#[32, 47, 32]⟩]).past (.cells #[.int .i64 1, .int .i64 2, .int .i64 3, .int .i64 4, .int .i64 4, .int .i64 4, .int .i64 4, .int .i64 5, .int .i64 5, .int .i64 6, .int .i64 6] 3)).cell k]
    exact rkA_at k HK.out
  have c2 : ((w.alloc (.cells #[.string ⟨#[32, 100, 101, 102, 97, 117, 108, 116, 32]⟩, .string ⟨#[32, 111, 114, 32]⟩, .string ⟨#[32, 97, 110, 100, 32]⟩, .string ⟨#[32, 61, 61, 32]⟩, .string ⟨#[32, 33, 61, 32]⟩, .string ⟨#[32, 60, 32]⟩, .string ⟨#[32, 60, 61, 32]⟩, .string ⟨#[32, 43, 32]⟩, .string ⟨#[32, 45, 32]⟩, .string ⟨#[32, 42, 32]⟩, .string ⟨#[32, 47, 32]⟩] 9)).alloc (.cells #[.int .i64 1, .int .i64 2, .int .i64 3, .int .i64 4, .int .i64 4, .int .i64 4, .int .i64 4, .int .i64 5, .int .i64 5, .int .i64 6, .int .i64 6] 3)).cell? ⟨w.heap.size + 1, k, none⟩ = some (.int .i64 (rkI k)) := by
    have := (Blk.new (w.alloc (.cells #[.string ⟨#[32, 100, 101, 102, 97, 117, 108, 116, 32]⟩, .string ⟨#[32, 111, 114, 32]⟩, .string ⟨#[32, 97, 110, 100, 32]⟩, .string ⟨#[32, 61, 61, 32]⟩, .string ⟨#[32, 33, 61, 32]⟩, .string ⟨#[32, 60, 32]⟩, .string ⟨#[32, 60, 61, 32]⟩, .string ⟨#[32, 43, 32]⟩, .string ⟨#[32, 45, 32]⟩, .string ⟨#[32, 42, 32]⟩, .string ⟨#[32, 47, 32]⟩] 9)) 3 #[.int .i64 1, .int .i64 2, .int .i64 3, .int .i64 4, .int .i64 4, .int .i64 4, .int .i64 4, .int .i64 5, .int .i64 5, .int .i64 6, .int .i64 6]).cell k
    rw [show (w.alloc (.cells #[.string ⟨#[32, 100, 101, 102, 97, 117, 108, 116, 32]⟩, .string ⟨#[32, 111, 114, 32]⟩, .string ⟨#[32, 97, 110, 100, 32]⟩, .string ⟨#[32, 61, 61, 32]⟩, .string ⟨#[32, 33, 61, 32]⟩, .string ⟨#[32, 60, 32]⟩, .string ⟨#[32, 60, 61, 32]⟩, .string ⟨#[32, 43, 32]⟩, .string ⟨#[32, 45, 32]⟩, .string ⟨#[32, 42, 32]⟩, .string ⟨#[32, 47, 32]⟩] 9)).heap.size = w.heap.size + 1 by simp] at this
    rw [this]
    exact rkB_at k HK.out
  have i1 : (k : Int) < 11 := by have := HK.out; omega
  have i2 : k < 11 := HK.out
  generalize ((w.alloc (.cells #[.string ⟨#[32, 100, 101, 102, 97, 117, 108, 116, 32]⟩, .string ⟨#[32, 111, 114, 32]⟩, .string ⟨#[32, 97, 110, 100, 32]⟩, .string ⟨#[32, 61, 61, 32]⟩, .string ⟨#[32, 33, 61, 32]⟩, .string ⟨#[32, 60, 32]⟩, .string ⟨#[32, 60, 61, 32]⟩, .string ⟨#[32, 43, 32]⟩, .string ⟨#[32, 45, 32]⟩, .string ⟨#[32, 42, 32]⟩, .string ⟨#[32, 47, 32]⟩] 9)).alloc (.cells #[.int .i64 1, .int .i64 2, .int .i64 3, .int .i64 4, .int .i64 4, .int .i64 4, .int .i64 4, .int .i64 5, .int .i64 5, .int .i64 6, .int .i64 6] 3)) = w2 at *
  clear HK
  go_quiet (fail)
  go_wp2_with fail
  go_ret2
  exact ⟨rfl, below_drewN' BB.out _⟩
theorem rank_any (n : Int) : ∃ k : Nat, k < 11 ∧ ∀ w : World, Calls Tryz.prog 25 #[.int .i64 n] w fun e w' => e = .returned (.tuple #[.string (opS k), .int .i64 (rkI k)]) ∧ Below w.heap.size w w' := by
  have h1 : Int.tmod n 11 < 11 := by
    have := Int.tmod_lt_of_pos n (show (0 : Int) < 11 by decide)
    exact this
  have h2 : -11 < Int.tmod n 11 := by
    have := Int.tmod_lt_of_pos (-n) (show (0 : Int) < 11 by decide)
    rw [Int.neg_tmod] at this
    omega
  by_cases h : 0 ≤ Int.tmod n 11
  · exact ⟨(Int.tmod n 11).toNat, by omega, fun w => rank_pos n _ (by omega) (by omega) w⟩
  · exact ⟨(-(Int.tmod n 11)).toNat, by omega, fun w => rank_neg n _ (by omega) (by omega) (by omega) w⟩
end Go.Proofs.YtkgclmikhpjheaaGreatDoor.pa
