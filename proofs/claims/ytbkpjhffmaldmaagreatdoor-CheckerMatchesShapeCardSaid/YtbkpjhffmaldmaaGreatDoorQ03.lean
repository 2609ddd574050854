/-
  Units.
-/
import Derived.WalkKit
import Derived.Lib.Strings
import Derived.Lib.ItoaNum
import Derived.Lib.Join
import Derived.Lib.AtoiAll
import Derived.Below
import Derived.Lib.QuietBelow
import Derived.Laws.AppendOwn
import Derived.Laws.OwnMore
import Derived.OwnWalk
import Derived.Shelf.SlSortCmp.QuietGrown
import Derived.BigQuiet
import Derived.Maps.RangeWalk
import Derived.Sort.EncStr
import Derived.StringKeys
import Derived.Carry
import Derived.Lib.Slices
import Derived.Test.YtbkpjhffmaldmaaGreatDoorQ01
import Derived.Test.YtbkpjhffmaldmaaGreatDoorShelf
import Derived.Test.YtbkpjhffmaldmaaGreatDoorShs
namespace Go.Proofs.YtbkpjhffmaldmaaGreatDoor.un

/-! Words in order. -/
theorem less_irr : ∀ (l : List UInt8), Op.bytesLess l l = false
  | [] => rfl
  | a :: x => by rw [Op.bytesLess, less_irr x]; simp
theorem u8_lt {a b : UInt8} : (a < b) = (a.toNat < b.toNat) := rfl
theorem u8_eq {a b : UInt8} : (a = b) = (a.toNat = b.toNat) := propext ⟨fun h => by rw [h], fun h => UInt8.toNat_inj.1 h⟩
theorem less_cons (a b : UInt8) (x y : List UInt8) : Op.bytesLess (a :: x) (b :: y) = true ↔ a.toNat < b.toNat ∨ (a.toNat = b.toNat ∧ Op.bytesLess x y = true) := by
  rw [Op.bytesLess, Bool.or_eq_true, Bool.and_eq_true, decide_eq_true_eq, beq_iff_eq, u8_lt, u8_eq]
theorem less_tr : ∀ (x y z : List UInt8), Op.bytesLess x y = true → Op.bytesLess y z = true → Op.bytesLess x z = true
  | [], [], z, h, _ => by cases h
  | [], b :: y, [], _, h => by cases h
  | [], b :: y, c :: z, _, _ => rfl
  | a :: x, [], z, h, _ => by cases h
  | a :: x, b :: y, [], _, h => by cases h
  | a :: x, b :: y, c :: z, h1, h2 => by
    rw [less_cons] at *
    rcases h1 with h1 | ⟨h1, h1'⟩ <;> rcases h2 with h2 | ⟨h2, h2'⟩
    · omega
    · omega
    · omega
    · exact .inr ⟨by omega, less_tr x y z h1' h2'⟩
theorem less_tri : ∀ (x y : List UInt8), Op.bytesLess x y = false → x ≠ y → Op.bytesLess y x = true
  | [], [], _, h => absurd rfl h
  | [], b :: y, h, _ => by cases h
  | a :: x, [], _, _ => rfl
  | a :: x, b :: y, h, hne => by
    have h' : ¬ Op.bytesLess (a :: x) (b :: y) = true := by rw [h]; decide
    rw [less_cons] at h' ⊢
    by_cases e : a.toNat = b.toNat
    · refine .inr ⟨e.symm, less_tri x y ?_ ?_⟩
      · cases hx : Op.bytesLess x y
        · rfl
        · exact absurd (.inr ⟨e, hx⟩) h'
      · intro hxy
        apply hne
        rw [hxy, UInt8.toNat_inj.1 e]
    · exact .inl (by omega)
theorem toList_inj {a b : ByteArray} (h : a.toList = b.toList) : a = b := by
  rw [ByteArray.toList_eq, ByteArray.toList_eq] at h
  cases a; cases b
  simp only at h
  rw [Array.toList_inj.1 h]
def ltS (a b : ByteArray) : Bool := Op.bytesLess a.toList b.toList
theorem ltS_irr (a : ByteArray) : ltS a a = false := less_irr _
theorem ltS_tr {a b c : ByteArray} (h1 : ltS a b = true) (h2 : ltS b c = true) : ltS a c = true := less_tr _ _ _ h1 h2
theorem ltS_tri {a b : ByteArray} (h1 : ltS a b = false) (h2 : a ≠ b) : ltS b a = true := less_tri _ _ h1 fun e => h2 (toList_inj e)
theorem ltS_as {a b : ByteArray} (h : ltS a b = true) : ltS b a = false := by
  cases h' : ltS b a
  · rfl
  · have := ltS_tr h h'
    rw [ltS_irr] at this; cases this
theorem ltS_ne {a b : ByteArray} (h : ltS a b = true) : a ≠ b := fun e => by rw [e, ltS_irr] at h; cases h
theorem ltS_empty (b : ByteArray) : ltS .empty b = decide (b.size ≠ 0) := by
  have e : b.size = b.toList.length := by rw [ByteArray.toList_eq]; rfl
  unfold ltS
  rw [e]
  have e0 : ByteArray.empty.toList = [] := by rw [ByteArray.toList_eq]; rfl
  rw [e0]
  cases b.toList <;> rfl

/-! Units. -/
abbrev Fa := ByteArray × Int
def lett (c : Int) : Bool := decide (97 ≤ c ∧ c ≤ 122)
def digi (c : Int) : Bool := decide (48 ≤ c ∧ c ≤ 57)
def wch (c : UInt8) : Bool := lett c.toNat || (digi c.toNat || c.toNat == 95)
def wordL (l : List UInt8) : Bool := decide (1 ≤ l.length ∧ l.length ≤ 24) && (lett (l.headD 0).toNat && l.all wch)
def word (s : ByteArray) : Bool := wordL s.data.toList
def far (n : Int) : Bool := decide (8 < n ∨ n < -8)
def ck1 (b : ByteArray) (x : Fa) : Int := if word x.1 = false then 1 else if x.2 = 0 ∨ far x.2 = true then 70 else if ltS b x.1 = true then 0 else 3
def ckFrom (b : ByteArray) : List Fa → Int
  | [] => 0
  | x :: l => if ck1 b x = 0 then ckFrom x.1 l else ck1 b x
def ck (l : List Fa) : Int := if 4 < l.length then 2 else ckFrom .empty l

def Srt (l : List Fa) : Prop := l.Pairwise fun x y => ltS x.1 y.1 = true
structure Ok (l : List Fa) : Prop where
  le : l.length ≤ 4
  good : ∀ x ∈ l, word x.1 = true ∧ x.2 ≠ 0 ∧ far x.2 = false
  srt : Srt l
theorem word_size {s : ByteArray} (h : word s = true) : 1 ≤ s.size ∧ s.size ≤ 24 := by
  unfold word wordL at h
  simp only [Bool.and_eq_true, decide_eq_true_eq] at h
  rw [Lib.size_eq]
  exact h.1
theorem ck1_zero {b : ByteArray} {x : Fa} (h : ck1 b x = 0) : word x.1 = true ∧ x.2 ≠ 0 ∧ far x.2 = false ∧ ltS b x.1 = true := by
  unfold ck1 at h
  split at h
  · cases h
  · split at h
    · cases h
    · split at h
      · refine ⟨by simp_all, by simp_all, by simp_all, by assumption⟩
      · cases h
theorem ck1_of {b : ByteArray} {x : Fa} (h1 : word x.1 = true) (h2 : x.2 ≠ 0) (h3 : far x.2 = false) (h4 : ltS b x.1 = true) : ck1 b x = 0 := by
  unfold ck1
  rw [h1, h3, h4]
  simp [h2]
theorem ckFrom_ok : ∀ (l : List Fa) (b : ByteArray), ckFrom b l = 0 → (∀ x ∈ l, word x.1 = true ∧ x.2 ≠ 0 ∧ far x.2 = false) ∧ Srt l ∧ ∀ x ∈ l, ltS b x.1 = true
  | [], _, _ => ⟨fun x h => (by cases h), .nil, fun x h => by cases h⟩
  | x :: l, b, h => by
    unfold ckFrom at h
    split at h
    · rename_i h0
      obtain ⟨a1, a2, a3, a4⟩ := ck1_zero h0
      obtain ⟨i1, i2, i3⟩ := ckFrom_ok l x.1 h
      refine ⟨fun y hy => ?_, List.pairwise_cons.2 ⟨fun y hy => i3 y hy, i2⟩, fun y hy => ?_⟩
      · rcases List.mem_cons.1 hy with rfl | hy
        · exact ⟨a1, a2, a3⟩
        · exact i1 y hy
      · rcases List.mem_cons.1 hy with rfl | hy
        · exact a4
        · exact ltS_tr a4 (i3 y hy)
    · rename_i h0
      exact absurd h h0
theorem ckFrom_of : ∀ (l : List Fa) (b : ByteArray), (∀ x ∈ l, word x.1 = true ∧ x.2 ≠ 0 ∧ far x.2 = false) → Srt l → (∀ x ∈ l, ltS b x.1 = true) → ckFrom b l = 0
  | [], _, _, _, _ => rfl
  | x :: l, b, h1, h2, h3 => by
    obtain ⟨g1, g2, g3⟩ := h1 x (List.mem_cons_self ..)
    obtain ⟨p1, p2⟩ := List.pairwise_cons.1 h2
    unfold ckFrom
    rw [if_pos (ck1_of g1 g2 g3 (h3 x (List.mem_cons_self ..)))]
    exact ckFrom_of l x.1 (fun y hy => h1 y (List.mem_cons_of_mem _ hy)) p2 p1
theorem ck_iff (l : List Fa) : ck l = 0 ↔ Ok l := by
  unfold ck
  constructor
  · intro h
    split at h
    · cases h
    · obtain ⟨a, b, _⟩ := ckFrom_ok l _ h
      exact ⟨by omega, a, b⟩
  · intro h
    rw [if_neg (by have := h.le; omega)]
    refine ckFrom_of l _ h.good h.srt fun x hx => ?_
    rw [ltS_empty]
    have := word_size (h.good x hx).1
    exact decide_eq_true (by omega)
theorem Ok.nil : Ok [] := ⟨by simp, fun x h => (by cases h), .nil⟩

/-! The sum of the exponents of a name; the names in order. -/
def ex : List Fa → ByteArray → Int
  | [], _ => 0
  | x :: l, n => (if x.1 = n then x.2 else 0) + ex l n
theorem ex_append : ∀ (l r : List Fa) (n : ByteArray), ex (l ++ r) n = ex l n + ex r n
  | [], r, n => by simp [ex]
  | x :: l, r, n => by simp only [List.cons_append, ex, ex_append l r n]; omega
theorem ex_none : ∀ (l : List Fa) (n : ByteArray), (∀ x ∈ l, x.1 ≠ n) → ex l n = 0
  | [], _, _ => rfl
  | x :: l, n, h => by
    simp only [ex]
    rw [if_neg (h x (List.mem_cons_self ..)), ex_none l n fun y hy => h y (List.mem_cons_of_mem _ hy)]
    rfl
theorem ex_mem {l : List Fa} {n : ByteArray} (h : ex l n ≠ 0) : ∃ x ∈ l, x.1 = n := by
  by_cases hx : ∃ x ∈ l, x.1 = n
  · exact hx
  · exact absurd (ex_none l n fun x hm e => hx ⟨x, hm, e⟩) h
theorem ex_srt : ∀ {l : List Fa}, Srt l → ∀ x ∈ l, ex l x.1 = x.2
  | [], _, x, h => by cases h
  | y :: l, hs, x, h => by
    obtain ⟨p1, p2⟩ := List.pairwise_cons.1 hs
    simp only [ex]
    rcases List.mem_cons.1 h with rfl | h
    · rw [if_pos rfl, ex_none l x.1 fun z hz e => ltS_ne (p1 z hz) e.symm]
      omega
    · rw [if_neg (ltS_ne (p1 x h)), ex_srt p2 x h]
      omega
def ins (x : ByteArray) : List ByteArray → List ByteArray
  | [] => [x]
  | y :: l => if ltS y x = true then y :: ins x l else if y = x then y :: l else x :: y :: l
def ns (l : List Fa) : List ByteArray := l.foldl (fun o x => ins x.1 o) []
theorem mem_ins (x z : ByteArray) : ∀ l : List ByteArray, z ∈ ins x l ↔ z = x ∨ z ∈ l
  | [] => by simp [ins]
  | y :: l => by
    unfold ins
    split
    · rw [List.mem_cons, mem_ins x z l, List.mem_cons]
      constructor <;> rintro (h | h | h) <;> simp_all
    · split
      · rename_i h
        subst h
        simp
      · simp
def Inc (l : List ByteArray) : Prop := l.Pairwise fun a b => ltS a b = true
theorem inc_ins (x : ByteArray) : ∀ l : List ByteArray, Inc l → Inc (ins x l)
  | [], _ => by simp [ins, Inc]
  | y :: l, h => by
    obtain ⟨p1, p2⟩ := List.pairwise_cons.1 h
    unfold ins
    split
    · rename_i hy
      refine List.pairwise_cons.2 ⟨fun z hz => ?_, inc_ins x l p2⟩
      rcases (mem_ins x z l).1 hz with rfl | hz
      · exact hy
      · exact p1 z hz
    · rename_i hy
      split
      · exact h
      · rename_i hne
        have hxy : ltS x y = true := ltS_tri (by simpa using hy) hne
        refine List.pairwise_cons.2 ⟨fun z hz => ?_, h⟩
        rcases List.mem_cons.1 hz with rfl | hz
        · exact hxy
        · exact ltS_tr hxy (p1 z hz)
theorem ns_snoc (l : List Fa) (x : Fa) : ns (l ++ [x]) = ins x.1 (ns l) := by unfold ns; rw [List.foldl_append]; rfl
theorem mem_ns_go (z : ByteArray) : ∀ (l : List Fa) (o : List ByteArray), z ∈ l.foldl (fun o x => ins x.1 o) o ↔ z ∈ o ∨ ∃ x ∈ l, x.1 = z
  | [], _ => by simp
  | x :: l, o => by
    rw [List.foldl_cons, mem_ns_go z l, mem_ins]
    constructor
    · rintro ((h | h) | ⟨y, h1, h2⟩)
      · exact .inr ⟨x, List.mem_cons_self .., h.symm⟩
      · exact .inl h
      · exact .inr ⟨y, List.mem_cons_of_mem _ h1, h2⟩
    · rintro (h | ⟨y, h1, h2⟩)
      · exact .inl (.inr h)
      · rcases List.mem_cons.1 h1 with rfl | h1
        · exact .inl (.inl h2.symm)
        · exact .inr ⟨y, h1, h2⟩
theorem mem_ns {z : ByteArray} {l : List Fa} : z ∈ ns l ↔ ∃ x ∈ l, x.1 = z := by
  unfold ns
  rw [mem_ns_go]
  simp
theorem inc_ns_go : ∀ (l : List Fa) (o : List ByteArray), Inc o → Inc (l.foldl (fun o x => ins x.1 o) o)
  | [], _, h => h
  | x :: l, o, h => inc_ns_go l _ (inc_ins x.1 o h)
theorem inc_ns (l : List Fa) : Inc (ns l) := inc_ns_go l [] .nil

/-! Products. -/
def nzOf (l : List Fa) (o : List ByteArray) : List Fa := (o.filter fun n => decide (ex l n ≠ 0)).map fun n => (n, ex l n)
def nz (l : List Fa) : List Fa := nzOf l (ns l)
theorem mem_nz {l : List Fa} {x : Fa} : x ∈ nz l ↔ x.2 = ex l x.1 ∧ x.2 ≠ 0 := by
  unfold nz nzOf
  simp only [List.mem_map, List.mem_filter, decide_eq_true_eq]
  constructor
  · rintro ⟨n, ⟨_, h⟩, rfl⟩
    exact ⟨rfl, h⟩
  · rintro ⟨h1, h2⟩
    exact ⟨x.1, ⟨mem_ns.2 (ex_mem (h1 ▸ h2)), h1 ▸ h2⟩, by rw [← h1]⟩
theorem srt_nz (l : List Fa) : Srt (nz l) := by
  unfold nz nzOf Srt
  rw [List.pairwise_map]
  exact ((inc_ns l).sublist List.filter_sublist).imp fun h => h
theorem srt_ext : ∀ {l r : List Fa}, Srt l → Srt r → (∀ x, x ∈ l ↔ x ∈ r) → l = r
  | [], [], _, _, _ => rfl
  | [], y :: r, _, _, h => absurd ((h y).2 (List.mem_cons_self ..)) (by simp)
  | x :: l, [], _, _, h => absurd ((h x).1 (List.mem_cons_self ..)) (by simp)
  | x :: l, y :: r, hl, hr, h => by
    obtain ⟨p1, p2⟩ := List.pairwise_cons.1 hl
    obtain ⟨q1, q2⟩ := List.pairwise_cons.1 hr
    have exy : x = y := by
      rcases List.mem_cons.1 ((h x).1 (List.mem_cons_self ..)) with e | hx
      · exact e
      · rcases List.mem_cons.1 ((h y).2 (List.mem_cons_self ..)) with e | hy
        · exact e.symm
        · have a1 := q1 x hx
          have a2 := p1 y hy
          rw [ltS_as a1] at a2
          cases a2
    subst exy
    congr 1
    refine srt_ext p2 q2 fun z => ?_
    constructor
    · intro hz
      rcases List.mem_cons.1 ((h z).1 (List.mem_cons_of_mem _ hz)) with rfl | h'
      · have := p1 z hz; rw [ltS_irr] at this; cases this
      · exact h'
    · intro hz
      rcases List.mem_cons.1 ((h z).2 (List.mem_cons_of_mem _ hz)) with rfl | h'
      · have := q1 z hz; rw [ltS_irr] at this; cases this
      · exact h'
def wds (l : List Fa) : Bool := l.all fun x => word x.1
def anyFar (l : List Fa) : Bool := (ns l).any fun n => far (ex l n)
def nE (l : List Fa) : Int := if wds l = true then (if anyFar l = true then 70 else if 4 < (nz l).length then 2 else 0) else 1
def nL (l : List Fa) : List Fa := if nE l = 0 then nz l else []
theorem anyFar_iff (l : List Fa) : anyFar l = true ↔ ∃ n, far (ex l n) = true := by
  unfold anyFar
  rw [List.any_eq_true]
  constructor
  · rintro ⟨n, _, h⟩; exact ⟨n, h⟩
  · rintro ⟨n, h⟩
    refine ⟨n, mem_ns.2 (ex_mem fun e => ?_), h⟩
    rw [e] at h
    cases h
theorem n_congr {l r : List Fa} (h1 : wds l = true) (h2 : wds r = true) (h : ∀ n, ex l n = ex r n) : nE l = nE r ∧ nL l = nL r := by
  have e1 : anyFar l = anyFar r := by
    rw [Bool.eq_iff_iff, anyFar_iff, anyFar_iff]
    simp only [h]
  have e2 : nz l = nz r := srt_ext (srt_nz l) (srt_nz r) fun x => by rw [mem_nz, mem_nz, h]
  have e3 : nE l = nE r := by unfold nE; rw [h1, h2, e1, e2]
  exact ⟨e3, by unfold nL; rw [e3, e2]⟩
theorem nE_zero {l : List Fa} (h : nE l = 0) : wds l = true ∧ anyFar l = false ∧ (nz l).length ≤ 4 := by
  unfold nE at h
  split at h
  · split at h
    · cases h
    · split at h
      · cases h
      · refine ⟨by assumption, by simp_all, by omega⟩
  · cases h
theorem wds_iff {l : List Fa} : wds l = true ↔ ∀ x ∈ l, word x.1 = true := by unfold wds; rw [List.all_eq_true]
theorem nL_ok {l : List Fa} (h : nE l = 0) : Ok (nL l) ∧ ∀ n, ex (nL l) n = ex l n := by
  obtain ⟨h1, h2, h3⟩ := nE_zero h
  have e : nL l = nz l := by unfold nL; rw [if_pos h]
  rw [e]
  refine ⟨⟨h3, fun x hx => ?_, srt_nz l⟩, fun n => ?_⟩
  · obtain ⟨a, b⟩ := mem_nz.1 hx
    refine ⟨?_, b, ?_⟩
    · obtain ⟨y, hy, e⟩ := ex_mem (a ▸ b)
      rw [← e]
      exact wds_iff.1 h1 y hy
    · cases hf : far x.2
      · rfl
      · rw [a] at hf
        rw [(anyFar_iff l).2 ⟨_, hf⟩] at h2
        cases h2
  · by_cases h0 : ex l n = 0
    · rw [h0]
      exact ex_none _ _ fun x hx e => by
        obtain ⟨a, b⟩ := mem_nz.1 hx
        rw [e] at a
        exact b (a.trans h0)
    · exact ex_srt (srt_nz l) (n, ex l n) (mem_nz.2 ⟨rfl, h0⟩)
theorem Ok.wds {l : List Fa} (h : Ok l) : wds l = true := wds_iff.2 fun x hx => (h.good x hx).1
theorem n_ok {l : List Fa} (h : Ok l) : nE l = 0 ∧ nL l = l := by
  have e : nz l = l := srt_ext (srt_nz l) h.srt fun x => by
    rw [mem_nz]
    constructor
    · rintro ⟨a, b⟩
      obtain ⟨y, hy, e⟩ := ex_mem (a ▸ b)
      have := ex_srt h.srt y hy
      rw [e, ← a] at this
      have : y = x := Prod.ext e this.symm
      exact this ▸ hy
    · intro hx
      exact ⟨(ex_srt h.srt x hx).symm, (h.good x hx).2.1⟩
  have e2 : anyFar l = false := by
    cases hf : anyFar l
    · rfl
    · obtain ⟨n, hn⟩ := (anyFar_iff l).1 hf
      obtain ⟨x, hx, e3⟩ := ex_mem (l := l) (n := n) fun e => by rw [e] at hn; cases hn
      rw [← e3, ex_srt h.srt x hx, (h.good x hx).2.2] at hn
      cases hn
  have e4 : nE l = 0 := by
    unfold nE
    rw [h.wds, e2, e]
    have := h.le
    simp; omega
  exact ⟨e4, by unfold nL; rw [if_pos e4, e]⟩
/-- b with all exponents times p. -/
def sc (p : Int) (b : List Fa) : List Fa := b.map fun x => (x.1, x.2 * p)
theorem ex_sc (p : Int) : ∀ (l : List Fa) (n : ByteArray), ex (sc p l) n = ex l n * p
  | [], _ => by simp [sc, ex]
  | x :: l, n => by
    have := ex_sc p l n
    simp only [sc, List.map_cons, ex] at *
    rw [this, Int.add_mul]
    split <;> simp
theorem sc_one (l : List Fa) : sc 1 l = l := by unfold sc; simp
theorem wds_sc (p : Int) (l : List Fa) : wds (sc p l) = wds l := by unfold wds sc; rw [List.all_map]; rfl
theorem wds_append (l r : List Fa) : wds (l ++ r) = (wds l && wds r) := by unfold wds; rw [List.all_append]
theorem far_neg (n : Int) : far (n * -1) = far n := by unfold far; congr 1; rw [eq_iff_iff]; omega
theorem Ok.neg {l : List Fa} (h : Ok l) : Ok (sc (-1) l) := by
  refine ⟨by simpa [sc] using h.le, fun x hx => ?_, ?_⟩
  · simp only [sc, List.mem_map] at hx
    obtain ⟨y, hy, rfl⟩ := hx
    obtain ⟨a, b, c⟩ := h.good y hy
    exact ⟨a, by simp; exact b, by rw [far_neg]; exact c⟩
  · unfold sc Srt
    rw [List.pairwise_map]
    exact h.srt
/-- What Times (p = 1) and Over (p = -1) return. -/
def cE (p : Int) (a b : List Fa) : Int := if ck a = 0 then (if ck b = 0 then nE (a ++ sc p b) else ck b) else ck a
def cL (p : Int) (a b : List Fa) : List Fa := if cE p a b = 0 then nL (a ++ sc p b) else []
theorem cE_ok {p : Int} {a b : List Fa} (ha : Ok a) (hb : Ok b) : cE p a b = nE (a ++ sc p b) := by unfold cE; rw [if_pos ((ck_iff a).2 ha), if_pos ((ck_iff b).2 hb)]
theorem cE_zero {p : Int} {a b : List Fa} (h : cE p a b = 0) : Ok a ∧ Ok b ∧ nE (a ++ sc p b) = 0 := by
  unfold cE at h
  split at h
  · rename_i h1
    split at h
    · rename_i h2
      exact ⟨(ck_iff a).1 h1, (ck_iff b).1 h2, h⟩
    · rename_i h2; exact absurd h h2
  · rename_i h1; exact absurd h h1
theorem c_out {p : Int} {a b : List Fa} (h : cE p a b = 0) : Ok (cL p a b) ∧ ∀ n, ex (cL p a b) n = ex a n + ex b n * p := by
  obtain ⟨_, _, h1⟩ := cE_zero h
  have e : cL p a b = nL (a ++ sc p b) := by unfold cL; rw [if_pos h]
  rw [e]
  obtain ⟨k1, k2⟩ := nL_ok h1
  exact ⟨k1, fun n => by rw [k2, ex_append, ex_sc]⟩
/-- Whatever has the exponents of a valid unit comes to that unit. -/
theorem c_is {p : Int} {a b u : List Fa} (ha : Ok a) (hb : Ok b) (hu : Ok u) (h : ∀ n, ex a n + ex b n * p = ex u n) : cE p a b = 0 ∧ cL p a b = u := by
  have hw : wds (a ++ sc p b) = true := by rw [wds_append, wds_sc, ha.wds, hb.wds]; rfl
  obtain ⟨c1, c2⟩ := n_congr hw hu.wds fun n => by rw [ex_append, ex_sc]; exact h n
  obtain ⟨k1, k2⟩ := n_ok hu
  have e : cE p a b = 0 := by rw [cE_ok ha hb, c1, k1]
  exact ⟨e, by unfold cL; rw [if_pos e, c2, k2]⟩
theorem c_comm {a b : List Fa} (ha : Ok a) (hb : Ok b) : cE 1 a b = cE 1 b a ∧ cL 1 a b = cL 1 b a := by
  have hw : wds (a ++ sc 1 b) = true := by rw [wds_append, wds_sc, ha.wds, hb.wds]; rfl
  have hw2 : wds (b ++ sc 1 a) = true := by rw [wds_append, wds_sc, ha.wds, hb.wds]; rfl
  obtain ⟨c1, c2⟩ := n_congr hw hw2 fun n => by rw [ex_append, ex_sc, ex_append, ex_sc]; omega
  have e : cE 1 a b = cE 1 b a := by rw [cE_ok ha hb, cE_ok hb ha, c1]
  exact ⟨e, by unfold cL; rw [e, c2]⟩
theorem c_nil {a : List Fa} (ha : Ok a) : cE 1 a [] = 0 ∧ cL 1 a [] = a := c_is ha Ok.nil ha fun n => by simp [ex]
theorem c_back {a b : List Fa} (h : cE 1 a b = 0) : cE (-1) (cL 1 a b) b = 0 ∧ cL (-1) (cL 1 a b) b = a := by
  obtain ⟨ha, hb, _⟩ := cE_zero h
  obtain ⟨k1, k2⟩ := c_out h
  exact c_is k1 hb ha fun n => by rw [k2]; omega
theorem c_back2 {a b : List Fa} (h : cE (-1) a b = 0) : cE 1 (cL (-1) a b) b = 0 ∧ cL 1 (cL (-1) a b) b = a := by
  obtain ⟨ha, hb, _⟩ := cE_zero h
  obtain ⟨k1, k2⟩ := c_out h
  exact c_is k1 hb ha fun n => by rw [k2]; omega
theorem c_assoc {a b c : List Fa} (h : cE 1 a b = 0) (g : cE 1 b c = 0) : cE 1 (cL 1 a b) c = cE 1 a (cL 1 b c) ∧ cL 1 (cL 1 a b) c = cL 1 a (cL 1 b c) := by
  obtain ⟨ha, hb, _⟩ := cE_zero h
  obtain ⟨_, hc, _⟩ := cE_zero g
  obtain ⟨k1, k2⟩ := c_out h
  obtain ⟨m1, m2⟩ := c_out g
  have hw : wds (cL 1 a b ++ sc 1 c) = true := by rw [wds_append, wds_sc, k1.wds, hc.wds]; rfl
  have hw2 : wds (a ++ sc 1 (cL 1 b c)) = true := by rw [wds_append, wds_sc, ha.wds, m1.wds]; rfl
  obtain ⟨c1, c2⟩ := n_congr hw hw2 fun n => by rw [ex_append, ex_sc, ex_append, ex_sc, k2, m2]; omega
  have e : cE 1 (cL 1 a b) c = cE 1 a (cL 1 b c) := by rw [cE_ok k1 hc, cE_ok ha m1, c1]
  exact ⟨e, by unfold cL at c2 ⊢; unfold cL at e; rw [e, c2]⟩
end Go.Proofs.YtbkpjhffmaldmaaGreatDoor.un
namespace Go.Proofs.YtbkpjhffmaldmaaGreatDoor.un
open Go.RowKit dec

/-- The block b is the factor x. -/
structure Bw (w : World) (b : Nat) (x : Fa) : Prop where
  c0 : w.cell? ⟨b, 0, none⟩ = some (.string x.1)
  c1 : w.cell? ⟨b, 1, none⟩ = some (.int .i64 x.2)
theorem Bw.lt {w : World} {b : Nat} {x : Fa} (h : Bw w b x) : b < w.heap.size := block_lt_of_cell h.c0
theorem Bw.new (w : World) (x : Fa) (T : TypeId) : Bw (w.alloc (.cells #[.string x.1, .int .i64 x.2] T)) w.heap.size x := ⟨by simp [go_sem], by simp [go_sem]⟩
theorem Bw.keeps' {w w1 : World} {B b : Nat} {x : Fa} (h : Bw w b x) (hb : Below B w w1) (hl : b < B) : Bw w1 b x :=
  ⟨(hb.cell hl).trans h.c0, (hb.cell hl).trans h.c1⟩
theorem Bw.keeps {w w1 : World} {b : Nat} {x : Fa} (h : Bw w b x) (hb : Below w.heap.size w w1) : Bw w1 b x := h.keeps' hb h.lt
theorem Bw.past {w : World} {b : Nat} {x : Fa} (h : Bw w b x) (o : Obj) : Bw (w.alloc o) b x := h.keeps (balloc (b0 w) o)
theorem below_of {w w' : World} (h : ∃ p : Regrown, w' = Sort.grow (redrawn w p.d) p.os) : Below w.heap.size w w' := by
  obtain ⟨p, rfl⟩ := h
  exact below_regrown w p.d p.os
theorem all_grown {f : FuncId} {args : Array Value} {v : Value} (h : ∀ W, Calls Tryz.prog f args W fun e w' => e = .returned v ∧ Below W.heap.size W w') (w : World) :
    ∀ d os, Calls Tryz.prog f args (Sort.grow (redrawn w d) os) fun e w'' => e = .returned v ∧ ∃ p : Regrown, w'' = Sort.grow (redrawn w p.d) p.os := fun _ _ => Calls.regrown_of (h _)
theorem ret_bool {a b : Bool} (h : a = b) : Ending.returned (Value.bool a) = .returned (.bool b) := by rw [h]
theorem ret_int {k : IntKind} {a b : Int} (h : a = b) : Ending.returned (.int k a) = .returned (.int k b) := by rw [h]

def cs : List Fa → List Value
  | [] => []
  | x :: l => .string x.1 :: .int .i64 x.2 :: cs l
theorem cs_length : ∀ l : List Fa, (cs l).length = l.length * 2
  | [] => rfl
  | x :: l => by simp only [cs, List.length_cons, cs_length l]; omega
theorem cs_append : ∀ l r : List Fa, cs (l ++ r) = cs l ++ cs r
  | [], _ => rfl
  | x :: l, r => by simp only [cs, List.cons_append, cs_append l r]
theorem cs_one : ∀ l : List Fa, ∀ u ∈ cs l, u.oneCell' = true
  | [], u, h => by simp [cs] at h
  | x :: l, u, h => by
    simp only [cs, List.mem_cons] at h
    rcases h with rfl | rfl | h
    · rfl
    · rfl
    · exact cs_one l u h
def gt (l : List Fa) (j : Nat) : Fa := l.getD j (.empty, 0)
theorem gt_mem {l : List Fa} {j : Nat} (h : j < l.length) : gt l j ∈ l := by
  unfold gt
  rw [List.getD_eq_getElem?_getD, List.getElem?_eq_getElem h]
  exact List.getElem_mem h
theorem gt_eq {l : List Fa} {j : Nat} (h : j < l.length) : gt l j = l[j] := by
  unfold gt
  rw [List.getD_eq_getElem?_getD, List.getElem?_eq_getElem h]
  rfl
theorem cs_at : ∀ (l : List Fa) (j : Nat), j < l.length → (cs l)[j * 2]? = some (.string (gt l j).1) ∧ (cs l)[j * 2 + 1]? = some (.int .i64 (gt l j).2)
  | [], j, h => by simp at h
  | x :: l, 0, _ => ⟨rfl, rfl⟩
  | x :: l, j + 1, h => by
    have := cs_at l j (by simpa using h)
    rw [show (j + 1) * 2 = j * 2 + 1 + 1 by omega]
    simp only [cs, List.getElem?_cons_succ]
    exact this
theorem drop_gt {l : List Fa} {j : Nat} (h : j < l.length) : l.drop j = gt l j :: l.drop (j + 1) := by
  rw [gt_eq h]
  exact List.drop_eq_getElem_cons h
theorem take_gt {l : List Fa} {j : Nat} (h : j < l.length) : l.take (j + 1) = l.take j ++ [gt l j] := by
  rw [gt_eq h, List.take_add_one, List.getElem?_eq_getElem h]
  rfl

/-- The cells behind an address hold l. -/
def Cl (w : World) (b off : Nat) (l : List Fa) : Prop := ∀ j, j < l.length → w.cell? ⟨b, off + j * 2, none⟩ = some (.string (gt l j).1) ∧ w.cell? ⟨b, off + j * 2 + 1, none⟩ = some (.int .i64 (gt l j).2)
theorem Cl.keeps {w w1 : World} {b off : Nat} {l : List Fa} (h : Cl w b off l) (hb : Below w.heap.size w w1) : Cl w1 b off l := fun j hj => ⟨dec.keeps hb (h j hj).1, dec.keeps hb (h j hj).2⟩
/-- A slice at the address a holds l. -/
def At (w : World) (a : Option Addr) (l : List Fa) : Prop := l.length = 0 ∨ ∃ b off, a = some ⟨b, off, none⟩ ∧ Cl w b off l
theorem At.keeps {w w1 : World} {a : Option Addr} {l : List Fa} (h : At w a l) (hb : Below w.heap.size w w1) : At w1 a l := h.imp id fun ⟨b, off, e, hB⟩ => ⟨b, off, e, hB.keeps hb⟩
theorem At.nil (w : World) (a : Option Addr) : At w a [] := .inl rfl
/-- What is told of a slice that is read. -/
structure Sl (w : World) (a : Option Addr) (n cap : Nat) (l : List Fa) : Prop where
  hat : At w a l
  hn : l.length = n
  hcap : n ≤ cap
  hmax : cap ≤ 9223372036854775807
  hno : a = none → cap = 0
theorem Sl.keeps {w w1 : World} {a : Option Addr} {n cap : Nat} {l : List Fa} (h : Sl w a n cap l) (hb : Below w.heap.size w w1) : Sl w1 a n cap l := { h with hat := h.hat.keeps hb }
theorem Sl.nil (w : World) : Sl w none 0 0 [] := ⟨.inl rfl, rfl, by omega, by omega, fun _ => rfl⟩
theorem Cl.cut {w : World} {b off : Nat} {l : List Fa} (h : Cl w b off l) (k m : Nat) : Cl w b (off + k * 2) ((l.drop k).take m) := by
  intro j hj
  have hlen : ((l.drop k).take m).length = min m (l.length - k) := by simp
  have := h (k + j) (by omega)
  have e : gt ((l.drop k).take m) j = gt l (k + j) := by
    rw [gt_eq hj, gt_eq (by omega)]
    simp
  rw [e, show off + k * 2 + j * 2 = off + (k + j) * 2 by omega]
  exact this
theorem Cl.take {w : World} {b off : Nat} {l : List Fa} (h : Cl w b off l) (m : Nat) : Cl w b off (l.take m) := by
  have := h.cut 0 m
  simpa using this

theorem infoF : (Tryz.prog.info? 66).map (fun i => (i.zero, i.size, i.bytes)) = some (some (.agg #[.string .empty, .int .i64 0]), 2, 24) := by kernel_rfl

/-- The value v is a slice of the call's own that holds l. -/
def Own (w : World) (base : Nat) (v : Value) (l : List Fa) : Prop := w.ownsRow base 66 2 v l.length (cs l)
theorem Own.nil (w : World) (base : Nat) : Own w base (.slice none 0 0) [] := World.ownsRow_nil _ _ _ _
theorem Own.less {w : World} {base base' : Nat} {v : Value} {l : List Fa} (h : Own w base v l) (hb : base' ≤ base) : Own w base' v l := by
  refine ⟨h.1, h.2.imp id fun ⟨g, cap, cur, e, hbg, r⟩ => ⟨g, cap, cur, e, by omega, r⟩⟩
theorem Own.out {w : World} {base : Nat} {v : Value} {l : List Fa} (h : Own w base v l) : (v = .slice none 0 0 ∧ l = []) ∨ ∃ g cap, v = .slice (some ⟨g, 0, none⟩) l.length cap ∧ base ≤ g ∧ g < w.heap.size ∧ l.length ≤ cap ∧ cap ≤ 9223372036854775807 ∧ Cl w g 0 l ∧ ∀ j, j < l.length → w.frozen? ⟨g, j * 2, none⟩ = false ∧ w.frozen? ⟨g, j * 2 + 1, none⟩ = false := by
  rcases h.2 with ⟨h0, h1⟩ | ⟨g, cap, cur, rfl, hb, hg, hc, hm, hs, ht⟩
  · exact .inl ⟨h0, List.eq_nil_of_length_eq_zero h1⟩
  · refine .inr ⟨g, cap, rfl, hb, (h.lt g rfl).2, hc, by unfold maxLen at hm; omega, fun j hj => ?_, fun j _ => ⟨h.frozenAt _, h.frozenAt _⟩⟩
    rw [Nat.zero_add, h.cellAt (j * 2) (by omega), h.cellAt (j * 2 + 1) (by omega)]
    exact cs_at l j hj
theorem Own.sl {w : World} {base : Nat} {v : Value} {l : List Fa} (h : Own w base v l) : ∃ a cap, v = .slice a l.length cap ∧ Sl w a l.length cap l := by
  rcases h.out with ⟨rfl, rfl⟩ | ⟨g, cap, rfl, _, _, hc, hm, hW, _⟩
  · exact ⟨none, 0, rfl, .nil _⟩
  · exact ⟨_, cap, rfl, .inr ⟨g, 0, rfl, hW⟩, rfl, hc, hm, fun h => by cases h⟩
theorem Own.keeps {w w1 : World} {base : Nat} {v : Value} {l : List Fa} (h : Own w base v l) (hb : Below w.heap.size w w1) : Own w1 base v l := by
  obtain ⟨h1, h2⟩ := h
  refine ⟨h1, ?_⟩
  rcases h2 with h0 | ⟨g, cap, cur, e, hbg, hh, r⟩
  · exact .inl h0
  · refine .inr ⟨g, cap, cur, e, hbg, ?_, r⟩
    have : g < w.heap.size := by
      rcases Nat.lt_or_ge g w.heap.size with h' | h'
      · exact h'
      · rw [Array.getElem?_eq_none h'] at hh; cases hh
    rw [hb.block _ this]
    exact hh
theorem own_below {w w' : World} {base : Nat} {v : Value} {l : List Fa} (h : Own w base v l) (hg : w.grownBy w' v.ownBlock) (hb : base ≤ w.heap.size) : Below base w w' :=
  (Below.refl base w).grown hg hb fun k hk => (h.lt k hk).1

/-- append(x, y), x of the call's own, y one interval. -/
theorem wp_push (w : World) {o : Oper} {a : Act} {K : Act → World → Prop} {Q : Exit → Act → World → Prop} (s x : Operand)
    (ho : o.op = .call { callee := .builtin .append, args := #[s, x], argTypes := #[24, 24] })
    (base : Nat) (v : Value) (l : List Fa) (hs : a.eval s = v) (hown : Own w base v l) (b : Nat) (p : ByteArray) (q : Int) (hx : a.eval x = .slice (some ⟨b, 0, none⟩) 1 1) (hB : Bw w b (p, q))
    (hn : l.length < 5864062014805) (hbase : base ≤ w.heap.size)
    (h : ∀ v' w', Own w' base v' (l ++ [(p, q)]) → Below base w w' → K (a.put o.dst v') w') : o.wp Tryz.prog a w K Q := by
  obtain ⟨i, hi, hz0, hz1, hz2⟩ := info_parts infoF
  refine wp_append_own w s x 24 ho base 66 i (.agg #[.string .empty, .int .i64 0]) 2 24 Tryz.underlying24 hi hz0 hz1 hz2 rfl (by decide) v l.length (cs l) hs hown ⟨b, 0, none⟩ 1 1 (cs [(p, q)]) hx rfl ?_ (cs_one _)
    (by unfold maxLen; omega) (by omega) hbase fun v' w' h1 h2 _ => h v' w' (by unfold Own; rw [cs_append, List.length_append]; exact h1) (own_below hown h2 hbase)
  intro j u hu
  unfold Addr.add
  match j, hu with
  | 0, hu => simp [cs] at hu; subst hu; exact hB.c0
  | 1, hu => simp [cs] at hu; subst hu; exact hB.c1
  | j + 2, hu => simp [cs] at hu
theorem wpList_push (w : World) {ops : Array Oper} {rest : List Oper} {o : Oper} {a : Act} {Q : Exit → Act → World → Prop} (hgd : o.guard = none) (s x : Operand)
    (ho : o.op = .call { callee := .builtin .append, args := #[s, x], argTypes := #[24, 24] })
    (base : Nat) (v : Value) (l : List Fa) (hs : a.eval s = v) (hown : Own w base v l) (b : Nat) (p : ByteArray) (q : Int) (hx : a.eval x = .slice (some ⟨b, 0, none⟩) 1 1) (hB : Bw w b (p, q))
    (hn : l.length < 5864062014805) (hbase : base ≤ w.heap.size)
    (h : ∀ v' w', Own w' base v' (l ++ [(p, q)]) → Below base w w' → wpList Tryz.prog ops Q rest (a.put o.dst v') w') : wpList Tryz.prog ops Q (o :: rest) a w :=
  wpList_plain hgd fun _ hK => wp_push w s x ho base v l hs hown b p q hx hB hn hbase fun v' w' h1 h2 => hK _ _ (h v' w' h1 h2)
/-- The operation is this append. -/
theorem is_app {w : World} {ops : Array Oper} {rest : List Oper} {o : Oper} {a : Act} {Q : Exit → Act → World → Prop} (s x : Operand) (_ : o.op = .call { callee := .builtin .append, args := #[s, x], argTypes := #[24, 24] })
    (k : wpList Tryz.prog ops Q (o :: rest) a w) : wpList Tryz.prog ops Q (o :: rest) a w := k
/-- What a function returns that makes the list l. -/
def Mk (l : List Fa) (w : World) (e : Ending) (w' : World) : Prop := ∃ v, e = .returned v ∧ Own w' w.heap.size v l ∧ Below w.heap.size w w'
end Go.Proofs.YtbkpjhffmaldmaaGreatDoor.un
namespace Go.Proofs.YtbkpjhffmaldmaaGreatDoor.un
open Go.RowKit dec

theorem letter_any (c : Int) (w : World) : Calls Tryz.prog 89 #[.int .u8 c] w fun e w' => e = .returned (.bool (lett c)) ∧ w = w' := by
  go_enter Tryz.func89, Tryz.ntmps89
  go_wp2_with fail
  all_goals go_ret
  all_goals refine ⟨ret_bool ?_, rfl⟩
  all_goals unfold lett
  all_goals simp_all
  all_goals omega
theorem digit_any (c : Int) (w : World) : Calls Tryz.prog 90 #[.int .u8 c] w fun e w' => e = .returned (.bool (digi c)) ∧ w = w' := by
  go_enter Tryz.func90, Tryz.ntmps90
  go_wp2_with fail
  all_goals go_ret
  all_goals refine ⟨ret_bool ?_, rfl⟩
  all_goals unfold digi
  all_goals simp_all
  all_goals omega
theorem range_any (n : Int) (w : World) : Calls Tryz.prog 57 #[.int .i64 n] w fun e w' => e = .returned (.bool (!far n)) ∧ w = w' := by
  go_enter Tryz.func57, Tryz.ntmps57
  go_wp2_with fail
  all_goals go_ret
  all_goals refine ⟨ret_bool ?_, rfl⟩
  all_goals unfold far
  all_goals rw [Bool.eq_iff_iff]
  all_goals simp
  all_goals omega
theorem far_any (n : Int) (w : World) : Calls Tryz.prog 71 #[.int .i64 n] w fun e w' => e = .returned (.bool (far n)) ∧ w = w' := by
  go_enter Tryz.func71, Tryz.ntmps71
  go_wp2_with fail
  all_goals go_ret
  all_goals refine ⟨ret_bool ?_, rfl⟩
  all_goals unfold far
  all_goals simp_all

theorem wch_at (s : ByteArray) {j : Nat} (hj : j < s.size) : (s.data.toList.drop j).all wch = (wch s[j] && (s.data.toList.drop (j + 1)).all wch) := by
  have h : j < s.data.toList.length := by rw [← Lib.size_eq]; exact hj
  rw [List.drop_eq_getElem_cons h]
  rfl
theorem wch_end (s : ByteArray) {j : Nat} (hj : s.size ≤ j) : (s.data.toList.drop j).all wch = true := by
  rw [List.drop_eq_nil_of_le (by rw [← Lib.size_eq]; exact hj)]
  rfl
theorem word_is (s : ByteArray) (h0 : 0 < s.size) : word s = (decide (s.size ≤ 24) && (lett s[0].toNat && (s.data.toList.drop 0).all wch)) := by
  unfold word wordL
  rw [← Lib.size_eq, List.drop_zero]
  have h : 0 < s.data.toList.length := by rw [← Lib.size_eq]; exact h0
  have e : s.data.toList.headD 0 = s[0] := by
    have := List.drop_eq_getElem_cons h
    rw [List.drop_zero] at this
    rw [this]
    rfl
  rw [e]
  congr 1
  rw [decide_eq_decide]
  omega
theorem word_none (s : ByteArray) (h0 : s.size = 0) : word s = false := by
  unfold word wordL
  rw [← Lib.size_eq, h0]
  rfl
theorem toList_nil (s : ByteArray) : (s.toList == []) = decide (s.size = 0) := by
  have e : s.size = s.toList.length := by rw [ByteArray.toList_eq]; rfl
  rw [e]
  cases s.toList <;> rfl
theorem wch_is (c : UInt8) : wch c = (lett c.toNat || (digi c.toNat || decide ((c.toNat : Int) = 95))) := by
  unfold wch
  congr 2
  rw [Bool.eq_iff_iff]
  simp
  omega
theorem next_at {j : Nat} (h : j < 9223372036854775807) : wrap64 ((j : Int) + 1) = ((j + 1 : Nat) : Int) := by unfold wrap64; omega
theorem less_at {n j : Nat} (h : j < n) (f : wrap64 ((j : Int) + 1) = ((j + 1 : Nat) : Int)) : n - (intOf (Value.int .i64 (wrap64 ((j : Int) + 1)))).toNat < n - (intOf (Value.int .i64 (j : Int))).toNat := by
  rw [f]
  clear f
  show n - (((j + 1 : Nat) : Int)).toNat < n - ((j : Nat) : Int).toNat
  rw [Int.toNat_natCast, Int.toNat_natCast]
  omega
set_option maxHeartbeats 1000000 in
theorem isWord_any (s : ByteArray) (w : World) : Calls Tryz.prog 56 #[.string s] w fun e w' => e = .returned (.bool (word s)) ∧ w = w' := by
  have L := Lib.hid letter_any
  have D := Lib.hid digit_any
  by_cases h0 : s.size = 0
  · rw [word_none s h0]
    have q1 : (s.toList == []) = true := by rw [toList_nil, h0]; rfl
    clear L D
    go_enter Tryz.func56, Tryz.ntmps56
    go_wp2_with fail
    go_ret
    exact ⟨rfl, rfl⟩
  · have h0' : 0 < s.size := by omega
    have hw := word_is s h0'
    have q1 : (s.toList == []) = false := by rw [toList_nil]; exact decide_eq_false h0
    by_cases h24 : s.size ≤ 24
    · have q2 : decide (24 < (s.size : Int)) = false := decide_eq_false (by omega)
      rw [decide_eq_true h24, Bool.true_and] at hw
      have hS := Lib.hid h24
      clear h24
      cases hl : lett s[0].toNat
      · rw [hl, Bool.false_and] at hw
        rw [hw]
        go_enter Tryz.func56, Tryz.ntmps56
        go_wp2_with fail
        refine (L.out _ _).mono ?_
        rintro e w' ⟨rfl, rfl⟩
        go_wp2_with fail
        go_ret
        exact ⟨rfl, rfl⟩
      · rw [hl, Bool.true_and] at hw
        have H := Lib.hid hw
        clear hw
        go_enter Tryz.func56, Tryz.ntmps56
        go_wp2_with fail
        refine (L.out _ _).mono ?_
        rintro e w' ⟨rfl, rfl⟩
        go_wp2_with fail
        go_loopw [20] (fun vi wr => ∃ j : Nat, vi = .int .i64 (j : Nat) ∧ j ≤ s.size ∧ Hid (word s = (s.data.toList.drop j).all wch) ∧ w = wr) (fun vi _ => s.size - (intOf vi).toNat)
        case atStart => exact ⟨0, rfl, by omega, H, rfl⟩
        case round =>
          obtain ⟨j, rfl, hj, hd, rfl⟩ := hrel
          clear H
          by_cases hc : j < s.size
          · have hst := hd.out
            rw [wch_at s hc, wch_is] at hst
            have q3 : decide ((j : Int) < (s.size : Int)) = true := decide_eq_true (by omega)
            have f4 := Lib.hid (next_at (j := j) (by have := hS.out; omega))
            generalize hJ : ((s[j].toNat : Nat) : Int) = c at hst
            clear hd
            cases hlc : lett c
            · cases hdc : digi c
              · by_cases h95 : c = 95
                · rw [hlc, hdc, decide_eq_true h95] at hst
                  have q5 : (c == 95) = true := beq_iff_eq.2 h95
                  simp only [Bool.false_or, Bool.true_and] at hst
                  have H := Lib.hid hst
                  clear hst h95
                  go_wp2_with fail
                  refine (L.out _ _).mono ?_
                  rintro e w' ⟨rfl, rfl⟩
                  go_wp2_with fail
                  refine (D.out _ _).mono ?_
                  rintro e w' ⟨rfl, rfl⟩
                  go_wp2_with fail
                  go_roundw
                  case rel => exact ⟨j + 1, congrArg (Value.int .i64) f4.out, hc, H, trivial⟩
                  case measure => exact less_at hc f4.out
                · rw [hlc, hdc, decide_eq_false h95] at hst
                  have q5 : (c == 95) = false := beq_eq_false_iff_ne.2 h95
                  simp only [Bool.false_or, Bool.false_and] at hst
                  have H := Lib.hid hst
                  clear hst h95
                  go_wp2_with fail
                  refine (L.out _ _).mono ?_
                  rintro e w' ⟨rfl, rfl⟩
                  go_wp2_with fail
                  refine (D.out _ _).mono ?_
                  rintro e w' ⟨rfl, rfl⟩
                  go_wp2_with fail
                  go_ret
                  exact ⟨ret_bool H.out.symm, rfl⟩
              · rw [hlc, hdc] at hst
                simp only [Bool.true_or, Bool.false_or, Bool.true_and] at hst
                have H := Lib.hid hst
                clear hst
                go_wp2_with fail
                refine (L.out _ _).mono ?_
                rintro e w' ⟨rfl, rfl⟩
                go_wp2_with fail
                refine (D.out _ _).mono ?_
                rintro e w' ⟨rfl, rfl⟩
                go_wp2_with fail
                go_roundw
                case rel => exact ⟨j + 1, congrArg (Value.int .i64) f4.out, hc, H, trivial⟩
                case measure => exact less_at hc f4.out
            · rw [hlc] at hst
              simp only [Bool.true_or, Bool.true_and] at hst
              have H := Lib.hid hst
              clear hst
              go_wp2_with fail
              refine (L.out _ _).mono ?_
              rintro e w' ⟨rfl, rfl⟩
              go_wp2_with fail
              go_roundw
              case rel => exact ⟨j + 1, congrArg (Value.int .i64) f4.out, hc, H, trivial⟩
              case measure => exact less_at hc f4.out
          · have hst := hd.out
            rw [wch_end s (by omega)] at hst
            have H := Lib.hid hst
            clear hst hd
            have q3 : decide ((j : Int) < (s.size : Int)) = false := decide_eq_false (by omega)
            go_wp2_with fail
            go_ret
            exact ⟨ret_bool H.out.symm, rfl⟩
    · rw [decide_eq_false h24, Bool.false_and] at hw
      have q2 : decide (24 < (s.size : Int)) = true := decide_eq_true (by omega)
      rw [hw]
      go_enter Tryz.func56, Tryz.ntmps56
      go_wp2_with fail
      go_ret
      exact ⟨rfl, rfl⟩
end Go.Proofs.YtbkpjhffmaldmaaGreatDoor.un
namespace Go.Proofs.YtbkpjhffmaldmaaGreatDoor.un
open Go.RowKit dec

def sameB (l r : List Fa) : Bool := decide (l = r)
theorem same_len {l r : List Fa} (h : l.length ≠ r.length) : sameB l r = false := decide_eq_false fun e => h (by rw [e])
theorem same_end {l r : List Fa} {j : Nat} (h1 : l.length ≤ j) (h2 : r.length ≤ j) (h : l.take j = r.take j) : sameB l r = true := by
  rw [List.take_of_length_le h1, List.take_of_length_le h2] at h
  exact decide_eq_true h
theorem same_next {l r : List Fa} {j : Nat} (h1 : j < l.length) (h2 : j < r.length) (h : l.take j = r.take j) (e1 : (gt l j).1 = (gt r j).1) (e2 : (gt l j).2 = (gt r j).2) : l.take (j + 1) = r.take (j + 1) := by
  rw [take_gt h1, take_gt h2, h, Prod.ext e1 e2]
theorem same_no {l r : List Fa} {j : Nat} (h : gt l j ≠ gt r j) : sameB l r = false := decide_eq_false fun e => h (by rw [e])
theorem bs_eq (a b : ByteArray) : (a.toList == b.toList) = decide (a = b) := by
  by_cases h : a = b
  · rw [h]; simp
  · rw [decide_eq_false h]
    exact beq_eq_false_iff_ne.2 fun e => h (toList_inj e)
set_option maxHeartbeats 1000000 in
theorem equal_any (a : Option Addr) (n cap : Nat) (b : Option Addr) (m cap2 : Nat) (l r : List Fa) (w : World) (hA : Sl w a n cap l) (hB : Sl w b m cap2 r) :
    Calls Tryz.prog 52 #[.slice a n cap, .slice b m cap2] w fun e w' => e = .returned (.bool (sameB l r)) ∧ Below w.heap.size w w' := by
  have h1 := Lib.hid hA
  have h2 := Lib.hid hB
  clear hA hB
  by_cases hnm : n = m
  · subst hnm
    have qn : ((n : Int) != (n : Int)) = false := by simp
    go_enter Tryz.func52, Tryz.ntmps52
    go_wp2_with fail
    go_loopw [13] (fun i wr => ∃ j : Nat, i = .int .i64 (j : Nat) ∧ Hid (j ≤ n) ∧ Hid (l.take j = r.take j) ∧ Below w.heap.size w wr) (fun i _ => n - (intOf i).toNat)
    case atStart => exact ⟨0, rfl, Lib.hid (Nat.zero_le _), Lib.hid rfl, b0 w⟩
    case round =>
      obtain ⟨j, rfl, hj, ht, hb⟩ := hrel
      by_cases hlt : j < n
      · have q1 : decide ((j : Int) < (n : Int)) = true := decide_eq_true (by omega)
        obtain ⟨A1, hn, hc, hm, _⟩ := h1.out.keeps hb
        obtain ⟨B1, hn2, hc2, hm2, _⟩ := h2.out.keeps hb
        obtain ⟨bk, off, rfl, hC⟩ := A1.resolve_left (by omega)
        obtain ⟨bk2, off2, rfl, hD⟩ := B1.resolve_left (by omega)
        obtain ⟨c0, c1⟩ := hC j (by omega)
        obtain ⟨d0, d1⟩ := hD j (by omega)
        have f4 := Lib.hid (next_at (j := j) (by omega))
        have hN := Lib.hid (fun e1 e2 => same_next (l := l) (r := r) (j := j) (by omega) (by omega) ht.out e1 e2)
        have hX := Lib.hid (fun h => same_no (l := l) (r := r) (j := j) h)
        have hbh := Lib.hid hb
        clear hC hD A1 B1 h1 h2 ht hj hc hm hc2 hm2 hn hn2 hb
        generalize gt l j = x at *
        generalize gt r j = y at *
        by_cases p1 : x.1.toList = y.1.toList
        · by_cases p2 : x.2 = y.2
          · have hT := Lib.hid (hN.out (toList_inj p1) p2)
            clear hN hX
            go_wp2_with fail
            go_region
            go_wp2_with fail
            refine ⟨⟨j + 1, congrArg (Value.int .i64) f4.out, Lib.hid hlt, hT, hbh.out.drew⟩, less_at hlt f4.out⟩
          · have hT := Lib.hid (hX.out fun e => p2 (by rw [e]))
            clear hN hX
            go_wp2_with fail
            go_region
            go_wp2_with fail
            go_ret
            exact ⟨ret_bool hT.out.symm, hbh.out.drew⟩
        · have hT := Lib.hid (hX.out fun e => p1 (by rw [e]))
          clear hN hX
          go_wp2_with fail
          go_region
          go_wp2_with fail
          go_ret
          exact ⟨ret_bool hT.out.symm, hbh.out.drew⟩
      · have q1 : decide ((j : Int) < (n : Int)) = false := decide_eq_false (by omega)
        have hr := same_end (by have := h1.out.hn; omega) (by have := h2.out.hn; omega) ht.out
        go_wp2_with fail
        go_ret
        exact ⟨ret_bool hr.symm, hb⟩
  · have hl := same_len (l := l) (r := r) (by rw [h1.out.hn, h2.out.hn]; exact hnm)
    have qn : ((n : Int) != (m : Int)) = true := by rw [bne_iff_ne]; omega
    clear h1 h2
    rw [hl]
    go_enter Tryz.func52, Tryz.ntmps52
    go_wp2_with fail
    go_ret
    exact ⟨rfl, b0 w⟩
set_option maxHeartbeats 1000000 in
theorem rsame_any (a : Option Addr) (n cap : Nat) (b : Option Addr) (m cap2 : Nat) (l r : List Fa) (w : World) (hA : Sl w a n cap l) (hB : Sl w b m cap2 r) :
    Calls Tryz.prog 49 #[.slice a n cap, .slice b m cap2] w fun e w' => e = .returned (.bool (sameB l r)) ∧ Below w.heap.size w w' := by
  have h1 := Lib.hid hA
  have h2 := Lib.hid hB
  clear hA hB
  by_cases hnm : n = m
  · subst hnm
    have qn : ((n : Int) != (n : Int)) = false := by simp
    go_enter Tryz.func49, Tryz.ntmps49
    go_wp2_with fail
    go_loopw [5] (fun i wr => ∃ j : Nat, i = .int .i64 (j : Nat) ∧ Hid (j ≤ n) ∧ Hid (l.take j = r.take j) ∧ Below w.heap.size w wr) (fun i _ => n - (intOf i).toNat)
    case atStart => exact ⟨0, rfl, Lib.hid (Nat.zero_le _), Lib.hid rfl, b0 w⟩
    case round =>
      obtain ⟨j, rfl, hj, ht, hb⟩ := hrel
      by_cases hlt : j < n
      · have q1 : decide ((j : Int) < (n : Int)) = true := decide_eq_true (by omega)
        obtain ⟨A1, hn, hc, hm, _⟩ := h1.out.keeps hb
        obtain ⟨B1, hn2, hc2, hm2, _⟩ := h2.out.keeps hb
        obtain ⟨bk, off, rfl, hC⟩ := A1.resolve_left (by omega)
        obtain ⟨bk2, off2, rfl, hD⟩ := B1.resolve_left (by omega)
        obtain ⟨c0, c1⟩ := hC j (by omega)
        obtain ⟨d0, d1⟩ := hD j (by omega)
        have f4 := Lib.hid (next_at (j := j) (by omega))
        have hN := Lib.hid (fun e1 e2 => same_next (l := l) (r := r) (j := j) (by omega) (by omega) ht.out e1 e2)
        have hX := Lib.hid (fun h => same_no (l := l) (r := r) (j := j) h)
        have hbh := Lib.hid hb
        clear hC hD A1 B1 h1 h2 ht hj hc hm hc2 hm2 hn hn2 hb
        generalize gt l j = x at *
        generalize gt r j = y at *
        by_cases p1 : x.1.toList = y.1.toList
        · by_cases p2 : x.2 = y.2
          · have hT := Lib.hid (hN.out (toList_inj p1) p2)
            clear hN hX
            go_wp2_with fail
            go_region
            go_wp2_with fail
            refine ⟨⟨j + 1, congrArg (Value.int .i64) f4.out, Lib.hid hlt, hT, hbh.out.drew⟩, less_at hlt f4.out⟩
          · have hT := Lib.hid (hX.out fun e => p2 (by rw [e]))
            clear hN hX
            go_wp2_with fail
            go_region
            go_wp2_with fail
            go_ret
            exact ⟨ret_bool hT.out.symm, hbh.out.drew⟩
        · have hT := Lib.hid (hX.out fun e => p1 (by rw [e]))
          clear hN hX
          go_wp2_with fail
          go_region
          go_wp2_with fail
          go_ret
          exact ⟨ret_bool hT.out.symm, hbh.out.drew⟩
      · have q1 : decide ((j : Int) < (n : Int)) = false := decide_eq_false (by omega)
        have hr := same_end (by have := h1.out.hn; omega) (by have := h2.out.hn; omega) ht.out
        go_wp2_with fail
        go_ret
        exact ⟨ret_bool hr.symm, hb⟩
  · have hl := same_len (l := l) (r := r) (by rw [h1.out.hn, h2.out.hn]; exact hnm)
    have qn : ((n : Int) != (m : Int)) = true := by rw [bne_iff_ne]; omega
    clear h1 h2
    rw [hl]
    go_enter Tryz.func49, Tryz.ntmps49
    go_wp2_with fail
    go_ret
    exact ⟨rfl, b0 w⟩
theorem same_any (a : Option Addr) (n cap : Nat) (b : Option Addr) (m cap2 : Nat) (l r : List Fa) (w : World) (hA : Sl w a n cap l) (hB : Sl w b m cap2 r) :
    Calls Tryz.prog 29 #[.slice a n cap, .slice b m cap2] w fun e w' => e = .returned (.bool (sameB l r)) ∧ Below w.heap.size w w' := by
  have C := Lib.hid (equal_any a n cap b m cap2 l r w hA hB)
  clear hA hB
  go_enter Tryz.func29, Tryz.ntmps29
  go_wp2_with fail
  refine C.out.mono ?_
  rintro e w1 ⟨rfl, b1⟩
  go_wp2_with fail
  go_ret
  exact ⟨rfl, b1⟩
end Go.Proofs.YtbkpjhffmaldmaaGreatDoor.un
namespace Go.Proofs.YtbkpjhffmaldmaaGreatDoor.un
open Go.RowKit dec

theorem le_is (a b : ByteArray) : (Op.bytesLess a.toList b.toList || a.toList == b.toList) = !Op.bytesLess b.toList a.toList := by
  cases h : Op.bytesLess b.toList a.toList
  · by_cases e : a.toList = b.toList
    · rw [e]; simp
    · rw [less_tri b.toList a.toList h fun e' => e e'.symm]; rfl
  · have h1 := ltS_as (a := b) (b := a) h
    have h2 := ltS_ne (a := b) (b := a) h
    unfold ltS at h1
    rw [h1, Bool.false_or]
    exact beq_eq_false_iff_ne.2 fun e => h2 (toList_inj e.symm)
theorem ck_drop {l : List Fa} {j : Nat} (h : j < l.length) (b : ByteArray) : ckFrom b (l.drop j) = if ck1 b (gt l j) = 0 then ckFrom (gt l j).1 (l.drop (j + 1)) else ck1 b (gt l j) := by
  rw [drop_gt h]
  rfl
theorem ck_end {l : List Fa} {j : Nat} (h : l.length ≤ j) (b : ByteArray) : ckFrom b (l.drop j) = 0 := by
  rw [List.drop_eq_nil_of_le h]
  rfl
set_option maxHeartbeats 2000000 in
theorem check_any (a : Option Addr) (n cap : Nat) (l : List Fa) (w : World) (hS : Sl w a n cap l) :
    Calls Tryz.prog 31 #[.slice a n cap] w fun e w' => e = .returned (.int .i64 (ck l)) ∧ Below w.heap.size w w' := by
  have W1 := Lib.hid isWord_any
  have R1 := Lib.hid range_any
  have hck : ck l = if 4 < n then 2 else ckFrom .empty (l.drop 0) := by rw [List.drop_zero, ← hS.hn]; rfl
  have S0 := Lib.hid hS
  clear hS
  by_cases h4 : 4 < n
  · rw [hck, if_pos h4]
    have q1 : decide (4 < (n : Int)) = true := decide_eq_true (by omega)
    clear W1 R1 S0 hck
    go_enter Tryz.func31, Tryz.ntmps31
    go_wp2_with fail
    go_ret
    exact ⟨rfl, b0 w⟩
  · rw [if_neg h4] at hck
    rw [hck]
    have hn := Lib.hid (Nat.le_of_not_lt h4)
    have q1 : decide (4 < (n : Int)) = false := decide_eq_false (by omega)
    clear h4 hck
    go_enter Tryz.func31, Tryz.ntmps31
    go_wp2_with fail
    go_loopw [3, 11] (fun vb vi wr => ∃ (j : Nat) (b : ByteArray), vb = .string b ∧ vi = .int .i64 (j : Nat) ∧ Hid (j ≤ n) ∧ Hid (ckFrom .empty (l.drop 0) = ckFrom b (l.drop j)) ∧ Below w.heap.size w wr) (fun _ vi _ => n - (intOf vi).toNat)
    case atStart => exact ⟨0, .empty, rfl, rfl, Lib.hid (by omega), rfl, b0 w⟩
    case round =>
      obtain ⟨j, b, rfl, rfl, hj, hd, hb⟩ := hrel
      by_cases hc : j < n
      · have hlen := S0.out.hn
        have hst := hd.out
        rw [ck_drop (by have := S0.out.hn; omega) b] at hst
        obtain ⟨bk, off, rfl, hC⟩ := (S0.out.keeps hb).hat.resolve_left (by omega)
        obtain ⟨c0, c1⟩ := hC j (by have := S0.out.hn; omega)
        have q2 : decide ((j : Int) < (n : Int)) = true := decide_eq_true (by omega)
        have f4 := Lib.hid (next_at (j := j) (by have := hn.out; have := hc; omega))
        have q3 : j < n := hc
        generalize (gt l j) = x at *
        have H := Lib.hid hst
        have hbh := Lib.hid hb
        clear hd hst hlen hC hb
        cases hw : word x.1
        · have hk : ck1 b x = 1 := by unfold ck1; rw [if_pos hw]
          go_wp2_with fail
          refine (W1.out _ _).mono ?_
          rintro e w' ⟨rfl, rfl⟩
          go_wp2_with fail
          go_ret
          exact ⟨ret_int (by rw [H.out, if_neg (by rw [hk]; decide), hk]), balloc hbh.out _⟩
        · by_cases h0 : x.2 = 0
          · have hk : ck1 b x = 70 := by unfold ck1; rw [hw, if_neg (by decide), if_pos (.inl h0)]
            have q4 : (x.2 == 0) = true := beq_iff_eq.2 h0
            replace hk := Lib.hid hk
            replace h0 := Lib.hid h0
            go_wp2_with fail
            refine (W1.out _ _).mono ?_
            rintro e w' ⟨rfl, rfl⟩
            go_wp2_with fail
            replace hk := hk.out
            go_ret
            exact ⟨ret_int (by rw [H.out, if_neg (by rw [hk]; decide), hk]), balloc hbh.out _⟩
          · have q4 : (x.2 == 0) = false := beq_eq_false_iff_ne.2 h0
            cases hf : far x.2
            · have q8 := le_is x.1 b
              cases hl : Op.bytesLess b.toList x.1.toList
              · have hk : ck1 b x = 3 := by unfold ck1 ltS; rw [hw, hf, hl, if_neg (by decide), if_neg (by simp [h0]), if_neg (by decide)]
                replace h0 := Lib.hid h0
                rw [hl, Bool.not_false] at q8
                go_wp2_with fail
                refine (W1.out _ _).mono ?_
                rintro e w' ⟨rfl, rfl⟩
                go_wp2_with fail
                refine (R1.out _ _).mono ?_
                rintro e w' ⟨rfl, rfl⟩
                go_wp2_with fail
                go_ret
                exact ⟨ret_int (by rw [H.out, if_neg (by rw [hk]; decide), hk]), balloc hbh.out _⟩
              · have hk : ck1 b x = 0 := by unfold ck1 ltS; rw [hw, hf, hl, if_neg (by decide), if_neg (by simp [h0]), if_pos rfl]
                replace h0 := Lib.hid h0
                rw [hl, Bool.not_true] at q8
                go_wp2_with fail
                refine (W1.out _ _).mono ?_
                rintro e w' ⟨rfl, rfl⟩
                go_wp2_with fail
                refine (R1.out _ _).mono ?_
                rintro e w' ⟨rfl, rfl⟩
                go_wp2_with fail
                go_roundw
                case rel => exact ⟨j + 1, x.1, rfl, congrArg (Value.int .i64) f4.out, Lib.hid hc, Lib.hid (H.out.trans (if_pos hk)), balloc hbh.out _⟩
                case measure => exact less_at hc f4.out
            · have hk : ck1 b x = 70 := by unfold ck1; rw [hw, hf, if_neg (by decide), if_pos (.inr rfl)]
              replace h0 := Lib.hid h0
              go_wp2_with fail
              refine (W1.out _ _).mono ?_
              rintro e w' ⟨rfl, rfl⟩
              go_wp2_with fail
              refine (R1.out _ _).mono ?_
              rintro e w' ⟨rfl, rfl⟩
              go_wp2_with fail
              go_ret
              exact ⟨ret_int (by rw [H.out, if_neg (by rw [hk]; decide), hk]), balloc hbh.out _⟩
      · have hst := ck_end (l := l) (j := j) (by have := S0.out.hn; omega) b
        have H := Lib.hid hst
        have hd2 := Lib.hid hd.out
        clear hst hd
        have q3 : decide ((j : Int) < (n : Int)) = false := decide_eq_false (by omega)
        have hbh := Lib.hid hb
        clear hb
        go_wp2_with fail
        go_ret
        exact ⟨ret_int (hd2.out.trans H.out).symm, hbh.out⟩
end Go.Proofs.YtbkpjhffmaldmaaGreatDoor.un
namespace Go.Proofs.YtbkpjhffmaldmaaGreatDoor.un
open Go.RowKit Go.Sort Go.Lib dec

def cS (a b : ByteArray) : Int := if ltS a b = true then -1 else if a.toList = b.toList then 0 else 1
theorem nan_any (s : ByteArray) (w : World) : Calls Tryz.prog 169 #[.string s] w fun e w' => e = .returned (.bool false) ∧ w' = w := by
  go_enter Tryz.func169, Tryz.ntmps169
  go_wp2
  go_ret
  exact ⟨rfl, rfl⟩
theorem cmps_any (a b : ByteArray) (w : World) : Calls Tryz.prog 151 #[.string a, .string b] w fun e w' => e = .returned (.int .i64 (cS a b)) ∧ w' = w := by
  go_enter Tryz.func151, Tryz.ntmps151
  go_wp2_with (go_at_call 169; refine (nan_any _ _).mono ?_; rintro e w' ⟨rfl, rfl⟩)
  all_goals go_ret
  all_goals refine ⟨congrArg (fun n => Ending.returned (Value.int .i64 n)) (Eq.symm ?_), rfl⟩
  all_goals simp_all [cS, ltS]
def enF (x : Fa) : List Value := [.string x.1, .int .i64 x.2]
theorem lt_enF (x y : Fa) : ltOf (fun x y : Fa => cS x.1 y.1) x y = ltS x.1 y.1 := by
  show decide (cS x.1 y.1 < 0) = _
  unfold cS
  cases h1 : ltS x.1 y.1
  · rw [if_neg Bool.false_ne_true]
    split <;> rfl
  · rw [if_pos rfl]
    rfl
/-- By name is a strict weak order. -/
theorem swo_enF : SWO (ltOf fun x y : Fa => cS x.1 y.1) where
  irrefl x := by rw [lt_enF]; exact ltS_irr _
  trans x y z h1 h2 := by rw [lt_enF] at *; exact ltS_tr h1 h2
  ntrans x y z h1 h2 := by
    rw [lt_enF] at *
    cases h : ltS x.1 z.1
    · rfl
    · exfalso
      by_cases e : x.1 = y.1
      · rw [e, h2] at h; cases h
      · have a := ltS_tri h1 e
        have := ltS_tr a h
        rw [h2] at this; cases this
theorem asz (w : World) (o : Obj) : (w.alloc o).heap.size = w.heap.size + 1 := by simp
theorem grow2 (W : World) (o1 o2 : Obj) : ∃ os, (W.alloc o1).alloc o2 = grow W os := ⟨_, by rw [alloc_eq_grow, alloc_eq_grow, grow_grow]⟩
theorem grow_none (w : World) : grow (w.drewN 0) #[] = w := by rw [grow_empty]; rfl
theorem key_any (x : Fa) (w : World) : Calls Tryz.prog 123 #[.agg #[.string x.1, .int .i64 x.2]] w fun e w' => e = .returned (.string x.1) ∧ ∃ q os', w' = grow (w.drewN q) os' := by
  go_enter Tryz.func123, Tryz.ntmps123
  go_wp2_with fail
  go_ret
  exact ⟨rfl, 0, _, by rw [alloc_eq_grow]; rfl⟩
set_option maxRecDepth 100000 in
set_option maxHeartbeats 1000000 in
theorem less_any (x y : Fa) (kb : Nat) (W : World) (hk : W.cell? ⟨kb, 0, none⟩ = some (.func (.func 123) #[] #[])) :
    Calls Tryz.prog 150 #[.agg #[.string x.1, .int .i64 x.2], .agg #[.string y.1, .int .i64 y.2], .pointer (some ⟨kb, 0, none⟩)] W fun e w' => e = .returned (.int .i64 (cS x.1 y.1)) ∧ ∃ q os', w' = grow (W.drewN q) os' := by
  have mixed : Tryz.prog.follows .mixedOrders = true := by kernel_rfl
  have K1 := Lib.hid key_any
  have hcon := Lib.hid (fun W' => cmps_any x.1 y.1 W')
  generalize cS x.1 y.1 = r at hcon ⊢
  have hkl := block_lt_of_cell hk
  go_enter Tryz.func150, Tryz.ntmps150
  go_wp2_with fail
  have B1 := (Bw.new W x 66).past (.cells #[.string y.1, .int .i64 y.2] 66)
  have B2 := Bw.new (W.alloc (.cells #[.string x.1, .int .i64 x.2] 66)) y 66
  rw [asz] at B2
  have hk2 := keeps_alloc (.cells #[.string y.1, .int .i64 y.2] 66) (keeps_alloc (.cells #[.string x.1, .int .i64 x.2] 66) hk)
  have hz : ((W.alloc (.cells #[.string x.1, .int .i64 x.2] 66)).alloc (.cells #[.string y.1, .int .i64 y.2] 66)).heap.size = W.heap.size + 2 := by simp
  have hW := grow2 W (.cells #[.string x.1, .int .i64 x.2] 66) (.cells #[.string y.1, .int .i64 y.2] 66)
  generalize hW2 : (W.alloc (.cells #[.string x.1, .int .i64 x.2] 66)).alloc (.cells #[.string y.1, .int .i64 y.2] 66) = W2 at *
  have k0 : ∀ n os, (grow (W2.drewN n) os).cell? ⟨kb, 0, none⟩ = _ := cell_grown (by show kb < _; omega) hk2
  have x0 : ∀ n os, (grow (W2.drewN n) os).cell? ⟨W.heap.size, 0, none⟩ = _ := cell_grown (by show W.heap.size < _; omega) B1.c0
  have x1 : ∀ n os, (grow (W2.drewN n) os).cell? ⟨W.heap.size, 1, none⟩ = _ := cell_grown (by show W.heap.size < _; omega) B1.c1
  have y0 : ∀ n os, (grow (W2.drewN n) os).cell? ⟨W.heap.size + 1, 0, none⟩ = _ := cell_grown (by show W.heap.size + 1 < _; omega) B2.c0
  have y1 : ∀ n os, (grow (W2.drewN n) os).cell? ⟨W.heap.size + 1, 1, none⟩ = _ := cell_grown (by show W.heap.size + 1 < _; omega) B2.c1
  clear B1 B2 hk2 hz hk hW2 hkl
  generalize W.heap.size = g at *
  go_quiet_grown (first | (go_at_call 123; first | exact Calls.grown_of (K1.out x _) | exact Calls.grown_of (K1.out y _)) | (go_at_call 151; exact Calls.grown_of ((hcon.out _).mono fun e w' h => ⟨h.1, 0, #[], h.2.trans (grow_none _).symm⟩)))
  go_wp2_with fail
  go_ret
  refine ⟨rfl, ?_⟩
  obtain ⟨os, rfl⟩ := hW
  exact ⟨nq, os ++ osq, by rw [← grow_grow]; rfl⟩
def WSrt (l : List Fa) : Prop := l.Pairwise fun x y => ltS y.1 x.1 = false
theorem cmpLays_any (blk off size kb : Nat) (w : World) (hk : w.cell? ⟨kb, 0, none⟩ = some (.func (.func 123) #[] #[])) (hne : kb ≠ blk) :
    CmpLays Tryz.prog 150 #[.pointer (some ⟨kb, 0, none⟩)] enF 2 (fun x y => cS x.1 y.1) blk off size w := by
  intro m os dk _ x y
  refine less_any x y kb _ ?_
  have hl := block_lt_of_cell hk
  have hkl : kb < w.heap.size := hl
  unfold sortWorldK
  rw [cell?_grow _ _ _ (by show kb < _; simpa [putRowK, putRow, mapBlock, Sort.ahead] using hkl), cell?_putRowK_other enF 2 _ _ _ _ _ hne]
  exact hk
theorem grownBy_put {w : World} {g n : Nat} {os : Array Obj} (d : Array Value) : w.grownBy (grow (putRow id (Sort.ahead w n) g 0 d) os) (some g) := by
  refine ⟨rfl, rfl, rfl, by simp, fun k hk hne => ?_⟩
  rw [heap_grow_old _ _ (by simpa using hk)]
  have : g ≠ k := fun e => hne (by rw [e])
  simp [putRow, mapBlock, Sort.ahead, Array.getElem?_modify, this]
theorem holds_cl {w : World} {g : Nat} {l : List Fa} (h : Cl w g 0 l) (hf : ∀ j, j < l.length → w.frozen? ⟨g, j * 2, none⟩ = false ∧ w.frozen? ⟨g, j * 2 + 1, none⟩ = false) : HoldsK enF 2 w g 0 l.toArray := by
  intro j hj
  have hj' : j < l.length * 2 := by simpa using hj
  have hd : j / 2 < l.length := by omega
  obtain ⟨c0, c1⟩ := h (j / 2) hd
  obtain ⟨f0, f1⟩ := hf (j / 2) hd
  rw [get_flatK enF 2 _ _ (by simpa using hj')]
  have e1 : l.toArray[j / 2]! = gt l (j / 2) := by
    rw [gt_eq hd]
    simp [hd]
  rw [e1]
  rcases Nat.mod_two_eq_zero_or_one j with hm | hm
  · have : j / 2 * 2 = j := by omega
    rw [this] at c0 f0
    rw [hm]
    exact ⟨c0, by rw [Nat.zero_add]; exact f0⟩
  · have : j / 2 * 2 + 1 = j := by omega
    rw [Nat.add_assoc, this] at c1
    rw [this] at f1
    rw [hm]
    exact ⟨c1, by rw [Nat.zero_add]; exact f1⟩
theorem cl_holds {w : World} {g : Nat} {d : Array Fa} (h : HoldsK enF 2 w g 0 d) : Cl w g 0 d.toList := by
  intro j hj
  have hj' : j < d.size := by simpa using hj
  have e1 : d[j]! = gt d.toList j := by
    rw [gt_eq hj]
    simp [hj']
  have h0 := (h.cell (c := 0) hj' (by decide)).1
  have h1 := (h.cell (c := 1) hj' (by decide)).1
  rw [e1] at h0 h1
  exact ⟨h0, h1⟩
theorem put_tag {w : World} {g n : Nat} {os : Array Obj} {cur : Array Value} {T : TypeId} {fr : Nat × Nat} (d : Array Value) (h : w.heap[g]? = some (.cells cur T fr)) : ∃ cs fr', (grow (putRow id (Sort.ahead w n) g 0 d) os).heap[g]? = some (.cells cs T fr') := by
  have hg : g < w.heap.size := by
    rcases Nat.lt_or_ge g w.heap.size with h' | h'
    · exact h'
    · rw [Array.getElem?_eq_none h'] at h; cases h
  rw [heap_grow_old _ _ (by simpa using hg)]
  simp [putRow, mapBlock, Sort.ahead, Array.getElem?_modify, h]
  exact ⟨_, _, _, rfl⟩
/-- SortFunc over a slice that the call has made. -/
theorem sort_any (base : Nat) (v : Value) (l : List Fa) (kb : Nat) (w : World) (hO : Own w base v l) (hn : l.length < 5864062014805) (hb : base ≤ w.heap.size) (hk : w.cell? ⟨kb, 0, none⟩ = some (.func (.func 123) #[] #[])) (hkn : ∀ g, v.ownBlock = some g → kb ≠ g) :
    Calls Tryz.prog 149 #[v, .func (.func 150) #[] #[.pointer (some ⟨kb, 0, none⟩)]] w fun e w' => e = .returned (.tuple #[]) ∧ ∃ a cap s, v = .slice a l.length cap ∧ s.Perm l ∧ WSrt s ∧ Sl w' a l.length cap s ∧ (∀ x, a = some x → base ≤ x.block ∧ ∃ cs fr, w'.heap[x.block]? = some (.cells cs 66 fr)) ∧ Below base w w' := by
  rcases hO.out with ⟨rfl, rfl⟩ | ⟨g, cap, rfl, hbg, hg, hc, hm, hC, hF⟩
  · have hS := AnyF.slices_SortFunc_none (P := Tryz.prog) (ρ := Tryz.sortFa_ren) { Tryz.sortFa with } none 0 (.func (.func 150) #[] #[.pointer (some ⟨kb, 0, none⟩)]) w
    refine (show Calls Tryz.prog 149 _ _ _ from hS).mono ?_
    rintro e w' ⟨rfl, rfl⟩
    exact ⟨rfl, none, 0, [], rfl, List.Perm.refl _, by simp [WSrt], .nil _, fun x h => (by cases h), Below.refl _ _⟩
  · have eg : ∀ args w, (callFunc 150 args).run Tryz.prog w = .ok (.enter 150 args) w := enters_of Tryz.func150 (by kernel_rfl) rfl
    have hkg : kb ≠ g := hkn g rfl
    obtain ⟨cur0, htag⟩ : ∃ cur0, w.heap[g]? = some (.cells cur0 66 (0, 0)) := by
      rcases hO.2 with ⟨h0, _⟩ | ⟨g', cap', cur, e', _, hh, _⟩
      · cases h0
      · cases e'
        exact ⟨cur, hh⟩
    have hcon := AnyQ.slices_SortFunc Tryz.sortFa 2 Tryz.isAgg66 Tryz.sizeOf66 enF (fun _ => rfl) (fun x v hv => by simp [enF] at hv; rcases hv with rfl | rfl <;> rfl) (fun x y => cS x.1 y.1) swo_enF 150 #[.pointer (some ⟨kb, 0, none⟩)] g 0 cap l.toArray w eg (cmpLays_any g 0 _ kb w hk hkg) (holds_cl hC hF) hg (by simp; omega)
    simp only [List.size_toArray] at hcon
    refine (show Calls Tryz.prog 149 _ _ _ from hcon).mono ?_
    rintro e w' ⟨rfl, d', n, os, hp, hs, rfl⟩
    have hsz : d'.size = l.length := by have := hp.1; simpa using this
    have hpl : d'.toList.Perm l := by
      have := hp.2.2
      simp only [← hsz, Array.extract_size] at this
      simpa [hsz] using this
    have hH : HoldsK enF 2 (sortWorldK enF 2 w g 0 n d' os) g 0 d' := holdsK_grow enF 2 _ os g 0 d' (by unfold putRowK; simpa using hg) (holdsK_putRowK enF 2 (Sort.ahead w n) g 0 l.toArray d' (holdsK_ahead enF 2 w n g 0 _ (holds_cl hC hF)) (by simpa using hsz))
    refine ⟨rfl, _, cap, d'.toList, rfl, hpl, ?_, ⟨.inr ⟨g, 0, rfl, cl_holds hH⟩, by simpa using hsz, hc, hm, fun h => by cases h⟩, fun x h => (by cases h; exact ⟨hbg, put_tag _ htag⟩), (Below.refl base w).grown (grownBy_put _) hb (fun k hk => by cases hk; exact hbg)⟩
    unfold WSrt
    rw [List.pairwise_iff_getElem]
    intro i j hi hj hij
    have h1 := hs i j (Nat.zero_le _) hij (by rw [← hsz]; simpa using hj)
    rw [lt_enF] at h1
    simp at hi hj
    simp [hi, hj] at h1
    simpa using h1
end Go.Proofs.YtbkpjhffmaldmaaGreatDoor.un
namespace Go.Proofs.YtbkpjhffmaldmaaGreatDoor.un
open Go.RowKit dec
open Go.Maps (Keyed)

theorem kMap : Tryz.prog.underlying 135 = some (.map 9 138) := by kernel_rfl
theorem K9 : Keyed Tryz.prog 9 := Go.Maps.string_keyed Tryz.underlying9
def wElem {H : Type} : Value → Option (DataW H × List MemPlace)
  | .agg cs => match cs.toList with
    | [.int .i64 h, .int .u64 l] => some (.agg [.lit (.int .i64 h), .lit (.int .u64 l)], [])
    | _ => none
  | _ => none
def dW (n : Int) : DataW Unit := .agg [.lit (.int .i64 (hi n)), .lit (.int .u64 (lo n))]
theorem wElem_mk (n : Int) : wElem (W n) = some (dW n, []) := rfl
theorem wElem_inv {v : Value} {y : DataW Unit × List MemPlace} (h : wElem v = some y) : ∃ c : Int × Int, v = .agg #[.int .i64 c.1, .int .u64 c.2] ∧ y = (.agg [.lit (.int .i64 c.1), .lit (.int .u64 c.2)], []) := by
  unfold wElem at h
  split at h
  · rename_i cs
    split at h
    · rename_i hh ll e
      refine ⟨(hh, ll), ?_, ?_⟩
      · have : cs = #[.int .i64 hh, .int .u64 ll] := by
          apply Array.ext'
          exact e
        rw [this]
      · exact (Option.some.inj h).symm
    · cases h
  · cases h
theorem wElem_is {v : Value} {n : Int} {ps : List MemPlace} (h : wElem v = some (dW n, ps)) : v = W n := by
  obtain ⟨c, rfl, e⟩ := wElem_inv h
  unfold dW at e
  simp at e
  rw [← e.1.1, ← e.1.2]
  rfl
/-- A name as a key. -/
def kS (s : ByteArray) : Lit := .string s.data.toList
theorem kS_inj {a b : ByteArray} (h : kS a = kS b) : a = b := by
  unfold kS at h
  injection h with h
  have := Array.toList_inj.1 h
  cases a; cases b
  simp_all
theorem kS_key {s : ByteArray} (h : s.size ≤ maxLen) : keyOf Tryz.prog 9 (.string s) = some (kS s) := Go.WideMaps.keyOf_string_mk Tryz.underlying9 h
theorem kS_lit {s : ByteArray} (h : s.size ≤ maxLen) : WideAt.IsKeyLit (kS s) := K9.key (kS_key h)
/-- The datum says the sums of l. -/
structure Says (l : List Fa) (D : DataW Unit) : Prop where
  isM : Maps.IsMap D
  at_ : ∀ s, D.atKey (kS s) (dW 0) = dW (ex l s)
  has : ∀ s, Maps.has D (kS s) = l.any fun x => decide (x.1 = s)
theorem Says.nil : Says [] (.map []) := ⟨⟨[], rfl⟩, fun _ => rfl, fun _ => rfl⟩
theorem ex_snoc (l : List Fa) (x : Fa) (n : ByteArray) : ex (l ++ [x]) n = ex l n + (if x.1 = n then x.2 else 0) := by
  rw [ex_append]
  simp [ex]
theorem Says.put {l : List Fa} {D : DataW Unit} (h : Says l D) (x : Fa) (hx : x.1.size ≤ maxLen) : Says (l ++ [x]) (D.put (kS x.1) (dW (ex l x.1 + x.2))) := by
  refine ⟨h.isM.put _ _, fun s => ?_, fun s => ?_⟩
  · by_cases e : s = x.1
    · subst e
      rw [Maps.atKey_put_same h.isM (kS_lit hx), ex_snoc, if_pos rfl]
    · rw [Maps.atKey_put_other (fun e' => e (kS_inj e')), h.at_, ex_snoc, if_neg (fun e' => e e'.symm), Int.add_zero]
  · rw [List.any_append]
    by_cases e : s = x.1
    · subst e
      rw [Maps.has_put_same h.isM (kS_lit hx)]
      simp
    · rw [Maps.has_put_other (fun e' => e (kS_inj e')), h.has]
      have hne : decide (x.1 = s) = false := decide_eq_false fun e' => e e'.symm
      rw [List.any_cons, hne, List.any_nil, Bool.or_false, Bool.or_false]
def Mp (w : World) (b : Nat) (l : List Fa) : Prop := ∃ D : DataW Unit, w.ownsMap Tryz.prog 9 wElem b l.length D ∧ Says l D
theorem Mp.made (w : World) : Mp (w.alloc (.map #[] 0)) w.heap.size [] := ⟨_, World.ownsMap_made w _ _ _, Says.nil⟩
theorem Mp.lt {w : World} {b : Nat} {l : List Fa} (h : Mp w b l) : b < w.heap.size := by obtain ⟨D, h, _⟩ := h; exact h.lt
theorem Mp.grown {w w' : World} {b : Nat} {l : List Fa} {row : Option Nat} (h : Mp w b l) (hg : w.grownBy w' row) (hne : some b ≠ row) : Mp w' b l := by
  obtain ⟨D, h, s⟩ := h
  exact ⟨D, h.kept hg hne, s⟩
theorem grown_below {w w' : World} (h : Below w.heap.size w w') : w.grownBy w' none := ⟨h.os, h.tape, h.output, h.size, fun i hi _ => h.block i hi⟩
theorem Mp.keeps {w w' : World} {b : Nat} {l : List Fa} (h : Mp w b l) (hb : Below w.heap.size w w') : Mp w' b l := h.grown (grown_below hb) (by simp)
theorem zeroW (w : World) : (zeroValue 138).run Tryz.prog w = .ok (W 0) w := by
  rw [← W_zero]
  exact Tryz.zeroValue138 w
theorem Mp.look {w : World} {b : Nat} {l : List Fa} (h : Mp w b l) (s : ByteArray) (hs : s.size ≤ maxLen) :
    (Instr.lookup 135 (.map (some b)) (.string s) false).run Tryz.prog w = .ok (W (ex l s)) w := by
  obtain ⟨D, h, hS⟩ := h
  obtain ⟨v, ps, hrun, hv⟩ := h.lookup K9 kMap (zeroW w) (wElem_mk 0) (kS_key hs)
  rw [hS.at_] at hv
  rw [hrun, wElem_is hv]
theorem Mp.store {w : World} {b : Nat} {l : List Fa} (h : Mp w b l) (x : Fa) (hs : x.1.size ≤ maxLen) (hl : l.length < maxLen) :
    ∃ w', (Instr.mapUpdate 135 (.map (some b)) (.string x.1) (W (ex l x.1 + x.2))).run Tryz.prog w = .ok () w' ∧ Mp w' b (l ++ [x]) ∧ w.grownBy w' (some b) := by
  obtain ⟨D, h, hS⟩ := h
  obtain ⟨w', hrun, hown, hg⟩ := h.update K9 kMap hl (kS_key hs) (wElem_mk (ex l x.1 + x.2))
  exact ⟨w', hrun, ⟨_, by rw [List.length_append]; exact hown, hS.put x hs⟩, hg⟩
/-- 'm[s] = v' at the operation. -/
theorem wp_store {w : World} {o : Oper} {a : Act} {K : Act → World → Prop} {Q : Exit → Act → World → Prop} (m x v : Operand) (hop : o.op = Op.mapUpdate 135 m x v) (b : Nat) (l : List Fa) (hm : a.eval m = .map (some b)) (h : Mp w b l)
    (y : Fa) (hx : a.eval x = .string y.1) (hv : a.eval v = W (ex l y.1 + y.2)) (hs : y.1.size ≤ maxLen) (hl : l.length < maxLen)
    (hK : ∀ w', Mp w' b (l ++ [y]) → w.grownBy w' (some b) → K (a.put o.dst undef) w') : o.wp Tryz.prog a w K Q := by
  obtain ⟨w', hrun, h1, h2⟩ := h.store y hs hl
  unfold Oper.wp
  simp [execOp, hop, hm, hx, hv, hrun, Result.andThen]
  exact hK w' h1 h2
theorem gcell {w w' : World} {b k o : Nat} {v : Value} (h : w.grownBy w' (some b)) (hne : k ≠ b) (hc : w.cell? ⟨k, o, none⟩ = some v) : w'.cell? ⟨k, o, none⟩ = some v := by
  have hl : k < w.heap.size := block_lt_of_cell hc
  have hb := h.block k hl (by simpa using hne)
  unfold World.cell? at hc ⊢
  rw [hb]
  exact hc
end Go.Proofs.YtbkpjhffmaldmaaGreatDoor.un
namespace Go.Proofs.YtbkpjhffmaldmaaGreatDoor.un
open Go.RowKit dec

structure Pk (l : List Fa) (left : Lit → Bool) (o : List Fa) : Prop where
  mem : ∀ x, x ∈ o ↔ x ∈ nz l ∧ left (kS x.1) = false
  nd : o.Nodup
  ok : ∀ s, (∃ y ∈ l, y.1 = s) → left (kS s) = false → far (ex l s) = false
theorem same_kS {s : ByteArray} (hs : s.size ≤ maxLen) (t : ByteArray) : (kS t).sameKey (kS s) = decide (t = s) := by
  by_cases e : t = s
  · subst e
    rw [decide_eq_true rfl]
    exact WideAt.sameKey_self (kS_lit hs)
  · rw [decide_eq_false e]
    exact Maps.sameKey_ne fun h => e (kS_inj h)
theorem Pk.start {l : List Fa} {D : DataW Unit} (h : Says l D) : Pk l (Maps.has D) [] := by
  have hh : ∀ s, (∃ y ∈ l, y.1 = s) → Maps.has D (kS s) = true := fun s hs => by
    rw [h.has, List.any_eq_true]
    obtain ⟨y, hy, e⟩ := hs
    exact ⟨y, hy, decide_eq_true e⟩
  refine ⟨fun x => ⟨fun hx => (by cases hx), fun ⟨h1, h2⟩ => ?_⟩, .nil, fun s hs h2 => ?_⟩
  · obtain ⟨a, b⟩ := mem_nz.1 h1
    rw [hh x.1 (ex_mem (a ▸ b))] at h2
    cases h2
  · rw [hh s hs] at h2
    cases h2
theorem Pk.skip {l : List Fa} {left : Lit → Bool} {o : List Fa} (h : Pk l left o) {s : ByteArray} (hs : s.size ≤ maxLen) (hf : far (ex l s) = false) (h0 : ex l s = 0) : Pk l (fun z => left z && !z.sameKey (kS s)) o := by
  refine ⟨fun x => ?_, h.nd, fun t ht h2 => ?_⟩
  · rw [h.mem]
    constructor
    · rintro ⟨a, b⟩
      exact ⟨a, by rw [b]; rfl⟩
    · rintro ⟨a, b⟩
      refine ⟨a, ?_⟩
      rw [same_kS hs] at b
      by_cases e : x.1 = s
      · exfalso
        obtain ⟨p, q⟩ := mem_nz.1 a
        rw [e, h0] at p
        exact q p
      · rw [decide_eq_false e, Bool.not_false, Bool.and_true] at b
        exact b
  · rw [same_kS hs] at h2
    by_cases e : t = s
    · rw [e]; exact hf
    · rw [decide_eq_false e, Bool.not_false, Bool.and_true] at h2
      exact h.ok t ht h2
theorem Pk.push {l : List Fa} {left : Lit → Bool} {o : List Fa} (h : Pk l left o) {s : ByteArray} (hs : s.size ≤ maxLen) (hl : left (kS s) = true) (hf : far (ex l s) = false) (h0 : ex l s ≠ 0) : Pk l (fun z => left z && !z.sameKey (kS s)) (o ++ [(s, ex l s)]) := by
  refine ⟨fun x => ?_, ?_, fun t ht h2 => ?_⟩
  · rw [List.mem_append, List.mem_singleton, h.mem]
    constructor
    · rintro (⟨a, b⟩ | rfl)
      · exact ⟨a, by rw [b]; rfl⟩
      · exact ⟨mem_nz.2 ⟨rfl, h0⟩, by rw [same_kS hs, decide_eq_true rfl]; simp⟩
    · rintro ⟨a, b⟩
      rw [same_kS hs] at b
      by_cases e : x.1 = s
      · refine .inr (Prod.ext e ?_)
        rw [(mem_nz.1 a).1, e]
      · rw [decide_eq_false e, Bool.not_false, Bool.and_true] at b
        exact .inl ⟨a, b⟩
  · rw [List.nodup_append]
    refine ⟨h.nd, by simp, fun a ha b hb e => ?_⟩
    rw [List.mem_singleton] at hb
    subst e
    have := ((h.mem a).1 ha).2
    rw [hb] at this
    rw [hl] at this
    cases this
  · rw [same_kS hs] at h2
    by_cases e : t = s
    · rw [e]; exact hf
    · rw [decide_eq_false e, Bool.not_false, Bool.and_true] at h2
      exact h.ok t ht h2
theorem srt_ne {l : List Fa} (h : Srt l) : l.Pairwise fun x y => x.1 ≠ y.1 := h.imp fun h => ltS_ne h
theorem Pk.done {l : List Fa} {left : Lit → Bool} {o s : List Fa} (h : Pk l left o) (hl : ∀ z, left z = false) (hp : s.Perm o) (hs : WSrt s) : s = nz l := by
  have hm : ∀ x, x ∈ s ↔ x ∈ nz l := fun x => by
    rw [hp.mem_iff, h.mem, hl]
    simp
  have hn : s.Nodup := hp.nodup_iff.2 h.nd
  have hne : s.Pairwise fun x y => x.1 ≠ y.1 := hn.imp_of_mem fun {a b} ha hb hab e => by
    have e1 := (mem_nz.1 ((hm a).1 ha)).1
    have e2 := (mem_nz.1 ((hm b).1 hb)).1
    exact hab (Prod.ext e (by rw [e1, e2, e]))
  have hS : Srt s := hs.imp₂ (fun a b h1 h2 => ltS_tri h1 (fun e => h2 e.symm)) hne
  exact srt_ext (hS.imp fun h => h) (srt_nz l) hm
theorem Pk.len {l : List Fa} {left : Lit → Bool} {o : List Fa} (h : Pk l left o) (hl : ∀ z, left z = false) : o.length = (nz l).length := by
  have hn : (nz l).Nodup := (srt_ne (srt_nz l)).imp fun h e => h (by rw [e])
  refine ((List.perm_ext_iff_of_nodup h.nd hn).2 fun x => ?_).length_eq
  rw [h.mem, hl]
  simp
theorem far_out {x : Int} (h : rg x = false) : far x = true := by
  rw [rg_no] at h
  unfold far
  exact decide_eq_true (by omega)
theorem Pk.all {l : List Fa} {left : Lit → Bool} {o : List Fa} (h : Pk l left o) (hl : ∀ z, left z = false) : anyFar l = false := by
  cases hf : anyFar l
  · rfl
  · obtain ⟨n, hn⟩ := (anyFar_iff l).1 hf
    rw [h.ok n (ex_mem fun e => by rw [e] at hn; cases hn) (hl _)] at hn
    cases hn
theorem ex_bound : ∀ (l : List Fa) (s : ByteArray), (∀ x ∈ l, -9223372036854775808 ≤ x.2 ∧ x.2 ≤ 9223372036854775807) → -9223372036854775808 * (l.length : Int) ≤ ex l s ∧ ex l s ≤ 9223372036854775808 * (l.length : Int)
  | [], s, _ => by simp [ex]
  | x :: l, s, h => by
    have ih := ex_bound l s fun y hy => h y (List.mem_cons_of_mem _ hy)
    have hx := h x (List.mem_cons_self ..)
    simp only [ex, List.length_cons]
    push_cast
    split <;> omega
theorem ex_in {l : List Fa} (s : ByteArray) (h : ∀ x ∈ l, -9223372036854775808 ≤ x.2 ∧ x.2 ≤ 9223372036854775807) (hl : l.length < 5864062014805) : In (ex l s) := by
  have := ex_bound l s h
  unfold In
  omega
theorem key_str {key : Value} {kl : Lit} (h : keyOf Tryz.prog 9 key = some kl) : ∃ s : ByteArray, key = .string s ∧ kl = kS s ∧ s.size ≤ maxLen := by
  cases key <;> simp [keyOf, Tryz.underlying9, mapKey] at h
  rename_i s
  obtain ⟨h1, h2⟩ := h
  exact ⟨s, rfl, h2.symm, h1⟩
/-- The step of the range: some name that is left, with its sum. -/
theorem wpList_next_map (w : World) {ops : Array Oper} {rest : List Oper} {o : Oper} {a : Act} {Q : Exit → Act → World → Prop} (hg : o.guard = none) (it : Operand) (hop : o.op = Op.next it false) (b r n : Nat) (D : DataW Unit) (l : List Fa) (hS : Says l D) (left : Lit → Bool) (cnt : Nat)
    (hit : a.eval it = .pointer (some ⟨r, 0, none⟩)) (h : w.ranges Tryz.prog 9 wElem b r n D left cnt)
    (hDone : cnt = 0 → (∀ kl, left kl = false) → wpList Tryz.prog ops Q rest (a.put o.dst (.tuple #[.bool false])) w)
    (hMore : ∀ (s : ByteArray) (w' : World) (cnt' : Nat), s.size ≤ maxLen → left (kS s) = true → w'.ranges Tryz.prog 9 wElem b r n D (fun z => left z && !z.sameKey (kS s)) cnt' → cnt' < cnt → w.grownBy w' (some r) → w'.heap.size = w.heap.size →
      (Instr.entry (.pointer (some ⟨r, 0, none⟩))).run Tryz.prog w' = .ok (.tuple #[.string s, .agg #[.int .i64 (hi (ex l s)), .int .u64 (lo (ex l s))]]) w' → wpList Tryz.prog ops Q rest (a.put o.dst (.tuple #[.bool true, .string s, .agg #[.int .i64 (hi (ex l s)), .int .u64 (lo (ex l s))]])) w') :
    wpList Tryz.prog ops Q (o :: rest) a w :=
  wpList_next_ranges w hg it hop 9 K9 wElem (fun s : ByteArray => Value.string s) (fun c : Int × Int => .agg #[.int .i64 c.1, .int .u64 c.2])
    (fun key kl hk => by obtain ⟨s, e, _⟩ := key_str hk; exact ⟨s, e⟩) (fun v y hv => by obtain ⟨c, e, _⟩ := wElem_inv hv; exact ⟨c, e⟩) b r n D left cnt hit h hDone
    (fun x c kl y w' cnt' hkey hlk hv hat hrg hlt hgr hsz hen => by
      obtain ⟨s, e, rfl, hs⟩ := key_str hkey
      obtain rfl : x = s := by injection e
      obtain ⟨yd, yp⟩ := y
      have hy := hat (dW 0)
      rw [hS.at_] at hy
      have hy' : yd = dW (ex l x) := hy.symm
      subst hy'
      have hc := wElem_is hv
      have : (.agg #[.int .i64 c.1, .int .u64 c.2] : Value) = .agg #[.int .i64 (hi (ex l x)), .int .u64 (lo (ex l x))] := hc
      rw [this] at hen
      have := hMore x w' cnt' hs hlk hrg hlt hgr hsz hen
      rw [show (.agg #[.int .i64 c.1, .int .u64 c.2] : Value) = .agg #[.int .i64 (hi (ex l x)), .int .u64 (lo (ex l x))] from hc]
      exact this)
theorem Says.left {l : List Fa} {D : DataW Unit} (h : Says l D) {s : ByteArray} (hs : Maps.has D (kS s) = true) : ∃ y ∈ l, y.1 = s := by
  rw [h.has, List.any_eq_true] at hs
  obtain ⟨y, hy, e⟩ := hs
  exact ⟨y, hy, of_decide_eq_true e⟩
theorem ranges_below {w w' : World} {b r n : Nat} {D : DataW Unit} {left : Lit → Bool} {cnt : Nat} (h : w.ranges Tryz.prog 9 wElem b r n D left cnt) (hb : Below w.heap.size w w') : w'.ranges Tryz.prog 9 wElem b r n D left cnt := h.kept (grown_below hb) (by simp) (by simp)
theorem ranges_base {w w' : World} {b r n base : Nat} {D : DataW Unit} {left : Lit → Bool} {cnt : Nat} (h : w.ranges Tryz.prog 9 wElem b r n D left cnt) (hb : Below base w w') (h1 : b < base) (h2 : r < base) : w'.ranges Tryz.prog 9 wElem b r n D left cnt := by
  obtain ⟨es, clock, since, seen, c0, k1, F, hs, hD, hr, rest⟩ := h
  exact ⟨es, clock, since, seen, c0, (hb.block b h1).trans k1, F, hs, hD, (hb.block r h2).trans hr, rest⟩
end Go.Proofs.YtbkpjhffmaldmaaGreatDoor.un
namespace Go.Proofs.YtbkpjhffmaldmaaGreatDoor.dec
open Go.RowKit

theorem add64 (x y : Int) (hx : 0 ≤ x) (hy : 0 ≤ y) (w : World) : (callFunc 144 #[.int .u64 x, .int .u64 y, .int .u64 0]).run Tryz.prog w =
    .ok (.value (.tuple #[.int .u64 ((x + y) % 18446744073709551616), .int .u64 ((x + y) / 18446744073709551616)])) w := by
  rw [run_callFunc_extern Tryz.func144 (by kernel_rfl) (by kernel_rfl) (by kernel_rfl) (e := add64Entry) (by kernel_rfl), run_add64 x y 0 hx hy (Int.le_refl 0) (by decide)]
  simp only [Result.andThen, Int.add_zero]

/-- exact.Add. -/
theorem add_any {x y : Value} {a b : Int} (hx : x = W a) (hy : y = W b) (w : World) :
    Calls Tryz.prog 119 #[x, y] w fun e w' => e = .returned (W (a + b)) ∧ ∃ c1 c2 c3 : Array Value, w' = ((w.alloc (.cells c1 138)).alloc (.cells c2 138)).alloc (.cells c3 138) := by
  subst hx hy
  have ra := lo_range a; have rb := lo_range b; have ha := hi_range a; have hb := hi_range b
  have k0 : 0 ≤ (lo a + lo b) / 18446744073709551616 := by omega
  have k1 : (lo a + lo b) / 18446744073709551616 ≤ 1 := by omega
  obtain ⟨ra1, ra2⟩ := ra; obtain ⟨rb1, rb2⟩ := rb; obtain ⟨ha1, ha2⟩ := ha; obtain ⟨hb1, hb2⟩ := hb
  unfold W
  go_enter Tryz.func119, Tryz.ntmps119
  go_wp2_with (simp only [add64 (lo a) (lo b) ra1 rb1])
  simp [bodyPost, results, Tryz.results119, go_sem]
  exact ⟨⟨add_hi a b, add_lo a b⟩, _, _, _, rfl⟩

theorem add_b {x y : Value} {a b : Int} (hx : x = W a) (hy : y = W b) (w : World) :
    Calls Tryz.prog 119 #[x, y] w fun e w' => e = .returned (W (a + b)) ∧ Below w.heap.size w w' :=
  (add_any hx hy w).mono fun _ _ ⟨he, _, _, _, hw⟩ => ⟨he, hw ▸ balloc (balloc (balloc (b0 w) _) _) _⟩

end Go.Proofs.YtbkpjhffmaldmaaGreatDoor.dec
namespace Go.Proofs.YtbkpjhffmaldmaaGreatDoor.un
open Go.RowKit dec

theorem sortBy_any (base : Nat) (v : Value) (l : List Fa) (w : World) (hO : Own w base v l) (hn : l.length < 5864062014805) (hb : base ≤ w.heap.size) :
    Calls Tryz.prog 122 #[v, .func (.func 123) #[] #[]] w fun e w' => e = .returned (.tuple #[]) ∧ ∃ a cap s, v = .slice a l.length cap ∧ s.Perm l ∧ WSrt s ∧ Sl w' a l.length cap s ∧ (∀ x, a = some x → base ≤ x.block ∧ ∃ cs fr, w'.heap[x.block]? = some (.cells cs 66 fr)) ∧ Below base w w' := by
  have C := Lib.hid (fun W h1 h2 h3 h4 => sort_any base v l w.heap.size W h1 hn h2 h3 h4)
  have hO1 := hO.keeps (balloc (b0 w) (.cells #[.func (.func 123) #[] #[]] 143))
  have hlt : ∀ g, v.ownBlock = some g → w.heap.size ≠ g := fun g hg => by have := (hO.lt g hg).2; omega
  have hb1 : Below base w (w.alloc (.cells #[.func (.func 123) #[] #[]] 143)) := (balloc (b0 w) _).mono hb
  have O := Lib.hid hO1
  have L := Lib.hid hlt
  have B := Lib.hid hb1
  clear hO hO1 hlt hb1
  go_enter Tryz.func122, Tryz.ntmps122
  go_wp2_with fail
  refine (C.out _ O.out (by simp; omega) (by simp [go_sem]) L.out).mono ?_
  rintro e w1 ⟨rfl, a, cap, s, rfl, h1, h2, h3, h4, h5⟩
  go_wp2_with fail
  go_end0
  exact ⟨rfl, a, cap, s, rfl, h1, h2, h3, h4, B.out.trans h5⟩
/-- A slice that is handed back and holds l. -/
def Out (base : Nat) (w : World) (v : Value) (l : List Fa) : Prop := ∃ a cap, v = .slice a l.length cap ∧ Sl w a l.length cap l ∧ ∀ x, a = some x → base ≤ x.block ∧ ∃ cs fr, w.heap[x.block]? = some (.cells cs 66 fr)
theorem Out.nil (base : Nat) (w : World) : Out base w (.slice none 0 0) [] := ⟨none, 0, rfl, .nil _, fun _ h => by cases h⟩
theorem below_up2 {mb : Nat} {w wr : World} (h : Below mb w wr) (e : w.heap.size = mb) (o : Obj) : Below mb w (wr.alloc o) := h.alloc (by have := h.size; omega) o
theorem World.grownBy_drew' (w : World) {row : Option Nat} : w.grownBy w.drew row := ⟨rfl, rfl, rfl, Nat.le_refl _, fun _ _ _ => rfl⟩
theorem below_grown {W w' : World} {mb : Nat} (h : W.grownBy w' (some mb)) (hm : mb ≤ W.heap.size) : Below mb W w' := ⟨h.os, h.tape, h.output, h.size, fun i hi => h.block i (by omega) (by simp; omega)⟩
theorem below_grown_none {W w w' : World} {mb : Nat} (h : Below mb W w) (hg : w.grownBy w' none) (hm : W.heap.size = mb) : Below mb W w' := h.trans ⟨hg.os, hg.tape, hg.output, hg.size, fun i hi => hg.block i (by have := h.size; omega) (by simp)⟩
theorem below_r {W w w' : World} {mb r : Nat} (h : Below mb W w) (hg : w.grownBy w' (some r)) (hm : W.heap.size = mb) (hr : mb ≤ r) : Below mb W w' := h.trans ⟨hg.os, hg.tape, hg.output, hg.size, fun i hi => hg.block i (by have := h.size; omega) (by simp; omega)⟩
theorem own_r {w w' : World} {r : Nat} {v : Value} {l : List Fa} (h : Own w (r + 1) v l) (hg : w.grownBy w' (some r)) : Own w' (r + 1) v l := by
  obtain ⟨h1, h2⟩ := h
  refine ⟨h1, ?_⟩
  rcases h2 with h0 | ⟨g, cap, cur, e, hbg, hh, r⟩
  · exact .inl h0
  · refine .inr ⟨g, cap, cur, e, hbg, ?_, r⟩
    have : g < w.heap.size := by
      rcases Nat.lt_or_ge g w.heap.size with h' | h'
      · exact h'
      · rw [Array.getElem?_eq_none h'] at hh; cases hh
    rw [hg.block _ this (by simp; omega)]
    exact hh
theorem below_up3 {mb : Nat} {w wr w' : World} (h : Below mb w wr) (e : w.heap.size = mb) (b : Below wr.heap.size wr w') : Below mb w w' := h.trans (b.mono (by have := h.size; omega))
theorem take_mp {w : World} {b : Nat} {l : List Fa} {j : Nat} {x : Fa} (h : j < l.length) (e : gt l j = x) (M : Mp w b (l.take j ++ [x])) : Mp w b (l.take (j + 1)) := by
  rw [take_gt h, e]
  exact M
theorem wds_take {l : List Fa} {j : Nat} (h : j < l.length) (hw : word (gt l j).1 = false) : wds l = false := by
  cases hv : wds l
  · rfl
  · rw [wds_iff.1 hv _ (gt_mem h)] at hw
    cases hw
theorem wds_next {l : List Fa} {j : Nat} (h : j < l.length) (h1 : wds (l.take j) = true) (hw : word (gt l j).1 = true) : wds (l.take (j + 1)) = true := by
  rw [take_gt h, wds_append, h1]
  simp [wds, hw]
theorem nE_one {l : List Fa} (h : wds l = false) : nE l = 1 ∧ nL l = [] := by
  have e : nE l = 1 := by unfold nE; rw [h]; rfl
  exact ⟨e, by unfold nL; rw [e]; rfl⟩
theorem nE_far {l : List Fa} (h : wds l = true) (hf : anyFar l = true) : nE l = 70 ∧ nL l = [] := by
  have e : nE l = 70 := by unfold nE; rw [h, hf]; rfl
  exact ⟨e, by unfold nL; rw [e]; rfl⟩
set_option maxRecDepth 100000 in
set_option maxHeartbeats 4000000 in
theorem normal_any (a : Option Addr) (n cap : Nat) (l : List Fa) (w : World) (hS : Sl w a n cap l) (hx : ∀ x ∈ l, -9223372036854775808 ≤ x.2 ∧ x.2 ≤ 9223372036854775807) (hlen : l.length < 5864062014805) :
    Calls Tryz.prog 87 #[.slice a n cap] w fun e w' => ∃ v, e = .returned (.tuple #[v, .int .i64 (nE l)]) ∧ Out w.heap.size w' v (nL l) ∧ Below w.heap.size w w' := by
  have W1 := Lib.hid isWord_any
  have S0 := Lib.hid hS
  have X0 := Lib.hid hx
  have N0 := Lib.hid hlen
  have M0 := Lib.hid (Mp.made w)
  have B0 := Lib.hid (balloc (b0 w) (.map #[] 0))
  have hmm := @run_makeMap Tryz.prog
  have hmm := @run_makeMap Tryz.prog
  have hmm := @run_makeMap Tryz.prog
  have hmm := @run_makeMap Tryz.prog
  have hmm := @run_makeMap Tryz.prog
  have hmm := @run_makeMap Tryz.prog
  have hmm := @run_makeMap Tryz.prog
  have hmm := @run_makeMap Tryz.prog
  have hmm := @run_makeMap Tryz.prog
  have hmm := @run_makeMap Tryz.prog
  have hmm := @run_makeMap Tryz.prog
  have hmm := @run_makeMap Tryz.prog
  clear hS hx hlen
  go_enter Tryz.func87, Tryz.ntmps87
  go_wp2_with fail
  generalize hmb : w.heap.size = mb at *
  have Mge := Lib.hid hmb
  clear hmb
  go_loopw [2, 14] (fun vu vi wr => ∃ j : Nat, vu = .slice none 0 0 ∧ vi = .int .i64 (j : Nat) ∧ Hid (j ≤ n) ∧ Hid (wds (l.take j) = true) ∧ Hid (Mp wr mb (l.take j)) ∧ Hid (Below mb w wr)) (fun _ vi _ => n - (intOf vi).toNat)
  case atStart => exact ⟨0, rfl, rfl, Lib.hid (Nat.zero_le _), Lib.hid rfl, M0, B0⟩
  case round =>
    obtain ⟨j, rfl, rfl, hj, hd, hM, hb⟩ := hrel
    by_cases hc : j < n
    · have hln := Lib.hid (show j < l.length by have := S0.out.hn; omega)
      obtain ⟨bk, off, rfl, hC⟩ := (S0.out.keeps (hb.out.mono (by have := Mge.out; omega))).hat.resolve_left (by have := hln.out; omega)
      obtain ⟨c0, c1⟩ := hC j hln.out
      have q2 : decide ((j : Int) < (n : Int)) = true := decide_eq_true (by omega)
      have q3 : j < n := hc
      have f4 := Lib.hid (next_at (j := j) (by have := S0.out.hcap; have := S0.out.hmax; omega))
      have hwn := Lib.hid (wds_next hln.out hd.out)
      have hwt := Lib.hid (wds_take hln.out)
      have hxr := Lib.hid (X0.out _ (gt_mem hln.out))
      have hxx := Lib.hid (rfl : gt l j = gt l j)
      clear hC
      generalize hgx : (gt l j) = x at c0 c1 hwn hwt hxr
      replace hxx := Lib.hid hgx
      clear hgx
      have HX := Lib.hid (Bw.new wr x 66)
      cases hw : word x.1
      · have hr := Lib.hid (nE_one (hwt.out hw))
        go_wp2_with fail
        refine (W1.out _ _).mono ?_
        rintro e w' ⟨rfl, rfl⟩
        go_wp2_with fail
        go_ret2
        refine ⟨.slice none 0 0, by rw [hr.out.1]; rfl, by rw [hr.out.2]; exact Out.nil _ _, ?_⟩
        have := below_up2 hb.out Mge.out (.cells #[.string x.1, .int .i64 x.2] 66)
        exact Mge.out ▸ this
      · have HW := Lib.hid (hwn.out hw)
        have hsz := Lib.hid (show x.1.size ≤ maxLen by have := word_size hw; unfold maxLen; omega)
        have OC := Lib.hid (fun W => of_b x.2 W hxr.out.1 hxr.out.2)
        have AC := Lib.hid (fun W => add_b (x := dec.W (ex (l.take j) x.1)) (y := dec.W x.2) (a := ex (l.take j) x.1) (b := x.2) rfl rfl W)
        clear hwn hwt
        go_wp2_with fail
        refine (W1.out _ _).mono ?_
        rintro e w' ⟨rfl, rfl⟩
        go_wp2_with fail
        have M7 := Lib.hid ((hM.out.keeps (balloc (b0 wr) (.cells #[.string x.1, .int .i64 x.2] 66))).grown (World.grownBy_drew' (row := none) _) (by simp))
        have C0 := Lib.hid (HX.out.c0)
        have C1 := Lib.hid (HX.out.c1)
        have G0 := Lib.hid (show wr.heap.size ≠ mb by have := hM.out.lt; omega)
        have hbn := Lib.hid (below_up2 hb.out Mge.out (.cells #[.string x.1, .int .i64 x.2] 66))
        replace hb := hbn
        clear hbn HX hM c0 c1 S0
        generalize wr.heap.size = g6 at *
        generalize wr.alloc (.cells #[.string x.1, .int .i64 x.2] 66) = W at *
        have GD := Lib.hid (World.grownBy_drew' (row := some mb) W)
        have MW := Lib.hid (show mb ≤ W.heap.size from Nat.le_of_lt M7.out.lt)
        refine wp_region_noPanic ?_
        refine wp_region_held_drew (S := fun w' => W.grownBy w' (some mb)) (by kernel_rfl) GD.out (fun hH => ?_)
        refine held_take (i := 0) (d := 22) (v := ?_) rfl (by kernel_rfl) (by kernel_rfl) (by kernel_rfl) rfl (fun _ _ _ h => h) rfl hH (fun w' hS => ?_) ?_
        rotate_left
        · go_simp; first | done | with_reducible rfl
        simp only [List.set_cons_zero, List.set_cons_succ]
        refine held_take (i := 1) (d := 23) (v := ?_) rfl (by kernel_rfl) (by kernel_rfl) (by kernel_rfl) rfl (fun _ _ _ h => h) rfl hH (fun w' hS => ?_) ?_
        rotate_left
        · go_simp; first | done | with_reducible rfl
        simp only [List.set_cons_zero, List.set_cons_succ]
        refine held_take (i := 2) (d := 24) (v := ?_) rfl (by kernel_rfl) (by kernel_rfl) (by kernel_rfl) rfl (fun _ _ _ h => h) rfl hH (fun w' hS => ?_) ?_
        rotate_left
        · have e0 := gcell hS G0.out C0.out; go_simp; first | done | with_reducible rfl
        simp only [List.set_cons_zero, List.set_cons_succ]
        refine held_take (i := 3) (d := 25) (v := ?_) rfl (by kernel_rfl) (by kernel_rfl) (by kernel_rfl) rfl (fun _ _ _ h => h) rfl hH (fun w' hS => ?_) ?_
        rotate_left
        · go_simp; first | done | with_reducible rfl
        simp only [List.set_cons_zero, List.set_cons_succ]
        refine held_take (i := 4) (d := 26) (v := ?_) rfl (by kernel_rfl) (by kernel_rfl) (by kernel_rfl) rfl (fun _ _ _ h => h) rfl hH (fun w' hS => ?_) ?_
        rotate_left
        · go_simp; first | done | with_reducible rfl
        simp only [List.set_cons_zero, List.set_cons_succ]
        refine held_take (i := 5) (d := 27) (v := ?_) rfl (by kernel_rfl) (by kernel_rfl) (by kernel_rfl) rfl (fun _ _ _ h => h) rfl hH (fun w' hS => ?_) ?_
        rotate_left
        · have e0 := gcell hS G0.out C0.out; go_simp; first | done | with_reducible rfl
        simp only [List.set_cons_zero, List.set_cons_succ]
        refine held_take (i := 7) (d := 29) (v := ?_) rfl (by kernel_rfl) (by kernel_rfl) (by kernel_rfl) rfl (fun _ _ _ h => h) rfl hH (fun w' hS => ?_) ?_
        rotate_left
        · go_simp; first | done | with_reducible rfl
        simp only [List.set_cons_zero, List.set_cons_succ]
        refine held_take (i := 8) (d := 30) (v := ?_) rfl (by kernel_rfl) (by kernel_rfl) (by kernel_rfl) rfl (fun _ _ _ h => h) rfl hH (fun w' hS => ?_) ?_
        rotate_left
        · have e1 := gcell hS G0.out C1.out; go_simp; first | done | with_reducible rfl
        simp only [List.set_cons_zero, List.set_cons_succ]
        refine held_two (i := 6) (j := 9) rfl rfl (by kernel_rfl) rfl rfl (fun K hK => ?_) (fun K hK => ?_)
        · have hlk := M7.out.look x.1 hsz.out
          go_simp
          refine hK.out _ _ hH (fun hH => ?_)
          clear hK K hlk
          refine held_only (i := 9) rfl (by kernel_rfl) rfl (fun K hK => ?_)
          go_simp
          refine (OC.out _).mono ?_
          rintro e w6 ⟨rfl, b6⟩
          replace M7 := Lib.hid (M7.out.keeps b6)
          refine hK.out _ _ (hH.andThen (grown_below b6) (fun j hj => by cases hj)) (fun hH => ?_)
          clear hK K b6
          refine held_only (i := 10) rfl (by kernel_rfl) rfl (fun K hK => ?_)
          go_simp
          refine (AC.out _).mono ?_
          rintro e w8 ⟨rfl, b8⟩
          have M8 := Lib.hid (M7.out.keeps b8)
          refine hK.out _ _ (hH.andThen (grown_below b8) (fun j hj => by cases hj)) (fun hH => ?_)
          clear hK K b8
          refine held_only (i := 11) rfl (by kernel_rfl) rfl (fun K hK => ?_)
          refine wp_store (.tmp 22) (.tmp 24) (.tmp 32) rfl mb (l.take j) rfl M8.out x rfl rfl hsz.out (by have := N0.out; rw [List.length_take]; unfold maxLen; omega) ?_
          intro w9 M9 g9
          refine hK.out _ _ (hH.andThen g9 (fun j hj => .inr hj)) (fun hH => ?_)
          clear hK K g9
          refine wpAnyH_done (by kernel_rfl) ?_ _
          refine noPanic_of ?_
          have hbn := Lib.hid (hb.out.trans (below_grown hH MW.out))
          clear hH
          go_wp2_with fail
          refine ⟨⟨j + 1, rfl, congrArg (Value.int .i64) f4.out, Lib.hid hc, HW, Lib.hid (take_mp hln.out hxx.out M9), hbn⟩, less_at hc f4.out⟩
        · go_simp
          refine (OC.out _).mono ?_
          rintro e w6 ⟨rfl, b6⟩
          replace M7 := Lib.hid (M7.out.keeps b6)
          refine hK.out _ _ (hH.andThen (grown_below b6) (fun j hj => by cases hj)) (fun hH => ?_)
          clear hK K b6
          refine held_only (i := 6) rfl (by kernel_rfl) rfl (fun K hK => ?_)
          have hlk := M7.out.look x.1 hsz.out
          go_simp
          refine hK.out _ _ hH (fun hH => ?_)
          clear hK K hlk
          refine held_only (i := 10) rfl (by kernel_rfl) rfl (fun K hK => ?_)
          go_simp
          refine (AC.out _).mono ?_
          rintro e w8 ⟨rfl, b8⟩
          have M8 := Lib.hid (M7.out.keeps b8)
          refine hK.out _ _ (hH.andThen (grown_below b8) (fun j hj => by cases hj)) (fun hH => ?_)
          clear hK K b8
          refine held_only (i := 11) rfl (by kernel_rfl) rfl (fun K hK => ?_)
          refine wp_store (.tmp 22) (.tmp 24) (.tmp 32) rfl mb (l.take j) rfl M8.out x rfl rfl hsz.out (by have := N0.out; rw [List.length_take]; unfold maxLen; omega) ?_
          intro w9 M9 g9
          refine hK.out _ _ (hH.andThen g9 (fun j hj => .inr hj)) (fun hH => ?_)
          clear hK K g9
          refine wpAnyH_done (by kernel_rfl) ?_ _
          refine noPanic_of ?_
          have hbn := Lib.hid (hb.out.trans (below_grown hH MW.out))
          clear hH
          go_wp2_with fail
          refine ⟨⟨j + 1, rfl, congrArg (Value.int .i64) f4.out, Lib.hid hc, HW, Lib.hid (take_mp hln.out hxx.out M9), hbn⟩, less_at hc f4.out⟩
    · have hjn : j = n := by have := hj.out; omega
      have htl : l.take j = l := by rw [hjn, ← S0.out.hn, List.take_length]
      have q1 : decide ((j : Int) < (n : Int)) = false := decide_eq_false (by omega)
      have hW := Lib.hid (show wds l = true by rw [← htl]; exact hd.out)
      subst hjn
      have hM2 := hM.out
      rw [htl] at hM2
      obtain ⟨D, hown0, hsay0⟩ := hM2
      have hown := Lib.hid hown0
      have hsay := Lib.hid hsay0
      have hmr := Lib.hid hown0.lt
      clear hown0 hsay0 hM hd htl hj hc M0 B0 hmm
      go_wp2_with (first | (at_range; refine wpList_range_own _ rfl _ 135 rfl 9 138 K9 kMap _ mb l.length D rfl hown.out ?_; intro w0 hrg0 hg0 hs0) | fail)
      go_frame
      have hb2 := Lib.hid (below_grown_none hb.out hg0 Mge.out)
      have hsz2 := Lib.hid hs0
      have R0 := Lib.hid hrg0
      have hcn := Lib.hid (hown.out.size_le)
      clear hrg0 hg0 hs0 hown hb
      generalize wr.heap.size = r at *
      go_loopw [2] (fun vu wx => ∃ (o : List Fa) (left : Lit → Bool) (cnt : Nat), Hid (Own wx (r + 1) vu o) ∧ Hid (wx.ranges Tryz.prog 9 wElem mb r l.length D left cnt) ∧ Hid (Pk l left o) ∧ Hid (∀ z, left z = true → Maps.has D z = true) ∧ Hid (o.length + cnt ≤ l.length) ∧ Hid (Below mb w wx) ∧ Hid (r + 1 ≤ wx.heap.size)) (fun _ wx => wx.rangeLeft mb r)
      case atStart => exact ⟨[], _, _, Lib.hid (Own.nil _ _), R0, Lib.hid (Pk.start hsay.out), Lib.hid (fun _ h => h), Lib.hid (by simpa using hcn.out), hb2, Lib.hid (by have := hsz2.out; omega)⟩
      case round =>
        obtain ⟨o, left, cnt, hO, hR, hP, hL, hC, hB, hZ⟩ := hrel
        go_wp2_with (first | (at_next; refine wpList_next_map _ rfl _ rfl mb r l.length D l hsay.out left cnt rfl hR.out ?_ ?_) | fail)
        · intro hc0 hl0
          have hl := Lib.hid hl0
          have hlen := Lib.hid (hP.out.len hl0)
          have hall := hP.out.all hl0
          have hE := Lib.hid (show nE l = if 4 < o.length then 2 else 0 by unfold nE; rw [hW.out, hall, if_pos rfl, if_neg Bool.false_ne_true, hlen.out])
          have hol := Lib.hid (show o.length < 5864062014805 by have := N0.out; have := hC.out; omega)
          have SC := Lib.hid (fun W (h : Below wr.heap.size wr W) h1 => sortBy_any (r + 1) u2 o W (hO.out.keeps h) hol.out h1)
          obtain ⟨a2, cap2, rfl, S2⟩ := hO.out.sl
          have S2h := Lib.hid S2
          clear S2 hc0 hl0 hall hR hL hC hO
          by_cases h4 : 4 < o.length
          · have q4 : decide (4 < (o.length : Int)) = true := decide_eq_true (by omega)
            rw [if_pos h4] at hE
            go_wp2_with fail
            go_ret2
            exact ⟨.slice none 0 0, by rw [hE.out]; rfl, by unfold nL; rw [hE.out]; exact Out.nil _ _, Mge.out ▸ hB.out⟩
          · have q4 : decide (4 < (o.length : Int)) = false := decide_eq_false (by omega)
            rw [if_neg h4] at hE
            go_wp2_with fail
            refine (SC.out _ (b0 _) hZ.out).mono ?_
            rintro e w9 ⟨rfl, a3, cap3, s3, hv, hp3, hs3, hS3, hfr3, hb3⟩
            cases hv
            have hz3 := hP.out.done hl.out hp3 hs3
            have hn3 := Lib.hid (show nL l = s3 by unfold nL; rw [if_pos hE.out, hz3])
            have hl3 := Lib.hid (show o.length = s3.length from hp3.length_eq.symm)
            have HS3 := Lib.hid hS3
            have HF3 := Lib.hid (show ∀ x, a2 = some x → w.heap.size ≤ x.block ∧ ∃ cs fr, w9.heap[x.block]? = some (.cells cs 66 fr) from fun x hx => ⟨by have h1 := (hfr3 x hx).1; have h2 := hmr.out; have h3 := Mge.out; omega, (hfr3 x hx).2⟩)
            have HB3 := Lib.hid (Mge.out ▸ hB.out.trans (hb3.mono (by have := hmr.out; omega)) : Below w.heap.size w w9)
            clear hS3 hfr3 hb3 hz3
            go_wp2_with fail
            go_ret2
            exact ⟨.slice a2 o.length cap2, by rw [hE.out]; rfl, by rw [hn3.out]; exact ⟨a2, cap2, by rw [← hl3.out], by rw [← hl3.out]; exact HS3.out, HF3.out⟩, HB3.out⟩
        · intro s w2 cnt2 hss hls hrg2 hlt hg2 hs2 hen
          have hss' := Lib.hid hss
          have hls' := Lib.hid hls
          have R2 := Lib.hid hrg2
          have hlt' := Lib.hid hlt
          have Z2 := Lib.hid (show r + 1 ≤ w2.heap.size by rw [hs2]; exact hZ.out)
          have B2 := Lib.hid (below_r hB.out hg2 Mge.out (by have := hmr.out; omega))
          have O2 := Lib.hid (own_r hO.out hg2)
          have hin := Lib.hid (ex_in s X0.out N0.out)
          have DC := Lib.hid (fun W => divide_any (y := .agg #[.int .i64 (hi (ex l s)), .int .u64 (lo (ex l s))]) (a := ex l s) 1 rfl hin.out W (by decide) (by decide))
          rw [dv_one, dvOk_one] at DC
          have HF := Lib.hid (fun h : far (ex l s) = true => nE_far hW.out ((anyFar_iff l).2 ⟨s, h⟩))
          have HS := Lib.hid (fun (h1 : far (ex l s) = false) (h2 : ex l s = 0) => hP.out.skip hss h1 h2)
          have HP := Lib.hid (fun (h1 : far (ex l s) = false) (h2 : ex l s ≠ 0) => hP.out.push hss hls h1 h2)
          have hcnt := Lib.hid hR.out.left_eq
          have R1 := Lib.hid range_any
          clear hss hls hrg2 hlt hg2 hs2 hR hB hO hZ hP
          generalize hl2 : (fun z => left z && !z.sameKey (kS s)) = left2 at *
          have hL2 := Lib.hid (fun z (h : left2 z = true) => hL.out z (by rw [← hl2] at h; simp at h; exact h.1))
          clear hl2 hL
          generalize ex l s = x at *
          have R3 := Lib.hid (ranges_below R2.out (balloc (b0 w2) (.cells #[.int .i64 (hi x), .int .u64 (lo x)] 138)))
          have O3 := Lib.hid (O2.out.keeps (balloc (b0 w2) (.cells #[.int .i64 (hi x), .int .u64 (lo x)] 138)))
          have B3 := Lib.hid (below_up3 B2.out Mge.out (balloc (b0 w2) (.cells #[.int .i64 (hi x), .int .u64 (lo x)] 138)))
          have Z3 := Lib.hid (show r + 1 ≤ (w2.alloc (.cells #[.int .i64 (hi x), .int .u64 (lo x)] 138)).heap.size by have := Z2.out; simp; omega)
          clear R2 O2 B2 Z2
          have hol := Lib.hid (show o.length < 5864062014805 by have := N0.out; have := hC.out; omega)
          cases hrg : rg x
          · have hr := Lib.hid (HF.out (far_out hrg))
            rw [hrg] at DC
            clear HS HP HF
            go_wp2_with fail
            refine (DC.out _).mono ?_
            rintro e w4 ⟨rfl, b4⟩
            have B4 := Lib.hid (Mge.out ▸ below_up3 B3.out Mge.out b4 : Below w.heap.size w w4)
            clear b4
            go_wp2_with fail
            go_ret2
            exact ⟨.slice none 0 0, by rw [hr.out.1]; rfl, by rw [hr.out.2]; exact Out.nil _ _, B4.out⟩
          · rw [hrg, kx_yes hrg] at DC
            cases hf : far x
            · by_cases h0 : x = 0
              · have HP2 := Lib.hid (HS.out hf h0)
                have q5 : (x != 0) = false := by rw [bne_eq_false_iff_eq]; exact h0
                replace h0 := Lib.hid h0
                clear HS HP HF
                go_wp2_with fail
                refine (DC.out _).mono ?_
                rintro e w4 ⟨rfl, b4⟩
                have B4 := Lib.hid (below_up3 B3.out Mge.out b4)
                have R4 := Lib.hid (ranges_below R3.out b4)
                have O4 := Lib.hid (O3.out.keeps b4)
                have Z4 := Lib.hid (Nat.le_trans Z3.out b4.size)
                clear b4 B3 R3 O3
                go_wp2_with fail
                refine (R1.out _ _).mono ?_
                rintro e w5 ⟨rfl, rfl⟩
                go_wp2_with fail
                go_roundw
                case rel =>
                  exact ⟨o, left2, cnt2, O4, R4, HP2, hL2, Lib.hid (by have := hC.out; have := hlt'.out; omega), B4, Z4⟩
                case measure =>
                  rw [R4.out.left_eq, hcnt.out]
                  exact hlt'.out
              · have HP2 := Lib.hid (HP.out hf h0)
                have q5 : (x != 0) = true := by rw [bne_iff_ne]; exact h0
                replace h0 := Lib.hid h0
                clear HS HP HF
                go_wp2_with fail
                refine (DC.out _).mono ?_
                rintro e w4 ⟨rfl, b4⟩
                have B4 := Lib.hid (below_up3 B3.out Mge.out b4)
                have R4 := Lib.hid (ranges_below R3.out b4)
                have O4 := Lib.hid (O3.out.keeps b4)
                have Z4 := Lib.hid (Nat.le_trans Z3.out b4.size)
                clear b4 B3 R3 O3
                go_wp2_with fail
                refine (R1.out _ _).mono ?_
                rintro e w5 ⟨rfl, rfl⟩
                go_wp2_with (at_builtin; refine is_app (.tmp 55) (.tmp 59) rfl ?_; refine wpList_push _ rfl (.tmp 55) (.tmp 59) rfl (r + 1) _ _ rfl (O4.out.keeps (balloc (b0 _) _)) w4.heap.size s x rfl (Bw.new w4 (s, x) 66) hol.out (by have := Z4.out; simp; omega) ?_; intro v2 w6 O6 b6)
                have R6 := ranges_base (ranges_below R4.out (balloc (b0 w4) (.cells #[.string s, .int .i64 x] 66))) b6 (by have := hmr.out; omega) (by omega)
                have B6 := Lib.hid ((below_up3 B4.out Mge.out (balloc (b0 w4) (.cells #[.string s, .int .i64 x] 66))).trans (b6.mono (by have := hmr.out; omega)))
                have Z6 := Lib.hid (show r + 1 ≤ w6.heap.size from Nat.le_trans (by have := Z4.out; simp; omega) b6.size)
                have C6 := Lib.hid (show (o ++ [(s, x)]).length + cnt2 ≤ l.length by have := hC.out; have := hlt'.out; rw [List.length_append, List.length_singleton]; omega)
                replace O6 := Lib.hid O6
                replace R6 := Lib.hid R6
                clear b6
                go_wp2_with fail
                go_roundw
                case rel =>
                  exact ⟨o ++ [(s, x)], left2, cnt2, O6, R6, HP2, hL2, C6, B6, Z6⟩
                case measure =>
                  rw [R6.out.left_eq, hcnt.out]
                  exact hlt'.out
            · have hr := Lib.hid (HF.out hf)
              clear HS HP HF
              go_wp2_with fail
              refine (DC.out _).mono ?_
              rintro e w4 ⟨rfl, b4⟩
              have B4 := Lib.hid (Mge.out ▸ below_up3 B3.out Mge.out b4 : Below w.heap.size w w4)
              clear b4
              go_wp2_with fail
              refine (R1.out _ _).mono ?_
              rintro e w5 ⟨rfl, rfl⟩
              go_wp2_with fail
              go_ret2
              exact ⟨.slice none 0 0, by rw [hr.out.1]; rfl, by rw [hr.out.2]; exact Out.nil _ _, B4.out⟩
end Go.Proofs.YtbkpjhffmaldmaaGreatDoor.un
namespace Go.Proofs.YtbkpjhffmaldmaaGreatDoor.un
open Go.RowKit dec

theorem wpList_cat (w : World) {ops : Array Oper} {rest : List Oper} {o : Oper} {a : Act} {Q : Exit → Act → World → Prop} (hgd : o.guard = none) (s x : Operand)
    (ho : o.op = .call { callee := .builtin .append, args := #[s, x], argTypes := #[24, 24] })
    (base : Nat) (v : Value) (l : List Fa) (hs : a.eval s = v) (hown : Own w base v l) (ad : Option Addr) (n cap : Nat) (l2 : List Fa) (hx : a.eval x = .slice ad n cap) (hS : Sl w ad n cap l2)
    (hn : l.length + n < 5864062014805) (hbase : base ≤ w.heap.size)
    (h : ∀ v' w', Own w' base v' (l ++ l2) → Below base w w' → wpList Tryz.prog ops Q rest (a.put o.dst v') w') : wpList Tryz.prog ops Q (o :: rest) a w := by
  refine wpList_plain hgd fun K hK => ?_
  obtain ⟨i, hi, hz0, hz1, hz2⟩ := info_parts infoF
  have hln := hS.hn
  cases ad with
  | none =>
    have h0 := hS.hno rfl
    have h1 := hS.hcap
    have hn0 : n = 0 := by omega
    subst h0
    subst hn0
    have hl2 : l2 = [] := List.eq_nil_of_length_eq_zero hln
    subst hl2
    have hrun := run_append_owned_none (P := Tryz.prog) (w := w) base 24 o.type 66 i 2 Tryz.underlying24 hi v l.length (cs l) hown
    unfold Oper.wp
    simp only [execOp, ho, resolve, invoke, builtin, Sem.run_bind, Sem.run_pure, Result.andThen_ok, List.map_toArray, List.map_cons, List.map_nil, hs, hx, hrun]
    exact hK _ _ (h v w (by rw [List.append_nil]; exact hown) (Below.refl _ _))
  | some ad =>
    refine wp_append_own w s x 24 ho base 66 i (.agg #[.string .empty, .int .i64 0]) 2 24 Tryz.underlying24 hi hz0 hz1 hz2 rfl (by decide) v l.length (cs l) hs hown ad n cap (cs l2) hx (by rw [cs_length, hln]) ?_ (cs_one _)
      (by unfold maxLen; omega) (by omega) hbase fun v' w' h1 h2 _ => ?_
    · intro j u hu
      have hj : j < l2.length * 2 := by
        rcases Nat.lt_or_ge j (cs l2).length with h' | h'
        · rwa [cs_length] at h'
        · rw [List.getElem?_eq_none h'] at hu; cases hu
      rcases hS.hat with h0 | ⟨b, off, e, hC⟩
      · omega
      · cases e
        have hp : (⟨b, off, none⟩ : Addr).add j = ⟨b, off + j, none⟩ := by
          unfold Addr.add
          by_cases h : j = 0 <;> simp [h]
        rw [hp]
        obtain ⟨c0, c1⟩ := hC (j / 2) (by omega)
        obtain ⟨e0, e1⟩ := cs_at l2 (j / 2) (by omega)
        rcases Nat.mod_two_eq_zero_or_one j with hm | hm
        · have ej : j / 2 * 2 = j := by omega
          rw [ej] at c0 e0
          rw [e0] at hu
          rw [c0, hu]
        · have ej : j / 2 * 2 + 1 = j := by omega
          rw [Nat.add_assoc, ej] at c1
          rw [ej] at e1
          rw [e1] at hu
          rw [c1, hu]
    · refine hK _ _ (h v' w' ?_ (own_below hown h2 hbase))
      unfold Own
      rw [cs_append, List.length_append, hln]
      exact h1
theorem own_new (w : World) (B : Nat) (hB : B ≤ w.heap.size) : Own (w.alloc (.cells #[] 66)) B (.slice (some ⟨w.heap.size, 0, none⟩) 0 0) [] := World.ownsRow_lit w #[] 0 hB (by unfold maxLen; omega) rfl
theorem bw_two (w : World) (o : Obj) (s : ByteArray) (y : Int) : Bw ((w.alloc o).alloc (.cells #[.string s, .int .i64 y] 66)) (w.heap.size + 1) (s, y) := by
  have h := Bw.new (w.alloc o) (s, y) 66
  rw [asz] at h
  exact h
theorem is_cat {w : World} {ops : Array Oper} {rest : List Oper} {o : Oper} {a : Act} {Q : Exit → Act → World → Prop} (s x : Operand) (_ : o.op = .call { callee := .builtin .append, args := #[s, x], argTypes := #[24, 24] })
    (k : wpList Tryz.prog ops Q (o :: rest) a w) : wpList Tryz.prog ops Q (o :: rest) a w := k
set_option maxRecDepth 100000 in
set_option maxHeartbeats 1000000 in
theorem clone_any (a : Option Addr) (n cap : Nat) (l : List Fa) (w : World) (hS : Sl w a n cap l) (hlen : l.length < 5864062014805) :
    Calls Tryz.prog 48 #[.slice a n cap] w fun e w' => ∃ v, e = .returned v ∧ Own w' w.heap.size v l ∧ Below w.heap.size w w' := by
  have q22 : ∀ (w : World) (a : Option Addr) (n c n' c' : Nat), (binOp .eql 24 (.slice a n c) (.slice none n' c')).run Tryz.prog w = .ok (.bool a.isNone) w := fun w a n c n' c' => Lib.run_eql_slice_nil w _ _ a n c n' c' Tryz.underlying24
  cases a with
  | none =>
    have h0 := hS.hno rfl
    have h1 := hS.hcap
    have hn0 : n = 0 := by omega
    subst h0
    subst hn0
    have hl2 : l = [] := List.eq_nil_of_length_eq_zero hS.hn
    subst hl2
    clear hS hlen h1
    go_enter Tryz.func48, Tryz.ntmps48
    go_wp2_with fail
    go_ret
    exact ⟨_, rfl, Own.nil _ _, b0 w⟩
  | some ad =>
    have S1 := Lib.hid (hS.keeps (balloc (b0 w) (.cells #[] 66)))
    have O1 := Lib.hid (own_new w w.heap.size (Nat.le_refl _))
    have hl := Lib.hid (show ([] : List Fa).length + n < 5864062014805 by have := hS.hn; simp; omega)
    clear hS hlen
    go_enter Tryz.func48, Tryz.ntmps48
    go_wp2_with (at_builtin; refine is_cat (.tmp 5) (.tmp 6) rfl ?_; refine wpList_cat _ rfl (.tmp 5) (.tmp 6) rfl w.heap.size _ [] rfl O1.out (some ad) n cap l rfl S1.out hl.out (by simp) ?_; intro v' w' h1 h2)
    have O2 := Lib.hid h1
    have B2 := Lib.hid ((balloc (b0 w) (.cells #[] 66)).trans h2)
    clear h1 h2
    go_wp2_with fail
    go_ret
    exact ⟨_, rfl, O2.out, B2.out⟩
/-- What Times and Over return. -/
def OutS (base : Nat) (w : World) (v : Value) (l : List Fa) : Prop := ∃ a cap, v = .slice a l.length cap ∧ Sl w a l.length cap l ∧ ∀ x, a = some x → base ≤ x.block
theorem OutS.nil (base : Nat) (w : World) : OutS base w (.slice none 0 0) [] := ⟨none, 0, rfl, .nil _, fun _ h => by cases h⟩
theorem Out.weak {base base' : Nat} {w : World} {v : Value} {l : List Fa} (h : Out base w v l) (hb : base' ≤ base) : OutS base' w v l := by
  obtain ⟨a, cap, e, S, T⟩ := h
  exact ⟨a, cap, e, S, fun x hx => Nat.le_trans hb (T x hx).1⟩
def Ret (w w' : World) (e : Ending) (c : Int) (l : List Fa) : Prop := ∃ v, e = .returned (.tuple #[v, .int .i64 c]) ∧ OutS w.heap.size w' v l ∧ Below w.heap.size w w'
theorem cE_a {p : Int} {a b : List Fa} (h : ck a ≠ 0) : cE p a b = ck a ∧ cL p a b = [] := by
  have e : cE p a b = ck a := by unfold cE; rw [if_neg h]
  exact ⟨e, by unfold cL; rw [e, if_neg h]⟩
theorem cE_b {p : Int} {a b : List Fa} (h1 : ck a = 0) (h : ck b ≠ 0) : cE p a b = ck b ∧ cL p a b = [] := by
  have e : cE p a b = ck b := by unfold cE; rw [if_pos h1, if_neg h]
  exact ⟨e, by unfold cL; rw [e, if_neg h]⟩
theorem cE_n {p : Int} {a b : List Fa} (h1 : ck a = 0) (h2 : ck b = 0) : cE p a b = nE (a ++ sc p b) ∧ cL p a b = nL (a ++ sc p b) := by
  have e : cE p a b = nE (a ++ sc p b) := by unfold cE; rw [if_pos h1, if_pos h2]
  refine ⟨e, ?_⟩
  unfold cL
  rw [e]
  split
  · rfl
  · rename_i h
    unfold nL
    rw [if_neg h]
theorem sc_next {p : Int} {b : List Fa} {j : Nat} (h : j < b.length) : sc p (b.take (j + 1)) = sc p (b.take j) ++ [((gt b j).1, (gt b j).2 * p)] := by
  rw [take_gt h]
  unfold sc
  rw [List.map_append]
  rfl
theorem far_le {x : Int} (h : far x = false) : -8 ≤ x ∧ x ≤ 8 := by
  unfold far at h
  rw [decide_eq_false_iff_not] at h
  omega
end Go.Proofs.YtbkpjhffmaldmaaGreatDoor.un
namespace Go.Proofs.YtbkpjhffmaldmaaGreatDoor.un
open Go.RowKit dec

theorem size_two {k : Nat} {w : World} (h : k ≤ w.heap.size) (o o' : Obj) : k ≤ ((w.alloc o).alloc o').heap.size := by simp; omega
set_option maxRecDepth 100000 in
set_option maxHeartbeats 2000000 in
theorem combine_any (p : Int) (hp : p = 1 ∨ p = -1) (a : Option Addr) (n cap : Nat) (b : Option Addr) (m cap2 : Nat) (l r : List Fa) (w : World) (hA : Sl w a n cap l) (hB : Sl w b m cap2 r) :
    Calls Tryz.prog 51 #[.slice a n cap, .slice b m cap2, .int .i64 p] w fun e w' => Ret w w' e (cE p l r) (cL p l r) := by
  have CA := Lib.hid (check_any a n cap l w hA)
  have CB := Lib.hid (fun W h => check_any b m cap2 r W h)
  have S1 := Lib.hid hA
  have S2 := Lib.hid hB
  clear hA hB
  by_cases h1 : ck l = 0
  · by_cases h2 : ck r = 0
    · have okl := (ck_iff l).1 h1
      have okr := (ck_iff r).1 h2
      have hE := Lib.hid (cE_n (p := p) h1 h2)
      have hL := Lib.hid okl.le
      have hR := Lib.hid okr.le
      have hG := Lib.hid okr.good
      have CC := Lib.hid (fun W h => clone_any a n cap l W h (by have := okl.le; omega))
      have hx : ∀ x ∈ l ++ sc p r, -9223372036854775808 ≤ x.2 ∧ x.2 ≤ 9223372036854775807 := fun x hx => by
        rcases List.mem_append.1 hx with hx | hx
        · have := far_le (okl.good x hx).2.2
          omega
        · unfold sc at hx
          rw [List.mem_map] at hx
          obtain ⟨y, hy, rfl⟩ := hx
          have := far_le (okr.good y hy).2.2
          rcases hp with rfl | rfl <;> simp <;> omega
      have hlen : (l ++ sc p r).length < 5864062014805 := by
        have := okl.le; have := okr.le
        unfold sc
        simp; omega
      have NC := Lib.hid (fun a n c W h => normal_any a n c (l ++ sc p r) W h hx hlen)
      obtain ⟨X, hX0⟩ : ∃ X, l ++ sc p r = X := ⟨_, rfl⟩
      rw [hX0] at NC hE
      have hX := Lib.hid hX0
      rw [h1] at CA
      rw [h2] at CB
      clear okl okr hx hlen h1 h2 hX0
      go_enter Tryz.func51, Tryz.ntmps51
      go_wp2_with fail
      refine CA.out.mono ?_
      rintro e w1 ⟨rfl, b1⟩
      have B1 := Lib.hid b1
      clear b1
      go_wp2_with fail
      refine (CB.out _ (S2.out.keeps B1.out)).mono ?_
      rintro e w2 ⟨rfl, b2⟩
      have B2 := Lib.hid (bnext B1.out b2)
      clear b2 B1
      go_wp2_with fail
      refine (CC.out _ (S1.out.keeps B2.out)).mono ?_
      rintro e w3 ⟨v3, rfl, o3, b3⟩
      have O3 := Lib.hid (show Own w3 w.heap.size v3 (l ++ sc p (r.take 0)) by rw [List.take_zero]; unfold sc; simp only [List.map_nil, List.append_nil]; exact o3.less B2.out.size)
      have B3 := Lib.hid (bnext B2.out b3)
      clear o3 b3 B2
      go_wp2_with fail
      go_loopw [8, 25] (fun vo vi wr => ∃ j : Nat, vi = .int .i64 (j : Nat) ∧ Hid (j ≤ m) ∧ Hid (Own wr w.heap.size vo (l ++ sc p (r.take j))) ∧ Hid (Below w.heap.size w wr)) (fun _ vi _ => m - (intOf vi).toNat)
      case atStart => exact ⟨0, rfl, Lib.hid (Nat.zero_le _), O3, B3⟩
      case round =>
        obtain ⟨j, rfl, hj, hO, hb⟩ := hrel
        by_cases hc : j < m
        · have hln := Lib.hid (show j < r.length by have := S2.out.hn; omega)
          obtain ⟨bk, off, rfl, hC⟩ := (S2.out.keeps hb.out).hat.resolve_left (by have := hln.out; omega)
          obtain ⟨c0, c1⟩ := hC j hln.out
          have q2 : decide ((j : Int) < (m : Int)) = true := decide_eq_true (by omega)
          have q3 : j < m := hc
          have f4 := Lib.hid (next_at (j := j) (by have := S2.out.hcap; have := S2.out.hmax; omega))
          have hn := Lib.hid (sc_next (p := p) hln.out)
          have hg := Lib.hid (far_le (hG.out _ (gt_mem hln.out)).2.2)
          generalize gt r j = x at c0 c1 hn hg
          obtain ⟨y, hy⟩ : ∃ y, y = x.2 * p := ⟨_, rfl⟩
          have hl8 := Lib.hid (show (l ++ sc p (r.take j)).length < 5864062014805 by have := hL.out; have := hR.out; unfold sc; simp; omega)
          have hsz := Lib.hid (size_two hb.out.size (.cells #[.string x.1, .int .i64 x.2] 66) (.cells #[.string x.1, .int .i64 y] 66))
          have f5 : wrap64 (x.2 * p) = y := by
            rw [hy]
            have := hg.out
            rcases hp with rfl | rfl <;> unfold wrap64 <;> omega
          rw [← hy] at hn
          clear hC hy CB CC NC S1
          go_wp2_with (at_builtin; refine is_app (.tmp 29) (.tmp 37) rfl ?_; refine wpList_push _ rfl (.tmp 29) (.tmp 37) rfl w.heap.size _ _ rfl (hO.out.keeps (balloc (balloc (b0 wr) _) _)) (wr.heap.size + 1) x.1 y rfl (bw_two wr _ x.1 y) hl8.out hsz.out ?_; intro v2 w6 O6 b6)
          have B6 := Lib.hid (((balloc (balloc hb.out (.cells #[.string x.1, .int .i64 x.2] 66)) (.cells #[.string x.1, .int .i64 y] 66))).trans b6)
          have O7 := Lib.hid (show Own w6 w.heap.size v2 (l ++ sc p (r.take (j + 1))) by rw [hn.out, ← List.append_assoc]; exact O6)
          clear b6 O6
          go_wp2_with fail
          refine ⟨⟨j + 1, congrArg (Value.int .i64) f4.out, Lib.hid hc, O7, B6⟩, less_at hc f4.out⟩
        · have q2 : decide ((j : Int) < (m : Int)) = false := decide_eq_false (by omega)
          have hS3 : ∃ a3 k cap3, u8 = .slice a3 k cap3 ∧ Sl wr a3 k cap3 X := by
            have hO2 := hO.out
            rw [show r.take j = r from List.take_of_length_le (by have := S2.out.hn; omega), hX.out] at hO2
            obtain ⟨a3, cap3, e, S3⟩ := hO2.sl
            exact ⟨a3, _, cap3, e, S3⟩
          obtain ⟨a3, k3, cap3, rfl, S3⟩ := hS3
          have S3h := Lib.hid S3
          clear S3 hO
          go_wp2_with fail
          refine (NC.out _ _ _ _ S3h.out).mono ?_
          rintro e w7 ⟨v7, rfl, o7, b7⟩
          have O7 := Lib.hid o7
          have B7 := Lib.hid (bnext hb.out b7)
          clear o7 b7
          go_wp2_with fail
          go_ret2
          refine ⟨v7, by rw [hE.out.1]; rfl, by rw [hE.out.2]; exact O7.out.weak hb.out.size, B7.out⟩
    · have hE := Lib.hid (cE_b (p := p) h1 h2)
      have q5 : (ck r != 0) = true := by rw [bne_iff_ne]; exact h2
      rw [h1] at CA
      clear h1 h2 S1
      generalize ck r = c at *
      go_enter Tryz.func51, Tryz.ntmps51
      go_wp2_with fail
      refine CA.out.mono ?_
      rintro e w1 ⟨rfl, b1⟩
      have B1 := Lib.hid b1
      clear b1
      go_wp2_with fail
      refine (CB.out _ (S2.out.keeps B1.out)).mono ?_
      rintro e w2 ⟨rfl, b2⟩
      have B2 := Lib.hid (bnext B1.out b2)
      clear b2 B1
      go_wp2_with fail
      go_ret2
      exact ⟨.slice none 0 0, by rw [hE.out.1]; rfl, by rw [hE.out.2]; exact OutS.nil _ _, B2.out⟩
  · have hE := Lib.hid (cE_a (p := p) (b := r) h1)
    have q5 : (ck l != 0) = true := by rw [bne_iff_ne]; exact h1
    clear h1 S1 S2 CB
    generalize ck l = c at *
    go_enter Tryz.func51, Tryz.ntmps51
    go_wp2_with fail
    refine CA.out.mono ?_
    rintro e w1 ⟨rfl, b1⟩
    have B1 := Lib.hid b1
    clear b1
    go_wp2_with fail
    go_ret2
    exact ⟨.slice none 0 0, by rw [hE.out.1]; rfl, by rw [hE.out.2]; exact OutS.nil _ _, B1.out⟩
theorem times_any (a : Option Addr) (n cap : Nat) (b : Option Addr) (m cap2 : Nat) (l r : List Fa) (w : World) (hA : Sl w a n cap l) (hB : Sl w b m cap2 r) :
    Calls Tryz.prog 27 #[.slice a n cap, .slice b m cap2] w fun e w' => Ret w w' e (cE 1 l r) (cL 1 l r) := by
  have C := Lib.hid (combine_any 1 (.inl rfl) a n cap b m cap2 l r w hA hB)
  clear hA hB
  go_enter Tryz.func27, Tryz.ntmps27
  go_wp2_with fail
  refine C.out.mono ?_
  rintro e w1 ⟨v, rfl, o1, b1⟩
  have O := Lib.hid o1
  have B := Lib.hid b1
  clear o1 b1
  go_wp2_with fail
  go_ret2
  exact ⟨v, rfl, O.out, B.out⟩
theorem over_any (a : Option Addr) (n cap : Nat) (b : Option Addr) (m cap2 : Nat) (l r : List Fa) (w : World) (hA : Sl w a n cap l) (hB : Sl w b m cap2 r) :
    Calls Tryz.prog 28 #[.slice a n cap, .slice b m cap2] w fun e w' => Ret w w' e (cE (-1) l r) (cL (-1) l r) := by
  have C := Lib.hid (combine_any (-1) (.inr rfl) a n cap b m cap2 l r w hA hB)
  clear hA hB
  go_enter Tryz.func28, Tryz.ntmps28
  go_wp2_with fail
  refine C.out.mono ?_
  rintro e w1 ⟨v, rfl, o1, b1⟩
  have O := Lib.hid o1
  have B := Lib.hid b1
  clear o1 b1
  go_wp2_with fail
  go_ret2
  exact ⟨v, rfl, O.out, B.out⟩
end Go.Proofs.YtbkpjhffmaldmaaGreatDoor.un
