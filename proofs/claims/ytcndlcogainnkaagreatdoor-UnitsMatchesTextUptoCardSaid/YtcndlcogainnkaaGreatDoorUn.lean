/-
  Units as plain data: words, checks, products, texts; nothing of the program.
-/
import Derived.WalkKit
import Derived.Lib.Strings
import Derived.Lib.ItoaNum
import Derived.Lib.Join
import Derived.Lib.AtoiAll
namespace Go.Proofs.YtcndlcogainnkaaGreatDoor

/-! Words in order. -/
theorem less_irr : ∀ (l : List UInt8), Op.bytesLess l l = false
  | [] => rfl
  | a :: x => by rw [Op.bytesLess, less_irr x]; simp
theorem u8_lt {a b : UInt8} : (a < b) = (a.toNat < b.toNat) := rfl
theorem u8_eq {a b : UInt8} : (a = b) = (a.toNat = b.toNat) := propext ⟨fun h => by rw [h], fun h => UInt8.toNat_inj.1 h⟩
theorem less_cons (a b : UInt8) (x y : List UInt8) : Op.bytesLess (a :: x) (b :: y) = true ↔ a.toNat < b.toNat ∨ (a.toNat = b.toNat ∧ Op.bytesLess x y = true) := by
  rw [Op.bytesLess, Bool.or_eq_true, Bool.and_eq_true, decide_eq_true_eq, beq_iff_eq, u8_lt, u8_eq]
theorem less_tr : ∀ (x y z : List UInt8), Op.bytesLess x y = true → Op.bytesLess y z = true → Op.bytesLess x z = true
  | [], [], z, h, _ => by cases h
  | [], b :: y, [], _, h => by cases h
  | [], b :: y, c :: z, _, _ => rfl
  | a :: x, [], z, h, _ => by cases h
  | a :: x, b :: y, [], _, h => by cases h
  | a :: x, b :: y, c :: z, h1, h2 => by
    rw [less_cons] at *
    rcases h1 with h1 | ⟨h1, h1'⟩ <;> rcases h2 with h2 | ⟨h2, h2'⟩
    · omega
    · omega
    · omega
    · exact .inr ⟨by omega, less_tr x y z h1' h2'⟩
theorem less_tri : ∀ (x y : List UInt8), Op.bytesLess x y = false → x ≠ y → Op.bytesLess y x = true
  | [], [], _, h => absurd rfl h
  | [], b :: y, h, _ => by cases h
  | a :: x, [], _, _ => rfl
  | a :: x, b :: y, h, hne => by
    have h' : ¬ Op.bytesLess (a :: x) (b :: y) = true := by rw [h]; decide
    rw [less_cons] at h' ⊢
    by_cases e : a.toNat = b.toNat
    · refine .inr ⟨e.symm, less_tri x y ?_ ?_⟩
      · cases hx : Op.bytesLess x y
        · rfl
        · exact absurd (.inr ⟨e, hx⟩) h'
      · intro hxy
        apply hne
        rw [hxy, UInt8.toNat_inj.1 e]
    · exact .inl (by omega)
theorem toList_inj {a b : ByteArray} (h : a.toList = b.toList) : a = b := by
  rw [ByteArray.toList_eq, ByteArray.toList_eq] at h
  cases a; cases b
  simp only at h
  rw [Array.toList_inj.1 h]
def ltS (a b : ByteArray) : Bool := Op.bytesLess a.toList b.toList
theorem ltS_irr (a : ByteArray) : ltS a a = false := less_irr _
theorem ltS_tr {a b c : ByteArray} (h1 : ltS a b = true) (h2 : ltS b c = true) : ltS a c = true := less_tr _ _ _ h1 h2
theorem ltS_tri {a b : ByteArray} (h1 : ltS a b = false) (h2 : a ≠ b) : ltS b a = true := less_tri _ _ h1 fun e => h2 (toList_inj e)
theorem ltS_as {a b : ByteArray} (h : ltS a b = true) : ltS b a = false := by
  cases h' : ltS b a
  · rfl
  · have := ltS_tr h h'
    rw [ltS_irr] at this; cases this
theorem ltS_ne {a b : ByteArray} (h : ltS a b = true) : a ≠ b := fun e => by rw [e, ltS_irr] at h; cases h
theorem ltS_empty (b : ByteArray) : ltS .empty b = decide (b.size ≠ 0) := by
  have e : b.size = b.toList.length := by rw [ByteArray.toList_eq]; rfl
  unfold ltS
  rw [e]
  have e0 : ByteArray.empty.toList = [] := by rw [ByteArray.toList_eq]; rfl
  rw [e0]
  cases b.toList <;> rfl

/-! Units. -/
abbrev Fa := ByteArray × Int
def lett (c : Int) : Bool := decide (97 ≤ c ∧ c ≤ 122)
def digi (c : Int) : Bool := decide (48 ≤ c ∧ c ≤ 57)
def wch (c : UInt8) : Bool := lett c.toNat || (digi c.toNat || c.toNat == 95)
def wordL (l : List UInt8) : Bool := decide (1 ≤ l.length ∧ l.length ≤ 24) && (lett (l.headD 0).toNat && l.all wch)
def word (s : ByteArray) : Bool := wordL s.data.toList
def far (n : Int) : Bool := decide (8 < n ∨ n < -8)
def ck1 (b : ByteArray) (x : Fa) : Int := if word x.1 = false then 1 else if x.2 = 0 ∨ far x.2 = true then 70 else if ltS b x.1 = true then 0 else 3
def ckFrom (b : ByteArray) : List Fa → Int
  | [] => 0
  | x :: l => if ck1 b x = 0 then ckFrom x.1 l else ck1 b x
def ck (l : List Fa) : Int := if 4 < l.length then 2 else ckFrom .empty l

def Srt (l : List Fa) : Prop := l.Pairwise fun x y => ltS x.1 y.1 = true
structure Ok (l : List Fa) : Prop where
  le : l.length ≤ 4
  good : ∀ x ∈ l, word x.1 = true ∧ x.2 ≠ 0 ∧ far x.2 = false
  srt : Srt l
theorem word_size {s : ByteArray} (h : word s = true) : 1 ≤ s.size ∧ s.size ≤ 24 := by
  unfold word wordL at h
  simp only [Bool.and_eq_true, decide_eq_true_eq] at h
  rw [Lib.size_eq]
  exact h.1
theorem ck1_zero {b : ByteArray} {x : Fa} (h : ck1 b x = 0) : word x.1 = true ∧ x.2 ≠ 0 ∧ far x.2 = false ∧ ltS b x.1 = true := by
  unfold ck1 at h
  split at h
  · cases h
  · split at h
    · cases h
    · split at h
      · refine ⟨by simp_all, by simp_all, by simp_all, by assumption⟩
      · cases h
theorem ck1_of {b : ByteArray} {x : Fa} (h1 : word x.1 = true) (h2 : x.2 ≠ 0) (h3 : far x.2 = false) (h4 : ltS b x.1 = true) : ck1 b x = 0 := by
  unfold ck1
  rw [h1, h3, h4]
  simp [h2]
theorem ckFrom_ok : ∀ (l : List Fa) (b : ByteArray), ckFrom b l = 0 → (∀ x ∈ l, word x.1 = true ∧ x.2 ≠ 0 ∧ far x.2 = false) ∧ Srt l ∧ ∀ x ∈ l, ltS b x.1 = true
  | [], _, _ => ⟨fun x h => (by cases h), .nil, fun x h => by cases h⟩
  | x :: l, b, h => by
    unfold ckFrom at h
    split at h
    · rename_i h0
      obtain ⟨a1, a2, a3, a4⟩ := ck1_zero h0
      obtain ⟨i1, i2, i3⟩ := ckFrom_ok l x.1 h
      refine ⟨fun y hy => ?_, List.pairwise_cons.2 ⟨fun y hy => i3 y hy, i2⟩, fun y hy => ?_⟩
      · rcases List.mem_cons.1 hy with rfl | hy
        · exact ⟨a1, a2, a3⟩
        · exact i1 y hy
      · rcases List.mem_cons.1 hy with rfl | hy
        · exact a4
        · exact ltS_tr a4 (i3 y hy)
    · rename_i h0
      exact absurd h h0
theorem ckFrom_of : ∀ (l : List Fa) (b : ByteArray), (∀ x ∈ l, word x.1 = true ∧ x.2 ≠ 0 ∧ far x.2 = false) → Srt l → (∀ x ∈ l, ltS b x.1 = true) → ckFrom b l = 0
  | [], _, _, _, _ => rfl
  | x :: l, b, h1, h2, h3 => by
    obtain ⟨g1, g2, g3⟩ := h1 x (List.mem_cons_self ..)
    obtain ⟨p1, p2⟩ := List.pairwise_cons.1 h2
    unfold ckFrom
    rw [if_pos (ck1_of g1 g2 g3 (h3 x (List.mem_cons_self ..)))]
    exact ckFrom_of l x.1 (fun y hy => h1 y (List.mem_cons_of_mem _ hy)) p2 p1
theorem ck_iff (l : List Fa) : ck l = 0 ↔ Ok l := by
  unfold ck
  constructor
  · intro h
    split at h
    · cases h
    · obtain ⟨a, b, _⟩ := ckFrom_ok l _ h
      exact ⟨by omega, a, b⟩
  · intro h
    rw [if_neg (by have := h.le; omega)]
    refine ckFrom_of l _ h.good h.srt fun x hx => ?_
    rw [ltS_empty]
    have := word_size (h.good x hx).1
    exact decide_eq_true (by omega)
theorem Ok.nil : Ok [] := ⟨by simp, fun x h => (by cases h), .nil⟩

/-! The sum of the exponents of a name; the names in order. -/
def ex : List Fa → ByteArray → Int
  | [], _ => 0
  | x :: l, n => (if x.1 = n then x.2 else 0) + ex l n
theorem ex_append : ∀ (l r : List Fa) (n : ByteArray), ex (l ++ r) n = ex l n + ex r n
  | [], r, n => by simp [ex]
  | x :: l, r, n => by simp only [List.cons_append, ex, ex_append l r n]; omega
theorem ex_none : ∀ (l : List Fa) (n : ByteArray), (∀ x ∈ l, x.1 ≠ n) → ex l n = 0
  | [], _, _ => rfl
  | x :: l, n, h => by
    simp only [ex]
    rw [if_neg (h x (List.mem_cons_self ..)), ex_none l n fun y hy => h y (List.mem_cons_of_mem _ hy)]
    rfl
theorem ex_mem {l : List Fa} {n : ByteArray} (h : ex l n ≠ 0) : ∃ x ∈ l, x.1 = n := by
  by_cases hx : ∃ x ∈ l, x.1 = n
  · exact hx
  · exact absurd (ex_none l n fun x hm e => hx ⟨x, hm, e⟩) h
theorem ex_srt : ∀ {l : List Fa}, Srt l → ∀ x ∈ l, ex l x.1 = x.2
  | [], _, x, h => by cases h
  | y :: l, hs, x, h => by
    obtain ⟨p1, p2⟩ := List.pairwise_cons.1 hs
    simp only [ex]
    rcases List.mem_cons.1 h with rfl | h
    · rw [if_pos rfl, ex_none l x.1 fun z hz e => ltS_ne (p1 z hz) e.symm]
      omega
    · rw [if_neg (ltS_ne (p1 x h)), ex_srt p2 x h]
      omega
def ins (x : ByteArray) : List ByteArray → List ByteArray
  | [] => [x]
  | y :: l => if ltS y x = true then y :: ins x l else if y = x then y :: l else x :: y :: l
def ns (l : List Fa) : List ByteArray := l.foldl (fun o x => ins x.1 o) []
theorem mem_ins (x z : ByteArray) : ∀ l : List ByteArray, z ∈ ins x l ↔ z = x ∨ z ∈ l
  | [] => by simp [ins]
  | y :: l => by
    unfold ins
    split
    · rw [List.mem_cons, mem_ins x z l, List.mem_cons]
      constructor <;> rintro (h | h | h) <;> simp_all
    · split
      · rename_i h
        subst h
        simp
      · simp
def Inc (l : List ByteArray) : Prop := l.Pairwise fun a b => ltS a b = true
theorem inc_ins (x : ByteArray) : ∀ l : List ByteArray, Inc l → Inc (ins x l)
  | [], _ => by simp [ins, Inc]
  | y :: l, h => by
    obtain ⟨p1, p2⟩ := List.pairwise_cons.1 h
    unfold ins
    split
    · rename_i hy
      refine List.pairwise_cons.2 ⟨fun z hz => ?_, inc_ins x l p2⟩
      rcases (mem_ins x z l).1 hz with rfl | hz
      · exact hy
      · exact p1 z hz
    · rename_i hy
      split
      · exact h
      · rename_i hne
        have hxy : ltS x y = true := ltS_tri (by simpa using hy) hne
        refine List.pairwise_cons.2 ⟨fun z hz => ?_, h⟩
        rcases List.mem_cons.1 hz with rfl | hz
        · exact hxy
        · exact ltS_tr hxy (p1 z hz)
theorem ns_snoc (l : List Fa) (x : Fa) : ns (l ++ [x]) = ins x.1 (ns l) := by unfold ns; rw [List.foldl_append]; rfl
theorem mem_ns_go (z : ByteArray) : ∀ (l : List Fa) (o : List ByteArray), z ∈ l.foldl (fun o x => ins x.1 o) o ↔ z ∈ o ∨ ∃ x ∈ l, x.1 = z
  | [], _ => by simp
  | x :: l, o => by
    rw [List.foldl_cons, mem_ns_go z l, mem_ins]
    constructor
    · rintro ((h | h) | ⟨y, h1, h2⟩)
      · exact .inr ⟨x, List.mem_cons_self .., h.symm⟩
      · exact .inl h
      · exact .inr ⟨y, List.mem_cons_of_mem _ h1, h2⟩
    · rintro (h | ⟨y, h1, h2⟩)
      · exact .inl (.inr h)
      · rcases List.mem_cons.1 h1 with rfl | h1
        · exact .inl (.inl h2.symm)
        · exact .inr ⟨y, h1, h2⟩
theorem mem_ns {z : ByteArray} {l : List Fa} : z ∈ ns l ↔ ∃ x ∈ l, x.1 = z := by
  unfold ns
  rw [mem_ns_go]
  simp
theorem inc_ns_go : ∀ (l : List Fa) (o : List ByteArray), Inc o → Inc (l.foldl (fun o x => ins x.1 o) o)
  | [], _, h => h
  | x :: l, o, h => inc_ns_go l _ (inc_ins x.1 o h)
theorem inc_ns (l : List Fa) : Inc (ns l) := inc_ns_go l [] .nil

/-! Products. -/
def nzOf (l : List Fa) (o : List ByteArray) : List Fa := (o.filter fun n => decide (ex l n ≠ 0)).map fun n => (n, ex l n)
def nz (l : List Fa) : List Fa := nzOf l (ns l)
theorem mem_nz {l : List Fa} {x : Fa} : x ∈ nz l ↔ x.2 = ex l x.1 ∧ x.2 ≠ 0 := by
  unfold nz nzOf
  simp only [List.mem_map, List.mem_filter, decide_eq_true_eq]
  constructor
  · rintro ⟨n, ⟨_, h⟩, rfl⟩
    exact ⟨rfl, h⟩
  · rintro ⟨h1, h2⟩
    exact ⟨x.1, ⟨mem_ns.2 (ex_mem (h1 ▸ h2)), h1 ▸ h2⟩, by rw [← h1]⟩
theorem srt_nz (l : List Fa) : Srt (nz l) := by
  unfold nz nzOf Srt
  rw [List.pairwise_map]
  exact ((inc_ns l).sublist List.filter_sublist).imp fun h => h
theorem srt_ext : ∀ {l r : List Fa}, Srt l → Srt r → (∀ x, x ∈ l ↔ x ∈ r) → l = r
  | [], [], _, _, _ => rfl
  | [], y :: r, _, _, h => absurd ((h y).2 (List.mem_cons_self ..)) (by simp)
  | x :: l, [], _, _, h => absurd ((h x).1 (List.mem_cons_self ..)) (by simp)
  | x :: l, y :: r, hl, hr, h => by
    obtain ⟨p1, p2⟩ := List.pairwise_cons.1 hl
    obtain ⟨q1, q2⟩ := List.pairwise_cons.1 hr
    have exy : x = y := by
      rcases List.mem_cons.1 ((h x).1 (List.mem_cons_self ..)) with e | hx
      · exact e
      · rcases List.mem_cons.1 ((h y).2 (List.mem_cons_self ..)) with e | hy
        · exact e.symm
        · have a1 := q1 x hx
          have a2 := p1 y hy
          rw [ltS_as a1] at a2
          cases a2
    subst exy
    congr 1
    refine srt_ext p2 q2 fun z => ?_
    constructor
    · intro hz
      rcases List.mem_cons.1 ((h z).1 (List.mem_cons_of_mem _ hz)) with rfl | h'
      · have := p1 z hz; rw [ltS_irr] at this; cases this
      · exact h'
    · intro hz
      rcases List.mem_cons.1 ((h z).2 (List.mem_cons_of_mem _ hz)) with rfl | h'
      · have := q1 z hz; rw [ltS_irr] at this; cases this
      · exact h'
def wds (l : List Fa) : Bool := l.all fun x => word x.1
def anyFar (l : List Fa) : Bool := (ns l).any fun n => far (ex l n)
def nE (l : List Fa) : Int := if wds l = true then (if anyFar l = true then 70 else if 4 < (nz l).length then 2 else 0) else 1
def nL (l : List Fa) : List Fa := if nE l = 0 then nz l else []
theorem anyFar_iff (l : List Fa) : anyFar l = true ↔ ∃ n, far (ex l n) = true := by
  unfold anyFar
  rw [List.any_eq_true]
  constructor
  · rintro ⟨n, _, h⟩; exact ⟨n, h⟩
  · rintro ⟨n, h⟩
    refine ⟨n, mem_ns.2 (ex_mem fun e => ?_), h⟩
    rw [e] at h
    cases h
theorem n_congr {l r : List Fa} (h1 : wds l = true) (h2 : wds r = true) (h : ∀ n, ex l n = ex r n) : nE l = nE r ∧ nL l = nL r := by
  have e1 : anyFar l = anyFar r := by
    rw [Bool.eq_iff_iff, anyFar_iff, anyFar_iff]
    simp only [h]
  have e2 : nz l = nz r := srt_ext (srt_nz l) (srt_nz r) fun x => by rw [mem_nz, mem_nz, h]
  have e3 : nE l = nE r := by unfold nE; rw [h1, h2, e1, e2]
  exact ⟨e3, by unfold nL; rw [e3, e2]⟩
theorem nE_zero {l : List Fa} (h : nE l = 0) : wds l = true ∧ anyFar l = false ∧ (nz l).length ≤ 4 := by
  unfold nE at h
  split at h
  · split at h
    · cases h
    · split at h
      · cases h
      · refine ⟨by assumption, by simp_all, by omega⟩
  · cases h
theorem wds_iff {l : List Fa} : wds l = true ↔ ∀ x ∈ l, word x.1 = true := by unfold wds; rw [List.all_eq_true]
theorem nL_ok {l : List Fa} (h : nE l = 0) : Ok (nL l) ∧ ∀ n, ex (nL l) n = ex l n := by
  obtain ⟨h1, h2, h3⟩ := nE_zero h
  have e : nL l = nz l := by unfold nL; rw [if_pos h]
  rw [e]
  refine ⟨⟨h3, fun x hx => ?_, srt_nz l⟩, fun n => ?_⟩
  · obtain ⟨a, b⟩ := mem_nz.1 hx
    refine ⟨?_, b, ?_⟩
    · obtain ⟨y, hy, e⟩ := ex_mem (a ▸ b)
      rw [← e]
      exact wds_iff.1 h1 y hy
    · cases hf : far x.2
      · rfl
      · rw [a] at hf
        rw [(anyFar_iff l).2 ⟨_, hf⟩] at h2
        cases h2
  · by_cases h0 : ex l n = 0
    · rw [h0]
      exact ex_none _ _ fun x hx e => by
        obtain ⟨a, b⟩ := mem_nz.1 hx
        rw [e] at a
        exact b (a.trans h0)
    · exact ex_srt (srt_nz l) (n, ex l n) (mem_nz.2 ⟨rfl, h0⟩)
theorem Ok.wds {l : List Fa} (h : Ok l) : wds l = true := wds_iff.2 fun x hx => (h.good x hx).1
theorem n_ok {l : List Fa} (h : Ok l) : nE l = 0 ∧ nL l = l := by
  have e : nz l = l := srt_ext (srt_nz l) h.srt fun x => by
    rw [mem_nz]
    constructor
    · rintro ⟨a, b⟩
      obtain ⟨y, hy, e⟩ := ex_mem (a ▸ b)
      have := ex_srt h.srt y hy
      rw [e, ← a] at this
      have : y = x := Prod.ext e this.symm
      exact this ▸ hy
    · intro hx
      exact ⟨(ex_srt h.srt x hx).symm, (h.good x hx).2.1⟩
  have e2 : anyFar l = false := by
    cases hf : anyFar l
    · rfl
    · obtain ⟨n, hn⟩ := (anyFar_iff l).1 hf
      obtain ⟨x, hx, e3⟩ := ex_mem (l := l) (n := n) fun e => by rw [e] at hn; cases hn
      rw [← e3, ex_srt h.srt x hx, (h.good x hx).2.2] at hn
      cases hn
  have e4 : nE l = 0 := by
    unfold nE
    rw [h.wds, e2, e]
    have := h.le
    simp; omega
  exact ⟨e4, by unfold nL; rw [if_pos e4, e]⟩
/-- b with all exponents times p. -/
def sc (p : Int) (b : List Fa) : List Fa := b.map fun x => (x.1, x.2 * p)
theorem ex_sc (p : Int) : ∀ (l : List Fa) (n : ByteArray), ex (sc p l) n = ex l n * p
  | [], _ => by simp [sc, ex]
  | x :: l, n => by
    have := ex_sc p l n
    simp only [sc, List.map_cons, ex] at *
    rw [this, Int.add_mul]
    split <;> simp
theorem sc_one (l : List Fa) : sc 1 l = l := by unfold sc; simp
theorem wds_sc (p : Int) (l : List Fa) : wds (sc p l) = wds l := by unfold wds sc; rw [List.all_map]; rfl
theorem wds_append (l r : List Fa) : wds (l ++ r) = (wds l && wds r) := by unfold wds; rw [List.all_append]
theorem far_neg (n : Int) : far (n * -1) = far n := by unfold far; congr 1; rw [eq_iff_iff]; omega
theorem Ok.neg {l : List Fa} (h : Ok l) : Ok (sc (-1) l) := by
  refine ⟨by simpa [sc] using h.le, fun x hx => ?_, ?_⟩
  · simp only [sc, List.mem_map] at hx
    obtain ⟨y, hy, rfl⟩ := hx
    obtain ⟨a, b, c⟩ := h.good y hy
    exact ⟨a, by simp; exact b, by rw [far_neg]; exact c⟩
  · unfold sc Srt
    rw [List.pairwise_map]
    exact h.srt
/-- What Times (p = 1) and Over (p = -1) return. -/
def cE (p : Int) (a b : List Fa) : Int := if ck a = 0 then (if ck b = 0 then nE (a ++ sc p b) else ck b) else ck a
def cL (p : Int) (a b : List Fa) : List Fa := if cE p a b = 0 then nL (a ++ sc p b) else []
theorem cE_ok {p : Int} {a b : List Fa} (ha : Ok a) (hb : Ok b) : cE p a b = nE (a ++ sc p b) := by unfold cE; rw [if_pos ((ck_iff a).2 ha), if_pos ((ck_iff b).2 hb)]
theorem cE_zero {p : Int} {a b : List Fa} (h : cE p a b = 0) : Ok a ∧ Ok b ∧ nE (a ++ sc p b) = 0 := by
  unfold cE at h
  split at h
  · rename_i h1
    split at h
    · rename_i h2
      exact ⟨(ck_iff a).1 h1, (ck_iff b).1 h2, h⟩
    · rename_i h2; exact absurd h h2
  · rename_i h1; exact absurd h h1
theorem c_out {p : Int} {a b : List Fa} (h : cE p a b = 0) : Ok (cL p a b) ∧ ∀ n, ex (cL p a b) n = ex a n + ex b n * p := by
  obtain ⟨_, _, h1⟩ := cE_zero h
  have e : cL p a b = nL (a ++ sc p b) := by unfold cL; rw [if_pos h]
  rw [e]
  obtain ⟨k1, k2⟩ := nL_ok h1
  exact ⟨k1, fun n => by rw [k2, ex_append, ex_sc]⟩
/-- Whatever has the exponents of a valid unit comes to that unit. -/
theorem c_is {p : Int} {a b u : List Fa} (ha : Ok a) (hb : Ok b) (hu : Ok u) (h : ∀ n, ex a n + ex b n * p = ex u n) : cE p a b = 0 ∧ cL p a b = u := by
  have hw : wds (a ++ sc p b) = true := by rw [wds_append, wds_sc, ha.wds, hb.wds]; rfl
  obtain ⟨c1, c2⟩ := n_congr hw hu.wds fun n => by rw [ex_append, ex_sc]; exact h n
  obtain ⟨k1, k2⟩ := n_ok hu
  have e : cE p a b = 0 := by rw [cE_ok ha hb, c1, k1]
  exact ⟨e, by unfold cL; rw [if_pos e, c2, k2]⟩
theorem c_comm {a b : List Fa} (ha : Ok a) (hb : Ok b) : cE 1 a b = cE 1 b a ∧ cL 1 a b = cL 1 b a := by
  have hw : wds (a ++ sc 1 b) = true := by rw [wds_append, wds_sc, ha.wds, hb.wds]; rfl
  have hw2 : wds (b ++ sc 1 a) = true := by rw [wds_append, wds_sc, ha.wds, hb.wds]; rfl
  obtain ⟨c1, c2⟩ := n_congr hw hw2 fun n => by rw [ex_append, ex_sc, ex_append, ex_sc]; omega
  have e : cE 1 a b = cE 1 b a := by rw [cE_ok ha hb, cE_ok hb ha, c1]
  exact ⟨e, by unfold cL; rw [e, c2]⟩
theorem c_nil {a : List Fa} (ha : Ok a) : cE 1 a [] = 0 ∧ cL 1 a [] = a := c_is ha Ok.nil ha fun n => by simp [ex]
theorem c_back {a b : List Fa} (h : cE 1 a b = 0) : cE (-1) (cL 1 a b) b = 0 ∧ cL (-1) (cL 1 a b) b = a := by
  obtain ⟨ha, hb, _⟩ := cE_zero h
  obtain ⟨k1, k2⟩ := c_out h
  exact c_is k1 hb ha fun n => by rw [k2]; omega
theorem c_back2 {a b : List Fa} (h : cE (-1) a b = 0) : cE 1 (cL (-1) a b) b = 0 ∧ cL 1 (cL (-1) a b) b = a := by
  obtain ⟨ha, hb, _⟩ := cE_zero h
  obtain ⟨k1, k2⟩ := c_out h
  exact c_is k1 hb ha fun n => by rw [k2]; omega
theorem c_assoc {a b c : List Fa} (h : cE 1 a b = 0) (g : cE 1 b c = 0) : cE 1 (cL 1 a b) c = cE 1 a (cL 1 b c) ∧ cL 1 (cL 1 a b) c = cL 1 a (cL 1 b c) := by
  obtain ⟨ha, hb, _⟩ := cE_zero h
  obtain ⟨_, hc, _⟩ := cE_zero g
  obtain ⟨k1, k2⟩ := c_out h
  obtain ⟨m1, m2⟩ := c_out g
  have hw : wds (cL 1 a b ++ sc 1 c) = true := by rw [wds_append, wds_sc, k1.wds, hc.wds]; rfl
  have hw2 : wds (a ++ sc 1 (cL 1 b c)) = true := by rw [wds_append, wds_sc, ha.wds, m1.wds]; rfl
  obtain ⟨c1, c2⟩ := n_congr hw hw2 fun n => by rw [ex_append, ex_sc, ex_append, ex_sc, k2, m2]; omega
  have e : cE 1 (cL 1 a b) c = cE 1 a (cL 1 b c) := by rw [cE_ok k1 hc, cE_ok ha m1, c1]
  exact ⟨e, by unfold cL at c2 ⊢; unfold cL at e; rw [e, c2]⟩
end Go.Proofs.YtcndlcogainnkaaGreatDoor
