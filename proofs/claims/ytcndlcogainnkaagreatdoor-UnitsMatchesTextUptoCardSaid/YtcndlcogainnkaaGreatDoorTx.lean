/-
  Texts of units as plain data: printing, cutting, reading back.
-/
import Derived.Test.YtcndlcogainnkaaGreatDoorUn
import Derived.Lib.AtoiAllCases
import Derived.Lib.Bytealg
import Derived.Lib.Small
namespace Go.Proofs.YtcndlcogainnkaaGreatDoor

def atoiN (l : List UInt8) : Int :=
  match Lib.atoiAll l with
  | .ok v => v
  | Lib.NumEnd.syntax => 0
  | .range => Lib.atoiSat l
def f1 (x : Fa) : List UInt8 := if x.2 = 1 then x.1.data.toList else x.1.data.toList ++ 94 :: Lib.itoa x.2
def fT (l : List Fa) : List UInt8 := Lib.join (l.map f1) [42]
def fac (l : List UInt8) : Fa := if Lib.indexByte l 94 = -1 then (⟨l.toArray⟩, 1) else (⟨(l.take (Lib.indexByte l 94).toNat).toArray⟩, atoiN (l.drop ((Lib.indexByte l 94).toNat + 1)))
def spL : Nat → List UInt8 → List (List UInt8)
  | 0, s => [s]
  | k + 1, s => if Lib.indexByte s 42 = -1 then [s] else s.take (Lib.indexByte s 42).toNat :: spL k (s.drop ((Lib.indexByte s 42).toNat + 1))
def cand (l : List UInt8) : List Fa := if l.length = 0 then [] else (spL (min 5 (l.length + 1) - 1) l).map fac
def psOk (l : List UInt8) : Bool := decide (ck (cand l) = 0) && decide (fT (cand l) = l)
def psE (l : List UInt8) : Int := if psOk l = true then 0 else 3
def psL (l : List UInt8) : List Fa := if psOk l = true then cand l else []

theorem ix_out {l : List UInt8} {c : UInt8} (h : c ∉ l) : Lib.indexByte l c = -1 := by
  induction l with
  | nil => rfl
  | cons b l ih =>
    unfold Lib.indexByte
    have hb : b ≠ c := fun e => h (by rw [e]; exact List.mem_cons_self ..)
    have e : (b == c) = false := by rw [beq_eq_false_iff_ne]; exact hb
    rw [e, ih (fun h' => h (List.mem_cons_of_mem _ h'))]
    rfl
theorem ix_at (r : List UInt8) (c : UInt8) : ∀ x : List UInt8, c ∉ x → Lib.indexByte (x ++ c :: r) c = (x.length : Nat)
  | [], _ => by simp [Lib.indexByte]
  | b :: x, h => by
    have hb : b ≠ c := fun e => h (by rw [e]; exact List.mem_cons_self ..)
    have e : (b == c) = false := by rw [beq_eq_false_iff_ne]; exact hb
    rw [List.cons_append, Lib.indexByte, e, ix_at r c x fun h' => h (List.mem_cons_of_mem _ h')]
    have : ((x.length : Nat) : Int) ≠ -1 := by omega
    simp only [Bool.false_eq_true, if_false, List.length_cons]
    rw [if_neg (by rw [beq_iff_eq]; exact this)]
    push_cast
    rfl
theorem ix_le (c : UInt8) : ∀ l : List UInt8, Lib.indexByte l c = -1 ∨ (0 ≤ Lib.indexByte l c ∧ Lib.indexByte l c < l.length)
  | [] => .inl rfl
  | b :: l => by
    unfold Lib.indexByte
    split
    · right; simp
    · rcases ix_le c l with h | ⟨h1, h2⟩
      · left; rw [h]; rfl
      · right
        rw [if_neg (by rw [beq_iff_eq]; omega)]
        simp only [List.length_cons]
        omega
theorem drop_past (x r : List UInt8) (c : UInt8) : (x ++ c :: r).drop (x.length + 1) = r := by
  rw [show x ++ c :: r = (x ++ [c]) ++ r by simp]
  exact List.drop_left' (by simp)
theorem spL_join : ∀ (xs : List (List UInt8)) (x : List UInt8) (k : Nat), xs.length ≤ k → (∀ y ∈ x :: xs, (42 : UInt8) ∉ y) → spL k (Lib.join (x :: xs) [42]) = x :: xs
  | [], x, k, _, h => by
    rw [Lib.join_one]
    cases k with
    | zero => rfl
    | succ k =>
      unfold spL
      rw [if_pos (ix_out (h x (List.mem_cons_self ..)))]
  | y :: xs, x, 0, hk, _ => by simp at hk
  | y :: xs, x, k + 1, hk, h => by
    have e : Lib.join (x :: y :: xs) [42] = x ++ 42 :: Lib.join (y :: xs) [42] := by
      rw [Lib.join_cons, Lib.join_cons]
      simp [Lib.joinTail]
    rw [e]
    unfold spL
    rw [ix_at _ _ _ (h x (List.mem_cons_self ..)), if_neg (by omega), Int.toNat_natCast]
    have e1 : (x ++ 42 :: Lib.join (y :: xs) [42]).take x.length = x := by simp
    have e2 : (x ++ 42 :: Lib.join (y :: xs) [42]).drop (x.length + 1) = Lib.join (y :: xs) [42] := by
      exact drop_past _ _ _
    rw [e1, e2, spL_join xs y k (by simpa using hk) fun z hz => h z (List.mem_cons_of_mem _ hz)]
theorem join_len : ∀ (xs : List (List UInt8)) (x : List UInt8), xs.length ≤ (Lib.join (x :: xs) [42]).length
  | [], _ => Nat.zero_le _
  | y :: xs, x => by
    have := join_len xs y
    have e : Lib.join (x :: y :: xs) [42] = x ++ 42 :: Lib.join (y :: xs) [42] := by
      rw [Lib.join_cons, Lib.join_cons]
      simp [Lib.joinTail]
    rw [e, List.length_append, List.length_cons, List.length_cons]
    omega
theorem word_ch {s : ByteArray} (h : word s = true) : ∀ c ∈ s.data.toList, wch c = true := by
  unfold word wordL at h
  simp only [Bool.and_eq_true] at h
  exact fun c hc => List.all_eq_true.1 h.2.2 c hc
theorem wch_ne {c : UInt8} (h : wch c = true) : c ≠ 42 ∧ c ≠ 94 := by
  constructor <;> (rintro rfl; revert h; decide)
theorem dec_small {u : Nat} (h : u < 10) : Lib.decDigits u = [UInt8.ofNat (48 + u)] := by
  rw [Lib.decDigits, dif_pos h]
theorem exp_cases {n : Int} (h : far n = false) : n = -8 ∨ n = -7 ∨ n = -6 ∨ n = -5 ∨ n = -4 ∨ n = -3 ∨ n = -2 ∨ n = -1 ∨ n = 0 ∨ n = 1 ∨ n = 2 ∨ n = 3 ∨ n = 4 ∨ n = 5 ∨ n = 6 ∨ n = 7 ∨ n = 8 := by
  unfold far at h
  rw [decide_eq_false_iff_not] at h
  omega
theorem itoa_few {n : Int} (h : far n = false) : (42 : UInt8) ∉ Lib.itoa n ∧ atoiN (Lib.itoa n) = n ∧ (Lib.itoa n).length ≤ 2 := by
  rcases exp_cases h with rfl | rfl | rfl | rfl | rfl | rfl | rfl | rfl | rfl | rfl | rfl | rfl | rfl | rfl | rfl | rfl | rfl
  all_goals unfold Lib.itoa
  all_goals first
    | rw [if_pos (by decide), dec_small (by decide)]
    | rw [if_neg (by decide), dec_small (by decide)]
  all_goals decide
theorem f1_42 {x : Fa} (h1 : word x.1 = true) (h2 : far x.2 = false) : (42 : UInt8) ∉ f1 x := by
  intro hm
  unfold f1 at hm
  split at hm
  · exact (wch_ne (word_ch h1 _ hm)).1 rfl
  · rcases List.mem_append.1 hm with hm | hm
    · exact (wch_ne (word_ch h1 _ hm)).1 rfl
    · rcases List.mem_cons.1 hm with hm | hm
      · cases hm
      · exact (itoa_few h2).1 hm
theorem ba_eq (s : ByteArray) : (⟨s.data.toList.toArray⟩ : ByteArray) = s := rfl
theorem fac_f1 {x : Fa} (h1 : word x.1 = true) (h2 : far x.2 = false) : fac (f1 x) = x := by
  have hn : (94 : UInt8) ∉ x.1.data.toList := fun hm => (wch_ne (word_ch h1 _ hm)).2 rfl
  unfold fac f1
  split
  · rename_i h
    rw [if_pos (ix_out hn)]
    exact Prod.ext (ba_eq x.1) h.symm
  · rw [ix_at _ _ _ hn, if_neg (by omega), Int.toNat_natCast]
    refine Prod.ext ?_ ?_
    · show (⟨((x.1.data.toList ++ 94 :: Lib.itoa x.2).take x.1.data.toList.length).toArray⟩ : ByteArray) = x.1
      rw [List.take_left]
    · show atoiN ((x.1.data.toList ++ 94 :: Lib.itoa x.2).drop (x.1.data.toList.length + 1)) = x.2
      rw [drop_past]
      exact (itoa_few h2).2.1
theorem f1_len {x : Fa} (h1 : word x.1 = true) (h2 : far x.2 = false) : 1 ≤ (f1 x).length ∧ (f1 x).length ≤ 27 := by
  have hs := word_size h1
  rw [Lib.size_eq] at hs
  have := (itoa_few h2).2.2
  unfold f1
  split
  · omega
  · rw [List.length_append, List.length_cons]
    omega
/-- What is printed of a valid unit is read back. -/
theorem cand_back {u : List Fa} (h : Ok u) : cand (fT u) = u := by
  cases u with
  | nil => rfl
  | cons x xs =>
    have hx := h.good x (List.mem_cons_self ..)
    have hl := (f1_len hx.1 hx.2.2).1
    have hjl : 1 ≤ (fT (x :: xs)).length := by
      unfold fT
      rw [List.map_cons, Lib.join_cons, List.length_append]
      omega
    have hjn := join_len (xs.map f1) (f1 x)
    rw [List.length_map] at hjn
    have h4 := h.le
    rw [List.length_cons] at h4
    unfold cand
    rw [if_neg (by omega)]
    have hk : xs.length ≤ min 5 ((fT (x :: xs)).length + 1) - 1 := by
      have : xs.length ≤ (fT (x :: xs)).length := hjn
      omega
    have e : spL (min 5 ((fT (x :: xs)).length + 1) - 1) (fT (x :: xs)) = (x :: xs).map f1 := by
      show spL _ (Lib.join ((x :: xs).map f1) [42]) = _
      rw [List.map_cons]
      refine spL_join _ _ _ (by rw [List.length_map]; exact hk) fun y hy => ?_
      rw [← List.map_cons] at hy
      obtain ⟨z, hz, rfl⟩ := List.mem_map.1 hy
      exact f1_42 (h.good z hz).1 (h.good z hz).2.2
    rw [e, List.map_map]
    have : ∀ y ∈ x :: xs, (fac ∘ f1) y = y := fun y hy => fac_f1 (h.good y hy).1 (h.good y hy).2.2
    rw [List.map_congr_left this]
    simp
theorem fT_inj {a b : List Fa} (ha : Ok a) (hb : Ok b) (h : fT a = fT b) : a = b := by rw [← cand_back ha, ← cand_back hb, h]
theorem ps_back {u : List Fa} (h : Ok u) : psE (fT u) = 0 ∧ psL (fT u) = u := by
  have e : psOk (fT u) = true := by
    unfold psOk
    rw [cand_back h, decide_eq_true ((ck_iff u).2 h), decide_eq_true rfl]
    rfl
  unfold psE psL
  rw [e, cand_back h]
  exact ⟨rfl, rfl⟩
theorem ps_ok {l : List UInt8} (h : psE l = 0) : Ok (psL l) ∧ fT (psL l) = l := by
  have e : psOk l = true := by
    cases hp : psOk l
    · unfold psE at h; rw [hp] at h; cases h
    · rfl
  unfold psL
  rw [if_pos e]
  unfold psOk at e
  rw [Bool.and_eq_true, decide_eq_true_eq, decide_eq_true_eq] at e
  exact ⟨(ck_iff _).1 e.1, e.2⟩
theorem ps_no {l : List UInt8} (h : psE l ≠ 0) : psE l = 3 ∧ psL l = [] := by
  cases hp : psOk l
  · unfold psE psL; rw [hp]; exact ⟨rfl, rfl⟩
  · unfold psE at h; rw [hp] at h; exact absurd rfl h
theorem fT_len {u : List Fa} (h : Ok u) : (fT u).length ≤ 200 := by
  have hg : ∀ (l : List Fa), (∀ x ∈ l, word x.1 = true ∧ far x.2 = false) → (fT l).length ≤ 28 * l.length := by
    intro l
    induction l with
    | nil => intro _; exact Nat.le_refl _
    | cons x l ih =>
      intro hl
      have hx := hl x (List.mem_cons_self ..)
      have h1 := (f1_len hx.1 hx.2).2
      have h2 := ih fun y hy => hl y (List.mem_cons_of_mem _ hy)
      cases l with
      | nil =>
        unfold fT
        rw [List.map_cons, List.map_nil, Lib.join_one]
        simp; omega
      | cons y l =>
        have e : fT (x :: y :: l) = f1 x ++ 42 :: fT (y :: l) := by
          unfold fT
          rw [List.map_cons, List.map_cons, Lib.join_cons, Lib.join_cons]
          simp [Lib.joinTail]
        rw [e, List.length_append, List.length_cons]
        simp only [List.length_cons] at *
        omega
  have := hg u fun x hx => ⟨(h.good x hx).1, (h.good x hx).2.2⟩
  have := h.le
  omega
end Go.Proofs.YtcndlcogainnkaaGreatDoor
