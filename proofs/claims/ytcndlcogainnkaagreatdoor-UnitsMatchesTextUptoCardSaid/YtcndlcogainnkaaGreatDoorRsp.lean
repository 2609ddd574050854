/-
  What the reference's Parse makes of a text, as plain data.
-/
import Derived.Test.YtcndlcogainnkaaGreatDoorRfp
namespace Go.Proofs.YtcndlcogainnkaaGreatDoor
open Go.RowKit

/-- At most so many parts of a text. -/
def spR : Nat → List UInt8 → List (List UInt8)
  | 0, _ => []
  | k + 1, s => if Lib.indexByte s 42 = -1 then [s] else s.take (Lib.indexByte s 42).toNat :: spR k (s.drop ((Lib.indexByte s 42).toNat + 1))
theorem spR_succ (k : Nat) (s : List UInt8) : spR (k + 1) s = if Lib.indexByte s 42 = -1 then [s] else s.take (Lib.indexByte s 42).toNat :: spR k (s.drop ((Lib.indexByte s 42).toNat + 1)) := rfl
def rcand (l : List UInt8) : List Fa := (spR 5 l).map rfac
theorem spR_join : ∀ (xs : List (List UInt8)) (x : List UInt8) (k : Nat), xs.length < k → (∀ y ∈ x :: xs, (42 : UInt8) ∉ y) → spR k (Lib.join (x :: xs) [42]) = x :: xs
  | _, _, 0, hk, _ => by omega
  | [], x, k + 1, _, h => by
    rw [Lib.join_one]
    unfold spR
    rw [if_pos (ix_out (h x (List.mem_cons_self ..)))]
  | y :: xs, x, k + 1, hk, h => by
    have e : Lib.join (x :: y :: xs) [42] = x ++ 42 :: Lib.join (y :: xs) [42] := by
      rw [Lib.join_cons, Lib.join_cons]
      simp [Lib.joinTail]
    rw [e]
    unfold spR
    rw [ix_at _ _ _ (h x (List.mem_cons_self ..)), if_neg (by omega), Int.toNat_natCast]
    have e1 : (x ++ 42 :: Lib.join (y :: xs) [42]).take x.length = x := by simp
    have e2 : (x ++ 42 :: Lib.join (y :: xs) [42]).drop (x.length + 1) = Lib.join (y :: xs) [42] := by
      exact drop_past _ _ _
    rw [e1, e2, spR_join xs y k (by simpa using hk) fun z hz => h z (List.mem_cons_of_mem _ hz)]
theorem rcand_back {u : List Fa} (h : Ok u) (h0 : u ≠ []) : rcand (fT u) = u := by
  cases u with
  | nil => exact absurd rfl h0
  | cons x xs =>
    have h4 := h.le
    rw [List.length_cons] at h4
    unfold rcand
    have e : spR 5 (fT (x :: xs)) = (x :: xs).map f1 := by
      show spR 5 (Lib.join ((x :: xs).map f1) [42]) = _
      rw [List.map_cons]
      refine spR_join _ _ _ (by rw [List.length_map]; omega) fun y hy => ?_
      rw [← List.map_cons] at hy
      obtain ⟨z, hz, rfl⟩ := List.mem_map.1 hy
      exact f1_42 (h.good z hz).1 (h.good z hz).2.2
    rw [e, List.map_map]
    have : ∀ y ∈ x :: xs, (rfac ∘ f1) y = y := fun y hy => rfac_f1 (h.good y hy).1 (h.good y hy).2.2
    rw [List.map_congr_left this]
    simp
/-- What is refused, and what is not. -/
theorem rc_yes {l : List UInt8} (h1 : ck (rcand l) = 0) (h2 : fT (rcand l) = l) : psE l = 0 ∧ psL l = rcand l := by
  have ok := (ck_iff _).1 h1
  have := ps_back ok
  rw [h2] at this
  exact this
theorem rc_no {l : List UInt8} (h0 : l ≠ []) (h : ck (rcand l) ≠ 0 ∨ fT (rcand l) ≠ l) : psE l = 3 ∧ psL l = [] := by
  refine ps_no fun h3 => ?_
  obtain ⟨ok, h4⟩ := ps_ok h3
  have hne : psL l ≠ [] := by
    intro e
    rw [e] at h4
    exact h0 h4.symm
  have hb := rcand_back ok hne
  rw [h4] at hb
  rw [hb] at h
  rcases h with h | h
  · exact h ((ck_iff _).2 ok)
  · exact h h4
/-- One step of the loop: no star yet, a star, the end. -/
def RI (s : List UInt8) (from' i : Nat) (l : List Fa) : Prop := l.length ≤ 5 ∧ ((i ≤ s.length ∧ from' ≤ i ∧ (42 : UInt8) ∉ (s.drop from').take (i - from') ∧ rcand s = l ++ (spR (5 - l.length) (s.drop from')).map rfac) ∨ (i = s.length + 1 ∧ rcand s = l))
theorem RI.start (s : List UInt8) : RI s 0 0 [] := ⟨by simp, .inl ⟨Nat.zero_le _, Nat.le_refl _, by simp, rfl⟩⟩
theorem RI.over {s : List UInt8} {a i : Nat} {l : List Fa} (h : RI s a i l) (h1 : ¬ (i ≤ s.length ∧ l.length ≤ 4)) : rcand s = l := by
  obtain ⟨h5, ⟨h2, h3, h4, h6⟩ | ⟨h2, h3⟩⟩ := h
  · rw [h6, show 5 - l.length = 0 by omega]
    simp [spR]
  · exact h3
theorem RI.next {s : List UInt8} {a i : Nat} {l : List Fa} (h : RI s a i l) (hi : i < s.length) (hs : s[i] ≠ 42) : RI s a (i + 1) l := by
  obtain ⟨h5, ⟨h2, h3, h4, h6⟩ | ⟨h2, h3⟩⟩ := h
  · refine ⟨h5, .inl ⟨hi, by omega, ?_, h6⟩⟩
    rw [show i + 1 - a = (i - a) + 1 by omega, List.take_succ_eq_append_getElem (by rw [List.length_drop]; omega), List.mem_append, List.mem_singleton]
    rintro (h | h)
    · exact h4 h
    · rw [List.getElem_drop] at h
      apply hs
      rw [h]
      congr 1
      omega
  · omega
theorem RI.star {s : List UInt8} {a i : Nat} {l : List Fa} (h : RI s a i l) (hi : i < s.length) (h4' : l.length ≤ 4) (hs : s[i] = 42) : RI s (i + 1) (i + 1) (l ++ [rfac ((s.drop a).take (i - a))]) := by
  obtain ⟨h5, ⟨h2, h3, h4, h6⟩ | ⟨h2, h3⟩⟩ := h
  · have hl : ((s.drop a).take (i - a)).length = i - a := by rw [List.length_take, List.length_drop]; omega
    have e : s.drop a = (s.drop a).take (i - a) ++ 42 :: s.drop (i + 1) := by
      have := List.take_append_drop (i - a) (s.drop a)
      rw [List.drop_drop, show a + (i - a) = i by omega, List.drop_eq_getElem_cons hi, hs] at this
      exact this.symm
    have hx : Lib.indexByte (s.drop a) 42 = ((i - a : Nat) : Int) := by
      rw [e, ix_at _ _ _ h4, hl]
    refine ⟨by rw [List.length_append, List.length_singleton]; omega, .inl ⟨hi, Nat.le_refl _, by simp, ?_⟩⟩
    rw [h6, show 5 - l.length = (4 - l.length) + 1 by omega, List.length_append, List.length_singleton, show 5 - (l.length + 1) = 4 - l.length by omega]
    rw [spR_succ, hx, if_neg (by omega), Int.toNat_natCast, List.map_cons, List.append_assoc, List.drop_drop, show a + (i - a + 1) = i + 1 by omega]
    rfl
  · omega
theorem RI.last {s : List UInt8} {a : Nat} {l : List Fa} (h : RI s a s.length l) (h4' : l.length ≤ 4) : RI s (s.length + 1) (s.length + 1) (l ++ [rfac ((s.drop a).take (s.length - a))]) := by
  obtain ⟨h5, ⟨h2, h3, h4, h6⟩ | ⟨h2, h3⟩⟩ := h
  · have ht : (s.drop a).take (s.length - a) = s.drop a := List.take_of_length_le (by rw [List.length_drop]; omega)
    rw [ht] at h4
    refine ⟨by rw [List.length_append, List.length_singleton]; omega, .inr ⟨rfl, ?_⟩⟩
    rw [ht, h6, show 5 - l.length = (4 - l.length) + 1 by omega]
    rw [spR_succ, if_pos (ix_out h4)]
    rfl
  · omega
theorem RI.from_le {s : List UInt8} {a i : Nat} {l : List Fa} (h : RI s a i l) (hi : i ≤ s.length) : a ≤ i := by
  obtain ⟨_, ⟨_, h3, _⟩ | ⟨h2, _⟩⟩ := h
  · exact h3
  · omega
end Go.Proofs.YtcndlcogainnkaaGreatDoor
