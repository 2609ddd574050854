/-
  What the statements of the tokens of a source need, as plain data.
-/
import Derived.Test.YtkfciilclfhabaaGreatDoorExa
namespace Go.Proofs.YtkfciilclfhabaaGreatDoor
open Go.RowKit dec

theorem size_u8 (W : World) : (Go.sizeOf 5).run Tryz.prog W = .ok 1 W := by
  obtain ⟨i, h1, h2, h3, h4⟩ := info_parts infoU
  rw [run_sizeOf W h1, show Tryz.prog.cellsOf 5 = 1 by kernel_rfl]
theorem ba_get (x : ByteArray) (k : Nat) (hk : k < x.size) : x.data.toList[k]? = some x[k] := by
  rw [List.getElem?_eq_getElem (by rw [str_len]; exact hk)]
  rfl
theorem ext_at (s : ByteArray) (i m j : Nat) (hj : j < m) (h : i + m ≤ s.size) : s[i + j] = (s.extract i (i + m))[j]'(by rw [ext_size s h]; exact hj) := by
  have e : (s.extract i (i + m)).data.toList[j]? = s.data.toList[i + j]? := by
    rw [ext_part, List.getElem?_take_of_lt hj, List.getElem?_drop]
  rw [ba_get _ j (by rw [ext_size s h]; exact hj), ba_get s (i + j) (by omega)] at e
  exact (Option.some.inj e).symm
/-- A part of a slice of bytes. -/
theorem Bs.cut {w : World} {a : Option Addr} {n cap : Nat} {s : ByteArray} (h : Bs w a n cap s) {i m : Nat} (hi : i + m ≤ n) :
    ∃ a2 c2, (∀ W, (Instr.slice 22 (.slice a n cap) (some (.int .i64 (i : Nat))) (some (.int .i64 ((i + m : Nat) : Int))) none).run Tryz.prog W = .ok (.slice a2 m c2) W) ∧ Bs w a2 m c2 (s.extract i (i + m)) := by
  have hn := h.hn
  have hc := h.hcap
  have ht : Tryz.prog.underlying 22 = some (.slice (Tryz.prog.elem 22)) := by simp [Program.elem, Tryz.underlying22]
  have he : Tryz.prog.elem 22 = 5 := by simp [Program.elem, Tryz.underlying22]
  have hz : ∀ W, (Go.sizeOf 5).run Tryz.prog W = .ok 1 W := size_u8
  have hx := ext_size s (a := i) (n := m) (by omega)
  refine ⟨if cap = i then a else a.map (·.add (i * 1)), cap - i, fun W => ?_, ⟨?_, hx, by omega, by have := h.hmax; omega, ?_⟩⟩
  · rw [run_slice_lh W 22 a n cap ht .i64 .i64 _ _ (by omega) (by omega) (by omega), he, hz, Int.toNat_natCast, Int.toNat_natCast]
    unfold sliced
    simp only [Result.andThen_ok]
    rw [show i + m - i = m by omega]
  · by_cases h0 : m = 0
    · exact .inl (by rw [hx]; exact h0)
    · obtain ⟨b, off, rfl, hB⟩ := h.hat.resolve_left (by omega)
      refine .inr ⟨b, off + i, ?_, fun j hj => ?_⟩
      · rw [if_neg (by omega)]
        by_cases h1 : i = 0
        · subst h1; simp [Addr.add]
        · simp [Addr.add, h1]
      · rw [hx] at hj
        rw [show off + i + j = off + (i + j) by omega, hB (i + j) (by omega)]
        rw [ext_at s i m j hj (by omega)]
  · intro hn0
    split at hn0
    · have := h.hno hn0; omega
    · cases a with
      | none => have := h.hno rfl; omega
      | some a => cases hn0
/-- The tokens stand in a source, one after the other; the last one is the end. -/
def CvL (s : ByteArray) : Nat → List Tk → Prop
  | _, [] => True
  | p, x :: l => ∃ a : Nat, x.a = (a : Nat) ∧ p ≤ a ∧ a + (so x).length ≤ s.size ∧ (s.data.toList.drop a).take (so x).length = so x ∧ (x.k = 6 ↔ l = []) ∧ CvL s (a + (so x).length) l
theorem cov_end (s : ByteArray) : ∀ (l : List Tk) (p : Nat), p ≤ s.size → Cov s.data.toList p l → CvL s p (l ++ [endT s])
  | [], p, hp, _ => ⟨s.size, rfl, hp, Nat.le_refl _, rfl, ⟨fun _ => rfl, fun _ => rfl⟩, trivial⟩
  | x :: l, p, hp, ⟨a, h1, h2, h3, h4, h5, h6⟩ => by
    rw [str_len] at h3
    exact ⟨a, h1, h2, h3, h4, ⟨fun h => absurd h h5, fun h => absurd h (by simp)⟩, cov_end s l _ h3 h6⟩
theorem cov_tok (s : ByteArray) (h : s.size ≤ 16384) : CvL s 0 (tokL s) := by
  unfold tokL
  rw [if_neg (by omega)]
  exact cov_end s _ 0 (Nat.zero_le _) (lex_cov s.data.toList 0 false s.data.toList rfl (Nat.zero_le _)).1
theorem covB_take {n : Nat} : ∀ {l : List Pb} {p : Nat} (k : Nat), CovB n p l → CovB n p (l.take k)
  | [], _, k, _ => by rw [List.take_nil]; trivial
  | _ :: _, _, 0, _ => trivial
  | q :: l, p, k + 1, ⟨a, h1, h2, h3, h4, h5⟩ => ⟨a, h1, h2, h3, h4, covB_take k h5⟩
theorem covB_at {n : Nat} : ∀ {l : List Pb} {p : Nat} (j : Nat), CovB n p l → j < l.length → ∃ a : Nat, (pb.gt l j).1 = (a : Nat) ∧ p ≤ a ∧ a < n ∧ (pb.gt l j).2 ≠ 0 ∧ (0 < j → (pb.gt l (j - 1)).1 < (a : Nat))
  | [], _, j, _, h => by cases h
  | q :: l, p, 0, ⟨a, h1, h2, h3, h4, h5⟩, _ => ⟨a, h1, h2, h3, h4, fun h => absurd h (by omega)⟩
  | q :: l, p, j + 1, ⟨a, h1, h2, h3, h4, h5⟩, h => by
    obtain ⟨b, g1, g2, g3, g4, g5⟩ := covB_at j h5 (by simpa using h)
    refine ⟨b, g1, by omega, g3, g4, fun _ => ?_⟩
    cases j with
    | zero =>
      show q.1 < _
      omega
    | succ j => exact g5 (by omega)
theorem covB_tok (s : ByteArray) (h : s.size ≤ 16384) : CovB s.size 0 (tokB s) := by
  unfold tokB
  rw [if_neg (by omega)]
  have := (lex_cov s.data.toList 0 false s.data.toList rfl (Nat.zero_le _)).2
  rw [str_len] at this
  exact covB_take 32 this
theorem tokB_few (s : ByteArray) : (tokB s).length ≤ 32 := by
  unfold tokB
  split
  · exact Nat.zero_le _
  · rw [List.length_take]; omega
theorem tokL_last (s : ByteArray) (h : s.size ≤ 16384) : 1 ≤ (tokL s).length ∧ (tokL s).length ≤ s.size + 1 ∧ tk.gt (tokL s) ((tokL s).length - 1) = endT s := by
  have := lex_few s
  unfold tokL
  rw [if_neg (by omega), List.length_append, List.length_singleton]
  refine ⟨by omega, by omega, ?_⟩
  rw [tk.gt_eq (by rw [List.length_append, List.length_singleton]; omega)]
  simp
theorem so_len (x : Tk) : x.t.size ≤ (so x).length := by
  unfold so
  rw [← str_len]
  split
  · simp; omega
  · exact Nat.le_refl _
theorem ba_so {S : ByteArray} {x : Tk} (s : ByteArray) (hS : S = ⟨(so x).toArray⟩) {a : Nat} (h : (s.data.toList.drop a).take (so x).length = so x) : s.extract a (a + (so x).length) = S := by
  apply ba_ext
  rw [ext_part, h, hS]
end Go.Proofs.YtkfciilclfhabaaGreatDoor
