/-
  Names and keywords are words: plain data.
-/
import Derived.Test.YtkfciilclfhabaaGreatDoorCvf
namespace Go.Proofs.YtkfciilclfhabaaGreatDoor
open Go.RowKit dec

theorem prB_word (s : ByteArray) : prB 1 s = wd1 s := prB_pr ⟨1, s, 0⟩ (by unfold so; rw [if_neg (show ¬ (1 : Int) = 4 by decide)])
theorem kw_all : (kwL.all fun l => wd1 ⟨l.toArray⟩) = true := by decide +kernel
theorem kw_word {s : ByteArray} (h : kw s = true) : wd1 s = true := by
  obtain ⟨l, hl, he⟩ := List.any_eq_true.1 h
  have h1 := List.all_eq_true.1 kw_all l hl
  have h2 : s.toList = l := beq_iff_eq.1 he
  rw [ByteArray.toList_eq] at h2
  rw [ba_of h2]
  exact h1
theorem name_or (s : ByteArray) : (name s || kw s) = wd1 s := by
  unfold name
  rw [prB_word]
  cases h : kw s
  · simp
  · rw [kw_word h]; rfl
theorem name_and (s : ByteArray) : (name s && kw s) = false := by
  unfold name
  cases kw s <;> simp
theorem tok_mem {s : ByteArray} (h : s.size ≤ 16384) {x : Tk} (hx : x ∈ tokL s) : x ∈ (lxs 0 false s.data.toList).1 ∨ x = endT s := by
  unfold tokL at hx
  rw [if_neg (by omega)] at hx
  rcases List.mem_append.1 hx with h1 | h1
  · exact .inl h1
  · exact .inr (List.mem_singleton.1 h1)
theorem cov_small (src : List UInt8) : ∀ (l : List Tk) (p : Nat), Cov src p l → ∀ x ∈ l, (so x).length ≤ src.length
  | [], _, _, x, h => by cases h
  | y :: l, p, ⟨a, h1, h2, h3, _, _, h6⟩, x, h => by
    rcases List.mem_cons.1 h with rfl | h
    · omega
    · exact cov_small src l _ h6 x h
theorem tok_small {s : ByteArray} (h : s.size ≤ 16384) {x : Tk} (hx : x ∈ tokL s) : x.t.size ≤ s.size := by
  rcases tok_mem h hx with h1 | rfl
  · have h2 := cov_small _ _ _ (lex_cov s.data.toList 0 false s.data.toList rfl (Nat.zero_le _)).1 x h1
    have h3 := so_len x
    rw [str_len] at h2
    omega
  · exact Nat.zero_le _
theorem tok_name {s : ByteArray} (h : s.size ≤ 16384) {x : Tk} (hx : x ∈ tokL s) (hk : x.k = 1) : (name x.t || kw x.t) = true := by
  rw [name_or]
  rcases tok_mem h hx with h1 | rfl
  · have h2 := lex_pr 0 false s.data.toList x h1
    unfold wd1
    rw [← (kt_pr (x := x) (y := ⟨1, x.t, 0⟩) hk rfl).2]
    exact h2
  · exact absurd hk (show ¬ (6 : Int) = 1 by decide)
/-- One word alone. -/
theorem word_yes {s : ByteArray} (h : s.size ≤ 16384) (hw : wd1 s = true) : tokL s = [⟨1, s, 0⟩, endT s] ∧ tokB s = [] := by
  have h1 := (lex_word s).2 hw
  unfold tokL tokB
  rw [if_neg (by omega), if_neg (by omega), h1]
  exact ⟨rfl, rfl⟩
theorem word_no {s : ByteArray} (h : s.size ≤ 16384) (hw : wd1 s = false) (h1 : (tokB s).length = 0) (h2 : (tokL s).length = 2) : ¬ ((tk.gt (tokL s) 0).k = 1 ∧ (tk.gt (tokL s) 0).t = s ∧ (tk.gt (tokL s) 0).a = 0) := by
  intro h3
  have hn : ¬ wd1 s = true := by rw [hw]; decide
  apply hn
  refine (lex_word s).1 ?_
  unfold tokB at h1
  unfold tokL at h2 h3
  rw [if_neg (by omega)] at h1 h2 h3
  rcases he : (lxs 0 false s.data.toList).1 with _ | ⟨x, _ | ⟨y, l⟩⟩
  · rw [he] at h2; cases h2
  · rw [he] at h3
    have h4 : (lxs 0 false s.data.toList).2 = [] := by
      rw [List.length_take] at h1
      exact List.eq_nil_of_length_eq_zero (by omega)
    have h5 : x = ⟨1, s, 0⟩ := by
      obtain ⟨k, t, a⟩ := x
      obtain ⟨g1, g2, g3⟩ := h3
      simp only [tk.gt, List.cons_append, List.nil_append, List.getD_cons_zero] at g1 g2 g3
      rw [g1, g2, g3]
    rw [← h5, ← he, ← h4]
  · rw [he] at h2; simp at h2
end Go.Proofs.YtkfciilclfhabaaGreatDoor
