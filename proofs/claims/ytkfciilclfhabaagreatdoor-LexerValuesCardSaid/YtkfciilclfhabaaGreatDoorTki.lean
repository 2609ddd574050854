/-
  The loop over a source, as plain data.
-/
import Derived.Test.YtkfciilclfhabaaGreatDoorByt
namespace Go.Proofs.YtkfciilclfhabaaGreatDoor
open Go.RowKit dec

def endT (s : ByteArray) : Tk := ⟨6, .empty, (s.size : Nat)⟩
def tokE (s : ByteArray) : Int := if 16384 < s.size then 2 else 0
def tokL (s : ByteArray) : List Tk := if 16384 < s.size then [] else (lxs 0 false s.data.toList).1 ++ [endT s]
def tokB (s : ByteArray) : List Pb := if 16384 < s.size then [] else (lxs 0 false s.data.toList).2.take 32
/-- What has been found where the loop stands at a; fe: behind the last foreign byte. -/
def LI (s : ByteArray) (a : Nat) (fe : Int) (ts : List Tk) (bs : List Pb) : Prop :=
  ∃ (p : Nat) (f : Bool), a = p + sk false (s.data.toList.drop p) ∧ a ≤ s.size ∧ ((f = true ∧ fe = (p : Nat)) ∨ (f = false ∧ fe < (p : Nat))) ∧ ts ++ (lxs p f (s.data.toList.drop p)).1 = (lxs 0 false s.data.toList).1 ∧ ∃ P, bs = P.take 32 ∧ P ++ (lxs p f (s.data.toList.drop p)).2 = (lxs 0 false s.data.toList).2
theorem skip_size (s : ByteArray) {p : Nat} (h : p ≤ s.size) : p + sk false (s.data.toList.drop p) ≤ s.size := by
  have := sk_le false (s.data.toList.drop p)
  rw [List.length_drop, str_len] at this
  omega
theorem LI.start (s : ByteArray) : LI s (0 + sk false (s.data.toList.drop 0)) (-1) [] [] :=
  ⟨0, false, rfl, skip_size s (Nat.zero_le _), .inr ⟨rfl, by omega⟩, rfl, [], rfl, rfl⟩
theorem LI.over {s : ByteArray} {a : Nat} {fe : Int} {ts : List Tk} {bs : List Pb} (h : LI s a fe ts bs) (ha : ¬ a < s.size) : (lxs 0 false s.data.toList).1 = ts ∧ (lxs 0 false s.data.toList).2.take 32 = bs := by
  obtain ⟨p, f, h1, h2, h3, h4, P, h5, h6⟩ := h
  have hd : (s.data.toList.drop p).drop (sk false (s.data.toList.drop p)) = [] := by
    rw [List.drop_drop, ← h1]
    exact List.drop_eq_nil_of_le (by rw [str_len]; omega)
  rw [lex_done hd] at h4 h6
  rw [List.append_nil] at h4 h6
  exact ⟨h4.symm, by rw [← h6, h5]⟩
theorem take_one {P : List Pb} {x : Pb} (h : (P.take 32).length < 32) : (P ++ [x]).take 32 = P.take 32 ++ [x] := by
  rw [List.length_take] at h
  rw [List.take_of_length_le (l := P) (by omega), List.take_of_length_le (by rw [List.length_append, List.length_singleton]; omega)]
theorem take_full {P : List Pb} {x : Pb} (h : ¬ (P.take 32).length < 32) : (P ++ [x]).take 32 = P.take 32 := by
  rw [List.length_take] at h
  rw [List.take_append_of_le_length (by omega)]
/-- One token or problem. -/
theorem LI.step {s : ByteArray} {a : Nat} {fe : Int} {ts : List Tk} {bs : List Pb} (h : LI s a fe ts bs) (ha : a < s.size) {k : Int} {n : Nat} (hs : shp (s.data.toList.drop a) = (k, n)) {c : Int} (hc : flt k ((s.data.toList.drop a).take n) = c) :
    (1 ≤ n ∧ a + n ≤ s.size) ∧ (c = 0 → k ≠ 0 ∧ LI s (a + n + sk false (s.data.toList.drop (a + n))) fe (ts ++ [⟨k, ⟨(cont k ((s.data.toList.drop a).take n)).toArray⟩, (a : Nat)⟩]) bs)
      ∧ (c ≠ 0 → k = 0 → (a : Int) = fe → LI s (a + n + sk false (s.data.toList.drop (a + n))) ((a + n : Nat) : Int) ts bs)
      ∧ (c ≠ 0 → ¬ (k = 0 ∧ (a : Int) = fe) → bs.length < 32 → LI s (a + n + sk false (s.data.toList.drop (a + n))) (if k = 0 then ((a + n : Nat) : Int) else fe) ts (bs ++ [(((a : Nat) : Int), c)]))
      ∧ (c ≠ 0 → ¬ (k = 0 ∧ (a : Int) = fe) → ¬ bs.length < 32 → LI s (a + n + sk false (s.data.toList.drop (a + n))) (if k = 0 then ((a + n : Nat) : Int) else fe) ts bs) := by
  obtain ⟨p, f, h1, h2, h3, h4, P, h5, h6⟩ := h
  have hne : s.data.toList.drop a ≠ [] := by
    intro e
    have := congrArg List.length e
    rw [List.length_drop, str_len, List.length_nil] at this
    omega
  have hd : (s.data.toList.drop p).drop (sk false (s.data.toList.drop p)) = s.data.toList.drop a := by rw [List.drop_drop, ← h1]
  have hn1 := shp_pos hne
  have hn2 := shp_le (s.data.toList.drop a)
  rw [hs, List.length_drop, str_len] at hn2
  rw [hs] at hn1
  simp only at hn1 hn2
  have hst := lex_step hd hne p f
  rw [hs] at hst
  simp only [hc] at hst
  rw [← h1, List.drop_drop] at hst
  have hz := skip_size s (p := a + n) (by omega)
  have hlow : fe ≤ (p : Int) := by omega
  have hpa : p ≤ a := by omega
  have hfe : (f = true ∧ sk false (s.data.toList.drop p) = 0) ↔ (a : Int) = fe := by
    rcases h3 with ⟨h3, h7⟩ | ⟨h3, h7⟩
    · rw [h3]; constructor
      · rintro ⟨_, h8⟩; omega
      · intro h8; exact ⟨rfl, by omega⟩
    · rw [h3]; constructor
      · rintro ⟨h8, _⟩; cases h8
      · intro h8; omega
  refine ⟨⟨hn1, by omega⟩, ?_, ?_, ?_, ?_⟩
  · intro hc0
    have hk : k ≠ 0 := by
      rintro rfl
      rw [flt_zero] at hc
      omega
    rw [if_pos hc0, decide_eq_false hk] at hst
    refine ⟨hk, a + n, false, rfl, hz, .inr ⟨rfl, by omega⟩, ?_, P, h5, ?_⟩
    · rw [← h4, hst]
      simp
    · rw [← h6, hst]
  · intro hc0 hk he
    rw [if_neg hc0, if_pos ⟨hk, hfe.2 he⟩, decide_eq_true hk] at hst
    refine ⟨a + n, true, rfl, hz, .inl ⟨rfl, rfl⟩, ?_, P, h5, ?_⟩
    · rw [← h4, hst]
    · rw [← h6, hst]
  · intro hc0 hk hl
    rw [if_neg hc0, if_neg (fun h => hk ⟨h.1, hfe.1 h.2⟩)] at hst
    refine ⟨a + n, decide (k = 0), rfl, hz, ?_, ?_, P ++ [(((a : Nat) : Int), c)], ?_, ?_⟩
    · by_cases h0 : k = 0
      · exact .inl ⟨decide_eq_true h0, by rw [if_pos h0]⟩
      · exact .inr ⟨decide_eq_false h0, by rw [if_neg h0]; omega⟩
    · rw [← h4, hst]
    · rw [h5] at hl ⊢
      rw [take_one hl]
    · rw [← h6, hst]
      simp
  · intro hc0 hk hl
    rw [if_neg hc0, if_neg (fun h => hk ⟨h.1, hfe.1 h.2⟩)] at hst
    refine ⟨a + n, decide (k = 0), rfl, hz, ?_, ?_, P ++ [(((a : Nat) : Int), c)], ?_, ?_⟩
    · by_cases h0 : k = 0
      · exact .inl ⟨decide_eq_true h0, by rw [if_pos h0]⟩
      · exact .inr ⟨decide_eq_false h0, by rw [if_neg h0]; omega⟩
    · rw [← h4, hst]
    · rw [h5] at hl ⊢
      rw [take_full hl]
    · rw [← h6, hst]
      simp
theorem lex_few (s : ByteArray) : (lxs 0 false s.data.toList).1.length ≤ s.size := by
  have h1 := sum_cov s.data.toList _ 0 (Nat.zero_le _) (lex_cov s.data.toList 0 false s.data.toList rfl (Nat.zero_le _)).1
  have h2 := len_sum _ (lex_pr 0 false s.data.toList)
  rw [str_len] at h1
  omega
theorem LI.few {s : ByteArray} {a : Nat} {fe : Int} {ts : List Tk} {bs : List Pb} (h : LI s a fe ts bs) : a ≤ s.size ∧ bs.length ≤ 32 ∧ ts.length ≤ s.size := by
  obtain ⟨p, f, h1, h2, h3, h4, P, h5, h6⟩ := h
  refine ⟨h2, by rw [h5, List.length_take]; omega, ?_⟩
  have := congrArg List.length h4
  rw [List.length_append] at this
  have := lex_few s
  omega
/-- Tokens and problems lie in blocks of their own. -/
theorem pb_stays {w w' : World} {B B2 : Nat} {v u : Value} {ts : List Tk} {bs : List Pb} (h1 : tk.Own w B v ts) (h2 : pb.Own w B2 u bs) (hg : w.grownBy w' v.ownBlock) : pb.Own w' B2 u bs := by
  obtain ⟨e1, e2⟩ := h2
  refine ⟨e1, ?_⟩
  rcases e2 with h0 | ⟨g, cap, cur, e, hbg, hh, r⟩
  · exact .inl h0
  · refine .inr ⟨g, cap, cur, e, hbg, ?_, r⟩
    have hlt : g < w.heap.size := by
      rcases Nat.lt_or_ge g w.heap.size with h' | h'
      · exact h'
      · rw [Array.getElem?_eq_none h'] at hh; cases hh
    have hne : v.ownBlock ≠ some g := by
      rcases h1.2 with ⟨rfl, _⟩ | ⟨g1, cap1, cur1, rfl, _, hh1, _⟩
      · simp [Value.ownBlock]
      · intro e2
        have : g1 = g := by simpa [Value.ownBlock] using e2
        subst this
        rw [hh] at hh1
        simp at hh1
    rw [hg.block g hlt (Ne.symm hne)]
    exact hh
theorem tk_stays {w w' : World} {B B2 : Nat} {v u : Value} {ts : List Tk} {bs : List Pb} (h1 : pb.Own w B v bs) (h2 : tk.Own w B2 u ts) (hg : w.grownBy w' v.ownBlock) : tk.Own w' B2 u ts := by
  obtain ⟨e1, e2⟩ := h2
  refine ⟨e1, ?_⟩
  rcases e2 with h0 | ⟨g, cap, cur, e, hbg, hh, r⟩
  · exact .inl h0
  · refine .inr ⟨g, cap, cur, e, hbg, ?_, r⟩
    have hlt : g < w.heap.size := by
      rcases Nat.lt_or_ge g w.heap.size with h' | h'
      · exact h'
      · rw [Array.getElem?_eq_none h'] at hh; cases hh
    have hne : v.ownBlock ≠ some g := by
      rcases h1.2 with ⟨rfl, _⟩ | ⟨g1, cap1, cur1, rfl, _, hh1, _⟩
      · simp [Value.ownBlock]
      · intro e2
        have : g1 = g := by simpa [Value.ownBlock] using e2
        subst this
        rw [hh] at hh1
        simp at hh1
    rw [hg.block g hlt (Ne.symm hne)]
    exact hh
end Go.Proofs.YtkfciilclfhabaaGreatDoor
