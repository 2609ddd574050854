/-
  Values as texts, and their tokens: plain facts.
-/
import Derived.Test.YtkfciilclfhabaaGreatDoorExa
import Derived.Test.YtkfciilclfhabaaGreatDoorLnf
namespace Go.Proofs.YtkfciilclfhabaaGreatDoor
open Go.RowKit dec

theorem bod_len {u : Nat} (h : u ≤ 1152921504606846976) : (bod u).length ≤ 40 := by
  have := dig_len (u / 1000000) (by omega)
  unfold bod
  rw [List.length_append, List.length_cons, frac_len]
  omega
/-- The tokens of the text of a token. -/
theorem tok_one {x : Tk} (h : pr x = true) (ha : x.a = 0) {S : ByteArray} (hS : S.data.toList = so x) (hz : S.size ≤ 16384) : tokE S = 0 ∧ tokL S = [x, endT S] ∧ tokB S = [] := by
  have h1 := lex_alone h 0 false
  obtain ⟨k, t, a⟩ := x
  simp only at ha h1
  subst ha
  refine ⟨by unfold tokE; rw [if_neg (by omega)], ?_, ?_⟩
  · unfold tokL
    rw [if_neg (by omega), hS, h1]
    rfl
  · unfold tokB
    rw [if_neg (by omega), hS, h1]
    rfl
theorem tok_minus {x : Tk} (h : pr x = true) {S : ByteArray} (hS : S.data.toList = 45 :: so x) (hz : S.size ≤ 16384) : tokE S = 0 ∧ tokL S = [⟨5, mns, 0⟩, ⟨x.k, x.t, 1⟩, endT S] ∧ tokB S = [] := by
  have h1 := lex_minus h
  refine ⟨by unfold tokE; rw [if_neg (by omega)], ?_, ?_⟩
  · unfold tokL
    rw [if_neg (by omega), hS, h1]
    rfl
  · unfold tokB
    rw [if_neg (by omega), hS, h1]
    rfl
/-- The text of a number without its sign. -/
theorem num_text (k : Int) (hk : k = 2 ∨ k = 3) (N : Nat) (hN : N ≤ 1152921504606846976) : ∃ t : ByteArray, t.size ≤ 40 ∧ fm ⟨k, (N : Int), .empty⟩ = t.data.toList ∧ pr ⟨k, t, 0⟩ = true ∧ (k = 3 → paX t.data.toList = (N : Int) ∧ paE t.data.toList = 0) ∧ (0 < N → fm ⟨k, -(N : Int), .empty⟩ = 45 :: t.data.toList) := by
  have hlen : ∀ l : List UInt8, (⟨l.toArray⟩ : ByteArray).size = l.length := fun l => by rw [← str_len]
  rcases hk with rfl | rfl
  · refine ⟨⟨(Lib.decDigits N).toArray⟩, ?_, ?_, ?_, fun h => absurd h (by decide), ?_⟩
    · rw [hlen]
      have := dig_len N (by omega)
      omega
    · unfold fm
      rw [if_pos (ok_int (by omega) (by omega))]
      show Lib.itoa (N : Int) = Lib.decDigits N
      unfold Lib.itoa
      rw [if_neg (by omega), Int.toNat_natCast]
    · refine pr_int (ds := Lib.decDigits N) rfl ?_ (dec_isD N) (by rw [dec_dval]; exact hN) 0
      obtain ⟨c, r, e⟩ := dec_cons N
      rw [e]
      simp
    · intro h0
      unfold fm
      rw [if_pos (ok_int (by omega) (by omega))]
      show Lib.itoa (-(N : Int)) = 45 :: Lib.decDigits N
      unfold Lib.itoa
      rw [if_pos (by omega), show (-(N : Int)).natAbs = N by omega]
  · have hfo : foX (N : Int) = bod N := by
      rw [fo_eq, if_neg (by omega), Int.natAbs_natCast]
      rfl
    have hpa := pa_fo (x := (N : Int)) (by omega) (by omega)
    rw [hfo] at hpa
    refine ⟨⟨(bod N).toArray⟩, ?_, ?_, ?_, fun _ => hpa, ?_⟩
    · rw [hlen]
      exact bod_len hN
    · unfold fm
      rw [if_pos (ok_dec (by omega) (by omega))]
      exact hfo
    · refine pr_decimal (ds := Lib.decDigits (N / 1000000)) (fs := frac N) rfl ?_ (by unfold frac; simp) (dec_isD _) (frac_isD N) hpa.2 0
      obtain ⟨c, r, e⟩ := dec_cons (N / 1000000)
      rw [e]
      simp
    · intro h0
      unfold fm
      rw [if_pos (ok_dec (by omega) (by omega))]
      show foX (-(N : Int)) = 45 :: bod N
      rw [fo_eq, if_pos (by omega), show (-(N : Int)).natAbs = N by omega]
      rfl
theorem so_num {k : Int} (hk : k ≠ 4) (t : ByteArray) (a : Int) : so ⟨k, t, a⟩ = t.data.toList := by
  unfold so
  rw [if_neg hk]
/-- What the walk uses of a number. -/
theorem num_facts (k : Int) (hk : k = 2 ∨ k = 3) (n : Int) (h1 : -1152921504606846976 ≤ n) (h2 : n ≤ 1152921504606846976) : ∃ (N : Int) (t : ByteArray), 0 ≤ N ∧ N ≤ 1152921504606846976 ∧ (n = N ∨ n = -N) ∧ t.size ≤ 40 ∧ fm ⟨k, N, .empty⟩ = t.data.toList ∧
    (tokE t = 0 ∧ tokL t = [⟨k, t, 0⟩, endT t] ∧ tokB t = []) ∧ psP t.data.toList = (⟨k, N, .empty⟩, 0) ∧ (k = 3 → paX t.data.toList = N ∧ paE t.data.toList = 0) ∧
    ((0 ≤ n ∧ n = N) ∨ (n < 0 ∧ n = -N ∧ ∃ u : ByteArray, u.size ≤ 41 ∧ fm ⟨k, n, .empty⟩ = u.data.toList ∧ tokE u = 0 ∧ tokL u = [⟨5, mns, 0⟩, ⟨k, t, 1⟩, endT u] ∧ tokB u = [] ∧ smB true 1 [⟨k, t, 0⟩, endT t] [⟨k, t, 1⟩, endT u] = true)) := by
  obtain ⟨t, z1, z2, z3, z4, z5⟩ := num_text k hk n.natAbs (by omega)
  have hk4 : k ≠ 4 := by omega
  have hso := so_num hk4 t 0
  have hok : ok ⟨k, (n.natAbs : Int), .empty⟩ = true := by
    rcases hk with rfl | rfl
    · exact ok_int (by omega) (by omega)
    · exact ok_dec (by omega) (by omega)
  refine ⟨(n.natAbs : Int), t, by omega, by omega, by omega, z1, z2, tok_one z3 rfl hso.symm (by omega), by rw [← z2]; exact ps_fm hok, z4, ?_⟩
  by_cases h0 : 0 ≤ n
  · exact .inl ⟨h0, by omega⟩
  · right
    have hsz : (⟨(45 :: t.data.toList).toArray⟩ : ByteArray).size = t.size + 1 := by
      rw [← str_len, ← str_len t]
      simp
    refine ⟨by omega, by omega, ⟨(45 :: t.data.toList).toArray⟩, ?_, ?_, ?_⟩
    · rw [hsz]
      omega
    · have := z5 (by omega)
      rw [show -(n.natAbs : Int) = n by omega] at this
      exact this
    · obtain ⟨y1, y2, y3⟩ := tok_minus (S := ⟨(45 :: t.data.toList).toArray⟩) z3 (by rw [hso]) (by rw [hsz]; omega)
      refine ⟨y1, y2, y3, ?_⟩
      unfold endT
      rw [hsz]
      have w1 : wrap64 (0 + 1) = 1 := by unfold wrap64; omega
      have w2 : wrap64 (((t.size : Nat) : Int) + 1) = ((t.size + 1 : Nat) : Int) := by unfold wrap64; omega
      simp only [smB, w1, w2, decide_true, Bool.true_and, Bool.or_true]
/-- What the walk uses of a text. -/
theorem text_facts (s : ByteArray) (h1 : s.size ≤ 64) (h2 : pB 32 s.data.toList = true) : ∃ t : ByteArray, t.size ≤ 70 ∧ t.data.toList = 34 :: (s.data.toList ++ [34]) ∧ fm ⟨4, 0, s⟩ = t.data.toList ∧ tokE t = 0 ∧ tokL t = [⟨4, s, 0⟩, endT t] ∧ tokB t = [] := by
  have hx : txE s.data.toList = 0 := by
    unfold txE
    rw [str_len, if_neg (by omega), if_pos h2]
  have hp := pr_txt hx 0
  obtain ⟨t, ht⟩ : ∃ t : ByteArray, t.data.toList = 34 :: (s.data.toList ++ [34]) := ⟨⟨(34 :: (s.data.toList ++ [34])).toArray⟩, rfl⟩
  have hz : t.size ≤ 70 := by
    rw [← str_len, ht]
    simp only [List.length_cons, List.length_append, List.length_nil, str_len]
    omega
  obtain ⟨y1, y2, y3⟩ := tok_one hp rfl (S := t) (by rw [ht]; rfl) (by omega)
  refine ⟨t, hz, ht, ?_, y1, y2, y3⟩
  unfold fm
  rw [if_pos (ok_text h1 h2), ht]
  rfl
end Go.Proofs.YtkfciilclfhabaaGreatDoor
