/-
  The reference: integers, strings, frames.
-/
import Derived.Test.YtegniedbiegcpaaRefA
namespace Go.Proofs.Ytegniedbiegcpaa
open Go.RowKit

theorem refInt_any (z : Int) (w : World) (h1 : -9223372036854775808 ≤ z) (h2 : z ≤ 9223372036854775807) : Calls Try.prog 18 #[.int .i64 z] w (Mk (en (fold z)) w) := by
  have c1 := refUint_any (fold z) w (fold_lt h1 h2)
  by_cases hz : 0 ≤ z
  · have e : ((fold z : Nat) : Int) = 2 * z := by unfold fold; rw [if_neg (by omega)]; omega
    rw [e] at c1
    clear e
    go_enter Try.func18, Try.ntmps18
    go_wp2_with fail
    refine c1.mono ?_
    rintro e w1 ⟨v, rfl, O, b⟩
    go_wp2_with fail
    go_ret
    exact ⟨v, rfl, O, b⟩
  · have e : ((fold z : Nat) : Int) = 2 * -(z + 1) + 1 := by unfold fold; rw [if_pos (by omega)]; omega
    rw [e] at c1
    clear e
    go_enter Try.func18, Try.ntmps18
    go_wp2_with fail
    refine c1.mono ?_
    rintro e w1 ⟨v, rfl, O, b⟩
    go_wp2_with fail
    go_ret
    exact ⟨v, rfl, O, b⟩

theorem refText_any (s : ByteArray) (w : World) (hs : s.size ≤ 140737488351222) : Calls Try.prog 20 #[.string s] w (Mk (en s.size ++ sl s) w) := by
  have c1 := refUint_any s.size w (by omega)
  have h10 := en_ten (n := s.size) (by omega)
  go_enter Try.func20, Try.ntmps20
  go_wp2_with fail
  refine c1.mono ?_
  rintro e w1 ⟨v, rfl, O, b⟩
  go_wp2_with (at_builtin; refine wpList_appS _ rfl (.tmp 6) (.tmp 7) rfl w.heap.size _ v _ rfl O s rfl (by omega) b.size ?_; intro v2 w2 O2 b2)
  go_ret
  refine ⟨v2, rfl, ?_, b.trans b2⟩
  rw [List.length_append, sl_length]
  exact O2

/-- What the reference's Sum returns. -/
def SumP (l : List Nat) (w : World) (e : Ending) (w' : World) : Prop := ∃ g, e = .returned (.slice (some ⟨g, 0, none⟩) 4 4) ∧ AtL w' (some ⟨g, 0, none⟩) (le4 (cs l)) ∧ Below w.heap.size w w'
theorem refSum_l {w : World} {a : Option Addr} {n cap : Nat} {l : List Nat} (h : Li w a n cap l) (h2 : n ≤ 140737488351232) :
    Calls Try.prog 50 #[.slice a n cap] w fun e w' => e = .returned (.int .u32 (cs l : Nat)) ∧ Below w.heap.size w w' := by
  have h1 := h.hat
  rw [← h.hn] at h2 ⊢
  exact (refSum_any a l.length cap (ix l) w h2 h1).mono fun e w' ⟨h3, h4⟩ => ⟨h3, by first | exact h4 | (subst h4; exact b0 _)⟩
theorem refSumB_any (a : Option Addr) (n cap : Nat) (l : List Nat) (w : World) (hA : Li w a n cap l) (hl : n ≤ 140737488351232) :
    Calls Try.prog 37 #[.slice a n cap] w (SumP l w) := by
  have c1 := refSum_l hA hl
  have hS := cs_lt hA.hat.by
  obtain ⟨S, hs⟩ : ∃ S, cs l = S := ⟨_, rfl⟩
  rw [hs] at c1 hS
  have HS := Lib.hid hs
  have e0 : (S : Int) % 256 = ((S % 256 : Nat) : Int) := by omega
  have e1 : (S : Int) / 256 % 256 = ((S / 256 % 256 : Nat) : Int) := by omega
  have e2 : (S : Int) / 65536 % 256 = ((S / 65536 % 256 : Nat) : Int) := by omega
  have e3 : (S : Int) / 16777216 = ((S / 16777216 % 256 : Nat) : Int) := by omega
  have E0 := Lib.hid e0
  have E1 := Lib.hid e1
  have E2 := Lib.hid e2
  have E3 := Lib.hid e3
  clear hs hA e0 e1 e2 e3
  go_enter Try.func37, Try.ntmps37
  go_wp2_with fail
  refine c1.mono ?_
  rintro e w1 ⟨rfl, b⟩
  go_wp2_with fail
  go_ret
  rw [E0.out, E1.out, E2.out, E3.out]
  refine ⟨w1.heap.size, rfl, ?_, balloc b _⟩
  rw [HS.out]
  exact made w1 (le4 S) (by_le4 S) (0, 0)

theorem refFrame_any (a : Option Addr) (n cap : Nat) (l : List Nat) (w : World) (hA : Li w a n cap l) (hl : n ≤ 140737488351200) :
    Calls Try.prog 22 #[.slice a n cap] w (Mk (en n ++ (l ++ le4 (cs l))) w) := by
  have c1 := refUint_any n w (by omega)
  have h10 := en_ten (n := n) (by omega)
  have HA := Lib.hid hA
  have HNO := Lib.hid hA.hno
  have HLN := Lib.hid hA.hn
  clear hA
  go_enter Try.func22, Try.ntmps22
  go_wp2_with fail
  refine c1.mono ?_
  rintro e w1 ⟨v, rfl, O, b⟩
  have A1 := HA.out.keeps b
  have hat := A1.hat
  clear c1
  go_wp2_with (at_builtin; refine wpList_appL _ rfl (.tmp 7) (.tmp 8) rfl w.heap.size _ v _ rfl O a n cap l rfl hat HLN.out HNO.out (by omega) b.size ?_; intro v2 w2 O2 b2)
  have b12 := b.trans b2
  refine (refSumB_any a n cap l w2 (HA.out.keeps b12) (by omega)).mono ?_
  rintro e w3 ⟨g, rfl, A3, b3⟩
  have O3 := O2.keeps b3
  have b13 := bnext b12 b3
  clear O2 b2 b3 b12 hat A1
  go_wp2_with (at_builtin; refine wpList_appL _ rfl (.tmp 10) (.tmp 12) rfl w.heap.size _ v2 _ rfl O3 (some ⟨g, 0, none⟩) 4 4 (le4 (cs l)) rfl A3 rfl (fun e => by cases e) (by omega) b13.size ?_; intro v4 w4 O4 b4)
  go_ret
  refine ⟨v4, rfl, ?_, b13.trans b4⟩
  rw [← List.append_assoc, List.length_append, List.length_append, HLN.out, show (le4 (cs l)).length = 4 from rfl]
  exact O4

theorem refSame_any (a : Option Addr) (n c : Nat) (l : List Nat) (a2 : Option Addr) (m d : Nat) (r : List Nat) (w : World) (h1 : AtL w a l) (h2 : l.length = n) (h3 : AtL w a2 r) (h4 : r.length = m) :
    Calls Try.prog 13 #[.slice a n c, .slice a2 m d] w fun e w' => e = .returned (.bool (decide (l = r))) ∧ w = w' := by
  have s1 := run_str h1 n c h2
  have s2 := run_str h3 m d h4
  have hb := eq_lists h1.by h3.by
  have HB := Lib.hid hb
  clear hb
  go_enter Try.func13, Try.ntmps13
  go_wp2_with fail
  go_ret
  exact ⟨by rw [← HB.out]; rfl, rfl⟩
theorem refLeft_out (a : Option Addr) (n c : Nat) (z : Int) (w : World) (h : z < 0 ∨ (n : Int) < z) :
    Calls Try.prog 40 #[.slice a n c, .int .i64 z] w fun e w' => e = .returned (.int .i64 (-1)) ∧ w = w' := by
  by_cases h0 : z < 0
  · have t1 : decide (z < 0) = true := decide_eq_true h0
    clear h
    go_enter Try.func40, Try.ntmps40
    go_wp2_with fail
    go_ret
    exact ⟨rfl, rfl⟩
  · have t1 : decide (z < 0) = false := decide_eq_false h0
    have t2 : decide ((n : Int) < z) = true := decide_eq_true (by omega)
    clear h h0
    go_enter Try.func40, Try.ntmps40
    go_wp2_with fail
    go_ret
    exact ⟨rfl, rfl⟩
theorem refLeft_in (a : Option Addr) (n c p F : Nat) (w : World) (hp : p ≤ n) (hF : n - p = F) (hn : n ≤ 281474976710656) :
    Calls Try.prog 40 #[.slice a n c, .int .i64 (p : Nat)] w fun e w' => e = .returned (.int .i64 (F : Nat)) ∧ w = w' := by
  have t1 : decide ((p : Int) < 0) = false := decide_eq_false (by omega)
  have t2 : decide ((n : Int) < p) = false := decide_eq_false (by omega)
  have t2' : decide (n < p) = false := decide_eq_false (by omega)
  have HF := Lib.hid hF
  clear hF
  go_enter Try.func40, Try.ntmps40
  go_wp2_with fail
  go_ret
  exact ⟨ret_int (by rw [← HF.out]; omega), rfl⟩
end Go.Proofs.Ytegniedbiegcpaa
