/-
  The walk of WireReadsBack.
-/
import Derived.Test.YtegniedbiegcpaaApart
import Derived.Test.YtegniedbiegcpaaMap
namespace Go.Proofs.Ytegniedbiegcpaa
open Go.RowKit

theorem OwL.lit (w : World) : OwL (w.alloc (.cells #[] 5)) w.heap.size (.slice (some ⟨w.heap.size, 0, none⟩) 0 0) 0 [] :=
  ⟨World.ownsRow_lit (e := 5) (size := 1) w #[] 0 (Nat.le_refl _) (by unfold maxLen; omega) rfl, By.nil, rfl⟩

set_option maxRecDepth 100000 in
set_option maxHeartbeats 2000000 in
theorem walk_back (a : Option Addr) (n cap : Nat) (l : List Nat) (v : Nat) (z : Int) (s : ByteArray) (a2 : Option Addr) (m cap2 : Nat) (r : List Nat) (w : World) (hA : Li w a n cap l) (hn : n ≤ 1048576) (hv : v < 18446744073709551616) (h1 : -9223372036854775808 ≤ z) (h2 : z ≤ 9223372036854775807) (hs : s.size ≤ 1048576) (hB : Li w a2 m cap2 r) (hm : m ≤ 1048576) :
    Calls Try.prog 5 #[.slice a n cap, .int .u64 (v : Nat), .int .i64 z, .string s, .slice a2 m cap2] w fun e w' => e = .returned (.bool true) ∧ Below w.heap.size w w' := by
  have e1 := en_ten hv
  have e2 := en_ten (fold_lt h1 h2)
  have e3 := en_ten (n := s.size) (by omega)
  have hl := hA.hn
  have hr := hB.hn
  have HA := Lib.hid hA
  have HB := Lib.hid hB
  obtain ⟨N1, hN1⟩ : ∃ x, n + (en v).length = x := ⟨_, rfl⟩
  obtain ⟨N2, hN2⟩ : ∃ x, N1 + (en (fold z)).length = x := ⟨_, rfl⟩
  obtain ⟨N3, hN3⟩ : ∃ x, N2 + (en s.size).length + s.size = x := ⟨_, rfl⟩
  have f1 : (l ++ en v).length = N1 := by rw [List.length_append, hl]; exact hN1
  have f2 : (l ++ en v ++ en (fold z)).length = N2 := by rw [List.length_append, f1]; exact hN2
  have U1 : rU (l ++ en v ++ en (fold z) ++ (en s.size ++ sl s) ++ r) (n : Int) = (v, N1, 0) := by
    have := rU_back l (en (fold z) ++ ((en s.size ++ sl s) ++ r)) hv
    rw [hl, hN1] at this
    simpa only [List.append_assoc] using this
  have U2 : rI (l ++ en v ++ en (fold z) ++ (en s.size ++ sl s) ++ r) (N1 : Int) = (z, N2, 0) := by
    have := rI_back (l ++ en v) ((en s.size ++ sl s) ++ r) h1 h2
    rw [f1, hN2] at this
    simpa only [List.append_assoc] using this
  have U3 : rT (l ++ en v ++ en (fold z) ++ (en s.size ++ sl s) ++ r) (N2 : Int) = (sl s, N3, 0) := by
    have := rT_back (l ++ en v ++ en (fold z)) (sl s) r (by rw [sl_length]; omega)
    rw [f2, sl_length, hN3] at this
    simpa only [List.append_assoc] using this
  have C1 : ∀ w (_ : Li w a n cap l), Calls Try.prog 14 #[.slice a n cap, .int .u64 (v : Nat)] w fun e w' => e = .returned (.slice (some ⟨w.heap.size, 0, none⟩) N1 (n + 10)) ∧ Ow w' w.heap.size N1 (n + 10) (l ++ en v) ∧ Below w.heap.size w w' := fun w h => appendUint_any a n cap v l w h (by omega) hv N1 hN1
  have C2 : ∀ a c w (_ : Li w a N1 c (l ++ en v)), Calls Try.prog 17 #[.slice a N1 c, .int .i64 z] w fun e w' => e = .returned (.slice (some ⟨w.heap.size, 0, none⟩) N2 (N1 + 10)) ∧ Ow w' w.heap.size N2 (N1 + 10) (l ++ en v ++ en (fold z)) ∧ Below w.heap.size w w' := fun a c w h => appendInt_any a N1 c z _ w h (by omega) h1 h2 N2 hN2
  have C3 : ∀ a c w (_ : Li w a N2 c (l ++ en v ++ en (fold z))), Calls Try.prog 19 #[.slice a N2 c, .string s] w fun e w' => e = .returned (.slice (some ⟨w.heap.size, 0, none⟩) N3 (N2 + (s.size + 10))) ∧ Ow w' w.heap.size N3 (N2 + (s.size + 10)) (l ++ en v ++ en (fold z) ++ (en s.size ++ sl s)) ∧ Below w.heap.size w w' := fun a c w h => appendText_any a N2 c s _ w h (by omega) (by omega) N3 hN3
  generalize l ++ en v ++ en (fold z) ++ (en s.size ++ sl s) = x3 at *
  generalize l ++ en v ++ en (fold z) = x2 at *
  generalize l ++ en v = x1 at *
  have l1 : N1 ≤ n + 10 := by omega
  have l2 : N2 ≤ n + 20 := by omega
  have l3 : N3 ≤ n + 30 + s.size := by omega
  have HU1 := Lib.hid U1
  have HU2 := Lib.hid U2
  have HU3 := Lib.hid U3
  have HC1 := Lib.hid C1
  have HC2 := Lib.hid C2
  have HC3 := Lib.hid C3
  have hvv : ((v : Int) != (v : Int)) = false := by simp
  have hzz : (z != z) = false := by simp
  have q1 : ((N1 : Int) != (N1 : Int)) = false := by simp
  have q2 : ((N2 : Int) != (N2 : Int)) = false := by simp
  have q3 : ((N3 : Int) == (N3 : Int)) = true := by simp
  clear hA hB hl hr hv h1 h2 e1 e2 e3 hN1 hN2 hN3 f1 f2 U1 U2 U3 C1 C2 C3
  go_enter Try.func5, Try.ntmps5
  go_wp2_with fail
  refine (example_any _).mono ?_
  rintro e w0 ⟨rfl, k⟩
  go_wp2_with fail
  refine (HC1.out _ (HA.out.keeps k)).mono ?_
  rintro e w1 ⟨rfl, O, b⟩
  replace k := bnext k b
  have A1 := O.li (by omega)
  clear b O
  generalize w0.heap.size = g1 at *
  go_wp2_with fail
  refine (HC2.out _ _ _ A1).mono ?_
  rintro e w2 ⟨rfl, O, b⟩
  replace k := bnext k b
  have A2 := O.li (by omega)
  clear b O A1
  generalize w1.heap.size = g2 at *
  go_wp2_with fail
  refine (HC3.out _ _ _ A2).mono ?_
  rintro e w3 ⟨rfl, O, b⟩
  replace k := bnext k b
  have A3 := O.li (by omega)
  clear b O A2
  generalize w2.heap.size = g3 at *
  have hat := (A3.keeps (balloc (b0 w3) (.cells #[] 5))).hat
  have H3 := Lib.hid A3.hn
  have B3 := Lib.hid (HB.out.keeps k)
  have O := OwL.lit w3
  have b0 := balloc (b0 w3) (.cells #[] 5)
  clear A3
  go_wp2_with (first | (at_builtin; refine wpList_appL _ rfl (.tmp 31) (.tmp 32) rfl w3.heap.size 0 _ [] rfl O (some ⟨g3, 0, none⟩) N3 _ x3 rfl hat H3.out (fun h => by cases h) (by omega) b0.size ?_; intro v1 w4 O1 b1; rw [Nat.zero_add, List.nil_append] at O1; replace b1 := b0.trans b1; have hat2 := (B3.out.keeps b1).hat) | (at_builtin; refine wpList_appL _ rfl (.tmp 33) (.tmp 34) rfl w3.heap.size N3 v1 x3 rfl O1 a2 m cap2 r rfl hat2 B3.out.hn B3.out.hno (by omega) b1.size ?_; intro v2 w5 O2 b2))
  have k2 := bnext k (b1.trans b2)
  obtain ⟨a5, c5, rfl, L5⟩ := O2.li (by omega)
  generalize x3 ++ r = L at *
  clear O b0 hat hat2 O1 b1 O2 b2 k
  go_wp2_with fail
  refine (readU_any _ _ _ _ _ w5 L5 v N1 0 HU1.out).mono ?_
  rintro e w6 ⟨rfl, b⟩
  replace k2 := bnext k2 b
  replace L5 := L5.keeps b
  clear b HU1
  go_wp2_with fail
  refine (readI_any _ _ _ _ _ w6 L5 z N2 0 HU2.out).mono ?_
  rintro e w7 ⟨rfl, b⟩
  replace k2 := bnext k2 b
  replace L5 := L5.keeps b
  clear b HU2
  go_wp2_with fail
  refine (readT_any _ _ _ _ _ w7 L5 (sl s) N3 0 HU3.out).mono ?_
  rintro e w8 ⟨rfl, b⟩
  replace k2 := bnext k2 b
  clear b HU3 L5
  rw [st_of_sl]
  have hss : (s.toList == s.toList) = true := by simp
  go_wp2_with fail
  go_ret
  exact ⟨rfl, k2⟩
end Go.Proofs.Ytegniedbiegcpaa
