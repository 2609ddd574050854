/-
  The walk of WireMatchesAppend.
-/
import Derived.Test.YtegniedbiegcpaaRefQ
namespace Go.Proofs.Ytegniedbiegcpaa
open Go.RowKit

theorem le4_len (S : Nat) : (le4 S).length = 4 := rfl
theorem mk_li {f : FuncId} {args : Array Value} {r : List Nat} {w : World} (h : Calls Try.prog f args w (Mk r w)) (M : Nat) (hM : r.length = M) (hb : M ≤ 281474976710656) :
    Calls Try.prog f args w fun e w' => ∃ a c, e = .returned (.slice a M c) ∧ Li w' a M c r ∧ Below w.heap.size w w' := by
  subst hM
  refine h.mono ?_
  rintro e w' ⟨v, rfl, O, b⟩
  obtain ⟨a, c, rfl, L⟩ := O.li hb
  exact ⟨a, c, rfl, L, b⟩
theorem join_li (a : Option Addr) (n cap : Nat) (l : List Nat) (b : Option Addr) (m cap2 : Nat) (r : List Nat) (w : World) (hA : Li w a n cap l) (hB : Li w b m cap2 r) (N : Nat) (hN : n + m = N) (hn : N ≤ 140737488351232) :
    Calls Try.prog 15 #[.slice a n cap, .slice b m cap2] w fun e w' => ∃ a c, e = .returned (.slice a N c) ∧ Li w' a N c (l ++ r) ∧ Below w.heap.size w w' :=
  mk_li (refJoin_any a n cap l b m cap2 r w hA hB (by omega)) N (by rw [List.length_append, hA.hn, hB.hn]; exact hN) (by omega)
theorem same_li (a : Option Addr) (n c : Nat) (l : List Nat) (b : Option Addr) (d : Nat) (w : World) (hA : AtL w a l) (hB : Li w b n d l) :
    Calls Try.prog 13 #[.slice a n c, .slice b n d] w fun e w' => e = .returned (.bool true) ∧ w = w' := by
  have h := refSame_any a n c l b n d l w hA hB.hn hB.hat hB.hn
  rw [decide_eq_true rfl] at h
  exact h
theorem Ow.li2 {w : World} {g k c : Nat} {l : List Nat} (h : Ow w g k c l) : AtL w (some ⟨g, 0, none⟩) l := h.at

set_option maxRecDepth 100000 in
set_option maxHeartbeats 2000000 in
theorem walk_append (a : Option Addr) (n cap : Nat) (l : List Nat) (v : Nat) (z : Int) (s : ByteArray) (a2 : Option Addr) (m cap2 : Nat) (r : List Nat) (w : World) (hA : Li w a n cap l) (hn : n ≤ 1048576) (hv : v < 18446744073709551616) (h1 : -9223372036854775808 ≤ z) (h2 : z ≤ 9223372036854775807) (hs : s.size ≤ 1048576) (hB : Li w a2 m cap2 r) (hm : m ≤ 1048576) :
    Calls Try.prog 3 #[.slice a n cap, .int .u64 (v : Nat), .int .i64 z, .string s, .slice a2 m cap2] w fun e w' => e = .returned (.bool true) ∧ Below w.heap.size w w' := by
  have e1 := en_ten hv
  have e2 := en_ten (fold_lt h1 h2)
  have e3 := en_ten (n := s.size) (by omega)
  have e4 := en_ten (n := m) (by omega)
  have HA := Lib.hid hA
  have HB := Lib.hid hB
  have lr := hB.hn
  obtain ⟨M1, hM1⟩ : ∃ x, (en v).length = x := ⟨_, rfl⟩
  obtain ⟨N1, hN1⟩ : ∃ x, n + M1 = x := ⟨_, rfl⟩
  have C1 : ∀ w (_ : Li w a n cap l), Calls Try.prog 14 #[.slice a n cap, .int .u64 (v : Nat)] w fun e w' => e = .returned (.slice (some ⟨w.heap.size, 0, none⟩) N1 (n + 10)) ∧ Ow w' w.heap.size N1 (n + 10) (l ++ (en v)) ∧ Below w.heap.size w w' := fun w h => appendUint_any a n cap v l w h (by omega) hv N1 (by omega)
  have R1 : ∀ w, Calls Try.prog 16 #[.int .u64 (v : Nat)] w fun e w' => ∃ a c, e = .returned (.slice a M1 c) ∧ Li w' a M1 c (en v) ∧ Below w.heap.size w w' := fun w => mk_li (refUint_any v w hv) M1 hM1 (by omega)
  generalize hx1 : en v = x1 at C1 R1
  have HC1 := Lib.hid C1
  have HR1 := Lib.hid R1
  have HJ1 := Lib.hid fun b cap2 w h h' => join_li a n cap l b M1 cap2 x1 w h h' N1 hN1 (by omega)
  obtain ⟨M2, hM2⟩ : ∃ x, (en (fold z)).length = x := ⟨_, rfl⟩
  obtain ⟨N2, hN2⟩ : ∃ x, n + M2 = x := ⟨_, rfl⟩
  have C2 : ∀ w (_ : Li w a n cap l), Calls Try.prog 17 #[.slice a n cap, .int .i64 z] w fun e w' => e = .returned (.slice (some ⟨w.heap.size, 0, none⟩) N2 (n + 10)) ∧ Ow w' w.heap.size N2 (n + 10) (l ++ (en (fold z))) ∧ Below w.heap.size w w' := fun w h => appendInt_any a n cap z l w h (by omega) h1 h2 N2 (by omega)
  have R2 : ∀ w, Calls Try.prog 18 #[.int .i64 z] w fun e w' => ∃ a c, e = .returned (.slice a M2 c) ∧ Li w' a M2 c (en (fold z)) ∧ Below w.heap.size w w' := fun w => mk_li (refInt_any z w h1 h2) M2 hM2 (by omega)
  generalize hx2 : en (fold z) = x2 at C2 R2
  have HC2 := Lib.hid C2
  have HR2 := Lib.hid R2
  have HJ2 := Lib.hid fun b cap2 w h h' => join_li a n cap l b M2 cap2 x2 w h h' N2 hN2 (by omega)
  obtain ⟨M3, hM3⟩ : ∃ x, (en s.size).length + s.size = x := ⟨_, rfl⟩
  obtain ⟨N3, hN3⟩ : ∃ x, n + M3 = x := ⟨_, rfl⟩
  have C3 : ∀ w (_ : Li w a n cap l), Calls Try.prog 19 #[.slice a n cap, .string s] w fun e w' => e = .returned (.slice (some ⟨w.heap.size, 0, none⟩) N3 (n + (s.size + 10))) ∧ Ow w' w.heap.size N3 (n + (s.size + 10)) (l ++ (en s.size ++ sl s)) ∧ Below w.heap.size w w' := fun w h => appendText_any a n cap s l w h (by omega) (by omega) N3 (by omega)
  have R3 : ∀ w, Calls Try.prog 20 #[.string s] w fun e w' => ∃ a c, e = .returned (.slice a M3 c) ∧ Li w' a M3 c (en s.size ++ sl s) ∧ Below w.heap.size w w' := fun w => mk_li (refText_any s w (by omega)) M3 (by rw [List.length_append, sl_length]; exact hM3) (by omega)
  generalize hx3 : en s.size ++ sl s = x3 at C3 R3
  have HC3 := Lib.hid C3
  have HR3 := Lib.hid R3
  have HJ3 := Lib.hid fun b cap2 w h h' => join_li a n cap l b M3 cap2 x3 w h h' N3 hN3 (by omega)
  obtain ⟨M4, hM4⟩ : ∃ x, (en m).length + m + 4 = x := ⟨_, rfl⟩
  obtain ⟨N4, hN4⟩ : ∃ x, n + M4 = x := ⟨_, rfl⟩
  have C4 : ∀ w (_ : Li w a n cap l) (h' : Li w a2 m cap2 r), Calls Try.prog 21 #[.slice a n cap, .slice a2 m cap2] w fun e w' => e = .returned (.slice (some ⟨w.heap.size, 0, none⟩) N4 (n + (m + 14))) ∧ Ow w' w.heap.size N4 (n + (m + 14)) (l ++ (en m ++ (r ++ le4 (cs r)))) ∧ Below w.heap.size w w' := fun w h h' => appendFrame_any a n cap l a2 m cap2 r w h h' (by omega) (by omega) N4 (by omega)
  have R4 : ∀ w (h' : Li w a2 m cap2 r), Calls Try.prog 22 #[.slice a2 m cap2] w fun e w' => ∃ a c, e = .returned (.slice a M4 c) ∧ Li w' a M4 c (en m ++ (r ++ le4 (cs r))) ∧ Below w.heap.size w w' := fun w h' => mk_li (refFrame_any a2 m cap2 r w h' (by omega)) M4 (by rw [List.length_append, List.length_append, le4_len, lr]; omega) (by omega)
  generalize hx4 : en m ++ (r ++ le4 (cs r)) = x4 at C4 R4
  have HC4 := Lib.hid C4
  have HR4 := Lib.hid R4
  have HJ4 := Lib.hid fun b cap2 w h h' => join_li a n cap l b M4 cap2 x4 w h h' N4 hN4 (by omega)
  clear hA hB lr hv h1 h2 e1 e2 e3 e4 hM1 hN1 hx1 C1 R1 hM2 hN2 hx2 C2 R2 hM3 hN3 hx3 C3 R3 hM4 hN4 hx4 C4 R4
  go_enter Try.func3, Try.ntmps3
  go_wp2_with fail
  refine (example_any _).mono ?_
  rintro e w0 ⟨rfl, k⟩
  go_wp2_with fail
  refine (HC1.out _ (HA.out.keeps k)).mono ?_
  rintro e u1 ⟨rfl, O, b⟩
  replace k := bnext k b
  have A1 := O.at
  clear b O HC1
  generalize w0.heap.size = g1 at *
  go_wp2_with fail
  refine (HR1.out _).mono ?_
  rintro e v1 ⟨ax1, cx1, rfl, LX, b⟩
  replace k := bnext k b
  replace A1 := A1.keeps b
  clear b HR1
  go_wp2_with fail
  refine (HJ1.out _ _ _ (HA.out.keeps k) LX).mono ?_
  rintro e w1 ⟨ay1, cy1, rfl, LY, b⟩
  replace k := bnext k b
  replace A1 := A1.keeps b
  clear b LX HJ1
  go_wp2_with fail
  refine (same_li _ _ _ _ _ _ _ A1 LY).mono ?_
  rintro e w' ⟨rfl, rfl⟩
  clear A1 LY
  go_wp2_with fail
  refine (HC2.out _ (HA.out.keeps k)).mono ?_
  rintro e u2 ⟨rfl, O, b⟩
  replace k := bnext k b
  have A2 := O.at
  clear b O HC2
  generalize w1.heap.size = g2 at *
  go_wp2_with fail
  refine (HR2.out _).mono ?_
  rintro e v2 ⟨ax2, cx2, rfl, LX, b⟩
  replace k := bnext k b
  replace A2 := A2.keeps b
  clear b HR2
  go_wp2_with fail
  refine (HJ2.out _ _ _ (HA.out.keeps k) LX).mono ?_
  rintro e w2 ⟨ay2, cy2, rfl, LY, b⟩
  replace k := bnext k b
  replace A2 := A2.keeps b
  clear b LX HJ2
  go_wp2_with fail
  refine (same_li _ _ _ _ _ _ _ A2 LY).mono ?_
  rintro e w' ⟨rfl, rfl⟩
  clear A2 LY
  go_wp2_with fail
  refine (HC3.out _ (HA.out.keeps k)).mono ?_
  rintro e u3 ⟨rfl, O, b⟩
  replace k := bnext k b
  have A3 := O.at
  clear b O HC3
  generalize w2.heap.size = g3 at *
  go_wp2_with fail
  refine (HR3.out _).mono ?_
  rintro e v3 ⟨ax3, cx3, rfl, LX, b⟩
  replace k := bnext k b
  replace A3 := A3.keeps b
  clear b HR3
  go_wp2_with fail
  refine (HJ3.out _ _ _ (HA.out.keeps k) LX).mono ?_
  rintro e w3 ⟨ay3, cy3, rfl, LY, b⟩
  replace k := bnext k b
  replace A3 := A3.keeps b
  clear b LX HJ3
  go_wp2_with fail
  refine (same_li _ _ _ _ _ _ _ A3 LY).mono ?_
  rintro e w' ⟨rfl, rfl⟩
  clear A3 LY
  go_wp2_with fail
  refine (HC4.out _ (HA.out.keeps k) (HB.out.keeps k)).mono ?_
  rintro e u4 ⟨rfl, O, b⟩
  replace k := bnext k b
  have A4 := O.at
  clear b O HC4
  generalize w3.heap.size = g4 at *
  go_wp2_with fail
  refine (HR4.out _ (HB.out.keeps k)).mono ?_
  rintro e v4 ⟨ax4, cx4, rfl, LX, b⟩
  replace k := bnext k b
  replace A4 := A4.keeps b
  clear b HR4
  go_wp2_with fail
  refine (HJ4.out _ _ _ (HA.out.keeps k) LX).mono ?_
  rintro e w4 ⟨ay4, cy4, rfl, LY, b⟩
  replace k := bnext k b
  replace A4 := A4.keeps b
  clear b LX HJ4
  go_wp2_with fail
  refine (same_li _ _ _ _ _ _ _ A4 LY).mono ?_
  rintro e w' ⟨rfl, rfl⟩
  clear A4 LY
  go_wp2_with fail
  go_ret
  exact ⟨rfl, k⟩
end Go.Proofs.Ytegniedbiegcpaa
