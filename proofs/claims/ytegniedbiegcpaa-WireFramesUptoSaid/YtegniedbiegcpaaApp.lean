/-
  The Append functions of package wire.
-/
import Derived.Test.YtegniedbiegcpaaList
namespace Go.Proofs.Ytegniedbiegcpaa
open Go.RowKit

theorem one_new (w : World) (y : Int) (x : Nat) (hy : y = (x : Int)) (hx : x < 256) : AtL (w.alloc (.cells #[.int .u8 y] 5)) (some ⟨w.heap.size, 0, none⟩) [x] := by
  subst hy
  refine ⟨.inr ⟨_, _, rfl, fun j hj => ?_⟩, By.ix (l := [x]) fun y hy => by rw [List.mem_singleton] at hy; omega⟩
  obtain rfl : j = 0 := by simpa using hj
  simp [go_sem, ix]

theorem extensible_any (a : Option Addr) (n cap k : Nat) (l : List Nat) (w : World) (hA : Li w a n cap l) (hk : n + k ≤ 281474976710656) (K : Int) (hK : K = (k : Nat)) :
    Calls Try.prog 34 #[.slice a n cap, .int .i64 K] w fun e w' => e = .returned (.slice (some ⟨w.heap.size, 0, none⟩) n (n + k)) ∧ Ow w' w.heap.size n (n + k) l ∧ Below w.heap.size w w' := by
  subst hK
  obtain ⟨h1, h2, h3, h4, h5, h6⟩ := hA
  have H2 := Lib.hid h2
  have H6 := Lib.hid h6
  clear h2 h6
  go_enter Try.func34, Try.ntmps34
  go_wp2_with (first | (at_make; refine wpList_mk _ rfl (.const (.int .i64 0)) (.tmp 8) rfl _ (n + k) rfl rfl (by omega) hk ?_; intro w1 O1 b1; replace h1 := h1.keeps b1) | (at_builtin; refine wpList_fit _ rfl (.tmp 9) (.tmp 10) rfl w.heap.size 0 (n + k) [] rfl O1 a n cap l rfl h1 H2.out (fun e => ⟨H6.out e, by have := H6.out e; omega⟩) (by omega) ?_; intro w2 O2 b2; rw [Nat.zero_add, List.nil_append] at O2))
  go_ret
  exact ⟨rfl, O2, b1.trans b2⟩

set_option maxRecDepth 20000 in
theorem digits_any (g k c : Nat) (l : List Nat) (v : Nat) (w : World) (hO : Ow w g k c l) (hv : v < 18446744073709551616) (hroom : k + (en v).length ≤ c) :
    Calls Try.prog 33 #[.slice (some ⟨g, 0, none⟩) k c, .int .u64 (v : Nat)] w fun e w' => e = .returned (.slice (some ⟨g, 0, none⟩) (k + (en v).length) c) ∧ Ow w' g (k + (en v).length) c (l ++ en v) ∧ Below g w w' := by
  have HV := Lib.hid hv
  clear hv
  go_enter Try.func33, Try.ntmps33
  go_wp2_with fail
  go_loopw [0, 1] (fun s x wr => ∃ (j u : Nat) (p : List Nat), s = .slice (some ⟨g, 0, none⟩) (k + j) c ∧ x = .int .u64 u ∧ p.length = j ∧ p ++ en u = en v ∧ u < 18446744073709551616 ∧ Ow wr g (k + j) c (l ++ p) ∧ Below g w wr) (fun _ x _ => (intOf x).toNat)
  case atStart => exact ⟨0, v, [], rfl, rfl, rfl, rfl, HV.out, by rw [List.append_nil]; exact hO, Below.refl _ _⟩
  case round =>
    obtain ⟨j, u, p, rfl, rfl, hp, hen, hu, O, hb⟩ := hrel
    have hlen : (en v).length = j + (en u).length := by rw [← hen, List.length_append, hp]
    have he := Lib.hid hen
    have hl := Lib.hid hlen
    have hpp := Lib.hid hp
    have HU := Lib.hid hu
    clear hp hu
    by_cases h : u < 128
    · have e1 : en u = [u] := en_small h
      rw [e1] at he hl
      have hl2 := hl.out
      rw [List.length_singleton] at hl2
      clear hen hlen e1
      have hr2 : k + j + 1 ≤ c := by omega
      have hl3 := Lib.hid hl2
      clear hl2 hl hroom
      have hB : decide ((128 : Int) ≤ u) = false := decide_eq_false (by omega)
      go_wp2_with (at_builtin; refine wpList_fit _ rfl (.tmp 16) (.tmp 19) rfl g (k + j) c (l ++ p) rfl (O.next (balloc (b0 _) _)) (some ⟨wr.heap.size, 0, none⟩) 1 1 [u] rfl (one_new wr _ u (by omega) (by omega)) rfl (fun e => by cases e) hr2 ?_; intro w2 O2 b2)
      go_ret
      rw [List.append_assoc, he.out] at O2
      rw [hl3.out, ← Nat.add_assoc]
      exact ⟨rfl, O2, (hb.trans ((balloc (b0 _) _).mono (Nat.le_of_lt O.lt))).trans b2⟩
    · have hd := en_big h
      rw [hd] at he hl
      clear hen hlen hd
      have hr2 : k + j + 1 ≤ c := by have := hl.out; rw [List.length_cons] at this; omega
      have hB : decide ((128 : Int) ≤ u) = true := decide_eq_true (by omega)
      have hq : IntKind.u64.wrap ((u : Int) / 128) = ((u / 128 : Nat) : Int) := by
        have := HU.out
        rw [IntWalk.u64_in] <;> omega
      clear hroom
      go_wp2_with (at_builtin; refine wpList_fit _ rfl (.tmp 9) (.tmp 14) rfl g (k + j) c (l ++ p) rfl (O.next (balloc (b0 _) _)) (some ⟨wr.heap.size, 0, none⟩) 1 1 [u % 128 + 128] rfl (one_new wr _ _ (by omega) (by omega)) rfl (fun e => by cases e) hr2 ?_; intro w2 O2 b2)
      refine ⟨⟨j + 1, u / 128, p ++ [u % 128 + 128], rfl, by simp, by simp [hpp.out], by rw [List.append_assoc]; exact he.out, by have := HU.out; omega, by rw [← List.append_assoc]; exact O2, (hb.trans ((balloc (b0 _) _).mono (Nat.le_of_lt O.lt))).trans b2⟩, ?_⟩
      simp only [intOf]
      omega

theorem appendUint_any (a : Option Addr) (n cap v : Nat) (l : List Nat) (w : World) (hA : Li w a n cap l) (hn : n ≤ 281474976710646) (hv : v < 18446744073709551616) (N : Nat) (hN : n + (en v).length = N) :
    Calls Try.prog 14 #[.slice a n cap, .int .u64 (v : Nat)] w fun e w' => e = .returned (.slice (some ⟨w.heap.size, 0, none⟩) N (n + 10)) ∧ Ow w' w.heap.size N (n + 10) (l ++ en v) ∧ Below w.heap.size w w' := by
  have h10 := en_ten hv
  have c1 := extensible_any a n cap 10 l w hA (by omega) 10 rfl
  have HV := Lib.hid hv
  clear hv hA
  go_enter Try.func14, Try.ntmps14
  go_wp2_with fail
  refine c1.mono ?_
  rintro e w1 ⟨rfl, O, b1⟩
  go_wp2_with fail
  refine (digits_any w.heap.size n (n + 10) l v w1 O HV.out (by omega)).mono ?_
  rintro e w2 ⟨rfl, O2, b2⟩
  go_wp2_with fail
  go_ret
  rw [hN] at O2
  exact ⟨rfl, O2, b1.trans b2⟩

theorem folded_any (z : Int) (w : World) (h1 : -9223372036854775808 ≤ z) (h2 : z ≤ 9223372036854775807) (v : Nat) (hv : fold z = v) :
    Calls Try.prog 35 #[.int .i64 z] w fun e w' => e = .returned (.int .u64 (v : Nat)) ∧ w = w' := by
  subst hv
  go_enter Try.func35, Try.ntmps35
  by_cases hz : z < 0
  · go_wp2_with fail
    go_ret
    refine ⟨ret_int ?_, rfl⟩
    unfold fold
    rw [if_pos hz]
    omega
  · go_wp2_with fail
    go_ret
    refine ⟨ret_int ?_, rfl⟩
    unfold fold
    rw [if_neg (by omega)]
    omega
theorem appendInt_any (a : Option Addr) (n cap : Nat) (z : Int) (l : List Nat) (w : World) (hA : Li w a n cap l) (hn : n ≤ 281474976710646) (h1 : -9223372036854775808 ≤ z) (h2 : z ≤ 9223372036854775807) (N : Nat) (hN : n + (en (fold z)).length = N) :
    Calls Try.prog 17 #[.slice a n cap, .int .i64 z] w fun e w' => e = .returned (.slice (some ⟨w.heap.size, 0, none⟩) N (n + 10)) ∧ Ow w' w.heap.size N (n + 10) (l ++ en (fold z)) ∧ Below w.heap.size w w' := by
  have c1 := folded_any z w h1 h2 _ rfl
  have c2 := appendUint_any a n cap (fold z) l w hA hn (fold_lt h1 h2) N hN
  clear hA h1 h2 hN
  generalize fold z = v at *
  go_enter Try.func17, Try.ntmps17
  go_wp2_with fail
  refine c1.mono ?_
  rintro e w1 ⟨rfl, rfl⟩
  go_wp2_with fail
  refine c2.mono ?_
  rintro e w1 ⟨rfl, O, b1⟩
  go_wp2_with fail
  go_ret
  exact ⟨rfl, O, b1⟩

theorem appendText_any (a : Option Addr) (n cap : Nat) (s : ByteArray) (l : List Nat) (w : World) (hA : Li w a n cap l) (hs : s.size ≤ 140737488351232) (hn : n + (s.size + 10) ≤ 281474976710656) (N : Nat) (hN : n + (en s.size).length + s.size = N) :
    Calls Try.prog 19 #[.slice a n cap, .string s] w fun e w' => e = .returned (.slice (some ⟨w.heap.size, 0, none⟩) N (n + (s.size + 10))) ∧ Ow w' w.heap.size N (n + (s.size + 10)) (l ++ (en s.size ++ sl s)) ∧ Below w.heap.size w w' := by
  have h10 := en_ten (n := s.size) (by omega)
  have c1 := extensible_any a n cap (s.size + 10) l w hA hn (10 + s.size) (by omega)
  clear hA
  have HN := Lib.hid hN
  clear hN
  go_enter Try.func19, Try.ntmps19
  go_wp2_with fail
  refine c1.mono ?_
  rintro e w1 ⟨rfl, O, b1⟩
  go_wp2_with fail
  refine (digits_any w.heap.size n (n + (s.size + 10)) l s.size w1 O (by omega) (by omega)).mono ?_
  rintro e w2 ⟨rfl, O2, b2⟩
  go_wp2_with (at_builtin; refine wpList_fit_s _ rfl (.tmp 15) (.tmp 16) rfl w.heap.size (n + (en s.size).length) (n + (s.size + 10)) (l ++ en s.size) rfl O2 s rfl (by omega) (by omega) ?_; intro w3 O3 b3)
  go_ret
  rw [HN.out, List.append_assoc] at O3
  exact ⟨by rw [← HN.out]; rfl, O3, (b1.trans b2).trans b3⟩

theorem unfolded_any (v : Nat) (w : World) (hv : v < 18446744073709551616) (z : Int) (hz : unfd v = z) :
    Calls Try.prog 43 #[.int .u64 (v : Nat)] w fun e w' => e = .returned (.int .i64 z) ∧ w = w' := by
  subst hz
  have hq : (v / 2 : Nat) ≤ 9223372036854775807 := by omega
  have HV := Lib.hid hv
  clear hv
  by_cases hz : v % 2 = 1
  · have hz' : ((v : Int) % 2 == 1) = true := by simp; omega
    go_enter Try.func43, Try.ntmps43
    go_wp2_with fail
    go_ret
    refine ⟨ret_int ?_, rfl⟩
    unfold unfd
    rw [if_pos (by omega)]
    omega
  · have hz' : ((v : Int) % 2 == 1) = false := by simp; omega
    go_enter Try.func43, Try.ntmps43
    go_wp2_with fail
    go_ret
    refine ⟨ret_int ?_, rfl⟩
    unfold unfd
    rw [if_neg (by omega)]
    omega
end Go.Proofs.Ytegniedbiegcpaa
