/-
  Reading back; two results for the same bytes.
-/
import Derived.Test.YtegniedbiegcpaaBeg
import Derived.Lib.ConvBytes
namespace Go.Proofs.Ytegniedbiegcpaa
open Go.RowKit

theorem at_len (l r : List Nat) : ¬ ((l.length : Int) < 0 ∨ ((l ++ r).length : Int) < (l.length : Int)) := by
  rw [List.length_append]; omega
theorem rU_back (l r : List Nat) {v : Nat} (hv : v < 18446744073709551616) : rU (l ++ (en v ++ r)) (l.length : Int) = (v, l.length + (en v).length, 0) := by
  unfold rU
  rw [if_neg (at_len _ _), Int.toNat_natCast, List.drop_left, rd_en hv]
theorem rI_back (l r : List Nat) {z : Int} (h1 : -9223372036854775808 ≤ z) (h2 : z ≤ 9223372036854775807) : rI (l ++ (en (fold z) ++ r)) (l.length : Int) = (z, l.length + (en (fold z)).length, 0) := by
  unfold rI
  rw [if_neg (at_len _ _), Int.toNat_natCast, List.drop_left, rd_en (fold_lt h1 h2)]
  show (unfd (fold z), l.length + (en (fold z)).length, 0) = _
  rw [unfd_fold]
theorem rT_back (l t r : List Nat) (ht : t.length < 18446744073709551616) : rT (l ++ (en t.length ++ (t ++ r))) (l.length : Int) = (t, l.length + (en t.length).length + t.length, 0) := by
  unfold rT
  rw [if_neg (at_len _ _), Int.toNat_natCast, List.drop_left, rd_en ht]
  simp only
  rw [if_neg (by simp only [List.length_append]; omega), ← List.drop_drop, List.drop_left, List.drop_left, List.take_left]
theorem rF_back (l t r : List Nat) (ht : t.length ≤ 8192) : rF (l ++ (en t.length ++ (t ++ (le4 (cs t) ++ r)))) (l.length : Int) = .ok t (l.length + ((en t.length).length + t.length + 4)) := by
  have h4 : (le4 (cs t)).length = 4 := rfl
  have hF : rdF (en t.length ++ (t ++ (le4 (cs t) ++ r))) = .ok t ((en t.length).length + t.length + 4) := by
    unfold rdF
    rw [rd_en (by omega)]
    simp only
    rw [if_neg (by omega), if_neg (by simp only [List.length_append, h4]; omega), ← List.drop_drop, List.drop_left, List.drop_left, List.take_left, show List.take 4 (le4 (cs t) ++ r) = le4 (cs t) from by rw [← h4, List.take_left], if_pos rfl]
  unfold rF
  rw [if_neg (at_len _ _), Int.toNat_natCast, List.drop_left, hF]
theorem rF_big (l t r : List Nat) (h : ¬ t.length ≤ 8192) (ht : t.length < 18446744073709551616) : rF (l ++ (en t.length ++ r)) (l.length : Int) = .err 2 := by
  have hF : rdF (en t.length ++ r) = .err 2 := by
    unfold rdF
    rw [rd_en ht]
    simp only
    rw [if_pos (by omega)]
  unfold rF
  rw [if_neg (at_len _ _), Int.toNat_natCast, List.drop_left, hF]

/-- []byte(s). -/
theorem bytes_of_str (w : World) (s : ByteArray) (hs : s.size ≤ 281474976710656) : ∃ w' c, (convert 9 22 (.string s)).run Try.prog w = .ok (.slice (some ⟨w.heap.size, 0, none⟩) s.size c) w' ∧ Li w' (some ⟨w.heap.size, 0, none⟩) s.size c (sl s) ∧ Below w.heap.size w w' := by
  refine ⟨Lib.bytesWorld w 5 s, grownCap w s.size 0 5, Lib.run_convert_string_bytes w 9 22 5 s Try.underlying9 Try.underlying22 Try.underlying5, ⟨⟨.inr ⟨_, _, rfl, fun j hj => ?_⟩, (by_sl s).ix⟩, sl_length s, grownCap_ge _ _ _ _, ?_, hs, fun h => by cases h⟩, ?_⟩
  · rw [sl_length] at hj
    rw [Nat.zero_add, Lib.bytesWorld_cell w 5 s j hj]
    unfold ix sl
    simp only [List.getD_eq_getElem?_getD, List.getElem?_map]
    cases s.data.toList[j]? <;> rfl
  · have := grownCap_le_maxLen w s.size 0 5 (by unfold maxLen; omega)
    unfold maxLen at this
    omega
  · refine ⟨rfl, rfl, rfl, ?_, fun j hj => Lib.bytesWorld_at_old w 5 s j hj⟩
    rw [Lib.bytesWorld_size]
    omega
theorem str_li {w : World} {a : Option Addr} {n c : Nat} {l : List Nat} (h : Li w a n c l) (s : ByteArray) (hs : l = sl s) : (convert 22 9 (.slice a n c)).run Try.prog w = .ok (.string s) w := by
  have := run_str h.hat n c h.hn
  rw [hs, st_of_sl] at this
  exact this

set_option maxRecDepth 100000 in
set_option maxHeartbeats 2000000 in
theorem walk_apart (a : Option Addr) (n cap : Nat) (l : List Nat) (v m : Nat) (s t : ByteArray) (w : World) (hA : Li w a n cap l) (hlim : n ≤ 140737488351232) (hv : v < 18446744073709551616) (hm : m < 18446744073709551616) (hs : s.size ≤ 140737488351232) (ht : t.size ≤ 140737488351232) :
    Calls Try.prog 11 #[.slice a n cap, .int .u64 (v : Nat), .int .u64 (m : Nat), .string s, .string t] w fun e w' => e = .returned (.bool true) ∧ Below w.heap.size w w' := by
  obtain ⟨N1, hN1⟩ : ∃ x, n + (en v).length = x := ⟨_, rfl⟩
  obtain ⟨N2, hN2⟩ : ∃ x, n + (en m).length = x := ⟨_, rfl⟩
  obtain ⟨N3, hN3⟩ : ∃ x, n + (en s.size).length + s.size = x := ⟨_, rfl⟩
  obtain ⟨N4, hN4⟩ : ∃ x, n + (en t.size).length + t.size + 4 = x := ⟨_, rfl⟩
  obtain ⟨y, hy⟩ : ∃ y : Int, (v : Int) % 1000 = y := ⟨_, rfl⟩
  have hy0 : 0 ≤ y ∧ y < 1000 := by omega
  obtain ⟨N5, hN5⟩ : ∃ x, n + (en (fold y)).length = x := ⟨_, rfl⟩
  have hln := hA.hn
  have e1 := en_ten hv
  have e2 := en_ten hm
  have e3 := en_ten (n := s.size) (by omega)
  have e4 := en_ten (n := t.size) (by omega)
  have e5 := en_ten (fold_lt (z := y) (by omega) (by omega))
  have HA := Lib.hid hA
  have HV := Lib.hid hv
  have HM := Lib.hid hm
  have HLN := Lib.hid hln
  have H1 := Lib.hid hN1
  have H2 := Lib.hid hN2
  have H3 := Lib.hid hN3
  have H4 := Lib.hid hN4
  have H5 := Lib.hid hN5
  have HY := Lib.hid hy
  have HY0 := Lib.hid hy0
  have hN1l : N1 ≤ n + 10 := by omega
  have hN2l : N2 ≤ n + 10 := by omega
  have hN3l : N3 ≤ n + (s.size + 10) := by omega
  have hN4l : N4 ≤ n + (t.size + 14) := by omega
  have hN5l : N5 ≤ n + 10 := by omega
  have A0 := hA.hat
  have HNO : Hid (a = none → cap = 0 ∧ n = 0) := Lib.hid fun e => ⟨hA.hno e, by have := hA.hno e; have := hA.hcap; omega⟩
  clear hA hv hm hln hN1 hN2 hN3 hN4 hN5 hy hy0 e1 e2 e3 e4 e5
  go_enter Try.func11, Try.ntmps11
  go_wp2_with fail
  refine (example_any _).mono ?_
  rintro e w1 ⟨rfl, k⟩
  replace A0 := A0.keeps k
  go_wp2_with (first | (at_make; refine wpList_mk _ rfl (.const (.int .i64 0)) (.tmp 36) rfl _ (n + 64) rfl rfl (by omega) (by omega) ?_; intro w2 O1 b1; replace A0 := A0.keeps b1) | (at_builtin; refine wpList_fit _ rfl (.tmp 37) (.tmp 38) rfl w1.heap.size 0 (n + 64) [] rfl O1 a n cap l rfl A0 HLN.out HNO.out (by omega) ?_; intro w3 O2 b2; rw [Nat.zero_add, List.nil_append] at O2))
  replace k := bnext k (b1.trans b2)
  have LB := O2.li (by omega)
  have b3 := b1.trans b2
  clear O1 b1 A0 O2 HNO b2 b3
  generalize w1.heap.size = g0 at *
  refine (appendUint_any (some ⟨g0, 0, none⟩) n (n + 64) v l w3 LB (by omega) HV.out N1 H1.out).mono ?_
  rintro e w4 ⟨rfl, O, b⟩
  have L1 := O.li (by omega)
  replace k := bnext k b
  replace LB := LB.keeps b
  clear b O
  generalize w3.heap.size = g1 at *
  go_wp2_with fail
  refine (appendUint_any (some ⟨g0, 0, none⟩) n (n + 64) m l w4 LB (by omega) HM.out N2 H2.out).mono ?_
  rintro e w5 ⟨rfl, O, b⟩
  have L2 := O.li (by omega)
  replace k := bnext k b
  replace LB := LB.keeps b
  replace L1 := L1.keeps b
  clear b O
  generalize w4.heap.size = g2 at *
  go_wp2_with fail
  refine (appendText_any (some ⟨g0, 0, none⟩) n (n + 64) s l w5 LB (by omega) (by omega) N3 H3.out).mono ?_
  rintro e w6 ⟨rfl, O, b⟩
  have L3 := O.li (by omega)
  replace k := bnext k b
  replace LB := LB.keeps b
  replace L1 := L1.keeps b
  replace L2 := L2.keeps b
  clear b O
  generalize w5.heap.size = g3 at *
  obtain ⟨w7, c7, hrun, LT, b⟩ := bytes_of_str w6 t (by omega)
  go_wp2_with fail
  clear hrun
  replace k := bnext k b
  replace LB := LB.keeps b
  replace L1 := L1.keeps b
  replace L2 := L2.keeps b
  replace L3 := L3.keeps b
  clear b
  generalize w6.heap.size = g6 at *
  refine (appendFrame_any (some ⟨g0, 0, none⟩) n (n + 64) l (some ⟨g6, 0, none⟩) t.size c7 (sl t) w7 LB LT ht (by omega) N4 H4.out).mono ?_
  rintro e w8 ⟨rfl, O, b⟩
  have L4 := O.li (by omega)
  replace k := bnext k b
  replace LB := LB.keeps b
  replace L1 := L1.keeps b
  replace L2 := L2.keeps b
  replace L3 := L3.keeps b
  clear b O LT
  generalize w7.heap.size = g4 at *
  have hy2 : ((v : Int) % 1000) = y := HY.out
  have hy0 := HY0.out
  have hyw : IntKind.i64.wrap y = y := IntWalk.i64_in _ (by omega)
  go_wp2_with fail
  refine (appendInt_any (some ⟨g0, 0, none⟩) n (n + 64) y l w8 LB (by omega) (by omega) (by omega) N5 H5.out).mono ?_
  rintro e w9 ⟨rfl, O, b⟩
  have L5 := O.li (by omega)
  replace k := bnext k b
  replace LB := LB.keeps b
  replace L1 := L1.keeps b
  replace L2 := L2.keeps b
  replace L3 := L3.keeps b
  replace L4 := L4.keeps b
  clear b O
  generalize w8.heap.size = g5 at *
  have hln := HLN.out
  have U1 : Hid (rU (l ++ en v) (n : Int) = (v, N1, 0)) := Lib.hid (by have := rU_back l [] HV.out; rw [List.append_nil, hln, H1.out] at this; exact this)
  have U2 : Hid (rU (l ++ en m) (n : Int) = (m, N2, 0)) := Lib.hid (by have := rU_back l [] HM.out; rw [List.append_nil, hln, H2.out] at this; exact this)
  have U3 : Hid (rT (l ++ (en s.size ++ sl s)) (n : Int) = (sl s, N3, 0)) := Lib.hid (by have := rT_back l (sl s) [] (by rw [sl_length]; omega); rw [List.append_nil, hln, sl_length, H3.out] at this; exact this)
  have U5 : Hid (rI (l ++ en (fold y)) (n : Int) = (y, N5, 0)) := Lib.hid (by have := rI_back l [] (z := y) (by omega) (by omega); rw [List.append_nil, hln, H5.out] at this; exact this)
  have U4 : Hid (t.size ≤ 8192 → rF (l ++ (en t.size ++ (sl t ++ le4 (cs (sl t))))) (n : Int) = .ok (sl t) N4) := Lib.hid (fun h8 => by
    have := rF_back l (sl t) [] (by rw [sl_length]; omega)
    rw [List.append_nil, hln, sl_length, show n + ((en t.size).length + t.size + 4) = N4 by rw [← H4.out]; omega] at this
    exact this)
  have U4' : Hid (¬ t.size ≤ 8192 → rF (l ++ (en t.size ++ (sl t ++ le4 (cs (sl t))))) (n : Int) = .err 2) := Lib.hid (fun h8 => by
    have := rF_big l (sl t) (sl t ++ le4 (cs (sl t))) (by rw [sl_length]; omega) (by rw [sl_length]; omega)
    rw [hln, sl_length] at this
    exact this)
  clear hln
  go_wp2_with fail
  refine (readU_any (some ⟨g1, 0, none⟩) N1 (n + 10) _ n w9 L1 v N1 0 U1.out).mono ?_
  rintro e w10 ⟨rfl, b⟩
  replace k := bnext k b
  replace LB := LB.keeps b
  replace L2 := L2.keeps b
  replace L3 := L3.keeps b
  replace L4 := L4.keeps b
  replace L5 := L5.keeps b
  clear b L1
  go_wp2_with fail
  refine (readU_any (some ⟨g2, 0, none⟩) N2 (n + 10) _ n w10 L2 m N2 0 U2.out).mono ?_
  rintro e w11 ⟨rfl, b⟩
  replace k := bnext k b
  replace LB := LB.keeps b
  replace L3 := L3.keeps b
  replace L4 := L4.keeps b
  replace L5 := L5.keeps b
  clear b L2
  go_wp2_with fail
  have c3 := readT_any (some ⟨g3, 0, none⟩) N3 (n + (s.size + 10)) _ n w11 L3 (sl s) N3 0 U3.out
  rw [st_of_sl] at c3
  refine c3.mono ?_
  rintro e w12 ⟨rfl, b⟩
  replace k := bnext k b
  replace LB := LB.keeps b
  replace L4 := L4.keeps b
  replace L5 := L5.keeps b
  clear b L3 c3
  go_wp2_with fail
  have z1 : ((v : Int) == (v : Int)) = true := by simp
  have z2 : ((m : Int) == (m : Int)) = true := by simp
  have z3 : (y == y) = true := by simp
  by_cases h8 : t.size ≤ 8192
  · have q8 : decide ((8192 : Int) < (t.size : Int)) = false := decide_eq_false (by omega)
    have c4 := readF_any (some ⟨g4, 0, none⟩) N4 (n + (t.size + 14)) _ n w12 L4
    rw [U4.out h8] at c4
    refine c4.mono ?_
    rintro e w13 ⟨g7, rfl, _, O7, b⟩
    replace k := bnext k b
    replace LB := LB.keeps b
    replace L5 := L5.keeps b
    have L7 := O7.li (by rw [sl_length]; omega)
    clear b c4 L4 O7
    go_wp2_with fail
    refine (readI_any (some ⟨g5, 0, none⟩) N5 (n + 10) _ n w13 L5 y N5 0 U5.out).mono ?_
    rintro e w14 ⟨rfl, b⟩
    replace k := bnext k b
    replace LB := LB.keeps b
    replace L7 := L7.keeps b
    clear b L5
    have s1 := str_li L7 t rfl
    have s2 := run_str LB.hat n (n + 64) HLN.out
    have s3 := run_str (HA.out.keeps k).hat n cap HLN.out
    go_wp2_with fail
    go_ret
    exact ⟨rfl, k⟩
  · have q8 : decide ((8192 : Int) < (t.size : Int)) = true := decide_eq_true (by omega)
    have c4 := readF_any (some ⟨g4, 0, none⟩) N4 (n + (t.size + 14)) _ n w12 L4
    rw [U4'.out h8] at c4
    refine c4.mono ?_
    rintro e w13 ⟨rfl, b⟩
    replace k := bnext k b
    replace LB := LB.keeps b
    replace L5 := L5.keeps b
    clear b c4 L4
    go_wp2_with fail
    refine (readI_any (some ⟨g5, 0, none⟩) N5 (n + 10) _ n w13 L5 y N5 0 U5.out).mono ?_
    rintro e w14 ⟨rfl, b⟩
    replace k := bnext k b
    replace LB := LB.keeps b
    clear b L5
    obtain ⟨w15, c8, hrun, L7, b⟩ := bytes_of_str w14 t (by omega)
    replace k := bnext k b
    replace LB := LB.keeps b
    have s1 := str_li L7 t rfl
    have s2 := run_str LB.hat n (n + 64) HLN.out
    have s3 := run_str (HA.out.keeps k).hat n cap HLN.out
    clear b
    go_wp2_with fail
    go_ret
    exact ⟨rfl, k⟩
end Go.Proofs.Ytegniedbiegcpaa
