/-
  LexerBack: the walk.
-/
import Derived.Test.YtkfciilclfhabaaDoorNaf
namespace Go.Proofs.YtkfciilclfhabaaDoor
open Go.RowKit dec

theorem smB_kt : ∀ {l r : List Tk}, l.map kt = r.map kt → smB false 0 l r = true
  | [], [], _ => rfl
  | x :: l, y :: r, h => by
    rw [List.map_cons, List.map_cons] at h
    obtain ⟨h1, h2⟩ := List.cons.inj h
    obtain ⟨h3, h4⟩ := Prod.mk.inj h1
    simp only [smB, decide_eq_true h3, decide_eq_true h4, smB_kt h2, Bool.not_false, Bool.true_or, Bool.true_and]
  | [], y :: r, h => by cases h
  | x :: l, [], h => by cases h
theorem strip_end (l : List Tk) (s : ByteArray) : stripE (l ++ [endT s]) = l := by
  have h1 : (l ++ [endT s]).length - 1 = l.length := by rw [List.length_append, List.length_singleton]; omega
  have h2 : tk.gt (l ++ [endT s]) l.length = endT s := by
    rw [tk.gt_eq (by rw [List.length_append, List.length_singleton]; omega)]
    simp
  unfold stripE
  rw [h1, h2, if_pos ⟨by simp, rfl, rfl⟩, List.take_left]
theorem few_tok {s : ByteArray} (h : s.size ≤ 16384) : fewT (tokL s) :=
  ⟨fun x hx => by have := tok_small h hx; omega, by have := (tokL_last s h).2.1; omega⟩
theorem back_facts (s : ByteArray) (h : s.size ≤ 3000) : ∃ b : ByteArray, joinE (tokL s) = 0 ∧ joinB (tokL s) = b.data.toList ∧ b.size ≤ 6000 ∧ tokB b = [] ∧ joinE (tokL b) = 0 ∧ joinB (tokL b) = b.data.toList ∧ smB false 0 (tokL s) (tokL b) = true := by
  have key : ∀ (c : ByteArray) (l : List Tk), tokL c = l ++ [endT c] → (∀ x ∈ l, pr x = true) → (Lib.join (l.map so) [32]).length ≤ 6000 → joinE (tokL c) = 0 ∧ joinB (tokL c) = Lib.join (l.map so) [32] := by
    intro c l h1 h2 h3
    have h4 : joinL (tokL c) = Lib.join (l.map so) [32] := by unfold joinL; rw [h1, strip_end]
    have h5 : joinE (tokL c) = 0 := by
      unfold joinE
      rw [h4, h1, strip_end, if_pos (show allP l = true from List.all_eq_true.2 h2), if_neg (by omega)]
    exact ⟨h5, by unfold joinB; rw [if_pos h5, h4]⟩
  have tl : ∀ c : ByteArray, c.size ≤ 16384 → tokL c = (lxs 0 false c.data.toList).1 ++ [endT c] := fun c hc => by unfold tokL; rw [if_neg (by omega)]
  have hsh := lex_short s.data.toList
  rw [str_len] at hsh
  have hl := tl s (by omega)
  have hp := lex_pr 0 false s.data.toList
  generalize (lxs 0 false s.data.toList).1 = l at *
  obtain ⟨b, hb⟩ : ∃ b : ByteArray, b = ⟨(Lib.join (l.map so) [32]).toArray⟩ := ⟨_, rfl⟩
  have hd : b.data.toList = Lib.join (l.map so) [32] := by rw [hb]
  have hz : b.size = (Lib.join (l.map so) [32]).length := by rw [← str_len, hd]
  have hj := lex_join l 0 false hp
  rw [← hd] at hj
  have hm := tl b (by omega)
  have hq := lex_pr 0 false b.data.toList
  have hk := so_kt hj.1
  obtain ⟨k1, k2⟩ := key s l hl hp (by omega)
  obtain ⟨k3, k4⟩ := key b _ hm hq (by rw [hk]; omega)
  refine ⟨b, k1, k2.trans hd.symm, by omega, ?_, k3, ?_, ?_⟩
  · unfold tokB
    rw [if_neg (by omega), hj.2]
    rfl
  · rw [k4, hk, hd]
  · rw [hl, hm]
    apply smB_kt
    rw [List.map_append, List.map_append, hj.1]
    rfl
set_option maxRecDepth 100000 in
set_option maxHeartbeats 8000000 in
theorem walk_back (a0 : Option Addr) (n0 cap : Nat) (s : ByteArray) (w : World) (hS : Bs w a0 n0 cap s) (T : Tabs w) :
    Calls Tryd.prog 5 #[.slice a0 n0 cap] w fun e w' => e = .returned (.bool true) ∧ Below w.heap.size w w' := by
  have hn0 := hS.hn
  subst hn0
  have EX := Lib.hid (example_any w T)
  have T0 := Lib.hid T
  have S0 := Lib.hid hS
  clear T hS
  by_cases hbig : 3000 < s.size
  · have q1 : decide (3000 < (s.size : Int)) = true := decide_eq_true (by omega)
    clear hbig
    go_enter Tryd.func5, Tryd.ntmps5
    go_wp2_with fail
    refine EX.out.mono ?_
    rintro e w1 ⟨rfl, b1⟩
    have B1 := Lib.hid b1
    clear b1
    go_wp2_with fail
    go_ret
    exact ⟨rfl, B1.out⟩
  · have q1 : decide (3000 < (s.size : Int)) = false := decide_eq_false (by omega)
    obtain ⟨b, f1, f2, f3, f4, f5, f6, f7⟩ := back_facts s (by omega)
    have FA := few_tok (s := s) (by omega)
    have FB := few_tok (s := b) (by omega)
    have TA := Lib.hid (fun W hS T => tokens_any a0 s.size cap s W hS T)
    have TB := Lib.hid (fun a n cp W hS T => tokens_any a n cp b W hS T)
    unfold TR at TA TB
    rw [show tokE s = 0 by unfold tokE; rw [if_neg (by omega)]] at TA
    rw [show tokE b = 0 by unfold tokE; rw [if_neg (by omega)], f4] at TB
    have JA := Lib.hid (fun a n cp W hS T => join_go a n cp (tokL s) W hS FA T)
    have JB := Lib.hid (fun a n cp W hS T => join_go a n cp (tokL b) W hS FB T)
    unfold JR at JA JB
    rw [f1, f2] at JA
    rw [f5, f6] at JB
    have SM := Lib.hid (fun a n cp c m cp2 W hA hB => same_any a n cp c m cp2 (tokL s) (tokL b) false 0 W hA hB)
    rw [f7] at SM
    clear hbig f1 f2 f3 f4 f5 f6 f7 FA FB
    generalize tokL s = L at *
    generalize tokL b = M at *
    go_enter Tryd.func5, Tryd.ntmps5
    go_wp2_with fail
    refine EX.out.mono ?_
    rintro e w1 ⟨rfl, b1⟩
    have B1 := Lib.hid b1
    clear b1
    go_wp2_with fail
    refine (TA.out _ (S0.out.keeps B1.out) (T0.out.stays B1.out)).mono ?_
    rintro e w2 ⟨v, u, rfl, o2, p2, b2⟩
    obtain ⟨al, cl, rfl, sl⟩ := o2.sl
    obtain ⟨ab, cb, rfl, sb⟩ := p2.sl
    have B2 := Lib.hid (bnext B1.out b2)
    have SL := Lib.hid sl
    generalize L.length = k at SL ⊢
    generalize (tokB s).length = m
    clear o2 p2 sl sb b2
    go_wp2_with fail
    refine (JA.out _ _ _ _ SL.out (T0.out.stays B2.out)).mono ?_
    rintro e w3 ⟨s3, a3, c3, hs3, rfl, bs3, b3⟩
    obtain rfl : b = s3 := (ba_ext hs3).symm
    have B3 := Lib.hid (bnext B2.out b3)
    have SL3 := Lib.hid (SL.out.keeps b3)
    have BS3 := Lib.hid bs3
    clear bs3 b3 hs3
    go_wp2_with fail
    refine (TB.out _ _ _ _ BS3.out (T0.out.stays B3.out)).mono ?_
    rintro e w4 ⟨v, u, rfl, o4, p4, b4⟩
    obtain ⟨am, cm, rfl, sm⟩ := o4.sl
    obtain ⟨ad, cd, rfl, sd⟩ := p4.sl
    have B4 := Lib.hid (bnext B3.out b4)
    have SL4 := Lib.hid (SL3.out.keeps b4)
    have BS4 := Lib.hid (BS3.out.keeps b4)
    have SM4 := Lib.hid sm
    generalize M.length = k2 at SM4 ⊢
    clear o4 p4 sm sd b4
    go_wp2_with fail
    refine (JB.out _ _ _ _ SM4.out (T0.out.stays B4.out)).mono ?_
    rintro e w5 ⟨s5, a5, c5, hs5, rfl, bs5, b5⟩
    obtain rfl : b = s5 := (ba_ext hs5).symm
    have B5 := Lib.hid (bnext B4.out b5)
    have SL5 := Lib.hid (SL4.out.keeps b5)
    have SM5 := Lib.hid (SM4.out.keeps b5)
    have BS5 := Lib.hid (BS4.out.keeps b5)
    have BT5 := Lib.hid bs5
    clear bs5 b5 hs5
    go_wp2_with fail
    refine (SM.out _ _ _ _ _ _ _ SL5.out SM5.out).mono ?_
    rintro e w6 ⟨rfl, b6⟩
    have B6 := Lib.hid (bnext B5.out b6)
    have g1 := (BS5.out.keeps b6).str
    have g2 := (BT5.out.keeps b6).str
    clear b6
    go_wp2_with fail
    go_ret
    exact ⟨rfl, B6.out⟩
end Go.Proofs.YtkfciilclfhabaaDoor
