/-
  The statement UnitsExponents, walked; the exponent of a name in a list.
-/
import Derived.Test.YtcndlcogainnkaaGreatDoorExa
namespace Go.Proofs.YtcndlcogainnkaaGreatDoor
open Go.RowKit dec

def exF : List Fa → ByteArray → Int
  | [], _ => 0
  | x :: l, n => if x.1 = n then x.2 else exF l n
theorem exF_none : ∀ (l : List Fa) (n : ByteArray), (∀ x ∈ l, x.1 ≠ n) → exF l n = 0
  | [], _, _ => rfl
  | x :: l, n, h => by
    rw [exF, if_neg (h x (List.mem_cons_self ..)), exF_none l n fun y hy => h y (List.mem_cons_of_mem _ hy)]
theorem exF_srt : ∀ {l : List Fa}, Srt l → ∀ n, exF l n = ex l n
  | [], _, _ => rfl
  | x :: l, h, n => by
    obtain ⟨p1, p2⟩ := List.pairwise_cons.1 h
    rw [exF, ex]
    by_cases e : x.1 = n
    · rw [if_pos e, if_pos e, ex_none l n fun y hy e' => ltS_ne (p1 y hy) (e.trans e'.symm)]
      omega
    · rw [if_neg e, if_neg e, exF_srt p2 n]
      omega
theorem exF_drop {l : List Fa} {j : Nat} (h : j < l.length) (n : ByteArray) : exF (l.drop j) n = if (gt l j).1 = n then (gt l j).2 else exF (l.drop (j + 1)) n := by
  rw [drop_gt h]
  rfl
theorem exF_in {l : List Fa} (h : Ok l) (n : ByteArray) : -8 ≤ exF l n ∧ exF l n ≤ 8 := by
  by_cases hx : ∃ x ∈ l, x.1 = n
  · obtain ⟨x, hx, e⟩ := hx
    rw [exF_srt h.srt, ← e, ex_srt h.srt x hx]
    exact far_le (h.good x hx).2.2
  · rw [exF_none l n fun x hm e => hx ⟨x, hm, e⟩]
    decide
set_option maxHeartbeats 1000000 in
theorem exponent_any (a : Option Addr) (n cap : Nat) (l : List Fa) (s : ByteArray) (w : World) (hS : Sl w a n cap l) :
    Calls Tryz.prog 25 #[.slice a n cap, .string s] w fun e w' => e = .returned (.int .i64 (exF l s)) ∧ w = w' := by
  have S0 := Lib.hid hS
  have h0 := Lib.hid (show exF l s = exF (l.drop 0) s by rw [List.drop_zero])
  clear hS
  go_enter Tryz.func25, Tryz.ntmps25
  go_wp2_with fail
  go_loopw [5] (fun vi wr => ∃ j : Nat, vi = .int .i64 (j : Nat) ∧ Hid (j ≤ n) ∧ Hid (exF l s = exF (l.drop j) s) ∧ w = wr) (fun vi _ => n - (intOf vi).toNat)
  case atStart => exact ⟨0, rfl, Lib.hid (Nat.zero_le _), h0, rfl⟩
  case round =>
    obtain ⟨j, rfl, hj, hd, rfl⟩ := hrel
    by_cases hc : j < n
    · have hln := Lib.hid (show j < l.length by have := S0.out.hn; omega)
      obtain ⟨bk, off, rfl, hC⟩ := S0.out.hat.resolve_left (by have := hln.out; omega)
      obtain ⟨c0, c1⟩ := hC j hln.out
      have q2 : decide ((j : Int) < (n : Int)) = true := decide_eq_true (by omega)
      have q3 : j < n := hc
      have f4 := Lib.hid (next_at (j := j) (by have := S0.out.hcap; have := S0.out.hmax; omega))
      have hst := hd.out
      rw [exF_drop hln.out] at hst
      have q5 := bs_eq (gt l j).1 s
      generalize gt l j = x at *
      clear hC hd h0
      by_cases he : x.1 = s
      · rw [if_pos he] at hst
        rw [decide_eq_true he] at q5
        have H := Lib.hid hst
        clear hst he
        go_wp2_with fail
        go_ret
        exact ⟨ret_int H.out.symm, rfl⟩
      · rw [if_neg he] at hst
        rw [decide_eq_false he] at q5
        have H := Lib.hid hst
        clear hst he
        go_wp2_with fail
        refine ⟨⟨j + 1, congrArg (Value.int .i64) f4.out, Lib.hid hc, H, trivial⟩, less_at hc f4.out⟩
    · have q2 : decide ((j : Int) < (n : Int)) = false := decide_eq_false (by omega)
      have H := Lib.hid (show exF l s = 0 by rw [hd.out, List.drop_eq_nil_of_le (by have := S0.out.hn; omega)]; rfl)
      clear hd h0
      go_wp2_with fail
      go_ret
      exact ⟨ret_int H.out.symm, rfl⟩
theorem exp_p {l r : List Fa} (h : cE 1 l r = 0) (s : ByteArray) : wrap64 (exF l s + exF r s) = exF (cL 1 l r) s := by
  obtain ⟨a, b, _⟩ := cE_zero h
  obtain ⟨c, d⟩ := c_out h
  have h1 := exF_in a s
  have h2 := exF_in b s
  have h3 : exF (cL 1 l r) s = exF l s + exF r s := by rw [exF_srt c.srt, d, exF_srt a.srt, exF_srt b.srt, Int.mul_one]
  rw [h3]
  unfold wrap64
  omega
theorem exp_q {l r : List Fa} (h : cE (-1) l r = 0) (s : ByteArray) : wrap64 (exF l s - exF r s) = exF (cL (-1) l r) s := by
  obtain ⟨a, b, _⟩ := cE_zero h
  obtain ⟨c, d⟩ := c_out h
  have h1 := exF_in a s
  have h2 := exF_in b s
  have h3 : exF (cL (-1) l r) s = exF l s - exF r s := by rw [exF_srt c.srt, d, exF_srt a.srt, exF_srt b.srt]; omega
  rw [h3]
  unfold wrap64
  omega
set_option maxRecDepth 100000 in
set_option maxHeartbeats 2000000 in
theorem walk_exponents (a0 : Option Addr) (n0 c0 : Nat) (l : List Fa) (a1 : Option Addr) (n1 c1 : Nat) (r : List Fa) (s : ByteArray) (w : World) (hA : Sl w a0 n0 c0 l) (hB : Sl w a1 n1 c1 r) (T : Tabs w) :
    Calls Tryz.prog 9 #[.slice a0 n0 c0, .slice a1 n1 c1, .string s] w fun e w' => e = .returned (.bool true) ∧ Below w.heap.size w w' := by
  have E0 := Lib.hid (example_any w T)
  have SA := Lib.hid hA
  have SB := Lib.hid hB
  have CT := Lib.hid (fun W h1 h2 => times_any a0 n0 c0 a1 n1 c1 l r W h1 h2)
  have CO := Lib.hid (fun W h1 h2 => over_any a0 n0 c0 a1 n1 c1 l r W h1 h2)
  have XA := Lib.hid (fun W h => exponent_any a0 n0 c0 l s W h)
  have XB := Lib.hid (fun W h => exponent_any a1 n1 c1 r s W h)
  have XP := Lib.hid (fun a k c W h => exponent_any a k c (cL 1 l r) s W h)
  have XQ := Lib.hid (fun a k c W h => exponent_any a k c (cL (-1) l r) s W h)
  have FP := Lib.hid (fun h => exp_p (l := l) (r := r) h s)
  have FQ := Lib.hid (fun h => exp_q (l := l) (r := r) h s)
  clear hA hB T
  generalize cE 1 l r = p at *
  generalize cE (-1) l r = q at *
  generalize cL 1 l r = lp at *
  generalize cL (-1) l r = lq at *
  generalize exF lp s = xp at *
  generalize exF lq s = xq at *
  generalize exF l s = x at *
  generalize exF r s = y at *
  obtain ⟨kp, hkp⟩ : ∃ k, lp.length = k := ⟨_, rfl⟩
  obtain ⟨kq, hkq⟩ : ∃ k, lq.length = k := ⟨_, rfl⟩
  have KP := Lib.hid hkp
  have KQ := Lib.hid hkq
  clear hkp hkq
  by_cases hp : p = 0
  · by_cases hq : q = 0
    · skip
      have fp := FP.out hp
      have qp : (p != 0) = false := by rw [bne_eq_false_iff_eq]; exact hp
      have fq := FQ.out hq
      have qq : (q != 0) = false := by rw [bne_eq_false_iff_eq]; exact hq
      clear FP FQ hp hq
      go_enter Tryz.func9, Tryz.ntmps9
      go_wp2_with fail
      refine E0.out.mono ?_
      rintro e z1 ⟨rfl, bX⟩
      have A1 := Lib.hid (SA.out.keeps bX)
      have B1 := Lib.hid (SB.out.keeps bX)
      have Q1 := Lib.hid bX
      clear bX SA SB
      go_wp2_with fail
      refine (CT.out _ A1.out B1.out).mono ?_
      rintro e z2 ⟨v, rfl, oX, bX⟩
      obtain ⟨aP, cP, rfl, sX⟩ := oX.ou KP.out
      have A2 := Lib.hid (A1.out.keeps bX)
      have B2 := Lib.hid (B1.out.keeps bX)
      have P2 := Lib.hid sX
      have Q2 := Lib.hid (bnext Q1.out bX)
      clear bX oX sX A1 B1 Q1
      go_wp2_with fail
      refine (CO.out _ A2.out B2.out).mono ?_
      rintro e z3 ⟨v, rfl, oX, bX⟩
      obtain ⟨aQ, cQ, rfl, sX⟩ := oX.ou KQ.out
      have A3 := Lib.hid (A2.out.keeps bX)
      have B3 := Lib.hid (B2.out.keeps bX)
      have P3 := Lib.hid (P2.out.keeps bX)
      have D3 := Lib.hid sX
      have Q3 := Lib.hid (bnext Q2.out bX)
      clear bX oX sX A2 B2 Q2 P2
      go_wp2_with fail
      refine (XA.out _ A3.out).mono ?_
      rintro e z4 ⟨rfl, rfl⟩
      go_wp2_with fail
      refine (XB.out _ B3.out).mono ?_
      rintro e z5 ⟨rfl, rfl⟩
      go_wp2_with fail
      refine (XP.out _ _ _ _ P3.out).mono ?_
      rintro e z6 ⟨rfl, rfl⟩
      go_wp2_with fail
      refine (XQ.out _ _ _ _ D3.out).mono ?_
      rintro e z7 ⟨rfl, rfl⟩
      go_wp2_with fail
      go_ret
      exact ⟨rfl, Q3.out⟩
    · skip
      have fp := FP.out hp
      have qp : (p != 0) = false := by rw [bne_eq_false_iff_eq]; exact hp
      have qq : (q != 0) = true := by rw [bne_iff_ne]; exact hq
      clear FP FQ hp hq
      go_enter Tryz.func9, Tryz.ntmps9
      go_wp2_with fail
      refine E0.out.mono ?_
      rintro e z1 ⟨rfl, bX⟩
      have A1 := Lib.hid (SA.out.keeps bX)
      have B1 := Lib.hid (SB.out.keeps bX)
      have Q1 := Lib.hid bX
      clear bX SA SB
      go_wp2_with fail
      refine (CT.out _ A1.out B1.out).mono ?_
      rintro e z2 ⟨v, rfl, oX, bX⟩
      obtain ⟨aP, cP, rfl, sX⟩ := oX.ou KP.out
      have A2 := Lib.hid (A1.out.keeps bX)
      have B2 := Lib.hid (B1.out.keeps bX)
      have P2 := Lib.hid sX
      have Q2 := Lib.hid (bnext Q1.out bX)
      clear bX oX sX A1 B1 Q1
      go_wp2_with fail
      refine (CO.out _ A2.out B2.out).mono ?_
      rintro e z3 ⟨v, rfl, oX, bX⟩
      obtain ⟨aQ, cQ, rfl, sX⟩ := oX.ou KQ.out
      have A3 := Lib.hid (A2.out.keeps bX)
      have B3 := Lib.hid (B2.out.keeps bX)
      have P3 := Lib.hid (P2.out.keeps bX)
      have D3 := Lib.hid sX
      have Q3 := Lib.hid (bnext Q2.out bX)
      clear bX oX sX A2 B2 Q2 P2
      go_wp2_with fail
      refine (XA.out _ A3.out).mono ?_
      rintro e z4 ⟨rfl, rfl⟩
      go_wp2_with fail
      refine (XB.out _ B3.out).mono ?_
      rintro e z5 ⟨rfl, rfl⟩
      go_wp2_with fail
      refine (XP.out _ _ _ _ P3.out).mono ?_
      rintro e z6 ⟨rfl, rfl⟩
      go_wp2_with fail
      go_ret
      exact ⟨rfl, Q3.out⟩
  · by_cases hq : q = 0
    · skip
      have qp : (p != 0) = true := by rw [bne_iff_ne]; exact hp
      have fq := FQ.out hq
      have qq : (q != 0) = false := by rw [bne_eq_false_iff_eq]; exact hq
      clear FP FQ hp hq
      go_enter Tryz.func9, Tryz.ntmps9
      go_wp2_with fail
      refine E0.out.mono ?_
      rintro e z1 ⟨rfl, bX⟩
      have A1 := Lib.hid (SA.out.keeps bX)
      have B1 := Lib.hid (SB.out.keeps bX)
      have Q1 := Lib.hid bX
      clear bX SA SB
      go_wp2_with fail
      refine (CT.out _ A1.out B1.out).mono ?_
      rintro e z2 ⟨v, rfl, oX, bX⟩
      obtain ⟨aP, cP, rfl, sX⟩ := oX.ou KP.out
      have A2 := Lib.hid (A1.out.keeps bX)
      have B2 := Lib.hid (B1.out.keeps bX)
      have P2 := Lib.hid sX
      have Q2 := Lib.hid (bnext Q1.out bX)
      clear bX oX sX A1 B1 Q1
      go_wp2_with fail
      refine (CO.out _ A2.out B2.out).mono ?_
      rintro e z3 ⟨v, rfl, oX, bX⟩
      obtain ⟨aQ, cQ, rfl, sX⟩ := oX.ou KQ.out
      have A3 := Lib.hid (A2.out.keeps bX)
      have B3 := Lib.hid (B2.out.keeps bX)
      have P3 := Lib.hid (P2.out.keeps bX)
      have D3 := Lib.hid sX
      have Q3 := Lib.hid (bnext Q2.out bX)
      clear bX oX sX A2 B2 Q2 P2
      go_wp2_with fail
      refine (XA.out _ A3.out).mono ?_
      rintro e z4 ⟨rfl, rfl⟩
      go_wp2_with fail
      refine (XB.out _ B3.out).mono ?_
      rintro e z5 ⟨rfl, rfl⟩
      go_wp2_with fail
      refine (XQ.out _ _ _ _ D3.out).mono ?_
      rintro e z7 ⟨rfl, rfl⟩
      go_wp2_with fail
      go_ret
      exact ⟨rfl, Q3.out⟩
    · skip
      have qp : (p != 0) = true := by rw [bne_iff_ne]; exact hp
      have qq : (q != 0) = true := by rw [bne_iff_ne]; exact hq
      clear FP FQ hp hq
      go_enter Tryz.func9, Tryz.ntmps9
      go_wp2_with fail
      refine E0.out.mono ?_
      rintro e z1 ⟨rfl, bX⟩
      have A1 := Lib.hid (SA.out.keeps bX)
      have B1 := Lib.hid (SB.out.keeps bX)
      have Q1 := Lib.hid bX
      clear bX SA SB
      go_wp2_with fail
      refine (CT.out _ A1.out B1.out).mono ?_
      rintro e z2 ⟨v, rfl, oX, bX⟩
      obtain ⟨aP, cP, rfl, sX⟩ := oX.ou KP.out
      have A2 := Lib.hid (A1.out.keeps bX)
      have B2 := Lib.hid (B1.out.keeps bX)
      have P2 := Lib.hid sX
      have Q2 := Lib.hid (bnext Q1.out bX)
      clear bX oX sX A1 B1 Q1
      go_wp2_with fail
      refine (CO.out _ A2.out B2.out).mono ?_
      rintro e z3 ⟨v, rfl, oX, bX⟩
      obtain ⟨aQ, cQ, rfl, sX⟩ := oX.ou KQ.out
      have A3 := Lib.hid (A2.out.keeps bX)
      have B3 := Lib.hid (B2.out.keeps bX)
      have P3 := Lib.hid (P2.out.keeps bX)
      have D3 := Lib.hid sX
      have Q3 := Lib.hid (bnext Q2.out bX)
      clear bX oX sX A2 B2 Q2 P2
      go_wp2_with fail
      refine (XA.out _ A3.out).mono ?_
      rintro e z4 ⟨rfl, rfl⟩
      go_wp2_with fail
      refine (XB.out _ B3.out).mono ?_
      rintro e z5 ⟨rfl, rfl⟩
      go_wp2_with fail
      go_ret
      exact ⟨rfl, Q3.out⟩
end Go.Proofs.YtcndlcogainnkaaGreatDoor
