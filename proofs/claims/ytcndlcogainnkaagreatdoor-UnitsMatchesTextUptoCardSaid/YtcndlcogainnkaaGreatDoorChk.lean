/-
  units.Check.
-/
import Derived.Test.YtcndlcogainnkaaGreatDoorSml
namespace Go.Proofs.YtcndlcogainnkaaGreatDoor
open Go.RowKit dec

theorem le_is (a b : ByteArray) : (Op.bytesLess a.toList b.toList || a.toList == b.toList) = !Op.bytesLess b.toList a.toList := by
  cases h : Op.bytesLess b.toList a.toList
  · by_cases e : a.toList = b.toList
    · rw [e]; simp
    · rw [less_tri b.toList a.toList h fun e' => e e'.symm]; rfl
  · have h1 := ltS_as (a := b) (b := a) h
    have h2 := ltS_ne (a := b) (b := a) h
    unfold ltS at h1
    rw [h1, Bool.false_or]
    exact beq_eq_false_iff_ne.2 fun e => h2 (toList_inj e.symm)
theorem ck_drop {l : List Fa} {j : Nat} (h : j < l.length) (b : ByteArray) : ckFrom b (l.drop j) = if ck1 b (gt l j) = 0 then ckFrom (gt l j).1 (l.drop (j + 1)) else ck1 b (gt l j) := by
  rw [drop_gt h]
  rfl
theorem ck_end {l : List Fa} {j : Nat} (h : l.length ≤ j) (b : ByteArray) : ckFrom b (l.drop j) = 0 := by
  rw [List.drop_eq_nil_of_le h]
  rfl
set_option maxHeartbeats 2000000 in
theorem check_any (a : Option Addr) (n cap : Nat) (l : List Fa) (w : World) (hS : Sl w a n cap l) :
    Calls Tryz.prog 13 #[.slice a n cap] w fun e w' => e = .returned (.int .i64 (ck l)) ∧ Below w.heap.size w w' := by
  have W1 := Lib.hid isWord_any
  have R1 := Lib.hid range_any
  have hck : ck l = if 4 < n then 2 else ckFrom .empty (l.drop 0) := by rw [List.drop_zero, ← hS.hn]; rfl
  have S0 := Lib.hid hS
  clear hS
  by_cases h4 : 4 < n
  · rw [hck, if_pos h4]
    have q1 : decide (4 < (n : Int)) = true := decide_eq_true (by omega)
    clear W1 R1 S0 hck
    go_enter Tryz.func13, Tryz.ntmps13
    go_wp2_with fail
    go_ret
    exact ⟨rfl, b0 w⟩
  · rw [if_neg h4] at hck
    rw [hck]
    have hn := Lib.hid (Nat.le_of_not_lt h4)
    have q1 : decide (4 < (n : Int)) = false := decide_eq_false (by omega)
    clear h4 hck
    go_enter Tryz.func13, Tryz.ntmps13
    go_wp2_with fail
    go_loopw [3, 11] (fun vb vi wr => ∃ (j : Nat) (b : ByteArray), vb = .string b ∧ vi = .int .i64 (j : Nat) ∧ Hid (j ≤ n) ∧ Hid (ckFrom .empty (l.drop 0) = ckFrom b (l.drop j)) ∧ Below w.heap.size w wr) (fun _ vi _ => n - (intOf vi).toNat)
    case atStart => exact ⟨0, .empty, rfl, rfl, Lib.hid (by omega), rfl, b0 w⟩
    case round =>
      obtain ⟨j, b, rfl, rfl, hj, hd, hb⟩ := hrel
      by_cases hc : j < n
      · have hlen := S0.out.hn
        have hst := hd.out
        rw [ck_drop (by have := S0.out.hn; omega) b] at hst
        obtain ⟨bk, off, rfl, hC⟩ := (S0.out.keeps hb).hat.resolve_left (by omega)
        obtain ⟨c0, c1⟩ := hC j (by have := S0.out.hn; omega)
        have q2 : decide ((j : Int) < (n : Int)) = true := decide_eq_true (by omega)
        have f4 := Lib.hid (next_at (j := j) (by have := hn.out; have := hc; omega))
        have q3 : j < n := hc
        generalize (gt l j) = x at *
        have H := Lib.hid hst
        have hbh := Lib.hid hb
        clear hd hst hlen hC hb
        cases hw : word x.1
        · have hk : ck1 b x = 1 := by unfold ck1; rw [if_pos hw]
          go_wp2_with fail
          refine (W1.out _ _).mono ?_
          rintro e w' ⟨rfl, rfl⟩
          go_wp2_with fail
          go_ret
          exact ⟨ret_int (by rw [H.out, if_neg (by rw [hk]; decide), hk]), balloc hbh.out _⟩
        · by_cases h0 : x.2 = 0
          · have hk : ck1 b x = 70 := by unfold ck1; rw [hw, if_neg (by decide), if_pos (.inl h0)]
            have q4 : (x.2 == 0) = true := beq_iff_eq.2 h0
            replace hk := Lib.hid hk
            replace h0 := Lib.hid h0
            go_wp2_with fail
            refine (W1.out _ _).mono ?_
            rintro e w' ⟨rfl, rfl⟩
            go_wp2_with fail
            replace hk := hk.out
            go_ret
            exact ⟨ret_int (by rw [H.out, if_neg (by rw [hk]; decide), hk]), balloc hbh.out _⟩
          · have q4 : (x.2 == 0) = false := beq_eq_false_iff_ne.2 h0
            cases hf : far x.2
            · have q8 := le_is x.1 b
              cases hl : Op.bytesLess b.toList x.1.toList
              · have hk : ck1 b x = 3 := by unfold ck1 ltS; rw [hw, hf, hl, if_neg (by decide), if_neg (by simp [h0]), if_neg (by decide)]
                replace h0 := Lib.hid h0
                rw [hl, Bool.not_false] at q8
                go_wp2_with fail
                refine (W1.out _ _).mono ?_
                rintro e w' ⟨rfl, rfl⟩
                go_wp2_with fail
                refine (R1.out _ _).mono ?_
                rintro e w' ⟨rfl, rfl⟩
                go_wp2_with fail
                go_ret
                exact ⟨ret_int (by rw [H.out, if_neg (by rw [hk]; decide), hk]), balloc hbh.out _⟩
              · have hk : ck1 b x = 0 := by unfold ck1 ltS; rw [hw, hf, hl, if_neg (by decide), if_neg (by simp [h0]), if_pos rfl]
                replace h0 := Lib.hid h0
                rw [hl, Bool.not_true] at q8
                go_wp2_with fail
                refine (W1.out _ _).mono ?_
                rintro e w' ⟨rfl, rfl⟩
                go_wp2_with fail
                refine (R1.out _ _).mono ?_
                rintro e w' ⟨rfl, rfl⟩
                go_wp2_with fail
                go_roundw
                case rel => exact ⟨j + 1, x.1, rfl, congrArg (Value.int .i64) f4.out, Lib.hid hc, Lib.hid (H.out.trans (if_pos hk)), balloc hbh.out _⟩
                case measure => exact less_at hc f4.out
            · have hk : ck1 b x = 70 := by unfold ck1; rw [hw, hf, if_neg (by decide), if_pos (.inr rfl)]
              replace h0 := Lib.hid h0
              go_wp2_with fail
              refine (W1.out _ _).mono ?_
              rintro e w' ⟨rfl, rfl⟩
              go_wp2_with fail
              refine (R1.out _ _).mono ?_
              rintro e w' ⟨rfl, rfl⟩
              go_wp2_with fail
              go_ret
              exact ⟨ret_int (by rw [H.out, if_neg (by rw [hk]; decide), hk]), balloc hbh.out _⟩
      · have hst := ck_end (l := l) (j := j) (by have := S0.out.hn; omega) b
        have H := Lib.hid hst
        have hd2 := Lib.hid hd.out
        clear hst hd
        have q3 : decide ((j : Int) < (n : Int)) = false := decide_eq_false (by omega)
        have hbh := Lib.hid hb
        clear hb
        go_wp2_with fail
        go_ret
        exact ⟨ret_int (hd2.out.trans H.out).symm, hbh.out⟩
end Go.Proofs.YtcndlcogainnkaaGreatDoor
