/-
  The reference's Check.
-/
import Derived.Test.YtbkpjhffmaldmaaGreatDoorQ03
import Derived.Test.YtbkpjhffmaldmaaGreatDoorZUWrd
namespace Go.Proofs.YtbkpjhffmaldmaaGreatDoor.un
open Go.RowKit dec

theorem less_dl0 {n d : Nat} (hd : d < n) : n - (intOf (Value.int .i64 ((d : Int) + 1))).toNat < n - (intOf (Value.int .i64 (d : Int))).toNat := by
  have h := hd
  show n - (((d : Int) + 1)).toNat < n - ((d : Nat) : Int).toNat
  omega
theorem ck_at {l : List Fa} {j : Nat} (_ : j < l.length) : ck1 .empty (gt l j) = 0 ∨ word (gt l j).1 = false ∨ ((gt l j).2 = 0 ∨ far (gt l j).2 = true) := by
  cases hw : word (gt l j).1
  · exact .inr (.inl rfl)
  · by_cases h2 : (gt l j).2 = 0 ∨ far (gt l j).2 = true
    · exact .inr (.inr h2)
    · refine .inl (ck1_of hw (fun e => h2 (.inl e)) (by simpa using fun e => h2 (.inr e)) ?_)
      rw [ltS_empty]
      have := word_size hw
      exact decide_eq_true (by omega)
theorem wrap_at {i : Nat} (h : i < 9223372036854775807) : wrap64 ((i : Nat) : Int) = ((i : Nat) : Int) := by unfold wrap64; omega
theorem prev_at {i : Nat} (h : i < 9223372036854775807) : wrap64 (((i + 1 : Nat) : Int) - 1) = ((i : Nat) : Int) := by unfold wrap64; omega
/-- The name before the place j. -/
def bef (l : List Fa) (j : Nat) : ByteArray := if j = 0 then .empty else (gt l (j - 1)).1
set_option maxRecDepth 100000 in
set_option maxHeartbeats 2000000 in
theorem rcheck_any (a : Option Addr) (n cap : Nat) (l : List Fa) (w : World) (hS : Sl w a n cap l) :
    Calls Tryz.prog 44 #[.slice a n cap] w fun e w' => e = .returned (.int .i64 (ck l)) ∧ Below w.heap.size w w' := by
  have W1 := Lib.hid rword_any
  have R1 := Lib.hid far_any
  have hck : ck l = if 4 < n then 2 else ckFrom .empty (l.drop 0) := by rw [List.drop_zero, ← hS.hn]; rfl
  have S0 := Lib.hid hS
  clear hS
  by_cases h4 : 4 < n
  · rw [hck, if_pos h4]
    have q1 : decide (4 < (n : Int)) = true := decide_eq_true (by omega)
    clear W1 R1 S0 hck
    go_enter Tryz.func44, Tryz.ntmps44
    go_wp2_with fail
    go_ret
    exact ⟨rfl, b0 w⟩
  · rw [if_neg h4] at hck
    rw [hck]
    have hn := Lib.hid (Nat.le_of_not_lt h4)
    have q1 : decide (4 < (n : Int)) = false := decide_eq_false (by omega)
    clear h4 hck
    go_enter Tryz.func44, Tryz.ntmps44
    go_wp2_with fail
    go_loopw [3] (fun vi wr => ∃ j : Nat, vi = .int .i64 (j : Nat) ∧ Hid (j ≤ n) ∧ Hid (ckFrom .empty (l.drop 0) = ckFrom (bef l j) (l.drop j)) ∧ Hid (Below w.heap.size w wr)) (fun vi _ => n - (intOf vi).toNat)
    case atStart => exact ⟨0, rfl, Lib.hid (by omega), Lib.hid rfl, Lib.hid (b0 w)⟩
    case round =>
      obtain ⟨j, rfl, hj, hd, hb⟩ := hrel
      by_cases hc : j < n
      · have hln := Lib.hid (show j < l.length by have := S0.out.hn; omega)
        have hst := hd.out
        rw [ck_drop hln.out (bef l j)] at hst
        obtain ⟨bk, off, rfl, hC⟩ := (S0.out.keeps hb.out).hat.resolve_left (by have := hln.out; omega)
        obtain ⟨c0, c1⟩ := hC j hln.out
        have q2 : decide ((j : Int) < (n : Int)) = true := decide_eq_true (by omega)
        have q3 : j < n := hc
        have f4 := Lib.hid (next_at (j := j) (by have := hn.out; omega))
        have hbn := Lib.hid (show bef l (j + 1) = (gt l j).1 from rfl)
        have hca := Lib.hid (ck_at hln.out)
        have H := Lib.hid hst
        clear hd hst
        rcases Nat.eq_zero_or_pos j with h0 | h0
        · have hbe := Lib.hid (show bef l j = .empty by rw [h0]; rfl)
          have q6 : decide ((0 : Int) < (j : Int)) = false := decide_eq_false (by omega)
          have q7 : decide (0 < j) = false := decide_eq_false (by omega)
          generalize bef l j = bb at *
          generalize gt l j = x at *
          clear hC h0
          cases hw : word x.1
          · have hk : ck1 .empty x = 1 := by unfold ck1; rw [if_pos hw]
            replace hk := Lib.hid hk
            go_wp2_with fail
            refine (W1.out _ _).mono ?_
            rintro e w' ⟨rfl, rfl⟩
            go_wp2_with fail
            go_ret
            exact ⟨ret_int (by rw [H.out, hbe.out, if_neg (by rw [hk.out]; decide), hk.out]), hb.out⟩
          · by_cases hz : x.2 = 0
            · have hk : ck1 .empty x = 70 := by unfold ck1; rw [hw, if_neg (by decide), if_pos (.inl hz)]
              have q4 : (x.2 == 0) = true := beq_iff_eq.2 hz
              replace hk := Lib.hid hk
              replace hz := Lib.hid hz
              go_wp2_with fail
              refine (W1.out _ _).mono ?_
              rintro e w' ⟨rfl, rfl⟩
              go_wp2_with fail
              go_ret
              exact ⟨ret_int (by rw [H.out, hbe.out, if_neg (by rw [hk.out]; decide), hk.out]), hb.out⟩
            · have q4 : (x.2 == 0) = false := beq_eq_false_iff_ne.2 hz
              cases hf : far x.2
              · have hk := Lib.hid (show ck1 .empty x = 0 from hca.out.resolve_right (by rintro (h | h | h) <;> simp_all))
                replace hz := Lib.hid hz
                go_wp2_with fail
                refine (W1.out _ _).mono ?_
                rintro e w' ⟨rfl, rfl⟩
                go_wp2_with fail
                refine (R1.out _ _).mono ?_
                rintro e w' ⟨rfl, rfl⟩
                go_wp2_with fail
                have c0r := cell_regrown c0
                clear c0 c1
                refine wp_region_quiet_below (by kernel_rfl) (by kernel_rfl) ?_
                repeat (first | go_big_quiet_skip | (go_big_quiet_want; go_big_quiet_op; go_big_quiet_on))
                refine wpQuiet_nil ?_
                intro w9 hw9
                have hb2 := Lib.hid (bnext hb.out (below_of hw9))
                clear hw9
                go_wp2_with fail
                refine ⟨⟨j + 1, by first | exact congrArg (Value.int .i64) f4.out | rfl, Lib.hid hc, Lib.hid (by rw [H.out, hbe.out, if_pos hk.out, hbn.out]), Lib.hid hb2.out⟩, by first | exact less_at hc f4.out | exact less_dl0 hc⟩
              · have hk : ck1 .empty x = 70 := by unfold ck1; rw [hw, hf, if_neg (by decide), if_pos (.inr rfl)]
                replace hk := Lib.hid hk
                replace hz := Lib.hid hz
                go_wp2_with fail
                refine (W1.out _ _).mono ?_
                rintro e w' ⟨rfl, rfl⟩
                go_wp2_with fail
                refine (R1.out _ _).mono ?_
                rintro e w' ⟨rfl, rfl⟩
                go_wp2_with fail
                go_ret
                exact ⟨ret_int (by rw [H.out, hbe.out, if_neg (by rw [hk.out]; decide), hk.out]), hb.out⟩
        · obtain ⟨i, rfl⟩ : ∃ i, j = i + 1 := ⟨j - 1, by omega⟩
          have hbe := Lib.hid (show bef l (i + 1) = (gt l i).1 from rfl)
          obtain ⟨d0, d1⟩ := hC i (by have := hln.out; omega)
          have q6 : decide ((0 : Int) < ((i + 1 : Nat) : Int)) = true := decide_eq_true (by omega)
          have q9 : i < n := by omega
          have f9 := wrap_at (i := i) (by have := hn.out; omega)
          have q8 := le_is (gt l (i + 1)).1 (gt l i).1
          generalize gt l (i + 1) = x at *
          generalize (gt l i).1 = b at *
          generalize bef l (i + 1) = bb at *
          clear hC h0 hca
          cases hw : word x.1
          · have hk : ck1 b x = 1 := by unfold ck1; rw [if_pos hw]
            replace hk := Lib.hid hk
            go_wp2_with fail
            refine (W1.out _ _).mono ?_
            rintro e w' ⟨rfl, rfl⟩
            go_wp2_with fail
            go_ret
            exact ⟨ret_int (by rw [H.out, hbe.out, if_neg (by rw [hk.out]; decide), hk.out]), hb.out⟩
          · by_cases hz : x.2 = 0
            · have hk : ck1 b x = 70 := by unfold ck1; rw [hw, if_neg (by decide), if_pos (.inl hz)]
              have q4 : (x.2 == 0) = true := beq_iff_eq.2 hz
              replace hk := Lib.hid hk
              replace hz := Lib.hid hz
              go_wp2_with fail
              refine (W1.out _ _).mono ?_
              rintro e w' ⟨rfl, rfl⟩
              go_wp2_with fail
              go_ret
              exact ⟨ret_int (by rw [H.out, hbe.out, if_neg (by rw [hk.out]; decide), hk.out]), hb.out⟩
            · have q4 : (x.2 == 0) = false := beq_eq_false_iff_ne.2 hz
              cases hf : far x.2
              · cases hl : Op.bytesLess b.toList x.1.toList
                · have hk : ck1 b x = 3 := by unfold ck1 ltS; rw [hw, hf, hl, if_neg (by decide), if_neg (by simp [hz]), if_neg (by decide)]
                  replace hk := Lib.hid hk
                  replace hz := Lib.hid hz
                  rw [hl, Bool.not_false] at q8
                  go_wp2_with fail
                  refine (W1.out _ _).mono ?_
                  rintro e w' ⟨rfl, rfl⟩
                  go_wp2_with fail
                  refine (R1.out _ _).mono ?_
                  rintro e w' ⟨rfl, rfl⟩
                  go_wp2_with fail
                  have c0r := cell_regrown c0
                  have d0r := cell_regrown d0
                  clear c0 c1 d0 d1
                  refine wp_region_quiet_below (by kernel_rfl) (by kernel_rfl) ?_
                  repeat (first | go_big_quiet_skip | (go_big_quiet_want; go_big_quiet_op; go_big_quiet_on))
                  refine wpQuiet_nil ?_
                  intro w9 hw9
                  have hb2 := Lib.hid (bnext hb.out (below_of hw9))
                  clear hw9
                  go_wp2_with fail
                  go_ret
                  exact ⟨ret_int (by rw [H.out, hbe.out, if_neg (by rw [hk.out]; decide), hk.out]), hb2.out⟩
                · have hk : ck1 b x = 0 := by unfold ck1 ltS; rw [hw, hf, hl, if_neg (by decide), if_neg (by simp [hz]), if_pos rfl]
                  replace hk := Lib.hid hk
                  replace hz := Lib.hid hz
                  rw [hl, Bool.not_true] at q8
                  go_wp2_with fail
                  refine (W1.out _ _).mono ?_
                  rintro e w' ⟨rfl, rfl⟩
                  go_wp2_with fail
                  refine (R1.out _ _).mono ?_
                  rintro e w' ⟨rfl, rfl⟩
                  go_wp2_with fail
                  have c0r := cell_regrown c0
                  have d0r := cell_regrown d0
                  clear c0 c1 d0 d1
                  refine wp_region_quiet_below (by kernel_rfl) (by kernel_rfl) ?_
                  repeat (first | go_big_quiet_skip | (go_big_quiet_want; go_big_quiet_op; go_big_quiet_on))
                  refine wpQuiet_nil ?_
                  intro w9 hw9
                  have hb2 := Lib.hid (bnext hb.out (below_of hw9))
                  clear hw9
                  go_wp2_with fail
                  refine ⟨⟨i + 1 + 1, by first | exact congrArg (Value.int .i64) f4.out | rfl, Lib.hid hc, Lib.hid (by rw [H.out, hbe.out, if_pos hk.out, hbn.out]), Lib.hid hb2.out⟩, by first | exact less_at hc f4.out | exact less_dl0 hc⟩
              · have hk : ck1 b x = 70 := by unfold ck1; rw [hw, hf, if_neg (by decide), if_pos (.inr rfl)]
                replace hk := Lib.hid hk
                replace hz := Lib.hid hz
                go_wp2_with fail
                refine (W1.out _ _).mono ?_
                rintro e w' ⟨rfl, rfl⟩
                go_wp2_with fail
                refine (R1.out _ _).mono ?_
                rintro e w' ⟨rfl, rfl⟩
                go_wp2_with fail
                go_ret
                exact ⟨ret_int (by rw [H.out, hbe.out, if_neg (by rw [hk.out]; decide), hk.out]), hb.out⟩
      · have H := Lib.hid (show ckFrom .empty (l.drop 0) = 0 by rw [hd.out, ck_end (by have := S0.out.hn; omega)])
        have q3 : decide ((j : Int) < (n : Int)) = false := decide_eq_false (by omega)
        clear hd
        go_wp2_with fail
        go_ret
        exact ⟨ret_int H.out.symm, hb.out⟩
end Go.Proofs.YtbkpjhffmaldmaaGreatDoor.un
