/-
  The reference: texts.
-/
import Derived.Test.YtkfciilclfhabaaGreatDoorRtv
namespace Go.Proofs.YtkfciilclfhabaaGreatDoor
open Go.RowKit dec

theorem okQ {c : UInt8} (h : isQ c = true) : okB 32 c = (decide (32 ≤ c.toNat) && decide (c.toNat ≤ 126) && !decide (c.toNat = 92)) := by
  have h1 : decide (c.toNat = 34) = false := by
    unfold isQ at h
    simp only [Bool.and_eq_true, Bool.not_eq_true', decide_eq_false_iff_not] at h
    exact decide_eq_false h.1
  unfold okB
  rw [h1]
  simp
theorem ok_ways {c : UInt8} (h : isQ c = true) :
    (okB 32 c = true ∧ decide ((c.toNat : Int) < 32) = false ∧ (32 : Int) ≤ (c.toNat : Int) ∧ decide (126 < (c.toNat : Int)) = false ∧ (c.toNat : Int) ≤ 126 ∧ ((c.toNat : Int) == 92) = false) ∨
    (okB 32 c = false ∧ decide ((c.toNat : Int) < 32) = true ∧ (c.toNat : Int) < 32) ∨
    (okB 32 c = false ∧ decide ((c.toNat : Int) < 32) = false ∧ (32 : Int) ≤ (c.toNat : Int) ∧ decide (126 < (c.toNat : Int)) = true ∧ 126 < (c.toNat : Int)) ∨
    (okB 32 c = false ∧ decide ((c.toNat : Int) < 32) = false ∧ (32 : Int) ≤ (c.toNat : Int) ∧ decide (126 < (c.toNat : Int)) = false ∧ (c.toNat : Int) ≤ 126 ∧ ((c.toNat : Int) == 92) = true) := by
  simp only [okQ h, beq_eq_false_iff_ne, beq_iff_eq, decide_eq_true_eq, decide_eq_false_iff_not, Bool.and_eq_true, Bool.and_eq_false_iff, Bool.not_eq_true', Bool.not_eq_false']
  omega
/-- The second quote: where, and what lies between. -/
theorem quote_facts (s : ByteArray) {i : Nat} (hi : i < s.size) (h : s[i].toNat = 34) {R : Nat} (hR : 1 + run isQ (s.data.toList.drop (i + 1)) = R) :
    (i + R = s.size ∧ shp (s.data.toList.drop i) = (0, 1)) ∨ (∃ hc : i + R < s.size, (s[i + R].toNat = 10 ∧ shp (s.data.toList.drop i) = (0, 1)) ∨
      (s[i + R].toNat = 34 ∧ shp (s.data.toList.drop i) = (4, R + 1) ∧ (s.extract (i + 1) (i + R)).size = R - 1 ∧ (∀ c ∈ (s.extract (i + 1) (i + R)).data.toList, isQ c = true) ∧ cont 4 ((s.data.toList.drop i).take (R + 1)) = (s.extract (i + 1) (i + R)).data.toList)) := by
  have hsh := shp_quote s hi h
  have hle := run_size isQ s (i := i + 1) (by omega)
  rw [List.drop_drop] at hsh
  have hat := run_at isQ (s.data.toList.drop (i + 1))
  rw [List.drop_drop] at hat
  have hall := run_all isQ (s.data.toList.drop (i + 1))
  obtain ⟨r, hr⟩ : ∃ r, run isQ (s.data.toList.drop (i + 1)) = r := ⟨_, rfl⟩
  rw [hr] at hsh hle hat hR hall
  have e1 : i + 1 + r = i + R := by omega
  rw [e1] at hsh hat hle
  by_cases hc : i + R < s.size
  · right
    refine ⟨hc, ?_⟩
    rw [at_drop s hc, List.head?_cons] at hsh hat
    have hq := hat _ rfl
    by_cases h10 : s[i + R].toNat = 10
    · left
      rw [if_neg (by intro e; rw [Option.some.injEq] at e; rw [e] at h10; revert h10; decide)] at hsh
      exact ⟨h10, hsh⟩
    · right
      have h34 : s[i + R].toNat = 34 := by
        unfold isQ at hq
        simp only [Bool.and_eq_false_iff, Bool.not_eq_false', decide_eq_true_eq] at hq
        omega
      rw [if_pos (by rw [Option.some.injEq]; exact UInt8.toNat_inj.1 h34), show r + 2 = R + 1 by omega] at hsh
      have e2 : (s.extract (i + 1) (i + R)).data.toList = (s.data.toList.drop (i + 1)).take r := by
        rw [← e1, ext_part]
      refine ⟨h34, hsh, ?_, ?_, ?_⟩
      · rw [← e1, ext_size s (by omega)]
        omega
      · rw [e2]; exact hall
      · rw [e2, show R + 1 = r + 2 by omega, cont_text (by rw [List.length_drop, str_len]; omega), List.drop_drop]
  · left
    have e2 : (s.data.toList.drop (i + R)).head? = none := by
      rw [List.drop_eq_nil_of_le (by rw [str_len]; omega)]
      rfl
    rw [e2, if_neg (by simp)] at hsh
    exact ⟨by omega, hsh⟩
/-- One byte of the run up to a quote. -/
theorem isQ_int (c : UInt8) : isQ c = (!((c.toNat : Int) == 34) && !((c.toNat : Int) == 10)) := by
  unfold isQ
  simp only [eqb]
  congr 2
  all_goals (rw [decide_eq_decide]; omega)
theorem pB_next (s : ByteArray) {j : Nat} (hj : j < s.size) (lo : Nat) : pB lo (s.data.toList.drop j) = (okB lo s[j] && pB lo (s.data.toList.drop (j + 1))) := by
  rw [at_drop s hj]
  rfl
theorem isQ_mem {s : ByteArray} (h : ∀ c ∈ s.data.toList, isQ c = true) {j : Nat} (hj : j < s.size) : isQ s[j] = true := by
  have := h (s.data.toList[j]'(by rw [str_len]; exact hj)) (List.getElem_mem _)
  exact this
set_option maxRecDepth 100000 in
set_option maxHeartbeats 8000000 in
theorem rquoted_any (a0 : Option Addr) (n0 cap : Nat) (s : ByteArray) (hs : s.size ≤ 1048576) (i : Nat) (hi : i < s.size) (h34 : s[i].toNat = 34) (w : World) (hS : Bs w a0 n0 cap s) :
    Calls Tryz.prog 57 #[.slice a0 n0 cap, .int .i64 (i : Nat)] w fun e w' => TkA w w' e (s.data.toList.drop i) i := by
  have hn0 := hS.hn
  subst hn0
  have Z0 := Lib.hid hs
  obtain ⟨b, off, rfl, _⟩ := hS.at hi
  obtain ⟨R, hR⟩ : ∃ R, 1 + run isQ (s.data.toList.drop (i + 1)) = R := ⟨_, rfl⟩
  have QF := Lib.hid (quote_facts s hi h34 hR)
  have hRs := Lib.hid (show i + R ≤ s.size by have := run_size isQ s (i := i + 1) (by omega); omega)
  have hR1 := Lib.hid (show 1 ≤ R by omega)
  replace hR := Lib.hid hR
  have V0 := Lib.hid (tk.Ww.new w ⟨0, ⟨#[]⟩, 0⟩ 39)
  have B0 := Lib.hid (balloc (b0 w) (.cells #[.int .i64 0, .string ⟨#[]⟩, .int .i64 0] 39))
  have S0 := Lib.hid (hS.keeps B0.out)
  clear hS hs h34
  replace hi := Lib.hid hi
  go_enter Tryz.func57, Tryz.ntmps57
  go_wp2_with fail
  go_loopw [7] (fun x wr => ∃ j : Nat, x = .int .i64 (j : Nat) ∧ Hid (1 ≤ j ∧ i + j ≤ s.size) ∧ Hid (j + run isQ (s.data.toList.drop (i + j)) = R) ∧ wr = w.alloc (.cells #[.int .i64 0, .string ⟨#[]⟩, .int .i64 0] 39)) (fun x _ => s.size - (intOf x).toNat)
  case atStart => exact ⟨1, rfl, Lib.hid ⟨by omega, hi.out⟩, Lib.hid hR.out, rfl⟩
  case round =>
    obtain ⟨j, rfl, hj, hr, rfl⟩ := hrel
    have V := V0.out
    obtain ⟨⟨c0, c1, c2⟩, g0, g1, g2⟩ := id V
    have f1 : wrap64 ((i : Int) + (j : Int)) = ((i + j : Nat) : Int) := by have := Z0.out; have := hj.out; unfold wrap64; omega
    by_cases hc : i + j < s.size
    · have q2 : decide (((i + j : Nat) : Int) < (s.size : Int)) = true := decide_eq_true (by omega)
      have q3 : i + j < s.size := hc
      have hjs : j < s.size := by omega
      have f4 := Lib.hid (next_at (j := j) (by have := Z0.out; omega))
      obtain ⟨b', off', hab, hB⟩ := S0.out.at hc
      cases hab
      obtain ⟨x, hx⟩ : ∃ x, ((s[i + j].toNat : Nat) : Int) = x := ⟨_, rfl⟩
      have hst := run_drop isQ s hc
      have hr2 := hr.out
      have hq := isQ_int s[i + j]
      rw [hst] at hr2
      rw [hx] at hB hq
      by_cases hcq : isQ s[i + j] = true
      · rw [if_pos hcq] at hr2
        rw [hcq] at hq
        have e1 : (x != 34) = true := by rw [bne]; cases h : (x == 34); rfl; rw [h] at hq; cases hq
        have e2 : (x != 10) = true := by rw [bne]; cases h : (x == 10); rfl; rw [h] at hq; cases h2 : (x == 34) <;> rw [h2] at hq <;> cases hq
        have hn := Lib.hid (show j + 1 + run isQ (s.data.toList.drop (i + (j + 1))) = R by rw [← hr2, Nat.add_assoc i j 1]; omega)
        have hj2 := Lib.hid (show 1 ≤ j + 1 ∧ i + (j + 1) ≤ s.size by omega)
        clear hst hr2 hq hcq hr hx hj QF V c0 c1 c2 g0 g1 g2 V0
        go_wp2_with fail
        exact ⟨⟨j + 1, by first | exact congrArg (Value.int .i64) f4.out | rfl, hj2, hn, trivial⟩, by first | exact less_at hjs f4.out | exact less_dn2 hjs⟩
      · rw [if_neg hcq] at hr2
        obtain rfl : j = R := by omega
        rcases QF.out with ⟨h1, _⟩ | ⟨_, ⟨h10, hsh⟩ | ⟨h34, hsh, hT, hTq, hco⟩⟩
        · omega
        · obtain rfl : x = 10 := by rw [← hx, h10]; rfl
          have q4 : ((((i + j : Nat) : Int)) == (s.size : Int)) = false := by rw [beq_eq_false_iff_ne]; omega
          replace hsh := Lib.hid hsh
          clear hst hr2 hq hcq hr hx hj QF h10 hR hRs hR1
          go_wp2_with fail
          simp [bodyPost, results, Tryz.results57, go_sem]
          exact TkA.mk (m := 0) hsh.out (by rw [if_pos rfl]) (flt_zero _) ⟨0, ⟨#[]⟩, 0⟩ rfl (fun h => by cases h) (balloc (b0 w) _)
        · obtain rfl : x = 34 := by rw [← hx, h34]; rfl
          have q4 : ((((i + j : Nat) : Int)) == (s.size : Int)) = false := by rw [beq_eq_false_iff_ne]; omega
          have hj1 := hj.out.1
          have hij : i + 1 + (j - 1) = i + j := by clear f1; omega
          obtain ⟨a2, c3, SL0, hcut⟩ := S0.out.cut (i := i + 1) (m := j - 1) (by rw [hij]; exact Nat.le_of_lt hc)
          rw [hij] at SL0 hcut
          have SL : ∀ W, (Instr.slice 22 (.slice (some ⟨b, off, none⟩) s.size cap) (some (.int .i64 ((i : Int) + 1))) (some (.int .i64 ((i : Int) + (j : Int)))) none).run Tryz.prog W = .ok (.slice a2 (j - 1) c3) W := SL0
          have CV := hcut.str
          clear SL0
          have f5 := next_at (j := i) (by have := Z0.out; omega)
          have f6 := next_at (j := j) (by have := Z0.out; omega)
          obtain ⟨t, ht⟩ : ∃ t, s.extract (i + 1) (i + j) = t := ⟨_, rfl⟩
          rw [ht] at CV hT hTq hco
          obtain ⟨m, hm⟩ : ∃ m, j - 1 = m := ⟨_, rfl⟩
          rw [hm] at SL CV hT
          have hfl := flt_four ((s.data.toList.drop i).take (j + 1))
          rw [hco] at hfl
          replace hsh := Lib.hid hsh
          replace hco := Lib.hid hco
          replace hTq := Lib.hid hTq
          have hts := Lib.hid (show t.size ≤ 1048576 by have := Z0.out; omega)
          have hZ1 := Lib.hid hT
          clear hst hr2 hq hcq hr hx hj QF h34 hR hRs hR1 hcut ht hm hT hj1 hij
          unfold txE at hfl
          rw [str_len] at hfl
          by_cases h64 : 64 < t.size
          · have q5 : decide (64 < (t.size : Int)) = true := decide_eq_true (by omega)
            rw [if_pos h64] at hfl
            replace hfl := Lib.hid hfl
            clear h64
            go_wp2_with fail
            simp [bodyPost, results, Tryz.results57, go_sem]
            exact TkA.mk (m := j + 1) hsh.out (by rw [if_neg (by decide)]) hfl.out ⟨0, ⟨#[]⟩, 0⟩ rfl (fun h => by cases h) (balloc (b0 w) _)
          · have q5 : decide (64 < (t.size : Int)) = false := decide_eq_false (by omega)
            rw [if_neg h64] at hfl
            replace hfl := Lib.hid hfl
            clear h64
            go_wp2_with fail
            go_loopw [9] (fun x wr => ∃ k : Nat, x = .int .i64 (k : Nat) ∧ Hid (k ≤ t.size) ∧ Hid (pB 32 t.data.toList = pB 32 (t.data.toList.drop k)) ∧ wr = w.alloc (.cells #[.int .i64 0, .string ⟨#[]⟩, .int .i64 0] 39)) (fun x _ => t.size - (intOf x).toNat)
            case atStart => exact ⟨0, rfl, Lib.hid (Nat.zero_le _), Lib.hid rfl, rfl⟩
            case round =>
              obtain ⟨k, rfl, hk, hp, rfl⟩ := hrel
              by_cases hkt : k < t.size
              · have q6 : decide ((k : Int) < (t.size : Int)) = true := decide_eq_true (by omega)
                have f7 := Lib.hid (next_at (j := k) (by have := hts.out; omega))
                have hn := pB_next t hkt 32
                have hkt2 := Lib.hid hkt
                have q7 : decide (k < t.size) = true := decide_eq_true hkt
                have three : pB 32 t.data.toList = false → Hid (flt 4 (List.take (j + 1) (List.drop i s.data.toList)) = 3) := fun h => Lib.hid (by rw [hfl.out, h]; rfl)
                rcases ok_ways (isQ_mem hTq.out hkt) with ⟨h1, a1, p1, a2, p2, a3⟩ | ⟨h1, a1, p1⟩ | ⟨h1, a1, p1, a2, p2⟩ | ⟨h1, a1, p1, a2, p2, a3⟩
                all_goals rw [h1] at hn
                · have hn2 := Lib.hid (hp.out.trans (hn.trans (Bool.true_and _)))
                  clear hn three hfl h1
                  go_wp2_with fail
                  exact ⟨⟨k + 1, congrArg (Value.int .i64) f7.out, hkt2, hn2, trivial⟩, less_at hkt2.out f7.out⟩
                all_goals (
                  replace hn := three (hp.out.trans (hn.trans (Bool.false_and _)))
                  clear three hfl h1
                  go_wp2_with fail
                  simp [bodyPost, results, Tryz.results57, go_sem]
                  rw [f6]
                  exact TkA.mk (m := j + 1) hsh.out (by rw [if_neg (by decide)]) hn.out ⟨0, ⟨#[]⟩, 0⟩ rfl (fun h => by cases h) (balloc (b0 w) _))
              · have q6 : decide ((k : Int) < (t.size : Int)) = false := decide_eq_false (by omega)
                have hz : pB 32 (t.data.toList.drop k) = true := by rw [List.drop_eq_nil_of_le (by rw [str_len]; omega)]; rfl
                have hf2 := Lib.hid (show flt 4 (List.take (j + 1) (List.drop i s.data.toList)) = 0 by rw [hfl.out, hp.out, hz]; rfl)
                have hcx := Lib.hid (show (⟨(cont 4 ((s.data.toList.drop i).take (j + 1))).toArray⟩ : ByteArray) = t by rw [hco.out])
                have q7 : decide (k < t.size) = false := decide_eq_false hkt
                clear hz hp hk
                go_wp2_with fail
                simp [bodyPost, results, Tryz.results57, go_sem]
                rw [f6]
                exact TkA.mk (m := j + 1) hsh.out (by rw [if_neg (by decide)]) hf2.out ⟨4, t, (i : Nat)⟩ rfl (fun _ => by rw [hcx.out]) (balloc (b0 w) _)
    · have q2 : decide (((i + j : Nat) : Int) < (s.size : Int)) = false := decide_eq_false (by omega)
      have q4 : ((((i + j : Nat) : Int)) == (s.size : Int)) = true := by rw [beq_iff_eq]; have := hj.out; omega
      have hz := run_out isQ s (j := i + j) (by omega)
      have hr2 := hr.out
      rw [hz] at hr2
      obtain rfl : j = R := by omega
      obtain ⟨_, hsh⟩ := QF.out.resolve_right (fun ⟨h, _⟩ => hc h)
      replace hsh := Lib.hid hsh
      clear hr hr2 hj QF hc hR hRs hR1 hz
      go_wp2_with fail
      simp [bodyPost, results, Tryz.results57, go_sem]
      exact TkA.mk (m := 0) hsh.out (by rw [if_pos rfl]) (flt_zero _) ⟨0, ⟨#[]⟩, 0⟩ rfl (fun h => by cases h) (balloc (b0 w) _)
end Go.Proofs.YtkfciilclfhabaaGreatDoor
