/-
  The reference's factor, walked.
-/
import Derived.Test.YtcndlcogainnkaaGreatDoorRfc
namespace Go.Proofs.YtcndlcogainnkaaGreatDoor
open Go.RowKit dec

set_option maxRecDepth 100000 in
set_option maxHeartbeats 4000000 in
theorem rfactor_any (s : ByteArray) (hs : s.size ≤ 140737488355328) (w : World) :
    Calls Tryz.prog 42 #[.string s] w fun e w' => e = .returned (.agg #[.string (rfac s.data.toList).1, .int .i64 (rfac s.data.toList).2]) ∧ Below w.heap.size w w' := by
  have H0 := Lib.hid hs
  generalize hR : rfac s.data.toList = R
  have HR := Lib.hid hR
  clear hR
  have BW := Lib.hid (Bw.new w (({ data := #[] } : ByteArray), 0) 37)
  have BB := Lib.hid (balloc (b0 w) (.cells #[.string { data := #[] }, .int .i64 0] 37))
  have FZ := Lib.hid (show (w.alloc (.cells #[.string { data := #[] }, .int .i64 0] 37)).frozen? ⟨w.heap.size, 0, none⟩ = false ∧ (w.alloc (.cells #[.string { data := #[] }, .int .i64 0] 37)).frozen? ⟨w.heap.size, 1, none⟩ = false from ⟨by simp [go_sem], by simp [go_sem]⟩)
  clear hs
  go_enter Tryz.func42, Tryz.ntmps42
  go_wp2_with fail
  generalize hmb : w.heap.size = mb at *
  replace hmb := Lib.hid hmb
  generalize w.alloc (.cells #[.string { data := #[] }, .int .i64 0] 37) = W at *
  go_loopw [3] (fun vi wr => ∃ j : Nat, vi = .int .i64 (j : Nat) ∧ Hid (j ≤ s.size) ∧ Hid ((94 : UInt8) ∉ s.data.toList.take j) ∧ W = wr) (fun vi _ => s.size - (intOf vi).toNat)
  case atStart => exact ⟨0, rfl, Lib.hid (Nat.zero_le _), Lib.hid (by simp), rfl⟩
  case round =>
    obtain ⟨j, rfl, hj, hd, rfl⟩ := hrel
    by_cases hc : j < s.size
    · have q2 : decide ((j : Int) < (s.size : Int)) = true := decide_eq_true (by omega)
      have f4 := Lib.hid (next_at (j := j) (by have := H0.out; omega))
      by_cases h9 : s[j] = 94
      · have hh := HR.out.symm.trans (rf_hit hc hd.out h9)
        have q5 : ((s[j].toNat : Int) != 94) = false := by rw [h9]; rfl
        have q6 : ((j : Int) == (s.size : Int)) = false := by rw [beq_eq_false_iff_ne]; omega
        have hsz := H0.out
        obtain ⟨D, hD⟩ : ∃ D, s.data.toList.drop (j + 1) = D := ⟨_, rfl⟩
        rw [hD] at hh
        have HD := Lib.hid hD
        subst hh
        clear h9 hD
        go_wp2_with fail
        go_loopw [4, 5, 6] (fun vn vm vi wr => ∃ (t i : Nat) (n : Int) (m : Bool), vn = .int .i64 n ∧ vm = .bool m ∧ vi = .int .i64 (i : Nat) ∧ Hid (i = j + 1 + t ∧ t ≤ 3 ∧ i ≤ s.size) ∧ Hid (fdig 3 D 0 false = fdig (3 - t) (s.data.toList.drop i) n m) ∧ Hid ((t = 0 → n = 0) ∧ (t = 1 → -300 ≤ n ∧ n ≤ 300) ∧ (t = 2 → -4000 ≤ n ∧ n ≤ 4000) ∧ (t = 3 → -50000 ≤ n ∧ n ≤ 50000)) ∧ W = wr) (fun _ _ vi _ => s.size - (intOf vi).toNat)
        case atStart => exact ⟨0, j + 1, 0, false, rfl, rfl, rfl, Lib.hid ⟨rfl, by omega, by omega⟩, Lib.hid (by rw [HD.out]), Lib.hid ⟨fun _ => rfl, by omega, by omega, by omega⟩, by first | rfl | trivial⟩
        case round =>
          obtain ⟨t, i, n, m, rfl, rfl, rfl, hi, hf, hbn, rfl⟩ := hrel
          have hnb : -50000 ≤ n ∧ n ≤ 50000 := by have := hbn.out; have := hi.out; omega
          by_cases hx : i < s.size ∧ t < 3
          · obtain ⟨hx1, hx2⟩ := hx
            have p1 : decide ((i : Int) < (s.size : Int)) = true := decide_eq_true (by omega)
            have p2 : decide ((i : Int) < (j : Int) + 4) = true := decide_eq_true (by have := hi.out; omega)
            have hst : fdig (3 - t) (s.data.toList.drop i) n m = if s[i] = 45 then fdig (3 - (t + 1)) (s.data.toList.drop (i + 1)) n true else fdig (3 - (t + 1)) (s.data.toList.drop (i + 1)) (10 * n + (s[i].toNat : Int) - 48) m := by
              rw [at_drop s hx1, show 3 - t = (3 - (t + 1)) + 1 by omega]
              rfl
            have hlt := s[i].toNat_lt
            by_cases h45 : s[i] = 45
            · rw [if_pos h45] at hst
              have p3 : ((s[i].toNat : Int) == 45) = true := by rw [h45]; rfl
              have hn2 := Lib.hid (hf.out.trans hst)
              have hb2 := Lib.hid (show (t + 1 = 0 → n = 0) ∧ (t + 1 = 1 → -300 ≤ n ∧ n ≤ 300) ∧ (t + 1 = 2 → -4000 ≤ n ∧ n ≤ 4000) ∧ (t + 1 = 3 → -50000 ≤ n ∧ n ≤ 50000) by have := hbn.out; omega)
              have hi2 := Lib.hid (show i + 1 = j + 1 + (t + 1) ∧ t + 1 ≤ 3 ∧ i + 1 ≤ s.size by have := hi.out; omega)
              clear h45 hst
              go_wp2_with fail
              exact ⟨⟨t + 1, i + 1, n, true, rfl, rfl, rfl, hi2, hn2, hb2, by first | rfl | trivial⟩, less_dn2 hx1⟩
            · rw [if_neg h45] at hst
              have p3 : ((s[i].toNat : Int) == 45) = false := by
                rw [beq_eq_false_iff_ne]
                intro e
                exact h45 (UInt8.toNat_inj.1 (by have : s[i].toNat = 45 := by omega
                                                 rw [this]; rfl))
              have hn2 := Lib.hid (hf.out.trans hst)
              have hb2 := Lib.hid (show (t + 1 = 0 → 10 * n + (s[i].toNat : Int) - 48 = 0) ∧ (t + 1 = 1 → -300 ≤ 10 * n + (s[i].toNat : Int) - 48 ∧ 10 * n + (s[i].toNat : Int) - 48 ≤ 300) ∧ (t + 1 = 2 → -4000 ≤ 10 * n + (s[i].toNat : Int) - 48 ∧ 10 * n + (s[i].toNat : Int) - 48 ≤ 4000) ∧ (t + 1 = 3 → -50000 ≤ 10 * n + (s[i].toNat : Int) - 48 ∧ 10 * n + (s[i].toNat : Int) - 48 ≤ 50000) by have := hbn.out; omega)
              have hi2 := Lib.hid (show i + 1 = j + 1 + (t + 1) ∧ t + 1 ≤ 3 ∧ i + 1 ≤ s.size by have := hi.out; omega)
              clear h45 hst
              go_wp2_with fail
              exact ⟨⟨t + 1, i + 1, 10 * n + (s[i].toNat : Int) - 48, m, by first | rfl | (congr 1; omega), rfl, rfl, hi2, hn2, hb2, by first | rfl | trivial⟩, less_dn2 hx1⟩
          · have hend : fdv D = if m = true then -n else n := by
              unfold fdv
              rw [hf.out]
              have : fdig (3 - t) (s.data.toList.drop i) n m = (n, m) := by
                rcases Nat.lt_or_ge t 3 with h3 | h3
                · rw [List.drop_eq_nil_of_le (by rw [str_len]; omega), show 3 - t = (3 - (t + 1)) + 1 by omega]
                  rfl
                · rw [show 3 - t = 0 by omega]
                  rfl
              rw [this]
            have e0 := BW.out.c0
            have e1 := BW.out.c1
            have e2 := FZ.out.1
            have e3 := FZ.out.2
            have HE := Lib.hid hend
            have hjs : j ≤ s.size := by omega
            have MB := Lib.hid (Nat.le_of_eq hmb.out)
            clear hend
            by_cases hx1 : i < s.size
            · have p1 : decide ((i : Int) < (s.size : Int)) = true := decide_eq_true (by omega)
              have p2 : decide ((i : Int) < (j : Int) + 4) = false := decide_eq_false (by have := hi.out; omega)
              cases m
              · rw [if_neg (by decide)] at HE
                go_wp2_with fail
                have r2 := dec.read2 e0 e1 (.string (s.extract 0 j)) (.int .i64 (n))
                have r20 := r2.1
                have r21 := r2.2
                exact bodyPost_ret (v := .agg #[.string (s.extract 0 j), .int .i64 (n)]) (by simp [results, Tryz.results42, go_sem, r20, r21]) rfl ⟨by rw [HE.out], hmb.out ▸ store2 BB.out (Nat.le_refl _) _ _⟩
              · rw [if_pos rfl] at HE
                go_wp2_with fail
                have r2 := dec.read2 e0 e1 (.string (s.extract 0 j)) (.int .i64 (-n))
                have r20 := r2.1
                have r21 := r2.2
                exact bodyPost_ret (v := .agg #[.string (s.extract 0 j), .int .i64 (-n)]) (by simp [results, Tryz.results42, go_sem, r20, r21]) rfl ⟨by rw [HE.out], hmb.out ▸ store2 BB.out (Nat.le_refl _) _ _⟩
            · have p1 : decide ((i : Int) < (s.size : Int)) = false := decide_eq_false (by omega)
              cases m
              · rw [if_neg (by decide)] at HE
                go_wp2_with fail
                have r2 := dec.read2 e0 e1 (.string (s.extract 0 j)) (.int .i64 (n))
                have r20 := r2.1
                have r21 := r2.2
                exact bodyPost_ret (v := .agg #[.string (s.extract 0 j), .int .i64 (n)]) (by simp [results, Tryz.results42, go_sem, r20, r21]) rfl ⟨by rw [HE.out], hmb.out ▸ store2 BB.out (Nat.le_refl _) _ _⟩
              · rw [if_pos rfl] at HE
                go_wp2_with fail
                have r2 := dec.read2 e0 e1 (.string (s.extract 0 j)) (.int .i64 (-n))
                have r20 := r2.1
                have r21 := r2.2
                exact bodyPost_ret (v := .agg #[.string (s.extract 0 j), .int .i64 (-n)]) (by simp [results, Tryz.results42, go_sem, r20, r21]) rfl ⟨by rw [HE.out], hmb.out ▸ store2 BB.out (Nat.le_refl _) _ _⟩
      · have hn := Lib.hid (rf_next hc hd.out h9)
        have q5 : ((s[j].toNat : Int) != 94) = true := by
          rw [bne_iff_ne]
          intro e
          exact h9 (UInt8.toNat_inj.1 (by have : s[j].toNat = 94 := by omega
                                          rw [this]; rfl))
        clear h9
        go_wp2_with fail
        all_goals first | exact ⟨⟨j + 1, by first | exact congrArg (Value.int .i64) f4.out | rfl, Lib.hid hc, hn, trivial⟩, by first | exact less_at hc f4.out | exact less_dn2 hc⟩ | skip
    · obtain rfl : j = s.size := by have := hj.out; omega
      have hh := HR.out.symm.trans (rf_none (Nat.le_refl _) hd.out)
      subst hh
      have q2 : decide ((s.size : Int) < (s.size : Int)) = false := decide_eq_false (by omega)
      have e0 := BW.out.c0
      have e1 := BW.out.c1
      have e2 := FZ.out.1
      have e3 := FZ.out.2
      go_wp2_with fail
      have r2 := dec.read2 e0 e1 (.string s) (.int .i64 1)
      have r20 := r2.1
      have r21 := r2.2
      exact bodyPost_ret (v := .agg #[.string s, .int .i64 1]) (by simp [results, Tryz.results42, go_sem, r20, r21]) rfl ⟨rfl, hmb.out ▸ store2 BB.out (Nat.le_refl _) _ _⟩
end Go.Proofs.YtcndlcogainnkaaGreatDoor
