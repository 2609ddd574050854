/-
  units.Same, slices.Equal, the reference's Same: whether two lists are equal.
-/
import Derived.Test.YtcndlcogainnkaaGreatDoorSml
namespace Go.Proofs.YtcndlcogainnkaaGreatDoor
open Go.RowKit dec

def sameB (l r : List Fa) : Bool := decide (l = r)
theorem same_len {l r : List Fa} (h : l.length ≠ r.length) : sameB l r = false := decide_eq_false fun e => h (by rw [e])
theorem same_end {l r : List Fa} {j : Nat} (h1 : l.length ≤ j) (h2 : r.length ≤ j) (h : l.take j = r.take j) : sameB l r = true := by
  rw [List.take_of_length_le h1, List.take_of_length_le h2] at h
  exact decide_eq_true h
theorem same_next {l r : List Fa} {j : Nat} (h1 : j < l.length) (h2 : j < r.length) (h : l.take j = r.take j) (e1 : (gt l j).1 = (gt r j).1) (e2 : (gt l j).2 = (gt r j).2) : l.take (j + 1) = r.take (j + 1) := by
  rw [take_gt h1, take_gt h2, h, Prod.ext e1 e2]
theorem same_no {l r : List Fa} {j : Nat} (h : gt l j ≠ gt r j) : sameB l r = false := decide_eq_false fun e => h (by rw [e])
theorem bs_eq (a b : ByteArray) : (a.toList == b.toList) = decide (a = b) := by
  by_cases h : a = b
  · rw [h]; simp
  · rw [decide_eq_false h]
    exact beq_eq_false_iff_ne.2 fun e => h (toList_inj e)
set_option maxHeartbeats 1000000 in
theorem equal_any (a : Option Addr) (n cap : Nat) (b : Option Addr) (m cap2 : Nat) (l r : List Fa) (w : World) (hA : Sl w a n cap l) (hB : Sl w b m cap2 r) :
    Calls Tryz.prog 40 #[.slice a n cap, .slice b m cap2] w fun e w' => e = .returned (.bool (sameB l r)) ∧ Below w.heap.size w w' := by
  have h1 := Lib.hid hA
  have h2 := Lib.hid hB
  clear hA hB
  by_cases hnm : n = m
  · subst hnm
    have qn : ((n : Int) != (n : Int)) = false := by simp
    go_enter Tryz.func40, Tryz.ntmps40
    go_wp2_with fail
    go_loopw [13] (fun i wr => ∃ j : Nat, i = .int .i64 (j : Nat) ∧ Hid (j ≤ n) ∧ Hid (l.take j = r.take j) ∧ Below w.heap.size w wr) (fun i _ => n - (intOf i).toNat)
    case atStart => exact ⟨0, rfl, Lib.hid (Nat.zero_le _), Lib.hid rfl, b0 w⟩
    case round =>
      obtain ⟨j, rfl, hj, ht, hb⟩ := hrel
      by_cases hlt : j < n
      · have q1 : decide ((j : Int) < (n : Int)) = true := decide_eq_true (by omega)
        obtain ⟨A1, hn, hc, hm, _⟩ := h1.out.keeps hb
        obtain ⟨B1, hn2, hc2, hm2, _⟩ := h2.out.keeps hb
        obtain ⟨bk, off, rfl, hC⟩ := A1.resolve_left (by omega)
        obtain ⟨bk2, off2, rfl, hD⟩ := B1.resolve_left (by omega)
        obtain ⟨c0, c1⟩ := hC j (by omega)
        obtain ⟨d0, d1⟩ := hD j (by omega)
        have f4 := Lib.hid (next_at (j := j) (by omega))
        have hN := Lib.hid (fun e1 e2 => same_next (l := l) (r := r) (j := j) (by omega) (by omega) ht.out e1 e2)
        have hX := Lib.hid (fun h => same_no (l := l) (r := r) (j := j) h)
        have hbh := Lib.hid hb
        clear hC hD A1 B1 h1 h2 ht hj hc hm hc2 hm2 hn hn2 hb
        generalize gt l j = x at *
        generalize gt r j = y at *
        by_cases p1 : x.1.toList = y.1.toList
        · by_cases p2 : x.2 = y.2
          · have hT := Lib.hid (hN.out (toList_inj p1) p2)
            clear hN hX
            go_wp2_with fail
            go_region
            go_wp2_with fail
            refine ⟨⟨j + 1, congrArg (Value.int .i64) f4.out, Lib.hid hlt, hT, hbh.out.drew⟩, less_at hlt f4.out⟩
          · have hT := Lib.hid (hX.out fun e => p2 (by rw [e]))
            clear hN hX
            go_wp2_with fail
            go_region
            go_wp2_with fail
            go_ret
            exact ⟨ret_bool hT.out.symm, hbh.out.drew⟩
        · have hT := Lib.hid (hX.out fun e => p1 (by rw [e]))
          clear hN hX
          go_wp2_with fail
          go_region
          go_wp2_with fail
          go_ret
          exact ⟨ret_bool hT.out.symm, hbh.out.drew⟩
      · have q1 : decide ((j : Int) < (n : Int)) = false := decide_eq_false (by omega)
        have hr := same_end (by have := h1.out.hn; omega) (by have := h2.out.hn; omega) ht.out
        go_wp2_with fail
        go_ret
        exact ⟨ret_bool hr.symm, hb⟩
  · have hl := same_len (l := l) (r := r) (by rw [h1.out.hn, h2.out.hn]; exact hnm)
    have qn : ((n : Int) != (m : Int)) = true := by rw [bne_iff_ne]; omega
    clear h1 h2
    rw [hl]
    go_enter Tryz.func40, Tryz.ntmps40
    go_wp2_with fail
    go_ret
    exact ⟨rfl, b0 w⟩
set_option maxHeartbeats 1000000 in
theorem rsame_any (a : Option Addr) (n cap : Nat) (b : Option Addr) (m cap2 : Nat) (l r : List Fa) (w : World) (hA : Sl w a n cap l) (hB : Sl w b m cap2 r) :
    Calls Tryz.prog 15 #[.slice a n cap, .slice b m cap2] w fun e w' => e = .returned (.bool (sameB l r)) ∧ Below w.heap.size w w' := by
  have h1 := Lib.hid hA
  have h2 := Lib.hid hB
  clear hA hB
  by_cases hnm : n = m
  · subst hnm
    have qn : ((n : Int) != (n : Int)) = false := by simp
    go_enter Tryz.func15, Tryz.ntmps15
    go_wp2_with fail
    go_loopw [5] (fun i wr => ∃ j : Nat, i = .int .i64 (j : Nat) ∧ Hid (j ≤ n) ∧ Hid (l.take j = r.take j) ∧ Below w.heap.size w wr) (fun i _ => n - (intOf i).toNat)
    case atStart => exact ⟨0, rfl, Lib.hid (Nat.zero_le _), Lib.hid rfl, b0 w⟩
    case round =>
      obtain ⟨j, rfl, hj, ht, hb⟩ := hrel
      by_cases hlt : j < n
      · have q1 : decide ((j : Int) < (n : Int)) = true := decide_eq_true (by omega)
        obtain ⟨A1, hn, hc, hm, _⟩ := h1.out.keeps hb
        obtain ⟨B1, hn2, hc2, hm2, _⟩ := h2.out.keeps hb
        obtain ⟨bk, off, rfl, hC⟩ := A1.resolve_left (by omega)
        obtain ⟨bk2, off2, rfl, hD⟩ := B1.resolve_left (by omega)
        obtain ⟨c0, c1⟩ := hC j (by omega)
        obtain ⟨d0, d1⟩ := hD j (by omega)
        have f4 := Lib.hid (next_at (j := j) (by omega))
        have hN := Lib.hid (fun e1 e2 => same_next (l := l) (r := r) (j := j) (by omega) (by omega) ht.out e1 e2)
        have hX := Lib.hid (fun h => same_no (l := l) (r := r) (j := j) h)
        have hbh := Lib.hid hb
        clear hC hD A1 B1 h1 h2 ht hj hc hm hc2 hm2 hn hn2 hb
        generalize gt l j = x at *
        generalize gt r j = y at *
        by_cases p1 : x.1.toList = y.1.toList
        · by_cases p2 : x.2 = y.2
          · have hT := Lib.hid (hN.out (toList_inj p1) p2)
            clear hN hX
            go_wp2_with fail
            go_region
            go_wp2_with fail
            refine ⟨⟨j + 1, congrArg (Value.int .i64) f4.out, Lib.hid hlt, hT, hbh.out.drew⟩, less_at hlt f4.out⟩
          · have hT := Lib.hid (hX.out fun e => p2 (by rw [e]))
            clear hN hX
            go_wp2_with fail
            go_region
            go_wp2_with fail
            go_ret
            exact ⟨ret_bool hT.out.symm, hbh.out.drew⟩
        · have hT := Lib.hid (hX.out fun e => p1 (by rw [e]))
          clear hN hX
          go_wp2_with fail
          go_region
          go_wp2_with fail
          go_ret
          exact ⟨ret_bool hT.out.symm, hbh.out.drew⟩
      · have q1 : decide ((j : Int) < (n : Int)) = false := decide_eq_false (by omega)
        have hr := same_end (by have := h1.out.hn; omega) (by have := h2.out.hn; omega) ht.out
        go_wp2_with fail
        go_ret
        exact ⟨ret_bool hr.symm, hb⟩
  · have hl := same_len (l := l) (r := r) (by rw [h1.out.hn, h2.out.hn]; exact hnm)
    have qn : ((n : Int) != (m : Int)) = true := by rw [bne_iff_ne]; omega
    clear h1 h2
    rw [hl]
    go_enter Tryz.func15, Tryz.ntmps15
    go_wp2_with fail
    go_ret
    exact ⟨rfl, b0 w⟩
theorem same_any (a : Option Addr) (n cap : Nat) (b : Option Addr) (m cap2 : Nat) (l r : List Fa) (w : World) (hA : Sl w a n cap l) (hB : Sl w b m cap2 r) :
    Calls Tryz.prog 20 #[.slice a n cap, .slice b m cap2] w fun e w' => e = .returned (.bool (sameB l r)) ∧ Below w.heap.size w w' := by
  have C := Lib.hid (equal_any a n cap b m cap2 l r w hA hB)
  clear hA hB
  go_enter Tryz.func20, Tryz.ntmps20
  go_wp2_with fail
  refine C.out.mono ?_
  rintro e w1 ⟨rfl, b1⟩
  go_wp2_with fail
  go_ret
  exact ⟨rfl, b1⟩
end Go.Proofs.YtcndlcogainnkaaGreatDoor
