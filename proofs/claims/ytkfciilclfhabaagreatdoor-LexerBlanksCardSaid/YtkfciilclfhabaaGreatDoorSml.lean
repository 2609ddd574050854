/-
  Few tokens, each with a short text.
-/
import Derived.Test.YtkfciilclfhabaaGreatDoorJoi
namespace Go.Proofs.YtkfciilclfhabaaGreatDoor
open Go.RowKit dec

def smlT (x : Tk) : Bool := decide (x.t.size ≤ 300)
def sml (l : List Tk) : Bool := l.all smlT && decide (l.length ≤ 60)
theorem sml_few {l : List Tk} (h : sml l = true) : (∀ x ∈ l, x.t.size ≤ 300) ∧ l.length ≤ 60 := by
  unfold sml at h
  rw [Bool.and_eq_true, List.all_eq_true, decide_eq_true_eq] at h
  exact ⟨fun x hx => by have := h.1 x hx; unfold smlT at this; exact of_decide_eq_true this, h.2⟩
set_option maxRecDepth 100000 in
set_option maxHeartbeats 4000000 in
theorem small_any (a : Option Addr) (n cap : Nat) (l : List Tk) (w : World) (hS : tk.Sl w a n cap l) :
    Calls Tryz.prog 12 #[.slice a n cap] w fun e w' => e = .returned (.bool (sml l)) ∧ Below w.heap.size w w' := by
  have S0 := Lib.hid hS
  have hnm := Lib.hid (show n ≤ 9223372036854775807 by have := hS.hcap; have := hS.hmax; omega)
  clear hS
  go_enter Tryz.func12, Tryz.ntmps12
  go_wp2_with fail
  go_loopw [3] (fun vi wr => ∃ j : Nat, vi = .int .i64 (j : Nat) ∧ Hid (j ≤ n) ∧ Hid ((l.take j).all smlT = true) ∧ Hid (Below w.heap.size w wr)) (fun vi _ => n - (intOf vi).toNat)
  case atStart => exact ⟨0, rfl, Lib.hid (Nat.zero_le _), Lib.hid rfl, Lib.hid (b0 w)⟩
  case round =>
    obtain ⟨j, rfl, hj, hA, hb⟩ := hrel
    by_cases hc : j < n
    · have hjl := Lib.hid (show j < l.length by have := S0.out.hn; omega)
      obtain ⟨bk, off, rfl, hC⟩ := (S0.out.keeps hb.out).hat.resolve_left (by have := hjl.out; omega)
      obtain ⟨c0, c1, c2⟩ := hC j hjl.out
      have q2 : decide ((j : Int) < (n : Int)) = true := decide_eq_true (by omega)
      have q3 : j < n := hc
      have f4 := Lib.hid (next_at (j := j) (by have := hnm.out; omega))
      have hcap := S0.out.hcap
      have hst := tk.take_gt hjl.out
      have hmem := tk.gt_mem hjl.out
      have hall : (l.take (j + 1)).all smlT = smlT (tk.gt l j) := by
        rw [hst, List.all_append, hA.out]
        simp
      have hno : smlT (tk.gt l j) = false → sml l = false := by
        intro h
        have : l.all smlT = false := by
          rw [List.all_eq_false]
          exact ⟨_, hmem, by rw [h]; decide⟩
        unfold sml
        rw [this]
        rfl
      unfold smlT at hno hall
      replace hall := Lib.hid hall
      replace hno := Lib.hid hno
      clear hC hst hmem hA hc
      generalize tk.gt l j = x at *
      obtain ⟨xk, xt, xa⟩ := x
      simp only at c0 c1 c2
      by_cases h3 : xt.size ≤ 300
      · have q4 : decide (300 < (xt.size : Int)) = false := decide_eq_false (by omega)
        have hn2 := Lib.hid (hall.out.trans (decide_eq_true h3))
        clear hno hall
        go_wp2_with fail
        exact ⟨⟨j + 1, congrArg (Value.int .i64) f4.out, Lib.hid q3, hn2, hb⟩, less_at q3 f4.out⟩
      · have q4 : decide (300 < (xt.size : Int)) = true := decide_eq_true (by omega)
        have hn2 := Lib.hid (hno.out (decide_eq_false h3))
        clear hno hall
        go_wp2_with fail
        go_ret
        exact ⟨ret_bool hn2.out.symm, hb.out⟩
    · have q2 : decide ((j : Int) < (n : Int)) = false := decide_eq_false (by omega)
      have q3 : decide (j < n) = false := decide_eq_false hc
      have hl := S0.out.hn
      have hfin := Lib.hid (show decide ((n : Int) ≤ 60) = sml l by
        have := hA.out
        rw [List.take_of_length_le (by omega)] at this
        unfold sml
        rw [this, Bool.true_and, decide_eq_decide]
        omega)
      clear hc hl hj hA
      go_wp2_with fail
      go_ret
      exact ⟨ret_bool hfin.out, hb.out⟩
end Go.Proofs.YtkfciilclfhabaaGreatDoor
