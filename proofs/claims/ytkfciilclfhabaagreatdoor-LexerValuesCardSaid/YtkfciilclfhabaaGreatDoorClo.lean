/-
  Runs of bytes: the closure that collects them; what is skipped.
-/
import Derived.Test.YtkfciilclfhabaaGreatDoorCls
import Derived.WalkMore
import Derived.ScopeJumps
namespace Go.Proofs.YtkfciilclfhabaaGreatDoor
open Go.RowKit dec

/-- The set st of classes is the predicate p. -/
def Set (st : Int) (p : UInt8 → Bool) : Prop := ∀ c, bits .and .i64 (st.fdiv (2 ^ min (cls c).toNat 64)) 1 = if p c = true then 1 else 0
def setB (st : Int) (p : UInt8 → Bool) (c : UInt8) : Bool := decide (bits .and .i64 (st.fdiv (2 ^ min (cls c).toNat 64)) 1 = if p c = true then 1 else 0)
theorem set_of {st : Int} {p : UInt8 → Bool} (h : (List.range 256).all (fun n => setB st p (UInt8.ofNat n)) = true) : Set st p := fun c => by
  have := all_bytes h c
  unfold setB at this
  exact of_decide_eq_true this
theorem set_B : Set 6 isB := set_of (by decide +kernel)
theorem set_C : Set (-5) isC := set_of (by decide +kernel)
theorem set_W : Set 112 isW := set_of (by decide +kernel)
theorem set_D : Set 32 isD := set_of (by decide +kernel)
theorem set_Q : Set (-133) isQ := set_of (by decide +kernel)
theorem shift_run (st k : Int) (hk : 0 ≤ k) (W : World) : (Op.shift .shr .i64 st .u8 k).run Tryz.prog W = .ok (.int .i64 (st.fdiv (2 ^ min k.toNat 64))) W := by
  unfold Op.shift
  rw [if_neg (by omega)]
  rfl
theorem cls_nonneg (c : UInt8) : 0 ≤ cls c := by
  have := clsOk_all c
  unfold clsOk at this
  simp only [Bool.and_eq_true, decide_eq_true_eq] at this
  omega
theorem str_len (s : ByteArray) : s.data.toList.length = s.size := by rw [Array.length_toList]; rfl
theorem at_drop (s : ByteArray) {j : Nat} (h : j < s.size) : s.data.toList.drop j = s[j] :: s.data.toList.drop (j + 1) := by
  have h' : j < s.data.toList.length := by rw [str_len]; exact h
  rw [List.drop_eq_getElem_cons h']
  rfl
theorem run_drop (p : UInt8 → Bool) (s : ByteArray) {j : Nat} (h : j < s.size) : run p (s.data.toList.drop j) = if p s[j] = true then run p (s.data.toList.drop (j + 1)) + 1 else 0 := by
  rw [at_drop s h]
  rfl
theorem run_out (p : UInt8 → Bool) (s : ByteArray) {j : Nat} (h : s.size ≤ j) : run p (s.data.toList.drop j) = 0 := by
  rw [List.drop_eq_nil_of_le (by rw [str_len]; exact h)]
  rfl
theorem less_dn2 {n d : Nat} (h : d < n) : n - (intOf (Value.int .i64 ((d : Int) + 1))).toNat < n - (intOf (Value.int .i64 (d : Int))).toNat := by
  show n - (((d : Int) + 1)).toNat < n - ((d : Nat) : Int).toNat
  omega
theorem next_at {j : Nat} (h : j < 9223372036854775807) : wrap64 ((j : Int) + 1) = ((j + 1 : Nat) : Int) := by unfold wrap64; omega
theorem less_at {n j : Nat} (h : j < n) {x : Int} (hx : x = ((j + 1 : Nat) : Int)) : n - (intOf (Value.int .i64 x)).toNat < n - (intOf (Value.int .i64 ((j : Nat) : Int))).toNat := by
  subst hx
  show n - ((j + 1 : Nat) : Int).toNat < n - ((j : Nat) : Int).toNat
  omega
theorem retN {a b : Nat} (h : a = b) : Ending.returned (Value.int .i64 (a : Nat)) = Ending.returned (Value.int .i64 (b : Nat)) := by rw [h]
/-- The closure. -/
theorem run_any {st : Int} {p : UInt8 → Bool} (hst : Set st p) (s : ByteArray) (hs : s.size ≤ 140737488355328) (i : Nat) (hi : i ≤ s.size) (b : Nat) (w : World) (hb : w.cell? ⟨b, 0, none⟩ = some (.string s)) (T : Tabs w) :
    Calls Tryz.prog 79 #[.int .i64 (i : Nat), .int .i64 st, .pointer (some ⟨b, 0, none⟩)] w fun e w' => e = .returned (.int .i64 (i + run p (s.data.toList.drop i) : Nat)) ∧ w' = w := by
  have T0 := Lib.hid T
  have H0 := Lib.hid hst
  have Z0 := Lib.hid hs
  obtain ⟨R, hR⟩ : ∃ R, i + run p (s.data.toList.drop i) = R := ⟨_, rfl⟩
  rw [hR]
  replace hR := Lib.hid hR
  replace hi := Lib.hid hi
  clear T hst hs
  go_enter Tryz.func79, Tryz.ntmps79
  go_wp2_with fail
  go_loopw [0] (fun x wr => ∃ j : Nat, x = .int .i64 (j : Nat) ∧ Hid (j ≤ s.size) ∧ Hid (j + run p (s.data.toList.drop j) = R) ∧ wr = w) (fun x _ => s.size - (intOf x).toNat)
  case atStart => exact ⟨i, rfl, hi, hR, rfl⟩
  case round =>
    obtain ⟨j, rfl, hj, hr, rfl⟩ := hrel
    by_cases hc : j < s.size
    · have q2 : decide ((j : Int) < (s.size : Int)) = true := decide_eq_true (by omega)
      have hst := run_drop p s hc
      have f4 := Lib.hid (next_at (j := j) (by have := Z0.out; omega))
      have hbit := H0.out s[j]
      have C := Lib.hid (classOf_any s[j] wr T0.out)
      have HST := Lib.hid hst
      clear hst
      have hsh := shift_run st _ (cls_nonneg s[j])
      generalize cls s[j] = k at C hbit hsh
      generalize st.fdiv (2 ^ min k.toNat 64) = x at hbit hsh
      cases hy : p s[j]
      · rw [hy] at HST hbit
        rw [if_neg (by decide)] at hbit
        have HD : Hid (j = R) := by unfold Hid; rw [← hr.out, HST.out]; rfl
        clear hy hr HST
        go_wp2_with (go_at_call 49; refine (C.out).mono ?_; rintro e w' ⟨rfl, rfl⟩)
        go_ret
        exact ⟨retN HD.out, rfl⟩
      · rw [hy] at HST hbit
        rw [if_pos rfl] at hbit
        have HD : Hid (j + 1 + run p (s.data.toList.drop (j + 1)) = R) := by unfold Hid; rw [← hr.out, HST.out, if_pos rfl]; omega
        clear hy hr HST
        go_wp2_with (go_at_call 49; refine (C.out).mono ?_; rintro e w' ⟨rfl, rfl⟩)
        refine ⟨⟨j + 1, by first | exact congrArg (Value.int .i64) f4.out | rfl, Lib.hid hc, HD, trivial⟩, by first | exact less_at hc f4.out | exact less_dn2 hc⟩
    · have hz := run_out p s (j := j) (by omega)
      have HD : Hid (j = R) := by unfold Hid; rw [← hr.out, hz, Nat.add_zero]
      have q2 : decide ((j : Int) < (s.size : Int)) = false := decide_eq_false (by omega)
      clear hz hr
      go_wp2_with fail
      go_ret
      exact ⟨retN HD.out, rfl⟩
/-- What runsOf hands back. -/
theorem runsOf_any (s : ByteArray) (w : World) : Calls Tryz.prog 48 #[.string s] w fun e w' => e = .returned (.func (.func 79) #[] #[.pointer (some ⟨w.heap.size, 0, none⟩)]) ∧ w'.cell? ⟨w.heap.size, 0, none⟩ = some (.string s) ∧ w'.heap.size = w.heap.size + 1 ∧ Below w.heap.size w w' := by
  have hb := balloc (b0 w) (.cells #[.string s] 9)
  have hc : (w.alloc (.cells #[.string s] 9)).cell? ⟨w.heap.size, 0, none⟩ = some (.string s) := by simp [go_sem]
  have hz : (w.alloc (.cells #[.string s] 9)).heap.size = w.heap.size + 1 := by simp
  go_enter Tryz.func48, Tryz.ntmps48
  go_wp2_with fail
  go_ret
  exact ⟨rfl, hc, hz, hb⟩
end Go.Proofs.YtkfciilclfhabaaGreatDoor
