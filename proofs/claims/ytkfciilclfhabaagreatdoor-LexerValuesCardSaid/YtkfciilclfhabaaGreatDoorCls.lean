/-
  The classes of bytes: package lexer's table and what it says.
-/
import Derived.Test.YtkfciilclfhabaaGreatDoorTbs
import Derived.Test.YtkfciilclfhabaaGreatDoorLv
namespace Go.Proofs.YtkfciilclfhabaaGreatDoor
open Go.RowKit dec

def cls (c : UInt8) : Int := if c.toNat < 126 then clsTab.getD c.toNat 0 else 0
theorem all_bytes {p : UInt8 → Bool} (h : (List.range 256).all (fun n => p (UInt8.ofNat n)) = true) (c : UInt8) : p c = true := by
  have := List.all_eq_true.1 h c.toNat (List.mem_range.2 c.toNat_lt)
  rwa [UInt8.ofNat_toNat] at this
/-- What the classes mean. -/
def clsOk (c : UInt8) : Bool := decide (0 ≤ cls c ∧ cls c ≤ 8) && ((decide (cls c = 1) || decide (cls c = 2)) == isB c) && (!decide (cls c = 2) == isC c) && ((decide (cls c = 4) || decide (cls c = 5) || decide (cls c = 6)) == isW c)
  && (decide (cls c = 5) == isD c) && ((!decide (cls c = 7) && !decide (cls c = 2)) == isQ c) && (decide (cls c = 4) == isL c) && (decide (cls c = 8) == isS c) && (decide (cls c = 3) == decide (c.toNat = 35)) && (decide (cls c = 7) == decide (c.toNat = 34))
theorem clsOk_all (c : UInt8) : clsOk c = true := all_bytes (by decide +kernel) c
theorem classOf_any (c : UInt8) (w : World) (T : Tabs w) : Calls Tryz.prog 49 #[.int .u8 (c.toNat : Nat)] w fun e w' => e = .returned (.int .u8 (cls c)) ∧ w' = w := by
  have hc := fun h => T.cls.cell gCls c.toNat h
  have hl : clsTab.length = 126 := rfl
  rw [hl] at hc
  clear T hl
  have hlt := c.toNat_lt
  unfold cls
  generalize c.toNat = n at *
  go_enter Tryz.func49, Tryz.ntmps49
  by_cases h : n < 126
  · have h1 := hc h
    rw [if_pos h]
    generalize clsTab.getD n 0 = x at *
    clear hc
    have q1 : decide ((n : Int) < 126) = true := decide_eq_true (by omega)
    go_wp2
    go_ret
    exact ⟨rfl, rfl⟩
  · rw [if_neg h]
    have q1 : decide ((n : Int) < 126) = false := decide_eq_false (by omega)
    clear hc
    go_wp2
    go_ret
    exact ⟨rfl, rfl⟩
end Go.Proofs.YtkfciilclfhabaaGreatDoor
