/-
  Keywords and names.
-/
import Derived.Test.YtkfciilclfhabaaGreatDoorTok
namespace Go.Proofs.YtkfciilclfhabaaGreatDoor
open Go.RowKit dec

/-- The keywords. -/
def kwL : List (List UInt8) := [[116, 97, 98, 108, 101], [102, 101, 97, 116, 117, 114, 101], [111, 102], [107, 101, 101, 112], [98, 111, 111, 108], [116, 101, 120, 116], [107, 101, 121], [105, 110, 116], [100, 101, 99], [105, 102], [116, 104, 101, 110], [101, 108, 115, 101], [100, 101, 102, 97, 117, 108, 116], [111, 114], [97, 110, 100], [110, 111, 116], [116, 114, 117, 101], [102, 97, 108, 115, 101], [110, 117, 108, 108], [99, 111, 117, 110, 116], [115, 117, 109], [109, 101, 97, 110], [109, 105, 110], [109, 97, 120], [102, 105, 114, 115, 116], [108, 97, 115, 116], [100, 105, 115, 116, 105, 110, 99, 116], [113, 117, 97, 110, 116, 105, 108, 101], [100, 101, 99, 97, 121], [97, 108, 108], [115, 108, 105, 100, 105, 110, 103], [116, 117, 109, 98, 108, 105, 110, 103], [115, 101, 115, 115, 105, 111, 110], [119, 104, 101, 114, 101]]
def kw (s : ByteArray) : Bool := kwL.any fun l => s.toList == l
set_option maxRecDepth 100000 in
set_option maxHeartbeats 4000000 in
theorem keyword_any (s : ByteArray) (w : World) :
    Calls Tryz.prog 23 #[.string s] w fun e w' => e = .returned (.bool (kw s)) ∧ w' = w := by
  go_enter Tryz.func23, Tryz.ntmps23
  go_wp2
  all_goals go_ret
  all_goals refine ⟨ret_bool ?_, rfl⟩
  all_goals first | (rename_i h1 h2; rw [h1] at h2; cases h2; done) | (unfold kw kwL; simp [*]; done)
def name (s : ByteArray) : Bool := prB 1 s && !kw s
set_option maxRecDepth 100000 in
theorem name_any (s : ByteArray) (hs : s.size ≤ 1048576) (w : World) (T : Tabs w) :
    Calls Tryz.prog 24 #[.string s] w fun e w' => e = .returned (.bool (name s)) ∧ Below w.heap.size w w' := by
  have IC := Lib.hid (isToken_any 1 s hs w T)
  have KC := Lib.hid (fun W => keyword_any s W)
  have hn : Hid (name s = (prB 1 s && !kw s)) := Lib.hid rfl
  generalize prB 1 s = p at *
  generalize kw s = q at *
  clear T
  cases p
  · go_enter Tryz.func24, Tryz.ntmps24
    go_wp2_with fail
    refine IC.out.mono ?_
    rintro e w1 ⟨rfl, b1⟩
    have B1 := Lib.hid b1
    clear b1
    go_wp2_with fail
    go_ret
    exact ⟨ret_bool hn.out.symm, B1.out⟩
  · go_enter Tryz.func24, Tryz.ntmps24
    go_wp2_with fail
    refine IC.out.mono ?_
    rintro e w1 ⟨rfl, b1⟩
    have B1 := Lib.hid b1
    clear b1
    go_wp2_with fail
    refine (KC.out _).mono ?_
    rintro e w2 ⟨rfl, rfl⟩
    go_wp2_with fail
    go_ret
    exact ⟨ret_bool hn.out.symm, B1.out⟩
end Go.Proofs.YtkfciilclfhabaaGreatDoor
