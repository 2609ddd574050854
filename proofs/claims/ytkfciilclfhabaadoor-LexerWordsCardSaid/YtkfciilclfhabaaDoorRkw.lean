/-
  The reference: keywords.
-/
import Derived.Test.YtkfciilclfhabaaDoorRwd
namespace Go.Proofs.YtkfciilclfhabaaDoor
open Go.RowKit dec

set_option maxRecDepth 100000 in
set_option maxHeartbeats 4000000 in
theorem rkeyword_any (s : ByteArray) (w : World) :
    Calls Tryd.prog 10 #[.string s] w fun e w' => e = .returned (.bool (kw s)) ∧ w' = w := by
  go_enter Tryd.func10, Tryd.ntmps10
  go_wp2
  all_goals go_ret
  all_goals refine ⟨ret_bool ?_, rfl⟩
  all_goals first | (rename_i h1 h2; rw [h1] at h2; cases h2; done) | (unfold kw kwL; simp [*]; done) | (exfalso; simp_all; done)

end Go.Proofs.YtkfciilclfhabaaDoor
