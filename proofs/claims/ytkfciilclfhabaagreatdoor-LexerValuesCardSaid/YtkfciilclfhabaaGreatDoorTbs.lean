/-
  What the listed variables hold, as the walks use it; strconv.Atoi and Itoa.
-/
import Derived.Test.YtkfciilclfhabaaGreatDoorVaA
import Derived.Test.YtkfciilclfhabaaGreatDoorShelf
namespace Go.Proofs.YtkfciilclfhabaaGreatDoor
open Go.RowKit dec

/-- The table lexer.classes. -/
def clsTab : List Int := [0, 0, 0, 0, 0, 0, 0, 0, 0, 1, 2, 0, 0, 1, 0, 0, 0, 0, 0, 0, 0, 0, 0, 0, 0, 0, 0, 0, 0, 0, 0, 0, 1, 0, 7, 3, 0, 0, 0, 0, 8, 8, 8, 8, 8, 8, 0, 8, 5, 5, 5, 5, 5, 5, 5, 5, 5, 5, 8, 8, 8, 8, 0, 0, 8, 0, 0, 0, 0, 0, 0, 0, 0, 0, 0, 0, 0, 0, 0, 0, 0, 0, 0, 0, 0, 0, 0, 0, 0, 0, 0, 8, 0, 8, 8, 6, 0, 4, 4, 4, 4, 4, 4, 4, 4, 4, 4, 4, 4, 4, 4, 4, 4, 4, 4, 4, 4, 4, 4, 4, 4, 4, 4, 8, 0, 8]
/-- The tables and the two errors. -/
structure Tabs (w : World) : Prop where
  pow : Lib.TabIs Tryz.prog w "asof/decimal.powers" .i64 powTab
  ten : Lib.TabIs Tryz.prog w "internal/strconv.uint64pow10" .u64 Lib.pow10Tab
  syn : ∃ tp p, w.var? Tryz.prog "strconv.ErrSyntax" = some #[.iface tp p]
  ran : ∃ tp p, w.var? Tryz.prog "strconv.ErrRange" = some #[.iface tp p]
  cls : Lib.TabIs Tryz.prog w "asof/lexer.classes" .u8 clsTab
theorem gCls : Tryz.prog.globalNamed "asof/lexer.classes" = some 1 := by kernel_rfl
theorem gSyn : Tryz.prog.globalNamed "strconv.ErrSyntax" = some 4 := by kernel_rfl
theorem gRan : Tryz.prog.globalNamed "strconv.ErrRange" = some 5 := by kernel_rfl
theorem Tabs.stays {w w' : World} (h : Tabs w) (hb : Below w.heap.size w w') : Tabs w' := by
  obtain ⟨tp, p, h1⟩ := h.syn
  obtain ⟨tq, q, h2⟩ := h.ran
  exact ⟨tab_stays h.pow hb, tab_stays h.ten hb, ⟨tp, p, Go.Joins.var_stays gSyn h1 hb (Nat.le_refl _)⟩, ⟨tq, q, Go.Joins.var_stays gRan h2 hb (Nat.le_refl _)⟩, tab_stays h.cls hb⟩
theorem below_bytes (w : World) (e : TypeId) (s : ByteArray) : Below w.heap.size w (Lib.bytesWorld w e s) := by
  refine ⟨rfl, rfl, rfl, ?_, fun j hj => Lib.bytesWorld_at_old w e s j hj⟩
  rw [Lib.bytesWorld_size]
  omega
theorem atoi_any (s : ByteArray) (hs : s.size ≤ 1048576) (w : World) (T : Tabs w) :
    Calls Tryz.prog 52 #[.string s] w fun e w' => ∃ x, e = .returned (.tuple #[.int .i64 (atoiN s.data.toList), x]) ∧ Below w.heap.size w w' := by
  unfold atoiN
  rcases h : Lib.atoiAll s.data.toList with v | _ | _
  · refine (Tryz.strconv_Atoi_ok s (by omega) v h w).mono ?_
    rintro e w' ⟨rfl, rfl | ⟨t, rfl⟩⟩
    · exact ⟨_, rfl, b0 _⟩
    · exact ⟨_, rfl, below_bytes _ _ _⟩
  · obtain ⟨tp, p, h1⟩ := T.syn
    refine (Tryz.strconv_Atoi_syntax_var s (by omega) h tp p w h1).mono ?_
    rintro e w' ⟨N, rfl, h2⟩
    exact ⟨_, rfl, h2.2.2⟩
  · obtain ⟨tp, p, h1⟩ := T.ran
    refine (Tryz.strconv_Atoi_range_var s (by omega) h tp p w h1).mono ?_
    rintro e w' ⟨N, rfl, h2⟩
    exact ⟨_, rfl, h2.2.2⟩
end Go.Proofs.YtkfciilclfhabaaGreatDoor
