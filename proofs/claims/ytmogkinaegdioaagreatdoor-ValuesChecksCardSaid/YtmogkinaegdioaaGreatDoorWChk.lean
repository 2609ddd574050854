/-
  The walk of ValuesChecks.
-/
import Derived.Test.YtmogkinaegdioaaGreatDoorShv
namespace Go.Proofs.YtmogkinaegdioaaGreatDoor
open Go.RowKit dec

set_option maxRecDepth 100000 in
set_option maxHeartbeats 1000000 in
theorem walk_checks (k n : Int) (s : ByteArray) (t : Int) (a : Option Addr) (m c : Nat) (o : ByteArray) (w : World) (T : Tabs w) :
    Calls Tryz.prog 3 #[.agg #[.int .i64 k, .int .i64 n, .string s], .agg #[.int .i64 t, .slice a m c, .string o]] w fun e w' => e = .returned (.bool true) ∧ Below w.heap.size w w' := by
  have b1 := balloc (balloc (b0 w) (.cells #[.int .i64 k, .int .i64 n, .string s] 23)) (.cells #[.int .i64 t, .slice a m c, .string o] 26)
  have V := (Vx.new w k n s 23).past (.cells #[.int .i64 t, .slice a m c, .string o] 26)
  have U := Tx.new (w.alloc (.cells #[.int .i64 k, .int .i64 n, .string s] 23)) t a m c o 26
  rw [alloc_size] at U
  have C := example_any _ (T.stays b1)
  go_enter Tryz.func3, Tryz.ntmps3
  go_wp2_with fail
  refine C.mono ?_
  rintro e w1 ⟨rfl, b⟩
  replace V := V.keeps b
  replace U := U.keeps b
  replace b1 := bnext b1 b
  clear b C
  obtain ⟨c0, c1, c2⟩ := V
  have V : Vx w1 w.heap.size k n s := ⟨c0, c1, c2⟩
  go_wp2_with fail
  refine (short_any k n s w1).mono ?_
  rintro e w2 ⟨rfl, b⟩
  replace V := V.keeps b
  replace U := U.keeps b
  replace b1 := bnext b1 b
  clear b c0 c1 c2
  by_cases hs : s.size ≤ 300
  · have hd : decide (s.size ≤ 300) = true := decide_eq_true hs
    rw [hd]
    have K1 := Lib.hid (all_grown (check_any k n s (by omega)) w2)
    have K2 := Lib.hid (all_grown (rcheck_any k n s (by omega)) w2)
    have K3 := Lib.hid (all_grown (has_any k n s (by omega) t a m c o) w2)
    have K4 := Lib.hid (all_grown (rhas_any k n s (by omega) t a m c o) w2)
    obtain ⟨g0, g1, g2⟩ := V.grown
    obtain ⟨h0, h1, h2⟩ := U.grown
    generalize ck ⟨k, n, s⟩ = x at *
    generalize hsP ⟨k, n, s⟩ t = y at *
    clear V U hd hs
    go_wp2_with fail
    refine wp_region_quiet_below (by kernel_rfl) (by kernel_rfl) ?_
    repeat (quiet_step ((first | (go_at_call 14; exact K1.out _ _) | (go_at_call 15; exact K2.out _ _) | (go_at_call 16; exact K3.out _ _) | (go_at_call 17; exact K4.out _ _))))
    refine wpQuiet_nil ?_
    intro w5 hw5
    have hb := below_of hw5
    replace b1 := bnext b1 hb
    clear hw5 hb K1 K2 K3 K4
    go_wp2_with fail
    go_ret
    exact ⟨rfl, b1⟩
  · have hd : decide (s.size ≤ 300) = false := decide_eq_false hs
    rw [hd]
    go_wp2_with fail
    go_ret
    exact ⟨rfl, b1⟩
end Go.Proofs.YtmogkinaegdioaaGreatDoor
