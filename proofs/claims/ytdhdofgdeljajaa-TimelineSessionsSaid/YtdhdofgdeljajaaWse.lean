/-
  The walk of TimelineSessions.
-/
import Derived.Test.YtdhdofgdeljajaaRsa
namespace Go.Proofs.Ytdhdofgdeljajaa
open Go.RowKit

set_option maxRecDepth 100000 in
set_option maxHeartbeats 2000000 in
theorem walk_sessions (a : Option Addr) (n0 cap : Nat) (l : List Int) (g t : Int) (w : World) (hS : Sn w a n0 cap l) : Calls Try.prog 5 #[.slice a n0 cap, .int .i64 g, .int .i64 t] w fun e w' => e = .returned (.bool true) ∧ Below w.heap.size w w' := by
  have FC := Lib.hid (fewI_any a n0 cap w hS.hcap hS.hmax)
  have hN := fewN_le n0
  have X1 := hS.few (fewN n0) hN.2
  generalize fewN n0 = n at *
  generalize l.take n = X at *
  have hXn := X1.hn
  have SC := Lib.hid (fun w1 h1 => Sessions_any a n cap X g w1 h1 (by omega))
  have RC := Lib.hid (fun w1 h1 => rsessions_any a n cap X g w1 h1 (by omega))
  have MC := Lib.hid (fun w1 h1 => sessionAt_any a n cap X g t w1 h1 (by omega))
  have RM := Lib.hid (fun w1 h1 => rsessionAt_any a n cap X g t w1 h1 (by omega))
  have C3 := Lib.hid example_any
  generalize ses g 1099511627776 X = M at *
  generalize satV g t X = P at *
  generalize satB g t X = o at *
  obtain ⟨p, q⟩ := P
  simp only at MC RM
  replace X1 := Lib.hid X1
  have b1 := Lib.hid (b0 w)
  clear hS hN hXn
  go_enter Try.func5, Try.ntmps5
  go_wp2_with fail
  refine FC.out.mono ?_
  rintro e W' ⟨rfl, rfl⟩
  clear FC
  go_wp2_with fail
  refine (MC.out _ X1.out).mono ?_
  rintro e w1 ⟨rfl, d⟩
  replace X1 := Lib.hid (X1.out.keeps d)
  replace b1 := Lib.hid (bnext b1.out d)
  have I := Lib.hid (Bw.new w1 p q 23)
  have X2 := Lib.hid (X1.out.keeps (balloc (b0 w1) (.cells #[.int .i64 p, .int .i64 q] 23)))
  clear d MC
  go_wp2_with fail
  refine (RM.out _ X2.out).mono ?_
  rintro e w2 ⟨rfl, d⟩
  replace X1 := Lib.hid (X1.out.keeps (step_alloc d))
  replace b1 := Lib.hid (bnext b1.out (step_alloc d))
  replace I := Lib.hid (I.out.keeps d)
  clear d RM X2
  generalize w1.heap.size = r7 at *
  have J := Lib.hid (Bw.new w2 p q 23)
  replace I := Lib.hid (I.out.past (.cells #[.int .i64 p, .int .i64 q] 23))
  replace X1 := Lib.hid (X1.out.keeps (balloc (b0 w2) (.cells #[.int .i64 p, .int .i64 q] 23)))
  replace b1 := Lib.hid (balloc b1.out (.cells #[.int .i64 p, .int .i64 q] 23))
  go_wp2_with fail
  generalize w2.heap.size = r9 at *
  generalize w2.alloc (.cells #[.int .i64 p, .int .i64 q] 23) = W at *
  cases o
  · refine (C3.out _).mono ?_
    rintro e w3 ⟨rfl, d⟩
    replace X1 := Lib.hid (X1.out.keeps d)
    replace b1 := Lib.hid (bnext b1.out d)
    replace I := Lib.hid (I.out.keeps d)
    replace J := Lib.hid (J.out.keeps d)
    clear d C3
    go_wp2_with fail
    refine (SC.out _ X1.out).mono ?_
    rintro e w4 ⟨v1, rfl, O1, d⟩
    obtain ⟨a1, p1, rfl, L1⟩ := O1.sl
    replace X1 := Lib.hid (X1.out.keeps d)
    replace b1 := Lib.hid (bnext b1.out d)
    replace I := Lib.hid (I.out.keeps d)
    replace J := Lib.hid (J.out.keeps d)
    replace L1 := Lib.hid L1
    clear d SC O1
    go_wp2_with fail
    refine (RC.out _ X1.out).mono ?_
    rintro e w5 ⟨v2, rfl, O2, d⟩
    obtain ⟨a2, p2, rfl, L2⟩ := O2.sl
    replace L1 := Lib.hid (L1.out.keeps d)
    replace b1 := Lib.hid (bnext b1.out d)
    replace I := Lib.hid (I.out.keeps d)
    replace J := Lib.hid (J.out.keeps d)
    replace L2 := Lib.hid L2
    clear d RC O2 X1
    go_wp2_with fail
    refine (same_any a1 p1 a2 p2 _ _ _ L1.out L2.out).mono ?_
    rintro e w6 ⟨rfl, d⟩
    replace b1 := Lib.hid (bnext b1.out d)
    obtain ⟨i0, i1, _, _⟩ := I.out.keeps d
    obtain ⟨j0, j1, _, _⟩ := J.out.keeps d
    clear d L1 L2 I J
    go_wp2_with fail
    go_ret
    exact ⟨rfl, b1.out⟩
  · refine (C3.out _).mono ?_
    rintro e w3 ⟨rfl, d⟩
    replace X1 := Lib.hid (X1.out.keeps d)
    replace b1 := Lib.hid (bnext b1.out d)
    replace I := Lib.hid (I.out.keeps d)
    replace J := Lib.hid (J.out.keeps d)
    clear d C3
    go_wp2_with fail
    refine (SC.out _ X1.out).mono ?_
    rintro e w4 ⟨v1, rfl, O1, d⟩
    obtain ⟨a1, p1, rfl, L1⟩ := O1.sl
    replace X1 := Lib.hid (X1.out.keeps d)
    replace b1 := Lib.hid (bnext b1.out d)
    replace I := Lib.hid (I.out.keeps d)
    replace J := Lib.hid (J.out.keeps d)
    replace L1 := Lib.hid L1
    clear d SC O1
    go_wp2_with fail
    refine (RC.out _ X1.out).mono ?_
    rintro e w5 ⟨v2, rfl, O2, d⟩
    obtain ⟨a2, p2, rfl, L2⟩ := O2.sl
    replace L1 := Lib.hid (L1.out.keeps d)
    replace b1 := Lib.hid (bnext b1.out d)
    replace I := Lib.hid (I.out.keeps d)
    replace J := Lib.hid (J.out.keeps d)
    replace L2 := Lib.hid L2
    clear d RC O2 X1
    go_wp2_with fail
    refine (same_any a1 p1 a2 p2 _ _ _ L1.out L2.out).mono ?_
    rintro e w6 ⟨rfl, d⟩
    replace b1 := Lib.hid (bnext b1.out d)
    obtain ⟨i0, i1, _, _⟩ := I.out.keeps d
    obtain ⟨j0, j1, _, _⟩ := J.out.keeps d
    clear d L1 L2 I J
    go_wp2_with fail
    go_ret
    exact ⟨rfl, b1.out⟩
end Go.Proofs.Ytdhdofgdeljajaa
