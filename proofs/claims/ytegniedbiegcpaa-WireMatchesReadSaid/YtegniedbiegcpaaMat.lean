/-
  The walk of WireMatchesRead.
-/
import Derived.Test.YtegniedbiegcpaaRefQ
namespace Go.Proofs.Ytegniedbiegcpaa
open Go.RowKit

set_option maxRecDepth 100000 in
set_option maxHeartbeats 2000000 in
theorem walk_read (a : Option Addr) (n cap : Nat) (l : List Nat) (z : Int) (w : World) (hA : Li w a n cap l) :
    Calls Try.prog 4 #[.slice a n cap, .int .i64 z] w fun e w' => e = .returned (.bool true) ∧ Below w.heap.size w w' := by
  obtain ⟨v, k1, c1, hU⟩ : ∃ v k c, rU l z = (v, k, c) := ⟨_, _, _, rfl⟩
  obtain ⟨m, k2, c2, hI⟩ : ∃ v k c, rI l z = (v, k, c) := ⟨_, _, _, rfl⟩
  obtain ⟨t, k3, c3, hT⟩ : ∃ v k c, rT l z = (v, k, c) := ⟨_, _, _, rfl⟩
  have HA := Lib.hid hA
  have HU := Lib.hid hU
  have HI := Lib.hid hI
  have HT := Lib.hid hT
  clear hA hU hI hT
  have z1 : ((v : Int) != (v : Int)) = false := by simp
  have z2 : (m != m) = false := by simp
  have y1 : ((k1 : Int) != (k1 : Int)) = false := by simp
  have y2 : ((k2 : Int) != (k2 : Int)) = false := by simp
  have y3 : ((k3 : Int) != (k3 : Int)) = false := by simp
  have x1 : ((c1 : Int) != (c1 : Int)) = false := by simp
  have x2 : ((c2 : Int) != (c2 : Int)) = false := by simp
  have x3 : ((c3 : Int) != (c3 : Int)) = false := by simp
  go_enter Try.func4, Try.ntmps4
  go_wp2_with fail
  refine (example_any _).mono ?_
  rintro e w1 ⟨rfl, k⟩
  go_wp2_with fail
  refine (readU_any a n cap l z w1 (HA.out.keeps k) v k1 c1 HU.out).mono ?_
  rintro e w2 ⟨rfl, b⟩
  replace k := bnext k b
  clear b
  go_wp2_with fail
  refine (refReadU_any a n cap l z w2 (HA.out.keeps k) v k1 c1 HU.out).mono ?_
  rintro e w' ⟨rfl, rfl⟩
  go_wp2_with fail
  refine (readI_any a n cap l z w2 (HA.out.keeps k) m k2 c2 HI.out).mono ?_
  rintro e w3 ⟨rfl, b⟩
  replace k := bnext k b
  clear b
  go_wp2_with fail
  refine (refReadI_any a n cap l z w3 (HA.out.keeps k) m k2 c2 HI.out).mono ?_
  rintro e w' ⟨rfl, rfl⟩
  go_wp2_with fail
  refine (readT_any a n cap l z w3 (HA.out.keeps k) t k3 c3 HT.out).mono ?_
  rintro e w4 ⟨rfl, b⟩
  replace k := bnext k b
  clear b
  go_wp2_with fail
  refine (refReadT_any a n cap l z w4 (HA.out.keeps k) t k3 c3 HT.out).mono ?_
  rintro e w' ⟨rfl, rfl⟩
  go_wp2_with fail
  have c5 := readF_any a n cap l z w4 (HA.out.keeps k)
  have c6 := fun w h => refReadF_any a n cap l z w h
  generalize rF l z = r at *
  have C6 := Lib.hid c6
  clear c6
  cases r with
  | ok x kx =>
    refine c5.mono ?_
    rintro e w5 ⟨g, rfl, _, O5, b⟩
    replace k := bnext k b
    have A5 := O5.at
    clear c5 b O5
    go_wp2_with fail
    refine (C6.out _ (HA.out.keeps k)).mono ?_
    rintro e w6 ⟨a6, c6, rfl, L6, b⟩
    replace k := bnext k b
    replace A5 := A5.keeps b
    clear b
    have c7 := refSame_any (some ⟨g, 0, none⟩) x.length x.length x a6 x.length c6 x w6 A5 rfl L6.hat rfl
    rw [decide_eq_true rfl] at c7
    go_wp2_with fail
    refine c7.mono ?_
    rintro e w' ⟨rfl, rfl⟩
    go_wp2_with fail
    go_ret
    exact ⟨rfl, k⟩
  | err c =>
    refine c5.mono ?_
    rintro e w5 ⟨rfl, b⟩
    replace k := bnext k b
    clear c5 b
    go_wp2_with fail
    refine (C6.out _ (HA.out.keeps k)).mono ?_
    rintro e w6 ⟨rfl, b⟩
    replace k := bnext k b
    clear b
    have c7 := refSame_any none 0 0 [] none 0 0 [] w6 (AtL.nil _ _) rfl (AtL.nil _ _) rfl
    rw [decide_eq_true rfl] at c7
    go_wp2_with fail
    refine c7.mono ?_
    rintro e w' ⟨rfl, rfl⟩
    go_wp2_with fail
    go_ret
    exact ⟨rfl, k⟩

end Go.Proofs.Ytegniedbiegcpaa
