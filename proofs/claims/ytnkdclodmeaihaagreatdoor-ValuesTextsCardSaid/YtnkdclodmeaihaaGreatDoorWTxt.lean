/-
  The walk of ValuesTexts.
-/
import Derived.Test.YtnkdclodmeaihaaGreatDoorRps
import Derived.Test.YtnkdclodmeaihaaGreatDoorPar
import Derived.Test.YtnkdclodmeaihaaGreatDoorShv
namespace Go.Proofs.YtnkdclodmeaihaaGreatDoor
open Go.RowKit dec

set_option maxRecDepth 100000 in
set_option maxHeartbeats 4000000 in
theorem walk_texts (t : ByteArray) (k n : Int) (s : ByteArray) (w : World) (T : Tabs w) :
    Calls Tryz.prog 3 #[.string t, .agg #[.int .i64 k, .int .i64 n, .string s]] w fun e w' => e = .returned (.bool true) ∧ Below w.heap.size w w' := by
  have b1 := balloc (b0 w) (.cells #[.int .i64 k, .int .i64 n, .string s] 23)
  have V := Vx.new w k n s 23
  replace T := T.stays b1
  have C := example_any _ T
  have S1 := Lib.hid (fun W => short_any k n s W)
  go_enter Tryz.func3, Tryz.ntmps3
  go_wp2_with fail
  refine C.mono ?_
  rintro e w1 ⟨rfl, b⟩
  replace V := V.keeps b
  replace T := T.stays b
  replace b1 := bnext b1 b
  clear b C
  obtain ⟨c0, c1, c2⟩ := id V
  by_cases ht : 300 < t.size
  · have hd : decide ((300 : Int) < (t.size : Int)) = true := decide_eq_true (by omega)
    clear S1
    go_wp2_with fail
    all_goals go_ret
    all_goals exact ⟨rfl, b1⟩
  have hd : decide ((300 : Int) < (t.size : Int)) = false := decide_eq_false (by omega)
  go_wp2_with fail
  refine (S1.out _).mono ?_
  rintro e w2 ⟨rfl, b⟩
  replace V := V.keeps b
  replace T := T.stays b
  replace b1 := bnext b1 b
  clear b c0 c1 c2 S1
  by_cases hs : s.size ≤ 300
  case neg =>
    rw [decide_eq_false hs]
    go_wp2_with fail
    go_ret
    exact ⟨rfl, b1⟩
  rw [decide_eq_true hs]
  obtain ⟨x, ec, hx⟩ : ∃ x ec, psP t.data.toList = (x, ec) := ⟨_, _, rfl⟩
  have KP := Lib.hid (fun W T => parseV_any t (by omega) W T)
  have KQ := Lib.hid (fun W => rps_any t (by omega) W)
  rw [hx] at KP KQ
  have K3 := Lib.hid (fun W T => formatV_any k n s (by omega) W T)
  have K4 := Lib.hid (fun W => rformat_any k n s (by omega) W)
  clear hs hx ht
  go_wp2_with fail
  refine (KP.out _ T).mono ?_
  rintro e w4 ⟨v, cc, rfl, hvc, b⟩
  obtain ⟨rfl, rfl⟩ : v = x ∧ cc = ec := by simpa using hvc
  replace V := V.keeps b
  replace T := T.stays b
  replace b1 := bnext b1 b
  clear b
  have b := balloc (b0 w4) (.cells #[.int .i64 v.k, .int .i64 v.n, .string v.s] 23)
  have P := Vx.new w4 v.k v.n v.s 23
  replace V := V.keeps b
  replace T := T.stays b
  replace b1 := bnext b1 b
  clear b hvc KP
  go_wp2_with fail
  refine (KQ.out _).mono ?_
  rintro e w5 ⟨v', cc', rfl, hvc, b⟩
  obtain ⟨rfl, rfl⟩ : v' = v ∧ cc' = cc := by simpa using hvc
  replace V := V.keeps b
  replace P := P.keeps b
  replace T := T.stays b
  replace b1 := bnext b1 b
  clear b
  have b := balloc (b0 w5) (.cells #[.int .i64 v'.k, .int .i64 v'.n, .string v'.s] 23)
  have Q := Vx.new w5 v'.k v'.n v'.s 23
  replace V := V.keeps b
  replace P := P.keeps b
  replace T := T.stays b
  replace b1 := bnext b1 b
  clear b hvc KQ
  go_upto_region 7 with fail
  generalize w5.alloc (.cells #[.int .i64 v'.k, .int .i64 v'.n, .string v'.s] 23) = w6 at *
  have G3 := Lib.hid (fun d os => Calls.regrown_of (P := Tryz.prog) (K3.out _ (T.stays (below_regrown w6 d os))))
  have G4 := Lib.hid (all_grown (fun W => K4.out W) w6)
  obtain ⟨c0, c1, c2⟩ := V.grown
  obtain ⟨d0, d1, d2⟩ := P.grown
  obtain ⟨e0, e1, e2⟩ := Q.grown
  generalize fm ⟨k, n, s⟩ = X at *
  clear V P Q K3 K4 T
  refine wp_region_quiet_below (by kernel_rfl) (by kernel_rfl) ?_
  repeat (quiet_step ((first | (go_at_call 9; exact G3.out _ _) | (go_at_call 10; exact G4.out _ _))))
  refine wpQuiet_nil ?_
  intro w7 hw7
  have hb := below_of hw7
  replace b1 := bnext b1 hb
  clear hw7 hb G3 G4
  go_wp2_with fail
  go_ret
  exact ⟨rfl, b1⟩
end Go.Proofs.YtnkdclodmeaihaaGreatDoor
