/-
  The walk of ValuesBytes.
-/
import Derived.Test.YtmogkinaegdioaaGreatDoorHe2
import Derived.Test.YtmogkinaegdioaaGreatDoorRrd
import Derived.Test.YtmogkinaegdioaaGreatDoorRrv
namespace Go.Proofs.YtmogkinaegdioaaGreatDoor
open Go.RowKit dec

set_option maxRecDepth 100000 in
set_option maxHeartbeats 4000000 in
theorem walk_bytes (A : Option Addr) (m c : Nat) (l : List Nat) (z : Int) (k n : Int) (s : ByteArray) (w : World) (T : Tabs w) (hA : Li w A m c l) :
    Calls Tryz.prog 5 #[.slice A m c, .int .i64 z, .agg #[.int .i64 k, .int .i64 n, .string s]] w fun e w' => e = .returned (.bool true) ∧ Below w.heap.size w w' := by
  have b1 := balloc (b0 w) (.cells #[.int .i64 k, .int .i64 n, .string s] 23)
  have V := Vx.new w k n s 23
  have X := example_any _ (T.stays b1)
  replace hA := hA.keeps b1
  have HA := Lib.hid hA
  clear hA T
  go_enter Tryz.func5, Tryz.ntmps5
  go_wp2_with fail
  refine X.mono ?_
  rintro e w1 ⟨rfl, b⟩
  replace V := V.keeps b
  replace HA := Lib.hid (HA.out.keeps b)
  replace b1 := bnext b1 b
  clear b X
  by_cases g0 : 600 < m
  · go_wp2_with fail
    go_ret
    exact ⟨rfl, b1⟩
  obtain ⟨c0, c1, c2⟩ := id V
  go_wp2_with fail
  refine (short_any k n s w1).mono ?_
  rintro e w2 ⟨rfl, b⟩
  replace V := V.keeps b
  replace HA := Lib.hid (HA.out.keeps b)
  replace b1 := bnext b1 b
  clear b c0 c1 c2
  by_cases hs : 300 < s.size
  · rw [decide_eq_false (by omega)]
    go_wp2_with fail
    go_ret
    exact ⟨rfl, b1⟩
  rw [decide_eq_true (by omega)]
  obtain ⟨x, y, ec, hx⟩ : ∃ x y ec, rV l z = (x, y, ec) := ⟨_, _, _, rfl⟩
  obtain ⟨N, hN⟩ : ∃ N, m + (enc ⟨k, n, s⟩).length = N := ⟨_, rfl⟩
  have K1 := Lib.hid (fun W hA => readV_any A m c l z W hA (by omega) x y ec hx)
  have K2 := Lib.hid (fun W hA => rread_any A m c l z W hA (by omega) x y ec hx)
  have K5 := Lib.hid (fun W hA => appendV_any A m c l k n s (by omega) W hA (by omega) N hN)
  have K6 := Lib.hid (fun W hA => rappend_any A m c l k n s (by omega) W hA (by omega) N hN)
  clear hx hN hs g0
  generalize l ++ enc ⟨k, n, s⟩ = q at *
  go_wp2_with fail
  refine (K1.out _ HA.out).mono ?_
  rintro e w4 ⟨rfl, b⟩
  have b' := balloc (b0 w4) (.cells #[.int .i64 x.k, .int .i64 x.n, .string x.s] 23)
  have P := Vx.new w4 x.k x.n x.s 23
  replace V := (V.keeps b).keeps b'
  replace HA := Lib.hid ((HA.out.keeps b).keeps b')
  replace b1 := bnext (bnext b1 b) b'
  clear b b' K1
  go_wp2_with fail
  refine (K2.out _ HA.out).mono ?_
  rintro e w5 ⟨rfl, b⟩
  have b' := balloc (b0 w5) (.cells #[.int .i64 x.k, .int .i64 x.n, .string x.s] 23)
  have R := Vx.new w5 x.k x.n x.s 23
  replace V := (V.keeps b).keeps b'
  replace P := (P.keeps b).keeps b'
  replace HA := Lib.hid ((HA.out.keeps b).keeps b')
  replace b1 := bnext (bnext b1 b) b'
  clear b b' K2
  go_upto_region 7 with fail
  generalize w5.alloc (.cells #[.int .i64 x.k, .int .i64 x.n, .string x.s] 23) = w6 at *
  replace V := V.keeps (b0 w6).drew
  replace P := P.keeps (b0 w6).drew
  replace R := R.keeps (b0 w6).drew
  have L := HA.out.keeps (b0 w6).drew
  replace b1 := b1.drew
  refine wp_region_noPanic ?_
  refine wp_region_held_drew (S := fun w' => Below w.heap.size w w' ∧ Vx w' w.heap.size k n s ∧ Vx w' w4.heap.size x.k x.n x.s ∧ Vx w' w5.heap.size x.k x.n x.s ∧ Li w' A m c l) (by kernel_rfl) ⟨b1, V, P, R, L⟩ (fun hH => ?_)
  clear V P R L b1 HA
  refine held_take (i := 0) (d := 37) (v := ?_) rfl (by kernel_rfl) (by kernel_rfl) (by kernel_rfl) rfl (fun _ _ _ h => h) rfl hH (fun w' hS => ?_) ?_
  rotate_left
  · obtain ⟨_, ⟨c0, c1, c2⟩, ⟨d0, d1, d2⟩, ⟨r0, r1, r2⟩, _⟩ := hS; go_simp; first | done | with_reducible rfl
  simp only [List.set_cons_zero, List.set_cons_succ]
  refine held_take (i := 1) (d := 38) (v := ?_) rfl (by kernel_rfl) (by kernel_rfl) (by kernel_rfl) rfl (fun _ _ _ h => h) rfl hH (fun w' hS => ?_) ?_
  rotate_left
  · obtain ⟨_, ⟨c0, c1, c2⟩, ⟨d0, d1, d2⟩, ⟨r0, r1, r2⟩, _⟩ := hS; go_simp; first | done | with_reducible rfl
  simp only [List.set_cons_zero, List.set_cons_succ]
  refine held_take (i := 2) (d := 39) (v := ?_) rfl (by kernel_rfl) (by kernel_rfl) (by kernel_rfl) rfl (fun _ _ _ h => h) rfl hH (fun w' hS => ?_) ?_
  rotate_left
  · go_simp
    first | done | with_reducible rfl
  simp only [List.set_cons_zero, List.set_cons_succ]
  refine held_take (i := 3) (d := 40) (v := ?_) rfl (by kernel_rfl) (by kernel_rfl) (by kernel_rfl) rfl (fun _ _ _ h => h) rfl hH (fun w' hS => ?_) ?_
  rotate_left
  · go_simp
    first | done | with_reducible rfl
  simp only [List.set_cons_zero, List.set_cons_succ]
  refine held_take (i := 4) (d := 41) (v := ?_) rfl (by kernel_rfl) (by kernel_rfl) (by kernel_rfl) rfl (fun _ _ _ h => h) rfl hH (fun w' hS => ?_) ?_
  rotate_left
  · go_simp
    first | done | with_reducible rfl
  simp only [List.set_cons_zero, List.set_cons_succ]
  refine held_take (i := 5) (d := 42) (v := ?_) rfl (by kernel_rfl) (by kernel_rfl) (by kernel_rfl) rfl (fun _ _ _ h => h) rfl hH (fun w' hS => ?_) ?_
  rotate_left
  · go_simp
    first | done | with_reducible rfl
  simp only [List.set_cons_zero, List.set_cons_succ]
  refine held_take (i := 6) (d := 43) (v := ?_) rfl (by kernel_rfl) (by kernel_rfl) (by kernel_rfl) rfl (fun _ _ _ h => h) rfl hH (fun w' hS => ?_) ?_
  rotate_left
  · go_simp
    first | done | with_reducible rfl
  simp only [List.set_cons_zero, List.set_cons_succ]
  refine held_take (i := 7) (d := 44) (v := ?_) rfl (by kernel_rfl) (by kernel_rfl) (by kernel_rfl) rfl (fun _ _ _ h => h) rfl hH (fun w' hS => ?_) ?_
  rotate_left
  · go_simp
    first | done | with_reducible rfl
  simp only [List.set_cons_zero, List.set_cons_succ]
  refine held_take (i := 8) (d := 45) (v := ?_) rfl (by kernel_rfl) (by kernel_rfl) (by kernel_rfl) rfl (fun _ _ _ h => h) rfl hH (fun w' hS => ?_) ?_
  rotate_left
  · go_simp
    first | done | with_reducible rfl
  simp only [List.set_cons_zero, List.set_cons_succ]
  refine held_take (i := 9) (d := 46) (v := ?_) rfl (by kernel_rfl) (by kernel_rfl) (by kernel_rfl) rfl (fun _ _ _ h => h) rfl hH (fun w' hS => ?_) ?_
  rotate_left
  · go_simp
    first | done | with_reducible rfl
  simp only [List.set_cons_zero, List.set_cons_succ]
  refine held_take (i := 10) (d := 47) (v := ?_) rfl (by kernel_rfl) (by kernel_rfl) (by kernel_rfl) rfl (fun _ _ _ h => h) rfl hH (fun w' hS => ?_) ?_
  rotate_left
  · go_simp
    first | done | with_reducible rfl
  simp only [List.set_cons_zero, List.set_cons_succ]
  refine held_take (i := 11) (d := 48) (v := ?_) rfl (by kernel_rfl) (by kernel_rfl) (by kernel_rfl) rfl (fun _ _ _ h => h) rfl hH (fun w' hS => ?_) ?_
  rotate_left
  · go_simp
    first | done | with_reducible rfl
  simp only [List.set_cons_zero, List.set_cons_succ]
  refine held_take (i := 12) (d := 49) (v := ?_) rfl (by kernel_rfl) (by kernel_rfl) (by kernel_rfl) rfl (fun _ _ _ h => h) rfl hH (fun w' hS => ?_) ?_
  rotate_left
  · go_simp
    first | done | with_reducible rfl
  simp only [List.set_cons_zero, List.set_cons_succ]
  refine held_take (i := 13) (d := 50) (v := ?_) rfl (by kernel_rfl) (by kernel_rfl) (by kernel_rfl) rfl (fun _ _ _ h => h) rfl hH (fun w' hS => ?_) ?_
  rotate_left
  · go_simp
    first | done | with_reducible rfl
  simp only [List.set_cons_zero, List.set_cons_succ]
  refine held_take (i := 14) (d := 51) (v := ?_) rfl (by kernel_rfl) (by kernel_rfl) (by kernel_rfl) rfl (fun _ _ _ h => h) rfl hH (fun w' hS => ?_) ?_
  rotate_left
  · go_simp
    first | done | with_reducible rfl
  simp only [List.set_cons_zero, List.set_cons_succ]
  refine held_take (i := 15) (d := 52) (v := ?_) rfl (by kernel_rfl) (by kernel_rfl) (by kernel_rfl) rfl (fun _ _ _ h => h) rfl hH (fun w' hS => ?_) ?_
  rotate_left
  · obtain ⟨_, ⟨c0, c1, c2⟩, ⟨d0, d1, d2⟩, ⟨r0, r1, r2⟩, _⟩ := hS; go_simp; first | done | with_reducible rfl
  simp only [List.set_cons_zero, List.set_cons_succ]
  refine held_take (i := 18) (d := 55) (v := ?_) rfl (by kernel_rfl) (by kernel_rfl) (by kernel_rfl) rfl (fun _ _ _ h => h) rfl hH (fun w' hS => ?_) ?_
  rotate_left
  · go_simp
    first | done | with_reducible rfl
  simp only [List.set_cons_zero, List.set_cons_succ]
  refine held_take (i := 19) (d := 56) (v := ?_) rfl (by kernel_rfl) (by kernel_rfl) (by kernel_rfl) rfl (fun _ _ _ h => h) rfl hH (fun w' hS => ?_) ?_
  rotate_left
  · obtain ⟨_, ⟨c0, c1, c2⟩, ⟨d0, d1, d2⟩, ⟨r0, r1, r2⟩, _⟩ := hS; go_simp; first | done | with_reducible rfl
  simp only [List.set_cons_zero, List.set_cons_succ]
  refine held_only (i := 16) rfl (by kernel_rfl) rfl (fun K hK => ?_)
  go_simp
  refine (K5.out _ hH.2.2.2.2).mono ?_
  rintro e w8 ⟨a9, c9, rfl, L9, b⟩
  have b9 : Below w.heap.size w w8 := bnext hH.1 b
  have h1 := hH.2.1.keeps b
  have h2 := hH.2.2.1.keeps b
  have h3 := hH.2.2.2.1.keeps b
  have h4 := hH.2.2.2.2.keeps b
  clear hH b
  refine hK.out _ _ ⟨b9, h1, h2, h3, h4⟩ (fun hH => ?_)
  clear hK K
  refine held_with L9 hH (fun hH => ?_)
  clear b9 h1 h2 h3 h4 L9
  refine held_take (i := 17) (d := 54) (v := ?_) rfl (by kernel_rfl) (by kernel_rfl) (by kernel_rfl) rfl (fun _ _ _ h => h) rfl hH (fun w' hS => ?_) ?_
  rotate_left
  · have h0 := run_str hS.2.hat _ c9 hS.2.hn; go_simp; with_reducible rfl
  simp only [List.set_cons_zero, List.set_cons_succ]
  refine held_only (i := 20) rfl (by kernel_rfl) rfl (fun K hK => ?_)
  go_simp
  refine (K6.out _ hH.1.2.2.2.2).mono ?_
  rintro e w9 ⟨a8, c8, rfl, L8, b⟩
  have b9 : Below w.heap.size w w9 := bnext hH.1.1 b
  have h1 := hH.1.2.1.keeps b
  have h2 := hH.1.2.2.1.keeps b
  have h3 := hH.1.2.2.2.1.keeps b
  have h4 := hH.1.2.2.2.2.keeps b
  have h5 := hH.2.keeps b
  clear hH b
  refine hK.out _ _ ⟨⟨b9, h1, h2, h3, h4⟩, h5⟩ (fun hH => ?_)
  clear hK K
  refine held_only (i := 21) rfl (by kernel_rfl) rfl (fun K hK => ?_)
  have h0 := run_str L8.hat _ c8 L8.hn
  go_simp
  refine hK.out _ _ ⟨⟨b9, h1, h2, h3, h4⟩, h5⟩ (fun hH => ?_)
  clear hK K h0
  refine held_take (i := 22) (d := 59) (v := ?_) rfl (by kernel_rfl) (by kernel_rfl) (by kernel_rfl) rfl (fun _ _ _ h => h) rfl hH (fun w' hS => ?_) ?_
  rotate_left
  · go_simp
    first | done | with_reducible rfl
  simp only [List.set_cons_zero, List.set_cons_succ]
  refine held_take (i := 23) (d := 60) (v := ?_) rfl (by kernel_rfl) (by kernel_rfl) (by kernel_rfl) rfl (fun _ _ _ h => h) rfl hH (fun w' hS => ?_) ?_
  rotate_left
  · go_simp
    first | done | with_reducible rfl
  simp only [List.set_cons_zero, List.set_cons_succ]
  refine held_take (i := 24) (d := 6) (v := ?_) rfl (by kernel_rfl) (by kernel_rfl) (by kernel_rfl) rfl (fun _ _ _ h => h) rfl hH (fun w' hS => ?_) ?_
  rotate_left
  · go_simp
    first | done | with_reducible rfl
  simp only [List.set_cons_zero, List.set_cons_succ]
  refine wpAnyH_done (by kernel_rfl) ?_ _
  refine noPanic_of ?_
  go_wp2_with fail
  go_ret
  exact ⟨rfl, b9⟩

end Go.Proofs.YtmogkinaegdioaaGreatDoor
