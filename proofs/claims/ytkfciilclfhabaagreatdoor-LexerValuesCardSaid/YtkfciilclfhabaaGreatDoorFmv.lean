/-
  values.Format: for every value.
-/
import Derived.Test.YtkfciilclfhabaaGreatDoorMpl
namespace Go.Proofs.YtkfciilclfhabaaGreatDoor
open Go.RowKit dec

/-- The parameter, the printer and the map, while the map is filled. -/
structure Fst (W w : World) (B P M : Nat) (k n : Int) (s : ByteArray) (vs : List Value) : Prop where
  par : Vx w B k n s
  box : Vx w P k n s
  map : Mp w M vs
  low : P < M
  lo2 : B < M
  bel : Below W.heap.size W w
  siz : W.heap.size ≤ M
theorem Fst.next {W w w' : World} {B P M : Nat} {k n : Int} {s : ByteArray} {vs vs' : List Value} (h : Fst W w B P M k n s vs) (hm : Mp w' M vs') (hb : Below M w w') : Fst W w' B P M k n s vs' := by
  have keep : ∀ {b : Nat}, b < M → Vx w b k n s → Vx w' b k n s := fun hl hv => ⟨(hb.cell hl).trans hv.1, (hb.cell hl).trans hv.2.1, (hb.cell hl).trans hv.2.2⟩
  exact ⟨keep h.lo2 h.par, keep h.low h.box, hm, h.low, h.lo2, h.bel.trans (hb.mono h.siz), h.siz⟩
theorem Fst.start {W w1 : World} {k n : Int} {s : ByteArray} (h : Vx w1 W.heap.size k n s) (hb : Below W.heap.size W w1) (T : TypeId) :
    Fst W ((w1.alloc (.cells #[.int .i64 k, .int .i64 n, .string s] T)).alloc (.map #[] 0)) W.heap.size w1.heap.size (w1.heap.size + 1) k n s [] := by
  have hl : W.heap.size < w1.heap.size := block_lt_of_cell h.1
  have hm := Mp.made (w1.alloc (.cells #[.int .i64 k, .int .i64 n, .string s] T))
  rw [show (w1.alloc (.cells #[.int .i64 k, .int .i64 n, .string s] T)).heap.size = w1.heap.size + 1 by simp] at hm
  exact ⟨(h.past _).past _, (Vx.new w1 k n s T).past _, hm, by omega, by omega, (hb.alloc hb.size _).alloc (by simp; omega) _, by omega⟩
theorem enters_pr_null (args : Array Value) (w : World) : (callFunc 37 args).run Tryz.prog w = .ok (.enter 37 args) w := by simp [go_sem]
theorem enters_pr_boolean (args : Array Value) (w : World) : (callFunc 38 args).run Tryz.prog w = .ok (.enter 38 args) w := by simp [go_sem]
theorem enters_pr_integer (args : Array Value) (w : World) : (callFunc 39 args).run Tryz.prog w = .ok (.enter 39 args) w := by simp [go_sem]
theorem enters_pr_decimal (args : Array Value) (w : World) : (callFunc 40 args).run Tryz.prog w = .ok (.enter 40 args) w := by simp [go_sem]
theorem enters_pr_text (args : Array Value) (w : World) : (callFunc 41 args).run Tryz.prog w = .ok (.enter 41 args) w := by simp [go_sem]
theorem enters_pr_key (args : Array Value) (w : World) : (callFunc 42 args).run Tryz.prog w = .ok (.enter 42 args) w := by simp [go_sem]

set_option maxRecDepth 100000 in
theorem fmt_null (n : Int) (s : ByteArray) (hs : s.size ≤ 1000) (w : World) (hc : ck ⟨0, n, s⟩ = 0)  : Calls Tryz.prog 18 #[.agg #[.int .i64 0, .int .i64 n, .string s]] w fun e w' => e = .returned (.string ⟨([110, 117, 108, 108]).toArray⟩) ∧ Below w.heap.size w w' := by
  have C1 := Lib.hid (check_any 0 n s (by omega))
  have V0 := Vx.new w 0 n s 42
  rw [hc] at C1
  clear hc
  have hmm := @run_makeMap Tryz.prog
  have C : Hid (∀ w', Below w.heap.size w w' → Calls Tryz.prog 37 #[.agg #[.int .i64 0, .int .i64 n, .string s]] w' fun e w'' => e = .returned (.string ⟨([110, 117, 108, 108]).toArray⟩) ∧ Below w'.heap.size w' w'') := Lib.hid (fun w' b => pNull 0 n s w')
  generalize ([110, 117, 108, 108]) = l at *
  have he := enters_pr_null
  go_enter Tryz.func18, Tryz.ntmps18
  go_wp2_with fail
  refine (C1.out _).mono ?_
  rintro e w1 ⟨rfl, b1⟩
  obtain ⟨c0, c1, c2⟩ := V0.keeps b1
  have V1 := V0.keeps b1
  clear V0
  replace b1 := (balloc (b0 w) _).trans (b1.mono (by simp))
  have F := Fst.start V1 b1 67
  clear V1 b1
  go_wp2_with (first
    | (refine wpList_ins _ rfl (.tmp 10) (.const (.int .i64 0)) (.tmp 12) rfl _ _ rfl F.map 0 rfl rfl (.func (.func 37) #[.agg #[.int .i64 0, .int .i64 n, .string s]] #[]) rfl ?_; intro w2 hm hb; replace F := F.next hm hb; obtain ⟨d0, d1, d2⟩ := F.box; obtain ⟨c0, c1, c2⟩ := F.par; clear hm hb)
    | (refine wpList_ins _ rfl (.tmp 10) (.const (.int .i64 1)) (.tmp 14) rfl _ _ rfl F.map 1 rfl rfl (.func (.func 38) #[.agg #[.int .i64 0, .int .i64 n, .string s]] #[]) rfl ?_; intro w2 hm hb; replace F := F.next hm hb; obtain ⟨d0, d1, d2⟩ := F.box; obtain ⟨c0, c1, c2⟩ := F.par; clear hm hb)
    | (refine wpList_ins _ rfl (.tmp 10) (.const (.int .i64 2)) (.tmp 16) rfl _ _ rfl F.map 2 rfl rfl (.func (.func 39) #[.agg #[.int .i64 0, .int .i64 n, .string s]] #[]) rfl ?_; intro w2 hm hb; replace F := F.next hm hb; obtain ⟨d0, d1, d2⟩ := F.box; obtain ⟨c0, c1, c2⟩ := F.par; clear hm hb)
    | (refine wpList_ins _ rfl (.tmp 10) (.const (.int .i64 3)) (.tmp 18) rfl _ _ rfl F.map 3 rfl rfl (.func (.func 40) #[.agg #[.int .i64 0, .int .i64 n, .string s]] #[]) rfl ?_; intro w2 hm hb; replace F := F.next hm hb; obtain ⟨d0, d1, d2⟩ := F.box; obtain ⟨c0, c1, c2⟩ := F.par; clear hm hb)
    | (refine wpList_ins _ rfl (.tmp 10) (.const (.int .i64 4)) (.tmp 20) rfl _ _ rfl F.map 4 rfl rfl (.func (.func 41) #[.agg #[.int .i64 0, .int .i64 n, .string s]] #[]) rfl ?_; intro w2 hm hb; replace F := F.next hm hb; obtain ⟨d0, d1, d2⟩ := F.box; obtain ⟨c0, c1, c2⟩ := F.par; clear hm hb)
    | (refine wpList_ins _ rfl (.tmp 10) (.const (.int .i64 5)) (.tmp 22) rfl _ _ rfl F.map 5 rfl rfl (.func (.func 42) #[.agg #[.int .i64 0, .int .i64 n, .string s]] #[]) rfl ?_; intro w2 hm hb; replace F := F.next hm hb; obtain ⟨d0, d1, d2⟩ := F.box; obtain ⟨c0, c1, c2⟩ := F.par; clear hm hb; have hl := run_look F.map 0 0 rfl (.func (.func 37) #[.agg #[.int .i64 0, .int .i64 n, .string s]] #[]) rfl))
  refine (C.out _ F.bel).mono ?_
  rintro e w3 ⟨rfl, b3⟩
  go_wp2_with fail
  go_ret
  exact ⟨rfl, bnext F.bel b3⟩

set_option maxRecDepth 100000 in
theorem fmt_boolean (n : Int) (s : ByteArray) (hs : s.size ≤ 1000) (w : World) (hc : ck ⟨1, n, s⟩ = 0)  : Calls Tryz.prog 18 #[.agg #[.int .i64 1, .int .i64 n, .string s]] w fun e w' => e = .returned (.string ⟨(Lib.formatBool (n == 1)).toArray⟩) ∧ Below w.heap.size w w' := by
  have C1 := Lib.hid (check_any 1 n s (by omega))
  have V0 := Vx.new w 1 n s 42
  rw [hc] at C1
  clear hc
  have hmm := @run_makeMap Tryz.prog
  have C : Hid (∀ w', Below w.heap.size w w' → Calls Tryz.prog 38 #[.agg #[.int .i64 1, .int .i64 n, .string s]] w' fun e w'' => e = .returned (.string ⟨(Lib.formatBool (n == 1)).toArray⟩) ∧ Below w'.heap.size w' w'') := Lib.hid (fun w' b => pBool n s 1 w')
  generalize (Lib.formatBool (n == 1)) = l at *
  have he := enters_pr_boolean
  go_enter Tryz.func18, Tryz.ntmps18
  go_wp2_with fail
  refine (C1.out _).mono ?_
  rintro e w1 ⟨rfl, b1⟩
  obtain ⟨c0, c1, c2⟩ := V0.keeps b1
  have V1 := V0.keeps b1
  clear V0
  replace b1 := (balloc (b0 w) _).trans (b1.mono (by simp))
  have F := Fst.start V1 b1 67
  clear V1 b1
  go_wp2_with (first
    | (refine wpList_ins _ rfl (.tmp 10) (.const (.int .i64 0)) (.tmp 12) rfl _ _ rfl F.map 0 rfl rfl (.func (.func 37) #[.agg #[.int .i64 1, .int .i64 n, .string s]] #[]) rfl ?_; intro w2 hm hb; replace F := F.next hm hb; obtain ⟨d0, d1, d2⟩ := F.box; obtain ⟨c0, c1, c2⟩ := F.par; clear hm hb)
    | (refine wpList_ins _ rfl (.tmp 10) (.const (.int .i64 1)) (.tmp 14) rfl _ _ rfl F.map 1 rfl rfl (.func (.func 38) #[.agg #[.int .i64 1, .int .i64 n, .string s]] #[]) rfl ?_; intro w2 hm hb; replace F := F.next hm hb; obtain ⟨d0, d1, d2⟩ := F.box; obtain ⟨c0, c1, c2⟩ := F.par; clear hm hb)
    | (refine wpList_ins _ rfl (.tmp 10) (.const (.int .i64 2)) (.tmp 16) rfl _ _ rfl F.map 2 rfl rfl (.func (.func 39) #[.agg #[.int .i64 1, .int .i64 n, .string s]] #[]) rfl ?_; intro w2 hm hb; replace F := F.next hm hb; obtain ⟨d0, d1, d2⟩ := F.box; obtain ⟨c0, c1, c2⟩ := F.par; clear hm hb)
    | (refine wpList_ins _ rfl (.tmp 10) (.const (.int .i64 3)) (.tmp 18) rfl _ _ rfl F.map 3 rfl rfl (.func (.func 40) #[.agg #[.int .i64 1, .int .i64 n, .string s]] #[]) rfl ?_; intro w2 hm hb; replace F := F.next hm hb; obtain ⟨d0, d1, d2⟩ := F.box; obtain ⟨c0, c1, c2⟩ := F.par; clear hm hb)
    | (refine wpList_ins _ rfl (.tmp 10) (.const (.int .i64 4)) (.tmp 20) rfl _ _ rfl F.map 4 rfl rfl (.func (.func 41) #[.agg #[.int .i64 1, .int .i64 n, .string s]] #[]) rfl ?_; intro w2 hm hb; replace F := F.next hm hb; obtain ⟨d0, d1, d2⟩ := F.box; obtain ⟨c0, c1, c2⟩ := F.par; clear hm hb)
    | (refine wpList_ins _ rfl (.tmp 10) (.const (.int .i64 5)) (.tmp 22) rfl _ _ rfl F.map 5 rfl rfl (.func (.func 42) #[.agg #[.int .i64 1, .int .i64 n, .string s]] #[]) rfl ?_; intro w2 hm hb; replace F := F.next hm hb; obtain ⟨d0, d1, d2⟩ := F.box; obtain ⟨c0, c1, c2⟩ := F.par; clear hm hb; have hl := run_look F.map 1 1 rfl (.func (.func 38) #[.agg #[.int .i64 1, .int .i64 n, .string s]] #[]) rfl))
  refine (C.out _ F.bel).mono ?_
  rintro e w3 ⟨rfl, b3⟩
  go_wp2_with fail
  go_ret
  exact ⟨rfl, bnext F.bel b3⟩

set_option maxRecDepth 100000 in
theorem fmt_integer (n : Int) (s : ByteArray) (hs : s.size ≤ 1000) (w : World) (hc : ck ⟨2, n, s⟩ = 0) (h0 : -9223372036854775808 ≤ n) (h1 : n ≤ 9223372036854775807) (T : Tabs w) : Calls Tryz.prog 18 #[.agg #[.int .i64 2, .int .i64 n, .string s]] w fun e w' => e = .returned (.string ⟨(Lib.itoa n).toArray⟩) ∧ Below w.heap.size w w' := by
  have C1 := Lib.hid (check_any 2 n s (by omega))
  have V0 := Vx.new w 2 n s 42
  rw [hc] at C1
  clear hc
  have hmm := @run_makeMap Tryz.prog
  have C : Hid (∀ w', Below w.heap.size w w' → Calls Tryz.prog 39 #[.agg #[.int .i64 2, .int .i64 n, .string s]] w' fun e w'' => e = .returned (.string ⟨(Lib.itoa n).toArray⟩) ∧ Below w'.heap.size w' w'') := Lib.hid (fun w' b => pInt 2 n s h0 h1 w' (T.stays b))
  generalize (Lib.itoa n) = l at *
  have he := enters_pr_integer
  go_enter Tryz.func18, Tryz.ntmps18
  go_wp2_with fail
  refine (C1.out _).mono ?_
  rintro e w1 ⟨rfl, b1⟩
  obtain ⟨c0, c1, c2⟩ := V0.keeps b1
  have V1 := V0.keeps b1
  clear V0
  replace b1 := (balloc (b0 w) _).trans (b1.mono (by simp))
  have F := Fst.start V1 b1 67
  clear V1 b1
  go_wp2_with (first
    | (refine wpList_ins _ rfl (.tmp 10) (.const (.int .i64 0)) (.tmp 12) rfl _ _ rfl F.map 0 rfl rfl (.func (.func 37) #[.agg #[.int .i64 2, .int .i64 n, .string s]] #[]) rfl ?_; intro w2 hm hb; replace F := F.next hm hb; obtain ⟨d0, d1, d2⟩ := F.box; obtain ⟨c0, c1, c2⟩ := F.par; clear hm hb)
    | (refine wpList_ins _ rfl (.tmp 10) (.const (.int .i64 1)) (.tmp 14) rfl _ _ rfl F.map 1 rfl rfl (.func (.func 38) #[.agg #[.int .i64 2, .int .i64 n, .string s]] #[]) rfl ?_; intro w2 hm hb; replace F := F.next hm hb; obtain ⟨d0, d1, d2⟩ := F.box; obtain ⟨c0, c1, c2⟩ := F.par; clear hm hb)
    | (refine wpList_ins _ rfl (.tmp 10) (.const (.int .i64 2)) (.tmp 16) rfl _ _ rfl F.map 2 rfl rfl (.func (.func 39) #[.agg #[.int .i64 2, .int .i64 n, .string s]] #[]) rfl ?_; intro w2 hm hb; replace F := F.next hm hb; obtain ⟨d0, d1, d2⟩ := F.box; obtain ⟨c0, c1, c2⟩ := F.par; clear hm hb)
    | (refine wpList_ins _ rfl (.tmp 10) (.const (.int .i64 3)) (.tmp 18) rfl _ _ rfl F.map 3 rfl rfl (.func (.func 40) #[.agg #[.int .i64 2, .int .i64 n, .string s]] #[]) rfl ?_; intro w2 hm hb; replace F := F.next hm hb; obtain ⟨d0, d1, d2⟩ := F.box; obtain ⟨c0, c1, c2⟩ := F.par; clear hm hb)
    | (refine wpList_ins _ rfl (.tmp 10) (.const (.int .i64 4)) (.tmp 20) rfl _ _ rfl F.map 4 rfl rfl (.func (.func 41) #[.agg #[.int .i64 2, .int .i64 n, .string s]] #[]) rfl ?_; intro w2 hm hb; replace F := F.next hm hb; obtain ⟨d0, d1, d2⟩ := F.box; obtain ⟨c0, c1, c2⟩ := F.par; clear hm hb)
    | (refine wpList_ins _ rfl (.tmp 10) (.const (.int .i64 5)) (.tmp 22) rfl _ _ rfl F.map 5 rfl rfl (.func (.func 42) #[.agg #[.int .i64 2, .int .i64 n, .string s]] #[]) rfl ?_; intro w2 hm hb; replace F := F.next hm hb; obtain ⟨d0, d1, d2⟩ := F.box; obtain ⟨c0, c1, c2⟩ := F.par; clear hm hb; have hl := run_look F.map 2 2 rfl (.func (.func 39) #[.agg #[.int .i64 2, .int .i64 n, .string s]] #[]) rfl))
  refine (C.out _ F.bel).mono ?_
  rintro e w3 ⟨rfl, b3⟩
  go_wp2_with fail
  go_ret
  exact ⟨rfl, bnext F.bel b3⟩

set_option maxRecDepth 100000 in
theorem fmt_decimal (n : Int) (s : ByteArray) (hs : s.size ≤ 1000) (w : World) (hc : ck ⟨3, n, s⟩ = 0) (h0 : -9223372036854775808 ≤ n) (h1 : n ≤ 9223372036854775807) (T : Tabs w) : Calls Tryz.prog 18 #[.agg #[.int .i64 3, .int .i64 n, .string s]] w fun e w' => e = .returned (.string ⟨(foX n).toArray⟩) ∧ Below w.heap.size w w' := by
  have C1 := Lib.hid (check_any 3 n s (by omega))
  have V0 := Vx.new w 3 n s 42
  rw [hc] at C1
  clear hc
  have hmm := @run_makeMap Tryz.prog
  have C : Hid (∀ w', Below w.heap.size w w' → Calls Tryz.prog 40 #[.agg #[.int .i64 3, .int .i64 n, .string s]] w' fun e w'' => e = .returned (.string ⟨(foX n).toArray⟩) ∧ Below w'.heap.size w' w'') := Lib.hid (fun w' b => pDec 3 n s h0 h1 w' (T.stays b))
  generalize (foX n) = l at *
  have he := enters_pr_decimal
  go_enter Tryz.func18, Tryz.ntmps18
  go_wp2_with fail
  refine (C1.out _).mono ?_
  rintro e w1 ⟨rfl, b1⟩
  obtain ⟨c0, c1, c2⟩ := V0.keeps b1
  have V1 := V0.keeps b1
  clear V0
  replace b1 := (balloc (b0 w) _).trans (b1.mono (by simp))
  have F := Fst.start V1 b1 67
  clear V1 b1
  go_wp2_with (first
    | (refine wpList_ins _ rfl (.tmp 10) (.const (.int .i64 0)) (.tmp 12) rfl _ _ rfl F.map 0 rfl rfl (.func (.func 37) #[.agg #[.int .i64 3, .int .i64 n, .string s]] #[]) rfl ?_; intro w2 hm hb; replace F := F.next hm hb; obtain ⟨d0, d1, d2⟩ := F.box; obtain ⟨c0, c1, c2⟩ := F.par; clear hm hb)
    | (refine wpList_ins _ rfl (.tmp 10) (.const (.int .i64 1)) (.tmp 14) rfl _ _ rfl F.map 1 rfl rfl (.func (.func 38) #[.agg #[.int .i64 3, .int .i64 n, .string s]] #[]) rfl ?_; intro w2 hm hb; replace F := F.next hm hb; obtain ⟨d0, d1, d2⟩ := F.box; obtain ⟨c0, c1, c2⟩ := F.par; clear hm hb)
    | (refine wpList_ins _ rfl (.tmp 10) (.const (.int .i64 2)) (.tmp 16) rfl _ _ rfl F.map 2 rfl rfl (.func (.func 39) #[.agg #[.int .i64 3, .int .i64 n, .string s]] #[]) rfl ?_; intro w2 hm hb; replace F := F.next hm hb; obtain ⟨d0, d1, d2⟩ := F.box; obtain ⟨c0, c1, c2⟩ := F.par; clear hm hb)
    | (refine wpList_ins _ rfl (.tmp 10) (.const (.int .i64 3)) (.tmp 18) rfl _ _ rfl F.map 3 rfl rfl (.func (.func 40) #[.agg #[.int .i64 3, .int .i64 n, .string s]] #[]) rfl ?_; intro w2 hm hb; replace F := F.next hm hb; obtain ⟨d0, d1, d2⟩ := F.box; obtain ⟨c0, c1, c2⟩ := F.par; clear hm hb)
    | (refine wpList_ins _ rfl (.tmp 10) (.const (.int .i64 4)) (.tmp 20) rfl _ _ rfl F.map 4 rfl rfl (.func (.func 41) #[.agg #[.int .i64 3, .int .i64 n, .string s]] #[]) rfl ?_; intro w2 hm hb; replace F := F.next hm hb; obtain ⟨d0, d1, d2⟩ := F.box; obtain ⟨c0, c1, c2⟩ := F.par; clear hm hb)
    | (refine wpList_ins _ rfl (.tmp 10) (.const (.int .i64 5)) (.tmp 22) rfl _ _ rfl F.map 5 rfl rfl (.func (.func 42) #[.agg #[.int .i64 3, .int .i64 n, .string s]] #[]) rfl ?_; intro w2 hm hb; replace F := F.next hm hb; obtain ⟨d0, d1, d2⟩ := F.box; obtain ⟨c0, c1, c2⟩ := F.par; clear hm hb; have hl := run_look F.map 3 3 rfl (.func (.func 40) #[.agg #[.int .i64 3, .int .i64 n, .string s]] #[]) rfl))
  refine (C.out _ F.bel).mono ?_
  rintro e w3 ⟨rfl, b3⟩
  go_wp2_with fail
  go_ret
  exact ⟨rfl, bnext F.bel b3⟩

set_option maxRecDepth 100000 in
theorem fmt_text (n : Int) (s : ByteArray) (hs : s.size ≤ 1000) (w : World) (hc : ck ⟨4, n, s⟩ = 0)  : Calls Tryz.prog 18 #[.agg #[.int .i64 4, .int .i64 n, .string s]] w fun e w' => e = .returned (.string ⟨(34 :: (s.data.toList ++ [34])).toArray⟩) ∧ Below w.heap.size w w' := by
  have C1 := Lib.hid (check_any 4 n s (by omega))
  have V0 := Vx.new w 4 n s 42
  rw [hc] at C1
  clear hc
  have hmm := @run_makeMap Tryz.prog
  have C : Hid (∀ w', Below w.heap.size w w' → Calls Tryz.prog 41 #[.agg #[.int .i64 4, .int .i64 n, .string s]] w' fun e w'' => e = .returned (.string ⟨(34 :: (s.data.toList ++ [34])).toArray⟩) ∧ Below w'.heap.size w' w'') := Lib.hid (fun w' b => pText 4 n s hs w')
  generalize (34 :: (s.data.toList ++ [34])) = l at *
  have he := enters_pr_text
  go_enter Tryz.func18, Tryz.ntmps18
  go_wp2_with fail
  refine (C1.out _).mono ?_
  rintro e w1 ⟨rfl, b1⟩
  obtain ⟨c0, c1, c2⟩ := V0.keeps b1
  have V1 := V0.keeps b1
  clear V0
  replace b1 := (balloc (b0 w) _).trans (b1.mono (by simp))
  have F := Fst.start V1 b1 67
  clear V1 b1
  go_wp2_with (first
    | (refine wpList_ins _ rfl (.tmp 10) (.const (.int .i64 0)) (.tmp 12) rfl _ _ rfl F.map 0 rfl rfl (.func (.func 37) #[.agg #[.int .i64 4, .int .i64 n, .string s]] #[]) rfl ?_; intro w2 hm hb; replace F := F.next hm hb; obtain ⟨d0, d1, d2⟩ := F.box; obtain ⟨c0, c1, c2⟩ := F.par; clear hm hb)
    | (refine wpList_ins _ rfl (.tmp 10) (.const (.int .i64 1)) (.tmp 14) rfl _ _ rfl F.map 1 rfl rfl (.func (.func 38) #[.agg #[.int .i64 4, .int .i64 n, .string s]] #[]) rfl ?_; intro w2 hm hb; replace F := F.next hm hb; obtain ⟨d0, d1, d2⟩ := F.box; obtain ⟨c0, c1, c2⟩ := F.par; clear hm hb)
    | (refine wpList_ins _ rfl (.tmp 10) (.const (.int .i64 2)) (.tmp 16) rfl _ _ rfl F.map 2 rfl rfl (.func (.func 39) #[.agg #[.int .i64 4, .int .i64 n, .string s]] #[]) rfl ?_; intro w2 hm hb; replace F := F.next hm hb; obtain ⟨d0, d1, d2⟩ := F.box; obtain ⟨c0, c1, c2⟩ := F.par; clear hm hb)
    | (refine wpList_ins _ rfl (.tmp 10) (.const (.int .i64 3)) (.tmp 18) rfl _ _ rfl F.map 3 rfl rfl (.func (.func 40) #[.agg #[.int .i64 4, .int .i64 n, .string s]] #[]) rfl ?_; intro w2 hm hb; replace F := F.next hm hb; obtain ⟨d0, d1, d2⟩ := F.box; obtain ⟨c0, c1, c2⟩ := F.par; clear hm hb)
    | (refine wpList_ins _ rfl (.tmp 10) (.const (.int .i64 4)) (.tmp 20) rfl _ _ rfl F.map 4 rfl rfl (.func (.func 41) #[.agg #[.int .i64 4, .int .i64 n, .string s]] #[]) rfl ?_; intro w2 hm hb; replace F := F.next hm hb; obtain ⟨d0, d1, d2⟩ := F.box; obtain ⟨c0, c1, c2⟩ := F.par; clear hm hb)
    | (refine wpList_ins _ rfl (.tmp 10) (.const (.int .i64 5)) (.tmp 22) rfl _ _ rfl F.map 5 rfl rfl (.func (.func 42) #[.agg #[.int .i64 4, .int .i64 n, .string s]] #[]) rfl ?_; intro w2 hm hb; replace F := F.next hm hb; obtain ⟨d0, d1, d2⟩ := F.box; obtain ⟨c0, c1, c2⟩ := F.par; clear hm hb; have hl := run_look F.map 4 4 rfl (.func (.func 41) #[.agg #[.int .i64 4, .int .i64 n, .string s]] #[]) rfl))
  refine (C.out _ F.bel).mono ?_
  rintro e w3 ⟨rfl, b3⟩
  go_wp2_with fail
  go_ret
  exact ⟨rfl, bnext F.bel b3⟩

set_option maxRecDepth 100000 in
theorem fmt_key (n : Int) (s : ByteArray) (hs : s.size ≤ 1000) (w : World) (hc : ck ⟨5, n, s⟩ = 0)  : Calls Tryz.prog 18 #[.agg #[.int .i64 5, .int .i64 n, .string s]] w fun e w' => e = .returned (.string ⟨(64 :: s.data.toList).toArray⟩) ∧ Below w.heap.size w w' := by
  have C1 := Lib.hid (check_any 5 n s (by omega))
  have V0 := Vx.new w 5 n s 42
  rw [hc] at C1
  clear hc
  have hmm := @run_makeMap Tryz.prog
  have C : Hid (∀ w', Below w.heap.size w w' → Calls Tryz.prog 42 #[.agg #[.int .i64 5, .int .i64 n, .string s]] w' fun e w'' => e = .returned (.string ⟨(64 :: s.data.toList).toArray⟩) ∧ Below w'.heap.size w' w'') := Lib.hid (fun w' b => pKey 5 n s hs w')
  generalize (64 :: s.data.toList) = l at *
  have he := enters_pr_key
  go_enter Tryz.func18, Tryz.ntmps18
  go_wp2_with fail
  refine (C1.out _).mono ?_
  rintro e w1 ⟨rfl, b1⟩
  obtain ⟨c0, c1, c2⟩ := V0.keeps b1
  have V1 := V0.keeps b1
  clear V0
  replace b1 := (balloc (b0 w) _).trans (b1.mono (by simp))
  have F := Fst.start V1 b1 67
  clear V1 b1
  go_wp2_with (first
    | (refine wpList_ins _ rfl (.tmp 10) (.const (.int .i64 0)) (.tmp 12) rfl _ _ rfl F.map 0 rfl rfl (.func (.func 37) #[.agg #[.int .i64 5, .int .i64 n, .string s]] #[]) rfl ?_; intro w2 hm hb; replace F := F.next hm hb; obtain ⟨d0, d1, d2⟩ := F.box; obtain ⟨c0, c1, c2⟩ := F.par; clear hm hb)
    | (refine wpList_ins _ rfl (.tmp 10) (.const (.int .i64 1)) (.tmp 14) rfl _ _ rfl F.map 1 rfl rfl (.func (.func 38) #[.agg #[.int .i64 5, .int .i64 n, .string s]] #[]) rfl ?_; intro w2 hm hb; replace F := F.next hm hb; obtain ⟨d0, d1, d2⟩ := F.box; obtain ⟨c0, c1, c2⟩ := F.par; clear hm hb)
    | (refine wpList_ins _ rfl (.tmp 10) (.const (.int .i64 2)) (.tmp 16) rfl _ _ rfl F.map 2 rfl rfl (.func (.func 39) #[.agg #[.int .i64 5, .int .i64 n, .string s]] #[]) rfl ?_; intro w2 hm hb; replace F := F.next hm hb; obtain ⟨d0, d1, d2⟩ := F.box; obtain ⟨c0, c1, c2⟩ := F.par; clear hm hb)
    | (refine wpList_ins _ rfl (.tmp 10) (.const (.int .i64 3)) (.tmp 18) rfl _ _ rfl F.map 3 rfl rfl (.func (.func 40) #[.agg #[.int .i64 5, .int .i64 n, .string s]] #[]) rfl ?_; intro w2 hm hb; replace F := F.next hm hb; obtain ⟨d0, d1, d2⟩ := F.box; obtain ⟨c0, c1, c2⟩ := F.par; clear hm hb)
    | (refine wpList_ins _ rfl (.tmp 10) (.const (.int .i64 4)) (.tmp 20) rfl _ _ rfl F.map 4 rfl rfl (.func (.func 41) #[.agg #[.int .i64 5, .int .i64 n, .string s]] #[]) rfl ?_; intro w2 hm hb; replace F := F.next hm hb; obtain ⟨d0, d1, d2⟩ := F.box; obtain ⟨c0, c1, c2⟩ := F.par; clear hm hb)
    | (refine wpList_ins _ rfl (.tmp 10) (.const (.int .i64 5)) (.tmp 22) rfl _ _ rfl F.map 5 rfl rfl (.func (.func 42) #[.agg #[.int .i64 5, .int .i64 n, .string s]] #[]) rfl ?_; intro w2 hm hb; replace F := F.next hm hb; obtain ⟨d0, d1, d2⟩ := F.box; obtain ⟨c0, c1, c2⟩ := F.par; clear hm hb; have hl := run_look F.map 5 5 rfl (.func (.func 42) #[.agg #[.int .i64 5, .int .i64 n, .string s]] #[]) rfl))
  refine (C.out _ F.bel).mono ?_
  rintro e w3 ⟨rfl, b3⟩
  go_wp2_with fail
  go_ret
  exact ⟨rfl, bnext F.bel b3⟩

theorem fmt_no (k n : Int) (s : ByteArray) (hs : s.size ≤ 1000) (w : World) (hc : ¬ ck ⟨k, n, s⟩ = 0) : Calls Tryz.prog 18 #[.agg #[.int .i64 k, .int .i64 n, .string s]] w fun e w' => e = .returned (.string ⟨([] : List UInt8).toArray⟩) ∧ Below w.heap.size w w' := by
  have C1 := Lib.hid (check_any k n s (by omega))
  generalize ck ⟨k, n, s⟩ = c at *
  go_enter Tryz.func18, Tryz.ntmps18
  go_wp2_with fail
  refine (C1.out _).mono ?_
  rintro e w1 ⟨rfl, b1⟩
  replace b1 := (balloc (b0 w) _).trans (b1.mono (by simp))
  go_wp2_with fail
  go_ret
  exact ⟨rfl, b1⟩
theorem bool_bytes (n : Int) : Lib.formatBool (n == 1) = if n = 1 then [116, 114, 117, 101] else [102, 97, 108, 115, 101] := by
  by_cases h : n = 1
  · subst h; decide +kernel
  · have : (n == 1) = false := by rw [beq_eq_false_iff_ne]; exact h
    rw [this, if_neg h]
    decide +kernel
theorem formatV_any (k n : Int) (s : ByteArray) (hs : s.size ≤ 1000) (w : World) (T : Tabs w) : Calls Tryz.prog 18 #[.agg #[.int .i64 k, .int .i64 n, .string s]] w fun e w' => e = .returned (.string ⟨(fm ⟨k, n, s⟩).toArray⟩) ∧ Below w.heap.size w w' := by
  cases hk : ok ⟨k, n, s⟩
  · rw [fm_no hk]
    exact fmt_no k n s hs w (of_decide_eq_false hk)
  · rw [fm_ok hk]
    have hc := ck_ok hk
    rcases ok_cases hk with e | e | e | ⟨m, e, h1, h2⟩ | ⟨m, e, h1, h2⟩ | ⟨t, e, h1, h2⟩ | ⟨t, e, h0, h1, h2⟩
    · cases e; exact fmt_null 0 .empty hs w hc
    · cases e
      have := fmt_boolean 0 .empty hs w hc
      rw [bool_bytes] at this
      exact this
    · cases e
      have := fmt_boolean 1 .empty hs w hc
      rw [bool_bytes] at this
      exact this
    · cases e; exact fmt_integer n .empty hs w hc (by omega) (by omega) T
    · cases e; exact fmt_decimal n .empty hs w hc (by omega) (by omega) T
    · cases e; exact fmt_text 0 s hs w hc
    · cases e; exact fmt_key 0 s hs w hc
end Go.Proofs.YtkfciilclfhabaaGreatDoor
