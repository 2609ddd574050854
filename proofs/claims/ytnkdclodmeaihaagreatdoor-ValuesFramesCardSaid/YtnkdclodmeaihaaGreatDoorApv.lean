/-
  values.encoding and values.Append: for every value.
-/
import Derived.Test.YtnkdclodmeaihaaGreatDoorChk
import Derived.Test.YtnkdclodmeaihaaGreatDoorWV
import Derived.Test.YtnkdclodmeaihaaGreatDoorWirD
import Derived.Laws.OwnMore
namespace Go.Proofs.YtnkdclodmeaihaaGreatDoor
open Go.RowKit dec

/-- What a function returns that makes the bytes x. -/
def Rl (x : List Nat) (w : World) (e : Ending) (w' : World) : Prop := ∃ a c, e = .returned (.slice a x.length c) ∧ Li w' a x.length c x ∧ Below w.heap.size w w'
theorem OwL.one (w : World) (x : Nat) (hx : x < 256) : OwL (w.alloc (.cells #[.int .u8 (x : Nat)] 5)) w.heap.size (.slice (some ⟨w.heap.size, 0, none⟩) 1 1) 1 [x] :=
  ⟨World.ownsRow_lit (e := 5) (size := 1) w #[.int .u8 (x : Nat)] 1 (Nat.le_refl _) (by unfold maxLen; omega) rfl, fun y hy => by rw [List.mem_singleton] at hy; omega, rfl⟩
theorem Li.one (w : World) (x : Nat) (hx : x < 256) : Li (w.alloc (.cells #[.int .u8 (x : Nat)] 5)) (some ⟨w.heap.size, 0, none⟩) 1 1 [x] :=
  ⟨one_new w _ x rfl hx, rfl, by omega, by omega, by omega, fun h => by cases h⟩
/-- .. also behind a new block. -/
theorem past_all {w : World} {b : Nat} {k n : Int} {s : ByteArray} (h : Vx w b k n s) : (∀ o, (w.alloc o).cell? ⟨b, 0, none⟩ = some (.int .i64 k)) ∧ (∀ o, (w.alloc o).cell? ⟨b, 1, none⟩ = some (.int .i64 n)) ∧ ∀ o, (w.alloc o).cell? ⟨b, 2, none⟩ = some (.string s) :=
  ⟨fun o => (h.past o).1, fun o => (h.past o).2.1, fun o => (h.past o).2.2⟩
theorem alloc_size (w : World) (o : Obj) : (w.alloc o).heap.size = w.heap.size + 1 := by simp
theorem li_nil' (w : World) : Li w none 0 0 [] := li_nil w

theorem enc_no_any (k n : Int) (s : ByteArray) (hs : s.size ≤ 1000) (w : World) (hc : ¬ ck ⟨k, n, s⟩ = 0) : Calls Tryz.prog 32 #[.agg #[.int .i64 k, .int .i64 n, .string s]] w (Rl [] w) := by
  have C1 := Lib.hid (check_any k n s (by omega))
  generalize ck ⟨k, n, s⟩ = c at *
  go_enter Tryz.func32, Tryz.ntmps32
  go_wp2_with fail
  refine (C1.out _).mono ?_
  rintro e w1 ⟨rfl, b1⟩
  replace b1 := (balloc (b0 w) _).trans (b1.mono (by simp))
  go_wp2_with fail
  go_ret
  exact ⟨none, 0, rfl, li_nil _, b1⟩
theorem enc_null (w : World) (hc : ck ⟨0, 0, .empty⟩ = 0) : Calls Tryz.prog 32 #[.agg #[.int .i64 0, .int .i64 0, .string .empty]] w (Rl [0] w) := by
  have C1 := Lib.hid (check_any 0 0 .empty (by decide))
  have V0 := Vx.new w 0 0 .empty 23
  rw [hc] at C1
  go_enter Tryz.func32, Tryz.ntmps32
  go_wp2_with fail
  refine (C1.out _).mono ?_
  rintro e w1 ⟨rfl, b1⟩
  obtain ⟨c0, c1, c2⟩ := V0.keeps b1
  obtain ⟨p0, p1, p2⟩ := past_all (V0.keeps b1)
  replace b1 := (balloc (b0 w) _).trans (b1.mono (by simp))
  go_wp2_with fail
  go_ret
  exact ⟨_, 1, rfl, Li.one w1 0 (by decide), b1.alloc b1.size _⟩
theorem enc_bool (m : Nat) (hm : m < 2) (w : World) (hc : ck ⟨1, (m : Nat), .empty⟩ = 0) : Calls Tryz.prog 32 #[.agg #[.int .i64 1, .int .i64 (m : Nat), .string .empty]] w (Rl [1, m] w) := by
  have C1 := Lib.hid (check_any 1 (m : Nat) .empty (by decide))
  have V0 := Vx.new w 1 (m : Nat) .empty 23
  rw [hc] at C1
  have hw : IntKind.u8.wrap (m : Int) = (m : Int) := by rw [IntKind.wrap_u8]; omega
  clear hc
  have HM := Lib.hid hm
  clear hm
  go_enter Tryz.func32, Tryz.ntmps32
  go_wp2_with fail
  refine (C1.out _).mono ?_
  rintro e w1 ⟨rfl, b1⟩
  obtain ⟨c0, c1, c2⟩ := V0.keeps b1
  obtain ⟨p0, p1, p2⟩ := past_all (V0.keeps b1)
  clear V0
  replace b1 := (balloc (b0 w) _).trans (b1.mono (by simp))
  have b2 := b1.alloc b1.size (.cells #[.int .u8 (1 : Nat)] 5)
  have b3 := b2.alloc b2.size (.cells #[.int .u8 (m : Nat)] 5)
  have O := (OwL.one w1 1 (by decide)).keeps (balloc (b0 _) (.cells #[.int .u8 (m : Nat)] 5))
  have A := one_new (w1.alloc (.cells #[.int .u8 (1 : Nat)] 5)) (m : Nat) m rfl (by have := HM.out; omega)
  rw [show (w1.alloc (.cells #[.int .u8 (1 : Nat)] 5)).heap.size = w1.heap.size + 1 by simp] at A
  have hsz : w1.heap.size ≤ ((w1.alloc (.cells #[.int .u8 (1 : Nat)] 5)).alloc (.cells #[.int .u8 (m : Nat)] 5)).heap.size := by simp; omega
  go_wp2_with (at_builtin; refine wpList_appL _ rfl (.tmp 15) (.tmp 19) rfl w1.heap.size 1 (.slice (some ⟨w1.heap.size, 0, none⟩) 1 1) [1] rfl O (some ⟨w1.heap.size + 1, 0, none⟩) 1 1 [m] rfl A rfl (fun e => by cases e) (by omega) hsz ?_; intro v' w' O' b')
  obtain ⟨a, c, rfl, L⟩ := O'.li (by omega)
  go_ret
  exact ⟨a, c, rfl, L, b3.trans (b'.mono b1.size)⟩
theorem enc_int2 (n : Int) (w : World) (h1 : -1152921504606846976 ≤ n) (h2 : n ≤ 1152921504606846976) (hc : ck ⟨2, n, .empty⟩ = 0) : Calls Tryz.prog 32 #[.agg #[.int .i64 2, .int .i64 n, .string .empty]] w (Rl (2 :: en (fold n)) w) := by
  have C1 := Lib.hid (check_any 2 n .empty (by decide))
  have V0 := Vx.new w 2 n .empty 23
  rw [hc] at C1
  clear hc
  have hten := en_ten (fold_lt (z := n) (by omega) (by omega))
  have C2 := Lib.hid (fun w1 => appendInt_any (some ⟨w1.heap.size, 0, none⟩) 1 1 n [2] (w1.alloc (.cells #[.int .u8 (2 : Nat)] 5)) (Li.one w1 2 (by decide)) (by omega) (by omega) (by omega) _ rfl)
  have HT := Lib.hid hten
  clear hten h1 h2
  go_enter Tryz.func32, Tryz.ntmps32
  go_wp2_with fail
  refine (C1.out _).mono ?_
  rintro e w1 ⟨rfl, b1⟩
  obtain ⟨c0, c1, c2⟩ := V0.keeps b1
  obtain ⟨p0, p1, p2⟩ := past_all (V0.keeps b1)
  clear V0
  replace b1 := (balloc (b0 w) _).trans (b1.mono (by simp))
  have b2 := b1.alloc b1.size (.cells #[.int .u8 (2 : Nat)] 5)
  go_wp2_with fail
  refine (C2.out w1).mono ?_
  rintro e w2 ⟨rfl, O, b3⟩
  go_wp2_with fail
  go_ret
  have L := O.li (by have := HT.out; omega)
  rw [show 1 + (en (fold n)).length = (2 :: en (fold n)).length by rw [List.length_cons]; omega] at L ⊢
  rw [alloc_size] at L
  exact ⟨_, _, rfl, L, bnext b2 b3⟩
theorem enc_int3 (n : Int) (w : World) (h1 : -1152921504606846976 ≤ n) (h2 : n ≤ 1152921504606846976) (hc : ck ⟨3, n, .empty⟩ = 0) : Calls Tryz.prog 32 #[.agg #[.int .i64 3, .int .i64 n, .string .empty]] w (Rl (3 :: en (fold n)) w) := by
  have C1 := Lib.hid (check_any 3 n .empty (by decide))
  have V0 := Vx.new w 3 n .empty 23
  rw [hc] at C1
  clear hc
  have hten := en_ten (fold_lt (z := n) (by omega) (by omega))
  have C2 := Lib.hid (fun w1 => appendInt_any (some ⟨w1.heap.size, 0, none⟩) 1 1 n [3] (w1.alloc (.cells #[.int .u8 (3 : Nat)] 5)) (Li.one w1 3 (by decide)) (by omega) (by omega) (by omega) _ rfl)
  have HT := Lib.hid hten
  clear hten h1 h2
  go_enter Tryz.func32, Tryz.ntmps32
  go_wp2_with fail
  refine (C1.out _).mono ?_
  rintro e w1 ⟨rfl, b1⟩
  obtain ⟨c0, c1, c2⟩ := V0.keeps b1
  obtain ⟨p0, p1, p2⟩ := past_all (V0.keeps b1)
  clear V0
  replace b1 := (balloc (b0 w) _).trans (b1.mono (by simp))
  have b2 := b1.alloc b1.size (.cells #[.int .u8 (3 : Nat)] 5)
  go_wp2_with fail
  refine (C2.out w1).mono ?_
  rintro e w2 ⟨rfl, O, b3⟩
  go_wp2_with fail
  go_ret
  have L := O.li (by have := HT.out; omega)
  rw [show 1 + (en (fold n)).length = (3 :: en (fold n)).length by rw [List.length_cons]; omega] at L ⊢
  rw [alloc_size] at L
  exact ⟨_, _, rfl, L, bnext b2 b3⟩
theorem enc_text4 (s : ByteArray) (w : World) (hs : s.size ≤ 64) (hc : ck ⟨4, 0, s⟩ = 0) : Calls Tryz.prog 32 #[.agg #[.int .i64 4, .int .i64 0, .string s]] w (Rl (4 :: (en s.size ++ sl s)) w) := by
  have C1 := Lib.hid (check_any 4 0 s (by omega))
  have V0 := Vx.new w 4 0 s 23
  rw [hc] at C1
  clear hc
  have hten := en_ten (n := s.size) (by omega)
  have C2 := Lib.hid (fun w1 => appendText_any (some ⟨w1.heap.size, 0, none⟩) 1 1 s [4] (w1.alloc (.cells #[.int .u8 (4 : Nat)] 5)) (Li.one w1 4 (by decide)) (by omega) (by omega) _ rfl)
  have HT := Lib.hid hten
  clear hten
  go_enter Tryz.func32, Tryz.ntmps32
  go_wp2_with fail
  refine (C1.out _).mono ?_
  rintro e w1 ⟨rfl, b1⟩
  obtain ⟨c0, c1, c2⟩ := V0.keeps b1
  obtain ⟨p0, p1, p2⟩ := past_all (V0.keeps b1)
  clear V0
  replace b1 := (balloc (b0 w) _).trans (b1.mono (by simp))
  have b2 := b1.alloc b1.size (.cells #[.int .u8 (4 : Nat)] 5)
  go_wp2_with fail
  refine (C2.out w1).mono ?_
  rintro e w2 ⟨rfl, O, b3⟩
  go_wp2_with fail
  go_ret
  have L := O.li (by have := HT.out; omega)
  rw [show 1 + (en s.size).length + s.size = (4 :: (en s.size ++ sl s)).length by rw [List.length_cons, List.length_append, sl_length]; omega] at L ⊢
  rw [alloc_size] at L
  exact ⟨_, _, rfl, L, bnext b2 b3⟩
theorem enc_text5 (s : ByteArray) (w : World) (hs : s.size ≤ 64) (hc : ck ⟨5, 0, s⟩ = 0) : Calls Tryz.prog 32 #[.agg #[.int .i64 5, .int .i64 0, .string s]] w (Rl (5 :: (en s.size ++ sl s)) w) := by
  have C1 := Lib.hid (check_any 5 0 s (by omega))
  have V0 := Vx.new w 5 0 s 23
  rw [hc] at C1
  clear hc
  have hten := en_ten (n := s.size) (by omega)
  have C2 := Lib.hid (fun w1 => appendText_any (some ⟨w1.heap.size, 0, none⟩) 1 1 s [5] (w1.alloc (.cells #[.int .u8 (5 : Nat)] 5)) (Li.one w1 5 (by decide)) (by omega) (by omega) _ rfl)
  have HT := Lib.hid hten
  clear hten
  go_enter Tryz.func32, Tryz.ntmps32
  go_wp2_with fail
  refine (C1.out _).mono ?_
  rintro e w1 ⟨rfl, b1⟩
  obtain ⟨c0, c1, c2⟩ := V0.keeps b1
  obtain ⟨p0, p1, p2⟩ := past_all (V0.keeps b1)
  clear V0
  replace b1 := (balloc (b0 w) _).trans (b1.mono (by simp))
  have b2 := b1.alloc b1.size (.cells #[.int .u8 (5 : Nat)] 5)
  go_wp2_with fail
  refine (C2.out w1).mono ?_
  rintro e w2 ⟨rfl, O, b3⟩
  go_wp2_with fail
  go_ret
  have L := O.li (by have := HT.out; omega)
  rw [show 1 + (en s.size).length + s.size = (5 :: (en s.size ++ sl s)).length by rw [List.length_cons, List.length_append, sl_length]; omega] at L ⊢
  rw [alloc_size] at L
  exact ⟨_, _, rfl, L, bnext b2 b3⟩
theorem encoding_any (k n : Int) (s : ByteArray) (hs : s.size ≤ 1000) (w : World) : Calls Tryz.prog 32 #[.agg #[.int .i64 k, .int .i64 n, .string s]] w (Rl (enc ⟨k, n, s⟩) w) := by
  cases hk : ok ⟨k, n, s⟩
  · rw [enc_no hk]
    exact enc_no_any k n s hs w (of_decide_eq_false hk)
  · rw [enc_ok hk]
    have hc := ck_ok hk
    rcases ok_cases hk with e | e | e | ⟨m, e, h1, h2⟩ | ⟨m, e, h1, h2⟩ | ⟨t, e, h1, h2⟩ | ⟨t, e, h0, h1, h2⟩
    · cases e; exact enc_null w hc
    · cases e; exact enc_bool 0 (by decide) w hc
    · cases e; exact enc_bool 1 (by decide) w hc
    · cases e; exact enc_int2 n w h1 h2 hc
    · cases e; exact enc_int3 n w h1 h2 hc
    · cases e; exact enc_text4 s w h1 hc
    · cases e; exact enc_text5 s w (by omega) hc
end Go.Proofs.YtnkdclodmeaihaaGreatDoor
