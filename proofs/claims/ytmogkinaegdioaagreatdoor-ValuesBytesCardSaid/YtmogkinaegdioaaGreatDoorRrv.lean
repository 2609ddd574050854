/-
  The reference's Bytes, Append and Read.
-/
import Derived.Test.YtmogkinaegdioaaGreatDoorRea
import Derived.Test.YtmogkinaegdioaaGreatDoorRck
namespace Go.Proofs.YtmogkinaegdioaaGreatDoor
open Go.RowKit dec

theorem rby_null (w : World) : Calls Tryz.prog 53 #[.agg #[.int .i64 0, .int .i64 0, .string .empty]] w (Rl [0] w) := by
  have b1 := balloc (b0 w) (.cells #[.int .i64 0, .int .i64 0, .string .empty] 23)
  obtain ⟨p0, p1, p2⟩ := past_all (Vx.new w 0 0 .empty 23)
  have L := Li.one (w.alloc (.cells #[.int .i64 0, .int .i64 0, .string .empty] 23)) 0 (by decide)
  rw [alloc_size] at L
  have b2 := b1.alloc b1.size (.cells #[.int .u8 (0 : Nat)] 5)
  go_enter Tryz.func53, Tryz.ntmps53
  go_wp2_with fail
  go_ret
  exact ⟨_, 1, rfl, L, b2⟩
theorem rby_bool (m : Nat) (hm : m < 2) (w : World) : Calls Tryz.prog 53 #[.agg #[.int .i64 1, .int .i64 (m : Nat), .string .empty]] w (Rl [1, m] w) := by
  have hw : IntKind.u8.wrap (m : Int) = (m : Int) := by rw [IntKind.wrap_u8]; omega
  obtain ⟨p0, p1, p2⟩ := past_all (Vx.new w 1 (m : Nat) .empty 23)
  have b1 := balloc (b0 w) (.cells #[.int .i64 1, .int .i64 (m : Nat), .string .empty] 23)
  generalize hW : w.alloc (.cells #[.int .i64 1, .int .i64 (m : Nat), .string .empty] 23) = w1 at *
  have hsz1 : w1.heap.size = w.heap.size + 1 := by rw [← hW]; exact alloc_size _ _
  have b2 := b1.alloc b1.size (.cells #[.int .u8 (1 : Nat)] 5)
  have b3 := b2.alloc b2.size (.cells #[.int .u8 (m : Nat)] 5)
  have O := (OwL.one w1 1 (by decide)).keeps (balloc (b0 _) (.cells #[.int .u8 (m : Nat)] 5))
  have A := one_new (w1.alloc (.cells #[.int .u8 (1 : Nat)] 5)) (m : Nat) m rfl (by omega)
  rw [alloc_size] at A
  have hsz : w1.heap.size ≤ ((w1.alloc (.cells #[.int .u8 (1 : Nat)] 5)).alloc (.cells #[.int .u8 (m : Nat)] 5)).heap.size := by simp; omega
  rw [hsz1] at O A hsz
  have hb := b1.size
  subst hW
  have HM := Lib.hid hm
  clear hm hsz1
  go_enter Tryz.func53, Tryz.ntmps53
  go_wp2_with (at_builtin; refine wpList_appL _ rfl (.tmp 12) (.tmp 16) rfl (w.heap.size + 1) 1 (.slice (some ⟨w.heap.size + 1, 0, none⟩) 1 1) [1] rfl O (some ⟨w.heap.size + 1 + 1, 0, none⟩) 1 1 [m] rfl A rfl (fun e => by cases e) (by omega) hsz ?_; intro v' w' O' b')
  obtain ⟨a, c, rfl, L⟩ := O'.li (by omega)
  go_ret
  exact ⟨a, c, rfl, L, b3.trans (b'.mono (by omega))⟩
theorem rby_int2 (n : Int) (w : World) (h1 : -1152921504606846976 ≤ n) (h2 : n ≤ 1152921504606846976) : Calls Tryz.prog 53 #[.agg #[.int .i64 2, .int .i64 n, .string .empty]] w (Rl (2 :: en (fold n)) w) := by
  obtain ⟨p0, p1, p2⟩ := past_all (Vx.new w 2 n .empty 23)
  have b1 := balloc (b0 w) (.cells #[.int .i64 2, .int .i64 n, .string .empty] 23)
  have O := OwL.one (w.alloc (.cells #[.int .i64 2, .int .i64 n, .string .empty] 23)) 2 (by decide)
  have b2 := b1.alloc b1.size (.cells #[.int .u8 (2 : Nat)] 5)
  have C := Lib.hid (fun w => mk_li (refInt_any n w (by omega) (by omega)) _ rfl (by have := en_ten (fold_lt (z := n) (by omega) (by omega)); omega))
  have hten := en_ten (fold_lt (z := n) (by omega) (by omega))
  rw [alloc_size] at O
  generalize en (fold n) = L at *
  clear h1 h2
  go_enter Tryz.func53, Tryz.ntmps53
  go_wp2_with (first
    | (go_at_call 86; refine (C.out _).mono ?_; rintro e w2 ⟨a, c, rfl, LL, b3⟩; replace O := O.keeps b3; have hno := LL.hno; have hsz : w.heap.size + 1 ≤ w2.heap.size := Nat.le_trans (by rw [alloc_size, alloc_size]; omega) b3.size; have h2 := LL.hat)
    | (at_builtin; refine wpList_appL _ rfl (.tmp 21) (.tmp 24) rfl (w.heap.size + 1) 1 (.slice (some ⟨w.heap.size + 1, 0, none⟩) 1 1) [2] rfl O a L.length c L rfl h2 rfl hno (by omega) hsz ?_; intro v' w' O' b'))
  obtain ⟨a', c', rfl, L'⟩ := O'.li (by omega)
  go_ret
  rw [show 1 + L.length = (2 :: L).length by rw [List.length_cons]; omega] at L' ⊢
  exact ⟨a', c', rfl, L', (bnext b2 b3).trans (b'.mono (by omega))⟩
theorem rby_int3 (n : Int) (w : World) (h1 : -1152921504606846976 ≤ n) (h2 : n ≤ 1152921504606846976) : Calls Tryz.prog 53 #[.agg #[.int .i64 3, .int .i64 n, .string .empty]] w (Rl (3 :: en (fold n)) w) := by
  obtain ⟨p0, p1, p2⟩ := past_all (Vx.new w 3 n .empty 23)
  have b1 := balloc (b0 w) (.cells #[.int .i64 3, .int .i64 n, .string .empty] 23)
  have O := OwL.one (w.alloc (.cells #[.int .i64 3, .int .i64 n, .string .empty] 23)) 3 (by decide)
  have b2 := b1.alloc b1.size (.cells #[.int .u8 (3 : Nat)] 5)
  have C := Lib.hid (fun w => mk_li (refInt_any n w (by omega) (by omega)) _ rfl (by have := en_ten (fold_lt (z := n) (by omega) (by omega)); omega))
  have hten := en_ten (fold_lt (z := n) (by omega) (by omega))
  rw [alloc_size] at O
  generalize en (fold n) = L at *
  clear h1 h2
  go_enter Tryz.func53, Tryz.ntmps53
  go_wp2_with (first
    | (go_at_call 86; refine (C.out _).mono ?_; rintro e w2 ⟨a, c, rfl, LL, b3⟩; replace O := O.keeps b3; have hno := LL.hno; have hsz : w.heap.size + 1 ≤ w2.heap.size := Nat.le_trans (by rw [alloc_size, alloc_size]; omega) b3.size; have h2 := LL.hat)
    | (at_builtin; refine wpList_appL _ rfl (.tmp 21) (.tmp 24) rfl (w.heap.size + 1) 1 (.slice (some ⟨w.heap.size + 1, 0, none⟩) 1 1) [3] rfl O a L.length c L rfl h2 rfl hno (by omega) hsz ?_; intro v' w' O' b'))
  obtain ⟨a', c', rfl, L'⟩ := O'.li (by omega)
  go_ret
  rw [show 1 + L.length = (3 :: L).length by rw [List.length_cons]; omega] at L' ⊢
  exact ⟨a', c', rfl, L', (bnext b2 b3).trans (b'.mono (by omega))⟩
theorem rby_text4 (s : ByteArray) (w : World) (hs : s.size ≤ 64) : Calls Tryz.prog 53 #[.agg #[.int .i64 4, .int .i64 0, .string s]] w (Rl (4 :: (en s.size ++ sl s)) w) := by
  obtain ⟨p0, p1, p2⟩ := past_all (Vx.new w 4 0 s 23)
  have b1 := balloc (b0 w) (.cells #[.int .i64 4, .int .i64 0, .string s] 23)
  have O := OwL.one (w.alloc (.cells #[.int .i64 4, .int .i64 0, .string s] 23)) 4 (by decide)
  have b2 := b1.alloc b1.size (.cells #[.int .u8 (4 : Nat)] 5)
  have hl : (en s.size ++ sl s).length ≤ 100 := by have := en_ten (n := s.size) (by omega); rw [List.length_append, sl_length]; omega
  have C := Lib.hid (fun w => mk_li (refText_any s w (by omega)) _ rfl (by omega))
  rw [alloc_size] at O
  generalize en s.size ++ sl s = L at *
  go_enter Tryz.func53, Tryz.ntmps53
  go_wp2_with (first
    | (go_at_call 87; refine (C.out _).mono ?_; rintro e w2 ⟨a, c, rfl, LL, b3⟩; replace O := O.keeps b3; have hno := LL.hno; have hsz : w.heap.size + 1 ≤ w2.heap.size := Nat.le_trans (by rw [alloc_size, alloc_size]; omega) b3.size; have h2 := LL.hat)
    | (at_builtin; refine wpList_appL _ rfl (.tmp 29) (.tmp 32) rfl (w.heap.size + 1) 1 (.slice (some ⟨w.heap.size + 1, 0, none⟩) 1 1) [4] rfl O a L.length c L rfl h2 rfl hno (by omega) hsz ?_; intro v' w' O' b'))
  obtain ⟨a', c', rfl, L'⟩ := O'.li (by omega)
  go_ret
  rw [show 1 + L.length = (4 :: L).length by rw [List.length_cons]; omega] at L' ⊢
  exact ⟨a', c', rfl, L', (bnext b2 b3).trans (b'.mono (by omega))⟩
theorem rby_text5 (s : ByteArray) (w : World) (hs : s.size ≤ 64) : Calls Tryz.prog 53 #[.agg #[.int .i64 5, .int .i64 0, .string s]] w (Rl (5 :: (en s.size ++ sl s)) w) := by
  obtain ⟨p0, p1, p2⟩ := past_all (Vx.new w 5 0 s 23)
  have b1 := balloc (b0 w) (.cells #[.int .i64 5, .int .i64 0, .string s] 23)
  have O := OwL.one (w.alloc (.cells #[.int .i64 5, .int .i64 0, .string s] 23)) 5 (by decide)
  have b2 := b1.alloc b1.size (.cells #[.int .u8 (5 : Nat)] 5)
  have hl : (en s.size ++ sl s).length ≤ 100 := by have := en_ten (n := s.size) (by omega); rw [List.length_append, sl_length]; omega
  have C := Lib.hid (fun w => mk_li (refText_any s w (by omega)) _ rfl (by omega))
  rw [alloc_size] at O
  generalize en s.size ++ sl s = L at *
  go_enter Tryz.func53, Tryz.ntmps53
  go_wp2_with (first
    | (go_at_call 87; refine (C.out _).mono ?_; rintro e w2 ⟨a, c, rfl, LL, b3⟩; replace O := O.keeps b3; have hno := LL.hno; have hsz : w.heap.size + 1 ≤ w2.heap.size := Nat.le_trans (by rw [alloc_size, alloc_size]; omega) b3.size; have h2 := LL.hat)
    | (at_builtin; refine wpList_appL _ rfl (.tmp 29) (.tmp 32) rfl (w.heap.size + 1) 1 (.slice (some ⟨w.heap.size + 1, 0, none⟩) 1 1) [5] rfl O a L.length c L rfl h2 rfl hno (by omega) hsz ?_; intro v' w' O' b'))
  obtain ⟨a', c', rfl, L'⟩ := O'.li (by omega)
  go_ret
  rw [show 1 + L.length = (5 :: L).length by rw [List.length_cons]; omega] at L' ⊢
  exact ⟨a', c', rfl, L', (bnext b2 b3).trans (b'.mono (by omega))⟩
theorem rbytes_any (k n : Int) (s : ByteArray) (hk : ok ⟨k, n, s⟩ = true) (w : World) : Calls Tryz.prog 53 #[.agg #[.int .i64 k, .int .i64 n, .string s]] w (Rl (encV ⟨k, n, s⟩) w) := by
  rcases ok_cases hk with e | e | e | ⟨m, e, h1, h2⟩ | ⟨m, e, h1, h2⟩ | ⟨t, e, h1, h2⟩ | ⟨t, e, h0, h1, h2⟩
  · cases e; exact rby_null w
  · cases e; exact rby_bool 0 (by decide) w
  · cases e; exact rby_bool 1 (by decide) w
  · cases e; exact rby_int2 n w h1 h2
  · cases e; exact rby_int3 n w h1 h2
  · cases e; exact rby_text4 s w h1
  · cases e; exact rby_text5 s w (by omega)
theorem rappend_any (A : Option Addr) (m c : Nat) (l : List Nat) (k n : Int) (s : ByteArray) (hs : s.size ≤ 1000) (w : World) (hA : Li w A m c l) (hm : m ≤ 90000) (N : Nat) (hN : m + (enc ⟨k, n, s⟩).length = N) :
    Calls Tryz.prog 23 #[.slice A m c, .agg #[.int .i64 k, .int .i64 n, .string s]] w fun e w' => ∃ a' c', e = .returned (.slice a' N c') ∧ Li w' a' N c' (l ++ enc ⟨k, n, s⟩) ∧ Below w.heap.size w w' := by
  have C1 := Lib.hid (valid_any k n s (by omega))
  have b1 := balloc (b0 w) (.cells #[.int .i64 k, .int .i64 n, .string s] 23)
  have V0 := Vx.new w k n s 23
  have hl := enc_len ⟨k, n, s⟩
  cases hk : ok ⟨k, n, s⟩
  · rw [hk] at C1
    rw [enc_no hk] at hN ⊢
    have hN2 : m + 0 = N := hN
    clear hk hN hl
    go_enter Tryz.func23, Tryz.ntmps23
    go_wp2_with fail
    refine (C1.out _).mono ?_
    rintro e w1 ⟨rfl, b⟩
    replace b1 := bnext b1 b
    go_wp2_with fail
    refine (join_li A m c l none 0 0 [] w1 (hA.keeps b1) (li_nil _) N hN2 (by omega)).mono ?_
    rintro e w2 ⟨a', c', rfl, L, b2⟩
    go_wp2_with fail
    go_ret
    exact ⟨a', c', rfl, L, bnext b1 b2⟩
  · rw [hk] at C1
    have C2 := Lib.hid (rbytes_any k n s hk)
    rw [← enc_ok hk] at C2
    generalize enc ⟨k, n, s⟩ = x at *
    clear hk
    go_enter Tryz.func23, Tryz.ntmps23
    go_wp2_with fail
    refine (C1.out _).mono ?_
    rintro e w1 ⟨rfl, b⟩
    obtain ⟨c0, c1, c2⟩ := V0.keeps b
    replace b1 := bnext b1 b
    go_wp2_with fail
    refine (C2.out _).mono ?_
    rintro e w2 ⟨B, d, rfl, LB, b2⟩
    have b3 := bnext b1 b2
    go_wp2_with fail
    refine (join_li A m c l B x.length d x w2 (hA.keeps b3) LB N hN (by omega)).mono ?_
    rintro e w3 ⟨a', c', rfl, L, b4⟩
    go_wp2_with fail
    go_ret
    exact ⟨a', c', rfl, L, bnext b3 b4⟩
end Go.Proofs.YtmogkinaegdioaaGreatDoor
