/-
  slices.Grow at nil, slices.Concat of two byte strings, values.Append.
-/
import Derived.Test.YtnkdclodmeaihaaGreatDoorApv
import Derived.Lib.AppendZeros
namespace Go.Proofs.YtnkdclodmeaihaaGreatDoor
open Go.RowKit dec

theorem sliceT : Tryz.prog.underlying 32 = some (.slice 5) := Tryz.underlying32
theorem OwL.zeros (w : World) (n : Nat) (hn : n ≤ 100000) :
    OwL (w.drew.alloc (.cells (Builtin.zeroCells #[.int .u8 0] n ++ Builtin.zeroCells #[.int .u8 0] (grownCap w n 0 5 - n)) 5)) w.heap.size (.slice (some ⟨w.heap.size, 0, none⟩) 0 (grownCap w n 0 5)) 0 [] := by
  have h1 := grownCap_ge w n 0 5
  have h2 := grownCap_le_maxLen w n 0 5 (by unfold maxLen; omega)
  have hz : ∀ k, (Builtin.zeroCells #[.int .u8 0] k).size = k := fun k => by simp [Builtin.zeroCells]
  refine ⟨⟨rfl, .inr ⟨w.heap.size, _, _, rfl, Nat.le_refl _, heap_alloc_new w.drew _, Nat.zero_le _, h2, ?_, rfl⟩⟩, By.nil, rfl⟩
  rw [Array.size_append, hz, hz]
  omega
theorem zeros_run (n : Nat) (h0 : 0 < n) (hn : n ≤ 100000) (w : World) : ∃ c w', (∀ ty, (Builtin.append_ #[32, 3] ty #[.slice none 0 0, .int .i64 (n : Nat)]).run Tryz.prog w = .ok (.slice (some ⟨w.heap.size, 0, none⟩) n c) w') ∧
    OwL w' w.heap.size (.slice (some ⟨w.heap.size, 0, none⟩) 0 c) 0 [] ∧ Below w.heap.size w w' ∧ n ≤ c ∧ c ≤ 9223372036854775807 := by
  obtain ⟨i, hi, hz0, hz1, hz2⟩ := info_parts info5
  have h1 := grownCap_ge w n 0 5
  have h2 := grownCap_le_maxLen w n 0 5 (by unfold maxLen; omega)
  exact ⟨_, _, fun ty => Lib.run_append_nil_zeros (P := Tryz.prog) w 32 3 ty 5 i (.int .u8 0) .i64 .i64 Tryz.underlying32 Tryz.underlying3 hi hz0 n h0 (by omega) (by omega) (by rw [hz2]; omega), OwL.zeros w n hn, (b0 w).drew.alloc (Nat.le_refl _) _, h1, by unfold maxLen at h2; omega⟩
set_option maxRecDepth 100000 in
theorem grow_any (n : Nat) (hn : n ≤ 100000) (w : World) : Calls Tryz.prog 59 #[.slice none 0 0, .int .i64 (n : Nat)] w fun e w' => ∃ v, e = .returned v ∧ OwL w' w.heap.size v 0 [] ∧ Below w.heap.size w w' := by
  by_cases h0 : 0 < n
  · obtain ⟨c, w1, hr, O, b1, hc, hm⟩ := zeros_run n h0 hn w
    have HR := Lib.hid hr
    have HM := Lib.hid hm
    clear hm
    clear hr
    go_enter Tryz.func59, Tryz.ntmps59
    go_wp2_with (at_builtin; refine Lib.wpList_append_run _ rfl (.tmp 20) (.tmp 21) 32 3 rfl _ _ rfl rfl _ _ (HR.out _) ?_)
    go_ret
    exact ⟨_, rfl, O, b1⟩
  · obtain rfl : n = 0 := by omega
    go_enter Tryz.func59, Tryz.ntmps59
    go_wp2_with fail
    go_ret
    exact ⟨_, rfl, OwL.nil _ _, b0 _⟩
theorem concat_any (g : Nat) (A : Option Addr) (n c : Nat) (l : List Nat) (B : Option Addr) (m d : Nat) (r : List Nat) (w : World) (h0 : w.cell? ⟨g, 0, none⟩ = some (.slice A n c)) (h1 : w.cell? ⟨g, 1, none⟩ = some (.slice B m d)) (hA : Li w A n c l) (hB : Li w B m d r) (hs : n + m ≤ 100000) :
    Calls Tryz.prog 31 #[.slice (some ⟨g, 0, none⟩) 2 2] w fun e w' => ∃ v, e = .returned v ∧ OwL w' w.heap.size v (n + m) (l ++ r) ∧ Below w.heap.size w w' := by
  have HA := Lib.hid hA
  have HB := Lib.hid hB
  have CG : Hid (∀ W, Calls Tryz.prog 59 #[.slice none 0 0, .int .i64 ((n : Int) + (m : Int))] W fun e w' => ∃ v, e = .returned v ∧ OwL w' W.heap.size v 0 [] ∧ Below W.heap.size W w') := Lib.hid (fun W => by have := grow_any (n + m) hs W; rw [Int.natCast_add] at this; exact this)
  clear hA hB
  go_enter Tryz.func31, Tryz.ntmps31
  go_wp2_with fail
  go_loopw [3, 11] (fun x y wr => ((x = .int .i64 0 ∧ y = .int .i64 0) ∨ (x = .int .i64 (n : Nat) ∧ y = .int .i64 1) ∨ (x = .int .i64 ((n : Int) + (m : Int)) ∧ y = .int .i64 2)) ∧ wr = w) (fun _ y _ => 2 - (intOf y).toNat)
  case atStart => exact ⟨.inl ⟨rfl, rfl⟩, rfl⟩
  case round =>
    obtain ⟨⟨rfl, rfl⟩ | ⟨rfl, rfl⟩ | ⟨rfl, rfl⟩, rfl⟩ := hrel
    · go_wp2_with fail
      exact ⟨⟨.inr (.inl ⟨rfl, rfl⟩), trivial⟩, by show 2 - (1 : Int).toNat < 2 - (0 : Int).toNat; decide⟩
    · go_wp2_with fail
      exact ⟨⟨.inr (.inr ⟨rfl, rfl⟩), trivial⟩, by show 2 - (2 : Int).toNat < 2 - (1 : Int).toNat; decide⟩
    · go_wp2_with fail
      refine (CG.out _).mono ?_
      rintro e w1 ⟨v, rfl, O, b1⟩
      have hno1 := Lib.hid HA.out.hno
      have hno2 := Lib.hid HB.out.hno
      have hn1 := Lib.hid HA.out.hn
      have hn2 := Lib.hid HB.out.hn
      clear CG
      go_wp2_with fail
      obtain ⟨W0, rfl⟩ : ∃ W0, W0 = wr := ⟨_, rfl⟩
      go_loopw [6, 27] (fun x y w2 => ((y = .int .i64 0 ∧ OwL w2 W0.heap.size x 0 []) ∨ (y = .int .i64 1 ∧ OwL w2 W0.heap.size x n l) ∨ (y = .int .i64 2 ∧ OwL w2 W0.heap.size x (n + m) (l ++ r))) ∧ Below W0.heap.size w1 w2) (fun _ y _ => 2 - (intOf y).toNat)
      case atStart => exact ⟨.inl ⟨rfl, O⟩, Below.refl _ _⟩
      case round =>
        clear O
        obtain ⟨⟨rfl, O⟩ | ⟨rfl, O⟩ | ⟨rfl, O⟩, hb⟩ := hrel
        · have b2 := b1.trans hb
          have k0 := keeps b2 h0
          have LA := (HA.out.keeps b2).hat
          have hsz : W0.heap.size ≤ wr.heap.size := b2.size
          go_wp2_with (at_builtin; refine wpList_appL _ rfl (.tmp 31) (.tmp 32) rfl W0.heap.size 0 _ [] rfl O A n c l rfl LA hn1.out hno1.out (by omega) hsz ?_; intro v' w' O' b')
          refine ⟨⟨.inr (.inl ⟨rfl, by rw [Nat.zero_add, List.nil_append] at O'; exact O'⟩), hb.trans b'⟩, by show 2 - (1 : Int).toNat < 2 - (0 : Int).toNat; decide⟩
        · have b2 := b1.trans hb
          have k1 := keeps b2 h1
          have LA := (HB.out.keeps b2).hat
          have hsz : W0.heap.size ≤ wr.heap.size := b2.size
          go_wp2_with (at_builtin; refine wpList_appL _ rfl (.tmp 31) (.tmp 32) rfl W0.heap.size n _ l rfl O B m d r rfl LA hn2.out hno2.out (by omega) hsz ?_; intro v' w' O' b')
          refine ⟨⟨.inr (.inr ⟨rfl, O'⟩), hb.trans b'⟩, by show 2 - (2 : Int).toNat < 2 - (1 : Int).toNat; decide⟩
        · go_wp2_with fail
          go_ret
          exact ⟨_, rfl, O, b1.trans hb⟩
theorem appendV_any (A : Option Addr) (m c : Nat) (l : List Nat) (k n : Int) (s : ByteArray) (hs : s.size ≤ 1000) (w : World) (hA : Li w A m c l) (hm : m ≤ 90000) (N : Nat) (hN : m + (enc ⟨k, n, s⟩).length = N) :
    Calls Tryz.prog 12 #[.slice A m c, .agg #[.int .i64 k, .int .i64 n, .string s]] w fun e w' => ∃ a' c', e = .returned (.slice a' N c') ∧ Li w' a' N c' (l ++ enc ⟨k, n, s⟩) ∧ Below w.heap.size w w' := by
  have C1 := Lib.hid (encoding_any k n s hs)
  have hl := enc_len ⟨k, n, s⟩
  generalize enc ⟨k, n, s⟩ = x at *
  have HA := Lib.hid hA
  clear hA
  go_enter Tryz.func12, Tryz.ntmps12
  go_wp2_with fail
  refine (C1.out _).mono ?_
  rintro e w1 ⟨B, d, rfl, LB, b1⟩
  have b2 := (balloc (b0 w) _).trans (b1.mono (by simp))
  clear b1
  have C2 := Lib.hid (fun W h0 h1 hA hB => concat_any w1.heap.size A m c l B x.length d x W h0 h1 hA hB (by omega))
  go_wp2_with fail
  refine (C2.out _ ?_ ?_ ?_ ?_).mono ?_
  · simp [go_sem]
  · simp [go_sem]
  · exact (HA.out.keeps b2).keeps (balloc (b0 _) _)
  · exact LB.keeps (balloc (b0 _) _)
  rintro e w2 ⟨v, rfl, O, b3⟩
  obtain ⟨a', c', rfl, L⟩ := O.li (by omega)
  go_wp2_with fail
  go_ret
  subst hN
  exact ⟨a', c', rfl, L, (b2.alloc b2.size _).trans (b3.mono (by simp; have := b2.size; omega))⟩
end Go.Proofs.YtnkdclodmeaihaaGreatDoor
