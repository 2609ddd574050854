/-
  The walk of ValuesShort.
-/
import Derived.Test.YtmogkinaegdioaaGreatDoorShv
namespace Go.Proofs.YtmogkinaegdioaaGreatDoor
open Go.RowKit dec

/-- The first bytes of a slice. -/
theorem Li.first {w : World} {b off n c : Nat} {l : List Nat} (h : Li w (some ⟨b, off, none⟩) n c l) {j : Nat} (hj : j ≤ n) : Li w (some ⟨b, off, none⟩) j c (l.take j) := by
  have := h.hat.cut 0 j
  rw [List.drop_zero, Nat.add_zero] at this
  exact ⟨this, by rw [List.length_take, h.hn]; omega, Nat.le_trans hj h.hcap, h.hmax, Nat.le_trans hj h.hlim, fun e => by cases e⟩
theorem Li.some {w : World} {a : Option Addr} {n c : Nat} {l : List Nat} (h : Li w a n c l) (hn : 0 < n) : ∃ b off, a = some ⟨b, off, none⟩ := by
  rcases h.hat.1 with h0 | ⟨b, off, e, -⟩
  · have := h.hn; omega
  · exact ⟨b, off, e⟩
theorem ok_size {k n : Int} {s : ByteArray} (h : ok ⟨k, n, s⟩ = true) : s.size ≤ 64 := by
  rcases ok_cases h with h | h | h | ⟨m, h, -, -⟩ | ⟨m, h, -, -⟩ | ⟨t, h, h1, -⟩ | ⟨t, h, -, h1, -⟩ <;> cases h <;> first | assumption | exact Nat.zero_le _ | omega

set_option maxRecDepth 100000 in
set_option maxHeartbeats 1000000 in
theorem walk_short (k n : Int) (s : ByteArray) (z : Int) (w : World) (T : Tabs w) :
    Calls Tryz.prog 10 #[.agg #[.int .i64 k, .int .i64 n, .string s], .int .i64 z] w fun e w' => e = .returned (.bool true) ∧ Below w.heap.size w w' := by
  have b1 := balloc (b0 w) (.cells #[.int .i64 k, .int .i64 n, .string s] 23)
  have V := Vx.new w k n s 23
  have C := example_any _ (T.stays b1)
  go_enter Tryz.func10, Tryz.ntmps10
  go_wp2_with fail
  refine C.mono ?_
  rintro e w1 ⟨rfl, b⟩
  replace V := V.keeps b
  replace b1 := bnext b1 b
  clear b C T
  obtain ⟨c0, c1, c2⟩ := id V
  go_wp2_with fail
  refine (short_any k n s w1).mono ?_
  rintro e w2 ⟨rfl, b⟩
  replace V := V.keeps b
  replace b1 := bnext b1 b
  clear b c0 c1 c2
  obtain ⟨c0, c1, c2⟩ := id V
  by_cases hs : s.size ≤ 300
  · rw [decide_eq_true hs]
    have hs' := Lib.hid hs
    clear hs
    go_wp2_with fail
    refine (valid_any k n s (by have := hs'.out; omega) w2).mono ?_
    rintro e w3 ⟨rfl, b⟩
    replace V := V.keeps b
    replace b1 := bnext b1 b
    clear b c0 c1 c2
    obtain ⟨c0, c1, c2⟩ := id V
    by_cases hk : ok ⟨k, n, s⟩ = true
    · rw [hk]
      obtain ⟨N, hN⟩ : ∃ N, (enc ⟨k, n, s⟩).length = N := ⟨_, rfl⟩
      have hlen := enc_len ⟨k, n, s⟩
      have C1 := Lib.hid (fun W => appendV_any none 0 0 [] k n s (by have := hs'.out; omega) W (li_nil W) (by omega) N (by omega))
      have hN' := Lib.hid hN
      have hk' := Lib.hid hk
      clear hk hN
      go_wp2_with fail
      refine (C1.out _).mono ?_
      rintro e w4 ⟨a, c, rfl, L, b⟩
      rw [List.nil_append] at L
      replace b1 := bnext b1 b
      clear C1 b c0 c1 c2 V
      by_cases hz : 0 ≤ z ∧ z < N
      · obtain ⟨j, rfl⟩ : ∃ j : Nat, z = j := ⟨z.toNat, by omega⟩
        obtain ⟨g, off, rfl⟩ := L.some (by omega)
        have hj : j < N := by omega
        have hcap := L.hcap
        have hmax := L.hmax
        have hr := rV_short hk'.out (j := j) (by rw [← enc_ok hk'.out, hN'.out]; exact hj)
        rw [← enc_ok hk'.out] at hr
        have C2 := Lib.hid (fun W L => readV_any (some ⟨g, off, none⟩) j c _ 0 W L (by have := hN'.out; omega) _ _ _ hr)
        have LF := Lib.hid (L.first (j := j) (by omega))
        clear L hr
        go_wp2_with fail
        refine (C2.out _ LF.out).mono ?_
        rintro e w5 ⟨rfl, b⟩
        replace b1 := bnext b1 b
        clear b
        go_wp2_with fail
        go_ret
        exact ⟨rfl, bnext b1 (balloc (b0 _) _)⟩
      · have q : ¬ (0 ≤ z ∧ z < N) := hz
        by_cases h0 : z < 0
        · go_wp2_with fail
          go_ret
          exact ⟨rfl, b1⟩
        · have h1 : (N : Int) ≤ z := by omega
          have h2 : ¬ z < 0 := h0
          go_wp2_with fail
          go_ret
          exact ⟨rfl, b1⟩
    · rw [Bool.not_eq_true] at hk
      rw [hk]
      go_wp2_with fail
      go_ret
      exact ⟨rfl, b1⟩
  · rw [decide_eq_false hs]
    go_wp2_with fail
    go_ret
    exact ⟨rfl, b1⟩
end Go.Proofs.YtmogkinaegdioaaGreatDoor
