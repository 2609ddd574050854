/-
  The walk of ChecksumDiffers.
-/
import Derived.Test.YtchmnnagbnpijaaWDet2
namespace Go.Proofs.Ytchmnnagbnpijaa
open Go.RowKit

/-- Hash, in a world of its own. -/
theorem zero_at (w : World) : At (w.alloc (.cells #[.int .u8 0] 5)) (some ⟨w.heap.size, 0, none⟩) 1 (cst 0) := by
  refine ⟨.inr ⟨_, _, rfl, fun j hj => ?_⟩, fun j hj => by unfold cst; omega⟩
  obtain rfl : j = 0 := by omega
  simp only [World.cell?, heap_alloc]
  rfl
theorem seed_ne {f : Nat → Nat} {n s N H : Nat} (hf : ∀ j, j < n → f j < 256) (hs : s < 18446744073709551616) (hN : N < 18446744073709551616) (h0 : N ≠ 0) (hH : hsh f n s = H) : hsh f n (s ^^^ N) ≠ H := by
  intro h
  rw [← hH] at h
  have h1 := hsh_seed hf (xor64 hs hN) hs h
  have h2 := congrArg (s ^^^ ·) h1
  simp only [← Nat.xor_assoc, Nat.xor_self, Nat.zero_xor] at h2
  exact h0 h2
theorem zero_ne {f : Nat → Nat} {n s H : Nat} (hf : ∀ j, j < n → f j < 256) (hs : s < 18446744073709551616) (h8 : n % 8 ≠ 0) (hH : hsh f n s = H) : hsh (cat f n (cst 0)) (n + 1) s ≠ H := by
  rw [← hH]
  exact hsh_zero hf hs h8 (fun i hi => by unfold cat; rw [if_pos hi]) (by unfold cat cst; rw [if_neg (by omega)])
theorem byte_walk (N k : Nat) : (N : Int) / 2 ^ (8 * k) % 256 = ((N / 2 ^ (8 * k) % 256 : Nat) : Int) := by
  rw [Int.natCast_emod, Int.natCast_ediv, Int.natCast_pow]
  rfl
theorem ne_walk (c : Nat) : ((c : Int) != 0) = decide (c ≠ 0) := by
  rw [Bool.eq_iff_iff, bne_iff_ne, decide_eq_true_eq]
  omega
theorem ne_false {T H : Nat} (h : T ≠ H) : ((T : Int) == (H : Int)) = false := by rw [beq_eq_false_iff_ne]; omega
theorem ne_true {T H : Nat} (h : T ≠ H) : ((T : Int) != (H : Int)) = true := by rw [bne_iff_ne]; omega

/-- What the loop knows: the bytes from first on, k of them, may be changed. -/
structure Grp (w wr : World) (B n first k : Nat) (f g : Nat → Nat) (ch : Bool) : Prop where
  X : Wr wr B n g
  G : ∀ j, j < n → g j < 256
  o : ∀ i, i < n → (i < first ∨ first + k ≤ i) → g i = f i
  c0 : ch = false → ∀ i, i < n → g i = f i
  c1 : ch = true → ∃ i, i < n ∧ i < first + k ∧ g i ≠ f i
  k : Below w.heap.size w wr
theorem Grp.step {w wr : World} {B n first k c : Nat} {f g : Nat → Nat} {ch : Bool} (h : Grp w wr B n first k f g ch) (hB : w.heap.size ≤ B) (hin : first + k < n) (hc : c < 256) :
    Grp w (wr.setCell ⟨B, first + k, none⟩ (.int .u8 ((g (first + k) ^^^ c : Nat) : Int))) B n first (k + 1) f (upd g (first + k) (g (first + k) ^^^ c)) (ch || decide (c ≠ 0)) := by
  have hg := h.o (first + k) hin (.inr (Nat.le_refl _))
  refine ⟨h.X.set hin _, upd_lt h.G (Nat.xor_lt_two_pow (n := 8) (h.G _ hin) hc), fun i hi hio => ?_, fun he i hi => ?_, fun he => ?_, h.k.setCell (p := ⟨B, first + k, none⟩) hB _⟩
  · rw [upd_off _ _ _ (by omega)]
    exact h.o i hi (by omega)
  · simp only [Bool.or_eq_false_iff, decide_eq_false_iff_not, ne_eq, Decidable.not_not] at he
    obtain ⟨h1, rfl⟩ := he
    by_cases hi2 : i = first + k
    · subst hi2
      rw [upd_at, Nat.xor_zero]
      exact hg
    · rw [upd_off _ _ _ hi2]
      exact h.c0 h1 i hi
  · by_cases h1 : ch = true
    · obtain ⟨i, h2, h3, h4⟩ := h.c1 h1
      exact ⟨i, h2, by omega, by rw [upd_off _ _ _ (by omega)]; exact h4⟩
    · have hc0 : c ≠ 0 := by
        intro h0
        subst h0
        simp at he
        exact h1 he
      refine ⟨first + k, hin, by omega, ?_⟩
      rw [upd_at, hg]
      intro h2
      have h3 := congrArg (f (first + k) ^^^ ·) h2
      simp only [← Nat.xor_assoc, Nat.xor_self, Nat.zero_xor] at h3
      exact hc0 h3
theorem Grp.same {w wr : World} {B n first k s H : Nat} {f g : Nat → Nat} (h : Grp w wr B n first k f g false) (hH : hsh f n s = H) : hsh g n s = H := by
  rw [← hH]
  exact hsh_congr (h.c0 rfl)
theorem Grp.other {w wr : World} {B n q k s H : Nat} {f g : Nat → Nat} (h : Grp w wr B n (8 * q) k f g true) (hq : 8 * q < n) (hk : k ≤ 8) (hf : ∀ j, j < n → f j < 256) (hs : s < 18446744073709551616) (hH : hsh f n s = H) : hsh g n s ≠ H := by
  rw [← hH]
  intro he
  obtain ⟨i, h1, _, h3⟩ := h.c1 rfl
  exact h3 (hsh_group h.G hf hs q hq (fun i hi ho => h.o i hi (by omega)) he i h1)

set_option maxRecDepth 100000 in
set_option maxHeartbeats 4000000 in
theorem diff_zz (s : Nat) (a : Option Addr) (n cap : Nat) (f : Nat → Nat) (at' : Int) (N : Nat) (w : World) (hs : s < 18446744073709551616) (_hN : N < 18446744073709551616) (n1 H : Nat) (l2 : n1 ≤ 400)
    (A1 : At w a n1 f) (A2 : n1 ≤ cap) (A3 : cap ≤ 9223372036854775807) (A4 : n1 ≤ 140737488351232) (_A5 : a = none → cap = 0)
    (c1 : ∀ w, Calls Try.prog 10 #[.slice a n cap, .int .i64 400] w fun e w' => e = .returned (.slice a n1 cap) ∧ w = w') (HH : Hid (hsh f n1 s = H)) (h0 : N = 0) (h8 : n1 % 8 = 0) :
    Calls Try.prog 9 #[.int .u64 (s : Nat), .slice a n cap, .int .i64 at', .int .u64 (N : Nat)] w fun e w' => e = .returned (.bool true) ∧ Below w.heap.size w w' := by
  have t1 : ((N : Int) == 0) = true := by rw [beq_iff_eq]; omega
  have t2 : ((N : Int) != 0) = false := by rw [bne_eq_false_iff_eq]; omega
  clear h0
  have t5 : ((n1 : Int) % 8 != 0) = false := by rw [bne_eq_false_iff_eq]; omega
  have t6 : ((n1 : Int) % 8 == 0) = true := by rw [beq_iff_eq]; omega
  clear h8
  go_enter Try.func9, Try.ntmps9
  go_wp2_with fail
  refine (c1 _).mono ?_
  rintro e w' ⟨rfl, rfl⟩
  go_wp2_with fail
  refine (hash_at HH.out hs a cap w A4 A2 A3 A1).mono ?_
  rintro e w' ⟨rfl, rfl⟩
  go_wp2_with fail
  refine (example_any w).mono ?_
  rintro e w1 ⟨rfl, k⟩
  go_wp2_with fail
  all_goals (go_ret; exact ⟨rfl, k⟩)
set_option maxRecDepth 100000 in
set_option maxHeartbeats 4000000 in
theorem diff_zb (s : Nat) (a : Option Addr) (n cap : Nat) (f : Nat → Nat) (at' : Int) (N : Nat) (w : World) (hs : s < 18446744073709551616) (_hN : N < 18446744073709551616) (n1 H : Nat) (l2 : n1 ≤ 400)
    (A1 : At w a n1 f) (A2 : n1 ≤ cap) (A3 : cap ≤ 9223372036854775807) (A4 : n1 ≤ 140737488351232) (A5 : a = none → cap = 0)
    (c1 : ∀ w, Calls Try.prog 10 #[.slice a n cap, .int .i64 400] w fun e w' => e = .returned (.slice a n1 cap) ∧ w = w') (HH : Hid (hsh f n1 s = H)) (h0 : N = 0) (h8 : n1 % 8 ≠ 0) :
    Calls Try.prog 9 #[.int .u64 (s : Nat), .slice a n cap, .int .i64 at', .int .u64 (N : Nat)] w fun e w' => e = .returned (.bool true) ∧ Below w.heap.size w w' := by
  have t1 : ((N : Int) == 0) = true := by rw [beq_iff_eq]; omega
  have t2 : ((N : Int) != 0) = false := by rw [bne_eq_false_iff_eq]; omega
  clear h0
  have t5 : ((n1 : Int) % 8 != 0) = true := by rw [bne_iff_ne]; omega
  have t6 : ((n1 : Int) % 8 == 0) = false := by rw [beq_eq_false_iff_ne]; omega
  have hZ := zero_ne A1.2 hs h8 HH.out
  have hcl := cat_lt (g := cst 0) (m := 1) A1.2 (fun _ _ => by unfold cst; omega)
  obtain ⟨Z, hZ0⟩ : ∃ Z, hsh (cat f n1 (cst 0)) (n1 + 1) s = Z := ⟨_, rfl⟩
  rw [hZ0] at hZ
  have t7 := ne_false hZ
  have t8 := ne_true hZ
  have HZ := Lib.hid hZ0
  clear hZ hZ0 h8
  go_enter Try.func9, Try.ntmps9
  go_wp2_with fail
  refine (c1 _).mono ?_
  rintro e w' ⟨rfl, rfl⟩
  go_wp2_with fail
  refine (hash_at HH.out hs a cap w A4 A2 A3 A1).mono ?_
  rintro e w' ⟨rfl, rfl⟩
  go_wp2_with fail
  refine (example_any w).mono ?_
  rintro e w1 ⟨rfl, k⟩
  have O := Own.empty w1 w1.heap.size (Nat.le_refl _) f
  have hb := balloc (b0 w1) (.cells #[] 5)
  have A0 := (A1.keeps k).keeps hb
  go_wp2_with (first | (at_builtin; refine wpList_app_if _ rfl (.tmp 43) (.tmp 44) rfl w1.heap.size 0 _ f rfl O a n1 cap f rfl A0 A5 (by omega) hb.size ?_; intro v2 w2 O2 hb2; rw [Nat.zero_add, cat_zero] at O2; have k2 := hb.trans hb2; clear hb2 O hb A0; have O3 : Own (w2.alloc (.cells #[.int .u8 0] 5)) w1.heap.size v2 n1 f := World.ownsRow.alloc O2 _; have k3 := k2.alloc k2.size (.cells #[.int .u8 0] 5); have ZA := zero_at w2) | (at_builtin; refine wpList_app_if _ rfl (.tmp 45) (.tmp 46) rfl w1.heap.size n1 v2 f rfl O3 (some ⟨w2.heap.size, 0, none⟩) 1 1 (cst 0) rfl ZA (fun h => by cases h) (by omega) k3.size ?_; intro v4 w4 O4 hb4; have k4 := bnext k (k3.trans hb4); clear hb4 O2 O3 k2 k3 ZA; obtain ⟨a4, cp4, rfl, C1, C2, C3, C4⟩ := O4.at hcl; clear O4))
  refine (hash_at HZ.out hs a4 cp4 _ (by omega) C2 C3 C1).mono ?_
  rintro e w' ⟨rfl, rfl⟩
  have k := k4
  clear k4
  go_wp2_with fail
  all_goals (go_ret; exact ⟨rfl, k⟩)
set_option maxRecDepth 100000 in
set_option maxHeartbeats 4000000 in
theorem diff_n0 (s : Nat) (a : Option Addr) (n cap : Nat) (f : Nat → Nat) (at' : Int) (N : Nat) (w : World) (hs : s < 18446744073709551616) (hN : N < 18446744073709551616) (n1 H : Nat) (l2 : n1 ≤ 400)
    (A1 : At w a n1 f) (A2 : n1 ≤ cap) (A3 : cap ≤ 9223372036854775807) (A4 : n1 ≤ 140737488351232) (_A5 : a = none → cap = 0)
    (c1 : ∀ w, Calls Try.prog 10 #[.slice a n cap, .int .i64 400] w fun e w' => e = .returned (.slice a n1 cap) ∧ w = w') (HH : Hid (hsh f n1 s = H)) (h0 : N ≠ 0) (h8 : n1 % 8 = 0) (hm : n1 = 0) :
    Calls Try.prog 9 #[.int .u64 (s : Nat), .slice a n cap, .int .i64 at', .int .u64 (N : Nat)] w fun e w' => e = .returned (.bool true) ∧ Below w.heap.size w w' := by
  have t1 : ((N : Int) == 0) = false := by rw [beq_eq_false_iff_ne]; omega
  have t2 : ((N : Int) != 0) = true := by rw [bne_iff_ne]; omega
  have hT := seed_ne A1.2 hs hN h0 HH.out
  have e1 := x64 hs hN
  have hsN := xor64 hs hN
  generalize s ^^^ N = sN at *
  obtain ⟨T, hT0⟩ : ∃ T, hsh f n1 sN = T := ⟨_, rfl⟩
  rw [hT0] at hT
  have t3 := ne_false hT
  have t4 := ne_true hT
  have HT := Lib.hid hT0
  clear hT hT0 h0
  have t5 : ((n1 : Int) % 8 != 0) = false := by rw [bne_eq_false_iff_eq]; omega
  have t6 : ((n1 : Int) % 8 == 0) = true := by rw [beq_iff_eq]; omega
  clear h8
  have t9 : ((n1 : Int) == 0) = true := by rw [beq_iff_eq]; omega
  clear hm
  go_enter Try.func9, Try.ntmps9
  go_wp2_with fail
  refine (c1 _).mono ?_
  rintro e w' ⟨rfl, rfl⟩
  go_wp2_with fail
  refine (hash_at HH.out hs a cap w A4 A2 A3 A1).mono ?_
  rintro e w' ⟨rfl, rfl⟩
  go_wp2_with fail
  refine (example_any w).mono ?_
  rintro e w1 ⟨rfl, k⟩
  go_wp2_with fail
  refine (hash_at HT.out hsN a cap w1 A4 A2 A3 (A1.keeps k)).mono ?_
  rintro e w' ⟨rfl, rfl⟩
  go_wp2_with fail
  all_goals (go_ret; exact ⟨rfl, k⟩)
end Go.Proofs.Ytchmnnagbnpijaa
