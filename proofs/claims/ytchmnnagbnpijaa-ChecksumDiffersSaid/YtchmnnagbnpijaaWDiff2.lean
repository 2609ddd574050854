/-
  The walk of ChecksumDiffers where a group is changed.
-/
import Derived.Test.YtchmnnagbnpijaaWDiff
namespace Go.Proofs.Ytchmnnagbnpijaa
open Go.RowKit

set_option maxRecDepth 100000 in
set_option maxHeartbeats 4000000 in
theorem diff_m8 (s : Nat) (a : Option Addr) (n cap : Nat) (f : Nat → Nat) (at' : Int) (N : Nat) (w : World) (hs : s < 18446744073709551616) (hN : N < 18446744073709551616) (n1 H : Nat) (l2 : n1 ≤ 400)
    (A1 : At w a n1 f) (A2 : n1 ≤ cap) (A3 : cap ≤ 9223372036854775807) (A4 : n1 ≤ 140737488351232) (A5 : a = none → cap = 0)
    (c1 : ∀ w, Calls Try.prog 10 #[.slice a n cap, .int .i64 400] w fun e w' => e = .returned (.slice a n1 cap) ∧ w = w') (HH : Hid (hsh f n1 s = H)) (h0 : N ≠ 0) (h8 : n1 % 8 = 0) (hm : 0 < n1) :
    Calls Try.prog 9 #[.int .u64 (s : Nat), .slice a n cap, .int .i64 at', .int .u64 (N : Nat)] w fun e w' => e = .returned (.bool true) ∧ Below w.heap.size w w' := by
  have t1 : ((N : Int) == 0) = false := by rw [beq_eq_false_iff_ne]; omega
  have t2 : ((N : Int) != 0) = true := by rw [bne_iff_ne]; omega
  have hT := seed_ne A1.2 hs hN h0 HH.out
  have e1 := x64 hs hN
  have hsN := xor64 hs hN
  generalize s ^^^ N = sN at *
  obtain ⟨T, hT0⟩ : ∃ T, hsh f n1 sN = T := ⟨_, rfl⟩
  rw [hT0] at hT
  have t3 := ne_false hT
  have t4 := ne_true hT
  have HT := Lib.hid hT0
  clear hT hT0 h0
  have t5 : ((n1 : Int) % 8 != 0) = false := by rw [bne_eq_false_iff_eq]; omega
  have t6 : ((n1 : Int) % 8 == 0) = true := by rw [beq_iff_eq]; omega
  clear h8
  have t9 : ((n1 : Int) == 0) = false := by rw [beq_eq_false_iff_ne]; omega
  obtain ⟨r1, r2⟩ := tmod_in at' n1 hm
  generalize hr : at'.tmod (n1 : Int) = r at *
  go_enter Try.func9, Try.ntmps9
  go_wp2_with fail
  refine (c1 _).mono ?_
  rintro e w' ⟨rfl, rfl⟩
  go_wp2_with fail
  refine (hash_at HH.out hs a cap w A4 A2 A3 A1).mono ?_
  rintro e w' ⟨rfl, rfl⟩
  go_wp2_with fail
  refine (example_any w).mono ?_
  rintro e w1 ⟨rfl, k⟩
  go_wp2_with fail
  refine (hash_at HT.out hsN a cap w1 A4 A2 A3 (A1.keeps k)).mono ?_
  rintro e w' ⟨rfl, rfl⟩
  have O5 := Own.empty w1 w1.heap.size (Nat.le_refl _) f
  have hb := balloc (b0 w1) (.cells #[] 5)
  have A6 := (A1.keeps k).keeps hb
  go_wp2_with (at_builtin; refine wpList_app _ rfl (.tmp 72) (.tmp 73) rfl w1.heap.size 0 _ f rfl O5 a n1 cap f rfl A6 A5 (by omega) hb.size ?_; intro v7 w7 O7 hb7; rw [Nat.zero_add, cat_zero] at O7; have k7 := bnext k (hb.trans hb7); clear hb7 O5 hb A6; have hsz := k.size; obtain ⟨B, cp7, rfl, hB0, hB1, hB2, hB3, X⟩ := O7.out.resolve_left (fun h => Nat.ne_of_gt hm h.2); clear O7; have hB : w.heap.size ≤ B := Nat.le_trans hsz hB0)
  · have hq : ∃ q : Nat, (r + (n1 : Int)) / 8 * 8 = ((8 * q : Nat) : Int) ∧ 8 * q < n1 := ⟨((r + (n1 : Int)) / 8).toNat, by omega, by omega⟩
    obtain ⟨q, hq, hqn⟩ := hq
    rw [hq]
    clear hr hq r1 r2
    have L0 : Grp w w7 B n1 (8 * q) 0 f f false := ⟨X, A1.2, fun _ _ _ => rfl, fun _ _ _ => rfl, (fun h => by cases h), k7⟩
    clear X
    obtain ⟨fs, hfs⟩ : ∃ fs, 8 * q = fs := ⟨_, rfl⟩
    have HF := Lib.hid hfs
    rw [hfs] at L0 hqn ⊢
    clear hfs
    go_loopw [14, 15] (fun ch i wr => ∃ (k : Nat) (g : Nat → Nat) (c : Bool), k ≤ 8 ∧ i = .int .i64 k ∧ ch = .bool c ∧ Grp w wr B n1 fs k f g c) (fun _ i _ => 8 - (intOf i).toNat)
    case atStart => exact ⟨0, f, false, by omega, rfl, rfl, L0⟩
    case round =>
      clear L0
      obtain ⟨k, g, ch, hk, rfl, rfl, L⟩ := hrel
      by_cases hlt : k < 8 ∧ fs + k < n1
      · obtain ⟨hk8, hin⟩ := hlt
        obtain ⟨cx, fx⟩ := L.X (fs + k) hin
        have LS := L.step hB hin (show N / 2 ^ (8 * k) % 256 < 256 by omega)
        have EW := Lib.hid (x8 (L.G _ hin) (show N / 2 ^ (8 * k) % 256 < 256 by omega))
        have EC := Lib.hid (byte_walk N k)
        have EN := Lib.hid (ne_walk (N / 2 ^ (8 * k) % 256))
        generalize N / 2 ^ (8 * k) % 256 = c at *
        have LS := Lib.hid LS
        rcases ch with _ | _
        · go_wp2_with fail
          go_roundw
          case rel => exact ⟨k + 1, _, decide (c ≠ 0), by omega, by go_num, by rw [EC.out, EN.out], by rw [EC.out, EW.out]; exact LS.out⟩
          case measure => simp [intOf]; omega
        · go_wp2_with fail
          go_roundw
          case rel => exact ⟨k + 1, _, true, by omega, by go_num, rfl, by rw [EC.out, EW.out]; exact LS.out⟩
          case measure => simp [intOf]; omega
      · have hX := L.X.at L.G
        have kL := L.k
        rcases ch with _ | _
        · have HV := Lib.hid (L.same HH.out)
          by_cases hk8 : k < 8
          · go_wp2_with fail
            refine (hash_at HV.out hs (some ⟨B, 0, none⟩) cp7 wr A4 hB2 hB3 hX).mono ?_
            rintro e w' ⟨rfl, rfl⟩
            go_wp2_with fail
            go_ret
            exact ⟨rfl, kL⟩
          · go_wp2_with fail
            refine (hash_at HV.out hs (some ⟨B, 0, none⟩) cp7 wr A4 hB2 hB3 hX).mono ?_
            rintro e w' ⟨rfl, rfl⟩
            go_wp2_with fail
            go_ret
            exact ⟨rfl, kL⟩
        · have L' : Grp w wr B n1 (8 * q) k f g true := by rw [HF.out]; exact L
          have hne := L'.other (by rw [HF.out]; exact hqn) hk A1.2 hs HH.out
          obtain ⟨V, hV⟩ : ∃ V, hsh g n1 s = V := ⟨_, rfl⟩
          rw [hV] at hne
          have u1 := ne_false hne
          have u2 := ne_true hne
          have HV := Lib.hid hV
          clear hne hV L'
          by_cases hk8 : k < 8
          · go_wp2_with fail
            refine (hash_at HV.out hs (some ⟨B, 0, none⟩) cp7 wr A4 hB2 hB3 hX).mono ?_
            rintro e w' ⟨rfl, rfl⟩
            go_wp2_with fail
            go_ret
            exact ⟨rfl, kL⟩
          · go_wp2_with fail
            refine (hash_at HV.out hs (some ⟨B, 0, none⟩) cp7 wr A4 hB2 hB3 hX).mono ?_
            rintro e w' ⟨rfl, rfl⟩
            go_wp2_with fail
            go_ret
            exact ⟨rfl, kL⟩
  · have hq : ∃ q : Nat, r / 8 * 8 = ((8 * q : Nat) : Int) ∧ 8 * q < n1 := ⟨(r / 8).toNat, by omega, by omega⟩
    obtain ⟨q, hq, hqn⟩ := hq
    rw [hq]
    clear hr hq r1 r2
    have L0 : Grp w w7 B n1 (8 * q) 0 f f false := ⟨X, A1.2, fun _ _ _ => rfl, fun _ _ _ => rfl, (fun h => by cases h), k7⟩
    clear X
    obtain ⟨fs, hfs⟩ : ∃ fs, 8 * q = fs := ⟨_, rfl⟩
    have HF := Lib.hid hfs
    rw [hfs] at L0 hqn ⊢
    clear hfs
    go_loopw [14, 15] (fun ch i wr => ∃ (k : Nat) (g : Nat → Nat) (c : Bool), k ≤ 8 ∧ i = .int .i64 k ∧ ch = .bool c ∧ Grp w wr B n1 fs k f g c) (fun _ i _ => 8 - (intOf i).toNat)
    case atStart => exact ⟨0, f, false, by omega, rfl, rfl, L0⟩
    case round =>
      clear L0
      obtain ⟨k, g, ch, hk, rfl, rfl, L⟩ := hrel
      by_cases hlt : k < 8 ∧ fs + k < n1
      · obtain ⟨hk8, hin⟩ := hlt
        obtain ⟨cx, fx⟩ := L.X (fs + k) hin
        have LS := L.step hB hin (show N / 2 ^ (8 * k) % 256 < 256 by omega)
        have EW := Lib.hid (x8 (L.G _ hin) (show N / 2 ^ (8 * k) % 256 < 256 by omega))
        have EC := Lib.hid (byte_walk N k)
        have EN := Lib.hid (ne_walk (N / 2 ^ (8 * k) % 256))
        generalize N / 2 ^ (8 * k) % 256 = c at *
        have LS := Lib.hid LS
        rcases ch with _ | _
        · go_wp2_with fail
          go_roundw
          case rel => exact ⟨k + 1, _, decide (c ≠ 0), by omega, by go_num, by rw [EC.out, EN.out], by rw [EC.out, EW.out]; exact LS.out⟩
          case measure => simp [intOf]; omega
        · go_wp2_with fail
          go_roundw
          case rel => exact ⟨k + 1, _, true, by omega, by go_num, rfl, by rw [EC.out, EW.out]; exact LS.out⟩
          case measure => simp [intOf]; omega
      · have hX := L.X.at L.G
        have kL := L.k
        rcases ch with _ | _
        · have HV := Lib.hid (L.same HH.out)
          by_cases hk8 : k < 8
          · go_wp2_with fail
            refine (hash_at HV.out hs (some ⟨B, 0, none⟩) cp7 wr A4 hB2 hB3 hX).mono ?_
            rintro e w' ⟨rfl, rfl⟩
            go_wp2_with fail
            go_ret
            exact ⟨rfl, kL⟩
          · go_wp2_with fail
            refine (hash_at HV.out hs (some ⟨B, 0, none⟩) cp7 wr A4 hB2 hB3 hX).mono ?_
            rintro e w' ⟨rfl, rfl⟩
            go_wp2_with fail
            go_ret
            exact ⟨rfl, kL⟩
        · have L' : Grp w wr B n1 (8 * q) k f g true := by rw [HF.out]; exact L
          have hne := L'.other (by rw [HF.out]; exact hqn) hk A1.2 hs HH.out
          obtain ⟨V, hV⟩ : ∃ V, hsh g n1 s = V := ⟨_, rfl⟩
          rw [hV] at hne
          have u1 := ne_false hne
          have u2 := ne_true hne
          have HV := Lib.hid hV
          clear hne hV L'
          by_cases hk8 : k < 8
          · go_wp2_with fail
            refine (hash_at HV.out hs (some ⟨B, 0, none⟩) cp7 wr A4 hB2 hB3 hX).mono ?_
            rintro e w' ⟨rfl, rfl⟩
            go_wp2_with fail
            go_ret
            exact ⟨rfl, kL⟩
          · go_wp2_with fail
            refine (hash_at HV.out hs (some ⟨B, 0, none⟩) cp7 wr A4 hB2 hB3 hX).mono ?_
            rintro e w' ⟨rfl, rfl⟩
            go_wp2_with fail
            go_ret
            exact ⟨rfl, kL⟩
set_option maxRecDepth 100000 in
set_option maxHeartbeats 4000000 in
theorem diff_m (s : Nat) (a : Option Addr) (n cap : Nat) (f : Nat → Nat) (at' : Int) (N : Nat) (w : World) (hs : s < 18446744073709551616) (hN : N < 18446744073709551616) (n1 H : Nat) (l2 : n1 ≤ 400)
    (A1 : At w a n1 f) (A2 : n1 ≤ cap) (A3 : cap ≤ 9223372036854775807) (A4 : n1 ≤ 140737488351232) (A5 : a = none → cap = 0)
    (c1 : ∀ w, Calls Try.prog 10 #[.slice a n cap, .int .i64 400] w fun e w' => e = .returned (.slice a n1 cap) ∧ w = w') (HH : Hid (hsh f n1 s = H)) (h0 : N ≠ 0) (h8 : n1 % 8 ≠ 0) (hm : 0 < n1) :
    Calls Try.prog 9 #[.int .u64 (s : Nat), .slice a n cap, .int .i64 at', .int .u64 (N : Nat)] w fun e w' => e = .returned (.bool true) ∧ Below w.heap.size w w' := by
  have t1 : ((N : Int) == 0) = false := by rw [beq_eq_false_iff_ne]; omega
  have t2 : ((N : Int) != 0) = true := by rw [bne_iff_ne]; omega
  have hT := seed_ne A1.2 hs hN h0 HH.out
  have e1 := x64 hs hN
  have hsN := xor64 hs hN
  generalize s ^^^ N = sN at *
  obtain ⟨T, hT0⟩ : ∃ T, hsh f n1 sN = T := ⟨_, rfl⟩
  rw [hT0] at hT
  have t3 := ne_false hT
  have t4 := ne_true hT
  have HT := Lib.hid hT0
  clear hT hT0 h0
  have t5 : ((n1 : Int) % 8 != 0) = true := by rw [bne_iff_ne]; omega
  have t6 : ((n1 : Int) % 8 == 0) = false := by rw [beq_eq_false_iff_ne]; omega
  have hZ := zero_ne A1.2 hs h8 HH.out
  have hcl := cat_lt (g := cst 0) (m := 1) A1.2 (fun _ _ => by unfold cst; omega)
  obtain ⟨Z, hZ0⟩ : ∃ Z, hsh (cat f n1 (cst 0)) (n1 + 1) s = Z := ⟨_, rfl⟩
  rw [hZ0] at hZ
  have t7 := ne_false hZ
  have t8 := ne_true hZ
  have HZ := Lib.hid hZ0
  clear hZ hZ0 h8
  have t9 : ((n1 : Int) == 0) = false := by rw [beq_eq_false_iff_ne]; omega
  obtain ⟨r1, r2⟩ := tmod_in at' n1 hm
  generalize hr : at'.tmod (n1 : Int) = r at *
  go_enter Try.func9, Try.ntmps9
  go_wp2_with fail
  refine (c1 _).mono ?_
  rintro e w' ⟨rfl, rfl⟩
  go_wp2_with fail
  refine (hash_at HH.out hs a cap w A4 A2 A3 A1).mono ?_
  rintro e w' ⟨rfl, rfl⟩
  go_wp2_with fail
  refine (example_any w).mono ?_
  rintro e w1 ⟨rfl, k⟩
  go_wp2_with fail
  refine (hash_at HT.out hsN a cap w1 A4 A2 A3 (A1.keeps k)).mono ?_
  rintro e w' ⟨rfl, rfl⟩
  have O := Own.empty w1 w1.heap.size (Nat.le_refl _) f
  have hb := balloc (b0 w1) (.cells #[] 5)
  have A0 := (A1.keeps k).keeps hb
  go_wp2_with (first | (at_builtin; refine wpList_app_if _ rfl (.tmp 43) (.tmp 44) rfl w1.heap.size 0 _ f rfl O a n1 cap f rfl A0 A5 (by omega) hb.size ?_; intro v2 w2 O2 hb2; rw [Nat.zero_add, cat_zero] at O2; have k2 := hb.trans hb2; clear hb2 O hb A0; have O3 : Own (w2.alloc (.cells #[.int .u8 0] 5)) w1.heap.size v2 n1 f := World.ownsRow.alloc O2 _; have k3 := k2.alloc k2.size (.cells #[.int .u8 0] 5); have ZA := zero_at w2) | (at_builtin; refine wpList_app_if _ rfl (.tmp 45) (.tmp 46) rfl w1.heap.size n1 v2 f rfl O3 (some ⟨w2.heap.size, 0, none⟩) 1 1 (cst 0) rfl ZA (fun h => by cases h) (by omega) k3.size ?_; intro v4 w4 O4 hb4; have k4 := bnext k (k3.trans hb4); clear hb4 O2 O3 k2 k3 ZA; obtain ⟨a4, cp4, rfl, C1, C2, C3, C4⟩ := O4.at hcl; clear O4))
  refine (hash_at HZ.out hs a4 cp4 _ (by omega) C2 C3 C1).mono ?_
  rintro e w' ⟨rfl, rfl⟩
  have k := k4
  clear k4
  have O5 := Own.empty w4 w4.heap.size (Nat.le_refl _) f
  have hb := balloc (b0 w4) (.cells #[] 5)
  have A6 := (A1.keeps k).keeps hb
  go_wp2_with (at_builtin; refine wpList_app _ rfl (.tmp 72) (.tmp 73) rfl w4.heap.size 0 _ f rfl O5 a n1 cap f rfl A6 A5 (by omega) hb.size ?_; intro v7 w7 O7 hb7; rw [Nat.zero_add, cat_zero] at O7; have k7 := bnext k (hb.trans hb7); clear hb7 O5 hb A6; have hsz := k.size; obtain ⟨B, cp7, rfl, hB0, hB1, hB2, hB3, X⟩ := O7.out.resolve_left (fun h => Nat.ne_of_gt hm h.2); clear O7; have hB : w.heap.size ≤ B := Nat.le_trans hsz hB0)
  · have hq : ∃ q : Nat, (r + (n1 : Int)) / 8 * 8 = ((8 * q : Nat) : Int) ∧ 8 * q < n1 := ⟨((r + (n1 : Int)) / 8).toNat, by omega, by omega⟩
    obtain ⟨q, hq, hqn⟩ := hq
    rw [hq]
    clear hr hq r1 r2
    have L0 : Grp w w7 B n1 (8 * q) 0 f f false := ⟨X, A1.2, fun _ _ _ => rfl, fun _ _ _ => rfl, (fun h => by cases h), k7⟩
    clear X
    obtain ⟨fs, hfs⟩ : ∃ fs, 8 * q = fs := ⟨_, rfl⟩
    have HF := Lib.hid hfs
    rw [hfs] at L0 hqn ⊢
    clear hfs
    go_loopw [14, 15] (fun ch i wr => ∃ (k : Nat) (g : Nat → Nat) (c : Bool), k ≤ 8 ∧ i = .int .i64 k ∧ ch = .bool c ∧ Grp w wr B n1 fs k f g c) (fun _ i _ => 8 - (intOf i).toNat)
    case atStart => exact ⟨0, f, false, by omega, rfl, rfl, L0⟩
    case round =>
      clear L0
      obtain ⟨k, g, ch, hk, rfl, rfl, L⟩ := hrel
      by_cases hlt : k < 8 ∧ fs + k < n1
      · obtain ⟨hk8, hin⟩ := hlt
        obtain ⟨cx, fx⟩ := L.X (fs + k) hin
        have LS := L.step hB hin (show N / 2 ^ (8 * k) % 256 < 256 by omega)
        have EW := Lib.hid (x8 (L.G _ hin) (show N / 2 ^ (8 * k) % 256 < 256 by omega))
        have EC := Lib.hid (byte_walk N k)
        have EN := Lib.hid (ne_walk (N / 2 ^ (8 * k) % 256))
        generalize N / 2 ^ (8 * k) % 256 = c at *
        have LS := Lib.hid LS
        rcases ch with _ | _
        · go_wp2_with fail
          go_roundw
          case rel => exact ⟨k + 1, _, decide (c ≠ 0), by omega, by go_num, by rw [EC.out, EN.out], by rw [EC.out, EW.out]; exact LS.out⟩
          case measure => simp [intOf]; omega
        · go_wp2_with fail
          go_roundw
          case rel => exact ⟨k + 1, _, true, by omega, by go_num, rfl, by rw [EC.out, EW.out]; exact LS.out⟩
          case measure => simp [intOf]; omega
      · have hX := L.X.at L.G
        have kL := L.k
        rcases ch with _ | _
        · have HV := Lib.hid (L.same HH.out)
          by_cases hk8 : k < 8
          · go_wp2_with fail
            refine (hash_at HV.out hs (some ⟨B, 0, none⟩) cp7 wr A4 hB2 hB3 hX).mono ?_
            rintro e w' ⟨rfl, rfl⟩
            go_wp2_with fail
            go_ret
            exact ⟨rfl, kL⟩
          · go_wp2_with fail
            refine (hash_at HV.out hs (some ⟨B, 0, none⟩) cp7 wr A4 hB2 hB3 hX).mono ?_
            rintro e w' ⟨rfl, rfl⟩
            go_wp2_with fail
            go_ret
            exact ⟨rfl, kL⟩
        · have L' : Grp w wr B n1 (8 * q) k f g true := by rw [HF.out]; exact L
          have hne := L'.other (by rw [HF.out]; exact hqn) hk A1.2 hs HH.out
          obtain ⟨V, hV⟩ : ∃ V, hsh g n1 s = V := ⟨_, rfl⟩
          rw [hV] at hne
          have u1 := ne_false hne
          have u2 := ne_true hne
          have HV := Lib.hid hV
          clear hne hV L'
          by_cases hk8 : k < 8
          · go_wp2_with fail
            refine (hash_at HV.out hs (some ⟨B, 0, none⟩) cp7 wr A4 hB2 hB3 hX).mono ?_
            rintro e w' ⟨rfl, rfl⟩
            go_wp2_with fail
            go_ret
            exact ⟨rfl, kL⟩
          · go_wp2_with fail
            refine (hash_at HV.out hs (some ⟨B, 0, none⟩) cp7 wr A4 hB2 hB3 hX).mono ?_
            rintro e w' ⟨rfl, rfl⟩
            go_wp2_with fail
            go_ret
            exact ⟨rfl, kL⟩
  · have hq : ∃ q : Nat, r / 8 * 8 = ((8 * q : Nat) : Int) ∧ 8 * q < n1 := ⟨(r / 8).toNat, by omega, by omega⟩
    obtain ⟨q, hq, hqn⟩ := hq
    rw [hq]
    clear hr hq r1 r2
    have L0 : Grp w w7 B n1 (8 * q) 0 f f false := ⟨X, A1.2, fun _ _ _ => rfl, fun _ _ _ => rfl, (fun h => by cases h), k7⟩
    clear X
    obtain ⟨fs, hfs⟩ : ∃ fs, 8 * q = fs := ⟨_, rfl⟩
    have HF := Lib.hid hfs
    rw [hfs] at L0 hqn ⊢
    clear hfs
    go_loopw [14, 15] (fun ch i wr => ∃ (k : Nat) (g : Nat → Nat) (c : Bool), k ≤ 8 ∧ i = .int .i64 k ∧ ch = .bool c ∧ Grp w wr B n1 fs k f g c) (fun _ i _ => 8 - (intOf i).toNat)
    case atStart => exact ⟨0, f, false, by omega, rfl, rfl, L0⟩
    case round =>
      clear L0
      obtain ⟨k, g, ch, hk, rfl, rfl, L⟩ := hrel
      by_cases hlt : k < 8 ∧ fs + k < n1
      · obtain ⟨hk8, hin⟩ := hlt
        obtain ⟨cx, fx⟩ := L.X (fs + k) hin
        have LS := L.step hB hin (show N / 2 ^ (8 * k) % 256 < 256 by omega)
        have EW := Lib.hid (x8 (L.G _ hin) (show N / 2 ^ (8 * k) % 256 < 256 by omega))
        have EC := Lib.hid (byte_walk N k)
        have EN := Lib.hid (ne_walk (N / 2 ^ (8 * k) % 256))
        generalize N / 2 ^ (8 * k) % 256 = c at *
        have LS := Lib.hid LS
        rcases ch with _ | _
        · go_wp2_with fail
          go_roundw
          case rel => exact ⟨k + 1, _, decide (c ≠ 0), by omega, by go_num, by rw [EC.out, EN.out], by rw [EC.out, EW.out]; exact LS.out⟩
          case measure => simp [intOf]; omega
        · go_wp2_with fail
          go_roundw
          case rel => exact ⟨k + 1, _, true, by omega, by go_num, rfl, by rw [EC.out, EW.out]; exact LS.out⟩
          case measure => simp [intOf]; omega
      · have hX := L.X.at L.G
        have kL := L.k
        rcases ch with _ | _
        · have HV := Lib.hid (L.same HH.out)
          by_cases hk8 : k < 8
          · go_wp2_with fail
            refine (hash_at HV.out hs (some ⟨B, 0, none⟩) cp7 wr A4 hB2 hB3 hX).mono ?_
            rintro e w' ⟨rfl, rfl⟩
            go_wp2_with fail
            go_ret
            exact ⟨rfl, kL⟩
          · go_wp2_with fail
            refine (hash_at HV.out hs (some ⟨B, 0, none⟩) cp7 wr A4 hB2 hB3 hX).mono ?_
            rintro e w' ⟨rfl, rfl⟩
            go_wp2_with fail
            go_ret
            exact ⟨rfl, kL⟩
        · have L' : Grp w wr B n1 (8 * q) k f g true := by rw [HF.out]; exact L
          have hne := L'.other (by rw [HF.out]; exact hqn) hk A1.2 hs HH.out
          obtain ⟨V, hV⟩ : ∃ V, hsh g n1 s = V := ⟨_, rfl⟩
          rw [hV] at hne
          have u1 := ne_false hne
          have u2 := ne_true hne
          have HV := Lib.hid hV
          clear hne hV L'
          by_cases hk8 : k < 8
          · go_wp2_with fail
            refine (hash_at HV.out hs (some ⟨B, 0, none⟩) cp7 wr A4 hB2 hB3 hX).mono ?_
            rintro e w' ⟨rfl, rfl⟩
            go_wp2_with fail
            go_ret
            exact ⟨rfl, kL⟩
          · go_wp2_with fail
            refine (hash_at HV.out hs (some ⟨B, 0, none⟩) cp7 wr A4 hB2 hB3 hX).mono ?_
            rintro e w' ⟨rfl, rfl⟩
            go_wp2_with fail
            go_ret
            exact ⟨rfl, kL⟩
theorem walk_differs (s : Nat) (a : Option Addr) (n cap : Nat) (f : Nat → Nat) (at' : Int) (N : Nat) (w : World) (hs : s < 18446744073709551616) (hN : N < 18446744073709551616) (hA : Lies w a n cap f) :
    Calls Try.prog 9 #[.int .u64 (s : Nat), .slice a n cap, .int .i64 at', .int .u64 (N : Nat)] w fun e w' => e = .returned (.bool true) ∧ Below w.heap.size w w' := by
  obtain ⟨n1, _, _, l2, hA, c1⟩ := few_c hA 400 (by omega)
  obtain ⟨A1, A2, A3, A4, A5⟩ := hA
  by_cases h0 : N = 0
  · by_cases h8 : n1 % 8 = 0
    · exact diff_zz s a n cap f at' N w hs hN n1 _ l2 A1 A2 A3 A4 A5 c1 (Lib.hid rfl) h0 h8
    · exact diff_zb s a n cap f at' N w hs hN n1 _ l2 A1 A2 A3 A4 A5 c1 (Lib.hid rfl) h0 h8
  · by_cases hm : n1 = 0
    · exact diff_n0 s a n cap f at' N w hs hN n1 _ l2 A1 A2 A3 A4 A5 c1 (Lib.hid rfl) h0 (by omega) hm
    · by_cases h8 : n1 % 8 = 0
      · exact diff_m8 s a n cap f at' N w hs hN n1 _ l2 A1 A2 A3 A4 A5 c1 (Lib.hid rfl) h0 h8 (by omega)
      · exact diff_m s a n cap f at' N w hs hN n1 _ l2 A1 A2 A3 A4 A5 c1 (Lib.hid rfl) h0 h8 (by omega)
end Go.Proofs.Ytchmnnagbnpijaa
