/-
  The walk of ChecksumDetects where bits are changed.
-/
import Derived.Test.YtchmnnagbnpijaaWDet
namespace Go.Proofs.Ytchmnnagbnpijaa
open Go.RowKit

theorem tmod_in (a : Int) (k : Nat) (hk : 0 < k) : -(k : Int) < a.tmod k ∧ a.tmod k < k := by
  refine ⟨?_, Int.tmod_lt_of_pos _ (by omega)⟩
  have h := Int.tmod_lt_of_pos (-a) (show (0 : Int) < k by omega)
  rw [Int.neg_tmod] at h
  omega

theorem flip_lt {x t : Nat} (hx : x < 256) (ht : t < 8) : x ^^^ 2 ^ t < 256 :=
  Nat.xor_lt_two_pow (n := 8) hx (Nat.pow_lt_pow_right (by decide) ht)
theorem flip_walk {x t : Nat} (hx : x < 256) (ht : t < 8) : bits .xor .u8 (x : Int) ((2 : Int) ^ t % 256) = ((x ^^^ 2 ^ t : Nat) : Int) := by
  have hp : 2 ^ t < 256 := Nat.pow_lt_pow_right (n := 8) (by decide) ht
  have h := x8 hx hp
  have e : (2 : Int) ^ t = ((2 ^ t : Nat) : Int) := by rw [Int.natCast_pow]; rfl
  rw [← h, e]
  generalize 2 ^ t = y at *
  rw [show ((y : Int) % 256) = (y : Int) by omega]
/-- What the loop knows. -/
structure Det (w wr : World) (B n q bits k : Nat) (f g : Nat → Nat) : Prop where
  X : Wr wr B n g
  G : ∀ j, j < n → g j < 256
  D : Done f g n q bits k
  k : Below w.heap.size w wr

/-- Has a bit been changed? -/
def chg (bits M k : Nat) : Bool := !decide (part bits M k = 0)
theorem bit_iff (bits k : Nat) : bits.testBit k = true ↔ ((bits : Int) / 2 ^ k).tmod 2 = 1 := by
  have e : (bits : Int) / 2 ^ k = ((bits / 2 ^ k : Nat) : Int) := by rw [Int.natCast_ediv, Int.natCast_pow]; rfl
  have h0 : (0 : Int) ≤ ((bits / 2 ^ k : Nat) : Int) := Int.natCast_nonneg _
  rw [e, Int.tmod_eq_emod_of_nonneg h0, Nat.testBit_eq_decide_div_mod_eq, decide_eq_true_eq]
  generalize bits / 2 ^ k = y
  omega
theorem chg_skip {bits M k : Nat} (h : ¬ (bits.testBit k = true ∧ k < M)) : chg bits M (k + 1) = chg bits M k := by unfold chg; rw [part_skip _ _ _ h]
theorem chg_step {bits M k : Nat} (h : bits.testBit k = true) (hk : k < M) : chg bits M (k + 1) = true := by
  unfold chg
  simp [(part_step bits M k h hk).1]
theorem Det.skip {w wr : World} {B n q bits k : Nat} {f g : Nat → Nat} (h : Det w wr B n q bits k f g) (hs : ¬ (bits.testBit k = true ∧ k < 8 * n - q)) : Det w wr B n q bits (k + 1) f g :=
  ⟨h.X, h.G, by have := h.D; unfold Done at *; rw [part_skip _ _ _ hs]; exact this, h.k⟩

set_option maxRecDepth 100000 in
set_option maxHeartbeats 2000000 in
theorem detects_some (a : Option Addr) (n cap : Nat) (f : Nat → Nat) (at' : Int) (w : World) (bits : Nat) (hbits : bits < 4294967296) (hA : Lies w a n cap f) (h0 : n ≠ 0) (h1 : bits ≠ 0) :
    Calls Try.prog 8 #[.slice a n cap, .int .i64 at', .int .u32 (bits : Nat)] w fun e w' => e = .returned (.bool true) ∧ Below w.heap.size w w' := by
  obtain ⟨n1, hn, l1, l2, hA, c1⟩ := few_c hA 500 (by omega)
  have hn1 : 0 < n1 := by omega
  clear hn h0
  obtain ⟨A1, A2, A3, A4, A5⟩ := hA
  have O := Own.empty w w.heap.size (Nat.le_refl _) f
  have hb := balloc (b0 w) (.cells #[] 5)
  have A0 := A1.keeps hb
  have hne : ((n1 : Int) == 0) = false := by rw [beq_eq_false_iff_ne]; omega
  have hbe : ((bits : Int) == 0) = false := by rw [beq_eq_false_iff_ne]; omega
  obtain ⟨r1, r2⟩ := tmod_in at' (8 * n1) (by omega)
  rw [Int.natCast_mul] at r1 r2
  have r1 : -(8 * (n1 : Int)) < at'.tmod (8 * (n1 : Int)) := r1
  have r2 : at'.tmod (8 * (n1 : Int)) < 8 * (n1 : Int) := r2
  obtain ⟨q, hq, hq2⟩ : ∃ q : Nat, (if at'.tmod (8 * (n1 : Int)) < 0 then at'.tmod (8 * (n1 : Int)) + 8 * (n1 : Int) else at'.tmod (8 * (n1 : Int))) = (q : Int) ∧ q < 8 * n1 := by
    split
    · exact ⟨(at'.tmod (8 * (n1 : Int)) + 8 * (n1 : Int)).toNat, by omega, by omega⟩
    · exact ⟨(at'.tmod (8 * (n1 : Int))).toNat, by omega, by omega⟩
  go_enter Try.func8, Try.ntmps8
  go_wp2_with fail
  refine (c1 _).mono ?_
  rintro e w' ⟨rfl, rfl⟩
  generalize hr : at'.tmod (8 * (n1 : Int)) = r at *
  go_wp2_with (at_builtin; refine wpList_app _ rfl (.tmp 13) (.tmp 15) rfl w.heap.size 0 _ f rfl O a n1 cap f rfl A0 A5 (by omega) hb.size ?_; intro v1 w1 O1 hb1; rw [Nat.zero_add, cat_zero] at O1; have k1 := hb.trans hb1; clear hb1 O hb A0 c1; obtain ⟨B, cp1, rfl, hB, _, _, _, X⟩ := O1.out.resolve_left (fun h => Nat.ne_of_gt hn1 h.2); clear O1)
  · have hq' : r + 8 * (n1 : Int) = (q : Int) := by rw [if_pos (by assumption)] at hq; exact hq
    rw [hq']
    clear hr hq hq' r1 r2
    refine (sum_any _ n1 cp1 f w1 A4 (X.at A1.2)).mono ?_
    rintro e w2 ⟨rfl, hb⟩
    have L0 : Det w w2 B n1 q bits 0 f f := ⟨X.keeps hb, A1.2, done_zero f n1 q bits, bnext k1 hb⟩
    clear k1 hb X
    obtain ⟨S, hS⟩ : ∃ S, crc f n1 0 = S := ⟨_, rfl⟩
    rw [hS]
    have HS := Lib.hid hS
    clear hS
    go_wp2_with fail
    go_loopw [10, 11] (fun ch i wr => ∃ (k : Nat) (g : Nat → Nat), k ≤ 32 ∧ i = .int .i64 k ∧ ch = .bool (chg bits (8 * n1 - q) k) ∧ Det w wr B n1 q bits k f g) (fun _ i _ => 32 - (intOf i).toNat)
    case atStart => exact ⟨0, f, by omega, rfl, rfl, L0⟩
    case round =>
      clear L0
      obtain ⟨k, g, hk, rfl, rfl, L⟩ := hrel
      by_cases hlt : k < 32
      · go_wp2_with fail
        · have hbt : bits.testBit k = true := (bit_iff bits k).2 (by assumption)
          have hin : q + k < 8 * n1 := by omega
          obtain ⟨cx, fx⟩ := L.X ((q + k) / 8) (by omega)
          have hgx := L.G ((q + k) / 8) (by omega)
          have XS := L.X.set (j := (q + k) / 8) (by omega) (g ((q + k) / 8) ^^^ 2 ^ ((q + k) % 8))
          have DS := done_step L.D hbt hin
          have e1 := flip_walk hgx (show (q + k) % 8 < 8 by omega)
          have fl := flip_lt hgx (show (q + k) % 8 < 8 by omega)
          have CH := Lib.hid (chg_step hbt (show k < 8 * n1 - q by omega))
          have GS := upd_lt (n := n1) (j := (q + k) / 8) L.G fl
          generalize g ((q + k) / 8) ^^^ 2 ^ ((q + k) % 8) = z at *
          go_region
          all_goals (try go_wp2_with fail)
          all_goals (go_roundw; (case rel => exact ⟨k + 1, _, by omega, by go_num, by rw [CH.out], ⟨XS, GS, DS, (L.k.setCell (p := ⟨B, (q + k) / 8, none⟩) hB _).drew⟩⟩); (case measure => (simp [intOf]; omega)))
        · go_roundw
          case rel => exact ⟨k + 1, g, by omega, by go_num, by rw [chg_skip (by omega)], L.skip (by omega)⟩
          case measure => simp [intOf]; omega
        · have hbt : ¬ bits.testBit k = true := fun h => absurd ((bit_iff bits k).1 h) (by assumption)
          go_roundw
          case rel => exact ⟨k + 1, g, by omega, by go_num, by rw [chg_skip (fun h => hbt h.1)], L.skip (fun h => hbt h.1)⟩
          case measure => simp [intOf]; omega
      · obtain rfl : k = 32 := by omega
        have hE := done_end L.D
        rw [HS.out] at hE
        have hX := L.X.at L.G
        by_cases hp : part bits (8 * n1 - q) 32 = 0
        · have hc : chg bits (8 * n1 - q) 32 = false := by unfold chg; simp [hp]
          have hv := hE.2 hp
          have HV := Lib.hid hv
          clear hE hv hp
          go_wp2_with fail
          refine (example_any _).mono ?_
          rintro e w5 ⟨rfl, hb⟩
          have k5 := bnext L.k hb
          replace hX := hX.keeps hb
          clear hb
          go_wp2_with fail
          refine (sum_at HV.out _ cp1 _ A4 hX).mono ?_
          rintro e w6 ⟨rfl, hb⟩
          replace k5 := bnext k5 hb
          clear hb
          go_wp2_with fail
          go_ret
          exact ⟨rfl, k5⟩
        · have hc : chg bits (8 * n1 - q) 32 = true := by unfold chg; simp [hp]
          have hv := fun h => hp (hE.1 h)
          obtain ⟨T, hT⟩ : ∃ T, crc g n1 0 = T := ⟨_, rfl⟩
          rw [hT] at hv
          have t1 : ((T : Int) == (S : Int)) = false := by rw [beq_eq_false_iff_ne]; omega
          have t2 : ((T : Int) != (S : Int)) = true := by rw [bne_iff_ne]; omega
          have HT := Lib.hid hT
          clear hE hv hp hT
          go_wp2_with fail
          refine (example_any _).mono ?_
          rintro e w5 ⟨rfl, hb⟩
          have k5 := bnext L.k hb
          replace hX := hX.keeps hb
          clear hb
          go_wp2_with fail
          refine (sum_at HT.out _ cp1 _ A4 hX).mono ?_
          rintro e w6 ⟨rfl, hb⟩
          replace k5 := bnext k5 hb
          clear hb
          go_wp2_with fail
          go_ret
          exact ⟨rfl, k5⟩
  · obtain rfl : r = (q : Int) := by rw [if_neg (by omega)] at hq; exact hq
    clear hr hq r1 r2
    refine (sum_any _ n1 cp1 f w1 A4 (X.at A1.2)).mono ?_
    rintro e w2 ⟨rfl, hb⟩
    have L0 : Det w w2 B n1 q bits 0 f f := ⟨X.keeps hb, A1.2, done_zero f n1 q bits, bnext k1 hb⟩
    clear k1 hb X
    obtain ⟨S, hS⟩ : ∃ S, crc f n1 0 = S := ⟨_, rfl⟩
    rw [hS]
    have HS := Lib.hid hS
    clear hS
    go_wp2_with fail
    go_loopw [10, 11] (fun ch i wr => ∃ (k : Nat) (g : Nat → Nat), k ≤ 32 ∧ i = .int .i64 k ∧ ch = .bool (chg bits (8 * n1 - q) k) ∧ Det w wr B n1 q bits k f g) (fun _ i _ => 32 - (intOf i).toNat)
    case atStart => exact ⟨0, f, by omega, rfl, rfl, L0⟩
    case round =>
      clear L0
      obtain ⟨k, g, hk, rfl, rfl, L⟩ := hrel
      by_cases hlt : k < 32
      · go_wp2_with fail
        · have hbt : bits.testBit k = true := (bit_iff bits k).2 (by assumption)
          have hin : q + k < 8 * n1 := by omega
          obtain ⟨cx, fx⟩ := L.X ((q + k) / 8) (by omega)
          have hgx := L.G ((q + k) / 8) (by omega)
          have XS := L.X.set (j := (q + k) / 8) (by omega) (g ((q + k) / 8) ^^^ 2 ^ ((q + k) % 8))
          have DS := done_step L.D hbt hin
          have e1 := flip_walk hgx (show (q + k) % 8 < 8 by omega)
          have fl := flip_lt hgx (show (q + k) % 8 < 8 by omega)
          have CH := Lib.hid (chg_step hbt (show k < 8 * n1 - q by omega))
          have GS := upd_lt (n := n1) (j := (q + k) / 8) L.G fl
          generalize g ((q + k) / 8) ^^^ 2 ^ ((q + k) % 8) = z at *
          go_region
          all_goals (try go_wp2_with fail)
          all_goals (go_roundw; (case rel => exact ⟨k + 1, _, by omega, by go_num, by rw [CH.out], ⟨XS, GS, DS, (L.k.setCell (p := ⟨B, (q + k) / 8, none⟩) hB _).drew⟩⟩); (case measure => (simp [intOf]; omega)))
        · go_roundw
          case rel => exact ⟨k + 1, g, by omega, by go_num, by rw [chg_skip (by omega)], L.skip (by omega)⟩
          case measure => simp [intOf]; omega
        · have hbt : ¬ bits.testBit k = true := fun h => absurd ((bit_iff bits k).1 h) (by assumption)
          go_roundw
          case rel => exact ⟨k + 1, g, by omega, by go_num, by rw [chg_skip (fun h => hbt h.1)], L.skip (fun h => hbt h.1)⟩
          case measure => simp [intOf]; omega
      · obtain rfl : k = 32 := by omega
        have hE := done_end L.D
        rw [HS.out] at hE
        have hX := L.X.at L.G
        by_cases hp : part bits (8 * n1 - q) 32 = 0
        · have hc : chg bits (8 * n1 - q) 32 = false := by unfold chg; simp [hp]
          have hv := hE.2 hp
          have HV := Lib.hid hv
          clear hE hv hp
          go_wp2_with fail
          refine (example_any _).mono ?_
          rintro e w5 ⟨rfl, hb⟩
          have k5 := bnext L.k hb
          replace hX := hX.keeps hb
          clear hb
          go_wp2_with fail
          refine (sum_at HV.out _ cp1 _ A4 hX).mono ?_
          rintro e w6 ⟨rfl, hb⟩
          replace k5 := bnext k5 hb
          clear hb
          go_wp2_with fail
          go_ret
          exact ⟨rfl, k5⟩
        · have hc : chg bits (8 * n1 - q) 32 = true := by unfold chg; simp [hp]
          have hv := fun h => hp (hE.1 h)
          obtain ⟨T, hT⟩ : ∃ T, crc g n1 0 = T := ⟨_, rfl⟩
          rw [hT] at hv
          have t1 : ((T : Int) == (S : Int)) = false := by rw [beq_eq_false_iff_ne]; omega
          have t2 : ((T : Int) != (S : Int)) = true := by rw [bne_iff_ne]; omega
          have HT := Lib.hid hT
          clear hE hv hp hT
          go_wp2_with fail
          refine (example_any _).mono ?_
          rintro e w5 ⟨rfl, hb⟩
          have k5 := bnext L.k hb
          replace hX := hX.keeps hb
          clear hb
          go_wp2_with fail
          refine (sum_at HT.out _ cp1 _ A4 hX).mono ?_
          rintro e w6 ⟨rfl, hb⟩
          replace k5 := bnext k5 hb
          clear hb
          go_wp2_with fail
          go_ret
          exact ⟨rfl, k5⟩
theorem walk_detects (a : Option Addr) (n cap : Nat) (f : Nat → Nat) (at' : Int) (w : World) (bits : Nat) (hbits : bits < 4294967296) (hA : Lies w a n cap f) :
    Calls Try.prog 8 #[.slice a n cap, .int .i64 at', .int .u32 (bits : Nat)] w fun e w' => e = .returned (.bool true) ∧ Below w.heap.size w w' := by
  by_cases h0 : n = 0
  · exact detects_none a n cap f at' w bits hA (.inl h0)
  · by_cases h1 : bits = 0
    · exact detects_none a n cap f at' w bits hA (.inr h1)
    · exact detects_some a n cap f at' w bits hbits hA h0 h1
end Go.Proofs.Ytchmnnagbnpijaa
