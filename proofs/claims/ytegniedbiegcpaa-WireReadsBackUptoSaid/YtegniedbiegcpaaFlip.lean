/-
  Changed bits.
-/
import Derived.Test.YtegniedbiegcpaaApart
namespace Go.Proofs.Ytegniedbiegcpaa
open Go.RowKit

theorem x8 {a b : Nat} (ha : a < 256) (hb : b < 256) : bits .xor .u8 (a : Int) (b : Int) = ((a ^^^ b : Nat) : Int) := u8_xor_nat a b ha hb
theorem flip_lt {x t : Nat} (hx : x < 256) (ht : t < 8) : x ^^^ 2 ^ t < 256 :=
  Nat.xor_lt_two_pow (n := 8) hx (Nat.pow_lt_pow_right (by decide) ht)
theorem flip_walk {x t : Nat} (hx : x < 256) (ht : t < 8) : bits .xor .u8 (x : Int) ((2 : Int) ^ t % 256) = ((x ^^^ 2 ^ t : Nat) : Int) := by
  have hp : 2 ^ t < 256 := Nat.pow_lt_pow_right (n := 8) (by decide) ht
  have h := x8 hx hp
  have e : (2 : Int) ^ t = ((2 ^ t : Nat) : Int) := by rw [Int.natCast_pow]; rfl
  rw [← h, e]
  generalize 2 ^ t = y at *
  rw [show ((y : Int) % 256) = (y : Int) by omega]
/-- Has a bit been changed? -/
def chg (bits M k : Nat) : Bool := !decide (part bits M k = 0)
theorem bit_iff (bits k : Nat) : (((bits : Int) / 2 ^ k).tmod 2 == 1) = bits.testBit k := by
  have e : (bits : Int) / 2 ^ k = ((bits / 2 ^ k : Nat) : Int) := by rw [Int.natCast_ediv, Int.natCast_pow]; rfl
  have h0 : (0 : Int) ≤ ((bits / 2 ^ k : Nat) : Int) := Int.natCast_nonneg _
  rw [e, Int.tmod_eq_emod_of_nonneg h0, Nat.testBit_eq_decide_div_mod_eq]
  generalize bits / 2 ^ k = y
  by_cases h : y % 2 = 1
  · rw [decide_eq_true h, beq_iff_eq]; omega
  · rw [decide_eq_false h, beq_eq_false_iff_ne]; omega
theorem chg_skip {bits M k : Nat} (h : ¬ (bits.testBit k = true ∧ k < M)) : chg bits M (k + 1) = chg bits M k := by unfold chg; rw [part_skip _ _ _ h]
theorem chg_step {bits M k : Nat} (h : bits.testBit k = true) (hk : k < M) : chg bits M (k + 1) = true := by
  unfold chg
  simp [(part_step bits M k h hk).1]
/-- What the loop knows. -/
structure Flp (w wr : World) (av : Option Addr) (n q bits k : Nat) (f g : Nat → Nat) : Prop where
  X : n = 0 ∨ ∃ B, av = some ⟨B, 0, none⟩ ∧ w.heap.size ≤ B ∧ Wr wr B n g
  G : ∀ j, j < n → g j < 256
  D : Done f g n q bits k
  k : Below w.heap.size w wr
theorem Flp.skip {w wr : World} {av : Option Addr} {n q bits k : Nat} {f g : Nat → Nat} (h : Flp w wr av n q bits k f g) (hs : ¬ (bits.testBit k = true ∧ k < 8 * n - q)) : Flp w wr av n q bits (k + 1) f g :=
  ⟨h.X, h.G, by have := h.D; unfold Done at *; rw [part_skip _ _ _ hs]; exact this, h.k⟩
theorem ix_append (l r : List Nat) : cat (ix l) l.length (ix r) = ix (l ++ r) := by
  funext i
  unfold cat ix
  by_cases h : i < l.length
  · rw [if_pos h, List.getD_eq_getElem?_getD, List.getD_eq_getElem?_getD, List.getElem?_append_left h]
  · rw [if_neg h, List.getD_eq_getElem?_getD, List.getD_eq_getElem?_getD, List.getElem?_append_right (by omega)]

theorem crc_lst (g : Nat → Nat) (n : Nat) : cs (lst g n) = crc g n 0 := by
  unfold cs
  rw [lst_length]
  exact crc_congr n fun i hi => ix_lst g hi
theorem chg_true {bits M : Nat} (h : chg bits M 32 = true) : part bits M 32 ≠ 0 := by
  unfold chg at h
  simpa using h
/-- A payload with changed bits. -/
theorem bad_payload {l : List Nat} {g : Nat → Nat} {q bits : Nat} (h8 : l.length ≤ 8192) (hb : By l) (hg : ∀ j, j < l.length → g j < 256) (D : Done (ix l) g l.length q bits 32) (hc : chg bits (8 * l.length - q) 32 = true) :
    rF (en l.length ++ (lst g l.length ++ le4 (cs l))) 0 = .err 40 := by
  have hne : ¬ le4 (cs l) = le4 (cs (lst g l.length)) := by
    intro h
    have h2 := le4_inj (cs_lt hb) (cs_lt (by_lst hg)) h
    rw [crc_lst] at h2
    exact chg_true hc ((done_end D).1 h2.symm)
  have h4 : (le4 (cs l)).length = 4 := rfl
  have hl : (lst g l.length).length = l.length := lst_length _ _
  have hF : rdF (en l.length ++ (lst g l.length ++ le4 (cs l))) = .err 40 := by
    unfold rdF
    rw [rd_en (by omega)]
    simp only
    rw [if_neg (by omega), if_neg (by simp only [List.length_append, h4, hl]; omega), ← List.drop_drop, List.drop_left]
    rw [List.drop_left' hl, List.take_left' hl, List.take_of_length_le (by omega), if_neg hne]
  unfold rF
  rw [if_neg (by omega), show (0 : Int).toNat = 0 from rfl, List.drop_zero, hF]
/-- A checksum with changed bits. -/
theorem bad_sum {l : List Nat} {g : Nat → Nat} {q bits : Nat} (h8 : l.length ≤ 8192) (D : Done (ix (le4 (cs l))) g 4 q bits 32) (hc : chg bits (8 * 4 - q) 32 = true) :
    rF (en l.length ++ (l ++ lst g 4)) 0 = .err 40 := by
  have hne : ¬ lst g 4 = le4 (cs l) := by
    intro h
    have h2 : crc g 4 0 = crc (ix (le4 (cs l))) 4 0 := by rw [← crc_lst, ← crc_lst, h]; exact congrArg cs (lst_ix (le4 (cs l))).symm
    exact chg_true hc ((done_end D).1 h2)
  have hl : (lst g 4).length = 4 := lst_length _ _
  have hF : rdF (en l.length ++ (l ++ lst g 4)) = .err 40 := by
    unfold rdF
    rw [rd_en (by omega)]
    simp only
    rw [if_neg (by omega), if_neg (by simp only [List.length_append, hl]; omega), ← List.drop_drop, List.drop_left, List.drop_left, List.take_left, List.take_of_length_le (by omega), if_neg hne]
  unfold rF
  rw [if_neg (by omega), show (0 : Int).toNat = 0 from rfl, List.drop_zero, hF]

/-- What flip returns. -/
def FlipP (n q bits : Nat) (l : List Nat) (w : World) (e : Ending) (w' : World) : Prop :=
  ∃ (av : Option Addr) (cp : Nat) (g : Nat → Nat), e = .returned (.tuple #[.slice av n cp, .bool (chg bits (8 * n - q) 32)]) ∧ Li w' av n cp (lst g n) ∧ Done (ix l) g n q bits 32 ∧ Below w.heap.size w w'

set_option maxRecDepth 100000 in
set_option maxHeartbeats 2000000 in
theorem flip_any (a : Option Addr) (n cap : Nat) (l : List Nat) (q bits : Nat) (w : World) (hA : Li w a n cap l) (hn : n ≤ 100000) (hq : q ≤ 1000000) :
    Calls Try.prog 32 #[.slice a n cap, .int .i64 (q : Nat), .int .u32 (bits : Nat)] w (FlipP n q bits l w) := by
  have A1 : At w a n (ix l) := by have := hA.hat; unfold AtL at this; rw [hA.hn] at this; exact this
  have A5 := hA.hno
  have O := Own.empty w w.heap.size (Nat.le_refl _) (ix l)
  have hb := balloc (b0 w) (.cells #[] 5)
  have A0 := A1.keeps hb
  have A2 := A1.2
  clear hA A1
  go_enter Try.func32, Try.ntmps32
  go_wp2_with (at_builtin; refine wpList_app _ rfl (.tmp 12) (.tmp 13) rfl w.heap.size 0 _ (ix l) rfl O a n cap (ix l) rfl A0 A5 (by omega) hb.size ?_; intro v1 w1 O1 hb1; rw [Nat.zero_add, cat_zero] at O1; have k1 := hb.trans hb1; clear hb1 O hb A0)
  obtain ⟨av, cp, rfl, H1, H2, H3, X0⟩ : ∃ av cp, v1 = .slice av n cp ∧ n ≤ cp ∧ cp ≤ 9223372036854775807 ∧ (av = none → cp = 0) ∧ (n = 0 ∨ ∃ B, av = some ⟨B, 0, none⟩ ∧ w.heap.size ≤ B ∧ Wr w1 B n (ix l)) := by
    rcases O1.out with ⟨rfl, rfl⟩ | ⟨B, cp, rfl, hB, _, h1, h2, hW⟩
    · exact ⟨none, 0, rfl, by omega, by omega, fun _ => rfl, .inl rfl⟩
    · exact ⟨_, cp, rfl, h1, h2, (fun h => by cases h), .inr ⟨B, rfl, hB, hW⟩⟩
  have L0 : Flp w w1 av n q bits 0 (ix l) (ix l) := ⟨X0, A2, done_zero (ix l) n q bits, k1⟩
  have HH3 := Lib.hid H3
  clear O1 A5 H3 X0 k1
  go_wp2_with fail
  go_loopw [9, 10] (fun ch i wr => ∃ (k : Nat) (g : Nat → Nat), k ≤ 32 ∧ i = .int .i64 k ∧ ch = .bool (chg bits (8 * n - q) k) ∧ Flp w wr av n q bits k (ix l) g) (fun _ i _ => 32 - (intOf i).toNat)
  case atStart => exact ⟨0, _, by omega, rfl, rfl, L0⟩
  case round =>
    clear L0
    obtain ⟨k, g, hk, rfl, rfl, L⟩ := hrel
    by_cases hlt : k < 32
    · by_cases hbt : bits.testBit k = true
      · have t1 : (((bits : Int) / 2 ^ k).tmod 2 == 1) = true := by rw [bit_iff, hbt]
        by_cases hin : q + k < 8 * n
        · have t2 : decide (((q : Int) + (k : Int)) / 8 < (n : Int)) = true := decide_eq_true (by omega)
          obtain ⟨B, rfl, hB, X⟩ := L.X.resolve_left (by omega)
          obtain ⟨cx, fx⟩ := X ((q + k) / 8) (by omega)
          have hgx := L.G ((q + k) / 8) (by omega)
          have XS := X.set (j := (q + k) / 8) (by omega) (g ((q + k) / 8) ^^^ 2 ^ ((q + k) % 8))
          have DS := done_step L.D hbt hin
          have e1 := flip_walk hgx (show (q + k) % 8 < 8 by omega)
          have fl := flip_lt hgx (show (q + k) % 8 < 8 by omega)
          have CH := Lib.hid (chg_step hbt (show k < 8 * n - q by omega))
          have GS := upd_lt (n := n) (j := (q + k) / 8) L.G fl
          generalize g ((q + k) / 8) ^^^ 2 ^ ((q + k) % 8) = z at *
          go_wp2_with fail
          go_region
          all_goals (try go_wp2_with fail)
          exact ⟨⟨k + 1, _, by omega, by go_num, by rw [CH.out], ⟨.inr ⟨B, rfl, hB, XS⟩, GS, DS, (L.k.setCell (p := ⟨B, (q + k) / 8, none⟩) hB _).drew⟩⟩, by simp only [intOf]; omega⟩
        · have t2 : decide (((q : Int) + (k : Int)) / 8 < (n : Int)) = false := decide_eq_false (by omega)
          have SK := L.skip (fun h => by omega)
          have CH := chg_skip (bits := bits) (M := 8 * n - q) (k := k) (fun h => by omega)
          rw [← CH]
          clear CH
          go_wp2_with fail
          exact ⟨⟨k + 1, g, by omega, by go_num, rfl, SK⟩, by simp only [intOf]; omega⟩
      · have t1 : (((bits : Int) / 2 ^ k).tmod 2 == 1) = false := by rw [bit_iff]; simpa using hbt
        have SK := L.skip (fun h => hbt h.1)
        have CH := chg_skip (bits := bits) (M := 8 * n - q) (k := k) (fun h => hbt h.1)
        rw [← CH]
        clear CH
        go_wp2_with fail
        exact ⟨⟨k + 1, g, by omega, by go_num, rfl, SK⟩, by simp only [intOf]; omega⟩
    · obtain rfl : k = 32 := by omega
      go_wp2_with fail
      refine bodyPost_ret (v := .tuple #[.slice av n cp, .bool (chg bits (8 * n - q) 32)]) (by simp [results, Try.results32, go_sem]) rfl ?_
      have hl : At wr av n g := by
        refine ⟨?_, L.G⟩
        rcases L.X with h0 | ⟨B, rfl, _, X⟩
        · exact .inl h0
        · exact .inr ⟨B, 0, rfl, fun j hj => by rw [Nat.zero_add]; exact (X j hj).1⟩
      exact ⟨av, cp, g, rfl, ⟨hl.list, lst_length g n, H1, H2, by omega, HH3.out⟩, L.D, L.k⟩
end Go.Proofs.Ytegniedbiegcpaa
