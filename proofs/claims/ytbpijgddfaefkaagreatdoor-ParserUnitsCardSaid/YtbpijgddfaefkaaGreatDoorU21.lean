/-
  Bytes of a constant text in a block of the call's own; The statements' examples; Texts of units as plain data: printing, cutting, reading back.
-/
import Derived.Lib.SlBytesConst
import Derived.Lib.AtoiAllCases
import Derived.Lib.Bytealg
import Derived.Lib.Small
import Derived.Test.YtbpijgddfaefkaaGreatDoorU05
import Derived.Test.YtbpijgddfaefkaaGreatDoorU06
import Derived.Test.YtbpijgddfaefkaaGreatDoorU20
namespace Go.Proofs.YtbpijgddfaefkaaGreatDoor.pa
open Go.RowKit dec

theorem bs_lit (w : World) (cs : Array Value) (s : ByteArray) (T : TypeId) (fr : Nat × Nat) (n : Nat) (hs : s.size = n) (hc : (bv s.data.toList).toArray = cs) (hn : n ≤ 1000000) : Bs (w.alloc (.cells cs T fr)) (some ⟨w.heap.size, 0, none⟩) n n s := by
  refine ⟨.inr ⟨w.heap.size, 0, rfl, fun j hj => ?_⟩, hs, Nat.le_refl _, by omega, fun h => by cases h⟩
  rw [Nat.zero_add, World.cell?_alloc_mark w cs T fr j, ← hc]
  rw [List.getElem?_toArray]
  unfold bv
  rw [List.getElem?_map, List.getElem?_eq_getElem (by rw [str_len]; exact hj)]
  rfl
theorem cv_bb (w : World) (C : Array Value) (n c : Nat) : (convert 22 22 (.slice (some ⟨w.heap.size, 0, none⟩) n c)).run Tryz.prog (w.alloc (.cells C 5)) = .ok (.slice (some ⟨w.heap.size, 0, none⟩) n c) (w.alloc (.cells C 5 (C.size, C.size + 1))) := Lib.run_convert_bytes_const (P := Tryz.prog) w 22 5 C n c Tryz.underlying22 Tryz.underlying5
/-- The examples of the statements hold. -/
def ExA : Prop := ∀ W, Tabs W → Calls Tryz.prog 11 #[] W fun e w' => e = .returned (.bool true) ∧ Below W.heap.size W w'
end Go.Proofs.YtbpijgddfaefkaaGreatDoor.pa
namespace Go.Proofs.YtbpijgddfaefkaaGreatDoor.pa
open Go.RowKit dec

def eC1 : Array Value := #[.int .u8 49, .int .u8 32, .int .u8 43, .int .u8 32, .int .u8 50, .int .u8 32, .int .u8 42, .int .u8 32, .int .u8 97]
theorem eB1 (w : World) : Bs (w.alloc (.cells eC1 5 (9, 9 + 1))) (some ⟨w.heap.size, 0, none⟩) 9 9 eS1 := bs_lit w eC1 eS1 5 (9, 9 + 1) 9 (by decide) (by kernel_rfl) (by decide)
def eC2 : Array Value := #[.int .u8 97, .int .u8 32, .int .u8 100, .int .u8 101, .int .u8 102, .int .u8 97, .int .u8 117, .int .u8 108, .int .u8 116, .int .u8 32, .int .u8 98, .int .u8 32, .int .u8 100, .int .u8 101, .int .u8 102, .int .u8 97, .int .u8 117, .int .u8 108, .int .u8 116, .int .u8 32, .int .u8 49, .int .u8 46, .int .u8 53]
theorem eB2 (w : World) : Bs (w.alloc (.cells eC2 5 (23, 23 + 1))) (some ⟨w.heap.size, 0, none⟩) 23 23 eS2 := bs_lit w eC2 eS2 5 (23, 23 + 1) 23 (by decide) (by kernel_rfl) (by decide)
def eC3 : Array Value := #[.int .u8 99, .int .u8 111, .int .u8 117, .int .u8 110, .int .u8 116, .int .u8 40, .int .u8 116, .int .u8 44, .int .u8 32, .int .u8 97, .int .u8 108, .int .u8 108, .int .u8 32, .int .u8 119, .int .u8 104, .int .u8 101, .int .u8 114, .int .u8 101, .int .u8 32, .int .u8 120, .int .u8 41]
theorem eB3 (w : World) : Bs (w.alloc (.cells eC3 5 (21, 21 + 1))) (some ⟨w.heap.size, 0, none⟩) 21 21 eS3 := bs_lit w eC3 eS3 5 (21, 21 + 1) 21 (by decide) (by kernel_rfl) (by decide)
def eC4 : Array Value := #[.int .u8 97, .int .u8 32, .int .u8 60, .int .u8 32, .int .u8 98, .int .u8 32, .int .u8 60, .int .u8 32, .int .u8 99]
theorem eB4 (w : World) : Bs (w.alloc (.cells eC4 5 (9, 9 + 1))) (some ⟨w.heap.size, 0, none⟩) 9 9 eS4 := bs_lit w eC4 eS4 5 (9, 9 + 1) 9 (by decide) (by kernel_rfl) (by decide)
def eC5 : Array Value := #[.int .u8 99, .int .u8 111, .int .u8 117, .int .u8 110, .int .u8 116, .int .u8 40, .int .u8 116, .int .u8 44, .int .u8 32, .int .u8 97, .int .u8 108, .int .u8 108]
theorem eB5 (w : World) : Bs (w.alloc (.cells eC5 5 (12, 12 + 1))) (some ⟨w.heap.size, 0, none⟩) 12 12 eS5 := bs_lit w eC5 eS5 5 (12, 12 + 1) 12 (by decide) (by kernel_rfl) (by decide)
def eC6 : Array Value := #[.int .u8 49, .int .u8 32, .int .u8 91, .int .u8 109, .int .u8 94, .int .u8 57, .int .u8 93]
theorem eB6 (w : World) : Bs (w.alloc (.cells eC6 5 (7, 7 + 1))) (some ⟨w.heap.size, 0, none⟩) 7 7 eS6 := bs_lit w eC6 eS6 5 (7, 7 + 1) 7 (by decide) (by kernel_rfl) (by decide)
def eC7 : Array Value := #[.int .u8 100, .int .u8 101, .int .u8 99, .int .u8 32, .int .u8 91, .int .u8 101, .int .u8 117, .int .u8 114, .int .u8 32, .int .u8 42, .int .u8 32, .int .u8 104, .int .u8 94, .int .u8 45, .int .u8 49, .int .u8 93]
theorem eB7 (w : World) : Bs (w.alloc (.cells eC7 5 (16, 16 + 1))) (some ⟨w.heap.size, 0, none⟩) 16 16 eS7 := bs_lit w eC7 eS7 5 (16, 16 + 1) 16 (by decide) (by kernel_rfl) (by decide)
def eC8 : Array Value := #[.int .u8 116, .int .u8 97, .int .u8 98, .int .u8 108, .int .u8 101, .int .u8 32, .int .u8 116, .int .u8 32, .int .u8 111, .int .u8 102, .int .u8 32, .int .u8 117, .int .u8 32, .int .u8 123, .int .u8 32, .int .u8 110, .int .u8 58, .int .u8 32, .int .u8 105, .int .u8 110, .int .u8 116, .int .u8 32, .int .u8 125, .int .u8 59, .int .u8 32, .int .u8 116, .int .u8 97, .int .u8 98, .int .u8 108, .int .u8 101, .int .u8 32, .int .u8 120, .int .u8 32, .int .u8 111, .int .u8 102, .int .u8 59, .int .u8 32, .int .u8 102, .int .u8 101, .int .u8 97, .int .u8 116, .int .u8 117, .int .u8 114, .int .u8 101, .int .u8 32, .int .u8 102, .int .u8 32, .int .u8 111, .int .u8 102, .int .u8 32, .int .u8 117, .int .u8 58, .int .u8 32, .int .u8 105, .int .u8 110, .int .u8 116, .int .u8 32, .int .u8 61, .int .u8 32, .int .u8 49, .int .u8 59]
theorem eB8 (w : World) : Bs (w.alloc (.cells eC8 5 (61, 61 + 1))) (some ⟨w.heap.size, 0, none⟩) 61 61 eS8 := bs_lit w eC8 eS8 5 (61, 61 + 1) 61 (by decide) (by kernel_rfl) (by decide)
set_option maxRecDepth 100000 in
set_option maxHeartbeats 16000000 in
theorem example_any (w : World) (T : Tabs w) : Calls Tryz.prog 11 #[] w fun e w' => e = .returned (.bool true) ∧ Below w.heap.size w w' := by
  have cvs := cv_bb
  have T0 := Lib.hid T
  have B0 := Lib.hid (b0 w)
  clear T
  go_enter Tryz.func11, Tryz.ntmps11
  go_wp2_with fail
  have K1 := Lib.hid (balloc B0.out (.cells eC1 5 (9, 9 + 1)))
  have C1 := Lib.hid (topE_any _ 9 9 eS1 (w.alloc (.cells eC1 5 (9, 9 + 1))) (eB1 w) (T0.out.stays K1.out) (eX1, 0, 0) ev1)
  unfold eC1 at C1 K1
  refine C1.out.mono ?_
  rintro e v1 ⟨r, rfl, V, b⟩
  obtain ⟨ua1, uc1, aa1, ac1, rfl, E⟩ := V
  have D1 := Lib.hid (bnext K1.out b)
  have G1 := Lib.hid (bnext (balloc (b0 w) (.cells #[.int .u8 49, .int .u8 32, .int .u8 43, .int .u8 32, .int .u8 50, .int .u8 32, .int .u8 42, .int .u8 32, .int .u8 97] 5 (9, 9 + 1))) b)
  have Z1 := Lib.hid b.size
  have E1 := Lib.hid E
  clear b E C1 K1
  go_wp2_with (refine arm_storeT infX (.tmp 1) (.tmp 32) rfl rfl _ _ _ _ rfl rfl (Blk.new _ _ _) rfl rfl (exC_one _ _ _ _ _) ?_; intro u1 L s; have b := (balloc (b0 v1) _).trans (s.below (Nat.le_refl _)); have L1 := Lib.hid L; have F1 := Lib.hid b; have B1 := Lib.hid (bnext D1.out b); clear L s b)
  have K2 := Lib.hid (balloc B1.out (.cells eC2 5 (23, 23 + 1)))
  have C2 := Lib.hid (topE_any _ 23 23 eS2 (u1.alloc (.cells eC2 5 (23, 23 + 1))) (eB2 u1) (T0.out.stays K2.out) (eX2, 0, 0) ev2)
  unfold eC2 at C2 K2
  refine C2.out.mono ?_
  rintro e v2 ⟨r, rfl, V, b⟩
  obtain ⟨ua2, uc2, aa2, ac2, rfl, E⟩ := V
  have D2 := Lib.hid (bnext K2.out b)
  have G2 := Lib.hid (bnext (balloc (b0 u1) (.cells #[.int .u8 97, .int .u8 32, .int .u8 100, .int .u8 101, .int .u8 102, .int .u8 97, .int .u8 117, .int .u8 108, .int .u8 116, .int .u8 32, .int .u8 98, .int .u8 32, .int .u8 100, .int .u8 101, .int .u8 102, .int .u8 97, .int .u8 117, .int .u8 108, .int .u8 116, .int .u8 32, .int .u8 49, .int .u8 46, .int .u8 53] 5 (23, 23 + 1))) b)
  have Z2 := Lib.hid b.size
  have E2 := Lib.hid E
  clear b E C2 K2
  go_wp2_with (refine arm_storeT infX (.tmp 4) (.tmp 39) rfl rfl _ _ _ _ rfl rfl (Blk.new _ _ _) rfl rfl (exC_one _ _ _ _ _) ?_; intro u2 L s; have b := (balloc (b0 v2) _).trans (s.below (Nat.le_refl _)); have L2 := Lib.hid L; have F2 := Lib.hid b; have B2 := Lib.hid (bnext D2.out b); clear L s b)
  have K3 := Lib.hid (balloc B2.out (.cells eC3 5 (21, 21 + 1)))
  have C3 := Lib.hid (topE_any _ 21 21 eS3 (u2.alloc (.cells eC3 5 (21, 21 + 1))) (eB3 u2) (T0.out.stays K3.out) (eX3, 0, 0) ev3)
  unfold eC3 at C3 K3
  refine C3.out.mono ?_
  rintro e v3 ⟨r, rfl, V, b⟩
  obtain ⟨ua3, uc3, aa3, ac3, rfl, E⟩ := V
  have D3 := Lib.hid (bnext K3.out b)
  have G3 := Lib.hid (bnext (balloc (b0 u2) (.cells #[.int .u8 99, .int .u8 111, .int .u8 117, .int .u8 110, .int .u8 116, .int .u8 40, .int .u8 116, .int .u8 44, .int .u8 32, .int .u8 97, .int .u8 108, .int .u8 108, .int .u8 32, .int .u8 119, .int .u8 104, .int .u8 101, .int .u8 114, .int .u8 101, .int .u8 32, .int .u8 120, .int .u8 41] 5 (21, 21 + 1))) b)
  have Z3 := Lib.hid b.size
  have E3 := Lib.hid E
  clear b E C3 K3
  go_wp2_with (refine arm_storeT infX (.tmp 7) (.tmp 46) rfl rfl _ _ _ _ rfl rfl (Blk.new _ _ _) rfl rfl (exC_one _ _ _ _ _) ?_; intro u3 L s; have b := (balloc (b0 v3) _).trans (s.below (Nat.le_refl _)); have L3 := Lib.hid L; have F3 := Lib.hid b; have B3 := Lib.hid (bnext D3.out b); clear L s b)
  have K4 := Lib.hid (balloc B3.out (.cells eC4 5 (9, 9 + 1)))
  have C4 := Lib.hid (topE_any _ 9 9 eS4 (u3.alloc (.cells eC4 5 (9, 9 + 1))) (eB4 u3) (T0.out.stays K4.out) (zX, 6, 90) ev4)
  unfold eC4 at C4 K4
  refine C4.out.mono ?_
  rintro e v4 ⟨r, rfl, V, b⟩
  obtain ⟨ua4, uc4, aa4, ac4, rfl, E⟩ := V
  have D4 := Lib.hid (bnext K4.out b)
  have G4 := Lib.hid (bnext (balloc (b0 u3) (.cells #[.int .u8 97, .int .u8 32, .int .u8 60, .int .u8 32, .int .u8 98, .int .u8 32, .int .u8 60, .int .u8 32, .int .u8 99] 5 (9, 9 + 1))) b)
  have Z4 := Lib.hid b.size
  have E4 := Lib.hid E
  clear b E C4 K4
  go_wp2_with (refine arm_storeT infX (.tmp 10) (.tmp 53) rfl rfl _ _ _ _ rfl rfl (Blk.new _ _ _) rfl rfl (exC_one _ _ _ _ _) ?_; intro u4 L s; have b := (balloc (b0 v4) _).trans (s.below (Nat.le_refl _)); have L4 := Lib.hid L; have F4 := Lib.hid b; have B4 := Lib.hid (bnext D4.out b); clear L s b)
  have K5 := Lib.hid (balloc B4.out (.cells eC5 5 (12, 12 + 1)))
  have C5 := Lib.hid (topE_any _ 12 12 eS5 (u4.alloc (.cells eC5 5 (12, 12 + 1))) (eB5 u4) (T0.out.stays K5.out) (zX, 12, 90) ev5)
  unfold eC5 at C5 K5
  refine C5.out.mono ?_
  rintro e v5 ⟨r, rfl, V, b⟩
  obtain ⟨ua5, uc5, aa5, ac5, rfl, E⟩ := V
  have D5 := Lib.hid (bnext K5.out b)
  have G5 := Lib.hid (bnext (balloc (b0 u4) (.cells #[.int .u8 99, .int .u8 111, .int .u8 117, .int .u8 110, .int .u8 116, .int .u8 40, .int .u8 116, .int .u8 44, .int .u8 32, .int .u8 97, .int .u8 108, .int .u8 108] 5 (12, 12 + 1))) b)
  have Z5 := Lib.hid b.size
  have E5 := Lib.hid E
  clear b E C5 K5
  go_wp2_with (refine arm_storeT infX (.tmp 13) (.tmp 60) rfl rfl _ _ _ _ rfl rfl (Blk.new _ _ _) rfl rfl (exC_one _ _ _ _ _) ?_; intro u5 L s; have b := (balloc (b0 v5) _).trans (s.below (Nat.le_refl _)); have L5 := Lib.hid L; have F5 := Lib.hid b; have B5 := Lib.hid (bnext D5.out b); clear L s b)
  have K6 := Lib.hid (balloc B5.out (.cells eC6 5 (7, 7 + 1)))
  have C6 := Lib.hid (topE_any _ 7 7 eS6 (u5.alloc (.cells eC6 5 (7, 7 + 1))) (eB6 u5) (T0.out.stays K6.out) (zX, 2, 70) ev6)
  unfold eC6 at C6 K6
  refine C6.out.mono ?_
  rintro e v6 ⟨r, rfl, V, b⟩
  obtain ⟨ua6, uc6, aa6, ac6, rfl, E⟩ := V
  have D6 := Lib.hid (bnext K6.out b)
  have G6 := Lib.hid (bnext (balloc (b0 u5) (.cells #[.int .u8 49, .int .u8 32, .int .u8 91, .int .u8 109, .int .u8 94, .int .u8 57, .int .u8 93] 5 (7, 7 + 1))) b)
  have Z6 := Lib.hid b.size
  have E6 := Lib.hid E
  clear b E C6 K6
  go_wp2_with (refine arm_storeT infX (.tmp 16) (.tmp 67) rfl rfl _ _ _ _ rfl rfl (Blk.new _ _ _) rfl rfl (exC_one _ _ _ _ _) ?_; intro u6 L s; have b := (balloc (b0 v6) _).trans (s.below (Nat.le_refl _)); have L6 := Lib.hid L; have F6 := Lib.hid b; have B6 := Lib.hid (bnext D6.out b); clear L s b)
  have K7 := Lib.hid (balloc B6.out (.cells eC7 5 (16, 16 + 1)))
  have C7 := Lib.hid (topT_any _ 16 16 eS7 (u6.alloc (.cells eC7 5 (16, 16 + 1))) (eB7 u6) (T0.out.stays K7.out) (eT7, 0, 0) ev7)
  unfold eC7 at C7 K7
  refine C7.out.mono ?_
  rintro e v7 ⟨r, rfl, V, b⟩
  obtain ⟨ua7, uc7, rfl, E⟩ := V
  have D7 := Lib.hid (bnext K7.out b)
  have G7 := Lib.hid (bnext (balloc (b0 u6) (.cells #[.int .u8 100, .int .u8 101, .int .u8 99, .int .u8 32, .int .u8 91, .int .u8 101, .int .u8 117, .int .u8 114, .int .u8 32, .int .u8 42, .int .u8 32, .int .u8 104, .int .u8 94, .int .u8 45, .int .u8 49, .int .u8 93] 5 (16, 16 + 1))) b)
  have Z7 := Lib.hid b.size
  have E7t := Lib.hid E
  clear b E C7 K7
  go_wp2_with (refine arm_storeT infTy (.tmp 19) (.tmp 74) rfl rfl _ _ _ _ rfl rfl (Blk.new _ _ _) rfl rfl (by simp [Value.oneCell']) ?_; intro u7 L s; have b := (balloc (b0 v7) _).trans (s.below (Nat.le_refl _)); have L7 := Lib.hid L; have F7 := Lib.hid b; have B7 := Lib.hid (bnext D7.out b); clear L s b)
  have K8 := Lib.hid (balloc B7.out (.cells eC8 5 (61, 61 + 1)))
  have C8 := Lib.hid (module_any _ 61 61 eS8 (u7.alloc (.cells eC8 5 (61, 61 + 1))) (eB8 u7) (T0.out.stays K8.out) ek8 eM8 [(35, 90)] ev8)
  unfold eC8 at C8 K8
  refine C8.out.mono ?_
  rintro e v8 ⟨r, u8, rfl, V, P, b⟩
  obtain ⟨ta, tc, fa, fc, rfl, RT, RF⟩ := V
  obtain ⟨p8, a8, c8, hp8, hs8, rfl, SP⟩ := P
  obtain rfl : p8 = [(35, 90)] := List.perm_singleton.1 hp8
  obtain ⟨tb, toff, tcs, rfl, tR, tq1, tq2, rfl, tq3⟩ := row_at RT (fun c x hq => by obtain ⟨_, _, rfl, _⟩ := hq; rfl) 0 (by decide)
  have d2 : v8.cell? ⟨tb, toff, none⟩ = some (.string ⟨#[116]⟩) := by have := tR 0 _ rfl; rw [show eM8.ts[0].nm = ⟨#[116]⟩ from rfl] at this; simpa using this
  obtain ⟨b8, o8, rfl, hC8⟩ : ∃ b off, a8 = some ⟨b, off, none⟩ ∧ pb.Cl v8 b off [(35, 90)] := by
    rcases SP.hat with h | h
    · cases h
    · exact h
  have d0 : v8.cell? ⟨b8, o8, none⟩ = some (.int .i64 35) := by have := (hC8 0 (by decide)).1; rw [show (pb.gt [((35 : Int), (90 : Int))] 0).1 = 35 from rfl] at this; simpa using this
  have d1 : v8.cell? ⟨b8, o8 + 1, none⟩ = some (.int .i64 90) := by have := (hC8 0 (by decide)).2; rw [show (pb.gt [((35 : Int), (90 : Int))] 0).2 = 90 from rfl] at this; simpa using this
  have P8 := Lib.hid (And.intro d0 (And.intro d1 d2))
  clear SP RT RF hp8 hs8 tR tq3 hC8 d0 d1 d2
  have D8 := Lib.hid (bnext K8.out b)
  have G8 := Lib.hid (bnext (balloc (b0 u7) (.cells #[.int .u8 116, .int .u8 97, .int .u8 98, .int .u8 108, .int .u8 101, .int .u8 32, .int .u8 116, .int .u8 32, .int .u8 111, .int .u8 102, .int .u8 32, .int .u8 117, .int .u8 32, .int .u8 123, .int .u8 32, .int .u8 110, .int .u8 58, .int .u8 32, .int .u8 105, .int .u8 110, .int .u8 116, .int .u8 32, .int .u8 125, .int .u8 59, .int .u8 32, .int .u8 116, .int .u8 97, .int .u8 98, .int .u8 108, .int .u8 101, .int .u8 32, .int .u8 120, .int .u8 32, .int .u8 111, .int .u8 102, .int .u8 59, .int .u8 32, .int .u8 102, .int .u8 101, .int .u8 97, .int .u8 116, .int .u8 117, .int .u8 114, .int .u8 101, .int .u8 32, .int .u8 102, .int .u8 32, .int .u8 111, .int .u8 102, .int .u8 32, .int .u8 117, .int .u8 58, .int .u8 32, .int .u8 105, .int .u8 110, .int .u8 116, .int .u8 32, .int .u8 61, .int .u8 32, .int .u8 49, .int .u8 59] 5 (61, 61 + 1))) b)
  have Z8 := Lib.hid b.size
  clear b  C8 K8
  go_wp2_with (refine arm_storeT infMo (.tmp 22) (.tmp 81) rfl rfl _ _ _ _ rfl rfl (Blk.new _ _ _) rfl rfl (by simp [Value.oneCell']) ?_; intro u8 L s; have b := (balloc (b0 v8) _).trans (s.below (Nat.le_refl _)); have L8 := Lib.hid L; have F8 := Lib.hid b; have B8 := Lib.hid (bnext D8.out b); clear L s b)
  have J1 := bnext G2.out F2.out
  have J2 := bnext G3.out F3.out
  have J3 := bnext G4.out F4.out
  have J4 := bnext G5.out F5.out
  have J5 := bnext G6.out F6.out
  have J6 := bnext G7.out F7.out
  have J7 := bnext G8.out F8.out
  have A7 := Lib.hid J7
  have A6 := Lib.hid (bnext J6 A7.out)
  have A5 := Lib.hid (bnext J5 A6.out)
  have A4 := Lib.hid (bnext J4 A5.out)
  have A3 := Lib.hid (bnext J3 A4.out)
  have A2 := Lib.hid (bnext J2 A3.out)
  have A1 := Lib.hid (bnext J1 A2.out)
  clear J1 G2 J2 G3 J3 G4 J4 G5 J5 G6 J6 G7 J7 G8 G1 T0 cvs
  clear Z1 D1 Z2 D2 Z3 D3 Z4 D4 Z5 D5 Z6 D6 Z7 D7 Z8 D8 B1 B2 B3 B4 B5 B6 B7 E4 E5 E6 L4 L5 L6
  have BH := Lib.hid (balloc (b0 u8) (.cells #[.int .i64 1, .string ⟨#[]⟩, .string ⟨#[]⟩, .string ⟨#[]⟩, .int .i64 3, .int .i64 1500000, .string ⟨#[]⟩, .slice none 0 0, .int .i64 0, .int .i64 0, .int .i64 0, .slice none 0 0] 43))
  have LH := Lib.hid (show Blk (u8.alloc (.cells #[.int .i64 1, .string ⟨#[]⟩, .string ⟨#[]⟩, .string ⟨#[]⟩, .int .i64 3, .int .i64 1500000, .string ⟨#[]⟩, .slice none 0 0, .int .i64 0, .int .i64 0, .int .i64 0, .slice none 0 0] 43)) u8.heap.size 43 (exC eXh none 0 none 0) from Blk.new u8 43 _)
  generalize (u8.alloc (.cells #[.int .i64 1, .string ⟨#[]⟩, .string ⟨#[]⟩, .string ⟨#[]⟩, .int .i64 3, .int .i64 1500000, .string ⟨#[]⟩, .slice none 0 0, .int .i64 0, .int .i64 0, .int .i64 0, .slice none 0 0] 43)) = w9 at *
  refine (show Calls Tryz.prog 39 #[.string ⟨#[97]⟩] w9 (fun e w' => e = .returned (.agg #[.int .i64 3, .string ⟨#[]⟩, .string ⟨#[97]⟩, .string ⟨#[]⟩, .int .i64 0, .int .i64 0, .string ⟨#[]⟩, .slice none 0 0, .int .i64 0, .int .i64 0, .int .i64 0, .slice none 0 0]) ∧ Below w9.heap.size w9 w') from use_any ⟨#[97]⟩ w9).mono ?_
  rintro e w10 ⟨rfl, b⟩
  have BI := Lib.hid b; clear b
  go_wp2_with fail
  refine (show Calls Tryz.prog 39 #[.string ⟨#[98]⟩] w10 (fun e w' => e = .returned (.agg #[.int .i64 3, .string ⟨#[]⟩, .string ⟨#[98]⟩, .string ⟨#[]⟩, .int .i64 0, .int .i64 0, .string ⟨#[]⟩, .slice none 0 0, .int .i64 0, .int .i64 0, .int .i64 0, .slice none 0 0]) ∧ Below w10.heap.size w10 w') from use_any ⟨#[98]⟩ w10).mono ?_
  rintro e w11 ⟨rfl, b⟩
  have BJ := Lib.hid (bnext BI.out b); clear b BI
  go_wp2_with fail
  have BK := Lib.hid (balloc (balloc BJ.out (.cells #[.int .i64 3, .string ⟨#[]⟩, .string ⟨#[97]⟩, .string ⟨#[]⟩, .int .i64 0, .int .i64 0, .string ⟨#[]⟩, .slice none 0 0, .int .i64 0, .int .i64 0, .int .i64 0, .slice none 0 0, .int .i64 3, .string ⟨#[]⟩, .string ⟨#[98]⟩, .string ⟨#[]⟩, .int .i64 0, .int .i64 0, .string ⟨#[]⟩, .slice none 0 0, .int .i64 0, .int .i64 0, .int .i64 0, .slice none 0 0] 43)) (.cells #[.int .i64 9, .string ⟨#[]⟩, .string ⟨#[]⟩, .string ⟨#[]⟩, .int .i64 0, .int .i64 0, .string ⟨#[]⟩, .slice none 0 0, .int .i64 0, .int .i64 0, .int .i64 0, .slice (some ⟨w11.heap.size, 0, none⟩) 2 2] 43))
  have LA := Lib.hid (show Blk ((w11.alloc (.cells #[.int .i64 3, .string ⟨#[]⟩, .string ⟨#[97]⟩, .string ⟨#[]⟩, .int .i64 0, .int .i64 0, .string ⟨#[]⟩, .slice none 0 0, .int .i64 0, .int .i64 0, .int .i64 0, .slice none 0 0, .int .i64 3, .string ⟨#[]⟩, .string ⟨#[98]⟩, .string ⟨#[]⟩, .int .i64 0, .int .i64 0, .string ⟨#[]⟩, .slice none 0 0, .int .i64 0, .int .i64 0, .int .i64 0, .slice none 0 0] 43)).alloc (.cells #[.int .i64 9, .string ⟨#[]⟩, .string ⟨#[]⟩, .string ⟨#[]⟩, .int .i64 0, .int .i64 0, .string ⟨#[]⟩, .slice none 0 0, .int .i64 0, .int .i64 0, .int .i64 0, .slice (some ⟨w11.heap.size, 0, none⟩) 2 2] 43)) w11.heap.size 43 (ex2 (feaE ⟨#[97]⟩) none 0 none 0 (feaE ⟨#[98]⟩) none 0 none 0) from (Blk.new w11 43 _).past _)
  have LI := Lib.hid (show Blk ((w11.alloc (.cells #[.int .i64 3, .string ⟨#[]⟩, .string ⟨#[97]⟩, .string ⟨#[]⟩, .int .i64 0, .int .i64 0, .string ⟨#[]⟩, .slice none 0 0, .int .i64 0, .int .i64 0, .int .i64 0, .slice none 0 0, .int .i64 3, .string ⟨#[]⟩, .string ⟨#[98]⟩, .string ⟨#[]⟩, .int .i64 0, .int .i64 0, .string ⟨#[]⟩, .slice none 0 0, .int .i64 0, .int .i64 0, .int .i64 0, .slice none 0 0] 43)).alloc (.cells #[.int .i64 9, .string ⟨#[]⟩, .string ⟨#[]⟩, .string ⟨#[]⟩, .int .i64 0, .int .i64 0, .string ⟨#[]⟩, .slice none 0 0, .int .i64 0, .int .i64 0, .int .i64 0, .slice (some ⟨w11.heap.size, 0, none⟩) 2 2] 43)) (w11.heap.size + 1) 43 (exC eXi none 0 (some ⟨w11.heap.size, 0, none⟩) 2) from (show Blk ((w11.alloc (.cells #[.int .i64 3, .string ⟨#[]⟩, .string ⟨#[97]⟩, .string ⟨#[]⟩, .int .i64 0, .int .i64 0, .string ⟨#[]⟩, .slice none 0 0, .int .i64 0, .int .i64 0, .int .i64 0, .slice none 0 0, .int .i64 3, .string ⟨#[]⟩, .string ⟨#[98]⟩, .string ⟨#[]⟩, .int .i64 0, .int .i64 0, .string ⟨#[]⟩, .slice none 0 0, .int .i64 0, .int .i64 0, .int .i64 0, .slice none 0 0] 43)).alloc (.cells #[.int .i64 9, .string ⟨#[]⟩, .string ⟨#[]⟩, .string ⟨#[]⟩, .int .i64 0, .int .i64 0, .string ⟨#[]⟩, .slice none 0 0, .int .i64 0, .int .i64 0, .int .i64 0, .slice (some ⟨w11.heap.size, 0, none⟩) 2 2] 43)) (w11.heap.size + 1) 43 #[.int .i64 9, .string ⟨#[]⟩, .string ⟨#[]⟩, .string ⟨#[]⟩, .int .i64 0, .int .i64 0, .string ⟨#[]⟩, .slice none 0 0, .int .i64 0, .int .i64 0, .int .i64 0, .slice (some ⟨w11.heap.size, 0, none⟩) 2 2] from by have := Blk.new (w11.alloc (.cells #[.int .i64 3, .string ⟨#[]⟩, .string ⟨#[97]⟩, .string ⟨#[]⟩, .int .i64 0, .int .i64 0, .string ⟨#[]⟩, .slice none 0 0, .int .i64 0, .int .i64 0, .int .i64 0, .slice none 0 0, .int .i64 3, .string ⟨#[]⟩, .string ⟨#[98]⟩, .string ⟨#[]⟩, .int .i64 0, .int .i64 0, .string ⟨#[]⟩, .slice none 0 0, .int .i64 0, .int .i64 0, .int .i64 0, .slice none 0 0] 43)) 43 #[.int .i64 9, .string ⟨#[]⟩, .string ⟨#[]⟩, .string ⟨#[]⟩, .int .i64 0, .int .i64 0, .string ⟨#[]⟩, .slice none 0 0, .int .i64 0, .int .i64 0, .int .i64 0, .slice (some ⟨w11.heap.size, 0, none⟩) 2 2]; simpa using this))
  generalize ((w11.alloc (.cells #[.int .i64 3, .string ⟨#[]⟩, .string ⟨#[97]⟩, .string ⟨#[]⟩, .int .i64 0, .int .i64 0, .string ⟨#[]⟩, .slice none 0 0, .int .i64 0, .int .i64 0, .int .i64 0, .slice none 0 0, .int .i64 3, .string ⟨#[]⟩, .string ⟨#[98]⟩, .string ⟨#[]⟩, .int .i64 0, .int .i64 0, .string ⟨#[]⟩, .slice none 0 0, .int .i64 0, .int .i64 0, .int .i64 0, .slice none 0 0] 43)).alloc (.cells #[.int .i64 9, .string ⟨#[]⟩, .string ⟨#[]⟩, .string ⟨#[]⟩, .int .i64 0, .int .i64 0, .string ⟨#[]⟩, .slice none 0 0, .int .i64 0, .int .i64 0, .int .i64 0, .slice (some ⟨w11.heap.size, 0, none⟩) 2 2] 43)) = w12 at *
  clear BJ
  refine (show Calls Tryz.prog 40 #[] w12 (fun e w' => e = .returned (.agg #[.int .i64 1, .string ⟨#[]⟩, .string ⟨#[]⟩, .string ⟨#[]⟩, .int .i64 1, .int .i64 1, .string ⟨#[]⟩, .slice none 0 0, .int .i64 0, .int .i64 0, .int .i64 0, .slice none 0 0]) ∧ Below w12.heap.size w12 w') from yes_any w12).mono ?_
  rintro e w13 ⟨rfl, b⟩
  have BL := Lib.hid b; clear b
  go_wp2_with fail
  have BM := Lib.hid (balloc (balloc BL.out (.cells #[.int .i64 1, .string ⟨#[]⟩, .string ⟨#[]⟩, .string ⟨#[]⟩, .int .i64 1, .int .i64 1, .string ⟨#[]⟩, .slice none 0 0, .int .i64 0, .int .i64 0, .int .i64 0, .slice none 0 0, .int .i64 2, .string ⟨#[]⟩, .string ⟨#[120]⟩, .string ⟨#[]⟩, .int .i64 0, .int .i64 0, .string ⟨#[]⟩, .slice none 0 0, .int .i64 0, .int .i64 0, .int .i64 0, .slice none 0 0] 43)) (.cells #[.int .i64 5, .string ⟨#[99, 111, 117, 110, 116]⟩, .string ⟨#[]⟩, .string ⟨#[116]⟩, .int .i64 0, .int .i64 0, .string ⟨#[]⟩, .slice none 0 0, .int .i64 0, .int .i64 1, .int .i64 0, .slice (some ⟨w13.heap.size, 0, none⟩) 2 2] 43))
  have LC := Lib.hid (show Blk ((w13.alloc (.cells #[.int .i64 1, .string ⟨#[]⟩, .string ⟨#[]⟩, .string ⟨#[]⟩, .int .i64 1, .int .i64 1, .string ⟨#[]⟩, .slice none 0 0, .int .i64 0, .int .i64 0, .int .i64 0, .slice none 0 0, .int .i64 2, .string ⟨#[]⟩, .string ⟨#[120]⟩, .string ⟨#[]⟩, .int .i64 0, .int .i64 0, .string ⟨#[]⟩, .slice none 0 0, .int .i64 0, .int .i64 0, .int .i64 0, .slice none 0 0] 43)).alloc (.cells #[.int .i64 5, .string ⟨#[99, 111, 117, 110, 116]⟩, .string ⟨#[]⟩, .string ⟨#[116]⟩, .int .i64 0, .int .i64 0, .string ⟨#[]⟩, .slice none 0 0, .int .i64 0, .int .i64 1, .int .i64 0, .slice (some ⟨w13.heap.size, 0, none⟩) 2 2] 43)) w13.heap.size 43 (ex2 (booE 1) none 0 none 0 (fieE ⟨#[120]⟩) none 0 none 0) from (Blk.new w13 43 _).past _)
  have LN := Lib.hid (show Blk ((w13.alloc (.cells #[.int .i64 1, .string ⟨#[]⟩, .string ⟨#[]⟩, .string ⟨#[]⟩, .int .i64 1, .int .i64 1, .string ⟨#[]⟩, .slice none 0 0, .int .i64 0, .int .i64 0, .int .i64 0, .slice none 0 0, .int .i64 2, .string ⟨#[]⟩, .string ⟨#[120]⟩, .string ⟨#[]⟩, .int .i64 0, .int .i64 0, .string ⟨#[]⟩, .slice none 0 0, .int .i64 0, .int .i64 0, .int .i64 0, .slice none 0 0] 43)).alloc (.cells #[.int .i64 5, .string ⟨#[99, 111, 117, 110, 116]⟩, .string ⟨#[]⟩, .string ⟨#[116]⟩, .int .i64 0, .int .i64 0, .string ⟨#[]⟩, .slice none 0 0, .int .i64 0, .int .i64 1, .int .i64 0, .slice (some ⟨w13.heap.size, 0, none⟩) 2 2] 43)) (w13.heap.size + 1) 43 (exC eX3 none 0 (some ⟨w13.heap.size, 0, none⟩) 2) from (show Blk ((w13.alloc (.cells #[.int .i64 1, .string ⟨#[]⟩, .string ⟨#[]⟩, .string ⟨#[]⟩, .int .i64 1, .int .i64 1, .string ⟨#[]⟩, .slice none 0 0, .int .i64 0, .int .i64 0, .int .i64 0, .slice none 0 0, .int .i64 2, .string ⟨#[]⟩, .string ⟨#[120]⟩, .string ⟨#[]⟩, .int .i64 0, .int .i64 0, .string ⟨#[]⟩, .slice none 0 0, .int .i64 0, .int .i64 0, .int .i64 0, .slice none 0 0] 43)).alloc (.cells #[.int .i64 5, .string ⟨#[99, 111, 117, 110, 116]⟩, .string ⟨#[]⟩, .string ⟨#[116]⟩, .int .i64 0, .int .i64 0, .string ⟨#[]⟩, .slice none 0 0, .int .i64 0, .int .i64 1, .int .i64 0, .slice (some ⟨w13.heap.size, 0, none⟩) 2 2] 43)) (w13.heap.size + 1) 43 #[.int .i64 5, .string ⟨#[99, 111, 117, 110, 116]⟩, .string ⟨#[]⟩, .string ⟨#[116]⟩, .int .i64 0, .int .i64 0, .string ⟨#[]⟩, .slice none 0 0, .int .i64 0, .int .i64 1, .int .i64 0, .slice (some ⟨w13.heap.size, 0, none⟩) 2 2] from by have := Blk.new (w13.alloc (.cells #[.int .i64 1, .string ⟨#[]⟩, .string ⟨#[]⟩, .string ⟨#[]⟩, .int .i64 1, .int .i64 1, .string ⟨#[]⟩, .slice none 0 0, .int .i64 0, .int .i64 0, .int .i64 0, .slice none 0 0, .int .i64 2, .string ⟨#[]⟩, .string ⟨#[120]⟩, .string ⟨#[]⟩, .int .i64 0, .int .i64 0, .string ⟨#[]⟩, .slice none 0 0, .int .i64 0, .int .i64 0, .int .i64 0, .slice none 0 0] 43)) 43 #[.int .i64 5, .string ⟨#[99, 111, 117, 110, 116]⟩, .string ⟨#[]⟩, .string ⟨#[116]⟩, .int .i64 0, .int .i64 0, .string ⟨#[]⟩, .slice none 0 0, .int .i64 0, .int .i64 1, .int .i64 0, .slice (some ⟨w13.heap.size, 0, none⟩) 2 2]; simpa using this))
  generalize ((w13.alloc (.cells #[.int .i64 1, .string ⟨#[]⟩, .string ⟨#[]⟩, .string ⟨#[]⟩, .int .i64 1, .int .i64 1, .string ⟨#[]⟩, .slice none 0 0, .int .i64 0, .int .i64 0, .int .i64 0, .slice none 0 0, .int .i64 2, .string ⟨#[]⟩, .string ⟨#[120]⟩, .string ⟨#[]⟩, .int .i64 0, .int .i64 0, .string ⟨#[]⟩, .slice none 0 0, .int .i64 0, .int .i64 0, .int .i64 0, .slice none 0 0] 43)).alloc (.cells #[.int .i64 5, .string ⟨#[99, 111, 117, 110, 116]⟩, .string ⟨#[]⟩, .string ⟨#[116]⟩, .int .i64 0, .int .i64 0, .string ⟨#[]⟩, .slice none 0 0, .int .i64 0, .int .i64 1, .int .i64 0, .slice (some ⟨w13.heap.size, 0, none⟩) 2 2] 43)) = w14 at *
  clear BL
  have BT := Lib.hid (bnext BH.out BK.out)
  have BT := Lib.hid (bnext BT.out BM.out)
  have BV := Lib.hid (bnext BK.out BM.out)
  have X1 := Lib.hid (L1.out.below (bnext A1.out BT.out) L1.out.lt)
  have X2 := Lib.hid (L2.out.below (bnext A2.out BT.out) L2.out.lt)
  have X3 := Lib.hid (L3.out.below (bnext A3.out BT.out) L3.out.lt)
  have XH := Lib.hid (LH.out.below BV.out LH.out.lt)
  have XI := Lib.hid (LI.out.below BM.out LI.out.lt)
  have XA := Lib.hid (LA.out.below BM.out LA.out.lt)
  have Y1 := Lib.hid (E1.out.kp (kp_of (bnext F1.out (bnext A1.out BT.out))))
  have Y2 := Lib.hid (E2.out.kp (kp_of (bnext F2.out (bnext A2.out BT.out))))
  have Y3 := Lib.hid (E3.out.kp (kp_of (bnext F3.out (bnext A3.out BT.out))))
  have sm1 := Lib.hid (top_sm ev1)
  have sm2 := Lib.hid (top_sm ev2)
  have sm3 := Lib.hid (top_sm ev3)
  clear L1 L2 L3 LH LI LA E1 E2 E3
  refine wp_region_held_drew (S := fun w' => Below w14.heap.size w14 w') (by kernel_rfl) (b0 w14).drew (fun hH => ?_)
  refine held_take (i := 0) (d := 137) (v := .agg (exC eX1 ua1 uc1 aa1 ac1)) rfl (by kernel_rfl) (by kernel_rfl) (by kernel_rfl) rfl (fun _ _ _ h => h) rfl hH (fun w' hS => yield_load infX Tryz.underlying43 rfl (.tmp 1) rfl _ _ _ rfl (X1.out.below hS X1.out.lt) rfl) ?_
  simp only [List.set_cons_zero, List.set_cons_succ]
  refine held_only (i := 1) rfl (by kernel_rfl) rfl (fun K hK => ?_)
  go_simp
  refine (whole_any 1 _).mono ?_
  rintro e w15 ⟨rfl, b⟩
  refine hK.out _ _ (bnext hH b) (fun hH => ?_)
  clear hK K
  clear b
  refine held_only (i := 2) rfl (by kernel_rfl) rfl (fun K hK => ?_)
  go_simp
  refine (whole_any 2 _).mono ?_
  rintro e w16 ⟨rfl, b⟩
  refine hK.out _ _ (bnext hH b) (fun hH => ?_)
  clear hK K
  clear b
  refine held_only (i := 3) rfl (by kernel_rfl) rfl (fun K hK => ?_)
  go_simp
  refine (use_any ⟨#[97]⟩ _).mono ?_
  rintro e w17 ⟨rfl, b⟩
  refine hK.out _ _ (bnext hH b) (fun hH => ?_)
  clear hK K
  clear b
  refine held_only (i := 4) rfl (by kernel_rfl) rfl (fun K hK => ?_)
  go_simp
  refine (two_any ⟨#[42]⟩ (litE 2 2 []) none 0 none 0 (feaE ⟨#[97]⟩) none 0 none 0 0 _ ⟨.inl rfl, .inl rfl⟩ ⟨.inl rfl, .inl rfl⟩ (Nat.zero_le _)).mono ?_
  rintro e w18 ⟨a5, c5, rfl, E5, b⟩
  refine hK.out _ _ (bnext hH b) (fun hH => ?_)
  clear hK K
  clear b
  refine held_only (i := 5) rfl (by kernel_rfl) rfl (fun K hK => ?_)
  go_simp
  refine (two_any ⟨#[43]⟩ (litE 2 1 []) none 0 none 0 (twoE ⟨#[42]⟩ (litE 2 2 []) (feaE ⟨#[97]⟩)) none 0 a5 c5 0 _ ⟨.inl rfl, .inl rfl⟩ E5 (Nat.zero_le _)).mono ?_
  rintro e w19 ⟨a6, c6, rfl, E6, b⟩
  refine hK.out _ _ (bnext hH b) (fun hH => ?_)
  clear hK K
  clear b
  refine held_only (i := 6) rfl (by kernel_rfl) rfl (fun K hK => ?_)
  go_simp
  refine (sameE_any _ 0 eX1 ua1 aa1 none a6 uc1 ac1 0 c6 _ sm1.out.1 sm1.out.2.1 sm1.out.2.2 (Y1.out.kp (kp_of hH)) E6).mono ?_
  rintro e w20 ⟨rfl, b⟩
  refine hK.out _ _ (bnext hH b) (fun hH => ?_)
  clear hK K
  clear b
  refine held_take (i := 7) (d := 144) (v := ?_) rfl (by kernel_rfl) (by kernel_rfl) (by kernel_rfl) rfl (fun _ _ _ h => h) rfl hH (fun w' hS => ?_) ?_
  rotate_left
  · go_simp; first | done | with_reducible rfl
  simp only [List.set_cons_zero, List.set_cons_succ]
  refine held_take (i := 8) (d := 145) (v := ?_) rfl (by kernel_rfl) (by kernel_rfl) (by kernel_rfl) rfl (fun _ _ _ h => h) rfl hH (fun w' hS => ?_) ?_
  rotate_left
  · go_simp; first | done | with_reducible rfl
  simp only [List.set_cons_zero, List.set_cons_succ]
  refine held_take (i := 9) (d := 146) (v := .agg (exC eX2 ua2 uc2 aa2 ac2)) rfl (by kernel_rfl) (by kernel_rfl) (by kernel_rfl) rfl (fun _ _ _ h => h) rfl hH (fun w' hS => yield_load infX Tryz.underlying43 rfl (.tmp 4) rfl _ _ _ rfl (X2.out.below hS X2.out.lt) rfl) ?_
  simp only [List.set_cons_zero, List.set_cons_succ]
  have XJ := Lib.hid (show Blk w14 (w11.heap.size + 1) 43 #[.int .i64 9, .string ⟨#[]⟩, .string ⟨#[]⟩, .string ⟨#[]⟩, .int .i64 0, .int .i64 0, .string ⟨#[]⟩, .slice none 0 0, .int .i64 0, .int .i64 0, .int .i64 0, .slice (some ⟨w11.heap.size, 0, none⟩) 2 2] from XI.out)
  have XG := Lib.hid (show Blk w14 u8.heap.size 43 #[.int .i64 1, .string ⟨#[]⟩, .string ⟨#[]⟩, .string ⟨#[]⟩, .int .i64 3, .int .i64 1500000, .string ⟨#[]⟩, .slice none 0 0, .int .i64 0, .int .i64 0, .int .i64 0, .slice none 0 0] from XH.out)
  refine held_take (i := 10) (d := 147) (v := .agg (#[.int .i64 9, .string ⟨#[]⟩, .string ⟨#[]⟩, .string ⟨#[]⟩, .int .i64 0, .int .i64 0, .string ⟨#[]⟩, .slice none 0 0, .int .i64 0, .int .i64 0, .int .i64 0, .slice (some ⟨w11.heap.size, 0, none⟩) 2 2])) rfl (by kernel_rfl) (by kernel_rfl) (by kernel_rfl) rfl (fun _ _ _ h => h) rfl hH (fun w' hS => yield_load infX Tryz.underlying43 rfl (.tmp 26) rfl _ _ _ rfl (XJ.out.below hS XJ.out.lt) rfl) ?_
  simp only [List.set_cons_zero, List.set_cons_succ]
  refine held_take (i := 11) (d := 148) (v := .agg (#[.int .i64 1, .string ⟨#[]⟩, .string ⟨#[]⟩, .string ⟨#[]⟩, .int .i64 3, .int .i64 1500000, .string ⟨#[]⟩, .slice none 0 0, .int .i64 0, .int .i64 0, .int .i64 0, .slice none 0 0])) rfl (by kernel_rfl) (by kernel_rfl) (by kernel_rfl) rfl (fun _ _ _ h => h) rfl hH (fun w' hS => yield_load infX Tryz.underlying43 rfl (.tmp 25) rfl _ _ _ rfl (XG.out.below hS XG.out.lt) rfl) ?_
  simp only [List.set_cons_zero, List.set_cons_succ]
  refine held_only (i := 12) rfl (by kernel_rfl) rfl (fun K hK => ?_)
  go_simp
  refine hK.out _ _ (balloc hH _) (fun hH => ?_)
  clear hK K
  have LB := Lib.hid (show Blk (w20.alloc (.cells #[.int .i64 9, .string ⟨#[]⟩, .string ⟨#[]⟩, .string ⟨#[]⟩, .int .i64 0, .int .i64 0, .string ⟨#[]⟩, .slice none 0 0, .int .i64 0, .int .i64 0, .int .i64 0, .slice (some ⟨w11.heap.size, 0, none⟩) 2 2, .int .i64 1, .string ⟨#[]⟩, .string ⟨#[]⟩, .string ⟨#[]⟩, .int .i64 3, .int .i64 1500000, .string ⟨#[]⟩, .slice none 0 0, .int .i64 0, .int .i64 0, .int .i64 0, .slice none 0 0] 43)) w20.heap.size 43 (ex2 eXi none 0 (some ⟨w11.heap.size, 0, none⟩) 2 eXh none 0 none 0) from Blk.new w20 43 _)
  generalize (w20.alloc (.cells #[.int .i64 9, .string ⟨#[]⟩, .string ⟨#[]⟩, .string ⟨#[]⟩, .int .i64 0, .int .i64 0, .string ⟨#[]⟩, .slice none 0 0, .int .i64 0, .int .i64 0, .int .i64 0, .slice (some ⟨w11.heap.size, 0, none⟩) 2 2, .int .i64 1, .string ⟨#[]⟩, .string ⟨#[]⟩, .string ⟨#[]⟩, .int .i64 3, .int .i64 1500000, .string ⟨#[]⟩, .slice none 0 0, .int .i64 0, .int .i64 0, .int .i64 0, .slice none 0 0] 43)) = w21 at *
  refine held_take (i := 13) (d := 150) (v := ?_) rfl (by kernel_rfl) (by kernel_rfl) (by kernel_rfl) rfl (fun _ _ _ h => h) rfl hH (fun w' hS => ?_) ?_
  rotate_left
  · go_simp; first | done | with_reducible rfl
  simp only [List.set_cons_zero, List.set_cons_succ]
  have E7 : Ec 0 w21 eX2 none (some ⟨w20.heap.size, 0, none⟩) := ⟨.inl rfl, as_2 LB.out ⟨.inl rfl, as_2 (XA.out.below hH XA.out.lt) ⟨.inl rfl, .inl rfl⟩ ⟨.inl rfl, .inl rfl⟩ (Nat.zero_le _)⟩ ⟨.inl rfl, .inl rfl⟩ (Nat.zero_le _)⟩
  refine held_only (i := 14) rfl (by kernel_rfl) rfl (fun K hK => ?_)
  go_simp
  refine (sameE_any _ 0 eX2 ua2 aa2 none (some ⟨w20.heap.size, 0, none⟩) uc2 ac2 0 2 _ sm2.out.1 sm2.out.2.1 sm2.out.2.2 (Y2.out.kp (kp_of hH)) E7).mono ?_
  rintro e w22 ⟨rfl, b⟩
  refine hK.out _ _ (bnext hH b) (fun hH => ?_)
  clear hK K
  clear b
  refine held_take (i := 15) (d := 152) (v := ?_) rfl (by kernel_rfl) (by kernel_rfl) (by kernel_rfl) rfl (fun _ _ _ h => h) rfl hH (fun w' hS => ?_) ?_
  rotate_left
  · go_simp; first | done | with_reducible rfl
  simp only [List.set_cons_zero, List.set_cons_succ]
  refine held_take (i := 16) (d := 153) (v := ?_) rfl (by kernel_rfl) (by kernel_rfl) (by kernel_rfl) rfl (fun _ _ _ h => h) rfl hH (fun w' hS => ?_) ?_
  rotate_left
  · go_simp; first | done | with_reducible rfl
  simp only [List.set_cons_zero, List.set_cons_succ]
  refine held_take (i := 17) (d := 154) (v := ?_) rfl (by kernel_rfl) (by kernel_rfl) (by kernel_rfl) rfl (fun _ _ _ h => h) rfl hH (fun w' hS => ?_) ?_
  rotate_left
  · go_simp; first | done | with_reducible rfl
  simp only [List.set_cons_zero, List.set_cons_succ]
  refine held_take (i := 18) (d := 155) (v := .agg (exC eX3 ua3 uc3 aa3 ac3)) rfl (by kernel_rfl) (by kernel_rfl) (by kernel_rfl) rfl (fun _ _ _ h => h) rfl hH (fun w' hS => yield_load infX Tryz.underlying43 rfl (.tmp 7) rfl _ _ _ rfl (X3.out.below hS X3.out.lt) rfl) ?_
  simp only [List.set_cons_zero, List.set_cons_succ]
  refine held_take (i := 19) (d := 156) (v := .agg (exC eX3 none 0 (some ⟨w13.heap.size, 0, none⟩) 2)) rfl (by kernel_rfl) (by kernel_rfl) (by kernel_rfl) rfl (fun _ _ _ h => h) rfl hH (fun w' hS => yield_load infX Tryz.underlying43 rfl (.tmp 27) rfl _ _ _ rfl (LN.out.below hS LN.out.lt) rfl) ?_
  simp only [List.set_cons_zero, List.set_cons_succ]
  have E9 : Ec 0 w22 eX3 none (some ⟨w13.heap.size, 0, none⟩) := ⟨.inl rfl, as_2 (LC.out.below hH LC.out.lt) ⟨.inl rfl, .inl rfl⟩ ⟨.inl rfl, .inl rfl⟩ (Nat.zero_le _)⟩
  refine held_only (i := 20) rfl (by kernel_rfl) rfl (fun K hK => ?_)
  go_simp
  refine (sameE_any _ 0 eX3 ua3 aa3 none (some ⟨w13.heap.size, 0, none⟩) uc3 ac3 0 2 _ sm3.out.1 sm3.out.2.1 sm3.out.2.2 (Y3.out.kp (kp_of hH)) E9).mono ?_
  rintro e w23 ⟨rfl, b⟩
  refine hK.out _ _ (bnext hH b) (fun hH => ?_)
  clear hK K
  clear b
  refine held_take (i := 21) (d := 158) (v := ?_) rfl (by kernel_rfl) (by kernel_rfl) (by kernel_rfl) rfl (fun _ _ _ h => h) rfl hH (fun w' hS => ?_) ?_
  rotate_left
  · go_simp; first | done | with_reducible rfl
  simp only [List.set_cons_zero, List.set_cons_succ]
  refine held_take (i := 22) (d := 159) (v := ?_) rfl (by kernel_rfl) (by kernel_rfl) (by kernel_rfl) rfl (fun _ _ _ h => h) rfl hH (fun w' hS => ?_) ?_
  rotate_left
  · go_simp; first | done | with_reducible rfl
  simp only [List.set_cons_zero, List.set_cons_succ]
  have BZ := Lib.hid (bnext BT.out hH)
  have BY := Lib.hid (bnext (bnext B8.out BT.out) hH)
  have X7 := Lib.hid (L7.out.below (bnext A7.out BZ.out) L7.out.lt)
  have Y7 := Lib.hid (E7t.out.kp (kp_of (bnext F7.out (bnext A7.out BZ.out))))
  have X8 := Lib.hid (show Blk w23 v8.heap.size 27 #[.slice (some ⟨tb, toff, none⟩) 1 tc, .slice fa 1 fc] from L8.out.below BZ.out L8.out.lt)
  have B9 := Lib.hid (bnext F8.out BZ.out)
  clear XH XI XA XJ XG X1 X2 X3 Y1 Y2 Y3 LN LC LB E7 E9 E5 E6 sm1 sm2 sm3 hH
  refine wpAnyH_done (by kernel_rfl) ?_ _
  go_wp2_with (refine arm_loadT infTy Tryz.underlying47 rfl (.tmp 19) rfl rfl _ _ _ rfl X7.out rfl ?_)
  have FB := Lib.hid (balloc (b0 w23) (.cells #[.string ⟨#[101, 117, 114]⟩, .int .i64 1, .string ⟨#[104]⟩, .int .i64 (-1)] 55))
  have LF := Lib.hid (Blk.new w23 55 #[.string ⟨#[101, 117, 114]⟩, .int .i64 1, .string ⟨#[104]⟩, .int .i64 (-1)])
  generalize (w23.alloc (.cells #[.string ⟨#[101, 117, 114]⟩, .int .i64 1, .string ⟨#[104]⟩, .int .i64 (-1)] 55)) = w24 at *
  have HC : un.Cl w24 w23.heap.size 0 eT7.un := fun j hj => by
    match j, hj with
    | 0, _ => exact ⟨LF.out.cell 0, LF.out.cell 1⟩
    | 1, _ => exact ⟨LF.out.cell 2, LF.out.cell 3⟩
  refine (sameT_any _ 0 eT7 ua7 (some ⟨w23.heap.size, 0, none⟩) uc7 2 _ (Y7.out.kp (kp_of FB.out)) (.inr ⟨w23.heap.size, 0, rfl, Nat.zero_le _, HC, LF.out.tg⟩) (by decide)).mono ?_
  rintro e w25 ⟨rfl, b⟩
  have BB := Lib.hid (bnext FB.out b)
  have X9 := X8.out.below BB.out X8.out.lt
  have c0 := X9.cell 0
  have c1 := X9.cell 1
  simp only [List.getElem?_toArray, List.getElem?_cons_zero, List.getElem?_cons_succ] at c0 c1
  have hb := bnext B9.out BB.out
  have d0 := keeps hb P8.out.1
  have d1 := keeps hb P8.out.2.1
  have d2 := keeps hb P8.out.2.2
  clear X9 hb b HC LF FB X8 P8 Y7 X7 B9 BZ
  go_wp2_with fail
  go_ret
  exact ⟨rfl, bnext BY.out BB.out⟩
end Go.Proofs.YtbpijgddfaefkaaGreatDoor.pa
namespace Go.Proofs.YtbpijgddfaefkaaGreatDoor.un

def atoiN (l : List UInt8) : Int :=
  match Lib.atoiAll l with
  | .ok v => v
  | Lib.NumEnd.syntax => 0
  | .range => Lib.atoiSat l
def f1 (x : Fa) : List UInt8 := if x.2 = 1 then x.1.data.toList else x.1.data.toList ++ 94 :: Lib.itoa x.2
def fT (l : List Fa) : List UInt8 := Lib.join (l.map f1) [42]
def fac (l : List UInt8) : Fa := if Lib.indexByte l 94 = -1 then (⟨l.toArray⟩, 1) else (⟨(l.take (Lib.indexByte l 94).toNat).toArray⟩, atoiN (l.drop ((Lib.indexByte l 94).toNat + 1)))
def spL : Nat → List UInt8 → List (List UInt8)
  | 0, s => [s]
  | k + 1, s => if Lib.indexByte s 42 = -1 then [s] else s.take (Lib.indexByte s 42).toNat :: spL k (s.drop ((Lib.indexByte s 42).toNat + 1))
def cand (l : List UInt8) : List Fa := if l.length = 0 then [] else (spL (min 5 (l.length + 1) - 1) l).map fac
def psOk (l : List UInt8) : Bool := decide (ck (cand l) = 0) && decide (fT (cand l) = l)
def psE (l : List UInt8) : Int := if psOk l = true then 0 else 3
def psL (l : List UInt8) : List Fa := if psOk l = true then cand l else []

theorem ix_out {l : List UInt8} {c : UInt8} (h : c ∉ l) : Lib.indexByte l c = -1 := by
  induction l with
  | nil => rfl
  | cons b l ih =>
    unfold Lib.indexByte
    have hb : b ≠ c := fun e => h (by rw [e]; exact List.mem_cons_self ..)
    have e : (b == c) = false := by rw [beq_eq_false_iff_ne]; exact hb
    rw [e, ih (fun h' => h (List.mem_cons_of_mem _ h'))]
    rfl
theorem ix_at (r : List UInt8) (c : UInt8) : ∀ x : List UInt8, c ∉ x → Lib.indexByte (x ++ c :: r) c = (x.length : Nat)
  | [], _ => by simp [Lib.indexByte]
  | b :: x, h => by
    have hb : b ≠ c := fun e => h (by rw [e]; exact List.mem_cons_self ..)
    have e : (b == c) = false := by rw [beq_eq_false_iff_ne]; exact hb
    rw [List.cons_append, Lib.indexByte, e, ix_at r c x fun h' => h (List.mem_cons_of_mem _ h')]
    have : ((x.length : Nat) : Int) ≠ -1 := by omega
    simp only [Bool.false_eq_true, if_false, List.length_cons]
    rw [if_neg (by rw [beq_iff_eq]; exact this)]
    push_cast
    rfl
theorem ix_le (c : UInt8) : ∀ l : List UInt8, Lib.indexByte l c = -1 ∨ (0 ≤ Lib.indexByte l c ∧ Lib.indexByte l c < l.length)
  | [] => .inl rfl
  | b :: l => by
    unfold Lib.indexByte
    split
    · right; simp
    · rcases ix_le c l with h | ⟨h1, h2⟩
      · left; rw [h]; rfl
      · right
        rw [if_neg (by rw [beq_iff_eq]; omega)]
        simp only [List.length_cons]
        omega
theorem drop_past (x r : List UInt8) (c : UInt8) : (x ++ c :: r).drop (x.length + 1) = r := by
  rw [show x ++ c :: r = (x ++ [c]) ++ r by simp]
  exact List.drop_left' (by simp)
theorem spL_join : ∀ (xs : List (List UInt8)) (x : List UInt8) (k : Nat), xs.length ≤ k → (∀ y ∈ x :: xs, (42 : UInt8) ∉ y) → spL k (Lib.join (x :: xs) [42]) = x :: xs
  | [], x, k, _, h => by
    rw [Lib.join_one]
    cases k with
    | zero => rfl
    | succ k =>
      unfold spL
      rw [if_pos (ix_out (h x (List.mem_cons_self ..)))]
  | y :: xs, x, 0, hk, _ => by simp at hk
  | y :: xs, x, k + 1, hk, h => by
    have e : Lib.join (x :: y :: xs) [42] = x ++ 42 :: Lib.join (y :: xs) [42] := by
      rw [Lib.join_cons, Lib.join_cons]
      simp [Lib.joinTail]
    rw [e]
    unfold spL
    rw [ix_at _ _ _ (h x (List.mem_cons_self ..)), if_neg (by omega), Int.toNat_natCast]
    have e1 : (x ++ 42 :: Lib.join (y :: xs) [42]).take x.length = x := by simp
    have e2 : (x ++ 42 :: Lib.join (y :: xs) [42]).drop (x.length + 1) = Lib.join (y :: xs) [42] := by
      exact drop_past _ _ _
    rw [e1, e2, spL_join xs y k (by simpa using hk) fun z hz => h z (List.mem_cons_of_mem _ hz)]
theorem join_len : ∀ (xs : List (List UInt8)) (x : List UInt8), xs.length ≤ (Lib.join (x :: xs) [42]).length
  | [], _ => Nat.zero_le _
  | y :: xs, x => by
    have := join_len xs y
    have e : Lib.join (x :: y :: xs) [42] = x ++ 42 :: Lib.join (y :: xs) [42] := by
      rw [Lib.join_cons, Lib.join_cons]
      simp [Lib.joinTail]
    rw [e, List.length_append, List.length_cons, List.length_cons]
    omega
theorem word_ch {s : ByteArray} (h : word s = true) : ∀ c ∈ s.data.toList, wch c = true := by
  unfold word wordL at h
  simp only [Bool.and_eq_true] at h
  exact fun c hc => List.all_eq_true.1 h.2.2 c hc
theorem wch_ne {c : UInt8} (h : wch c = true) : c ≠ 42 ∧ c ≠ 94 := by
  constructor <;> (rintro rfl; revert h; decide)
theorem dec_small {u : Nat} (h : u < 10) : Lib.decDigits u = [UInt8.ofNat (48 + u)] := by
  rw [Lib.decDigits, dif_pos h]
theorem exp_cases {n : Int} (h : far n = false) : n = -8 ∨ n = -7 ∨ n = -6 ∨ n = -5 ∨ n = -4 ∨ n = -3 ∨ n = -2 ∨ n = -1 ∨ n = 0 ∨ n = 1 ∨ n = 2 ∨ n = 3 ∨ n = 4 ∨ n = 5 ∨ n = 6 ∨ n = 7 ∨ n = 8 := by
  unfold far at h
  rw [decide_eq_false_iff_not] at h
  omega
theorem itoa_few {n : Int} (h : far n = false) : (42 : UInt8) ∉ Lib.itoa n ∧ atoiN (Lib.itoa n) = n ∧ (Lib.itoa n).length ≤ 2 := by
  rcases exp_cases h with rfl | rfl | rfl | rfl | rfl | rfl | rfl | rfl | rfl | rfl | rfl | rfl | rfl | rfl | rfl | rfl | rfl
  all_goals unfold Lib.itoa
  all_goals first
    | rw [if_pos (by decide), dec_small (by decide)]
    | rw [if_neg (by decide), dec_small (by decide)]
  all_goals decide
theorem f1_42 {x : Fa} (h1 : word x.1 = true) (h2 : far x.2 = false) : (42 : UInt8) ∉ f1 x := by
  intro hm
  unfold f1 at hm
  split at hm
  · exact (wch_ne (word_ch h1 _ hm)).1 rfl
  · rcases List.mem_append.1 hm with hm | hm
    · exact (wch_ne (word_ch h1 _ hm)).1 rfl
    · rcases List.mem_cons.1 hm with hm | hm
      · cases hm
      · exact (itoa_few h2).1 hm
theorem ba_eq (s : ByteArray) : (⟨s.data.toList.toArray⟩ : ByteArray) = s := rfl
theorem fac_f1 {x : Fa} (h1 : word x.1 = true) (h2 : far x.2 = false) : fac (f1 x) = x := by
  have hn : (94 : UInt8) ∉ x.1.data.toList := fun hm => (wch_ne (word_ch h1 _ hm)).2 rfl
  unfold fac f1
  split
  · rename_i h
    rw [if_pos (ix_out hn)]
    exact Prod.ext (ba_eq x.1) h.symm
  · rw [ix_at _ _ _ hn, if_neg (by omega), Int.toNat_natCast]
    refine Prod.ext ?_ ?_
    · show (⟨((x.1.data.toList ++ 94 :: Lib.itoa x.2).take x.1.data.toList.length).toArray⟩ : ByteArray) = x.1
      rw [List.take_left]
    · show atoiN ((x.1.data.toList ++ 94 :: Lib.itoa x.2).drop (x.1.data.toList.length + 1)) = x.2
      rw [drop_past]
      exact (itoa_few h2).2.1
theorem f1_len {x : Fa} (h1 : word x.1 = true) (h2 : far x.2 = false) : 1 ≤ (f1 x).length ∧ (f1 x).length ≤ 27 := by
  have hs := word_size h1
  rw [Lib.size_eq] at hs
  have := (itoa_few h2).2.2
  unfold f1
  split
  · omega
  · rw [List.length_append, List.length_cons]
    omega
/-- What is printed of a valid unit is read back. -/
theorem cand_back {u : List Fa} (h : Ok u) : cand (fT u) = u := by
  cases u with
  | nil => rfl
  | cons x xs =>
    have hx := h.good x (List.mem_cons_self ..)
    have hl := (f1_len hx.1 hx.2.2).1
    have hjl : 1 ≤ (fT (x :: xs)).length := by
      unfold fT
      rw [List.map_cons, Lib.join_cons, List.length_append]
      omega
    have hjn := join_len (xs.map f1) (f1 x)
    rw [List.length_map] at hjn
    have h4 := h.le
    rw [List.length_cons] at h4
    unfold cand
    rw [if_neg (by omega)]
    have hk : xs.length ≤ min 5 ((fT (x :: xs)).length + 1) - 1 := by
      have : xs.length ≤ (fT (x :: xs)).length := hjn
      omega
    have e : spL (min 5 ((fT (x :: xs)).length + 1) - 1) (fT (x :: xs)) = (x :: xs).map f1 := by
      show spL _ (Lib.join ((x :: xs).map f1) [42]) = _
      rw [List.map_cons]
      refine spL_join _ _ _ (by rw [List.length_map]; exact hk) fun y hy => ?_
      rw [← List.map_cons] at hy
      obtain ⟨z, hz, rfl⟩ := List.mem_map.1 hy
      exact f1_42 (h.good z hz).1 (h.good z hz).2.2
    rw [e, List.map_map]
    have : ∀ y ∈ x :: xs, (fac ∘ f1) y = y := fun y hy => fac_f1 (h.good y hy).1 (h.good y hy).2.2
    rw [List.map_congr_left this]
    simp
theorem ps_back {u : List Fa} (h : Ok u) : psE (fT u) = 0 ∧ psL (fT u) = u := by
  have e : psOk (fT u) = true := by
    unfold psOk
    rw [cand_back h, decide_eq_true ((ck_iff u).2 h), decide_eq_true rfl]
    rfl
  unfold psE psL
  rw [e, cand_back h]
  exact ⟨rfl, rfl⟩
theorem fT_len {u : List Fa} (h : Ok u) : (fT u).length ≤ 200 := by
  have hg : ∀ (l : List Fa), (∀ x ∈ l, word x.1 = true ∧ far x.2 = false) → (fT l).length ≤ 28 * l.length := by
    intro l
    induction l with
    | nil => intro _; exact Nat.le_refl _
    | cons x l ih =>
      intro hl
      have hx := hl x (List.mem_cons_self ..)
      have h1 := (f1_len hx.1 hx.2).2
      have h2 := ih fun y hy => hl y (List.mem_cons_of_mem _ hy)
      cases l with
      | nil =>
        unfold fT
        rw [List.map_cons, List.map_nil, Lib.join_one]
        simp; omega
      | cons y l =>
        have e : fT (x :: y :: l) = f1 x ++ 42 :: fT (y :: l) := by
          unfold fT
          rw [List.map_cons, List.map_cons, Lib.join_cons, Lib.join_cons]
          simp [Lib.joinTail]
        rw [e, List.length_append, List.length_cons]
        simp only [List.length_cons] at *
        omega
  have := hg u fun x hx => ⟨(h.good x hx).1, (h.good x hx).2.2⟩
  have := h.le
  omega
end Go.Proofs.YtbpijgddfaefkaaGreatDoor.un
