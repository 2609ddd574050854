/-
  ParserRecovers: helpers, sources with problems. (Written by g_wrc.py.)
-/
import Derived.Test.YtkgclmikhpjheaaGreatDoorYByo
import Derived.Test.YtkgclmikhpjheaaGreatDoorYCtr
import Derived.Test.YtkgclmikhpjheaaGreatDoorYRcv
namespace Go.Proofs.YtkgclmikhpjheaaGreatDoor.pa
open Go.RowKit dec

def rcA : Array Value := #[.string ⟨#[116, 97, 98, 108, 101, 59]⟩, .string ⟨#[116, 97, 98, 108, 101, 32, 116, 32, 111, 102, 32, 123, 32, 125, 59]⟩, .string ⟨#[102, 101, 97, 116, 117, 114, 101, 32, 102, 32, 111, 102, 32, 117, 58, 32, 105, 110, 116, 32, 61, 32, 59]⟩, .string ⟨#[102, 101, 97, 116, 117, 114, 101, 32, 102, 32, 111, 102, 32, 117, 58, 32, 105, 110, 116, 32, 61, 32, 49, 32, 43, 59]⟩, .string ⟨#[120, 59]⟩, .string ⟨#[59]⟩, .string ⟨#[116, 97, 98, 108, 101, 32, 116, 32, 111, 102, 32, 117, 32, 123, 32, 110, 32, 105, 110, 116, 32, 125, 59]⟩, .string ⟨#[102, 101, 97, 116, 117, 114, 101, 32, 102, 32, 111, 102, 32, 117, 58, 32, 105, 110, 116, 32, 61, 32, 99, 111, 117, 110, 116, 40, 116, 44, 32, 97, 108, 108, 32, 119, 104, 101, 114, 101, 41, 59]⟩]
theorem rcA_at (k : Nat) (hk : k < 8) : rcA[k]? = some (.string (recS k)) := by
  match k, hk with
  | 0, _ => rfl
  | 1, _ => rfl
  | 2, _ => rfl
  | 3, _ => rfl
  | 4, _ => rfl
  | 5, _ => rfl
  | 6, _ => rfl
  | 7, _ => rfl
theorem recS_size (k : Nat) : (recS k).size ≤ 50 := by
  match k with
  | 0 => decide
  | 1 => decide
  | 2 => decide
  | 3 => decide
  | 4 => decide
  | 5 => decide
  | 6 => decide
  | _ + 7 => show rS7.size ≤ 50; decide
set_option maxRecDepth 100000 in
set_option maxHeartbeats 16000000 in
theorem wrc_bad1 (a0 : Option Addr) (n0 c0 : Nat) (s0 : ByteArray) (a1 : Option Addr) (n1 c1 : Nat) (s1 : ByteArray) (r : Int) (w : World) (hS0 : Bs w a0 n0 c0 s0) (hS1 : Bs w a1 n1 c1 s1) (T : Tabs w) (EXA : ExA) (x y : ByteArray) (hx : fewS 700 s0 = x) (hy : fewS 700 s1 = y)
    (m n : Mo) (p q : List Pb) (hm : modR x = some (m, p)) (hn : modR y = some (n, q)) (k1 k2 : Nat) (hp : min p.length 32 = k1) (hk : 0 < k1) (hq : min q.length 32 = k2) :
    Calls Tryz.prog 8 #[.slice a0 n0 c0, .slice a1 n1 c1, .int .i64 r] w fun e w' => e = .returned (.bool true) ∧ Below w.heap.size w w' := by
  have T0 := Lib.hid T
  have EX := Lib.hid EXA
  have hx3 : x.size ≤ 700 := hx ▸ fewS_size 700 s0
  have hy3 : y.size ≤ 700 := hy ▸ fewS_size 700 s1
  have FW := Lib.hid (few_any a0 n0 c0 700 s0 w hS0)
  have FY := Lib.hid (few_any a1 n1 c1 700 s1 w hS1)
  have X0 := bs_few hS0 700
  have Y0 := bs_few hS1 700
  rw [hx] at FW X0
  rw [hy] at FY Y0
  have hE : tokE x = 0 := by unfold tokE; rw [if_neg (by omega)]
  have hF : tokE y = 0 := by unfold tokE; rw [if_neg (by omega)]
  have C1 := Lib.hid (fun W h t => module_any a0 x.size c0 x W (X0.keeps h) t hE m p hm)
  have C2 := Lib.hid (fun W h t => module_any a1 y.size c1 y W (Y0.keeps h) t hF n q hn)
  have q1 : decide ((k1 : Int) > 0) = true := decide_eq_true (by omega)
  have q2 : decide (0 < (k1 : Int)) = true := decide_eq_true (by omega)
  have q3 : decide (0 < k1) = true := decide_eq_true hk
  have q4 : 0 < k1 := hk
  have K1 := Lib.hid hp
  have K2 := Lib.hid hq
  clear T EXA hS0 hS1 hx hy hx3 hy3 X0 Y0 hE hF hm hn hp hq hk
  go_enter Tryz.func8, Tryz.ntmps8
  go_wp2_with fail
  refine FW.out.mono ?_
  rintro e w0 ⟨rfl, rfl⟩
  go_wp2_with fail
  refine FY.out.mono ?_
  rintro e w0' ⟨rfl, rfl⟩
  go_wp2_with fail
  refine (C1.out _ (b0 _) T0.out).mono ?_
  rintro e w4 ⟨r1, u, rfl, V, P, b⟩
  obtain ⟨ta, tc, fa, fc, rfl, RT, RF⟩ := V
  obtain ⟨pp, pa1, pc1, _, _, rfl, _⟩ := P
  rw [K1.out]
  have Dw4 := Lib.hid b
  have M4 := Lib.hid (And.intro RT RF)
  clear b RT RF C1 FW FY
  go_wp2_with (refine arm_storeT infMo (.tmp 9) (.tmp 28) rfl rfl _ _ _ _ rfl rfl (Blk.new _ _ _) rfl rfl (by simp [Value.oneCell']) ?_; intro u4 L s3; have b := (balloc (b0 w4) _).trans (s3.below (Nat.le_refl _)); have L4 := Lib.hid L; have F4 := Lib.hid b; have D4 := Lib.hid (bnext Dw4.out b); clear L s3 b)
  refine (C2.out _ D4.out (T0.out.stays D4.out)).mono ?_
  rintro e w6 ⟨r1, u, rfl, V, P, b⟩
  obtain ⟨tb, td, fb, fd, rfl, RS, RG⟩ := V
  obtain ⟨qq, pa2, pc2, _, _, rfl, _⟩ := P
  rw [K2.out]
  have Dw6 := Lib.hid (bnext D4.out b)
  have G6 := Lib.hid b
  have M6 := Lib.hid (And.intro RS RG)
  clear b RS RG C2
  go_wp2_with (refine arm_storeT infMo (.tmp 12) (.tmp 34) rfl rfl _ _ _ _ rfl rfl (Blk.new _ _ _) rfl rfl (by simp [Value.oneCell']) ?_; intro u6 L s3; have b := (balloc (b0 w6) _).trans (s3.below (Nat.le_refl _)); have L6 := Lib.hid L; have F6 := Lib.hid b; have D6 := Lib.hid (bnext Dw6.out b); clear L s3 b)
  refine (EX.out _ (T0.out.stays D6.out)).mono ?_
  rintro e w9 ⟨rfl, b⟩
  have D9 := Lib.hid (bnext D6.out b)
  clear b
  go_wp2_with fail
  go_ret
  exact ⟨rfl, D9.out⟩
set_option maxRecDepth 100000 in
set_option maxHeartbeats 16000000 in
theorem wrc_bad2 (a0 : Option Addr) (n0 c0 : Nat) (s0 : ByteArray) (a1 : Option Addr) (n1 c1 : Nat) (s1 : ByteArray) (r : Int) (w : World) (hS0 : Bs w a0 n0 c0 s0) (hS1 : Bs w a1 n1 c1 s1) (T : Tabs w) (EXA : ExA) (x y : ByteArray) (hx : fewS 700 s0 = x) (hy : fewS 700 s1 = y)
    (m n : Mo) (p q : List Pb) (hm : modR x = some (m, p)) (hn : modR y = some (n, q)) (k2 : Nat) (hp : min p.length 32 = 0) (hq : min q.length 32 = k2) (hk : 0 < k2) :
    Calls Tryz.prog 8 #[.slice a0 n0 c0, .slice a1 n1 c1, .int .i64 r] w fun e w' => e = .returned (.bool true) ∧ Below w.heap.size w w' := by
  have T0 := Lib.hid T
  have EX := Lib.hid EXA
  have hx3 : x.size ≤ 700 := hx ▸ fewS_size 700 s0
  have hy3 : y.size ≤ 700 := hy ▸ fewS_size 700 s1
  have FW := Lib.hid (few_any a0 n0 c0 700 s0 w hS0)
  have FY := Lib.hid (few_any a1 n1 c1 700 s1 w hS1)
  have X0 := bs_few hS0 700
  have Y0 := bs_few hS1 700
  rw [hx] at FW X0
  rw [hy] at FY Y0
  have hE : tokE x = 0 := by unfold tokE; rw [if_neg (by omega)]
  have hF : tokE y = 0 := by unfold tokE; rw [if_neg (by omega)]
  have C1 := Lib.hid (fun W h t => module_any a0 x.size c0 x W (X0.keeps h) t hE m p hm)
  have C2 := Lib.hid (fun W h t => module_any a1 y.size c1 y W (Y0.keeps h) t hF n q hn)
  have q1 : decide ((k2 : Int) > 0) = true := decide_eq_true (by omega)
  have q2 : decide (0 < (k2 : Int)) = true := decide_eq_true (by omega)
  have q3 : decide (0 < k2) = true := decide_eq_true hk
  have q4 : 0 < k2 := hk
  have K1 := Lib.hid hp
  have K2 := Lib.hid hq
  clear T EXA hS0 hS1 hx hy hx3 hy3 X0 Y0 hE hF hm hn hp hq hk
  go_enter Tryz.func8, Tryz.ntmps8
  go_wp2_with fail
  refine FW.out.mono ?_
  rintro e w0 ⟨rfl, rfl⟩
  go_wp2_with fail
  refine FY.out.mono ?_
  rintro e w0' ⟨rfl, rfl⟩
  go_wp2_with fail
  refine (C1.out _ (b0 _) T0.out).mono ?_
  rintro e w4 ⟨r1, u, rfl, V, P, b⟩
  obtain ⟨ta, tc, fa, fc, rfl, RT, RF⟩ := V
  obtain ⟨pp, pa1, pc1, _, _, rfl, _⟩ := P
  rw [K1.out]
  have Dw4 := Lib.hid b
  have M4 := Lib.hid (And.intro RT RF)
  clear b RT RF C1 FW FY
  go_wp2_with (refine arm_storeT infMo (.tmp 9) (.tmp 28) rfl rfl _ _ _ _ rfl rfl (Blk.new _ _ _) rfl rfl (by simp [Value.oneCell']) ?_; intro u4 L s3; have b := (balloc (b0 w4) _).trans (s3.below (Nat.le_refl _)); have L4 := Lib.hid L; have F4 := Lib.hid b; have D4 := Lib.hid (bnext Dw4.out b); clear L s3 b)
  refine (C2.out _ D4.out (T0.out.stays D4.out)).mono ?_
  rintro e w6 ⟨r1, u, rfl, V, P, b⟩
  obtain ⟨tb, td, fb, fd, rfl, RS, RG⟩ := V
  obtain ⟨qq, pa2, pc2, _, _, rfl, _⟩ := P
  rw [K2.out]
  have Dw6 := Lib.hid (bnext D4.out b)
  have G6 := Lib.hid b
  have M6 := Lib.hid (And.intro RS RG)
  clear b RS RG C2
  go_wp2_with (refine arm_storeT infMo (.tmp 12) (.tmp 34) rfl rfl _ _ _ _ rfl rfl (Blk.new _ _ _) rfl rfl (by simp [Value.oneCell']) ?_; intro u6 L s3; have b := (balloc (b0 w6) _).trans (s3.below (Nat.le_refl _)); have L6 := Lib.hid L; have F6 := Lib.hid b; have D6 := Lib.hid (bnext Dw6.out b); clear L s3 b)
  refine (EX.out _ (T0.out.stays D6.out)).mono ?_
  rintro e w9 ⟨rfl, b⟩
  have D9 := Lib.hid (bnext D6.out b)
  clear b
  go_wp2_with fail
  go_ret
  exact ⟨rfl, D9.out⟩
end Go.Proofs.YtkgclmikhpjheaaGreatDoor.pa
