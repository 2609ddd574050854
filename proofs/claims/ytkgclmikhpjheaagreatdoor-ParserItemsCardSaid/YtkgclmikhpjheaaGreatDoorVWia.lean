/-
  ParserItems: a first source with problems. (Written by g_wit.py.)
-/
import Derived.Test.YtkgclmikhpjheaaGreatDoorVByo
import Derived.Test.YtkgclmikhpjheaaGreatDoorVCtr
import Derived.Test.YtkgclmikhpjheaaGreatDoorVDis
namespace Go.Proofs.YtkgclmikhpjheaaGreatDoor.pa
open Go.RowKit dec

theorem wrapS {n : Int} (h0 : 0 ≤ n) (h1 : n < 9223372036854775808) : IntKind.i64.wrap n = n := by
  have := Int.emod_eq_of_lt h0 (show n < 18446744073709551616 by omega)
  simp [IntKind.wrap, IntKind.bits, IntKind.signed, this]; omega
theorem modR_few {s : ByteArray} (hs : ¬ 16384 < s.size) {m : Mo} {b : List Pb} (h : modR s = some (m, b)) : m.ts.length + m.fs.length ≤ s.size + 1 := by
  have g1 := (modL_sm _ _ _ _ _ _ (tl_tok hs).ln h).1
  rw [tokL_eq hs] at g1
  have := lex_few s
  simp only [List.length_nil, List.length_append, List.length_cons] at g1
  omega
theorem sl_ov {w w' : World} {g : Nat} {a : Option Addr} {n c : Nat} {l : List Pb} {ta fa : Option Addr} {i j k m : Nat} (h : pb.Sl w a n c l) (L : Blk w g 27 #[.slice ta i j, .slice fa k m]) (O : Ov g w w') : pb.Sl w' a n c l :=
  { h with hat := h.hat.imp id fun ⟨b, off, e, hC⟩ => ⟨b, off, e, fun x hx => by
      have hb : b ≠ g := fun e => by
        subst e
        have h1 := (hC x hx).1
        have h2 := L.cell (off + x * 2)
        rw [h1] at h2
        generalize off + x * 2 = y at h2
        match y, h2 with
        | 0, h => exact absurd h (by simp)
        | 1, h => exact absurd h (by simp)
        | _ + 2, h => exact absurd h (by simp)
      exact ⟨O.cell (hC x hx).1 hb, O.cell (hC x hx).2 hb⟩⟩ }
set_option maxRecDepth 100000 in
set_option maxHeartbeats 16000000 in
theorem wit_bad (a0 : Option Addr) (n0 c0 : Nat) (s0 : ByteArray) (a1 : Option Addr) (n1 c1 : Nat) (s1 : ByteArray) (w : World) (hS0 : Bs w a0 n0 c0 s0) (hS1 : Bs w a1 n1 c1 s1) (T : Tabs w) (EXA : ExA) (x y : ByteArray) (hx : fewS 1000 s0 = x) (hy : fewS 1000 s1 = y)
    (m n : Mo) (p q : List Pb) (hm : modR x = some (m, p)) (hn : modR y = some (n, q)) (k1 k2 : Nat) (hp : min p.length 32 = k1) (hk : 0 < k1) (hq : min q.length 32 = k2) :
    Calls Tryz.prog 7 #[.slice a0 n0 c0, .slice a1 n1 c1] w fun e w' => e = .returned (.bool true) ∧ Below w.heap.size w w' := by
  have T0 := Lib.hid T
  have EX := Lib.hid EXA
  have hx3 : x.size ≤ 1000 := hx ▸ fewS_size 1000 s0
  have hy3 : y.size ≤ 1000 := hy ▸ fewS_size 1000 s1
  have FW := Lib.hid (few_any a0 n0 c0 1000 s0 w hS0)
  have FY := Lib.hid (few_any a1 n1 c1 1000 s1 w hS1)
  have X0 := bs_few hS0 1000
  have Y0 := bs_few hS1 1000
  rw [hx] at FW X0
  rw [hy] at FY Y0
  have hE : tokE x = 0 := by unfold tokE; rw [if_neg (by omega)]
  have hF : tokE y = 0 := by unfold tokE; rw [if_neg (by omega)]
  have C1 := Lib.hid (fun W h t => module_any a0 x.size c0 x W (X0.keeps h) t hE m p hm)
  have C2 := Lib.hid (fun W h t => module_any a1 y.size c1 y W (Y0.keeps h) t hF n q hn)
  have q1 : decide ((k1 : Int) > 0) = true := decide_eq_true (by omega)
  have q2 : decide (0 < (k1 : Int)) = true := decide_eq_true (by omega)
  have q3 : decide (0 < k1) = true := decide_eq_true hk
  have q4 : 0 < k1 := hk
  have K1 := Lib.hid hp
  have K2 := Lib.hid hq
  clear T EXA hS0 hS1 hx hy hx3 hy3 X0 Y0 hE hF hm hn hp hq hk
  go_enter Tryz.func7, Tryz.ntmps7
  go_wp2_with fail
  refine FW.out.mono ?_
  rintro e w0 ⟨rfl, rfl⟩
  go_wp2_with fail
  refine FY.out.mono ?_
  rintro e w0' ⟨rfl, rfl⟩
  go_wp2_with fail
  refine (C1.out _ (b0 _) T0.out).mono ?_
  rintro e w4 ⟨r1, u, rfl, V, P, b⟩
  obtain ⟨ta, tc, fa, fc, rfl, RT, RF⟩ := V
  obtain ⟨pp, pa1, pc1, _, _, rfl, _⟩ := P
  rw [K1.out]
  have Dw4 := Lib.hid b
  have M4 := Lib.hid (And.intro RT RF)
  clear b RT RF C1 FW FY
  go_wp2_with (refine arm_storeT infMo (.tmp 7) (.tmp 26) rfl rfl _ _ _ _ rfl rfl (Blk.new _ _ _) rfl rfl (by simp [Value.oneCell']) ?_; intro u4 L s3; have b := (balloc (b0 w4) _).trans (s3.below (Nat.le_refl _)); have L4 := Lib.hid L; have F4 := Lib.hid b; have D4 := Lib.hid (bnext Dw4.out b); clear L s3 b)
  refine (C2.out _ D4.out (T0.out.stays D4.out)).mono ?_
  rintro e w6 ⟨r1, u, rfl, V, P, b⟩
  obtain ⟨tb, td, fb, fd, rfl, RS, RG⟩ := V
  obtain ⟨qq, pa2, pc2, _, _, rfl, _⟩ := P
  rw [K2.out]
  have Dw6 := Lib.hid (bnext D4.out b)
  have G6 := Lib.hid b
  have M6 := Lib.hid (And.intro RS RG)
  clear b RS RG C2
  go_wp2_with (refine arm_storeT infMo (.tmp 10) (.tmp 32) rfl rfl _ _ _ _ rfl rfl (Blk.new _ _ _) rfl rfl (by simp [Value.oneCell']) ?_; intro u6 L s3; have b := (balloc (b0 w6) _).trans (s3.below (Nat.le_refl _)); have L6 := Lib.hid L; have F6 := Lib.hid b; have D6 := Lib.hid (bnext Dw6.out b); clear L s3 b)
  refine (EX.out _ (T0.out.stays D6.out)).mono ?_
  rintro e w9 ⟨rfl, b⟩
  have D9 := Lib.hid (bnext D6.out b)
  clear b
  go_wp2_with fail
  go_ret
  exact ⟨rfl, D9.out⟩
end Go.Proofs.YtkgclmikhpjheaaGreatDoor.pa
