/-
  ParserRecovers: the walk, sources without problems. (Written by g_wrc.py.)
-/
import Derived.Test.YtkgclmikhpjheaaGreatDoorYWra
namespace Go.Proofs.YtkgclmikhpjheaaGreatDoor.pa
open Go.RowKit dec

theorem wrapS {n : Int} (h0 : 0 ≤ n) (h1 : n < 9223372036854775808) : IntKind.i64.wrap n = n := by
  have := Int.emod_eq_of_lt h0 (show n < 18446744073709551616 by omega)
  simp [IntKind.wrap, IntKind.bits, IntKind.signed, this]; omega
theorem modR_few {s : ByteArray} (hs : ¬ 16384 < s.size) {m : Mo} {b : List Pb} (h : modR s = some (m, b)) : m.ts.length + m.fs.length ≤ s.size + 1 := by
  have g1 := (modL_sm _ _ _ _ _ _ (tl_tok hs).ln h).1
  rw [tokL_eq hs] at g1
  have := lex_few s
  simp only [List.length_nil, List.length_append, List.length_cons] at g1
  omega
set_option maxRecDepth 100000 in
set_option maxHeartbeats 16000000 in
theorem wrc_good (a0 : Option Addr) (n0 c0 : Nat) (s0 : ByteArray) (a1 : Option Addr) (n1 c1 : Nat) (s1 : ByteArray) (r : Int) (w : World) (hS0 : Bs w a0 n0 c0 s0) (hS1 : Bs w a1 n1 c1 s1) (T : Tabs w) (EXA : ExA) (x y : ByteArray) (hx : fewS 700 s0 = x) (hy : fewS 700 s1 = y)
    (m n : Mo) (p q : List Pb) (hm : modR x = some (m, p)) (hn : modR y = some (n, q)) (hp : p = []) (hq : q = []) (k : Nat) (hk : k < 8) (hr : Int.tmod r 8 = (k : Int)) :
    Calls Tryz.prog 8 #[.slice a0 n0 c0, .slice a1 n1 c1, .int .i64 r] w fun e w' => e = .returned (.bool true) ∧ Below w.heap.size w w' := by
  have T0 := Lib.hid T
  have EX := Lib.hid EXA
  have hx3 : x.size ≤ 700 := hx ▸ fewS_size 700 s0
  have hy3 : y.size ≤ 700 := hy ▸ fewS_size 700 s1
  have FW := Lib.hid (few_any a0 n0 c0 700 s0 w hS0)
  have FY := Lib.hid (few_any a1 n1 c1 700 s1 w hS1)
  have X0 := bs_few hS0 700
  have Y0 := bs_few hS1 700
  rw [hx] at FW X0
  rw [hy] at FY Y0
  have hE : tokE x = 0 := by unfold tokE; rw [if_neg (by omega)]
  have hF : tokE y = 0 := by unfold tokE; rw [if_neg (by omega)]
  have C1 := Lib.hid (fun W h t => module_any a0 x.size c0 x W (X0.keeps h) t hE m p hm)
  have C2 := Lib.hid (fun W h t => module_any a1 y.size c1 y W (Y0.keeps h) t hF n q hn)
  subst hp hq
  have K1 := Lib.hid (show min ([] : List Pb).length 32 = 0 from rfl)
  have K2 := Lib.hid (show min ([] : List Pb).length 32 = 0 from rfl)
  have HK := Lib.hid hk
  have mS := Lib.hid (modR_sm (by omega) hm)
  have nS := Lib.hid (modR_sm (by omega) hn)
  have HM := Lib.hid (And.intro hm hn)
  have HLm := Lib.hid (show m.ts.length + n.ts.length + (m.fs.length + n.fs.length) < 1048577 from by have := modR_few (by omega) hm; have := modR_few (by omega) hn; omega)
  have ZX := Lib.hid (And.intro hx3 hy3)
  have XB := Lib.hid (And.intro X0 Y0)
  clear T EXA hS0 hS1 hx hy hx3 hy3 X0 Y0 hE hF hm hn hk
  go_enter Tryz.func8, Tryz.ntmps8
  go_wp2_with fail
  refine FW.out.mono ?_
  rintro e w0 ⟨rfl, rfl⟩
  go_wp2_with fail
  refine FY.out.mono ?_
  rintro e w0' ⟨rfl, rfl⟩
  go_wp2_with fail
  refine (C1.out _ (b0 _) T0.out).mono ?_
  rintro e w4 ⟨r1, u, rfl, V, P, b⟩
  obtain ⟨ta, tc, fa, fc, rfl, RT, RF⟩ := V
  obtain ⟨pp, pa1, pc1, _, _, rfl, _⟩ := P
  rw [K1.out]
  have Dw4 := Lib.hid b
  have M4 := Lib.hid (And.intro RT RF)
  clear b RT RF C1 FW FY
  go_wp2_with (refine arm_storeT infMo (.tmp 9) (.tmp 28) rfl rfl _ _ _ _ rfl rfl (Blk.new _ _ _) rfl rfl (by simp [Value.oneCell']) ?_; intro u4 L s3; have b := (balloc (b0 w4) _).trans (s3.below (Nat.le_refl _)); have L4 := Lib.hid L; have F4 := Lib.hid b; have D4 := Lib.hid (bnext Dw4.out b); clear L s3 b)
  refine (C2.out _ D4.out (T0.out.stays D4.out)).mono ?_
  rintro e w6 ⟨r1, u, rfl, V, P, b⟩
  obtain ⟨tb, td, fb, fd, rfl, RS, RG⟩ := V
  obtain ⟨qq, pa2, pc2, _, _, rfl, _⟩ := P
  rw [K2.out]
  have Dw6 := Lib.hid (bnext D4.out b)
  have G6 := Lib.hid b
  have M6 := Lib.hid (And.intro RS RG)
  clear b RS RG C2
  go_wp2_with (refine arm_storeT infMo (.tmp 12) (.tmp 34) rfl rfl _ _ _ _ rfl rfl (Blk.new _ _ _) rfl rfl (by simp [Value.oneCell']) ?_; intro u6 L s3; have b := (balloc (b0 w6) _).trans (s3.below (Nat.le_refl _)); have L6 := Lib.hid L; have F6 := Lib.hid b; have D6 := Lib.hid (bnext Dw6.out b); clear L s3 b)
  have LI := Lib.hid (Blk.new u6 9 #[.string ⟨#[116, 97, 98, 108, 101, 59]⟩, .string ⟨#[116, 97, 98, 108, 101, 32, 116, 32, 111, 102, 32, 123, 32, 125, 59]⟩, .string ⟨#[102, 101, 97, 116, 117, 114, 101, 32, 102, 32, 111, 102, 32, 117, 58, 32, 105, 110, 116, 32, 61, 32, 59]⟩, .string ⟨#[102, 101, 97, 116, 117, 114, 101, 32, 102, 32, 111, 102, 32, 117, 58, 32, 105, 110, 116, 32, 61, 32, 49, 32, 43, 59]⟩, .string ⟨#[120, 59]⟩, .string ⟨#[59]⟩, .string ⟨#[116, 97, 98, 108, 101, 32, 116, 32, 111, 102, 32, 117, 32, 123, 32, 110, 32, 105, 110, 116, 32, 125, 59]⟩, .string ⟨#[102, 101, 97, 116, 117, 114, 101, 32, 102, 32, 111, 102, 32, 117, 58, 32, 105, 110, 116, 32, 61, 32, 99, 111, 117, 110, 116, 40, 116, 44, 32, 97, 108, 108, 32, 119, 104, 101, 114, 101, 41, 59]⟩])
  have D7 := Lib.hid (balloc D6.out (.cells #[.string ⟨#[116, 97, 98, 108, 101, 59]⟩, .string ⟨#[116, 97, 98, 108, 101, 32, 116, 32, 111, 102, 32, 123, 32, 125, 59]⟩, .string ⟨#[102, 101, 97, 116, 117, 114, 101, 32, 102, 32, 111, 102, 32, 117, 58, 32, 105, 110, 116, 32, 61, 32, 59]⟩, .string ⟨#[102, 101, 97, 116, 117, 114, 101, 32, 102, 32, 111, 102, 32, 117, 58, 32, 105, 110, 116, 32, 61, 32, 49, 32, 43, 59]⟩, .string ⟨#[120, 59]⟩, .string ⟨#[59]⟩, .string ⟨#[116, 97, 98, 108, 101, 32, 116, 32, 111, 102, 32, 117, 32, 123, 32, 110, 32, 105, 110, 116, 32, 125, 59]⟩, .string ⟨#[102, 101, 97, 116, 117, 114, 101, 32, 102, 32, 111, 102, 32, 117, 58, 32, 105, 110, 116, 32, 61, 32, 99, 111, 117, 110, 116, 40, 116, 44, 32, 97, 108, 108, 32, 119, 104, 101, 114, 101, 41, 59]⟩] 9))
  have F7 := Lib.hid (balloc (b0 u6) (.cells #[.string ⟨#[116, 97, 98, 108, 101, 59]⟩, .string ⟨#[116, 97, 98, 108, 101, 32, 116, 32, 111, 102, 32, 123, 32, 125, 59]⟩, .string ⟨#[102, 101, 97, 116, 117, 114, 101, 32, 102, 32, 111, 102, 32, 117, 58, 32, 105, 110, 116, 32, 61, 32, 59]⟩, .string ⟨#[102, 101, 97, 116, 117, 114, 101, 32, 102, 32, 111, 102, 32, 117, 58, 32, 105, 110, 116, 32, 61, 32, 49, 32, 43, 59]⟩, .string ⟨#[120, 59]⟩, .string ⟨#[59]⟩, .string ⟨#[116, 97, 98, 108, 101, 32, 116, 32, 111, 102, 32, 117, 32, 123, 32, 110, 32, 105, 110, 116, 32, 125, 59]⟩, .string ⟨#[102, 101, 97, 116, 117, 114, 101, 32, 102, 32, 111, 102, 32, 117, 58, 32, 105, 110, 116, 32, 61, 32, 99, 111, 117, 110, 116, 40, 116, 44, 32, 97, 108, 108, 32, 119, 104, 101, 114, 101, 41, 59]⟩] 9))
  generalize (u6.alloc (.cells #[.string ⟨#[116, 97, 98, 108, 101, 59]⟩, .string ⟨#[116, 97, 98, 108, 101, 32, 116, 32, 111, 102, 32, 123, 32, 125, 59]⟩, .string ⟨#[102, 101, 97, 116, 117, 114, 101, 32, 102, 32, 111, 102, 32, 117, 58, 32, 105, 110, 116, 32, 61, 32, 59]⟩, .string ⟨#[102, 101, 97, 116, 117, 114, 101, 32, 102, 32, 111, 102, 32, 117, 58, 32, 105, 110, 116, 32, 61, 32, 49, 32, 43, 59]⟩, .string ⟨#[120, 59]⟩, .string ⟨#[59]⟩, .string ⟨#[116, 97, 98, 108, 101, 32, 116, 32, 111, 102, 32, 117, 32, 123, 32, 110, 32, 105, 110, 116, 32, 125, 59]⟩, .string ⟨#[102, 101, 97, 116, 117, 114, 101, 32, 102, 32, 111, 102, 32, 117, 58, 32, 105, 110, 116, 32, 61, 32, 99, 111, 117, 110, 116, 40, 116, 44, 32, 97, 108, 108, 32, 119, 104, 101, 114, 101, 41, 59]⟩] 9)) = w7 at *
  have X7 := Lib.hid (XB.out.1.keeps D7.out)
  have Y7 := Lib.hid (XB.out.2.keeps D7.out)
  have ZL := Lib.hid (show ([] : List UInt8).length + x.size < 140737488355328 ∧ (([] : List UInt8) ++ x.data.toList).length < 140737488355328 ∧ (([] : List UInt8) ++ x.data.toList ++ [10]).length + (recS k).size ≤ 140737488355328 by have := ZX.out; have := recS_size k; simp only [List.length_append, List.length_nil, List.length_cons, str_len]; omega)
  have c1 : w7.cell? ⟨u6.heap.size, k, none⟩ = some (.string (recS k)) := by rw [LI.out.cell k]; exact rcA_at k HK.out
  have CI := Lib.hid c1
  clear c1
  have i1 : (k : Int) < 8 := by have := HK.out; omega
  have i2 : k < 8 := HK.out
  go_cut [17] from 63 (fun v wx => Hid (OB wx w7.heap.size v ([] ++ x.data.toList ++ [10] ++ (recS k).data.toList)) ∧ Hid (Below w7.heap.size w7 wx))
  case first =>
    refine wp_region_held_drew (S := fun w' => Below w7.heap.size w7 w') (by kernel_rfl) (b0 w7).drew (fun hH => ?_)
    refine held_take (i := 1) (d := 64) (v := ?_) rfl (by kernel_rfl) (by kernel_rfl) (by kernel_rfl) rfl (fun _ _ _ h => h) rfl hH (fun w' hS => ?_) ?_
    rotate_left
    · go_simp; first | done | with_reducible rfl
    simp only [List.set_cons_zero, List.set_cons_succ]
    refine held_take (i := 5) (d := 68) (v := ?_) rfl (by kernel_rfl) (by kernel_rfl) (by kernel_rfl) rfl (fun _ _ _ h => h) rfl hH (fun w' hS => ?_) ?_
    rotate_left
    · go_simp; first | done | with_reducible rfl
    simp only [List.set_cons_zero, List.set_cons_succ]
    refine held_take (i := 6) (d := 69) (v := ?_) rfl (by kernel_rfl) (by kernel_rfl) (by kernel_rfl) rfl (fun _ _ _ h => h) rfl hH (fun w' hS => ?_) ?_
    rotate_left
    · go_simp; first | done | with_reducible rfl
    simp only [List.set_cons_zero, List.set_cons_succ]
    refine held_take (i := 7) (d := 70) (v := ?_) rfl (by kernel_rfl) (by kernel_rfl) (by kernel_rfl) rfl (fun _ _ _ h => h) rfl hH (fun w' hS => ?_) ?_
    rotate_left
    · go_simp; first | done | with_reducible rfl
    simp only [List.set_cons_zero, List.set_cons_succ]
    refine held_take (i := 8) (d := 71) (v := ?_) rfl (by kernel_rfl) (by kernel_rfl) (by kernel_rfl) rfl (fun _ _ _ h => h) rfl hH (fun w' hS => ?_) ?_
    rotate_left
    · have e1 := keeps hS CI.out; go_simp; first | done | with_reducible rfl
    simp only [List.set_cons_zero, List.set_cons_succ]
    generalize w7.drew = x0 at *
    refine held_two (i := 0) (j := 3) rfl rfl (by kernel_rfl) rfl rfl (fun K hK => ?_) (fun K hK => ?_)
    · go_simp
      have hz1 := Lib.hid hH.size
      refine hK.out _ _ (balloc hH _) (fun hH => ?_)
      clear hK K
      have sz1 := Lib.hid (show (x0.alloc (.cells #[] 5)).heap.size = x0.heap.size + 1 by simp)
      have O1 := Lib.hid (ob_lit x0 w7.heap.size hz1.out)
      generalize (x0.alloc (.cells #[] 5)) = x1 at *
      refine held_two (i := 2) (j := 3) rfl rfl (by kernel_rfl) rfl rfl (fun K hK => ?_) (fun K hK => ?_)
      · refine wp_catB _ (.tmp 63) (.tmp 64) rfl w7.heap.size (.slice (some ⟨x0.heap.size, 0, none⟩) 0 0) [] rfl O1.out a0 x.size c0 x rfl (X7.out.keeps hH) ZL.out.1 hH.size ?_
        intro v2 x2 O b g
        refine hK.out _ _ (hH.trans b) (fun hH => ?_)
        clear hK K
        have O2 := Lib.hid O
        clear O b g
        refine held_only (i := 3) rfl (by kernel_rfl) rfl (fun K hK => ?_)
        go_simp
        have hz3 := Lib.hid hH.size
        refine hK.out _ _ (balloc hH _) (fun hH => ?_)
        clear hK K
        have sz3 := Lib.hid (show (x2.alloc (.cells #[.int .u8 10] 5)).heap.size = x2.heap.size + 1 by simp)
        have T3 := Lib.hid (show (x2.alloc (.cells #[.int .u8 10] 5)).cell? ⟨x2.heap.size, 0, none⟩ = some (.int .u8 ((10 : UInt8).toNat : Int)) from (Blk.new x2 5 #[.int .u8 10]).cell 0)
        have O3 := Lib.hid (O2.out.keeps (balloc (b0 x2) (.cells #[.int .u8 10] 5)))
        generalize (x2.alloc (.cells #[.int .u8 10] 5)) = x3 at *
        refine held_only (i := 4) rfl (by kernel_rfl) rfl (fun K hK => ?_)
        refine wp_pushO _ (.tmp 65) (.tmp 66) rfl w7.heap.size v2 _ rfl O3.out x2.heap.size 10 rfl T3.out ZL.out.2.1 hH.size ?_
        intro v4 x4 O b
        refine hK.out _ _ (hH.trans b) (fun hH => ?_)
        clear hK K
        have O4 := Lib.hid O
        clear O b
        refine held_only (i := 9) rfl (by kernel_rfl) rfl (fun K hK => ?_)
        refine wp_catT _ (.tmp 67) (.tmp 71) rfl w7.heap.size v4 _ rfl O4.out (recS k) rfl ZL.out.2.2 hH.size ?_
        intro v5 x5 O b
        refine hK.out _ _ (hH.trans b) (fun hH => ?_)
        clear hK K
        have O5 := Lib.hid O
        clear O b
        refine held_take (i := 10) (d := 17) (v := ?_) rfl (by kernel_rfl) (by kernel_rfl) (by kernel_rfl) rfl (fun _ _ _ h => h) rfl hH (fun w' hS => ?_) ?_
        rotate_left
        · go_simp; first | done | with_reducible rfl
        simp only
        refine wpAnyH_done (by kernel_rfl) ?_ _
        go_wp2_with fail
        go_meet
        case rel => exact ⟨Lib.hid O5.out, Lib.hid hH⟩
      · go_simp
        have hz6 := Lib.hid hH.size
        refine hK.out _ _ (balloc hH _) (fun hH => ?_)
        clear hK K
        have sz6 := Lib.hid (show (x1.alloc (.cells #[.int .u8 10] 5)).heap.size = x1.heap.size + 1 by simp)
        have T6 := Lib.hid (show (x1.alloc (.cells #[.int .u8 10] 5)).cell? ⟨x1.heap.size, 0, none⟩ = some (.int .u8 ((10 : UInt8).toNat : Int)) from (Blk.new x1 5 #[.int .u8 10]).cell 0)
        have O6 := Lib.hid (O1.out.keeps (balloc (b0 x1) (.cells #[.int .u8 10] 5)))
        generalize (x1.alloc (.cells #[.int .u8 10] 5)) = x6 at *
        refine held_only (i := 2) rfl (by kernel_rfl) rfl (fun K hK => ?_)
        refine wp_catB _ (.tmp 63) (.tmp 64) rfl w7.heap.size (.slice (some ⟨x0.heap.size, 0, none⟩) 0 0) [] rfl O6.out a0 x.size c0 x rfl (X7.out.keeps hH) ZL.out.1 hH.size ?_
        intro v7 x7 O b g
        refine hK.out _ _ (hH.trans b) (fun hH => ?_)
        clear hK K
        have O7 := Lib.hid O
        have T7 := Lib.hid ((World.cell?_of_block (w := x6) (g.block x1.heap.size (block_lt_of_cell T6.out) (fun e => by have e2 : x1.heap.size = x0.heap.size := (by simpa [Value.ownBlock] using e); have := sz1.out; have := hz1.out; have := sz6.out; have := hz6.out; omega))).trans T6.out)
        clear O b g
        refine held_only (i := 4) rfl (by kernel_rfl) rfl (fun K hK => ?_)
        refine wp_pushO _ (.tmp 65) (.tmp 66) rfl w7.heap.size v7 _ rfl O7.out x1.heap.size 10 rfl T7.out ZL.out.2.1 hH.size ?_
        intro v8 x8 O b
        refine hK.out _ _ (hH.trans b) (fun hH => ?_)
        clear hK K
        have O8 := Lib.hid O
        clear O b
        refine held_only (i := 9) rfl (by kernel_rfl) rfl (fun K hK => ?_)
        refine wp_catT _ (.tmp 67) (.tmp 71) rfl w7.heap.size v8 _ rfl O8.out (recS k) rfl ZL.out.2.2 hH.size ?_
        intro v9 x9 O b
        refine hK.out _ _ (hH.trans b) (fun hH => ?_)
        clear hK K
        have O9 := Lib.hid O
        clear O b
        refine held_take (i := 10) (d := 17) (v := ?_) rfl (by kernel_rfl) (by kernel_rfl) (by kernel_rfl) rfl (fun _ _ _ h => h) rfl hH (fun w' hS => ?_) ?_
        rotate_left
        · go_simp; first | done | with_reducible rfl
        simp only
        refine wpAnyH_done (by kernel_rfl) ?_ _
        go_wp2_with fail
        go_meet
        case rel => exact ⟨Lib.hid O9.out, Lib.hid hH⟩
    · go_simp
      have hz10 := Lib.hid hH.size
      refine hK.out _ _ (balloc hH _) (fun hH => ?_)
      clear hK K
      have sz10 := Lib.hid (show (x0.alloc (.cells #[.int .u8 10] 5)).heap.size = x0.heap.size + 1 by simp)
      have T10 := Lib.hid (show (x0.alloc (.cells #[.int .u8 10] 5)).cell? ⟨x0.heap.size, 0, none⟩ = some (.int .u8 ((10 : UInt8).toNat : Int)) from (Blk.new x0 5 #[.int .u8 10]).cell 0)
      generalize (x0.alloc (.cells #[.int .u8 10] 5)) = x10 at *
      refine held_only (i := 0) rfl (by kernel_rfl) rfl (fun K hK => ?_)
      go_simp
      have hz11 := Lib.hid hH.size
      refine hK.out _ _ (balloc hH _) (fun hH => ?_)
      clear hK K
      have sz11 := Lib.hid (show (x10.alloc (.cells #[] 5)).heap.size = x10.heap.size + 1 by simp)
      have O11 := Lib.hid (ob_lit x10 w7.heap.size hz11.out)
      have T11 := Lib.hid (keeps (balloc (b0 x10) (.cells #[] 5)) T10.out)
      generalize (x10.alloc (.cells #[] 5)) = x11 at *
      refine held_only (i := 2) rfl (by kernel_rfl) rfl (fun K hK => ?_)
      refine wp_catB _ (.tmp 63) (.tmp 64) rfl w7.heap.size (.slice (some ⟨x10.heap.size, 0, none⟩) 0 0) [] rfl O11.out a0 x.size c0 x rfl (X7.out.keeps hH) ZL.out.1 hH.size ?_
      intro v12 x12 O b g
      refine hK.out _ _ (hH.trans b) (fun hH => ?_)
      clear hK K
      have O12 := Lib.hid O
      have T12 := Lib.hid ((World.cell?_of_block (w := x11) (g.block x0.heap.size (block_lt_of_cell T11.out) (fun e => by have e2 : x0.heap.size = x10.heap.size := (by simpa [Value.ownBlock] using e); have := sz10.out; have := hz10.out; have := sz11.out; have := hz11.out; omega))).trans T11.out)
      clear O b g
      refine held_only (i := 4) rfl (by kernel_rfl) rfl (fun K hK => ?_)
      refine wp_pushO _ (.tmp 65) (.tmp 66) rfl w7.heap.size v12 _ rfl O12.out x0.heap.size 10 rfl T12.out ZL.out.2.1 hH.size ?_
      intro v13 x13 O b
      refine hK.out _ _ (hH.trans b) (fun hH => ?_)
      clear hK K
      have O13 := Lib.hid O
      clear O b
      refine held_only (i := 9) rfl (by kernel_rfl) rfl (fun K hK => ?_)
      refine wp_catT _ (.tmp 67) (.tmp 71) rfl w7.heap.size v13 _ rfl O13.out (recS k) rfl ZL.out.2.2 hH.size ?_
      intro v14 x14 O b
      refine hK.out _ _ (hH.trans b) (fun hH => ?_)
      clear hK K
      have O14 := Lib.hid O
      clear O b
      refine held_take (i := 10) (d := 17) (v := ?_) rfl (by kernel_rfl) (by kernel_rfl) (by kernel_rfl) rfl (fun _ _ _ h => h) rfl hH (fun w' hS => ?_) ?_
      rotate_left
      · go_simp; first | done | with_reducible rfl
      simp only
      refine wpAnyH_done (by kernel_rfl) ?_ _
      go_wp2_with fail
      go_meet
      case rel => exact ⟨Lib.hid O14.out, Lib.hid hH⟩
  case rest =>
    obtain ⟨O8, B8⟩ := hcut
    generalize wc = wq at *
    have Y8 := Lib.hid (Y7.out.keeps B8.out)
    obtain ⟨z, hz⟩ : ∃ z : ByteArray, z.data.toList = [] ++ x.data.toList ++ [10] ++ (recS k).data.toList ++ [10] ++ y.data.toList := ⟨⟨([] ++ x.data.toList ++ [10] ++ (recS k).data.toList ++ [10] ++ y.data.toList).toArray⟩, rfl⟩
    obtain ⟨v0, hv0⟩ : ∃ v : ByteArray, v.data.toList = (recS k).data.toList ++ 10 :: y.data.toList := ⟨⟨((recS k).data.toList ++ 10 :: y.data.toList).toArray⟩, rfl⟩
    have hz2 : z.data.toList = x.data.toList ++ 10 :: v0.data.toList := by rw [hz, hv0]; simp
    have hzs : z.size ≤ 1500 := by rw [← str_len, hz]; have := ZX.out; have := recS_size k; simp only [List.length_append, List.length_nil, List.length_cons, str_len]; omega
    have hR := recov_ok k hv0 hz2 (by omega) HM.out.1 HM.out.2
    have hEz : tokE z = 0 := by unfold tokE; rw [if_neg (by omega)]
    have C3 := Lib.hid (fun a c W h t => module_any a z.size c z W h t hEz _ _ hR)
    have zS := Lib.hid (modR_sm (by omega) hR)
    have AT := Lib.hid (rec_at k)
    have hz3 := Lib.hid hz
    have D8 := Lib.hid (bnext D7.out B8.out)
    have F8 := Lib.hid (bnext F7.out B8.out)
    have ZM := Lib.hid (show ([] ++ x.data.toList ++ [10] ++ (recS k).data.toList : List UInt8).length < 140737488355328 ∧ ([] ++ x.data.toList ++ [10] ++ (recS k).data.toList ++ [10] : List UInt8).length + y.size < 140737488355328 by have := ZX.out; have := recS_size k; simp only [List.length_append, List.length_nil, List.length_cons, str_len]; omega)
    clear hz hv0 hz2 hzs hR hEz
    go_wp2_with (at_builtin; first | (refine is_appB (.tmp 73) (.tmp 74) rfl ?_; refine wpList_plain rfl (fun K hK => ?_); refine wp_pushO _ (.tmp 73) (.tmp 74) rfl w7.heap.size u17 _ rfl (O8.out.keeps (balloc (b0 wq) (.cells #[.int .u8 10] 5))) wq.heap.size 10 rfl (by simp [go_sem]) ZM.out.1 (balloc B8.out (.cells #[.int .u8 10] 5)).size ?_; intro v9 w9 O9 b9; have B9 := Lib.hid ((balloc B8.out (.cells #[.int .u8 10] 5)).trans b9); have P9 := Lib.hid O9; clear O9 b9; refine hK _ _ ?_) | (refine is_appB (.tmp 75) (.tmp 76) rfl ?_; refine wpList_plain rfl (fun K hK => ?_); refine wp_catB _ (.tmp 75) (.tmp 76) rfl w7.heap.size v9 _ rfl P9.out a1 y.size c1 y rfl (Y7.out.keeps B9.out) ZM.out.2 B9.out.size ?_; intro v10 w10 O10 b10 g10; have B10 := Lib.hid (B9.out.trans b10); have P10 := Lib.hid O10; clear O10 b10 g10; refine hK _ _ ?_))
    obtain ⟨az, cz, rfl, BZ⟩ := (show OB w10 w7.heap.size v10 z.data.toList from hz3.out ▸ P10.out).bs
    have Dw10 := Lib.hid (bnext D7.out B10.out)
    have Fw10 := Lib.hid (bnext F7.out B10.out)
    refine (C3.out az cz w10 BZ (T0.out.stays Dw10.out)).mono ?_
    rintro e w11 ⟨r1, u, rfl, V, P, b⟩
    obtain ⟨tz, tzc, fz, fzc, rfl, RZ, RY⟩ := V
    obtain ⟨pp9, a9, c9, hp9, _, rfl, SP9⟩ := P
    obtain rfl := List.perm_singleton.1 hp9
    obtain ⟨b9, o9, rfl, hC9⟩ : ∃ b off, a9 = some ⟨b, off, none⟩ ∧ pb.Cl w11 b off [(recA k + ((x.size + 1 : Nat) : Int), 90)] := by
      rcases SP9.hat with h | h
      · cases h
      · exact h
    have d0 : w11.cell? ⟨b9, o9, none⟩ = some (.int .i64 (recA k + ((x.size + 1 : Nat) : Int))) := by have := (hC9 0 (Nat.lt_succ_self 0)).1; rw [show (pb.gt [((recA k + ((x.size + 1 : Nat) : Int) : Int), (90 : Int))] 0).1 = recA k + ((x.size + 1 : Nat) : Int) from rfl] at this; simpa using this
    have d1 : w11.cell? ⟨b9, o9 + 1, none⟩ = some (.int .i64 90) := by have := (hC9 0 (Nat.lt_succ_self 0)).2; rw [show (pb.gt [((recA k + ((x.size + 1 : Nat) : Int) : Int), (90 : Int))] 0).2 = 90 from rfl] at this; simpa using this
    have Dw11 := Lib.hid (bnext Dw10.out b)
    have H11 := Lib.hid (bnext B10.out b)
    have Fw11 := Lib.hid (bnext Fw10.out b)
    have BD := Lib.hid (And.intro d0 d1)
    have MZ := Lib.hid (And.intro RZ RY)
    clear b d0 d1 hC9 SP9 hp9 RZ RY C3 BZ O8 P9 P10 B8 B9 B10 Y8 ZM hz3
    go_wp2_with (refine arm_storeT infMo (.tmp 18) (.tmp 81) rfl rfl _ _ _ _ rfl rfl (Blk.new _ _ _) rfl rfl (by simp [Value.oneCell']) ?_; intro u11 L s3; have b := (balloc (b0 w11) _).trans (s3.below (Nat.le_refl _)); have L11 := Lib.hid L; have F11 := Lib.hid b; have D11 := Lib.hid (bnext Dw11.out b); clear L s3 b)
    obtain ⟨lT, hlT⟩ : ∃ l, l = m.ts ++ n.ts := ⟨_, rfl⟩
    obtain ⟨lF, hlF⟩ : ∃ l, l = m.fs ++ n.fs := ⟨_, rfl⟩
    replace hlT := Lib.hid hlT
    replace hlF := Lib.hid hlF
    have K4 := bnext (bnext (bnext (bnext F4.out G6.out) F6.out) Fw11.out) F11.out
    have K6 := bnext (bnext F6.out Fw11.out) F11.out
    have LM := Lib.hid (show Blk u11 w4.heap.size 27 #[.slice ta m.ts.length tc, .slice fa m.fs.length fc] from L4.out.below (bnext (bnext (bnext G6.out F6.out) Fw11.out) F11.out) L4.out.lt)
    have LN := Lib.hid (show Blk u11 w6.heap.size 27 #[.slice tb n.ts.length td, .slice fb n.fs.length fd] from L6.out.below (bnext Fw11.out F11.out) L6.out.lt)
    have hM : m.app n = ⟨lT, lF⟩ := by rw [hlT.out, hlF.out]; rfl
    have LMt := Lib.hid LM.out.tg
    have LZ := Lib.hid (show Blk u11 w11.heap.size 27 #[.slice tz lT.length tzc, .slice fz lF.length fzc] from by have h := L11.out; rw [hM] at h; exact h)
    have zT := Lib.hid (show Mo.sm ⟨lT, lF⟩ from by have h := zS.out; rw [hM] at h; exact h)
    have LJ := Lib.hid (LI.out.below (bnext H11.out F11.out) LI.out.lt)
    have hgm := Lib.hid (show w0'.heap.size ≤ w4.heap.size ∧ w4.heap.size < w6.heap.size ∧ w6.heap.size < u6.heap.size ∧ u6.heap.size ≤ w11.heap.size from ⟨Dw4.out.size, Nat.lt_of_lt_of_le L4.out.lt G6.out.size, L6.out.lt, Fw11.out.size⟩)
    have e0 := keeps F11.out BD.out.1
    have e1 := keeps F11.out BD.out.2
    have hb9 := Lib.hid (show b9 ≠ w4.heap.size from fun e => by have h := LM.out.cell o9; rw [← e, e0] at h; match o9, h with | 0, h => exact absurd h (by simp) | 1, h => exact absurd h (by simp) | _ + 2, h => exact absurd h (by simp))
    have BE := Lib.hid (And.intro e0 e1)
    clear e0 e1
    have RT1 := Lib.hid ((M4.out.1.kpT (ok := fun _ => True) trivial (kp_of K4) fun c x hq => TbQ.kpT trivial trivial hq (kp_of K4)).less (Nat.zero_le _) fun c x hq => hq.less (Nat.zero_le _))
    have RF1 := Lib.hid ((M4.out.2.kpT (ok := fun _ => True) trivial (kp_of K4) fun c x hq => FeQ.kpT trivial trivial hq (kp_of K4)).less (Nat.zero_le _) fun c x hq => hq.less (Nat.zero_le _))
    have RT2 := Lib.hid ((M6.out.1.kpT (ok := fun _ => True) trivial (kp_of K6) fun c x hq => TbQ.kpT trivial trivial hq (kp_of K6)).less (Nat.zero_le _) fun c x hq => hq.less (Nat.zero_le _))
    have RF2 := Lib.hid ((M6.out.2.kpT (ok := fun _ => True) trivial (kp_of K6) fun c x hq => FeQ.kpT trivial trivial hq (kp_of K6)).less (Nat.zero_le _) fun c x hq => hq.less (Nat.zero_le _))
    have RT3 := Lib.hid (show RowAt 93 4 0 (TbQ 0) u11 tz lT from by have h := (MZ.out.1.kpT (ok := fun _ => True) trivial (kp_of F11.out) fun c x hq => TbQ.kpT trivial trivial hq (kp_of F11.out)).less (Q' := TbQ 0) (Nat.zero_le _) fun c x hq => hq.less (Nat.zero_le _); rw [hM] at h; exact h)
    have RF3 := Lib.hid (show RowAt 96 18 0 (FeQ 0) u11 fz lF from by have h := (MZ.out.2.kpT (ok := fun _ => True) trivial (kp_of F11.out) fun c x hq => FeQ.kpT trivial trivial hq (kp_of F11.out)).less (Q' := FeQ 0) (Nat.zero_le _) fun c x hq => hq.less (Nat.zero_le _); rw [hM] at h; exact h)
    clear K4 K6 M4 M6 MZ BD L4 L6 L11 LI F4 G6 F6 Fw11 Fw10 H11 X7 Y7 XB CI ZL F7 F8 D4 Dw4 Dw6 D6 D7 D8 Dw10 Dw11 hM
    obtain ⟨ds1, hl1, hk1, ho1, S1, Q1⟩ := src_of RT1.out (fun c x h => (tb_one h).1) (fun c x h => (tb_one h).2)
    obtain ⟨ds2, hl2, hk2, ho2, S2, Q2⟩ := src_of RT2.out (fun c x h => (tb_one h).1) (fun c x h => (tb_one h).2)
    have H1 := Lib.hid (And.intro hl1 (And.intro hk1 ho1))
    have H2 := Lib.hid (And.intro hl2 (And.intro hk2 ho2))
    replace S1 := Lib.hid S1
    replace S2 := Lib.hid S2
    replace Q1 := Lib.hid Q1
    replace Q2 := Lib.hid Q2
    have HL := Lib.hid (show m.ts.length + n.ts.length < 1048577 from by have := mS.out.1; have := nS.out.1; have := HLm.out; omega)
    clear hl1 hk1 ho1 hl2 hk2 ho2
    have cN := LN.out.cell 0
    simp only [List.getElem?_toArray, List.getElem?_cons_zero] at cN
    replace cN := Lib.hid cN
    go_cut [84] from 84 (fun _ wx => ∃ (a : Option Addr) (c : Nat), Hid (Blk wx w4.heap.size 27 #[.slice a lT.length c, .slice fa m.fs.length fc]) ∧ Hid (RowAt 93 4 0 (TbQ 0) wx a lT) ∧ Hid (Ov w4.heap.size u11 wx))
    case first =>
      refine wp_region_held_drew (S := fun w' => w'.cell? ⟨w6.heap.size, 0, none⟩ = some (.slice tb n.ts.length td)) (by kernel_rfl) cN.out (fun hH => ?_)
      refine held_take (i := 1) (d := 85) (v := ?_) rfl (by kernel_rfl) (by kernel_rfl) (by kernel_rfl) rfl (fun _ _ _ h => h) rfl hH (fun w' hS => ?_) ?_
      rotate_left
      · go_simp; first | done | with_reducible rfl
      simp only [List.set_cons_zero, List.set_cons_succ]
      refine held_take (i := 4) (d := 88) (v := ?_) rfl (by kernel_rfl) (by kernel_rfl) (by kernel_rfl) rfl (fun _ _ _ h => h) rfl hH (fun w' hS => ?_) ?_
      rotate_left
      · go_simp; first | done | with_reducible rfl
      simp only [List.set_cons_zero, List.set_cons_succ]
      refine held_take (i := 5) (d := 89) (v := ?_) rfl (by kernel_rfl) (by kernel_rfl) (by kernel_rfl) rfl (fun _ _ _ h => h) rfl hH (fun w' hS => ?_) ?_
      rotate_left
      · have e1 := hS; go_simp; first | done | with_reducible rfl
      simp only [List.set_cons_zero, List.set_cons_succ]
      have BX := Lib.hid (b0 u11).drew
      generalize u11.drew = x0 at *
      refine held_two (i := 0) (j := 2) rfl rfl (by kernel_rfl) rfl rfl (fun K hK => ?_) (fun K hK => ?_)
      · go_simp
        refine hK.out _ _ (keeps (balloc (b0 x0) (.cells #[] 93)) hH) (fun hH => ?_)
        clear hK K
        have R1 := Lib.hid (rw_lit 93 4 x0 u11.heap.size BX.out.size)
        replace BX := Lib.hid (balloc BX.out (.cells #[] 93))
        generalize (x0.alloc (.cells #[] 93)) = x1 at *
        refine held_only (i := 2) rfl (by kernel_rfl) rfl (fun K hK => ?_)
        have e2 := (LM.out.below BX.out LM.out.lt).cell 0
        simp only [List.getElem?_toArray, List.getElem?_cons_zero] at e2
        go_simp
        refine hK.out _ _ hH (fun hH => ?_)
        clear hK K e2
        refine held_only (i := 3) rfl (by kernel_rfl) rfl (fun K hK => ?_)
        refine wp_catR infTables _ (.tmp 84) (.tmp 86) rfl u11.heap.size (.slice (some ⟨x0.heap.size, 0, none⟩) 0 0) [] rfl R1.out ta m.ts.length tc ds1 rfl (S1.out.keeps BX.out) H1.out.1 H1.out.2.1 H1.out.2.2 (by have := HL.out; simp; omega) BX.out.size ?_
        intro v1 y1 P1 b1 g1
        rw [List.nil_append] at P1
        have q1 := (b1.cell (p := ⟨w6.heap.size, 0, none⟩) LN.out.lt).trans hH
        refine hK.out _ _ q1 (fun hH => ?_)
        clear hK K q1 g1
        replace P1 := Lib.hid P1
        replace BX := Lib.hid (BX.out.trans b1)
        clear b1
        refine held_only (i := 6) rfl (by kernel_rfl) rfl (fun K hK => ?_)
        refine wp_catR infTables _ (.tmp 87) (.tmp 89) rfl u11.heap.size v1 ds1 rfl P1.out tb n.ts.length td ds2 rfl (S2.out.keeps BX.out) H2.out.1 H2.out.2.1 H2.out.2.2 (by have := HL.out; have := H1.out.1; omega) BX.out.size ?_
        intro v2 y2 P2 b2 g2
        have q1 := (b2.cell (p := ⟨w6.heap.size, 0, none⟩) LN.out.lt).trans hH
        refine hK.out _ _ q1 (fun hH => ?_)
        clear hK K q1 g2
        replace BX := Lib.hid (BX.out.trans b2)
        clear b2
        obtain ⟨a2, c2, hv2, RR⟩ := P2.row (l := m.ts ++ n.ts) (Q := TbQ 0) (by rw [List.length_append, List.length_append, H1.out.1, H2.out.1]) (q_app H1.out.1 (fun j h1 h2 => TbQ.kpT trivial trivial (Q1.out j h1 h2) (kp_of BX.out)) (fun j h1 h2 => TbQ.kpT trivial trivial (Q2.out j h1 h2) (kp_of BX.out)))
        rw [← hlT.out] at hv2 RR
        subst hv2
        have eM := LM.out.below BX.out LM.out.lt
        have e3 := eM.cell 0
        have z3 := eM.free 0
        simp only [List.getElem?_toArray, List.getElem?_cons_zero] at e3
        have st := eM.setCell 0 (.slice a2 lT.length c2)
        replace RR := Lib.hid RR
        replace st := Lib.hid st
        replace eM := Lib.hid eM
        refine held_take (i := 7) (d := 91) (v := ?_) rfl (by kernel_rfl) (by kernel_rfl) (by kernel_rfl) rfl (fun _ _ _ h => h) rfl hH (fun w' hS => ?_) ?_
        rotate_left
        · go_simp; first | done | with_reducible rfl
        simp only
        refine held_only (i := 8) rfl (by kernel_rfl) rfl (fun K hK => ?_)
        go_simp
        refine hK.out _ _ ((World.cell?_setCell_other _ _ _ _ (fun h => by have := congrArg Addr.block h; have := hgm.out; simp only at *; omega)).trans hH) (fun hH => ?_)
        clear hK K e3 z3
        refine wpAnyH_done (by kernel_rfl) ?_ _
        go_wp2_with fail
        go_meet
        case rel => exact ⟨a2, c2, Lib.hid st.out.1, Lib.hid ((RR.out.kpT (ok := fun T => T ≠ 27) (by decide) ((Ov.st st.out.2).kpT eM.out.tg) fun c x hq => TbQ.kpT (by decide) (by decide) hq ((Ov.st st.out.2).kpT eM.out.tg)).less (Nat.zero_le _) fun c x hq => hq), Lib.hid ((Ov.of BX.out).trans (Ov.st st.out.2))⟩
      · have e2 := (LM.out.below BX.out LM.out.lt).cell 0
        simp only [List.getElem?_toArray, List.getElem?_cons_zero] at e2
        go_simp
        refine hK.out _ _ hH (fun hH => ?_)
        clear hK K e2
        refine held_only (i := 0) rfl (by kernel_rfl) rfl (fun K hK => ?_)
        go_simp
        refine hK.out _ _ (keeps (balloc (b0 x0) (.cells #[] 93)) hH) (fun hH => ?_)
        clear hK K
        have R1 := Lib.hid (rw_lit 93 4 x0 u11.heap.size BX.out.size)
        replace BX := Lib.hid (balloc BX.out (.cells #[] 93))
        generalize (x0.alloc (.cells #[] 93)) = x1 at *
        refine held_only (i := 3) rfl (by kernel_rfl) rfl (fun K hK => ?_)
        refine wp_catR infTables _ (.tmp 84) (.tmp 86) rfl u11.heap.size (.slice (some ⟨x0.heap.size, 0, none⟩) 0 0) [] rfl R1.out ta m.ts.length tc ds1 rfl (S1.out.keeps BX.out) H1.out.1 H1.out.2.1 H1.out.2.2 (by have := HL.out; simp; omega) BX.out.size ?_
        intro v1 y1 P1 b1 g1
        rw [List.nil_append] at P1
        have q1 := (b1.cell (p := ⟨w6.heap.size, 0, none⟩) LN.out.lt).trans hH
        refine hK.out _ _ q1 (fun hH => ?_)
        clear hK K q1 g1
        replace P1 := Lib.hid P1
        replace BX := Lib.hid (BX.out.trans b1)
        clear b1
        refine held_only (i := 6) rfl (by kernel_rfl) rfl (fun K hK => ?_)
        refine wp_catR infTables _ (.tmp 87) (.tmp 89) rfl u11.heap.size v1 ds1 rfl P1.out tb n.ts.length td ds2 rfl (S2.out.keeps BX.out) H2.out.1 H2.out.2.1 H2.out.2.2 (by have := HL.out; have := H1.out.1; omega) BX.out.size ?_
        intro v2 y2 P2 b2 g2
        have q1 := (b2.cell (p := ⟨w6.heap.size, 0, none⟩) LN.out.lt).trans hH
        refine hK.out _ _ q1 (fun hH => ?_)
        clear hK K q1 g2
        replace BX := Lib.hid (BX.out.trans b2)
        clear b2
        obtain ⟨a2, c2, hv2, RR⟩ := P2.row (l := m.ts ++ n.ts) (Q := TbQ 0) (by rw [List.length_append, List.length_append, H1.out.1, H2.out.1]) (q_app H1.out.1 (fun j h1 h2 => TbQ.kpT trivial trivial (Q1.out j h1 h2) (kp_of BX.out)) (fun j h1 h2 => TbQ.kpT trivial trivial (Q2.out j h1 h2) (kp_of BX.out)))
        rw [← hlT.out] at hv2 RR
        subst hv2
        have eM := LM.out.below BX.out LM.out.lt
        have e3 := eM.cell 0
        have z3 := eM.free 0
        simp only [List.getElem?_toArray, List.getElem?_cons_zero] at e3
        have st := eM.setCell 0 (.slice a2 lT.length c2)
        replace RR := Lib.hid RR
        replace st := Lib.hid st
        replace eM := Lib.hid eM
        refine held_take (i := 7) (d := 91) (v := ?_) rfl (by kernel_rfl) (by kernel_rfl) (by kernel_rfl) rfl (fun _ _ _ h => h) rfl hH (fun w' hS => ?_) ?_
        rotate_left
        · go_simp; first | done | with_reducible rfl
        simp only
        refine held_only (i := 8) rfl (by kernel_rfl) rfl (fun K hK => ?_)
        go_simp
        refine hK.out _ _ ((World.cell?_setCell_other _ _ _ _ (fun h => by have := congrArg Addr.block h; have := hgm.out; simp only at *; omega)).trans hH) (fun hH => ?_)
        clear hK K e3 z3
        refine wpAnyH_done (by kernel_rfl) ?_ _
        go_wp2_with fail
        go_meet
        case rel => exact ⟨a2, c2, Lib.hid st.out.1, Lib.hid ((RR.out.kpT (ok := fun T => T ≠ 27) (by decide) ((Ov.st st.out.2).kpT eM.out.tg) fun c x hq => TbQ.kpT (by decide) (by decide) hq ((Ov.st st.out.2).kpT eM.out.tg)).less (Nat.zero_le _) fun c x hq => hq), Lib.hid ((Ov.of BX.out).trans (Ov.st st.out.2))⟩
    case rest =>
      obtain ⟨ta9, tc9, LMd, RTd, OVd⟩ := hcut
      generalize wc = wd at *
      have LNd := Lib.hid (OVd.out.blk LN.out (by have := hgm.out; omega))
      have KV := OVd.out.kpT (C := 0) LM.out.tg
      have RF1d := Lib.hid (RF1.out.kpT (ok := fun T => T ≠ 27) (by decide) KV fun c x hq => FeQ.kpT (by decide) (by decide) hq KV)
      have RF2d := Lib.hid (RF2.out.kpT (ok := fun T => T ≠ 27) (by decide) KV fun c x hq => FeQ.kpT (by decide) (by decide) hq KV)
      clear KV RF1 RF2 RT1 RT2 S1 S2 Q1 Q2 H1 H2 HL cN LN LM
      have LM := LMd
      have LN := LNd
      have LMs := Lib.hid LM.out.tg
      have RF1 := RF1d
      have RF2 := RF2d
      clear LMd LNd RF1d RF2d
      go_wp2_with fail
      obtain ⟨ds1, hl1, hk1, ho1, S1, Q1⟩ := src_of RF1.out (fun c x h => (fe_one h).1) (fun c x h => (fe_one h).2)
      obtain ⟨ds2, hl2, hk2, ho2, S2, Q2⟩ := src_of RF2.out (fun c x h => (fe_one h).1) (fun c x h => (fe_one h).2)
      have H1 := Lib.hid (And.intro hl1 (And.intro hk1 ho1))
      have H2 := Lib.hid (And.intro hl2 (And.intro hk2 ho2))
      replace S1 := Lib.hid S1
      replace S2 := Lib.hid S2
      replace Q1 := Lib.hid Q1
      replace Q2 := Lib.hid Q2
      have HL := Lib.hid (show m.fs.length + n.fs.length < 1048577 from by have := mS.out.1; have := nS.out.1; have := HLm.out; omega)
      clear hl1 hk1 ho1 hl2 hk2 ho2
      have cN := LN.out.cell 1
      simp only [List.getElem?_toArray, List.getElem?_cons_zero, List.getElem?_cons_succ] at cN
      replace cN := Lib.hid cN
      go_cut [92] from 92 (fun _ wx => ∃ (a : Option Addr) (c : Nat), Hid (Blk wx w4.heap.size 27 #[.slice ta9 lT.length tc9, .slice a lF.length c]) ∧ Hid (RowAt 96 18 0 (FeQ 0) wx a lF) ∧ Hid (Ov w4.heap.size wd wx))
      case first =>
        refine wp_region_held_drew (S := fun w' => w'.cell? ⟨w6.heap.size, 1, none⟩ = some (.slice fb n.fs.length fd)) (by kernel_rfl) cN.out (fun hH => ?_)
        refine held_take (i := 1) (d := 93) (v := ?_) rfl (by kernel_rfl) (by kernel_rfl) (by kernel_rfl) rfl (fun _ _ _ h => h) rfl hH (fun w' hS => ?_) ?_
        rotate_left
        · go_simp; first | done | with_reducible rfl
        simp only [List.set_cons_zero, List.set_cons_succ]
        refine held_take (i := 4) (d := 96) (v := ?_) rfl (by kernel_rfl) (by kernel_rfl) (by kernel_rfl) rfl (fun _ _ _ h => h) rfl hH (fun w' hS => ?_) ?_
        rotate_left
        · go_simp; first | done | with_reducible rfl
        simp only [List.set_cons_zero, List.set_cons_succ]
        refine held_take (i := 5) (d := 97) (v := ?_) rfl (by kernel_rfl) (by kernel_rfl) (by kernel_rfl) rfl (fun _ _ _ h => h) rfl hH (fun w' hS => ?_) ?_
        rotate_left
        · have e1 := hS; go_simp; first | done | with_reducible rfl
        simp only [List.set_cons_zero, List.set_cons_succ]
        have BX := Lib.hid (b0 wd).drew
        generalize wd.drew = x0 at *
        refine held_two (i := 0) (j := 2) rfl rfl (by kernel_rfl) rfl rfl (fun K hK => ?_) (fun K hK => ?_)
        · go_simp
          refine hK.out _ _ (keeps (balloc (b0 x0) (.cells #[] 96)) hH) (fun hH => ?_)
          clear hK K
          have R1 := Lib.hid (rw_lit 96 18 x0 wd.heap.size BX.out.size)
          replace BX := Lib.hid (balloc BX.out (.cells #[] 96))
          generalize (x0.alloc (.cells #[] 96)) = x1 at *
          refine held_only (i := 2) rfl (by kernel_rfl) rfl (fun K hK => ?_)
          have e2 := (LM.out.below BX.out LM.out.lt).cell 1
          simp only [List.getElem?_toArray, List.getElem?_cons_zero, List.getElem?_cons_succ] at e2
          go_simp
          refine hK.out _ _ hH (fun hH => ?_)
          clear hK K e2
          refine held_only (i := 3) rfl (by kernel_rfl) rfl (fun K hK => ?_)
          refine wp_catR infFeatures _ (.tmp 92) (.tmp 94) rfl wd.heap.size (.slice (some ⟨x0.heap.size, 0, none⟩) 0 0) [] rfl R1.out fa m.fs.length fc ds1 rfl (S1.out.keeps BX.out) H1.out.1 H1.out.2.1 H1.out.2.2 (by have := HL.out; simp; omega) BX.out.size ?_
          intro v1 y1 P1 b1 g1
          rw [List.nil_append] at P1
          have q1 := (b1.cell (p := ⟨w6.heap.size, 1, none⟩) LN.out.lt).trans hH
          refine hK.out _ _ q1 (fun hH => ?_)
          clear hK K q1 g1
          replace P1 := Lib.hid P1
          replace BX := Lib.hid (BX.out.trans b1)
          clear b1
          refine held_only (i := 6) rfl (by kernel_rfl) rfl (fun K hK => ?_)
          refine wp_catR infFeatures _ (.tmp 95) (.tmp 97) rfl wd.heap.size v1 ds1 rfl P1.out fb n.fs.length fd ds2 rfl (S2.out.keeps BX.out) H2.out.1 H2.out.2.1 H2.out.2.2 (by have := HL.out; have := H1.out.1; omega) BX.out.size ?_
          intro v2 y2 P2 b2 g2
          have q1 := (b2.cell (p := ⟨w6.heap.size, 1, none⟩) LN.out.lt).trans hH
          refine hK.out _ _ q1 (fun hH => ?_)
          clear hK K q1 g2
          replace BX := Lib.hid (BX.out.trans b2)
          clear b2
          obtain ⟨a2, c2, hv2, RR⟩ := P2.row (l := m.fs ++ n.fs) (Q := FeQ 0) (by rw [List.length_append, List.length_append, H1.out.1, H2.out.1]) (q_app H1.out.1 (fun j h1 h2 => FeQ.kpT trivial trivial (Q1.out j h1 h2) (kp_of BX.out)) (fun j h1 h2 => FeQ.kpT trivial trivial (Q2.out j h1 h2) (kp_of BX.out)))
          rw [← hlF.out] at hv2 RR
          subst hv2
          have eM := LM.out.below BX.out LM.out.lt
          have e3 := eM.cell 1
          have z3 := eM.free 1
          simp only [List.getElem?_toArray, List.getElem?_cons_zero, List.getElem?_cons_succ] at e3
          have st := eM.setCell 1 (.slice a2 lF.length c2)
          replace RR := Lib.hid RR
          replace st := Lib.hid st
          replace eM := Lib.hid eM
          refine held_take (i := 7) (d := 99) (v := ?_) rfl (by kernel_rfl) (by kernel_rfl) (by kernel_rfl) rfl (fun _ _ _ h => h) rfl hH (fun w' hS => ?_) ?_
          rotate_left
          · go_simp; first | done | with_reducible rfl
          simp only
          refine held_only (i := 8) rfl (by kernel_rfl) rfl (fun K hK => ?_)
          go_simp
          refine hK.out _ _ ((World.cell?_setCell_other _ _ _ _ (fun h => by have := congrArg Addr.block h; have := hgm.out; simp only at *; omega)).trans hH) (fun hH => ?_)
          clear hK K e3 z3
          refine wpAnyH_done (by kernel_rfl) ?_ _
          go_wp2_with fail
          go_meet
          case rel => exact ⟨a2, c2, Lib.hid st.out.1, Lib.hid ((RR.out.kpT (ok := fun T => T ≠ 27) (by decide) ((Ov.st st.out.2).kpT eM.out.tg) fun c x hq => FeQ.kpT (by decide) (by decide) hq ((Ov.st st.out.2).kpT eM.out.tg)).less (Nat.zero_le _) fun c x hq => hq), Lib.hid ((Ov.of BX.out).trans (Ov.st st.out.2))⟩
        · have e2 := (LM.out.below BX.out LM.out.lt).cell 1
          simp only [List.getElem?_toArray, List.getElem?_cons_zero, List.getElem?_cons_succ] at e2
          go_simp
          refine hK.out _ _ hH (fun hH => ?_)
          clear hK K e2
          refine held_only (i := 0) rfl (by kernel_rfl) rfl (fun K hK => ?_)
          go_simp
          refine hK.out _ _ (keeps (balloc (b0 x0) (.cells #[] 96)) hH) (fun hH => ?_)
          clear hK K
          have R1 := Lib.hid (rw_lit 96 18 x0 wd.heap.size BX.out.size)
          replace BX := Lib.hid (balloc BX.out (.cells #[] 96))
          generalize (x0.alloc (.cells #[] 96)) = x1 at *
          refine held_only (i := 3) rfl (by kernel_rfl) rfl (fun K hK => ?_)
          refine wp_catR infFeatures _ (.tmp 92) (.tmp 94) rfl wd.heap.size (.slice (some ⟨x0.heap.size, 0, none⟩) 0 0) [] rfl R1.out fa m.fs.length fc ds1 rfl (S1.out.keeps BX.out) H1.out.1 H1.out.2.1 H1.out.2.2 (by have := HL.out; simp; omega) BX.out.size ?_
          intro v1 y1 P1 b1 g1
          rw [List.nil_append] at P1
          have q1 := (b1.cell (p := ⟨w6.heap.size, 1, none⟩) LN.out.lt).trans hH
          refine hK.out _ _ q1 (fun hH => ?_)
          clear hK K q1 g1
          replace P1 := Lib.hid P1
          replace BX := Lib.hid (BX.out.trans b1)
          clear b1
          refine held_only (i := 6) rfl (by kernel_rfl) rfl (fun K hK => ?_)
          refine wp_catR infFeatures _ (.tmp 95) (.tmp 97) rfl wd.heap.size v1 ds1 rfl P1.out fb n.fs.length fd ds2 rfl (S2.out.keeps BX.out) H2.out.1 H2.out.2.1 H2.out.2.2 (by have := HL.out; have := H1.out.1; omega) BX.out.size ?_
          intro v2 y2 P2 b2 g2
          have q1 := (b2.cell (p := ⟨w6.heap.size, 1, none⟩) LN.out.lt).trans hH
          refine hK.out _ _ q1 (fun hH => ?_)
          clear hK K q1 g2
          replace BX := Lib.hid (BX.out.trans b2)
          clear b2
          obtain ⟨a2, c2, hv2, RR⟩ := P2.row (l := m.fs ++ n.fs) (Q := FeQ 0) (by rw [List.length_append, List.length_append, H1.out.1, H2.out.1]) (q_app H1.out.1 (fun j h1 h2 => FeQ.kpT trivial trivial (Q1.out j h1 h2) (kp_of BX.out)) (fun j h1 h2 => FeQ.kpT trivial trivial (Q2.out j h1 h2) (kp_of BX.out)))
          rw [← hlF.out] at hv2 RR
          subst hv2
          have eM := LM.out.below BX.out LM.out.lt
          have e3 := eM.cell 1
          have z3 := eM.free 1
          simp only [List.getElem?_toArray, List.getElem?_cons_zero, List.getElem?_cons_succ] at e3
          have st := eM.setCell 1 (.slice a2 lF.length c2)
          replace RR := Lib.hid RR
          replace st := Lib.hid st
          replace eM := Lib.hid eM
          refine held_take (i := 7) (d := 99) (v := ?_) rfl (by kernel_rfl) (by kernel_rfl) (by kernel_rfl) rfl (fun _ _ _ h => h) rfl hH (fun w' hS => ?_) ?_
          rotate_left
          · go_simp; first | done | with_reducible rfl
          simp only
          refine held_only (i := 8) rfl (by kernel_rfl) rfl (fun K hK => ?_)
          go_simp
          refine hK.out _ _ ((World.cell?_setCell_other _ _ _ _ (fun h => by have := congrArg Addr.block h; have := hgm.out; simp only at *; omega)).trans hH) (fun hH => ?_)
          clear hK K e3 z3
          refine wpAnyH_done (by kernel_rfl) ?_ _
          go_wp2_with fail
          go_meet
          case rel => exact ⟨a2, c2, Lib.hid st.out.1, Lib.hid ((RR.out.kpT (ok := fun T => T ≠ 27) (by decide) ((Ov.st st.out.2).kpT eM.out.tg) fun c x hq => FeQ.kpT (by decide) (by decide) hq ((Ov.st st.out.2).kpT eM.out.tg)).less (Nat.zero_le _) fun c x hq => hq), Lib.hid ((Ov.of BX.out).trans (Ov.st st.out.2))⟩
      case rest =>
        obtain ⟨fa9, fc9, LMe, RFe, OVe⟩ := hcut
        generalize wc = we at *
        have OV := OVd.out.trans OVe.out
        have hz := hgm.out
        have LZe := Lib.hid (OV.blk LZ.out (by have := LZ.out.lt; have := F11.out.size; omega))
        have LJe := Lib.hid (OV.blk LJ.out (by omega))
        have BEe := Lib.hid (And.intro (OV.cell BE.out.1 hb9.out) (OV.cell BE.out.2 hb9.out))
        have KT := OV.kpT (C := 0) (show Tg u11 w4.heap.size 27 from LMt.out)
        have KS := OVe.out.kpT (C := 0) (show Tg wd w4.heap.size 27 from LMs.out)
        have RT3e := Lib.hid (RT3.out.kpT (ok := fun T => T ≠ 27) (by decide) KT fun c x hq => TbQ.kpT (by decide) (by decide) hq KT)
        have RF3e := Lib.hid (RF3.out.kpT (ok := fun T => T ≠ 27) (by decide) KT fun c x hq => FeQ.kpT (by decide) (by decide) hq KT)
        have RTe := Lib.hid (RTd.out.kpT (ok := fun T => T ≠ 27) (by decide) KS fun c x hq => TbQ.kpT (by decide) (by decide) hq KS)
        have DE := Lib.hid (D11.out.trans (OV.below (S := w0'.heap.size) hz.1 D11.out.size))
        have c1 : we.cell? ⟨u6.heap.size, k, none⟩ = some (.string (recS k)) := by rw [LJe.out.cell k]; exact rcA_at k HK.out
        have CJ := Lib.hid c1
        have i1 : (k : Int) < 8 := by have := HK.out; omega
        have i2 : k < 8 := HK.out
        have hA := AT.out
        have hX := ZX.out.1
        have hRs := recS_size k
        clear c1 OV KT KS RT3 RF3 RTd LZ LJ BE OVd OVe D11 HM mS nS zS HLm AT ZX LN RF1 RF2 S1 S2 Q1 Q2 H1 H2 HL cN LMt LMs hlT hlF hb9 hgm hz F11 LM HK
        generalize hRk : recS k = rk at *
        generalize hAk : recA k + ((x.size + 1 : Nat) : Int) = A at *
        have g1 : decide (A > (x.size : Int)) = true := decide_eq_true (by omega)
        have g2 : decide ((x.size : Int) < A) = true := decide_eq_true (by omega)
        have g3 : IntKind.i64.wrap ((x.size : Int) + 1) = (x.size : Int) + 1 := wrapS (by omega) (by omega)
        have g4 : IntKind.i64.wrap ((x.size : Int) + 1 + (rk.size : Int)) = (x.size : Int) + 1 + (rk.size : Int) := wrapS (by omega) (by omega)
        have g5 : decide (A < (x.size : Int) + 1 + (rk.size : Int)) = true := decide_eq_true (by omega)
        clear hA hX hRs hAk hRk
        generalize x.size = X at *
        go_wp2_with fail
        refine wp_region_held_drew (S := fun w' => Below we.heap.size we w') (by kernel_rfl) (b0 we).drew (fun hH => ?_)
        refine held_take (i := 0) (d := 100) (v := ?_) rfl (by kernel_rfl) (by kernel_rfl) (by kernel_rfl) rfl (fun _ _ _ h => h) rfl hH (fun w' hS => ?_) ?_
        rotate_left
        · go_simp; first | done | with_reducible rfl
        simp only [List.set_cons_zero, List.set_cons_succ]
        refine held_take (i := 1) (d := 101) (v := ?_) rfl (by kernel_rfl) (by kernel_rfl) (by kernel_rfl) rfl (fun _ _ _ h => h) rfl hH (fun w' hS => ?_) ?_
        rotate_left
        · go_simp; first | done | with_reducible rfl
        simp only [List.set_cons_zero, List.set_cons_succ]
        refine held_take (i := 2) (d := 102) (v := ?_) rfl (by kernel_rfl) (by kernel_rfl) (by kernel_rfl) rfl (fun _ _ _ h => h) rfl hH (fun w' hS => ?_) ?_
        rotate_left
        · go_simp; first | done | with_reducible rfl
        simp only [List.set_cons_zero, List.set_cons_succ]
        refine held_take (i := 3) (d := 103) (v := .agg _) rfl (by kernel_rfl) (by kernel_rfl) (by kernel_rfl) rfl (fun _ _ _ h => h) rfl hH (fun w' hS => yield_load infMo Tryz.underlying27 rfl (.tmp 18) rfl _ _ _ rfl (LZe.out.below hS LZe.out.lt) rfl) ?_
        simp only [List.set_cons_zero, List.set_cons_succ]
        refine held_take (i := 4) (d := 104) (v := .agg _) rfl (by kernel_rfl) (by kernel_rfl) (by kernel_rfl) rfl (fun _ _ _ h => h) rfl hH (fun w' hS => yield_load infMo Tryz.underlying27 rfl (.tmp 9) rfl _ _ _ rfl (LMe.out.below hS LMe.out.lt) rfl) ?_
        simp only [List.set_cons_zero, List.set_cons_succ]
        refine held_only (i := 5) rfl (by kernel_rfl) rfl (fun K hK => ?_)
        go_simp
        refine (sameM_any 0 0 ⟨lT, lF⟩ tz ta9 fz fa9 tzc tc9 fzc fc9 _ (RT3e.out.kpT (ok := fun _ => True) trivial (kp_of hH) fun c x hq => TbQ.kpT trivial trivial hq (kp_of hH)) (RTe.out.kpT (ok := fun _ => True) trivial (kp_of hH) fun c x hq => TbQ.kpT trivial trivial hq (kp_of hH)) (RF3e.out.kpT (ok := fun _ => True) trivial (kp_of hH) fun c x hq => FeQ.kpT trivial trivial hq (kp_of hH)) (RFe.out.kpT (ok := fun _ => True) trivial (kp_of hH) fun c x hq => FeQ.kpT trivial trivial hq (kp_of hH)) zT.out).mono ?_
        rintro e wf ⟨rfl, b⟩
        refine hK.out _ _ (bnext hH b) (fun hH => ?_)
        clear hK K b
        refine held_take (i := 6) (d := 106) (v := ?_) rfl (by kernel_rfl) (by kernel_rfl) (by kernel_rfl) rfl (fun _ _ _ h => h) rfl hH (fun w' hS => ?_) ?_
        rotate_left
        · go_simp; first | done | with_reducible rfl
        simp only [List.set_cons_zero, List.set_cons_succ]
        refine held_take (i := 7) (d := 107) (v := ?_) rfl (by kernel_rfl) (by kernel_rfl) (by kernel_rfl) rfl (fun _ _ _ h => h) rfl hH (fun w' hS => ?_) ?_
        rotate_left
        · go_simp; first | done | with_reducible rfl
        simp only [List.set_cons_zero, List.set_cons_succ]
        refine held_take (i := 8) (d := 108) (v := ?_) rfl (by kernel_rfl) (by kernel_rfl) (by kernel_rfl) rfl (fun _ _ _ h => h) rfl hH (fun w' hS => ?_) ?_
        rotate_left
        · go_simp; first | done | with_reducible rfl
        simp only [List.set_cons_zero, List.set_cons_succ]
        refine held_take (i := 9) (d := 109) (v := ?_) rfl (by kernel_rfl) (by kernel_rfl) (by kernel_rfl) rfl (fun _ _ _ h => h) rfl hH (fun w' hS => ?_) ?_
        rotate_left
        · go_simp; first | done | with_reducible rfl
        simp only [List.set_cons_zero, List.set_cons_succ]
        refine held_take (i := 10) (d := 110) (v := ?_) rfl (by kernel_rfl) (by kernel_rfl) (by kernel_rfl) rfl (fun _ _ _ h => h) rfl hH (fun w' hS => ?_) ?_
        rotate_left
        · go_simp; first | done | with_reducible rfl
        simp only [List.set_cons_zero, List.set_cons_succ]
        refine held_take (i := 11) (d := 111) (v := ?_) rfl (by kernel_rfl) (by kernel_rfl) (by kernel_rfl) rfl (fun _ _ _ h => h) rfl hH (fun w' hS => ?_) ?_
        rotate_left
        · go_simp; first | done | with_reducible rfl
        simp only [List.set_cons_zero, List.set_cons_succ]
        refine held_take (i := 12) (d := 112) (v := ?_) rfl (by kernel_rfl) (by kernel_rfl) (by kernel_rfl) rfl (fun _ _ _ h => h) rfl hH (fun w' hS => ?_) ?_
        rotate_left
        · go_simp; first | done | with_reducible rfl
        simp only [List.set_cons_zero, List.set_cons_succ]
        refine held_take (i := 13) (d := 113) (v := ?_) rfl (by kernel_rfl) (by kernel_rfl) (by kernel_rfl) rfl (fun _ _ _ h => h) rfl hH (fun w' hS => ?_) ?_
        rotate_left
        · go_simp; first | done | with_reducible rfl
        simp only [List.set_cons_zero, List.set_cons_succ]
        refine held_take (i := 14) (d := 114) (v := ?_) rfl (by kernel_rfl) (by kernel_rfl) (by kernel_rfl) rfl (fun _ _ _ h => h) rfl hH (fun w' hS => ?_) ?_
        rotate_left
        · go_simp; first | done | with_reducible rfl
        simp only [List.set_cons_zero, List.set_cons_succ]
        refine held_take (i := 15) (d := 115) (v := ?_) rfl (by kernel_rfl) (by kernel_rfl) (by kernel_rfl) rfl (fun _ _ _ h => h) rfl hH (fun w' hS => ?_) ?_
        rotate_left
        · go_simp; first | done | with_reducible rfl
        simp only [List.set_cons_zero, List.set_cons_succ]
        refine held_take (i := 16) (d := 116) (v := ?_) rfl (by kernel_rfl) (by kernel_rfl) (by kernel_rfl) rfl (fun _ _ _ h => h) rfl hH (fun w' hS => ?_) ?_
        rotate_left
        · have e1 := keeps hS BEe.out.2; go_simp; first | done | with_reducible rfl
        simp only [List.set_cons_zero, List.set_cons_succ]
        refine held_take (i := 17) (d := 117) (v := ?_) rfl (by kernel_rfl) (by kernel_rfl) (by kernel_rfl) rfl (fun _ _ _ h => h) rfl hH (fun w' hS => ?_) ?_
        rotate_left
        · go_simp; first | done | with_reducible rfl
        simp only [List.set_cons_zero, List.set_cons_succ]
        refine held_take (i := 18) (d := 118) (v := ?_) rfl (by kernel_rfl) (by kernel_rfl) (by kernel_rfl) rfl (fun _ _ _ h => h) rfl hH (fun w' hS => ?_) ?_
        rotate_left
        · go_simp; first | done | with_reducible rfl
        simp only [List.set_cons_zero, List.set_cons_succ]
        refine held_take (i := 19) (d := 119) (v := ?_) rfl (by kernel_rfl) (by kernel_rfl) (by kernel_rfl) rfl (fun _ _ _ h => h) rfl hH (fun w' hS => ?_) ?_
        rotate_left
        · go_simp; first | done | with_reducible rfl
        simp only [List.set_cons_zero, List.set_cons_succ]
        refine held_take (i := 20) (d := 120) (v := ?_) rfl (by kernel_rfl) (by kernel_rfl) (by kernel_rfl) rfl (fun _ _ _ h => h) rfl hH (fun w' hS => ?_) ?_
        rotate_left
        · go_simp; first | done | with_reducible rfl
        simp only [List.set_cons_zero, List.set_cons_succ]
        refine held_take (i := 21) (d := 121) (v := ?_) rfl (by kernel_rfl) (by kernel_rfl) (by kernel_rfl) rfl (fun _ _ _ h => h) rfl hH (fun w' hS => ?_) ?_
        rotate_left
        · go_simp; first | done | with_reducible rfl
        simp only [List.set_cons_zero, List.set_cons_succ]
        refine held_take (i := 22) (d := 122) (v := ?_) rfl (by kernel_rfl) (by kernel_rfl) (by kernel_rfl) rfl (fun _ _ _ h => h) rfl hH (fun w' hS => ?_) ?_
        rotate_left
        · go_simp; first | done | with_reducible rfl
        simp only [List.set_cons_zero, List.set_cons_succ]
        refine held_take (i := 23) (d := 123) (v := ?_) rfl (by kernel_rfl) (by kernel_rfl) (by kernel_rfl) rfl (fun _ _ _ h => h) rfl hH (fun w' hS => ?_) ?_
        rotate_left
        · have e1 := keeps hS BEe.out.1; go_simp; first | done | with_reducible rfl
        simp only [List.set_cons_zero, List.set_cons_succ]
        refine held_take (i := 24) (d := 124) (v := ?_) rfl (by kernel_rfl) (by kernel_rfl) (by kernel_rfl) rfl (fun _ _ _ h => h) rfl hH (fun w' hS => ?_) ?_
        rotate_left
        · go_simp; first | done | with_reducible rfl
        simp only [List.set_cons_zero, List.set_cons_succ]
        refine held_take (i := 25) (d := 125) (v := ?_) rfl (by kernel_rfl) (by kernel_rfl) (by kernel_rfl) rfl (fun _ _ _ h => h) rfl hH (fun w' hS => ?_) ?_
        rotate_left
        · go_simp; first | done | with_reducible rfl
        simp only [List.set_cons_zero, List.set_cons_succ]
        refine held_take (i := 26) (d := 126) (v := ?_) rfl (by kernel_rfl) (by kernel_rfl) (by kernel_rfl) rfl (fun _ _ _ h => h) rfl hH (fun w' hS => ?_) ?_
        rotate_left
        · go_simp; (try simp only [g1, g2, g3, g4, g5]); first | done | with_reducible rfl
        simp only [List.set_cons_zero, List.set_cons_succ]
        refine held_take (i := 27) (d := 127) (v := ?_) rfl (by kernel_rfl) (by kernel_rfl) (by kernel_rfl) rfl (fun _ _ _ h => h) rfl hH (fun w' hS => ?_) ?_
        rotate_left
        · go_simp; first | done | with_reducible rfl
        simp only [List.set_cons_zero, List.set_cons_succ]
        refine held_take (i := 28) (d := 128) (v := ?_) rfl (by kernel_rfl) (by kernel_rfl) (by kernel_rfl) rfl (fun _ _ _ h => h) rfl hH (fun w' hS => ?_) ?_
        rotate_left
        · go_simp; first | done | with_reducible rfl
        simp only [List.set_cons_zero, List.set_cons_succ]
        refine held_take (i := 29) (d := 129) (v := ?_) rfl (by kernel_rfl) (by kernel_rfl) (by kernel_rfl) rfl (fun _ _ _ h => h) rfl hH (fun w' hS => ?_) ?_
        rotate_left
        · go_simp; first | done | with_reducible rfl
        simp only [List.set_cons_zero, List.set_cons_succ]
        refine held_take (i := 30) (d := 130) (v := ?_) rfl (by kernel_rfl) (by kernel_rfl) (by kernel_rfl) rfl (fun _ _ _ h => h) rfl hH (fun w' hS => ?_) ?_
        rotate_left
        · go_simp; first | done | with_reducible rfl
        simp only [List.set_cons_zero, List.set_cons_succ]
        refine held_take (i := 31) (d := 131) (v := ?_) rfl (by kernel_rfl) (by kernel_rfl) (by kernel_rfl) rfl (fun _ _ _ h => h) rfl hH (fun w' hS => ?_) ?_
        rotate_left
        · go_simp; first | done | with_reducible rfl
        simp only [List.set_cons_zero, List.set_cons_succ]
        refine held_take (i := 32) (d := 132) (v := ?_) rfl (by kernel_rfl) (by kernel_rfl) (by kernel_rfl) rfl (fun _ _ _ h => h) rfl hH (fun w' hS => ?_) ?_
        rotate_left
        · have e1 := keeps hS BEe.out.1; go_simp; first | done | with_reducible rfl
        simp only [List.set_cons_zero, List.set_cons_succ]
        refine held_take (i := 33) (d := 133) (v := ?_) rfl (by kernel_rfl) (by kernel_rfl) (by kernel_rfl) rfl (fun _ _ _ h => h) rfl hH (fun w' hS => ?_) ?_
        rotate_left
        · go_simp; first | done | with_reducible rfl
        simp only [List.set_cons_zero, List.set_cons_succ]
        refine held_take (i := 34) (d := 134) (v := ?_) rfl (by kernel_rfl) (by kernel_rfl) (by kernel_rfl) rfl (fun _ _ _ h => h) rfl hH (fun w' hS => ?_) ?_
        rotate_left
        · go_simp; first | done | with_reducible rfl
        simp only [List.set_cons_zero, List.set_cons_succ]
        refine held_take (i := 35) (d := 135) (v := ?_) rfl (by kernel_rfl) (by kernel_rfl) (by kernel_rfl) rfl (fun _ _ _ h => h) rfl hH (fun w' hS => ?_) ?_
        rotate_left
        · go_simp; (try simp only [g1, g2, g3, g4, g5]); first | done | with_reducible rfl
        simp only [List.set_cons_zero, List.set_cons_succ]
        refine held_take (i := 36) (d := 136) (v := ?_) rfl (by kernel_rfl) (by kernel_rfl) (by kernel_rfl) rfl (fun _ _ _ h => h) rfl hH (fun w' hS => ?_) ?_
        rotate_left
        · go_simp; first | done | with_reducible rfl
        simp only [List.set_cons_zero, List.set_cons_succ]
        refine held_take (i := 37) (d := 137) (v := ?_) rfl (by kernel_rfl) (by kernel_rfl) (by kernel_rfl) rfl (fun _ _ _ h => h) rfl hH (fun w' hS => ?_) ?_
        rotate_left
        · go_simp; first | done | with_reducible rfl
        simp only [List.set_cons_zero, List.set_cons_succ]
        refine held_take (i := 38) (d := 138) (v := ?_) rfl (by kernel_rfl) (by kernel_rfl) (by kernel_rfl) rfl (fun _ _ _ h => h) rfl hH (fun w' hS => ?_) ?_
        rotate_left
        · go_simp; first | done | with_reducible rfl
        simp only [List.set_cons_zero, List.set_cons_succ]
        refine held_take (i := 39) (d := 139) (v := ?_) rfl (by kernel_rfl) (by kernel_rfl) (by kernel_rfl) rfl (fun _ _ _ h => h) rfl hH (fun w' hS => ?_) ?_
        rotate_left
        · have e1 := keeps hS CJ.out; go_simp; first | done | with_reducible rfl
        simp only [List.set_cons_zero, List.set_cons_succ]
        refine held_take (i := 40) (d := 140) (v := ?_) rfl (by kernel_rfl) (by kernel_rfl) (by kernel_rfl) rfl (fun _ _ _ h => h) rfl hH (fun w' hS => ?_) ?_
        rotate_left
        · go_simp; first | done | with_reducible rfl
        simp only [List.set_cons_zero, List.set_cons_succ]
        refine held_take (i := 41) (d := 141) (v := ?_) rfl (by kernel_rfl) (by kernel_rfl) (by kernel_rfl) rfl (fun _ _ _ h => h) rfl hH (fun w' hS => ?_) ?_
        rotate_left
        · go_simp; (try simp only [g1, g2, g3, g4, g5]); first | done | with_reducible rfl
        simp only [List.set_cons_zero, List.set_cons_succ]
        refine held_take (i := 42) (d := 142) (v := ?_) rfl (by kernel_rfl) (by kernel_rfl) (by kernel_rfl) rfl (fun _ _ _ h => h) rfl hH (fun w' hS => ?_) ?_
        rotate_left
        · go_simp; (try simp only [g1, g2, g3, g4, g5]); first | done | with_reducible rfl
        simp only [List.set_cons_zero, List.set_cons_succ]
        refine held_take (i := 43) (d := 143) (v := ?_) rfl (by kernel_rfl) (by kernel_rfl) (by kernel_rfl) rfl (fun _ _ _ h => h) rfl hH (fun w' hS => ?_) ?_
        rotate_left
        · go_simp; first | done | with_reducible rfl
        simp only [List.set_cons_zero, List.set_cons_succ]
        refine held_take (i := 44) (d := 144) (v := ?_) rfl (by kernel_rfl) (by kernel_rfl) (by kernel_rfl) rfl (fun _ _ _ h => h) rfl hH (fun w' hS => ?_) ?_
        rotate_left
        · go_simp; first | done | with_reducible rfl
        simp only [List.set_cons_zero, List.set_cons_succ]
        refine held_only (i := 45) rfl (by kernel_rfl) rfl (fun K hK => ?_)
        go_simp
        refine (EX.out _ (T0.out.stays (bnext DE.out hH))).mono ?_
        rintro e wg ⟨rfl, b⟩
        refine hK.out _ _ (bnext hH b) (fun hH => ?_)
        clear hK K b
        refine held_take (i := 46) (d := 146) (v := ?_) rfl (by kernel_rfl) (by kernel_rfl) (by kernel_rfl) rfl (fun _ _ _ h => h) rfl hH (fun w' hS => ?_) ?_
        rotate_left
        · go_simp; first | done | with_reducible rfl
        simp only [List.set_cons_zero, List.set_cons_succ]
        refine held_take (i := 47) (d := 6) (v := ?_) rfl (by kernel_rfl) (by kernel_rfl) (by kernel_rfl) rfl (fun _ _ _ h => h) rfl hH (fun w' hS => ?_) ?_
        rotate_left
        · go_simp; first | done | with_reducible rfl
        simp only [List.set_cons_zero, List.set_cons_succ]
        refine wpAnyH_done (by kernel_rfl) ?_ _
        go_wp2_with fail
        go_ret
        exact ⟨rfl, bnext DE.out hH⟩
end Go.Proofs.YtkgclmikhpjheaaGreatDoor.pa
