/-
  LexerValues: numbers.
-/
import Derived.Test.YtkfciilclfhabaaGreatDoorWva
namespace Go.Proofs.YtkfciilclfhabaaGreatDoor
open Go.RowKit dec

theorem smB_tok (s : ByteArray) : smB true 0 (tokL s) (tokL s) = true := by
  by_cases h : 16384 < s.size
  · unfold tokL
    rw [if_pos h]
    rfl
  · refine smB_refl true _ fun q hq => ?_
    have := tok_bounds (s := s) (by omega) hq
    unfold bdA
    omega
theorem from_one {w : World} {a : Option Addr} {n cap : Nat} {l : List Tk} (h : tk.Sl w a n cap l) (hn : 1 ≤ n) : ∃ ao co, (∀ W, (Instr.slice 24 (.slice a n cap) (some (.int .i64 1)) none none).run Tryz.prog W = .ok (.slice ao (n - 1) co) W) ∧ tk.Sl w ao (n - 1) co (l.drop 1) := by
  have uT : Tryz.prog.underlying 24 = some (.slice (Tryz.prog.elem 24)) := by simp [Program.elem, Tryz.underlying24]
  have eT : Tryz.prog.elem 24 = 39 := by simp [Program.elem, Tryz.underlying24]
  exact ⟨_, _, fun W => slice_from 24 _ uT eT 3 sz3 a n cap 1 hn W, sl_from h hn⟩
/-- The first token of a list lies at the address. -/
def Tk0 (w : World) (b off : Nat) (x : Tk) : Prop := w.cell? ⟨b, off, none⟩ = some (.int .i64 x.k) ∧ w.cell? ⟨b, off + 1, none⟩ = some (.string x.t) ∧ w.cell? ⟨b, off + 2, none⟩ = some (.int .i64 x.a)
theorem cells_zero {w : World} {b off : Nat} {x : Tk} {l : List Tk} (h : tk.Cl w b off (x :: l)) : Tk0 w b off x := by
  obtain ⟨e0, e1, e2⟩ := h 0 (by simp)
  rw [Nat.zero_mul, Nat.add_zero] at e0 e1 e2
  exact ⟨e0, e1, e2⟩
theorem tk0_keeps {w w1 : World} {b off : Nat} {x : Tk} (h : Tk0 w b off x) (hb : Below w.heap.size w w1) : Tk0 w1 b off x := ⟨dec.keeps hb h.1, dec.keeps hb h.2.1, dec.keeps hb h.2.2⟩
set_option maxRecDepth 100000 in
set_option maxHeartbeats 16000000 in
theorem walk_values_2p (n : Int) (t : ByteArray) (hN : 0 ≤ n ∧ n ≤ 1152921504606846976) (hok : ok ⟨2, n, .empty⟩ = true) (z1 : t.size ≤ 40) (z2 : fm ⟨2, n, .empty⟩ = t.data.toList) (y1 : tokE t = 0) (y2 : tokL t = [⟨2, t, 0⟩, endT t]) (y3 : tokB t = []) (z4 : psP t.data.toList = (⟨2, n, .empty⟩, 0))  (w : World) (T : Tabs w) :
    Calls Tryz.prog 6 #[.agg #[.int .i64 2, .int .i64 n, .string .empty]] w fun e w' => e = .returned (.bool true) ∧ Below w.heap.size w w' := by
  have T0 := Lib.hid T
  have B0 := Lib.hid (balloc (b0 w) (.cells #[.int .i64 2, .int .i64 n, .string .empty] 42))
  have V0 := Lib.hid (Vx.new w 2 n .empty 42)
  have EX := Lib.hid (example_any _ (T.stays B0.out))
  have VC := Lib.hid (fun W => valid_any 2 n .empty (by decide) W)
  rw [hok] at VC
  have FC := Lib.hid (fun W T => formatV_any 2 n .empty (by decide) W T)
  rw [z2, show (⟨t.data.toList.toArray⟩ : ByteArray) = t from (ba_of rfl).symm] at FC
  have SM := Lib.hid (fun a n cp c m cp2 W hA hB => same_any a n cp c m cp2 (tokL t) (tokL t) true 0 W hA hB)
  rw [smB_tok, y2] at SM
  obtain ⟨m', hm'⟩ : ∃ m', m' = -n := ⟨_, rfl⟩
  have fneg : wrap64 (-n) = m' := by rw [hm']; unfold wrap64; omega
  have mx : max n m' = n := by omega
  have qg : decide (0 ≤ n) = true := decide_eq_true hN.1
  have TC := Lib.hid (fun a cp W hS T => tokens_any a t.size cp t W hS T)
  unfold TR at TC
  rw [y1, y2, y3] at TC
  have PC := Lib.hid (fun W T => parseV_any t (by omega) W T)
  rw [z4] at PC
  have Z0 := Lib.hid z1
  clear T z1 z2 y1 y2 y3 z4 hok hN hm'
  go_enter Tryz.func6, Tryz.ntmps6
  go_wp2_with fail
  refine EX.out.mono ?_
  rintro e w1 ⟨rfl, b1⟩
  have B1 := Lib.hid (bnext B0.out b1)
  have V1 := Lib.hid (V0.out.keeps b1)
  obtain ⟨c0, c1, c2⟩ := V1.out
  clear b1
  go_wp2_with fail
  refine (VC.out _).mono ?_
  rintro e w2 ⟨rfl, b2⟩
  have B2 := Lib.hid (bnext B1.out b2)
  have V2 := Lib.hid (V1.out.keeps b2)
  clear c0 c1 c2
  obtain ⟨c0, c1, c2⟩ := V2.out
  clear b2
  obtain ⟨d0, d1, d2⟩ := V2.out.past (.cells #[.int .i64 2, .int .i64 n, .string .empty] 42)
  have B3 := Lib.hid (balloc B2.out (.cells #[.int .i64 2, .int .i64 n, .string .empty] 42))
  have V3 := Lib.hid (V2.out.past (.cells #[.int .i64 2, .int .i64 n, .string .empty] 42))
  have X3 := Lib.hid (Vx.new w2 2 n .empty 42)
  go_wp2_with fail
  refine (FC.out _ (T0.out.stays B3.out)).mono ?_
  rintro e w4 ⟨rfl, b4⟩
  have B4 := Lib.hid (bnext B3.out b4)
  have V4 := Lib.hid (V3.out.keeps b4)
  have X4 := Lib.hid (X3.out.keeps b4)
  clear b4 c0 c1 c2 d0 d1 d2
  obtain ⟨w5, cv, hcv, hB, b5⟩ := bytes_of w4 t (by have := Z0.out; omega)
  have B5 := Lib.hid (bnext B4.out b5)
  have V5 := Lib.hid (V4.out.keeps b5)
  have X5 := Lib.hid (X4.out.keeps b5)
  have BS := Lib.hid hB
  clear b5 hB
  go_wp2_with fail
  refine (TC.out _ _ _ BS.out (T0.out.stays B5.out)).mono ?_
  rintro e w6 ⟨v, u', rfl, o6, p6, b6⟩
  obtain ⟨al, cl, rfl, sl⟩ := o6.sl
  obtain ⟨ab, cb, rfl, sb⟩ := p6.sl
  have B6 := Lib.hid (bnext B5.out b6)
  have V6 := Lib.hid (V5.out.keeps b6)
  have X6 := Lib.hid (X5.out.keeps b6)
  have SL6 := Lib.hid sl
  obtain ⟨bk, off, rfl, hD⟩ := sl.hat.resolve_left (by simp)
  have E6 := Lib.hid (cells_zero hD)
  obtain ⟨e0, e1, e2⟩ := E6.out
  obtain ⟨c0, c1, c2⟩ := V6.out
  obtain ⟨f0, f1, f2⟩ := X6.out
  have scap := sl.hcap
  clear o6 p6 sb sl hD b6
  go_wp2_with fail
  refine (PC.out _ (T0.out.stays B6.out)).mono ?_
  rintro e w8 ⟨v8, c8, rfl, hv8, b8⟩
  obtain ⟨rfl, rfl⟩ := Prod.mk.inj hv8
  have B8 := Lib.hid (bnext B6.out b8)
  have V8 := Lib.hid (V6.out.keeps b8)
  have X8 := Lib.hid (X6.out.keeps b8)
  have SL8 := Lib.hid (SL6.out.keeps b8)
  have E8 := Lib.hid (tk0_keeps E6.out b8)
  clear b8 hv8 c0 c1 c2 e0 e1 e2 f0 f1 f2
  have b9 := balloc (b0 w8) (.cells #[.int .i64 2, .int .i64 n, .string .empty] 42)
  have B9 := Lib.hid (bnext B8.out b9)
  have V9 := Lib.hid (V8.out.keeps b9)
  have X9 := Lib.hid (X8.out.keeps b9)
  have U9 := Lib.hid (Vx.new w8 2 n .empty 42)
  have SL9 := Lib.hid (SL8.out.keeps b9)
  have E9 := Lib.hid (tk0_keeps E8.out b9)
  clear b9
  obtain ⟨c0, c1, c2⟩ := V9.out
  go_wp2_with fail
  refine (FC.out _ (T0.out.stays B9.out)).mono ?_
  rintro e w10 ⟨rfl, b10⟩
  have B10 := Lib.hid (bnext B9.out b10)
  have V10 := Lib.hid (V9.out.keeps b10)
  have X10 := Lib.hid (X9.out.keeps b10)
  have U10 := Lib.hid (U9.out.keeps b10)
  have SL10 := Lib.hid (SL9.out.keeps b10)
  have E10 := Lib.hid (tk0_keeps E9.out b10)
  clear b10 c0 c1 c2
  obtain ⟨w11, cv2, hcv2, hB, b11⟩ := bytes_of w10 t (by have := Z0.out; omega)
  have B11 := Lib.hid (bnext B10.out b11)
  have V11 := Lib.hid (V10.out.keeps b11)
  have X11 := Lib.hid (X10.out.keeps b11)
  have U11 := Lib.hid (U10.out.keeps b11)
  have SL11 := Lib.hid (SL10.out.keeps b11)
  have E11 := Lib.hid (tk0_keeps E10.out b11)
  have BT := Lib.hid hB
  clear b11 hB hcv
  go_wp2_with fail
  refine (TC.out _ _ _ BT.out (T0.out.stays B11.out)).mono ?_
  rintro e w12 ⟨v, u', rfl, o12, p12, b12⟩
  obtain ⟨am, cm, rfl, sm⟩ := o12.sl
  obtain ⟨ad, cd, rfl, sd⟩ := p12.sl
  have B12 := Lib.hid (bnext B11.out b12)
  have SL12 := Lib.hid (SL11.out.keeps b12)
  have SM12 := Lib.hid sm
  obtain ⟨c0, c1, c2⟩ := V11.out.keeps b12
  obtain ⟨f0, f1, f2⟩ := X11.out.keeps b12
  obtain ⟨h0, h1, h2⟩ := U11.out.keeps b12
  obtain ⟨e0, e1, e2⟩ := tk0_keeps E11.out b12
  clear o12 p12 b12 sd hcv2
  clear sm
  go_wp2_with fail
  refine (SM.out _ _ _ _ _ _ _ SL12.out SM12.out).mono ?_
  rintro e w13 ⟨rfl, b13⟩
  have B13 := Lib.hid (bnext B12.out b13)
  clear b13
  go_wp2_with fail
  go_ret
  exact ⟨rfl, B13.out⟩
set_option maxRecDepth 100000 in
set_option maxHeartbeats 16000000 in
theorem walk_values_2n (n N : Int) (t u : ByteArray) (hn : n < 0) (hnN : n = -N) (hN : 0 ≤ N ∧ N ≤ 1152921504606846976) (hok : ok ⟨2, n, .empty⟩ = true) (z1 : t.size ≤ 40) (z2 : fm ⟨2, N, .empty⟩ = t.data.toList) (y1 : tokE t = 0) (y2 : tokL t = [⟨2, t, 0⟩, endT t]) (y3 : tokB t = []) (z4 : psP t.data.toList = (⟨2, N, .empty⟩, 0)) 
    (x1 : u.size ≤ 41) (x2 : fm ⟨2, n, .empty⟩ = u.data.toList) (x3 : tokE u = 0) (x4 : tokL u = [⟨5, mns, 0⟩, ⟨2, t, 1⟩, endT u]) (x5 : tokB u = []) (x6 : smB true 1 [⟨2, t, 0⟩, endT t] [⟨2, t, 1⟩, endT u] = true) (w : World) (T : Tabs w) :
    Calls Tryz.prog 6 #[.agg #[.int .i64 2, .int .i64 n, .string .empty]] w fun e w' => e = .returned (.bool true) ∧ Below w.heap.size w w' := by
  have T0 := Lib.hid T
  have B0 := Lib.hid (balloc (b0 w) (.cells #[.int .i64 2, .int .i64 n, .string .empty] 42))
  have V0 := Lib.hid (Vx.new w 2 n .empty 42)
  have EX := Lib.hid (example_any _ (T.stays B0.out))
  have VC := Lib.hid (fun W => valid_any 2 n .empty (by decide) W)
  rw [hok] at VC
  have FC := Lib.hid (fun W T => formatV_any 2 N .empty (by decide) W T)
  rw [z2, show (⟨t.data.toList.toArray⟩ : ByteArray) = t from (ba_of rfl).symm] at FC
  have FD := Lib.hid (fun W T => formatV_any 2 n .empty (by decide) W T)
  rw [x2, show (⟨u.data.toList.toArray⟩ : ByteArray) = u from (ba_of rfl).symm] at FD
  have TD := Lib.hid (fun a cp W hS T => tokens_any a u.size cp u W hS T)
  unfold TR at TD
  rw [x3, x4, x5] at TD
  have X0 := Lib.hid x1
  have SM := Lib.hid (fun a n cp c m cp2 W hA hB => same_any a n cp c m cp2 [⟨2, t, 0⟩, endT t] [⟨2, t, 1⟩, endT u] true 1 W hA hB)
  rw [x6] at SM
  have KC := Lib.hid (fun W => tok_any 5 ⟨#[45]⟩ 0 W)
  have fneg : wrap64 (-n) = N := by rw [hnN]; unfold wrap64; omega
  have mx : max n N = N := by omega
  have qg : decide (0 ≤ n) = false := decide_eq_false (by omega)
  have TC := Lib.hid (fun a cp W hS T => tokens_any a t.size cp t W hS T)
  unfold TR at TC
  rw [y1, y2, y3] at TC
  have PC := Lib.hid (fun W T => parseV_any t (by omega) W T)
  rw [z4] at PC
  have Z0 := Lib.hid z1
  clear T z1 z2 y1 y2 y3 z4 hok hN x1 x2 x3 x4 x5 x6 hn hnN
  go_enter Tryz.func6, Tryz.ntmps6
  go_wp2_with fail
  refine EX.out.mono ?_
  rintro e w1 ⟨rfl, b1⟩
  have B1 := Lib.hid (bnext B0.out b1)
  have V1 := Lib.hid (V0.out.keeps b1)
  obtain ⟨c0, c1, c2⟩ := V1.out
  clear b1
  go_wp2_with fail
  refine (VC.out _).mono ?_
  rintro e w2 ⟨rfl, b2⟩
  have B2 := Lib.hid (bnext B1.out b2)
  have V2 := Lib.hid (V1.out.keeps b2)
  clear c0 c1 c2
  obtain ⟨c0, c1, c2⟩ := V2.out
  clear b2
  obtain ⟨d0, d1, d2⟩ := V2.out.past (.cells #[.int .i64 2, .int .i64 n, .string .empty] 42)
  have B3 := Lib.hid (balloc B2.out (.cells #[.int .i64 2, .int .i64 N, .string .empty] 42))
  have V3 := Lib.hid (V2.out.past (.cells #[.int .i64 2, .int .i64 N, .string .empty] 42))
  have X3 := Lib.hid (Vx.new w2 2 N .empty 42)
  go_wp2_with fail
  refine (FC.out _ (T0.out.stays B3.out)).mono ?_
  rintro e w4 ⟨rfl, b4⟩
  have B4 := Lib.hid (bnext B3.out b4)
  have V4 := Lib.hid (V3.out.keeps b4)
  have X4 := Lib.hid (X3.out.keeps b4)
  clear b4 c0 c1 c2 d0 d1 d2
  obtain ⟨w5, cv, hcv, hB, b5⟩ := bytes_of w4 t (by have := Z0.out; omega)
  have B5 := Lib.hid (bnext B4.out b5)
  have V5 := Lib.hid (V4.out.keeps b5)
  have X5 := Lib.hid (X4.out.keeps b5)
  have BS := Lib.hid hB
  clear b5 hB
  go_wp2_with fail
  refine (TC.out _ _ _ BS.out (T0.out.stays B5.out)).mono ?_
  rintro e w6 ⟨v, u', rfl, o6, p6, b6⟩
  obtain ⟨al, cl, rfl, sl⟩ := o6.sl
  obtain ⟨ab, cb, rfl, sb⟩ := p6.sl
  have B6 := Lib.hid (bnext B5.out b6)
  have V6 := Lib.hid (V5.out.keeps b6)
  have X6 := Lib.hid (X5.out.keeps b6)
  have SL6 := Lib.hid sl
  obtain ⟨bk, off, rfl, hD⟩ := sl.hat.resolve_left (by simp)
  have E6 := Lib.hid (cells_zero hD)
  obtain ⟨e0, e1, e2⟩ := E6.out
  obtain ⟨c0, c1, c2⟩ := V6.out
  obtain ⟨f0, f1, f2⟩ := X6.out
  have scap := sl.hcap
  clear o6 p6 sb sl hD b6
  go_wp2_with fail
  refine (PC.out _ (T0.out.stays B6.out)).mono ?_
  rintro e w8 ⟨v8, c8, rfl, hv8, b8⟩
  obtain ⟨rfl, rfl⟩ := Prod.mk.inj hv8
  have B8 := Lib.hid (bnext B6.out b8)
  have V8 := Lib.hid (V6.out.keeps b8)
  have X8 := Lib.hid (X6.out.keeps b8)
  have SL8 := Lib.hid (SL6.out.keeps b8)
  have E8 := Lib.hid (tk0_keeps E6.out b8)
  clear b8 hv8 c0 c1 c2 e0 e1 e2 f0 f1 f2
  have b9 := balloc (b0 w8) (.cells #[.int .i64 2, .int .i64 N, .string .empty] 42)
  have B9 := Lib.hid (bnext B8.out b9)
  have V9 := Lib.hid (V8.out.keeps b9)
  have X9 := Lib.hid (X8.out.keeps b9)
  have U9 := Lib.hid (Vx.new w8 2 N .empty 42)
  have SL9 := Lib.hid (SL8.out.keeps b9)
  have E9 := Lib.hid (tk0_keeps E8.out b9)
  clear b9
  obtain ⟨c0, c1, c2⟩ := V9.out
  go_wp2_with fail
  refine (FD.out _ (T0.out.stays B9.out)).mono ?_
  rintro e w10 ⟨rfl, b10⟩
  have B10 := Lib.hid (bnext B9.out b10)
  have V10 := Lib.hid (V9.out.keeps b10)
  have X10 := Lib.hid (X9.out.keeps b10)
  have U10 := Lib.hid (U9.out.keeps b10)
  have SL10 := Lib.hid (SL9.out.keeps b10)
  have E10 := Lib.hid (tk0_keeps E9.out b10)
  clear b10 c0 c1 c2
  obtain ⟨w11, cv2, hcv2, hB, b11⟩ := bytes_of w10 u (by have := X0.out; omega)
  have B11 := Lib.hid (bnext B10.out b11)
  have V11 := Lib.hid (V10.out.keeps b11)
  have X11 := Lib.hid (X10.out.keeps b11)
  have U11 := Lib.hid (U10.out.keeps b11)
  have SL11 := Lib.hid (SL10.out.keeps b11)
  have E11 := Lib.hid (tk0_keeps E10.out b11)
  have BT := Lib.hid hB
  clear b11 hB hcv
  go_wp2_with fail
  refine (TD.out _ _ _ BT.out (T0.out.stays B11.out)).mono ?_
  rintro e w12 ⟨v, u', rfl, o12, p12, b12⟩
  obtain ⟨am, cm, rfl, sm⟩ := o12.sl
  obtain ⟨ad, cd, rfl, sd⟩ := p12.sl
  have B12 := Lib.hid (bnext B11.out b12)
  have SL12 := Lib.hid (SL11.out.keeps b12)
  have SM12 := Lib.hid sm
  obtain ⟨c0, c1, c2⟩ := V11.out.keeps b12
  obtain ⟨f0, f1, f2⟩ := X11.out.keeps b12
  obtain ⟨h0, h1, h2⟩ := U11.out.keeps b12
  obtain ⟨e0, e1, e2⟩ := tk0_keeps E11.out b12
  clear o12 p12 b12 sd hcv2
  obtain ⟨bm, om, rfl, hM⟩ := sm.hat.resolve_left (by simp)
  obtain ⟨i0, i1, i2⟩ := cells_zero hM
  replace i1 : w12.cell? ⟨bm, om + 1, none⟩ = some (.string ⟨#[45]⟩) := i1
  have smc := sm.hcap
  have KG := Lib.hid (all_grown KC.out w12)
  obtain ⟨ao, co, s2, hS1⟩ := from_one sm (by simp)
  have S1 := Lib.hid hS1
  replace s2 : ∀ W, (Instr.slice 24 (.slice (some ⟨bm, om, none⟩) 3 cm) (some (.int .i64 1)) none none).run Tryz.prog W = .ok (.slice ao 2 co) W := s2
  clear hM sm hS1
  have CA := Lib.hid (fun d os => Calls.regrown_of (d := d) (os := os) (SM.out (some ⟨bk, off, none⟩) 2 cl ao 2 co _ (SL12.out.keeps (below_regrown w12 d os)) (S1.out.keeps (below_regrown w12 d os))))
  have g0 := cell_regrown i0
  have g1 := cell_regrown i1
  have g2 := cell_regrown i2
  go_wp2_with fail
  refine wp_region_quiet_below (by kernel_rfl) (by kernel_rfl) ?_
  repeat (first | go_big_quiet_skip | (go_big_quiet_want; go_big_quiet_op; first | go_big_quiet_on | go_big_quiet_call (first | (go_at_call 20; with_reducible exact KG.out _ _) | (go_at_call 10; with_reducible exact CA.out _ _))))
  refine wpQuiet_nil ?_
  intro w13 hw13
  have B13 := Lib.hid (bnext B12.out (below_of hw13))
  clear hw13
  go_wp2_with fail
  go_ret
  exact ⟨rfl, B13.out⟩
set_option maxRecDepth 100000 in
set_option maxHeartbeats 16000000 in
theorem walk_values_3p (n : Int) (t : ByteArray) (hN : 0 ≤ n ∧ n ≤ 1152921504606846976) (hok : ok ⟨3, n, .empty⟩ = true) (z1 : t.size ≤ 40) (z2 : fm ⟨3, n, .empty⟩ = t.data.toList) (y1 : tokE t = 0) (y2 : tokL t = [⟨3, t, 0⟩, endT t]) (y3 : tokB t = []) (z4 : psP t.data.toList = (⟨3, n, .empty⟩, 0)) (z5 : paX t.data.toList = n ∧ paE t.data.toList = 0) (w : World) (T : Tabs w) :
    Calls Tryz.prog 6 #[.agg #[.int .i64 3, .int .i64 n, .string .empty]] w fun e w' => e = .returned (.bool true) ∧ Below w.heap.size w w' := by
  have T0 := Lib.hid T
  have B0 := Lib.hid (balloc (b0 w) (.cells #[.int .i64 3, .int .i64 n, .string .empty] 42))
  have V0 := Lib.hid (Vx.new w 3 n .empty 42)
  have EX := Lib.hid (example_any _ (T.stays B0.out))
  have VC := Lib.hid (fun W => valid_any 3 n .empty (by decide) W)
  rw [hok] at VC
  have FC := Lib.hid (fun W T => formatV_any 3 n .empty (by decide) W T)
  rw [z2, show (⟨t.data.toList.toArray⟩ : ByteArray) = t from (ba_of rfl).symm] at FC
  have SM := Lib.hid (fun a n cp c m cp2 W hA hB => same_any a n cp c m cp2 (tokL t) (tokL t) true 0 W hA hB)
  rw [smB_tok, y2] at SM
  obtain ⟨m', hm'⟩ : ∃ m', m' = -n := ⟨_, rfl⟩
  have fneg : wrap64 (-n) = m' := by rw [hm']; unfold wrap64; omega
  have mx : max n m' = n := by omega
  have qg : decide (0 ≤ n) = true := decide_eq_true hN.1
  have TC := Lib.hid (fun a cp W hS T => tokens_any a t.size cp t W hS T)
  unfold TR at TC
  rw [y1, y2, y3] at TC
  have PC := Lib.hid (fun W T => parseV_any t (by omega) W T)
  rw [z4] at PC
  have Z0 := Lib.hid z1
  have DP := Lib.hid (fun W (T : Tabs W) => parse_any t W (by omega) T.pow)
  rw [z5.1, z5.2] at DP
  clear T z1 z2 y1 y2 y3 z4 z5 hok hN hm'
  go_enter Tryz.func6, Tryz.ntmps6
  go_wp2_with fail
  refine EX.out.mono ?_
  rintro e w1 ⟨rfl, b1⟩
  have B1 := Lib.hid (bnext B0.out b1)
  have V1 := Lib.hid (V0.out.keeps b1)
  obtain ⟨c0, c1, c2⟩ := V1.out
  clear b1
  go_wp2_with fail
  refine (VC.out _).mono ?_
  rintro e w2 ⟨rfl, b2⟩
  have B2 := Lib.hid (bnext B1.out b2)
  have V2 := Lib.hid (V1.out.keeps b2)
  clear c0 c1 c2
  obtain ⟨c0, c1, c2⟩ := V2.out
  clear b2
  obtain ⟨d0, d1, d2⟩ := V2.out.past (.cells #[.int .i64 3, .int .i64 n, .string .empty] 42)
  have B3 := Lib.hid (balloc B2.out (.cells #[.int .i64 3, .int .i64 n, .string .empty] 42))
  have V3 := Lib.hid (V2.out.past (.cells #[.int .i64 3, .int .i64 n, .string .empty] 42))
  have X3 := Lib.hid (Vx.new w2 3 n .empty 42)
  go_wp2_with fail
  refine (FC.out _ (T0.out.stays B3.out)).mono ?_
  rintro e w4 ⟨rfl, b4⟩
  have B4 := Lib.hid (bnext B3.out b4)
  have V4 := Lib.hid (V3.out.keeps b4)
  have X4 := Lib.hid (X3.out.keeps b4)
  clear b4 c0 c1 c2 d0 d1 d2
  obtain ⟨w5, cv, hcv, hB, b5⟩ := bytes_of w4 t (by have := Z0.out; omega)
  have B5 := Lib.hid (bnext B4.out b5)
  have V5 := Lib.hid (V4.out.keeps b5)
  have X5 := Lib.hid (X4.out.keeps b5)
  have BS := Lib.hid hB
  clear b5 hB
  go_wp2_with fail
  refine (TC.out _ _ _ BS.out (T0.out.stays B5.out)).mono ?_
  rintro e w6 ⟨v, u', rfl, o6, p6, b6⟩
  obtain ⟨al, cl, rfl, sl⟩ := o6.sl
  obtain ⟨ab, cb, rfl, sb⟩ := p6.sl
  have B6 := Lib.hid (bnext B5.out b6)
  have V6 := Lib.hid (V5.out.keeps b6)
  have X6 := Lib.hid (X5.out.keeps b6)
  have SL6 := Lib.hid sl
  obtain ⟨bk, off, rfl, hD⟩ := sl.hat.resolve_left (by simp)
  have E6 := Lib.hid (cells_zero hD)
  obtain ⟨e0, e1, e2⟩ := E6.out
  obtain ⟨c0, c1, c2⟩ := V6.out
  obtain ⟨f0, f1, f2⟩ := X6.out
  have scap := sl.hcap
  clear o6 p6 sb sl hD b6
  go_wp2_with fail
  refine (DP.out _ (T0.out.stays B6.out)).mono ?_
  rintro e w7 ⟨rfl, b7⟩
  have B7 := Lib.hid (bnext B6.out b7)
  have V7 := Lib.hid (V6.out.keeps b7)
  have X7 := Lib.hid (X6.out.keeps b7)
  have SL7 := Lib.hid (SL6.out.keeps b7)
  have E7 := Lib.hid (tk0_keeps E6.out b7)
  clear b7 c0 c1 c2 e0 e1 e2 f0 f1 f2
  obtain ⟨e0, e1, e2⟩ := E7.out
  obtain ⟨c0, c1, c2⟩ := V7.out
  obtain ⟨f0, f1, f2⟩ := X7.out
  go_wp2_with fail
  refine (PC.out _ (T0.out.stays B7.out)).mono ?_
  rintro e w8 ⟨v8, c8, rfl, hv8, b8⟩
  obtain ⟨rfl, rfl⟩ := Prod.mk.inj hv8
  have B8 := Lib.hid (bnext B7.out b8)
  have V8 := Lib.hid (V7.out.keeps b8)
  have X8 := Lib.hid (X7.out.keeps b8)
  have SL8 := Lib.hid (SL7.out.keeps b8)
  have E8 := Lib.hid (tk0_keeps E7.out b8)
  clear b8 hv8 c0 c1 c2 e0 e1 e2 f0 f1 f2
  have b9 := balloc (b0 w8) (.cells #[.int .i64 3, .int .i64 n, .string .empty] 42)
  have B9 := Lib.hid (bnext B8.out b9)
  have V9 := Lib.hid (V8.out.keeps b9)
  have X9 := Lib.hid (X8.out.keeps b9)
  have U9 := Lib.hid (Vx.new w8 3 n .empty 42)
  have SL9 := Lib.hid (SL8.out.keeps b9)
  have E9 := Lib.hid (tk0_keeps E8.out b9)
  clear b9
  obtain ⟨c0, c1, c2⟩ := V9.out
  go_wp2_with fail
  refine (FC.out _ (T0.out.stays B9.out)).mono ?_
  rintro e w10 ⟨rfl, b10⟩
  have B10 := Lib.hid (bnext B9.out b10)
  have V10 := Lib.hid (V9.out.keeps b10)
  have X10 := Lib.hid (X9.out.keeps b10)
  have U10 := Lib.hid (U9.out.keeps b10)
  have SL10 := Lib.hid (SL9.out.keeps b10)
  have E10 := Lib.hid (tk0_keeps E9.out b10)
  clear b10 c0 c1 c2
  obtain ⟨w11, cv2, hcv2, hB, b11⟩ := bytes_of w10 t (by have := Z0.out; omega)
  have B11 := Lib.hid (bnext B10.out b11)
  have V11 := Lib.hid (V10.out.keeps b11)
  have X11 := Lib.hid (X10.out.keeps b11)
  have U11 := Lib.hid (U10.out.keeps b11)
  have SL11 := Lib.hid (SL10.out.keeps b11)
  have E11 := Lib.hid (tk0_keeps E10.out b11)
  have BT := Lib.hid hB
  clear b11 hB hcv
  go_wp2_with fail
  refine (TC.out _ _ _ BT.out (T0.out.stays B11.out)).mono ?_
  rintro e w12 ⟨v, u', rfl, o12, p12, b12⟩
  obtain ⟨am, cm, rfl, sm⟩ := o12.sl
  obtain ⟨ad, cd, rfl, sd⟩ := p12.sl
  have B12 := Lib.hid (bnext B11.out b12)
  have SL12 := Lib.hid (SL11.out.keeps b12)
  have SM12 := Lib.hid sm
  obtain ⟨c0, c1, c2⟩ := V11.out.keeps b12
  obtain ⟨f0, f1, f2⟩ := X11.out.keeps b12
  obtain ⟨h0, h1, h2⟩ := U11.out.keeps b12
  obtain ⟨e0, e1, e2⟩ := tk0_keeps E11.out b12
  clear o12 p12 b12 sd hcv2
  clear sm
  go_wp2_with fail
  refine (SM.out _ _ _ _ _ _ _ SL12.out SM12.out).mono ?_
  rintro e w13 ⟨rfl, b13⟩
  have B13 := Lib.hid (bnext B12.out b13)
  clear b13
  go_wp2_with fail
  go_ret
  exact ⟨rfl, B13.out⟩
set_option maxRecDepth 100000 in
set_option maxHeartbeats 16000000 in
theorem walk_values_3n (n N : Int) (t u : ByteArray) (hn : n < 0) (hnN : n = -N) (hN : 0 ≤ N ∧ N ≤ 1152921504606846976) (hok : ok ⟨3, n, .empty⟩ = true) (z1 : t.size ≤ 40) (z2 : fm ⟨3, N, .empty⟩ = t.data.toList) (y1 : tokE t = 0) (y2 : tokL t = [⟨3, t, 0⟩, endT t]) (y3 : tokB t = []) (z4 : psP t.data.toList = (⟨3, N, .empty⟩, 0)) (z5 : paX t.data.toList = N ∧ paE t.data.toList = 0)
    (x1 : u.size ≤ 41) (x2 : fm ⟨3, n, .empty⟩ = u.data.toList) (x3 : tokE u = 0) (x4 : tokL u = [⟨5, mns, 0⟩, ⟨3, t, 1⟩, endT u]) (x5 : tokB u = []) (x6 : smB true 1 [⟨3, t, 0⟩, endT t] [⟨3, t, 1⟩, endT u] = true) (w : World) (T : Tabs w) :
    Calls Tryz.prog 6 #[.agg #[.int .i64 3, .int .i64 n, .string .empty]] w fun e w' => e = .returned (.bool true) ∧ Below w.heap.size w w' := by
  have T0 := Lib.hid T
  have B0 := Lib.hid (balloc (b0 w) (.cells #[.int .i64 3, .int .i64 n, .string .empty] 42))
  have V0 := Lib.hid (Vx.new w 3 n .empty 42)
  have EX := Lib.hid (example_any _ (T.stays B0.out))
  have VC := Lib.hid (fun W => valid_any 3 n .empty (by decide) W)
  rw [hok] at VC
  have FC := Lib.hid (fun W T => formatV_any 3 N .empty (by decide) W T)
  rw [z2, show (⟨t.data.toList.toArray⟩ : ByteArray) = t from (ba_of rfl).symm] at FC
  have FD := Lib.hid (fun W T => formatV_any 3 n .empty (by decide) W T)
  rw [x2, show (⟨u.data.toList.toArray⟩ : ByteArray) = u from (ba_of rfl).symm] at FD
  have TD := Lib.hid (fun a cp W hS T => tokens_any a u.size cp u W hS T)
  unfold TR at TD
  rw [x3, x4, x5] at TD
  have X0 := Lib.hid x1
  have SM := Lib.hid (fun a n cp c m cp2 W hA hB => same_any a n cp c m cp2 [⟨3, t, 0⟩, endT t] [⟨3, t, 1⟩, endT u] true 1 W hA hB)
  rw [x6] at SM
  have KC := Lib.hid (fun W => tok_any 5 ⟨#[45]⟩ 0 W)
  have fneg : wrap64 (-n) = N := by rw [hnN]; unfold wrap64; omega
  have mx : max n N = N := by omega
  have qg : decide (0 ≤ n) = false := decide_eq_false (by omega)
  have TC := Lib.hid (fun a cp W hS T => tokens_any a t.size cp t W hS T)
  unfold TR at TC
  rw [y1, y2, y3] at TC
  have PC := Lib.hid (fun W T => parseV_any t (by omega) W T)
  rw [z4] at PC
  have Z0 := Lib.hid z1
  have DP := Lib.hid (fun W (T : Tabs W) => parse_any t W (by omega) T.pow)
  rw [z5.1, z5.2] at DP
  clear T z1 z2 y1 y2 y3 z4 z5 hok hN x1 x2 x3 x4 x5 x6 hn hnN
  go_enter Tryz.func6, Tryz.ntmps6
  go_wp2_with fail
  refine EX.out.mono ?_
  rintro e w1 ⟨rfl, b1⟩
  have B1 := Lib.hid (bnext B0.out b1)
  have V1 := Lib.hid (V0.out.keeps b1)
  obtain ⟨c0, c1, c2⟩ := V1.out
  clear b1
  go_wp2_with fail
  refine (VC.out _).mono ?_
  rintro e w2 ⟨rfl, b2⟩
  have B2 := Lib.hid (bnext B1.out b2)
  have V2 := Lib.hid (V1.out.keeps b2)
  clear c0 c1 c2
  obtain ⟨c0, c1, c2⟩ := V2.out
  clear b2
  obtain ⟨d0, d1, d2⟩ := V2.out.past (.cells #[.int .i64 3, .int .i64 n, .string .empty] 42)
  have B3 := Lib.hid (balloc B2.out (.cells #[.int .i64 3, .int .i64 N, .string .empty] 42))
  have V3 := Lib.hid (V2.out.past (.cells #[.int .i64 3, .int .i64 N, .string .empty] 42))
  have X3 := Lib.hid (Vx.new w2 3 N .empty 42)
  go_wp2_with fail
  refine (FC.out _ (T0.out.stays B3.out)).mono ?_
  rintro e w4 ⟨rfl, b4⟩
  have B4 := Lib.hid (bnext B3.out b4)
  have V4 := Lib.hid (V3.out.keeps b4)
  have X4 := Lib.hid (X3.out.keeps b4)
  clear b4 c0 c1 c2 d0 d1 d2
  obtain ⟨w5, cv, hcv, hB, b5⟩ := bytes_of w4 t (by have := Z0.out; omega)
  have B5 := Lib.hid (bnext B4.out b5)
  have V5 := Lib.hid (V4.out.keeps b5)
  have X5 := Lib.hid (X4.out.keeps b5)
  have BS := Lib.hid hB
  clear b5 hB
  go_wp2_with fail
  refine (TC.out _ _ _ BS.out (T0.out.stays B5.out)).mono ?_
  rintro e w6 ⟨v, u', rfl, o6, p6, b6⟩
  obtain ⟨al, cl, rfl, sl⟩ := o6.sl
  obtain ⟨ab, cb, rfl, sb⟩ := p6.sl
  have B6 := Lib.hid (bnext B5.out b6)
  have V6 := Lib.hid (V5.out.keeps b6)
  have X6 := Lib.hid (X5.out.keeps b6)
  have SL6 := Lib.hid sl
  obtain ⟨bk, off, rfl, hD⟩ := sl.hat.resolve_left (by simp)
  have E6 := Lib.hid (cells_zero hD)
  obtain ⟨e0, e1, e2⟩ := E6.out
  obtain ⟨c0, c1, c2⟩ := V6.out
  obtain ⟨f0, f1, f2⟩ := X6.out
  have scap := sl.hcap
  clear o6 p6 sb sl hD b6
  go_wp2_with fail
  refine (DP.out _ (T0.out.stays B6.out)).mono ?_
  rintro e w7 ⟨rfl, b7⟩
  have B7 := Lib.hid (bnext B6.out b7)
  have V7 := Lib.hid (V6.out.keeps b7)
  have X7 := Lib.hid (X6.out.keeps b7)
  have SL7 := Lib.hid (SL6.out.keeps b7)
  have E7 := Lib.hid (tk0_keeps E6.out b7)
  clear b7 c0 c1 c2 e0 e1 e2 f0 f1 f2
  obtain ⟨e0, e1, e2⟩ := E7.out
  obtain ⟨c0, c1, c2⟩ := V7.out
  obtain ⟨f0, f1, f2⟩ := X7.out
  go_wp2_with fail
  refine (PC.out _ (T0.out.stays B7.out)).mono ?_
  rintro e w8 ⟨v8, c8, rfl, hv8, b8⟩
  obtain ⟨rfl, rfl⟩ := Prod.mk.inj hv8
  have B8 := Lib.hid (bnext B7.out b8)
  have V8 := Lib.hid (V7.out.keeps b8)
  have X8 := Lib.hid (X7.out.keeps b8)
  have SL8 := Lib.hid (SL7.out.keeps b8)
  have E8 := Lib.hid (tk0_keeps E7.out b8)
  clear b8 hv8 c0 c1 c2 e0 e1 e2 f0 f1 f2
  have b9 := balloc (b0 w8) (.cells #[.int .i64 3, .int .i64 N, .string .empty] 42)
  have B9 := Lib.hid (bnext B8.out b9)
  have V9 := Lib.hid (V8.out.keeps b9)
  have X9 := Lib.hid (X8.out.keeps b9)
  have U9 := Lib.hid (Vx.new w8 3 N .empty 42)
  have SL9 := Lib.hid (SL8.out.keeps b9)
  have E9 := Lib.hid (tk0_keeps E8.out b9)
  clear b9
  obtain ⟨c0, c1, c2⟩ := V9.out
  go_wp2_with fail
  refine (FD.out _ (T0.out.stays B9.out)).mono ?_
  rintro e w10 ⟨rfl, b10⟩
  have B10 := Lib.hid (bnext B9.out b10)
  have V10 := Lib.hid (V9.out.keeps b10)
  have X10 := Lib.hid (X9.out.keeps b10)
  have U10 := Lib.hid (U9.out.keeps b10)
  have SL10 := Lib.hid (SL9.out.keeps b10)
  have E10 := Lib.hid (tk0_keeps E9.out b10)
  clear b10 c0 c1 c2
  obtain ⟨w11, cv2, hcv2, hB, b11⟩ := bytes_of w10 u (by have := X0.out; omega)
  have B11 := Lib.hid (bnext B10.out b11)
  have V11 := Lib.hid (V10.out.keeps b11)
  have X11 := Lib.hid (X10.out.keeps b11)
  have U11 := Lib.hid (U10.out.keeps b11)
  have SL11 := Lib.hid (SL10.out.keeps b11)
  have E11 := Lib.hid (tk0_keeps E10.out b11)
  have BT := Lib.hid hB
  clear b11 hB hcv
  go_wp2_with fail
  refine (TD.out _ _ _ BT.out (T0.out.stays B11.out)).mono ?_
  rintro e w12 ⟨v, u', rfl, o12, p12, b12⟩
  obtain ⟨am, cm, rfl, sm⟩ := o12.sl
  obtain ⟨ad, cd, rfl, sd⟩ := p12.sl
  have B12 := Lib.hid (bnext B11.out b12)
  have SL12 := Lib.hid (SL11.out.keeps b12)
  have SM12 := Lib.hid sm
  obtain ⟨c0, c1, c2⟩ := V11.out.keeps b12
  obtain ⟨f0, f1, f2⟩ := X11.out.keeps b12
  obtain ⟨h0, h1, h2⟩ := U11.out.keeps b12
  obtain ⟨e0, e1, e2⟩ := tk0_keeps E11.out b12
  clear o12 p12 b12 sd hcv2
  obtain ⟨bm, om, rfl, hM⟩ := sm.hat.resolve_left (by simp)
  obtain ⟨i0, i1, i2⟩ := cells_zero hM
  replace i1 : w12.cell? ⟨bm, om + 1, none⟩ = some (.string ⟨#[45]⟩) := i1
  have smc := sm.hcap
  have KG := Lib.hid (all_grown KC.out w12)
  obtain ⟨ao, co, s2, hS1⟩ := from_one sm (by simp)
  have S1 := Lib.hid hS1
  replace s2 : ∀ W, (Instr.slice 24 (.slice (some ⟨bm, om, none⟩) 3 cm) (some (.int .i64 1)) none none).run Tryz.prog W = .ok (.slice ao 2 co) W := s2
  clear hM sm hS1
  have CA := Lib.hid (fun d os => Calls.regrown_of (d := d) (os := os) (SM.out (some ⟨bk, off, none⟩) 2 cl ao 2 co _ (SL12.out.keeps (below_regrown w12 d os)) (S1.out.keeps (below_regrown w12 d os))))
  have g0 := cell_regrown i0
  have g1 := cell_regrown i1
  have g2 := cell_regrown i2
  go_wp2_with fail
  refine wp_region_quiet_below (by kernel_rfl) (by kernel_rfl) ?_
  repeat (first | go_big_quiet_skip | (go_big_quiet_want; go_big_quiet_op; first | go_big_quiet_on | go_big_quiet_call (first | (go_at_call 20; with_reducible exact KG.out _ _) | (go_at_call 10; with_reducible exact CA.out _ _))))
  refine wpQuiet_nil ?_
  intro w13 hw13
  have B13 := Lib.hid (bnext B12.out (below_of hw13))
  clear hw13
  go_wp2_with fail
  go_ret
  exact ⟨rfl, B13.out⟩
theorem walk_values (k n : Int) (s : ByteArray) (w : World) (T : Tabs w) :
    Calls Tryz.prog 6 #[.agg #[.int .i64 k, .int .i64 n, .string s]] w fun e w' => e = .returned (.bool true) ∧ Below w.heap.size w w' := by
  by_cases hbig : 100 < s.size
  · exact walk_values_out k n s w T (.inl hbig)
  have hs : s.size ≤ 100 := by omega
  cases hok : ok ⟨k, n, s⟩
  · exact walk_values_out k n s w T (.inr ⟨hs, .inl hok⟩)
  have out : k < 2 ∨ (2 ≤ k ∧ 4 < k) → _ := fun h => walk_values_out k n s w T (.inr ⟨hs, .inr ⟨hok, h⟩⟩)
  rcases ok_cases hok with h | h | h | ⟨m, h, h1, h2⟩ | ⟨m, h, h1, h2⟩ | ⟨t, h, h1, h2⟩ | ⟨t, h, h1, h2, h3⟩
  · have hk := congrArg Va.k h
    exact out (.inl (by simp only at hk; omega))
  · have hk := congrArg Va.k h
    exact out (.inl (by simp only at hk; omega))
  · have hk := congrArg Va.k h
    exact out (.inl (by simp only at hk; omega))
  · injection h with e1 e2 e3
    subst e1 e2 e3
    clear out
    obtain ⟨N, t, n1, n2, n3, z1, z2, ⟨y1, y2, y3⟩, z4, z5, hw⟩ := num_facts 2 (.inl rfl) n h1 h2
    rcases hw with ⟨g1, g2⟩ | ⟨g1, g2, u, x1, x2, x3, x4, x5, x6⟩
    · subst g2
      exact walk_values_2p n t ⟨n1, n2⟩ hok z1 z2 y1 y2 y3 z4 w T
    · exact walk_values_2n n N t u g1 g2 ⟨n1, n2⟩ hok z1 z2 y1 y2 y3 z4 x1 x2 x3 x4 x5 x6 w T
  · injection h with e1 e2 e3
    subst e1 e2 e3
    clear out
    obtain ⟨N, t, n1, n2, n3, z1, z2, ⟨y1, y2, y3⟩, z4, z5, hw⟩ := num_facts 3 (.inr rfl) n h1 h2
    rcases hw with ⟨g1, g2⟩ | ⟨g1, g2, u, x1, x2, x3, x4, x5, x6⟩
    · subst g2
      exact walk_values_3p n t ⟨n1, n2⟩ hok z1 z2 y1 y2 y3 z4 (z5 rfl) w T
    · exact walk_values_3n n N t u g1 g2 ⟨n1, n2⟩ hok z1 z2 y1 y2 y3 z4 (z5 rfl) x1 x2 x3 x4 x5 x6 w T
  · injection h with e1 e2 e3
    subst e1 e2 e3
    exact walk_values_text s h1 h2 w T
  · have hk := congrArg Va.k h
    exact out (.inr (by simp only at hk; omega))
end Go.Proofs.YtkfciilclfhabaaGreatDoor
