/-
  LexerLines: the walk.
-/
import Derived.Test.YtkfciilclfhabaaDoorLna
namespace Go.Proofs.YtkfciilclfhabaaDoor
open Go.RowKit dec

/-- The problems of the first source and the first ones of the second, further on. -/
def pj (X Y : List Pb) (d j : Nat) : List Pb := X ++ (Y.take j).map (shB d)
theorem pj_zero (X Y : List Pb) (d : Nat) : pj X Y d 0 = X := by unfold pj; simp
theorem pj_all (X Y : List Pb) (d : Nat) : pj X Y d Y.length = X ++ Y.map (shB d) := by unfold pj; rw [List.take_length]
theorem pj_next {X Y : List Pb} {d j : Nat} (h : j < Y.length) : pj X Y d (j + 1) = pj X Y d j ++ [((pb.gt Y j).1 + (d : Int), (pb.gt Y j).2)] := by
  unfold pj
  rw [pb.take_gt h, List.map_append, List.append_assoc]
  rfl
theorem pj_len {X Y : List Pb} {d j : Nat} : (pj X Y d j).length ≤ X.length + Y.length := by
  unfold pj
  rw [List.length_append, List.length_map, List.length_take]
  omega
set_option maxRecDepth 100000 in
set_option maxHeartbeats 16000000 in
theorem walk_lines (a0 : Option Addr) (n0 c0 : Nat) (x : ByteArray) (a1 : Option Addr) (n1 c1 : Nat) (y : ByteArray) (w : World) (hX : Bs w a0 n0 c0 x) (hY : Bs w a1 n1 c1 y) (T : Tabs w) :
    Calls Tryd.prog 6 #[.slice a0 n0 c0, .slice a1 n1 c1] w fun e w' => e = .returned (.bool true) ∧ Below w.heap.size w w' := by
  have hn0 := hX.hn
  subst hn0
  have hn1 := hY.hn
  subst hn1
  have EX := Lib.hid (example_any w T)
  have T0 := Lib.hid T
  have X0 := Lib.hid hX
  have Y0 := Lib.hid hY
  clear T hX hY
  by_cases hbig : 2000 < x.size
  · have q1 : decide (2000 < (x.size : Int)) = true := decide_eq_true (by omega)
    clear hbig
    go_enter Tryd.func6, Tryd.ntmps6
    go_wp2_with fail
    refine EX.out.mono ?_
    rintro e w1 ⟨rfl, b1⟩
    have B1 := Lib.hid b1
    clear b1
    go_wp2_with fail
    go_ret
    exact ⟨rfl, B1.out⟩
  have q1 : decide (2000 < (x.size : Int)) = false := decide_eq_false (by omega)
  have ZX := Lib.hid (show x.size ≤ 2000 by omega)
  clear hbig
  by_cases hbig : 2000 < y.size
  · have q2 : decide (2000 < (y.size : Int)) = true := decide_eq_true (by omega)
    clear hbig
    go_enter Tryd.func6, Tryd.ntmps6
    go_wp2_with fail
    refine EX.out.mono ?_
    rintro e w1 ⟨rfl, b1⟩
    have B1 := Lib.hid b1
    clear b1
    go_wp2_with fail
    go_ret
    exact ⟨rfl, B1.out⟩
  have q2 : decide (2000 < (y.size : Int)) = false := decide_eq_false (by omega)
  have ZY := Lib.hid (show y.size ≤ 2000 by omega)
  clear hbig
  obtain ⟨z, hz⟩ : ∃ z : ByteArray, z = ⟨(x.data.toList ++ 10 :: y.data.toList).toArray⟩ := ⟨_, rfl⟩
  have hzd : z.data.toList = ([] ++ x.data.toList ++ [10]) ++ y.data.toList := by rw [hz]; simp
  have hzs : z.size = x.size + 1 + y.size := by rw [← str_len, hzd]; simp only [List.length_append, List.length_cons, List.length_nil, str_len]; omega
  have TW := two_of x y z ZX.out ZY.out (by rw [hz])
  have TX := Lib.hid (fun W hS T => tokens_any a0 x.size c0 x W hS T)
  have TY := Lib.hid (fun W hS T => tokens_any a1 y.size c1 y W hS T)
  have TZ := Lib.hid (fun a n c W hS T => tokens_any a n c z W hS T)
  unfold TR at TX TY TZ
  rw [show tokE x = 0 by unfold tokE; rw [if_neg (by have := ZX.out; omega)]] at TX
  rw [show tokE y = 0 by unfold tokE; rw [if_neg (by have := ZY.out; omega)]] at TY
  rw [show tokE z = 0 by unfold tokE; rw [if_neg (by have := ZX.out; have := ZY.out; omega)]] at TZ
  obtain ⟨kx1, kx2, -⟩ := tokL_last x (by have := ZX.out; omega)
  obtain ⟨ky1, ky2, -⟩ := tokL_last y (by have := ZY.out; omega)
  have mx := tokB_few x
  have my := tokB_few y
  have QB := covB_tok y (by have := ZY.out; omega)
  obtain ⟨tw1, tw2, tw3, tw4⟩ := TW
  generalize tokL x = LX at *
  generalize tokL y = LY at *
  generalize tokL z = LZ at *
  generalize tokB x = PX at *
  generalize tokB y = PY at *
  generalize tokB z = PZ at *
  obtain ⟨kx, hkx⟩ : ∃ k, LX.length = k + 1 := ⟨LX.length - 1, by omega⟩
  rw [hkx, Nat.add_sub_cancel] at tw1 tw2 tw3
  obtain ⟨ky, hky⟩ : ∃ k, LY.length = k := ⟨_, rfl⟩
  rw [hky] at tw1 ky1 ky2
  rw [hkx] at kx1 kx2
  obtain ⟨px, hpx⟩ : ∃ k, PX.length = k := ⟨_, rfl⟩
  obtain ⟨py, hpy⟩ : ∃ k, PY.length = k := ⟨_, rfl⟩
  rw [hpx] at mx
  rw [hpy] at my
  have NM := Lib.hid (show kx ≤ 2000 ∧ ky ≤ 2001 ∧ px ≤ 32 ∧ py ≤ 32 by have := ZX.out; have := ZY.out; omega)
  have SA := Lib.hid (fun a n cp c m cp2 W hA hB => same_any a n cp c m cp2 (LX.take kx) (LZ.take kx) true 0 W hA hB)
  rw [tw2] at SA
  have SB := Lib.hid (fun a n cp c m cp2 W hA hB => same_any a n cp c m cp2 LY (LZ.drop kx) true ((x.size + 1 : Nat) : Int) W hA hB)
  rw [tw3] at SB
  have HP := Lib.hid (show PZ = (PX ++ PY.map (shB (x.size + 1))).take 32 from tw4)
  replace hkx := Lib.hid hkx
  replace hky := Lib.hid hky
  replace hpx := Lib.hid hpx
  replace hpy := Lib.hid hpy
  replace QB := Lib.hid QB
  replace tw1 := Lib.hid tw1
  replace hzd := Lib.hid hzd
  replace hzs := Lib.hid hzs
  clear tw2 tw3 tw4 kx1 kx2 ky1 ky2 mx my hz
  go_enter Tryd.func6, Tryd.ntmps6
  go_wp2_with fail
  refine EX.out.mono ?_
  rintro e w1 ⟨rfl, b1⟩
  have B1 := Lib.hid b1
  have X1 := Lib.hid (X0.out.keeps b1)
  have Y1 := Lib.hid (Y0.out.keeps b1)
  clear b1
  have XA := Lib.hid (X1.out.keeps (balloc (b0 w1) (.cells #[] 5)))
  have OA := Lib.hid (ob_new w1 w1.heap.size (Nat.le_refl _))
  have DA := Lib.hid (balloc (b0 w1) (.cells #[] 5))
  have ZB := Lib.hid (show ([] ++ x.data.toList ++ [(10 : UInt8)]).length + y.size < 140737488355328 by have := ZX.out; have := ZY.out; simp only [List.length_append, List.length_cons, List.length_nil, str_len]; omega)
  have ZC := Lib.hid (show ([] ++ x.data.toList).length < 140737488355328 by have := ZX.out; simp only [List.length_append, List.length_nil, str_len]; omega)
  have ZD := Lib.hid (show ([] : List UInt8).length + x.size < 140737488355328 by have := ZX.out; simp only [List.length_nil]; omega)
  go_wp2_with (at_builtin; first | (refine is_appB (.tmp 27) (.tmp 28) rfl ?_; refine wpList_catBs _ rfl (.tmp 27) (.tmp 28) rfl w1.heap.size _ [] rfl OA.out a0 x.size c0 x rfl XA.out ZD.out DA.out.size ?_; intro v2 w2 O2 b2; have D2 := Lib.hid (DA.out.trans b2); have P2 := Lib.hid (O2.keeps (balloc (b0 w2) (.cells #[.int .u8 10] 5))); clear O2 b2) | (refine is_appB (.tmp 29) (.tmp 30) rfl ?_; refine wpList_pushB _ rfl (.tmp 29) (.tmp 30) rfl w1.heap.size _ _ rfl P2.out w2.heap.size 10 rfl (by simp [go_sem]) ZC.out (balloc D2.out _).size ?_; intro v3 w3 O3 b3; have D3 := Lib.hid ((balloc D2.out (.cells #[.int .u8 10] 5)).trans b3); have P3 := Lib.hid O3; have Y3 := Lib.hid (Y1.out.keeps D3.out); clear O3 b3) | (refine is_appB (.tmp 31) (.tmp 32) rfl ?_; refine wpList_catBs _ rfl (.tmp 31) (.tmp 32) rfl w1.heap.size _ _ rfl P3.out a1 y.size c1 y rfl Y3.out ZB.out D3.out.size ?_; intro v4 w4 O4 b4; have D4 := Lib.hid (bnext B1.out (D3.out.trans b4)); have Z4 := Lib.hid (OB.bs (hzd.out ▸ O4)); have X4 := Lib.hid (X1.out.keeps (D3.out.trans b4)); have Y4 := Lib.hid (Y1.out.keeps (D3.out.trans b4)); clear O4 b4))
  obtain ⟨a4, c4, rfl, zz4⟩ := Z4.out
  replace Z4 := Lib.hid zz4
  clear zz4
  clear P2 P3 Y3 D2 D3 OA XA DA ZB ZC ZD X1 Y1
  refine (TX.out _ X4.out (T0.out.stays D4.out)).mono ?_
  rintro e w5 ⟨v, u, rfl, o5, p5, b5⟩
  obtain ⟨al, cl, rfl, sl⟩ := o5.sl
  obtain ⟨ap, cp, rfl, sp⟩ := p5.sl
  rw [hkx.out] at sl ⊢
  rw [hpx.out] at sp ⊢
  have D5 := Lib.hid (bnext D4.out b5)
  have L5 := Lib.hid sl
  have P5 := Lib.hid sp
  have Y5 := Lib.hid (Y4.out.keeps b5)
  have Z5 := Lib.hid (Z4.out.keeps b5)
  clear o5 p5 b5 sl sp Y4 Z4 X4 TX
  go_wp2_with fail
  refine (TY.out _ Y5.out (T0.out.stays D5.out)).mono ?_
  rintro e w6 ⟨v, u, rfl, o6, p6, b6⟩
  obtain ⟨am, cm, rfl, sm⟩ := o6.sl
  obtain ⟨aq, cq, rfl, sq⟩ := p6.sl
  rw [hky.out] at sm ⊢
  rw [hpy.out] at sq ⊢
  have D6 := Lib.hid (bnext D5.out b6)
  have L6 := Lib.hid (L5.out.keeps b6)
  have P6 := Lib.hid (P5.out.keeps b6)
  have Z6 := Lib.hid (Z5.out.keeps b6)
  have M6 := Lib.hid sm
  have Q6 := Lib.hid sq
  clear o6 p6 b6 sm sq Y5 Z5 L5 P5 TY
  go_wp2_with fail
  refine (TZ.out _ _ _ _ Z6.out (T0.out.stays D6.out)).mono ?_
  rintro e w7 ⟨v, u, rfl, o7, p7, b7⟩
  obtain ⟨an, cn, rfl, sn⟩ := o7.sl
  obtain ⟨ar, cr, rfl, sr⟩ := p7.sl
  rw [tw1.out] at sn ⊢
  obtain ⟨pz, hpz⟩ : ∃ k, PZ.length = k := ⟨_, rfl⟩
  rw [hpz] at sr ⊢
  have D7 := Lib.hid (bnext D6.out b7)
  have L7 := Lib.hid (L6.out.keeps b7)
  have P7 := Lib.hid (P6.out.keeps b7)
  have M7 := Lib.hid (M6.out.keeps b7)
  have Q7 := Lib.hid (Q6.out.keeps b7)
  have N7 := Lib.hid sn
  have R7 := Lib.hid sr
  clear o7 p7 b7 sn sr L6 P6 M6 Q6 Z6 TZ hpz
  have e1 : ((((kx + 1 : Nat) : Int)) == 0) = false := by rw [beq_eq_false_iff_ne]; omega
  have f1 : wrap64 (((kx + 1 : Nat) : Int) - 1) = (kx : Int) := by have := NM.out; unfold wrap64; omega
  have f2 : wrap64 ((kx : Int) + (ky : Int)) = ((kx + ky : Nat) : Int) := by have := NM.out; unfold wrap64; omega
  have e2 : (((kx + ky : Nat) : Int) != ((kx + ky : Nat) : Int)) = false := by simp
  generalize hk1 : kx + 1 = k1 at *
  generalize hk2 : kx + ky = k2 at *
  go_wp2_with fail
  have F1 := Lib.hid f1
  clear f1 f2 e1 e2
  go_loopw [7, 15] (fun vp vi wr => ∃ (j : Nat) (a : Option Addr) (n c : Nat), vp = .slice a n c ∧ vi = .int .i64 (j : Nat) ∧ Hid (j ≤ py) ∧ Hid (pb.Sl wr a n c (pj PX PY (x.size + 1) j)) ∧ Hid (Below w7.heap.size w7 wr)) (fun _ vi _ => py - (intOf vi).toNat)
  case atStart => exact ⟨0, ap, px, cp, rfl, rfl, Lib.hid (Nat.zero_le _), Lib.hid (by rw [pj_zero]; exact P7.out), Lib.hid (b0 w7)⟩
  case round =>
    obtain ⟨j, ay, ns, cy, rfl, rfl, hj, hS, hb⟩ := hrel
    by_cases hc : j < py
    · have q3 : decide ((j : Int) < (py : Int)) = true := decide_eq_true (by omega)
      have q4 : j < py := hc
      have hjl : j < PY.length := by have := hpy.out; omega
      obtain ⟨bk, off, rfl, hC⟩ := (Q7.out.keeps hb.out).hat.resolve_left (by omega)
      have C0 := Lib.hid (hC j hjl).1
      have C1 := Lib.hid (hC j hjl).2
      obtain ⟨aq, g1, -, g2, -, -⟩ := covB_at j QB.out hjl
      have f4 := Lib.hid (next_at (j := j) (by have := NM.out; omega))
      have hnx := pj_next (X := PX) (d := x.size + 1) hjl
      have hlen : (pj PX PY (x.size + 1) j).length ≤ 64 := by
        have := NM.out
        have h1 := hpx.out
        have h2 := hpy.out
        have h3 := pj_len (X := PX) (Y := PY) (d := x.size + 1) (j := j)
        omega
      have hln := hS.out.hn
      generalize pb.gt PY j = q at *
      obtain ⟨qa, qc⟩ := q
      simp only at g1 hnx
      obtain ⟨y1, f5⟩ : ∃ y1, wrap64 (qa + (x.size : Int)) = y1 := ⟨_, rfl⟩
      obtain ⟨y2, f6⟩ : ∃ y2, wrap64 (y1 + 1) = y2 := ⟨_, rfl⟩
      have hy2 : qa + ((x.size + 1 : Nat) : Int) = y2 := by
        have h1 := ZX.out
        have h2 := ZY.out
        rw [← f6, ← f5]
        unfold wrap64
        omega
      rw [hy2] at hnx
      obtain ⟨pn, hpn⟩ : ∃ pn, pj PX PY (x.size + 1) (j + 1) = pn := ⟨_, rfl⟩
      rw [hpn] at hnx
      obtain ⟨nz, hnz⟩ : ∃ nz, pn.length = nz := ⟨_, rfl⟩
      have hl8 := Lib.hid (show ([] : List Pb).length + ns < 8796093022208 by rw [List.length_nil]; omega)
      have hl9 := Lib.hid (show (([] : List Pb) ++ (pj PX PY (x.size + 1) j)).length < 8796093022208 by rw [List.nil_append]; omega)
      generalize pj PX PY (x.size + 1) j = ps at *
      replace hnx := Lib.hid hnx
      replace hpn := Lib.hid hpn
      replace hnz := Lib.hid hnz
      have GD := Lib.hid (show Below wr.heap.size wr wr.drew from (b0 wr).drew)
      clear hC hjl hlen hln hy2 g1 g2
      go_wp2_with fail
      refine wp_region_noPanic ?_
      refine wp_region_held_drew (S := fun w' => Below wr.heap.size wr w') (by kernel_rfl) GD.out (fun hH => ?_)
      generalize wr.drew = W0 at *

      refine held_take (i := 1) (d := 85) (v := ?_) rfl (by kernel_rfl) (by kernel_rfl) (by kernel_rfl) rfl (fun _ _ _ h => h) rfl hH (fun w' hS => ?_) ?_
      rotate_left
      · go_simp; first | done | with_reducible rfl
      simp only [List.set_cons_zero, List.set_cons_succ]
      refine held_take (i := 3) (d := 87) (v := ?_) rfl (by kernel_rfl) (by kernel_rfl) (by kernel_rfl) rfl (fun _ _ _ h => h) rfl hH (fun w' hS => ?_) ?_
      rotate_left
      · go_simp; first | done | with_reducible rfl
      simp only [List.set_cons_zero, List.set_cons_succ]
      refine held_take (i := 4) (d := 88) (v := ?_) rfl (by kernel_rfl) (by kernel_rfl) (by kernel_rfl) rfl (fun _ _ _ h => h) rfl hH (fun w' hS => ?_) ?_
      rotate_left
      · go_simp; first | done | with_reducible rfl
      simp only [List.set_cons_zero, List.set_cons_succ]
      refine held_take (i := 5) (d := 89) (v := ?_) rfl (by kernel_rfl) (by kernel_rfl) (by kernel_rfl) rfl (fun _ _ _ h => h) rfl hH (fun w' hS => ?_) ?_
      rotate_left
      · go_simp; first | done | with_reducible rfl
      simp only [List.set_cons_zero, List.set_cons_succ]
      refine held_take (i := 6) (d := 90) (v := ?_) rfl (by kernel_rfl) (by kernel_rfl) (by kernel_rfl) rfl (fun _ _ _ h => h) rfl hH (fun w' hS => ?_) ?_
      rotate_left
      · go_simp; first | done | with_reducible rfl
      simp only [List.set_cons_zero, List.set_cons_succ]
      refine held_take (i := 7) (d := 91) (v := ?_) rfl (by kernel_rfl) (by kernel_rfl) (by kernel_rfl) rfl (fun _ _ _ h => h) rfl hH (fun w' hS => ?_) ?_
      rotate_left
      · have e1 := dec.keeps hS C0.out; go_simp; first | done | with_reducible rfl
      simp only [List.set_cons_zero, List.set_cons_succ]
      refine held_take (i := 8) (d := 92) (v := ?_) rfl (by kernel_rfl) (by kernel_rfl) (by kernel_rfl) rfl (fun _ _ _ h => h) rfl hH (fun w' hS => ?_) ?_
      rotate_left
      · go_simp; first | done | with_reducible rfl
      simp only [List.set_cons_zero, List.set_cons_succ]
      refine held_take (i := 9) (d := 93) (v := ?_) rfl (by kernel_rfl) (by kernel_rfl) (by kernel_rfl) rfl (fun _ _ _ h => h) rfl hH (fun w' hS => ?_) ?_
      rotate_left
      · go_simp; first | done | with_reducible rfl
      simp only [List.set_cons_zero, List.set_cons_succ]
      refine held_take (i := 10) (d := 94) (v := .int .i64 y1) rfl (by kernel_rfl) (by kernel_rfl) (by kernel_rfl) rfl (fun _ _ _ h => h) rfl hH (fun w' hS => ?_) ?_
      · go_simp; first | done | (rw [IntWalk.i64_left, f5]; done) | (rw [f5]; done)
      simp only [List.set_cons_zero, List.set_cons_succ]
      refine held_take (i := 11) (d := 95) (v := .int .i64 y2) rfl (by kernel_rfl) (by kernel_rfl) (by kernel_rfl) rfl (fun _ _ _ h => h) rfl hH (fun w' hS => ?_) ?_
      · go_simp; first | done | (rw [IntWalk.i64_left, f6]; done) | (rw [f6]; done)
      simp only [List.set_cons_zero, List.set_cons_succ]
      refine held_take (i := 12) (d := 96) (v := ?_) rfl (by kernel_rfl) (by kernel_rfl) (by kernel_rfl) rfl (fun _ _ _ h => h) rfl hH (fun w' hS => ?_) ?_
      rotate_left
      · go_simp; first | done | with_reducible rfl
      simp only [List.set_cons_zero, List.set_cons_succ]
      refine held_take (i := 13) (d := 97) (v := ?_) rfl (by kernel_rfl) (by kernel_rfl) (by kernel_rfl) rfl (fun _ _ _ h => h) rfl hH (fun w' hS => ?_) ?_
      rotate_left
      · go_simp; first | done | with_reducible rfl
      simp only [List.set_cons_zero, List.set_cons_succ]
      refine held_take (i := 14) (d := 98) (v := ?_) rfl (by kernel_rfl) (by kernel_rfl) (by kernel_rfl) rfl (fun _ _ _ h => h) rfl hH (fun w' hS => ?_) ?_
      rotate_left
      · go_simp; first | done | with_reducible rfl
      simp only [List.set_cons_zero, List.set_cons_succ]
      refine held_take (i := 15) (d := 99) (v := ?_) rfl (by kernel_rfl) (by kernel_rfl) (by kernel_rfl) rfl (fun _ _ _ h => h) rfl hH (fun w' hS => ?_) ?_
      rotate_left
      · go_simp; first | done | with_reducible rfl
      simp only [List.set_cons_zero, List.set_cons_succ]
      refine held_take (i := 16) (d := 100) (v := ?_) rfl (by kernel_rfl) (by kernel_rfl) (by kernel_rfl) rfl (fun _ _ _ h => h) rfl hH (fun w' hS => ?_) ?_
      rotate_left
      · have e1 := dec.keeps hS C1.out; go_simp; first | done | with_reducible rfl
      simp only [List.set_cons_zero, List.set_cons_succ]
      refine held_take (i := 17) (d := 101) (v := ?_) rfl (by kernel_rfl) (by kernel_rfl) (by kernel_rfl) rfl (fun _ _ _ h => h) rfl hH (fun w' hS => ?_) ?_
      rotate_left
      · go_simp; first | done | with_reducible rfl
      simp only [List.set_cons_zero, List.set_cons_succ]
      refine held_two (i := 0) (j := 18) rfl rfl (by kernel_rfl) rfl rfl (fun K hK => ?_) (fun K hK => ?_)
      · go_simp
        have o1 := pb.own_new W0 wr.heap.size hH.size
        have O1 := Lib.hid o1
        clear o1
        refine hK.out _ _ (balloc hH _) (fun hH => ?_)
        clear hK K
        refine held_two (i := 2) (j := 18) rfl rfl (by kernel_rfl) rfl rfl (fun K hK => ?_) (fun K hK => ?_)
        · refine pb.wp_cat _ (.tmp 84) (.tmp 85) rfl wr.heap.size (.slice (some ⟨W0.heap.size, 0, none⟩) 0 0) [] rfl O1.out ay ns cy ps rfl (hS.out.keeps hH) hl8.out hH.size ?_
          intro v6 w6 O6 b6 g6
          refine hK.out _ _ (hH.trans b6) (fun hH => ?_)
          clear hK K b6 g6
          have O7 := Lib.hid (O6.keeps (balloc (b0 w6) (.cells #[.int .i64 y2, .int .i64 qc] 34)))
          clear O6
          refine held_only (i := 18) rfl (by kernel_rfl) rfl (fun K hK => ?_)
          go_simp
          have bn := pb.Bw.new w6 (y2, qc) 34
          have BN := Lib.hid bn
          clear bn
          refine hK.out _ _ (balloc hH _) (fun hH => ?_)
          clear hK K
          refine held_only (i := 19) rfl (by kernel_rfl) rfl (fun K hK => ?_)
          refine pb.wp_push _ (.tmp 86) (.tmp 102) rfl wr.heap.size _ _ rfl O7.out w6.heap.size (y2, qc) rfl BN.out hl9.out hH.size ?_
          intro v8 w8 O8 b8 g8
          have O9 := Lib.hid (show pb.Own w8 wr.heap.size v8 pn by rw [hnx.out]; exact O8)
          refine hK.out _ _ (hH.trans b8) (fun hH => ?_)
          clear hK K b8 g8 O8
          refine held_only (i := 20) rfl (by kernel_rfl) rfl (fun K hK => ?_)
          go_simp
          refine hK.out _ _ hH (fun hH => ?_)
          clear hK K
          refine wpAnyH_done (by kernel_rfl) ?_ _
          refine noPanic_of ?_
          obtain ⟨az, cz, rfl, SZ⟩ := O9.out.sl
          have HB := Lib.hid (bnext hb.out hH)
          rw [hnz.out] at SZ ⊢
          rw [← hpn.out] at SZ
          have SZ' := Lib.hid SZ
          clear hH SZ O9
          go_wp2_with fail
          first | exact ⟨⟨j + 1, az, nz, cz, rfl, congrArg (Value.int .i64) f4.out, Lib.hid q4, SZ', HB⟩, less_at q4 f4.out⟩ | exact ⟨⟨j + 1, az, nz, cz, ⟨rfl, rfl, rfl⟩, f4.out, Lib.hid q4, SZ', HB⟩, less_at q4 f4.out⟩ | exact ⟨⟨j + 1, az, nz, cz, ⟨rfl, rfl, rfl⟩, f4.out, Lib.hid q4, SZ'⟩, less_at q4 f4.out⟩ | exact ⟨⟨j + 1, ⟨az, nz, cz, ⟨rfl, rfl, rfl⟩, f4.out, Lib.hid q4, SZ'⟩, HB⟩, less_at q4 f4.out⟩
        · go_simp
          have bn := pb.Bw.new (W0.alloc (.cells #[] 34)) (y2, qc) 34
          rw [show (W0.alloc (.cells #[] 34)).heap.size = W0.heap.size + 1 by simp] at bn
          have BN := Lib.hid bn
          clear bn
          refine hK.out _ _ (balloc hH _) (fun hH => ?_)
          clear hK K
          have O2 := Lib.hid (O1.out.keeps (balloc (b0 _) (.cells #[.int .i64 y2, .int .i64 qc] 34)))
          clear O1
          refine held_only (i := 2) rfl (by kernel_rfl) rfl (fun K hK => ?_)
          refine pb.wp_cat _ (.tmp 84) (.tmp 85) rfl wr.heap.size (.slice (some ⟨W0.heap.size, 0, none⟩) 0 0) [] rfl O2.out ay ns cy ps rfl (hS.out.keeps hH) hl8.out hH.size ?_
          intro v6 w6 O6 b6 g6
          have BM := Lib.hid (BN.out.grownBy g6 (by simp [Value.ownBlock]))
          have O7 := Lib.hid O6
          clear O6
          refine hK.out _ _ (hH.trans b6) (fun hH => ?_)
          clear hK K b6 g6 BN O2
          refine held_only (i := 19) rfl (by kernel_rfl) rfl (fun K hK => ?_)
          refine pb.wp_push _ (.tmp 86) (.tmp 102) rfl wr.heap.size _ _ rfl O7.out _ (y2, qc) rfl BM.out hl9.out hH.size ?_
          intro v8 w8 O8 b8 g8
          have O9 := Lib.hid (show pb.Own w8 wr.heap.size v8 pn by rw [hnx.out]; exact O8)
          refine hK.out _ _ (hH.trans b8) (fun hH => ?_)
          clear hK K b8 g8 O8
          refine held_only (i := 20) rfl (by kernel_rfl) rfl (fun K hK => ?_)
          go_simp
          refine hK.out _ _ hH (fun hH => ?_)
          clear hK K
          refine wpAnyH_done (by kernel_rfl) ?_ _
          refine noPanic_of ?_
          obtain ⟨az, cz, rfl, SZ⟩ := O9.out.sl
          have HB := Lib.hid (bnext hb.out hH)
          rw [hnz.out] at SZ ⊢
          rw [← hpn.out] at SZ
          have SZ' := Lib.hid SZ
          clear hH SZ O9
          go_wp2_with fail
          first | exact ⟨⟨j + 1, az, nz, cz, rfl, congrArg (Value.int .i64) f4.out, Lib.hid q4, SZ', HB⟩, less_at q4 f4.out⟩ | exact ⟨⟨j + 1, az, nz, cz, ⟨rfl, rfl, rfl⟩, f4.out, Lib.hid q4, SZ', HB⟩, less_at q4 f4.out⟩ | exact ⟨⟨j + 1, az, nz, cz, ⟨rfl, rfl, rfl⟩, f4.out, Lib.hid q4, SZ'⟩, less_at q4 f4.out⟩ | exact ⟨⟨j + 1, ⟨az, nz, cz, ⟨rfl, rfl, rfl⟩, f4.out, Lib.hid q4, SZ'⟩, HB⟩, less_at q4 f4.out⟩
      · go_simp
        have bn := pb.Bw.new W0 (y2, qc) 34
        have BN := Lib.hid bn
        clear bn
        refine hK.out _ _ (balloc hH _) (fun hH => ?_)
        clear hK K
        have BL := Lib.hid (BN.out.keeps (balloc (b0 _) (.cells #[] 34)))
        clear BN
        refine held_only (i := 0) rfl (by kernel_rfl) rfl (fun K hK => ?_)
        go_simp
        have o1 := pb.own_new (W0.alloc (.cells #[.int .i64 y2, .int .i64 qc] 34)) wr.heap.size hH.size
        rw [show (W0.alloc (.cells #[.int .i64 y2, .int .i64 qc] 34)).heap.size = W0.heap.size + 1 by simp] at o1
        have O1 := Lib.hid o1
        clear o1
        refine hK.out _ _ (balloc hH _) (fun hH => ?_)
        clear hK K
        refine held_only (i := 2) rfl (by kernel_rfl) rfl (fun K hK => ?_)
        refine pb.wp_cat _ (.tmp 84) (.tmp 85) rfl wr.heap.size (.slice (some ⟨W0.heap.size + 1, 0, none⟩) 0 0) [] rfl O1.out ay ns cy ps rfl (hS.out.keeps hH) hl8.out hH.size ?_
        intro v6 w6 O6 b6 g6
        have BM := Lib.hid (BL.out.grownBy g6 (by simp [Value.ownBlock]))
        have O7 := Lib.hid O6
        clear O6
        refine hK.out _ _ (hH.trans b6) (fun hH => ?_)
        clear hK K b6 g6 BL O1
        refine held_only (i := 19) rfl (by kernel_rfl) rfl (fun K hK => ?_)
        refine pb.wp_push _ (.tmp 86) (.tmp 102) rfl wr.heap.size _ _ rfl O7.out _ (y2, qc) rfl BM.out hl9.out hH.size ?_
        intro v8 w8 O8 b8 g8
        have O9 := Lib.hid (show pb.Own w8 wr.heap.size v8 pn by rw [hnx.out]; exact O8)
        refine hK.out _ _ (hH.trans b8) (fun hH => ?_)
        clear hK K b8 g8 O8
        refine held_only (i := 20) rfl (by kernel_rfl) rfl (fun K hK => ?_)
        go_simp
        refine hK.out _ _ hH (fun hH => ?_)
        clear hK K
        refine wpAnyH_done (by kernel_rfl) ?_ _
        refine noPanic_of ?_
        obtain ⟨az, cz, rfl, SZ⟩ := O9.out.sl
        have HB := Lib.hid (bnext hb.out hH)
        rw [hnz.out] at SZ ⊢
        rw [← hpn.out] at SZ
        have SZ' := Lib.hid SZ
        clear hH SZ O9
        go_wp2_with fail
        first | exact ⟨⟨j + 1, az, nz, cz, rfl, congrArg (Value.int .i64) f4.out, Lib.hid q4, SZ', HB⟩, less_at q4 f4.out⟩ | exact ⟨⟨j + 1, az, nz, cz, ⟨rfl, rfl, rfl⟩, f4.out, Lib.hid q4, SZ', HB⟩, less_at q4 f4.out⟩ | exact ⟨⟨j + 1, az, nz, cz, ⟨rfl, rfl, rfl⟩, f4.out, Lib.hid q4, SZ'⟩, less_at q4 f4.out⟩ | exact ⟨⟨j + 1, ⟨az, nz, cz, ⟨rfl, rfl, rfl⟩, f4.out, Lib.hid q4, SZ'⟩, HB⟩, less_at q4 f4.out⟩
    · have q3 : decide ((j : Int) < (py : Int)) = false := decide_eq_false (by omega)
      have q4 : decide (j < py) = false := decide_eq_false hc
      have hjp : j = py := by have := hj.out; omega
      have hps : pj PX PY (x.size + 1) j = PX ++ PY.map (shB (x.size + 1)) := by rw [hjp, ← hpy.out, pj_all]
      rw [hps] at hS
      have SS := Lib.hid hS.out
      have hns := hS.out.hn
      have hcs := hS.out.hcap
      obtain ⟨rr, hrr⟩ : ∃ rr, PX ++ PY.map (shB (x.size + 1)) = rr := ⟨_, rfl⟩
      rw [hrr] at HP SS hns
      have hns2 : ns ≤ 64 := by
        have h1 := hpx.out
        have h2 := hpy.out
        have h3 := NM.out
        rw [← hns, ← hrr, List.length_append, List.length_map]
        omega
      obtain ⟨mz, hmz⟩ : ∃ mz, min ns 32 = mz := ⟨_, rfl⟩
      have hmz1 : mz ≤ ns := by omega
      have hrt : rr.take mz = PZ := by rw [HP.out, ← hmz, ← hns, List.take_eq_take_iff]; omega
      have L9 := Lib.hid (sl_take (L7.out.keeps hb.out) (m := kx) (by omega))
      have N9 := Lib.hid (sl_take (N7.out.keeps hb.out) (m := kx) (by omega))
      have M9 := Lib.hid (M7.out.keeps hb.out)
      have O9 := Lib.hid (sl_from (N7.out.keeps hb.out) (m := kx) (by omega))
      have R9 := Lib.hid (R7.out.keeps hb.out)
      have S9 := pl_take SS.out hmz1
      rw [hrt] at S9
      replace S9 := Lib.hid S9
      have uT : Tryd.prog.underlying 25 = some (.slice (Tryd.prog.elem 25)) := by simp [Program.elem, Tryd.underlying25]
      have eT : Tryd.prog.elem 25 = 32 := by simp [Program.elem, Tryd.underlying25]
      have uP : Tryd.prog.underlying 26 = some (.slice (Tryd.prog.elem 26)) := by simp [Program.elem, Tryd.underlying26]
      have eP : Tryd.prog.elem 26 = 34 := by simp [Program.elem, Tryd.underlying26]
      have k1c := L7.out.hcap
      have k2c := N7.out.hcap
      have s1 := slice_to 25 _ uT eT 3 sz3 al k1 cl kx (by omega)
      have s2 := slice_to 25 _ uT eT 3 sz3 an k2 cn kx (by omega)
      have s3 := slice_from 25 _ uT eT 3 sz3 an k2 cn kx (by omega)
      have s4 := slice_to 26 _ uP eP 2 sz2 ay ns cy mz (by omega)
      have hkk : k2 - kx = ky := by omega
      rw [hkk] at s3 O9
      generalize (if cn = kx then an else Option.map (fun x => x.add (kx * 3)) an) = ao at *
      generalize cn - kx = co at *
      have f1 := F1.out
      obtain ⟨xs1, hxs1⟩ : ∃ xs1 : Int, ((x.size + 1 : Nat) : Int) = xs1 := ⟨_, rfl⟩
      have f8 : wrap64 ((x.size : Int) + 1) = xs1 := by have := ZX.out; rw [← hxs1]; unfold wrap64; omega
      rw [hxs1] at SB
      have HB := Lib.hid (bnext D7.out hb.out)
      have CA := Lib.hid (fun d os => Calls.regrown_of (d := d) (os := os) (SA.out al kx cl an kx cn _ (L9.out.keeps (below_regrown wr d os)) (N9.out.keeps (below_regrown wr d os))))
      have CB' := fun d os => Calls.regrown_of (d := d) (os := os) (SB.out am ky cm ao ky co _ (M9.out.keeps (below_regrown wr d os)) (O9.out.keeps (below_regrown wr d os)))
      have CB2 := Lib.hid CB'
      rw [← f8] at CB'
      have CB := Lib.hid CB'
      have sp := fun d os => sameProblems_any ar pz cr ay mz cy PZ PZ _ (R9.out.keeps (below_regrown wr d os)) (S9.out.keeps (below_regrown wr d os))
      rw [show spB PZ PZ = true from decide_eq_true rfl] at sp
      have CC := Lib.hid (fun d os => Calls.regrown_of (d := d) (os := os) (sp d os))
      have f9 : min (ns : Int) 32 = (mz : Int) := by omega
      have s5 := s4
      rw [← f9] at s5
      clear f9 hxs1 CB' sp hrt hmz hmz1 uT eT uP eP k1c k2c hkk hns hcs hns2 hrr hps hj hS hjp hc
      go_wp2_with fail
      refine wp_region_quiet_below (by kernel_rfl) (by kernel_rfl) ?_
      repeat (first | go_big_quiet_skip | (go_big_quiet_want; go_big_quiet_op; first | go_big_quiet_on | go_big_quiet_call (first | (go_at_call 16; with_reducible exact CA.out _ _) | (go_at_call 16; with_reducible exact CB.out _ _) | (go_at_call 16; with_reducible exact CB2.out _ _) | (go_at_call 17; with_reducible exact CC.out _ _))))
      refine wpQuiet_nil ?_
      intro w9 hw9
      have B9 := Lib.hid (bnext HB.out (below_of hw9))
      clear hw9
      go_wp2_with fail
      go_ret
      exact ⟨rfl, B9.out⟩
end Go.Proofs.YtkfciilclfhabaaDoor
