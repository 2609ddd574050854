/-
  The printers of literals, look-ups, choices, operations; The printers of unary operations and of aggregates.
-/
import Derived.Test.YtbahfelnbofjjaaGreatDoorT09
set_option maxRecDepth 100000
set_option maxHeartbeats 16000000
namespace Go.Proofs.YtbahfelnbofjjaaGreatDoor.ch
open Go.RowKit dec
theorem lit_two {i : Bool} {g h : Hd} (N : Nod i g h 0) (hk : h.k = 1) : (h.vk = 5 ∧ name h.nm = true ∧ h.vs.size ≤ 32) ∨ (h.vk ≠ 5 ∧ h.vs.size ≤ 64 ∧ Un h.un ∧ fm ⟨h.vk, h.vn, h.vs⟩ ≠ [] ∧ (fm ⟨h.vk, h.vn, h.vs⟩).length ≤ 100) := by
 cases N with
 | boo n e =>
  refine .inr ⟨by show ¬ (1 : Int) = 5; decide, by show ByteArray.empty.size ≤ 64; decide, ⟨un.Ok.nil, fun x hx => by cases hx⟩, ?_, ?_⟩
  ·show fm ⟨1, n, .empty⟩ ≠ []
   rcases e with rfl | rfl
   ·rw [fm_ok (by decide)]; decide
   ·rw [fm_ok (by decide)]; decide
  ·show (fm ⟨1, n, .empty⟩).length ≤ 100
   rcases e with rfl | rfl
   ·rw [fm_ok (by decide)]; decide
   ·rw [fm_ok (by decide)]; decide
 | num k n u hk' h0 h1 hu =>
  refine .inr ⟨by show ¬ k = 5; omega, by show ByteArray.empty.size ≤ 64; decide, hu, ?_, ?_⟩
  ·show fm ⟨k, n, .empty⟩ ≠ []
   rw [fm_num hk' h0 h1]
   split
   ·exact itoa_ne n
   ·obtain ⟨c, r, e, _⟩ := fo_head n
    rw [e]; exact List.cons_ne_nil _ _
  ·show (fm ⟨k, n, .empty⟩).length ≤ 100
   rw [fm_num hk' h0 h1]
   have a2 := itoa_le n h0 h1
   have a3 := fo_len h0 h1
   split <;> omega
 | tex s h1 h2 =>
  have e : fm ⟨4, 0, s⟩ = 34 :: (s.data.toList ++ [34]) := by rw [fm_ok (ok_text h1 h2)]; rfl
  refine .inr ⟨by show ¬ (4 : Int) = 5; decide, h1, ⟨un.Ok.nil, fun x hx => by cases hx⟩, ?_, ?_⟩
  ·show fm ⟨4, 0, s⟩ ≠ []
   rw [e]; exact List.cons_ne_nil _ _
  ·show (fm ⟨4, 0, s⟩).length ≤ 100
   rw [e]; simp; omega
 | key m s hm h0 h1 h2 => exact .inl ⟨rfl, hm, h1⟩
 | fie m hi hm => exact absurd hk (by show ¬ (2 : Int) = 1; decide)
 | fea m hi hm => exact absurd hk (by show ¬ (3 : Int) = 1; decide)
theorem uB_tail (u : List un.Fa) : Lib.joinTail [32] ((nel [B8 (uB u)]).map (·.data.toList)) = uT u := by
 by_cases hu : u = []
 ·have e0 : B8 (uB u) = .empty := by rw [hu]; rfl
  rw [e0, tail_none _ _ rfl, hu]; rfl
 ·have hne : uB u ≠ [] := by unfold uB; rw [if_neg hu]; exact List.cons_ne_nil _ _
  rw [tail_cons _ _ (b8_ne hne), tail_nil, List.append_nil, B8_data]
  unfold uB uT
  rw [if_neg hu, if_neg hu]
theorem g_ne (w : World) : w.heap.size ≠ w.heap.size + 1 := by omega
theorem xliteral_any (h : Hd) (n : Nat) (ua aa : Option Addr) (uc ac : Nat) (w : World) {i : Bool} {g : Hd} (N0 : Nod i g h 0) (hk : h.k = 1) (a : Option Addr) (m c : Nat) (hU : un.Sl w ua h.un.length uc h.un) (T : Tabq w) : Calls Tryz.prog 100 #[.agg (exC h n ua uc aa ac), .slice a m c] w (Pr (B8 (liT h)) 9 w) := by
 rcases lit_two N0 hk with hc | hc
 ·obtain ⟨hv, hn, hsz⟩ := hc
  have hnl := name_len hn
  have q := in_is hv
  have A1 := add_b8 [64] h.nm.data.toList (by decide) (by omega)
  have A2 := add_b8 [34] h.vs.data.toList (by decide) (by rw [str_len]; omega)
  have A3 := add_b8 (34 :: h.vs.data.toList) [34] (by rw [List.length_cons, str_len]; omega) (by decide)
  replace A1 : ∀ W, (Op.stringOp .add ⟨#[64]⟩ h.nm).run Tryz.prog W = .ok (.string (B8 (64 :: h.nm.data.toList))) W := A1
  replace A2 : ∀ W, (Op.stringOp .add ⟨#[34]⟩ h.vs).run Tryz.prog W = .ok (.string (B8 (34 :: h.vs.data.toList))) W := A2
  replace A3 : ∀ W, (Op.stringOp .add (B8 (34 :: h.vs.data.toList)) ⟨#[34]⟩).run Tryz.prog W = .ok (.string (B8 (34 :: (h.vs.data.toList ++ [34])))) W := A3
  have hW : wrd [B8 (64 :: h.nm.data.toList), B8 (34 :: (h.vs.data.toList ++ [34]))] = liT h := by
   rw [wrd_cons _ (b8_ne (List.cons_ne_nil _ _)), tail_cons _ _ (b8_ne (List.cons_ne_nil _ _)), tail_nil, List.append_nil, B8_data, B8_data]
   unfold liT
   rw [if_pos hv]
   simp
  have hlt : (liT h).length ≤ 1000 := by
   unfold liT
   rw [if_pos hv]
   rw [str_len] at hnl
   simp
   omega
  have bb := below_two w (.cells (exC h n ua uc aa ac) 144) (.cells #[.string ⟨#[]⟩, .int .i64 0] 90)
  have GG := bw_two w (exC h n ua uc aa ac) #[.string ⟨#[]⟩, .int .i64 0] 144 90
  have hle := Lib.hid (two_le w)
  have B0 := Lib.hid bb
  have G := Lib.hid GG.1
  have H := Lib.hid GG.2
  have hne := Lib.hid (g_ne w)
  have hz : (wrd [B8 (64 :: h.nm.data.toList), B8 (34 :: (h.vs.data.toList ++ [34]))]).length ≤ 100000000 := by rw [hW]; omega
  have CP := Lib.hid (fun (W : World) (a : Option Addr) (h : Ss W a 2 2 [B8 (64 :: h.nm.data.toList), B8 (34 :: (h.vs.data.toList ++ [34]))]) => primary_any a 2 2 _ W h (by decide) hz)
  rw [hW] at CP
  have N := Lib.hid (fun (W : World) => Ss.new W [B8 (64 :: h.nm.data.toList), B8 (34 :: (h.vs.data.toList ++ [34]))] 2 #[.string (B8 (64 :: h.nm.data.toList)), .string (B8 (34 :: (h.vs.data.toList ++ [34])))] rfl rfl (by decide) 9)
  clear hz hW
  clear hnl hlt
  generalize B8 (liT h) = s4 at *
  generalize B8 (64 :: h.nm.data.toList) = s1 at *
  generalize B8 (34 :: (h.vs.data.toList ++ [34])) = s3 at *
  generalize B8 (34 :: h.vs.data.toList) = s2 at *
  replace hv := Lib.hid hv
  clear bb GG hn hsz T hU N0 hk
  unfold exC at *
  go_enter Tryz.func100, Tryz.ntmps100
  go_upto_region 1 with fail
  generalize hw0 : ((w.alloc (.cells #[.int .i64 h.k, .string h.op, .string h.nm, .string h.tb, .int .i64 h.vk, .int .i64 h.vn, .string h.vs, .slice ua h.un.length uc, .int .i64 h.pa, .int .i64 h.wk, .int .i64 h.ws, .slice aa n ac] 144)).alloc (.cells #[.string ⟨#[]⟩, .int .i64 0] 90)) = w0 at *
  clear hw0
  generalize hg3 : w.heap.size + 1 = g3 at H hle hne ⊢
  generalize hg2 : w.heap.size = g2 at G hne ⊢
  clear hg2 hg3
  have c2 := G.out.cell 2
  simp only [List.getElem?_toArray, List.getElem?_cons_zero, List.getElem?_cons_succ] at c2
  have c4 := G.out.cell 4
  simp only [List.getElem?_toArray, List.getElem?_cons_zero, List.getElem?_cons_succ] at c4
  have c6 := G.out.cell 6
  simp only [List.getElem?_toArray, List.getElem?_cons_zero, List.getElem?_cons_succ] at c6
  go_wp2_with fail
  refine (CP.out _ _ (N.out _)).mono ?_
  rintro e w1 ⟨rfl, b1⟩
  have B1 := Lib.hid (bnext (balloc B0.out _) b1)
  replace H := Lib.hid ((H.out.keeps (balloc (b0 _) _)).keeps b1)
  clear b1 CP N c2 c4 c6
  go_wp2_with (refine arm_storeT infPh (.tmp 4) (.tmp 18) rfl rfl _ _ _ _ rfl rfl H.out rfl rfl (by simp [Value.oneCell']) ?_; intro w9 hb9 hs9)
  refine ret_T infPh Tryz.underlying90 rfl rfl _ _ _ _ _ rfl hb9 rfl ?_
  exact ⟨rfl, B1.out.trans (hs9.below hle.out)⟩
 ·obtain ⟨hv, hsz, hu, hf, hfl⟩ := hc
  have q := in_ne hv
  have hul := uT_len hu
  have hW : wrd [B8 (fm ⟨h.vk, h.vn, h.vs⟩), B8 (uB h.un)] = liT h := by
   rw [wrd_cons _ (b8_ne hf), uB_tail, B8_data]
   unfold liT
   rw [if_neg hv]
  have hlt : (liT h).length ≤ 1000 := by
   unfold liT
   rw [if_neg hv, List.length_append]
   omega
  have bb := below_two w (.cells (exC h n ua uc aa ac) 144) (.cells #[.string ⟨#[]⟩, .int .i64 0] 90)
  have GG := bw_two w (exC h n ua uc aa ac) #[.string ⟨#[]⟩, .int .i64 0] 144 90
  have hle := Lib.hid (two_le w)
  have B0 := Lib.hid bb
  have G := Lib.hid GG.1
  have H := Lib.hid GG.2
  have hne := Lib.hid (g_ne w)
  have hz : (wrd [B8 (fm ⟨h.vk, h.vn, h.vs⟩), B8 (uB h.un)]).length ≤ 100000000 := by rw [hW]; omega
  have CP := Lib.hid (fun (W : World) (a : Option Addr) (h : Ss W a 2 2 [B8 (fm ⟨h.vk, h.vn, h.vs⟩), B8 (uB h.un)]) => primary_any a 2 2 _ W h (by decide) hz)
  rw [hW] at CP
  have N := Lib.hid (fun (W : World) => Ss.new W [B8 (fm ⟨h.vk, h.vn, h.vs⟩), B8 (uB h.un)] 2 #[.string (B8 (fm ⟨h.vk, h.vn, h.vs⟩)), .string (B8 (uB h.un))] rfl rfl (by decide) 9)
  clear hz hW
  have CF : ∀ (W : World), Below w.heap.size w W → Calls Tryz.prog 156 #[.agg #[.int .i64 h.vk, .int .i64 h.vn, .string h.vs]] W (Sr (B8 (fm ⟨h.vk, h.vn, h.vs⟩)) W) := fun W b => (formatV_any h.vk h.vn h.vs (by omega) W (T.t.stays b)).mono fun _ _ h => h
  replace CF := Lib.hid CF
  have CU := Lib.hid (fun (W : World) (b : Below w.heap.size w W) => unitText_any h.un hu ua h.un.length uc W (hU.keeps b) (T.t.stays b))
  clear hlt hul hf hfl
  generalize B8 (liT h) = s4 at *
  generalize B8 (fm ⟨h.vk, h.vn, h.vs⟩) = s1 at *
  generalize B8 (uB h.un) = s2 at *
  replace hv := Lib.hid hv
  clear bb GG hu hsz T hU N0 hk
  unfold exC at *
  go_enter Tryz.func100, Tryz.ntmps100
  go_upto_region 1 with fail
  generalize hw0 : ((w.alloc (.cells #[.int .i64 h.k, .string h.op, .string h.nm, .string h.tb, .int .i64 h.vk, .int .i64 h.vn, .string h.vs, .slice ua h.un.length uc, .int .i64 h.pa, .int .i64 h.wk, .int .i64 h.ws, .slice aa n ac] 144)).alloc (.cells #[.string ⟨#[]⟩, .int .i64 0] 90)) = w0 at *
  clear hw0
  generalize hg3 : w.heap.size + 1 = g3 at H hle hne ⊢
  generalize hg2 : w.heap.size = g2 at G hne ⊢
  clear hg2 hg3
  have c4 := G.out.cell 4
  simp only [List.getElem?_toArray, List.getElem?_cons_zero, List.getElem?_cons_succ] at c4
  go_wp2_with fail
  clear c4
  refine wp_region_held_drew (S := fun w' => (∃ cs : Array Value, cs.size = 2 ∧ Blk w' g3 90 cs) ∧ Blk w' g2 144 #[.int .i64 h.k, .string h.op, .string h.nm, .string h.tb, .int .i64 h.vk, .int .i64 h.vn, .string h.vs, .slice ua h.un.length uc, .int .i64 h.pa, .int .i64 h.wk, .int .i64 h.ws, .slice aa n ac] ∧ Below w.heap.size w w') (by kernel_rfl) ⟨⟨_, rfl, H.out.drew⟩, G.out.drew, B0.out.drew⟩ (fun hH => ?_)
  generalize w0.drew = y0 at *
  refine held_take (i := 0) (d := 19) (v := ?_) rfl (by kernel_rfl) (by kernel_rfl) (by kernel_rfl) rfl (fun _ _ _ h => h) rfl hH (fun w' hS => ?_) ?_
  rotate_left
  ·go_simp; first | done | with_reducible rfl
  simp only [List.set_cons_zero, List.set_cons_succ]
  refine held_take (i := 1) (d := 20) (v := .agg #[.int .i64 h.vk, .int .i64 h.vn, .string h.vs]) rfl (by kernel_rfl) (by kernel_rfl) (by kernel_rfl) rfl (fun _ _ _ h => h) rfl hH (fun w' hS => yield_loadM infVa Tryz.underlying23 rfl (.tmp 19) rfl _ _ _ rfl (range_three (hS.2.1.cell 4) (hS.2.1.cell 5) (hS.2.1.cell 6)) rfl) ?_
  simp only [List.set_cons_zero, List.set_cons_succ]
  refine held_take (i := 3) (d := 22) (v := ?_) rfl (by kernel_rfl) (by kernel_rfl) (by kernel_rfl) rfl (fun _ _ _ h => h) rfl hH (fun w' hS => ?_) ?_
  rotate_left
  ·go_simp; first | done | with_reducible rfl
  simp only [List.set_cons_zero, List.set_cons_succ]
  refine held_take (i := 4) (d := 23) (v := ?_) rfl (by kernel_rfl) (by kernel_rfl) (by kernel_rfl) rfl (fun _ _ _ h => h) rfl hH (fun w' hS => ?_) ?_
  rotate_left
  ·have e1 := hS.2.1.cell 7; simp only [List.getElem?_toArray, List.getElem?_cons_zero, List.getElem?_cons_succ] at e1; go_simp; first | done | with_reducible rfl
  simp only [List.set_cons_zero, List.set_cons_succ]
  refine held_only (i := 2) rfl (by kernel_rfl) rfl (fun K hK => ?_)
  go_simp
  refine (CF.out _ hH.2.2).mono ?_
  rintro e v1 ⟨rfl, c1⟩
  refine hK.out _ _ ⟨ph_keeps hH.1 c1, hH.2.1.keeps c1, bnext hH.2.2 c1⟩ (fun hH => ?_)
  clear hK K c1
  refine held_only (i := 5) rfl (by kernel_rfl) rfl (fun K hK => ?_)
  go_simp
  refine (CU.out _ hH.2.2).mono ?_
  rintro e v2 ⟨rfl, c2⟩
  refine hK.out _ _ ⟨ph_keeps hH.1 c2, hH.2.1.keeps c2, bnext hH.2.2 c2⟩ (fun hH => ?_)
  clear hK K c2
  refine held_only (i := 6) rfl (by kernel_rfl) rfl (fun K hK => ?_)
  go_simp
  have hNN := N.out v2
  refine hK.out _ _ ⟨ph_keeps hH.1 (balloc (b0 _) _), hH.2.1.keeps (balloc (b0 _) _), balloc hH.2.2 _⟩ (fun hH => ?_)
  clear hK K
  refine held_only (i := 7) rfl (by kernel_rfl) rfl (fun K hK => ?_)
  go_simp
  refine (CP.out _ _ hNN).mono ?_
  rintro e v3 ⟨rfl, c3⟩
  refine hK.out _ _ ⟨ph_keeps hH.1 c3, hH.2.1.keeps c3, bnext hH.2.2 c3⟩ (fun hH => ?_)
  clear hK K c3
  obtain ⟨pcs, hps, hPB⟩ := hH.1
  refine held_only (i := 8) rfl (by kernel_rfl) rfl (fun K hK => ?_)
  refine op_storeP infPh (.tmp 4) (.tmp 26) rfl _ _ _ _ rfl rfl hPB hps rfl (by simp [Value.oneCell']) ?_
  intro w9 hb9 hs9
  have hq9 := Lib.hid hb9
  have B9 := Lib.hid (hH.2.2.trans (hs9.below (hle.out)))
  refine hK.out _ _ ⟨⟨_, rfl, hb9⟩, hH.2.1.st hs9 hne.out, B9.out⟩ (fun _ => ?_)
  clear hK K hPB hps hb9 hs9 hH
  refine wpAnyH_done (by kernel_rfl) ?_ _
  go_wp2_with fail
  refine ret_T infPh Tryz.underlying90 rfl rfl _ _ _ _ _ rfl hq9.out rfl ?_
  exact ⟨rfl, B9.out⟩
theorem cell_st {w w' : World} {g b o : Nat} {v : Value} (h : w.cell? ⟨b, o, none⟩ = some v) (s : St g w w') (hn : b ≠ g) : w'.cell? ⟨b, o, none⟩ = some v := (World.cell?_of_block (w := w) (s.block b hn)).trans h
theorem xlookup_any (h : Hd) (n : Nat) (ua aa : Option Addr) (uc ac : Nat) (w : World) (b off c : Nat) (t0 : List UInt8) (r0 : Int) (hC : un.Cl w b off [(B8 t0, r0)]) (l0 : t0.length ≤ 1000000) (hn : name h.nm = true) : Calls Tryz.prog 102 #[.agg (exC h n ua uc aa ac), .slice (some ⟨b, off, none⟩) 1 c] w (Pr (B8 (h.nm.data.toList ++ ([32, 111, 102, 32, 40] ++ (t0 ++ [41])))) 9 w) := by
 have k0 := (cl1 hC).1
 have hlb := Lib.hid (show b < w.heap.size from block_lt_of_cell k0)
 have hnl := name_len hn
 have A1 := add_b8 [40] t0 (by decide) (by omega)
 have A2 := add_b8 (40 :: t0) [41] (by rw [List.length_cons]; omega) (by decide)
 replace A1 : ∀ W, (Op.stringOp .add ⟨#[40]⟩ (B8 t0)).run Tryz.prog W = .ok (.string (B8 (40 :: t0))) W := A1
 replace A2 : ∀ W, (Op.stringOp .add (B8 (40 :: t0)) ⟨#[41]⟩).run Tryz.prog W = .ok (.string (B8 (40 :: (t0 ++ [41])))) W := A2
 have hW : wrd [h.nm, ⟨#[111, 102]⟩, B8 (40 :: (t0 ++ [41]))] = h.nm.data.toList ++ ([32, 111, 102, 32, 40] ++ (t0 ++ [41])) := by
  rw [wrd_cons _ (name_ne hn), tail_cons _ _ (fun e => absurd (congrArg (fun b : ByteArray => b.size) e) (by decide)), tail_cons _ _ (b8_ne (List.cons_ne_nil _ _)), tail_nil, List.append_nil, B8_data]
  rfl
 have hlt : (h.nm.data.toList ++ ([32, 111, 102, 32, 40] ++ (t0 ++ [41]))).length ≤ 2000000 := by
  rw [str_len] at hnl
  simp
  omega
 have bb := below_two w (.cells (exC h n ua uc aa ac) 144) (.cells #[.string ⟨#[]⟩, .int .i64 0] 90)
 have GG := bw_two w (exC h n ua uc aa ac) #[.string ⟨#[]⟩, .int .i64 0] 144 90
 have hle := Lib.hid (two_le w)
 have B0 := Lib.hid bb
 have G := Lib.hid GG.1
 have H := Lib.hid GG.2
 have hne := Lib.hid (g_ne w)
 have K0 := Lib.hid (dec.keeps bb k0)
 have hz : (wrd [h.nm, ⟨#[111, 102]⟩, B8 (40 :: (t0 ++ [41]))]).length ≤ 100000000 := by rw [hW]; omega
 have CP := Lib.hid (fun (W : World) (a : Option Addr) (h : Ss W a 3 3 [h.nm, ⟨#[111, 102]⟩, B8 (40 :: (t0 ++ [41]))]) => primary_any a 3 3 _ W h (by decide) hz)
 rw [hW] at CP
 have N := Lib.hid (fun (W : World) => Ss.new W [h.nm, ⟨#[111, 102]⟩, B8 (40 :: (t0 ++ [41]))] 3 #[.string h.nm, .string ⟨#[111, 102]⟩, .string (B8 (40 :: (t0 ++ [41])))] rfl rfl (by decide) 9)
 clear hz hW
 clear hnl hlt
 generalize B8 (h.nm.data.toList ++ ([32, 111, 102, 32, 40] ++ (t0 ++ [41]))) = s4 at *
 generalize B8 (40 :: (t0 ++ [41])) = s3 at *
 generalize B8 (40 :: t0) = s2 at *
 generalize B8 t0 = s1 at *
 have hbg := Lib.hid (show b ≠ w.heap.size + 1 by have := hlb.out; omega)
 clear bb GG hn hC l0 k0
 unfold exC at *
 go_enter Tryz.func102, Tryz.ntmps102
 go_upto_region 1 with fail
 generalize hw0 : ((w.alloc (.cells #[.int .i64 h.k, .string h.op, .string h.nm, .string h.tb, .int .i64 h.vk, .int .i64 h.vn, .string h.vs, .slice ua h.un.length uc, .int .i64 h.pa, .int .i64 h.wk, .int .i64 h.ws, .slice aa n ac] 144)).alloc (.cells #[.string ⟨#[]⟩, .int .i64 0] 90)) = w0 at *
 clear hw0
 generalize hg3 : w.heap.size + 1 = g3 at H hle hne hbg ⊢
 generalize hg2 : w.heap.size = g2 at G hne ⊢
 clear hg2 hg3
 refine wp_region_held_drew (S := fun w' => (∃ cs : Array Value, cs.size = 2 ∧ Blk w' g3 90 cs) ∧ (Blk w' g2 144 #[.int .i64 h.k, .string h.op, .string h.nm, .string h.tb, .int .i64 h.vk, .int .i64 h.vn, .string h.vs, .slice ua h.un.length uc, .int .i64 h.pa, .int .i64 h.wk, .int .i64 h.ws, .slice aa n ac] ∧ w'.cell? ⟨b, off, none⟩ = some (.string s1)) ∧ Below w.heap.size w w') (by kernel_rfl) ⟨⟨_, rfl, H.out.drew⟩, ⟨G.out.drew, K0.out⟩, B0.out.drew⟩ (fun hH => ?_)
 generalize w0.drew = y0 at *
 refine held_take (i := 0) (d := 5) (v := ?_) rfl (by kernel_rfl) (by kernel_rfl) (by kernel_rfl) rfl (fun _ _ _ h => h) rfl hH (fun w' hS => ?_) ?_
 rotate_left
 ·go_simp; first | done | with_reducible rfl
 simp only [List.set_cons_zero, List.set_cons_succ]
 refine held_take (i := 1) (d := 6) (v := ?_) rfl (by kernel_rfl) (by kernel_rfl) (by kernel_rfl) rfl (fun _ _ _ h => h) rfl hH (fun w' hS => ?_) ?_
 rotate_left
 ·have e1 := hS.2.1.1.cell 2; simp only [List.getElem?_toArray, List.getElem?_cons_zero, List.getElem?_cons_succ] at e1; go_simp; first | done | with_reducible rfl
 simp only [List.set_cons_zero, List.set_cons_succ]
 refine held_take (i := 2) (d := 7) (v := ?_) rfl (by kernel_rfl) (by kernel_rfl) (by kernel_rfl) rfl (fun _ _ _ h => h) rfl hH (fun w' hS => ?_) ?_
 rotate_left
 ·go_simp; first | done | with_reducible rfl
 simp only [List.set_cons_zero, List.set_cons_succ]
 refine held_take (i := 3) (d := 8) (v := ?_) rfl (by kernel_rfl) (by kernel_rfl) (by kernel_rfl) rfl (fun _ _ _ h => h) rfl hH (fun w' hS => ?_) ?_
 rotate_left
 ·go_simp; first | done | with_reducible rfl
 simp only [List.set_cons_zero, List.set_cons_succ]
 refine held_take (i := 4) (d := 9) (v := ?_) rfl (by kernel_rfl) (by kernel_rfl) (by kernel_rfl) rfl (fun _ _ _ h => h) rfl hH (fun w' hS => ?_) ?_
 rotate_left
 ·go_simp; first | done | with_reducible rfl
 simp only [List.set_cons_zero, List.set_cons_succ]
 refine held_take (i := 5) (d := 10) (v := ?_) rfl (by kernel_rfl) (by kernel_rfl) (by kernel_rfl) rfl (fun _ _ _ h => h) rfl hH (fun w' hS => ?_) ?_
 rotate_left
 ·have e1 := hS.2.1.2; go_simp; first | done | with_reducible rfl
 simp only [List.set_cons_zero, List.set_cons_succ]
 refine held_take (i := 6) (d := 11) (v := ?_) rfl (by kernel_rfl) (by kernel_rfl) (by kernel_rfl) rfl (fun _ _ _ h => h) rfl hH (fun w' hS => ?_) ?_
 rotate_left
 ·go_simp; first | done | with_reducible rfl
 simp only [List.set_cons_zero, List.set_cons_succ]
 refine held_take (i := 7) (d := 12) (v := ?_) rfl (by kernel_rfl) (by kernel_rfl) (by kernel_rfl) rfl (fun _ _ _ h => h) rfl hH (fun w' hS => ?_) ?_
 rotate_left
 ·go_simp; first | done | with_reducible rfl
 simp only [List.set_cons_zero, List.set_cons_succ]
 refine held_only (i := 8) rfl (by kernel_rfl) rfl (fun K hK => ?_)
 go_simp
 have hNN := N.out y0
 refine hK.out _ _ ⟨ph_keeps hH.1 (balloc (b0 _) _), ⟨hH.2.1.1.keeps (balloc (b0 _) _), dec.keeps (balloc (b0 _) _) hH.2.1.2⟩, balloc hH.2.2 _⟩ (fun hH => ?_)
 clear hK K
 refine held_only (i := 9) rfl (by kernel_rfl) rfl (fun K hK => ?_)
 go_simp
 refine (CP.out _ _ hNN).mono ?_
 rintro e v1 ⟨rfl, c1⟩
 refine hK.out _ _ ⟨ph_keeps hH.1 c1, ⟨hH.2.1.1.keeps c1, dec.keeps c1 hH.2.1.2⟩, bnext hH.2.2 c1⟩ (fun hH => ?_)
 clear hK K c1
 obtain ⟨pcs, hps, hPB⟩ := hH.1
 refine held_only (i := 10) rfl (by kernel_rfl) rfl (fun K hK => ?_)
 refine op_storeP infPh (.tmp 4) (.tmp 14) rfl _ _ _ _ rfl rfl hPB hps rfl (by simp [Value.oneCell']) ?_
 intro w9 hb9 hs9
 have hq9 := Lib.hid hb9
 have B9 := Lib.hid (hH.2.2.trans (hs9.below (hle.out)))
 refine hK.out _ _ ⟨⟨_, rfl, hb9⟩, ⟨hH.2.1.1.st hs9 hne.out, cell_st hH.2.1.2 hs9 hbg.out⟩, B9.out⟩ (fun _ => ?_)
 clear hK K hPB hps hb9 hs9 hH
 refine wpAnyH_done (by kernel_rfl) ?_ _
 go_wp2_with fail
 refine ret_T infPh Tryz.underlying90 rfl rfl _ _ _ _ _ rfl hq9.out rfl ?_
 exact ⟨rfl, B9.out⟩
theorem xchoice_any (h : Hd) (n : Nat) (ua aa : Option Addr) (uc ac : Nat) (w : World) (b off c : Nat) (t0 : List UInt8) (r0 : Int) (t1 : List UInt8) (r1 : Int) (t2 : List UInt8) (r2 : Int) (hC : un.Cl w b off [(B8 t0, r0), (B8 t1, r1), (B8 t2, r2)]) (l0 : t0.length ≤ 1000000) (l1 : t1.length ≤ 1000000) (l2 : t2.length ≤ 1000000) (n0 : t0 ≠ []) (n1 : t1 ≠ []) (n2 : t2 ≠ []) : Calls Tryz.prog 106 #[.agg (exC h n ua uc aa ac), .slice (some ⟨b, off, none⟩) 3 c] w (Pr (B8 ([105, 102, 32] ++ (t0 ++ ([32, 116, 104, 101, 110, 32] ++ (t1 ++ ([32, 101, 108, 115, 101, 32] ++ t2)))))) 0 w) := by
 obtain ⟨k0, k1, k2⟩ := cl3 hC
 have hlb := Lib.hid (show b < w.heap.size from block_lt_of_cell k0)
 have hd : ∀ s : ByteArray, s.size ≠ 0 → s ≠ .empty := fun s h e => h (by rw [e]; rfl)
 have hW : wrd [⟨#[105, 102]⟩, B8 t0, ⟨#[116, 104, 101, 110]⟩, B8 t1, ⟨#[101, 108, 115, 101]⟩, B8 t2] = [105, 102, 32] ++ (t0 ++ ([32, 116, 104, 101, 110, 32] ++ (t1 ++ ([32, 101, 108, 115, 101, 32] ++ t2)))) := by
  rw [wrd_cons _ (hd _ (by decide)), tail_cons _ _ (b8_ne n0), tail_cons _ _ (hd _ (by decide)), tail_cons _ _ (b8_ne n1), tail_cons _ _ (hd _ (by decide)), tail_cons _ _ (b8_ne n2), tail_nil]
  simp [B8_data]
 have hlt : ([105, 102, 32] ++ (t0 ++ ([32, 116, 104, 101, 110, 32] ++ (t1 ++ ([32, 101, 108, 115, 101, 32] ++ t2))))).length ≤ 4000000 := by
  simp
  omega
 have bb := below_two w (.cells (exC h n ua uc aa ac) 144) (.cells #[.string ⟨#[]⟩, .int .i64 0] 90)
 have GG := bw_two w (exC h n ua uc aa ac) #[.string ⟨#[]⟩, .int .i64 0] 144 90
 have hle := Lib.hid (two_le w)
 have B0 := Lib.hid bb
 have G := Lib.hid GG.1
 have H := Lib.hid GG.2
 have hne := Lib.hid (g_ne w)
 have K0 := Lib.hid (dec.keeps bb k0)
 have K1 := Lib.hid (dec.keeps bb k1)
 have K2 := Lib.hid (dec.keeps bb k2)
 have hz : (wrd [⟨#[105, 102]⟩, B8 t0, ⟨#[116, 104, 101, 110]⟩, B8 t1, ⟨#[101, 108, 115, 101]⟩, B8 t2]).length ≤ 100000000 := by rw [hW]; omega
 have CP := Lib.hid (fun (W : World) (a : Option Addr) (h : Ss W a 6 6 [⟨#[105, 102]⟩, B8 t0, ⟨#[116, 104, 101, 110]⟩, B8 t1, ⟨#[101, 108, 115, 101]⟩, B8 t2]) => words_any a 6 6 _ W h (by decide) hz)
 rw [hW] at CP
 have N := Lib.hid (fun (W : World) => Ss.new W [⟨#[105, 102]⟩, B8 t0, ⟨#[116, 104, 101, 110]⟩, B8 t1, ⟨#[101, 108, 115, 101]⟩, B8 t2] 6 #[.string ⟨#[105, 102]⟩, .string (B8 t0), .string ⟨#[116, 104, 101, 110]⟩, .string (B8 t1), .string ⟨#[101, 108, 115, 101]⟩, .string (B8 t2)] rfl rfl (by decide) 9)
 clear hz hW
 clear hlt hd
 generalize B8 ([105, 102, 32] ++ (t0 ++ ([32, 116, 104, 101, 110, 32] ++ (t1 ++ ([32, 101, 108, 115, 101, 32] ++ t2))))) = s4 at *
 generalize B8 t0 = s1 at *
 generalize B8 t1 = s2 at *
 generalize B8 t2 = s3 at *
 have hbg := Lib.hid (show b ≠ w.heap.size + 1 by have := hlb.out; omega)
 clear bb GG hC l0 l1 l2 n0 n1 n2 k0 k1 k2
 unfold exC at *
 go_enter Tryz.func106, Tryz.ntmps106
 go_upto_region 1 with fail
 generalize hw0 : ((w.alloc (.cells #[.int .i64 h.k, .string h.op, .string h.nm, .string h.tb, .int .i64 h.vk, .int .i64 h.vn, .string h.vs, .slice ua h.un.length uc, .int .i64 h.pa, .int .i64 h.wk, .int .i64 h.ws, .slice aa n ac] 144)).alloc (.cells #[.string ⟨#[]⟩, .int .i64 0] 90)) = w0 at *
 clear hw0
 generalize hg3 : w.heap.size + 1 = g3 at H hle hne hbg ⊢
 generalize hg2 : w.heap.size = g2 at G hne ⊢
 clear hg2 hg3
 refine wp_region_held_drew (S := fun w' => (∃ cs : Array Value, cs.size = 2 ∧ Blk w' g3 90 cs) ∧ (w'.cell? ⟨b, off, none⟩ = some (.string s1) ∧ w'.cell? ⟨b, off + 2, none⟩ = some (.string s2) ∧ w'.cell? ⟨b, off + 4, none⟩ = some (.string s3)) ∧ Below w.heap.size w w') (by kernel_rfl) ⟨⟨_, rfl, H.out.drew⟩, ⟨K0.out, K1.out, K2.out⟩, B0.out.drew⟩ (fun hH => ?_)
 generalize w0.drew = y0 at *
 refine held_take (i := 0) (d := 5) (v := ?_) rfl (by kernel_rfl) (by kernel_rfl) (by kernel_rfl) rfl (fun _ _ _ h => h) rfl hH (fun w' hS => ?_) ?_
 rotate_left
 ·go_simp; first | done | with_reducible rfl
 simp only [List.set_cons_zero, List.set_cons_succ]
 refine held_take (i := 1) (d := 6) (v := ?_) rfl (by kernel_rfl) (by kernel_rfl) (by kernel_rfl) rfl (fun _ _ _ h => h) rfl hH (fun w' hS => ?_) ?_
 rotate_left
 ·go_simp; first | done | with_reducible rfl
 simp only [List.set_cons_zero, List.set_cons_succ]
 refine held_take (i := 2) (d := 7) (v := ?_) rfl (by kernel_rfl) (by kernel_rfl) (by kernel_rfl) rfl (fun _ _ _ h => h) rfl hH (fun w' hS => ?_) ?_
 rotate_left
 ·go_simp; first | done | with_reducible rfl
 simp only [List.set_cons_zero, List.set_cons_succ]
 refine held_take (i := 3) (d := 8) (v := ?_) rfl (by kernel_rfl) (by kernel_rfl) (by kernel_rfl) rfl (fun _ _ _ h => h) rfl hH (fun w' hS => ?_) ?_
 rotate_left
 ·have e1 := hS.2.1.1; go_simp; first | done | with_reducible rfl
 simp only [List.set_cons_zero, List.set_cons_succ]
 refine held_take (i := 4) (d := 9) (v := ?_) rfl (by kernel_rfl) (by kernel_rfl) (by kernel_rfl) rfl (fun _ _ _ h => h) rfl hH (fun w' hS => ?_) ?_
 rotate_left
 ·go_simp; first | done | with_reducible rfl
 simp only [List.set_cons_zero, List.set_cons_succ]
 refine held_take (i := 5) (d := 10) (v := ?_) rfl (by kernel_rfl) (by kernel_rfl) (by kernel_rfl) rfl (fun _ _ _ h => h) rfl hH (fun w' hS => ?_) ?_
 rotate_left
 ·go_simp; first | done | with_reducible rfl
 simp only [List.set_cons_zero, List.set_cons_succ]
 refine held_take (i := 6) (d := 11) (v := ?_) rfl (by kernel_rfl) (by kernel_rfl) (by kernel_rfl) rfl (fun _ _ _ h => h) rfl hH (fun w' hS => ?_) ?_
 rotate_left
 ·go_simp; first | done | with_reducible rfl
 simp only [List.set_cons_zero, List.set_cons_succ]
 refine held_take (i := 7) (d := 12) (v := ?_) rfl (by kernel_rfl) (by kernel_rfl) (by kernel_rfl) rfl (fun _ _ _ h => h) rfl hH (fun w' hS => ?_) ?_
 rotate_left
 ·have e1 := hS.2.1.2.1; go_simp; first | done | with_reducible rfl
 simp only [List.set_cons_zero, List.set_cons_succ]
 refine held_take (i := 8) (d := 13) (v := ?_) rfl (by kernel_rfl) (by kernel_rfl) (by kernel_rfl) rfl (fun _ _ _ h => h) rfl hH (fun w' hS => ?_) ?_
 rotate_left
 ·go_simp; first | done | with_reducible rfl
 simp only [List.set_cons_zero, List.set_cons_succ]
 refine held_take (i := 9) (d := 14) (v := ?_) rfl (by kernel_rfl) (by kernel_rfl) (by kernel_rfl) rfl (fun _ _ _ h => h) rfl hH (fun w' hS => ?_) ?_
 rotate_left
 ·go_simp; first | done | with_reducible rfl
 simp only [List.set_cons_zero, List.set_cons_succ]
 refine held_take (i := 10) (d := 15) (v := ?_) rfl (by kernel_rfl) (by kernel_rfl) (by kernel_rfl) rfl (fun _ _ _ h => h) rfl hH (fun w' hS => ?_) ?_
 rotate_left
 ·go_simp; first | done | with_reducible rfl
 simp only [List.set_cons_zero, List.set_cons_succ]
 refine held_take (i := 11) (d := 16) (v := ?_) rfl (by kernel_rfl) (by kernel_rfl) (by kernel_rfl) rfl (fun _ _ _ h => h) rfl hH (fun w' hS => ?_) ?_
 rotate_left
 ·have e1 := hS.2.1.2.2; go_simp; first | done | with_reducible rfl
 simp only [List.set_cons_zero, List.set_cons_succ]
 refine held_only (i := 12) rfl (by kernel_rfl) rfl (fun K hK => ?_)
 go_simp
 have hNN := N.out y0
 refine hK.out _ _ ⟨ph_keeps hH.1 (balloc (b0 _) _), ⟨dec.keeps (balloc (b0 _) _) hH.2.1.1, dec.keeps (balloc (b0 _) _) hH.2.1.2.1, dec.keeps (balloc (b0 _) _) hH.2.1.2.2⟩, balloc hH.2.2 _⟩ (fun hH => ?_)
 clear hK K
 refine held_only (i := 13) rfl (by kernel_rfl) rfl (fun K hK => ?_)
 go_simp
 refine (CP.out _ _ hNN).mono ?_
 rintro e v1 ⟨rfl, c1⟩
 refine hK.out _ _ ⟨ph_keeps hH.1 c1, ⟨dec.keeps c1 hH.2.1.1, dec.keeps c1 hH.2.1.2.1, dec.keeps c1 hH.2.1.2.2⟩, bnext hH.2.2 c1⟩ (fun hH => ?_)
 clear hK K c1
 refine held_take (i := 14) (d := 19) (v := ?_) rfl (by kernel_rfl) (by kernel_rfl) (by kernel_rfl) rfl (fun _ _ _ h => h) rfl hH (fun w' hS => ?_) ?_
 rotate_left
 ·go_simp; first | done | with_reducible rfl
 simp only [List.set_cons_zero, List.set_cons_succ]
 obtain ⟨pcs, hps, hPB⟩ := hH.1
 refine held_only (i := 15) rfl (by kernel_rfl) rfl (fun K hK => ?_)
 refine op_storeP infPh (.tmp 4) (.tmp 19) rfl _ _ _ _ rfl rfl hPB hps rfl (by simp [Value.oneCell']) ?_
 intro w9 hb9 hs9
 have hq9 := Lib.hid hb9
 have B9 := Lib.hid (hH.2.2.trans (hs9.below (hle.out)))
 refine hK.out _ _ ⟨⟨_, rfl, hb9⟩, ⟨cell_st hH.2.1.1 hs9 hbg.out, cell_st hH.2.1.2.1 hs9 hbg.out, cell_st hH.2.1.2.2 hs9 hbg.out⟩, B9.out⟩ (fun _ => ?_)
 clear hK K hPB hps hb9 hs9 hH
 refine wpAnyH_done (by kernel_rfl) ?_ _
 go_wp2_with fail
 refine ret_T infPh Tryz.underlying90 rfl rfl _ _ _ _ _ rfl hq9.out rfl ?_
 exact ⟨rfl, B9.out⟩
theorem xbinary_any (h : Hd) (n : Nat) (ua aa : Option Addr) (uc ac : Nat) (w : World) (b off c : Nat) (t0 : List UInt8) (r0 : Int) (t1 : List UInt8) (r1 : Int) (hC : un.Cl w b off [(B8 t0, r0), (B8 t1, r1)]) (l0 : t0.length ≤ 1000000) (l1 : t1.length ≤ 1000000) (n0 : t0 ≠ []) (n1 : t1 ≠ []) (ho : h.op ≠ .empty) (lo : h.op.size ≤ 100) : Calls Tryz.prog 105 #[.agg (exC h n ua uc aa ac), .slice (some ⟨b, off, none⟩) 2 c] w (Pr (B8 (par r0 (lef (rkP h.op)) t0 ++ 32 :: ((h.op : ByteArray).data.toList ++ 32 :: par r1 (rkP h.op + 1) t1))) (rkP h.op) w) := by
 have CO := Lib.hid (fun (W : World) (bw : Below w.heap.size w W) => operation_any h.op t0 t1 r0 r1 b off c W (fun j hj => ⟨dec.keeps bw (hC j hj).1, dec.keeps bw (hC j hj).2⟩) ho n0 n1 l0 l1 (by omega))
 have bb := below_two w (.cells (exC h n ua uc aa ac) 144) (.cells #[.string ⟨#[]⟩, .int .i64 0] 90)
 have GG := bw_two w (exC h n ua uc aa ac) #[.string ⟨#[]⟩, .int .i64 0] 144 90
 have hle := Lib.hid (two_le w)
 have B0 := Lib.hid bb
 have G := Lib.hid GG.1
 have H := Lib.hid GG.2
 have hne := Lib.hid (g_ne w)
 generalize B8 (par r0 (lef (rkP h.op)) t0 ++ 32 :: ((h.op : ByteArray).data.toList ++ 32 :: par r1 (rkP h.op + 1) t1)) = s4 at *
 generalize rkP h.op = r4 at *
 clear bb GG hC l0 l1 n0 n1 ho lo
 unfold exC at *
 go_enter Tryz.func105, Tryz.ntmps105
 go_upto_region 1 with fail
 generalize hw0 : ((w.alloc (.cells #[.int .i64 h.k, .string h.op, .string h.nm, .string h.tb, .int .i64 h.vk, .int .i64 h.vn, .string h.vs, .slice ua h.un.length uc, .int .i64 h.pa, .int .i64 h.wk, .int .i64 h.ws, .slice aa n ac] 144)).alloc (.cells #[.string ⟨#[]⟩, .int .i64 0] 90)) = w0 at *
 clear hw0
 generalize hg3 : w.heap.size + 1 = g3 at H hle hne ⊢
 generalize hg2 : w.heap.size = g2 at G hne ⊢
 clear hg2 hg3
 have c1 := G.out.cell 1
 simp only [List.getElem?_toArray, List.getElem?_cons_zero, List.getElem?_cons_succ] at c1
 go_wp2_with fail
 refine (CO.out _ B0.out).mono ?_
 rintro e w1 ⟨rfl, b1⟩
 have B1 := Lib.hid (bnext B0.out b1)
 replace H := Lib.hid (H.out.keeps b1)
 clear b1 CO c1
 go_wp2_with (refine arm_storeT infPh (.tmp 4) (.tmp 8) rfl rfl _ _ _ _ rfl rfl H.out rfl rfl (by simp [Value.oneCell']) ?_; intro w9 hb9 hs9)
 refine ret_T infPh Tryz.underlying90 rfl rfl _ _ _ _ _ rfl hb9 rfl ?_
 exact ⟨rfl, B1.out.trans (hs9.below hle.out)⟩
theorem xfallback_any (h : Hd) (n : Nat) (ua aa : Option Addr) (uc ac : Nat) (w : World) (b off c : Nat) (t0 : List UInt8) (r0 : Int) (t1 : List UInt8) (r1 : Int) (hC : un.Cl w b off [(B8 t0, r0), (B8 t1, r1)]) (l0 : t0.length ≤ 1000000) (l1 : t1.length ≤ 1000000) (n0 : t0 ≠ []) (n1 : t1 ≠ []) : Calls Tryz.prog 107 #[.agg (exC h n ua uc aa ac), .slice (some ⟨b, off, none⟩) 2 c] w (Pr (B8 (par r0 (lef (rkP ⟨#[100, 101, 102, 97, 117, 108, 116]⟩)) t0 ++ 32 :: ((⟨#[100, 101, 102, 97, 117, 108, 116]⟩ : ByteArray).data.toList ++ 32 :: par r1 (rkP ⟨#[100, 101, 102, 97, 117, 108, 116]⟩ + 1) t1))) (rkP ⟨#[100, 101, 102, 97, 117, 108, 116]⟩) w) := by
 have CO := Lib.hid (fun (W : World) (bw : Below w.heap.size w W) => operation_any ⟨#[100, 101, 102, 97, 117, 108, 116]⟩ t0 t1 r0 r1 b off c W (fun j hj => ⟨dec.keeps bw (hC j hj).1, dec.keeps bw (hC j hj).2⟩) (fun e => absurd (congrArg (fun b : ByteArray => b.size) e) (by decide)) n0 n1 l0 l1 (by decide))
 have bb := below_two w (.cells (exC h n ua uc aa ac) 144) (.cells #[.string ⟨#[]⟩, .int .i64 0] 90)
 have GG := bw_two w (exC h n ua uc aa ac) #[.string ⟨#[]⟩, .int .i64 0] 144 90
 have hle := Lib.hid (two_le w)
 have B0 := Lib.hid bb
 have G := Lib.hid GG.1
 have H := Lib.hid GG.2
 have hne := Lib.hid (g_ne w)
 generalize B8 (par r0 (lef (rkP ⟨#[100, 101, 102, 97, 117, 108, 116]⟩)) t0 ++ 32 :: ((⟨#[100, 101, 102, 97, 117, 108, 116]⟩ : ByteArray).data.toList ++ 32 :: par r1 (rkP ⟨#[100, 101, 102, 97, 117, 108, 116]⟩ + 1) t1)) = s4 at *
 generalize rkP ⟨#[100, 101, 102, 97, 117, 108, 116]⟩ = r4 at *
 clear bb GG hC l0 l1 n0 n1
 unfold exC at *
 go_enter Tryz.func107, Tryz.ntmps107
 go_upto_region 1 with fail
 generalize hw0 : ((w.alloc (.cells #[.int .i64 h.k, .string h.op, .string h.nm, .string h.tb, .int .i64 h.vk, .int .i64 h.vn, .string h.vs, .slice ua h.un.length uc, .int .i64 h.pa, .int .i64 h.wk, .int .i64 h.ws, .slice aa n ac] 144)).alloc (.cells #[.string ⟨#[]⟩, .int .i64 0] 90)) = w0 at *
 clear hw0
 generalize hg3 : w.heap.size + 1 = g3 at H hle hne ⊢
 generalize hg2 : w.heap.size = g2 at G hne ⊢
 clear hg2 hg3
 go_wp2_with fail
 refine (CO.out _ B0.out).mono ?_
 rintro e w1 ⟨rfl, b1⟩
 have B1 := Lib.hid (bnext B0.out b1)
 replace H := Lib.hid (H.out.keeps b1)
 clear b1 CO
 go_wp2_with (refine arm_storeT infPh (.tmp 4) (.tmp 6) rfl rfl _ _ _ _ rfl rfl H.out rfl rfl (by simp [Value.oneCell']) ?_; intro w9 hb9 hs9)
 refine ret_T infPh Tryz.underlying90 rfl rfl _ _ _ _ _ rfl hb9 rfl ?_
 exact ⟨rfl, B1.out.trans (hs9.below hle.out)⟩
end Go.Proofs.YtbahfelnbofjjaaGreatDoor.ch
namespace Go.Proofs.YtbahfelnbofjjaaGreatDoor.ch
open Go.RowKit dec
theorem heap_old {w w' : World} {g : Nat} {T : TypeId} {cs : Array Value} (b : Below w.heap.size w w') (h : Blk w g T cs) : Blk w' g T cs := h.keeps b
theorem xunary_any (h : Hd) (n : Nat) (ua aa : Option Addr) (uc ac : Nat) (w : World) (b off c : Nat) (t0 : List UInt8) (r0 : Int) (hC : un.Cl w b off [(B8 t0, r0)]) (l0 : t0.length ≤ 1000000) (n0 : t0 ≠ []) : Calls Tryz.prog 104 #[.agg (exC h n ua uc aa ac), .slice (some ⟨b, off, none⟩) 1 c] w (Pr (B8 (if h.op = ⟨#[45]⟩ then 45 :: par r0 8 t0 else if h.op = ⟨#[110, 111, 116]⟩ then [110, 111, 116, 32] ++ par r0 4 t0 else [110, 117, 108, 108, 40] ++ (t0 ++ [41]))) (if h.op = ⟨#[45]⟩ then 8 else if h.op = ⟨#[110, 111, 116]⟩ then 4 else 9) w) := by
 obtain ⟨k0, k1⟩ := cl1 hC
 have e1 := eqL h.op [45]
 have e2 := eqL h.op [110, 111, 116]
 by_cases h1 : h.op = ⟨#[45]⟩
 ·rw [decide_eq_true h1] at e1
  rw [if_pos h1, if_pos h1]
  have lp := par_len r0 8 t0
  have CA := Lib.hid (fun (W : World) => at_any t0 r0 8 W (by omega))
  have A1 := add_b8 [45] (par r0 8 t0) (by decide) (by omega)
  replace A1 : ∀ W, (Op.stringOp .add ⟨#[45]⟩ (B8 (par r0 8 t0))).run Tryz.prog W = .ok (.string (B8 (45 :: par r0 8 t0))) W := A1
  replace h1 := Lib.hid h1
  have q1 := Lib.hid e1
  clear e1 e2 lp
  have bb := below_two w (.cells (exC h n ua uc aa ac) 144) (.cells #[.string ⟨#[]⟩, .int .i64 0] 90)
  have GG := bw_two w (exC h n ua uc aa ac) #[.string ⟨#[]⟩, .int .i64 0] 144 90
  have hle := Lib.hid (two_le w)
  have B0 := Lib.hid bb
  have G := Lib.hid GG.1
  have H := Lib.hid GG.2
  have hne := Lib.hid (g_ne w)
  have R0 := Lib.hid (range_two (dec.keeps bb k0) (dec.keeps bb k1))
  have e9 := q1.out
  clear q1
  generalize B8 (45 :: par r0 8 t0) = s4 at *
  generalize B8 (par r0 8 t0) = s3 at *
  generalize B8 t0 = s0 at *
  clear bb GG hC l0 n0 k0 k1
  unfold exC at *
  go_enter Tryz.func104, Tryz.ntmps104
  go_upto_region 1 with fail
  generalize hw0 : ((w.alloc (.cells #[.int .i64 h.k, .string h.op, .string h.nm, .string h.tb, .int .i64 h.vk, .int .i64 h.vn, .string h.vs, .slice ua h.un.length uc, .int .i64 h.pa, .int .i64 h.wk, .int .i64 h.ws, .slice aa n ac] 144)).alloc (.cells #[.string ⟨#[]⟩, .int .i64 0] 90)) = w0 at *
  clear hw0
  generalize hg3 : w.heap.size + 1 = g3 at H hle hne ⊢
  generalize hg2 : w.heap.size = g2 at G hne ⊢
  clear hg2 hg3
  go_wp2_with (first | (refine arm_mid infPh Tryz.underlying90 rfl (.tmp 7) rfl rfl b off #[.string s0, .int .i64 r0] rfl R0.out rfl ?_) | (refine arm_storeT infPh (.tmp 5) (.tmp 8) rfl rfl _ _ _ _ rfl rfl (Blk.new _ _ _) rfl rfl (by simp [Value.oneCell']) ?_; intro w5 L5 hs5; have bb5 := (balloc (b0 w0) _).trans (hs5.below (Nat.le_refl _)); have H5 := Lib.hid ((H.out.past (.cells #[.string ⟨#[]⟩, .int .i64 0] 90)).st hs5 (Nat.ne_of_lt H.out.lt)); have e1 := (heap_old bb5 G.out).cell 1; simp only [List.getElem?_toArray, List.getElem?_cons_zero, List.getElem?_cons_succ] at e1; have B5 := Lib.hid (B0.out.trans (bb5.mono B0.out.size)); have M5 := Lib.hid L5; have e5 := L5.cell 0; simp only [List.getElem?_toArray, List.getElem?_cons_zero] at e5; clear hs5 bb5) | (refine arm_loadT infPh Tryz.underlying90 rfl (.tmp 5) rfl rfl _ _ _ rfl M5.out rfl ?_))
  refine (CA.out _).mono ?_
  rintro e w6 ⟨rfl, b6⟩
  have B6 := Lib.hid (bnext B5.out b6)
  replace H := Lib.hid (H5.out.keeps b6)
  clear b6 CA e1 e5
  go_wp2_with (refine arm_storeT infPh (.tmp 4) (.tmp 16) rfl rfl _ _ _ _ rfl rfl H.out rfl rfl (by simp [Value.oneCell']) ?_; intro w9 hb9 hs9)
  refine ret_T infPh Tryz.underlying90 rfl rfl _ _ _ _ _ rfl hb9 rfl ?_
  exact ⟨rfl, B6.out.trans (hs9.below hle.out)⟩
 ·rw [decide_eq_false h1] at e1
  rw [if_neg h1, if_neg h1]
  by_cases h2 : h.op = ⟨#[110, 111, 116]⟩
  ·rw [decide_eq_true h2] at e2
   rw [if_pos h2, if_pos h2]
   have lp := par_len r0 4 t0
   have CA := Lib.hid (fun (W : World) => at_any t0 r0 4 W (by omega))
   have hpn := par_ne r0 4 n0
   have hW : wrd [⟨#[110, 111, 116]⟩, B8 (par r0 4 t0)] = [110, 111, 116, 32] ++ par r0 4 t0 := by
    rw [wrd_cons _ (fun e => absurd (congrArg (fun b : ByteArray => b.size) e) (by decide)), tail_cons _ _ (b8_ne hpn), tail_nil, List.append_nil, B8_data]
    rfl
   have hlt : ([110, 111, 116, 32] ++ par r0 4 t0 : List UInt8).length ≤ 2000000 := by
    simp
    omega
   have hz : (wrd [⟨#[110, 111, 116]⟩, B8 (par r0 4 t0)]).length ≤ 100000000 := by rw [hW]; omega
   have CP := Lib.hid (fun (W : World) (a : Option Addr) (h : Ss W a 2 2 [⟨#[110, 111, 116]⟩, B8 (par r0 4 t0)]) => words_any a 2 2 _ W h (by decide) hz)
   rw [hW] at CP
   have N := Lib.hid (fun (W : World) => Ss.new W [⟨#[110, 111, 116]⟩, B8 (par r0 4 t0)] 2 #[.string ⟨#[110, 111, 116]⟩, .string (B8 (par r0 4 t0))] rfl rfl (by decide) 9)
   clear hz hW
   replace h1 := Lib.hid h1
   replace h2 := Lib.hid h2
   have q1 := Lib.hid e1
   have q2 := Lib.hid e2
   clear e1 e2 lp hlt hpn
   have bb := below_two w (.cells (exC h n ua uc aa ac) 144) (.cells #[.string ⟨#[]⟩, .int .i64 0] 90)
   have GG := bw_two w (exC h n ua uc aa ac) #[.string ⟨#[]⟩, .int .i64 0] 144 90
   have hle := Lib.hid (two_le w)
   have B0 := Lib.hid bb
   have G := Lib.hid GG.1
   have H := Lib.hid GG.2
   have hne := Lib.hid (g_ne w)
   have R0 := Lib.hid (range_two (dec.keeps bb k0) (dec.keeps bb k1))
   have e9 := q1.out
   have e8 := q2.out
   clear q1 q2
   generalize B8 ([110, 111, 116, 32] ++ par r0 4 t0) = s4 at *
   generalize B8 (par r0 4 t0) = s3 at *
   generalize B8 t0 = s0 at *
   clear bb GG hC l0 n0 k0 k1
   unfold exC at *
   go_enter Tryz.func104, Tryz.ntmps104
   go_upto_region 1 with fail
   generalize hw0 : ((w.alloc (.cells #[.int .i64 h.k, .string h.op, .string h.nm, .string h.tb, .int .i64 h.vk, .int .i64 h.vn, .string h.vs, .slice ua h.un.length uc, .int .i64 h.pa, .int .i64 h.wk, .int .i64 h.ws, .slice aa n ac] 144)).alloc (.cells #[.string ⟨#[]⟩, .int .i64 0] 90)) = w0 at *
   clear hw0
   generalize hg3 : w.heap.size + 1 = g3 at H hle hne ⊢
   generalize hg2 : w.heap.size = g2 at G hne ⊢
   clear hg2 hg3
   go_wp2_with (first | (refine arm_mid infPh Tryz.underlying90 rfl (.tmp 7) rfl rfl b off #[.string s0, .int .i64 r0] rfl R0.out rfl ?_) | (refine arm_storeT infPh (.tmp 5) (.tmp 8) rfl rfl _ _ _ _ rfl rfl (Blk.new _ _ _) rfl rfl (by simp [Value.oneCell']) ?_; intro w5 L5 hs5; have bb5 := (balloc (b0 w0) _).trans (hs5.below (Nat.le_refl _)); have H5 := Lib.hid ((H.out.past (.cells #[.string ⟨#[]⟩, .int .i64 0] 90)).st hs5 (Nat.ne_of_lt H.out.lt)); have e1 := (heap_old bb5 G.out).cell 1; simp only [List.getElem?_toArray, List.getElem?_cons_zero, List.getElem?_cons_succ] at e1; have B5 := Lib.hid (B0.out.trans (bb5.mono B0.out.size)); have M5 := Lib.hid L5; have e5 := L5.cell 0; simp only [List.getElem?_toArray, List.getElem?_cons_zero] at e5; clear hs5 bb5) | (refine arm_loadT infPh Tryz.underlying90 rfl (.tmp 5) rfl rfl _ _ _ rfl M5.out rfl ?_))
   refine (CA.out _).mono ?_
   rintro e w6 ⟨rfl, b6⟩
   have B6 := Lib.hid (bnext B5.out b6)
   replace H := Lib.hid (H5.out.keeps b6)
   clear b6 CA e1 e5
   go_wp2_with fail
   refine (CP.out _ _ (N.out _)).mono ?_
   rintro e w7 ⟨rfl, b7⟩
   have B7 := Lib.hid (bnext (balloc B6.out _) b7)
   replace H := Lib.hid ((H.out.keeps (balloc (b0 _) _)).keeps b7)
   clear b7 CP N
   go_wp2_with (refine arm_storeT infPh (.tmp 4) (.tmp 23) rfl rfl _ _ _ _ rfl rfl H.out rfl rfl (by simp [Value.oneCell']) ?_; intro w9 hb9 hs9)
   refine ret_T infPh Tryz.underlying90 rfl rfl _ _ _ _ _ rfl hb9 rfl ?_
   exact ⟨rfl, B7.out.trans (hs9.below hle.out)⟩
  ·rw [decide_eq_false h2] at e2
   rw [if_neg h2, if_neg h2]
   have A1 := add_b8 [110, 117, 108, 108, 40] t0 (by decide) (by omega)
   have A2 := add_b8 ([110, 117, 108, 108, 40] ++ t0) [41] (by simp; omega) (by decide)
   replace A1 : ∀ W, (Op.stringOp .add ⟨#[110, 117, 108, 108, 40]⟩ (B8 t0)).run Tryz.prog W = .ok (.string (B8 ([110, 117, 108, 108, 40] ++ t0))) W := A1
   replace A2 : ∀ W, (Op.stringOp .add (B8 ([110, 117, 108, 108, 40] ++ t0)) ⟨#[41]⟩).run Tryz.prog W = .ok (.string (B8 ([110, 117, 108, 108, 40] ++ (t0 ++ [41])))) W := by
    intro W
    have := A2 W
    rw [List.append_assoc] at this
    exact this
   have hW : wrd [B8 ([110, 117, 108, 108, 40] ++ (t0 ++ [41]))] = [110, 117, 108, 108, 40] ++ (t0 ++ [41]) := by
    have hx : ([110, 117, 108, 108, 40] ++ (t0 ++ [41]) : List UInt8) ≠ [] := fun e => absurd (congrArg List.length e) (by simp)
    rw [wrd_cons _ (b8_ne hx), tail_nil, List.append_nil, B8_data]
   have hlt : ([110, 117, 108, 108, 40] ++ (t0 ++ [41]) : List UInt8).length ≤ 2000000 := by
    simp
    omega
   have hz : (wrd [B8 ([110, 117, 108, 108, 40] ++ (t0 ++ [41]))]).length ≤ 100000000 := by rw [hW]; omega
   have CP := Lib.hid (fun (W : World) (a : Option Addr) (h : Ss W a 1 1 [B8 ([110, 117, 108, 108, 40] ++ (t0 ++ [41]))]) => primary_any a 1 1 _ W h (by decide) hz)
   rw [hW] at CP
   have N := Lib.hid (fun (W : World) => Ss.new W [B8 ([110, 117, 108, 108, 40] ++ (t0 ++ [41]))] 1 #[.string (B8 ([110, 117, 108, 108, 40] ++ (t0 ++ [41])))] rfl rfl (by decide) 9)
   clear hz hW
   replace h1 := Lib.hid h1
   replace h2 := Lib.hid h2
   have q1 := Lib.hid e1
   have q2 := Lib.hid e2
   clear e1 e2 hlt
   have bb := below_two w (.cells (exC h n ua uc aa ac) 144) (.cells #[.string ⟨#[]⟩, .int .i64 0] 90)
   have GG := bw_two w (exC h n ua uc aa ac) #[.string ⟨#[]⟩, .int .i64 0] 144 90
   have hle := Lib.hid (two_le w)
   have B0 := Lib.hid bb
   have G := Lib.hid GG.1
   have H := Lib.hid GG.2
   have hne := Lib.hid (g_ne w)
   have R0 := Lib.hid (range_two (dec.keeps bb k0) (dec.keeps bb k1))
   have e9 := q1.out
   have e8 := q2.out
   clear q1 q2
   generalize B8 ([110, 117, 108, 108, 40] ++ (t0 ++ [41])) = s4 at *
   generalize B8 ([110, 117, 108, 108, 40] ++ t0) = s3 at *
   generalize B8 t0 = s0 at *
   clear bb GG hC l0 n0 k0 k1
   unfold exC at *
   go_enter Tryz.func104, Tryz.ntmps104
   go_upto_region 1 with fail
   generalize hw0 : ((w.alloc (.cells #[.int .i64 h.k, .string h.op, .string h.nm, .string h.tb, .int .i64 h.vk, .int .i64 h.vn, .string h.vs, .slice ua h.un.length uc, .int .i64 h.pa, .int .i64 h.wk, .int .i64 h.ws, .slice aa n ac] 144)).alloc (.cells #[.string ⟨#[]⟩, .int .i64 0] 90)) = w0 at *
   clear hw0
   generalize hg3 : w.heap.size + 1 = g3 at H hle hne ⊢
   generalize hg2 : w.heap.size = g2 at G hne ⊢
   clear hg2 hg3
   go_wp2_with (first | (refine arm_mid infPh Tryz.underlying90 rfl (.tmp 7) rfl rfl b off #[.string s0, .int .i64 r0] rfl R0.out rfl ?_) | (refine arm_storeT infPh (.tmp 5) (.tmp 8) rfl rfl _ _ _ _ rfl rfl (Blk.new _ _ _) rfl rfl (by simp [Value.oneCell']) ?_; intro w5 L5 hs5; have bb5 := (balloc (b0 w0) _).trans (hs5.below (Nat.le_refl _)); have H5 := Lib.hid ((H.out.past (.cells #[.string ⟨#[]⟩, .int .i64 0] 90)).st hs5 (Nat.ne_of_lt H.out.lt)); have e1 := (heap_old bb5 G.out).cell 1; simp only [List.getElem?_toArray, List.getElem?_cons_zero, List.getElem?_cons_succ] at e1; have B5 := Lib.hid (B0.out.trans (bb5.mono B0.out.size)); have M5 := Lib.hid L5; have e5 := L5.cell 0; simp only [List.getElem?_toArray, List.getElem?_cons_zero] at e5; clear hs5 bb5) | (refine arm_loadT infPh Tryz.underlying90 rfl (.tmp 5) rfl rfl _ _ _ rfl M5.out rfl ?_))
   refine (CP.out _ _ (N.out _)).mono ?_
   rintro e w7 ⟨rfl, b7⟩
   have B7 := Lib.hid (bnext (balloc B5.out _) b7)
   replace H := Lib.hid ((H5.out.keeps (balloc (b0 _) _)).keeps b7)
   clear b7 CP N e1 e5
   go_wp2_with (refine arm_storeT infPh (.tmp 4) (.tmp 29) rfl rfl _ _ _ _ rfl rfl H.out rfl rfl (by simp [Value.oneCell']) ?_; intro w9 hb9 hs9)
   refine ret_T infPh Tryz.underlying90 rfl rfl _ _ _ _ _ rfl hb9 rfl ?_
   exact ⟨rfl, B7.out.trans (hs9.below hle.out)⟩
end Go.Proofs.YtbahfelnbofjjaaGreatDoor.ch
