/-
  CheckerWeakening.
-/
import Derived.Test.YtbkpjhffmaldmaaGreatDoorZWde
import Derived.Test.YtbkpjhffmaldmaaGreatDoorZWop
namespace Go.Proofs.YtbkpjhffmaldmaaGreatDoor.ch
open Go.RowKit dec

theorem ctl_app {ts ts' : List Tb} {gs gs' : List Fe} (h : CtL ts gs) (h' : CtL ts' gs') : CtL (ts ++ ts') (gs ++ gs') := ⟨fun t ht => by
  rcases List.mem_append.1 ht with ht | ht
  · exact h.t t ht
  · exact h'.t t ht, fun f hf => by
  rcases List.mem_append.1 hf with hf | hf
  · exact h.g f hf
  · exact h'.g f hf⟩
theorem feature_v (cs : Array Value) (ts : List Tb) (gs : List Fe) (f : Fe) (ds : Array Value) (w : World) (hC : CtV w cs ts gs) (hcl : CtL ts gs) (hs : f.szs) (hF : FeV w ds f) (T : Tabs w) : Calls Tryz.prog 24 #[.agg cs, .agg ds] w (Num (feE ts gs f) w) := by
  obtain ⟨xa, xc, ua, uc, aa, ac, rfl, S, E⟩ := hF
  exact Feature_any cs ts gs f xa ua aa xc uc ac w hC hcl hs S E T
theorem Ow.form2 {α : Type} {T : TypeId} {sz : Nat} {Q : Array Value → α → Prop} {w : World} {base : Nat} {v : Value} {l r : List α} (h : Ow T sz Q w base v ([] ++ l ++ r)) : ∃ a cap, v = .slice a (l.length + r.length) cap ∧ Ow T sz Q w base (.slice a (l.length + r.length) cap) (l ++ r) := by
  rw [List.nil_append] at h
  obtain ⟨a, cap, rfl⟩ := h.form
  exact ⟨a, cap, by rw [List.length_append], by rw [List.length_append] at h; exact h⟩
theorem Ow.keeps {α : Type} {T : TypeId} {sz : Nat} {Q : Array Value → α → Prop} {w w' : World} {base : Nat} {v : Value} {l : List α} (h : Ow T sz Q w base v l) (b : Below w.heap.size w w') : Ow T sz Q w' base v l := by
  obtain ⟨css, O⟩ := h
  refine ⟨css, O.len, O.cel, ?_, O.q⟩
  obtain ⟨h1, h2⟩ := O.own
  refine ⟨h1, ?_⟩
  rcases h2 with h0 | ⟨g, cap, cur, e, hbg, hh, r⟩
  · exact .inl h0
  · refine .inr ⟨g, cap, cur, e, hbg, ?_, r⟩
    have : g < w.heap.size := by
      rcases Nat.lt_or_ge g w.heap.size with h' | h'
      · exact h'
      · rw [Array.getElem?_eq_none h'] at hh; cases hh
    rw [b.block _ this]
    exact hh
/-- An operation that is not wanted. -/
theorem held_pass {P : Program} {Q : Exit → Act → World → Prop} {md : Region.Mode} {S : World → Prop} {l : List Oper} {i d : Nat} {oi : Oper} {fuel : Nat} {listed : Array Bool} {t : List Value} {ds : List Deferred} {w : World} (hi : l[i]? = some oi)
    (hs : Region.noSelect l.toArray = true) (hf : Region.free md l.toArray listed i = true) (hr : (Region.ready md l.toArray listed).contains i = true) (hd : oi.dst = some d)
    (hQ : ∀ c a w, Q (.panic c) (a.put (some d) undef) w → Q (.panic c) a w) (hw : Region.wanted oi (yielded l.toArray t.toArray) = false) (hS : S w)
    (h : wpAnyH P md l.toArray Q S fuel (listed.setIfInBounds i true) ⟨(t.set d undef).toArray, ds⟩ w) : wpAnyH P md l.toArray Q S (fuel + 1) listed ⟨t.toArray, ds⟩ w := by
  refine wpAnyH_take (i := i) (oi := oi) (v := undef) (by simpa using hi) hs hf hr (by rw [hd]; exact hQ) (.inr ⟨hw, rfl⟩) hS ?_
  rw [hd]
  simpa [Act.put] using h
theorem held_pass1 {P : Program} {Q : Exit → Act → World → Prop} {md : Region.Mode} {S : World → Prop} {l : List Oper} {i : Nat} {oi : Oper} {fuel : Nat} {listed : Array Bool} {a : Act} {w : World} (hi : l[i]? = some oi)
    (hr : Region.ready md l.toArray listed = [i]) (hw : Region.wanted oi (yielded l.toArray a.tmps) = false) (hS : S w)
    (h : wpAnyH P md l.toArray Q S fuel (listed.setIfInBounds i true) (a.put oi.dst undef) w) : wpAnyH P md l.toArray Q S (fuel + 1) listed a w := by
  refine wpAnyH_ready hr (by simp) (AllReadyH.cons (o := oi) (by simpa using hi) (fun K hK => ?_) AllReadyH.nil)
  rw [if_neg (by rw [hw]; decide)]
  exact hK.out _ _ hS (fun _ => h)
theorem Rw.at {α : Type} {sz : Nat} {V : World → Array Value → α → Prop} {w : World} {a : Option Addr} {n cap : Nat} {l : List α} (h : Rw sz V w a n cap l) {j : Nat} (hj : j < l.length) : ∃ b off cs, a = some ⟨b, off, none⟩ ∧ cs.size = sz ∧ w.rangeAt b (off + j * sz) cs.toList ∧ V w cs l[j] := by
  obtain ⟨b, off, e, hA⟩ := h.hat.resolve_left (by omega)
  obtain ⟨cs, h1, h2, h3⟩ := hA j hj
  exact ⟨b, off, cs, e, h1, h2, h3⟩
set_option maxRecDepth 100000 in
set_option maxHeartbeats 8000000 in
theorem walk_weakening (cs : Array Value) (ts ts' : List Tb) (gs gs' : List Fe) (en : ByteArray) (x : Ex) (ua aa a9 b9 : Option Addr) (uc ac n9 c9 m9 d9 : Nat) (w : World) (hC : CtV w cs ts gs) (hcl : CtL ts gs) (hcl' : CtL ts' gs') (hsx : x.szs) (hlx : x.lns) (hgs : ∀ f ∈ gs, f.szs) (hX : Ec w x ua uc aa ac) (hT' : Tbs' w a9 n9 c9 ts') (hG' : Fes w b9 m9 d9 gs') (hn1 : ts.length ≤ 1048576) (hn2 : ts'.length ≤ 1048576) (hn3 : gs.length ≤ 1048576) (hn4 : gs'.length ≤ 1048576) (T : Tabs w) :
    Calls Tryz.prog 7 #[.agg cs, .string en, .agg (exC x.h x.ar.len ua uc aa ac), .slice a9 n9 c9, .slice b9 m9 d9] w (Bl true w) := by
  obtain ⟨ta, tn, tc, ga, gn, gc, da, dn, dc, pa, pn, pc, rfl, hT, hG⟩ := hC
  unfold ctC
  have hC : CtV w #[.slice ta tn tc, .slice ga gn gc, .slice da dn dc, .slice pa pn pc] ts gs := ⟨ta, tn, tc, ga, gn, gc, da, dn, dc, pa, pn, pc, rfl, hT, hG⟩
  have hXV : ExV w (exC x.h x.ar.len ua uc aa ac) x := ⟨ua, uc, aa, ac, rfl, hX⟩
  have CE := Lib.hid (fun (W : World) (b : Below w.heap.size w W) => example_any W (T.stays b))
  have CX := Lib.hid (fun (W : World) (b : Below w.heap.size w W) => infer_v #[.slice ta tn tc, .slice ga gn gc, .slice da dn dc, .slice pa pn pc] ts gs en x (exC x.h x.ar.len ua uc aa ac) W (ct_keeps hC b) hcl hsx hlx (hXV.keeps b) (T.stays b))
  have CD := Lib.hid (fun (cs : Array Value) (W : World) (b : Below w.heap.size w W) (hC : CtV W cs (ts ++ ts') (gs ++ gs')) => infer_v cs (ts ++ ts') (gs ++ gs') en x (exC x.h x.ar.len ua uc aa ac) W hC (ctl_app hcl hcl') hsx hlx (hXV.keeps b) (T.stays b))
  have CF := Lib.hid (fun (j : Nat) (hj : j < gs.length) (ds : Array Value) (W : World) (b : Below w.heap.size w W) (hF : FeV W ds gs[j]) => feature_v #[.slice ta tn tc, .slice ga gn gc, .slice da dn dc, .slice pa pn pc] ts gs gs[j] ds W (ct_keeps hC b) hcl (hgs _ (List.getElem_mem hj)) hF (T.stays b))
  have CG := Lib.hid (fun (j : Nat) (hj : j < gs.length) (cs ds : Array Value) (W : World) (b : Below w.heap.size w W) (hC : CtV W cs (ts ++ ts') (gs ++ gs')) (hF : FeV W ds gs[j]) => feature_v cs (ts ++ ts') (gs ++ gs') gs[j] ds W hC (ctl_app hcl hcl') (hgs _ (List.getElem_mem hj)) hF (T.stays b))
  have CQ := Lib.hid (fun (t : Ty) (a b : Option Addr) (c d : Nat) (W : World) (S1 : un.Sl W a t.un.length c t.un) (S2 : un.Sl W b t.un.length d t.un) => (show Calls Tryz.prog 23 #[.agg (tyC t a c), .agg (tyC t b d)] W (Bl true W) from by have h := sameType_any t t a b c d W S1 S2; rwa [sameT_refl] at h))
  have hap := Lib.hid (fun (h : (inf ts gs en x).1 = 0) => inf_app (ts' := ts') (gs' := gs') h)
  have hfe := Lib.hid (fun (j : Nat) (hj : j < gs.length) (h : feE ts gs gs[j] = 0) => feE_app (ts' := ts') (gs' := gs') h)
  have HB := Lib.hid hT
  have HG := Lib.hid hG
  have HB' := Lib.hid hT'
  have HG' := Lib.hid hG'
  have hz1 := Lib.hid (show ts.length + ts'.length ≤ 2097152 ∧ gs.length + gs'.length ≤ 2097152 from ⟨by omega, by omega⟩)
  have hgn := Lib.hid hG.hn
  have bb := below_two w (.cells #[.slice ta tn tc, .slice ga gn gc, .slice da dn dc, .slice pa pn pc] 46) (.cells (exC x.h x.ar.len ua uc aa ac) 29)
  have B0 := Lib.hid bb
  have GG := bw_two w #[.slice ta tn tc, .slice ga gn gc, .slice da dn dc, .slice pa pn pc] (exC x.h x.ar.len ua uc aa ac) 46 29
  have V5 := Lib.hid GG.1
  have V7 := Lib.hid GG.2
  clear hC hT hG hT' hG' T hX hXV hcl hcl' hsx hlx hgs hn1 hn2 hn3 hn4 bb GG
  generalize hrx : inf ts gs en x = rx at *
  clear hrx
  go_enter Tryz.func7, Tryz.ntmps7
  go_wp2_with fail
  refine (CE.out _ B0.out).mono ?_
  rintro e w1 ⟨rfl, b1⟩
  have B1 := Lib.hid (bnext B0.out b1)
  replace V5 := Lib.hid (V5.out.keeps b1)
  replace V7 := Lib.hid (V7.out.keeps b1)
  clear b1
  clear CE
  generalize hg7 : w.heap.size + 1 = g7 at V7 ⊢
  generalize hg5 : w.heap.size = g5 at V5 ⊢
  clear hg7 hg5
  go_wp2_with (first | (refine arm_loadT infCa Tryz.underlying46 rfl (.tmp 5) rfl rfl _ _ _ rfl V5.out rfl ?_) | (refine arm_loadT infX Tryz.underlying29 rfl (.tmp 7) rfl rfl _ _ _ rfl V7.out rfl ?_))
  refine (CX.out _ B1.out).mono ?_
  rintro e w2 ⟨xa, xc, rfl, sx, b2⟩
  have B2 := Lib.hid (bnext B1.out b2)
  replace V5 := Lib.hid (V5.out.keeps b2)
  replace V7 := Lib.hid (V7.out.keeps b2)
  have S12 := Lib.hid sx
  clear b2 sx
  clear CX
  go_upto_region 3 with (first | (refine arm_storeT infTy (.tmp 12) (.tmp 24) rfl rfl _ _ _ _ rfl rfl (Blk.new _ _ _) rfl rfl (by simp [tyC, Value.oneCell']) ?_; intro w31 L hs; have bb := (balloc (b0 w2) _).trans (hs.below (Nat.le_refl _))))
  have B31 := Lib.hid (bnext B2.out bb)
  replace V5 := Lib.hid (V5.out.keeps bb)
  replace V7 := Lib.hid (V7.out.keeps bb)
  replace S12 := Lib.hid (S12.out.keeps bb)
  have L12 := Lib.hid L
  clear L bb hs
  generalize w2.heap.size = g12 at *
  by_cases hx : rx.1 = 0
  · have q := in_is hx
    have q2 : (rx.1 != 0) = false := by simp [hx]
    have hap2 := hap.out hx
    replace hx := Lib.hid hx
    replace hap2 := Lib.hid hap2
    clear hap
    go_upto_region 6 with (first | (refine arm_loadT infCa Tryz.underlying46 rfl (.tmp 5) rfl rfl _ _ _ rfl V5.out rfl ?_))
    have q8 := Lib.hid (balloc (b0 w31) (.cells #[.slice ta tn tc, .slice ga gn gc, .slice da dn dc, .slice pa pn pc] 46))
    have V14 := Lib.hid (Blk.new w31 46 #[.slice ta tn tc, .slice ga gn gc, .slice da dn dc, .slice pa pn pc])
    obtain ⟨w4, h4⟩ : ∃ W, W = (w31.alloc (.cells #[.slice ta tn tc, .slice ga gn gc, .slice da dn dc, .slice pa pn pc] 46)) := ⟨_, rfl⟩
    have zz4 := Lib.hid (show w4.heap.size = w31.heap.size + 1 from by rw [h4, sz_al])
    rw [← h4] at q8 V14
    refine wp_world w4 h4 ?_
    clear h4
    have bz := q8
    have lz := Lib.hid (show w31.heap.size ≤ w4.heap.size from by have := zz4.out; omega)
    have lg := Lib.hid (show w31.heap.size + 1 ≤ w4.heap.size from Nat.le_of_eq zz4.out.symm)
    clear q8 zz4
    have q6 := Lib.hid (balloc (b0 w4) (.cells #[] 39))
    have LO := Lib.hid (Ow.none_ (α := Tb) (T := 39) (sz := 4) (Q := fun c x => TbV w c x) (w := w4) (Nat.le_refl _))
    have n1 := (V5.out.keeps ((bz.out).trans (q6.out.mono lz.out))).cell 0
    simp only [List.getElem?_toArray, List.getElem?_cons_zero] at n1
    go_upto_region 7 with (first | (refine wpList_catO iTb (Q := fun c x => TbV w c x) (V := TbV) (w0 := w) (bnext B31.out (bz.out.trans (q6.out.mono lz.out))) rfl (.tmp 30) (.tmp 32) rfl w4.heap.size _ ([] : List Tb) rfl LO.out ta tn tc ts rfl HB.out (fun c x h => ⟨h, tb_one h⟩) (by rw [List.length_nil]; have := hz1.out; omega) (by rw [List.length_nil]; have := hz1.out; omega) (by rw [sz_al]; omega) ?_; intro v1 w1a O1 bw1; have bq1 := q6.out.trans bw1) | (refine wpList_catO iTb (Q := fun c x => TbV w c x) (V := TbV) (w0 := w) (bnext B31.out (bz.out.trans (bq1.mono lz.out))) rfl (.tmp 33) (.tmp 34) rfl w4.heap.size _ _ rfl O1 a9 n9 c9 ts' rfl HB'.out (fun c x h => ⟨h, tb_one h⟩) (by rw [List.length_append, List.length_nil]; have := hz1.out; omega) (by rw [List.length_append, List.length_nil]; have := hz1.out; omega) bq1.size ?_; intro v2 w2a O2 bw2; obtain ⟨a6, c6, rfl, O2'⟩ := O2.form2; have bq2 := bq1.trans bw2; have D14 := V14.out.below bq2 V14.out.lt; have d1 := D14.cell 0; simp only [List.getElem?_toArray, List.getElem?_cons_zero] at d1; have z1 := D14.free 0))
    have P9 := D14.setCell 0 (.slice a6 (ts.length + ts'.length) c6)
    have hlt9 := V14.out.lt
    have O6 := O2'.st P9.2 hlt9
    have bw3 := (bz.out.trans (bq2.mono lz.out)).trans (P9.2.below (Nat.le_refl _))
    have V14a := Lib.hid (show Blk _ _ 46 #[.slice a6 (ts.length + ts'.length) c6, .slice ga gn gc, .slice da dn dc, .slice pa pn pc] from P9.1)
    obtain ⟨w5, h11⟩ : ∃ W, W = w2a.setCell ⟨w31.heap.size, 0, none⟩ (.slice a6 (ts.length + ts'.length) c6) := ⟨_, rfl⟩
    rw [← h11] at O6 bw3 V14a
    refine wp_world w5 h11 ?_
    have lz2 := Lib.hid (show w31.heap.size ≤ w5.heap.size from bw3.size)
    clear h11 P9 D14 O1 O2 O2' bw1 bw2 d1 z1 n1 LO q6 bq1 bq2 hlt9 V14 lz bz
    have bz := Lib.hid bw3
    have lz := lz2
    replace O6 := Lib.hid O6
    clear bw3 lz2
    have q7 := Lib.hid (balloc (b0 w5) (.cells #[] 54))
    have LO := Lib.hid (Ow.none_ (α := Fe) (T := 54) (sz := 18) (Q := fun c x => FeV w c x) (w := w5) (Nat.le_refl _))
    have n1 := (V5.out.keeps ((bz.out).trans (q7.out.mono lz.out))).cell 1
    simp only [List.getElem?_toArray, List.getElem?_cons_zero, List.getElem?_cons_succ] at n1
    go_upto_region 8 with (first | (refine wpList_catO iFe (Q := fun c x => FeV w c x) (V := FeV) (w0 := w) (bnext B31.out (bz.out.trans (q7.out.mono lz.out))) rfl (.tmp 37) (.tmp 39) rfl w5.heap.size _ ([] : List Fe) rfl LO.out ga gn gc gs rfl HG.out (fun c x h => ⟨h, fe_one h⟩) (by rw [List.length_nil]; have := hz1.out; omega) (by rw [List.length_nil]; have := hz1.out; omega) (by rw [sz_al]; omega) ?_; intro v1 w1a O1 bw1; have bq1 := q7.out.trans bw1) | (refine wpList_catO iFe (Q := fun c x => FeV w c x) (V := FeV) (w0 := w) (bnext B31.out (bz.out.trans (bq1.mono lz.out))) rfl (.tmp 40) (.tmp 41) rfl w5.heap.size _ _ rfl O1 b9 m9 d9 gs' rfl HG'.out (fun c x h => ⟨h, fe_one h⟩) (by rw [List.length_append, List.length_nil]; have := hz1.out; omega) (by rw [List.length_append, List.length_nil]; have := hz1.out; omega) bq1.size ?_; intro v2 w2a O2 bw2; obtain ⟨a7, c7, rfl, O2'⟩ := O2.form2; have bq2 := bq1.trans bw2; have D14 := V14a.out.below bq2 V14a.out.lt; have d1 := D14.cell 1; simp only [List.getElem?_toArray, List.getElem?_cons_zero, List.getElem?_cons_succ] at d1; have z1 := D14.free 1))
    have P9 := D14.setCell 1 (.slice a7 (gs.length + gs'.length) c7)
    have hlt9 := V14a.out.lt
    have O7 := O2'.st P9.2 hlt9
    have bw3 := (bz.out.trans (bq2.mono lz.out)).trans (P9.2.below (Nat.le_refl _))
    have V14b := Lib.hid (show Blk _ _ 46 #[.slice a6 (ts.length + ts'.length) c6, .slice a7 (gs.length + gs'.length) c7, .slice da dn dc, .slice pa pn pc] from P9.1)
    have O6b := (O6.out.keeps bq2).st P9.2 (Nat.lt_of_lt_of_le (Nat.lt_succ_self _) lg.out)
    obtain ⟨w6, h11⟩ : ∃ W, W = w2a.setCell ⟨w31.heap.size, 1, none⟩ (.slice a7 (gs.length + gs'.length) c7) := ⟨_, rfl⟩
    rw [← h11] at O7 bw3 V14b O6b
    refine wp_world w6 h11 ?_
    have lz2 := Lib.hid (show w31.heap.size ≤ w6.heap.size from bw3.size)
    clear h11 P9 D14 O1 O2 O2' bw1 bw2 d1 z1 n1 LO q7 bq1 bq2 hlt9 V14a lz bz O6
    have bz := Lib.hid bw3
    have lz := lz2
    replace O7 := Lib.hid O7
    clear bw3 lz2
    have bw6 := bz.out
    have B6 := Lib.hid (bnext B31.out bw6)
    replace V5 := Lib.hid (V5.out.keeps bw6)
    replace V7 := Lib.hid (V7.out.keeps bw6)
    replace S12 := Lib.hid (S12.out.keeps bw6)
    replace L12 := Lib.hid (L12.out.keeps bw6)
    have HD := Lib.hid (show CtV w6 #[.slice a6 (ts.length + ts'.length) c6, .slice a7 (gs.length + gs'.length) c7, .slice da dn dc, .slice pa pn pc] (ts ++ ts') (gs ++ gs') from ⟨a6, ts.length + ts'.length, c6, a7, gs.length + gs'.length, c7, da, dn, dc, pa, pn, pc, rfl, O6b.row (V := TbV) (fun c x h => h.keeps B6.out), O7.out.row (V := FeV) (fun c x h => h.keeps B6.out)⟩)
    clear O6b O7 bz lz lg bw6 HB HB' HG' hz1
    generalize w31.heap.size = g14 at V14b ⊢
    have CD2 := Lib.hid (fun (W : World) (b : Below w.heap.size w W) (hC : CtV W #[.slice a6 (ts.length + ts'.length) c6, .slice a7 (gs.length + gs'.length) c7, .slice da dn dc, .slice pa pn pc] (ts ++ ts') (gs ++ gs')) => (show Calls Tryz.prog 22 #[.agg #[.slice a6 (ts.length + ts'.length) c6, .slice a7 (gs.length + gs'.length) c7, .slice da dn dc, .slice pa pn pc], .string en, .agg (exC x.h x.ar.len ua uc aa ac)] W (IfV rx W) from by have h := CD.out _ W b hC; rwa [hap2.out] at h))
    clear CD hap2
    go_wp2_with (first | (refine arm_loadT infCa Tryz.underlying46 rfl (.tmp 14) rfl rfl _ _ _ rfl V14b.out rfl ?_) | (refine arm_loadT infX Tryz.underlying29 rfl (.tmp 7) rfl rfl _ _ _ rfl V7.out rfl ?_))
    refine (CD2.out _ B6.out HD.out).mono ?_
    rintro e w7 ⟨ra, rc, rfl, sr, b7⟩
    have B7 := Lib.hid (bnext B6.out b7)
    replace V5 := Lib.hid (V5.out.keeps b7)
    replace V7 := Lib.hid (V7.out.keeps b7)
    replace S12 := Lib.hid (S12.out.keeps b7)
    replace L12 := Lib.hid (L12.out.keeps b7)
    replace HD := Lib.hid (ct_keeps HD.out b7)
    replace V14b := Lib.hid (V14b.out.keeps b7)
    have S15 := Lib.hid sr
    clear b7 sr
    clear CD2
    go_upto_region 9 with (first | (refine arm_storeT infTy (.tmp 15) (.tmp 49) rfl rfl _ _ _ _ rfl rfl (Blk.new _ _ _) rfl rfl (by simp [tyC, Value.oneCell']) ?_; intro w8 L hs; have bb := (balloc (b0 w7) _).trans (hs.below (Nat.le_refl _))))
    have B8 := Lib.hid (bnext B7.out bb)
    replace V5 := Lib.hid (V5.out.keeps bb)
    replace V7 := Lib.hid (V7.out.keeps bb)
    replace S12 := Lib.hid (S12.out.keeps bb)
    replace L12 := Lib.hid (L12.out.keeps bb)
    replace HD := Lib.hid (ct_keeps HD.out bb)
    replace V14b := Lib.hid (V14b.out.keeps bb)
    replace S15 := Lib.hid (S15.out.keeps bb)
    have L15 := Lib.hid L
    clear L bb hs
    generalize w7.heap.size = g15 at *
    go_wp2_with (first | (refine arm_loadG infTy Tryz.underlying36 rfl (.tmp 12) rfl rfl _ _ _ rfl L12.out rfl ?_) | (refine arm_loadG infTy Tryz.underlying36 rfl (.tmp 15) rfl rfl _ _ _ rfl L15.out rfl ?_))
    refine (CQ.out rx.2 xa ra xc rc _ S12.out S15.out).mono ?_
    rintro e w9 ⟨rfl, b9⟩
    have B9 := Lib.hid (bnext B8.out b9)
    replace V5 := Lib.hid (V5.out.keeps b9)
    replace V7 := Lib.hid (V7.out.keeps b9)
    replace HD := Lib.hid (ct_keeps HD.out b9)
    replace V14b := Lib.hid (V14b.out.keeps b9)
    clear b9
    clear CQ S12 S15 L12 L15
    go_wp2_with fail
    go_loopw [17] (fun vi wr => ∃ j : Nat, vi = .int .i64 (j : Nat) ∧ Hid (j ≤ gn) ∧ Hid (Below w9.heap.size w9 wr)) (fun vi _ => gn - (intOf vi).toNat)
    case atStart => exact ⟨0, rfl, Lib.hid (Nat.zero_le _), Lib.hid (b0 w9)⟩
    case round =>
      obtain ⟨j, rfl, hj, hb⟩ := hrel
      have Bw := Lib.hid (bnext B9.out hb.out)
      replace V5 := Lib.hid (V5.out.keeps hb.out)
      replace V14b := Lib.hid (V14b.out.keeps hb.out)
      replace HD := Lib.hid (ct_keeps HD.out hb.out)
      have n11 := V5.out.cell 1
      simp only [List.getElem?_toArray, List.getElem?_cons_zero, List.getElem?_cons_succ] at n11
      by_cases hlt : j < gn
      · have q1 : decide ((j : Int) < (gn : Int)) = true := decide_eq_true (by omega)
        have i1 : (j : Int) < (gn : Int) := by omega
        have f4 := Lib.hid (next_at (j := j) (by have := HG.out.hcap; have := HG.out.hmax; omega))
        have hjg : j < gs.length := by rw [hgn.out]; exact hlt
        obtain ⟨bk, off, cf, rfl, hcf, R1, F1⟩ := HG.out.at hjg
        replace R1 := Lib.hid R1
        replace F1 := Lib.hid F1
        replace hcf := Lib.hid hcf
        have hlt2 := Lib.hid hlt
        have CFj := Lib.hid (fun ds W b F => CF.out j hjg ds W b F)
        have CGj := Lib.hid (fun cs ds W b hC F => CG.out j hjg cs ds W b hC F)
        have hf := Lib.hid (fun h => hfe.out j hjg h)
        clear CF CG hfe
        generalize gs[j] = fj at *
        generalize hf1 : feE ts gs fj = f1 at *
        clear hf1
        generalize feE (ts ++ ts') (gs ++ gs') fj = f2 at *
        go_upto_region 14 with fail
        go_cut [83] from 59 to 83 (fun v wx => v = .bool false ∧ Hid (Below wr.heap.size wr wx))
        case first =>
          by_cases hf0 : f1 = 0
          · have h2 := hf.out hf0
            have qf := in_is hf0
            have qg : (f2 != 0) = false := by rw [h2]; rfl
            replace hf0 := Lib.hid hf0
            clear h2 hf
            refine wp_region_held_drew (S := fun w' => Below wr.heap.size wr w') (by kernel_rfl) (b0 wr).drew (fun hH => ?_)
            refine held_take (i := 0) (d := 66) (v := .agg #[.slice ta tn tc, .slice (some ⟨bk, off, none⟩) gn gc, .slice da dn dc, .slice pa pn pc]) rfl (by kernel_rfl) (by kernel_rfl) (by kernel_rfl) rfl (fun _ _ _ h => h) rfl hH (fun w' hS => yield_load infCa Tryz.underlying46 rfl (.tmp 5) rfl _ _ _ rfl (V5.out.keeps hS) rfl) ?_
            simp only [List.set_cons_zero, List.set_cons_succ]
            refine held_take (i := 1) (d := 67) (v := ?_) rfl (by kernel_rfl) (by kernel_rfl) (by kernel_rfl) rfl (fun _ _ _ h => h) rfl hH (fun w' hS => ?_) ?_
            rotate_left
            · go_simp; first | done | with_reducible rfl
            simp only [List.set_cons_zero, List.set_cons_succ]
            refine held_take (i := 2) (d := 68) (v := ?_) rfl (by kernel_rfl) (by kernel_rfl) (by kernel_rfl) rfl (fun _ _ _ h => h) rfl hH (fun w' hS => ?_) ?_
            rotate_left
            · have m11 := (V5.out.keeps hS).cell 1; simp only [List.getElem?_toArray, List.getElem?_cons_zero, List.getElem?_cons_succ] at m11; go_simp; first | done | with_reducible rfl
            simp only [List.set_cons_zero, List.set_cons_succ]
            refine held_take (i := 3) (d := 69) (v := ?_) rfl (by kernel_rfl) (by kernel_rfl) (by kernel_rfl) rfl (fun _ _ _ h => h) rfl hH (fun w' hS => ?_) ?_
            rotate_left
            · go_simp; first | done | with_reducible rfl
            simp only [List.set_cons_zero, List.set_cons_succ]
            refine held_take (i := 4) (d := 70) (v := ?_) rfl (by kernel_rfl) (by kernel_rfl) (by kernel_rfl) rfl (fun _ _ _ h => h) rfl hH (fun w' hS => ?_) ?_
            rotate_left
            · go_simp; first | done | with_reducible rfl
            simp only [List.set_cons_zero, List.set_cons_succ]
            refine held_take (i := 5) (d := 71) (v := .agg cf) rfl (by kernel_rfl) (by kernel_rfl) (by kernel_rfl) rfl (fun _ _ _ h => h) rfl hH (fun w' hS => yield_loadM infFe Tryz.underlying54 rfl (.tmp 70) rfl bk (off + j * 18) cf rfl (range_keeps R1.out (bnext Bw.out hS)) hcf.out) ?_
            simp only [List.set_cons_zero, List.set_cons_succ]
            generalize wr.drew = yy at *
            refine held_only (i := 6) rfl (by kernel_rfl) rfl (fun K hK => ?_)
            go_simp
            refine (CFj.out cf _ (bnext Bw.out hH) (F1.out.keeps (bnext Bw.out hH))).mono ?_
            rintro e y141 ⟨rfl, b141⟩
            skip
            refine hK.out _ _ (bnext hH b141) (fun hH => ?_)
            clear hK K
            clear b141
            refine held_take (i := 7) (d := 73) (v := ?_) rfl (by kernel_rfl) (by kernel_rfl) (by kernel_rfl) rfl (fun _ _ _ h => h) rfl hH (fun w' hS => ?_) ?_
            rotate_left
            · go_simp; first | done | with_reducible rfl
            simp only [List.set_cons_zero, List.set_cons_succ]
            refine held_take (i := 8) (d := 74) (v := ?_) rfl (by kernel_rfl) (by kernel_rfl) (by kernel_rfl) rfl (fun _ _ _ h => h) rfl hH (fun w' hS => ?_) ?_
            rotate_left
            · go_simp; first | done | with_reducible rfl
            simp only [List.set_cons_zero, List.set_cons_succ]
            refine held_take (i := 9) (d := 75) (v := .agg #[.slice a6 (ts.length + ts'.length) c6, .slice a7 (gs.length + gs'.length) c7, .slice da dn dc, .slice pa pn pc]) rfl (by kernel_rfl) (by kernel_rfl) (by kernel_rfl) rfl (fun _ _ _ h => h) rfl hH (fun w' hS => yield_load infCa Tryz.underlying46 rfl (.tmp 14) rfl _ _ _ rfl (V14b.out.keeps hS) rfl) ?_
            simp only [List.set_cons_zero, List.set_cons_succ]
            refine held_take (i := 10) (d := 76) (v := ?_) rfl (by kernel_rfl) (by kernel_rfl) (by kernel_rfl) rfl (fun _ _ _ h => h) rfl hH (fun w' hS => ?_) ?_
            rotate_left
            · go_simp; first | done | with_reducible rfl
            simp only [List.set_cons_zero, List.set_cons_succ]
            refine held_take (i := 11) (d := 77) (v := ?_) rfl (by kernel_rfl) (by kernel_rfl) (by kernel_rfl) rfl (fun _ _ _ h => h) rfl hH (fun w' hS => ?_) ?_
            rotate_left
            · have m11 := (V5.out.keeps hS).cell 1; simp only [List.getElem?_toArray, List.getElem?_cons_zero, List.getElem?_cons_succ] at m11; go_simp; first | done | with_reducible rfl
            simp only [List.set_cons_zero, List.set_cons_succ]
            refine held_take (i := 12) (d := 78) (v := ?_) rfl (by kernel_rfl) (by kernel_rfl) (by kernel_rfl) rfl (fun _ _ _ h => h) rfl hH (fun w' hS => ?_) ?_
            rotate_left
            · go_simp; first | done | with_reducible rfl
            simp only [List.set_cons_zero, List.set_cons_succ]
            refine held_take (i := 13) (d := 79) (v := ?_) rfl (by kernel_rfl) (by kernel_rfl) (by kernel_rfl) rfl (fun _ _ _ h => h) rfl hH (fun w' hS => ?_) ?_
            rotate_left
            · go_simp; first | done | with_reducible rfl
            simp only [List.set_cons_zero, List.set_cons_succ]
            refine held_take (i := 14) (d := 80) (v := .agg cf) rfl (by kernel_rfl) (by kernel_rfl) (by kernel_rfl) rfl (fun _ _ _ h => h) rfl hH (fun w' hS => yield_loadM infFe Tryz.underlying54 rfl (.tmp 79) rfl bk (off + j * 18) cf rfl (range_keeps R1.out (bnext Bw.out hS)) hcf.out) ?_
            simp only [List.set_cons_zero, List.set_cons_succ]
            refine held_only (i := 15) rfl (by kernel_rfl) rfl (fun K hK => ?_)
            go_simp
            refine (CGj.out _ cf _ (bnext Bw.out hH) (ct_keeps HD.out hH) (F1.out.keeps (bnext Bw.out hH))).mono ?_
            rintro e y142 ⟨rfl, b142⟩
            skip
            refine hK.out _ _ (bnext hH b142) (fun hH => ?_)
            clear hK K
            clear b142
            refine held_take (i := 16) (d := 82) (v := ?_) rfl (by kernel_rfl) (by kernel_rfl) (by kernel_rfl) rfl (fun _ _ _ h => h) rfl hH (fun w' hS => ?_) ?_
            rotate_left
            · go_simp; first | done | with_reducible rfl
            simp only [List.set_cons_zero, List.set_cons_succ]
            refine held_take (i := 17) (d := 83) (v := ?_) rfl (by kernel_rfl) (by kernel_rfl) (by kernel_rfl) rfl (fun _ _ _ h => h) rfl hH (fun w' hS => ?_) ?_
            rotate_left
            · go_simp; first | done | with_reducible rfl
            simp only [List.set_cons_zero, List.set_cons_succ]
            refine wpAnyH_done (by kernel_rfl) ?_ _
            go_wp2_with fail
            go_meet
            case rel => exact ⟨rfl, Lib.hid hH⟩
          · have qf := in_ne hf0
            replace hf0 := Lib.hid hf0
            clear hf
            refine wp_region_held_drew (S := fun w' => Below wr.heap.size wr w') (by kernel_rfl) (b0 wr).drew (fun hH => ?_)
            refine held_take (i := 0) (d := 66) (v := .agg #[.slice ta tn tc, .slice (some ⟨bk, off, none⟩) gn gc, .slice da dn dc, .slice pa pn pc]) rfl (by kernel_rfl) (by kernel_rfl) (by kernel_rfl) rfl (fun _ _ _ h => h) rfl hH (fun w' hS => yield_load infCa Tryz.underlying46 rfl (.tmp 5) rfl _ _ _ rfl (V5.out.keeps hS) rfl) ?_
            simp only [List.set_cons_zero, List.set_cons_succ]
            refine held_take (i := 1) (d := 67) (v := ?_) rfl (by kernel_rfl) (by kernel_rfl) (by kernel_rfl) rfl (fun _ _ _ h => h) rfl hH (fun w' hS => ?_) ?_
            rotate_left
            · go_simp; first | done | with_reducible rfl
            simp only [List.set_cons_zero, List.set_cons_succ]
            refine held_take (i := 2) (d := 68) (v := ?_) rfl (by kernel_rfl) (by kernel_rfl) (by kernel_rfl) rfl (fun _ _ _ h => h) rfl hH (fun w' hS => ?_) ?_
            rotate_left
            · have m11 := (V5.out.keeps hS).cell 1; simp only [List.getElem?_toArray, List.getElem?_cons_zero, List.getElem?_cons_succ] at m11; go_simp; first | done | with_reducible rfl
            simp only [List.set_cons_zero, List.set_cons_succ]
            refine held_take (i := 3) (d := 69) (v := ?_) rfl (by kernel_rfl) (by kernel_rfl) (by kernel_rfl) rfl (fun _ _ _ h => h) rfl hH (fun w' hS => ?_) ?_
            rotate_left
            · go_simp; first | done | with_reducible rfl
            simp only [List.set_cons_zero, List.set_cons_succ]
            refine held_take (i := 4) (d := 70) (v := ?_) rfl (by kernel_rfl) (by kernel_rfl) (by kernel_rfl) rfl (fun _ _ _ h => h) rfl hH (fun w' hS => ?_) ?_
            rotate_left
            · go_simp; first | done | with_reducible rfl
            simp only [List.set_cons_zero, List.set_cons_succ]
            refine held_take (i := 5) (d := 71) (v := .agg cf) rfl (by kernel_rfl) (by kernel_rfl) (by kernel_rfl) rfl (fun _ _ _ h => h) rfl hH (fun w' hS => yield_loadM infFe Tryz.underlying54 rfl (.tmp 70) rfl bk (off + j * 18) cf rfl (range_keeps R1.out (bnext Bw.out hS)) hcf.out) ?_
            simp only [List.set_cons_zero, List.set_cons_succ]
            generalize wr.drew = yy at *
            refine held_only (i := 6) rfl (by kernel_rfl) rfl (fun K hK => ?_)
            go_simp
            refine (CFj.out cf _ (bnext Bw.out hH) (F1.out.keeps (bnext Bw.out hH))).mono ?_
            rintro e y141 ⟨rfl, b141⟩
            skip
            refine hK.out _ _ (bnext hH b141) (fun hH => ?_)
            clear hK K
            clear b141
            refine held_take (i := 7) (d := 73) (v := ?_) rfl (by kernel_rfl) (by kernel_rfl) (by kernel_rfl) rfl (fun _ _ _ h => h) rfl hH (fun w' hS => ?_) ?_
            rotate_left
            · go_simp; first | done | with_reducible rfl
            simp only [List.set_cons_zero, List.set_cons_succ]
            refine held_take (i := 8) (d := 74) (v := ?_) rfl (by kernel_rfl) (by kernel_rfl) (by kernel_rfl) rfl (fun _ _ _ h => h) rfl hH (fun w' hS => ?_) ?_
            rotate_left
            · go_simp; first | done | with_reducible rfl
            simp only [List.set_cons_zero, List.set_cons_succ]
            refine held_pass (i := 9) (d := 75) rfl (by kernel_rfl) (by kernel_rfl) (by kernel_rfl) rfl (fun _ _ _ h => h) rfl hH ?_
            simp only [List.set_cons_zero, List.set_cons_succ]
            refine held_pass (i := 10) (d := 76) rfl (by kernel_rfl) (by kernel_rfl) (by kernel_rfl) rfl (fun _ _ _ h => h) rfl hH ?_
            simp only [List.set_cons_zero, List.set_cons_succ]
            refine held_pass (i := 11) (d := 77) rfl (by kernel_rfl) (by kernel_rfl) (by kernel_rfl) rfl (fun _ _ _ h => h) rfl hH ?_
            simp only [List.set_cons_zero, List.set_cons_succ]
            refine held_pass (i := 12) (d := 78) rfl (by kernel_rfl) (by kernel_rfl) (by kernel_rfl) rfl (fun _ _ _ h => h) rfl hH ?_
            simp only [List.set_cons_zero, List.set_cons_succ]
            refine held_pass (i := 13) (d := 79) rfl (by kernel_rfl) (by kernel_rfl) (by kernel_rfl) rfl (fun _ _ _ h => h) rfl hH ?_
            simp only [List.set_cons_zero, List.set_cons_succ]
            refine held_pass (i := 14) (d := 80) rfl (by kernel_rfl) (by kernel_rfl) (by kernel_rfl) rfl (fun _ _ _ h => h) rfl hH ?_
            simp only [List.set_cons_zero, List.set_cons_succ]
            refine held_pass1 (i := 15) rfl (by kernel_rfl) rfl hH ?_
            go_simp
            refine held_pass (i := 16) (d := 82) rfl (by kernel_rfl) (by kernel_rfl) (by kernel_rfl) rfl (fun _ _ _ h => h) rfl hH ?_
            simp only [List.set_cons_zero, List.set_cons_succ]
            refine held_take (i := 17) (d := 83) (v := ?_) rfl (by kernel_rfl) (by kernel_rfl) (by kernel_rfl) rfl (fun _ _ _ h => h) rfl hH (fun w' hS => ?_) ?_
            rotate_left
            · go_simp; first | done | with_reducible rfl
            simp only [List.set_cons_zero, List.set_cons_succ]
            refine wpAnyH_done (by kernel_rfl) ?_ _
            go_wp2_with fail
            go_meet
            case rel => exact ⟨rfl, Lib.hid hH⟩
        case rest =>
          obtain ⟨rfl, BW⟩ := hcut
          generalize wc = w10 at *
          have hb6 := Lib.hid (bnext hb.out BW.out)
          clear BW
          go_wp2_with fail
          exact ⟨⟨j + 1, congrArg (Value.int .i64) f4.out, hlt2, hb6⟩, less_at hlt2.out f4.out⟩
      · have q1 : decide ((j : Int) < (gn : Int)) = false := decide_eq_false (by omega)
        go_wp2_with fail
        go_ret
        exact bl_of rfl Bw.out
  · have q := in_ne hx
    have q2 : (rx.1 != 0) = true := by simp [hx]
    replace hx := Lib.hid hx
    go_wp2_with fail
    go_ret
    exact bl_of rfl B31.out
end Go.Proofs.YtbkpjhffmaldmaaGreatDoor.ch
