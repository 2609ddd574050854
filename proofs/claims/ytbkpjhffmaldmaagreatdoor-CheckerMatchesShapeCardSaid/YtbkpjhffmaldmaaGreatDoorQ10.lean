/-
  The types of operands.
-/
import Derived.Test.YtbkpjhffmaldmaaGreatDoorQ09
namespace Go.Proofs.YtbkpjhffmaldmaaGreatDoor.ch
open Go.RowKit dec

def splL : List Value → Nat → List Value → List Value
  | [], _, _ => []
  | cs, _, [] => cs
  | _ :: cs, 0, v :: vs => v :: splL cs 0 vs
  | c :: cs, o + 1, v :: vs => c :: splL cs o (v :: vs)
theorem splL_nil (cs : List Value) (o : Nat) : splL cs o [] = cs := by cases cs <;> rfl
theorem splL_cons : ∀ (cs : List Value) (o : Nat) (v : Value) (r : List Value), splL cs o (v :: r) = splL (cs.set o v) (o + 1) r
  | [], _, _, _ => by simp [splL]
  | c :: cs, 0, v, [] => by simp [splL, splL_nil]
  | c :: cs, 0, v, u :: r => by simp [splL]
  | c :: cs, o + 1, v, [] => by
    have := splL_cons cs o v []
    rw [splL_nil] at this
    simp [splL, splL_nil, this]
  | c :: cs, o + 1, v, u :: r => by
    have := splL_cons cs o v (u :: r)
    simp [splL, this]
theorem splL_len : ∀ (cs : List Value) (o : Nat) (vs : List Value), (splL cs o vs).length = cs.length
  | [], _, _ => by simp [splL]
  | c :: cs, o, [] => by rw [splL_nil]
  | c :: cs, 0, v :: vs => by simp [splL, splL_len cs 0 vs]
  | c :: cs, o + 1, v :: vs => by simp [splL, splL_len cs o (v :: vs)]
theorem splL_lt : ∀ (cs : List Value) (o : Nat) (vs : List Value) (i : Nat), i < o → (splL cs o vs)[i]? = cs[i]?
  | [], _, _, _, _ => by simp [splL]
  | c :: cs, o, [], i, _ => by rw [splL_nil]
  | c :: cs, 0, v :: vs, i, h => absurd h (Nat.not_lt_zero _)
  | c :: cs, o + 1, v :: vs, 0, _ => by simp [splL]
  | c :: cs, o + 1, v :: vs, i + 1, h => by
    have := splL_lt cs o (v :: vs) i (by omega)
    simpa [splL] using this
theorem splL_in : ∀ (cs : List Value) (o : Nat) (vs : List Value) (i : Nat), o + vs.length ≤ cs.length → i < vs.length → (splL cs o vs)[o + i]? = vs[i]?
  | [], o, vs, i, h, hi => by
    have h' : o + vs.length ≤ 0 := h
    omega
  | c :: cs, o, [], i, _, hi => by simp at hi
  | c :: cs, 0, v :: vs, 0, _, _ => by simp [splL]
  | c :: cs, 0, v :: vs, i + 1, h, hi => by
    have := splL_in cs 0 vs i (by simp at h ⊢; omega) (by simpa using hi)
    simpa [splL] using this
  | c :: cs, o + 1, v :: vs, i, h, hi => by
    have := splL_in cs o (v :: vs) i (by simp at h ⊢; omega) hi
    rw [show o + 1 + i = (o + i) + 1 by omega]
    simpa [splL] using this
def spl : Array Value → Nat → List Value → Array Value
  | cs, _, [] => cs
  | cs, o, v :: r => spl (cs.setIfInBounds o v) (o + 1) r
theorem spl_list : ∀ (vs : List Value) (cs : Array Value) (o : Nat), spl cs o vs = (splL cs.toList o vs).toArray
  | [], cs, o => by simp [spl, splL_nil]
  | v :: r, cs, o => by
    unfold spl
    rw [spl_list r, splL_cons]
    simp
theorem St.trans {g : Nat} {a b c : World} (h : St g a b) (k : St g b c) : St g a c := ⟨k.os.trans h.os, k.tape.trans h.tape, k.output.trans h.output, k.size.trans h.size, fun i hi => (k.block i hi).trans (h.block i hi)⟩
theorem Blk.setCells {g : Nat} {T : TypeId} : ∀ (vs : List Value) (o : Nat) (w : World) (cs : Array Value), Blk w g T cs → Blk (w.setCells g o vs) g T (spl cs o vs) ∧ St g w (w.setCells g o vs)
  | [], _, w, cs, h => ⟨h, rfl, rfl, rfl, rfl, fun _ _ => rfl⟩
  | v :: r, o, w, cs, h => by
    have h1 := h.setCell o v
    have h2 := Blk.setCells r (o + 1) _ _ h1.1
    exact ⟨h2.1, h1.2.trans h2.2⟩
/-- A value is stored into the midst of a row. -/
theorem arm_put {T : TypeId} {n : Nat} (hi : (Tryz.prog.info? T).map (·.size) = some n) {ops : Array Oper} {rest : List Oper} {o : Oper} {a : Act} {w : World} {Q : Exit → Act → World → Prop} (x y : Operand) (ho : o.op = .store T x y) (hgd : o.guard = none)
    (g off : Nat) (T' : TypeId) (cells old : Array Value) (hx : a.eval x = .pointer (some ⟨g, off, none⟩)) (hy : a.eval y = .agg cells) (hB : Blk w g T' old) (hs : off + n ≤ old.size) (hc : cells.size = n) (h1 : cells.all (·.oneCell') = true)
    (h : ∀ w' new, Blk w' g T' new → new.size = old.size → w'.rangeAt g off cells.toList → (∀ i, i < off → new[i]? = old[i]?) → St g w w' → wpList Tryz.prog ops Q rest (a.put o.dst undef) w') : wpList Tryz.prog ops Q (o :: rest) a w := by
  have hb := Blk.setCells cells.toList off w old hB
  rw [spl_list] at hb
  refine wpList_store_mid hgd T x y ho g off cells hx hy (fun j hj => ⟨?_, hB.free _⟩) (by rw [hc]; exact hi) h1 (h _ _ hb.1 (by simp [splL_len]) (fun j v hv => ?_) (fun i hi => ?_) hb.2)
  · rw [hB.cell, Array.getElem?_eq_getElem (by omega)]
    rfl
  · rw [hb.1.cell, List.getElem?_toArray, splL_in _ _ _ _ (by simp; omega) (List.getElem?_eq_some_iff.1 hv).1]
    exact hv
  · rw [List.getElem?_toArray, splL_lt _ _ _ _ hi, Array.getElem?_toList]
theorem infTz : (Tryz.prog.info? 36).map (fun i => (i.zero, i.size, i.bytes)) = some (some (.agg #[.int .i64 0, .slice none 0 0, .string .empty]), 3, 48) := by kernel_rfl
/-- make([]T, n) of types. -/
theorem arm_make (w : World) {ops : Array Oper} {rest : List Oper} {o : Oper} {a : Act} {Q : Exit → Act → World → Prop} (hg : o.guard = none) (l c : Operand) (hop : o.op = Op.makeSlice 113 l c) (n : Nat) (hn : n ≤ 1000)
    (hl : a.eval l = .int .i64 (n : Nat)) (hc : a.eval c = .int .i64 (n : Nat))
    (hK : ∀ w' cur, Blk w' w.heap.size 36 cur → cur.size = n * 3 → Below w.heap.size w w' → wpList Tryz.prog ops Q rest (a.put o.dst (.slice (some ⟨w.heap.size, 0, none⟩) n n)) w') : wpList Tryz.prog ops Q (o :: rest) a w := by
  obtain ⟨i, hi, hz0, hz1, hz2⟩ := info_parts infTz
  refine wpList_make_full w hg l c 113 hop w.heap.size 36 i _ 3 Tryz.underlying113 hi hz0 hz1 .i64 .i64 _ _ n hl hc rfl rfl (by rw [hz2]; omega) (by unfold maxLen; omega) (Nat.le_refl _) fun w' hO hgr => ?_
  obtain ⟨_, h2⟩ := hO
  rcases h2 with ⟨h0, _⟩ | ⟨g, cap, cur, e, hbg, hh, hc', hm, hs, ht⟩
  · cases h0
  · simp only [Value.slice.injEq, Option.some.injEq, Addr.mk.injEq] at e
    obtain ⟨⟨rfl, _, _⟩, _, rfl⟩ := e
    exact hK w' cur hh (by simpa using hs) ((Below.refl _ _).grown hgr (Nat.le_refl _) fun k hk => by cases hk)
theorem fmA_nth : ∀ (F : Fo) (i : Bool) (j : Nat), fmA i F = true → j < F.len → fmE i (F.nth j) = true
  | .nil, _, _, _, h => absurd h (Nat.not_lt_zero _)
  | .cons h ar r, i, 0, hf, _ => by
    have : (nodE i h ar.len (ar.nth 0).h && (fmA (i || decide (h.k = 5)) ar && fmA i r)) = true := hf
    rw [Bool.and_eq_true, Bool.and_eq_true] at this
    rw [fm_eq]
    show (nodE i h ar.len (ar.nth 0).h && fmA (i || decide (h.k = 5)) ar) = true
    rw [Bool.and_eq_true]
    exact ⟨this.1, this.2.1⟩
  | .cons h ar r, i, j + 1, hf, hj => by
    have : (nodE i h ar.len (ar.nth 0).h && (fmA (i || decide (h.k = 5)) ar && fmA i r)) = true := hf
    rw [Bool.and_eq_true, Bool.and_eq_true] at this
    exact fmA_nth r i j this.2.2 (by simpa [Fo.len] using hj)
/-- How many operands an expression of proper form has. -/
theorem nod_len {i : Bool} {h : Hd} {n : Nat} {g : Hd} (hn : nodE i h n g = true) : (1 ≤ h.k ∧ h.k ≤ 9) ∧ n = if h.k = 1 ∨ h.k = 2 ∨ h.k = 3 then 0 else if h.k = 4 ∨ h.k = 6 then 1 else if h.k = 8 then 3 else 2 := by
  unfold nodE at hn
  repeat' split at hn
  all_goals first
    | (cases hn; done)
    | (simp only [Bool.and_eq_true, decide_eq_true_eq] at hn; refine ⟨by omega, ?_⟩; simp_all)
theorem infL_eta (ts : List Tb) (gs : List Fe) (en : ByteArray) : ∀ (F : Fo) (fl : List Fi), (infL ts gs en F fl).1 ≠ 0 → (infL ts gs en F fl).2 = []
  | .nil, _, h => absurd rfl h
  | .cons h ar r, fl, hn => by
    rw [infL_cons] at hn ⊢
    split at hn
    · rename_i h1
      rw [if_pos h1]
      simp only at hn ⊢
      rw [if_neg hn]
    · rename_i h1
      rw [if_neg h1]
theorem range_put {w w' : World} {g : Nat} {T : TypeId} {cur new : Array Value} {off o : Nat} {cs : List Value} (hB : Blk w g T cur) (hB' : Blk w' g T new) (hk : ∀ i, i < off → new[i]? = cur[i]?) (h : w.rangeAt g o cs) (ho : o + cs.length ≤ off) : w'.rangeAt g o cs := fun j v hv => by
  have hj : j < cs.length := (List.getElem?_eq_some_iff.1 hv).1
  rw [hB'.cell, hk _ (by omega), ← hB.cell]
  exact h j v hv
/-- The first types of a row, and the rest. -/
def infP (ts : List Tb) (gs : List Fe) (en : ByteArray) (fl : List Fi) (l : List Ty) (F : Fo) : Int × List Ty := if (infL ts gs en F fl).1 = 0 then (0, l ++ (infL ts gs en F fl).2) else ((infL ts gs en F fl).1, [])
theorem infP_zero (ts : List Tb) (gs : List Fe) (en : ByteArray) (fl : List Fi) (F : Fo) : infL ts gs en F fl = infP ts gs en fl [] (F.drop 0) := by
  rw [drop_zero]
  unfold infP
  split
  · rename_i h
    rw [← h]
    rfl
  · rename_i h
    rw [← infL_eta ts gs en F fl h]
theorem infP_end (ts : List Tb) (gs : List Fe) (en : ByteArray) (fl : List Fi) (l : List Ty) {F : Fo} {j : Nat} (h : F.len ≤ j) : infP ts gs en fl l (F.drop j) = (0, l) := by
  rw [drop_end F j h]
  show (0, l ++ []) = _
  rw [List.append_nil]
theorem infP_no {ts : List Tb} {gs : List Fe} {en : ByteArray} {fl : List Fi} {l : List Ty} {F : Fo} {j : Nat} (h : j < F.len) (hn : (infE ts gs en fl (F.nth j)).1 ≠ 0) : infP ts gs en fl l (F.drop j) = ((infE ts gs en fl (F.nth j)).1, []) := by
  rw [drop_nth F j h]
  unfold infP
  rw [infL_cons]
  have hn' : ¬ (infE ts gs en fl ⟨(F.nth j).h, (F.nth j).ar⟩).1 = 0 := hn
  rw [if_neg hn']
  exact if_neg hn'
theorem infP_go {ts : List Tb} {gs : List Fe} {en : ByteArray} {fl : List Fi} {l : List Ty} {F : Fo} {j : Nat} (h : j < F.len) (hn : (infE ts gs en fl (F.nth j)).1 = 0) : infP ts gs en fl l (F.drop j) = infP ts gs en fl (l ++ [(infE ts gs en fl (F.nth j)).2]) (F.drop (j + 1)) := by
  rw [drop_nth F j h]
  unfold infP
  rw [infL_cons]
  have hn' : (infE ts gs en fl ⟨(F.nth j).h, (F.nth j).ar⟩).1 = 0 := hn
  rw [if_pos hn']
  by_cases hr : (infL ts gs en (F.drop (j + 1)) fl).1 = 0
  · simp only [hr, if_true, List.append_assoc, List.singleton_append]
  · simp only [hr, if_false]
end Go.Proofs.YtbkpjhffmaldmaaGreatDoor.ch
namespace Go.Proofs.YtbkpjhffmaldmaaGreatDoor.ch
open Go.RowKit dec

set_option maxRecDepth 100000 in
set_option maxHeartbeats 8000000 in
theorem infer_other (n : Nat) (IH : ∀ (i : Bool) (x : Ex) (ua aa : Option Addr) (uc ac B : Nat) (ts : List Tb) (gs : List Fe) (en : ByteArray) (fl : List Fi) (w0 w : World), x.ar.sz < n → fmE i x = true → Below w0.heap.size w0 w → Ec w0 x ua uc aa ac → Scp w0 w B ts gs en fl → Calls Tryz.prog 47 #[.pointer (some ⟨B, 0, none⟩), .agg (exC x.h x.ar.len ua uc aa ac)] w (TrV (infE ts gs en fl x) w0 w.heap.size w))
    (i : Bool) (x : Ex) (ua aa : Option Addr) (uc ac B : Nat) (ts : List Tb) (gs : List Fe) (en : ByteArray) (fl : List Fi) (w0 w : World) (hz : x.ar.sz = n) (hf : fmE i x = true) (hw0 : Below w0.heap.size w0 w) (hE : Ec w0 x ua uc aa ac) (hS : Scp w0 w B ts gs en fl) (hk5 : x.h.k ≠ 5) : Calls Tryz.prog 47 #[.pointer (some ⟨B, 0, none⟩), .agg (exC x.h x.ar.len ua uc aa ac)] w (TrV (infE ts gs en fl x) w0 w.heap.size w) := by
  have bb := below_two w (.cells (exC x.h x.ar.len ua uc aa ac) 29) (.cells #[.int .i64 0, .slice none 0 0, .string ⟨#[]⟩] 36)
  have BP := Lib.hid bb
  have GG := bw_two w (exC x.h x.ar.len ua uc aa ac) #[.int .i64 0, .slice none 0 0, .string ⟨#[]⟩] 29 36
  have GX := Lib.hid GG.1
  have G4 := Lib.hid GG.2
  have HW0 := Lib.hid hw0
  have HS := Lib.hid hS
  have SP := Lib.hid (hS.keeps bb)
  have HU := Lib.hid hE.us
  have HA := Lib.hid hE.ar
  rw [fm_eq, Bool.and_eq_true] at hf
  have hnl := nod_len hf.1
  have HF := Lib.hid hf.2
  have hnn := Lib.hid hnl.2
  have hn3 := Lib.hid (show x.ar.len ≤ 3 by rw [hnl.2]; split <;> (try split) <;> (try split) <;> omega)
  have hkk := Lib.hid hnl.1
  have IH' := Lib.hid IH
  have HZ := Lib.hid hz
  clear hw0 hS hE hf hnl IH hz bb GG
  unfold exC at *
  have qk := in_ne hk5
  have hE := Lib.hid (show infE ts gs en fl x = if (infL ts gs en x.ar fl).1 = 0 then rulT gs en fl x.h (infL ts gs en x.ar fl).2 else noR (infL ts gs en x.ar fl).1 by unfold infE; simp [hk5])
  replace HF := Lib.hid (show fmA i x.ar = true by have := HF.out; rwa [decide_eq_false hk5, Bool.or_false] at this)
  replace hk5 := Lib.hid hk5
  go_enter Tryz.func47, Tryz.ntmps47
  go_upto_region 6 with fail
  generalize hwp : ((w.alloc (.cells #[.int .i64 x.h.k, .string x.h.op, .string x.h.nm, .string x.h.tb, .int .i64 x.h.vk, .int .i64 x.h.vn, .string x.h.vs, .slice ua x.h.un.length uc, .int .i64 x.h.pa, .int .i64 x.h.wk, .int .i64 x.h.ws, .slice aa x.ar.len ac] 29)).alloc (.cells #[.int .i64 0, .slice none 0 0, .string ⟨#[]⟩] 36)) = wp at *
  clear hwp
  have gx11 := GX.out.cell 11
  simp only [List.getElem?_toArray, List.getElem?_cons_zero, List.getElem?_cons_succ] at gx11
  go_wp2_with (first | (refine arm_make _ rfl (.tmp 27) (.tmp 27) rfl x.ar.len (by have := hn3.out; omega) rfl rfl ?_; intro wm cur G0 hc0 bm; have gy11 := (GX.out.keeps bm).cell 11; simp only [List.getElem?_toArray, List.getElem?_cons_zero, List.getElem?_cons_succ] at gy11))
  have hgw := Lib.hid BP.out.size
  replace bm := Lib.hid bm
  replace G0 := Lib.hid (⟨G0, hc0⟩ : Blk wm wp.heap.size 36 cur ∧ cur.size = x.ar.len * 3)
  clear hc0
  generalize hgO : wp.heap.size = gO at *
  replace hgO := Lib.hid hgO
  have hI := Lib.hid (infP_zero ts gs en fl x.ar)
  clear gx11 gy11
  go_loopw [32] (fun vi wr => ∃ (j : Nat) (l : List Ty) (cur : Array Value), vi = .int .i64 (j : Nat) ∧ Hid (j ≤ x.ar.len) ∧ Hid (l.length = j) ∧ Hid (infL ts gs en x.ar fl = infP ts gs en fl l (x.ar.drop j)) ∧ Hid (Below gO wp wr) ∧ Hid (Blk wr gO 36 cur ∧ cur.size = x.ar.len * 3) ∧ Hid (∀ i (h : i < l.length), ∃ xa xc, wr.rangeAt gO (i * 3) (tyC l[i] xa xc).toList ∧ Uw w0 wr (gO + 1) xa l[i].un.length xc l[i].un)) (fun vi _ => x.ar.len - (intOf vi).toNat)
  case atStart => exact ⟨0, [], cur, rfl, Lib.hid (Nat.zero_le _), Lib.hid rfl, hI, Lib.hid (hgO.out ▸ bm.out), G0, Lib.hid fun i h => absurd h (Nat.not_lt_zero _)⟩
  case round =>
    clear hI G0 bm
    obtain ⟨j, l, cur, rfl, hj, hlen, hI, hb, hG, hT⟩ := hrel
    have BW := Lib.hid (BP.out.trans (hb.out.mono hgw.out))
    by_cases hlt : j < x.ar.len
    · have q1 : decide ((j : Int) < (x.ar.len : Int)) = true := decide_eq_true (by omega)
      obtain ⟨bk, off, va, vc, wa, wc, rfl, R1, E1⟩ := HA.out.at hlt
      replace R1 := Lib.hid (range_keeps R1 (HW0.out.trans (BW.out.mono HW0.out.size)))
      have f4 := Lib.hid (next_at (j := j) (by have := hn3.out; omega))
      have i1 : (j : Int) < (x.ar.len : Int) := by omega
      have i2 : j < x.ar.len := hlt
      have hsz := Lib.hid (nth_sz x.ar j hlt)
      have hfj := Lib.hid (fmA_nth x.ar _ j HF.out hlt)
      have hno := Lib.hid (fun e => hI.out.trans (infP_no (ts := ts) (gs := gs) (en := en) (fl := fl) (l := l) hlt e))
      have hgo := Lib.hid (fun e => hI.out.trans (infP_go (ts := ts) (gs := gs) (en := en) (fl := fl) (l := l) hlt e))
      replace E1 := Lib.hid E1
      clear hI hj
      generalize x.ar.nth j = y at *
      go_wp2_with (first | (refine arm_mid infX Tryz.underlying29 rfl (.tmp 35) rfl rfl bk (off + j * 12) (exC y.h y.ar.len va vc wa wc) rfl R1.out rfl ?_) | (refine arm_storeT infX (.tmp 9) (.tmp 36) rfl rfl _ _ _ _ rfl rfl (Blk.new _ _ _) rfl rfl (exC_one _ _ _ _ _ _) ?_; intro w5 L5 hs5; have bb5 := (balloc (b0 wr) _).trans (hs5.below (Nat.le_refl _))) | (refine arm_loadT infX Tryz.underlying29 rfl (.tmp 9) rfl rfl _ _ _ rfl L5 rfl ?_))
      have BG5 := Lib.hid (hb.out.trans (bb5.mono (by have := hb.out.size; have := hgO.out; omega)))
      have BW5 := Lib.hid (BP.out.trans (BG5.out.mono hgw.out))
      have hG5 := Lib.hid (hG.out.1.keeps bb5)
      have hT5 := Lib.hid (fun i (h : i < l.length) => (hT.out i h).imp fun xa h => h.imp fun xc h => (⟨range_keeps h.1 bb5, h.2.keeps bb5⟩ : w5.rangeAt gO (i * 3) (tyC l[i] xa xc).toList ∧ Uw w0 w5 (gO + 1) xa l[i].un.length xc l[i].un))
      clear bb5 hs5 L5 R1 hT
      refine (IH'.out i y va wa vc wc B ts gs en fl w0 w5 (by have := hsz.out; have := HZ.out; omega) hfj.out (HW0.out.trans (BW5.out.mono HW0.out.size)) E1.out (SP.out.imp fun L hL => (⟨hL.blk.below BG5.out (hgO.out ▸ hL.blk.lt), hL.mp.below BG5.out (hgO.out ▸ hL.mp.lt), hL.tab.below BG5.out (hgO.out ▸ hL.tab.lt), hL.fis, hL.fl, hL.ct, hL.cg⟩ : Sc1 w0 w5 B ts gs en fl L))).mono ?_
      rintro e w6 ⟨xa, xc, rfl, ux, b6⟩
      have BG6 := Lib.hid (BG5.out.trans (b6.mono (by have := BG5.out.size; have := hgO.out; omega)))
      have hG6 := Lib.hid (hG5.out.keeps b6)
      have hT6 := Lib.hid (fun i (h : i < l.length) => (hT5.out i h).imp fun xa h => h.imp fun xc h => (⟨range_keeps h.1 b6, h.2.keeps b6⟩ : w6.rangeAt gO (i * 3) (tyC l[i] xa xc).toList ∧ Uw w0 w6 (gO + 1) xa l[i].un.length xc l[i].un))
      have hlt5 := Lib.hid hG5.out.lt
      have UX := Lib.hid ux
      clear b6 ux hG5 hT5
      generalize infE ts gs en fl y = r at *
      by_cases hr : r.1 = 0
      · have q2 : (r.1 != 0) = false := by simp [hr]
        replace hI := Lib.hid (hgo.out hr)
        replace hr := Lib.hid hr
        clear hno hgo
        go_wp2_with (first | (refine arm_put infTy (.tmp 45) (.tmp 43) rfl rfl gO (j * 3) _ (tyC r.2 xa xc) _ rfl rfl hG6.out (by have := hG.out.2; omega) rfl (by simp [tyC, Value.oneCell']) ?_; intro w8 new L8 hz8 R8 hk8 hs8))
        have BG8 := Lib.hid (BG6.out.trans (hs8.below (Nat.le_refl _)))
        have hT8 : ∀ k (h : k < (l ++ [r.2]).length), ∃ xa xc, w8.rangeAt gO (k * 3) (tyC (l ++ [r.2])[k] xa xc).toList ∧ Uw w0 w8 (gO + 1) xa (l ++ [r.2])[k].un.length xc (l ++ [r.2])[k].un := fun k h => by
          by_cases hk : k < l.length
          · rw [List.getElem_append_left hk]
            obtain ⟨ya, yc, h1, h2⟩ := hT6.out k hk
            exact ⟨ya, yc, range_put hG6.out L8 hk8 h1 (by have := hlen.out; simp [tyC]; omega), h2.st hs8 (Nat.lt_succ_self _)⟩
          · have hkl : k = l.length := by simp at h; omega
            subst hkl
            simp only [List.getElem_append_right (Nat.le_refl _), Nat.sub_self, List.getElem_cons_zero]
            exact ⟨xa, xc, by rw [hlen.out]; exact R8, (UX.out.st hs8 hlt5.out).less hlt5.out⟩
        exact ⟨⟨j + 1, l ++ [r.2], new, congrArg (Value.int .i64) f4.out, Lib.hid hlt, Lib.hid (by have := hlen.out; simp; omega), hI, BG8, Lib.hid ⟨L8, hz8.trans hG.out.2⟩, Lib.hid hT8⟩, less_at hlt f4.out⟩
      · have q2 : (r.1 != 0) = true := by simp [hr]
        replace hI := Lib.hid (hno.out hr)
        replace hE := Lib.hid (show infE ts gs en fl x = (r.1, t0) by rw [hE.out, hI.out]; exact if_neg hr)
        replace hr := Lib.hid hr
        clear hno hgo hI
        go_wp2_with (first | (refine arm_put infTy (.tmp 45) (.tmp 43) rfl rfl gO (j * 3) _ (tyC r.2 xa xc) _ rfl rfl hG6.out (by have := hG.out.2; omega) rfl (by simp [tyC, Value.oneCell']) ?_; intro w8 new L8 hz8 R8 hk8 hs8; have BG8 := BG6.out.trans (hs8.below (Nat.le_refl _)); have G8 := G4.out.below BG8 (by have := hgO.out; have := G4.out.lt; omega)) | (refine arm_storeT infTy (.tmp 4) (.tmp 48) rfl rfl _ _ _ _ rfl rfl G8 rfl rfl (by simp [Value.oneCell']) ?_; intro w9 L9 hs9))
        exact ret_T2 infTy Tryz.underlying36 rfl Tryz.results47 _ _ _ _ (tyC t0 none 0) rfl L9 rfl (tr_of hE.out (.nil _ _ _) ((BP.out.trans (BG8.mono hgw.out)).trans (hs9.below (by omega))))
    · have q1 : decide ((j : Int) < (x.ar.len : Int)) = false := decide_eq_false (by omega)
      have hIr : infL ts gs en x.ar fl = (0, l) := hI.out.trans (infP_end ts gs en fl l (by omega))
      replace hE := Lib.hid (show infE ts gs en fl x = rulT gs en fl x.h l by rw [hE.out, hIr]; rfl)
      replace hlen := Lib.hid (show l.length = x.ar.len by have := hlen.out; have := hj.out; omega)
      have hgl := Lib.hid (show w.heap.size + 1 < gO by have := hgO.out; have := G4.out.lt; omega)
      replace GX := Lib.hid (GX.out.below hb.out (by have := hgl.out; omega))
      replace G4 := Lib.hid (G4.out.below hb.out hgl.out)
      clear hIr hI hj IH' HZ HF SP HA BP hG q1
      replace hgO := Lib.hid (trivial : True)
      have q1 : decide ((j : Int) < (x.ar.len : Int)) = false := decide_eq_false (by omega)
      rcases (show x.h.k = 1 ∨ x.h.k = 2 ∨ x.h.k = 3 ∨ x.h.k = 4 ∨ x.h.k = 6 ∨ x.h.k = 7 ∨ x.h.k = 8 ∨ x.h.k = 9 by have := hkk.out; have := hk5.out; omega) with hk | hk | hk | hk | hk | hk | hk | hk
      · replace hnn : x.ar.len = 0 := by have := hnn.out; rw [hk] at this; simpa using this
        replace hk := Lib.hid hk
        clear hn3 hkk
        have hne : ¬ (j < x.ar.len) := hlt
        clear hlt
        generalize x.ar.len = m at *
        subst hnn
        go_wp2_with fail
        obtain rfl : l = [] := List.eq_nil_of_length_eq_zero hlen.out
        have hR := Lib.hid (show infE ts gs en fl x = (tyR ⟨x.h.vk, x.h.un, x.h.nm⟩) by rw [hE.out]; unfold rulT; simp [hk.out])
        have C := Lib.hid (fun (W : World) (hb : Below w0.heap.size w0 W) (hN : w.heap.size ≤ W.heap.size) (hS : Scp w0 W B ts gs en fl) (hU : un.Sl w0 ua x.h.un.length uc x.h.un) (hO : Ops w0 w.heap.size W (some ⟨gO, 0, none⟩) 0 0 []) => (show Calls Tryz.prog 77 #[.pointer (some ⟨B, 0, none⟩), .agg (exC x.h 0 ua uc aa ac), .slice (some ⟨gO, 0, none⟩) 0 0] W (TrV (infE ts gs en fl x) w0 w.heap.size W) by rw [hR.out]; exact typeLiteral_any x.h ua aa uc 0 ac B ts gs en fl w.heap.size w0 W hb hN hS hU (some ⟨gO, 0, none⟩) 0 0))
        have OO := Lib.hid (show Ops w0 w.heap.size wr (some ⟨gO, 0, none⟩) 0 0 [] from ⟨.inr ⟨gO, 0, rfl, fun j hj => by obtain ⟨xa, xc, h1, h2⟩ := hT.out j hj; exact ⟨tyC _ xa xc, rfl, by simpa using h1, xa, xc, rfl, h2.less (by have := hgw.out; omega)⟩⟩, rfl, Nat.le_refl _, by omega, fun e => by cases e⟩)
        unfold exC at C
        obtain ⟨L, hL⟩ := HS.out
        replace hL := Lib.hid hL
        have hP := Lib.hid (hL.out.mp)
        refine wp_region_held_drew (S := fun w' => Below w.heap.size w w' ∧ (Blk w' w.heap.size 29 #[.int .i64 x.h.k, .string x.h.op, .string x.h.nm, .string x.h.tb, .int .i64 x.h.vk, .int .i64 x.h.vn, .string x.h.vs, .slice ua x.h.un.length uc, .int .i64 x.h.pa, .int .i64 x.h.wk, .int .i64 x.h.ws, .slice aa 0 ac]) ∧ ∃ t9 a9 c9, Blk w' (w.heap.size + 1) 36 (tyC t9 a9 c9)) (by kernel_rfl) ⟨BW.out.drew, GX.out.drew, t0, none, 0, G4.out.drew⟩ (fun hH => ?_)
        refine held_take (i := 0) (d := 51) (v := ?_) rfl (by kernel_rfl) (by kernel_rfl) (by kernel_rfl) rfl (fun _ _ _ h => h) rfl hH (fun w' hS => ?_) ?_
        rotate_left
        · go_simp; first | done | with_reducible rfl
        simp only [List.set_cons_zero, List.set_cons_succ]
        refine held_take (i := 1) (d := 52) (v := ?_) rfl (by kernel_rfl) (by kernel_rfl) (by kernel_rfl) rfl (fun _ _ _ h => h) rfl hH (fun w' hS => ?_) ?_
        rotate_left
        · have e1 := (hL.out.blk.below hS.1 hL.out.blk.lt).cell 6; simp only [ScL.cs, scC, List.getElem?_toArray, List.getElem?_cons_zero, List.getElem?_cons_succ] at e1; go_simp; first | done | with_reducible rfl
        simp only [List.set_cons_zero, List.set_cons_succ]
        refine held_take (i := 2) (d := 53) (v := ?_) rfl (by kernel_rfl) (by kernel_rfl) (by kernel_rfl) rfl (fun _ _ _ h => h) rfl hH (fun w' hS => ?_) ?_
        rotate_left
        · have e1 := (hL.out.blk.below hS.1 hL.out.blk.lt).cell 6; simp only [ScL.cs, scC, List.getElem?_toArray, List.getElem?_cons_zero, List.getElem?_cons_succ] at e1; go_simp; first | done | with_reducible rfl
        simp only [List.set_cons_zero, List.set_cons_succ]
        refine held_take (i := 3) (d := 54) (v := ?_) rfl (by kernel_rfl) (by kernel_rfl) (by kernel_rfl) rfl (fun _ _ _ h => h) rfl hH (fun w' hS => ?_) ?_
        rotate_left
        · have e1 := (hL.out.blk.below hS.1 hL.out.blk.lt).cell 6; simp only [ScL.cs, scC, List.getElem?_toArray, List.getElem?_cons_zero, List.getElem?_cons_succ] at e1; go_simp; first | done | with_reducible rfl
        simp only [List.set_cons_zero, List.set_cons_succ]
        refine held_take (i := 4) (d := 55) (v := ?_) rfl (by kernel_rfl) (by kernel_rfl) (by kernel_rfl) rfl (fun _ _ _ h => h) rfl hH (fun w' hS => ?_) ?_
        rotate_left
        · have e1 := hS.2.1.cell 0; simp only [List.getElem?_toArray, List.getElem?_cons_zero] at e1; go_simp; first | done | with_reducible rfl
        simp only [List.set_cons_zero, List.set_cons_succ]
        refine held_take (i := 5) (d := 56) (v := ?_) rfl (by kernel_rfl) (by kernel_rfl) (by kernel_rfl) rfl (fun _ _ _ h => h) rfl hH (fun w' hS => ?_) ?_
        rotate_left
        · have e1 := hS.2.1.cell 0; simp only [List.getElem?_toArray, List.getElem?_cons_zero] at e1; go_simp; first | done | with_reducible rfl
        simp only [List.set_cons_zero, List.set_cons_succ]
        refine held_take (i := 6) (d := 57) (v := ?_) rfl (by kernel_rfl) (by kernel_rfl) (by kernel_rfl) rfl (fun _ _ _ h => h) rfl hH (fun w' hS => ?_) ?_
        rotate_left
        · have e1 := run_look kTypes (hP.out.below hS.1 hP.out.lt) x.h.k 0 (by rw [hk.out]; rfl) (tyF 77 B) rfl; unfold tyF at e1; go_simp; first | done | with_reducible rfl
        simp only [List.set_cons_zero, List.set_cons_succ]
        refine held_take (i := 7) (d := 58) (v := .agg #[.int .i64 x.h.k, .string x.h.op, .string x.h.nm, .string x.h.tb, .int .i64 x.h.vk, .int .i64 x.h.vn, .string x.h.vs, .slice ua x.h.un.length uc, .int .i64 x.h.pa, .int .i64 x.h.wk, .int .i64 x.h.ws, .slice aa 0 ac]) rfl (by kernel_rfl) (by kernel_rfl) (by kernel_rfl) rfl (fun _ _ _ h => h) rfl hH (fun w' hS => yield_load infX Tryz.underlying29 rfl (.tmp 3) rfl _ _ _ rfl hS.2.1 rfl) ?_
        simp only [List.set_cons_zero, List.set_cons_succ]
        refine held_take (i := 8) (d := 59) (v := ?_) rfl (by kernel_rfl) (by kernel_rfl) (by kernel_rfl) rfl (fun _ _ _ h => h) rfl hH (fun w' hS => ?_) ?_
        rotate_left
        · go_simp; first | done | with_reducible rfl
        simp only [List.set_cons_zero, List.set_cons_succ]
        refine held_only (i := 9) rfl (by kernel_rfl) rfl (fun K hK => ?_)
        go_simp
        have bd := (b0 wr).drew
        refine (C.out _ ((HW0.out.trans (BW.out.mono HW0.out.size)).trans (bd.mono (Nat.le_trans HW0.out.size BW.out.size))) (Nat.le_trans BW.out.size bd.size) (HS.out.imp fun L hL => (⟨hL.blk.below hH.1 hL.blk.lt, hL.mp.below hH.1 hL.mp.lt, hL.tab.below hH.1 hL.tab.lt, hL.fis, hL.fl, hL.ct, hL.cg⟩ : Sc1 w0 _ B ts gs en fl L)) HU.out (OO.out.keeps bd)).mono ?_
        rintro e w7 ⟨x7, c7, rfl, ux, b7⟩
        refine hK.out _ _ ⟨bnext hH.1 b7, hH.2.1.keeps b7, hH.2.2.imp fun _ h => h.imp fun _ h => h.imp fun _ h => h.keeps b7⟩ (fun hH => ?_)
        clear hK K
        refine held_take (i := 10) (d := 61) (v := ?_) rfl (by kernel_rfl) (by kernel_rfl) (by kernel_rfl) rfl (fun _ _ _ h => h) rfl hH (fun w' hS => ?_) ?_
        rotate_left
        · go_simp; first | done | with_reducible rfl
        simp only [List.set_cons_zero, List.set_cons_succ]
        refine held_take (i := 11) (d := 62) (v := ?_) rfl (by kernel_rfl) (by kernel_rfl) (by kernel_rfl) rfl (fun _ _ _ h => h) rfl hH (fun w' hS => ?_) ?_
        rotate_left
        · go_simp; first | done | with_reducible rfl
        simp only [List.set_cons_zero, List.set_cons_succ]
        obtain ⟨t9, a9, c9, hg9⟩ := hH.2.2
        refine held_only (i := 12) rfl (by kernel_rfl) rfl (fun K hK => ?_)
        refine op_storeT infTy (.tmp 4) (.tmp 61) rfl (w.heap.size + 1) _ (tyC (infE ts gs en fl x).2 x7 c7) _ rfl rfl hg9 rfl rfl (by simp [tyC, Value.oneCell']) ?_
        intro w8 L8 hs8
        refine hK.out _ _ ⟨hH.1.trans (hs8.below (by omega)), hH.2.1.st hs8 (by omega), _, _, _, L8⟩ (fun hH => ?_)
        clear hK K
        refine held_take (i := 13) (d := 5) (v := ?_) rfl (by kernel_rfl) (by kernel_rfl) (by kernel_rfl) rfl (fun _ _ _ h => h) rfl hH (fun w' hS => ?_) ?_
        rotate_left
        · go_simp; first | done | with_reducible rfl
        simp only [List.set_cons_zero, List.set_cons_succ]
        refine wpAnyH_done (by kernel_rfl) ?_ _
        have U8 := ux.ty hg9 hs8
        have B8 := hH.1
        clear hH
        go_wp2_with fail
        exact ret_T2 infTy Tryz.underlying36 rfl Tryz.results47 _ _ _ _ _ rfl L8 rfl ⟨_, _, rfl, U8, B8⟩
      · replace hnn : x.ar.len = 0 := by have := hnn.out; rw [hk] at this; simpa using this
        replace hk := Lib.hid hk
        clear hn3 hkk
        have hne : ¬ (j < x.ar.len) := hlt
        clear hlt
        generalize x.ar.len = m at *
        subst hnn
        go_wp2_with fail
        obtain rfl : l = [] := List.eq_nil_of_length_eq_zero hlen.out
        have hR := Lib.hid (show infE ts gs en fl x = (fldT fl x.h.nm) by rw [hE.out]; unfold rulT; simp [hk.out])
        have C := Lib.hid (fun (W : World) (hb : Below w0.heap.size w0 W) (hN : w.heap.size ≤ W.heap.size) (hS : Scp w0 W B ts gs en fl) (hU : un.Sl w0 ua x.h.un.length uc x.h.un) (hO : Ops w0 w.heap.size W (some ⟨gO, 0, none⟩) 0 0 []) => (show Calls Tryz.prog 78 #[.pointer (some ⟨B, 0, none⟩), .agg (exC x.h 0 ua uc aa ac), .slice (some ⟨gO, 0, none⟩) 0 0] W (TrV (infE ts gs en fl x) w0 w.heap.size W) by rw [hR.out]; exact typeField_any x.h ua aa uc 0 ac B ts gs en fl w.heap.size w0 W hb hN hS hU (some ⟨gO, 0, none⟩) 0 0))
        have OO := Lib.hid (show Ops w0 w.heap.size wr (some ⟨gO, 0, none⟩) 0 0 [] from ⟨.inr ⟨gO, 0, rfl, fun j hj => by obtain ⟨xa, xc, h1, h2⟩ := hT.out j hj; exact ⟨tyC _ xa xc, rfl, by simpa using h1, xa, xc, rfl, h2.less (by have := hgw.out; omega)⟩⟩, rfl, Nat.le_refl _, by omega, fun e => by cases e⟩)
        unfold exC at C
        obtain ⟨L, hL⟩ := HS.out
        replace hL := Lib.hid hL
        have hP := Lib.hid (hL.out.mp)
        refine wp_region_held_drew (S := fun w' => Below w.heap.size w w' ∧ (Blk w' w.heap.size 29 #[.int .i64 x.h.k, .string x.h.op, .string x.h.nm, .string x.h.tb, .int .i64 x.h.vk, .int .i64 x.h.vn, .string x.h.vs, .slice ua x.h.un.length uc, .int .i64 x.h.pa, .int .i64 x.h.wk, .int .i64 x.h.ws, .slice aa 0 ac]) ∧ ∃ t9 a9 c9, Blk w' (w.heap.size + 1) 36 (tyC t9 a9 c9)) (by kernel_rfl) ⟨BW.out.drew, GX.out.drew, t0, none, 0, G4.out.drew⟩ (fun hH => ?_)
        refine held_take (i := 0) (d := 51) (v := ?_) rfl (by kernel_rfl) (by kernel_rfl) (by kernel_rfl) rfl (fun _ _ _ h => h) rfl hH (fun w' hS => ?_) ?_
        rotate_left
        · go_simp; first | done | with_reducible rfl
        simp only [List.set_cons_zero, List.set_cons_succ]
        refine held_take (i := 1) (d := 52) (v := ?_) rfl (by kernel_rfl) (by kernel_rfl) (by kernel_rfl) rfl (fun _ _ _ h => h) rfl hH (fun w' hS => ?_) ?_
        rotate_left
        · have e1 := (hL.out.blk.below hS.1 hL.out.blk.lt).cell 6; simp only [ScL.cs, scC, List.getElem?_toArray, List.getElem?_cons_zero, List.getElem?_cons_succ] at e1; go_simp; first | done | with_reducible rfl
        simp only [List.set_cons_zero, List.set_cons_succ]
        refine held_take (i := 2) (d := 53) (v := ?_) rfl (by kernel_rfl) (by kernel_rfl) (by kernel_rfl) rfl (fun _ _ _ h => h) rfl hH (fun w' hS => ?_) ?_
        rotate_left
        · have e1 := (hL.out.blk.below hS.1 hL.out.blk.lt).cell 6; simp only [ScL.cs, scC, List.getElem?_toArray, List.getElem?_cons_zero, List.getElem?_cons_succ] at e1; go_simp; first | done | with_reducible rfl
        simp only [List.set_cons_zero, List.set_cons_succ]
        refine held_take (i := 3) (d := 54) (v := ?_) rfl (by kernel_rfl) (by kernel_rfl) (by kernel_rfl) rfl (fun _ _ _ h => h) rfl hH (fun w' hS => ?_) ?_
        rotate_left
        · have e1 := (hL.out.blk.below hS.1 hL.out.blk.lt).cell 6; simp only [ScL.cs, scC, List.getElem?_toArray, List.getElem?_cons_zero, List.getElem?_cons_succ] at e1; go_simp; first | done | with_reducible rfl
        simp only [List.set_cons_zero, List.set_cons_succ]
        refine held_take (i := 4) (d := 55) (v := ?_) rfl (by kernel_rfl) (by kernel_rfl) (by kernel_rfl) rfl (fun _ _ _ h => h) rfl hH (fun w' hS => ?_) ?_
        rotate_left
        · have e1 := hS.2.1.cell 0; simp only [List.getElem?_toArray, List.getElem?_cons_zero] at e1; go_simp; first | done | with_reducible rfl
        simp only [List.set_cons_zero, List.set_cons_succ]
        refine held_take (i := 5) (d := 56) (v := ?_) rfl (by kernel_rfl) (by kernel_rfl) (by kernel_rfl) rfl (fun _ _ _ h => h) rfl hH (fun w' hS => ?_) ?_
        rotate_left
        · have e1 := hS.2.1.cell 0; simp only [List.getElem?_toArray, List.getElem?_cons_zero] at e1; go_simp; first | done | with_reducible rfl
        simp only [List.set_cons_zero, List.set_cons_succ]
        refine held_take (i := 6) (d := 57) (v := ?_) rfl (by kernel_rfl) (by kernel_rfl) (by kernel_rfl) rfl (fun _ _ _ h => h) rfl hH (fun w' hS => ?_) ?_
        rotate_left
        · have e1 := run_look kTypes (hP.out.below hS.1 hP.out.lt) x.h.k 1 (by rw [hk.out]; rfl) (tyF 78 B) rfl; unfold tyF at e1; go_simp; first | done | with_reducible rfl
        simp only [List.set_cons_zero, List.set_cons_succ]
        refine held_take (i := 7) (d := 58) (v := .agg #[.int .i64 x.h.k, .string x.h.op, .string x.h.nm, .string x.h.tb, .int .i64 x.h.vk, .int .i64 x.h.vn, .string x.h.vs, .slice ua x.h.un.length uc, .int .i64 x.h.pa, .int .i64 x.h.wk, .int .i64 x.h.ws, .slice aa 0 ac]) rfl (by kernel_rfl) (by kernel_rfl) (by kernel_rfl) rfl (fun _ _ _ h => h) rfl hH (fun w' hS => yield_load infX Tryz.underlying29 rfl (.tmp 3) rfl _ _ _ rfl hS.2.1 rfl) ?_
        simp only [List.set_cons_zero, List.set_cons_succ]
        refine held_take (i := 8) (d := 59) (v := ?_) rfl (by kernel_rfl) (by kernel_rfl) (by kernel_rfl) rfl (fun _ _ _ h => h) rfl hH (fun w' hS => ?_) ?_
        rotate_left
        · go_simp; first | done | with_reducible rfl
        simp only [List.set_cons_zero, List.set_cons_succ]
        refine held_only (i := 9) rfl (by kernel_rfl) rfl (fun K hK => ?_)
        go_simp
        have bd := (b0 wr).drew
        refine (C.out _ ((HW0.out.trans (BW.out.mono HW0.out.size)).trans (bd.mono (Nat.le_trans HW0.out.size BW.out.size))) (Nat.le_trans BW.out.size bd.size) (HS.out.imp fun L hL => (⟨hL.blk.below hH.1 hL.blk.lt, hL.mp.below hH.1 hL.mp.lt, hL.tab.below hH.1 hL.tab.lt, hL.fis, hL.fl, hL.ct, hL.cg⟩ : Sc1 w0 _ B ts gs en fl L)) HU.out (OO.out.keeps bd)).mono ?_
        rintro e w7 ⟨x7, c7, rfl, ux, b7⟩
        refine hK.out _ _ ⟨bnext hH.1 b7, hH.2.1.keeps b7, hH.2.2.imp fun _ h => h.imp fun _ h => h.imp fun _ h => h.keeps b7⟩ (fun hH => ?_)
        clear hK K
        refine held_take (i := 10) (d := 61) (v := ?_) rfl (by kernel_rfl) (by kernel_rfl) (by kernel_rfl) rfl (fun _ _ _ h => h) rfl hH (fun w' hS => ?_) ?_
        rotate_left
        · go_simp; first | done | with_reducible rfl
        simp only [List.set_cons_zero, List.set_cons_succ]
        refine held_take (i := 11) (d := 62) (v := ?_) rfl (by kernel_rfl) (by kernel_rfl) (by kernel_rfl) rfl (fun _ _ _ h => h) rfl hH (fun w' hS => ?_) ?_
        rotate_left
        · go_simp; first | done | with_reducible rfl
        simp only [List.set_cons_zero, List.set_cons_succ]
        obtain ⟨t9, a9, c9, hg9⟩ := hH.2.2
        refine held_only (i := 12) rfl (by kernel_rfl) rfl (fun K hK => ?_)
        refine op_storeT infTy (.tmp 4) (.tmp 61) rfl (w.heap.size + 1) _ (tyC (infE ts gs en fl x).2 x7 c7) _ rfl rfl hg9 rfl rfl (by simp [tyC, Value.oneCell']) ?_
        intro w8 L8 hs8
        refine hK.out _ _ ⟨hH.1.trans (hs8.below (by omega)), hH.2.1.st hs8 (by omega), _, _, _, L8⟩ (fun hH => ?_)
        clear hK K
        refine held_take (i := 13) (d := 5) (v := ?_) rfl (by kernel_rfl) (by kernel_rfl) (by kernel_rfl) rfl (fun _ _ _ h => h) rfl hH (fun w' hS => ?_) ?_
        rotate_left
        · go_simp; first | done | with_reducible rfl
        simp only [List.set_cons_zero, List.set_cons_succ]
        refine wpAnyH_done (by kernel_rfl) ?_ _
        have U8 := ux.ty hg9 hs8
        have B8 := hH.1
        clear hH
        go_wp2_with fail
        exact ret_T2 infTy Tryz.underlying36 rfl Tryz.results47 _ _ _ _ _ rfl L8 rfl ⟨_, _, rfl, U8, B8⟩
      · replace hnn : x.ar.len = 0 := by have := hnn.out; rw [hk] at this; simpa using this
        replace hk := Lib.hid hk
        clear hn3 hkk
        have hne : ¬ (j < x.ar.len) := hlt
        clear hlt
        generalize x.ar.len = m at *
        subst hnn
        go_wp2_with fail
        obtain rfl : l = [] := List.eq_nil_of_length_eq_zero hlen.out
        have hR := Lib.hid (show infE ts gs en fl x = (feaT gs en x.h.nm) by rw [hE.out]; unfold rulT; simp [hk.out])
        have C := Lib.hid (fun (W : World) (hb : Below w0.heap.size w0 W) (hN : w.heap.size ≤ W.heap.size) (hS : Scp w0 W B ts gs en fl) (hU : un.Sl w0 ua x.h.un.length uc x.h.un) (hO : Ops w0 w.heap.size W (some ⟨gO, 0, none⟩) 0 0 []) => (show Calls Tryz.prog 79 #[.pointer (some ⟨B, 0, none⟩), .agg (exC x.h 0 ua uc aa ac), .slice (some ⟨gO, 0, none⟩) 0 0] W (TrV (infE ts gs en fl x) w0 w.heap.size W) by rw [hR.out]; exact typeFeature_any x.h ua aa uc 0 ac B ts gs en fl w.heap.size w0 W hb hN hS hU (some ⟨gO, 0, none⟩) 0 0))
        have OO := Lib.hid (show Ops w0 w.heap.size wr (some ⟨gO, 0, none⟩) 0 0 [] from ⟨.inr ⟨gO, 0, rfl, fun j hj => by obtain ⟨xa, xc, h1, h2⟩ := hT.out j hj; exact ⟨tyC _ xa xc, rfl, by simpa using h1, xa, xc, rfl, h2.less (by have := hgw.out; omega)⟩⟩, rfl, Nat.le_refl _, by omega, fun e => by cases e⟩)
        unfold exC at C
        obtain ⟨L, hL⟩ := HS.out
        replace hL := Lib.hid hL
        have hP := Lib.hid (hL.out.mp)
        refine wp_region_held_drew (S := fun w' => Below w.heap.size w w' ∧ (Blk w' w.heap.size 29 #[.int .i64 x.h.k, .string x.h.op, .string x.h.nm, .string x.h.tb, .int .i64 x.h.vk, .int .i64 x.h.vn, .string x.h.vs, .slice ua x.h.un.length uc, .int .i64 x.h.pa, .int .i64 x.h.wk, .int .i64 x.h.ws, .slice aa 0 ac]) ∧ ∃ t9 a9 c9, Blk w' (w.heap.size + 1) 36 (tyC t9 a9 c9)) (by kernel_rfl) ⟨BW.out.drew, GX.out.drew, t0, none, 0, G4.out.drew⟩ (fun hH => ?_)
        refine held_take (i := 0) (d := 51) (v := ?_) rfl (by kernel_rfl) (by kernel_rfl) (by kernel_rfl) rfl (fun _ _ _ h => h) rfl hH (fun w' hS => ?_) ?_
        rotate_left
        · go_simp; first | done | with_reducible rfl
        simp only [List.set_cons_zero, List.set_cons_succ]
        refine held_take (i := 1) (d := 52) (v := ?_) rfl (by kernel_rfl) (by kernel_rfl) (by kernel_rfl) rfl (fun _ _ _ h => h) rfl hH (fun w' hS => ?_) ?_
        rotate_left
        · have e1 := (hL.out.blk.below hS.1 hL.out.blk.lt).cell 6; simp only [ScL.cs, scC, List.getElem?_toArray, List.getElem?_cons_zero, List.getElem?_cons_succ] at e1; go_simp; first | done | with_reducible rfl
        simp only [List.set_cons_zero, List.set_cons_succ]
        refine held_take (i := 2) (d := 53) (v := ?_) rfl (by kernel_rfl) (by kernel_rfl) (by kernel_rfl) rfl (fun _ _ _ h => h) rfl hH (fun w' hS => ?_) ?_
        rotate_left
        · have e1 := (hL.out.blk.below hS.1 hL.out.blk.lt).cell 6; simp only [ScL.cs, scC, List.getElem?_toArray, List.getElem?_cons_zero, List.getElem?_cons_succ] at e1; go_simp; first | done | with_reducible rfl
        simp only [List.set_cons_zero, List.set_cons_succ]
        refine held_take (i := 3) (d := 54) (v := ?_) rfl (by kernel_rfl) (by kernel_rfl) (by kernel_rfl) rfl (fun _ _ _ h => h) rfl hH (fun w' hS => ?_) ?_
        rotate_left
        · have e1 := (hL.out.blk.below hS.1 hL.out.blk.lt).cell 6; simp only [ScL.cs, scC, List.getElem?_toArray, List.getElem?_cons_zero, List.getElem?_cons_succ] at e1; go_simp; first | done | with_reducible rfl
        simp only [List.set_cons_zero, List.set_cons_succ]
        refine held_take (i := 4) (d := 55) (v := ?_) rfl (by kernel_rfl) (by kernel_rfl) (by kernel_rfl) rfl (fun _ _ _ h => h) rfl hH (fun w' hS => ?_) ?_
        rotate_left
        · have e1 := hS.2.1.cell 0; simp only [List.getElem?_toArray, List.getElem?_cons_zero] at e1; go_simp; first | done | with_reducible rfl
        simp only [List.set_cons_zero, List.set_cons_succ]
        refine held_take (i := 5) (d := 56) (v := ?_) rfl (by kernel_rfl) (by kernel_rfl) (by kernel_rfl) rfl (fun _ _ _ h => h) rfl hH (fun w' hS => ?_) ?_
        rotate_left
        · have e1 := hS.2.1.cell 0; simp only [List.getElem?_toArray, List.getElem?_cons_zero] at e1; go_simp; first | done | with_reducible rfl
        simp only [List.set_cons_zero, List.set_cons_succ]
        refine held_take (i := 6) (d := 57) (v := ?_) rfl (by kernel_rfl) (by kernel_rfl) (by kernel_rfl) rfl (fun _ _ _ h => h) rfl hH (fun w' hS => ?_) ?_
        rotate_left
        · have e1 := run_look kTypes (hP.out.below hS.1 hP.out.lt) x.h.k 2 (by rw [hk.out]; rfl) (tyF 79 B) rfl; unfold tyF at e1; go_simp; first | done | with_reducible rfl
        simp only [List.set_cons_zero, List.set_cons_succ]
        refine held_take (i := 7) (d := 58) (v := .agg #[.int .i64 x.h.k, .string x.h.op, .string x.h.nm, .string x.h.tb, .int .i64 x.h.vk, .int .i64 x.h.vn, .string x.h.vs, .slice ua x.h.un.length uc, .int .i64 x.h.pa, .int .i64 x.h.wk, .int .i64 x.h.ws, .slice aa 0 ac]) rfl (by kernel_rfl) (by kernel_rfl) (by kernel_rfl) rfl (fun _ _ _ h => h) rfl hH (fun w' hS => yield_load infX Tryz.underlying29 rfl (.tmp 3) rfl _ _ _ rfl hS.2.1 rfl) ?_
        simp only [List.set_cons_zero, List.set_cons_succ]
        refine held_take (i := 8) (d := 59) (v := ?_) rfl (by kernel_rfl) (by kernel_rfl) (by kernel_rfl) rfl (fun _ _ _ h => h) rfl hH (fun w' hS => ?_) ?_
        rotate_left
        · go_simp; first | done | with_reducible rfl
        simp only [List.set_cons_zero, List.set_cons_succ]
        refine held_only (i := 9) rfl (by kernel_rfl) rfl (fun K hK => ?_)
        go_simp
        have bd := (b0 wr).drew
        refine (C.out _ ((HW0.out.trans (BW.out.mono HW0.out.size)).trans (bd.mono (Nat.le_trans HW0.out.size BW.out.size))) (Nat.le_trans BW.out.size bd.size) (HS.out.imp fun L hL => (⟨hL.blk.below hH.1 hL.blk.lt, hL.mp.below hH.1 hL.mp.lt, hL.tab.below hH.1 hL.tab.lt, hL.fis, hL.fl, hL.ct, hL.cg⟩ : Sc1 w0 _ B ts gs en fl L)) HU.out (OO.out.keeps bd)).mono ?_
        rintro e w7 ⟨x7, c7, rfl, ux, b7⟩
        refine hK.out _ _ ⟨bnext hH.1 b7, hH.2.1.keeps b7, hH.2.2.imp fun _ h => h.imp fun _ h => h.imp fun _ h => h.keeps b7⟩ (fun hH => ?_)
        clear hK K
        refine held_take (i := 10) (d := 61) (v := ?_) rfl (by kernel_rfl) (by kernel_rfl) (by kernel_rfl) rfl (fun _ _ _ h => h) rfl hH (fun w' hS => ?_) ?_
        rotate_left
        · go_simp; first | done | with_reducible rfl
        simp only [List.set_cons_zero, List.set_cons_succ]
        refine held_take (i := 11) (d := 62) (v := ?_) rfl (by kernel_rfl) (by kernel_rfl) (by kernel_rfl) rfl (fun _ _ _ h => h) rfl hH (fun w' hS => ?_) ?_
        rotate_left
        · go_simp; first | done | with_reducible rfl
        simp only [List.set_cons_zero, List.set_cons_succ]
        obtain ⟨t9, a9, c9, hg9⟩ := hH.2.2
        refine held_only (i := 12) rfl (by kernel_rfl) rfl (fun K hK => ?_)
        refine op_storeT infTy (.tmp 4) (.tmp 61) rfl (w.heap.size + 1) _ (tyC (infE ts gs en fl x).2 x7 c7) _ rfl rfl hg9 rfl rfl (by simp [tyC, Value.oneCell']) ?_
        intro w8 L8 hs8
        refine hK.out _ _ ⟨hH.1.trans (hs8.below (by omega)), hH.2.1.st hs8 (by omega), _, _, _, L8⟩ (fun hH => ?_)
        clear hK K
        refine held_take (i := 13) (d := 5) (v := ?_) rfl (by kernel_rfl) (by kernel_rfl) (by kernel_rfl) rfl (fun _ _ _ h => h) rfl hH (fun w' hS => ?_) ?_
        rotate_left
        · go_simp; first | done | with_reducible rfl
        simp only [List.set_cons_zero, List.set_cons_succ]
        refine wpAnyH_done (by kernel_rfl) ?_ _
        have U8 := ux.ty hg9 hs8
        have B8 := hH.1
        clear hH
        go_wp2_with fail
        exact ret_T2 infTy Tryz.underlying36 rfl Tryz.results47 _ _ _ _ _ rfl L8 rfl ⟨_, _, rfl, U8, B8⟩
      · replace hnn : x.ar.len = 1 := by have := hnn.out; rw [hk] at this; simpa using this
        replace hk := Lib.hid hk
        clear hn3 hkk
        have hne : ¬ (j < x.ar.len) := hlt
        clear hlt
        generalize x.ar.len = m at *
        subst hnn
        go_wp2_with fail
        obtain ⟨t, rfl⟩ : ∃ t, l = [t] := by
          have hq : l.length = 1 := hlen.out
          match l, hq with
          | [t], _ => exact ⟨t, rfl⟩
        have hR := Lib.hid (show infE ts gs en fl x = (if t.k = 5 then feaT gs t.of x.h.nm else noR 5) by rw [hE.out]; unfold rulT; simp [hk.out])
        have C := Lib.hid (fun (W : World) (hb : Below w0.heap.size w0 W) (hN : w.heap.size ≤ W.heap.size) (hS : Scp w0 W B ts gs en fl) (hU : un.Sl w0 ua x.h.un.length uc x.h.un) (hO : Ops w0 w.heap.size W (some ⟨gO, 0, none⟩) 1 1 [t]) => (show Calls Tryz.prog 80 #[.pointer (some ⟨B, 0, none⟩), .agg (exC x.h 1 ua uc aa ac), .slice (some ⟨gO, 0, none⟩) 1 1] W (TrV (infE ts gs en fl x) w0 w.heap.size W) by rw [hR.out]; exact typeLookup_any x.h ua aa uc 1 ac B ts gs en fl w.heap.size w0 W hb hN hS hU (some ⟨gO, 0, none⟩) 1 t hO))
        have OO := Lib.hid (show Ops w0 w.heap.size wr (some ⟨gO, 0, none⟩) 1 1 [t] from ⟨.inr ⟨gO, 0, rfl, fun j hj => by obtain ⟨xa, xc, h1, h2⟩ := hT.out j hj; exact ⟨tyC _ xa xc, rfl, by simpa using h1, xa, xc, rfl, h2.less (by have := hgw.out; omega)⟩⟩, rfl, Nat.le_refl _, by omega, fun e => by cases e⟩)
        unfold exC at C
        obtain ⟨L, hL⟩ := HS.out
        replace hL := Lib.hid hL
        have hP := Lib.hid (hL.out.mp)
        refine wp_region_held_drew (S := fun w' => Below w.heap.size w w' ∧ (Blk w' w.heap.size 29 #[.int .i64 x.h.k, .string x.h.op, .string x.h.nm, .string x.h.tb, .int .i64 x.h.vk, .int .i64 x.h.vn, .string x.h.vs, .slice ua x.h.un.length uc, .int .i64 x.h.pa, .int .i64 x.h.wk, .int .i64 x.h.ws, .slice aa 1 ac]) ∧ ∃ t9 a9 c9, Blk w' (w.heap.size + 1) 36 (tyC t9 a9 c9)) (by kernel_rfl) ⟨BW.out.drew, GX.out.drew, t0, none, 0, G4.out.drew⟩ (fun hH => ?_)
        refine held_take (i := 0) (d := 51) (v := ?_) rfl (by kernel_rfl) (by kernel_rfl) (by kernel_rfl) rfl (fun _ _ _ h => h) rfl hH (fun w' hS => ?_) ?_
        rotate_left
        · go_simp; first | done | with_reducible rfl
        simp only [List.set_cons_zero, List.set_cons_succ]
        refine held_take (i := 1) (d := 52) (v := ?_) rfl (by kernel_rfl) (by kernel_rfl) (by kernel_rfl) rfl (fun _ _ _ h => h) rfl hH (fun w' hS => ?_) ?_
        rotate_left
        · have e1 := (hL.out.blk.below hS.1 hL.out.blk.lt).cell 6; simp only [ScL.cs, scC, List.getElem?_toArray, List.getElem?_cons_zero, List.getElem?_cons_succ] at e1; go_simp; first | done | with_reducible rfl
        simp only [List.set_cons_zero, List.set_cons_succ]
        refine held_take (i := 2) (d := 53) (v := ?_) rfl (by kernel_rfl) (by kernel_rfl) (by kernel_rfl) rfl (fun _ _ _ h => h) rfl hH (fun w' hS => ?_) ?_
        rotate_left
        · have e1 := (hL.out.blk.below hS.1 hL.out.blk.lt).cell 6; simp only [ScL.cs, scC, List.getElem?_toArray, List.getElem?_cons_zero, List.getElem?_cons_succ] at e1; go_simp; first | done | with_reducible rfl
        simp only [List.set_cons_zero, List.set_cons_succ]
        refine held_take (i := 3) (d := 54) (v := ?_) rfl (by kernel_rfl) (by kernel_rfl) (by kernel_rfl) rfl (fun _ _ _ h => h) rfl hH (fun w' hS => ?_) ?_
        rotate_left
        · have e1 := (hL.out.blk.below hS.1 hL.out.blk.lt).cell 6; simp only [ScL.cs, scC, List.getElem?_toArray, List.getElem?_cons_zero, List.getElem?_cons_succ] at e1; go_simp; first | done | with_reducible rfl
        simp only [List.set_cons_zero, List.set_cons_succ]
        refine held_take (i := 4) (d := 55) (v := ?_) rfl (by kernel_rfl) (by kernel_rfl) (by kernel_rfl) rfl (fun _ _ _ h => h) rfl hH (fun w' hS => ?_) ?_
        rotate_left
        · have e1 := hS.2.1.cell 0; simp only [List.getElem?_toArray, List.getElem?_cons_zero] at e1; go_simp; first | done | with_reducible rfl
        simp only [List.set_cons_zero, List.set_cons_succ]
        refine held_take (i := 5) (d := 56) (v := ?_) rfl (by kernel_rfl) (by kernel_rfl) (by kernel_rfl) rfl (fun _ _ _ h => h) rfl hH (fun w' hS => ?_) ?_
        rotate_left
        · have e1 := hS.2.1.cell 0; simp only [List.getElem?_toArray, List.getElem?_cons_zero] at e1; go_simp; first | done | with_reducible rfl
        simp only [List.set_cons_zero, List.set_cons_succ]
        refine held_take (i := 6) (d := 57) (v := ?_) rfl (by kernel_rfl) (by kernel_rfl) (by kernel_rfl) rfl (fun _ _ _ h => h) rfl hH (fun w' hS => ?_) ?_
        rotate_left
        · have e1 := run_look kTypes (hP.out.below hS.1 hP.out.lt) x.h.k 3 (by rw [hk.out]; rfl) (tyF 80 B) rfl; unfold tyF at e1; go_simp; first | done | with_reducible rfl
        simp only [List.set_cons_zero, List.set_cons_succ]
        refine held_take (i := 7) (d := 58) (v := .agg #[.int .i64 x.h.k, .string x.h.op, .string x.h.nm, .string x.h.tb, .int .i64 x.h.vk, .int .i64 x.h.vn, .string x.h.vs, .slice ua x.h.un.length uc, .int .i64 x.h.pa, .int .i64 x.h.wk, .int .i64 x.h.ws, .slice aa 1 ac]) rfl (by kernel_rfl) (by kernel_rfl) (by kernel_rfl) rfl (fun _ _ _ h => h) rfl hH (fun w' hS => yield_load infX Tryz.underlying29 rfl (.tmp 3) rfl _ _ _ rfl hS.2.1 rfl) ?_
        simp only [List.set_cons_zero, List.set_cons_succ]
        refine held_take (i := 8) (d := 59) (v := ?_) rfl (by kernel_rfl) (by kernel_rfl) (by kernel_rfl) rfl (fun _ _ _ h => h) rfl hH (fun w' hS => ?_) ?_
        rotate_left
        · go_simp; first | done | with_reducible rfl
        simp only [List.set_cons_zero, List.set_cons_succ]
        refine held_only (i := 9) rfl (by kernel_rfl) rfl (fun K hK => ?_)
        go_simp
        have bd := (b0 wr).drew
        refine (C.out _ ((HW0.out.trans (BW.out.mono HW0.out.size)).trans (bd.mono (Nat.le_trans HW0.out.size BW.out.size))) (Nat.le_trans BW.out.size bd.size) (HS.out.imp fun L hL => (⟨hL.blk.below hH.1 hL.blk.lt, hL.mp.below hH.1 hL.mp.lt, hL.tab.below hH.1 hL.tab.lt, hL.fis, hL.fl, hL.ct, hL.cg⟩ : Sc1 w0 _ B ts gs en fl L)) HU.out (OO.out.keeps bd)).mono ?_
        rintro e w7 ⟨x7, c7, rfl, ux, b7⟩
        refine hK.out _ _ ⟨bnext hH.1 b7, hH.2.1.keeps b7, hH.2.2.imp fun _ h => h.imp fun _ h => h.imp fun _ h => h.keeps b7⟩ (fun hH => ?_)
        clear hK K
        refine held_take (i := 10) (d := 61) (v := ?_) rfl (by kernel_rfl) (by kernel_rfl) (by kernel_rfl) rfl (fun _ _ _ h => h) rfl hH (fun w' hS => ?_) ?_
        rotate_left
        · go_simp; first | done | with_reducible rfl
        simp only [List.set_cons_zero, List.set_cons_succ]
        refine held_take (i := 11) (d := 62) (v := ?_) rfl (by kernel_rfl) (by kernel_rfl) (by kernel_rfl) rfl (fun _ _ _ h => h) rfl hH (fun w' hS => ?_) ?_
        rotate_left
        · go_simp; first | done | with_reducible rfl
        simp only [List.set_cons_zero, List.set_cons_succ]
        obtain ⟨t9, a9, c9, hg9⟩ := hH.2.2
        refine held_only (i := 12) rfl (by kernel_rfl) rfl (fun K hK => ?_)
        refine op_storeT infTy (.tmp 4) (.tmp 61) rfl (w.heap.size + 1) _ (tyC (infE ts gs en fl x).2 x7 c7) _ rfl rfl hg9 rfl rfl (by simp [tyC, Value.oneCell']) ?_
        intro w8 L8 hs8
        refine hK.out _ _ ⟨hH.1.trans (hs8.below (by omega)), hH.2.1.st hs8 (by omega), _, _, _, L8⟩ (fun hH => ?_)
        clear hK K
        refine held_take (i := 13) (d := 5) (v := ?_) rfl (by kernel_rfl) (by kernel_rfl) (by kernel_rfl) rfl (fun _ _ _ h => h) rfl hH (fun w' hS => ?_) ?_
        rotate_left
        · go_simp; first | done | with_reducible rfl
        simp only [List.set_cons_zero, List.set_cons_succ]
        refine wpAnyH_done (by kernel_rfl) ?_ _
        have U8 := ux.ty hg9 hs8
        have B8 := hH.1
        clear hH
        go_wp2_with fail
        exact ret_T2 infTy Tryz.underlying36 rfl Tryz.results47 _ _ _ _ _ rfl L8 rfl ⟨_, _, rfl, U8, B8⟩
      · replace hnn : x.ar.len = 1 := by have := hnn.out; rw [hk] at this; simpa using this
        replace hk := Lib.hid hk
        clear hn3 hkk
        have hne : ¬ (j < x.ar.len) := hlt
        clear hlt
        generalize x.ar.len = m at *
        subst hnn
        go_wp2_with fail
        obtain ⟨t, rfl⟩ : ∃ t, l = [t] := by
          have hq : l.length = 1 := hlen.out
          match l, hq with
          | [t], _ => exact ⟨t, rfl⟩
        have hR := Lib.hid (show infE ts gs en fl x = (unaT x.h.op t) by rw [hE.out]; unfold rulT; simp [hk.out])
        have C := Lib.hid (fun (W : World) (hb : Below w0.heap.size w0 W) (hN : w.heap.size ≤ W.heap.size) (hS : Scp w0 W B ts gs en fl) (hU : un.Sl w0 ua x.h.un.length uc x.h.un) (hO : Ops w0 w.heap.size W (some ⟨gO, 0, none⟩) 1 1 [t]) => (show Calls Tryz.prog 82 #[.pointer (some ⟨B, 0, none⟩), .agg (exC x.h 1 ua uc aa ac), .slice (some ⟨gO, 0, none⟩) 1 1] W (TrV (infE ts gs en fl x) w0 w.heap.size W) by rw [hR.out]; exact typeUnary_any x.h ua aa uc 1 ac B ts gs en fl w.heap.size w0 W hb hN hS hU (some ⟨gO, 0, none⟩) 1 t hO))
        have OO := Lib.hid (show Ops w0 w.heap.size wr (some ⟨gO, 0, none⟩) 1 1 [t] from ⟨.inr ⟨gO, 0, rfl, fun j hj => by obtain ⟨xa, xc, h1, h2⟩ := hT.out j hj; exact ⟨tyC _ xa xc, rfl, by simpa using h1, xa, xc, rfl, h2.less (by have := hgw.out; omega)⟩⟩, rfl, Nat.le_refl _, by omega, fun e => by cases e⟩)
        unfold exC at C
        obtain ⟨L, hL⟩ := HS.out
        replace hL := Lib.hid hL
        have hP := Lib.hid (hL.out.mp)
        refine wp_region_held_drew (S := fun w' => Below w.heap.size w w' ∧ (Blk w' w.heap.size 29 #[.int .i64 x.h.k, .string x.h.op, .string x.h.nm, .string x.h.tb, .int .i64 x.h.vk, .int .i64 x.h.vn, .string x.h.vs, .slice ua x.h.un.length uc, .int .i64 x.h.pa, .int .i64 x.h.wk, .int .i64 x.h.ws, .slice aa 1 ac]) ∧ ∃ t9 a9 c9, Blk w' (w.heap.size + 1) 36 (tyC t9 a9 c9)) (by kernel_rfl) ⟨BW.out.drew, GX.out.drew, t0, none, 0, G4.out.drew⟩ (fun hH => ?_)
        refine held_take (i := 0) (d := 51) (v := ?_) rfl (by kernel_rfl) (by kernel_rfl) (by kernel_rfl) rfl (fun _ _ _ h => h) rfl hH (fun w' hS => ?_) ?_
        rotate_left
        · go_simp; first | done | with_reducible rfl
        simp only [List.set_cons_zero, List.set_cons_succ]
        refine held_take (i := 1) (d := 52) (v := ?_) rfl (by kernel_rfl) (by kernel_rfl) (by kernel_rfl) rfl (fun _ _ _ h => h) rfl hH (fun w' hS => ?_) ?_
        rotate_left
        · have e1 := (hL.out.blk.below hS.1 hL.out.blk.lt).cell 6; simp only [ScL.cs, scC, List.getElem?_toArray, List.getElem?_cons_zero, List.getElem?_cons_succ] at e1; go_simp; first | done | with_reducible rfl
        simp only [List.set_cons_zero, List.set_cons_succ]
        refine held_take (i := 2) (d := 53) (v := ?_) rfl (by kernel_rfl) (by kernel_rfl) (by kernel_rfl) rfl (fun _ _ _ h => h) rfl hH (fun w' hS => ?_) ?_
        rotate_left
        · have e1 := (hL.out.blk.below hS.1 hL.out.blk.lt).cell 6; simp only [ScL.cs, scC, List.getElem?_toArray, List.getElem?_cons_zero, List.getElem?_cons_succ] at e1; go_simp; first | done | with_reducible rfl
        simp only [List.set_cons_zero, List.set_cons_succ]
        refine held_take (i := 3) (d := 54) (v := ?_) rfl (by kernel_rfl) (by kernel_rfl) (by kernel_rfl) rfl (fun _ _ _ h => h) rfl hH (fun w' hS => ?_) ?_
        rotate_left
        · have e1 := (hL.out.blk.below hS.1 hL.out.blk.lt).cell 6; simp only [ScL.cs, scC, List.getElem?_toArray, List.getElem?_cons_zero, List.getElem?_cons_succ] at e1; go_simp; first | done | with_reducible rfl
        simp only [List.set_cons_zero, List.set_cons_succ]
        refine held_take (i := 4) (d := 55) (v := ?_) rfl (by kernel_rfl) (by kernel_rfl) (by kernel_rfl) rfl (fun _ _ _ h => h) rfl hH (fun w' hS => ?_) ?_
        rotate_left
        · have e1 := hS.2.1.cell 0; simp only [List.getElem?_toArray, List.getElem?_cons_zero] at e1; go_simp; first | done | with_reducible rfl
        simp only [List.set_cons_zero, List.set_cons_succ]
        refine held_take (i := 5) (d := 56) (v := ?_) rfl (by kernel_rfl) (by kernel_rfl) (by kernel_rfl) rfl (fun _ _ _ h => h) rfl hH (fun w' hS => ?_) ?_
        rotate_left
        · have e1 := hS.2.1.cell 0; simp only [List.getElem?_toArray, List.getElem?_cons_zero] at e1; go_simp; first | done | with_reducible rfl
        simp only [List.set_cons_zero, List.set_cons_succ]
        refine held_take (i := 6) (d := 57) (v := ?_) rfl (by kernel_rfl) (by kernel_rfl) (by kernel_rfl) rfl (fun _ _ _ h => h) rfl hH (fun w' hS => ?_) ?_
        rotate_left
        · have e1 := run_look kTypes (hP.out.below hS.1 hP.out.lt) x.h.k 5 (by rw [hk.out]; rfl) (tyF 82 B) rfl; unfold tyF at e1; go_simp; first | done | with_reducible rfl
        simp only [List.set_cons_zero, List.set_cons_succ]
        refine held_take (i := 7) (d := 58) (v := .agg #[.int .i64 x.h.k, .string x.h.op, .string x.h.nm, .string x.h.tb, .int .i64 x.h.vk, .int .i64 x.h.vn, .string x.h.vs, .slice ua x.h.un.length uc, .int .i64 x.h.pa, .int .i64 x.h.wk, .int .i64 x.h.ws, .slice aa 1 ac]) rfl (by kernel_rfl) (by kernel_rfl) (by kernel_rfl) rfl (fun _ _ _ h => h) rfl hH (fun w' hS => yield_load infX Tryz.underlying29 rfl (.tmp 3) rfl _ _ _ rfl hS.2.1 rfl) ?_
        simp only [List.set_cons_zero, List.set_cons_succ]
        refine held_take (i := 8) (d := 59) (v := ?_) rfl (by kernel_rfl) (by kernel_rfl) (by kernel_rfl) rfl (fun _ _ _ h => h) rfl hH (fun w' hS => ?_) ?_
        rotate_left
        · go_simp; first | done | with_reducible rfl
        simp only [List.set_cons_zero, List.set_cons_succ]
        refine held_only (i := 9) rfl (by kernel_rfl) rfl (fun K hK => ?_)
        go_simp
        have bd := (b0 wr).drew
        refine (C.out _ ((HW0.out.trans (BW.out.mono HW0.out.size)).trans (bd.mono (Nat.le_trans HW0.out.size BW.out.size))) (Nat.le_trans BW.out.size bd.size) (HS.out.imp fun L hL => (⟨hL.blk.below hH.1 hL.blk.lt, hL.mp.below hH.1 hL.mp.lt, hL.tab.below hH.1 hL.tab.lt, hL.fis, hL.fl, hL.ct, hL.cg⟩ : Sc1 w0 _ B ts gs en fl L)) HU.out (OO.out.keeps bd)).mono ?_
        rintro e w7 ⟨x7, c7, rfl, ux, b7⟩
        refine hK.out _ _ ⟨bnext hH.1 b7, hH.2.1.keeps b7, hH.2.2.imp fun _ h => h.imp fun _ h => h.imp fun _ h => h.keeps b7⟩ (fun hH => ?_)
        clear hK K
        refine held_take (i := 10) (d := 61) (v := ?_) rfl (by kernel_rfl) (by kernel_rfl) (by kernel_rfl) rfl (fun _ _ _ h => h) rfl hH (fun w' hS => ?_) ?_
        rotate_left
        · go_simp; first | done | with_reducible rfl
        simp only [List.set_cons_zero, List.set_cons_succ]
        refine held_take (i := 11) (d := 62) (v := ?_) rfl (by kernel_rfl) (by kernel_rfl) (by kernel_rfl) rfl (fun _ _ _ h => h) rfl hH (fun w' hS => ?_) ?_
        rotate_left
        · go_simp; first | done | with_reducible rfl
        simp only [List.set_cons_zero, List.set_cons_succ]
        obtain ⟨t9, a9, c9, hg9⟩ := hH.2.2
        refine held_only (i := 12) rfl (by kernel_rfl) rfl (fun K hK => ?_)
        refine op_storeT infTy (.tmp 4) (.tmp 61) rfl (w.heap.size + 1) _ (tyC (infE ts gs en fl x).2 x7 c7) _ rfl rfl hg9 rfl rfl (by simp [tyC, Value.oneCell']) ?_
        intro w8 L8 hs8
        refine hK.out _ _ ⟨hH.1.trans (hs8.below (by omega)), hH.2.1.st hs8 (by omega), _, _, _, L8⟩ (fun hH => ?_)
        clear hK K
        refine held_take (i := 13) (d := 5) (v := ?_) rfl (by kernel_rfl) (by kernel_rfl) (by kernel_rfl) rfl (fun _ _ _ h => h) rfl hH (fun w' hS => ?_) ?_
        rotate_left
        · go_simp; first | done | with_reducible rfl
        simp only [List.set_cons_zero, List.set_cons_succ]
        refine wpAnyH_done (by kernel_rfl) ?_ _
        have U8 := ux.ty hg9 hs8
        have B8 := hH.1
        clear hH
        go_wp2_with fail
        exact ret_T2 infTy Tryz.underlying36 rfl Tryz.results47 _ _ _ _ _ rfl L8 rfl ⟨_, _, rfl, U8, B8⟩
      · replace hnn : x.ar.len = 2 := by have := hnn.out; rw [hk] at this; simpa using this
        replace hk := Lib.hid hk
        clear hn3 hkk
        have hne : ¬ (j < x.ar.len) := hlt
        clear hlt
        generalize x.ar.len = m at *
        subst hnn
        go_wp2_with fail
        obtain ⟨t, u, rfl⟩ : ∃ t u, l = [t, u] := by
          have hq : l.length = 2 := hlen.out
          match l, hq with
          | [t, u], _ => exact ⟨t, u, rfl⟩
        have hR := Lib.hid (show infE ts gs en fl x = (binT x.h.op t u) by rw [hE.out]; unfold rulT; simp [hk.out])
        have C := Lib.hid (fun (W : World) (hb : Below w0.heap.size w0 W) (hN : w.heap.size ≤ W.heap.size) (hS : Scp w0 W B ts gs en fl) (hU : un.Sl w0 ua x.h.un.length uc x.h.un) (hO : Ops w0 w.heap.size W (some ⟨gO, 0, none⟩) 2 2 [t, u]) => (show Calls Tryz.prog 83 #[.pointer (some ⟨B, 0, none⟩), .agg (exC x.h 2 ua uc aa ac), .slice (some ⟨gO, 0, none⟩) 2 2] W (TrV (infE ts gs en fl x) w0 w.heap.size W) by rw [hR.out]; exact typeBinary_any x.h ua aa uc 2 ac B ts gs en fl w.heap.size w0 W hb hN hS hU (some ⟨gO, 0, none⟩) 2 t u hO))
        have OO := Lib.hid (show Ops w0 w.heap.size wr (some ⟨gO, 0, none⟩) 2 2 [t, u] from ⟨.inr ⟨gO, 0, rfl, fun j hj => by obtain ⟨xa, xc, h1, h2⟩ := hT.out j hj; exact ⟨tyC _ xa xc, rfl, by simpa using h1, xa, xc, rfl, h2.less (by have := hgw.out; omega)⟩⟩, rfl, Nat.le_refl _, by omega, fun e => by cases e⟩)
        unfold exC at C
        obtain ⟨L, hL⟩ := HS.out
        replace hL := Lib.hid hL
        have hP := Lib.hid (hL.out.mp)
        refine wp_region_held_drew (S := fun w' => Below w.heap.size w w' ∧ (Blk w' w.heap.size 29 #[.int .i64 x.h.k, .string x.h.op, .string x.h.nm, .string x.h.tb, .int .i64 x.h.vk, .int .i64 x.h.vn, .string x.h.vs, .slice ua x.h.un.length uc, .int .i64 x.h.pa, .int .i64 x.h.wk, .int .i64 x.h.ws, .slice aa 2 ac]) ∧ ∃ t9 a9 c9, Blk w' (w.heap.size + 1) 36 (tyC t9 a9 c9)) (by kernel_rfl) ⟨BW.out.drew, GX.out.drew, t0, none, 0, G4.out.drew⟩ (fun hH => ?_)
        refine held_take (i := 0) (d := 51) (v := ?_) rfl (by kernel_rfl) (by kernel_rfl) (by kernel_rfl) rfl (fun _ _ _ h => h) rfl hH (fun w' hS => ?_) ?_
        rotate_left
        · go_simp; first | done | with_reducible rfl
        simp only [List.set_cons_zero, List.set_cons_succ]
        refine held_take (i := 1) (d := 52) (v := ?_) rfl (by kernel_rfl) (by kernel_rfl) (by kernel_rfl) rfl (fun _ _ _ h => h) rfl hH (fun w' hS => ?_) ?_
        rotate_left
        · have e1 := (hL.out.blk.below hS.1 hL.out.blk.lt).cell 6; simp only [ScL.cs, scC, List.getElem?_toArray, List.getElem?_cons_zero, List.getElem?_cons_succ] at e1; go_simp; first | done | with_reducible rfl
        simp only [List.set_cons_zero, List.set_cons_succ]
        refine held_take (i := 2) (d := 53) (v := ?_) rfl (by kernel_rfl) (by kernel_rfl) (by kernel_rfl) rfl (fun _ _ _ h => h) rfl hH (fun w' hS => ?_) ?_
        rotate_left
        · have e1 := (hL.out.blk.below hS.1 hL.out.blk.lt).cell 6; simp only [ScL.cs, scC, List.getElem?_toArray, List.getElem?_cons_zero, List.getElem?_cons_succ] at e1; go_simp; first | done | with_reducible rfl
        simp only [List.set_cons_zero, List.set_cons_succ]
        refine held_take (i := 3) (d := 54) (v := ?_) rfl (by kernel_rfl) (by kernel_rfl) (by kernel_rfl) rfl (fun _ _ _ h => h) rfl hH (fun w' hS => ?_) ?_
        rotate_left
        · have e1 := (hL.out.blk.below hS.1 hL.out.blk.lt).cell 6; simp only [ScL.cs, scC, List.getElem?_toArray, List.getElem?_cons_zero, List.getElem?_cons_succ] at e1; go_simp; first | done | with_reducible rfl
        simp only [List.set_cons_zero, List.set_cons_succ]
        refine held_take (i := 4) (d := 55) (v := ?_) rfl (by kernel_rfl) (by kernel_rfl) (by kernel_rfl) rfl (fun _ _ _ h => h) rfl hH (fun w' hS => ?_) ?_
        rotate_left
        · have e1 := hS.2.1.cell 0; simp only [List.getElem?_toArray, List.getElem?_cons_zero] at e1; go_simp; first | done | with_reducible rfl
        simp only [List.set_cons_zero, List.set_cons_succ]
        refine held_take (i := 5) (d := 56) (v := ?_) rfl (by kernel_rfl) (by kernel_rfl) (by kernel_rfl) rfl (fun _ _ _ h => h) rfl hH (fun w' hS => ?_) ?_
        rotate_left
        · have e1 := hS.2.1.cell 0; simp only [List.getElem?_toArray, List.getElem?_cons_zero] at e1; go_simp; first | done | with_reducible rfl
        simp only [List.set_cons_zero, List.set_cons_succ]
        refine held_take (i := 6) (d := 57) (v := ?_) rfl (by kernel_rfl) (by kernel_rfl) (by kernel_rfl) rfl (fun _ _ _ h => h) rfl hH (fun w' hS => ?_) ?_
        rotate_left
        · have e1 := run_look kTypes (hP.out.below hS.1 hP.out.lt) x.h.k 6 (by rw [hk.out]; rfl) (tyF 83 B) rfl; unfold tyF at e1; go_simp; first | done | with_reducible rfl
        simp only [List.set_cons_zero, List.set_cons_succ]
        refine held_take (i := 7) (d := 58) (v := .agg #[.int .i64 x.h.k, .string x.h.op, .string x.h.nm, .string x.h.tb, .int .i64 x.h.vk, .int .i64 x.h.vn, .string x.h.vs, .slice ua x.h.un.length uc, .int .i64 x.h.pa, .int .i64 x.h.wk, .int .i64 x.h.ws, .slice aa 2 ac]) rfl (by kernel_rfl) (by kernel_rfl) (by kernel_rfl) rfl (fun _ _ _ h => h) rfl hH (fun w' hS => yield_load infX Tryz.underlying29 rfl (.tmp 3) rfl _ _ _ rfl hS.2.1 rfl) ?_
        simp only [List.set_cons_zero, List.set_cons_succ]
        refine held_take (i := 8) (d := 59) (v := ?_) rfl (by kernel_rfl) (by kernel_rfl) (by kernel_rfl) rfl (fun _ _ _ h => h) rfl hH (fun w' hS => ?_) ?_
        rotate_left
        · go_simp; first | done | with_reducible rfl
        simp only [List.set_cons_zero, List.set_cons_succ]
        refine held_only (i := 9) rfl (by kernel_rfl) rfl (fun K hK => ?_)
        go_simp
        have bd := (b0 wr).drew
        refine (C.out _ ((HW0.out.trans (BW.out.mono HW0.out.size)).trans (bd.mono (Nat.le_trans HW0.out.size BW.out.size))) (Nat.le_trans BW.out.size bd.size) (HS.out.imp fun L hL => (⟨hL.blk.below hH.1 hL.blk.lt, hL.mp.below hH.1 hL.mp.lt, hL.tab.below hH.1 hL.tab.lt, hL.fis, hL.fl, hL.ct, hL.cg⟩ : Sc1 w0 _ B ts gs en fl L)) HU.out (OO.out.keeps bd)).mono ?_
        rintro e w7 ⟨x7, c7, rfl, ux, b7⟩
        refine hK.out _ _ ⟨bnext hH.1 b7, hH.2.1.keeps b7, hH.2.2.imp fun _ h => h.imp fun _ h => h.imp fun _ h => h.keeps b7⟩ (fun hH => ?_)
        clear hK K
        refine held_take (i := 10) (d := 61) (v := ?_) rfl (by kernel_rfl) (by kernel_rfl) (by kernel_rfl) rfl (fun _ _ _ h => h) rfl hH (fun w' hS => ?_) ?_
        rotate_left
        · go_simp; first | done | with_reducible rfl
        simp only [List.set_cons_zero, List.set_cons_succ]
        refine held_take (i := 11) (d := 62) (v := ?_) rfl (by kernel_rfl) (by kernel_rfl) (by kernel_rfl) rfl (fun _ _ _ h => h) rfl hH (fun w' hS => ?_) ?_
        rotate_left
        · go_simp; first | done | with_reducible rfl
        simp only [List.set_cons_zero, List.set_cons_succ]
        obtain ⟨t9, a9, c9, hg9⟩ := hH.2.2
        refine held_only (i := 12) rfl (by kernel_rfl) rfl (fun K hK => ?_)
        refine op_storeT infTy (.tmp 4) (.tmp 61) rfl (w.heap.size + 1) _ (tyC (infE ts gs en fl x).2 x7 c7) _ rfl rfl hg9 rfl rfl (by simp [tyC, Value.oneCell']) ?_
        intro w8 L8 hs8
        refine hK.out _ _ ⟨hH.1.trans (hs8.below (by omega)), hH.2.1.st hs8 (by omega), _, _, _, L8⟩ (fun hH => ?_)
        clear hK K
        refine held_take (i := 13) (d := 5) (v := ?_) rfl (by kernel_rfl) (by kernel_rfl) (by kernel_rfl) rfl (fun _ _ _ h => h) rfl hH (fun w' hS => ?_) ?_
        rotate_left
        · go_simp; first | done | with_reducible rfl
        simp only [List.set_cons_zero, List.set_cons_succ]
        refine wpAnyH_done (by kernel_rfl) ?_ _
        have U8 := ux.ty hg9 hs8
        have B8 := hH.1
        clear hH
        go_wp2_with fail
        exact ret_T2 infTy Tryz.underlying36 rfl Tryz.results47 _ _ _ _ _ rfl L8 rfl ⟨_, _, rfl, U8, B8⟩
      · replace hnn : x.ar.len = 3 := by have := hnn.out; rw [hk] at this; simpa using this
        replace hk := Lib.hid hk
        clear hn3 hkk
        have hne : ¬ (j < x.ar.len) := hlt
        clear hlt
        generalize x.ar.len = m at *
        subst hnn
        go_wp2_with fail
        obtain ⟨t, u, v, rfl⟩ : ∃ t u v, l = [t, u, v] := by
          have hq : l.length = 3 := hlen.out
          match l, hq with
          | [t, u, v], _ => exact ⟨t, u, v, rfl⟩
        have hR := Lib.hid (show infE ts gs en fl x = (if t.k = 1 then comT u v else noR 5) by rw [hE.out]; unfold rulT; simp [hk.out])
        have C := Lib.hid (fun (W : World) (hb : Below w0.heap.size w0 W) (hN : w.heap.size ≤ W.heap.size) (hS : Scp w0 W B ts gs en fl) (hU : un.Sl w0 ua x.h.un.length uc x.h.un) (hO : Ops w0 w.heap.size W (some ⟨gO, 0, none⟩) 3 3 [t, u, v]) => (show Calls Tryz.prog 84 #[.pointer (some ⟨B, 0, none⟩), .agg (exC x.h 3 ua uc aa ac), .slice (some ⟨gO, 0, none⟩) 3 3] W (TrV (infE ts gs en fl x) w0 w.heap.size W) by rw [hR.out]; exact typeChoice_any x.h ua aa uc 3 ac B ts gs en fl w.heap.size w0 W hb hN hS hU (some ⟨gO, 0, none⟩) 3 t u v hO))
        have OO := Lib.hid (show Ops w0 w.heap.size wr (some ⟨gO, 0, none⟩) 3 3 [t, u, v] from ⟨.inr ⟨gO, 0, rfl, fun j hj => by obtain ⟨xa, xc, h1, h2⟩ := hT.out j hj; exact ⟨tyC _ xa xc, rfl, by simpa using h1, xa, xc, rfl, h2.less (by have := hgw.out; omega)⟩⟩, rfl, Nat.le_refl _, by omega, fun e => by cases e⟩)
        unfold exC at C
        obtain ⟨L, hL⟩ := HS.out
        replace hL := Lib.hid hL
        have hP := Lib.hid (hL.out.mp)
        refine wp_region_held_drew (S := fun w' => Below w.heap.size w w' ∧ (Blk w' w.heap.size 29 #[.int .i64 x.h.k, .string x.h.op, .string x.h.nm, .string x.h.tb, .int .i64 x.h.vk, .int .i64 x.h.vn, .string x.h.vs, .slice ua x.h.un.length uc, .int .i64 x.h.pa, .int .i64 x.h.wk, .int .i64 x.h.ws, .slice aa 3 ac]) ∧ ∃ t9 a9 c9, Blk w' (w.heap.size + 1) 36 (tyC t9 a9 c9)) (by kernel_rfl) ⟨BW.out.drew, GX.out.drew, t0, none, 0, G4.out.drew⟩ (fun hH => ?_)
        refine held_take (i := 0) (d := 51) (v := ?_) rfl (by kernel_rfl) (by kernel_rfl) (by kernel_rfl) rfl (fun _ _ _ h => h) rfl hH (fun w' hS => ?_) ?_
        rotate_left
        · go_simp; first | done | with_reducible rfl
        simp only [List.set_cons_zero, List.set_cons_succ]
        refine held_take (i := 1) (d := 52) (v := ?_) rfl (by kernel_rfl) (by kernel_rfl) (by kernel_rfl) rfl (fun _ _ _ h => h) rfl hH (fun w' hS => ?_) ?_
        rotate_left
        · have e1 := (hL.out.blk.below hS.1 hL.out.blk.lt).cell 6; simp only [ScL.cs, scC, List.getElem?_toArray, List.getElem?_cons_zero, List.getElem?_cons_succ] at e1; go_simp; first | done | with_reducible rfl
        simp only [List.set_cons_zero, List.set_cons_succ]
        refine held_take (i := 2) (d := 53) (v := ?_) rfl (by kernel_rfl) (by kernel_rfl) (by kernel_rfl) rfl (fun _ _ _ h => h) rfl hH (fun w' hS => ?_) ?_
        rotate_left
        · have e1 := (hL.out.blk.below hS.1 hL.out.blk.lt).cell 6; simp only [ScL.cs, scC, List.getElem?_toArray, List.getElem?_cons_zero, List.getElem?_cons_succ] at e1; go_simp; first | done | with_reducible rfl
        simp only [List.set_cons_zero, List.set_cons_succ]
        refine held_take (i := 3) (d := 54) (v := ?_) rfl (by kernel_rfl) (by kernel_rfl) (by kernel_rfl) rfl (fun _ _ _ h => h) rfl hH (fun w' hS => ?_) ?_
        rotate_left
        · have e1 := (hL.out.blk.below hS.1 hL.out.blk.lt).cell 6; simp only [ScL.cs, scC, List.getElem?_toArray, List.getElem?_cons_zero, List.getElem?_cons_succ] at e1; go_simp; first | done | with_reducible rfl
        simp only [List.set_cons_zero, List.set_cons_succ]
        refine held_take (i := 4) (d := 55) (v := ?_) rfl (by kernel_rfl) (by kernel_rfl) (by kernel_rfl) rfl (fun _ _ _ h => h) rfl hH (fun w' hS => ?_) ?_
        rotate_left
        · have e1 := hS.2.1.cell 0; simp only [List.getElem?_toArray, List.getElem?_cons_zero] at e1; go_simp; first | done | with_reducible rfl
        simp only [List.set_cons_zero, List.set_cons_succ]
        refine held_take (i := 5) (d := 56) (v := ?_) rfl (by kernel_rfl) (by kernel_rfl) (by kernel_rfl) rfl (fun _ _ _ h => h) rfl hH (fun w' hS => ?_) ?_
        rotate_left
        · have e1 := hS.2.1.cell 0; simp only [List.getElem?_toArray, List.getElem?_cons_zero] at e1; go_simp; first | done | with_reducible rfl
        simp only [List.set_cons_zero, List.set_cons_succ]
        refine held_take (i := 6) (d := 57) (v := ?_) rfl (by kernel_rfl) (by kernel_rfl) (by kernel_rfl) rfl (fun _ _ _ h => h) rfl hH (fun w' hS => ?_) ?_
        rotate_left
        · have e1 := run_look kTypes (hP.out.below hS.1 hP.out.lt) x.h.k 7 (by rw [hk.out]; rfl) (tyF 84 B) rfl; unfold tyF at e1; go_simp; first | done | with_reducible rfl
        simp only [List.set_cons_zero, List.set_cons_succ]
        refine held_take (i := 7) (d := 58) (v := .agg #[.int .i64 x.h.k, .string x.h.op, .string x.h.nm, .string x.h.tb, .int .i64 x.h.vk, .int .i64 x.h.vn, .string x.h.vs, .slice ua x.h.un.length uc, .int .i64 x.h.pa, .int .i64 x.h.wk, .int .i64 x.h.ws, .slice aa 3 ac]) rfl (by kernel_rfl) (by kernel_rfl) (by kernel_rfl) rfl (fun _ _ _ h => h) rfl hH (fun w' hS => yield_load infX Tryz.underlying29 rfl (.tmp 3) rfl _ _ _ rfl hS.2.1 rfl) ?_
        simp only [List.set_cons_zero, List.set_cons_succ]
        refine held_take (i := 8) (d := 59) (v := ?_) rfl (by kernel_rfl) (by kernel_rfl) (by kernel_rfl) rfl (fun _ _ _ h => h) rfl hH (fun w' hS => ?_) ?_
        rotate_left
        · go_simp; first | done | with_reducible rfl
        simp only [List.set_cons_zero, List.set_cons_succ]
        refine held_only (i := 9) rfl (by kernel_rfl) rfl (fun K hK => ?_)
        go_simp
        have bd := (b0 wr).drew
        refine (C.out _ ((HW0.out.trans (BW.out.mono HW0.out.size)).trans (bd.mono (Nat.le_trans HW0.out.size BW.out.size))) (Nat.le_trans BW.out.size bd.size) (HS.out.imp fun L hL => (⟨hL.blk.below hH.1 hL.blk.lt, hL.mp.below hH.1 hL.mp.lt, hL.tab.below hH.1 hL.tab.lt, hL.fis, hL.fl, hL.ct, hL.cg⟩ : Sc1 w0 _ B ts gs en fl L)) HU.out (OO.out.keeps bd)).mono ?_
        rintro e w7 ⟨x7, c7, rfl, ux, b7⟩
        refine hK.out _ _ ⟨bnext hH.1 b7, hH.2.1.keeps b7, hH.2.2.imp fun _ h => h.imp fun _ h => h.imp fun _ h => h.keeps b7⟩ (fun hH => ?_)
        clear hK K
        refine held_take (i := 10) (d := 61) (v := ?_) rfl (by kernel_rfl) (by kernel_rfl) (by kernel_rfl) rfl (fun _ _ _ h => h) rfl hH (fun w' hS => ?_) ?_
        rotate_left
        · go_simp; first | done | with_reducible rfl
        simp only [List.set_cons_zero, List.set_cons_succ]
        refine held_take (i := 11) (d := 62) (v := ?_) rfl (by kernel_rfl) (by kernel_rfl) (by kernel_rfl) rfl (fun _ _ _ h => h) rfl hH (fun w' hS => ?_) ?_
        rotate_left
        · go_simp; first | done | with_reducible rfl
        simp only [List.set_cons_zero, List.set_cons_succ]
        obtain ⟨t9, a9, c9, hg9⟩ := hH.2.2
        refine held_only (i := 12) rfl (by kernel_rfl) rfl (fun K hK => ?_)
        refine op_storeT infTy (.tmp 4) (.tmp 61) rfl (w.heap.size + 1) _ (tyC (infE ts gs en fl x).2 x7 c7) _ rfl rfl hg9 rfl rfl (by simp [tyC, Value.oneCell']) ?_
        intro w8 L8 hs8
        refine hK.out _ _ ⟨hH.1.trans (hs8.below (by omega)), hH.2.1.st hs8 (by omega), _, _, _, L8⟩ (fun hH => ?_)
        clear hK K
        refine held_take (i := 13) (d := 5) (v := ?_) rfl (by kernel_rfl) (by kernel_rfl) (by kernel_rfl) rfl (fun _ _ _ h => h) rfl hH (fun w' hS => ?_) ?_
        rotate_left
        · go_simp; first | done | with_reducible rfl
        simp only [List.set_cons_zero, List.set_cons_succ]
        refine wpAnyH_done (by kernel_rfl) ?_ _
        have U8 := ux.ty hg9 hs8
        have B8 := hH.1
        clear hH
        go_wp2_with fail
        exact ret_T2 infTy Tryz.underlying36 rfl Tryz.results47 _ _ _ _ _ rfl L8 rfl ⟨_, _, rfl, U8, B8⟩
      · replace hnn : x.ar.len = 2 := by have := hnn.out; rw [hk] at this; simpa using this
        replace hk := Lib.hid hk
        clear hn3 hkk
        have hne : ¬ (j < x.ar.len) := hlt
        clear hlt
        generalize x.ar.len = m at *
        subst hnn
        go_wp2_with fail
        obtain ⟨t, u, rfl⟩ : ∃ t u, l = [t, u] := by
          have hq : l.length = 2 := hlen.out
          match l, hq with
          | [t, u], _ => exact ⟨t, u, rfl⟩
        have hR := Lib.hid (show infE ts gs en fl x = (comT t u) by rw [hE.out]; unfold rulT; simp [hk.out])
        have C := Lib.hid (fun (W : World) (hb : Below w0.heap.size w0 W) (hN : w.heap.size ≤ W.heap.size) (hS : Scp w0 W B ts gs en fl) (hU : un.Sl w0 ua x.h.un.length uc x.h.un) (hO : Ops w0 w.heap.size W (some ⟨gO, 0, none⟩) 2 2 [t, u]) => (show Calls Tryz.prog 85 #[.pointer (some ⟨B, 0, none⟩), .agg (exC x.h 2 ua uc aa ac), .slice (some ⟨gO, 0, none⟩) 2 2] W (TrV (infE ts gs en fl x) w0 w.heap.size W) by rw [hR.out]; exact typeFallback_any x.h ua aa uc 2 ac B ts gs en fl w.heap.size w0 W hb hN hS hU (some ⟨gO, 0, none⟩) 2 t u hO))
        have OO := Lib.hid (show Ops w0 w.heap.size wr (some ⟨gO, 0, none⟩) 2 2 [t, u] from ⟨.inr ⟨gO, 0, rfl, fun j hj => by obtain ⟨xa, xc, h1, h2⟩ := hT.out j hj; exact ⟨tyC _ xa xc, rfl, by simpa using h1, xa, xc, rfl, h2.less (by have := hgw.out; omega)⟩⟩, rfl, Nat.le_refl _, by omega, fun e => by cases e⟩)
        unfold exC at C
        obtain ⟨L, hL⟩ := HS.out
        replace hL := Lib.hid hL
        have hP := Lib.hid (hL.out.mp)
        refine wp_region_held_drew (S := fun w' => Below w.heap.size w w' ∧ (Blk w' w.heap.size 29 #[.int .i64 x.h.k, .string x.h.op, .string x.h.nm, .string x.h.tb, .int .i64 x.h.vk, .int .i64 x.h.vn, .string x.h.vs, .slice ua x.h.un.length uc, .int .i64 x.h.pa, .int .i64 x.h.wk, .int .i64 x.h.ws, .slice aa 2 ac]) ∧ ∃ t9 a9 c9, Blk w' (w.heap.size + 1) 36 (tyC t9 a9 c9)) (by kernel_rfl) ⟨BW.out.drew, GX.out.drew, t0, none, 0, G4.out.drew⟩ (fun hH => ?_)
        refine held_take (i := 0) (d := 51) (v := ?_) rfl (by kernel_rfl) (by kernel_rfl) (by kernel_rfl) rfl (fun _ _ _ h => h) rfl hH (fun w' hS => ?_) ?_
        rotate_left
        · go_simp; first | done | with_reducible rfl
        simp only [List.set_cons_zero, List.set_cons_succ]
        refine held_take (i := 1) (d := 52) (v := ?_) rfl (by kernel_rfl) (by kernel_rfl) (by kernel_rfl) rfl (fun _ _ _ h => h) rfl hH (fun w' hS => ?_) ?_
        rotate_left
        · have e1 := (hL.out.blk.below hS.1 hL.out.blk.lt).cell 6; simp only [ScL.cs, scC, List.getElem?_toArray, List.getElem?_cons_zero, List.getElem?_cons_succ] at e1; go_simp; first | done | with_reducible rfl
        simp only [List.set_cons_zero, List.set_cons_succ]
        refine held_take (i := 2) (d := 53) (v := ?_) rfl (by kernel_rfl) (by kernel_rfl) (by kernel_rfl) rfl (fun _ _ _ h => h) rfl hH (fun w' hS => ?_) ?_
        rotate_left
        · have e1 := (hL.out.blk.below hS.1 hL.out.blk.lt).cell 6; simp only [ScL.cs, scC, List.getElem?_toArray, List.getElem?_cons_zero, List.getElem?_cons_succ] at e1; go_simp; first | done | with_reducible rfl
        simp only [List.set_cons_zero, List.set_cons_succ]
        refine held_take (i := 3) (d := 54) (v := ?_) rfl (by kernel_rfl) (by kernel_rfl) (by kernel_rfl) rfl (fun _ _ _ h => h) rfl hH (fun w' hS => ?_) ?_
        rotate_left
        · have e1 := (hL.out.blk.below hS.1 hL.out.blk.lt).cell 6; simp only [ScL.cs, scC, List.getElem?_toArray, List.getElem?_cons_zero, List.getElem?_cons_succ] at e1; go_simp; first | done | with_reducible rfl
        simp only [List.set_cons_zero, List.set_cons_succ]
        refine held_take (i := 4) (d := 55) (v := ?_) rfl (by kernel_rfl) (by kernel_rfl) (by kernel_rfl) rfl (fun _ _ _ h => h) rfl hH (fun w' hS => ?_) ?_
        rotate_left
        · have e1 := hS.2.1.cell 0; simp only [List.getElem?_toArray, List.getElem?_cons_zero] at e1; go_simp; first | done | with_reducible rfl
        simp only [List.set_cons_zero, List.set_cons_succ]
        refine held_take (i := 5) (d := 56) (v := ?_) rfl (by kernel_rfl) (by kernel_rfl) (by kernel_rfl) rfl (fun _ _ _ h => h) rfl hH (fun w' hS => ?_) ?_
        rotate_left
        · have e1 := hS.2.1.cell 0; simp only [List.getElem?_toArray, List.getElem?_cons_zero] at e1; go_simp; first | done | with_reducible rfl
        simp only [List.set_cons_zero, List.set_cons_succ]
        refine held_take (i := 6) (d := 57) (v := ?_) rfl (by kernel_rfl) (by kernel_rfl) (by kernel_rfl) rfl (fun _ _ _ h => h) rfl hH (fun w' hS => ?_) ?_
        rotate_left
        · have e1 := run_look kTypes (hP.out.below hS.1 hP.out.lt) x.h.k 8 (by rw [hk.out]; rfl) (tyF 85 B) rfl; unfold tyF at e1; go_simp; first | done | with_reducible rfl
        simp only [List.set_cons_zero, List.set_cons_succ]
        refine held_take (i := 7) (d := 58) (v := .agg #[.int .i64 x.h.k, .string x.h.op, .string x.h.nm, .string x.h.tb, .int .i64 x.h.vk, .int .i64 x.h.vn, .string x.h.vs, .slice ua x.h.un.length uc, .int .i64 x.h.pa, .int .i64 x.h.wk, .int .i64 x.h.ws, .slice aa 2 ac]) rfl (by kernel_rfl) (by kernel_rfl) (by kernel_rfl) rfl (fun _ _ _ h => h) rfl hH (fun w' hS => yield_load infX Tryz.underlying29 rfl (.tmp 3) rfl _ _ _ rfl hS.2.1 rfl) ?_
        simp only [List.set_cons_zero, List.set_cons_succ]
        refine held_take (i := 8) (d := 59) (v := ?_) rfl (by kernel_rfl) (by kernel_rfl) (by kernel_rfl) rfl (fun _ _ _ h => h) rfl hH (fun w' hS => ?_) ?_
        rotate_left
        · go_simp; first | done | with_reducible rfl
        simp only [List.set_cons_zero, List.set_cons_succ]
        refine held_only (i := 9) rfl (by kernel_rfl) rfl (fun K hK => ?_)
        go_simp
        have bd := (b0 wr).drew
        refine (C.out _ ((HW0.out.trans (BW.out.mono HW0.out.size)).trans (bd.mono (Nat.le_trans HW0.out.size BW.out.size))) (Nat.le_trans BW.out.size bd.size) (HS.out.imp fun L hL => (⟨hL.blk.below hH.1 hL.blk.lt, hL.mp.below hH.1 hL.mp.lt, hL.tab.below hH.1 hL.tab.lt, hL.fis, hL.fl, hL.ct, hL.cg⟩ : Sc1 w0 _ B ts gs en fl L)) HU.out (OO.out.keeps bd)).mono ?_
        rintro e w7 ⟨x7, c7, rfl, ux, b7⟩
        refine hK.out _ _ ⟨bnext hH.1 b7, hH.2.1.keeps b7, hH.2.2.imp fun _ h => h.imp fun _ h => h.imp fun _ h => h.keeps b7⟩ (fun hH => ?_)
        clear hK K
        refine held_take (i := 10) (d := 61) (v := ?_) rfl (by kernel_rfl) (by kernel_rfl) (by kernel_rfl) rfl (fun _ _ _ h => h) rfl hH (fun w' hS => ?_) ?_
        rotate_left
        · go_simp; first | done | with_reducible rfl
        simp only [List.set_cons_zero, List.set_cons_succ]
        refine held_take (i := 11) (d := 62) (v := ?_) rfl (by kernel_rfl) (by kernel_rfl) (by kernel_rfl) rfl (fun _ _ _ h => h) rfl hH (fun w' hS => ?_) ?_
        rotate_left
        · go_simp; first | done | with_reducible rfl
        simp only [List.set_cons_zero, List.set_cons_succ]
        obtain ⟨t9, a9, c9, hg9⟩ := hH.2.2
        refine held_only (i := 12) rfl (by kernel_rfl) rfl (fun K hK => ?_)
        refine op_storeT infTy (.tmp 4) (.tmp 61) rfl (w.heap.size + 1) _ (tyC (infE ts gs en fl x).2 x7 c7) _ rfl rfl hg9 rfl rfl (by simp [tyC, Value.oneCell']) ?_
        intro w8 L8 hs8
        refine hK.out _ _ ⟨hH.1.trans (hs8.below (by omega)), hH.2.1.st hs8 (by omega), _, _, _, L8⟩ (fun hH => ?_)
        clear hK K
        refine held_take (i := 13) (d := 5) (v := ?_) rfl (by kernel_rfl) (by kernel_rfl) (by kernel_rfl) rfl (fun _ _ _ h => h) rfl hH (fun w' hS => ?_) ?_
        rotate_left
        · go_simp; first | done | with_reducible rfl
        simp only [List.set_cons_zero, List.set_cons_succ]
        refine wpAnyH_done (by kernel_rfl) ?_ _
        have U8 := ux.ty hg9 hs8
        have B8 := hH.1
        clear hH
        go_wp2_with fail
        exact ret_T2 infTy Tryz.underlying36 rfl Tryz.results47 _ _ _ _ _ rfl L8 rfl ⟨_, _, rfl, U8, B8⟩
end Go.Proofs.YtbkpjhffmaldmaaGreatDoor.ch
