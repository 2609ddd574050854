/-
  The program's lines of tables and of features; its Module; printer.Module; the statement's few; The statement on tables, features and modules, walked; Modules that came in.
-/
import Derived.Test.YtbahfelnbofjjaaGreatDoorT13
import Derived.Test.YtbahfelnbofjjaaGreatDoorT14
import Derived.Test.YtbahfelnbofjjaaGreatDoorT15
import Derived.Test.YtbahfelnbofjjaaGreatDoorT25
set_option maxRecDepth 100000
set_option maxHeartbeats 16000000
namespace Go.Proofs.YtbahfelnbofjjaaGreatDoor.ch
open Go.RowKit dec
theorem lines_t (l : List Tb) (a : Option Addr) (c : Nat) (w : World) (hA : Tbs' w a l.length c l) (hz : ∀ x ∈ l, x.sz) (hl : l.length ≤ 20) (T : Tabq w) : Calls Tryz.prog 61 #[.slice a l.length c, .func (.func 20) #[] #[]] w (Tx (txO (lnR tbE tbT l).1 (lnR tbE tbT l).2) (lnR tbE tbT l).1 w) := by
 have B0 := Lib.hid (balloc (b0 w) (.cells #[.pointer none, .slice none 0 0] TB))
 have U0 := Lib.hid (bu_new w)
 have HA := Lib.hid hA
 have HT := Lib.hid T
 have HZ := Lib.hid hz
 have hll := Lib.hid hl
 clear hA T hz hl
 go_enter Tryz.func61, Tryz.ntmps61
 go_wp2_with fail
 go_loopw [13] (fun vi wr => ∃ j : Nat, vi = .int .i64 (j : Nat) ∧ Hid (j ≤ l.length) ∧ Hid (∀ x ∈ l.take j, tbE x = 0) ∧ Hid (Below w.heap.size w wr) ∧ Hid (Bu w.heap.size w.heap.size (acT tbT (l.take j)) wr)) (fun vi _ => l.length - (intOf vi).toNat)
 case atStart => exact ⟨0, rfl, Lib.hid (Nat.zero_le _), Lib.hid (fun x hx => by cases hx), B0, U0⟩
 case round =>
  clear U0 B0
  obtain ⟨j, rfl, hj, hz, hb, hu⟩ := hrel
  by_cases hlt : j < l.length
  ·have q1 : decide ((j : Int) < (l.length : Int)) = true := decide_eq_true (by omega)
   have i1 : (j : Int) < (l.length : Int) := by omega
   have htl := hll.out
   have f4 := Lib.hid (next_at (j := j) (by omega))
   obtain ⟨bk, off, rfl, hC⟩ := HA.out.hat.resolve_left (by omega)
   obtain ⟨cs, hcs, R1, xa, xc, rfl, F1⟩ := hC j hlt
   replace R1 := Lib.hid (range_keeps R1 hb.out)
   have hxz := HZ.out _ (List.getElem_mem hlt)
   have CT := Lib.hid (fun (W : World) (b : Below w.heap.size w W) => ptable_any l[j] xa xc W hxz (F1.keeps b) (HT.out.stays b))
   have hal := acT_len tbT 4000 (l.take j) (fun x hx => tbT_len (hz.out x hx))
   rw [List.length_take, Nat.min_eq_left (Nat.le_of_lt hlt)] at hal
   have hal2 := Lib.hid (show (acT tbT (l.take j)).length ≤ 30000000 by have : 4001 * j ≤ 4001 * 20 := Nat.mul_le_mul_left _ (by omega); omega)
   have hnx := Lib.hid (acT_next tbT hlt)
   have hlt2 := Lib.hid hlt
   have hHit := Lib.hid (fun h0 => lnR_hit tbE tbT hlt hz.out h0)
   have hTk := Lib.hid (fun h0 => take_ok (e := tbE) hlt hz.out h0)
   have hTL := Lib.hid (fun (h0 : tbE l[j] = 0) => (show (tbT l[j]).length ≤ 4000 from by have hx := List.getElem_mem hlt; exact tbT_len h0))
   obtain ⟨PP, hPP⟩ : ∃ p, p = acT tbT (l.take j) := ⟨_, rfl⟩
   rw [← hPP] at hu hal2 hnx
   clear hC hj hz hcs hal htl hxz hPP
   generalize hx : l[j] = x at *
   clear hx
   unfold tbC at *
   go_wp2_with (first | (refine arm_mid infTb Tryz.underlying48 rfl (.tmp 15) rfl rfl bk (off + j * 4) #[.string x.nm, .string x.en, .slice xa x.fs.length xc, .int .i64 x.kp] rfl R1.out rfl ?_) | (refine arm_storeT infTb (.tmp 8) (.tmp 16) rfl rfl _ _ _ _ rfl rfl (Blk.new _ _ _) rfl rfl (by simp [Value.oneCell']) ?_; intro w5 L5 hs5; have bb5 := (balloc (b0 wr) _).trans (hs5.below (Nat.le_refl _))) | (refine arm_loadT infTb Tryz.underlying48 rfl (.tmp 8) rfl rfl _ _ _ rfl L5 rfl ?_))
   have B5 := Lib.hid (hb.out.trans (bb5.mono hb.out.size))
   have U5 := Lib.hid (hu.out.keeps bb5)
   clear bb5 hs5 L5 R1 hb hu
   refine (CT.out _ B5.out).mono ?_
   rintro e w1 ⟨rfl, b1⟩
   have B1 := Lib.hid (bnext B5.out b1)
   have U1 := Lib.hid (U5.out.keeps b1)
   clear b1 CT B5 U5
   by_cases h0 : tbE x ≠ 0
   ·have q : (tbE x != 0) = true := by simp [h0]
    have hR := Lib.hid (hHit.out h0)
    replace h0 := Lib.hid h0
    clear hHit hTk hTL hal2 U1
    generalize tbE x = ex at *
    go_wp2_with fail
    go_ret2
    exact tx_of (by rw [hR.out, txO_no h0.out]; rfl) (by rw [hR.out]) B1.out
   ·have h00 : tbE x = 0 := Decidable.not_not.1 h0
    have q : (tbE x != 0) = false := by rw [h00]; rfl
    have hl9 := hTL.out h00
    have hk := Lib.hid (hTk.out h00)
    rw [txO_ok h00]
    have A1 := add_b8 ((tbT x)) ([10]) (by first | omega | (simp only [List.length_append]; omega) | (simp only [List.length_cons, List.length_nil]; omega) | (simp only [List.length_cons, List.length_append, List.length_nil]; omega) | decide) (by first | omega | (simp only [List.length_append]; omega) | (simp only [List.length_cons, List.length_nil]; omega) | (simp only [List.length_cons, List.length_append, List.length_nil]; omega) | decide)
    replace A1 : ∀ W, (Op.stringOp .add (B8 (tbT x)) ⟨#[10]⟩).run Tryz.prog W = .ok (.string (B8 ((tbT x) ++ [10]))) W := A1
    have CW := Lib.hid (fun (W : World) (b : Below w.heap.size w W) (u : Bu w.heap.size w.heap.size PP W) => write_any w.heap.size w.heap.size PP (B8 ((tbT x) ++ [10])) W u (by rw [B8_size, List.length_append]; have := hal2.out; simp only [List.length_cons, List.length_nil]; omega) b.size)
    have hU2 := Lib.hid (show PP ++ (B8 ((tbT x) ++ [10])).data.toList = acT tbT (l.take (j + 1)) by rw [hnx.out, B8_data, List.append_assoc])
    clear h0 h00 hl9 hHit hTk hTL hal2 hnx
    generalize tbE x = ex at *
    generalize B8 ((tbT x) ++ [10]) = x1 at *
    generalize B8 (tbT x) = x4 at *
    go_wp2_with fail
    refine (CW.out _ B1.out U1.out).mono ?_
    rintro e w2 ⟨rfl, u2, b2⟩
    have B2 := Lib.hid (B1.out.trans b2)
    have U2 := Lib.hid (hU2.out ▸ u2)
    clear b2 u2 CW U1
    go_wp2_with fail
    exact ⟨⟨j + 1, congrArg (Value.int .i64) f4.out, hlt2, hk, B2, U2⟩, less_at hlt2.out f4.out⟩
  ·have q1 : decide ((j : Int) < (l.length : Int)) = false := decide_eq_false (by omega)
   have hz' : ∀ x ∈ l, tbE x = 0 := by have := hz.out; rwa [List.take_of_length_le (by omega : l.length ≤ j)] at this
   have hR := Lib.hid (lnR_all tbE tbT hz')
   have hu' : Bu w.heap.size w.heap.size (acT tbT l) wr := by have := hu.out; rwa [List.take_of_length_le (by omega : l.length ≤ j)] at this
   have CS := Lib.hid (build_any _ _ _ wr hu' hb.out.size)
   clear hz hz' hu hu' hj
   go_wp2_with fail
   refine CS.out.mono ?_
   rintro e w2 ⟨rfl, b2⟩
   have B2 := Lib.hid (hb.out.trans b2)
   clear b2 CS
   go_wp2_with fail
   go_ret2
   exact tx_of (by rw [hR.out, txO_ok rfl]) (by rw [hR.out]) B2.out
theorem lines_f (l : List Fe) (a : Option Addr) (c : Nat) (w : World) (hA : Fes w a l.length c l) (hz : ∀ x ∈ l, x.sz) (hl : l.length ≤ 20) (T : Tabq w) : Calls Tryz.prog 62 #[.slice a l.length c, .func (.func 22) #[] #[]] w (Tx (txO (lnR pfE feT l).1 (lnR pfE feT l).2) (lnR pfE feT l).1 w) := by
 have B0 := Lib.hid (balloc (b0 w) (.cells #[.pointer none, .slice none 0 0] TB))
 have U0 := Lib.hid (bu_new w)
 have HA := Lib.hid hA
 have HT := Lib.hid T
 have HZ := Lib.hid hz
 have hll := Lib.hid hl
 clear hA T hz hl
 go_enter Tryz.func62, Tryz.ntmps62
 go_wp2_with fail
 go_loopw [13] (fun vi wr => ∃ j : Nat, vi = .int .i64 (j : Nat) ∧ Hid (j ≤ l.length) ∧ Hid (∀ x ∈ l.take j, pfE x = 0) ∧ Hid (Below w.heap.size w wr) ∧ Hid (Bu w.heap.size w.heap.size (acT feT (l.take j)) wr)) (fun vi _ => l.length - (intOf vi).toNat)
 case atStart => exact ⟨0, rfl, Lib.hid (Nat.zero_le _), Lib.hid (fun x hx => by cases hx), B0, U0⟩
 case round =>
  clear U0 B0
  obtain ⟨j, rfl, hj, hz, hb, hu⟩ := hrel
  by_cases hlt : j < l.length
  ·have q1 : decide ((j : Int) < (l.length : Int)) = true := decide_eq_true (by omega)
   have i1 : (j : Int) < (l.length : Int) := by omega
   have htl := hll.out
   have f4 := Lib.hid (next_at (j := j) (by omega))
   obtain ⟨bk, off, rfl, hC⟩ := HA.out.hat.resolve_left (by omega)
   obtain ⟨cs, hcs, R1, xa, xc, va, vc, wa, wc, rfl, V1, E1⟩ := hC j hlt
   replace R1 := Lib.hid (range_keeps R1 hb.out)
   have hxz := HZ.out _ (List.getElem_mem hlt)
   have CT := Lib.hid (fun (W : World) (b : Below w.heap.size w W) => pfeature_any l[j] xa va wa xc vc wc W hxz (V1.keeps b) (E1.keeps b) (HT.out.stays b))
   have hal := acT_len feT 1000000 (l.take j) (fun x hx => (by obtain ⟨y1, y2, y3, y4⟩ := pfE_zero (hz.out x hx); exact feT_len y1 y2 y3 y4 (HZ.out x (List.mem_of_mem_take hx)).few))
   rw [List.length_take, Nat.min_eq_left (Nat.le_of_lt hlt)] at hal
   have hal2 := Lib.hid (show (acT feT (l.take j)).length ≤ 30000000 by have : 1000001 * j ≤ 1000001 * 20 := Nat.mul_le_mul_left _ (by omega); omega)
   have hnx := Lib.hid (acT_next feT hlt)
   have hlt2 := Lib.hid hlt
   have hHit := Lib.hid (fun h0 => lnR_hit pfE feT hlt hz.out h0)
   have hTk := Lib.hid (fun h0 => take_ok (e := pfE) hlt hz.out h0)
   have hTL := Lib.hid (fun (h0 : pfE l[j] = 0) => (show (feT l[j]).length ≤ 1000000 from by have hx := List.getElem_mem hlt; exact (by obtain ⟨y1, y2, y3, y4⟩ := pfE_zero h0; exact feT_len y1 y2 y3 y4 (HZ.out _ hx).few)))
   obtain ⟨PP, hPP⟩ : ∃ p, p = acT feT (l.take j) := ⟨_, rfl⟩
   rw [← hPP] at hu hal2 hnx
   clear hC hj hz hcs hal htl hxz hPP
   generalize hx : l[j] = x at *
   clear hx
   unfold feC at *
   go_wp2_with (first | (refine arm_mid infFe Tryz.underlying51 rfl (.tmp 15) rfl rfl bk (off + j * 18) #[.string x.nm, .string x.en, .int .i64 x.ty.k, .slice xa x.ty.un.length xc, .string x.ty.of, .int .i64 x.bo.h.k, .string x.bo.h.op, .string x.bo.h.nm, .string x.bo.h.tb, .int .i64 x.bo.h.vk, .int .i64 x.bo.h.vn, .string x.bo.h.vs, .slice va x.bo.h.un.length vc, .int .i64 x.bo.h.pa, .int .i64 x.bo.h.wk, .int .i64 x.bo.h.ws, .slice wa x.bo.ar.len wc, .int .i64 x.vr] rfl R1.out rfl ?_) | (refine arm_storeT infFe (.tmp 8) (.tmp 16) rfl rfl _ _ _ _ rfl rfl (Blk.new _ _ _) rfl rfl (by simp [Value.oneCell']) ?_; intro w5 L5 hs5; have bb5 := (balloc (b0 wr) _).trans (hs5.below (Nat.le_refl _))) | (refine arm_loadT infFe Tryz.underlying51 rfl (.tmp 8) rfl rfl _ _ _ rfl L5 rfl ?_))
   have B5 := Lib.hid (hb.out.trans (bb5.mono hb.out.size))
   have U5 := Lib.hid (hu.out.keeps bb5)
   clear bb5 hs5 L5 R1 hb hu
   refine (CT.out _ B5.out).mono ?_
   rintro e w1 ⟨rfl, b1⟩
   have B1 := Lib.hid (bnext B5.out b1)
   have U1 := Lib.hid (U5.out.keeps b1)
   clear b1 CT B5 U5
   by_cases h0 : pfE x ≠ 0
   ·have q : (pfE x != 0) = true := by simp [h0]
    have hR := Lib.hid (hHit.out h0)
    replace h0 := Lib.hid h0
    clear hHit hTk hTL hal2 U1
    generalize pfE x = ex at *
    go_wp2_with fail
    go_ret2
    exact tx_of (by rw [hR.out, txO_no h0.out]; rfl) (by rw [hR.out]) B1.out
   ·have h00 : pfE x = 0 := Decidable.not_not.1 h0
    have q : (pfE x != 0) = false := by rw [h00]; rfl
    have hl9 := hTL.out h00
    have hk := Lib.hid (hTk.out h00)
    rw [txO_ok h00]
    have A1 := add_b8 ((feT x)) ([10]) (by first | omega | (simp only [List.length_append]; omega) | (simp only [List.length_cons, List.length_nil]; omega) | (simp only [List.length_cons, List.length_append, List.length_nil]; omega) | decide) (by first | omega | (simp only [List.length_append]; omega) | (simp only [List.length_cons, List.length_nil]; omega) | (simp only [List.length_cons, List.length_append, List.length_nil]; omega) | decide)
    replace A1 : ∀ W, (Op.stringOp .add (B8 (feT x)) ⟨#[10]⟩).run Tryz.prog W = .ok (.string (B8 ((feT x) ++ [10]))) W := A1
    have CW := Lib.hid (fun (W : World) (b : Below w.heap.size w W) (u : Bu w.heap.size w.heap.size PP W) => write_any w.heap.size w.heap.size PP (B8 ((feT x) ++ [10])) W u (by rw [B8_size, List.length_append]; have := hal2.out; simp only [List.length_cons, List.length_nil]; omega) b.size)
    have hU2 := Lib.hid (show PP ++ (B8 ((feT x) ++ [10])).data.toList = acT feT (l.take (j + 1)) by rw [hnx.out, B8_data, List.append_assoc])
    clear h0 h00 hl9 hHit hTk hTL hal2 hnx
    generalize pfE x = ex at *
    generalize B8 ((feT x) ++ [10]) = x1 at *
    generalize B8 (feT x) = x4 at *
    go_wp2_with fail
    refine (CW.out _ B1.out U1.out).mono ?_
    rintro e w2 ⟨rfl, u2, b2⟩
    have B2 := Lib.hid (B1.out.trans b2)
    have U2 := Lib.hid (hU2.out ▸ u2)
    clear b2 u2 CW U1
    go_wp2_with fail
    exact ⟨⟨j + 1, congrArg (Value.int .i64) f4.out, hlt2, hk, B2, U2⟩, less_at hlt2.out f4.out⟩
  ·have q1 : decide ((j : Int) < (l.length : Int)) = false := decide_eq_false (by omega)
   have hz' : ∀ x ∈ l, pfE x = 0 := by have := hz.out; rwa [List.take_of_length_le (by omega : l.length ≤ j)] at this
   have hR := Lib.hid (lnR_all pfE feT hz')
   have hu' : Bu w.heap.size w.heap.size (acT feT l) wr := by have := hu.out; rwa [List.take_of_length_le (by omega : l.length ≤ j)] at this
   have CS := Lib.hid (build_any _ _ _ wr hu' hb.out.size)
   clear hz hz' hu hu' hj
   go_wp2_with fail
   refine CS.out.mono ?_
   rintro e w2 ⟨rfl, b2⟩
   have B2 := Lib.hid (hb.out.trans b2)
   clear b2 CS
   go_wp2_with fail
   go_ret2
   exact tx_of (by rw [hR.out, txO_ok rfl]) (by rw [hR.out]) B2.out
end Go.Proofs.YtbahfelnbofjjaaGreatDoor.ch
namespace Go.Proofs.YtbahfelnbofjjaaGreatDoor.ch
open Go.RowKit dec
theorem lnR_len {α : Type} (e : α → Int) (t : α → List UInt8) (k : Nat) : ∀ l : List α, (∀ x ∈ l, e x = 0 → (t x).length ≤ k) → (lnR e t l).2.length ≤ (k + 1) * l.length
 | [], _ => Nat.zero_le _
 | x :: r, h => by
  have ih := lnR_len e t k r fun y hy => h y (List.mem_cons_of_mem _ hy)
  unfold lnR
  split
  ·exact Nat.zero_le _
  ·rename_i h0
   split
   ·exact Nat.zero_le _
   ·have := h x (List.mem_cons_self ..) (Decidable.not_not.1 h0)
    simp only [List.length_append, List.length_cons, Nat.mul_add]
    omega
theorem pmod_any (ts : List Tb) (gs : List Fe) (ta ga : Option Addr) (tc gc : Nat) (w : World) (hM : Mv' w ta tc ga gc ts gs) (T : Tabq w) : Calls Tryz.prog 24 #[.agg (moC ta ts.length tc ga gs.length gc)] w (Tx (txO (moR ts gs).1 (moR ts gs).2) (moR ts gs).1 w) := by
 have bb := balloc (b0 w) (.cells (moC ta ts.length tc ga gs.length gc) 43)
 have B0 := Lib.hid bb
 have G := Lib.hid (Blk.new w 43 (moC ta ts.length tc ga gs.length gc))
 have C1 := Lib.hid (fun (W : World) (b : Below w.heap.size w W) => lines_t ts ta tc W (Tbs'.keeps hM.t b) hM.tz hM.tl (T.stays b))
 have C2 := Lib.hid (fun (W : World) (b : Below w.heap.size w W) => lines_f gs ga gc W (Fes.keeps hM.g b) hM.gz hM.gl (T.stays b))
 have HR := Lib.hid (show moR ts gs = if (lnR tbE tbT ts).1 ≠ 0 then ((lnR tbE tbT ts).1, []) else if (lnR pfE feT gs).1 ≠ 0 then ((lnR pfE feT gs).1, []) else if 16384 < ((lnR tbE tbT ts).2 ++ (lnR pfE feT gs).2).length then (2, []) else (0, (lnR tbE tbT ts).2 ++ (lnR pfE feT gs).2) from rfl)
 have z1 := lnR_len tbE tbT 4000 ts (fun x _ h => tbT_len h)
 have z2 := lnR_len pfE feT 1000000 gs (fun x hx h => by obtain ⟨y1, y2, y3, y4⟩ := pfE_zero h; exact feT_len y1 y2 y3 y4 (hM.gz x hx).few)
 have y1 : (lnR tbE tbT ts).2.length ≤ 100000 := by have h1 := hM.tl; have : 4001 * ts.length ≤ 4001 * 20 := Nat.mul_le_mul_left _ h1; omega
 have y2 : (lnR pfE feT gs).2.length ≤ 30000000 := by have h1 := hM.gl; have : 1000001 * gs.length ≤ 1000001 * 20 := Nat.mul_le_mul_left _ h1; omega
 clear bb hM T z1 z2
 generalize moR ts gs = MR at *
 generalize (lnR tbE tbT ts).1 = e1 at *
 generalize (lnR pfE feT gs).1 = e2 at *
 generalize (lnR tbE tbT ts).2 = t1 at *
 generalize (lnR pfE feT gs).2 = t2 at *
 unfold moC at *
 go_enter Tryz.func24, Tryz.ntmps24
 go_upto_region 1 with fail
 generalize hw0 : (w.alloc (.cells #[.slice ta ts.length tc, .slice ga gs.length gc] 43)) = w0 at *
 generalize hg2 : w.heap.size = g2 at G ⊢
 clear hw0 hg2
 have a0 := G.out.cell 0
 simp only [List.getElem?_toArray, List.getElem?_cons_zero] at a0
 go_wp2_with fail
 refine (C1.out _ B0.out).mono ?_
 rintro e w1 ⟨rfl, b1⟩
 have B1 := Lib.hid (bnext B0.out b1)
 replace G := Lib.hid (G.out.keeps b1)
 clear b1 C1 a0
 by_cases h0 : e1 ≠ 0
 ·have q : (e1 != 0) = true := by simp [h0]
  have hR := Lib.hid (show MR = (e1, []) by rw [HR.out, if_pos h0])
  replace h0 := Lib.hid h0
  clear HR y1 y2
  go_wp2_with fail
  go_ret2
  exact tx_of (by rw [hR.out, txO_no h0.out]; rfl) (by rw [hR.out]) B1.out
 ·have h00 : e1 = 0 := Decidable.not_not.1 h0
  have q : (e1 != 0) = false := by rw [h00]; rfl
  replace HR := Lib.hid (HR.out.trans (if_neg h0))
  rw [txO_ok h00]
  clear h0
  subst h00
  have a1 := G.out.cell 1
  simp only [List.getElem?_toArray, List.getElem?_cons_zero, List.getElem?_cons_succ] at a1
  go_wp2_with fail
  refine (C2.out _ B1.out).mono ?_
  rintro e w2 ⟨rfl, b2⟩
  have B2 := Lib.hid (bnext B1.out b2)
  clear b2 C2 a1
  by_cases h0 : e2 ≠ 0
  ·have q5 : (e2 != 0) = true := by simp [h0]
   have hR := Lib.hid (show MR = (e2, []) by rw [HR.out, if_pos h0])
   replace h0 := Lib.hid h0
   clear HR y1 y2
   go_wp2_with fail
   go_ret2
   exact tx_of (by rw [hR.out, txO_no h0.out]; rfl) (by rw [hR.out]) B2.out
  ·have h00 : e2 = 0 := Decidable.not_not.1 h0
   have q5 : (e2 != 0) = false := by rw [h00]; rfl
   replace HR := Lib.hid (HR.out.trans (if_neg h0))
   rw [txO_ok h00]
   clear h0
   subst h00
   have A1 := add_b8 (t1) (t2) (by first | omega | (simp only [List.length_append]; omega) | (simp only [List.length_cons, List.length_nil]; omega) | (simp only [List.length_cons, List.length_append, List.length_nil]; omega) | decide) (by first | omega | (simp only [List.length_append]; omega) | (simp only [List.length_cons, List.length_nil]; omega) | (simp only [List.length_cons, List.length_append, List.length_nil]; omega) | decide)
   replace A1 : ∀ W, (Op.stringOp .add (B8 t1) (B8 t2)).run Tryz.prog W = .ok (.string (B8 (t1 ++ t2))) W := A1
   have hsz : (B8 (t1 ++ t2)).size = (t1 ++ t2).length := B8_size _
   generalize t1 ++ t2 = SS at *
   generalize hss : B8 SS = ss at *
   obtain ⟨bl, hbl⟩ : ∃ bl : Bool, bl = decide (16384 < SS.length) := ⟨_, rfl⟩
   have q2 : decide ((16384 : Int) < (ss.size : Int)) = bl := by rw [hbl, hsz]; exact decide_eq_decide.2 (by omega)
   have q3 : decide (16384 < ss.size) = bl := by rw [hbl, hsz]
   replace hbl := Lib.hid hbl
   replace hss := Lib.hid hss
   clear hsz y1 y2
   cases bl
   ·have hR := Lib.hid (show MR = (0, SS) by rw [HR.out, if_neg (by have := hbl.out; simp at this; omega)])
    go_wp2_with fail
    go_ret2
    exact tx_of (by rw [hR.out, txO_ok rfl, hss.out]) (by rw [hR.out]) B2.out
   ·have hR := Lib.hid (show MR = (2, []) by rw [HR.out, if_pos (by have := hbl.out; simpa using this)])
    go_wp2_with fail
    go_ret2
    exact tx_of (by rw [hR.out, txO_no (show ¬ ((2 : Int), ([] : List UInt8)).1 = 0 by decide)]; rfl) (by rw [hR.out]) B2.out
theorem fewM_any (ts : List Tb) (gs : List Fe) (ta ga : Option Addr) (tc gc : Nat) (w : World) (hT : Tbs' w ta ts.length tc ts) (hG : Fes w ga gs.length gc gs) (tz : ∀ x ∈ ts, x.sz) (gz : ∀ x ∈ gs, x.nm.size ≤ 140737488355328 ∧ x.en.size ≤ 140737488355328 ∧ x.ty.of.size ≤ 140737488355328 ∧ x.bo.szs) : Calls Tryz.prog 19 #[.agg (moC ta ts.length tc ga gs.length gc)] w fun e w' => ∃ b : Bool, e = .returned (.bool b) ∧ (b = true → ts.length ≤ 20 ∧ gs.length ≤ 20 ∧ ∀ x ∈ gs, x.bo.ar.sz ≤ 3000) ∧ Below w.heap.size w w' := by
 have bb := balloc (b0 w) (.cells (moC ta ts.length tc ga gs.length gc) 43)
 have B0 := Lib.hid bb
 have G := Lib.hid (Blk.new w 43 (moC ta ts.length tc ga gs.length gc))
 have HT := Lib.hid (Tbs'.keeps hT bb)
 have HG := Lib.hid (Fes.keeps hG bb)
 have TZ := Lib.hid tz
 have GZ := Lib.hid gz
 clear bb hT hG tz gz
 unfold moC at *
 go_enter Tryz.func19, Tryz.ntmps19
 go_upto_region 1 with fail
 generalize hw0 : (w.alloc (.cells #[.slice ta ts.length tc, .slice ga gs.length gc] 43)) = w0 at *
 generalize hg2 : w.heap.size = g2 at G ⊢
 clear hw0 hg2
 go_wp2_with fail
 go_loopw [3] (fun vi wr => ∃ j : Nat, vi = .int .i64 (j : Nat) ∧ Hid (j ≤ ts.length ∧ j ≤ 21) ∧ Hid (Below w0.heap.size w0 wr)) (fun vi _ => 30 - (intOf vi).toNat)
 case atStart => exact ⟨0, rfl, Lib.hid ⟨Nat.zero_le _, Nat.zero_le _⟩, Lib.hid (b0 w0)⟩
 case round =>
  obtain ⟨j, rfl, hj, hb⟩ := hrel
  have Bw := Lib.hid (bnext B0.out hb.out)
  replace G := Lib.hid (G.out.keeps hb.out)
  replace HT := Lib.hid (Tbs'.keeps HT.out hb.out)
  replace HG := Lib.hid (Fes.keeps HG.out hb.out)
  have c0 := G.out.cell 0
  simp only [List.getElem?_toArray, List.getElem?_cons_zero] at c0
  by_cases hlt : j < ts.length ∧ j < 21
  ·obtain ⟨hlt, h21⟩ := hlt
   have q1 : decide ((j : Int) < (ts.length : Int)) = true := decide_eq_true (by omega)
   have q2 : decide ((j : Int) < 21) = true := decide_eq_true (by omega)
   have q2' : decide (j < 21) = true := decide_eq_true h21
   have i1 : (j : Int) < (ts.length : Int) := by omega
   have f4 := Lib.hid (next_at (j := j) (by omega))
   obtain ⟨bk, off, rfl, hC⟩ := HT.out.hat.resolve_left (by omega)
   obtain ⟨cs, hcs, R1, xa, xc, rfl, F1⟩ := hC j hlt
   replace R1 := Lib.hid R1
   have hxz := TZ.out _ (List.getElem_mem hlt)
   have CT := Lib.hid (fewTable_any ts[j] xa xc wr hxz F1)
   have hlt2 := Lib.hid hlt
   have h22 := Lib.hid h21
   clear hC hj hcs hxz F1
   generalize ts[j] = x at *
   go_wp2_with (refine arm_mid infTb Tryz.underlying48 rfl (.tmp 19) rfl rfl bk (off + j * 4) (tbC x xa xc) rfl R1.out rfl ?_)
   refine CT.out.mono ?_
   rintro e w1 ⟨bq, rfl, -, b1⟩
   have B1 := Lib.hid (bnext Bw.out b1)
   have hb1 := Lib.hid (bnext hb.out b1)
   clear b1 CT c0
   cases bq
   ·go_wp2_with fail
    go_ret
    exact ⟨false, rfl, fun h => (by cases h), B1.out⟩
   ·go_wp2_with fail
    exact ⟨⟨j + 1, rfl, Lib.hid ⟨hlt2.out, by have := h22.out; omega⟩, hb1⟩, by have := h22.out; simp only [intOf]; omega⟩
  ·have hX : (decide ((j : Int) < (ts.length : Int)) && decide ((j : Int) < 21)) = false := by rw [Bool.and_eq_false_iff, decide_eq_false_iff_not, decide_eq_false_iff_not]; omega
   by_cases hl2 : j < ts.length
   ·have q1 : decide ((j : Int) < (ts.length : Int)) = true := decide_eq_true (by omega)
    have q2 : decide ((j : Int) < 21) = false := decide_eq_false (by omega)
    have q2' : decide (j < 21) = false := decide_eq_false (by omega)
    have hL := Lib.hid (show 21 ≤ ts.length by omega)
    replace hlt := Lib.hid hlt
    clear hX
    have hl3 := Lib.hid hl2
    clear hl2
    go_wp2_with fail
    go_loopw [4] (fun vi wx => ∃ i : Nat, vi = .int .i64 (i : Nat) ∧ Hid (i ≤ gs.length ∧ i ≤ 21) ∧ Hid (∀ x ∈ gs.take i, x.bo.ar.sz ≤ 3000) ∧ Hid (Below wr.heap.size wr wx)) (fun vi _ => 30 - (intOf vi).toNat)
    case atStart => exact ⟨0, rfl, Lib.hid ⟨Nat.zero_le _, Nat.zero_le _⟩, Lib.hid (fun x hx => by cases hx), Lib.hid (b0 wr)⟩
    case round =>
     obtain ⟨i, rfl, hi, hfz, hd⟩ := hrel
     replace Bw := Lib.hid (bnext Bw.out hd.out)
     replace G := Lib.hid (G.out.keeps hd.out)
     replace HG := Lib.hid (Fes.keeps HG.out hd.out)
     clear c0 q1 q2 q2'
     have c0 := G.out.cell 0
     simp only [List.getElem?_toArray, List.getElem?_cons_zero] at c0
     have c1 := G.out.cell 1
     simp only [List.getElem?_toArray, List.getElem?_cons_zero, List.getElem?_cons_succ] at c1
     by_cases hlu : i < gs.length ∧ i < 21
     ·obtain ⟨hlu, h21⟩ := hlu
      have q1 : decide ((i : Int) < (gs.length : Int)) = true := decide_eq_true (by omega)
      have q2 : decide ((i : Int) < 21) = true := decide_eq_true (by omega)
      have q2' : decide (i < 21) = true := decide_eq_true h21
      have i1 : (i : Int) < (gs.length : Int) := by omega
      have f4 := Lib.hid (next_at (j := i) (by omega))
      obtain ⟨bk, off, rfl, hC⟩ := HG.out.hat.resolve_left (by omega)
      obtain ⟨cs, hcs, R1, xa, xc, va, vc, wa, wc, rfl, V1, E1⟩ := hC i hlu
      replace R1 := Lib.hid R1
      have hxz := GZ.out _ (List.getElem_mem hlu)
      have CT := Lib.hid (fewFeature_any gs[i] xa va wa xc vc wc _ hxz.1 hxz.2.1 hxz.2.2.1 hxz.2.2.2 V1 E1)
      have hlt2 := Lib.hid hlu
      have h22 := Lib.hid h21
      have hTk := Lib.hid (fun (h : gs[i].bo.ar.sz ≤ 3000) => (show ∀ x ∈ gs.take (i + 1), x.bo.ar.sz ≤ 3000 from fun x hm => by
       rw [List.take_succ_eq_append_getElem hlu] at hm
       rcases List.mem_append.1 hm with hm | hm
       ·exact hfz.out x hm
       ·rw [List.mem_singleton] at hm; rw [hm]; exact h))
      clear hC hi hcs hxz V1 E1 hfz c0
      generalize gs[i] = x at *
      go_wp2_with (refine arm_mid infFe Tryz.underlying51 rfl (.tmp 37) rfl rfl bk (off + i * 18) (feC x xa xc va vc wa wc) rfl R1.out rfl ?_)
      refine CT.out.mono ?_
      rintro e w1 ⟨bq, rfl, hbq, b1⟩
      have B1 := Lib.hid (bnext Bw.out b1)
      have hb1 := Lib.hid (bnext hd.out b1)
      clear b1 CT c1
      cases bq
      ·go_wp2_with fail
       go_ret
       exact ⟨false, rfl, fun h => (by cases h), B1.out⟩
      ·have hk := Lib.hid (hTk.out (by have := hbq rfl; omega))
       clear hTk hbq
       go_wp2_with fail
       exact ⟨⟨i + 1, rfl, Lib.hid ⟨hlt2.out, by have := h22.out; omega⟩, hk, hb1⟩, by have := h22.out; simp only [intOf]; omega⟩
     ·by_cases hl4 : i < gs.length
      ·have q1 : decide ((i : Int) < (gs.length : Int)) = true := decide_eq_true (by omega)
       have q2 : decide ((i : Int) < 21) = false := decide_eq_false (by omega)
       have q2' : decide (i < 21) = false := decide_eq_false (by omega)
       replace hlu := Lib.hid hlu
       have hl5 := Lib.hid hl4
       clear hl4
       have p1 : decide ((ts.length : Int) ≤ 20) = false := decide_eq_false (by have := hL.out; omega)
       have p1' : decide (ts.length ≤ 20) = false := decide_eq_false (by have := hL.out; omega)
       go_wp2_with fail
       go_ret
       exact ⟨false, rfl, fun h => (by cases h), Bw.out⟩
      ·have q1 : decide ((i : Int) < (gs.length : Int)) = false := decide_eq_false (by omega)
       replace hlu := Lib.hid hlu
       have hl5 := Lib.hid hl4
       clear hl4
       have p1 : decide ((ts.length : Int) ≤ 20) = false := decide_eq_false (by have := hL.out; omega)
       have p1' : decide (ts.length ≤ 20) = false := decide_eq_false (by have := hL.out; omega)
       go_wp2_with fail
       go_ret
       exact ⟨false, rfl, fun h => (by cases h), Bw.out⟩
   ·have q1 : decide ((j : Int) < (ts.length : Int)) = false := decide_eq_false (by omega)
    replace hlt := Lib.hid hlt
    clear hX
    have hl3 := Lib.hid hl2
    clear hl2
    go_wp2_with fail
    go_loopw [4] (fun vi wx => ∃ i : Nat, vi = .int .i64 (i : Nat) ∧ Hid (i ≤ gs.length ∧ i ≤ 21) ∧ Hid (∀ x ∈ gs.take i, x.bo.ar.sz ≤ 3000) ∧ Hid (Below wr.heap.size wr wx)) (fun vi _ => 30 - (intOf vi).toNat)
    case atStart => exact ⟨0, rfl, Lib.hid ⟨Nat.zero_le _, Nat.zero_le _⟩, Lib.hid (fun x hx => by cases hx), Lib.hid (b0 wr)⟩
    case round =>
     obtain ⟨i, rfl, hi, hfz, hd⟩ := hrel
     replace Bw := Lib.hid (bnext Bw.out hd.out)
     replace G := Lib.hid (G.out.keeps hd.out)
     replace HG := Lib.hid (Fes.keeps HG.out hd.out)
     clear c0 q1
     have c0 := G.out.cell 0
     simp only [List.getElem?_toArray, List.getElem?_cons_zero] at c0
     have c1 := G.out.cell 1
     simp only [List.getElem?_toArray, List.getElem?_cons_zero, List.getElem?_cons_succ] at c1
     by_cases hlu : i < gs.length ∧ i < 21
     ·obtain ⟨hlu, h21⟩ := hlu
      have q1 : decide ((i : Int) < (gs.length : Int)) = true := decide_eq_true (by omega)
      have q2 : decide ((i : Int) < 21) = true := decide_eq_true (by omega)
      have q2' : decide (i < 21) = true := decide_eq_true h21
      have i1 : (i : Int) < (gs.length : Int) := by omega
      have f4 := Lib.hid (next_at (j := i) (by omega))
      obtain ⟨bk, off, rfl, hC⟩ := HG.out.hat.resolve_left (by omega)
      obtain ⟨cs, hcs, R1, xa, xc, va, vc, wa, wc, rfl, V1, E1⟩ := hC i hlu
      replace R1 := Lib.hid R1
      have hxz := GZ.out _ (List.getElem_mem hlu)
      have CT := Lib.hid (fewFeature_any gs[i] xa va wa xc vc wc _ hxz.1 hxz.2.1 hxz.2.2.1 hxz.2.2.2 V1 E1)
      have hlt2 := Lib.hid hlu
      have h22 := Lib.hid h21
      have hTk := Lib.hid (fun (h : gs[i].bo.ar.sz ≤ 3000) => (show ∀ x ∈ gs.take (i + 1), x.bo.ar.sz ≤ 3000 from fun x hm => by
       rw [List.take_succ_eq_append_getElem hlu] at hm
       rcases List.mem_append.1 hm with hm | hm
       ·exact hfz.out x hm
       ·rw [List.mem_singleton] at hm; rw [hm]; exact h))
      clear hC hi hcs hxz V1 E1 hfz c0
      generalize gs[i] = x at *
      go_wp2_with (refine arm_mid infFe Tryz.underlying51 rfl (.tmp 37) rfl rfl bk (off + i * 18) (feC x xa xc va vc wa wc) rfl R1.out rfl ?_)
      refine CT.out.mono ?_
      rintro e w1 ⟨bq, rfl, hbq, b1⟩
      have B1 := Lib.hid (bnext Bw.out b1)
      have hb1 := Lib.hid (bnext hd.out b1)
      clear b1 CT c1
      cases bq
      ·go_wp2_with fail
       go_ret
       exact ⟨false, rfl, fun h => (by cases h), B1.out⟩
      ·have hk := Lib.hid (hTk.out (by have := hbq rfl; omega))
       clear hTk hbq
       go_wp2_with fail
       exact ⟨⟨i + 1, rfl, Lib.hid ⟨hlt2.out, by have := h22.out; omega⟩, hk, hb1⟩, by have := h22.out; simp only [intOf]; omega⟩
     ·by_cases hl4 : i < gs.length
      ·have q1 : decide ((i : Int) < (gs.length : Int)) = true := decide_eq_true (by omega)
       have q2 : decide ((i : Int) < 21) = false := decide_eq_false (by omega)
       have q2' : decide (i < 21) = false := decide_eq_false (by omega)
       replace hlu := Lib.hid hlu
       have hl5 := Lib.hid hl4
       clear hl4
       by_cases ht20 : ts.length ≤ 20
       ·have p1 : decide ((ts.length : Int) ≤ 20) = true := decide_eq_true (by omega)
        have p1' : decide (ts.length ≤ 20) = true := decide_eq_true ht20
        have HT20 := Lib.hid ht20
        clear ht20
        by_cases hg20 : gs.length ≤ 20
        ·have p2 : decide ((gs.length : Int) ≤ 20) = true := decide_eq_true (by omega)
         have p2' : decide (gs.length ≤ 20) = true := decide_eq_true hg20
         have HG20 := Lib.hid hg20
         clear hg20
         go_wp2_with fail
         go_ret
         exact ⟨true, rfl, fun _ => ⟨HT20.out, HG20.out, fun x hx => hfz.out x (by rw [List.take_of_length_le (by have := hlu.out; have := HG20.out; omega)]; exact hx)⟩, Bw.out⟩
        ·have p2 : decide ((gs.length : Int) ≤ 20) = false := decide_eq_false (by omega)
         have p2' : decide (gs.length ≤ 20) = false := decide_eq_false hg20
         replace hg20 := Lib.hid hg20
         go_wp2_with fail
         go_ret
         exact ⟨false, rfl, fun h => (by cases h), Bw.out⟩
       ·have p1 : decide ((ts.length : Int) ≤ 20) = false := decide_eq_false (by omega)
        have p1' : decide (ts.length ≤ 20) = false := decide_eq_false ht20
        replace ht20 := Lib.hid ht20
        go_wp2_with fail
        go_ret
        exact ⟨false, rfl, fun h => (by cases h), Bw.out⟩
      ·have q1 : decide ((i : Int) < (gs.length : Int)) = false := decide_eq_false (by omega)
       replace hlu := Lib.hid hlu
       have hl5 := Lib.hid hl4
       clear hl4
       by_cases ht20 : ts.length ≤ 20
       ·have p1 : decide ((ts.length : Int) ≤ 20) = true := decide_eq_true (by omega)
        have p1' : decide (ts.length ≤ 20) = true := decide_eq_true ht20
        have HT20 := Lib.hid ht20
        clear ht20
        by_cases hg20 : gs.length ≤ 20
        ·have p2 : decide ((gs.length : Int) ≤ 20) = true := decide_eq_true (by omega)
         have p2' : decide (gs.length ≤ 20) = true := decide_eq_true hg20
         have HG20 := Lib.hid hg20
         clear hg20
         go_wp2_with fail
         go_ret
         exact ⟨true, rfl, fun _ => ⟨HT20.out, HG20.out, fun x hx => hfz.out x (by rw [List.take_of_length_le (by have := hlu.out; have := HG20.out; omega)]; exact hx)⟩, Bw.out⟩
        ·have p2 : decide ((gs.length : Int) ≤ 20) = false := decide_eq_false (by omega)
         have p2' : decide (gs.length ≤ 20) = false := decide_eq_false hg20
         replace hg20 := Lib.hid hg20
         go_wp2_with fail
         go_ret
         exact ⟨false, rfl, fun h => (by cases h), Bw.out⟩
       ·have p1 : decide ((ts.length : Int) ≤ 20) = false := decide_eq_false (by omega)
        have p1' : decide (ts.length ≤ 20) = false := decide_eq_false ht20
        replace ht20 := Lib.hid ht20
        go_wp2_with fail
        go_ret
        exact ⟨false, rfl, fun h => (by cases h), Bw.out⟩
end Go.Proofs.YtbahfelnbofjjaaGreatDoor.ch
namespace Go.Proofs.YtbahfelnbofjjaaGreatDoor.ch
open Go.RowKit dec
theorem items_walk (ts : List Tb) (gs : List Fe) (ta ga : Option Addr) (tc gc : Nat) (w : World) (hT : Tbs' w ta ts.length tc ts) (hG : Fes w ga gs.length gc gs) (tz : ∀ x ∈ ts, x.sz) (gz : ∀ x ∈ gs, x.nm.size ≤ 140737488355328 ∧ x.en.size ≤ 140737488355328 ∧ x.ty.of.size ≤ 140737488355328 ∧ x.bo.szs) (T : Tabq w) : Calls Tryz.prog 4 #[.agg (moC ta ts.length tc ga gs.length gc)] w (Bl true w) := by
 have bb := balloc (b0 w) (.cells (moC ta ts.length tc ga gs.length gc) 43)
 have B := Lib.hid bb
 have G := Lib.hid (Blk.new w 43 (moC ta ts.length tc ga gs.length gc))
 have CE := Lib.hid (fun (W : World) (b : Below w.heap.size w W) => example_any W (T.stays b))
 have CF := Lib.hid (fun (W : World) (b : Below w.heap.size w W) => fewM_any ts gs ta ga tc gc W (Tbs'.keeps hT b) (Fes.keeps hG b) tz gz)
 have HM := Lib.hid (fun (h : ts.length ≤ 20 ∧ gs.length ≤ 20 ∧ ∀ x ∈ gs, x.bo.ar.sz ≤ 3000) (W : World) (b : Below w.heap.size w W) => (show Mv' W ta tc ga gc ts gs from ⟨Tbs'.keeps hT b, Fes.keeps hG b, tz, fun f hf => (by obtain ⟨a1, a2, a3, a4⟩ := gz f hf; exact ⟨a1, a2, a3, a4, h.2.2 f hf⟩), h.1, h.2.1⟩))
 have TT := Lib.hid (fun (W : World) (b : Below w.heap.size w W) => T.stays b)
 clear bb hT hG tz gz T
 unfold moC at *
 go_enter Tryz.func4, Tryz.ntmps4
 go_upto_region 1 with fail
 generalize hw0 : (w.alloc (.cells #[.slice ta ts.length tc, .slice ga gs.length gc] 43)) = w0 at *
 generalize hg2 : w.heap.size = g2 at G ⊢
 clear hw0 hg2
 go_wp2_with fail
 refine (CE.out _ B.out).mono ?_
 rintro e w1 ⟨rfl, b1⟩
 replace B := Lib.hid (bnext B.out b1)
 replace G := Lib.hid (G.out.keeps b1)
 clear b1 CE
 go_wp2_with (refine arm_loadT infMo Tryz.underlying43 rfl (.tmp 1) rfl rfl _ _ _ rfl G.out rfl ?_)
 refine (CF.out _ B.out).mono ?_
 rintro e w2 ⟨bq, rfl, hq, b2⟩
 replace B := Lib.hid (bnext B.out b2)
 replace G := Lib.hid (G.out.keeps b2)
 clear b2 CF
 cases bq
 ·go_wp2_with fail
  go_ret
  exact ⟨rfl, B.out⟩
 ·replace HM := Lib.hid (HM.out (hq rfl))
  clear hq
  go_wp2_with fail
  go_loopw [3] (fun vi wr => ∃ j : Nat, vi = .int .i64 (j : Nat) ∧ Hid (j ≤ ts.length) ∧ Hid (Below w2.heap.size w2 wr)) (fun vi _ => ts.length - (intOf vi).toNat)
  case atStart => exact ⟨0, rfl, Lib.hid (Nat.zero_le _), Lib.hid (b0 w2)⟩
  case round =>
   obtain ⟨j, rfl, hj, hb⟩ := hrel
   replace B := Lib.hid (bnext B.out hb.out)
   replace G := Lib.hid (G.out.keeps hb.out)
   have M := Lib.hid (HM.out _ B.out)
   have c0 := G.out.cell 0
   simp only [List.getElem?_toArray, List.getElem?_cons_zero] at c0
   by_cases hlt : j < ts.length
   ·have q1 : decide ((j : Int) < (ts.length : Int)) = true := decide_eq_true (by omega)
    have i1 : (j : Int) < (ts.length : Int) := by omega
    have htl := M.out.tl
    have f4 := Lib.hid (next_at (j := j) (by omega))
    obtain ⟨bk, off, rfl, hC⟩ := M.out.t.hat.resolve_left (by omega)
    obtain ⟨cs, hcs, R1, xa, xc, rfl, F1⟩ := hC j hlt
    replace R1 := Lib.hid R1
    have hxz := M.out.tz _ (List.getElem_mem hlt)
    have CP := Lib.hid (ptable_any ts[j] xa xc wr hxz F1 (TT.out _ B.out))
    have CR := Lib.hid (fun (W : World) (b : Below wr.heap.size wr W) => rtab11_any ts[j] xa xc W (F1.keeps b))
    have hlt2 := Lib.hid hlt
    clear hC hj hcs hxz htl F1 M
    generalize ts[j] = x at *
    generalize txO (tbE x) (tbT x) = s1 at *
    generalize tbE x = e1 at *
    go_wp2_with (refine arm_mid infTb Tryz.underlying48 rfl (.tmp 33) rfl rfl bk (off + j * 4) (tbC x xa xc) rfl R1.out rfl ?_)
    refine (CP.out).mono ?_
    rintro e w3 ⟨rfl, b3⟩
    replace B := Lib.hid (bnext B.out b3)
    replace G := Lib.hid (G.out.keeps b3)
    replace hb := Lib.hid (bnext hb.out b3)
    have bx := Lib.hid b3
    replace R1 := Lib.hid (range_keeps R1.out b3)
    clear b3 CP c0
    have c0 := G.out.cell 0
    simp only [List.getElem?_toArray, List.getElem?_cons_zero] at c0
    go_wp2_with (refine arm_mid infTb Tryz.underlying48 rfl (.tmp 42) rfl rfl bk (off + j * 4) (tbC x xa xc) rfl R1.out rfl ?_)
    refine (CR.out _ bx.out).mono ?_
    rintro e w4 ⟨rfl, b4⟩
    replace B := Lib.hid (bnext B.out b4)
    replace G := Lib.hid (G.out.keeps b4)
    replace hb := Lib.hid (bnext hb.out b4)
    clear b4 CR c0 bx R1
    have p1 : (s1.toList == s1.toList) = true := beq_self_eq_true _
    have p2 : (e1 == e1) = true := beq_self_eq_true _
    have p3 : (e1 != e1) = false := by simp
    go_wp2_with fail
    exact ⟨⟨j + 1, congrArg (Value.int .i64) f4.out, hlt2, hb⟩, less_at hlt2.out f4.out⟩
   ·have q1 : decide ((j : Int) < (ts.length : Int)) = false := decide_eq_false (by omega)
    clear M hj hb
    go_wp2_with fail
    go_loopw [8] (fun vi wx => ∃ i : Nat, vi = .int .i64 (i : Nat) ∧ Hid (i ≤ gs.length) ∧ Hid (Below wr.heap.size wr wx)) (fun vi _ => gs.length - (intOf vi).toNat)
    case atStart => exact ⟨0, rfl, Lib.hid (Nat.zero_le _), Lib.hid (b0 wr)⟩
    case round =>
     obtain ⟨i, rfl, hi, hb⟩ := hrel
     replace B := Lib.hid (bnext B.out hb.out)
     replace G := Lib.hid (G.out.keeps hb.out)
     have M := Lib.hid (HM.out _ B.out)
     clear c0
     have c1 := G.out.cell 1
     simp only [List.getElem?_toArray, List.getElem?_cons_zero, List.getElem?_cons_succ] at c1
     by_cases hlu : i < gs.length
     ·have q1 : decide ((i : Int) < (gs.length : Int)) = true := decide_eq_true (by omega)
      have i1 : (i : Int) < (gs.length : Int) := by omega
      have htl := M.out.gl
      have f4 := Lib.hid (next_at (j := i) (by omega))
      obtain ⟨bk, off, rfl, hC⟩ := M.out.g.hat.resolve_left (by omega)
      obtain ⟨cs, hcs, R1, xa, xc, va, vc, wa, wc, rfl, V1, E1⟩ := hC i hlu
      replace R1 := Lib.hid R1
      have hxz := M.out.gz _ (List.getElem_mem hlu)
      have CP := Lib.hid (pfeature_any gs[i] xa va wa xc vc wc _ hxz V1 E1 (TT.out _ B.out))
      have CR := Lib.hid (fun (W : World) (b : Below wr.heap.size wr W) => rfea11_any gs[i] xa va wa xc vc wc W hxz (V1.keeps b) (E1.keeps b))
      have hlt2 := Lib.hid hlu
      clear hC hi hcs hxz htl V1 E1 M
      generalize gs[i] = x at *
      generalize txO (pfE x) (feT x) = s1 at *
      generalize pfE x = e1 at *
      go_wp2_with (refine arm_mid infFe Tryz.underlying51 rfl (.tmp 66) rfl rfl bk (off + i * 18) (feC x xa xc va vc wa wc) rfl R1.out rfl ?_)
      refine (CP.out).mono ?_
      rintro e w5 ⟨rfl, b5⟩
      replace B := Lib.hid (bnext B.out b5)
      replace G := Lib.hid (G.out.keeps b5)
      replace hb := Lib.hid (bnext hb.out b5)
      have bx := Lib.hid b5
      replace R1 := Lib.hid (range_keeps R1.out b5)
      clear b5 CP c1
      have c1 := G.out.cell 1
      simp only [List.getElem?_toArray, List.getElem?_cons_zero, List.getElem?_cons_succ] at c1
      go_wp2_with (refine arm_mid infFe Tryz.underlying51 rfl (.tmp 75) rfl rfl bk (off + i * 18) (feC x xa xc va vc wa wc) rfl R1.out rfl ?_)
      refine (CR.out _ bx.out).mono ?_
      rintro e w6 ⟨rfl, b6⟩
      replace B := Lib.hid (bnext B.out b6)
      replace G := Lib.hid (G.out.keeps b6)
      replace hb := Lib.hid (bnext hb.out b6)
      clear b6 CR c1 bx R1
      have p1 : (s1.toList == s1.toList) = true := beq_self_eq_true _
      have p2 : (e1 == e1) = true := beq_self_eq_true _
      have p3 : (e1 != e1) = false := by simp
      go_wp2_with fail
      exact ⟨⟨i + 1, congrArg (Value.int .i64) f4.out, hlt2, hb⟩, less_at hlt2.out f4.out⟩
     ·have q1 : decide ((i : Int) < (gs.length : Int)) = false := decide_eq_false (by omega)
      clear hi hb
      have CP := Lib.hid (pmod_any ts gs ta ga tc gc _ M.out (TT.out _ B.out))
      have CR := Lib.hid (fun (W : World) (b : Below wr.heap.size wr W) => rmod11_any ts gs ta ga tc gc W (M.out.keeps b))
      clear M
      generalize txO (moR ts gs).1 (moR ts gs).2 = s1 at *
      generalize (moR ts gs).1 = e1 at *
      unfold moC at *
      go_wp2_with (refine arm_loadT infMo Tryz.underlying43 rfl (.tmp 1) rfl rfl _ _ _ rfl G.out rfl ?_)
      refine (CP.out).mono ?_
      rintro e w7 ⟨rfl, b7⟩
      replace B := Lib.hid (bnext B.out b7)
      replace G := Lib.hid (G.out.keeps b7)
      have bx := Lib.hid b7
      clear b7 CP c1
      go_wp2_with (refine arm_loadT infMo Tryz.underlying43 rfl (.tmp 1) rfl rfl _ _ _ rfl G.out rfl ?_)
      refine (CR.out _ bx.out).mono ?_
      rintro e w8 ⟨rfl, b8⟩
      replace B := Lib.hid (bnext B.out b8)
      replace G := Lib.hid (G.out.keeps b8)
      clear b8 CR bx
      have p1 : (s1.toList == s1.toList) = true := beq_self_eq_true _
      have p2 : (e1 == e1) = true := beq_self_eq_true _
      go_wp2_with fail
      go_ret
      exact ⟨rfl, B.out⟩
end Go.Proofs.YtbahfelnbofjjaaGreatDoor.ch
namespace Go.Proofs.YtbahfelnbofjjaaGreatDoor.ch
open Go.ChangeShapes Go.WideShapes Go.ChangeAt Go.RowKit Go.Joins dec
theorem cMo : Tryz.prog.cellsOf 43 = 2 := by kernel_rfl
section
variable {H : Type} {enc : TypeId × Value → H} {Z : World} {r : Reach} {b0' : Nat} {v : Value} {d : DataW H} {p : List MemPlace}
theorem open_mo (hv : Value.okWide Tryz.prog Z r b0' 43 v) (h : DataW.Trod enc Tryz.prog Z 0 (fun _ => true) true 43 v d p) (hk : Wk 43 d) :
  ∃ ts gs ta tc ga gc, v = .agg (moC ta ts.length tc ga gs.length gc) ∧ Tbs' Z ta ts.length tc ts ∧ Fes Z ga gs.length gc gs ∧ (∀ t ∈ ts, t.sz) ∧ ∀ x ∈ gs, x.nm.size ≤ 140737488355328 ∧ x.en.size ≤ 140737488355328 ∧ x.ty.of.size ≤ 140737488355328 ∧ x.bo.szs := by
 obtain ⟨cs, rfl, _⟩ := okWide_struct Tryz.underlying43 hv
 obtain ⟨fuel, hf⟩ := h
 obtain ⟨xs, n, hxs, hx, hl, hlen, hg⟩ := DataW.trod_struct Tryz.underlying43 hf
 match xs, hlen with
 | [y0, y1], _ =>
  obtain rfl : d = .agg [y0.1, y1.1] := congrArg Prod.fst hx
  have g0 := hg 0 _ rfl
  have g1 := hg 1 _ rfl
  have hl : cs.toList.length = 2 := hl.trans cMo
  obtain ⟨l⟩ := cs
  match l, hl with
  | [c0, c1], _ =>
   simp only [Value.cells] at g0 g1
   have k0 := wk_part Tryz.underlying43 hk (j := 0) (t := 40) rfl rfl
   have k1 := wk_part Tryz.underlying43 hk (j := 1) (t := 41) rfl rfl
   obtain ⟨ta, tc, ts, rfl, hT, _, hTq⟩ := tbs_of g0 k0
   obtain ⟨ga, gc, gs, rfl, hG, _, hGq, _⟩ := fes_of g1 k1
   exact ⟨ts, gs, ta, tc, ga, gc, rfl, hT, hG, fun t ht => (hTq t ht).sz, fun f hf => ⟨(hGq f hf).1.nm, (hGq f hf).1.en, (hGq f hf).1.of, (hGq f hf).1.bo⟩⟩
end
end Go.Proofs.YtbahfelnbofjjaaGreatDoor.ch
