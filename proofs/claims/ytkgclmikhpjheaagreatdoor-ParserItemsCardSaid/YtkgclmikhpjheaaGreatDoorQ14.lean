/-
  The reference's Same functions.
-/
import Derived.BigQuiet
import Derived.Test.YtkgclmikhpjheaaGreatDoorQ06
import Derived.Test.YtkgclmikhpjheaaGreatDoorQ13
namespace Go.Proofs.YtkgclmikhpjheaaGreatDoor.pa
open Go.RowKit dec

theorem yes_any (w : World) : Calls Tryz.prog 47 #[] w fun e w' => e = .returned (.agg (exC (booE 1) none 0 none 0)) ∧ Below w.heap.size w w' := by
  go_enter Tryz.func47, Tryz.ntmps47
  go_wp2_with fail
  refine ret_expr rfl _ _ w.heap.size _ _ rfl (Blk.new w _ _) rfl ?_
  exact ⟨rfl, balloc (b0 w) _⟩
theorem use_any (s : ByteArray) (w : World) : Calls Tryz.prog 46 #[.string s] w fun e w' => e = .returned (.agg (exC (feaE s) none 0 none 0)) ∧ Below w.heap.size w w' := by
  go_enter Tryz.func46, Tryz.ntmps46
  go_wp2_with fail
  refine ret_expr rfl _ _ w.heap.size _ _ rfl (Blk.new w _ _) rfl ?_
  exact ⟨rfl, balloc (b0 w) _⟩
theorem whole_any (n : Int) (w : World) : Calls Tryz.prog 49 #[.int .i64 n] w fun e w' => e = .returned (.agg (exC (litE 2 n []) none 0 none 0)) ∧ Below w.heap.size w w' := by
  go_enter Tryz.func49, Tryz.ntmps49
  go_wp2_with fail
  refine ret_expr rfl _ _ w.heap.size _ _ rfl (Blk.new w _ _) rfl ?_
  exact ⟨rfl, balloc (b0 w) _⟩
def twoE (op : ByteArray) (x y : Ex) : Ex := ⟨{ h0 with k := 7, op := op }, .cons x.h x.ar (.cons y.h y.ar .nil)⟩
set_option maxRecDepth 100000 in
set_option maxHeartbeats 1000000 in
theorem two_any (op : ByteArray) (x : Ex) (uax : Option Addr) (ucx : Nat) (aax : Option Addr) (acx : Nat) (y : Ex) (uay : Option Addr) (ucy : Nat) (aay : Option Addr) (acy : Nat) (C : Nat) (w : World) (E : Ec C w x uax aax) (E2 : Ec C w y uay aay) (hC : C ≤ w.heap.size) :
    Calls Tryz.prog 48 #[.string op, .agg (exC x uax ucx aax acx), .agg (exC y uay ucy aay acy)] w fun e w' =>
    ∃ aa ac, e = .returned (.agg (exC (twoE op x y) none 0 aa ac)) ∧ Ec C w' (twoE op x y) none aa ∧ Below w.heap.size w w' := by
  have EH := Lib.hid E
  have EH2 := Lib.hid E2
  clear E E2
  unfold twoE
  unfold exC
  go_enter Tryz.func48, Tryz.ntmps48
  go_wp2_with fail
  refine ret_expr rfl _ _ (w.heap.size + 2) _ _ rfl (by have := (Blk.new ((w.alloc (.cells (ex1 x uax ucx aax acx) 43)).alloc (.cells (ex1 y uay ucy aay acy) 43)) 43 (exC ⟨{ h0 with k := 7, op := op }, .cons x.h x.ar (.cons y.h y.ar .nil)⟩ none 0 (some ⟨w.heap.size + 3, 0, none⟩) 2)).past (.cells (ex2 x uax ucx aax acx y uay ucy aay acy) 43); rw [show ((w.alloc (.cells (ex1 x uax ucx aax acx) 43)).alloc (.cells (ex1 y uay ucy aay acy) 43)).heap.size = w.heap.size + 2 by simp] at this; exact this) rfl ?_
  refine ⟨some ⟨w.heap.size + 3, 0, none⟩, 2, rfl, ⟨.inl rfl, ?_⟩, balloc (balloc (balloc (balloc (b0 w) _) _) _) _⟩
  have hB := Blk.new (((w.alloc (.cells (ex1 x uax ucx aax acx) 43)).alloc (.cells (ex1 y uay ucy aay acy) 43)).alloc (.cells (exC ⟨{ h0 with k := 7, op := op }, .cons x.h x.ar (.cons y.h y.ar .nil)⟩ none 0 (some ⟨w.heap.size + 3, 0, none⟩) 2) 43)) 43 (ex2 x uax ucx aax acx y uay ucy aay acy)
  rw [show (((w.alloc (.cells (ex1 x uax ucx aax acx) 43)).alloc (.cells (ex1 y uay ucy aay acy) 43)).alloc (.cells (exC ⟨{ h0 with k := 7, op := op }, .cons x.h x.ar (.cons y.h y.ar .nil)⟩ none 0 (some ⟨w.heap.size + 3, 0, none⟩) 2) 43)).heap.size = w.heap.size + 3 by simp] at hB
  have hk := kp_of (C := C) (balloc (balloc (balloc (balloc (b0 w) (.cells (ex1 x uax ucx aax acx) 43)) (.cells (ex1 y uay ucy aay acy) 43)) (.cells (exC ⟨{ h0 with k := 7, op := op }, .cons x.h x.ar (.cons y.h y.ar .nil)⟩ none 0 (some ⟨w.heap.size + 3, 0, none⟩) 2) 43)) (.cells (ex2 x uax ucx aax acx y uay ucy aay acy) 43))
  exact as_2 hB (EH.out.kp hk) (EH2.out.kp hk) (by omega)
end Go.Proofs.YtkgclmikhpjheaaGreatDoor.pa
namespace Go.Proofs.YtkgclmikhpjheaaGreatDoor.pa
open Go.RowKit dec

def eS1 : ByteArray := ⟨#[49, 32, 43, 32, 50, 32, 42, 32, 97]⟩
def eS2 : ByteArray := ⟨#[97, 32, 100, 101, 102, 97, 117, 108, 116, 32, 98, 32, 100, 101, 102, 97, 117, 108, 116, 32, 49, 46, 53]⟩
def eS3 : ByteArray := ⟨#[99, 111, 117, 110, 116, 40, 116, 44, 32, 97, 108, 108, 32, 119, 104, 101, 114, 101, 32, 120, 41]⟩
def eS4 : ByteArray := ⟨#[97, 32, 60, 32, 98, 32, 60, 32, 99]⟩
def eS5 : ByteArray := ⟨#[99, 111, 117, 110, 116, 40, 116, 44, 32, 97, 108, 108]⟩
def eS6 : ByteArray := ⟨#[49, 32, 91, 109, 94, 57, 93]⟩
def eS7 : ByteArray := ⟨#[100, 101, 99, 32, 91, 101, 117, 114, 32, 42, 32, 104, 94, 45, 49, 93]⟩
def eS8 : ByteArray := ⟨#[116, 97, 98, 108, 101, 32, 116, 32, 111, 102, 32, 117, 32, 123, 32, 110, 58, 32, 105, 110, 116, 32, 125, 59, 32, 116, 97, 98, 108, 101, 32, 120, 32, 111, 102, 59, 32, 102, 101, 97, 116, 117, 114, 101, 32, 102, 32, 111, 102, 32, 117, 58, 32, 105, 110, 116, 32, 61, 32, 49, 59]⟩
def eX1 : Ex := twoE ⟨#[43]⟩ (litE 2 1 []) (twoE ⟨#[42]⟩ (litE 2 2 []) (feaE ⟨#[97]⟩))
def eXi : Ex := ⟨{ h0 with k := 9 }, .cons (feaE ⟨#[97]⟩).h (feaE ⟨#[97]⟩).ar (.cons (feaE ⟨#[98]⟩).h (feaE ⟨#[98]⟩).ar .nil)⟩
def eXh : Ex := litE 3 1500000 []
def eX2 : Ex := ⟨{ h0 with k := 9 }, .cons eXi.h eXi.ar (.cons eXh.h eXh.ar .nil)⟩
def eX3 : Ex := ⟨{ h0 with k := 5, op := ⟨#[99, 111, 117, 110, 116]⟩, tb := ⟨#[116]⟩, wk := 1 }, .cons (booE 1).h (booE 1).ar (.cons (fieE ⟨#[120]⟩).h (fieE ⟨#[120]⟩).ar .nil)⟩
def zX : Ex := ⟨h0, .nil⟩
def eT7 : Ty := ⟨3, [(⟨#[101, 117, 114]⟩, 1), (⟨#[104]⟩, -1)], .empty⟩
def eM8 : Mo := ⟨[⟨⟨#[116]⟩, ⟨#[117]⟩, [⟨⟨#[110]⟩, ⟨2, [], .empty⟩⟩], 0⟩], [⟨⟨#[102]⟩, ⟨#[117]⟩, ⟨2, [], .empty⟩, litE 2 1 []⟩]⟩
theorem ev1 : topR (α := Ex) ⟨h0, .nil⟩ exR eS1 = (eX1, 0, 0) := by kernel_rfl
theorem ev2 : topR (α := Ex) ⟨h0, .nil⟩ exR eS2 = (eX2, 0, 0) := by kernel_rfl
theorem ev3 : topR (α := Ex) ⟨h0, .nil⟩ exR eS3 = (eX3, 0, 0) := by kernel_rfl
theorem ev4 : topR (α := Ex) ⟨h0, .nil⟩ exR eS4 = (zX, 6, 90) := by kernel_rfl
theorem ev5 : topR (α := Ex) ⟨h0, .nil⟩ exR eS5 = (zX, 12, 90) := by kernel_rfl
theorem ev6 : topR (α := Ex) ⟨h0, .nil⟩ exR eS6 = (zX, 2, 70) := by kernel_rfl
theorem ev7 : topR (α := Ty) ⟨0, [], .empty⟩ typ eS7 = (eT7, 0, 0) := by kernel_rfl
theorem ev8 : modR eS8 = some (eM8, [(35, 90)]) := by kernel_rfl
theorem ek8 : tokE eS8 = 0 := by kernel_rfl
end Go.Proofs.YtkgclmikhpjheaaGreatDoor.pa
namespace Go.Proofs.YtkgclmikhpjheaaGreatDoor.pa
open Go.RowKit dec

set_option maxRecDepth 100000 in
set_option maxHeartbeats 1000000 in
theorem sameU_any (C D : Nat) (l : List un.Fa) (ua ub : Option Addr) (uc ud : Nat) (w : World) (hA : Us C w ua l) (hB : Us D w ub l) (hn : l.length ≤ 1048576) :
    Calls Tryz.prog 60 #[.slice ua l.length uc, .slice ub l.length ud] w (Say (.bool true) w) := by
  have h1 := Lib.hid hA
  have h2 := Lib.hid hB
  have hN := Lib.hid hn
  clear hA hB hn
  have qn : ((l.length : Int) != (l.length : Int)) = false := by simp
  go_enter Tryz.func60, Tryz.ntmps60
  go_wp2_with fail
  go_loopw [5] (fun i wr => ∃ j : Nat, i = .int .i64 (j : Nat) ∧ Hid (j ≤ l.length) ∧ Below w.heap.size w wr) (fun i _ => l.length - (intOf i).toNat)
  case atStart => exact ⟨0, rfl, Lib.hid (Nat.zero_le _), b0 w⟩
  case round =>
    obtain ⟨j, rfl, hj, hb⟩ := hrel
    by_cases hlt : j < l.length
    · have q1 : decide ((j : Int) < (l.length : Int)) = true := decide_eq_true (by omega)
      obtain ⟨bk, off, rfl, _, hC, _⟩ := (h1.out.kp (kp_of hb)).resolve_left (by omega)
      obtain ⟨bk2, off2, rfl, _, hD, _⟩ := (h2.out.kp (kp_of hb)).resolve_left (by omega)
      obtain ⟨c0, c1⟩ := hC j (by omega)
      obtain ⟨d0, d1⟩ := hD j (by omega)
      have f4 := Lib.hid (next_at (j := j) (by have := hN.out; omega))
      have hbh := Lib.hid hb
      have i1 : (j : Int) < (l.length : Int) := by omega
      clear hC hD h1 h2 hj hb
      generalize un.gt l j = x at *
      go_wp2_with fail
      go_region
      go_wp2_with fail
      refine ⟨⟨j + 1, congrArg (Value.int .i64) f4.out, Lib.hid hlt, hbh.out.drew⟩, less_at hlt f4.out⟩
    · have q1 : decide ((j : Int) < (l.length : Int)) = false := decide_eq_false (by omega)
      have hbh := Lib.hid hb
      clear h1 h2 hj hb
      go_wp2_with fail
      go_ret
      exact ⟨rfl, hbh.out⟩
theorem str_same (a : ByteArray) : (a.toList == a.toList) = true := by simp
set_option maxRecDepth 100000 in
set_option maxHeartbeats 1000000 in
theorem sameT_any (C D : Nat) (t : Ty) (ua ub : Option Addr) (uc ud : Nat) (w : World) (hA : Us C w ua t.un) (hB : Us D w ub t.un) (hn : t.un.length ≤ 1048576) :
    Calls Tryz.prog 22 #[.agg (tyC t ua uc), .agg (tyC t ub ud)] w (Say (.bool true) w) := by
  have bb := balloc (balloc (b0 w) (.cells (tyC t ua uc) 47)) (.cells (tyC t ub ud) 47)
  have C1 := Lib.hid (sameU_any C D t.un ua ub uc ud _ (hA.kp (kp_of bb)) (hB.kp (kp_of bb)) hn)
  have BB := Lib.hid bb
  clear hA hB bb hn
  unfold tyC at *
  obtain ⟨tk, tu, tof⟩ := t
  simp only at C1 BB ⊢
  go_enter Tryz.func22, Tryz.ntmps22
  go_wp2_with fail
  refine C1.out.mono ?_
  rintro e w1 ⟨rfl, b1⟩
  have B1 := Lib.hid (bnext BB.out b1)
  clear b1
  go_wp2_with fail
  go_ret
  exact ⟨rfl, B1.out⟩
end Go.Proofs.YtkgclmikhpjheaaGreatDoor.pa
namespace Go.Proofs.YtkgclmikhpjheaaGreatDoor
open Go.RowKit dec

/-- Short lists throughout. -/
def Fo.sm : Fo → Prop
  | .nil => True
  | .cons h ar r => h.un.length ≤ 1048576 ∧ ar.len ≤ 1048576 ∧ ar.sm ∧ r.sm
/-- An expression of a row. -/
def Fo.nth : Fo → Nat → Ex
  | .nil, _ => ⟨h0, .nil⟩
  | .cons h ar _, 0 => ⟨h, ar⟩
  | .cons _ _ r, j + 1 => r.nth j
def Fo.sz : Fo → Nat
  | .nil => 0
  | .cons _ ar r => ar.sz + r.sz + 1
theorem nth_sz : ∀ (F : Fo) (j : Nat), j < F.len → (F.nth j).ar.sz < F.sz
  | .nil, _, h => absurd h (Nat.not_lt_zero _)
  | .cons h ar r, 0, _ => by
    simp only [Fo.nth, Fo.sz]
    omega
  | .cons h ar r, j + 1, hj => by
    have := nth_sz r j (by simpa [Fo.len] using hj)
    simp only [Fo.nth, Fo.sz]
    omega
theorem nth_sm : ∀ (F : Fo) (j : Nat), F.sm → j < F.len → (F.nth j).h.un.length ≤ 1048576 ∧ (F.nth j).ar.len ≤ 1048576 ∧ (F.nth j).ar.sm
  | .nil, _, _, h => absurd h (Nat.not_lt_zero _)
  | .cons h ar r, 0, hs, _ => ⟨hs.1, hs.2.1, hs.2.2.1⟩
  | .cons h ar r, j + 1, hs, hj => nth_sm r j hs.2.2.2 (by simpa [Fo.len] using hj)
theorem fm_at {C : Nat} {w : World} : ∀ (F : Fo) (b off j : Nat), Fm C w F b off → j < F.len → ∃ ua uc aa ac, Nd w b (off + j * 12) (F.nth j).h ua uc aa (F.nth j).ar.len ac ∧ Ec C w (F.nth j) ua aa
  | .nil, _, _, _, _, h => absurd h (Nat.not_lt_zero _)
  | .cons h ar r, b, off, 0, hF, _ => by
    obtain ⟨⟨ua, uc, aa, ac, N, U, A⟩, R⟩ := hF
    exact ⟨ua, uc, aa, ac, by simpa [Fo.nth] using N, U, A⟩
  | .cons h ar r, b, off, j + 1, hF, hj => by
    have := fm_at r b (off + 12) j hF.2 (by simpa [Fo.len] using hj)
    rw [show off + (j + 1) * 12 = off + 12 + j * 12 by omega]
    exact this
theorem nd_range {w : World} {b off : Nat} {x : Ex} {ua : Option Addr} {uc : Nat} {aa : Option Addr} {ac : Nat} (N : Nd w b off x.h ua uc aa x.ar.len ac) : w.rangeAt b off (exC x ua uc aa ac).toList := by
  intro j v hv
  have hj : j < 12 := by
    have := (List.getElem?_eq_some_iff.1 hv).1
    simpa [exC] using this
  match j, hj with
  | 0, _ => simp [exC] at hv; rw [← hv]; exact N.c0
  | 1, _ => simp [exC] at hv; rw [← hv]; exact N.c1
  | 2, _ => simp [exC] at hv; rw [← hv]; exact N.c2
  | 3, _ => simp [exC] at hv; rw [← hv]; exact N.c3
  | 4, _ => simp [exC] at hv; rw [← hv]; exact N.c4
  | 5, _ => simp [exC] at hv; rw [← hv]; exact N.c5
  | 6, _ => simp [exC] at hv; rw [← hv]; exact N.c6
  | 7, _ => simp [exC] at hv; rw [← hv]; exact N.c7
  | 8, _ => simp [exC] at hv; rw [← hv]; exact N.c8
  | 9, _ => simp [exC] at hv; rw [← hv]; exact N.c9
  | 10, _ => simp [exC] at hv; rw [← hv]; exact N.c10
  | 11, _ => simp [exC] at hv; rw [← hv]; exact N.c11
end Go.Proofs.YtkgclmikhpjheaaGreatDoor
namespace Go.Proofs.YtkgclmikhpjheaaGreatDoor.pa
open Go.RowKit dec
theorem yield_loadM {T : TypeId} {n : Nat} {d : TypeDesc} (hi : (Tryz.prog.info? T).map (·.size) = some n) (hu : Tryz.prog.underlying T = some d) (hd : d.isRow = true) {oi : Oper} {a : Act} {w : World} (x : Operand) (ho : oi.op = .load T x)
    (b o : Nat) (cells : Array Value) (hx : a.eval x = .pointer (some ⟨b, o, none⟩)) (hR : w.rangeAt b o cells.toList) (hc : cells.size = n) : (execOp a.eval oi).run Tryz.prog w = .ok (.value (.agg cells)) w := by
  unfold execOp
  have := run_loadVar_mid (P := Tryz.prog) w b o T cells.toList d hR hu hd (by rw [Array.length_toList, hc]; exact hi)
  simp only [ho, hx, Instr.loadAt, Instr.sureAddr, Sem.run_bind, Sem.run_pure, Result.andThen_ok, this, Array.toArray_toList]
theorem range_keeps {w w' : World} {b o : Nat} {cs : List Value} (h : w.rangeAt b o cs) (hb : Below w.heap.size w w') : w'.rangeAt b o cs := fun j v hv => dec.keeps hb (h j v hv)
set_option maxRecDepth 100000 in
set_option maxHeartbeats 4000000 in
theorem sameE_step (n : Nat) (IH : ∀ (C D : Nat) (x : Ex) (ua aa ub ab : Option Addr) (uc ac ud ad : Nat) (w : World), x.ar.sz < n → x.h.un.length ≤ 1048576 → x.ar.len ≤ 1048576 → x.ar.sm → Ec C w x ua aa → Ec D w x ub ab → Calls Tryz.prog 21 #[.agg (exC x ua uc aa ac), .agg (exC x ub ud ab ad)] w (Say (.bool true) w))
    (C D : Nat) (x : Ex) (ua aa ub ab : Option Addr) (uc ac ud ad : Nat) (w : World) (hz : x.ar.sz = n) (hu : x.h.un.length ≤ 1048576) (hl : x.ar.len ≤ 1048576) (hs : x.ar.sm) (hA : Ec C w x ua aa) (hB : Ec D w x ub ab) :
    Calls Tryz.prog 21 #[.agg (exC x ua uc aa ac), .agg (exC x ub ud ab ad)] w (Say (.bool true) w) := by
  have bb := balloc (balloc (b0 w) (.cells (exC x ua uc aa ac) 43)) (.cells (exC x ub ud ab ad) 43)
  have A1 := Lib.hid hA
  have A2 := Lib.hid hB
  have C1 := Lib.hid (sameU_any C D x.h.un ua ub uc ud _ (hA.us.kp (kp_of bb)) (hB.us.kp (kp_of bb)) hu)
  have BB := Lib.hid bb
  have G1 := Lib.hid ((Blk.new w 43 (exC x ua uc aa ac)).past (.cells (exC x ub ud ab ad) 43))
  have G2 := Lib.hid (by have := Blk.new (w.alloc (.cells (exC x ua uc aa ac) 43)) 43 (exC x ub ud ab ad); simpa using this : Blk ((w.alloc (.cells (exC x ua uc aa ac) 43)).alloc (.cells (exC x ub ud ab ad) 43)) (w.heap.size + 1) 43 (exC x ub ud ab ad))
  have IH' := Lib.hid IH
  have HZ := Lib.hid hz
  have HL := Lib.hid hl
  have HS := Lib.hid hs
  clear hA hB bb hu hl hs hz IH
  unfold exC at *
  go_enter Tryz.func21, Tryz.ntmps21
  go_wp2_with fail
  refine C1.out.mono ?_
  rintro e w1 ⟨rfl, b1⟩
  have B1 := Lib.hid (bnext BB.out b1)
  replace G1 := Lib.hid (G1.out.below b1 G1.out.lt)
  replace G2 := Lib.hid (G2.out.below b1 G2.out.lt)
  clear b1 BB C1
  go_wp2_with fail
  go_loopw [5] (fun i wr => ∃ j : Nat, i = .int .i64 (j : Nat) ∧ Hid (j ≤ x.ar.len) ∧ Hid (Blk wr w.heap.size 43 #[.int .i64 x.h.k, .string x.h.op, .string x.h.nm, .string x.h.tb, .int .i64 x.h.vk, .int .i64 x.h.vn, .string x.h.vs, .slice ua x.h.un.length uc, .int .i64 x.h.pa, .int .i64 x.h.wk, .int .i64 x.h.ws, .slice aa x.ar.len ac]) ∧ Hid (Blk wr (w.heap.size + 1) 43 #[.int .i64 x.h.k, .string x.h.op, .string x.h.nm, .string x.h.tb, .int .i64 x.h.vk, .int .i64 x.h.vn, .string x.h.vs, .slice ub x.h.un.length ud, .int .i64 x.h.pa, .int .i64 x.h.wk, .int .i64 x.h.ws, .slice ab x.ar.len ad]) ∧ Hid (Below w.heap.size w wr)) (fun i _ => x.ar.len - (intOf i).toNat)
  case atStart => exact ⟨0, rfl, Lib.hid (Nat.zero_le _), G1, G2, B1⟩
  case round =>
    clear G1 G2 B1
    obtain ⟨j, rfl, hj, G1, G2, hb⟩ := hrel
    have g1 := G1.out.cell 11
    have g2 := G2.out.cell 11
    simp only [List.getElem?_toArray, List.getElem?_cons_zero, List.getElem?_cons_succ] at g1 g2
    by_cases hlt : j < x.ar.len
    · have q1 : decide ((j : Int) < (x.ar.len : Int)) = true := decide_eq_true (by omega)
      obtain ⟨bk, off, rfl, _, _, hF⟩ := (A1.out.kp (kp_of hb.out)).ar.resolve_left (by omega)
      obtain ⟨bk2, off2, rfl, _, _, hF2⟩ := (A2.out.kp (kp_of hb.out)).ar.resolve_left (by omega)
      obtain ⟨va, vc, wa, wc, N1, E1⟩ := fm_at _ _ _ j hF hlt
      obtain ⟨vb, vd, wb, wd, N2, E2⟩ := fm_at _ _ _ j hF2 hlt
      have R1 := nd_range N1
      have R2 := nd_range N2
      have f4 := Lib.hid (next_at (j := j) (by have := HL.out; omega))
      have hsz := Lib.hid (nth_sz x.ar j hlt)
      have hsm := Lib.hid (nth_sm x.ar j HS.out hlt)
      have i1 : (j : Int) < (x.ar.len : Int) := by omega
      replace E1 := Lib.hid E1
      replace E2 := Lib.hid E2
      clear hF hF2 N1 N2 A1 A2 hj
      generalize x.ar.nth j = y at *
      have SS := Lib.hid (show (Blk wr.drew w.heap.size 43 #[.int .i64 x.h.k, .string x.h.op, .string x.h.nm, .string x.h.tb, .int .i64 x.h.vk, .int .i64 x.h.vn, .string x.h.vs, .slice ua x.h.un.length uc, .int .i64 x.h.pa, .int .i64 x.h.wk, .int .i64 x.h.ws, .slice (some ⟨bk, off, none⟩) x.ar.len ac] ∧ Blk wr.drew (w.heap.size + 1) 43 #[.int .i64 x.h.k, .string x.h.op, .string x.h.nm, .string x.h.tb, .int .i64 x.h.vk, .int .i64 x.h.vn, .string x.h.vs, .slice ub x.h.un.length ud, .int .i64 x.h.pa, .int .i64 x.h.wk, .int .i64 x.h.ws, .slice (some ⟨bk2, off2, none⟩) x.ar.len ad]) ∧ wr.drew.rangeAt bk (off + j * 12) (exC y va vc wa wc).toList ∧ wr.drew.rangeAt bk2 (off2 + j * 12) (exC y vb vd wb wd).toList from ⟨⟨G1.out, G2.out⟩, R1, R2⟩)
      clear R1 R2
      go_wp2_with fail
      clear g1 g2
      refine wp_region_held_drew (S := fun w' => (Blk w' w.heap.size 43 #[.int .i64 x.h.k, .string x.h.op, .string x.h.nm, .string x.h.tb, .int .i64 x.h.vk, .int .i64 x.h.vn, .string x.h.vs, .slice ua x.h.un.length uc, .int .i64 x.h.pa, .int .i64 x.h.wk, .int .i64 x.h.ws, .slice (some ⟨bk, off, none⟩) x.ar.len ac] ∧ Blk w' (w.heap.size + 1) 43 #[.int .i64 x.h.k, .string x.h.op, .string x.h.nm, .string x.h.tb, .int .i64 x.h.vk, .int .i64 x.h.vn, .string x.h.vs, .slice ub x.h.un.length ud, .int .i64 x.h.pa, .int .i64 x.h.wk, .int .i64 x.h.ws, .slice (some ⟨bk2, off2, none⟩) x.ar.len ad]) ∧ w'.rangeAt bk (off + j * 12) (exC y va vc wa wc).toList ∧ w'.rangeAt bk2 (off2 + j * 12) (exC y vb vd wb wd).toList) (by kernel_rfl) SS.out (fun hH => ?_)
      refine held_take (i := 0) (d := 77) (v := ?_) rfl (by kernel_rfl) (by kernel_rfl) (by kernel_rfl) rfl (fun _ _ _ h => h) rfl hH (fun w' hS => ?_) ?_
      rotate_left
      · go_simp; first | done | with_reducible rfl
      simp only [List.set_cons_zero, List.set_cons_succ]
      refine held_take (i := 1) (d := 78) (v := ?_) rfl (by kernel_rfl) (by kernel_rfl) (by kernel_rfl) rfl (fun _ _ _ h => h) rfl hH (fun w' hS => ?_) ?_
      rotate_left
      · have e1 := hS.1.1.cell 11; simp only [List.getElem?_toArray, List.getElem?_cons_zero, List.getElem?_cons_succ] at e1; go_simp; first | done | with_reducible rfl
      simp only [List.set_cons_zero, List.set_cons_succ]
      refine held_take (i := 2) (d := 79) (v := ?_) rfl (by kernel_rfl) (by kernel_rfl) (by kernel_rfl) rfl (fun _ _ _ h => h) rfl hH (fun w' hS => ?_) ?_
      rotate_left
      · go_simp; first | done | with_reducible rfl
      simp only [List.set_cons_zero, List.set_cons_succ]
      refine held_take (i := 3) (d := 80) (v := ?_) rfl (by kernel_rfl) (by kernel_rfl) (by kernel_rfl) rfl (fun _ _ _ h => h) rfl hH (fun w' hS => ?_) ?_
      rotate_left
      · go_simp; first | done | with_reducible rfl
      simp only [List.set_cons_zero, List.set_cons_succ]
      refine held_take (i := 4) (d := 81) (v := .agg (exC y va vc wa wc)) rfl (by kernel_rfl) (by kernel_rfl) (by kernel_rfl) rfl (fun _ _ _ h => h) rfl hH (fun w' hS => yield_loadM infX Tryz.underlying43 rfl (.tmp 80) rfl _ _ _ rfl hS.2.1 rfl) ?_
      simp only [List.set_cons_zero, List.set_cons_succ]
      refine held_take (i := 5) (d := 82) (v := ?_) rfl (by kernel_rfl) (by kernel_rfl) (by kernel_rfl) rfl (fun _ _ _ h => h) rfl hH (fun w' hS => ?_) ?_
      rotate_left
      · go_simp; first | done | with_reducible rfl
      simp only [List.set_cons_zero, List.set_cons_succ]
      refine held_take (i := 6) (d := 83) (v := ?_) rfl (by kernel_rfl) (by kernel_rfl) (by kernel_rfl) rfl (fun _ _ _ h => h) rfl hH (fun w' hS => ?_) ?_
      rotate_left
      · have e1 := hS.1.2.cell 11; simp only [List.getElem?_toArray, List.getElem?_cons_zero, List.getElem?_cons_succ] at e1; go_simp; first | done | with_reducible rfl
      simp only [List.set_cons_zero, List.set_cons_succ]
      refine held_take (i := 7) (d := 84) (v := ?_) rfl (by kernel_rfl) (by kernel_rfl) (by kernel_rfl) rfl (fun _ _ _ h => h) rfl hH (fun w' hS => ?_) ?_
      rotate_left
      · go_simp; first | done | with_reducible rfl
      simp only [List.set_cons_zero, List.set_cons_succ]
      refine held_take (i := 8) (d := 85) (v := ?_) rfl (by kernel_rfl) (by kernel_rfl) (by kernel_rfl) rfl (fun _ _ _ h => h) rfl hH (fun w' hS => ?_) ?_
      rotate_left
      · go_simp; first | done | with_reducible rfl
      simp only [List.set_cons_zero, List.set_cons_succ]
      refine held_take (i := 9) (d := 86) (v := .agg (exC y vb vd wb wd)) rfl (by kernel_rfl) (by kernel_rfl) (by kernel_rfl) rfl (fun _ _ _ h => h) rfl hH (fun w' hS => yield_loadM infX Tryz.underlying43 rfl (.tmp 85) rfl _ _ _ rfl hS.2.2 rfl) ?_
      simp only [List.set_cons_zero, List.set_cons_succ]
      refine held_only (i := 10) rfl (by kernel_rfl) rfl (fun K hK => ?_)
      go_simp
      refine (IH'.out C D y va wa vb wb vc wc vd wd _ (by have := hsz.out; have := HZ.out; omega) hsm.out.1 hsm.out.2.1 hsm.out.2.2 (E1.out.kp (kp_of (b0 wr).drew)) (E2.out.kp (kp_of (b0 wr).drew))).mono ?_
      rintro e w5 ⟨rfl, b5⟩
      refine hK.out _ _ ⟨⟨hH.1.1.below b5 hH.1.1.lt, hH.1.2.below b5 hH.1.2.lt⟩, range_keeps hH.2.1 b5, range_keeps hH.2.2 b5⟩ (fun hH => ?_)
      clear hK K
      have G3 := Lib.hid hH.1.1
      have G4 := Lib.hid hH.1.2
      have B5 := Lib.hid (hb.out.drew.trans (b5.mono hb.out.size))
      clear b5 SS
      refine held_take (i := 11) (d := 88) (v := ?_) rfl (by kernel_rfl) (by kernel_rfl) (by kernel_rfl) rfl (fun _ _ _ h => h) rfl hH (fun w' hS => ?_) ?_
      rotate_left
      · go_simp; first | done | with_reducible rfl
      simp only [List.set_cons_zero, List.set_cons_succ]
      clear hH
      refine wpAnyH_done (by kernel_rfl) ?_ _
      go_wp2_with fail
      refine ⟨⟨j + 1, congrArg (Value.int .i64) f4.out, Lib.hid hlt, G3, G4, B5⟩, less_at hlt f4.out⟩
    · have q1 : decide ((j : Int) < (x.ar.len : Int)) = false := decide_eq_false (by omega)
      clear A1 A2 hj
      go_wp2_with fail
      go_ret
      exact ⟨rfl, hb.out⟩
theorem sameE_any (C D : Nat) (x : Ex) (ua aa ub ab : Option Addr) (uc ac ud ad : Nat) (w : World) (hu : x.h.un.length ≤ 1048576) (hl : x.ar.len ≤ 1048576) (hs : x.ar.sm) (hA : Ec C w x ua aa) (hB : Ec D w x ub ab) :
    Calls Tryz.prog 21 #[.agg (exC x ua uc aa ac), .agg (exC x ub ud ab ad)] w (Say (.bool true) w) := by
  have key : ∀ n, ∀ (C D : Nat) (x : Ex) (ua aa ub ab : Option Addr) (uc ac ud ad : Nat) (w : World), x.ar.sz < n → x.h.un.length ≤ 1048576 → x.ar.len ≤ 1048576 → x.ar.sm → Ec C w x ua aa → Ec D w x ub ab → Calls Tryz.prog 21 #[.agg (exC x ua uc aa ac), .agg (exC x ub ud ab ad)] w (Say (.bool true) w) := by
    intro n
    induction n with
    | zero => intro C D x ua aa ub ab uc ac ud ad w h; exact absurd h (Nat.not_lt_zero _)
    | succ n ih =>
      intro C D x ua aa ub ab uc ac ud ad w h hu hl hs hA hB
      exact sameE_step x.ar.sz (fun C' D' x' ua' aa' ub' ab' uc' ac' ud' ad' w' h' => ih C' D' x' ua' aa' ub' ab' uc' ac' ud' ad' w' (by omega)) C D x ua aa ub ab uc ac ud ad w rfl hu hl hs hA hB
  exact key _ C D x ua aa ub ab uc ac ud ad w (Nat.lt_succ_self _) hu hl hs hA hB
end Go.Proofs.YtkgclmikhpjheaaGreatDoor.pa
namespace Go.Proofs.YtkgclmikhpjheaaGreatDoor.pa
open Go.RowKit dec

set_option maxRecDepth 100000 in
set_option maxHeartbeats 1000000 in
theorem sameP_any (l : List Pb) (a b : Option Addr) (n c d : Nat) (w : World) (hA : pb.Sl w a n c l) (hB : pb.Sl w b n d l) (hn : n ≤ 1048576) :
    Calls Tryz.prog 15 #[.slice a n c, .slice b n d] w (Say (.bool true) w) := by
  have h1 := Lib.hid hA
  have h2 := Lib.hid hB
  have hN := Lib.hid hn
  clear hA hB hn
  have qn : ((n : Int) != (n : Int)) = false := by simp
  go_enter Tryz.func15, Tryz.ntmps15
  go_wp2_with fail
  go_loopw [5] (fun i wr => ∃ j : Nat, i = .int .i64 (j : Nat) ∧ Hid (j ≤ n) ∧ Below w.heap.size w wr) (fun i _ => n - (intOf i).toNat)
  case atStart => exact ⟨0, rfl, Lib.hid (Nat.zero_le _), b0 w⟩
  case round =>
    obtain ⟨j, rfl, hj, hb⟩ := hrel
    by_cases hlt : j < n
    · have q1 : decide ((j : Int) < (n : Int)) = true := decide_eq_true (by omega)
      have s1 := h1.out.keeps hb
      have s2 := h2.out.keeps hb
      have hln := s1.hn
      obtain ⟨bk, off, rfl, hC⟩ := s1.hat.resolve_left (by omega)
      obtain ⟨bk2, off2, rfl, hD⟩ := s2.hat.resolve_left (by omega)
      obtain ⟨c0, c1⟩ := hC j (by omega)
      obtain ⟨d0, d1⟩ := hD j (by omega)
      have f4 := Lib.hid (next_at (j := j) (by have := hN.out; omega))
      have hbh := Lib.hid hb
      have i1 : (j : Int) < (n : Int) := by omega
      clear hC hD h1 h2 hj hb s1 s2 hln
      generalize pb.gt l j = x at *
      go_wp2_with fail
      go_region
      go_wp2_with fail
      refine ⟨⟨j + 1, congrArg (Value.int .i64) f4.out, Lib.hid hlt, hbh.out.drew⟩, less_at hlt f4.out⟩
    · have q1 : decide ((j : Int) < (n : Int)) = false := decide_eq_false (by omega)
      have hbh := Lib.hid hb
      clear h1 h2 hj hb
      go_wp2_with fail
      go_ret
      exact ⟨rfl, hbh.out⟩
end Go.Proofs.YtkgclmikhpjheaaGreatDoor.pa
namespace Go.Proofs.YtkgclmikhpjheaaGreatDoor.pa
open Go.RowKit dec

theorem range3 {w : World} {b o : Nat} {x y z : Value} (h0 : w.cell? ⟨b, o, none⟩ = some x) (h1 : w.cell? ⟨b, o + 1, none⟩ = some y) (h2 : w.cell? ⟨b, o + 2, none⟩ = some z) : w.rangeAt b o [x, y, z] := by
  intro j v hv
  have hj : j < 3 := by
    have := (List.getElem?_eq_some_iff.1 hv).1
    simpa using this
  match j, hj with
  | 0, _ => simp at hv; rw [← hv]; exact h0
  | 1, _ => simp at hv; rw [← hv]; exact h1
  | 2, _ => simp at hv; rw [← hv]; exact h2
/-- The cells of the field j. -/
theorem fsA_at {C : Nat} {w : World} {a : Option Addr} {l : List Fi} (h : FsA C w a l) (j : Nat) (hj : j < l.length) : ∃ bk off ua uc, a = some ⟨bk, off, none⟩ ∧ w.cell? ⟨bk, off + j * 4, none⟩ = some (.string l[j].nm) ∧ w.rangeAt bk (off + j * 4 + 1) (tyC l[j].ty ua uc).toList ∧ Us C w ua l[j].ty.un := by
  rcases h with h | ⟨b, off, cs, e, _, _, hl, hc, hq⟩
  · omega
  obtain ⟨ua, uc, e2, U⟩ := hq j (by omega) hj
  have k : ∀ i (hi : i < 4) u, [Value.string l[j].nm, .int .i64 l[j].ty.k, .slice ua l[j].ty.un.length uc, .string l[j].ty.of][i]? = some u → w.cell? ⟨b, off + j * 4 + i, none⟩ = some u := fun i hi u hu => by
    obtain ⟨v, h1, h2⟩ := hc j i (by omega) hi
    rw [e2, hu] at h1
    cases h1
    rw [Nat.add_assoc]
    exact h2
  exact ⟨b, off, ua, uc, e, k 0 (by decide) _ rfl, range3 (k 1 (by decide) _ rfl) (k 2 (by decide) _ rfl) (k 3 (by decide) _ rfl), U⟩
set_option maxRecDepth 100000 in
set_option maxHeartbeats 4000000 in
theorem sameTb_any (C D : Nat) (t : Tb) (aa ab : Option Addr) (ac ad : Nat) (w : World) (hA : FsA C w aa t.fs) (hB : FsA D w ab t.fs) (hn : t.fs.length ≤ 1048576) (hu : ∀ f ∈ t.fs, f.ty.un.length ≤ 1048576) :
    Calls Tryz.prog 45 #[.agg #[.string t.nm, .string t.en, .slice aa t.fs.length ac, .int .i64 t.kp], .agg #[.string t.nm, .string t.en, .slice ab t.fs.length ad, .int .i64 t.kp]] w (Say (.bool true) w) := by
  have A1 := Lib.hid hA
  have A2 := Lib.hid hB
  have BB := Lib.hid (balloc (balloc (b0 w) (.cells #[.string t.nm, .string t.en, .slice aa t.fs.length ac, .int .i64 t.kp] 93)) (.cells #[.string t.nm, .string t.en, .slice ab t.fs.length ad, .int .i64 t.kp] 93))
  have G1 := Lib.hid ((Blk.new w 93 #[.string t.nm, .string t.en, .slice aa t.fs.length ac, .int .i64 t.kp]).past (.cells #[.string t.nm, .string t.en, .slice ab t.fs.length ad, .int .i64 t.kp] 93))
  have G2 := Lib.hid (by have := Blk.new (w.alloc (.cells #[.string t.nm, .string t.en, .slice aa t.fs.length ac, .int .i64 t.kp] 93)) 93 #[.string t.nm, .string t.en, .slice ab t.fs.length ad, .int .i64 t.kp]; simpa using this : Blk ((w.alloc (.cells #[.string t.nm, .string t.en, .slice aa t.fs.length ac, .int .i64 t.kp] 93)).alloc (.cells #[.string t.nm, .string t.en, .slice ab t.fs.length ad, .int .i64 t.kp] 93)) (w.heap.size + 1) 93 #[.string t.nm, .string t.en, .slice ab t.fs.length ad, .int .i64 t.kp])
  have HL := Lib.hid hn
  have HU := Lib.hid hu
  clear hA hB hn hu
  go_enter Tryz.func45, Tryz.ntmps45
  go_wp2_with fail
  go_loopw [5] (fun i wr => ∃ j : Nat, i = .int .i64 (j : Nat) ∧ Hid (j ≤ t.fs.length) ∧ Hid (Blk wr w.heap.size 93 #[.string t.nm, .string t.en, .slice aa t.fs.length ac, .int .i64 t.kp]) ∧ Hid (Blk wr (w.heap.size + 1) 93 #[.string t.nm, .string t.en, .slice ab t.fs.length ad, .int .i64 t.kp]) ∧ Hid (Below w.heap.size w wr)) (fun i _ => t.fs.length - (intOf i).toNat)
  case atStart => exact ⟨0, rfl, Lib.hid (Nat.zero_le _), G1, G2, BB⟩
  case round =>
    clear G1 G2 BB
    obtain ⟨j, rfl, hj, G1, G2, hb⟩ := hrel
    have g1 := G1.out.cell 2
    have g2 := G2.out.cell 2
    simp only [List.getElem?_toArray, List.getElem?_cons_zero, List.getElem?_cons_succ] at g1 g2
    by_cases hlt : j < t.fs.length
    · have q1 : decide ((j : Int) < (t.fs.length : Int)) = true := decide_eq_true (by omega)
      have f4 := Lib.hid (next_at (j := j) (by have := HL.out; omega))
      have hsm := Lib.hid (HU.out t.fs[j] (List.getElem_mem hlt))
      have i1 : (j : Int) < (t.fs.length : Int) := by omega
      have A3 := FsA.kpT trivial trivial A1.out (kp_of (C := C) hb.out)
      have A4 := FsA.kpT trivial trivial A2.out (kp_of (C := D) hb.out)
      obtain ⟨bk, off, va, vc, rfl, N1, R1, U1⟩ := fsA_at A3 j hlt
      obtain ⟨bk2, off2, vb, vd, rfl, N2, R2, U2⟩ := fsA_at A4 j hlt
      replace U1 := Lib.hid U1
      replace U2 := Lib.hid U2
      clear A1 A2 A3 A4 hj
      generalize t.fs[j] = f at *
      have SS := Lib.hid (show (Blk wr.drew w.heap.size 93 #[.string t.nm, .string t.en, .slice (some ⟨bk, off, none⟩) t.fs.length ac, .int .i64 t.kp] ∧ Blk wr.drew (w.heap.size + 1) 93 #[.string t.nm, .string t.en, .slice (some ⟨bk2, off2, none⟩) t.fs.length ad, .int .i64 t.kp]) ∧ (wr.drew.cell? ⟨bk, off + j * 4, none⟩ = some (.string f.nm) ∧ wr.drew.cell? ⟨bk2, off2 + j * 4, none⟩ = some (.string f.nm)) ∧ wr.drew.rangeAt bk (off + j * 4 + 1) (tyC f.ty va vc).toList ∧ wr.drew.rangeAt bk2 (off2 + j * 4 + 1) (tyC f.ty vb vd).toList from ⟨⟨G1.out, G2.out⟩, ⟨N1, N2⟩, R1, R2⟩)
      clear R1 R2 N1 N2
      go_wp2_with fail
      clear g1 g2
      refine wp_region_held_drew (S := fun w' => (Blk w' w.heap.size 93 #[.string t.nm, .string t.en, .slice (some ⟨bk, off, none⟩) t.fs.length ac, .int .i64 t.kp] ∧ Blk w' (w.heap.size + 1) 93 #[.string t.nm, .string t.en, .slice (some ⟨bk2, off2, none⟩) t.fs.length ad, .int .i64 t.kp]) ∧ (w'.cell? ⟨bk, off + j * 4, none⟩ = some (.string f.nm) ∧ w'.cell? ⟨bk2, off2 + j * 4, none⟩ = some (.string f.nm)) ∧ w'.rangeAt bk (off + j * 4 + 1) (tyC f.ty va vc).toList ∧ w'.rangeAt bk2 (off2 + j * 4 + 1) (tyC f.ty vb vd).toList) (by kernel_rfl) SS.out (fun hH => ?_)
      refine held_take (i := 0) (d := 41) (v := ?_) rfl (by kernel_rfl) (by kernel_rfl) (by kernel_rfl) rfl (fun _ _ _ h => h) rfl hH (fun w' hS => ?_) ?_
      rotate_left
      · go_simp; first | done | with_reducible rfl
      simp only [List.set_cons_zero, List.set_cons_succ]
      refine held_take (i := 1) (d := 42) (v := ?_) rfl (by kernel_rfl) (by kernel_rfl) (by kernel_rfl) rfl (fun _ _ _ h => h) rfl hH (fun w' hS => ?_) ?_
      rotate_left
      · have e1 := hS.1.1.cell 2; simp only [List.getElem?_toArray, List.getElem?_cons_zero, List.getElem?_cons_succ] at e1; go_simp; first | done | with_reducible rfl
      simp only [List.set_cons_zero, List.set_cons_succ]
      refine held_take (i := 2) (d := 43) (v := ?_) rfl (by kernel_rfl) (by kernel_rfl) (by kernel_rfl) rfl (fun _ _ _ h => h) rfl hH (fun w' hS => ?_) ?_
      rotate_left
      · go_simp; first | done | with_reducible rfl
      simp only [List.set_cons_zero, List.set_cons_succ]
      refine held_take (i := 3) (d := 44) (v := ?_) rfl (by kernel_rfl) (by kernel_rfl) (by kernel_rfl) rfl (fun _ _ _ h => h) rfl hH (fun w' hS => ?_) ?_
      rotate_left
      · go_simp; first | done | with_reducible rfl
      simp only [List.set_cons_zero, List.set_cons_succ]
      refine held_take (i := 4) (d := 45) (v := ?_) rfl (by kernel_rfl) (by kernel_rfl) (by kernel_rfl) rfl (fun _ _ _ h => h) rfl hH (fun w' hS => ?_) ?_
      rotate_left
      · go_simp; first | done | with_reducible rfl
      simp only [List.set_cons_zero, List.set_cons_succ]
      refine held_take (i := 5) (d := 46) (v := ?_) rfl (by kernel_rfl) (by kernel_rfl) (by kernel_rfl) rfl (fun _ _ _ h => h) rfl hH (fun w' hS => ?_) ?_
      rotate_left
      · have e1 := hS.2.1.1; go_simp; first | done | with_reducible rfl
      simp only [List.set_cons_zero, List.set_cons_succ]
      refine held_take (i := 6) (d := 47) (v := ?_) rfl (by kernel_rfl) (by kernel_rfl) (by kernel_rfl) rfl (fun _ _ _ h => h) rfl hH (fun w' hS => ?_) ?_
      rotate_left
      · go_simp; first | done | with_reducible rfl
      simp only [List.set_cons_zero, List.set_cons_succ]
      refine held_take (i := 7) (d := 48) (v := ?_) rfl (by kernel_rfl) (by kernel_rfl) (by kernel_rfl) rfl (fun _ _ _ h => h) rfl hH (fun w' hS => ?_) ?_
      rotate_left
      · have e1 := hS.1.2.cell 2; simp only [List.getElem?_toArray, List.getElem?_cons_zero, List.getElem?_cons_succ] at e1; go_simp; first | done | with_reducible rfl
      simp only [List.set_cons_zero, List.set_cons_succ]
      refine held_take (i := 8) (d := 49) (v := ?_) rfl (by kernel_rfl) (by kernel_rfl) (by kernel_rfl) rfl (fun _ _ _ h => h) rfl hH (fun w' hS => ?_) ?_
      rotate_left
      · go_simp; first | done | with_reducible rfl
      simp only [List.set_cons_zero, List.set_cons_succ]
      refine held_take (i := 9) (d := 50) (v := ?_) rfl (by kernel_rfl) (by kernel_rfl) (by kernel_rfl) rfl (fun _ _ _ h => h) rfl hH (fun w' hS => ?_) ?_
      rotate_left
      · go_simp; first | done | with_reducible rfl
      simp only [List.set_cons_zero, List.set_cons_succ]
      refine held_take (i := 10) (d := 51) (v := ?_) rfl (by kernel_rfl) (by kernel_rfl) (by kernel_rfl) rfl (fun _ _ _ h => h) rfl hH (fun w' hS => ?_) ?_
      rotate_left
      · go_simp; first | done | with_reducible rfl
      simp only [List.set_cons_zero, List.set_cons_succ]
      refine held_take (i := 11) (d := 52) (v := ?_) rfl (by kernel_rfl) (by kernel_rfl) (by kernel_rfl) rfl (fun _ _ _ h => h) rfl hH (fun w' hS => ?_) ?_
      rotate_left
      · have e1 := hS.2.1.2; go_simp; first | done | with_reducible rfl
      simp only [List.set_cons_zero, List.set_cons_succ]
      refine held_take (i := 12) (d := 53) (v := ?_) rfl (by kernel_rfl) (by kernel_rfl) (by kernel_rfl) rfl (fun _ _ _ h => h) rfl hH (fun w' hS => ?_) ?_
      rotate_left
      · go_simp; first | done | with_reducible rfl
      simp only [List.set_cons_zero, List.set_cons_succ]
      refine held_take (i := 13) (d := 54) (v := ?_) rfl (by kernel_rfl) (by kernel_rfl) (by kernel_rfl) rfl (fun _ _ _ h => h) rfl hH (fun w' hS => ?_) ?_
      rotate_left
      · go_simp; first | done | with_reducible rfl
      simp only [List.set_cons_zero, List.set_cons_succ]
      refine held_take (i := 14) (d := 55) (v := ?_) rfl (by kernel_rfl) (by kernel_rfl) (by kernel_rfl) rfl (fun _ _ _ h => h) rfl hH (fun w' hS => ?_) ?_
      rotate_left
      · go_simp; first | done | with_reducible rfl
      simp only [List.set_cons_zero, List.set_cons_succ]
      refine held_take (i := 15) (d := 56) (v := ?_) rfl (by kernel_rfl) (by kernel_rfl) (by kernel_rfl) rfl (fun _ _ _ h => h) rfl hH (fun w' hS => ?_) ?_
      rotate_left
      · have e1 := hS.1.1.cell 2; simp only [List.getElem?_toArray, List.getElem?_cons_zero, List.getElem?_cons_succ] at e1; go_simp; first | done | with_reducible rfl
      simp only [List.set_cons_zero, List.set_cons_succ]
      refine held_take (i := 16) (d := 57) (v := ?_) rfl (by kernel_rfl) (by kernel_rfl) (by kernel_rfl) rfl (fun _ _ _ h => h) rfl hH (fun w' hS => ?_) ?_
      rotate_left
      · go_simp; first | done | with_reducible rfl
      simp only [List.set_cons_zero, List.set_cons_succ]
      refine held_take (i := 17) (d := 58) (v := ?_) rfl (by kernel_rfl) (by kernel_rfl) (by kernel_rfl) rfl (fun _ _ _ h => h) rfl hH (fun w' hS => ?_) ?_
      rotate_left
      · go_simp; first | done | with_reducible rfl
      simp only [List.set_cons_zero, List.set_cons_succ]
      refine held_take (i := 18) (d := 59) (v := ?_) rfl (by kernel_rfl) (by kernel_rfl) (by kernel_rfl) rfl (fun _ _ _ h => h) rfl hH (fun w' hS => ?_) ?_
      rotate_left
      · go_simp; first | done | with_reducible rfl
      simp only [List.set_cons_zero, List.set_cons_succ]
      refine held_take (i := 19) (d := 60) (v := .agg (tyC f.ty va vc)) rfl (by kernel_rfl) (by kernel_rfl) (by kernel_rfl) rfl (fun _ _ _ h => h) rfl hH (fun w' hS => yield_loadM infTy Tryz.underlying47 rfl (.tmp 59) rfl _ _ _ rfl hS.2.2.1 rfl) ?_
      simp only [List.set_cons_zero, List.set_cons_succ]
      refine held_take (i := 20) (d := 61) (v := ?_) rfl (by kernel_rfl) (by kernel_rfl) (by kernel_rfl) rfl (fun _ _ _ h => h) rfl hH (fun w' hS => ?_) ?_
      rotate_left
      · go_simp; first | done | with_reducible rfl
      simp only [List.set_cons_zero, List.set_cons_succ]
      refine held_take (i := 21) (d := 62) (v := ?_) rfl (by kernel_rfl) (by kernel_rfl) (by kernel_rfl) rfl (fun _ _ _ h => h) rfl hH (fun w' hS => ?_) ?_
      rotate_left
      · have e1 := hS.1.2.cell 2; simp only [List.getElem?_toArray, List.getElem?_cons_zero, List.getElem?_cons_succ] at e1; go_simp; first | done | with_reducible rfl
      simp only [List.set_cons_zero, List.set_cons_succ]
      refine held_take (i := 22) (d := 63) (v := ?_) rfl (by kernel_rfl) (by kernel_rfl) (by kernel_rfl) rfl (fun _ _ _ h => h) rfl hH (fun w' hS => ?_) ?_
      rotate_left
      · go_simp; first | done | with_reducible rfl
      simp only [List.set_cons_zero, List.set_cons_succ]
      refine held_take (i := 23) (d := 64) (v := ?_) rfl (by kernel_rfl) (by kernel_rfl) (by kernel_rfl) rfl (fun _ _ _ h => h) rfl hH (fun w' hS => ?_) ?_
      rotate_left
      · go_simp; first | done | with_reducible rfl
      simp only [List.set_cons_zero, List.set_cons_succ]
      refine held_take (i := 24) (d := 65) (v := ?_) rfl (by kernel_rfl) (by kernel_rfl) (by kernel_rfl) rfl (fun _ _ _ h => h) rfl hH (fun w' hS => ?_) ?_
      rotate_left
      · go_simp; first | done | with_reducible rfl
      simp only [List.set_cons_zero, List.set_cons_succ]
      refine held_take (i := 25) (d := 66) (v := .agg (tyC f.ty vb vd)) rfl (by kernel_rfl) (by kernel_rfl) (by kernel_rfl) rfl (fun _ _ _ h => h) rfl hH (fun w' hS => yield_loadM infTy Tryz.underlying47 rfl (.tmp 65) rfl _ _ _ rfl hS.2.2.2 rfl) ?_
      simp only [List.set_cons_zero, List.set_cons_succ]
      refine held_only (i := 26) rfl (by kernel_rfl) rfl (fun K hK => ?_)
      go_simp
      refine (sameT_any C D f.ty va vb vc vd _ (U1.out.kp (kp_of (b0 wr).drew)) (U2.out.kp (kp_of (b0 wr).drew)) hsm.out).mono ?_
      rintro e w5 ⟨rfl, b5⟩
      refine hK.out _ _ ⟨⟨hH.1.1.below b5 hH.1.1.lt, hH.1.2.below b5 hH.1.2.lt⟩, ⟨dec.keeps b5 hH.2.1.1, dec.keeps b5 hH.2.1.2⟩, range_keeps hH.2.2.1 b5, range_keeps hH.2.2.2 b5⟩ (fun hH => ?_)
      clear hK K
      have G3 := Lib.hid hH.1.1
      have G4 := Lib.hid hH.1.2
      have B5 := Lib.hid (hb.out.drew.trans (b5.mono hb.out.size))
      clear b5 SS
      refine held_take (i := 27) (d := 68) (v := ?_) rfl (by kernel_rfl) (by kernel_rfl) (by kernel_rfl) rfl (fun _ _ _ h => h) rfl hH (fun w' hS => ?_) ?_
      rotate_left
      · go_simp; first | done | with_reducible rfl
      simp only [List.set_cons_zero, List.set_cons_succ]
      refine held_take (i := 28) (d := 69) (v := ?_) rfl (by kernel_rfl) (by kernel_rfl) (by kernel_rfl) rfl (fun _ _ _ h => h) rfl hH (fun w' hS => ?_) ?_
      rotate_left
      · go_simp; first | done | with_reducible rfl
      simp only [List.set_cons_zero, List.set_cons_succ]
      clear hH
      refine wpAnyH_done (by kernel_rfl) ?_ _
      go_wp2_with fail
      refine ⟨⟨j + 1, congrArg (Value.int .i64) f4.out, Lib.hid hlt, G3, G4, B5⟩, less_at hlt f4.out⟩
    · have q1 : decide ((j : Int) < (t.fs.length : Int)) = false := decide_eq_false (by omega)
      clear A1 A2 hj
      go_wp2_with fail
      go_ret
      exact ⟨rfl, hb.out⟩
end Go.Proofs.YtkgclmikhpjheaaGreatDoor.pa
namespace Go.Proofs.YtkgclmikhpjheaaGreatDoor
open Go.RowKit dec

def Ex.sm (x : Ex) : Prop := x.h.un.length ≤ 1048576 ∧ x.ar.len ≤ 1048576 ∧ x.ar.sm
theorem sm1 {h : Hd} {x : Ex} (hu : h.un = []) (hx : x.sm) : Ex.sm ⟨h, .cons x.h x.ar .nil⟩ := by
  refine ⟨by rw [hu]; decide, by simp [Fo.len], hx.1, hx.2.1, hx.2.2, trivial⟩
theorem sm2 {h : Hd} {x y : Ex} (hu : h.un = []) (hx : x.sm) (hy : y.sm) : Ex.sm ⟨h, .cons x.h x.ar (.cons y.h y.ar .nil)⟩ := by
  refine ⟨by rw [hu]; decide, by simp [Fo.len], hx.1, hx.2.1, hx.2.2, hy.1, hy.2.1, hy.2.2, trivial⟩
theorem sm3 {h : Hd} {x y z : Ex} (hu : h.un = []) (hx : x.sm) (hy : y.sm) (hz : z.sm) : Ex.sm ⟨h, .cons x.h x.ar (.cons y.h y.ar (.cons z.h z.ar .nil))⟩ := by
  refine ⟨by rw [hu]; decide, by simp [Fo.len], hx.1, hx.2.1, hx.2.2, hy.1, hy.2.1, hy.2.2, hz.1, hz.2.1, hz.2.2, trivial⟩
theorem sm0 {h : Hd} (hu : h.un.length ≤ 1048576) : Ex.sm ⟨h, .nil⟩ := ⟨hu, by simp [Fo.len], trivial⟩
theorem binE_sm {op : ByteArray} {x y : Ex} (hx : x.sm) (hy : y.sm) : (binE op x y).sm := by
  unfold binE
  split
  · exact sm2 rfl hx hy
  · exact sm2 rfl hx hy
theorem nL_four (u : List un.Fa) : (un.nL u).length ≤ 4 := by
  unfold un.nL
  split
  · rename_i h
    exact (un.nE_zero h).2.2
  · exact Nat.zero_le _
theorem uni_sm {l r : List Tk} {u : List un.Fa} (h : uni l = .ok u r) : u.length ≤ 1048576 := by
  unfold uni at h
  split at h
  · obtain ⟨v, q, h1, h2⟩ := bind_ok h
    obtain ⟨_, q', h3, h4⟩ := bind_ok h2
    split at h4
    · cases h4
      have := nL_four v
      omega
    · cases h4
  · cases h
    exact Nat.zero_le _
theorem typ_sm {l r : List Tk} {t : Ty} (h : typ l = .ok t r) : t.un.length ≤ 1048576 := by
  unfold typ at h
  split at h
  · cases h; exact Nat.zero_le _
  split at h
  · cases h; exact Nat.zero_le _
  split at h
  · obtain ⟨u, q, h1, h2⟩ := bind_ok h
    cases h2; exact Nat.zero_le _
  split at h
  · obtain ⟨u, q, h1, h2⟩ := bind_ok h
    cases h2; exact uni_sm h1
  split at h
  · obtain ⟨u, q, h1, h2⟩ := bind_ok h
    cases h2; exact uni_sm h1
  · cases h
def Md.sm : Md → Prop
  | .tl _ _ y => y.sm
  | _ => True
theorem boo_sm (n : Int) : (booE n).sm := sm0 (by simp [h0])
theorem pz_sm : ∀ (f : Nat) (i : Bool) (m : Md) (l : List Tk) (x : Ex) (r : List Tk), m.sm → pz f i m l = .ok x r → x.sm := by
  intro f
  induction f with
  | zero => intro i m l x r _ h; cases h
  | succ f ih =>
    intro i m l x r hm h
    cases m with
    | ex =>
      simp only [pz] at h
      split at h
      · obtain ⟨a, q1, h1, h⟩ := bind_ok h
        obtain ⟨_, q2, h2, h⟩ := bind_ok h
        obtain ⟨b, q3, h3, h⟩ := bind_ok h
        obtain ⟨_, q4, h4, h⟩ := bind_ok h
        obtain ⟨c, q5, h5, h⟩ := bind_ok h
        cases h
        exact sm3 rfl (ih _ _ _ _ _ (by exact trivial) h1) (ih _ _ _ _ _ (by exact trivial) h3) (ih _ _ _ _ _ (by exact trivial) h5)
      · exact ih _ _ _ _ _ (by exact trivial) h
    | op least =>
      simp only [pz] at h
      split at h
      · obtain ⟨a, q1, h1, h⟩ := bind_ok h
        exact ih _ (.tl _ _ _) _ _ _ (sm1 rfl (ih _ _ _ _ _ (by exact trivial) h1)) h
      · obtain ⟨a, q1, h1, h⟩ := bind_ok h
        exact ih _ (.tl _ _ _) _ _ _ (ih _ _ _ _ _ (by exact trivial) h1) h
    | tl least n y =>
      simp only [pz] at h
      split at h
      · cases h
        exact hm
      · split at h
        · exact ih _ (.tl _ (n - 1) y) _ _ _ (by exact hm) h
        · obtain ⟨a, q1, h1, h⟩ := bind_ok h
          exact ih _ (.tl _ _ _) _ _ _ (binE_sm hm (ih _ _ _ _ _ (by exact trivial) h1)) h
    | ng =>
      simp only [pz] at h
      split at h
      · obtain ⟨a, q1, h1, h⟩ := bind_ok h
        cases h
        exact sm1 rfl (ih _ _ _ _ _ (by exact trivial) h1)
      · exact ih _ _ _ _ _ (by exact trivial) h
    | pa =>
      simp only [pz] at h
      obtain ⟨_, q1, h1, h⟩ := bind_ok h
      obtain ⟨a, q2, h2, h⟩ := bind_ok h
      obtain ⟨_, q3, h3, h⟩ := bind_ok h
      cases h
      exact ih _ _ _ _ _ (by exact trivial) h2
    | rf =>
      simp only [pz] at h
      obtain ⟨n, q1, h1, h⟩ := bind_ok h
      split at h
      · obtain ⟨a, q2, h2, h⟩ := bind_ok h
        cases h
        exact sm1 rfl (ih _ _ _ _ _ (by exact trivial) h2)
      · cases h
        exact sm0 (by simp [h0])
    | ag =>
      simp only [pz] at h
      obtain ⟨op, q1, h1, h⟩ := bind_ok h
      obtain ⟨_, q2, h2, h⟩ := bind_ok h
      obtain ⟨t, q3, h3, h⟩ := bind_ok h
      obtain ⟨_, q4, h4, h⟩ := bind_ok h
      obtain ⟨a, q5, h5, h⟩ := bind_ok h
      have g5 : a.sm := by
        split at h5
        · cases h5; exact boo_sm 1
        · obtain ⟨_, p1, k1, h5⟩ := bind_ok h5
          obtain ⟨_, p2, k2, h5⟩ := bind_ok h5
          cases h5
          exact ih _ _ _ _ _ (by exact trivial) k1
      obtain ⟨n, q6, h6, h⟩ := bind_ok h
      obtain ⟨w, q7, h7, h⟩ := bind_ok h
      obtain ⟨b, q8, h8, h⟩ := bind_ok h
      have g8 : b.sm := by
        split at h8
        · exact ih _ _ _ _ _ (by exact trivial) h8
        · cases h8; exact boo_sm 1
      obtain ⟨_, q9, h9, h⟩ := bind_ok h
      cases h
      exact sm2 rfl g5 g8
    | pr =>
      simp only [pz] at h
      split at h
      · obtain ⟨n, q1, h1, h⟩ := bind_ok h
        obtain ⟨u, q2, h2, h⟩ := bind_ok h
        cases h
        exact sm0 (uni_sm h2)
      split at h
      · obtain ⟨n, q1, h1, h⟩ := bind_ok h
        obtain ⟨u, q2, h2, h⟩ := bind_ok h
        cases h
        exact sm0 (uni_sm h2)
      split at h
      · obtain ⟨n, q1, h1, h⟩ := bind_ok h
        cases h
        exact sm0 (by simp [h0])
      split at h
      · cases h; exact boo_sm 1
      split at h
      · cases h; exact boo_sm 0
      split at h
      · obtain ⟨n, q, h1, h2⟩ := bind_ok h
        obtain ⟨s, q', h3, h4⟩ := bind_ok h2
        split at h4
        · cases h4
          exact sm0 (by simp [h0])
        · cases h4
      split at h
      · obtain ⟨n, q1, h1, h⟩ := bind_ok h
        cases h
        exact sm1 rfl (ih _ _ _ _ _ (by exact trivial) h1)
      split at h
      · exact ih _ _ _ _ _ (by exact trivial) h
      split at h
      · obtain ⟨n, q1, h1, h⟩ := bind_ok h
        cases h
        exact sm0 (by simp [h0])
      split at h
      · exact ih _ _ _ _ _ (by exact trivial) h
      · exact ih _ _ _ _ _ (by exact trivial) h
end Go.Proofs.YtkgclmikhpjheaaGreatDoor
namespace Go.Proofs.YtkgclmikhpjheaaGreatDoor.pa
open Go.RowKit dec

theorem row_at {α : Type} {T : TypeId} {k C : Nat} {Q : World → List Value → α → Prop} {w : World} {a : Option Addr} {l : List α} (h : RowAt T k C Q w a l) (hk : ∀ c x, Q w c x → c.length = k) (j : Nat) (hj : j < l.length) : ∃ b off c, a = some ⟨b, off, none⟩ ∧ w.rangeAt b (off + j * k) c ∧ Q w c l[j] := by
  rcases h with h | ⟨b, off, cs, e, _, _, hl, hc, hq⟩
  · omega
  have q := hq j (by omega) hj
  refine ⟨b, off, _, e, fun i v hv => ?_, q⟩
  have hi : i < k := by
    have := (List.getElem?_eq_some_iff.1 hv).1
    rw [hk _ _ q] at this
    exact this
  obtain ⟨u, h1, h2⟩ := hc j i (by omega) hi
  rw [hv] at h1
  cases h1
  rw [Nat.add_assoc]
  exact h2
theorem blk_range {w : World} {g : Nat} {T : TypeId} {cs : Array Value} (h : Blk w g T cs) (o : Nat) (l : List Value) (hl : ∀ i v, l[i]? = some v → cs[o + i]? = some v) : w.rangeAt g o l := fun i v hv => by
  rw [h.cell]
  exact hl i v hv
/-- Short tables, short features. -/
def Mo.sm (m : Mo) : Prop := m.ts.length ≤ 1048576 ∧ m.fs.length ≤ 1048576 ∧ (∀ t ∈ m.ts, t.fs.length ≤ 1048576 ∧ ∀ f ∈ t.fs, f.ty.un.length ≤ 1048576) ∧ ∀ f ∈ m.fs, f.ty.un.length ≤ 1048576 ∧ f.bo.sm
theorem fe_ex {f : Fe} {ua ub aa : Option Addr} {uc ud ac : Nat} {w : World} {g : Nat} {T : TypeId} (h : Blk w g T (feC f ua uc ub ud aa ac).toArray) : w.rangeAt g 5 (exC f.bo ub ud aa ac).toList := by
  refine blk_range h 5 _ fun i v hv => ?_
  have hi : i < 12 := by
    have := (List.getElem?_eq_some_iff.1 hv).1
    simpa [exC] using this
  match i, hi with
  | 0, _ => exact hv
  | 1, _ => exact hv
  | 2, _ => exact hv
  | 3, _ => exact hv
  | 4, _ => exact hv
  | 5, _ => exact hv
  | 6, _ => exact hv
  | 7, _ => exact hv
  | 8, _ => exact hv
  | 9, _ => exact hv
  | 10, _ => exact hv
  | 11, _ => exact hv
set_option maxRecDepth 100000 in
set_option maxHeartbeats 8000000 in
theorem sameM_any (C D : Nat) (m : Mo) (ta tb fa fb : Option Addr) (tc td fc fd : Nat) (w : World) (hA : RowAt 93 4 C (TbQ C) w ta m.ts) (hB : RowAt 93 4 D (TbQ D) w tb m.ts) (hA' : RowAt 96 18 C (FeQ C) w fa m.fs) (hB' : RowAt 96 18 D (FeQ D) w fb m.fs) (hs : m.sm) :
    Calls Tryz.prog 14 #[.agg #[.slice ta m.ts.length tc, .slice fa m.fs.length fc], .agg #[.slice tb m.ts.length td, .slice fb m.fs.length fd]] w (Say (.bool true) w) := by
  have X1 := Lib.hid hA
  have X2 := Lib.hid hB
  have X3 := Lib.hid hA'
  have X4 := Lib.hid hB'
  have BB := Lib.hid (balloc (balloc (b0 w) (.cells #[.slice ta m.ts.length tc, .slice fa m.fs.length fc] 27)) (.cells #[.slice tb m.ts.length td, .slice fb m.fs.length fd] 27))
  have G1 := Lib.hid ((Blk.new w 27 #[.slice ta m.ts.length tc, .slice fa m.fs.length fc]).past (.cells #[.slice tb m.ts.length td, .slice fb m.fs.length fd] 27))
  have G2 := Lib.hid (by have := Blk.new (w.alloc (.cells #[.slice ta m.ts.length tc, .slice fa m.fs.length fc] 27)) 27 #[.slice tb m.ts.length td, .slice fb m.fs.length fd]; simpa using this : Blk ((w.alloc (.cells #[.slice ta m.ts.length tc, .slice fa m.fs.length fc] 27)).alloc (.cells #[.slice tb m.ts.length td, .slice fb m.fs.length fd] 27)) (w.heap.size + 1) 27 #[.slice tb m.ts.length td, .slice fb m.fs.length fd])
  have HS := Lib.hid hs
  clear hA hB hA' hB' hs
  go_enter Tryz.func14, Tryz.ntmps14
  go_wp2_with fail
  go_loopw [5] (fun i wr => ∃ j : Nat, i = .int .i64 (j : Nat) ∧ Hid (j ≤ m.ts.length) ∧ Hid (Blk wr w.heap.size 27 #[.slice ta m.ts.length tc, .slice fa m.fs.length fc]) ∧ Hid (Blk wr (w.heap.size + 1) 27 #[.slice tb m.ts.length td, .slice fb m.fs.length fd]) ∧ Hid (Below w.heap.size w wr)) (fun i _ => m.ts.length - (intOf i).toNat)
  case atStart => exact ⟨0, rfl, Lib.hid (Nat.zero_le _), G1, G2, BB⟩
  case round =>
    clear G1 G2 BB
    obtain ⟨j, rfl, hj, G1, G2, hb⟩ := hrel
    have g1 := G1.out.cell 0
    have g2 := G2.out.cell 0
    simp only [List.getElem?_toArray, List.getElem?_cons_zero] at g1 g2
    by_cases hlt : j < m.ts.length
    · have q1 : decide ((j : Int) < (m.ts.length : Int)) = true := decide_eq_true (by omega)
      have f4 := Lib.hid (next_at (j := j) (by have := HS.out.1; omega))
      have hsm := Lib.hid (HS.out.2.2.1 m.ts[j] (List.getElem_mem hlt))
      have i1 : (j : Int) < (m.ts.length : Int) := by omega
      have A3 := X1.out.kpT (ok := fun _ => True) trivial (kp_of hb.out) fun c x hq => TbQ.kpT trivial trivial hq (kp_of hb.out)
      have A4 := X2.out.kpT (ok := fun _ => True) trivial (kp_of hb.out) fun c x hq => TbQ.kpT trivial trivial hq (kp_of hb.out)
      obtain ⟨bk, off, c1, rfl, R1, va, vc, rfl, U1⟩ := row_at A3 (fun c x hq => by obtain ⟨_, _, rfl, _⟩ := hq; rfl) j hlt
      obtain ⟨bk2, off2, c2, rfl, R2, vb, vd, rfl, U2⟩ := row_at A4 (fun c x hq => by obtain ⟨_, _, rfl, _⟩ := hq; rfl) j hlt
      replace U1 := Lib.hid U1
      replace U2 := Lib.hid U2
      clear X1 X2 X3 X4 A3 A4 hj
      generalize m.ts[j] = t at *
      have SS := Lib.hid (show (Blk wr.drew w.heap.size 27 #[.slice (some ⟨bk, off, none⟩) m.ts.length tc, .slice fa m.fs.length fc] ∧ Blk wr.drew (w.heap.size + 1) 27 #[.slice (some ⟨bk2, off2, none⟩) m.ts.length td, .slice fb m.fs.length fd]) ∧ wr.drew.rangeAt bk (off + j * 4) [.string t.nm, .string t.en, .slice va t.fs.length vc, .int .i64 t.kp] ∧ wr.drew.rangeAt bk2 (off2 + j * 4) [.string t.nm, .string t.en, .slice vb t.fs.length vd, .int .i64 t.kp] from ⟨⟨G1.out, G2.out⟩, R1, R2⟩)
      clear R1 R2
      go_wp2_with fail
      clear g1 g2
      refine wp_region_held_drew (S := fun w' => (Blk w' w.heap.size 27 #[.slice (some ⟨bk, off, none⟩) m.ts.length tc, .slice fa m.fs.length fc] ∧ Blk w' (w.heap.size + 1) 27 #[.slice (some ⟨bk2, off2, none⟩) m.ts.length td, .slice fb m.fs.length fd]) ∧ w'.rangeAt bk (off + j * 4) [.string t.nm, .string t.en, .slice va t.fs.length vc, .int .i64 t.kp] ∧ w'.rangeAt bk2 (off2 + j * 4) [.string t.nm, .string t.en, .slice vb t.fs.length vd, .int .i64 t.kp]) (by kernel_rfl) SS.out (fun hH => ?_)
      refine held_take (i := 0) (d := 32) (v := ?_) rfl (by kernel_rfl) (by kernel_rfl) (by kernel_rfl) rfl (fun _ _ _ h => h) rfl hH (fun w' hS => ?_) ?_
      rotate_left
      · go_simp; first | done | with_reducible rfl
      simp only [List.set_cons_zero, List.set_cons_succ]
      refine held_take (i := 1) (d := 33) (v := ?_) rfl (by kernel_rfl) (by kernel_rfl) (by kernel_rfl) rfl (fun _ _ _ h => h) rfl hH (fun w' hS => ?_) ?_
      rotate_left
      · have e1 := hS.1.1.cell 0; simp only [List.getElem?_toArray, List.getElem?_cons_zero] at e1; go_simp; first | done | with_reducible rfl
      simp only [List.set_cons_zero, List.set_cons_succ]
      refine held_take (i := 2) (d := 34) (v := ?_) rfl (by kernel_rfl) (by kernel_rfl) (by kernel_rfl) rfl (fun _ _ _ h => h) rfl hH (fun w' hS => ?_) ?_
      rotate_left
      · go_simp; first | done | with_reducible rfl
      simp only [List.set_cons_zero, List.set_cons_succ]
      refine held_take (i := 3) (d := 35) (v := ?_) rfl (by kernel_rfl) (by kernel_rfl) (by kernel_rfl) rfl (fun _ _ _ h => h) rfl hH (fun w' hS => ?_) ?_
      rotate_left
      · go_simp; first | done | with_reducible rfl
      simp only [List.set_cons_zero, List.set_cons_succ]
      refine held_take (i := 4) (d := 36) (v := .agg #[.string t.nm, .string t.en, .slice va t.fs.length vc, .int .i64 t.kp]) rfl (by kernel_rfl) (by kernel_rfl) (by kernel_rfl) rfl (fun _ _ _ h => h) rfl hH (fun w' hS => yield_loadM infTb Tryz.underlying93 rfl (.tmp 35) rfl _ _ #[.string t.nm, .string t.en, .slice va t.fs.length vc, .int .i64 t.kp] rfl hS.2.1 rfl) ?_
      simp only [List.set_cons_zero, List.set_cons_succ]
      refine held_take (i := 5) (d := 37) (v := ?_) rfl (by kernel_rfl) (by kernel_rfl) (by kernel_rfl) rfl (fun _ _ _ h => h) rfl hH (fun w' hS => ?_) ?_
      rotate_left
      · go_simp; first | done | with_reducible rfl
      simp only [List.set_cons_zero, List.set_cons_succ]
      refine held_take (i := 6) (d := 38) (v := ?_) rfl (by kernel_rfl) (by kernel_rfl) (by kernel_rfl) rfl (fun _ _ _ h => h) rfl hH (fun w' hS => ?_) ?_
      rotate_left
      · have e1 := hS.1.2.cell 0; simp only [List.getElem?_toArray, List.getElem?_cons_zero] at e1; go_simp; first | done | with_reducible rfl
      simp only [List.set_cons_zero, List.set_cons_succ]
      refine held_take (i := 7) (d := 39) (v := ?_) rfl (by kernel_rfl) (by kernel_rfl) (by kernel_rfl) rfl (fun _ _ _ h => h) rfl hH (fun w' hS => ?_) ?_
      rotate_left
      · go_simp; first | done | with_reducible rfl
      simp only [List.set_cons_zero, List.set_cons_succ]
      refine held_take (i := 8) (d := 40) (v := ?_) rfl (by kernel_rfl) (by kernel_rfl) (by kernel_rfl) rfl (fun _ _ _ h => h) rfl hH (fun w' hS => ?_) ?_
      rotate_left
      · go_simp; first | done | with_reducible rfl
      simp only [List.set_cons_zero, List.set_cons_succ]
      refine held_take (i := 9) (d := 41) (v := .agg #[.string t.nm, .string t.en, .slice vb t.fs.length vd, .int .i64 t.kp]) rfl (by kernel_rfl) (by kernel_rfl) (by kernel_rfl) rfl (fun _ _ _ h => h) rfl hH (fun w' hS => yield_loadM infTb Tryz.underlying93 rfl (.tmp 40) rfl _ _ #[.string t.nm, .string t.en, .slice vb t.fs.length vd, .int .i64 t.kp] rfl hS.2.2 rfl) ?_
      simp only [List.set_cons_zero, List.set_cons_succ]
      refine held_only (i := 10) rfl (by kernel_rfl) rfl (fun K hK => ?_)
      go_simp
      refine (sameTb_any C D t va vb vc vd _ (U1.out.kpT trivial trivial (kp_of (C := C) (b0 wr).drew)) (U2.out.kpT trivial trivial (kp_of (C := D) (b0 wr).drew)) hsm.out.1 hsm.out.2).mono ?_
      rintro e w5 ⟨rfl, b5⟩
      refine hK.out _ _ ⟨⟨hH.1.1.below b5 hH.1.1.lt, hH.1.2.below b5 hH.1.2.lt⟩, range_keeps hH.2.1 b5, range_keeps hH.2.2 b5⟩ (fun hH => ?_)
      clear hK K
      have G3 := Lib.hid hH.1.1
      have G4 := Lib.hid hH.1.2
      have B5 := Lib.hid (hb.out.drew.trans (b5.mono hb.out.size))
      clear b5 SS
      refine held_take (i := 11) (d := 43) (v := ?_) rfl (by kernel_rfl) (by kernel_rfl) (by kernel_rfl) rfl (fun _ _ _ h => h) rfl hH (fun w' hS => ?_) ?_
      rotate_left
      · go_simp; first | done | with_reducible rfl
      simp only [List.set_cons_zero, List.set_cons_succ]
      clear hH
      refine wpAnyH_done (by kernel_rfl) ?_ _
      go_wp2_with fail
      refine ⟨⟨j + 1, congrArg (Value.int .i64) f4.out, Lib.hid hlt, G3, G4, B5⟩, less_at hlt f4.out⟩
    · have q1 : decide ((j : Int) < (m.ts.length : Int)) = false := decide_eq_false (by omega)
      clear X1 X2 hj
      go_wp2_with fail
      go_loopw [6] (fun i wr => ∃ j : Nat, i = .int .i64 (j : Nat) ∧ Hid (j ≤ m.fs.length) ∧ Hid (Blk wr w.heap.size 27 #[.slice ta m.ts.length tc, .slice fa m.fs.length fc]) ∧ Hid (Blk wr (w.heap.size + 1) 27 #[.slice tb m.ts.length td, .slice fb m.fs.length fd]) ∧ Hid (Below w.heap.size w wr)) (fun i _ => m.fs.length - (intOf i).toNat)
      case atStart => exact ⟨0, rfl, Lib.hid (Nat.zero_le _), G1, G2, hb⟩
      case round =>
        clear g1 g2 G1 G2 hb q1 hlt
        obtain ⟨j, rfl, hj, G1, G2, hb⟩ := hrel
        have g1 := G1.out.cell 1
        have g2 := G2.out.cell 1
        simp only [List.getElem?_toArray, List.getElem?_cons_zero, List.getElem?_cons_succ] at g1 g2
        by_cases hlt : j < m.fs.length
        · have q1 : decide ((j : Int) < (m.fs.length : Int)) = true := decide_eq_true (by omega)
          have f4 := Lib.hid (next_at (j := j) (by have := HS.out.2.1; omega))
          have hsm := Lib.hid (HS.out.2.2.2 m.fs[j] (List.getElem_mem hlt))
          have i1 : (j : Int) < (m.fs.length : Int) := by omega
          have A3 := X3.out.kpT (ok := fun _ => True) trivial (kp_of hb.out) fun c x hq => FeQ.kpT trivial trivial hq (kp_of hb.out)
          have A4 := X4.out.kpT (ok := fun _ => True) trivial (kp_of hb.out) fun c x hq => FeQ.kpT trivial trivial hq (kp_of hb.out)
          obtain ⟨bk, off, c1, rfl, R1, ua, uc, ub, ud, aa, ac, rfl, U1, E1⟩ := row_at A3 (fun c x hq => by obtain ⟨_, _, _, _, _, _, rfl, _⟩ := hq; rfl) j hlt
          obtain ⟨bk2, off2, c2, rfl, R2, ua2, uc2, ub2, ud2, aa2, ac2, rfl, U2, E2⟩ := row_at A4 (fun c x hq => by obtain ⟨_, _, _, _, _, _, rfl, _⟩ := hq; rfl) j hlt
          replace U1 := Lib.hid U1
          replace U2 := Lib.hid U2
          replace E1 := Lib.hid E1
          replace E2 := Lib.hid E2
          replace R1 := Lib.hid R1
          replace R2 := Lib.hid R2
          clear X3 X4 A3 A4 hj
          generalize m.fs[j] = f at *
          have hg := Lib.hid (show w.heap.size + 2 ≤ wr.heap.size from G2.out.lt)
          go_wp2_with (first | (refine wpList_load_mid rfl 96 (.tmp 54) rfl bk (off + j * 18) rfl (feC f ua uc ub ud aa ac) _ R1.out Tryz.underlying96 rfl infFe ?_) | (refine arm_storeT infFe (.tmp 7) (.tmp 55) rfl rfl _ _ _ _ rfl rfl (Blk.new _ _ _) rfl rfl (by simp [feC, Value.oneCell']) ?_; intro w5 L7 hs5; have bb5 := (balloc (b0 wr) _).trans (hs5.below (Nat.le_refl _)); replace R2 := Lib.hid (range_keeps R2.out bb5); have g5 := (G2.out.below bb5 G2.out.lt).cell 1; simp only [List.getElem?_toArray, List.getElem?_cons_zero, List.getElem?_cons_succ] at g5) | (refine wpList_load_mid rfl 96 (.tmp 59) rfl bk2 (off2 + j * 18) rfl (feC f ua2 uc2 ub2 ud2 aa2 ac2) _ R2.out Tryz.underlying96 rfl infFe ?_) | (refine arm_storeT infFe (.tmp 8) (.tmp 60) rfl rfl _ _ _ _ rfl rfl (Blk.new _ _ _) rfl rfl (by simp [feC, Value.oneCell']) ?_; intro w6 L8 hs6; have bb6 := (balloc (b0 w5) _).trans (hs6.below (Nat.le_refl _)); have L9 := L7.below bb6 L7.lt; have p0 := L9.cell 0; have p1 := L9.cell 1; have p2 := L9.cell 2; have p3 := L9.cell 3; have p4 := L9.cell 4; have p17 := L9.cell 17; simp only [feC, List.getElem?_toArray, List.getElem?_cons_zero, List.getElem?_cons_succ] at p0 p1 p2 p3 p4 p17; have r0 := L8.cell 0; have r1 := L8.cell 1; have r2 := L8.cell 2; have r3 := L8.cell 3; have r4 := L8.cell 4; have r17 := L8.cell 17; simp only [feC, List.getElem?_toArray, List.getElem?_cons_zero, List.getElem?_cons_succ] at r0 r1 r2 r3 r4 r17))
          clear p0 r0 p1 r1 p2 r2 p3 r3 p4 r4 p17 r17
          have b6 := bnext bb5 bb6
          refine (sameT_any C D f.ty ua ua2 uc uc2 w6 (U1.out.kp (kp_of b6)) (U2.out.kp (kp_of b6)) hsm.out.1).mono ?_
          rintro e w7 ⟨rfl, b7⟩
          have p5 := (L9.below b7 L9.lt).cell 5
          have p6 := (L9.below b7 L9.lt).cell 6
          have p7 := (L9.below b7 L9.lt).cell 7
          have p8 := (L9.below b7 L9.lt).cell 8
          have p9 := (L9.below b7 L9.lt).cell 9
          have p10 := (L9.below b7 L9.lt).cell 10
          have p11 := (L9.below b7 L9.lt).cell 11
          have p12 := (L9.below b7 L9.lt).cell 12
          have p13 := (L9.below b7 L9.lt).cell 13
          have p14 := (L9.below b7 L9.lt).cell 14
          have p15 := (L9.below b7 L9.lt).cell 15
          have p16 := (L9.below b7 L9.lt).cell 16
          have r5 := (L8.below b7 L8.lt).cell 5
          have r6 := (L8.below b7 L8.lt).cell 6
          have r7 := (L8.below b7 L8.lt).cell 7
          have r8 := (L8.below b7 L8.lt).cell 8
          have r9 := (L8.below b7 L8.lt).cell 9
          have r10 := (L8.below b7 L8.lt).cell 10
          have r11 := (L8.below b7 L8.lt).cell 11
          have r12 := (L8.below b7 L8.lt).cell 12
          have r13 := (L8.below b7 L8.lt).cell 13
          have r14 := (L8.below b7 L8.lt).cell 14
          have r15 := (L8.below b7 L8.lt).cell 15
          have r16 := (L8.below b7 L8.lt).cell 16
          simp only [feC, List.getElem?_toArray, List.getElem?_cons_zero, List.getElem?_cons_succ] at p5 r5 p6 r6 p7 r7 p8 r8 p9 r9 p10 r10 p11 r11 p12 r12 p13 r13 p14 r14 p15 r15 p16 r16
          have B7 := Lib.hid (bnext b6 b7)
          clear L7 L8 L9 b6 b7 bb5 bb6 hs5 hs6 g5 g1 g2
          go_wp2_with fail
          clear p5 r5 p6 r6 p7 r7 p8 r8 p9 r9 p10 r10 p11 r11 p12 r12 p13 r13 p14 r14 p15 r15 p16 r16
          refine (sameE_any C D f.bo ub aa ub2 aa2 ud ac ud2 ac2 w7 hsm.out.2.1 hsm.out.2.2.1 hsm.out.2.2.2 (E1.out.kp (kp_of B7.out)) (E2.out.kp (kp_of B7.out))).mono ?_
          rintro e w8 ⟨rfl, b8⟩
          have B8 := Lib.hid (bnext B7.out b8)
          clear b8
          go_wp2_with fail
          refine ⟨⟨j + 1, congrArg (Value.int .i64) f4.out, Lib.hid hlt, Lib.hid (G1.out.below B8.out G1.out.lt), Lib.hid (G2.out.below B8.out G2.out.lt), Lib.hid (hb.out.trans (B8.out.mono hb.out.size))⟩, less_at hlt f4.out⟩
        · have q1 : decide ((j : Int) < (m.fs.length : Int)) = false := decide_eq_false (by omega)
          clear X3 X4 hj
          go_wp2_with fail
          go_ret
          exact ⟨rfl, hb.out⟩
end Go.Proofs.YtkgclmikhpjheaaGreatDoor.pa
