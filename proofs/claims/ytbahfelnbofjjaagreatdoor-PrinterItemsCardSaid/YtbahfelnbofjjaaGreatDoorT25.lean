/-
  The reference's Table; The reference's Feature; Modules in memory; lines; the reference's Module; strings.Builder: writing a string, reading the whole.
-/
import Derived.Lib.Builder
import Derived.Laws.Externs
import Derived.Test.YtbahfelnbofjjaaGreatDoorT04
import Derived.Test.YtbahfelnbofjjaaGreatDoorT13
import Derived.Test.YtbahfelnbofjjaaGreatDoorT15
import Derived.Test.YtbahfelnbofjjaaGreatDoorT23
import Derived.Test.YtbahfelnbofjjaaGreatDoorT24
import Derived.Test.YtbahfelnbofjjaaGreatDoorShB
set_option maxRecDepth 100000
set_option maxHeartbeats 16000000
namespace Go.Proofs.YtbahfelnbofjjaaGreatDoor.ch
open Go.RowKit dec
theorem fsT_next {l : List Fi} {j : Nat} (h : j < l.length) : fsT (l.take (j + 1)) = fsT (l.take j) ++ ((if j = 0 then [] else [44]) ++ 32 :: fiT l[j]) := by
 have e : ∀ (l : List Fi) (f : Fi), fsT (l ++ [f]) = fsT l ++ ((if l.length = 0 then [] else [44]) ++ 32 :: fiT f) := by
  intro l f
  cases l with
  | nil => simp [fsT]
  | cons g r => simp [fsT]
 rw [List.take_succ_eq_append_getElem h, e]
 congr 2
 rw [List.length_take, Nat.min_eq_left (Nat.le_of_lt h)]
theorem fsT_short : ∀ (l : List Fi), (∀ f ∈ l, name f.nm = true ∧ tyE f.ty = 0) → (fsT l).length ≤ 302 * l.length
 | [], _ => Nat.zero_le _
 | f :: r, h => by
  have key : ∀ r : List Fi, (∀ f ∈ r, name f.nm = true ∧ tyE f.ty = 0) → ((r.map fun g => 44 :: 32 :: fiT g).flatten).length ≤ 302 * r.length := by
   intro r
   induction r with
   | nil => intro _; exact Nat.zero_le _
   | cons g r ih =>
    intro h
    have h1 := fiT_len (h g (List.mem_cons_self ..)).1 (h g (List.mem_cons_self ..)).2
    have h2 := ih fun f hf => h f (List.mem_cons_of_mem _ hf)
    rw [List.map_cons, List.flatten_cons, List.length_append]
    simp only [List.length_cons]
    omega
  have h1 := fiT_len (h f (List.mem_cons_self ..)).1 (h f (List.mem_cons_self ..)).2
  have h2 := key r fun f hf => h f (List.mem_cons_of_mem _ hf)
  unfold fsT
  simp only [List.length_cons, List.length_append]
  omega
theorem rtab11_any (t : Tb) (a : Option Addr) (c : Nat) (w : World) (hA : Fis w a t.fs.length c t.fs) : Calls Tryz.prog 21 #[.agg (tbC t a c)] w (Tx (txO (tbE t) (tbT t)) (tbE t) w) := by
 have bb := balloc (b0 w) (.cells (tbC t a c) 48)
 have B0 := Lib.hid bb
 have G := Lib.hid (Blk.new w 48 (tbC t a c))
 have C1 := Lib.hid (rtable_any t a c _ (hA.keeps bb))
 have HA := Lib.hid (hA.keeps bb)
 have HZ := Lib.hid (fun (h : tbE t = 0) => tbE_zero h)
 have HT := Lib.hid (show tbT t = [116, 97, 98, 108, 101, 32] ++ (t.nm.data.toList ++ ([32, 111, 102, 32] ++ (t.en.data.toList ++ ([32, 123] ++ (fsT t.fs ++ ([32, 125] ++ ((if t.kp = 0 then [] else [32, 107, 101, 101, 112, 32] ++ Lib.itoa t.kp) ++ [59]))))))) from rfl)
 clear bb hA
 generalize tbE t = ce at *
 unfold tbC at *
 go_enter Tryz.func21, Tryz.ntmps21
 go_upto_region 1 with fail
 generalize hw0 : (w.alloc (.cells #[.string t.nm, .string t.en, .slice a t.fs.length c, .int .i64 t.kp] 48)) = w0 at *
 generalize hg2 : w.heap.size = g2 at G ⊢
 clear hw0 hg2
 go_wp2_with (refine arm_loadT infTb Tryz.underlying48 rfl (.tmp 1) rfl rfl _ _ _ rfl G.out rfl ?_)
 refine C1.out.mono ?_
 rintro e w1 ⟨rfl, b1⟩
 have B1 := Lib.hid (bnext B0.out b1)
 replace G := Lib.hid (G.out.keeps b1)
 replace HA := Lib.hid (HA.out.keeps b1)
 clear b1 C1
 by_cases h0 : ce = 0
 ·have q : (ce != 0) = false := by rw [bne, in_is h0]; rfl
  obtain ⟨z1, z2, z3, z4, z5, z6⟩ := HZ.out h0
  have hO := Lib.hid (show txO ce (tbT t) = B8 (tbT t) from if_pos h0)
  subst h0
  clear HZ
  have l1 := name_len z1
  have l2 := name_len z2
  have A1 := add_b8 ([116, 97, 98, 108, 101, 32]) (t.nm.data.toList) (by first | omega | (simp only [List.length_append]; omega) | (simp only [List.length_cons, List.length_nil]; omega) | (simp only [List.length_cons, List.length_append, List.length_nil]; omega) | decide) (by first | omega | (simp only [List.length_append]; omega) | (simp only [List.length_cons, List.length_nil]; omega) | (simp only [List.length_cons, List.length_append, List.length_nil]; omega) | decide)
  replace A1 : ∀ W, (Op.stringOp .add ⟨#[116, 97, 98, 108, 101, 32]⟩ t.nm).run Tryz.prog W = .ok (.string (B8 ([116, 97, 98, 108, 101, 32] ++ t.nm.data.toList))) W := A1
  have A2 := add_b8 (([116, 97, 98, 108, 101, 32] ++ t.nm.data.toList)) ([32, 111, 102, 32]) (by first | omega | (simp only [List.length_append]; omega) | (simp only [List.length_cons, List.length_nil]; omega) | (simp only [List.length_cons, List.length_append, List.length_nil]; omega) | decide) (by first | omega | (simp only [List.length_append]; omega) | (simp only [List.length_cons, List.length_nil]; omega) | (simp only [List.length_cons, List.length_append, List.length_nil]; omega) | decide)
  replace A2 : ∀ W, (Op.stringOp .add (B8 ([116, 97, 98, 108, 101, 32] ++ t.nm.data.toList)) ⟨#[32, 111, 102, 32]⟩).run Tryz.prog W = .ok (.string (B8 (([116, 97, 98, 108, 101, 32] ++ t.nm.data.toList) ++ [32, 111, 102, 32]))) W := A2
  have A3 := add_b8 ((([116, 97, 98, 108, 101, 32] ++ t.nm.data.toList) ++ [32, 111, 102, 32])) (t.en.data.toList) (by first | omega | (simp only [List.length_append]; omega) | (simp only [List.length_cons, List.length_nil]; omega) | (simp only [List.length_cons, List.length_append, List.length_nil]; omega) | decide) (by first | omega | (simp only [List.length_append]; omega) | (simp only [List.length_cons, List.length_nil]; omega) | (simp only [List.length_cons, List.length_append, List.length_nil]; omega) | decide)
  replace A3 : ∀ W, (Op.stringOp .add (B8 (([116, 97, 98, 108, 101, 32] ++ t.nm.data.toList) ++ [32, 111, 102, 32])) t.en).run Tryz.prog W = .ok (.string (B8 ((([116, 97, 98, 108, 101, 32] ++ t.nm.data.toList) ++ [32, 111, 102, 32]) ++ t.en.data.toList))) W := A3
  have A4 := add_b8 (((([116, 97, 98, 108, 101, 32] ++ t.nm.data.toList) ++ [32, 111, 102, 32]) ++ t.en.data.toList)) ([32, 123]) (by first | omega | (simp only [List.length_append]; omega) | (simp only [List.length_cons, List.length_nil]; omega) | (simp only [List.length_cons, List.length_append, List.length_nil]; omega) | decide) (by first | omega | (simp only [List.length_append]; omega) | (simp only [List.length_cons, List.length_nil]; omega) | (simp only [List.length_cons, List.length_append, List.length_nil]; omega) | decide)
  replace A4 : ∀ W, (Op.stringOp .add (B8 ((([116, 97, 98, 108, 101, 32] ++ t.nm.data.toList) ++ [32, 111, 102, 32]) ++ t.en.data.toList)) ⟨#[32, 123]⟩).run Tryz.prog W = .ok (.string (B8 (((([116, 97, 98, 108, 101, 32] ++ t.nm.data.toList) ++ [32, 111, 102, 32]) ++ t.en.data.toList) ++ [32, 123]))) W := A4
  obtain ⟨S0, hS0⟩ : ∃ l : List UInt8, l = (((([116, 97, 98, 108, 101, 32] ++ t.nm.data.toList) ++ [32, 111, 102, 32]) ++ t.en.data.toList) ++ [32, 123]) := ⟨_, rfl⟩
  have y0 : S0.length ≤ 100 := by rw [hS0]; simp only [List.length_append, List.length_cons, List.length_nil]; omega
  rw [← hS0] at A4
  have HT' := Lib.hid (show tbT t = ((S0 ++ fsT t.fs) ++ [32, 125] ++ (if t.kp = 0 then [] else [32, 107, 101, 101, 112, 32] ++ Lib.itoa t.kp)) ++ [59] from by rw [HT.out, hS0]; simp)
  clear HT
  replace y0 := Lib.hid y0
  clear hS0 l1 l2
  have Z3 := Lib.hid z3
  have Z4 := Lib.hid z4
  have Z5 := Lib.hid z5
  have Z6 := Lib.hid z6
  clear z1 z2 z3 z4 z5 z6
  generalize B8 ((([116, 97, 98, 108, 101, 32] ++ t.nm.data.toList) ++ [32, 111, 102, 32]) ++ t.en.data.toList) = x3 at *
  generalize B8 (([116, 97, 98, 108, 101, 32] ++ t.nm.data.toList) ++ [32, 111, 102, 32]) = x2 at *
  generalize B8 ([116, 97, 98, 108, 101, 32] ++ t.nm.data.toList) = x1 at *
  have g0 := G.out.cell 0
  have g1 := G.out.cell 1
  simp only [List.getElem?_toArray, List.getElem?_cons_zero, List.getElem?_cons_succ] at g0 g1
  go_wp2_with fail
  clear A1 A2 A3 A4 g0 g1
  go_loopw [5, 6] (fun vs vi wr => ∃ j : Nat, vs = .string (B8 (S0 ++ fsT (t.fs.take j))) ∧ vi = .int .i64 (j : Nat) ∧ Hid (j ≤ t.fs.length) ∧ Hid (Below w1.heap.size w1 wr)) (fun _ vi _ => t.fs.length - (intOf vi).toNat)
  case atStart => exact ⟨0, congrArg (fun l => Value.string (B8 l)) (List.append_nil _).symm, rfl, Lib.hid (Nat.zero_le _), Lib.hid (b0 w1)⟩
  case round =>
   obtain ⟨j, rfl, rfl, hj, hb⟩ := hrel
   have Bw := Lib.hid (bnext B1.out hb.out)
   replace G := Lib.hid (G.out.keeps hb.out)
   replace HA := Lib.hid (HA.out.keeps hb.out)
   have c2 := G.out.cell 2
   simp only [List.getElem?_toArray, List.getElem?_cons_zero, List.getElem?_cons_succ] at c2
   by_cases hlt : j < t.fs.length
   ·have q1 : decide ((j : Int) < (t.fs.length : Int)) = true := decide_eq_true (by omega)
    have i1 : (j : Int) < (t.fs.length : Int) := by omega
    have f4 := Lib.hid (next_at (j := j) (by have := Z5.out; omega))
    obtain ⟨bk, off, rfl, hN, hY⟩ := fis_all HA.out (by omega : 0 < t.fs.length)
    obtain ⟨ua, uc, R1, U1⟩ := hY j hlt
    replace hN := Lib.hid (hN j hlt)
    clear hY
    replace R1 := Lib.hid R1
    replace U1 := Lib.hid U1
    have hm := Z6.out _ (List.getElem_mem hlt)
    have hsh := fsT_short (t.fs.take j) (fun f hf => Z6.out f (List.mem_of_mem_take hf))
    rw [List.length_take] at hsh
    have y0' := y0.out
    have z5' := Z5.out
    have n1 := name_len hm.1
    have n2 := tyT_len hm.2
    have hnx := Lib.hid (fsT_next hlt)
    have CT := Lib.hid (fun (W : World) (b : Below wr.heap.size wr W) => rtypeText_any t.fs[j].ty ua uc W hm.2 (U1.out.keeps b))
    obtain ⟨sep, hsep⟩ : ∃ l : List UInt8, l = (if j = 0 then [] else [44]) := ⟨_, rfl⟩
    have y1 : sep.length ≤ 1 := by rw [hsep]; split <;> simp
    rw [← hsep] at hnx
    generalize hPP : S0 ++ fsT (t.fs.take j) = PP at *
    have hp : PP.length ≤ 10000 := by rw [← hPP, List.length_append]; omega
    have A5 := add_b8 (PP) ([44]) (by first | omega | (simp only [List.length_append]; omega) | (simp only [List.length_cons, List.length_nil]; omega) | (simp only [List.length_cons, List.length_append, List.length_nil]; omega) | decide) (by first | omega | (simp only [List.length_append]; omega) | (simp only [List.length_cons, List.length_nil]; omega) | (simp only [List.length_cons, List.length_append, List.length_nil]; omega) | decide)
    replace A5 : ∀ W, (Op.stringOp .add (B8 PP) ⟨#[44]⟩).run Tryz.prog W = .ok (.string (B8 (PP ++ [44]))) W := A5
    have hM0 := Lib.hid (fun (h : j = 0) => (show B8 PP = B8 (PP ++ sep) by rw [hsep, if_pos h, List.append_nil]))
    have hM1 := Lib.hid (fun (h : ¬ j = 0) => (show B8 (PP ++ [44]) = B8 (PP ++ sep) by rw [hsep, if_neg h]))
    have A6 := add_b8 ((PP ++ sep)) ([32]) (by first | omega | (simp only [List.length_append]; omega) | (simp only [List.length_cons, List.length_nil]; omega) | (simp only [List.length_cons, List.length_append, List.length_nil]; omega) | decide) (by first | omega | (simp only [List.length_append]; omega) | (simp only [List.length_cons, List.length_nil]; omega) | (simp only [List.length_cons, List.length_append, List.length_nil]; omega) | decide)
    replace A6 : ∀ W, (Op.stringOp .add (B8 (PP ++ sep)) ⟨#[32]⟩).run Tryz.prog W = .ok (.string (B8 ((PP ++ sep) ++ [32]))) W := A6
    have A7 := add_b8 (((PP ++ sep) ++ [32])) (t.fs[j].nm.data.toList) (by first | omega | (simp only [List.length_append]; omega) | (simp only [List.length_cons, List.length_nil]; omega) | (simp only [List.length_cons, List.length_append, List.length_nil]; omega) | decide) (by first | omega | (simp only [List.length_append]; omega) | (simp only [List.length_cons, List.length_nil]; omega) | (simp only [List.length_cons, List.length_append, List.length_nil]; omega) | decide)
    replace A7 : ∀ W, (Op.stringOp .add (B8 ((PP ++ sep) ++ [32])) t.fs[j].nm).run Tryz.prog W = .ok (.string (B8 (((PP ++ sep) ++ [32]) ++ t.fs[j].nm.data.toList))) W := A7
    have A8 := add_b8 ((((PP ++ sep) ++ [32]) ++ t.fs[j].nm.data.toList)) ([58, 32]) (by first | omega | (simp only [List.length_append]; omega) | (simp only [List.length_cons, List.length_nil]; omega) | (simp only [List.length_cons, List.length_append, List.length_nil]; omega) | decide) (by first | omega | (simp only [List.length_append]; omega) | (simp only [List.length_cons, List.length_nil]; omega) | (simp only [List.length_cons, List.length_append, List.length_nil]; omega) | decide)
    replace A8 : ∀ W, (Op.stringOp .add (B8 (((PP ++ sep) ++ [32]) ++ t.fs[j].nm.data.toList)) ⟨#[58, 32]⟩).run Tryz.prog W = .ok (.string (B8 ((((PP ++ sep) ++ [32]) ++ t.fs[j].nm.data.toList) ++ [58, 32]))) W := A8
    have A9 := add_b8 (((((PP ++ sep) ++ [32]) ++ t.fs[j].nm.data.toList) ++ [58, 32])) ((tyT t.fs[j].ty)) (by first | omega | (simp only [List.length_append]; omega) | (simp only [List.length_cons, List.length_nil]; omega) | (simp only [List.length_cons, List.length_append, List.length_nil]; omega) | decide) (by first | omega | (simp only [List.length_append]; omega) | (simp only [List.length_cons, List.length_nil]; omega) | (simp only [List.length_cons, List.length_append, List.length_nil]; omega) | decide)
    replace A9 : ∀ W, (Op.stringOp .add (B8 ((((PP ++ sep) ++ [32]) ++ t.fs[j].nm.data.toList) ++ [58, 32])) (B8 (tyT t.fs[j].ty))).run Tryz.prog W = .ok (.string (B8 (((((PP ++ sep) ++ [32]) ++ t.fs[j].nm.data.toList) ++ [58, 32]) ++ (tyT t.fs[j].ty)))) W := A9
    have hF := Lib.hid (show B8 (((((PP ++ sep) ++ [32]) ++ t.fs[j].nm.data.toList) ++ [58, 32]) ++ (tyT t.fs[j].ty)) = B8 (S0 ++ fsT (t.fs.take (j + 1))) by rw [hnx.out, ← List.append_assoc, hPP]; unfold fiT; simp)
    clear hm hsh y0' z5' n1 n2 hnx hsep y1 hp hPP
    generalize B8 (((((PP ++ sep) ++ [32]) ++ t.fs[j].nm.data.toList) ++ [58, 32]) ++ (tyT t.fs[j].ty)) = x9 at *
    generalize B8 ((((PP ++ sep) ++ [32]) ++ t.fs[j].nm.data.toList) ++ [58, 32]) = x8 at *
    generalize B8 (((PP ++ sep) ++ [32]) ++ t.fs[j].nm.data.toList) = x7 at *
    generalize B8 ((PP ++ sep) ++ [32]) = x6 at *
    generalize B8 (PP ++ [44]) = x5 at *
    generalize B8 (PP ++ sep) = x4 at *
    generalize B8 PP = x3 at *
    generalize B8 (tyT t.fs[j].ty) = xt at *
    have hlt2 := Lib.hid hlt
    generalize t.fs[j] = f at *
    clear hj
    unfold tyC at *
    obtain ⟨bz, hbz⟩ : ∃ bz : Bool, bz = decide (0 < (j : Int)) := ⟨_, rfl⟩
    have qz : decide (0 < (j : Int)) = bz := hbz.symm
    have qz2 : decide (0 < j) = bz := by rw [hbz]; exact decide_eq_decide.2 (by omega)
    replace hbz := Lib.hid hbz
    go_upto_if 28 with fail
    clear c2
    go_cut [5] from 29 to 30 (fun v wx => v = .string x4 ∧ wx = wr)
    case first =>
     cases bz
     ·have e := Lib.hid (hM0.out (by have := hbz.out; simp at this; omega))
      go_wp2_with fail
      go_meet
      case rel => exact ⟨congrArg Value.string e.out, rfl⟩
     ·have e := Lib.hid (hM1.out (by have := hbz.out; simp at this; omega))
      go_wp2_with fail
      go_meet
      case rel => exact ⟨congrArg Value.string e.out, rfl⟩
    case rest =>
     obtain ⟨rfl, rfl⟩ := hcut
     clear hM0 hM1 hbz qz qz2 A5
     go_upto_region 10 with fail
     refine wp_region_held_drew (S := fun w' => Below wc.heap.size wc w') (by kernel_rfl) (b0 wc).drew (fun hH => ?_)
     refine held_take (i := 0) (d := 31) (v := ?_) rfl (by kernel_rfl) (by kernel_rfl) (by kernel_rfl) rfl (fun _ _ _ h => h) rfl hH (fun w' hS => ?_) ?_
     rotate_left
     ·go_simp; first | done | with_reducible rfl
     simp only [List.set_cons_zero, List.set_cons_succ]
     refine held_take (i := 1) (d := 32) (v := ?_) rfl (by kernel_rfl) (by kernel_rfl) (by kernel_rfl) rfl (fun _ _ _ h => h) rfl hH (fun w' hS => ?_) ?_
     rotate_left
     ·have A := A6 w'; go_simp; first | done | (simp only [A]; done) | with_reducible rfl | exact A
     simp only [List.set_cons_zero, List.set_cons_succ]
     refine held_take (i := 2) (d := 33) (v := ?_) rfl (by kernel_rfl) (by kernel_rfl) (by kernel_rfl) rfl (fun _ _ _ h => h) rfl hH (fun w' hS => ?_) ?_
     rotate_left
     ·go_simp; first | done | with_reducible rfl
     simp only [List.set_cons_zero, List.set_cons_succ]
     refine held_take (i := 3) (d := 34) (v := ?_) rfl (by kernel_rfl) (by kernel_rfl) (by kernel_rfl) rfl (fun _ _ _ h => h) rfl hH (fun w' hS => ?_) ?_
     rotate_left
     ·have m2 := (G.out.keeps hS).cell 2; simp only [List.getElem?_toArray, List.getElem?_cons_zero, List.getElem?_cons_succ] at m2; go_simp; first | done | with_reducible rfl
     simp only [List.set_cons_zero, List.set_cons_succ]
     refine held_take (i := 4) (d := 35) (v := ?_) rfl (by kernel_rfl) (by kernel_rfl) (by kernel_rfl) rfl (fun _ _ _ h => h) rfl hH (fun w' hS => ?_) ?_
     rotate_left
     ·go_simp; first | done | with_reducible rfl
     simp only [List.set_cons_zero, List.set_cons_succ]
     refine held_take (i := 5) (d := 36) (v := ?_) rfl (by kernel_rfl) (by kernel_rfl) (by kernel_rfl) rfl (fun _ _ _ h => h) rfl hH (fun w' hS => ?_) ?_
     rotate_left
     ·go_simp; first | done | with_reducible rfl
     simp only [List.set_cons_zero, List.set_cons_succ]
     refine held_take (i := 6) (d := 37) (v := ?_) rfl (by kernel_rfl) (by kernel_rfl) (by kernel_rfl) rfl (fun _ _ _ h => h) rfl hH (fun w' hS => ?_) ?_
     rotate_left
     ·go_simp; first | done | with_reducible rfl
     simp only [List.set_cons_zero, List.set_cons_succ]
     refine held_take (i := 7) (d := 38) (v := ?_) rfl (by kernel_rfl) (by kernel_rfl) (by kernel_rfl) rfl (fun _ _ _ h => h) rfl hH (fun w' hS => ?_) ?_
     rotate_left
     ·have mn := hN.out w' hS; go_simp; first | done | with_reducible rfl
     simp only [List.set_cons_zero, List.set_cons_succ]
     refine held_take (i := 8) (d := 39) (v := ?_) rfl (by kernel_rfl) (by kernel_rfl) (by kernel_rfl) rfl (fun _ _ _ h => h) rfl hH (fun w' hS => ?_) ?_
     rotate_left
     ·have A := A7 w'; go_simp; first | done | (simp only [A]; done) | with_reducible rfl | exact A
     simp only [List.set_cons_zero, List.set_cons_succ]
     refine held_take (i := 9) (d := 40) (v := ?_) rfl (by kernel_rfl) (by kernel_rfl) (by kernel_rfl) rfl (fun _ _ _ h => h) rfl hH (fun w' hS => ?_) ?_
     rotate_left
     ·have A := A8 w'; go_simp; first | done | (simp only [A]; done) | with_reducible rfl | exact A
     simp only [List.set_cons_zero, List.set_cons_succ]
     refine held_take (i := 10) (d := 41) (v := ?_) rfl (by kernel_rfl) (by kernel_rfl) (by kernel_rfl) rfl (fun _ _ _ h => h) rfl hH (fun w' hS => ?_) ?_
     rotate_left
     ·go_simp; first | done | with_reducible rfl
     simp only [List.set_cons_zero, List.set_cons_succ]
     refine held_take (i := 11) (d := 42) (v := ?_) rfl (by kernel_rfl) (by kernel_rfl) (by kernel_rfl) rfl (fun _ _ _ h => h) rfl hH (fun w' hS => ?_) ?_
     rotate_left
     ·have m2 := (G.out.keeps hS).cell 2; simp only [List.getElem?_toArray, List.getElem?_cons_zero, List.getElem?_cons_succ] at m2; go_simp; first | done | with_reducible rfl
     simp only [List.set_cons_zero, List.set_cons_succ]
     refine held_take (i := 12) (d := 43) (v := ?_) rfl (by kernel_rfl) (by kernel_rfl) (by kernel_rfl) rfl (fun _ _ _ h => h) rfl hH (fun w' hS => ?_) ?_
     rotate_left
     ·go_simp; first | done | with_reducible rfl
     simp only [List.set_cons_zero, List.set_cons_succ]
     refine held_take (i := 13) (d := 44) (v := ?_) rfl (by kernel_rfl) (by kernel_rfl) (by kernel_rfl) rfl (fun _ _ _ h => h) rfl hH (fun w' hS => ?_) ?_
     rotate_left
     ·go_simp; first | done | with_reducible rfl
     simp only [List.set_cons_zero, List.set_cons_succ]
     refine held_take (i := 14) (d := 45) (v := ?_) rfl (by kernel_rfl) (by kernel_rfl) (by kernel_rfl) rfl (fun _ _ _ h => h) rfl hH (fun w' hS => ?_) ?_
     rotate_left
     ·go_simp; first | done | with_reducible rfl
     simp only [List.set_cons_zero, List.set_cons_succ]
     refine held_take (i := 15) (d := 46) (v := .agg #[.int .i64 f.ty.k, .slice ua f.ty.un.length uc, .string f.ty.of]) rfl (by kernel_rfl) (by kernel_rfl) (by kernel_rfl) rfl (fun _ _ _ h => h) rfl hH (fun w' hS => yield_loadM infTy Tryz.underlying31 rfl (.tmp 45) rfl bk (off + j * 4 + 1) #[.int .i64 f.ty.k, .slice ua f.ty.un.length uc, .string f.ty.of] rfl (range_keeps R1.out hS) rfl) ?_
     simp only [List.set_cons_zero, List.set_cons_succ]
     generalize wc.drew = yy at *
     refine held_only (i := 16) rfl (by kernel_rfl) rfl (fun K hK => ?_)
     go_simp
     refine (CT.out _ hH).mono ?_
     rintro e y101 ⟨rfl, b101⟩
     skip
     refine hK.out _ _ (bnext hH b101) (fun hH => ?_)
     clear hK K
     clear b101
     refine held_take (i := 17) (d := 48) (v := ?_) rfl (by kernel_rfl) (by kernel_rfl) (by kernel_rfl) rfl (fun _ _ _ h => h) rfl hH (fun w' hS => ?_) ?_
     rotate_left
     ·have A := A9 w'; go_simp; first | done | (simp only [A]; done) | with_reducible rfl | exact A
     simp only [List.set_cons_zero, List.set_cons_succ]
     refine held_take (i := 18) (d := 5) (v := ?_) rfl (by kernel_rfl) (by kernel_rfl) (by kernel_rfl) rfl (fun _ _ _ h => h) rfl hH (fun w' hS => ?_) ?_
     rotate_left
     ·go_simp; first | done | with_reducible rfl
     simp only [List.set_cons_zero, List.set_cons_succ]
     refine wpAnyH_done (by kernel_rfl) ?_ _
     have hb6 := Lib.hid (bnext hb.out hH)
     go_wp2_with fail
     exact ⟨⟨j + 1, congrArg Value.string hF.out, congrArg (Value.int .i64) f4.out, hlt2, hb6⟩, less_at hlt2.out f4.out⟩
   ·have q1 : decide ((j : Int) < (t.fs.length : Int)) = false := decide_eq_false (by omega)
    have hsh := fsT_short t.fs Z6.out
    have y0' := y0.out
    have z5' := Z5.out
    rw [List.take_of_length_le (by omega : t.fs.length ≤ j)]
    obtain ⟨PP, hPP⟩ : ∃ l, l = S0 ++ fsT t.fs := ⟨_, rfl⟩
    rw [← hPP]
    have hp : PP.length ≤ 10000 := by rw [hPP, List.length_append]; omega
    have HK := Lib.hid (show B8 (tbT t) = B8 (((PP ++ [32, 125]) ++ (if t.kp = 0 then [] else [32, 107, 101, 101, 112, 32] ++ Lib.itoa t.kp)) ++ [59]) by rw [HT'.out, hPP])
    have hkl := itoa_le t.kp Z3.out (by have := Z4.out; omega)
    have A5 := add_b8 (PP) ([32, 125]) (by first | omega | (simp only [List.length_append]; omega) | (simp only [List.length_cons, List.length_nil]; omega) | (simp only [List.length_cons, List.length_append, List.length_nil]; omega) | decide) (by first | omega | (simp only [List.length_append]; omega) | (simp only [List.length_cons, List.length_nil]; omega) | (simp only [List.length_cons, List.length_append, List.length_nil]; omega) | decide)
    replace A5 : ∀ W, (Op.stringOp .add (B8 PP) ⟨#[32, 125]⟩).run Tryz.prog W = .ok (.string (B8 (PP ++ [32, 125]))) W := A5
    have A6 := add_b8 ((PP ++ [32, 125])) ([32, 107, 101, 101, 112, 32]) (by first | omega | (simp only [List.length_append]; omega) | (simp only [List.length_cons, List.length_nil]; omega) | (simp only [List.length_cons, List.length_append, List.length_nil]; omega) | decide) (by first | omega | (simp only [List.length_append]; omega) | (simp only [List.length_cons, List.length_nil]; omega) | (simp only [List.length_cons, List.length_append, List.length_nil]; omega) | decide)
    replace A6 : ∀ W, (Op.stringOp .add (B8 (PP ++ [32, 125])) ⟨#[32, 107, 101, 101, 112, 32]⟩).run Tryz.prog W = .ok (.string (B8 ((PP ++ [32, 125]) ++ [32, 107, 101, 101, 112, 32]))) W := A6
    have A7 := add_b8 (((PP ++ [32, 125]) ++ [32, 107, 101, 101, 112, 32])) ((Lib.itoa t.kp)) (by first | omega | (simp only [List.length_append]; omega) | (simp only [List.length_cons, List.length_nil]; omega) | (simp only [List.length_cons, List.length_append, List.length_nil]; omega) | decide) (by first | omega | (simp only [List.length_append]; omega) | (simp only [List.length_cons, List.length_nil]; omega) | (simp only [List.length_cons, List.length_append, List.length_nil]; omega) | decide)
    replace A7 : ∀ W, (Op.stringOp .add (B8 ((PP ++ [32, 125]) ++ [32, 107, 101, 101, 112, 32])) (B8 (Lib.itoa t.kp))).run Tryz.prog W = .ok (.string (B8 (((PP ++ [32, 125]) ++ [32, 107, 101, 101, 112, 32]) ++ (Lib.itoa t.kp)))) W := A7
    obtain ⟨KK, hKK⟩ : ∃ l : List UInt8, l = (PP ++ [32, 125]) ++ (if t.kp = 0 then [] else [32, 107, 101, 101, 112, 32] ++ Lib.itoa t.kp) := ⟨_, rfl⟩
    rw [← hKK] at HK
    have hk : KK.length ≤ 20000 := by rw [hKK]; split <;> simp only [List.length_append, List.length_cons, List.length_nil] <;> omega
    have A8 := add_b8 (KK) ([59]) (by first | omega | (simp only [List.length_append]; omega) | (simp only [List.length_cons, List.length_nil]; omega) | (simp only [List.length_cons, List.length_append, List.length_nil]; omega) | decide) (by first | omega | (simp only [List.length_append]; omega) | (simp only [List.length_cons, List.length_nil]; omega) | (simp only [List.length_cons, List.length_append, List.length_nil]; omega) | decide)
    replace A8 : ∀ W, (Op.stringOp .add (B8 KK) ⟨#[59]⟩).run Tryz.prog W = .ok (.string (B8 (KK ++ [59]))) W := A8
    have hK0 := Lib.hid (fun (h : t.kp = 0) => (show B8 (PP ++ [32, 125]) = B8 KK by rw [hKK, if_pos h, List.append_nil]))
    have hK1 := Lib.hid (fun (h : ¬ t.kp = 0) => (show B8 (((PP ++ [32, 125]) ++ [32, 107, 101, 101, 112, 32]) ++ (Lib.itoa t.kp)) = B8 KK by rw [hKK, if_neg h]; simp))
    rw [HK.out] at hO
    have CD := Lib.hid (fun (W : World) => (show Calls Tryz.prog 59 #[.int .i64 t.kp] W (Sr (B8 (Lib.itoa t.kp)) W) from (rdig05_any t.kp (by have := Z3.out; omega) (by have := Z4.out; omega) W).mono fun _ _ h => h))
    clear hsh y0' z5' hp hkl hk hKK hPP HK HT' Z6
    generalize B8 (KK ++ [59]) = x9 at *
    generalize B8 KK = x8 at *
    generalize B8 (((PP ++ [32, 125]) ++ [32, 107, 101, 101, 112, 32]) ++ (Lib.itoa t.kp)) = x7 at *
    generalize B8 ((PP ++ [32, 125]) ++ [32, 107, 101, 101, 112, 32]) = x6 at *
    generalize B8 (PP ++ [32, 125]) = x5 at *
    generalize B8 PP = x4 at *
    generalize B8 (Lib.itoa t.kp) = xk at *
    obtain ⟨bk, hbk⟩ : ∃ bk : Bool, bk = decide (t.kp = 0) := ⟨_, rfl⟩
    have qk : (t.kp == 0) = bk := by rw [eqI, hbk]
    have qk2 : (t.kp != 0) = (!bk) := by rw [bne, qk]
    replace hbk := Lib.hid hbk
    have c3 := G.out.cell 3
    simp only [List.getElem?_toArray, List.getElem?_cons_zero, List.getElem?_cons_succ] at c3
    go_upto_if 53 with fail
    clear c2 c3 qk qk2
    go_cut [5] from 54 to 59 (fun v wx => v = .string x8 ∧ Hid (Below wr.heap.size wr wx))
    case first =>
     cases bk
     ·have e := Lib.hid (hK1.out (by have := hbk.out; simpa using this))
      have c3 := G.out.cell 3
      simp only [List.getElem?_toArray, List.getElem?_cons_zero, List.getElem?_cons_succ] at c3
      go_wp2_with fail
      refine (CD.out _).mono ?_
      rintro e w9 ⟨rfl, b9⟩
      have B9 := Lib.hid b9
      clear b9
      go_wp2_with fail
      go_meet
      case rel => exact ⟨congrArg Value.string e.out, B9⟩
     ·have e := Lib.hid (hK0.out (by have := hbk.out; simpa using this))
      go_wp2_with fail
      go_meet
      case rel => exact ⟨congrArg Value.string e.out, Lib.hid (b0 wr)⟩
    case rest =>
     obtain ⟨rfl, BW⟩ := hcut
     have B9 := Lib.hid (bnext Bw.out BW.out)
     clear hK0 hK1 hbk CD BW
     go_wp2_with fail
     go_ret2
     exact tx_of hO.out.symm rfl B9.out
 ·have q : (ce != 0) = true := by simp [h0]
  have hO := Lib.hid (show txO ce (tbT t) = .empty from if_neg h0)
  replace h0 := Lib.hid h0
  clear HZ HT
  go_wp2_with fail
  go_ret2
  exact tx_of hO.out.symm rfl B1.out
end Go.Proofs.YtbahfelnbofjjaaGreatDoor.ch
namespace Go.Proofs.YtbahfelnbofjjaaGreatDoor.ch
open Go.RowKit dec
theorem rfea11_any (f : Fe) (xa ua aa : Option Addr) (xc uc ac : Nat) (w : World) (hs : f.sz) (hU : un.Sl w xa f.ty.un.length xc f.ty.un) (hE : Ec w f.bo ua uc aa ac) : Calls Tryz.prog 23 #[.agg (feC f xa xc ua uc aa ac)] w (Tx (txO (pfE f) (feT f)) (pfE f) w) := by
 have bb := balloc (b0 w) (.cells (feC f xa xc ua uc aa ac) 51)
 have B0 := Lib.hid bb
 have G := Lib.hid (Blk.new w 51 (feC f xa xc ua uc aa ac))
 have C1 := Lib.hid (fun (W : World) => rname_any f.nm W)
 have C2 := Lib.hid (fun (W : World) => rname_any f.en W)
 have C3 := Lib.hid (fun (W : World) (b : Below w.heap.size w W) => rtype11_any f.ty xa xc W (hU.keeps b) hs.of)
 have C4 := Lib.hid (fun (W : World) (b : Below w.heap.size w W) => rexpr_any f.bo ua aa uc ac W hs.bo hs.few (hE.keeps b))
 have hI : pfE f = pfE f := rfl
 conv at hI => rhs; unfold pfE
 replace hI := Lib.hid hI
 have HO := Lib.hid (rfl : txO (pfE f) (feT f) = txO (pfE f) (feT f))
 have HY := Lib.hid (fun (h1 : name f.nm = true) (h2 : name f.en = true) (h3 : tyE f.ty = 0) (h4 : shE f.bo = 0) => (⟨name_len h1, name_len h2, tyT_len h3, txE_bound (shE_zero h4) hs.few⟩ : f.nm.data.toList.length ≤ 24 ∧ f.en.data.toList.length ≤ 24 ∧ (tyT f.ty).length ≤ 210 ∧ (txE f.bo).length ≤ 1000000))
 have HF := Lib.hid (show feT f = [102, 101, 97, 116, 117, 114, 101, 32] ++ (f.nm.data.toList ++ ([32, 111, 102, 32] ++ (f.en.data.toList ++ (58 :: 32 :: (tyT f.ty ++ ([32, 61, 32] ++ (txE f.bo ++ [59]))))))) from rfl)
 clear bb hU hE hs
 obtain ⟨n1, hn1⟩ : ∃ n1, n1 = name f.nm := ⟨_, rfl⟩
 obtain ⟨n2, hn2⟩ : ∃ n2, n2 = name f.en := ⟨_, rfl⟩
 rw [← hn1] at C1 hI
 rw [← hn2] at C2 hI
 replace hn1 := Lib.hid hn1
 replace hn2 := Lib.hid hn2
 obtain ⟨te, hte⟩ : ∃ te, te = tyE f.ty := ⟨_, rfl⟩
 obtain ⟨se, hse⟩ : ∃ se, se = shE f.bo := ⟨_, rfl⟩
 rw [← hte] at C3 hI
 rw [← hse] at C4 hI
 replace hte := Lib.hid hte
 replace hse := Lib.hid hse
 generalize hpe : pfE f = pe at *
 generalize hts : txO pe (feT f) = ts at *
 replace HO := Lib.hid hts
 clear hts hpe
 unfold feC tyC exC at *
 go_enter Tryz.func23, Tryz.ntmps23
 go_upto_region 1 with fail
 generalize hw0 : (w.alloc (.cells #[.string f.nm, .string f.en, .int .i64 f.ty.k, .slice xa f.ty.un.length xc, .string f.ty.of, .int .i64 f.bo.h.k, .string f.bo.h.op, .string f.bo.h.nm, .string f.bo.h.tb, .int .i64 f.bo.h.vk, .int .i64 f.bo.h.vn, .string f.bo.h.vs, .slice ua f.bo.h.un.length uc, .int .i64 f.bo.h.pa, .int .i64 f.bo.h.wk, .int .i64 f.bo.h.ws, .slice aa f.bo.ar.len ac, .int .i64 f.vr] 51)) = w0 at *
 generalize hg2 : w.heap.size = g2 at G ⊢
 clear hw0 hg2
 have a0 := G.out.cell 0
 simp only [List.getElem?_toArray, List.getElem?_cons_zero] at a0
 go_wp2_with fail
 refine (C1.out _).mono ?_
 rintro e w1 ⟨rfl, b1⟩
 have B1 := Lib.hid (bnext B0.out b1)
 replace G := Lib.hid (G.out.keeps b1)
 clear b1
 clear C1 a0
 cases n1
 ·replace hI := Lib.hid (hI.out.trans (if_pos rfl))
  go_wp2_with fail
  go_ret2
  exact tx_of (by rw [← HO.out, hI.out]; rfl) hI.out.symm B1.out
 ·replace hI := Lib.hid (hI.out.trans (if_neg (by decide)))
  have a1 := G.out.cell 1
  simp only [List.getElem?_toArray, List.getElem?_cons_zero, List.getElem?_cons_succ] at a1
  go_wp2_with fail
  refine (C2.out _).mono ?_
  rintro e w2 ⟨rfl, b2⟩
  have B2 := Lib.hid (bnext B1.out b2)
  replace G := Lib.hid (G.out.keeps b2)
  clear b2
  clear C2 a1
  cases n2
  ·replace hI := Lib.hid (hI.out.trans (if_pos rfl))
   go_wp2_with fail
   go_ret2
   exact tx_of (by rw [← HO.out, hI.out]; rfl) hI.out.symm B2.out
  ·replace hI := Lib.hid (hI.out.trans (if_neg (by decide)))
   go_wp2_with (refine arm_mid infTy Tryz.underlying31 rfl (.tmp 19) rfl rfl g2 2 #[.int .i64 f.ty.k, .slice xa f.ty.un.length xc, .string f.ty.of] rfl (blk_range G.out 2 _ rfl) rfl ?_)
   refine (C3.out _ B2.out).mono ?_
   rintro e w3 ⟨rfl, b3⟩
   have B3 := Lib.hid (bnext B2.out b3)
   replace G := Lib.hid (G.out.keeps b3)
   clear b3
   clear C3
   by_cases ht0 : te ≠ 0
   ·have q : (te != 0) = true := by simp [ht0]
    replace hI := Lib.hid (hI.out.trans (if_pos ht0))
    replace ht0 := Lib.hid ht0
    go_wp2_with fail
    go_ret2
    exact tx_of (by rw [← HO.out, hI.out, txO, if_neg ht0.out]; rfl) hI.out.symm B3.out
   ·have q : (te != 0) = false := by rw [bne, in_is (Decidable.not_not.1 ht0)]; rfl
    replace hI := Lib.hid (hI.out.trans (if_neg ht0))
    have h00 : te = 0 := Decidable.not_not.1 ht0
    subst h00
    clear ht0
    simp only [txO, if_true]
    go_wp2_with (refine arm_mid infX Tryz.underlying29 rfl (.tmp 28) rfl rfl g2 5 #[.int .i64 f.bo.h.k, .string f.bo.h.op, .string f.bo.h.nm, .string f.bo.h.tb, .int .i64 f.bo.h.vk, .int .i64 f.bo.h.vn, .string f.bo.h.vs, .slice ua f.bo.h.un.length uc, .int .i64 f.bo.h.pa, .int .i64 f.bo.h.wk, .int .i64 f.bo.h.ws, .slice aa f.bo.ar.len ac] rfl (blk_range G.out 5 _ rfl) rfl ?_)
    refine (C4.out _ B3.out).mono ?_
    rintro e w4 ⟨rfl, b4⟩
    have B4 := Lib.hid (bnext B3.out b4)
    replace G := Lib.hid (G.out.keeps b4)
    clear b4
    clear C4
    by_cases hs0 : se ≠ 0
    ·have q5 : (se != 0) = true := by simp [hs0]
     replace hs0 := Lib.hid hs0
     go_wp2_with fail
     go_ret2
     exact tx_of (by rw [← HO.out, hI.out, txO, if_neg hs0.out]; rfl) hI.out.symm B4.out
    ·have q5 : (se != 0) = false := by rw [bne, in_is (Decidable.not_not.1 hs0)]; rfl
     have h00 : se = 0 := Decidable.not_not.1 hs0
     subst h00
     clear hs0
     simp only [txO, if_true]
     obtain ⟨y1, y2, y3, y4⟩ := HY.out hn1.out.symm hn2.out.symm hte.out.symm hse.out.symm
     clear HY hn1 hn2 hte hse
     have A1 := add_b8 ([102, 101, 97, 116, 117, 114, 101, 32]) (f.nm.data.toList) (by first | omega | (simp only [List.length_append]; omega) | (simp only [List.length_cons, List.length_nil]; omega) | (simp only [List.length_cons, List.length_append, List.length_nil]; omega) | decide) (by first | omega | (simp only [List.length_append]; omega) | (simp only [List.length_cons, List.length_nil]; omega) | (simp only [List.length_cons, List.length_append, List.length_nil]; omega) | decide)
     replace A1 : ∀ W, (Op.stringOp .add ⟨#[102, 101, 97, 116, 117, 114, 101, 32]⟩ f.nm).run Tryz.prog W = .ok (.string (B8 ([102, 101, 97, 116, 117, 114, 101, 32] ++ f.nm.data.toList))) W := A1
     have A2 := add_b8 (([102, 101, 97, 116, 117, 114, 101, 32] ++ f.nm.data.toList)) ([32, 111, 102, 32]) (by first | omega | (simp only [List.length_append]; omega) | (simp only [List.length_cons, List.length_nil]; omega) | (simp only [List.length_cons, List.length_append, List.length_nil]; omega) | decide) (by first | omega | (simp only [List.length_append]; omega) | (simp only [List.length_cons, List.length_nil]; omega) | (simp only [List.length_cons, List.length_append, List.length_nil]; omega) | decide)
     replace A2 : ∀ W, (Op.stringOp .add (B8 ([102, 101, 97, 116, 117, 114, 101, 32] ++ f.nm.data.toList)) ⟨#[32, 111, 102, 32]⟩).run Tryz.prog W = .ok (.string (B8 (([102, 101, 97, 116, 117, 114, 101, 32] ++ f.nm.data.toList) ++ [32, 111, 102, 32]))) W := A2
     have A3 := add_b8 ((([102, 101, 97, 116, 117, 114, 101, 32] ++ f.nm.data.toList) ++ [32, 111, 102, 32])) (f.en.data.toList) (by first | omega | (simp only [List.length_append]; omega) | (simp only [List.length_cons, List.length_nil]; omega) | (simp only [List.length_cons, List.length_append, List.length_nil]; omega) | decide) (by first | omega | (simp only [List.length_append]; omega) | (simp only [List.length_cons, List.length_nil]; omega) | (simp only [List.length_cons, List.length_append, List.length_nil]; omega) | decide)
     replace A3 : ∀ W, (Op.stringOp .add (B8 (([102, 101, 97, 116, 117, 114, 101, 32] ++ f.nm.data.toList) ++ [32, 111, 102, 32])) f.en).run Tryz.prog W = .ok (.string (B8 ((([102, 101, 97, 116, 117, 114, 101, 32] ++ f.nm.data.toList) ++ [32, 111, 102, 32]) ++ f.en.data.toList))) W := A3
     have A4 := add_b8 (((([102, 101, 97, 116, 117, 114, 101, 32] ++ f.nm.data.toList) ++ [32, 111, 102, 32]) ++ f.en.data.toList)) ([58, 32]) (by first | omega | (simp only [List.length_append]; omega) | (simp only [List.length_cons, List.length_nil]; omega) | (simp only [List.length_cons, List.length_append, List.length_nil]; omega) | decide) (by first | omega | (simp only [List.length_append]; omega) | (simp only [List.length_cons, List.length_nil]; omega) | (simp only [List.length_cons, List.length_append, List.length_nil]; omega) | decide)
     replace A4 : ∀ W, (Op.stringOp .add (B8 ((([102, 101, 97, 116, 117, 114, 101, 32] ++ f.nm.data.toList) ++ [32, 111, 102, 32]) ++ f.en.data.toList)) ⟨#[58, 32]⟩).run Tryz.prog W = .ok (.string (B8 (((([102, 101, 97, 116, 117, 114, 101, 32] ++ f.nm.data.toList) ++ [32, 111, 102, 32]) ++ f.en.data.toList) ++ [58, 32]))) W := A4
     have A5 := add_b8 ((((([102, 101, 97, 116, 117, 114, 101, 32] ++ f.nm.data.toList) ++ [32, 111, 102, 32]) ++ f.en.data.toList) ++ [58, 32])) ((tyT f.ty)) (by first | omega | (simp only [List.length_append]; omega) | (simp only [List.length_cons, List.length_nil]; omega) | (simp only [List.length_cons, List.length_append, List.length_nil]; omega) | decide) (by first | omega | (simp only [List.length_append]; omega) | (simp only [List.length_cons, List.length_nil]; omega) | (simp only [List.length_cons, List.length_append, List.length_nil]; omega) | decide)
     replace A5 : ∀ W, (Op.stringOp .add (B8 (((([102, 101, 97, 116, 117, 114, 101, 32] ++ f.nm.data.toList) ++ [32, 111, 102, 32]) ++ f.en.data.toList) ++ [58, 32])) (B8 (tyT f.ty))).run Tryz.prog W = .ok (.string (B8 ((((([102, 101, 97, 116, 117, 114, 101, 32] ++ f.nm.data.toList) ++ [32, 111, 102, 32]) ++ f.en.data.toList) ++ [58, 32]) ++ (tyT f.ty)))) W := A5
     have A6 := add_b8 (((((([102, 101, 97, 116, 117, 114, 101, 32] ++ f.nm.data.toList) ++ [32, 111, 102, 32]) ++ f.en.data.toList) ++ [58, 32]) ++ (tyT f.ty))) ([32, 61, 32]) (by first | omega | (simp only [List.length_append]; omega) | (simp only [List.length_cons, List.length_nil]; omega) | (simp only [List.length_cons, List.length_append, List.length_nil]; omega) | decide) (by first | omega | (simp only [List.length_append]; omega) | (simp only [List.length_cons, List.length_nil]; omega) | (simp only [List.length_cons, List.length_append, List.length_nil]; omega) | decide)
     replace A6 : ∀ W, (Op.stringOp .add (B8 ((((([102, 101, 97, 116, 117, 114, 101, 32] ++ f.nm.data.toList) ++ [32, 111, 102, 32]) ++ f.en.data.toList) ++ [58, 32]) ++ (tyT f.ty))) ⟨#[32, 61, 32]⟩).run Tryz.prog W = .ok (.string (B8 (((((([102, 101, 97, 116, 117, 114, 101, 32] ++ f.nm.data.toList) ++ [32, 111, 102, 32]) ++ f.en.data.toList) ++ [58, 32]) ++ (tyT f.ty)) ++ [32, 61, 32]))) W := A6
     have A7 := add_b8 ((((((([102, 101, 97, 116, 117, 114, 101, 32] ++ f.nm.data.toList) ++ [32, 111, 102, 32]) ++ f.en.data.toList) ++ [58, 32]) ++ (tyT f.ty)) ++ [32, 61, 32])) ((txE f.bo)) (by first | omega | (simp only [List.length_append]; omega) | (simp only [List.length_cons, List.length_nil]; omega) | (simp only [List.length_cons, List.length_append, List.length_nil]; omega) | decide) (by first | omega | (simp only [List.length_append]; omega) | (simp only [List.length_cons, List.length_nil]; omega) | (simp only [List.length_cons, List.length_append, List.length_nil]; omega) | decide)
     replace A7 : ∀ W, (Op.stringOp .add (B8 (((((([102, 101, 97, 116, 117, 114, 101, 32] ++ f.nm.data.toList) ++ [32, 111, 102, 32]) ++ f.en.data.toList) ++ [58, 32]) ++ (tyT f.ty)) ++ [32, 61, 32])) (B8 (txE f.bo))).run Tryz.prog W = .ok (.string (B8 ((((((([102, 101, 97, 116, 117, 114, 101, 32] ++ f.nm.data.toList) ++ [32, 111, 102, 32]) ++ f.en.data.toList) ++ [58, 32]) ++ (tyT f.ty)) ++ [32, 61, 32]) ++ (txE f.bo)))) W := A7
     have A8 := add_b8 (((((((([102, 101, 97, 116, 117, 114, 101, 32] ++ f.nm.data.toList) ++ [32, 111, 102, 32]) ++ f.en.data.toList) ++ [58, 32]) ++ (tyT f.ty)) ++ [32, 61, 32]) ++ (txE f.bo))) ([59]) (by first | omega | (simp only [List.length_append]; omega) | (simp only [List.length_cons, List.length_nil]; omega) | (simp only [List.length_cons, List.length_append, List.length_nil]; omega) | decide) (by first | omega | (simp only [List.length_append]; omega) | (simp only [List.length_cons, List.length_nil]; omega) | (simp only [List.length_cons, List.length_append, List.length_nil]; omega) | decide)
     replace A8 : ∀ W, (Op.stringOp .add (B8 ((((((([102, 101, 97, 116, 117, 114, 101, 32] ++ f.nm.data.toList) ++ [32, 111, 102, 32]) ++ f.en.data.toList) ++ [58, 32]) ++ (tyT f.ty)) ++ [32, 61, 32]) ++ (txE f.bo))) ⟨#[59]⟩).run Tryz.prog W = .ok (.string (B8 (((((((([102, 101, 97, 116, 117, 114, 101, 32] ++ f.nm.data.toList) ++ [32, 111, 102, 32]) ++ f.en.data.toList) ++ [58, 32]) ++ (tyT f.ty)) ++ [32, 61, 32]) ++ (txE f.bo)) ++ [59]))) W := A8
     have hF := Lib.hid (show B8 (((((((([102, 101, 97, 116, 117, 114, 101, 32] ++ f.nm.data.toList) ++ [32, 111, 102, 32]) ++ f.en.data.toList) ++ [58, 32]) ++ (tyT f.ty)) ++ [32, 61, 32]) ++ (txE f.bo)) ++ [59]) = ts by rw [← HO.out, hI.out]; show _ = B8 (feT f); rw [HF.out]; simp)
     clear y1 y2 y3 y4 HF
     generalize B8 (((((((([102, 101, 97, 116, 117, 114, 101, 32] ++ f.nm.data.toList) ++ [32, 111, 102, 32]) ++ f.en.data.toList) ++ [58, 32]) ++ (tyT f.ty)) ++ [32, 61, 32]) ++ (txE f.bo)) ++ [59]) = x0 at *
     generalize B8 ((((((([102, 101, 97, 116, 117, 114, 101, 32] ++ f.nm.data.toList) ++ [32, 111, 102, 32]) ++ f.en.data.toList) ++ [58, 32]) ++ (tyT f.ty)) ++ [32, 61, 32]) ++ (txE f.bo)) = x1 at *
     generalize B8 (((((([102, 101, 97, 116, 117, 114, 101, 32] ++ f.nm.data.toList) ++ [32, 111, 102, 32]) ++ f.en.data.toList) ++ [58, 32]) ++ (tyT f.ty)) ++ [32, 61, 32]) = x2 at *
     generalize B8 ((((([102, 101, 97, 116, 117, 114, 101, 32] ++ f.nm.data.toList) ++ [32, 111, 102, 32]) ++ f.en.data.toList) ++ [58, 32]) ++ (tyT f.ty)) = x3 at *
     generalize B8 (((([102, 101, 97, 116, 117, 114, 101, 32] ++ f.nm.data.toList) ++ [32, 111, 102, 32]) ++ f.en.data.toList) ++ [58, 32]) = x4 at *
     generalize B8 ((([102, 101, 97, 116, 117, 114, 101, 32] ++ f.nm.data.toList) ++ [32, 111, 102, 32]) ++ f.en.data.toList) = x5 at *
     generalize B8 (([102, 101, 97, 116, 117, 114, 101, 32] ++ f.nm.data.toList) ++ [32, 111, 102, 32]) = x6 at *
     generalize B8 ([102, 101, 97, 116, 117, 114, 101, 32] ++ f.nm.data.toList) = x7 at *
     generalize B8 (tyT f.ty) = x8 at *
     generalize B8 (txE f.bo) = x9 at *
     have a0 := G.out.cell 0
     simp only [List.getElem?_toArray, List.getElem?_cons_zero] at a0
     have a1 := G.out.cell 1
     simp only [List.getElem?_toArray, List.getElem?_cons_zero, List.getElem?_cons_succ] at a1
     go_wp2_with fail
     go_ret2
     exact tx_of hF.out hI.out.symm B4.out
end Go.Proofs.YtbahfelnbofjjaaGreatDoor.ch
namespace Go.Proofs.YtbahfelnbofjjaaGreatDoor.ch
open Go.RowKit dec
def moC (ta : Option Addr) (tn tc : Nat) (ga : Option Addr) (gn gc : Nat) : Array Value := #[.slice ta tn tc, .slice ga gn gc]
def acT {α : Type} (t : α → List UInt8) (l : List α) : List UInt8 := (l.map fun x => t x ++ [10]).flatten
theorem acT_next {α : Type} (t : α → List UInt8) {l : List α} {j : Nat} (h : j < l.length) : acT t (l.take (j + 1)) = (acT t (l.take j) ++ t l[j]) ++ [10] := by
 unfold acT
 rw [List.take_succ_eq_append_getElem h, List.map_append, List.flatten_append]
 simp
theorem lnR_drop {α : Type} (e : α → Int) (t : α → List UInt8) : ∀ (l : List α) (j : Nat), j ≤ l.length → (∀ x ∈ l.take j, e x = 0) → lnR e t l = if (lnR e t (l.drop j)).1 ≠ 0 then ((lnR e t (l.drop j)).1, []) else (0, acT t (l.take j) ++ (lnR e t (l.drop j)).2)
 | l, 0, _, _ => by
  rw [List.drop_zero]
  have h : ∀ l : List α, (lnR e t l).1 ≠ 0 → (lnR e t l).2 = [] := by
   intro l
   cases l with
   | nil => intro h; exact absurd rfl h
   | cons x r =>
    intro h
    unfold lnR at h ⊢
    split
    ·rfl
    ·split
     ·rfl
     ·rename_i h1 h2
      rw [if_neg h1, if_neg h2] at h
      exact absurd rfl h
  by_cases h0 : (lnR e t l).1 ≠ 0
  ·rw [if_pos h0, ← h l h0]
  ·rw [if_neg h0]
   have : (lnR e t l).1 = 0 := Decidable.not_not.1 h0
   show lnR e t l = (0, [] ++ (lnR e t l).2)
   rw [List.nil_append, ← this]
 | [], j + 1, h, _ => by simp at h
 | x :: r, j + 1, h, hx => by
  have h0 : e x = 0 := hx x (by simp)
  have ih := lnR_drop e t r j (by simpa using h) (fun y hy => hx y (by simp [hy]))
  rw [List.drop_succ_cons, List.take_succ_cons]
  show (if e x ≠ 0 then (e x, []) else if (lnR e t r).1 ≠ 0 then ((lnR e t r).1, []) else (0, t x ++ 10 :: (lnR e t r).2)) = _
  rw [if_neg (by rw [h0]; decide), ih]
  by_cases h1 : (lnR e t (r.drop j)).1 ≠ 0
  ·rw [if_pos h1, if_pos h1]
   simp only
   rw [if_pos h1]
  ·rw [if_neg h1, if_neg h1]
   simp only
   rw [if_neg (by decide)]
   unfold acT
   simp
theorem lnR_hit {α : Type} (e : α → Int) (t : α → List UInt8) {l : List α} {j : Nat} (h : j < l.length) (hx : ∀ x ∈ l.take j, e x = 0) (h0 : e l[j] ≠ 0) : lnR e t l = (e l[j], []) := by
 rw [lnR_drop e t l j (Nat.le_of_lt h) hx, List.drop_eq_getElem_cons h]
 have : lnR e t (l[j] :: l.drop (j + 1)) = (e l[j], []) := by unfold lnR; rw [if_pos h0]
 rw [this]
 simp only
 rw [if_pos h0]
theorem lnR_all {α : Type} (e : α → Int) (t : α → List UInt8) {l : List α} (hx : ∀ x ∈ l, e x = 0) : lnR e t l = (0, acT t l) := by
 rw [lnR_drop e t l l.length (Nat.le_refl _) (by rw [List.take_length]; exact hx), List.drop_length, List.take_length]
 show (0, acT t l ++ []) = _
 rw [List.append_nil]
theorem take_ok {α : Type} {e : α → Int} {l : List α} {j : Nat} (h : j < l.length) (hx : ∀ x ∈ l.take j, e x = 0) (h0 : e l[j] = 0) : ∀ x ∈ l.take (j + 1), e x = 0 := by
 intro x hm
 rw [List.take_succ_eq_append_getElem h] at hm
 rcases List.mem_append.1 hm with hm | hm
 ·exact hx x hm
 ·rw [List.mem_singleton] at hm
  rw [hm]
  exact h0
theorem acT_len {α : Type} (t : α → List UInt8) (k : Nat) : ∀ l : List α, (∀ x ∈ l, (t x).length ≤ k) → (acT t l).length ≤ (k + 1) * l.length
 | [], _ => Nat.zero_le _
 | x :: l, h => by
  have h1 := h x (List.mem_cons_self ..)
  have h2 := acT_len t k l fun y hy => h y (List.mem_cons_of_mem _ hy)
  have e : acT t (x :: l) = (t x ++ [10]) ++ acT t l := rfl
  rw [e, List.length_append, List.length_append]
  simp only [List.length_cons, List.length_nil, Nat.mul_add]
  omega
structure Mv' (w : World) (ta : Option Addr) (tc : Nat) (ga : Option Addr) (gc : Nat) (ts : List Tb) (gs : List Fe) : Prop where
 t : Tbs' w ta ts.length tc ts
 g : Fes w ga gs.length gc gs
 tz : ∀ t ∈ ts, t.sz
 gz : ∀ f ∈ gs, f.sz
 tl : ts.length ≤ 20
 gl : gs.length ≤ 20
theorem Mv'.keeps {w w' : World} {ta : Option Addr} {tc : Nat} {ga : Option Addr} {gc : Nat} {ts : List Tb} {gs : List Fe} (h : Mv' w ta tc ga gc ts gs) (hb : Below w.heap.size w w') : Mv' w' ta tc ga gc ts gs := { h with t := Tbs'.keeps h.t hb, g := Fes.keeps h.g hb }
theorem infMo : (Tryz.prog.info? 43).map (·.size) = some 2 := by kernel_rfl
theorem pfE_zero {f : Fe} (h : pfE f = 0) : name f.nm = true ∧ name f.en = true ∧ tyE f.ty = 0 ∧ shE f.bo = 0 := by
 unfold pfE at h
 by_cases h1 : name f.nm = false
 ·rw [if_pos h1] at h; cases h
 ·by_cases h2 : name f.en = false
  ·rw [if_neg h1, if_pos h2] at h; cases h
  ·rw [if_neg h1, if_neg h2] at h
   by_cases h3 : tyE f.ty ≠ 0
   ·rw [if_pos h3] at h; exact absurd h h3
   ·rw [if_neg h3] at h
    exact ⟨by simpa using h1, by simpa using h2, Decidable.not_not.1 h3, h⟩
theorem txO_ok {e : Int} (h : e = 0) (t : List UInt8) : txO e t = B8 t := if_pos h
theorem txO_no {e : Int} (h : e ≠ 0) (t : List UInt8) : txO e t = .empty := if_neg h
theorem rmod11_any (ts : List Tb) (gs : List Fe) (ta ga : Option Addr) (tc gc : Nat) (w : World) (hM : Mv' w ta tc ga gc ts gs) : Calls Tryz.prog 25 #[.agg (moC ta ts.length tc ga gs.length gc)] w (Tx (txO (moR ts gs).1 (moR ts gs).2) (moR ts gs).1 w) := by
 have bb := balloc (b0 w) (.cells (moC ta ts.length tc ga gs.length gc) 43)
 have B0 := Lib.hid bb
 have G := Lib.hid (Blk.new w 43 (moC ta ts.length tc ga gs.length gc))
 have HM := Lib.hid (hM.keeps bb)
 have HR := Lib.hid (show moR ts gs = if (lnR tbE tbT ts).1 ≠ 0 then ((lnR tbE tbT ts).1, []) else if (lnR pfE feT gs).1 ≠ 0 then ((lnR pfE feT gs).1, []) else if 16384 < ((lnR tbE tbT ts).2 ++ (lnR pfE feT gs).2).length then (2, []) else (0, (lnR tbE tbT ts).2 ++ (lnR pfE feT gs).2) from rfl)
 clear bb hM
 generalize moR ts gs = MR at *
 unfold moC at *
 go_enter Tryz.func25, Tryz.ntmps25
 go_upto_region 1 with fail
 generalize hw0 : (w.alloc (.cells #[.slice ta ts.length tc, .slice ga gs.length gc] 43)) = w0 at *
 generalize hg2 : w.heap.size = g2 at G ⊢
 clear hw0 hg2
 go_wp2_with fail
 go_loopw [4, 5] (fun vs vi wr => ∃ j : Nat, vs = .string (B8 (acT tbT (ts.take j))) ∧ vi = .int .i64 (j : Nat) ∧ Hid (j ≤ ts.length) ∧ Hid (∀ x ∈ ts.take j, tbE x = 0) ∧ Hid (Below w0.heap.size w0 wr)) (fun _ vi _ => ts.length - (intOf vi).toNat)
 case atStart => exact ⟨0, rfl, rfl, Lib.hid (Nat.zero_le _), Lib.hid (fun x hx => by cases hx), Lib.hid (b0 w0)⟩
 case round =>
  obtain ⟨j, rfl, rfl, hj, hz, hb⟩ := hrel
  have Bw := Lib.hid (bnext B0.out hb.out)
  replace G := Lib.hid (G.out.keeps hb.out)
  replace HM := Lib.hid (HM.out.keeps hb.out)
  have c0 := G.out.cell 0
  simp only [List.getElem?_toArray, List.getElem?_cons_zero] at c0
  by_cases hlt : j < ts.length
  ·have q1 : decide ((j : Int) < (ts.length : Int)) = true := decide_eq_true (by omega)
   have i1 : (j : Int) < (ts.length : Int) := by omega
   have htl := HM.out.tl
   have f4 := Lib.hid (next_at (j := j) (by omega))
   obtain ⟨bk, off, rfl, hC⟩ := HM.out.t.hat.resolve_left (by omega)
   obtain ⟨cs, hcs, R1, xa, xc, rfl, F1⟩ := hC j hlt
   replace R1 := Lib.hid R1
   have CT := Lib.hid (rtab11_any ts[j] xa xc wr F1)
   have hal := acT_len tbT 4000 (ts.take j) (fun x hx => tbT_len (hz.out x hx))
   rw [List.length_take, Nat.min_eq_left (Nat.le_of_lt hlt)] at hal
   have hal2 : (acT tbT (ts.take j)).length ≤ 100000 := by have : 4001 * j ≤ 4001 * 20 := Nat.mul_le_mul_left _ (by omega); omega
   have hnx := Lib.hid (acT_next tbT hlt)
   have hlt2 := Lib.hid hlt
   have hHit := Lib.hid (fun h0 => lnR_hit tbE tbT hlt hz.out h0)
   have hTk := Lib.hid (fun h0 => take_ok (e := tbE) hlt hz.out h0)
   have hTL := Lib.hid (fun (h0 : tbE ts[j] = 0) => tbT_len h0)
   generalize hPP : acT tbT (ts.take j) = PP at *
   clear hC hj hz hcs hal htl F1 hPP
   generalize hx : ts[j] = x at *
   clear hx
   go_wp2_with (refine arm_mid infTb Tryz.underlying48 rfl (.tmp 22) rfl rfl bk (off + j * 4) (tbC x xa xc) rfl R1.out rfl ?_)
   refine CT.out.mono ?_
   rintro e w1 ⟨rfl, b1⟩
   have B1 := Lib.hid (bnext Bw.out b1)
   have hb1 := Lib.hid (bnext hb.out b1)
   clear b1 CT c0
   by_cases h0 : tbE x ≠ 0
   ·have q : (tbE x != 0) = true := by simp [h0]
    have hh := hHit.out h0
    have hR := Lib.hid (show MR = (tbE x, []) by rw [HR.out, hh, if_pos h0])
    replace h0 := Lib.hid h0
    clear hh HR hHit hTk hTL
    generalize tbE x = ex at *
    go_wp2_with fail
    go_ret2
    exact tx_of (by rw [hR.out, txO_no h0.out]; rfl) (by rw [hR.out]) B1.out
   ·have h00 : tbE x = 0 := Decidable.not_not.1 h0
    have q : (tbE x != 0) = false := by rw [h00]; rfl
    have hl := hTL.out h00
    have hk := Lib.hid (hTk.out h00)
    rw [txO_ok h00]
    have A1 := add_b8 (PP) ((tbT x)) (by first | omega | (simp only [List.length_append]; omega) | (simp only [List.length_cons, List.length_nil]; omega) | (simp only [List.length_cons, List.length_append, List.length_nil]; omega) | decide) (by first | omega | (simp only [List.length_append]; omega) | (simp only [List.length_cons, List.length_nil]; omega) | (simp only [List.length_cons, List.length_append, List.length_nil]; omega) | decide)
    replace A1 : ∀ W, (Op.stringOp .add (B8 PP) (B8 (tbT x))).run Tryz.prog W = .ok (.string (B8 (PP ++ (tbT x)))) W := A1
    have A2 := add_b8 ((PP ++ (tbT x))) ([10]) (by first | omega | (simp only [List.length_append]; omega) | (simp only [List.length_cons, List.length_nil]; omega) | (simp only [List.length_cons, List.length_append, List.length_nil]; omega) | decide) (by first | omega | (simp only [List.length_append]; omega) | (simp only [List.length_cons, List.length_nil]; omega) | (simp only [List.length_cons, List.length_append, List.length_nil]; omega) | decide)
    replace A2 : ∀ W, (Op.stringOp .add (B8 (PP ++ (tbT x))) ⟨#[10]⟩).run Tryz.prog W = .ok (.string (B8 ((PP ++ (tbT x)) ++ [10]))) W := A2
    clear h0 h00 hl hHit hTk hTL hal2
    generalize tbE x = ex at *
    generalize hx1 : B8 (PP ++ (tbT x)) = x1 at *
    generalize hx2 : B8 ((PP ++ (tbT x)) ++ [10]) = x2 at *
    generalize hx3 : B8 PP = x3 at *
    generalize hx4 : B8 (tbT x) = x4 at *
    replace hx2 := Lib.hid hx2
    clear hx1 hx3 hx4
    go_wp2_with fail
    exact ⟨⟨j + 1, congrArg Value.string (by rw [hnx.out, hx2.out]), congrArg (Value.int .i64) f4.out, hlt2, hk, hb1⟩, less_at hlt2.out f4.out⟩
  ·have q1 : decide ((j : Int) < (ts.length : Int)) = false := decide_eq_false (by omega)
   have hz' : ∀ x ∈ ts, tbE x = 0 := by have := hz.out; rwa [List.take_of_length_le (by omega : ts.length ≤ j)] at this
   have h1 := lnR_all tbE tbT hz'
   rw [List.take_of_length_le (by omega : ts.length ≤ j)]
   have htl := HM.out.tl
   have hal := acT_len tbT 4000 ts (fun x hx => tbT_len (hz' x hx))
   have hal2 := Lib.hid (show (acT tbT ts).length ≤ 100000 by have : 4001 * ts.length ≤ 4001 * 20 := Nat.mul_le_mul_left _ htl; omega)
   replace HR := Lib.hid (show MR = if (lnR pfE feT gs).1 ≠ 0 then ((lnR pfE feT gs).1, []) else if 16384 < (acT tbT ts ++ (lnR pfE feT gs).2).length then (2, []) else (0, acT tbT ts ++ (lnR pfE feT gs).2) by rw [HR.out, h1, if_neg (fun h => h rfl)])
   clear hz hz' h1 htl hal hj hb
   generalize acT tbT ts = S0 at *
   go_wp2_with fail
   go_loopw [4, 8] (fun vs vi wx => ∃ i : Nat, vs = .string (B8 (S0 ++ acT feT (gs.take i))) ∧ vi = .int .i64 (i : Nat) ∧ Hid (i ≤ gs.length) ∧ Hid (∀ x ∈ gs.take i, pfE x = 0) ∧ Hid (Below wr.heap.size wr wx)) (fun _ vi _ => gs.length - (intOf vi).toNat)
   case atStart => exact ⟨0, congrArg (fun l => Value.string (B8 l)) (List.append_nil _).symm, rfl, Lib.hid (Nat.zero_le _), Lib.hid (fun x hx => by cases hx), Lib.hid (b0 wr)⟩
   case round =>
    obtain ⟨i, rfl, rfl, hj, hz, hb⟩ := hrel
    replace Bw := Lib.hid (bnext Bw.out hb.out)
    replace G := Lib.hid (G.out.keeps hb.out)
    replace HM := Lib.hid (HM.out.keeps hb.out)
    clear c0
    have c1 := G.out.cell 1
    simp only [List.getElem?_toArray, List.getElem?_cons_zero, List.getElem?_cons_succ] at c1
    by_cases hlt : i < gs.length
    ·have q1 : decide ((i : Int) < (gs.length : Int)) = true := decide_eq_true (by omega)
     have i1 : (i : Int) < (gs.length : Int) := by omega
     have htl := HM.out.gl
     have f4 := Lib.hid (next_at (j := i) (by omega))
     obtain ⟨bk, off, rfl, hC⟩ := HM.out.g.hat.resolve_left (by omega)
     obtain ⟨cs, hcs, R1, xa, xc, va, vc, wa, wc, rfl, U1, E1⟩ := hC i hlt
     replace R1 := Lib.hid R1
     have hfz := HM.out.gz _ (List.getElem_mem hlt)
     have CT := Lib.hid (rfea11_any gs[i] xa va wa xc vc wc _ hfz U1 E1)
     have hal := acT_len feT 1000000 (gs.take i) (fun x hx => (by obtain ⟨y1, y2, y3, y4⟩ := pfE_zero (hz.out x hx); exact feT_len y1 y2 y3 y4 (HM.out.gz x (List.mem_of_mem_take hx)).few))
     rw [List.length_take, Nat.min_eq_left (Nat.le_of_lt hlt)] at hal
     have hal3 : (acT feT (gs.take i)).length ≤ 30000000 := by have : 1000001 * i ≤ 1000001 * 20 := Nat.mul_le_mul_left _ (by omega); omega
     have hnx := Lib.hid (acT_next feT hlt)
     have hlt2 := Lib.hid hlt
     have hHit := Lib.hid (fun h0 => lnR_hit pfE feT hlt hz.out h0)
     have hTk := Lib.hid (fun h0 => take_ok (e := pfE) hlt hz.out h0)
     have hTL := Lib.hid (fun (h0 : pfE gs[i] = 0) => (by obtain ⟨y1, y2, y3, y4⟩ := pfE_zero h0; exact feT_len y1 y2 y3 y4 hfz.few : (feT gs[i]).length ≤ 1000000))
     generalize hPP : acT feT (gs.take i) = PP at *
     have hPl2 : S0.length + PP.length ≤ 40000000 := by have := hal2.out; omega
     have hPl : (S0 ++ PP).length ≤ 40000000 := by rw [List.length_append]; exact hPl2
     clear hC hj hz hcs hal hal3 htl U1 E1 hPP hfz
     generalize hx : gs[i] = x at *
     clear hx
     go_wp2_with (refine arm_mid infFe Tryz.underlying51 rfl (.tmp 45) rfl rfl bk (off + i * 18) (feC x xa xc va vc wa wc) rfl R1.out rfl ?_)
     refine CT.out.mono ?_
     rintro e w1 ⟨rfl, b1⟩
     have B1 := Lib.hid (bnext Bw.out b1)
     have hb1 := Lib.hid (bnext hb.out b1)
     clear b1 CT c1
     by_cases h0 : pfE x ≠ 0
     ·have q : (pfE x != 0) = true := by simp [h0]
      have hh := hHit.out h0
      have hR := Lib.hid (show MR = (pfE x, []) by rw [HR.out, hh, if_pos h0])
      replace h0 := Lib.hid h0
      clear hh HR hHit hTk hTL hPl hPl2
      generalize pfE x = ex at *
      go_wp2_with fail
      go_ret2
      exact tx_of (by rw [hR.out, txO_no h0.out]; rfl) (by rw [hR.out]) B1.out
     ·have h00 : pfE x = 0 := Decidable.not_not.1 h0
      have q : (pfE x != 0) = false := by rw [h00]; rfl
      have hl := hTL.out h00
      have hk := Lib.hid (hTk.out h00)
      rw [txO_ok h00]
      have A1 := add_b8 ((S0 ++ PP)) ((feT x)) (by first | omega | (simp only [List.length_append]; omega) | (simp only [List.length_cons, List.length_nil]; omega) | (simp only [List.length_cons, List.length_append, List.length_nil]; omega) | decide) (by first | omega | (simp only [List.length_append]; omega) | (simp only [List.length_cons, List.length_nil]; omega) | (simp only [List.length_cons, List.length_append, List.length_nil]; omega) | decide)
      replace A1 : ∀ W, (Op.stringOp .add (B8 (S0 ++ PP)) (B8 (feT x))).run Tryz.prog W = .ok (.string (B8 ((S0 ++ PP) ++ (feT x)))) W := A1
      have A2 := add_b8 (((S0 ++ PP) ++ (feT x))) ([10]) (by first | omega | (simp only [List.length_append]; omega) | (simp only [List.length_cons, List.length_nil]; omega) | (simp only [List.length_cons, List.length_append, List.length_nil]; omega) | decide) (by first | omega | (simp only [List.length_append]; omega) | (simp only [List.length_cons, List.length_nil]; omega) | (simp only [List.length_cons, List.length_append, List.length_nil]; omega) | decide)
      replace A2 : ∀ W, (Op.stringOp .add (B8 ((S0 ++ PP) ++ (feT x))) ⟨#[10]⟩).run Tryz.prog W = .ok (.string (B8 (((S0 ++ PP) ++ (feT x)) ++ [10]))) W := A2
      clear h0 h00 hl hHit hTk hTL hPl hPl2
      generalize pfE x = ex at *
      generalize hx1 : B8 ((S0 ++ PP) ++ (feT x)) = x1 at *
      generalize hx2 : B8 (((S0 ++ PP) ++ (feT x)) ++ [10]) = x2 at *
      generalize hx3 : B8 (S0 ++ PP) = x3 at *
      generalize hx4 : B8 (feT x) = x4 at *
      replace hx2 := Lib.hid hx2
      clear hx1 hx3 hx4
      go_wp2_with fail
      exact ⟨⟨i + 1, congrArg Value.string (by rw [hnx.out, ← List.append_assoc, ← List.append_assoc, hx2.out]), congrArg (Value.int .i64) f4.out, hlt2, hk, hb1⟩, less_at hlt2.out f4.out⟩
    ·have q1 : decide ((i : Int) < (gs.length : Int)) = false := decide_eq_false (by omega)
     have hz' : ∀ x ∈ gs, pfE x = 0 := by have := hz.out; rwa [List.take_of_length_le (by omega : gs.length ≤ i)] at this
     have h1 := lnR_all pfE feT hz'
     rw [List.take_of_length_le (by omega : gs.length ≤ i)]
     replace HR := Lib.hid (show MR = if 16384 < (S0 ++ acT feT gs).length then (2, []) else (0, S0 ++ acT feT gs) by rw [HR.out, h1, if_neg (fun h => h rfl)])
     clear hz hz' h1 hj hb hal2
     generalize S0 ++ acT feT gs = SS at *
     have hsz : (B8 SS).size = SS.length := B8_size _
     generalize hss : B8 SS = ss at *
     obtain ⟨bl, hbl⟩ : ∃ bl : Bool, bl = decide (16384 < SS.length) := ⟨_, rfl⟩
     have q2 : decide ((16384 : Int) < (ss.size : Int)) = bl := by rw [hbl, hsz]; exact decide_eq_decide.2 (by omega)
     have q3 : decide (16384 < ss.size) = bl := by rw [hbl, hsz]
     replace hbl := Lib.hid hbl
     replace hss := Lib.hid hss
     clear hsz
     cases bl
     ·have hR := Lib.hid (show MR = (0, SS) by rw [HR.out, if_neg (by have := hbl.out; simp at this; omega)])
      go_wp2_with fail
      go_ret2
      exact tx_of (by rw [hR.out, txO_ok rfl, hss.out]) (by rw [hR.out]) Bw.out
     ·have hR := Lib.hid (show MR = (2, []) by rw [HR.out, if_pos (by have := hbl.out; simpa using this)])
      go_wp2_with fail
      go_ret2
      exact tx_of (by rw [hR.out, txO_no (show ¬ ((2 : Int), ([] : List UInt8)).1 = 0 by decide)]; rfl) (by rw [hR.out]) Bw.out
end Go.Proofs.YtbahfelnbofjjaaGreatDoor.ch
namespace Go.Proofs.YtbahfelnbofjjaaGreatDoor.ch
open Go.RowKit dec
abbrev TB : TypeId := 151
abbrev TU : TypeId := 5
theorem sizeB : (Tryz.prog.info? TB).map (·.size) = some 2 := by kernel_rfl
theorem sizeB' : ∃ j, Tryz.prog.info? TB = some j ∧ j.size ≠ 0 := by
 have h := sizeB
 cases hi : Tryz.prog.info? TB with
 | none => rw [hi] at h; cases h
 | some j =>
  rw [hi] at h
  have : j.size = 2 := Option.some.inj h
  exact ⟨j, rfl, by omega⟩
theorem liesB : liesAt Tryz.prog Tryz.prog.depth TB (2 / Tryz.prog.cellsOf TB) 0 TB 1 = true := by kernel_rfl
def Bu (B b : Nat) (l : List UInt8) (w : World) : Prop := Lib.IsBuilder TB TU B b (un.bv l) w
theorem own_keeps {w w1 : World} {B : Nat} {v : Value} {n : Nat} {cs : List Value} (h : w.ownsRow B TU 1 v n cs) (hb : Below w.heap.size w w1) : w1.ownsRow B TU 1 v n cs := by
 obtain ⟨h1, h2⟩ := h
 refine ⟨h1, ?_⟩
 rcases h2 with h0 | ⟨g, cap, cur, e, hbg, hh, r⟩
 ·exact .inl h0
 ·refine .inr ⟨g, cap, cur, e, hbg, ?_, r⟩
  have : g < w.heap.size := by
   rcases Nat.lt_or_ge g w.heap.size with h' | h'
   ·exact h'
   ·rw [Array.getElem?_eq_none h'] at hh; cases hh
  rw [hb.block _ this]
  exact hh
theorem builder_keeps {w w1 : World} {B b : Nat} {p : Value} {bs : List Value} (h : Lib.BuilderAt TB TU B b p bs w) (hb : Below w.heap.size w w1) : Lib.BuilderAt TB TU B b p bs w1 := by
 have hlt := h.lt
 obtain ⟨h1, v, h2, h3, h4⟩ := h
 exact ⟨h1, v, by rw [hb.block _ hlt]; exact h2, own_keeps h3 hb, h4⟩
theorem Bu.keeps {w w1 : World} {B b : Nat} {l : List UInt8} (h : Bu B b l w) (hb : Below w.heap.size w w1) : Bu B b l w1 := h.imp (fun k => builder_keeps k hb) (fun k => builder_keeps k hb)
theorem copy_used (b : Nat) (w : World) (h0 : w.cell? ⟨b, 0, none⟩ = some (.pointer (some ⟨b, 0, none⟩))) :
  Calls Tryz.prog 166 #[.pointer (some ⟨b, 0, none⟩)] w fun e w' => e = .returned (.tuple #[]) ∧ w' = w := by
 obtain ⟨j, hj, _⟩ := sizeB'
 go_enter Tryz.func166, Tryz.ntmps166
 go_wp2
 rw [Lib.run_neq_ptr_same w _ Tryz.underlying149 hj]
 go_wp2
 go_end0
 exact ⟨rfl, rfl⟩
theorem copy_fresh (b : Nat) (w : World) (h0 : w.cell? ⟨b, 0, none⟩ = some (.pointer none)) (hsh : w.shape? b = some (TB, 2)) (hfz : w.frozen? ⟨b, 0, none⟩ = false) :
  Calls Tryz.prog 166 #[.pointer (some ⟨b, 0, none⟩)] w fun e w' => e = .returned (.tuple #[]) ∧ w' = w.setCell ⟨b, 0, none⟩ (.pointer (some ⟨b, 0, none⟩)) := by
 obtain ⟨j, hj, hjs⟩ := sizeB'
 go_enter Tryz.func166, Tryz.ntmps166
 go_wp2
 rw [Lib.run_to_unsafe w ⟨b, 0, none⟩ Tryz.underlying149 Tryz.underlying239 hj hjs hsh (Nat.zero_lt_succ 1)]
 simp only [Result.andThen]
 rw [Oper.upon_value]
 go_wp2
 rw [run_callFunc_extern Tryz.func236 (by kernel_rfl) (by kernel_rfl) (by kernel_rfl) (e := Extern.AbiNoEscape.same) (by kernel_rfl)]
 rw [Lib.run_noEscape]
 simp only [Result.andThen]
 rw [Oper.upon_value]
 go_wp2
 rw [Lib.run_from_unsafe w ⟨b, 0, none⟩ Tryz.underlying239 Tryz.underlying149 hj hsh liesB]
 simp only [Result.andThen]
 rw [Oper.upon_value]
 go_wp2
 go_end0
 exact ⟨rfl, rfl⟩
theorem copy_any (B b : Nat) (bs : List Value) (w : World) (h : Lib.IsBuilder TB TU B b bs w) :
  Calls Tryz.prog 166 #[.pointer (some ⟨b, 0, none⟩)] w fun e w' => e = .returned (.tuple #[]) ∧ Lib.BuilderAt TB TU B b (.pointer (some ⟨b, 0, none⟩)) bs w' ∧ Below B w w' := by
 rcases h with h | h
 ·refine (copy_fresh b w h.cell0 h.shape h.frozen0).mono ?_
  rintro e w' ⟨rfl, rfl⟩
  exact ⟨rfl, h.used _, (Below.refl B w).setCell (p := ⟨b, 0, none⟩) h.1 _⟩
 ·refine (copy_used b w h.cell0).mono ?_
  rintro e w' ⟨rfl, rfl⟩
  exact ⟨rfl, h, Below.refl B _⟩
theorem write_any (B b : Nat) (l : List UInt8) (s : ByteArray) (w : World) (h : Bu B b l w) (hl : l.length + s.size ≤ 140737488355328) (hB : B ≤ w.heap.size) :
  Calls Tryz.prog 117 #[.pointer (some ⟨b, 0, none⟩), .string s] w fun e w' => e = .returned (.tuple #[.int .i64 s.size, .nilIface]) ∧ Bu B b (l ++ s.data.toList) w' ∧ Below B w w' := by
 have C := Lib.hid (copy_any B b _ w h)
 clear h
 go_enter Tryz.func117, Tryz.ntmps117
 go_wp2_with fail
 refine C.out.mono ?_
 rintro e w1 ⟨rfl, ⟨k1, v, k2, k3, k4⟩, b1⟩
 have c1 : w1.cell? ⟨b, 1, none⟩ = some v := by rw [Lib.cell_of_heap k2]; rfl
 have K2 := Lib.hid k2
 have K3 := Lib.hid k3
 have K4 := Lib.hid k4
 have B1 := Lib.hid b1
 have hs1 := Lib.hid (show B ≤ w1.heap.size by have := b1.size; omega)
 have hbl := un.bv_len l
 have HL := Lib.hid (show (un.bv l).length + s.size ≤ 140737488355328 by omega)
 obtain ⟨i, hi, hz0, hz1, hz2⟩ := info_parts un.infoU
 have KB := Lib.hid k1
 clear k1 k2 k3 k4 b1 C hl hbl
 go_wp2_with (at_builtin; refine Lib.wpList_append_own_string _ rfl (.tmp 12) (.tmp 13) 56 9 rfl B TU i Tryz.underlying56 Tryz.underlying9 hi hz0 hz1 hz2 _ _ _ rfl K3.out s rfl (by have := HL.out; unfold maxLen; omega) HL.out hs1.out ?_)
 intro vn w2 O2 hg _
 have hlt : b < w1.heap.size := Lib.BuilderAt.lt (T := TB) (e := TU) ⟨KB.out, v, K2.out, K3.out, K4.out⟩
 have hb2 : w2.heap[b]? = some (.cells #[.pointer (some ⟨b, 0, none⟩), v] TB (0, 0)) := by
  rw [hg.block b hlt (fun e => K4.out e.symm)]
  exact K2.out
 have d0 : w2.cell? ⟨b, 0, none⟩ = some (.pointer (some ⟨b, 0, none⟩)) := by rw [Lib.cell_of_heap hb2]; rfl
 have d1 : w2.cell? ⟨b, 1, none⟩ = some v := by rw [Lib.cell_of_heap hb2]; rfl
 have f1 : w2.frozen? ⟨b, 1, none⟩ = false := Lib.frozen_of_heap hb2 1
 obtain ⟨ao, n', cap, rfl⟩ : ∃ ao n' cap, vn = .slice ao n' cap := by
  rcases O2.2 with ⟨hv, _⟩ | ⟨g, cap, cur, hv, _⟩
  ·exact ⟨_, _, _, hv⟩
  ·exact ⟨_, _, _, hv⟩
 have hR := Lib.hid (Lib.BuilderAt.put (T := TB) (e := TU) KB.out hb2 (bs' := un.bv (l ++ s.data.toList)) (by rw [un.bv_append, List.length_append, ← un.strCells_bv, Lib.strCells_length]; exact O2) (by decide))
 have hW := Lib.hid ((B1.out.grown hg hs1.out (fun k hk => (K3.out.lt k hk).1)).setCell (p := ⟨b, 1, none⟩) KB.out (.slice ao n' cap))
 clear O2 hg hb2 hlt
 go_wp2_with fail
 go_ret2
 exact ⟨rfl, .inr hR.out, hW.out⟩
theorem bu_new (w : World) : Bu w.heap.size w.heap.size [] (w.alloc (.cells #[.pointer none, .slice none 0 0] TB)) := Lib.fresh_isBuilder TB TU w
theorem build_any (B b : Nat) (l : List UInt8) (w : World) (h : Bu B b l w) (hB : B ≤ w.heap.size) :
  Calls Tryz.prog 118 #[.pointer (some ⟨b, 0, none⟩)] w fun e w' => e = .returned (.string (B8 l)) ∧ Below B w w' := Tryz.Builder_String_any B b l w h hB
end Go.Proofs.YtbahfelnbofjjaaGreatDoor.ch
