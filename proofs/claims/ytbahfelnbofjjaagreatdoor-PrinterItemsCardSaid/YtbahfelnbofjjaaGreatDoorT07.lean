/-
  A map of functions that the call makes and fills at the keys 1, 2, ..: the laws at its operations; checker.hasOnly: an expression has a number of operands, and what another one has; The rules of proper form of the kinds of expressions, in the program; The rules of aggregates and literals, in the program.
-/
import Derived.ChangeMaps5
import Derived.MapKept
import Derived.Carry
import Derived.OwnWalk
import Derived.Test.YtbahfelnbofjjaaGreatDoorT02
import Derived.Test.YtbahfelnbofjjaaGreatDoorT03
import Derived.Test.YtbahfelnbofjjaaGreatDoorT06
set_option maxRecDepth 100000
set_option maxHeartbeats 16000000
namespace Go.Proofs.YtbahfelnbofjjaaGreatDoor.ch
open Go.RowKit Go.ChangeMaps dec
def ents (vs : List Value) : List MapEntry := vs.zipIdx.map fun p => ⟨.int .i64 ((p.2 + 1 : Nat) : Int), p.1, p.2⟩
theorem ents_append (vs : List Value) (v : Value) : ents (vs ++ [v]) = ents vs ++ [⟨.int .i64 ((vs.length + 1 : Nat) : Int), v, vs.length⟩] := by
 unfold ents
 rw [List.zipIdx_append, List.map_append]
 simp
theorem find_none (c : Int) : ∀ (l : List MapEntry) (i : Nat), (∀ e ∈ l, ∃ d, e.key = .int .i64 d ∧ d ≠ c) → Instr.findNow (.int .i64) (.int .i64 c) l i = some none
 | [], _, _ => rfl
 | e :: l, i, h => by
  obtain ⟨d, hd, hne⟩ := h e (List.mem_cons_self ..)
  have e1 : (c == d) = false := by rw [beq_eq_false_iff_ne]; exact fun h => hne h.symm
  unfold Instr.findNow
  rw [hd]
  simp only [Instr.sameNow, if_true, e1]
  exact find_none c l (i + 1) (fun x hx => h x (List.mem_cons_of_mem _ hx))
theorem find_some : ∀ (vs : List Value) (o i j : Nat) (v : Value), vs[j]? = some v → Instr.findNow (.int .i64) (.int .i64 ((o + j + 1 : Nat) : Int)) ((vs.zipIdx o).map fun p => ⟨.int .i64 ((p.2 + 1 : Nat) : Int), p.1, p.2⟩) i = some (some (i + j, v))
 | [], _, _, _, _, h => by cases h
 | x :: vs, o, i, 0, v, h => by
  obtain rfl : x = v := by simpa using h
  rw [List.zipIdx_cons, List.map_cons]
  unfold Instr.findNow
  simp [Instr.sameNow]
 | x :: vs, o, i, j + 1, v, h => by
  have e1 : (((o + (j + 1) + 1 : Nat) : Int) == ((o + 1 : Nat) : Int)) = false := by rw [beq_eq_false_iff_ne]; omega
  rw [List.zipIdx_cons, List.map_cons]
  unfold Instr.findNow
  simp only [Instr.sameNow, if_true, e1]
  have := find_some vs (o + 1) (i + 1) j v (by simpa using h)
  rw [show o + 1 + j + 1 = o + (j + 1) + 1 by omega, show i + 1 + j = i + (j + 1) by omega] at this
  exact this
theorem ents_key (vs : List Value) : ∀ e ∈ ents vs, ∃ j : Nat, j < vs.length ∧ e.key = .int .i64 ((j + 1 : Nat) : Int) := by
 intro e he
 simp only [ents, List.mem_map] at he
 obtain ⟨⟨v, j⟩, hj, rfl⟩ := he
 have := List.mem_zipIdx hj
 exact ⟨j, by omega, rfl⟩
def Mp (w : World) (b : Nat) (vs : List Value) : Prop := w.heap[b]? = some (.map (ents vs).toArray vs.length)
theorem Mp.made (w : World) : Mp (w.alloc (.map #[] 0)) w.heap.size [] := (MapKept.heap_alloc w _).1
theorem Mp.lt {w : World} {b : Nat} {vs : List Value} (h : Mp w b vs) : b < w.heap.size := (Array.getElem?_eq_some_iff.1 h).1
theorem Mp.below {S : Nat} {w w' : World} {b : Nat} {vs : List Value} (h : Mp w b vs) (M : Below S w w') (hS : b < S) : Mp w' b vs := (M.block b hS).trans h
theorem Mp.keeps {w w' : World} {b : Nat} {vs : List Value} (h : Mp w b vs) (M : Below w.heap.size w w') : Mp w' b vs := h.below M h.lt
theorem run_ins {M F : TypeId} (hM : Tryz.prog.underlying M = some (.map 3 F)) {w : World} {b : Nat} {vs : List Value} (h : Mp w b vs) (c : Int) (hc : c = ((vs.length + 1 : Nat) : Int)) (v : Value) :
  ∃ w', (Instr.mapUpdate M (.map (some b)) (.int .i64 c) v).run Tryz.prog w = .ok () w' ∧ Mp w' b (vs ++ [v]) ∧ St b w w' := by
 have hn : Instr.findNow (.int .i64) (.int .i64 c) (ents vs) 0 = some none := find_none _ _ _ fun e he => by
  obtain ⟨j, hj, hk⟩ := ents_key vs e he
  exact ⟨_, hk, by omega⟩
 refine ⟨setBlock w b (.map ((ents vs).toArray.push ⟨.int .i64 c, v, vs.length⟩) (vs.length + 1)), ?_, ?_, ⟨rfl, rfl, rfl, by simp [setBlock], fun i hi => heap_setBlock_other h _ (by omega)⟩⟩
 ·have hch := MapKept.run_checkKey (P := Tryz.prog) (w := w) (k := .int .i64 c) Tryz.underlying3 (show MapKept.IsKey (.int .i64) (.int .i64 c) from rfl) false 9999
  simp [Instr.mapUpdate, Instr.findKey, run_underlying hM, run_underlying Tryz.underlying3, MapKept.run_getObj_map h, hch, hn, MapKept.run_setObj_map _ h, Result.andThen, setBlock]
 ·unfold Mp
  rw [heap_setBlock_same h, ents_append, hc]
  simp
theorem run_look {M F : TypeId} (hM : Tryz.prog.underlying M = some (.map 3 F)) {w : World} {b : Nat} {vs : List Value} (h : Mp w b vs) (c : Int) (j : Nat) (hc : c = ((j + 1 : Nat) : Int)) (v : Value) (hv : vs[j]? = some v) :
  (Instr.lookup M (.map (some b)) (.int .i64 c) false).run Tryz.prog w = .ok v w := by
 have hf := find_some vs 0 0 j v hv
 rw [Nat.zero_add] at hf
 rw [← hc] at hf
 replace hf : Instr.findNow (.int .i64) (.int .i64 c) (ents vs) 0 = some (some (j, v)) := hf
 have hch := MapKept.run_checkKey (P := Tryz.prog) (w := w) (k := .int .i64 c) Tryz.underlying3 (show MapKept.IsKey (.int .i64) (.int .i64 c) from rfl) (ents vs).isEmpty 9999
 simp [Instr.lookup, Instr.findKey, run_underlying hM, run_underlying Tryz.underlying3, MapKept.run_getObj_map h, hch, hf, Result.andThen]
theorem run_lookOk {M F : TypeId} (hM : Tryz.prog.underlying M = some (.map 3 F)) {w : World} {b : Nat} {vs : List Value} (h : Mp w b vs) (c : Int) (j : Nat) (hc : c = ((j + 1 : Nat) : Int)) (v : Value) (hv : vs[j]? = some v) :
  (Instr.lookup M (.map (some b)) (.int .i64 c) true).run Tryz.prog w = .ok (.tuple #[v, .bool true]) w := by
 have hf := find_some vs 0 0 j v hv
 rw [Nat.zero_add] at hf
 rw [← hc] at hf
 replace hf : Instr.findNow (.int .i64) (.int .i64 c) (ents vs) 0 = some (some (j, v)) := hf
 have hch := MapKept.run_checkKey (P := Tryz.prog) (w := w) (k := .int .i64 c) Tryz.underlying3 (show MapKept.IsKey (.int .i64) (.int .i64 c) from rfl) (ents vs).isEmpty 9999
 simp [Instr.lookup, Instr.findKey, run_underlying hM, run_underlying Tryz.underlying3, MapKept.run_getObj_map h, hch, hf, Result.andThen]
theorem run_lookNo {M F : TypeId} (hM : Tryz.prog.underlying M = some (.map 3 F)) {w : World} {b : Nat} {vs : List Value} (h : Mp w b vs) (hz : ∀ w, (zeroValue F).run Tryz.prog w = .ok .nilFunc w) (c : Int) (hc : ¬ (1 ≤ c ∧ c ≤ (vs.length : Nat))) :
  (Instr.lookup M (.map (some b)) (.int .i64 c) true).run Tryz.prog w = .ok (.tuple #[.nilFunc, .bool false]) w := by
 have hn : Instr.findNow (.int .i64) (.int .i64 c) (ents vs) 0 = some none := find_none _ _ _ fun e he => by
  obtain ⟨j, hj, hk⟩ := ents_key vs e he
  exact ⟨_, hk, by omega⟩
 have hch := MapKept.run_checkKey (P := Tryz.prog) (w := w) (k := .int .i64 c) Tryz.underlying3 (show MapKept.IsKey (.int .i64) (.int .i64 c) from rfl) (ents vs).isEmpty 9999
 simp [Instr.lookup, Instr.findKey, run_underlying hM, run_underlying Tryz.underlying3, MapKept.run_getObj_map h, hch, hn, hz, Result.andThen]
theorem wpList_ins {M F : TypeId} (hM : Tryz.prog.underlying M = some (.map 3 F)) (w : World) {ops : Array Oper} {rest : List Oper} {o : Oper} {a : Act} {Q : Exit → Act → World → Prop}
  (hg : o.guard = none) (m x v : Operand) (hop : o.op = Op.insert M m x v) (b : Nat) (vs : List Value) (hm : a.eval m = .map (some b)) (hown : Mp w b vs)
  (c : Int) (hx : a.eval x = .int .i64 c) (hc : c = ((vs.length + 1 : Nat) : Int)) (val : Value) (hv : a.eval v = val)
  (hK : ∀ w', Mp w' b (vs ++ [val]) → St b w w' → wpList Tryz.prog ops Q rest (a.put o.dst undef) w') :
  wpList Tryz.prog ops Q (o :: rest) a w := by
 refine wpList_plain hg fun K' hK' => ?_
 obtain ⟨w', hrun, r1, r2⟩ := run_ins hM hown c hc val
 unfold Oper.wp
 simp [execOp, hop, hm, hx, hv, hrun, Result.andThen]
 exact hK' _ _ (hK w' r1 r2)
theorem kRules : Tryz.prog.underlying 181 = some (.map 3 71) := by kernel_rfl
theorem zRules (w : World) : (zeroValue 71).run Tryz.prog w = .ok .nilFunc w := by kernel_rfl
def ruF (f : FuncId) (p : Int) : Value := .func (.func f) #[.int .i64 p] #[]
def ruL (p : Int) : List Value := [ruF 207 p, ruF 208 p, ruF 209 p, ruF 210 p, ruF 211 p, ruF 212 p, ruF 213 p, ruF 214 p, ruF 215 p]
theorem rules_any (p : Int) (w : World) : Calls Tryz.prog 149 #[.int .i64 p] w fun e w' => ∃ b, e = .returned (.map (some b)) ∧ w.heap.size ≤ b ∧ Mp w' b (ruL p) ∧ Below w.heap.size w w' := by
 have hmm := @run_makeMap Tryz.prog
 have hmf : ∀ (fn : Fn) (first cap : Array Value) (w : World), (Instr.makeFunc fn first cap).run Tryz.prog w = .ok (.func fn first cap) w := fun _ _ _ _ => rfl
 go_enter Tryz.func149, Tryz.ntmps149
 go_wp2_with (first | (refine wpList_ins kRules _ rfl (.tmp 3) (.const _) (.tmp 5) rfl w.heap.size [] rfl (Mp.made w) 1 rfl rfl (ruF 207 p) rfl ?_; intro w1 M1 S1) | (refine wpList_ins kRules _ rfl (.tmp 3) (.const _) (.tmp 7) rfl w.heap.size ((ruL p).take 1) rfl M1 2 rfl rfl (ruF 208 p) rfl ?_; intro w2 M2 S2) | (refine wpList_ins kRules _ rfl (.tmp 3) (.const _) (.tmp 9) rfl w.heap.size ((ruL p).take 2) rfl M2 3 rfl rfl (ruF 209 p) rfl ?_; intro w3 M3 S3) | (refine wpList_ins kRules _ rfl (.tmp 3) (.const _) (.tmp 11) rfl w.heap.size ((ruL p).take 3) rfl M3 4 rfl rfl (ruF 210 p) rfl ?_; intro w4 M4 S4) | (refine wpList_ins kRules _ rfl (.tmp 3) (.const _) (.tmp 13) rfl w.heap.size ((ruL p).take 4) rfl M4 5 rfl rfl (ruF 211 p) rfl ?_; intro w5 M5 S5) | (refine wpList_ins kRules _ rfl (.tmp 3) (.const _) (.tmp 15) rfl w.heap.size ((ruL p).take 5) rfl M5 6 rfl rfl (ruF 212 p) rfl ?_; intro w6 M6 S6) | (refine wpList_ins kRules _ rfl (.tmp 3) (.const _) (.tmp 17) rfl w.heap.size ((ruL p).take 6) rfl M6 7 rfl rfl (ruF 213 p) rfl ?_; intro w7 M7 S7) | (refine wpList_ins kRules _ rfl (.tmp 3) (.const _) (.tmp 19) rfl w.heap.size ((ruL p).take 7) rfl M7 8 rfl rfl (ruF 214 p) rfl ?_; intro w8 M8 S8) | (refine wpList_ins kRules _ rfl (.tmp 3) (.const _) (.tmp 21) rfl w.heap.size ((ruL p).take 8) rfl M8 9 rfl rfl (ruF 215 p) rfl ?_; intro w9 M9 S9))
 go_ret
 refine ⟨_, rfl, Nat.le_refl _, M9, ?_⟩
 exact ((((((((((balloc (b0 w) _).trans (S1.below (Nat.le_refl _))).trans (S2.below (Nat.le_refl _))).trans (S3.below (Nat.le_refl _))).trans (S4.below (Nat.le_refl _))).trans (S5.below (Nat.le_refl _))).trans (S6.below (Nat.le_refl _))).trans (S7.below (Nat.le_refl _))).trans (S8.below (Nat.le_refl _))).trans (S9.below (Nat.le_refl _)))
end Go.Proofs.YtbahfelnbofjjaaGreatDoor.ch
namespace Go.Proofs.YtbahfelnbofjjaaGreatDoor.ch
open Go.RowKit dec
theorem bs_ne {a b : ByteArray} (h : a ≠ b) : (a.toList == b.toList) = false := by rw [un.bs_eq, decide_eq_false h]
theorem bs_is {a b : ByteArray} (h : a = b) : (a.toList == b.toList) = true := by rw [un.bs_eq, decide_eq_true h]
theorem in_ne {a b : Int} (h : a ≠ b) : (a == b) = false := by rw [eqI, decide_eq_false h]
theorem in_is {a b : Int} (h : a = b) : (a == b) = true := by rw [eqI, decide_eq_true h]
def hasR (k : Int) (n : Nat) (h g : Hd) : Bool := decide (((n : Nat) : Int) = k) && same h g
theorem hasOnly_any (k : Int) (h g : Hd) (n m : Nat) (ua ub aa ab : Option Addr) (uc ud ac ad : Nat) (w : World) (hU : un.Sl w ua h.un.length uc h.un) (hV : un.Sl w ub g.un.length ud g.un) :
  Calls Tryz.prog 261 #[.agg (exC h n ua uc aa ac), .agg (exC g m ub ud ab ad), .int .i64 k] w (Bl (hasR k n h g) w) := by
 have bb := below_two w (.cells (exC h n ua uc aa ac) 29) (.cells (exC g m ub ud ab ad) 29)
 have B0 := Lib.hid bb
 have GG := bw_two w (exC h n ua uc aa ac) (exC g m ub ud ab ad) 29 29
 have G1 := Lib.hid GG.1
 have G2 := Lib.hid GG.2
 have CS := Lib.hid (un.same_any _ _ _ _ _ _ _ _ _ (hU.keeps bb) (hV.keeps bb))
 have hE : hasR k n h g = hasR k n h g := rfl
 conv at hE => rhs; unfold hasR same
 replace hE := Lib.hid hE
 clear hU hV bb GG
 unfold exC at *
 by_cases hk : ((n : Nat) : Int) = k
 ·have qn := in_is hk
  replace hE := hE.out
  simp only [decide_eq_true hk, Bool.true_and] at hE
  replace hE := Lib.hid hE
  clear hk
  by_cases e0 : h.op = g.op
  ·have qhop := bs_is e0
   replace hE := hE.out
   simp only [decide_eq_true e0, Bool.true_and] at hE
   replace hE := Lib.hid hE
   clear e0
   by_cases e1 : h.nm = g.nm
   ·have qhnm := bs_is e1
    replace hE := hE.out
    simp only [decide_eq_true e1, Bool.true_and] at hE
    replace hE := Lib.hid hE
    clear e1
    by_cases e2 : h.tb = g.tb
    ·have qhtb := bs_is e2
     replace hE := hE.out
     simp only [decide_eq_true e2, Bool.true_and] at hE
     replace hE := Lib.hid hE
     clear e2
     by_cases e3 : h.vk = g.vk
     ·have qhvk := in_is e3
      replace hE := hE.out
      simp only [decide_eq_true e3, Bool.true_and] at hE
      replace hE := Lib.hid hE
      clear e3
      by_cases e4 : h.vn = g.vn
      ·have qhvn := in_is e4
       replace hE := hE.out
       simp only [decide_eq_true e4, Bool.true_and] at hE
       replace hE := Lib.hid hE
       clear e4
       by_cases e5 : h.vs = g.vs
       ·have qhvs := bs_is e5
        replace hE := hE.out
        simp only [decide_eq_true e5, Bool.true_and] at hE
        replace hE := Lib.hid hE
        clear e5
        go_enter Tryz.func261, Tryz.ntmps261
        go_wp2_with fail
        refine (CS.out).mono ?_
        rintro e w1 ⟨rfl, b1⟩
        have B1 := Lib.hid (bnext B0.out b1)
        replace G1 := Lib.hid (G1.out.keeps b1)
        replace G2 := Lib.hid (G2.out.keeps b1)
        have c6 := G1.out.cell 6
        have c7 := G1.out.cell 7
        have c8 := G1.out.cell 8
        have c9 := G1.out.cell 9
        have c10 := G1.out.cell 10
        simp only [List.getElem?_toArray, List.getElem?_cons_zero, List.getElem?_cons_succ] at c6 c7 c8 c9 c10
        have d6 := G2.out.cell 6
        have d7 := G2.out.cell 7
        have d8 := G2.out.cell 8
        have d9 := G2.out.cell 9
        have d10 := G2.out.cell 10
        simp only [List.getElem?_toArray, List.getElem?_cons_zero, List.getElem?_cons_succ] at d6 d7 d8 d9 d10
        clear b1 CS
        have hu : decide (h.un = g.un) = un.sameB h.un g.un := rfl
        replace hE := hE.out
        rw [hu] at hE
        replace hE := Lib.hid hE
        clear hu
        generalize un.sameB h.un g.un = u at *
        cases u
        ·replace hE := hE.out
         simp only [Bool.false_and] at hE
         replace hE := Lib.hid hE
         go_wp2_with fail
         go_ret
         exact bl_of (by rw [hE.out]) B1.out
        ·replace hE := hE.out
         simp only [Bool.true_and] at hE
         replace hE := Lib.hid hE
         by_cases e0 : h.pa = g.pa
         ·have qhpa := in_is e0
          replace hE := hE.out
          simp only [decide_eq_true e0, Bool.true_and] at hE
          replace hE := Lib.hid hE
          clear e0
          by_cases e1 : h.wk = g.wk
          ·have qhwk := in_is e1
           replace hE := hE.out
           simp only [decide_eq_true e1, Bool.true_and] at hE
           replace hE := Lib.hid hE
           clear e1
           by_cases e2 : h.ws = g.ws
           ·have qhws := in_is e2
            replace hE := hE.out
            simp only [decide_eq_true e2] at hE
            replace hE := Lib.hid hE
            clear e2
            go_wp2_with fail
            go_ret
            exact bl_of (by rw [hE.out]) B1.out
           ·have qhws := in_ne e2
            replace hE := hE.out
            simp only [decide_eq_false e2] at hE
            replace hE := Lib.hid hE
            clear e2
            go_wp2_with fail
            go_ret
            exact bl_of (by rw [hE.out]) B1.out
          ·have qhwk := in_ne e1
           replace hE := hE.out
           simp only [decide_eq_false e1, Bool.false_and] at hE
           replace hE := Lib.hid hE
           clear e1
           go_wp2_with fail
           go_ret
           exact bl_of (by rw [hE.out]) B1.out
         ·have qhpa := in_ne e0
          replace hE := hE.out
          simp only [decide_eq_false e0, Bool.false_and] at hE
          replace hE := Lib.hid hE
          clear e0
          go_wp2_with fail
          go_ret
          exact bl_of (by rw [hE.out]) B1.out
       ·have qhvs := bs_ne e5
        replace hE := hE.out
        simp only [decide_eq_false e5, Bool.false_and] at hE
        replace hE := Lib.hid hE
        clear e5
        go_enter Tryz.func261, Tryz.ntmps261
        go_wp2_with fail
        go_ret
        exact bl_of (by rw [hE.out]) B0.out
      ·have qhvn := in_ne e4
       replace hE := hE.out
       simp only [decide_eq_false e4, Bool.false_and] at hE
       replace hE := Lib.hid hE
       clear e4
       go_enter Tryz.func261, Tryz.ntmps261
       go_wp2_with fail
       go_ret
       exact bl_of (by rw [hE.out]) B0.out
     ·have qhvk := in_ne e3
      replace hE := hE.out
      simp only [decide_eq_false e3, Bool.false_and] at hE
      replace hE := Lib.hid hE
      clear e3
      go_enter Tryz.func261, Tryz.ntmps261
      go_wp2_with fail
      go_ret
      exact bl_of (by rw [hE.out]) B0.out
    ·have qhtb := bs_ne e2
     replace hE := hE.out
     simp only [decide_eq_false e2, Bool.false_and] at hE
     replace hE := Lib.hid hE
     clear e2
     go_enter Tryz.func261, Tryz.ntmps261
     go_wp2_with fail
     go_ret
     exact bl_of (by rw [hE.out]) B0.out
   ·have qhnm := bs_ne e1
    replace hE := hE.out
    simp only [decide_eq_false e1, Bool.false_and] at hE
    replace hE := Lib.hid hE
    clear e1
    go_enter Tryz.func261, Tryz.ntmps261
    go_wp2_with fail
    go_ret
    exact bl_of (by rw [hE.out]) B0.out
  ·have qhop := bs_ne e0
   replace hE := hE.out
   simp only [decide_eq_false e0, Bool.false_and] at hE
   replace hE := Lib.hid hE
   clear e0
   go_enter Tryz.func261, Tryz.ntmps261
   go_wp2_with fail
   go_ret
   exact bl_of (by rw [hE.out]) B0.out
 ·have qn := in_ne hk
  replace hE := hE.out
  simp only [decide_eq_false hk, Bool.false_and] at hE
  replace hE := Lib.hid hE
  clear hk
  go_enter Tryz.func261, Tryz.ntmps261
  go_wp2_with fail
  go_ret
  exact bl_of (by rw [hE.out]) B0.out
end Go.Proofs.YtbahfelnbofjjaaGreatDoor.ch
namespace Go.Proofs.YtbahfelnbofjjaaGreatDoor.ch
open Go.RowKit dec
structure _root_.Go.Proofs.YtbahfelnbofjjaaGreatDoor.Hd.sz (h : Hd) : Prop where
 op : h.op.size ≤ 140737488355328
 nm : h.nm.size ≤ 140737488355328
 tb : h.tb.size ≤ 140737488355328
 vs : h.vs.size ≤ 140737488355328
def namR (k : Int) (n : Nat) (h : Hd) : Bool := name h.nm && hasR k n h { h0 with nm := h.nm }
theorem isNamed_any (k : Int) (h : Hd) (n : Nat) (ua aa : Option Addr) (uc ac : Nat) (w : World) (hs : h.sz) (hU : un.Sl w ua h.un.length uc h.un) (T : Tabs w) :
  Calls Tryz.prog 262 #[.agg (exC h n ua uc aa ac), .int .i64 k] w (Bl (namR k n h) w) := by
 have bb := balloc (b0 w) (.cells (exC h n ua uc aa ac) 29)
 have B0 := Lib.hid bb
 have G := Lib.hid (Blk.new w 29 (exC h n ua uc aa ac))
 have T0 := Lib.hid (T.stays bb)
 have S0 := Lib.hid (hU.keeps bb)
 have HZ := Lib.hid hs
 clear hU T bb hs
 have CH := Lib.hid (fun W S => (show Calls Tryz.prog 261 #[.agg #[.int .i64 h.k, .string h.op, .string h.nm, .string h.tb, .int .i64 h.vk, .int .i64 h.vn, .string h.vs, .slice ua h.un.length uc, .int .i64 h.pa, .int .i64 h.wk, .int .i64 h.ws, .slice aa n ac], .agg #[.int .i64 0, .string ⟨#[]⟩, .string h.nm, .string ⟨#[]⟩, .int .i64 0, .int .i64 0, .string ⟨#[]⟩, .slice none 0 0, .int .i64 0, .int .i64 0, .int .i64 0, .slice none 0 0], .int .i64 k] W (Bl (hasR k n h { h0 with nm := h.nm }) W) from hasOnly_any k h { h0 with nm := h.nm } n 0 ua none aa none uc 0 ac 0 W S (un.Sl.nil _)))
 have CN := Lib.hid (fun W T => nameW_any h.nm HZ.out.nm W T)
 have hE : namR k n h = namR k n h := rfl
 conv at hE => rhs; unfold namR
 replace hE := Lib.hid hE
 unfold exC at *
 generalize name h.nm = m at *
 generalize hasR k n h { h0 with nm := h.nm } = r at *
 go_enter Tryz.func262, Tryz.ntmps262
 go_wp2_with fail
 refine (CN.out _ T0.out).mono ?_
 rintro e w1 ⟨rfl, b1⟩
 have B1 := Lib.hid (bnext B0.out b1)
 replace S0 := Lib.hid (S0.out.keeps b1)
 replace G := Lib.hid (G.out.keeps b1)
 have c2 := G.out.cell 2
 simp only [List.getElem?_toArray, List.getElem?_cons_zero, List.getElem?_cons_succ] at c2
 clear b1 CN
 cases m
 ·go_wp2_with fail
  go_ret
  exact bl_of (by rw [hE.out]; try rfl) B1.out
 ·go_wp2_with (first | (refine arm_loadG infX Tryz.underlying29 rfl (.tmp 2) rfl rfl _ _ _ rfl G.out rfl ?_) | (refine arm_loadT infX Tryz.underlying29 rfl (.tmp 2) rfl rfl _ _ _ rfl G.out rfl ?_))
  refine (CH.out _ S0.out).mono ?_
  rintro e w2 ⟨rfl, b2⟩
  have B2 := Lib.hid (bnext B1.out b2)
  clear b2 CH
  go_wp2_with fail
  go_ret
  exact bl_of (by rw [hE.out]; try rfl) B2.out
theorem field_any (p : Int) (h : Hd) (n : Nat) (ua aa : Option Addr) (uc ac : Nat) (w : World) (hs : h.sz) (hU : un.Sl w ua h.un.length uc h.un) (T : Tabs w) :
  Calls Tryz.prog 208 #[.int .i64 p, .agg (exC h n ua uc aa ac)] w (Bl (decide (p = 1) && namR 0 n h) w) := by
 have bb := balloc (b0 w) (.cells (exC h n ua uc aa ac) 29)
 have B0 := Lib.hid bb
 have G := Lib.hid (Blk.new w 29 (exC h n ua uc aa ac))
 have T0 := Lib.hid (T.stays bb)
 have S0 := Lib.hid (hU.keeps bb)
 have HZ := Lib.hid hs
 clear hU T bb hs
 have C := Lib.hid (isNamed_any 0 h n ua aa uc ac _ HZ.out S0.out T0.out)
 obtain ⟨r, hr⟩ : ∃ r, r = (decide (p = 1) && namR 0 n h) := ⟨_, rfl⟩
 rw [← hr]
 replace hr := Lib.hid hr
 unfold exC at *
 generalize namR 0 n h = m at *
 by_cases hp : p = 1
 ·have q := in_is hp
  replace hr := Lib.hid (hr.out.trans (by rw [decide_eq_true hp, Bool.true_and]))
  clear hp
  go_enter Tryz.func208, Tryz.ntmps208
  go_wp2_with fail
  refine (C.out).mono ?_
  rintro e w1 ⟨rfl, b1⟩
  have B1 := Lib.hid (bnext B0.out b1)
  clear b1 C
  go_wp2_with fail
  go_ret
  exact bl_of hr.out.symm B1.out
 ·have q := in_ne hp
  replace hr := Lib.hid (hr.out.trans (by rw [decide_eq_false hp, Bool.false_and]))
  clear hp C
  go_enter Tryz.func208, Tryz.ntmps208
  go_wp2_with fail
  go_ret
  exact bl_of hr.out.symm B0.out
theorem feature_any (p : Int) (h : Hd) (n : Nat) (ua aa : Option Addr) (uc ac : Nat) (w : World) (hs : h.sz) (hU : un.Sl w ua h.un.length uc h.un) (T : Tabs w) :
  Calls Tryz.prog 209 #[.int .i64 p, .agg (exC h n ua uc aa ac)] w (Bl (decide (p = 0) && namR 0 n h) w) := by
 have bb := balloc (b0 w) (.cells (exC h n ua uc aa ac) 29)
 have B0 := Lib.hid bb
 have G := Lib.hid (Blk.new w 29 (exC h n ua uc aa ac))
 have T0 := Lib.hid (T.stays bb)
 have S0 := Lib.hid (hU.keeps bb)
 have HZ := Lib.hid hs
 clear hU T bb hs
 have C := Lib.hid (isNamed_any 0 h n ua aa uc ac _ HZ.out S0.out T0.out)
 obtain ⟨r, hr⟩ : ∃ r, r = (decide (p = 0) && namR 0 n h) := ⟨_, rfl⟩
 rw [← hr]
 replace hr := Lib.hid hr
 unfold exC at *
 generalize namR 0 n h = m at *
 by_cases hp : p = 0
 ·have q := in_is hp
  replace hr := Lib.hid (hr.out.trans (by rw [decide_eq_true hp, Bool.true_and]))
  clear hp
  go_enter Tryz.func209, Tryz.ntmps209
  go_wp2_with fail
  refine (C.out).mono ?_
  rintro e w1 ⟨rfl, b1⟩
  have B1 := Lib.hid (bnext B0.out b1)
  clear b1 C
  go_wp2_with fail
  go_ret
  exact bl_of hr.out.symm B1.out
 ·have q := in_ne hp
  replace hr := Lib.hid (hr.out.trans (by rw [decide_eq_false hp, Bool.false_and]))
  clear hp C
  go_enter Tryz.func209, Tryz.ntmps209
  go_wp2_with fail
  go_ret
  exact bl_of hr.out.symm B0.out
theorem lookup_any (p : Int) (h : Hd) (n : Nat) (ua aa : Option Addr) (uc ac : Nat) (w : World) (hs : h.sz) (hU : un.Sl w ua h.un.length uc h.un) (T : Tabs w) :
  Calls Tryz.prog 210 #[.int .i64 p, .agg (exC h n ua uc aa ac)] w (Bl (decide (p = 0) && namR 1 n h) w) := by
 have bb := balloc (b0 w) (.cells (exC h n ua uc aa ac) 29)
 have B0 := Lib.hid bb
 have G := Lib.hid (Blk.new w 29 (exC h n ua uc aa ac))
 have T0 := Lib.hid (T.stays bb)
 have S0 := Lib.hid (hU.keeps bb)
 have HZ := Lib.hid hs
 clear hU T bb hs
 have C := Lib.hid (isNamed_any 1 h n ua aa uc ac _ HZ.out S0.out T0.out)
 obtain ⟨r, hr⟩ : ∃ r, r = (decide (p = 0) && namR 1 n h) := ⟨_, rfl⟩
 rw [← hr]
 replace hr := Lib.hid hr
 unfold exC at *
 generalize namR 1 n h = m at *
 by_cases hp : p = 0
 ·have q := in_is hp
  replace hr := Lib.hid (hr.out.trans (by rw [decide_eq_true hp, Bool.true_and]))
  clear hp
  go_enter Tryz.func210, Tryz.ntmps210
  go_wp2_with fail
  refine (C.out).mono ?_
  rintro e w1 ⟨rfl, b1⟩
  have B1 := Lib.hid (bnext B0.out b1)
  clear b1 C
  go_wp2_with fail
  go_ret
  exact bl_of hr.out.symm B1.out
 ·have q := in_ne hp
  replace hr := Lib.hid (hr.out.trans (by rw [decide_eq_false hp, Bool.false_and]))
  clear hp C
  go_enter Tryz.func210, Tryz.ntmps210
  go_wp2_with fail
  go_ret
  exact bl_of hr.out.symm B0.out
theorem choice_any (p : Int) (h : Hd) (n : Nat) (ua aa : Option Addr) (uc ac : Nat) (w : World) (hs : h.sz) (hU : un.Sl w ua h.un.length uc h.un) (T : Tabs w) :
  Calls Tryz.prog 214 #[.int .i64 p, .agg (exC h n ua uc aa ac)] w (Bl (hasR 3 n h h0) w) := by
 have bb := balloc (b0 w) (.cells (exC h n ua uc aa ac) 29)
 have B0 := Lib.hid bb
 have G := Lib.hid (Blk.new w 29 (exC h n ua uc aa ac))
 have T0 := Lib.hid (T.stays bb)
 have S0 := Lib.hid (hU.keeps bb)
 have HZ := Lib.hid hs
 clear hU T bb hs
 have CH := Lib.hid (fun W S => (show Calls Tryz.prog 261 #[.agg #[.int .i64 h.k, .string h.op, .string h.nm, .string h.tb, .int .i64 h.vk, .int .i64 h.vn, .string h.vs, .slice ua h.un.length uc, .int .i64 h.pa, .int .i64 h.wk, .int .i64 h.ws, .slice aa n ac], .agg #[.int .i64 0, .string ⟨#[]⟩, .string ⟨#[]⟩, .string ⟨#[]⟩, .int .i64 0, .int .i64 0, .string ⟨#[]⟩, .slice none 0 0, .int .i64 0, .int .i64 0, .int .i64 0, .slice none 0 0], .int .i64 3] W (Bl (hasR 3 n h h0) W) from hasOnly_any 3 h h0 n 0 ua none aa none uc 0 ac 0 W S (un.Sl.nil _)))
 unfold exC at *
 generalize hasR 3 n h h0 = m at *
 go_enter Tryz.func214, Tryz.ntmps214
 go_wp2_with fail
 refine (CH.out _ S0.out).mono ?_
 rintro e w1 ⟨rfl, b1⟩
 have B1 := Lib.hid (bnext B0.out b1)
 clear b1 CH
 go_wp2_with fail
 go_ret
 exact bl_of rfl B1.out
theorem fallback_any (p : Int) (h : Hd) (n : Nat) (ua aa : Option Addr) (uc ac : Nat) (w : World) (hs : h.sz) (hU : un.Sl w ua h.un.length uc h.un) (T : Tabs w) :
  Calls Tryz.prog 215 #[.int .i64 p, .agg (exC h n ua uc aa ac)] w (Bl (hasR 2 n h h0) w) := by
 have bb := balloc (b0 w) (.cells (exC h n ua uc aa ac) 29)
 have B0 := Lib.hid bb
 have G := Lib.hid (Blk.new w 29 (exC h n ua uc aa ac))
 have T0 := Lib.hid (T.stays bb)
 have S0 := Lib.hid (hU.keeps bb)
 have HZ := Lib.hid hs
 clear hU T bb hs
 have CH := Lib.hid (fun W S => (show Calls Tryz.prog 261 #[.agg #[.int .i64 h.k, .string h.op, .string h.nm, .string h.tb, .int .i64 h.vk, .int .i64 h.vn, .string h.vs, .slice ua h.un.length uc, .int .i64 h.pa, .int .i64 h.wk, .int .i64 h.ws, .slice aa n ac], .agg #[.int .i64 0, .string ⟨#[]⟩, .string ⟨#[]⟩, .string ⟨#[]⟩, .int .i64 0, .int .i64 0, .string ⟨#[]⟩, .slice none 0 0, .int .i64 0, .int .i64 0, .int .i64 0, .slice none 0 0], .int .i64 2] W (Bl (hasR 2 n h h0) W) from hasOnly_any 2 h h0 n 0 ua none aa none uc 0 ac 0 W S (un.Sl.nil _)))
 unfold exC at *
 generalize hasR 2 n h h0 = m at *
 go_enter Tryz.func215, Tryz.ntmps215
 go_wp2_with fail
 refine (CH.out _ S0.out).mono ?_
 rintro e w1 ⟨rfl, b1⟩
 have B1 := Lib.hid (bnext B0.out b1)
 clear b1 CH
 go_wp2_with fail
 go_ret
 exact bl_of rfl B1.out
theorem unary_any (p : Int) (h : Hd) (n : Nat) (ua aa : Option Addr) (uc ac : Nat) (w : World) (hs : h.sz) (hU : un.Sl w ua h.un.length uc h.un) (T : Tabs w) :
  Calls Tryz.prog 212 #[.int .i64 p, .agg (exC h n ua uc aa ac)] w (Bl (unaO h.op && hasR 1 n h { h0 with op := h.op }) w) := by
 have bb := balloc (b0 w) (.cells (exC h n ua uc aa ac) 29)
 have B0 := Lib.hid bb
 have G := Lib.hid (Blk.new w 29 (exC h n ua uc aa ac))
 have T0 := Lib.hid (T.stays bb)
 have S0 := Lib.hid (hU.keeps bb)
 have HZ := Lib.hid hs
 clear hU T bb hs
 have CH := Lib.hid (fun W S => (show Calls Tryz.prog 261 #[.agg #[.int .i64 h.k, .string h.op, .string h.nm, .string h.tb, .int .i64 h.vk, .int .i64 h.vn, .string h.vs, .slice ua h.un.length uc, .int .i64 h.pa, .int .i64 h.wk, .int .i64 h.ws, .slice aa n ac], .agg #[.int .i64 0, .string h.op, .string ⟨#[]⟩, .string ⟨#[]⟩, .int .i64 0, .int .i64 0, .string ⟨#[]⟩, .slice none 0 0, .int .i64 0, .int .i64 0, .int .i64 0, .slice none 0 0], .int .i64 1] W (Bl (hasR 1 n h { h0 with op := h.op }) W) from hasOnly_any 1 h { h0 with op := h.op } n 0 ua none aa none uc 0 ac 0 W S (un.Sl.nil _)))
 obtain ⟨r, hr⟩ : ∃ r, r = (unaO h.op && hasR 1 n h { h0 with op := h.op }) := ⟨_, rfl⟩
 rw [← hr]
 replace hr := Lib.hid hr
 unfold exC at *
 generalize hasR 1 n h { h0 with op := h.op } = m at *
 go_enter Tryz.func212, Tryz.ntmps212
 go_wp2_with fail
 all_goals first
  | (exfalso; simp_all; done)
  | (refine (CH.out _ S0.out).mono ?_; rintro e w1 ⟨rfl, b1⟩; have B1 := Lib.hid (bnext B0.out b1); clear b1 CH; go_wp2_with fail; go_ret; refine bl_of ?_ B1.out; rw [hr.out, show unaO h.op = true by (simp only [eqL] at *; unfold unaO; simp_all)]; rfl)
  | (go_ret; refine bl_of ?_ B0.out; rw [hr.out, show unaO h.op = false by (simp only [eqL] at *; unfold unaO; simp_all)]; rfl)
theorem binary_any (p : Int) (h : Hd) (n : Nat) (ua aa : Option Addr) (uc ac : Nat) (w : World) (hs : h.sz) (hU : un.Sl w ua h.un.length uc h.un) (T : Tabs w) :
  Calls Tryz.prog 213 #[.int .i64 p, .agg (exC h n ua uc aa ac)] w (Bl (binO h.op && hasR 2 n h { h0 with op := h.op }) w) := by
 have bb := balloc (b0 w) (.cells (exC h n ua uc aa ac) 29)
 have B0 := Lib.hid bb
 have G := Lib.hid (Blk.new w 29 (exC h n ua uc aa ac))
 have T0 := Lib.hid (T.stays bb)
 have S0 := Lib.hid (hU.keeps bb)
 have HZ := Lib.hid hs
 clear hU T bb hs
 have CH := Lib.hid (fun W S => (show Calls Tryz.prog 261 #[.agg #[.int .i64 h.k, .string h.op, .string h.nm, .string h.tb, .int .i64 h.vk, .int .i64 h.vn, .string h.vs, .slice ua h.un.length uc, .int .i64 h.pa, .int .i64 h.wk, .int .i64 h.ws, .slice aa n ac], .agg #[.int .i64 0, .string h.op, .string ⟨#[]⟩, .string ⟨#[]⟩, .int .i64 0, .int .i64 0, .string ⟨#[]⟩, .slice none 0 0, .int .i64 0, .int .i64 0, .int .i64 0, .slice none 0 0], .int .i64 2] W (Bl (hasR 2 n h { h0 with op := h.op }) W) from hasOnly_any 2 h { h0 with op := h.op } n 0 ua none aa none uc 0 ac 0 W S (un.Sl.nil _)))
 obtain ⟨r, hr⟩ : ∃ r, r = (binO h.op && hasR 2 n h { h0 with op := h.op }) := ⟨_, rfl⟩
 rw [← hr]
 replace hr := Lib.hid hr
 unfold exC at *
 generalize hasR 2 n h { h0 with op := h.op } = m at *
 go_enter Tryz.func213, Tryz.ntmps213
 go_wp2_with fail
 all_goals first
  | (exfalso; simp_all; done)
  | (refine (CH.out _ S0.out).mono ?_; rintro e w1 ⟨rfl, b1⟩; have B1 := Lib.hid (bnext B0.out b1); clear b1 CH; go_wp2_with fail; go_ret; refine bl_of ?_ B1.out; rw [hr.out, show binO h.op = true by (simp only [eqL] at *; unfold binO; simp_all)]; rfl)
  | (go_ret; refine bl_of ?_ B0.out; rw [hr.out, show binO h.op = false by (simp only [eqL] at *; unfold binO; simp_all)]; rfl)
end Go.Proofs.YtbahfelnbofjjaaGreatDoor.ch
namespace Go.Proofs.YtbahfelnbofjjaaGreatDoor.ch
open Go.RowKit dec
theorem isParam_any (op : ByteArray) (p : Int) (w : World) : Calls Tryz.prog 263 #[.string op, .int .i64 p] w (Bl (parH op p) w) := by
 go_enter Tryz.func263, Tryz.ntmps263
 go_wp2_with fail
 all_goals first
  | (exfalso; simp_all; done)
  | (go_ret; refine bl_of ?_ (b0 w); simp only [eqL, eqI] at *; unfold parH; simp_all; done)
  | (go_ret; refine bl_of ?_ (b0 w); simp only [eqL] at *; unfold parH; simp_all; omega)
theorem isWindow_any (k n : Int) (w : World) : Calls Tryz.prog 264 #[.agg #[.int .i64 k, .int .i64 n]] w (Bl (winH k n) w) := by
 go_enter Tryz.func264, Tryz.ntmps264
 go_wp2_with fail
 all_goals first
  | (exfalso; simp_all; done)
  | (go_ret; refine bl_of ?_ (balloc (b0 w) _); simp only [eqI] at *; unfold winH; simp_all; done)
  | (go_ret; refine bl_of ?_ (balloc (b0 w) _); simp only [eqI] at *; unfold winH; simp_all; omega)
theorem isTrue_any (h : Hd) (n : Nat) (ua aa : Option Addr) (uc ac : Nat) (w : World) : Calls Tryz.prog 265 #[.agg (exC h n ua uc aa ac)] w (Bl (truH h) w) := by
 unfold exC
 by_cases h1 : h.k = 1
 ·have q1 := in_is h1
  by_cases h2 : h.vk = 1
  ·have q2 := in_is h2
   by_cases h3 : h.vn = 1
   ·have q3 := in_is h3
    by_cases h4 : h.vs = .empty
    ·have q4 : h.vs.toList.isEmpty = true := by rw [eqE, decide_eq_true h4]
     have hr := Lib.hid (show truH h = true by unfold truH; simp [h1, h2, h3, h4])
     clear h1 h2 h3 h4
     go_enter Tryz.func265, Tryz.ntmps265
     go_wp2_with fail
     go_ret
     exact bl_of hr.out.symm (balloc (b0 w) _)
    ·have q4 : h.vs.toList.isEmpty = false := by rw [eqE, decide_eq_false h4]
     have hr := Lib.hid (show truH h = false by unfold truH; simp [h4])
     clear h1 h2 h3 h4
     go_enter Tryz.func265, Tryz.ntmps265
     go_wp2_with fail
     go_ret
     exact bl_of hr.out.symm (balloc (b0 w) _)
   ·have q3 := in_ne h3
    have hr := Lib.hid (show truH h = false by unfold truH; simp [h3])
    clear h1 h2 h3
    go_enter Tryz.func265, Tryz.ntmps265
    go_wp2_with fail
    go_ret
    exact bl_of hr.out.symm (balloc (b0 w) _)
  ·have q2 := in_ne h2
   have hr := Lib.hid (show truH h = false by unfold truH; simp [h2])
   clear h1 h2
   go_enter Tryz.func265, Tryz.ntmps265
   go_wp2_with fail
   go_ret
   exact bl_of hr.out.symm (balloc (b0 w) _)
 ·have q1 := in_ne h1
  have hr := Lib.hid (show truH h = false by unfold truH; simp [h1])
  clear h1
  go_enter Tryz.func265, Tryz.ntmps265
  go_wp2_with fail
  go_ret
  exact bl_of hr.out.symm (balloc (b0 w) _)
theorem typeOfLiteral_any (h : Hd) (n : Nat) (ua aa : Option Addr) (uc ac : Nat) (w : World) : Calls Tryz.prog 260 #[.agg (exC h n ua uc aa ac)] w fun e w' => e = .returned (.agg (tyC ⟨h.vk, h.un, h.nm⟩ ua uc)) ∧ Below w.heap.size w w' := by
 unfold exC
 go_enter Tryz.func260, Tryz.ntmps260
 go_wp2_with fail
 exact ret_T infTy Tryz.underlying31 rfl Tryz.results260 _ _ _ _ (tyC ⟨h.vk, h.un, h.nm⟩ ua uc) rfl (bw_two w _ _ _ _).2 rfl ⟨rfl, below_two w _ _⟩
def litR (n : Nat) (h : Hd) : Bool := (decide (ck ⟨h.vk, h.vn, h.vs⟩ = 0) && decide (0 ≤ h.vn)) && (decide (tyE ⟨h.vk, h.un, h.nm⟩ = 0) && hasR 0 n h { h0 with nm := h.nm, vk := h.vk, vn := h.vn, vs := h.vs, un := h.un })
theorem literal_any (p : Int) (h : Hd) (n : Nat) (ua aa : Option Addr) (uc ac : Nat) (w : World) (hs : h.sz) (hU : un.Sl w ua h.un.length uc h.un) (T : Tabs w) :
  Calls Tryz.prog 207 #[.int .i64 p, .agg (exC h n ua uc aa ac)] w (Bl (litR n h) w) := by
 have bb := balloc (b0 w) (.cells (exC h n ua uc aa ac) 29)
 have B0 := Lib.hid bb
 have G := Lib.hid (Blk.new w 29 (exC h n ua uc aa ac))
 have T0 := Lib.hid (T.stays bb)
 have S0 := Lib.hid (hU.keeps bb)
 have HZ := Lib.hid hs
 clear hU T bb hs
 have CH := Lib.hid (fun W S => (show Calls Tryz.prog 261 #[.agg #[.int .i64 h.k, .string h.op, .string h.nm, .string h.tb, .int .i64 h.vk, .int .i64 h.vn, .string h.vs, .slice ua h.un.length uc, .int .i64 h.pa, .int .i64 h.wk, .int .i64 h.ws, .slice aa n ac], .agg #[.int .i64 0, .string ⟨#[]⟩, .string h.nm, .string ⟨#[]⟩, .int .i64 h.vk, .int .i64 h.vn, .string h.vs, .slice ua h.un.length uc, .int .i64 0, .int .i64 0, .int .i64 0, .slice none 0 0], .int .i64 0] W (Bl (hasR 0 n h { h0 with nm := h.nm, vk := h.vk, vn := h.vn, vs := h.vs, un := h.un }) W) from hasOnly_any 0 h { h0 with nm := h.nm, vk := h.vk, vn := h.vn, vs := h.vs, un := h.un } n 0 ua ua aa none uc uc ac 0 W S (S)))
 have CC := Lib.hid (fun W => check_any h.vk h.vn h.vs HZ.out.vs W)
 have CL := Lib.hid (fun W => typeOfLiteral_any h n ua aa uc ac W)
 have CT := Lib.hid (fun W S T => type_any ⟨h.vk, h.un, h.nm⟩ ua uc W S HZ.out.nm T)
 have hE : litR n h = litR n h := rfl
 conv at hE => rhs; unfold litR
 replace hE := Lib.hid hE
 unfold exC at *
 generalize hasR 0 n h { h0 with nm := h.nm, vk := h.vk, vn := h.vn, vs := h.vs, un := h.un } = r at *
 generalize tyE ⟨h.vk, h.un, h.nm⟩ = t at *
 generalize ck ⟨h.vk, h.vn, h.vs⟩ = c at *
 go_enter Tryz.func207, Tryz.ntmps207
 go_wp2_with fail
 refine (CC.out _).mono ?_
 rintro e w1 ⟨rfl, b1⟩
 have B1 := Lib.hid (bnext B0.out b1)
 replace S0 := Lib.hid (S0.out.keeps b1)
 replace T0 := Lib.hid (T0.out.stays b1)
 replace G := Lib.hid (G.out.keeps b1)
 have c0 := G.out.cell 0
 have c1 := G.out.cell 1
 have c2 := G.out.cell 2
 have c3 := G.out.cell 3
 have c4 := G.out.cell 4
 have c5 := G.out.cell 5
 have c6 := G.out.cell 6
 have c7 := G.out.cell 7
 have c8 := G.out.cell 8
 have c9 := G.out.cell 9
 have c10 := G.out.cell 10
 have c11 := G.out.cell 11
 simp only [List.getElem?_toArray, List.getElem?_cons_zero, List.getElem?_cons_succ] at c0 c1 c2 c3 c4 c5 c6 c7 c8 c9 c10 c11
 clear b1 CC
 by_cases hc : c = 0
 ·have qc := in_is hc
  replace hE := hE.out
  rw [decide_eq_true hc, Bool.true_and] at hE
  replace hE := Lib.hid hE
  clear hc
  by_cases hn : 0 ≤ h.vn
  ·have qn : decide (0 ≤ h.vn) = true := decide_eq_true hn
   replace hE := hE.out
   rw [decide_eq_true hn, Bool.true_and] at hE
   replace hE := Lib.hid hE
   go_wp2_with (first | (refine arm_loadG infX Tryz.underlying29 rfl (.tmp 3) rfl rfl _ _ _ rfl G.out rfl ?_) | (refine arm_loadT infX Tryz.underlying29 rfl (.tmp 3) rfl rfl _ _ _ rfl G.out rfl ?_))
   refine (CL.out _).mono ?_
   rintro e w2 ⟨rfl, b2⟩
   have B2 := Lib.hid (bnext B1.out b2)
   replace S0 := Lib.hid (S0.out.keeps b2)
   replace T0 := Lib.hid (T0.out.stays b2)
   replace G := Lib.hid (G.out.keeps b2)
   clear b2 CL
   go_wp2_with fail
   refine (CT.out _ S0.out T0.out).mono ?_
   rintro e w3 ⟨rfl, b3⟩
   have B3 := Lib.hid (bnext B2.out b3)
   replace S0 := Lib.hid (S0.out.keeps b3)
   replace G := Lib.hid (G.out.keeps b3)
   have d0 := G.out.cell 0
   have d1 := G.out.cell 1
   have d2 := G.out.cell 2
   have d3 := G.out.cell 3
   have d4 := G.out.cell 4
   have d5 := G.out.cell 5
   have d6 := G.out.cell 6
   have d7 := G.out.cell 7
   have d8 := G.out.cell 8
   have d9 := G.out.cell 9
   have d10 := G.out.cell 10
   have d11 := G.out.cell 11
   simp only [List.getElem?_toArray, List.getElem?_cons_zero, List.getElem?_cons_succ] at d0 d1 d2 d3 d4 d5 d6 d7 d8 d9 d10 d11
   clear b3 CT
   by_cases ht : t = 0
   ·have qt := in_is ht
    replace hE := hE.out
    rw [decide_eq_true ht, Bool.true_and] at hE
    replace hE := Lib.hid hE
    clear ht
    have RV := Lib.hid (blk_range G.out 4 [.int .i64 h.vk, .int .i64 h.vn, .string h.vs] rfl)
    go_wp2_with (first | (refine arm_loadG infX Tryz.underlying29 rfl (.tmp 3) rfl rfl _ _ _ rfl G.out rfl ?_) | (refine arm_midG infVa Tryz.underlying23 rfl (.tmp 25) rfl rfl w.heap.size 4 #[.int .i64 h.vk, .int .i64 h.vn, .string h.vs] rfl RV.out rfl ?_))
    refine (CH.out _ S0.out).mono ?_
    rintro e w4 ⟨rfl, b4⟩
    have B4 := Lib.hid (bnext B3.out b4)
    clear b4 CH
    go_wp2_with fail
    go_ret
    exact bl_of (by rw [hE.out]; try rfl) B4.out
   ·have qt := in_ne ht
    replace hE := hE.out
    rw [decide_eq_false ht, Bool.false_and] at hE
    replace hE := Lib.hid hE
    clear ht
    go_wp2_with fail
    go_ret
    exact bl_of (by rw [hE.out]; try rfl) B3.out
  ·have qn : decide (0 ≤ h.vn) = false := decide_eq_false hn
   replace hE := hE.out
   rw [decide_eq_false hn, Bool.false_and] at hE
   replace hE := Lib.hid hE
   go_wp2_with fail
   go_ret
   exact bl_of (by rw [hE.out]; try rfl) B1.out
 ·have qc := in_ne hc
  replace hE := hE.out
  rw [decide_eq_false hc, Bool.false_and, Bool.false_and] at hE
  replace hE := Lib.hid hE
  clear hc
  go_wp2_with fail
  go_ret
  exact bl_of (by rw [hE.out]; try rfl) B1.out
def aggR (p : Int) (n : Nat) (h g : Hd) : Bool := decide (p = 0) && (name h.tb && (parH h.op h.pa && (winH h.wk h.ws && (hasR 2 n h { h0 with op := h.op, tb := h.tb, pa := h.pa, wk := h.wk, ws := h.ws } && (!decide (h.op = ⟨#[99, 111, 117, 110, 116]⟩) || truH g)))))
theorem aggregate_any (p : Int) (h : Hd) (n : Nat) (ua aa : Option Addr) (uc ac : Nat) (w : World) (hs : h.sz) (hU : un.Sl w ua h.un.length uc h.un) (F : Fo) (hA : Fs w aa n ac F) (g : Hd) (hg : (F.nth 0).h = g) (T : Tabs w) :
  Calls Tryz.prog 211 #[.int .i64 p, .agg (exC h n ua uc aa ac)] w (Bl (aggR p n h g) w) := by
 have bb := balloc (b0 w) (.cells (exC h n ua uc aa ac) 29)
 have B0 := Lib.hid bb
 have G := Lib.hid (Blk.new w 29 (exC h n ua uc aa ac))
 have T0 := Lib.hid (T.stays bb)
 have S0 := Lib.hid (hU.keeps bb)
 have HZ := Lib.hid hs
 clear hU T bb hs
 have A0 := Lib.hid (Fs.keeps hA B0.out)
 clear hA
 have CH := Lib.hid (fun W S => (show Calls Tryz.prog 261 #[.agg #[.int .i64 h.k, .string h.op, .string h.nm, .string h.tb, .int .i64 h.vk, .int .i64 h.vn, .string h.vs, .slice ua h.un.length uc, .int .i64 h.pa, .int .i64 h.wk, .int .i64 h.ws, .slice aa n ac], .agg #[.int .i64 0, .string h.op, .string ⟨#[]⟩, .string h.tb, .int .i64 0, .int .i64 0, .string ⟨#[]⟩, .slice none 0 0, .int .i64 h.pa, .int .i64 h.wk, .int .i64 h.ws, .slice none 0 0], .int .i64 2] W (Bl (hasR 2 n h { h0 with op := h.op, tb := h.tb, pa := h.pa, wk := h.wk, ws := h.ws }) W) from hasOnly_any 2 h { h0 with op := h.op, tb := h.tb, pa := h.pa, wk := h.wk, ws := h.ws } n 0 ua none aa none uc 0 ac 0 W S (un.Sl.nil _)))
 have CN := Lib.hid (fun W T => nameW_any h.tb HZ.out.tb W T)
 have CP := Lib.hid (fun W => isParam_any h.op h.pa W)
 have CW := Lib.hid (fun W => isWindow_any h.wk h.ws W)
 have CI := Lib.hid isTrue_any
 have hE : aggR p n h g = aggR p n h g := rfl
 conv at hE => rhs; unfold aggR
 replace hE := Lib.hid hE
 have h2 : hasR 2 n h { h0 with op := h.op, tb := h.tb, pa := h.pa, wk := h.wk, ws := h.ws } = true → n = 2 := fun e => by unfold hasR at e; rw [Bool.and_eq_true, decide_eq_true_eq] at e; exact Int.ofNat.inj e.1
 unfold exC at *
 generalize hasR 2 n h { h0 with op := h.op, tb := h.tb, pa := h.pa, wk := h.wk, ws := h.ws } = r at *
 generalize name h.tb = m at *
 generalize parH h.op h.pa = pp at *
 generalize winH h.wk h.ws = ww at *
 replace h2 := Lib.hid h2
 by_cases hp : p = 0
 ·have qp := in_is hp
  replace hE := hE.out
  rw [decide_eq_true hp, Bool.true_and] at hE
  replace hE := Lib.hid hE
  clear hp
  go_enter Tryz.func211, Tryz.ntmps211
  go_wp2_with fail
  refine (CN.out _ T0.out).mono ?_
  rintro e w1 ⟨rfl, b1⟩
  have B1 := Lib.hid (bnext B0.out b1)
  replace S0 := Lib.hid (S0.out.keeps b1)
  replace A0 := Lib.hid (A0.out.keeps b1)
  replace G := Lib.hid (G.out.keeps b1)
  have c1 := G.out.cell 1
  have c3 := G.out.cell 3
  have c6 := G.out.cell 6
  have c7 := G.out.cell 7
  have c8 := G.out.cell 8
  have c9 := G.out.cell 9
  have c10 := G.out.cell 10
  have c11 := G.out.cell 11
  simp only [List.getElem?_toArray, List.getElem?_cons_zero, List.getElem?_cons_succ] at c1 c3 c6 c7 c8 c9 c10 c11
  clear b1 CN
  cases m
  ·replace hE := hE.out
   rw [Bool.false_and] at hE
   replace hE := Lib.hid hE
   go_wp2_with fail
   go_ret
   exact bl_of (by rw [hE.out]; try rfl) B1.out
  ·replace hE := hE.out
   rw [Bool.true_and] at hE
   replace hE := Lib.hid hE
   go_wp2_with fail
   refine (CP.out _).mono ?_
   rintro e w2 ⟨rfl, b2⟩
   have B2 := Lib.hid (bnext B1.out b2)
   replace S0 := Lib.hid (S0.out.keeps b2)
   replace A0 := Lib.hid (A0.out.keeps b2)
   replace G := Lib.hid (G.out.keeps b2)
   have d1 := G.out.cell 1
   have d3 := G.out.cell 3
   have d6 := G.out.cell 6
   have d7 := G.out.cell 7
   have d8 := G.out.cell 8
   have d9 := G.out.cell 9
   have d10 := G.out.cell 10
   have d11 := G.out.cell 11
   simp only [List.getElem?_toArray, List.getElem?_cons_zero, List.getElem?_cons_succ] at d1 d3 d6 d7 d8 d9 d10 d11
   clear b2 CP
   cases pp
   ·replace hE := hE.out
    rw [Bool.false_and] at hE
    replace hE := Lib.hid hE
    go_wp2_with fail
    go_ret
    exact bl_of (by rw [hE.out]; try rfl) B2.out
   ·replace hE := hE.out
    rw [Bool.true_and] at hE
    replace hE := Lib.hid hE
    have RW := Lib.hid (blk_range G.out 9 [.int .i64 h.wk, .int .i64 h.ws] rfl)
    go_wp2_with (first | (refine arm_midG infWi Tryz.underlying26 rfl (.tmp 20) rfl rfl w.heap.size 9 #[.int .i64 h.wk, .int .i64 h.ws] rfl RW.out rfl ?_))
    refine (CW.out _).mono ?_
    rintro e w3 ⟨rfl, b3⟩
    have B3 := Lib.hid (bnext B2.out b3)
    replace S0 := Lib.hid (S0.out.keeps b3)
    replace A0 := Lib.hid (A0.out.keeps b3)
    replace G := Lib.hid (G.out.keeps b3)
    have x1 := G.out.cell 1
    have x3 := G.out.cell 3
    have x6 := G.out.cell 6
    have x7 := G.out.cell 7
    have x8 := G.out.cell 8
    have x9 := G.out.cell 9
    have x10 := G.out.cell 10
    have x11 := G.out.cell 11
    simp only [List.getElem?_toArray, List.getElem?_cons_zero, List.getElem?_cons_succ] at x1 x3 x6 x7 x8 x9 x10 x11
    clear b3 CW
    cases ww
    ·replace hE := hE.out
     rw [Bool.false_and] at hE
     replace hE := Lib.hid hE
     go_wp2_with fail
     go_ret
     exact bl_of (by rw [hE.out]; try rfl) B3.out
    ·replace hE := hE.out
     rw [Bool.true_and] at hE
     replace hE := Lib.hid hE
     have RW2 := Lib.hid (blk_range G.out 9 [.int .i64 h.wk, .int .i64 h.ws] rfl)
     go_wp2_with (first | (refine arm_loadG infX Tryz.underlying29 rfl (.tmp 3) rfl rfl _ _ _ rfl G.out rfl ?_) | (refine arm_midG infWi Tryz.underlying26 rfl (.tmp 32) rfl rfl w.heap.size 9 #[.int .i64 h.wk, .int .i64 h.ws] rfl RW2.out rfl ?_))
     refine (CH.out _ S0.out).mono ?_
     rintro e w4 ⟨rfl, b4⟩
     have B4 := Lib.hid (bnext B3.out b4)
     replace A0 := Lib.hid (A0.out.keeps b4)
     replace G := Lib.hid (G.out.keeps b4)
     have y1 := G.out.cell 1
     have y3 := G.out.cell 3
     have y8 := G.out.cell 8
     have y11 := G.out.cell 11
     simp only [List.getElem?_toArray, List.getElem?_cons_zero, List.getElem?_cons_succ] at y1 y3 y8 y11
     clear b4 CH
     cases r
     ·replace hE := hE.out
      rw [Bool.false_and] at hE
      replace hE := Lib.hid hE
      go_wp2_with fail
      go_ret
      exact bl_of (by rw [hE.out]; try rfl) B4.out
     ·replace hE := hE.out
      rw [Bool.true_and] at hE
      replace hE := Lib.hid hE
      by_cases ho : h.op = ⟨#[99, 111, 117, 110, 116]⟩
      ·have qo : (h.op.toList == [99, 111, 117, 110, 116]) = true := by rw [eqL]; exact decide_eq_true ho
       have qo2 : (!h.op.toList == [99, 111, 117, 110, 116]) = false := by rw [qo]; rfl
       replace hE := hE.out
       rw [decide_eq_true ho] at hE
       replace hE := Lib.hid hE
       replace ho := Lib.hid ho
       have hn2 := h2.out rfl
       have hF2 : F.len = 2 := by have := A0.out.hn; omega
       subst hn2
       obtain ⟨bk, off, va, vc, wa, wc, rfl, R1, E1⟩ := A0.out.at (j := 0) (by omega)
       replace R1 := Lib.hid R1
       clear hF2
       have hgx := Lib.hid hg
       clear hg
       generalize F.nth 0 = y at *
       go_wp2_with (first | (refine arm_midG infX Tryz.underlying29 rfl (.tmp 44) rfl rfl bk off (exC y.h y.ar.len va vc wa wc) rfl (by simpa using R1.out) rfl ?_))
       refine (CI.out y.h y.ar.len va wa vc wc _).mono ?_
       rintro e w5 ⟨rfl, b5⟩
       have B5 := Lib.hid (bnext B4.out b5)
       clear b5 CI
       go_wp2_with fail
       go_ret
       exact bl_of (by rw [hE.out, ← hgx.out]; rfl) B5.out
      ·have qo : (h.op.toList == [99, 111, 117, 110, 116]) = false := by rw [eqL]; exact decide_eq_false ho
       have qo2 : (!h.op.toList == [99, 111, 117, 110, 116]) = true := by rw [qo]; rfl
       replace hE := hE.out
       rw [decide_eq_false ho] at hE
       replace hE := Lib.hid hE
       clear ho
       go_wp2_with fail
       go_ret
       exact bl_of (by rw [hE.out]; try rfl) B4.out
 ·have qp := in_ne hp
  replace hE := hE.out
  rw [decide_eq_false hp, Bool.false_and] at hE
  replace hE := Lib.hid hE
  clear hp
  go_enter Tryz.func211, Tryz.ntmps211
  go_wp2_with fail
  go_ret
  exact bl_of (by rw [hE.out]; try rfl) B0.out
end Go.Proofs.YtbahfelnbofjjaaGreatDoor.ch
