/-
  A map that the call makes and fills at different integer keys, whatever its elements: the laws at its operations.
-/
import Derived.Test.YtkfciilclfhabaaGreatDoorChk
import Derived.Test.YtkfciilclfhabaaGreatDoorTbp
import Derived.ChangeMaps5
import Derived.MapKept
import Derived.Carry
import Derived.OwnWalk
namespace Go.Proofs.YtkfciilclfhabaaGreatDoor
open Go.RowKit Go.ChangeMaps

theorem kMap : Tryz.prog.underlying 69 = some (.map 3 68) := by kernel_rfl

/-- The entries: the element j at the key j. -/
def ents (vs : List Value) : List MapEntry := vs.zipIdx.map fun p => ⟨.int .i64 (p.2 : Nat), p.1, p.2⟩
theorem ents_append (vs : List Value) (v : Value) : ents (vs ++ [v]) = ents vs ++ [⟨.int .i64 (vs.length : Nat), v, vs.length⟩] := by
  unfold ents
  rw [List.zipIdx_append, List.map_append]
  simp
theorem ents_len (vs : List Value) : (ents vs).length = vs.length := by simp [ents]
theorem find_none (c : Int) : ∀ (l : List MapEntry) (i : Nat), (∀ e ∈ l, ∃ d, e.key = .int .i64 d ∧ d ≠ c) → Instr.findNow (.int .i64) (.int .i64 c) l i = some none
  | [], _, _ => rfl
  | e :: l, i, h => by
    obtain ⟨d, hd, hne⟩ := h e (List.mem_cons_self ..)
    have e1 : (c == d) = false := by rw [beq_eq_false_iff_ne]; exact fun h => hne h.symm
    unfold Instr.findNow
    rw [hd]
    simp only [Instr.sameNow, if_true, e1]
    exact find_none c l (i + 1) (fun x hx => h x (List.mem_cons_of_mem _ hx))
theorem find_some : ∀ (vs : List Value) (o i j : Nat) (v : Value), vs[j]? = some v → Instr.findNow (.int .i64) (.int .i64 ((o + j : Nat) : Int)) ((vs.zipIdx o).map fun p => ⟨.int .i64 (p.2 : Nat), p.1, p.2⟩) i = some (some (i + j, v))
  | [], _, _, _, _, h => by cases h
  | x :: vs, o, i, 0, v, h => by
    obtain rfl : x = v := by simpa using h
    rw [List.zipIdx_cons, List.map_cons]
    unfold Instr.findNow
    simp [Instr.sameNow]
  | x :: vs, o, i, j + 1, v, h => by
    have e1 : (((o + (j + 1) : Nat) : Int) == ((o : Nat) : Int)) = false := by rw [beq_eq_false_iff_ne]; omega
    rw [List.zipIdx_cons, List.map_cons]
    unfold Instr.findNow
    simp only [Instr.sameNow, if_true, e1]
    have := find_some vs (o + 1) (i + 1) j v (by simpa using h)
    rw [show o + 1 + j = o + (j + 1) by omega, show i + 1 + j = i + (j + 1) by omega] at this
    exact this
theorem ents_key (vs : List Value) : ∀ e ∈ ents vs, ∃ j : Nat, j < vs.length ∧ e.key = .int .i64 (j : Nat) := by
  intro e he
  simp only [ents, List.mem_map] at he
  obtain ⟨⟨v, j⟩, hj, rfl⟩ := he
  have := List.mem_zipIdx hj
  exact ⟨j, by omega, rfl⟩
/-- The block b is the map of vs. -/
def Mp (w : World) (b : Nat) (vs : List Value) : Prop := w.heap[b]? = some (.map (ents vs).toArray vs.length)
theorem Mp.made (w : World) : Mp (w.alloc (.map #[] 0)) w.heap.size [] := (MapKept.heap_alloc w _).1
theorem Mp.lt {w : World} {b : Nat} {vs : List Value} (h : Mp w b vs) : b < w.heap.size := (Array.getElem?_eq_some_iff.1 h).1
theorem run_ins {w : World} {b : Nat} {vs : List Value} (h : Mp w b vs) (c : Int) (hc : c = (vs.length : Nat)) (v : Value) :
    ∃ w', (Instr.mapUpdate 69 (.map (some b)) (.int .i64 c) v).run Tryz.prog w = .ok () w' ∧ Mp w' b (vs ++ [v]) ∧ Below b w w' := by
  subst hc
  have hn : Instr.findNow (.int .i64) (.int .i64 (vs.length : Nat)) (ents vs) 0 = some none := find_none _ _ _ fun e he => by
    obtain ⟨j, hj, hk⟩ := ents_key vs e he
    exact ⟨_, hk, by omega⟩
  refine ⟨setBlock w b (.map ((ents vs).toArray.push ⟨.int .i64 (vs.length : Nat), v, vs.length⟩) (vs.length + 1)), ?_, ?_, ⟨rfl, rfl, rfl, by simp [setBlock], fun i hi => heap_setBlock_other h _ (by omega)⟩⟩
  · have hch := MapKept.run_checkKey (P := Tryz.prog) (w := w) (k := .int .i64 (vs.length : Nat)) Tryz.underlying3 (show MapKept.IsKey (.int .i64) (.int .i64 (vs.length : Nat)) from rfl) false 9999
    simp [Instr.mapUpdate, Instr.findKey, run_underlying kMap, run_underlying Tryz.underlying3, MapKept.run_getObj_map h, hch, hn, MapKept.run_setObj_map _ h, Result.andThen, setBlock]
  · unfold Mp
    rw [heap_setBlock_same h, ents_append]
    simp
theorem run_look {w : World} {b : Nat} {vs : List Value} (h : Mp w b vs) (c : Int) (j : Nat) (hc : c = (j : Nat)) (v : Value) (hv : vs[j]? = some v) :
    (Instr.lookup 69 (.map (some b)) (.int .i64 c) false).run Tryz.prog w = .ok v w := by
  subst hc
  have hf := find_some vs 0 0 j v hv
  rw [Nat.zero_add] at hf
  replace hf : Instr.findNow (.int .i64) (.int .i64 (j : Nat)) (ents vs) 0 = some (some (j, v)) := hf
  have hch := MapKept.run_checkKey (P := Tryz.prog) (w := w) (k := .int .i64 (j : Nat)) Tryz.underlying3 (show MapKept.IsKey (.int .i64) (.int .i64 (j : Nat)) from rfl) (ents vs).isEmpty 9999
  simp [Instr.lookup, Instr.findKey, run_underlying kMap, run_underlying Tryz.underlying3, MapKept.run_getObj_map h, hch, hf, Result.andThen]
/-- 'm[j] = v' of a map that is laid out. -/
theorem wpList_ins (w : World) {ops : Array Oper} {rest : List Oper} {o : Oper} {a : Act} {Q : Exit → Act → World → Prop}
    (hg : o.guard = none) (m x v : Operand) (hop : o.op = Op.insert 69 m x v) (b : Nat) (vs : List Value) (hm : a.eval m = .map (some b)) (hown : Mp w b vs)
    (c : Int) (hx : a.eval x = .int .i64 c) (hc : c = (vs.length : Nat)) (val : Value) (hv : a.eval v = val)
    (hK : ∀ w', Mp w' b (vs ++ [val]) → Below b w w' → wpList Tryz.prog ops Q rest (a.put o.dst undef) w') :
    wpList Tryz.prog ops Q (o :: rest) a w := by
  refine wpList_plain hg fun K' hK' => ?_
  obtain ⟨w', hrun, r1, r2⟩ := run_ins hown c hc val
  unfold Oper.wp
  simp [execOp, hop, hm, hx, hv, hrun, Result.andThen]
  exact hK' _ _ (hK w' r1 r2)
end Go.Proofs.YtkfciilclfhabaaGreatDoor
