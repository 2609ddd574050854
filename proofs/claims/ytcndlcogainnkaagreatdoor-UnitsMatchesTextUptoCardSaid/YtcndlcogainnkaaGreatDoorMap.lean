/-
  The map of Normal: names to pairs of words; its laws; its range.
-/
import Derived.Test.YtcndlcogainnkaaGreatDoorSrt
import Derived.Maps.RangeWalk
import Derived.Sort.EncStr
import Derived.StringKeys
namespace Go.Proofs.YtcndlcogainnkaaGreatDoor
open Go.RowKit dec
open Go.Maps (Keyed)

theorem kMap : Tryz.prog.underlying 41 = some (.map 9 45) := by kernel_rfl
theorem K9 : Keyed Tryz.prog 9 := Go.Maps.string_keyed Tryz.underlying9
def wElem {H : Type} : Value → Option (DataW H × List MemPlace)
  | .agg cs => match cs.toList with
    | [.int .i64 h, .int .u64 l] => some (.agg [.lit (.int .i64 h), .lit (.int .u64 l)], [])
    | _ => none
  | _ => none
def dW (n : Int) : DataW Unit := .agg [.lit (.int .i64 (hi n)), .lit (.int .u64 (lo n))]
theorem wElem_mk (n : Int) : wElem (W n) = some (dW n, []) := rfl
theorem wElem_inv {v : Value} {y : DataW Unit × List MemPlace} (h : wElem v = some y) : ∃ c : Int × Int, v = .agg #[.int .i64 c.1, .int .u64 c.2] ∧ y = (.agg [.lit (.int .i64 c.1), .lit (.int .u64 c.2)], []) := by
  unfold wElem at h
  split at h
  · rename_i cs
    split at h
    · rename_i hh ll e
      refine ⟨(hh, ll), ?_, ?_⟩
      · have : cs = #[.int .i64 hh, .int .u64 ll] := by
          apply Array.ext'
          exact e
        rw [this]
      · exact (Option.some.inj h).symm
    · cases h
  · cases h
theorem wElem_is {v : Value} {n : Int} {ps : List MemPlace} (h : wElem v = some (dW n, ps)) : v = W n := by
  obtain ⟨c, rfl, e⟩ := wElem_inv h
  unfold dW at e
  simp at e
  rw [← e.1.1, ← e.1.2]
  rfl
/-- A name as a key. -/
def kS (s : ByteArray) : Lit := .string s.data.toList
theorem kS_inj {a b : ByteArray} (h : kS a = kS b) : a = b := by
  unfold kS at h
  injection h with h
  have := Array.toList_inj.1 h
  cases a; cases b
  simp_all
theorem kS_key {s : ByteArray} (h : s.size ≤ maxLen) : keyOf Tryz.prog 9 (.string s) = some (kS s) := Go.WideMaps.keyOf_string_mk Tryz.underlying9 h
theorem kS_lit {s : ByteArray} (h : s.size ≤ maxLen) : WideAt.IsKeyLit (kS s) := K9.key (kS_key h)
/-- The datum says the sums of l. -/
structure Says (l : List Fa) (D : DataW Unit) : Prop where
  isM : Maps.IsMap D
  at_ : ∀ s, D.atKey (kS s) (dW 0) = dW (ex l s)
  has : ∀ s, Maps.has D (kS s) = l.any fun x => decide (x.1 = s)
theorem Says.nil : Says [] (.map []) := ⟨⟨[], rfl⟩, fun _ => rfl, fun _ => rfl⟩
theorem ex_snoc (l : List Fa) (x : Fa) (n : ByteArray) : ex (l ++ [x]) n = ex l n + (if x.1 = n then x.2 else 0) := by
  rw [ex_append]
  simp [ex]
theorem Says.put {l : List Fa} {D : DataW Unit} (h : Says l D) (x : Fa) (hx : x.1.size ≤ maxLen) : Says (l ++ [x]) (D.put (kS x.1) (dW (ex l x.1 + x.2))) := by
  refine ⟨h.isM.put _ _, fun s => ?_, fun s => ?_⟩
  · by_cases e : s = x.1
    · subst e
      rw [Maps.atKey_put_same h.isM (kS_lit hx), ex_snoc, if_pos rfl]
    · rw [Maps.atKey_put_other (fun e' => e (kS_inj e')), h.at_, ex_snoc, if_neg (fun e' => e e'.symm), Int.add_zero]
  · rw [List.any_append]
    by_cases e : s = x.1
    · subst e
      rw [Maps.has_put_same h.isM (kS_lit hx)]
      simp
    · rw [Maps.has_put_other (fun e' => e (kS_inj e')), h.has]
      have hne : decide (x.1 = s) = false := decide_eq_false fun e' => e e'.symm
      rw [List.any_cons, hne, List.any_nil, Bool.or_false, Bool.or_false]
def Mp (w : World) (b : Nat) (l : List Fa) : Prop := ∃ D : DataW Unit, w.ownsMap Tryz.prog 9 wElem b l.length D ∧ Says l D
theorem Mp.made (w : World) : Mp (w.alloc (.map #[] 0)) w.heap.size [] := ⟨_, World.ownsMap_made w _ _ _, Says.nil⟩
theorem Mp.lt {w : World} {b : Nat} {l : List Fa} (h : Mp w b l) : b < w.heap.size := by obtain ⟨D, h, _⟩ := h; exact h.lt
theorem Mp.grown {w w' : World} {b : Nat} {l : List Fa} {row : Option Nat} (h : Mp w b l) (hg : w.grownBy w' row) (hne : some b ≠ row) : Mp w' b l := by
  obtain ⟨D, h, s⟩ := h
  exact ⟨D, h.kept hg hne, s⟩
theorem grown_below {w w' : World} (h : Below w.heap.size w w') : w.grownBy w' none := ⟨h.os, h.tape, h.output, h.size, fun i hi _ => h.block i hi⟩
theorem Mp.keeps {w w' : World} {b : Nat} {l : List Fa} (h : Mp w b l) (hb : Below w.heap.size w w') : Mp w' b l := h.grown (grown_below hb) (by simp)
theorem zeroW (w : World) : (zeroValue 45).run Tryz.prog w = .ok (W 0) w := by
  rw [← W_zero]
  exact Tryz.zeroValue45 w
theorem Mp.look {w : World} {b : Nat} {l : List Fa} (h : Mp w b l) (s : ByteArray) (hs : s.size ≤ maxLen) :
    (Instr.lookup 41 (.map (some b)) (.string s) false).run Tryz.prog w = .ok (W (ex l s)) w := by
  obtain ⟨D, h, hS⟩ := h
  obtain ⟨v, ps, hrun, hv⟩ := h.lookup K9 kMap (zeroW w) (wElem_mk 0) (kS_key hs)
  rw [hS.at_] at hv
  rw [hrun, wElem_is hv]
theorem Mp.store {w : World} {b : Nat} {l : List Fa} (h : Mp w b l) (x : Fa) (hs : x.1.size ≤ maxLen) (hl : l.length < maxLen) :
    ∃ w', (Instr.mapUpdate 41 (.map (some b)) (.string x.1) (W (ex l x.1 + x.2))).run Tryz.prog w = .ok () w' ∧ Mp w' b (l ++ [x]) ∧ w.grownBy w' (some b) := by
  obtain ⟨D, h, hS⟩ := h
  obtain ⟨w', hrun, hown, hg⟩ := h.update K9 kMap hl (kS_key hs) (wElem_mk (ex l x.1 + x.2))
  exact ⟨w', hrun, ⟨_, by rw [List.length_append]; exact hown, hS.put x hs⟩, hg⟩
/-- 'm[s] = v' at the operation. -/
theorem wp_store {w : World} {o : Oper} {a : Act} {K : Act → World → Prop} {Q : Exit → Act → World → Prop} (m x v : Operand) (hop : o.op = Op.mapUpdate 41 m x v) (b : Nat) (l : List Fa) (hm : a.eval m = .map (some b)) (h : Mp w b l)
    (y : Fa) (hx : a.eval x = .string y.1) (hv : a.eval v = W (ex l y.1 + y.2)) (hs : y.1.size ≤ maxLen) (hl : l.length < maxLen)
    (hK : ∀ w', Mp w' b (l ++ [y]) → w.grownBy w' (some b) → K (a.put o.dst undef) w') : o.wp Tryz.prog a w K Q := by
  obtain ⟨w', hrun, h1, h2⟩ := h.store y hs hl
  unfold Oper.wp
  simp [execOp, hop, hm, hx, hv, hrun, Result.andThen]
  exact hK w' h1 h2
theorem gcell {w w' : World} {b k o : Nat} {v : Value} (h : w.grownBy w' (some b)) (hne : k ≠ b) (hc : w.cell? ⟨k, o, none⟩ = some v) : w'.cell? ⟨k, o, none⟩ = some v := by
  have hl : k < w.heap.size := block_lt_of_cell hc
  have hb := h.block k hl (by simpa using hne)
  unfold World.cell? at hc ⊢
  rw [hb]
  exact hc
end Go.Proofs.YtcndlcogainnkaaGreatDoor
