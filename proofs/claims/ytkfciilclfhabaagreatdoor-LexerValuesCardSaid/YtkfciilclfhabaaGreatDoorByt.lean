/-
  Bytes in memory: slices that are read, bytes of the call's own, conversions.
-/
import Derived.Test.YtkfciilclfhabaaGreatDoorKw
import Derived.Test.YtkfciilclfhabaaGreatDoorMt
import Derived.Test.YtkfciilclfhabaaGreatDoorMp
import Derived.Lib.AppendStr
import Derived.Lib.SmallJoins
namespace Go.Proofs.YtkfciilclfhabaaGreatDoor
open Go.RowKit dec

theorem infoU : (Tryz.prog.info? 5).map (fun i => (i.zero, i.size, i.bytes)) = some (some (.int .u8 0), 1, 1) := by kernel_rfl
def bv (l : List UInt8) : List Value := l.map fun c => Value.int .u8 (c.toNat : Int)
theorem bv_len (l : List UInt8) : (bv l).length = l.length := by unfold bv; rw [List.length_map]
theorem bv_append (l r : List UInt8) : bv (l ++ r) = bv l ++ bv r := by unfold bv; rw [List.map_append]
theorem strCells_bv (s : ByteArray) : Lib.strCells s = bv s.data.toList := by
  unfold Lib.strCells bv
  simp
/-- Bytes that the call made. -/
def OB (w : World) (base : Nat) (v : Value) (l : List UInt8) : Prop := w.ownsRow base 5 1 v l.length (bv l)
theorem OB.nil (w : World) (base : Nat) : OB w base (.slice none 0 0) [] := World.ownsRow_nil _ _ _ _
theorem OB.keeps {w w1 : World} {base : Nat} {v : Value} {l : List UInt8} (h : OB w base v l) (hb : Below w.heap.size w w1) : OB w1 base v l := by
  obtain ⟨h1, h2⟩ := h
  refine ⟨h1, ?_⟩
  rcases h2 with h0 | ⟨g, cap, cur, e, hbg, hh, r⟩
  · exact .inl h0
  · refine .inr ⟨g, cap, cur, e, hbg, ?_, r⟩
    have : g < w.heap.size := by
      rcases Nat.lt_or_ge g w.heap.size with h' | h'
      · exact h'
      · rw [Array.getElem?_eq_none h'] at hh; cases hh
    rw [hb.block _ this]
    exact hh
theorem wpList_pushB (w : World) {ops : Array Oper} {rest : List Oper} {o : Oper} {a : Act} {Q : Exit → Act → World → Prop} (hgd : o.guard = none) (s x : Operand)
    (ho : o.op = .call { callee := .builtin .append, args := #[s, x], argTypes := #[22, 22] })
    (base : Nat) (v : Value) (l : List UInt8) (hs : a.eval s = v) (hown : OB w base v l) (b : Nat) (t : UInt8) (hx : a.eval x = .slice (some ⟨b, 0, none⟩) 1 1) (hB : w.cell? ⟨b, 0, none⟩ = some (.int .u8 (t.toNat : Int)))
    (hn : l.length < 140737488355328) (hbase : base ≤ w.heap.size)
    (h : ∀ v' w', OB w' base v' (l ++ [t]) → Below base w w' → wpList Tryz.prog ops Q rest (a.put o.dst v') w') : wpList Tryz.prog ops Q (o :: rest) a w := by
  refine wpList_plain hgd fun _ hK => ?_
  obtain ⟨i, hi, hz0, hz1, hz2⟩ := info_parts infoU
  refine wp_append_own w s x 22 ho base 5 i (.int .u8 0) 1 1 Tryz.underlying22 hi hz0 hz1 hz2 rfl (by decide) v l.length (bv l) hs hown ⟨b, 0, none⟩ 1 1 [.int .u8 (t.toNat : Int)] hx rfl ?_ (fun u hu => by simp at hu; subst hu; rfl)
    (by unfold maxLen; omega) (by omega) hbase fun v' w' h1 h2 _ => hK _ _ (h v' w' (by unfold OB; rw [bv_append, List.length_append]; exact h1) ((Below.refl base w).grown h2 hbase fun k hk => (hown.lt k hk).1))
  intro j u hu
  match j, hu with
  | 0, hu => simp at hu; subst hu; exact hB
  | j + 1, hu => simp at hu
theorem wpList_catB (w : World) {ops : Array Oper} {rest : List Oper} {o : Oper} {a : Act} {Q : Exit → Act → World → Prop} (hgd : o.guard = none) (s x : Operand)
    (ho : o.op = .call { callee := .builtin .append, args := #[s, x], argTypes := #[22, 9] })
    (base : Nat) (v : Value) (l : List UInt8) (hs : a.eval s = v) (hown : OB w base v l) (t : ByteArray) (hx : a.eval x = .string t)
    (hn : l.length + t.size ≤ 140737488355328) (hbase : base ≤ w.heap.size)
    (h : ∀ v' w', OB w' base v' (l ++ t.data.toList) → Below base w w' → wpList Tryz.prog ops Q rest (a.put o.dst v') w') : wpList Tryz.prog ops Q (o :: rest) a w := by
  obtain ⟨i, hi, hz0, hz1, hz2⟩ := info_parts infoU
  refine Lib.wpList_append_own_string w hgd s x 22 9 ho base 5 i Tryz.underlying22 Tryz.underlying9 hi hz0 hz1 hz2 v l.length (bv l) hs hown t hx (by unfold maxLen; omega) hn hbase fun v' w' h1 h2 _ => h v' w' ?_ ((Below.refl base w).grown h2 hbase fun k hk => (hown.lt k hk).1)
  unfold OB
  rw [bv_append, List.length_append, ← strCells_bv]
  rw [show t.data.toList.length = t.size from by rw [Array.length_toList]; rfl]
  exact h1
theorem is_appB {w : World} {ops : Array Oper} {rest : List Oper} {o : Oper} {a : Act} {Q : Exit → Act → World → Prop} (s x : Operand) (_ : o.op = .call { callee := .builtin .append, args := #[s, x], argTypes := #[22, 22] })
    (k : wpList Tryz.prog ops Q (o :: rest) a w) : wpList Tryz.prog ops Q (o :: rest) a w := k
theorem is_appT {w : World} {ops : Array Oper} {rest : List Oper} {o : Oper} {a : Act} {Q : Exit → Act → World → Prop} (s x : Operand) (_ : o.op = .call { callee := .builtin .append, args := #[s, x], argTypes := #[22, 9] })
    (k : wpList Tryz.prog ops Q (o :: rest) a w) : wpList Tryz.prog ops Q (o :: rest) a w := k
/-- string(b). -/
theorem OB.str {w : World} {base : Nat} {v : Value} {l : List UInt8} (h : OB w base v l) : (convert 22 9 v).run Tryz.prog w = .ok (.string ⟨l.toArray⟩) w := by
  obtain ⟨h1, h2⟩ := id h
  rcases h2 with ⟨rfl, h0⟩ | ⟨g, cap, cur, rfl, hbg, hh, hc, hm, hs, ht⟩
  · have hz : l = [] := List.eq_nil_of_length_eq_zero h0
    subst hz
    exact run_convert_bytes_nil (P := Tryz.prog) (w := w) 22 5 Tryz.underlying22 Tryz.underlying5 0 0 _ Tryz.underlying9
  · rw [run_convert_bytes_arg w 22 5 Tryz.underlying22 Tryz.underlying5 g 0 l.length cap (l.map fun c => (c.toNat : Int)) (by rw [List.length_map]) ?_ _ Tryz.underlying9]
    · congr 2
      unfold strOfNums
      rw [List.map_map]
      congr 2
      refine (List.map_congr_left fun c _ => ?_).trans (List.map_id l)
      simp
    · intro i hi
      rw [Nat.zero_add, World.ownsRow.cellAt h i (by simpa using hi)]
      unfold bv
      rw [List.getElem?_map, List.getElem?_eq_getElem hi, List.getD_eq_getElem?_getD, List.getElem?_map, List.getElem?_eq_getElem hi]
      rfl
/-- What is told of a slice of bytes that is read. -/
structure Bs (w : World) (a : Option Addr) (n cap : Nat) (s : ByteArray) : Prop where
  hat : s.size = 0 ∨ ∃ b off, a = some ⟨b, off, none⟩ ∧ ∀ j (hj : j < s.size), w.cell? ⟨b, off + j, none⟩ = some (.int .u8 (s[j].toNat : Int))
  hn : s.size = n
  hcap : n ≤ cap
  hmax : cap ≤ 9223372036854775807
  hno : a = none → cap = 0
theorem Bs.keeps {w w1 : World} {a : Option Addr} {n cap : Nat} {s : ByteArray} (h : Bs w a n cap s) (hb : Below w.heap.size w w1) : Bs w1 a n cap s :=
  { h with hat := h.hat.imp id fun ⟨b, off, e, hB⟩ => ⟨b, off, e, fun j hj => dec.keeps hb (hB j hj)⟩ }
theorem Bs.str {w : World} {a : Option Addr} {n cap : Nat} {s : ByteArray} (h : Bs w a n cap s) : (convert 22 9 (.slice a n cap)).run Tryz.prog w = .ok (.string s) w := by
  have hn := h.hn
  subst hn
  rcases h.hat with h0 | ⟨b, off, rfl, hB⟩
  · have hs := size_zero h0
    subst hs
    rw [run_convert_bytes_string w 22 9 5 a _ cap Tryz.underlying22 Tryz.underlying5 Tryz.underlying9]
    show (Conv.bytesToString (.slice a 0 cap)).run Tryz.prog w = _
    cases a <;> simp [Conv.bytesToString, loadCells]
    all_goals rfl
  · have hl : s.data.toList.length = s.size := str_len s
    have := run_convert_bytes_arg (P := Tryz.prog) w 22 5 Tryz.underlying22 Tryz.underlying5 b off s.size cap (s.data.toList.map fun c => (c.toNat : Int)) (by rw [List.length_map, hl]) (fun i hi => by
      rw [hB i hi, List.getD_eq_getElem?_getD, List.getElem?_map, List.getElem?_eq_getElem (by rw [hl]; exact hi)]
      rfl) _ Tryz.underlying9
    rw [this]
    have e : strOfNums (s.data.toList.map fun c => (c.toNat : Int)) = s := by
      unfold strOfNums
      rw [List.map_map]
      refine (congrArg (fun l : List UInt8 => (⟨l.toArray⟩ : ByteArray)) ?_).trans (ba_list s)
      refine (List.map_congr_left fun c _ => ?_).trans (List.map_id _)
      show UInt8.ofNat ((c.toNat : Int)).toNat = c
      rw [Int.toNat_natCast, UInt8.ofNat_toNat]
    rw [e]
theorem OB.bs {w : World} {base : Nat} {v : Value} {s : ByteArray} (h : OB w base v s.data.toList) : ∃ a cap, v = .slice a s.size cap ∧ Bs w a s.size cap s := by
  have hl := str_len s
  obtain ⟨h1, h2⟩ := id h
  rcases h2 with ⟨rfl, h0⟩ | ⟨g, cap, cur, rfl, hbg, hh, hc, hm, hs, ht⟩
  · rw [hl] at h0
    exact ⟨none, 0, by rw [h0], ⟨.inl h0, rfl, by omega, by omega, fun _ => rfl⟩⟩
  · rw [hl] at hc
    refine ⟨_, cap, by rw [hl], ⟨.inr ⟨g, 0, rfl, fun j hj => ?_⟩, rfl, hc, by unfold maxLen at hm; omega, fun h => by cases h⟩⟩
    rw [Nat.zero_add, World.ownsRow.cellAt h j (by rw [hl]; omega)]
    unfold bv
    rw [List.getElem?_map, List.getElem?_eq_getElem (by rw [hl]; exact hj)]
    rfl
/-- []byte(s). -/
theorem bytes_of (w : World) (s : ByteArray) (hs : s.size ≤ 281474976710656) : ∃ w' c, (convert 9 22 (.string s)).run Tryz.prog w = .ok (.slice (some ⟨w.heap.size, 0, none⟩) s.size c) w' ∧ Bs w' (some ⟨w.heap.size, 0, none⟩) s.size c s ∧ Below w.heap.size w w' := by
  refine ⟨Lib.bytesWorld w 5 s, grownCap w s.size 0 5, Lib.run_convert_string_bytes w 9 22 5 s Tryz.underlying9 Tryz.underlying22 Tryz.underlying5, ⟨.inr ⟨_, _, rfl, fun j hj => ?_⟩, rfl, grownCap_ge _ _ _ _, ?_, fun h => by cases h⟩, below_bytes _ _ _⟩
  · rw [Nat.zero_add, Lib.bytesWorld_cell w 5 s j hj]
    rw [List.getD_eq_getElem?_getD, List.getElem?_eq_getElem (by rw [str_len]; exact hj)]
    rfl
  · have := grownCap_le_maxLen w s.size 0 5 (by unfold maxLen; omega)
    unfold maxLen at this
    omega
end Go.Proofs.YtkfciilclfhabaaGreatDoor
