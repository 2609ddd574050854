/-
  Lists of problems in memory: slices that are read, slices of the call's own; append; one of them in a block.
-/
import Derived.Test.YtkfciilclfhabaaGreatDoorLv
import Derived.Test.YtkfciilclfhabaaGreatDoorDecB
import Derived.Below
import Derived.Lib.QuietBelow
import Derived.Laws.AppendOwn
import Derived.Laws.OwnMore
import Derived.OwnWalk
namespace Go.Proofs.YtkfciilclfhabaaGreatDoor.pb
open Go.RowKit dec

/-- The block b is x. -/
structure Bw (w : World) (b : Nat) (x : Pb) : Prop where
  c0 : w.cell? ⟨b, 0, none⟩ = some (.int .i64 (x).1)
  c1 : w.cell? ⟨b, 1, none⟩ = some (.int .i64 (x).2)
theorem Bw.lt {w : World} {b : Nat} {x : Pb} (h : Bw w b x) : b < w.heap.size := block_lt_of_cell h.c0
theorem Bw.new (w : World) (x : Pb) (T : TypeId) : Bw (w.alloc (.cells #[.int .i64 (x).1, .int .i64 (x).2] T)) w.heap.size x := ⟨by simp [go_sem], by simp [go_sem]⟩
theorem Bw.keeps' {w w1 : World} {B b : Nat} {x : Pb} (h : Bw w b x) (hb : Below B w w1) (hl : b < B) : Bw w1 b x :=
  ⟨(hb.cell hl).trans h.c0, (hb.cell hl).trans h.c1⟩
theorem Bw.keeps {w w1 : World} {b : Nat} {x : Pb} (h : Bw w b x) (hb : Below w.heap.size w w1) : Bw w1 b x := h.keeps' hb h.lt
theorem Bw.past {w : World} {b : Nat} {x : Pb} (h : Bw w b x) (o : Obj) : Bw (w.alloc o) b x := h.keeps (balloc (b0 w) o)

def cs : List Pb → List Value
  | [] => []
  | x :: l => .int .i64 (x).1 :: .int .i64 (x).2 :: cs l
theorem cs_length : ∀ l : List Pb, (cs l).length = l.length * 2
  | [] => rfl
  | x :: l => by simp only [cs, List.length_cons, cs_length l]; omega
theorem cs_append : ∀ l r : List Pb, cs (l ++ r) = cs l ++ cs r
  | [], _ => rfl
  | x :: l, r => by simp only [cs, List.cons_append, cs_append l r]
theorem cs_one : ∀ l : List Pb, ∀ u ∈ cs l, u.oneCell' = true
  | [], u, h => by simp [cs] at h
  | x :: l, u, h => by
    simp only [cs, List.mem_cons] at h
    rcases h with rfl | rfl | h
    · rfl
    · rfl
    · exact cs_one l u h
def gt (l : List Pb) (j : Nat) : Pb := l.getD j (0, 0)
theorem gt_mem {l : List Pb} {j : Nat} (h : j < l.length) : gt l j ∈ l := by
  unfold gt
  rw [List.getD_eq_getElem?_getD, List.getElem?_eq_getElem h]
  exact List.getElem_mem h
theorem gt_eq {l : List Pb} {j : Nat} (h : j < l.length) : gt l j = l[j] := by
  unfold gt
  rw [List.getD_eq_getElem?_getD, List.getElem?_eq_getElem h]
  rfl
theorem cs_at : ∀ (l : List Pb) (j : Nat), j < l.length → (cs l)[j * 2]? = some (.int .i64 (gt l j).1) ∧ (cs l)[j * 2 + 1]? = some (.int .i64 (gt l j).2)
  | [], j, h => by simp at h
  | x :: l, 0, _ => ⟨rfl, rfl⟩
  | x :: l, j + 1, h => by
    have := cs_at l j (by simpa using h)
    rw [show (j + 1) * 2 = j * 2 + 1 + 1 by omega]
    simp only [cs, List.getElem?_cons_succ]
    exact this
theorem drop_gt {l : List Pb} {j : Nat} (h : j < l.length) : l.drop j = gt l j :: l.drop (j + 1) := by
  rw [gt_eq h]
  exact List.drop_eq_getElem_cons h
theorem take_gt {l : List Pb} {j : Nat} (h : j < l.length) : l.take (j + 1) = l.take j ++ [gt l j] := by
  rw [gt_eq h, List.take_add_one, List.getElem?_eq_getElem h]
  rfl

/-- The cells behind an address hold l. -/
def Cl (w : World) (b off : Nat) (l : List Pb) : Prop := ∀ j, j < l.length → w.cell? ⟨b, off + j * 2, none⟩ = some (.int .i64 (gt l j).1) ∧ w.cell? ⟨b, off + j * 2 + 1, none⟩ = some (.int .i64 (gt l j).2)
theorem Cl.keeps {w w1 : World} {b off : Nat} {l : List Pb} (h : Cl w b off l) (hb : Below w.heap.size w w1) : Cl w1 b off l := fun j hj => ⟨dec.keeps hb (h j hj).1, dec.keeps hb (h j hj).2⟩
/-- A slice at the address a holds l. -/
def At (w : World) (a : Option Addr) (l : List Pb) : Prop := l.length = 0 ∨ ∃ b off, a = some ⟨b, off, none⟩ ∧ Cl w b off l
theorem At.keeps {w w1 : World} {a : Option Addr} {l : List Pb} (h : At w a l) (hb : Below w.heap.size w w1) : At w1 a l := h.imp id fun ⟨b, off, e, hB⟩ => ⟨b, off, e, hB.keeps hb⟩
theorem At.nil (w : World) (a : Option Addr) : At w a [] := .inl rfl
/-- What is told of a slice that is read. -/
structure Sl (w : World) (a : Option Addr) (n cap : Nat) (l : List Pb) : Prop where
  hat : At w a l
  hn : l.length = n
  hcap : n ≤ cap
  hmax : cap ≤ 9223372036854775807
  hno : a = none → cap = 0
theorem Sl.keeps {w w1 : World} {a : Option Addr} {n cap : Nat} {l : List Pb} (h : Sl w a n cap l) (hb : Below w.heap.size w w1) : Sl w1 a n cap l := { h with hat := h.hat.keeps hb }
theorem Sl.nil (w : World) : Sl w none 0 0 [] := ⟨.inl rfl, rfl, by omega, by omega, fun _ => rfl⟩
theorem Cl.cut {w : World} {b off : Nat} {l : List Pb} (h : Cl w b off l) (k m : Nat) : Cl w b (off + k * 2) ((l.drop k).take m) := by
  intro j hj
  have hlen : ((l.drop k).take m).length = min m (l.length - k) := by simp
  have := h (k + j) (by omega)
  have e : gt ((l.drop k).take m) j = gt l (k + j) := by
    rw [gt_eq hj, gt_eq (by omega)]
    simp
  rw [e, show off + k * 2 + j * 2 = off + (k + j) * 2 by omega]
  exact this
theorem Cl.take {w : World} {b off : Nat} {l : List Pb} (h : Cl w b off l) (m : Nat) : Cl w b off (l.take m) := by
  have := h.cut 0 m
  simpa using this

theorem infoF : (Tryz.prog.info? 52).map (fun i => (i.zero, i.size, i.bytes)) = some (some (.agg #[.int .i64 0, .int .i64 0]), 2, 16) := by kernel_rfl

/-- The value v is a slice of the call's own that holds l. -/
def Own (w : World) (base : Nat) (v : Value) (l : List Pb) : Prop := w.ownsRow base 52 2 v l.length (cs l)
theorem Own.nil (w : World) (base : Nat) : Own w base (.slice none 0 0) [] := World.ownsRow_nil _ _ _ _
theorem Own.less {w : World} {base base' : Nat} {v : Value} {l : List Pb} (h : Own w base v l) (hb : base' ≤ base) : Own w base' v l := by
  refine ⟨h.1, h.2.imp id fun ⟨g, cap, cur, e, hbg, r⟩ => ⟨g, cap, cur, e, by omega, r⟩⟩
theorem Own.out {w : World} {base : Nat} {v : Value} {l : List Pb} (h : Own w base v l) : (v = .slice none 0 0 ∧ l = []) ∨ ∃ g cap, v = .slice (some ⟨g, 0, none⟩) l.length cap ∧ base ≤ g ∧ g < w.heap.size ∧ l.length ≤ cap ∧ cap ≤ 9223372036854775807 ∧ Cl w g 0 l := by
  rcases h.2 with ⟨h0, h1⟩ | ⟨g, cap, cur, rfl, hb, hg, hc, hm, hs, ht⟩
  · exact .inl ⟨h0, List.eq_nil_of_length_eq_zero h1⟩
  · refine .inr ⟨g, cap, rfl, hb, (h.lt g rfl).2, hc, by unfold maxLen at hm; omega, fun j hj => ?_⟩
    rw [Nat.zero_add, h.cellAt (j * 2) (by omega), h.cellAt (j * 2 + 1) (by omega)]
    exact cs_at l j hj
theorem Own.sl {w : World} {base : Nat} {v : Value} {l : List Pb} (h : Own w base v l) : ∃ a cap, v = .slice a l.length cap ∧ Sl w a l.length cap l := by
  rcases h.out with ⟨rfl, rfl⟩ | ⟨g, cap, rfl, _, _, hc, hm, hW⟩
  · exact ⟨none, 0, rfl, .nil _⟩
  · exact ⟨_, cap, rfl, .inr ⟨g, 0, rfl, hW⟩, rfl, hc, hm, fun h => by cases h⟩
theorem Own.keeps {w w1 : World} {base : Nat} {v : Value} {l : List Pb} (h : Own w base v l) (hb : Below w.heap.size w w1) : Own w1 base v l := by
  obtain ⟨h1, h2⟩ := h
  refine ⟨h1, ?_⟩
  rcases h2 with h0 | ⟨g, cap, cur, e, hbg, hh, r⟩
  · exact .inl h0
  · refine .inr ⟨g, cap, cur, e, hbg, ?_, r⟩
    have : g < w.heap.size := by
      rcases Nat.lt_or_ge g w.heap.size with h' | h'
      · exact h'
      · rw [Array.getElem?_eq_none h'] at hh; cases hh
    rw [hb.block _ this]
    exact hh
theorem own_below {w w' : World} {base : Nat} {v : Value} {l : List Pb} (h : Own w base v l) (hg : w.grownBy w' v.ownBlock) (hb : base ≤ w.heap.size) : Below base w w' :=
  (Below.refl base w).grown hg hb fun k hk => (h.lt k hk).1

/-- append(s, x), s of the call's own. -/
theorem wp_push (w : World) {o : Oper} {a : Act} {K : Act → World → Prop} {Q : Exit → Act → World → Prop} (s x : Operand)
    (ho : o.op = .call { callee := .builtin .append, args := #[s, x], argTypes := #[25, 25] })
    (base : Nat) (v : Value) (l : List Pb) (hs : a.eval s = v) (hown : Own w base v l) (b : Nat) (y : Pb) (hx : a.eval x = .slice (some ⟨b, 0, none⟩) 1 1) (hB : Bw w b y)
    (hn : l.length < 8796093022208) (hbase : base ≤ w.heap.size)
    (h : ∀ v' w', Own w' base v' (l ++ [y]) → Below base w w' → w.grownBy w' v.ownBlock → K (a.put o.dst v') w') : o.wp Tryz.prog a w K Q := by
  obtain ⟨i, hi, hz0, hz1, hz2⟩ := info_parts infoF
  refine wp_append_own w s x 25 ho base 52 i (.agg #[.int .i64 0, .int .i64 0]) 2 16 Tryz.underlying25 hi hz0 hz1 hz2 rfl (by decide) v l.length (cs l) hs hown ⟨b, 0, none⟩ 1 1 (cs [y]) hx rfl ?_ (cs_one _)
    (by unfold maxLen; omega) (by omega) hbase fun v' w' h1 h2 _ => h v' w' (by unfold Own; rw [cs_append, List.length_append]; exact h1) (own_below hown h2 hbase) h2
  intro j u hu
  unfold Addr.add
  match j, hu with
  | 0, hu => simp [cs] at hu; subst hu; exact hB.c0
  | 1, hu => simp [cs] at hu; subst hu; exact hB.c1
  | j + 2, hu => simp [cs] at hu
theorem wpList_push (w : World) {ops : Array Oper} {rest : List Oper} {o : Oper} {a : Act} {Q : Exit → Act → World → Prop} (hgd : o.guard = none) (s x : Operand)
    (ho : o.op = .call { callee := .builtin .append, args := #[s, x], argTypes := #[25, 25] })
    (base : Nat) (v : Value) (l : List Pb) (hs : a.eval s = v) (hown : Own w base v l) (b : Nat) (y : Pb) (hx : a.eval x = .slice (some ⟨b, 0, none⟩) 1 1) (hB : Bw w b y)
    (hn : l.length < 8796093022208) (hbase : base ≤ w.heap.size)
    (h : ∀ v' w', Own w' base v' (l ++ [y]) → Below base w w' → w.grownBy w' v.ownBlock → wpList Tryz.prog ops Q rest (a.put o.dst v') w') : wpList Tryz.prog ops Q (o :: rest) a w :=
  wpList_plain hgd fun _ hK => wp_push w s x ho base v l hs hown b y hx hB hn hbase fun v' w' h1 h2 h3 => hK _ _ (h v' w' h1 h2 h3)
/-- The operation is this append. -/
theorem is_app {w : World} {ops : Array Oper} {rest : List Oper} {o : Oper} {a : Act} {Q : Exit → Act → World → Prop} (s x : Operand) (_ : o.op = .call { callee := .builtin .append, args := #[s, x], argTypes := #[25, 25] })
    (k : wpList Tryz.prog ops Q (o :: rest) a w) : wpList Tryz.prog ops Q (o :: rest) a w := k
end Go.Proofs.YtkfciilclfhabaaGreatDoor.pb
