/-
  Lists of strings of the call's own; lexer.Join.
-/
import Derived.Test.YtkgclmikhpjheaaGreatDoorShelf
import Derived.Test.YtkgclmikhpjheaaGreatDoorZMc
namespace Go.Proofs.YtkgclmikhpjheaaGreatDoor
open Go.RowKit dec

/-! Lists of strings of the call's own. -/
theorem infoS : (Tryz.prog.info? 9).map (fun i => (i.zero, i.size, i.bytes)) = some (some (.string ByteArray.empty), 1, 16) := by kernel_rfl
def OS (w : World) (base : Nat) (v : Value) (l : List ByteArray) : Prop := w.ownsRow base 9 1 v l.length (l.map Value.string)
theorem OS.nil (w : World) (base : Nat) : OS w base (.slice none 0 0) [] := World.ownsRow_nil _ _ _ _
theorem OS.keeps {w w1 : World} {base : Nat} {v : Value} {l : List ByteArray} (h : OS w base v l) (hb : Below w.heap.size w w1) : OS w1 base v l := by
  obtain ⟨h1, h2⟩ := h
  refine ⟨h1, ?_⟩
  rcases h2 with h0 | ⟨g, cap, cur, e, hbg, hh, r⟩
  · exact .inl h0
  · refine .inr ⟨g, cap, cur, e, hbg, ?_, r⟩
    have : g < w.heap.size := by
      rcases Nat.lt_or_ge g w.heap.size with h' | h'
      · exact h'
      · rw [Array.getElem?_eq_none h'] at hh; cases hh
    rw [hb.block _ this]
    exact hh
theorem wpList_pushS (w : World) {ops : Array Oper} {rest : List Oper} {o : Oper} {a : Act} {Q : Exit → Act → World → Prop} (hgd : o.guard = none) (s x : Operand)
    (ho : o.op = .call { callee := .builtin .append, args := #[s, x], argTypes := #[61, 61] })
    (base : Nat) (v : Value) (l : List ByteArray) (hs : a.eval s = v) (hown : OS w base v l) (b : Nat) (t : ByteArray) (hx : a.eval x = .slice (some ⟨b, 0, none⟩) 1 1) (hB : w.cell? ⟨b, 0, none⟩ = some (.string t))
    (hn : l.length < 5864062014805) (hbase : base ≤ w.heap.size)
    (h : ∀ v' w', OS w' base v' (l ++ [t]) → Below base w w' → wpList Tryz.prog ops Q rest (a.put o.dst v') w') : wpList Tryz.prog ops Q (o :: rest) a w := by
  refine wpList_plain hgd fun _ hK => ?_
  obtain ⟨i, hi, hz0, hz1, hz2⟩ := info_parts infoS
  refine wp_append_own w s x 61 ho base 9 i (.string ByteArray.empty) 1 16 Tryz.underlying61 hi hz0 hz1 hz2 rfl (by decide) v l.length (l.map Value.string) hs hown ⟨b, 0, none⟩ 1 1 [.string t] hx rfl ?_ (fun u hu => by simp at hu; subst hu; rfl)
    (by unfold maxLen; omega) (by omega) hbase fun v' w' h1 h2 _ => hK _ _ (h v' w' (by unfold OS; rw [List.map_append, List.length_append]; exact h1) ((Below.refl base w).grown h2 hbase fun k hk => (hown.lt k hk).1))
  intro j u hu
  match j, hu with
  | 0, hu => simp at hu; subst hu; exact hB
  | j + 1, hu => simp at hu
theorem is_appS {w : World} {ops : Array Oper} {rest : List Oper} {o : Oper} {a : Act} {Q : Exit → Act → World → Prop} (s x : Operand) (_ : o.op = .call { callee := .builtin .append, args := #[s, x], argTypes := #[61, 61] })
    (k : wpList Tryz.prog ops Q (o :: rest) a w) : wpList Tryz.prog ops Q (o :: rest) a w := k
/-- strings.Join over such a list. -/
theorem join_any (v : Value) (l : List ByteArray) (base : Nat) (w : World) (hO : OS w base v l) (hn : l.length < 5864062014805) (hl : (Lib.join (l.map (·.data.toList)) [32]).length ≤ 140737488355328) :
    Calls Tryz.prog 67 #[v, .string ⟨#[32]⟩] w fun e w' => e = .returned (.string ⟨(Lib.join (l.map (·.data.toList)) [32]).toArray⟩) ∧ Below w.heap.size w w' := by
  obtain ⟨h1, h2⟩ := id hO
  rcases h2 with ⟨rfl, h0⟩ | ⟨g, cap, cur, rfl, hbg, hh, hc, hm, hs, ht⟩
  · have hz : l = [] := List.eq_nil_of_length_eq_zero h0
    subst hz
    refine (Tryz.strings_Join_none none 0 ⟨#[32]⟩ w).mono ?_
    rintro e w' ⟨rfl, rfl⟩
    exact ⟨rfl, b0 _⟩
  · refine (Tryz.strings_Join g 0 cap l ⟨#[32]⟩ w (fun j x hx => ?_) (hO.lt g rfl).2 (by omega) hc hl).mono ?_
    · have hj : j < l.length := (List.getElem?_eq_some_iff.1 hx).1
      rw [Nat.zero_add, World.ownsRow.cellAt hO j (by simpa using hj), List.getElem?_map, hx]
      rfl
    · rintro e w' ⟨rfl, hb⟩
      exact ⟨rfl, hb⟩
/-- The tokens without the end. -/
def stripE (l : List Tk) : List Tk := if l ≠ [] ∧ (tk.gt l (l.length - 1)).k = 6 ∧ (tk.gt l (l.length - 1)).t.size = 0 then l.take (l.length - 1) else l
def allP (l : List Tk) : Bool := l.all pr
def joinL (l : List Tk) : List UInt8 := Lib.join ((stripE l).map so) [32]
def joinE (l : List Tk) : Int := if allP (stripE l) = true then (if 16384 < (joinL l).length then 2 else 0) else 3
def joinB (l : List Tk) : List UInt8 := if joinE l = 0 then joinL l else []
/-- What Join hands back. -/
def JR (w w' : World) (e : Ending) (l : List Tk) : Prop := ∃ (s : ByteArray) (a : Option Addr) (cap : Nat), s.data.toList = joinB l ∧ e = .returned (.tuple #[.slice a s.size cap, .int .i64 (joinE l)]) ∧ Bs w' a s.size cap s ∧ Below w.heap.size w w'
def fewT (l : List Tk) : Prop := (∀ x ∈ l, x.t.size ≤ 1000000) ∧ l.length ≤ 100000
theorem so_size (x : Tk) : (so x).length ≤ x.t.size + 2 := by
  unfold so
  split
  · simp only [List.length_cons, List.length_append, List.length_nil, str_len]
    omega
  · rw [str_len]
    omega
theorem so_sum : ∀ l : List Tk, (∀ x ∈ l, x.t.size ≤ 1000000) → (l.map fun x => (so x).length).sum ≤ 1000002 * l.length
  | [], _ => Nat.zero_le _
  | x :: l, h => by
    have h1 := so_sum l fun y hy => h y (List.mem_cons_of_mem _ hy)
    have h2 := so_size x
    have h3 := h x (List.mem_cons_self ..)
    rw [List.map_cons, List.sum_cons, List.length_cons]
    omega
theorem so_map (l : List Tk) : (l.map fun x => (⟨(so x).toArray⟩ : ByteArray)).map (·.data.toList) = l.map so := by
  rw [List.map_map]
  rfl
theorem few_take {l : List Tk} (h : fewT l) (j : Nat) : fewT (l.take j) := ⟨fun x hx => h.1 x (List.mem_of_mem_take hx), by have := h.2; rw [List.length_take]; omega⟩
theorem few_strip {l : List Tk} (h : fewT l) : fewT (stripE l) := by
  unfold stripE
  split
  · exact few_take h _
  · exact h
theorem join_few {l : List Tk} (h : fewT l) : (Lib.join (l.map so) [32]).length ≤ 140737488355328 := by
  have h1 := join_le l
  have h2 := so_sum l h.1
  have h3 := h.2
  omega
theorem prB_so (x : Tk) : prB x.k ⟨(so x).toArray⟩ = pr x := prB_pr x rfl
theorem all_next {l : List Tk} {j : Nat} (h : j < l.length) (h1 : allP (l.take j) = true) : allP (l.take (j + 1)) = pr (tk.gt l j) := by
  unfold allP at *
  rw [tk.take_gt h, List.all_append, h1, Bool.true_and]
  simp
theorem all_no {l : List Tk} {j : Nat} (h : j < l.length) (h1 : pr (tk.gt l j) = false) : allP l = false := by
  unfold allP
  cases hh : l.all pr
  · rfl
  · have := List.all_eq_true.1 hh _ (tk.gt_mem h)
    rw [h1] at this
    cases this
set_option maxRecDepth 100000 in
set_option maxHeartbeats 4000000 in
/-- The loop and what follows it. -/
theorem joinLoop_any : True := trivial
end Go.Proofs.YtkgclmikhpjheaaGreatDoor
