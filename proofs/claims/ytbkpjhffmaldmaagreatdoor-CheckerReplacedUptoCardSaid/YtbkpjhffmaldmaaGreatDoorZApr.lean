/-
  Rows of the call's own, made by append.
-/
import Derived.Laws.AppendOwnNone
import Derived.Test.YtbkpjhffmaldmaaGreatDoorQ12
namespace Go.Proofs.YtbkpjhffmaldmaaGreatDoor.ch
open Go.RowKit dec

/-- What holds of an element's type and of the type of its slices. -/
structure Inf (T ST : TypeId) (k bytes : Nat) (z : Value) : Prop where
  und : Tryz.prog.underlying ST = some (.slice T)
  inf : (Tryz.prog.info? T).map (fun i => (i.zero, i.size, i.bytes)) = some (some z, k, bytes)
  zs : z.cells.size = k
  pos : 0 < k
def flC (css : List (Array Value)) : List Value := (css.map (·.toList)).flatten
theorem flC_len {k : Nat} : ∀ {css : List (Array Value)}, (∀ c ∈ css, c.size = k) → (flC css).length = css.length * k
  | [], _ => by simp [flC]
  | c :: css, h => by
    have := flC_len (css := css) fun x hx => h x (List.mem_cons_of_mem _ hx)
    have h0 := h c (List.mem_cons_self ..)
    show (c.toList ++ flC css).length = _
    rw [List.length_append, this, Array.length_toList, h0, List.length_cons, Nat.add_mul]
    omega
theorem flC_at {k : Nat} : ∀ {css : List (Array Value)}, (∀ c ∈ css, c.size = k) → ∀ (j i : Nat) (hj : j < css.length), i < k → (flC css)[j * k + i]? = css[j][i]?
  | [], _, j, i, hj, _ => by cases hj
  | c :: css, h, 0, i, _, hi => by
    have h0 := h c (List.mem_cons_self ..)
    show (c.toList ++ flC css)[0 * k + i]? = _
    rw [Nat.zero_mul, Nat.zero_add, List.getElem?_append_left (by rw [Array.length_toList, h0]; exact hi), Array.getElem?_toList]
    rfl
  | c :: css, h, j + 1, i, hj, hi => by
    have h0 := h c (List.mem_cons_self ..)
    show (c.toList ++ flC css)[(j + 1) * k + i]? = _
    rw [List.getElem?_append_right (by rw [Array.length_toList, h0, Nat.add_mul]; omega), Array.length_toList, h0, show (j + 1) * k + i - k = j * k + i by rw [Nat.add_mul]; omega]
    exact flC_at (fun x hx => h x (List.mem_cons_of_mem _ hx)) j i (by simpa using hj) hi
theorem flC_app (a b : List (Array Value)) : flC (a ++ b) = flC a ++ flC b := by simp [flC]
/-- A slice of the call's own. -/
structure OwC {α : Type} (T : TypeId) (sz : Nat) (Q : Array Value → α → Prop) (w : World) (base : Nat) (v : Value) (l : List α) (css : List (Array Value)) : Prop where
  len : css.length = l.length
  cel : ∀ c ∈ css, c.size = sz ∧ c.all (·.oneCell') = true
  own : w.ownsRow base T sz v l.length (flC css)
  q : ∀ j (h1 : j < css.length) (h2 : j < l.length), Q css[j] l[j]
def Ow {α : Type} (T : TypeId) (sz : Nat) (Q : Array Value → α → Prop) (w : World) (base : Nat) (v : Value) (l : List α) : Prop := ∃ css, OwC T sz Q w base v l css
theorem Ow.lit {α : Type} {T : TypeId} {sz : Nat} {Q : Array Value → α → Prop} {w : World} {base : Nat} {c : Array Value} {x : α} (hb : base ≤ w.heap.size) (hs : c.size = sz) (h1 : c.all (·.oneCell') = true) (hq : Q c x) : Ow T sz Q (w.alloc (.cells c T)) base (.slice (some ⟨w.heap.size, 0, none⟩) 1 1) [x] :=
  ⟨[c], rfl, fun d hd => by rw [List.mem_singleton] at hd; subst hd; exact ⟨hs, h1⟩, by
    have := World.ownsRow_lit (e := T) (size := sz) w c 1 hb (by unfold maxLen; omega) (by rw [hs, Nat.one_mul])
    simpa [flC] using this, fun j h1 h2 => by
      have : j = 0 := by simpa using h1
      subst this
      exact hq⟩
theorem Ow.none_ {α : Type} {T : TypeId} {sz : Nat} {Q : Array Value → α → Prop} {w : World} {base : Nat} (hb : base ≤ w.heap.size) : Ow T sz Q (w.alloc (.cells #[] T)) base (.slice (some ⟨w.heap.size, 0, none⟩) 0 0) ([] : List α) :=
  ⟨[], rfl, fun d hd => (by cases hd), World.ownsRow_lit w #[] 0 hb (by unfold maxLen; omega) (by simp), fun j h1 _ => (by cases h1)⟩
theorem OwC.rw {α : Type} {T : TypeId} {sz : Nat} {Q : Array Value → α → Prop} {V : World → Array Value → α → Prop} {w : World} {base : Nat} {v : Value} {l : List α} {css : List (Array Value)} (h : OwC T sz Q w base v l css) (hV : ∀ c x, Q c x → V w c x) :
    ∃ a cap, v = .slice a l.length cap ∧ Rw sz V w a l.length cap l := by
  have hsz : ∀ c ∈ css, c.size = sz := fun c hc => (h.cel c hc).1
  rcases h.own.2 with ⟨h0, h1⟩ | ⟨g, cap, cur, rfl, hb, hg, hc, hm, hs, ht⟩
  · exact ⟨none, 0, by rw [h0, h1], .inl h1, rfl, by omega, by omega, fun _ => rfl⟩
  · refine ⟨some ⟨g, 0, none⟩, cap, rfl, .inr ⟨g, 0, rfl, fun j hj => ?_⟩, rfl, hc, by unfold maxLen at hm; omega, fun h => by cases h⟩
    have hj' : j < css.length := by rw [h.len]; exact hj
    refine ⟨css[j], hsz _ (List.getElem_mem hj'), fun i u hu => ?_, hV _ _ (h.q j hj' hj)⟩
    have hi : i < sz := by
      have := (List.getElem?_eq_some_iff.1 hu).1
      rw [Array.length_toList, hsz _ (List.getElem_mem hj')] at this
      exact this
    have hlt : j * sz + i < l.length * sz := by
      calc j * sz + i < j * sz + sz := by omega
        _ = (j + 1) * sz := by rw [Nat.add_mul]; omega
        _ ≤ l.length * sz := Nat.mul_le_mul_right _ hj
    rw [Nat.zero_add, h.own.cellAt (j * sz + i) hlt, flC_at hsz j i hj' hi]
    rw [Array.getElem?_toList] at hu
    exact hu
theorem run_append_none_any {w : World} (base : Nat) (t ty e : TypeId) (i : TypeInfo) (size : Nat) (ht : Tryz.prog.underlying t = some (.slice e)) (hi : Tryz.prog.info? e = some i)
    (v : Value) (n : Nat) (xs : List Value) (c : Nat) (hown : w.ownsRow base e size v n xs) :
    (Builtin.append_ #[t, t] ty #[v, .slice none 0 c]).run Tryz.prog w = .ok v w := by
  rcases hown.2 with ⟨rfl, rfl⟩ | ⟨g, cap, cur, rfl, _, _, hnc, _⟩
  · simp [Builtin.append_, run_underlying ht, sizeOf, typeInfo, hi, Builtin.lenOf, Builtin.firstCells]
  · simp [Builtin.append_, run_underlying ht, sizeOf, typeInfo, hi, Builtin.lenOf, Builtin.firstCells, hnc, storeCells]
set_option maxRecDepth 100000 in
/-- The append of a whole slice that was there before. -/
theorem wp_catO {α : Type} {T ST : TypeId} {sz bytes : Nat} {z : Value} (I : Inf T ST sz bytes z) {Q : Array Value → α → Prop} {V : World → Array Value → α → Prop} {w0 w : World} (hb : Below w0.heap.size w0 w) {o : Oper} {a : Act} {K : Act → World → Prop} {Q' : Exit → Act → World → Prop} (s x : Operand)
    (ho : o.op = .call { callee := .builtin .append, args := #[s, x], argTypes := #[ST, ST] })
    (base : Nat) (v : Value) (l : List α) (hs : a.eval s = v) (O : Ow T sz Q w base v l) (A : Option Addr) (n c : Nat) (r : List α) (hx : a.eval x = .slice A n c) (hS : Rw sz V w0 A n c r) (hQ : ∀ c x, V w0 c x → Q c x ∧ c.all (·.oneCell') = true)
    (hby : (l.length + r.length) * bytes ≤ 140737488355328) (hml : l.length + r.length ≤ 140737488355328) (hbase : base ≤ w.heap.size)
    (h : ∀ v' w', Ow T sz Q w' base v' (l ++ r) → Below base w w' → K (a.put o.dst v') w') : o.wp Tryz.prog a w K Q' := by
  obtain ⟨i, hi, hz0, hz1, hz2⟩ := info_parts I.inf
  obtain ⟨css, O⟩ := O
  have hn := hS.hn
  have hsz : ∀ c ∈ css, c.size = sz := fun c hc => (O.cel c hc).1
  obtain ⟨ds, hdl, hdc, hdq, hdw⟩ : ∃ ds : List (Array Value), ds.length = r.length ∧ (∀ c ∈ ds, c.size = sz ∧ c.all (·.oneCell') = true) ∧ (∀ j (h1 : j < ds.length) (h2 : j < r.length), Q ds[j] r[j]) ∧ (r.length = 0 ∨ ∃ b off, A = some ⟨b, off, none⟩ ∧ ∀ i u, (flC ds)[i]? = some u → w0.cell? ⟨b, off + i, none⟩ = some u) := by
    rcases hS.hat with h0 | ⟨b, off, e, hA⟩
    · exact ⟨[], h0.symm, fun c hc => (by cases hc), fun j h1 _ => (by cases h1), .inl h0⟩
    · obtain ⟨q, hq⟩ := Go.Deep.choose_lt (α := Array Value) (n := r.length) (p := fun j cs => ∀ h : j < r.length, cs.size = sz ∧ w0.rangeAt b (off + j * sz) cs.toList ∧ V w0 cs r[j]) (fun j hj => by
        obtain ⟨cs, h1, h2, h3⟩ := hA j hj
        exact ⟨cs, fun _ => ⟨h1, h2, h3⟩⟩)
      have hc : ∀ c ∈ (List.range r.length).map q, c.size = sz ∧ c.all (·.oneCell') = true := fun c hc => by
        obtain ⟨j, hj, rfl⟩ := List.mem_map.1 hc
        rw [List.mem_range] at hj
        obtain ⟨h1, h2, h3⟩ := hq j hj hj
        exact ⟨h1, (hQ _ _ h3).2⟩
      refine ⟨(List.range r.length).map q, by simp, hc, fun j h1 h2 => ?_, .inr ⟨b, off, e, fun i u hu => ?_⟩⟩
      · obtain ⟨_, _, h3⟩ := hq j h2 h2
        have := (hQ _ _ h3).1
        simpa using this
      · have hl := flC_len (k := sz) (css := (List.range r.length).map q) fun c h => (hc c h).1
        have hi : i < r.length * sz := by
          have := (List.getElem?_eq_some_iff.1 hu).1
          rw [hl] at this
          simpa using this
        have hj : i / sz < r.length := Nat.div_lt_of_lt_mul (by rw [Nat.mul_comm]; exact hi)
        have hm : i % sz < sz := Nat.mod_lt _ I.pos
        have h6 : i / sz * sz + i % sz = i := Nat.div_add_mod' i sz
        have h7 := flC_at (k := sz) (css := (List.range r.length).map q) (fun c h => (hc c h).1) (i / sz) (i % sz) (by simpa using hj) hm
        rw [h6, hu] at h7
        obtain ⟨_, h2, _⟩ := hq _ hj hj
        have h8 := h2 (i % sz) u (by rw [Array.getElem?_toList]; simpa using h7.symm)
        rw [← h8]
        congr 2
        omega
  have hdz : ∀ c ∈ ds, c.size = sz := fun c hc => (hdc c hc).1
  have fin : ∀ v' w', w'.ownsRow base T sz v' (l.length + r.length) (flC css ++ flC ds) → Below base w w' → K (a.put o.dst v') w' := fun v' w' h2 hbw => by
    refine h v' w' ⟨css ++ ds, by rw [List.length_append, List.length_append, O.len, hdl], fun c hc => ?_, by rw [flC_app, List.length_append]; exact h2, fun j g1 g2 => ?_⟩ hbw
    · rcases List.mem_append.1 hc with hc | hc
      · exact O.cel c hc
      · exact hdc c hc
    · rw [List.length_append] at g1 g2
      have hlen := O.len
      by_cases hj : j < css.length
      · rw [List.getElem_append_left hj, List.getElem_append_left (by omega)]
        exact O.q j hj (by omega)
      · rw [List.getElem_append_right (by omega), List.getElem_append_right (by omega)]
        have e : j - l.length = j - css.length := by omega
        have := hdq (j - css.length) (by omega) (by omega)
        simpa only [e] using this
  rcases A with _ | ad
  · have hr0 : r.length = 0 := by
      rcases hdw with h0 | ⟨b, off, e, _⟩
      · exact h0
      · cases e
    have hds : ds = [] := List.eq_nil_of_length_eq_zero (by omega)
    have hc0 := hS.hno rfl
    have hn0 : n = 0 := by have := hS.hcap; omega
    have hrun := run_append_none_any (w := w) base ST o.type T i sz I.und hi v l.length (flC css) c O.own
    unfold Oper.wp execOp
    subst hn0
    simp only [ho, resolve, invoke, builtin, Sem.run_bind, Sem.run_pure, Result.andThen_ok, List.map_toArray, List.map_cons, List.map_nil, hs, hx, hrun]
    refine fin v w ?_ (Below.refl _ _)
    rw [hds, hr0]
    simpa [flC] using O.own
  · refine wp_append_own w s x ST ho base T i z sz bytes I.und hi hz0 hz1 hz2 I.zs I.pos v l.length (flC css) hs O.own ad n c (flC ds) hx (by rw [flC_len hdz, hdl, hn]) ?_ (fun u hu => ?_)
      (by unfold maxLen; omega) (by rw [← hn]; exact hby) hbase fun v' w' h2 h3 _ => fin v' w' (by rw [hn]; exact h2) ((Below.refl base w).grown h3 hbase fun x hx => (O.own.lt x hx).1)
    · intro j u hu
      rcases hdw with h0 | ⟨b, off, e, hq⟩
      · have hds : ds = [] := List.eq_nil_of_length_eq_zero (by omega)
        rw [hds] at hu
        simp [flC] at hu
      · cases e
        have := dec.keeps hb (hq j u hu)
        rw [Go.Addr.add_mid]
        exact this
    · obtain ⟨c', hc', hu'⟩ := List.mem_flatten.1 hu
      obtain ⟨d, hd, rfl⟩ := List.mem_map.1 hc'
      have := (hdc d hd).2
      rw [Array.all_eq_true_iff_forall_mem] at this
      exact this u (by simpa using hu')
theorem wpList_catO {α : Type} {T ST : TypeId} {sz bytes : Nat} {z : Value} (I : Inf T ST sz bytes z) {Q : Array Value → α → Prop} {V : World → Array Value → α → Prop} {w0 w : World} (hb : Below w0.heap.size w0 w) {ops : Array Oper} {rest : List Oper} {o : Oper} {a : Act} {Q' : Exit → Act → World → Prop} (hgd : o.guard = none) (s x : Operand)
    (ho : o.op = .call { callee := .builtin .append, args := #[s, x], argTypes := #[ST, ST] })
    (base : Nat) (v : Value) (l : List α) (hs : a.eval s = v) (O : Ow T sz Q w base v l) (A : Option Addr) (n c : Nat) (r : List α) (hx : a.eval x = .slice A n c) (hS : Rw sz V w0 A n c r) (hQ : ∀ c x, V w0 c x → Q c x ∧ c.all (·.oneCell') = true)
    (hby : (l.length + r.length) * bytes ≤ 140737488355328) (hml : l.length + r.length ≤ 140737488355328) (hbase : base ≤ w.heap.size)
    (h : ∀ v' w', Ow T sz Q w' base v' (l ++ r) → Below base w w' → wpList Tryz.prog ops Q' rest (a.put o.dst v') w') : wpList Tryz.prog ops Q' (o :: rest) a w :=
  wpList_plain hgd fun _ hK => wp_catO I hb s x ho base v l hs O A n c r hx hS hQ hby hml hbase fun v' w' h1 h2 => hK _ _ (h v' w' h1 h2)
theorem iFe : Inf 54 44 18 248 (.agg #[.string .empty, .string .empty, .int .i64 0, .slice none 0 0, .string .empty, .int .i64 0, .string .empty, .string .empty, .string .empty, .int .i64 0, .int .i64 0, .string .empty, .slice none 0 0, .int .i64 0, .int .i64 0, .int .i64 0, .slice none 0 0, .int .i64 0]) := ⟨Tryz.underlying44, by kernel_rfl, rfl, by decide⟩
theorem iTb : Inf 39 43 4 64 (.agg #[.string .empty, .string .empty, .slice none 0 0, .int .i64 0]) := ⟨Tryz.underlying43, by kernel_rfl, rfl, by decide⟩
theorem iEx : Inf 29 27 12 160 (.agg #[.int .i64 0, .string .empty, .string .empty, .string .empty, .int .i64 0, .int .i64 0, .string .empty, .slice none 0 0, .int .i64 0, .int .i64 0, .int .i64 0, .slice none 0 0]) := ⟨Tryz.underlying27, by kernel_rfl, rfl, by decide⟩
theorem fe_one {w : World} {c : Array Value} {f : Fe} (h : FeV w c f) : c.all (·.oneCell') = true := by
  obtain ⟨ta, tc, ua, uc, aa, ac, rfl, _⟩ := h
  simp [feC, Value.oneCell']
theorem tb_one {w : World} {c : Array Value} {t : Tb} (h : TbV w c t) : c.all (·.oneCell') = true := by
  obtain ⟨a, cc, rfl, _⟩ := h
  simp [tbC, Value.oneCell']
theorem ex_one {w : World} {c : Array Value} {x : Ex} (h : ExV w c x) : c.all (·.oneCell') = true := by
  obtain ⟨ua, uc, aa, ac, rfl, _⟩ := h
  exact exC_one _ _ _ _ _ _
end Go.Proofs.YtbkpjhffmaldmaaGreatDoor.ch
