/-
  Appending a whole row of elements; the items of two modules.
-/
import Derived.Laws.AppendOwnNone
import Derived.Test.YtkgclmikhpjheaaGreatDoorVItl
import Derived.Test.YtkgclmikhpjheaaGreatDoorVWpt
namespace Go.Proofs.YtkgclmikhpjheaaGreatDoor.pa
open Go.RowKit dec

/-- A row that is read, cell by cell. -/
def Src (_ : Nat) (w : World) (A : Option Addr) (ds : List (List Value)) : Prop := ds.length = 0 ∨ ∃ b off, A = some ⟨b, off, none⟩ ∧ ∀ (j : Nat) (u : Value), ds.flatten[j]? = some u → w.cell? ⟨b, off + j, none⟩ = some u
theorem Src.keeps {k : Nat} {w w' : World} {A : Option Addr} {ds : List (List Value)} (h : Src k w A ds) (hb : Below w.heap.size w w') : Src k w' A ds := h.imp id fun ⟨b, off, e, hc⟩ => ⟨b, off, e, fun j u hu => dec.keeps hb (hc j u hu)⟩
/-- What a row that is read holds. -/
theorem src_of {α : Type} {T : TypeId} {k C : Nat} {Q : World → List Value → α → Prop} {w : World} {a : Option Addr} {l : List α} (h : RowAt T k C Q w a l) (hk : ∀ c x, Q w c x → c.length = k) (h1 : ∀ c x, Q w c x → ∀ u ∈ c, u.oneCell' = true) :
    ∃ ds : List (List Value), ds.length = l.length ∧ (∀ c ∈ ds, c.length = k) ∧ (∀ c ∈ ds, ∀ u ∈ c, u.oneCell' = true) ∧ Src k w a ds ∧ ∀ j (h1 : j < ds.length) (h2 : j < l.length), Q w ds[j] l[j] := by
  rcases h with h | ⟨b, off, cs, e, hC, ht, hl, hc, hq⟩
  · exact ⟨[], h.symm, (fun _ h => by cases h), (fun _ h => by cases h), .inl rfl, fun j h1 _ => by cases h1⟩
  · have hk' : ∀ c ∈ cs, c.length = k := fun c hc' => by
      obtain ⟨j, hj, rfl⟩ := List.mem_iff_getElem.1 hc'
      exact hk _ _ (hq j hj (by omega))
    refine ⟨cs, hl, hk', fun c hc' => by
      obtain ⟨j, hj, rfl⟩ := List.mem_iff_getElem.1 hc'
      exact h1 _ _ (hq j hj (by omega)), .inr ⟨b, off, e, fun j u hu => ?_⟩, hq⟩
    have hlen := flat_len hk'
    have hj : j < cs.length * k := by
      rw [← hlen]
      exact (List.getElem?_eq_some_iff.1 hu).1
    have hk0 : 0 < k := by
      rcases Nat.eq_zero_or_pos k with h0 | h0
      · rw [h0, Nat.mul_zero] at hj; omega
      · exact h0
    have hd : j / k < cs.length := Nat.div_lt_of_lt_mul (by rw [Nat.mul_comm]; exact hj)
    have hm : j % k < k := Nat.mod_lt _ hk0
    obtain ⟨v, h3, h4⟩ := hc (j / k) (j % k) hd hm
    have h5 := flat_at hk' (j / k) (j % k) hd hm
    have h6 : j / k * k + j % k = j := Nat.div_add_mod' j k
    rw [h6] at h4 h5
    rw [h5, h3] at hu
    cases hu
    exact h4
theorem run_append_none_any {w : World} (base : Nat) (t ty e : TypeId) (i : TypeInfo) (size : Nat) (ht : Tryz.prog.underlying t = some (.slice e)) (hi : Tryz.prog.info? e = some i)
    (v : Value) (n : Nat) (xs : List Value) (c : Nat) (hown : w.ownsRow base e size v n xs) :
    (Builtin.append_ #[t, t] ty #[v, .slice none 0 c]).run Tryz.prog w = .ok v w := by
  rcases hown.2 with ⟨rfl, rfl⟩ | ⟨g, cap, cur, rfl, _, _, hnc, _⟩
  · simp [Builtin.append_, run_underlying ht, sizeOf, typeInfo, hi, Builtin.lenOf, Builtin.firstCells]
  · simp [Builtin.append_, run_underlying ht, sizeOf, typeInfo, hi, Builtin.lenOf, Builtin.firstCells, hnc, storeCells]
theorem wp_catR {T ST : TypeId} {k bytes : Nat} {z : Value} (I : Inf T ST k bytes z) (w : World) {o : Oper} {a : Act} {K : Act → World → Prop} {Q : Exit → Act → World → Prop} (s x : Operand)
    (ho : o.op = .call { callee := .builtin .append, args := #[s, x], argTypes := #[ST, ST] })
    (base : Nat) (v : Value) (cs : List (List Value)) (hs : a.eval s = v) (hown : Rw T k w base v cs) (A : Option Addr) (n c : Nat) (ds : List (List Value)) (hx : a.eval x = .slice A n c) (hS : Src k w A ds) (hn : ds.length = n) (hk : ∀ c ∈ ds, c.length = k) (h1 : ∀ c ∈ ds, ∀ u ∈ c, u.oneCell' = true)
    (hlt : cs.length + n < 1048577) (hbase : base ≤ w.heap.size)
    (h : ∀ v' w', Rw T k w' base v' (cs ++ ds) → Below base w w' → w.grownBy w' v.ownBlock → K (a.put o.dst v') w') : o.wp Tryz.prog a w K Q := by
  obtain ⟨i, hi, hz0, hz1, hz2⟩ := info_parts I.inf
  have hby : (cs.length + n) * bytes ≤ 140737488355328 := by
    have := Nat.mul_le_mul (show cs.length + n ≤ 1048577 by omega) I.small
    omega
  have hfl := flat_len hk
  rcases A with _ | ad
  · have hn0 : n = 0 := by
      rcases hS with h0 | ⟨b, off, e, _⟩
      · omega
      · cases e
    have hd : ds = [] := List.eq_nil_of_length_eq_zero (by omega)
    subst hn0 hd
    have hrun := run_append_none_any (w := w) base ST o.type T i k I.und hi v cs.length cs.flatten c hown.own
    unfold Oper.wp execOp
    simp only [ho, resolve, invoke, builtin, Sem.run_bind, Sem.run_pure, Result.andThen_ok, List.map_toArray, List.map_cons, List.map_nil, hs, hx, hrun]
    refine h v w ?_ (Below.refl _ _) ⟨rfl, rfl, rfl, Nat.le_refl _, fun _ _ _ => rfl⟩
    rw [List.append_nil]
    exact hown
  · refine wp_append_own w s x ST ho base T i z k bytes I.und hi hz0 hz1 hz2 I.zs I.pos v cs.length cs.flatten hs hown.own ad n c ds.flatten hx (by rw [hfl, hn]) ?_ (fun u hu => ?_)
      (by unfold maxLen; omega) hby hbase fun v' w' h2 h3 _ => h v' w' ⟨?_, ?_, ?_⟩ (rw_below hown h3 hbase) h3
    · intro j u hu
      rcases hS with h0 | ⟨b, off, e, hq⟩
      · have hd : ds = [] := List.eq_nil_of_length_eq_zero h0
        subst hd
        simp at hu
      · cases e
        have := hq j u hu
        unfold Addr.add
        split
        · rename_i h0; subst h0; simpa using this
        · exact this
    · obtain ⟨c', hc', hu'⟩ := List.mem_flatten.1 hu
      exact h1 c' hc' u hu'
    · rw [List.length_append, List.flatten_append, hn]
      exact h2
    · intro c' hc'
      rcases List.mem_append.1 hc' with hc' | hc'
      · exact hown.len c' hc'
      · exact hk c' hc'
    · intro c' hc'
      rcases List.mem_append.1 hc' with hc' | hc'
      · exact hown.one c' hc'
      · exact h1 c' hc'
/-- All blocks that were there are as they were, but for g. -/
structure Ov (g : Nat) (w w' : World) : Prop where
  os : w'.os = w.os
  tape : w'.tape = w.tape
  output : w'.output = w.output
  size : w.heap.size ≤ w'.heap.size
  block : ∀ k, k < w.heap.size → k ≠ g → w'.heap[k]? = w.heap[k]?
theorem Ov.of {g : Nat} {w w' : World} (h : Below w.heap.size w w') : Ov g w w' := ⟨h.os, h.tape, h.output, h.size, fun k hk _ => h.block k hk⟩
theorem Ov.st {g : Nat} {w w' : World} (h : St g w w') : Ov g w w' := ⟨h.os, h.tape, h.output, Nat.le_of_eq h.size.symm, fun k _ hn => h.block k hn⟩
theorem Ov.trans {g : Nat} {a b c : World} (h : Ov g a b) (k : Ov g b c) : Ov g a c := ⟨k.os.trans h.os, k.tape.trans h.tape, k.output.trans h.output, Nat.le_trans h.size k.size, fun i hi hn => (k.block i (Nat.lt_of_lt_of_le hi h.size) hn).trans (h.block i hi hn)⟩
theorem Ov.below {g S : Nat} {w w' : World} (h : Ov g w w') (hg : S ≤ g) (hS : S ≤ w.heap.size) : Below S w w' := ⟨h.os, h.tape, h.output, h.size, fun k hk => h.block k (by omega) (by omega)⟩
theorem Ov.blk {g b : Nat} {w w' : World} {T : TypeId} {cs : Array Value} (h : Ov g w w') (hB : Blk w b T cs) (hn : b ≠ g) : Blk w' b T cs := (h.block b hB.lt hn).trans hB
theorem Ov.cell {g : Nat} {w w' : World} {p : Addr} {v : Value} (h : Ov g w w') (hc : w.cell? p = some v) (hn : p.block ≠ g) : w'.cell? p = some v := (World.cell?_of_block (w := w) (h.block p.block (block_lt_of_cell hc) hn)).trans hc
theorem Ov.kpT {g C : Nat} {w w' : World} (h : Ov g w w') (ht : Tg w g 27) : KpT (fun T => T ≠ 27) C w w' := fun b T cs fr _ hT hb => h.block b (heap_lt hb) fun e => by
  obtain ⟨cs2, fr2, h2⟩ := ht
  subst e
  rw [hb] at h2
  cases h2
  exact hT rfl
theorem rw_lit (T : TypeId) (k : Nat) (w : World) (B : Nat) (hB : B ≤ w.heap.size) : Rw T k (w.alloc (.cells #[] T)) B (.slice (some ⟨w.heap.size, 0, none⟩) 0 0) [] := ⟨World.ownsRow_lit w #[] 0 hB (by unfold maxLen; omega) (by simp), (fun _ h => by cases h), (fun _ h => by cases h)⟩
theorem q_app {α : Type} {Q : List Value → α → Prop} {ds es : List (List Value)} {l r : List α} (h1 : ds.length = l.length) (hq : ∀ j (h1 : j < ds.length) (h2 : j < l.length), Q ds[j] l[j]) (hr : ∀ j (h1 : j < es.length) (h2 : j < r.length), Q es[j] r[j]) : ∀ j (h1 : j < (ds ++ es).length) (h2 : j < (l ++ r).length), Q (ds ++ es)[j] (l ++ r)[j] := by
  intro j g1 g2
  rw [List.length_append] at g1 g2
  by_cases hj : j < ds.length
  · rw [List.getElem_append_left hj, List.getElem_append_left (by omega)]
    exact hq j hj (by omega)
  · rw [List.getElem_append_right (by omega), List.getElem_append_right (by omega)]
    have e : j - l.length = j - ds.length := by omega
    have := hr (j - ds.length) (by omega) (by omega)
    simpa only [e] using this
theorem tb_one {C : Nat} {w : World} {c : List Value} {t : Tb} (h : TbQ C w c t) : c.length = 4 ∧ ∀ u ∈ c, u.oneCell' = true := by
  obtain ⟨a, cap, rfl, _⟩ := h
  exact ⟨rfl, by simp [Value.oneCell']⟩
theorem fe_one {C : Nat} {w : World} {c : List Value} {f : Fe} (h : FeQ C w c f) : c.length = 18 ∧ ∀ u ∈ c, u.oneCell' = true := by
  obtain ⟨ua, uc, ub, ud, aa, ac, rfl, _⟩ := h
  exact ⟨rfl, by simp [feC, Value.oneCell']⟩
end Go.Proofs.YtkgclmikhpjheaaGreatDoor.pa
