/-
  TimelineTicks: facts on ticks, place by place; appends of whole slices.
-/
import Derived.Test.YtdhdofgdeljajaaApf
import Derived.Test.YtdhdofgdeljajaaMen
import Derived.Test.YtdhdofgdeljajaaHel
import Derived.Laws.AppendOwnNone
namespace Go.Proofs.Ytdhdofgdeljajaa
open Go.RowKit

def inn (x : I2) (t : Int) : Bool := decide (x.1 ≤ t) && decide (t ≤ x.2)
theorem inn_iff (x : I2) (t : Int) : inn x t = true ↔ In x t := by simp [inn, In]
def anyT (M : List I2) (t : Int) (k : Nat) : Bool := (M.take k).any fun m => inn m t
def anyO (M : List I2) (t : Int) (k : Nat) : Bool := (M.take k).any fun m => okI m && inn m t
theorem anyT_succ {M : List I2} {t : Int} {k : Nat} (hk : k < M.length) : anyT M t (k + 1) = (anyT M t k || inn (gt M k) t) := by
  unfold anyT
  rw [take_gt hk, List.any_append]
  simp
theorem anyO_succ {M : List I2} {t : Int} {k : Nat} (hk : k < M.length) : anyO M t (k + 1) = (anyO M t k || (okI (gt M k) && inn (gt M k) t)) := by
  unfold anyO
  rw [take_gt hk, List.any_append]
  simp
theorem any_un {P U : List I2} (h : Un P U) (t : Int) : anyT U t U.length = anyO P t P.length := by
  unfold anyT anyO
  rw [List.take_length, List.take_length, Bool.eq_iff_iff, List.any_eq_true, List.any_eq_true]
  constructor
  · rintro ⟨m, hm, hi⟩
    obtain ⟨x, hx, ho, h2⟩ := (h.ticks t).1 ⟨m, hm, (inn_iff m t).1 hi⟩
    exact ⟨x, hx, by rw [ho, (inn_iff x t).2 h2]; rfl⟩
  · rintro ⟨x, hx, hi⟩
    rw [Bool.and_eq_true] at hi
    obtain ⟨m, hm, h2⟩ := (h.ticks t).2 ⟨x, hx, hi.1, (inn_iff x t).1 hi.2⟩
    exact ⟨m, hm, (inn_iff m t).2 h2⟩
theorem both_eq (x a : I2) (t : Int) : (okI x && okI a && inn x t && inn a t) = (mtb x a && inn (mtv x a) t) := by
  unfold mtv
  cases h : mtb x a
  · rw [Bool.eq_false_iff] at h
    rw [Bool.false_and, Bool.eq_false_iff]
    intro h2
    apply h
    simp only [mtb, okI, inn, Bool.and_eq_true, decide_eq_true_eq] at *
    omega
  · rw [Bool.true_and, if_pos rfl, Bool.eq_iff_iff]
    simp only [mtb, okI, inn, Bool.and_eq_true, decide_eq_true_eq] at *
    omega

theorem Sl.few {w : World} {a : Option Addr} {n cap : Nat} {l : List I2} (h : Sl w a n cap l) (m : Nat) (hm : m ≤ n) : Sl w a m cap (l.take m) := by
  have hn := h.hn
  refine ⟨?_, by rw [List.length_take]; omega, by have := h.hcap; omega, h.hmax, h.hno⟩
  rcases h.hat with h0 | ⟨b, off, e, hB⟩
  · exact .inl (by rw [List.length_take]; omega)
  · exact .inr ⟨b, off, e, hB.take m⟩
theorem Bw.sl {w : World} {b : Nat} {p q : Int} (h : Bw w b p q) : Sl w (some ⟨b, 0, none⟩) 1 1 [(p, q)] := by
  refine ⟨.inr ⟨b, 0, rfl, fun j hj => ?_⟩, rfl, by omega, by omega, fun h => by cases h⟩
  match j, hj with
  | 0, _ => exact ⟨h.c0, h.c1⟩
  | j + 1, hj => simp at hj
theorem Bw.grownBy {w w' : World} {b : Nat} {p q : Int} {row : Option Nat} (h : Bw w b p q) (hg : w.grownBy w' row) (hne : some b ≠ row) : Bw w' b p q := by
  have e := hg.block b h.lt hne
  exact ⟨(World.cell?_of_block (a := ⟨b, 0, none⟩) e).trans h.c0, (World.cell?_of_block (a := ⟨b, 1, none⟩) e).trans h.c1, (World.frozen?_of_block (a := ⟨b, 0, none⟩) e).trans h.f0, (World.frozen?_of_block (a := ⟨b, 1, none⟩) e).trans h.f1⟩
theorem put_list {t : List Value} {ds : List Deferred} {d : Nat} {v : Value} : (Act.mk t.toArray ds).put (some d) v = ⟨(t.set d v).toArray, ds⟩ := by simp [Act.put]
/-- append(x, y...), x of the call's own, y a slice that is read. -/
theorem wp_cat {w : World} {o : Oper} {t : List Value} {ds : List Deferred} {K : Act → World → Prop} {Q : Exit → Act → World → Prop} (d : Nat) (hd : o.dst = some d) (s x : Operand)
    (ho : o.op = .call { callee := .builtin .append, args := #[s, x], argTypes := #[24, 24] })
    (base : Nat) (v : Value) (l : List I2) (hs : (Act.mk t.toArray ds).eval s = v) (hown : Own w base v l) (ad : Option Addr) (n cap : Nat) (l2 : List I2) (hx : (Act.mk t.toArray ds).eval x = .slice ad n cap) (hS : Sl w ad n cap l2)
    (hn : l.length + n < 8000000000000) (hbase : base ≤ w.heap.size)
    (h : ∀ v' w', Own w' base v' (l ++ l2) → w.grownBy w' v.ownBlock → K ⟨(t.set d v').toArray, ds⟩ w') : o.wp Try.prog ⟨t.toArray, ds⟩ w K Q := by
  obtain ⟨i, hi, hz0, hz1, hz2⟩ := info_parts infoI
  have hln := hS.hn
  cases ad with
  | none =>
    have h0 := hS.hno rfl
    have h1 := hS.hcap
    have hn0 : n = 0 := by omega
    subst h0
    subst hn0
    have hl2 : l2 = [] := List.eq_nil_of_length_eq_zero hln
    subst hl2
    have hrun := run_append_owned_none (P := Try.prog) (w := w) base 24 o.type 23 i 2 Try.underlying24 hi v l.length (cs l) hown
    unfold Oper.wp
    simp only [execOp, ho, resolve, invoke, builtin, Sem.run_bind, Sem.run_pure, Result.andThen_ok, List.map_toArray, List.map_cons, List.map_nil, hs, hx, hrun]
    show K ((Act.mk t.toArray ds).put o.dst v) w
    rw [hd, put_list]
    exact h v w (by rw [List.append_nil]; exact hown) (World.grownBy.refl _ _)
  | some ad =>
    refine wp_append_own w s x 24 ho base 23 i (.agg #[.int .i64 0, .int .i64 0]) 2 16 Try.underlying24 hi hz0 hz1 hz2 rfl (by decide) v l.length (cs l) hs hown ad n cap (cs l2) hx (by rw [cs_length, hln]) ?_ (cs_one _)
      (by unfold maxLen; omega) (by omega) hbase fun v' w' h1 h2 _ => ?_
    · intro j u hu
      have hj : j < l2.length * 2 := by
        rcases Nat.lt_or_ge j (cs l2).length with h' | h'
        · rwa [cs_length] at h'
        · rw [List.getElem?_eq_none h'] at hu; cases hu
      rcases hS.hat with h0 | ⟨b, off, e, hC⟩
      · omega
      · cases e
        have hp : (⟨b, off, none⟩ : Addr).add j = ⟨b, off + j, none⟩ := by
          unfold Addr.add
          by_cases h : j = 0 <;> simp [h]
        rw [hp]
        obtain ⟨c0, c1⟩ := hC (j / 2) (by omega)
        obtain ⟨e0, e1⟩ := cs_at l2 (j / 2) (by omega)
        rcases Nat.mod_two_eq_zero_or_one j with hm | hm
        · have ej : j / 2 * 2 = j := by omega
          rw [ej] at c0 e0
          rw [e0] at hu
          rw [c0, hu]
        · have ej : j / 2 * 2 + 1 = j := by omega
          rw [Nat.add_assoc, ej] at c1
          rw [ej] at e1
          rw [e1] at hu
          rw [c1, hu]
    · rw [hd, put_list]
      refine h v' w' ?_ h2
      unfold Own
      rw [cs_append, List.length_append, hln]
      exact h1
/-- append(x, y...) of integers. -/
theorem wp_catN {w : World} {o : Oper} {t : List Value} {ds : List Deferred} {K : Act → World → Prop} {Q : Exit → Act → World → Prop} (d : Nat) (hd : o.dst = some d) (s x : Operand)
    (ho : o.op = .call { callee := .builtin .append, args := #[s, x], argTypes := #[38, 38] })
    (base : Nat) (v : Value) (l : List Int) (hs : (Act.mk t.toArray ds).eval s = v) (hown : OwnN w base v l) (b n cap : Nat) (l2 : List Int) (hx : (Act.mk t.toArray ds).eval x = .slice (some ⟨b, 0, none⟩) n cap) (hl2 : l2.length = n) (hC : Cn w b 0 l2)
    (hn : l.length + n < 8000000000000) (hbase : base ≤ w.heap.size)
    (h : ∀ v' w', OwnN w' base v' (l ++ l2) → Below base w w' → K ⟨(t.set d v').toArray, ds⟩ w') : o.wp Try.prog ⟨t.toArray, ds⟩ w K Q := by
  obtain ⟨i, hi, hz0, hz1, hz2⟩ := info_parts infoN
  refine wp_append_own w s x 38 ho base 3 i (.int .i64 0) 1 8 Try.underlying38 hi hz0 hz1 hz2 rfl (by decide) v l.length (cn l) hs hown ⟨b, 0, none⟩ n cap (cn l2) hx (by simp [cn, hl2]) ?_ (cn_one _)
    (by unfold maxLen; omega) (by omega) hbase fun v' w' h1 h2 _ => ?_
  · intro j u hu
    have hp : (⟨b, 0, none⟩ : Addr).add j = ⟨b, j, none⟩ := by
      unfold Addr.add
      by_cases h : j = 0 <;> simp [h]
    rw [hp]
    unfold cn at hu
    rw [List.getElem?_map] at hu
    rcases Nat.lt_or_ge j l2.length with hj | hj
    · have := hC j hj
      rw [Nat.zero_add] at this
      rw [this, ← hu, List.getElem?_eq_getElem hj, gn_eq hj]
      rfl
    · rw [List.getElem?_eq_none hj] at hu; cases hu
  · rw [hd, put_list]
    refine h v' w' ?_ ((Below.refl base w).grown h2 hbase fun k hk => (hown.lt k hk).1)
    unfold OwnN
    rw [cn, List.map_append, List.length_append, hl2]
    exact h1
/-- Three operations may come up. -/
theorem held_three {P : Program} {Q : Exit → Act → World → Prop} {md : Region.Mode} {S : World → Prop} {l : List Oper} {i j k : Nat} {oi oj ok : Oper} {fuel : Nat} {listed : Array Bool} {a : Act} {w : World} (hi : l[i]? = some oi) (hj : l[j]? = some oj) (hk : l[k]? = some ok)
    (hr : Region.ready md l.toArray listed = [i, j, k]) (hw : Region.wanted oi (yielded l.toArray a.tmps) = true) (hw' : Region.wanted oj (yielded l.toArray a.tmps) = true) (hw2 : Region.wanted ok (yielded l.toArray a.tmps) = true)
    (h : ∀ K' : Act → World → Prop, Shut (∀ a w, S w → (S w → wpAnyH P md l.toArray Q S fuel (listed.setIfInBounds i true) a w) → K' a w) → Oper.wp P oi a w K' Q)
    (h' : ∀ K' : Act → World → Prop, Shut (∀ a w, S w → (S w → wpAnyH P md l.toArray Q S fuel (listed.setIfInBounds j true) a w) → K' a w) → Oper.wp P oj a w K' Q)
    (h2 : ∀ K' : Act → World → Prop, Shut (∀ a w, S w → (S w → wpAnyH P md l.toArray Q S fuel (listed.setIfInBounds k true) a w) → K' a w) → Oper.wp P ok a w K' Q) : wpAnyH P md l.toArray Q S (fuel + 1) listed a w := by
  refine wpAnyH_ready hr (by simp) (AllReadyH.cons (o := oi) (by simpa using hi) (fun K hK => ?_) (AllReadyH.cons (o := oj) (by simpa using hj) (fun K hK => ?_) (AllReadyH.cons (o := ok) (by simpa using hk) (fun K hK => ?_) AllReadyH.nil)))
  · rw [if_pos hw]
    exact h K hK
  · rw [if_pos hw']
    exact h' K hK
  · rw [if_pos hw2]
    exact h2 K hK
theorem take_world {K : Act → World → Prop} {a : Act} {w : World} (h : ∀ w', w' = w → K a w') : K a w := h w rfl
theorem own_new (w : World) (B : Nat) (hB : B ≤ w.heap.size) : Own (w.alloc (.cells #[] 23)) B (.slice (some ⟨w.heap.size, 0, none⟩) 0 0) [] := World.ownsRow_lit w #[] 0 hB (by unfold maxLen; omega) rfl
theorem cn_new (w : World) (p q r s : Int) : Cn (w.alloc (.cells #[.int .i64 p, .int .i64 q, .int .i64 r, .int .i64 s] 3)) w.heap.size 0 [p, q, r, s] := by
  intro j hj
  match j, hj with
  | 0, _ => simp [go_sem, gn]
  | 1, _ => simp [go_sem, gn]
  | 2, _ => simp [go_sem, gn]
  | 3, _ => simp [go_sem, gn]
  | j + 4, hj => simp at hj; omega
theorem ownN_one (w : World) (B : Nat) (hB : B ≤ w.heap.size) (t : Int) : OwnN (w.alloc (.cells #[.int .i64 t] 3)) B (.slice (some ⟨w.heap.size, 0, none⟩) 1 1) [t] := World.ownsRow_lit w #[.int .i64 t] 1 hB (by unfold maxLen; omega) rfl
theorem far_self {P U V : List I2} (h : Un P U) (h2 : Un U V) : V = U := h.self h2
end Go.Proofs.Ytdhdofgdeljajaa
