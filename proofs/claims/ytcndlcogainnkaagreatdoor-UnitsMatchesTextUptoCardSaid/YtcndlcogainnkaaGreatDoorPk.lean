/-
  What the range over the map has put together, whatever its order.
-/
import Derived.Test.YtcndlcogainnkaaGreatDoorMap
namespace Go.Proofs.YtcndlcogainnkaaGreatDoor
open Go.RowKit dec

structure Pk (l : List Fa) (left : Lit → Bool) (o : List Fa) : Prop where
  mem : ∀ x, x ∈ o ↔ x ∈ nz l ∧ left (kS x.1) = false
  nd : o.Nodup
  ok : ∀ s, (∃ y ∈ l, y.1 = s) → left (kS s) = false → far (ex l s) = false
theorem same_kS {s : ByteArray} (hs : s.size ≤ maxLen) (t : ByteArray) : (kS t).sameKey (kS s) = decide (t = s) := by
  by_cases e : t = s
  · subst e
    rw [decide_eq_true rfl]
    exact WideAt.sameKey_self (kS_lit hs)
  · rw [decide_eq_false e]
    exact Maps.sameKey_ne fun h => e (kS_inj h)
theorem Pk.start {l : List Fa} {D : DataW Unit} (h : Says l D) : Pk l (Maps.has D) [] := by
  have hh : ∀ s, (∃ y ∈ l, y.1 = s) → Maps.has D (kS s) = true := fun s hs => by
    rw [h.has, List.any_eq_true]
    obtain ⟨y, hy, e⟩ := hs
    exact ⟨y, hy, decide_eq_true e⟩
  refine ⟨fun x => ⟨fun hx => (by cases hx), fun ⟨h1, h2⟩ => ?_⟩, .nil, fun s hs h2 => ?_⟩
  · obtain ⟨a, b⟩ := mem_nz.1 h1
    rw [hh x.1 (ex_mem (a ▸ b))] at h2
    cases h2
  · rw [hh s hs] at h2
    cases h2
theorem Pk.skip {l : List Fa} {left : Lit → Bool} {o : List Fa} (h : Pk l left o) {s : ByteArray} (hs : s.size ≤ maxLen) (hf : far (ex l s) = false) (h0 : ex l s = 0) : Pk l (fun z => left z && !z.sameKey (kS s)) o := by
  refine ⟨fun x => ?_, h.nd, fun t ht h2 => ?_⟩
  · rw [h.mem]
    constructor
    · rintro ⟨a, b⟩
      exact ⟨a, by rw [b]; rfl⟩
    · rintro ⟨a, b⟩
      refine ⟨a, ?_⟩
      rw [same_kS hs] at b
      by_cases e : x.1 = s
      · exfalso
        obtain ⟨p, q⟩ := mem_nz.1 a
        rw [e, h0] at p
        exact q p
      · rw [decide_eq_false e, Bool.not_false, Bool.and_true] at b
        exact b
  · rw [same_kS hs] at h2
    by_cases e : t = s
    · rw [e]; exact hf
    · rw [decide_eq_false e, Bool.not_false, Bool.and_true] at h2
      exact h.ok t ht h2
theorem Pk.push {l : List Fa} {left : Lit → Bool} {o : List Fa} (h : Pk l left o) {s : ByteArray} (hs : s.size ≤ maxLen) (hl : left (kS s) = true) (hf : far (ex l s) = false) (h0 : ex l s ≠ 0) : Pk l (fun z => left z && !z.sameKey (kS s)) (o ++ [(s, ex l s)]) := by
  refine ⟨fun x => ?_, ?_, fun t ht h2 => ?_⟩
  · rw [List.mem_append, List.mem_singleton, h.mem]
    constructor
    · rintro (⟨a, b⟩ | rfl)
      · exact ⟨a, by rw [b]; rfl⟩
      · exact ⟨mem_nz.2 ⟨rfl, h0⟩, by rw [same_kS hs, decide_eq_true rfl]; simp⟩
    · rintro ⟨a, b⟩
      rw [same_kS hs] at b
      by_cases e : x.1 = s
      · refine .inr (Prod.ext e ?_)
        rw [(mem_nz.1 a).1, e]
      · rw [decide_eq_false e, Bool.not_false, Bool.and_true] at b
        exact .inl ⟨a, b⟩
  · rw [List.nodup_append]
    refine ⟨h.nd, by simp, fun a ha b hb e => ?_⟩
    rw [List.mem_singleton] at hb
    subst e
    have := ((h.mem a).1 ha).2
    rw [hb] at this
    rw [hl] at this
    cases this
  · rw [same_kS hs] at h2
    by_cases e : t = s
    · rw [e]; exact hf
    · rw [decide_eq_false e, Bool.not_false, Bool.and_true] at h2
      exact h.ok t ht h2
theorem srt_ne {l : List Fa} (h : Srt l) : l.Pairwise fun x y => x.1 ≠ y.1 := h.imp fun h => ltS_ne h
theorem Pk.done {l : List Fa} {left : Lit → Bool} {o s : List Fa} (h : Pk l left o) (hl : ∀ z, left z = false) (hp : s.Perm o) (hs : WSrt s) : s = nz l := by
  have hm : ∀ x, x ∈ s ↔ x ∈ nz l := fun x => by
    rw [hp.mem_iff, h.mem, hl]
    simp
  have hn : s.Nodup := hp.nodup_iff.2 h.nd
  have hne : s.Pairwise fun x y => x.1 ≠ y.1 := hn.imp_of_mem fun {a b} ha hb hab e => by
    have e1 := (mem_nz.1 ((hm a).1 ha)).1
    have e2 := (mem_nz.1 ((hm b).1 hb)).1
    exact hab (Prod.ext e (by rw [e1, e2, e]))
  have hS : Srt s := hs.imp₂ (fun a b h1 h2 => ltS_tri h1 (fun e => h2 e.symm)) hne
  exact srt_ext (hS.imp fun h => h) (srt_nz l) hm
theorem Pk.len {l : List Fa} {left : Lit → Bool} {o : List Fa} (h : Pk l left o) (hl : ∀ z, left z = false) : o.length = (nz l).length := by
  have hn : (nz l).Nodup := (srt_ne (srt_nz l)).imp fun h e => h (by rw [e])
  refine ((List.perm_ext_iff_of_nodup h.nd hn).2 fun x => ?_).length_eq
  rw [h.mem, hl]
  simp
theorem far_out {x : Int} (h : rg x = false) : far x = true := by
  rw [rg_no] at h
  unfold far
  exact decide_eq_true (by omega)
theorem Pk.all {l : List Fa} {left : Lit → Bool} {o : List Fa} (h : Pk l left o) (hl : ∀ z, left z = false) : anyFar l = false := by
  cases hf : anyFar l
  · rfl
  · obtain ⟨n, hn⟩ := (anyFar_iff l).1 hf
    rw [h.ok n (ex_mem fun e => by rw [e] at hn; cases hn) (hl _)] at hn
    cases hn
theorem ex_bound : ∀ (l : List Fa) (s : ByteArray), (∀ x ∈ l, -9223372036854775808 ≤ x.2 ∧ x.2 ≤ 9223372036854775807) → -9223372036854775808 * (l.length : Int) ≤ ex l s ∧ ex l s ≤ 9223372036854775808 * (l.length : Int)
  | [], s, _ => by simp [ex]
  | x :: l, s, h => by
    have ih := ex_bound l s fun y hy => h y (List.mem_cons_of_mem _ hy)
    have hx := h x (List.mem_cons_self ..)
    simp only [ex, List.length_cons]
    push_cast
    split <;> omega
theorem ex_in {l : List Fa} (s : ByteArray) (h : ∀ x ∈ l, -9223372036854775808 ≤ x.2 ∧ x.2 ≤ 9223372036854775807) (hl : l.length < 5864062014805) : In (ex l s) := by
  have := ex_bound l s h
  unfold In
  omega
theorem key_str {key : Value} {kl : Lit} (h : keyOf Tryz.prog 9 key = some kl) : ∃ s : ByteArray, key = .string s ∧ kl = kS s ∧ s.size ≤ maxLen := by
  cases key <;> simp [keyOf, Tryz.underlying9, mapKey] at h
  rename_i s
  obtain ⟨h1, h2⟩ := h
  exact ⟨s, rfl, h2.symm, h1⟩
/-- The step of the range: some name that is left, with its sum. -/
theorem wpList_next_map (w : World) {ops : Array Oper} {rest : List Oper} {o : Oper} {a : Act} {Q : Exit → Act → World → Prop} (hg : o.guard = none) (it : Operand) (hop : o.op = Op.next it false) (b r n : Nat) (D : DataW Unit) (l : List Fa) (hS : Says l D) (left : Lit → Bool) (cnt : Nat)
    (hit : a.eval it = .pointer (some ⟨r, 0, none⟩)) (h : w.ranges Tryz.prog 9 wElem b r n D left cnt)
    (hDone : cnt = 0 → (∀ kl, left kl = false) → wpList Tryz.prog ops Q rest (a.put o.dst (.tuple #[.bool false])) w)
    (hMore : ∀ (s : ByteArray) (w' : World) (cnt' : Nat), s.size ≤ maxLen → left (kS s) = true → w'.ranges Tryz.prog 9 wElem b r n D (fun z => left z && !z.sameKey (kS s)) cnt' → cnt' < cnt → w.grownBy w' (some r) → w'.heap.size = w.heap.size →
      (Instr.entry (.pointer (some ⟨r, 0, none⟩))).run Tryz.prog w' = .ok (.tuple #[.string s, .agg #[.int .i64 (hi (ex l s)), .int .u64 (lo (ex l s))]]) w' → wpList Tryz.prog ops Q rest (a.put o.dst (.tuple #[.bool true, .string s, .agg #[.int .i64 (hi (ex l s)), .int .u64 (lo (ex l s))]])) w') :
    wpList Tryz.prog ops Q (o :: rest) a w :=
  wpList_next_ranges w hg it hop 9 K9 wElem (fun s : ByteArray => Value.string s) (fun c : Int × Int => .agg #[.int .i64 c.1, .int .u64 c.2])
    (fun key kl hk => by obtain ⟨s, e, _⟩ := key_str hk; exact ⟨s, e⟩) (fun v y hv => by obtain ⟨c, e, _⟩ := wElem_inv hv; exact ⟨c, e⟩) b r n D left cnt hit h hDone
    (fun x c kl y w' cnt' hkey hlk hv hat hrg hlt hgr hsz hen => by
      obtain ⟨s, e, rfl, hs⟩ := key_str hkey
      obtain rfl : x = s := by injection e
      obtain ⟨yd, yp⟩ := y
      have hy := hat (dW 0)
      rw [hS.at_] at hy
      have hy' : yd = dW (ex l x) := hy.symm
      subst hy'
      have hc := wElem_is hv
      have : (.agg #[.int .i64 c.1, .int .u64 c.2] : Value) = .agg #[.int .i64 (hi (ex l x)), .int .u64 (lo (ex l x))] := hc
      rw [this] at hen
      have := hMore x w' cnt' hs hlk hrg hlt hgr hsz hen
      rw [show (.agg #[.int .i64 c.1, .int .u64 c.2] : Value) = .agg #[.int .i64 (hi (ex l x)), .int .u64 (lo (ex l x))] from hc]
      exact this)
theorem Says.left {l : List Fa} {D : DataW Unit} (h : Says l D) {s : ByteArray} (hs : Maps.has D (kS s) = true) : ∃ y ∈ l, y.1 = s := by
  rw [h.has, List.any_eq_true] at hs
  obtain ⟨y, hy, e⟩ := hs
  exact ⟨y, hy, of_decide_eq_true e⟩
theorem ranges_below {w w' : World} {b r n : Nat} {D : DataW Unit} {left : Lit → Bool} {cnt : Nat} (h : w.ranges Tryz.prog 9 wElem b r n D left cnt) (hb : Below w.heap.size w w') : w'.ranges Tryz.prog 9 wElem b r n D left cnt := h.kept (grown_below hb) (by simp) (by simp)
theorem ranges_base {w w' : World} {b r n base : Nat} {D : DataW Unit} {left : Lit → Bool} {cnt : Nat} (h : w.ranges Tryz.prog 9 wElem b r n D left cnt) (hb : Below base w w') (h1 : b < base) (h2 : r < base) : w'.ranges Tryz.prog 9 wElem b r n D left cnt := by
  obtain ⟨es, clock, since, seen, c0, k1, F, hs, hD, hr, rest⟩ := h
  exact ⟨es, clock, since, seen, c0, (hb.block b h1).trans k1, F, hs, hD, (hb.block r h2).trans hr, rest⟩
end Go.Proofs.YtcndlcogainnkaaGreatDoor
