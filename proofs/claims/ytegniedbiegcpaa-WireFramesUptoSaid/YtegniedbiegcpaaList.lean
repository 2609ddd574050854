/-
  Byte strings as lists of numbers, in memory.
-/
import Derived.Test.YtegniedbiegcpaaOwn
import Derived.Test.YtegniedbiegcpaaEnc
import Derived.Laws.BytesArg
import Derived.Room.AppendFits
namespace Go.Proofs.Ytegniedbiegcpaa
open Go.RowKit

def ix (l : List Nat) : Nat → Nat := fun i => l.getD i 0
def lst (f : Nat → Nat) (n : Nat) : List Nat := (List.range n).map f
theorem lst_length (f : Nat → Nat) (n : Nat) : (lst f n).length = n := by simp [lst]
theorem ix_lst (f : Nat → Nat) {n i : Nat} (h : i < n) : ix (lst f n) i = f i := by simp [ix, lst, h]
theorem lst_ix (l : List Nat) : lst (ix l) l.length = l := by
  apply List.ext_getElem
  · rw [lst_length]
  · intro i h1 h2
    simp [lst, ix, h2]
def By (l : List Nat) : Prop := ∀ x ∈ l, x < 256
theorem By.nil : By [] := fun _ h => by cases h
theorem By.append {l r : List Nat} (h : By l) (k : By r) : By (l ++ r) := fun x hx => (List.mem_append.1 hx).elim (h x) (k x)
theorem By.left {l r : List Nat} (h : By (l ++ r)) : By l := fun x hx => h x (List.mem_append_left _ hx)
theorem By.right {l r : List Nat} (h : By (l ++ r)) : By r := fun x hx => h x (List.mem_append_right _ hx)
theorem By.drop {l : List Nat} (h : By l) (n : Nat) : By (l.drop n) := fun x hx => h x (List.mem_of_mem_drop hx)
theorem By.take {l : List Nat} (h : By l) (n : Nat) : By (l.take n) := fun x hx => h x (List.mem_of_mem_take hx)
theorem By.ix {l : List Nat} (h : By l) : ∀ j, j < l.length → Go.Proofs.Ytegniedbiegcpaa.ix l j < 256 := by
  intro j hj
  have : Go.Proofs.Ytegniedbiegcpaa.ix l j = l[j] := by simp [Go.Proofs.Ytegniedbiegcpaa.ix, hj]
  rw [this]
  exact h _ (List.getElem_mem hj)
theorem by_en (n : Nat) : By (en n) := en_lt n
theorem by_lst {f : Nat → Nat} {n : Nat} (h : ∀ j, j < n → f j < 256) : By (lst f n) := by
  intro x hx
  simp only [lst, List.mem_map, List.mem_range] at hx
  obtain ⟨j, hj, rfl⟩ := hx
  exact h j hj

def Vs (l : List Nat) : List Value := l.map fun x : Nat => Value.int .u8 (x : Int)
theorem Vs_length (l : List Nat) : (Vs l).length = l.length := by simp [Vs]
theorem Vs_append (l r : List Nat) : Vs (l ++ r) = Vs l ++ Vs r := by simp [Vs]
theorem Vs_one (l : List Nat) : ∀ u ∈ Vs l, u.oneCell' = true := by
  intro u hu
  simp only [Vs, List.mem_map] at hu
  obtain ⟨j, _, rfl⟩ := hu
  rfl
theorem Vs_at (l : List Nat) {j : Nat} (hj : j < l.length) : (Vs l)[j]? = some (.int .u8 (ix l j : Int)) := by simp [Vs, ix, hj]

/-- A slice at the address a holds the bytes l. -/
def AtL (w : World) (a : Option Addr) (l : List Nat) : Prop := At w a l.length (ix l)
theorem At.list {w : World} {a : Option Addr} {n : Nat} {f : Nat → Nat} (h : At w a n f) : AtL w a (lst f n) := by
  unfold AtL
  rw [lst_length]
  refine ⟨?_, fun j hj => by rw [ix_lst f hj]; exact h.2 j hj⟩
  rcases h.1 with h0 | ⟨b, off, e, hB⟩
  · exact .inl h0
  · exact .inr ⟨b, off, e, fun j hj => by rw [ix_lst f hj]; exact hB j hj⟩
theorem AtL.by {w : World} {a : Option Addr} {l : List Nat} (h : AtL w a l) : By l := by
  intro x hx
  obtain ⟨j, hj, rfl⟩ := List.mem_iff_getElem.1 hx
  have := h.2 j hj
  simpa [ix, hj] using this
theorem AtL.keeps {w w1 : World} {a : Option Addr} {l : List Nat} (h : AtL w a l) (hb : Below w.heap.size w w1) : AtL w1 a l := At.keeps h hb
theorem AtL.nil (w : World) (a : Option Addr) : AtL w a [] := At.nil _ _ _
/-- .. and its cells, as a law of append asks for them. -/
theorem AtL.news {w : World} {ad : Addr} {l : List Nat} (h : AtL w (some ad) l) : ∀ j u, (Vs l)[j]? = some u → w.cell? (ad.add j) = some u := by
  intro j u hu
  have hj : j < l.length := by
    have := (List.getElem?_eq_some_iff.1 hu).1
    rwa [Vs_length] at this
  rw [Vs_at _ hj] at hu
  rcases h.1 with h0 | ⟨b, off, e, hB⟩
  · omega
  · simp only [Option.some.injEq] at e hu
    subst e hu
    have := hB j hj
    unfold Addr.add
    by_cases h1 : j = 0
    · subst h1; simpa using this
    · simpa [h1] using this
theorem AtL.cut {w : World} {b off : Nat} {l : List Nat} (h : AtL w (some ⟨b, off, none⟩) l) (k m : Nat) : AtL w (some ⟨b, off + k, none⟩) ((l.drop k).take m) := by
  have hby := h.by
  refine ⟨?_, (By.take (By.drop hby k) m).ix⟩
  by_cases h0 : ((l.drop k).take m).length = 0
  · exact .inl h0
  · have hlen : ((l.drop k).take m).length = min m (l.length - k) := by simp
    rcases h.1 with h1 | ⟨b', off', e, hB⟩
    · omega
    · simp only [Option.some.injEq, Addr.mk.injEq, and_true] at e
      obtain ⟨rfl, rfl⟩ := e
      refine .inr ⟨b, off + k, rfl, fun j hj => ?_⟩
      have := hB (k + j) (by omega)
      rw [Nat.add_assoc, this]
      congr 3
      unfold ix
      rw [List.getD_eq_getElem?_getD, List.getD_eq_getElem?_getD, List.getElem?_take, if_pos (by omega), List.getElem?_drop]

/-- What is told of a slice of bytes that came in. -/
structure Li (w : World) (a : Option Addr) (n cap : Nat) (l : List Nat) : Prop where
  hat : AtL w a l
  hn : l.length = n
  hcap : n ≤ cap
  hmax : cap ≤ 9223372036854775807
  hlim : n ≤ 281474976710656
  hno : a = none → cap = 0
theorem Li.keeps {w w1 : World} {a : Option Addr} {n cap : Nat} {l : List Nat} (h : Li w a n cap l) (hb : Below w.heap.size w w1) : Li w1 a n cap l := { h with hat := h.hat.keeps hb }

/-- The block g, from its first cell on, is of the call's own, holds l, k bytes, and has room for c. -/
def Ow (w : World) (g k c : Nat) (l : List Nat) : Prop := w.ownsRow g 5 1 (.slice (some ⟨g, 0, none⟩) k c) k (Vs l) ∧ By l
theorem Ow.len {w : World} {g k c : Nat} {l : List Nat} (h : Ow w g k c l) : l.length = k := by
  have := h.1.1
  rw [Vs_length] at this
  omega
theorem Ow.lt {w : World} {g k c : Nat} {l : List Nat} (h : Ow w g k c l) : g < w.heap.size := (World.ownsRow.lt h.1 g rfl).2
theorem Ow.cap {w : World} {g k c : Nat} {l : List Nat} (h : Ow w g k c l) : k ≤ c ∧ c ≤ 9223372036854775807 := by
  rcases h.1.2 with ⟨h0, _⟩ | ⟨g', cap, cur, e, _, _, h1, h2, _, _⟩
  · cases h0
  · simp only [Value.slice.injEq] at e
    obtain ⟨_, _, rfl⟩ := e
    unfold maxLen at h2
    omega
theorem Ow.cell {w : World} {g k c : Nat} {l : List Nat} (h : Ow w g k c l) {j : Nat} (hj : j < k) : w.cell? ⟨g, j, none⟩ = some (.int .u8 (ix l j : Int)) ∧ w.frozen? ⟨g, j, none⟩ = false := by
  have hl := h.len
  exact ⟨by rw [h.1.cellAt j (by omega)]; exact Vs_at l (by omega), h.1.frozenAt j⟩
theorem Ow.at {w : World} {g k c : Nat} {l : List Nat} (h : Ow w g k c l) : AtL w (some ⟨g, 0, none⟩) l := by
  refine ⟨.inr ⟨g, 0, rfl, fun j hj => ?_⟩, h.2.ix⟩
  rw [Nat.zero_add]
  exact (h.cell (by rw [← h.len]; exact hj)).1
theorem Ow.li {w : World} {g k c : Nat} {l : List Nat} (h : Ow w g k c l) (hk : k ≤ 281474976710656) : Li w (some ⟨g, 0, none⟩) k c l := ⟨h.at, h.len, h.cap.1, h.cap.2, hk, fun h => by cases h⟩
theorem Ow.keeps {w w1 : World} {g k c : Nat} {l : List Nat} (h : Ow w g k c l) {B : Nat} (hb : Below B w w1) (hg : g < B) : Ow w1 g k c l := by
  obtain ⟨⟨h1, h2⟩, h3⟩ := h
  refine ⟨⟨h1, ?_⟩, h3⟩
  rcases h2 with h0 | ⟨g', cap, cur, e, hbg, hh, r⟩
  · exact .inl h0
  · refine .inr ⟨g', cap, cur, e, hbg, ?_, r⟩
    simp only [Value.slice.injEq, Option.some.injEq, Addr.mk.injEq] at e
    obtain ⟨⟨rfl, _⟩, _⟩ := e
    rw [hb.block _ hg]
    exact hh
theorem Ow.next {w w1 : World} {g k c : Nat} {l : List Nat} (h : Ow w g k c l) (hb : Below w.heap.size w w1) : Ow w1 g k c l := h.keeps hb h.lt

/-- make([]byte, 0, c). -/
theorem wpList_mk (w : World) {ops : Array Oper} {rest : List Oper} {o : Oper} {a : Act} {Q : Exit → Act → World → Prop}
    (hg : o.guard = none) (x y : Operand) (hop : o.op = Op.makeSlice 22 x y) (C : Int) (c : Nat) (hl : a.eval x = .int .i64 0) (hc : a.eval y = .int .i64 C) (hC : C = (c : Int)) (hcap : c ≤ 281474976710656)
    (hK : ∀ w', Ow w' w.heap.size 0 c [] → Below w.heap.size w w' → wpList Try.prog ops Q rest (a.put o.dst (.slice (some ⟨w.heap.size, 0, none⟩) 0 c)) w') :
    wpList Try.prog ops Q (o :: rest) a w := by
  obtain ⟨i0, hi, hz0, hz1, hz2⟩ := info_parts info5
  refine wpList_make_own w hg x y 22 hop w.heap.size 5 i0 (.int .u8 0) 1 Try.underlying22 hi hz0 hz1 .i64 .i64 C c hl hc hC (by rw [hz2]; omega) (by unfold maxLen; omega) (Nat.le_refl _) fun w' hown hgr => hK w' ⟨hown, By.nil⟩ ?_
  exact (Below.refl w.heap.size w).grown hgr (Nat.le_refl _) (fun k hk => by cases hk)
/-- append(s, x...) where there is room. -/
theorem wpList_fit (w : World) {ops : Array Oper} {rest : List Oper} {o : Oper} {a : Act} {Q : Exit → Act → World → Prop} (hgd : o.guard = none) (s x : Operand)
    (ho : o.op = .call { callee := .builtin .append, args := #[s, x], argTypes := #[22, 22] })
    (g k c : Nat) (l : List Nat) (hs : a.eval s = .slice (some ⟨g, 0, none⟩) k c) (hown : Ow w g k c l) (A : Option Addr) (m d : Nat) (r : List Nat) (hx : a.eval x = .slice A m d) (hA : AtL w A r) (hr : r.length = m) (hnil : A = none → d = 0 ∧ m = 0)
    (hn : k + m ≤ c)
    (h : ∀ w', Ow w' g (k + m) c (l ++ r) → Below g w w' → wpList Try.prog ops Q rest (a.put o.dst (.slice (some ⟨g, 0, none⟩) (k + m) c)) w') : wpList Try.prog ops Q (o :: rest) a w := by
  obtain ⟨i, hi, hz0, hz1, hz2⟩ := info_parts info5
  refine wpList_append_fits_any w hgd s x 22 ho g 5 i 1 Try.underlying22 hi hz1 g k c (Vs l) hs hown.1 A m d (Vs r) hx (by rw [Vs_length]; omega) (fun e => ⟨(hnil e).2, (hnil e).1⟩) ?_ (Vs_one _) hn ?_
  · intro ad e
    subst e
    exact hA.news
  · intro w' h1 h2
    rw [← Vs_append] at h1
    exact h w' ⟨h1, hown.2.append hA.by⟩ ((Below.refl g w).grown h2 (Nat.le_of_lt hown.lt) (fun q hq => by cases hq; exact Nat.le_refl _))

/-! Strings. -/
/-- The bytes of a string. -/
def sl (s : ByteArray) : List Nat := s.data.toList.map UInt8.toNat
theorem sl_length (s : ByteArray) : (sl s).length = s.size := by
  rw [sl, List.length_map, Array.length_toList]
  rfl
theorem by_sl (s : ByteArray) : By (sl s) := by
  intro x hx
  simp only [sl, List.mem_map] at hx
  obtain ⟨b, _, rfl⟩ := hx
  exact b.toNat_lt
theorem Vs_sl (s : ByteArray) : Vs (sl s) = Lib.strCells s := by
  unfold Vs sl Lib.strCells
  rw [List.map_map]
  rfl
/-- The string of bytes. -/
def st_of (l : List Nat) : ByteArray := ⟨(l.map UInt8.ofNat).toArray⟩
theorem st_of_sl (s : ByteArray) : st_of (sl s) = s := by
  unfold st_of sl
  have e : (UInt8.ofNat ∘ UInt8.toNat) = id := by funext b; simp
  rw [List.map_map, e, List.map_id]
theorem sl_st_of {l : List Nat} (h : By l) : sl (st_of l) = l := by
  unfold st_of sl
  simp only [List.map_map]
  conv => rhs; rw [← List.map_id l]
  apply List.map_congr_left
  intro x hx
  have := h x hx
  simp [Nat.mod_eq_of_lt this]
theorem st_of_inj {l r : List Nat} (hl : By l) (hr : By r) (h : st_of l = st_of r) : l = r := by rw [← sl_st_of hl, ← sl_st_of hr, h]
theorem st_of_size (l : List Nat) : (st_of l).size = l.length := by simp [st_of, ByteArray.size]
theorem wpList_fit_s (w : World) {ops : Array Oper} {rest : List Oper} {o : Oper} {a : Act} {Q : Exit → Act → World → Prop} (hgd : o.guard = none) (s x : Operand)
    (ho : o.op = .call { callee := .builtin .append, args := #[s, x], argTypes := #[22, 9] })
    (g k c : Nat) (l : List Nat) (hs : a.eval s = .slice (some ⟨g, 0, none⟩) k c) (hown : Ow w g k c l) (r : ByteArray) (hx : a.eval x = .string r) (h1 : 0 < c) (hn : k + r.size ≤ c)
    (h : ∀ w', Ow w' g (k + r.size) c (l ++ sl r) → Below g w w' → wpList Try.prog ops Q rest (a.put o.dst (.slice (some ⟨g, 0, none⟩) (k + r.size) c)) w') : wpList Try.prog ops Q (o :: rest) a w := by
  obtain ⟨i, hi, hz0, hz1, hz2⟩ := info_parts info5
  refine Lib.wpList_append_fits_string w hgd s x 22 9 ho g 5 i Try.underlying22 Try.underlying9 hi hz1 (some ⟨g, 0, none⟩) k c (Vs l) hs hown.1 r hx h1 hn ?_
  intro w' h1 h2
  rw [← Vs_sl, ← Vs_append] at h1
  exact h w' ⟨h1, hown.2.append (by_sl r)⟩ ((Below.refl g w).grown h2 (Nat.le_of_lt hown.lt) (fun q hq => by cases hq; exact Nat.le_refl _))
/-- string(b). -/
theorem run_str {w : World} {a : Option Addr} {l : List Nat} (h : AtL w a l) (n c : Nat) (hn : l.length = n) : (convert 22 9 (.slice a n c)).run Try.prog w = .ok (.string (st_of l)) w := by
  subst hn
  rcases h.1 with h0 | ⟨b, off, rfl, hB⟩
  · obtain rfl : l = [] := List.eq_nil_of_length_eq_zero h0
    rw [run_convert_bytes_string w 22 9 5 a _ c Try.underlying22 Try.underlying5 Try.underlying9]
    show (Conv.bytesToString (.slice a 0 c)).run Try.prog w = _
    cases a <;> simp [Conv.bytesToString, loadCells, st_of]
    all_goals rfl
  · rw [run_convert_bytes_arg w 22 5 Try.underlying22 Try.underlying5 b off l.length c (l.map fun x : Nat => (x : Int)) (by simp) ?_ _ Try.underlying9]
    · congr 2
      unfold strOfNums st_of
      simp
    · intro i hi
      rw [hB i hi]
      simp [ix, hi]
end Go.Proofs.Ytegniedbiegcpaa
