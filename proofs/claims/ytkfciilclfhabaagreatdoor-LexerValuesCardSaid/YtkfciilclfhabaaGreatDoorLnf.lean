/-
  Two sources and a byte 10 between them: plain data; parts of slices of tokens and problems.
-/
import Derived.Test.YtkfciilclfhabaaGreatDoorNaf
namespace Go.Proofs.YtkfciilclfhabaaGreatDoor
open Go.RowKit dec

theorem smB_sh (d : Nat) : ∀ l : List Tk, (∀ x ∈ l, -4611686018427387904 ≤ x.a ∧ x.a ≤ 4611686018427387904) → d ≤ 1048576 → smB true (d : Nat) l (l.map (shT d)) = true
  | [], _, _ => rfl
  | x :: l, h, hd => by
    have h1 := h x (List.mem_cons_self ..)
    have h2 : wrap64 (x.a + (d : Nat)) = x.a + (d : Nat) := by unfold wrap64; omega
    rw [List.map_cons]
    simp only [smB, shT, h2, decide_true, Bool.true_and, Bool.or_true]
    exact smB_sh d l (fun y hy => h y (List.mem_cons_of_mem _ hy)) hd
theorem cov_bounds (src : List UInt8) : ∀ (l : List Tk) (p : Nat), Cov src p l → ∀ x ∈ l, 0 ≤ x.a ∧ x.a ≤ src.length
  | [], _, _, x, h => by cases h
  | y :: l, p, ⟨a, h1, h2, h3, _, _, h6⟩, x, h => by
    rcases List.mem_cons.1 h with rfl | h
    · omega
    · exact cov_bounds src l _ h6 x h
theorem tok_bounds {s : ByteArray} (h : s.size ≤ 16384) {x : Tk} (hx : x ∈ tokL s) : 0 ≤ x.a ∧ x.a ≤ s.size := by
  rcases tok_mem h hx with h1 | rfl
  · have := cov_bounds _ _ _ (lex_cov s.data.toList 0 false s.data.toList rfl (Nat.zero_le _)).1 x h1
    rw [str_len] at this
    exact this
  · exact ⟨by unfold endT; simp, by unfold endT; simp⟩
theorem take_both {α : Type} (k : Nat) (l r : List α) : (l.take k ++ r.take k).take k = (l ++ r).take k := by
  rw [List.take_append, List.take_append, List.take_take, Nat.min_self, List.length_take, List.take_take]
  by_cases h : k ≤ l.length
  · rw [show k - l.length = 0 by omega, show k - min k l.length = 0 by omega]
    simp
  · rw [show min k l.length = l.length by omega, show min (k - l.length) k = k - l.length by omega]
/-- Two sources: what Tokens hands back. -/
structure Two (x y z : ByteArray) : Prop where
  len : (tokL z).length = (tokL x).length - 1 + (tokL y).length
  one : smB true 0 ((tokL x).take ((tokL x).length - 1)) ((tokL z).take ((tokL x).length - 1)) = true
  two : smB true ((x.size + 1 : Nat) : Int) (tokL y) ((tokL z).drop ((tokL x).length - 1)) = true
  bad : tokB z = (tokB x ++ (tokB y).map (shB (x.size + 1))).take 32
theorem two_of (x y z : ByteArray) (hx : x.size ≤ 2000) (hy : y.size ≤ 2000) (hz : z.data.toList = x.data.toList ++ 10 :: y.data.toList) : Two x y z := by
  have hzs : z.size = x.size + 1 + y.size := by
    rw [← str_len, hz, List.length_append, List.length_cons, str_len, str_len]; omega
  have tl : ∀ c : ByteArray, c.size ≤ 16384 → tokL c = (lxs 0 false c.data.toList).1 ++ [endT c] := fun c hc => by unfold tokL; rw [if_neg (by omega)]
  have tb : ∀ c : ByteArray, c.size ≤ 16384 → tokB c = (lxs 0 false c.data.toList).2.take 32 := fun c hc => by unfold tokB; rw [if_neg (by omega)]
  have h1 := lex_lines y.data.toList 0 false x.data.toList
  rw [← hz, str_len, show 0 + x.size + 1 = 0 + (x.size + 1) by omega, lex_shift (x.size + 1) 0 false y.data.toList] at h1
  have he : endT z = shT (x.size + 1) (endT y) := by
    unfold endT shT
    simp only [Tk.mk.injEq, true_and]
    omega
  have hL : tokL z = (lxs 0 false x.data.toList).1 ++ (tokL y).map (shT (x.size + 1)) := by
    rw [tl z (by omega), tl y (by omega), h1, he, List.map_append, List.append_assoc]
    rfl
  have hB : tokB z = (tokB x ++ (tokB y).map (shB (x.size + 1))).take 32 := by
    rw [tb z (by omega), tb y (by omega), tb x (by omega), h1, List.map_take, take_both]
  have hn : (tokL x).length - 1 = (lxs 0 false x.data.toList).1.length := by rw [tl x (by omega), List.length_append, List.length_singleton]; omega
  refine ⟨?_, ?_, ?_, hB⟩
  · rw [hn, hL, List.length_append, List.length_map]
  · rw [hn, hL, List.take_left, tl x (by omega), List.take_left]
    refine smB_refl true _ fun q hq => ?_
    have := tok_bounds (s := x) (by omega) (x := q) (by rw [tl x (by omega)]; exact List.mem_append_left _ hq)
    unfold bdA
    omega
  · rw [hn, hL, List.drop_left]
    exact smB_sh _ _ (fun q hq => by have := tok_bounds (s := y) (by omega) hq; omega) (by omega)
set_option maxRecDepth 100000 in
theorem sz3 (W : World) : (Go.sizeOf 39).run Tryz.prog W = .ok 3 W := by
  obtain ⟨i, h1, h2, h3, h4⟩ := info_parts tk.infoF
  rw [run_sizeOf W h1, show Tryz.prog.cellsOf 39 = 3 by kernel_rfl]
set_option maxRecDepth 100000 in
theorem sz2 (W : World) : (Go.sizeOf 52).run Tryz.prog W = .ok 2 W := by
  obtain ⟨i, h1, h2, h3, h4⟩ := info_parts pb.infoF
  rw [run_sizeOf W h1, show Tryz.prog.cellsOf 52 = 2 by kernel_rfl]
/-- l[:m]. -/
theorem slice_to (t e : TypeId) (ht : Tryz.prog.underlying t = some (.slice (Tryz.prog.elem t))) (he : Tryz.prog.elem t = e) (z : Nat) (hz : ∀ W, (Go.sizeOf e).run Tryz.prog W = .ok z W) (a : Option Addr) (n cap m : Nat) (hm : m ≤ cap) (W : World) :
    (Instr.slice t (.slice a n cap) none (some (.int .i64 (m : Nat))) none).run Tryz.prog W = .ok (.slice a m cap) W := by
  rw [run_slice_h W t a n cap ht .i64 _ (by omega) (by omega), he, hz, Int.toNat_natCast]
  have h : (if cap = 0 then a else a.map (·.add (0 * z))) = a := by
    rw [Nat.zero_mul]
    split
    · rfl
    · cases a with
      | none => rfl
      | some a => simp [Addr.add]
  show Result.ok (Value.slice (if cap = 0 then a else a.map (·.add (0 * z))) (m - 0) (cap - 0)) W = _
  rw [h]
  rfl
/-- l[m:]. -/
theorem slice_from (t e : TypeId) (ht : Tryz.prog.underlying t = some (.slice (Tryz.prog.elem t))) (he : Tryz.prog.elem t = e) (z : Nat) (hz : ∀ W, (Go.sizeOf e).run Tryz.prog W = .ok z W) (a : Option Addr) (n cap m : Nat) (hm : m ≤ n) (W : World) :
    (Instr.slice t (.slice a n cap) (some (.int .i64 (m : Nat))) none none).run Tryz.prog W = .ok (.slice (if cap = m then a else a.map (·.add (m * z))) (n - m) (cap - m)) W := by
  rw [run_slice_l W t a n cap ht .i64 _ (by omega) (by omega), he, hz, Int.toNat_natCast]
  rfl
theorem sl_from {w : World} {a : Option Addr} {n cap : Nat} {l : List Tk} (h : tk.Sl w a n cap l) {m : Nat} (hm : m ≤ n) : tk.Sl w (if cap = m then a else a.map (·.add (m * 3))) (n - m) (cap - m) (l.drop m) := by
  have hn := h.hn
  have hc := h.hcap
  have hx := h.hmax
  refine ⟨?_, by rw [List.length_drop]; omega, by omega, by omega, ?_⟩
  · by_cases h0 : n = m
    · exact .inl (by rw [List.length_drop]; omega)
    · rcases h.hat with h1 | ⟨b, off, rfl, hC⟩
      · omega
      · refine .inr ⟨b, off + m * 3, ?_, ?_⟩
        · rw [if_neg (by omega)]
          by_cases h2 : m = 0
          · subst h2; simp [Addr.add]
          · simp [Addr.add, show ¬ m * 3 = 0 by omega]
        · have := hC.cut m (l.length - m)
          rw [List.take_of_length_le (by rw [List.length_drop]; omega)] at this
          exact this
  · intro hn0
    split at hn0
    · have := h.hno hn0; omega
    · cases a with
      | none => have := h.hno rfl; omega
      | some a => cases hn0
theorem pl_take {w : World} {a : Option Addr} {n cap : Nat} {l : List Pb} (h : pb.Sl w a n cap l) {m : Nat} (hm : m ≤ n) : pb.Sl w a m cap (l.take m) := by
  have hc := h.hcap
  refine ⟨?_, by rw [List.length_take, h.hn]; omega, by omega, h.hmax, h.hno⟩
  rcases h.hat with h0 | ⟨b, off, e, hC⟩
  · exact .inl (by rw [List.length_take]; omega)
  · exact .inr ⟨b, off, e, hC.take m⟩
end Go.Proofs.YtkfciilclfhabaaGreatDoor
