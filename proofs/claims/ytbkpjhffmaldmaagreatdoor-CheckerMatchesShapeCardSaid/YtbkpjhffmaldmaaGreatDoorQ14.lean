/-
  Arguments that came in; from a walk to its row.
-/
import Derived.Lib.SmallJoins
import Derived.Deep.Slices
import Derived.SizedLaws
import Derived.ChangeMaps5
import Derived.ProofKit
import Derived.LaidMore
import Derived.OpenShut
import Derived.Stop.Joined
import Derived.Stop.LaidErr
import Derived.SevenTiedAt
import Derived.Lib.LaidTab
import Derived.Carry
import Derived.Test.YtbkpjhffmaldmaaGreatDoorCards
import Derived.Test.YtbkpjhffmaldmaaGreatDoorQ12
import Derived.Test.YtbkpjhffmaldmaaGreatDoorRows
import Derived.Test.YtbkpjhffmaldmaaGreatDoorTie
namespace Go.Proofs.YtbkpjhffmaldmaaGreatDoor.ch
open Go.ChangeShapes Go.WideShapes Go.ChangeAt Go.RowKit Go.Joins dec

theorem cI : Tryz.prog.cellsOf 3 = 1 := by kernel_rfl
theorem cSt : Tryz.prog.cellsOf 9 = 1 := by kernel_rfl
theorem cVa : Tryz.prog.cellsOf 23 = 3 := by kernel_rfl
theorem cWi : Tryz.prog.cellsOf 26 = 2 := by kernel_rfl
theorem cFa : Tryz.prog.cellsOf 66 = 2 := by kernel_rfl
theorem cSfa : Tryz.prog.cellsOf 24 = 1 := by kernel_rfl
theorem cX : Tryz.prog.cellsOf 29 = 12 := by kernel_rfl
theorem cSx : Tryz.prog.cellsOf 27 = 1 := by kernel_rfl
theorem cTy : Tryz.prog.cellsOf 36 = 3 := by kernel_rfl
theorem cFi : Tryz.prog.cellsOf 79 = 4 := by kernel_rfl
theorem cSfi : Tryz.prog.cellsOf 37 = 1 := by kernel_rfl
theorem cTb : Tryz.prog.cellsOf 39 = 4 := by kernel_rfl
theorem cStb : Tryz.prog.cellsOf 43 = 1 := by kernel_rfl
theorem cFe : Tryz.prog.cellsOf 54 = 18 := by kernel_rfl
theorem cSfe : Tryz.prog.cellsOf 44 = 1 := by kernel_rfl
theorem cCa : Tryz.prog.cellsOf 46 = 4 := by kernel_rfl
theorem bFa : Tryz.prog.bytesOf 66 = 24 := by kernel_rfl

instance : Inhabited Ex := ⟨⟨h0, .nil⟩⟩
instance : Inhabited Fi := ⟨⟨.empty, t0⟩⟩
instance : Inhabited Tb := ⟨⟨.empty, .empty, [], 0⟩⟩
instance : Inhabited Fe := ⟨⟨.empty, .empty, t0, ⟨h0, .nil⟩, 0⟩⟩

section
variable {H : Type} {enc : TypeId × Value → H} {w : World} {m : Nat} {y : DataW H × List MemPlace}
/-- What is read of values that came in. -/
abbrev Rd (enc : TypeId × Value → H) (w : World) (m : Nat) (T : TypeId) (cs : List Value) (y : DataW H × List MemPlace) : Prop := DataW.trod enc Tryz.prog w 0 (fun _ => true) true m T cs = some y
/-- Nothing in it is larger than a memory. -/
def Wk (T : TypeId) (d : DataW H) : Prop := ∀ n ∈ d.weights Tryz.prog T, n ≤ 140737488351232
theorem wk_part {T : TypeId} {fs : Array Field} (hu : Tryz.prog.underlying T = some (.struct fs)) {parts : List (DataW H)} (h : Wk T (.agg parts)) {j : Nat} {t : TypeId} {d : DataW H} (ht : (fs.toList.map (·.type))[j]? = some t) (hd : parts[j]? = some d) : Wk t d :=
  fun n hn => h n (by simp only [DataW.weights, hu]; exact DataW.weights_mem_each ht hd n hn)
theorem wk_all {e : TypeId} {n : Nat} : ∀ {l : List (DataW H)} {d : DataW H}, d ∈ l → n ∈ d.weights Tryz.prog e → n ∈ DataW.weightsAll Tryz.prog e l
  | x :: l, d, h, hn => by
    simp only [DataW.weightsAll, List.mem_append]
    rcases List.mem_cons.1 h with rfl | h
    · exact .inl hn
    · exact .inr (wk_all h hn)
theorem wk_slice {T e : TypeId} (hu : Tryz.prog.underlying T = some (.slice e)) {el sp : List (DataW H)} (h : Wk T (.slice el sp)) : (el.length + sp.length) * Tryz.prog.bytesOf e ≤ 140737488351232 ∧ ∀ d ∈ el, Wk e d := by
  refine ⟨h _ (by simp [DataW.weights, hu]), fun d hd n hn => h n ?_⟩
  simp only [DataW.weights, hu, List.mem_cons, List.mem_append]
  exact .inr (.inl (wk_all hd hn))
theorem wk_str {T : TypeId} {s : ByteArray} (h : Wk (H := H) T (.lit (.string s.data.toList))) : s.size ≤ 140737488355328 := by
  have := h s.data.toList.length (by simp [DataW.weights])
  have e : s.data.toList.length = s.size := by rw [Array.length_toList]; rfl
  omega


set_option maxRecDepth 100000 in
theorem rw_of {α : Type} [Inhabited α] {V : World → Array Value → α → Prop} {Q : DataW H → α → Prop} {sz : Nat} {T e : TypeId} (hu : Tryz.prog.underlying T = some (.slice e)) (hc : Tryz.prog.cellsOf e = sz) (h0 : 0 < sz) {c : Value} (h : Rd enc w m T [c] y) (hk : Wk T y.1)
    (E : ∀ k cs z, k < m → Rd enc w k e cs z → Wk e z.1 → ∃ (ds : Array Value) (x : α), cs = ds.toList ∧ ds.size = sz ∧ V w ds x ∧ Q z.1 x) :
    ∃ a n cap l el sp, c = .slice a n cap ∧ Rw sz V w a n cap l ∧ (el.length + sp) * Tryz.prog.bytesOf e ≤ 140737488351232 ∧ el.length = l.length ∧ (∀ j (h1 : j < el.length) (h2 : j < l.length), Q el[j] l[j]) ∧ Rows.uptoBulkAll el ≤ Rows.uptoBulk y.1 := by
  rcases DataW.trod_slice hu h with ⟨hcs, rfl⟩ | ⟨a, n, cap, elems, rest, k, rfl, hcs, rfl, hb, hl, hm, hlen, hel, _, _⟩
  · simp only [List.cons.injEq, and_true] at hcs
    subst hcs
    exact ⟨none, 0, 0, [], [], 0, rfl, .nil _ _ _, by rw [List.length_nil, Nat.zero_add, Nat.zero_mul]; exact Nat.zero_le _, rfl, fun j h1 => absurd h1 (Nat.not_lt_zero _), Nat.zero_le _⟩
  · simp only [List.cons.injEq, and_true] at hcs
    subst hcs
    obtain ⟨hw, hke⟩ := wk_slice hu hk
    have hel2 : ∀ i, i < n → ∃ x : α, ∃ (ds cs' : Array Value), w.cells? 0 (a.add (i * Tryz.prog.cellsOf e)) (Tryz.prog.cellsOf e) = some ds.toList ∧ ds.size = sz ∧ V w ds x ∧ ∀ h : i < elems.length, Q elems[i].1 x := fun i hi => by
      have h1 := hel i hi
      rw [List.getElem?_eq_getElem (by omega)] at h1
      obtain ⟨cs', h2, h3⟩ := Option.bind_eq_some_iff.1 h1
      obtain ⟨ds, x, rfl, h5, h6, h7⟩ := E k cs' _ (Nat.lt_succ_self _) h3 (hke _ (List.mem_map.2 ⟨_, List.getElem_mem _, rfl⟩))
      exact ⟨x, ds, ds, h2, h5, h6, fun _ => h7⟩
    obtain ⟨q, hq⟩ := Go.Deep.choose_lt hel2
    refine ⟨some a, n, cap, (List.range n).map q, elems.map (·.1), (rest.map (·.1)).length, rfl, ⟨?_, by simp, hl, by unfold maxLen at hm; omega, fun h => by cases h⟩, hw, by simp [hlen], fun j h1 h2 => ?_, Nat.le_trans (Nat.le_add_right _ (Rows.uptoBulkAll (rest.map (·.1)))) (Nat.le_succ _)⟩
    · by_cases hn : n = 0
      · exact .inl (by simp [hn])
      obtain ⟨b, off, spot⟩ := a
      have hspot : spot = none := by
        obtain ⟨ds, _, g1, g2, _⟩ := hq 0 (by omega)
        rw [hc] at g1
        obtain ⟨_, _, g3⟩ := World.cells?_some g1
        have g4 := g3 0 h0
        rw [List.getElem?_eq_getElem (by rw [Array.length_toList]; omega)] at g4
        have := World.cell?_spot g4
        simpa [Addr.add] using this
      subst hspot
      refine .inr ⟨b, off, rfl, fun j hj => ?_⟩
      have hj' : j < n := by simpa using hj
      obtain ⟨ds, _, g1, g2, g3, _⟩ := hq j hj'
      refine ⟨ds, g2, fun i v hv => ?_, by simpa using g3⟩
      rw [hc] at g1
      obtain ⟨_, g4, g5⟩ := World.cells?_some g1
      have hi : i < ds.toList.length := (List.getElem?_eq_some_iff.1 hv).1
      have := g5 i (by omega)
      rw [Go.Addr.add_mid, Go.Addr.add_mid] at this
      rw [this, hv]
    · have hj' : j < n := by simpa using h2
      obtain ⟨_, _, _, _, _, g⟩ := hq j hj'
      have := g (by omega)
      simpa using this

/-! Units. -/
def FaV (_ : World) (cs : Array Value) (f : un.Fa) : Prop := cs = #[.string f.1, .int .i64 f.2]
theorem sl_rw {a : Option Addr} {n cap : Nat} {l : List un.Fa} (h : Rw 2 FaV w a n cap l) : un.Sl w a n cap l := by
  refine ⟨h.hat.imp id fun ⟨b, off, e, hA⟩ => ⟨b, off, e, fun j hj => ?_⟩, h.hn, h.hcap, h.hmax, h.hno⟩
  obtain ⟨cs, _, h2, rfl⟩ := hA j hj
  rw [un.gt_eq hj]
  exact ⟨by simpa using h2 0 _ rfl, by simpa [Nat.add_assoc] using h2 1 _ rfl⟩
set_option maxRecDepth 100000 in
theorem fa_of {cs : List Value} (h : Rd enc w m 66 cs y) (hk : Wk 66 y.1) : ∃ (ds : Array Value) (x : un.Fa), cs = ds.toList ∧ ds.size = 2 ∧ FaV w ds x ∧ x.1.size ≤ 140737488355328 := by
  obtain ⟨y0, y1, k, rfl, hl, g0, g1⟩ := trod_struct2 Tryz.underlying66 h
  rw [cFa] at hl
  match cs, hl with
  | [v0, v1], _ =>
    simp only [cSt, cI, List.drop_zero, List.take_succ_cons, List.take_zero, List.drop_succ_cons] at g0 g1
    obtain ⟨n0, e0, d0, _⟩ := DataW.trod_string Tryz.underlying9 g0
    obtain ⟨n1, e1, d1, _⟩ := DataW.trod_int Tryz.underlying3 g1
    simp only [List.cons.injEq, and_true] at e0 e1
    subst e0 e1
    have k0 := wk_part Tryz.underlying66 hk (j := 0) (t := 9) rfl rfl
    rw [d0] at k0
    exact ⟨#[.string n0, .int .i64 n1], (n0, n1), rfl, rfl, rfl, wk_str k0⟩
theorem un_of {c : Value} (h : Rd enc w m 24 [c] y) (hk : Wk 24 y.1) : ∃ a cap l, c = .slice a l.length cap ∧ un.Sl w a l.length cap l ∧ l.length ≤ K ∧ ∀ f ∈ l, f.1.size ≤ 140737488355328 := by
  obtain ⟨a, n, cap, l, el, sp, rfl, S, hz, hl, hq, _⟩ := rw_of (Q := fun _ (x : un.Fa) => x.1.size ≤ 140737488355328) Tryz.underlying24 cFa (by decide) h hk (fun k cs z _ h1 h2 => fa_of h1 h2)
  rw [bFa] at hz
  have hn := S.hn
  refine ⟨a, cap, l, by rw [hn], by have := sl_rw S; rwa [← hn] at this, by unfold K; omega, fun f hf => ?_⟩
  obtain ⟨j, hj, rfl⟩ := List.getElem_of_mem hf
  exact hq j (by omega) hj

/-! Expressions. -/
theorem trod_struct9 {P : Program} {H : Type} {enc : TypeId × Value → H} {w : World} {base : Nat} {spare : Nat → Bool} {held : Bool} {t : TypeId} {f0 f1 f2 f3 f4 f5 f6 f7 f8 : Field} {fuel : Nat} {cs : List Value} {x : DataW H × List MemPlace} (ht : P.underlying t = some (.struct #[f0, f1, f2, f3, f4, f5, f6, f7, f8])) (h : DataW.trod enc P w base spare held fuel t cs = some x) :
    ∃ y0 y1 y2 y3 y4 y5 y6 y7 y8 n, fuel = n + 1 ∧ x.1 = .agg [y0.1, y1.1, y2.1, y3.1, y4.1, y5.1, y6.1, y7.1, y8.1] ∧ cs.length = P.cellsOf t ∧ DataW.trod enc P w base spare held n f0.type ((cs.drop f0.offset).take (P.cellsOf f0.type)) = some y0 ∧ DataW.trod enc P w base spare held n f1.type ((cs.drop f1.offset).take (P.cellsOf f1.type)) = some y1 ∧ DataW.trod enc P w base spare held n f2.type ((cs.drop f2.offset).take (P.cellsOf f2.type)) = some y2 ∧ DataW.trod enc P w base spare held n f3.type ((cs.drop f3.offset).take (P.cellsOf f3.type)) = some y3 ∧ DataW.trod enc P w base spare held n f4.type ((cs.drop f4.offset).take (P.cellsOf f4.type)) = some y4 ∧ DataW.trod enc P w base spare held n f5.type ((cs.drop f5.offset).take (P.cellsOf f5.type)) = some y5 ∧ DataW.trod enc P w base spare held n f6.type ((cs.drop f6.offset).take (P.cellsOf f6.type)) = some y6 ∧ DataW.trod enc P w base spare held n f7.type ((cs.drop f7.offset).take (P.cellsOf f7.type)) = some y7 ∧ DataW.trod enc P w base spare held n f8.type ((cs.drop f8.offset).take (P.cellsOf f8.type)) = some y8 := by
  obtain ⟨xs, n, rfl, rfl, hl, hlen, hf⟩ := DataW.trod_struct ht h
  match xs, hlen with
  | [y0, y1, y2, y3, y4, y5, y6, y7, y8], _ => exact ⟨y0, y1, y2, y3, y4, y5, y6, y7, y8, n, rfl, rfl, hl, by simpa using hf 0 f0 rfl, by simpa using hf 1 f1 rfl, by simpa using hf 2 f2 rfl, by simpa using hf 3 f3 rfl, by simpa using hf 4 f4 rfl, by simpa using hf 5 f5 rfl, by simpa using hf 6 f6 rfl, by simpa using hf 7 f7 rfl, by simpa using hf 8 f8 rfl⟩
theorem trod_struct5 {P : Program} {H : Type} {enc : TypeId × Value → H} {w : World} {base : Nat} {spare : Nat → Bool} {held : Bool} {t : TypeId} {f0 f1 f2 f3 f4 : Field} {fuel : Nat} {cs : List Value} {x : DataW H × List MemPlace} (ht : P.underlying t = some (.struct #[f0, f1, f2, f3, f4])) (h : DataW.trod enc P w base spare held fuel t cs = some x) :
    ∃ y0 y1 y2 y3 y4 n, fuel = n + 1 ∧ x.1 = .agg [y0.1, y1.1, y2.1, y3.1, y4.1] ∧ cs.length = P.cellsOf t ∧ DataW.trod enc P w base spare held n f0.type ((cs.drop f0.offset).take (P.cellsOf f0.type)) = some y0 ∧ DataW.trod enc P w base spare held n f1.type ((cs.drop f1.offset).take (P.cellsOf f1.type)) = some y1 ∧ DataW.trod enc P w base spare held n f2.type ((cs.drop f2.offset).take (P.cellsOf f2.type)) = some y2 ∧ DataW.trod enc P w base spare held n f3.type ((cs.drop f3.offset).take (P.cellsOf f3.type)) = some y3 ∧ DataW.trod enc P w base spare held n f4.type ((cs.drop f4.offset).take (P.cellsOf f4.type)) = some y4 := by
  obtain ⟨xs, n, rfl, rfl, hl, hlen, hf⟩ := DataW.trod_struct ht h
  match xs, hlen with
  | [y0, y1, y2, y3, y4], _ => exact ⟨y0, y1, y2, y3, y4, n, rfl, rfl, hl, by simpa using hf 0 f0 rfl, by simpa using hf 1 f1 rfl, by simpa using hf 2 f2 rfl, by simpa using hf 3 f3 rfl, by simpa using hf 4 f4 rfl⟩
def foL : List Ex → Fo
  | [] => .nil
  | x :: l => .cons x.h x.ar (foL l)
theorem foL_len : ∀ l : List Ex, (foL l).len = l.length
  | [] => rfl
  | x :: l => by simp [foL, Fo.len, foL_len l]
theorem foL_nth : ∀ (l : List Ex) (j : Nat) (h : j < l.length), (foL l).nth j = l[j]
  | x :: l, 0, _ => rfl
  | x :: l, j + 1, h => foL_nth l j (by simpa using h)
theorem foL_szs : ∀ l : List Ex, (∀ x ∈ l, x.szs) → (foL l).szs
  | [], _ => trivial
  | x :: l, h => ⟨(h x (List.mem_cons_self ..)).h, (h x (List.mem_cons_self ..)).ar, foL_szs l fun y hy => h y (List.mem_cons_of_mem _ hy)⟩
theorem foL_lns : ∀ l : List Ex, (∀ x ∈ l, x.lns) → (foL l).lns
  | [], _ => trivial
  | x :: l, h => ⟨(h x (List.mem_cons_self ..)).h, (h x (List.mem_cons_self ..)).ar, foL_lns l fun y hy => h y (List.mem_cons_of_mem _ hy)⟩
theorem foL_sz : ∀ (l : List Ex) (el : List (DataW H)), el.length = l.length → (∀ j (h1 : j < el.length) (h2 : j < l.length), l[j].ar.sz + 1 ≤ Rows.uptoBulk el[j]) → (foL l).sz ≤ Rows.uptoBulkAll el
  | [], _, _, _ => Nat.zero_le _
  | x :: l, [], h, _ => by simp at h
  | x :: l, d :: el, h, hq => by
    have h1 := hq 0 (by simp) (by simp)
    have h2 := foL_sz l el (by simpa using h) fun j h1 h2 => by
      have := hq (j + 1) (by simpa using h1) (by simpa using h2)
      simpa using this
    simp only [List.getElem_cons_zero] at h1
    simp only [foL, Fo.sz, Rows.uptoBulkAll]
    omega
theorem fs_rw {a : Option Addr} {n cap : Nat} {l : List Ex} (h : Rw 12 ExV w a n cap l) : Fs w a n cap (foL l) := by
  refine ⟨?_, by rw [foL_len, h.hn], h.hcap, h.hmax, h.hno⟩
  rw [foL_len]
  refine h.hat.imp id fun ⟨b, off, e, hA⟩ => ⟨b, off, e, fo_of b _ off fun j hj => ?_⟩
  rw [foL_len] at hj
  obtain ⟨cs, _, h2, ua, uc, aa, ac, rfl, h4⟩ := hA j hj
  rw [foL_nth _ _ hj]
  exact ⟨ua, uc, aa, ac, h2, h4⟩
/-- What is known of an expression that came in. -/
structure ExQ (d : DataW H) (x : Ex) : Prop where
  sz : x.szs
  ln : x.lns
  bulk : x.ar.sz + 1 ≤ Rows.uptoBulk d
theorem args_of {c : Value} (E : ∀ k cs z, k < m → Rd enc w k 29 cs z → Wk 29 z.1 → ∃ (ds : Array Value) (x : Ex), cs = ds.toList ∧ ds.size = 12 ∧ ExV w ds x ∧ ExQ z.1 x)
    (h : Rd enc w m 27 [c] y) (hk : Wk 27 y.1) : ∃ a cap F, c = .slice a F.len cap ∧ Fs w a F.len cap F ∧ F.szs ∧ F.lns ∧ F.sz ≤ Rows.uptoBulk y.1 := by
  obtain ⟨a, n, cap, l, el, sp, rfl, S, hz, hl, hq, hb⟩ := rw_of (Q := ExQ) Tryz.underlying27 cX (by decide) h hk E
  have hF := fs_rw S
  have hn : (foL l).len = n := hF.hn
  have hm : ∀ x ∈ l, ∃ d : DataW H, ExQ d x := fun x hx => by
    obtain ⟨j, hj, rfl⟩ := List.getElem_of_mem hx
    exact ⟨_, hq j (by omega) hj⟩
  refine ⟨a, cap, foL l, by rw [hn], by rw [hn]; exact hF, foL_szs l fun x hx => ?_, foL_lns l fun x hx => ?_, Nat.le_trans (foL_sz l el hl fun j h1 h2 => (hq j h1 h2).bulk) hb⟩
  · obtain ⟨_, h⟩ := hm x hx
    exact h.sz
  · obtain ⟨_, h⟩ := hm x hx
    exact h.ln
theorem bulk_part {d : DataW H} {l : List (DataW H)} (h : d ∈ l) : Rows.uptoBulk d ≤ Rows.uptoBulkAll l := by
  induction l with
  | nil => cases h
  | cons x r ih =>
    simp only [Rows.uptoBulkAll]
    rcases List.mem_cons.1 h with rfl | e
    · omega
    · have := ih e; omega
set_option maxRecDepth 100000 in
set_option maxHeartbeats 2000000 in
theorem ex_of : ∀ (m : Nat) (cs : List Value) (y : DataW H × List MemPlace), Rd enc w m 29 cs y → Wk 29 y.1 → ∃ (ds : Array Value) (x : Ex), cs = ds.toList ∧ ds.size = 12 ∧ ExV w ds x ∧ ExQ y.1 x := by
  intro m
  induction m using Nat.strongRecOn with
  | _ m IH =>
    intro cs y h hk
    obtain ⟨y0, y1, y2, y3, y4, y5, y6, y7, y8, n, rfl, hy, hl, g0, g1, g2, g3, g4, g5, g6, g7, g8⟩ := trod_struct9 Tryz.underlying29 h
    rw [cX] at hl
    rw [hy] at hk ⊢
    match cs, hl with
    | [c0, c1, c2, c3, c4, c5, c6, c7, c8, c9, c10, c11], _ =>
      simp only [cI, cSt, cVa, cSfa, cWi, cSx, List.drop_zero, List.take_succ_cons, List.take_zero, List.drop_succ_cons] at g0 g1 g2 g3 g4 g5 g6 g7 g8
      obtain ⟨n0, e0, d0, _⟩ := DataW.trod_int Tryz.underlying3 g0
      obtain ⟨n1, e1, d1, _⟩ := DataW.trod_string Tryz.underlying9 g1
      obtain ⟨n2, e2, d2, _⟩ := DataW.trod_string Tryz.underlying9 g2
      obtain ⟨n3, e3, d3, _⟩ := DataW.trod_string Tryz.underlying9 g3
      obtain ⟨p0, p1, p2, _, dv, _, f0, f1, f2⟩ := Go.Deep.trod_struct3 Tryz.underlying23 g4
      simp only [cI, cSt, List.drop_zero, List.take_succ_cons, List.take_zero, List.drop_succ_cons] at f0 f1 f2
      obtain ⟨v0, e4, d4, _⟩ := DataW.trod_int Tryz.underlying3 f0
      obtain ⟨v1, e5, d5, _⟩ := DataW.trod_int Tryz.underlying3 f1
      obtain ⟨v2, e6, d6, _⟩ := DataW.trod_string Tryz.underlying9 f2
      obtain ⟨n6, e8, d8, _⟩ := DataW.trod_int Tryz.underlying3 g6
      obtain ⟨q0, q1, _, dw, _, f3, f4⟩ := trod_struct2 Tryz.underlying26 g7
      simp only [cI, List.drop_zero, List.take_succ_cons, List.take_zero, List.drop_succ_cons] at f3 f4
      obtain ⟨w0, e9, d9, _⟩ := DataW.trod_int Tryz.underlying3 f3
      obtain ⟨w1, e10, d10, _⟩ := DataW.trod_int Tryz.underlying3 f4
      simp only [List.cons.injEq, and_true] at e0 e1 e2 e3 e4 e5 e6 e8 e9 e10
      have k1 := wk_part Tryz.underlying29 hk (j := 1) (t := 9) rfl rfl
      have k2 := wk_part Tryz.underlying29 hk (j := 2) (t := 9) rfl rfl
      have k3 := wk_part Tryz.underlying29 hk (j := 3) (t := 9) rfl rfl
      have k4 := wk_part Tryz.underlying29 hk (j := 4) (t := 23) rfl rfl
      have k5 := wk_part Tryz.underlying29 hk (j := 5) (t := 24) rfl rfl
      have k8 := wk_part Tryz.underlying29 hk (j := 8) (t := 27) rfl rfl
      rw [d1] at k1
      rw [d2] at k2
      rw [d3] at k3
      rw [dv] at k4
      have k6 := wk_part Tryz.underlying23 k4 (j := 2) (t := 9) rfl rfl
      rw [d6] at k6
      obtain ⟨ua, uc, u, rfl, hU, hul, _⟩ := un_of g5 k5
      obtain ⟨aa, ac, F, rfl, hF, hs, hln, hfb⟩ := args_of (fun k cs z hk' h1 h2 => IH k (by omega) cs z h1 h2) g8 k8
      subst e0 e1 e2 e3 e4 e5 e6 e8 e9 e10
      refine ⟨exC ⟨n0, n1, n2, n3, v0, v1, v2, u, n6, w0, w1⟩ F.len ua uc aa ac, ⟨⟨n0, n1, n2, n3, v0, v1, v2, u, n6, w0, w1⟩, F⟩, rfl, rfl, ⟨ua, uc, aa, ac, rfl, hU, hF⟩, ⟨⟨wk_str k1, wk_str k2, wk_str k3, wk_str k6⟩, hs⟩, ⟨hul, hln⟩, ?_⟩
      show F.sz + 1 ≤ _
      have hp : Rows.uptoBulk y8.1 ≤ Rows.uptoBulkAll [y0.1, y1.1, y2.1, y3.1, y4.1, y5.1, y6.1, y7.1, y8.1] := bulk_part (by simp)
      show F.sz + 1 ≤ Rows.uptoBulkAll [y0.1, y1.1, y2.1, y3.1, y4.1, y5.1, y6.1, y7.1, y8.1] + 1
      omega
end
end Go.Proofs.YtbkpjhffmaldmaaGreatDoor.ch
namespace Go.Proofs.YtbkpjhffmaldmaaGreatDoor.ch
open Go.ChangeShapes Go.WideShapes Go.ChangeAt Go.RowKit Go.Joins dec

section
variable {H : Type} {enc : TypeId × Value → H} {w : World} {m : Nat} {y : DataW H × List MemPlace}
theorem one_le (d : DataW H) : 1 ≤ Rows.uptoBulk d := by
  cases d with
  | lit l => cases l <;> simp [Rows.uptoBulk]
  | nil => simp [Rows.uptoBulk]
  | ptr d => simp [Rows.uptoBulk]
  | slice elems spare => simp [Rows.uptoBulk]
  | agg parts => simp [Rows.uptoBulk]
  | iface t d => simp [Rows.uptoBulk]
  | map entries => simp [Rows.uptoBulk]
  | held h => simp [Rows.uptoBulk]
theorem len_bulk : ∀ l : List (DataW H), l.length ≤ Rows.uptoBulkAll l
  | [] => Nat.zero_le _
  | d :: l => by
    have := one_le d
    have := len_bulk l
    simp only [List.length_cons, Rows.uptoBulkAll]
    omega
set_option maxRecDepth 100000 in
theorem ty_of {cs : List Value} (h : Rd enc w m 36 cs y) (hk : Wk 36 y.1) : ∃ (ds : Array Value) (t : Ty), cs = ds.toList ∧ ds.size = 3 ∧ TyV w ds t ∧ t.ln ∧ t.of.size ≤ 140737488355328 := by
  obtain ⟨y0, y1, y2, k, rfl, hl, g0, g1, g2⟩ := Go.Deep.trod_struct3 Tryz.underlying36 h
  rw [cTy] at hl
  match cs, hl with
  | [c0, c1, c2], _ =>
    simp only [cSt, cI, cSfa, List.drop_zero, List.take_succ_cons, List.take_zero, List.drop_succ_cons] at g0 g1 g2
    obtain ⟨n0, e0, d0, _⟩ := DataW.trod_int Tryz.underlying3 g0
    obtain ⟨n2, e2, d2, _⟩ := DataW.trod_string Tryz.underlying9 g2
    simp only [List.cons.injEq, and_true] at e0 e2
    have k1 := wk_part Tryz.underlying36 hk (j := 1) (t := 24) rfl rfl
    have k2 := wk_part Tryz.underlying36 hk (j := 2) (t := 9) rfl rfl
    rw [d2] at k2
    obtain ⟨ua, uc, u, rfl, hU, hul, _⟩ := un_of g1 k1
    subst e0 e2
    exact ⟨tyC ⟨n0, u, n2⟩ ua uc, ⟨n0, u, n2⟩, rfl, rfl, ⟨ua, uc, rfl, hU⟩, hul, wk_str k2⟩
set_option maxRecDepth 100000 in
theorem fi_of {cs : List Value} (h : Rd enc w m 79 cs y) (hk : Wk 79 y.1) : ∃ (ds : Array Value) (f : Fi), cs = ds.toList ∧ ds.size = 4 ∧ FiV w ds f ∧ f.sz ∧ f.ty.ln := by
  obtain ⟨y0, y1, k, rfl, hl, g0, g1⟩ := trod_struct2 Tryz.underlying79 h
  rw [cFi] at hl
  match cs, hl with
  | [c0, c1, c2, c3], _ =>
    simp only [cSt, cTy, List.drop_zero, List.take_succ_cons, List.take_zero, List.drop_succ_cons] at g0 g1
    obtain ⟨n0, e0, d0, _⟩ := DataW.trod_string Tryz.underlying9 g0
    simp only [List.cons.injEq, and_true] at e0
    have k0 := wk_part Tryz.underlying79 hk (j := 0) (t := 9) rfl rfl
    have k1 := wk_part Tryz.underlying79 hk (j := 1) (t := 36) rfl rfl
    rw [d0] at k0
    obtain ⟨ds, t, e1, _, ⟨ua, uc, rfl, hU⟩, hln, hof⟩ := ty_of g1 k1
    subst e0
    refine ⟨fiC ⟨n0, t⟩ ua uc, ⟨n0, t⟩, ?_, rfl, ⟨ua, uc, rfl, hU⟩, ⟨wk_str k0, hof⟩, hln⟩
    show _ = Value.string n0 :: (tyC t ua uc).toList
    rw [← e1]
/-- What is known of a table that came in. -/
structure TbQ (t : Tb) : Prop where
  sz : t.sz
  ln : ∀ f ∈ t.fs, f.ty.ln
set_option maxRecDepth 100000 in
theorem tb_of {cs : List Value} (h : Rd enc w m 39 cs y) (hk : Wk 39 y.1) : ∃ (ds : Array Value) (t : Tb), cs = ds.toList ∧ ds.size = 4 ∧ TbV w ds t ∧ TbQ t := by
  obtain ⟨y0, y1, y2, y3, k, rfl, hl, g0, g1, g2, g3⟩ := trod_struct4 Tryz.underlying39 h
  rw [cTb] at hl
  match cs, hl with
  | [c0, c1, c2, c3], _ =>
    simp only [cSt, cSfi, cI, List.drop_zero, List.take_succ_cons, List.take_zero, List.drop_succ_cons] at g0 g1 g2 g3
    obtain ⟨n0, e0, d0, _⟩ := DataW.trod_string Tryz.underlying9 g0
    obtain ⟨n1, e1, d1, _⟩ := DataW.trod_string Tryz.underlying9 g1
    obtain ⟨n3, e3, d3, _⟩ := DataW.trod_int Tryz.underlying3 g3
    simp only [List.cons.injEq, and_true] at e0 e1 e3
    have k0 := wk_part Tryz.underlying39 hk (j := 0) (t := 9) rfl rfl
    have k1 := wk_part Tryz.underlying39 hk (j := 1) (t := 9) rfl rfl
    have k2 := wk_part Tryz.underlying39 hk (j := 2) (t := 37) rfl rfl
    rw [d0] at k0
    rw [d1] at k1
    obtain ⟨a, n, cap, l, el, sp, rfl, S, _, hel, hq, _⟩ := rw_of (Q := fun _ (f : Fi) => f.sz ∧ f.ty.ln) Tryz.underlying37 cFi (by decide) g2 k2 (fun k cs z _ h1 h2 => fi_of h1 h2)
    have hn := S.hn
    subst hn
    subst e0 e1 e3
    have hm : ∀ f ∈ l, f.sz ∧ f.ty.ln := fun f hf => by
      obtain ⟨j, hj, rfl⟩ := List.getElem_of_mem hf
      exact hq j (by omega) hj
    exact ⟨tbC ⟨n0, n1, l, n3⟩ a cap, ⟨n0, n1, l, n3⟩, rfl, rfl, ⟨a, cap, rfl, S⟩, ⟨⟨wk_str k0, wk_str k1, fun f hf => (hm f hf).1⟩, fun f hf => (hm f hf).2⟩⟩
/-- What is known of a feature that came in. -/
structure FeQ (d : DataW H) (f : Fe) : Prop where
  sz : f.szs
  ln : f.ty.ln
  bulk : f.bo.ar.sz + 1 ≤ Rows.uptoBulk d
set_option maxRecDepth 100000 in
set_option maxHeartbeats 2000000 in
theorem fe_of {cs : List Value} (h : Rd enc w m 54 cs y) (hk : Wk 54 y.1) : ∃ (ds : Array Value) (f : Fe), cs = ds.toList ∧ ds.size = 18 ∧ FeV w ds f ∧ FeQ y.1 f := by
  obtain ⟨y0, y1, y2, y3, y4, n, rfl, hy, hl, g0, g1, g2, g3, g4⟩ := trod_struct5 Tryz.underlying54 h
  rw [cFe] at hl
  rw [hy] at hk ⊢
  match cs, hl with
  | [c0, c1, c2, c3, c4, c5, c6, c7, c8, c9, c10, c11, c12, c13, c14, c15, c16, c17], _ =>
    simp only [cI, cSt, cTy, cX, List.drop_zero, List.take_succ_cons, List.take_zero, List.drop_succ_cons] at g0 g1 g2 g3 g4
    obtain ⟨n0, e0, d0, _⟩ := DataW.trod_string Tryz.underlying9 g0
    obtain ⟨n1, e1, d1, _⟩ := DataW.trod_string Tryz.underlying9 g1
    obtain ⟨n4, e4, d4, _⟩ := DataW.trod_int Tryz.underlying3 g4
    simp only [List.cons.injEq, and_true] at e0 e1 e4
    have k0 := wk_part Tryz.underlying54 hk (j := 0) (t := 9) rfl rfl
    have k1 := wk_part Tryz.underlying54 hk (j := 1) (t := 9) rfl rfl
    have k2 := wk_part Tryz.underlying54 hk (j := 2) (t := 36) rfl rfl
    have k3 := wk_part Tryz.underlying54 hk (j := 3) (t := 29) rfl rfl
    rw [d0] at k0
    rw [d1] at k1
    obtain ⟨ds, t, e2, _, ⟨ta, tc, rfl, hT⟩, hln, hof⟩ := ty_of g2 k2
    obtain ⟨es, x, e3, _, ⟨ua, uc, aa, ac, rfl, hE⟩, hQ⟩ := ex_of _ _ _ g3 k3
    subst e0 e1 e4
    simp only [tyC, exC, List.cons.injEq, and_true] at e2 e3
    obtain ⟨rfl, rfl, rfl⟩ := e2
    obtain ⟨rfl, rfl, rfl, rfl, rfl, rfl, rfl, rfl, rfl, rfl, rfl, rfl⟩ := e3
    refine ⟨feC ⟨n0, n1, t, x, n4⟩ ta tc ua uc aa ac, ⟨n0, n1, t, x, n4⟩, rfl, rfl, ⟨ta, tc, ua, uc, aa, ac, rfl, hT, hE⟩, ⟨wk_str k0, wk_str k1, hof, hQ.sz, hQ.ln⟩, hln, ?_⟩
    have hb := hQ.bulk
    have hp : Rows.uptoBulk y3.1 ≤ Rows.uptoBulkAll [y0.1, y1.1, y2.1, y3.1, y4.1] := bulk_part (by simp)
    show x.ar.sz + 1 ≤ Rows.uptoBulkAll [y0.1, y1.1, y2.1, y3.1, y4.1] + 1
    omega
theorem fes_of {c : Value} (h : Rd enc w m 44 [c] y) (hk : Wk 44 y.1) : ∃ a cap l, c = .slice a l.length cap ∧ Fes w a l.length cap l ∧ l.length ≤ Rows.uptoBulk y.1 ∧ (∀ f ∈ l, f.szs ∧ f.ty.ln) ∧ l.length * Tryz.prog.bytesOf 54 ≤ 140737488351232 := by
  obtain ⟨a, n, cap, l, el, sp, rfl, S, hz, hel, hq, hb⟩ := rw_of (Q := FeQ) Tryz.underlying44 cFe (by decide) h hk (fun k cs z _ h1 h2 => fe_of h1 h2)
  have hn := S.hn
  subst hn
  refine ⟨a, cap, l, rfl, S, by have := len_bulk el; omega, fun f hf => ?_, Nat.le_trans (Nat.mul_le_mul_right _ (by omega)) hz⟩
  obtain ⟨j, hj, rfl⟩ := List.getElem_of_mem hf
  exact ⟨(hq j (by omega) hj).sz, (hq j (by omega) hj).ln⟩
theorem tbs_of {c : Value} (h : Rd enc w m 43 [c] y) (hk : Wk 43 y.1) : ∃ a cap l, c = .slice a l.length cap ∧ Tbs' w a l.length cap l ∧ l.length ≤ Rows.uptoBulk y.1 ∧ ∀ t ∈ l, TbQ t := by
  obtain ⟨a, n, cap, l, el, sp, rfl, S, hz, hel, hq, hb⟩ := rw_of (Q := fun _ (t : Tb) => TbQ t) Tryz.underlying43 cTb (by decide) h hk (fun k cs z _ h1 h2 => tb_of h1 h2)
  have hn := S.hn
  subst hn
  refine ⟨a, cap, l, rfl, S, by have := len_bulk el; omega, fun t ht => ?_⟩
  obtain ⟨j, hj, rfl⟩ := List.getElem_of_mem ht
  exact hq j (by omega) hj
/-- What is known of a catalog that came in. -/
structure CtQ (d : DataW H) (ts : List Tb) (gs : List Fe) : Prop where
  t : ∀ t ∈ ts, TbQ t
  g : ∀ f ∈ gs, f.szs ∧ f.ty.ln
  tn : ts.length ≤ Rows.uptoBulk d
  gn : gs.length ≤ Rows.uptoBulk d
  gb : gs.length * Tryz.prog.bytesOf 54 ≤ 140737488351232
theorem CtQ.ln {d : DataW H} {ts : List Tb} {gs : List Fe} (h : CtQ d ts gs) : CtL ts gs := ⟨fun t ht f hf => (h.t t ht).ln f hf, fun f hf => (h.g f hf).2⟩
set_option maxRecDepth 100000 in
theorem ct_of {cs : List Value} (h : Rd enc w m 46 cs y) (hk : Wk 46 y.1) : ∃ (ds : Array Value) (ts : List Tb) (gs : List Fe), cs = ds.toList ∧ CtV w ds ts gs ∧ CtQ y.1 ts gs := by
  obtain ⟨y0, y1, y2, y3, k, rfl, hl, g0, g1, g2, g3⟩ := trod_struct4 Tryz.underlying46 h
  rw [cCa] at hl
  match cs, hl with
  | [c0, c1, c2, c3], _ =>
    simp only [cStb, cSfe, List.drop_zero, List.take_succ_cons, List.take_zero, List.drop_succ_cons] at g0 g1 g2 g3
    have k0 := wk_part Tryz.underlying46 hk (j := 0) (t := 43) rfl rfl
    have k1 := wk_part Tryz.underlying46 hk (j := 1) (t := 44) rfl rfl
    have k2 := wk_part Tryz.underlying46 hk (j := 2) (t := 44) rfl rfl
    have k3 := wk_part Tryz.underlying46 hk (j := 3) (t := 44) rfl rfl
    obtain ⟨ta, tc, ts, rfl, hT, hTb, hTq⟩ := tbs_of g0 k0
    obtain ⟨ga, gc, gs, rfl, hG, hGb, hGq, hGz⟩ := fes_of g1 k1
    obtain ⟨da, dc, ds, rfl, _, _, _, _⟩ := fes_of g2 k2
    obtain ⟨pa, pc, ps, rfl, _, _, _, _⟩ := fes_of g3 k3
    have hp0 : Rows.uptoBulk y0.1 ≤ Rows.uptoBulkAll [y0.1, y1.1, y2.1, y3.1] := bulk_part (by simp)
    have hp1 : Rows.uptoBulk y1.1 ≤ Rows.uptoBulkAll [y0.1, y1.1, y2.1, y3.1] := bulk_part (by simp)
    exact ⟨ctC ta ts.length tc ga gs.length gc da ds.length dc pa ps.length pc, ts, gs, rfl, ⟨ta, ts.length, tc, ga, gs.length, gc, da, ds.length, dc, pa, ps.length, pc, rfl, hT, hG⟩, hTq, hGq, Nat.le_trans (Nat.le_trans hTb hp0) (Nat.le_succ _), Nat.le_trans (Nat.le_trans hGb hp1) (Nat.le_succ _), hGz⟩
end
section
variable {H : Type} {enc : TypeId × Value → H} {Z : World} {r : Reach} {b0' : Nat} {v : Value} {d : DataW H} {p : List MemPlace}
set_option maxRecDepth 100000 in
/-- An expression that came in. -/
theorem open_ex (hv : Value.okWide Tryz.prog Z r b0' 29 v) (h : DataW.Trod enc Tryz.prog Z 0 (fun _ => true) true 29 v d p) (hk : Wk 29 d) : ∃ x ua uc aa ac, v = .agg (exC x.h x.ar.len ua uc aa ac) ∧ Ec Z x ua uc aa ac ∧ ExQ d x := by
  obtain ⟨cs, rfl, _⟩ := okWide_struct Tryz.underlying29 hv
  obtain ⟨fuel, hf⟩ := h
  obtain ⟨ds, x, e, _, ⟨ua, uc, aa, ac, rfl, hE⟩, hQ⟩ := ex_of fuel cs.toList (d, p) hf hk
  exact ⟨x, ua, uc, aa, ac, by rw [show cs = _ from Array.toList_inj.1 e], hE, hQ⟩
set_option maxRecDepth 100000 in
theorem open_ty (hv : Value.okWide Tryz.prog Z r b0' 36 v) (h : DataW.Trod enc Tryz.prog Z 0 (fun _ => true) true 36 v d p) (hk : Wk 36 d) : ∃ t ua uc, v = .agg (tyC t ua uc) ∧ un.Sl Z ua t.un.length uc t.un ∧ t.ln ∧ t.of.size ≤ 140737488355328 := by
  obtain ⟨cs, rfl, _⟩ := okWide_struct Tryz.underlying36 hv
  obtain ⟨fuel, hf⟩ := h
  obtain ⟨ds, t, e, _, ⟨ua, uc, rfl, hU⟩, h1, h2⟩ := ty_of (m := fuel) (cs := cs.toList) (y := (d, p)) hf hk
  exact ⟨t, ua, uc, by rw [show cs = _ from Array.toList_inj.1 e], hU, h1, h2⟩
set_option maxRecDepth 100000 in
theorem open_tb (hv : Value.okWide Tryz.prog Z r b0' 39 v) (h : DataW.Trod enc Tryz.prog Z 0 (fun _ => true) true 39 v d p) (hk : Wk 39 d) : ∃ t a c, v = .agg (tbC t a c) ∧ Fis Z a t.fs.length c t.fs ∧ TbQ t := by
  obtain ⟨cs, rfl, _⟩ := okWide_struct Tryz.underlying39 hv
  obtain ⟨fuel, hf⟩ := h
  obtain ⟨ds, t, e, _, ⟨a, c, rfl, hF⟩, hQ⟩ := tb_of (m := fuel) (cs := cs.toList) (y := (d, p)) hf hk
  exact ⟨t, a, c, by rw [show cs = _ from Array.toList_inj.1 e], hF, hQ⟩
set_option maxRecDepth 100000 in
theorem open_fe (hv : Value.okWide Tryz.prog Z r b0' 54 v) (h : DataW.Trod enc Tryz.prog Z 0 (fun _ => true) true 54 v d p) (hk : Wk 54 d) : ∃ f ta tc ua uc aa ac, v = .agg (feC f ta tc ua uc aa ac) ∧ un.Sl Z ta f.ty.un.length tc f.ty.un ∧ Ec Z f.bo ua uc aa ac ∧ FeQ d f := by
  obtain ⟨cs, rfl, _⟩ := okWide_struct Tryz.underlying54 hv
  obtain ⟨fuel, hf⟩ := h
  obtain ⟨ds, f, e, _, ⟨ta, tc, ua, uc, aa, ac, rfl, hT, hE⟩, hQ⟩ := fe_of (m := fuel) (cs := cs.toList) (y := (d, p)) hf hk
  exact ⟨f, ta, tc, ua, uc, aa, ac, by rw [show cs = _ from Array.toList_inj.1 e], hT, hE, hQ⟩
set_option maxRecDepth 100000 in
theorem open_ct (hv : Value.okWide Tryz.prog Z r b0' 46 v) (h : DataW.Trod enc Tryz.prog Z 0 (fun _ => true) true 46 v d p) (hk : Wk 46 d) : ∃ cs ts gs, v = .agg cs ∧ CtV Z cs ts gs ∧ CtQ d ts gs := by
  obtain ⟨cs, rfl, _⟩ := okWide_struct Tryz.underlying46 hv
  obtain ⟨fuel, hf⟩ := h
  obtain ⟨ds, ts, gs, e, hC, hQ⟩ := ct_of (m := fuel) (cs := cs.toList) (y := (d, p)) hf hk
  obtain rfl : cs = ds := Array.toList_inj.1 e
  exact ⟨cs, ts, gs, rfl, hC, hQ⟩
set_option maxRecDepth 100000 in
theorem open_va (hv : Value.okWide Tryz.prog Z r b0' 23 v) (h : DataW.Trod enc Tryz.prog Z 0 (fun _ => true) true 23 v d p) (hk : Wk 23 d) : ∃ k n s, v = .agg #[.int .i64 k, .int .i64 n, .string s] ∧ s.size ≤ 140737488355328 := by
  obtain ⟨cs, rfl, _⟩ := okWide_struct Tryz.underlying23 hv
  obtain ⟨fuel, hf⟩ := h
  obtain ⟨y0, y1, y2, k, hx, hl, g0, g1, g2⟩ := Go.Deep.trod_struct3 Tryz.underlying23 hf
  rw [cVa] at hl
  obtain ⟨l⟩ := cs
  match l, hl with
  | [c0, c1, c2], _ =>
    simp only [Value.cells, cSt, cI, List.drop_zero, List.take_succ_cons, List.take_zero, List.drop_succ_cons] at g0 g1 g2
    obtain ⟨n0, e0, d0, _⟩ := DataW.trod_int Tryz.underlying3 g0
    obtain ⟨n1, e1, d1, _⟩ := DataW.trod_int Tryz.underlying3 g1
    obtain ⟨n2, e2, d2, _⟩ := DataW.trod_string Tryz.underlying9 g2
    simp only [List.cons.injEq, and_true] at e0 e1 e2
    obtain rfl : d = .agg [y0.1, y1.1, y2.1] := congrArg Prod.fst hx
    have k2 := wk_part Tryz.underlying23 hk (j := 2) (t := 9) rfl rfl
    rw [d2] at k2
    subst e0 e1 e2
    exact ⟨n0, n1, n2, rfl, wk_str k2⟩
set_option maxRecDepth 100000 in
theorem open_fs (hv : Value.okWide Tryz.prog Z r b0' 24 v) (h : DataW.Trod enc Tryz.prog Z 0 (fun _ => true) true 24 v d p) (hk : Wk 24 d) : ∃ a c l, v = .slice a l.length c ∧ un.Sl Z a l.length c l ∧ l.length ≤ K ∧ ∀ f ∈ l, f.1.size ≤ 140737488355328 := by
  obtain ⟨a, n, c, rfl⟩ := okWide_slice Tryz.underlying24 hv
  obtain ⟨fuel, hf⟩ := h
  exact un_of (m := fuel) (c := .slice a n c) (y := (d, p)) (by simpa [Value.cells] using hf) hk
set_option maxRecDepth 100000 in
theorem open_tbs (hv : Value.okWide Tryz.prog Z r b0' 43 v) (h : DataW.Trod enc Tryz.prog Z 0 (fun _ => true) true 43 v d p) (hk : Wk 43 d) : ∃ a c l, v = .slice a l.length c ∧ Tbs' Z a l.length c l ∧ l.length ≤ Rows.uptoBulk d ∧ ∀ t ∈ l, TbQ t := by
  obtain ⟨a, n, c, rfl⟩ := okWide_slice Tryz.underlying43 hv
  obtain ⟨fuel, hf⟩ := h
  exact tbs_of (m := fuel) (c := .slice a n c) (y := (d, p)) (by simpa [Value.cells] using hf) hk
set_option maxRecDepth 100000 in
theorem open_fes (hv : Value.okWide Tryz.prog Z r b0' 44 v) (h : DataW.Trod enc Tryz.prog Z 0 (fun _ => true) true 44 v d p) (hk : Wk 44 d) : ∃ a c l, v = .slice a l.length c ∧ Fes Z a l.length c l ∧ l.length ≤ Rows.uptoBulk d ∧ (∀ f ∈ l, f.szs ∧ f.ty.ln) ∧ l.length * Tryz.prog.bytesOf 54 ≤ 140737488351232 := by
  obtain ⟨a, n, c, rfl⟩ := okWide_slice Tryz.underlying44 hv
  obtain ⟨fuel, hf⟩ := h
  exact fes_of (m := fuel) (c := .slice a n c) (y := (d, p)) (by simpa [Value.cells] using hf) hk
theorem bulk_at {l : List (DataW H)} (hk : Rows.uptoSmall H l = true) {j : Nat} {d : DataW H} (h : l[j]? = some d) : Rows.uptoBulk d ≤ 1048576 := by
  have hb : Rows.uptoBulkAll l ≤ 1048576 := of_decide_eq_true hk
  have := bulk_part (List.mem_of_getElem? h)
  omega
theorem wk_of {ts : List TypeId} {ds : List (DataW H)} (h : (DataW.weightsEach Tryz.prog ts ds).all (· ≤ reachBytes) = true) {j : Nat} {t : TypeId} {d : DataW H} (ht : ts[j]? = some t) (hd : ds[j]? = some d) : Wk t d := fun n hn => by
  have := List.all_eq_true.1 h n (DataW.weights_mem_each ht hd n hn)
  have hb : reachBytes = 140737488351232 := rfl
  simpa [hb] using this
end
end Go.Proofs.YtbkpjhffmaldmaaGreatDoor.ch
namespace Go.Proofs.YtbkpjhffmaldmaaGreatDoor
open Go.ChangeShapes Go.WideShapes Go.ChangeAt Go.RowKit Go.Joins dec ch

theorem own : ownKnob Tryz.prog.godebug = none := by kernel_rfl
theorem laidOut : laidOutB Tryz.prog = true := by kernel_rfl

section
variable {H : Type} {enc' : TypeId × Value → H} {P : Program}
/-- The end of a call that made memory and changed none. -/
theorem post_below {f : Func} {s : ChangeSpec} {apart fresh handsOn : Bool} {W W' : World} {args : Array Value} {v : Value} {ds gs : List (DataW H)} {before pa pv : List MemPlace}
    (hW : DataW.Whole enc' P f.params.toList s.vars apart W args.toList ds gs before)
    (hres : ∀ (b : Nat) (sp : Nat → Bool) (hd : Bool), DataW.TrodAll enc' P W' b sp hd f.resultTypes.toList (v.resultList f.resultTypes.size) (s.fn H (ds ++ gs)).results [])
    (hargs : ∀ sp : Nat → Bool, (∀ p ∈ before, sp p.block = true) → DataW.TrodAll enc' P W' 0 sp true f.params.toList args.toList (s.fn H (ds ++ gs)).args pa)
    (hvars : ∀ sp : Nat → Bool, (∀ p ∈ before, sp p.block = true) → DataW.TrodVars enc' P W' sp s.vars (s.fn H (ds ++ gs)).vars pv)
    (hk : ∀ may, W.keptBut W' may) : s.post enc' P f apart fresh handsOn false W args v W' := by
  have hold : ∀ p ∈ before, (fun b => decide (b < W.heap.size)) p.block = true := fun p hp => by simpa using hW.lt p hp
  exact ⟨ds, gs, before, [], pa, pv, hW, hres _ _ _, hargs _ hold, hvars _ hold, hk _, fun h => by cases h⟩
end

/-- What the rows list. -/
def laid7 : List (String × DataW Unit) := [("math/bits.deBruijn32tab", Rows.laid_math_bits_deBruijn32tab), ("math/bits.deBruijn64tab", Rows.laid_math_bits_deBruijn64tab), ("internal/strconv.uint64pow10", Rows.laid_internal_strconv_uint64pow10), ("strconv.ErrRange", Rows.laid_strconv_ErrRange), ("strconv.ErrSyntax", Rows.laid_strconv_ErrSyntax), ("asof/decimal.powers", Rows.laid_asof_decimal_powers), ("asof/lexer.classes", Rows.laid_asof_lexer_classes)]
theorem gTen : Tryz.prog.globalNamed "internal/strconv.uint64pow10" = some 6 := by kernel_rfl
theorem tTen : (Tryz.prog.globals[6]?).map (·.type) = some 236 := by kernel_rfl
theorem tPow : (Tryz.prog.globals[1]?).map (·.type) = some 184 := by kernel_rfl
theorem tSyn : (Tryz.prog.globals[4]?).map (·.type) = some 150 := by kernel_rfl
theorem tRan : (Tryz.prog.globals[5]?).map (·.type) = some 150 := by kernel_rfl
theorem tCls : (Tryz.prog.globals[0]?).map (·.type) = some 176 := by kernel_rfl
theorem cCls : Tryz.prog.cellsOf 176 = 126 := by kernel_rfl
theorem cC1 : Tryz.prog.cellsOf 146 = 1 := by kernel_rfl
theorem dCls : (Rows.laid_asof_lexer_classes : DataW Unit) = Lib.tabData .u8 clsTab := by kernel_rfl
theorem cTen : Tryz.prog.cellsOf 236 = 20 := by kernel_rfl
theorem cPow : Tryz.prog.cellsOf 184 = 7 := by kernel_rfl
theorem cU : Tryz.prog.cellsOf 136 = 1 := by kernel_rfl
theorem cI3 : Tryz.prog.cellsOf 3 = 1 := by kernel_rfl
theorem cS9 : Tryz.prog.cellsOf 9 = 1 := by kernel_rfl
theorem cE : Tryz.prog.cellsOf 226 = 1 := by kernel_rfl
theorem dTen : (Rows.laid_internal_strconv_uint64pow10 : DataW Unit) = Lib.tabData .u64 Lib.pow10Tab := by kernel_rfl
theorem dPow : (Rows.laid_asof_decimal_powers : DataW Unit) = Lib.tabData .i64 powTab := by kernel_rfl
theorem uE : ∃ ms, Tryz.prog.underlying 150 = some (.interface ms) := ⟨_, Tryz.underlying150⟩
theorem star : "*" ++ "errors.errorString" = "*errors.errorString" := by decide
theorem rowE (u : TypeId) (h : Tryz.prog.typeName? 3 u = some "*errors.errorString") : u = 224 :=
  typeName_ptr_named (nm := "errors.errorString") (by rw [star]; kernel_rfl) (by kernel_rfl) (by decide) u (by rw [star]; exact h)
/-- What the condition gives the walks. -/
theorem tabs_of_laid {W : World} (h : laidMetH Tryz.prog laid7 W) : Tabs W := by
  rw [MakeChecks.laidMetH_plain _ _ _ (by kernel_rfl)] at h
  have h3 := h.tail.tail
  have h4 := h3.tail
  have h5 := h4.tail
  have h6 := h5.tail
  have h7 := h6.tail
  rw [dTen] at h3
  rw [dPow] at h6
  rw [dCls] at h7
  obtain ⟨a0, s0, hv0, -, -, -⟩ := laid_sentinel h4 gRan tRan Tryz.underlying150 rowE Tryz.underlying224 Tryz.underlying226 rfl rfl Tryz.underlying9 cE cS9
  obtain ⟨a1, s1, hv1, -, -, -⟩ := laid_sentinel h5 gSyn tSyn Tryz.underlying150 rowE Tryz.underlying224 Tryz.underlying226 rfl rfl Tryz.underlying9 cE cS9
  exact ⟨Lib.tabIs_of_head gPow tPow Tryz.underlying184 Tryz.underlying3 cI3 cPow h6, Lib.tabIs_of_head gTen tTen Tryz.underlying236 Tryz.underlying136 cU cTen h3, ⟨_, _, hv1⟩, ⟨_, _, hv0⟩, Lib.tabIs_of_head gCls tCls Tryz.underlying176 Tryz.underlying146 cC1 cCls h7⟩
set_option maxRecDepth 100000 in
/-- The heap that the door's own run leaves meets the condition. -/
theorem door_met (os : Os) (args : Array Value) : laidMetH Tryz.prog laid7 ((World.doorLaid Tryz.prog 72 os).forCall (fun _ _ => 0) ⟨#[], args, []⟩).memory :=
  laidMetH_of_parts3 (fuel := 8) (laidMet_of_run' 8 (by kernel_rfl) (by kernel_rfl)) (by kernel_rfl) (by kernel_rfl)

end Go.Proofs.YtbkpjhffmaldmaaGreatDoor
