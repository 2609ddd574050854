/-
  From a walk of a statement to its row and its card: what the listed variables hold; how lists of factors come in.
-/
import Derived.Test.YtcndlcogainnkaaGreatDoorRows
import Derived.Test.YtcndlcogainnkaaGreatDoorCards
import Derived.Test.YtcndlcogainnkaaGreatDoorTie
import Derived.Test.YtcndlcogainnkaaGreatDoorExa
import Derived.ProofKit
import Derived.LaidMore
import Derived.OpenShut
import Derived.Stop.Joined
import Derived.Stop.LaidErr
import Derived.SevenTiedAt
import Derived.Lib.SmallJoins
import Derived.Lib.LaidTab
import Derived.Deep.Slices
import Derived.SizedLaws
import Derived.ChangeMaps5
import Derived.Carry
import Derived.Lay
namespace Go.Proofs.YtcndlcogainnkaaGreatDoor
open Go.ChangeShapes Go.WideShapes Go.ChangeAt Go.RowKit Go.Joins dec

theorem own : ownKnob Tryz.prog.godebug = none := by kernel_rfl
theorem laidOut : laidOutB Tryz.prog = true := by kernel_rfl
theorem cellsF : Tryz.prog.cellsOf 37 = 2 := by kernel_rfl
theorem bytesF : Tryz.prog.bytesOf 37 = 24 := by kernel_rfl

section
variable {H : Type} {enc' : TypeId × Value → H} {P : Program}
/-- The end of a call that made memory and changed none. -/
theorem post_below {f : Func} {s : ChangeSpec} {apart fresh handsOn : Bool} {W W' : World} {args : Array Value} {v : Value} {ds gs : List (DataW H)} {before pa pv : List MemPlace}
    (hW : DataW.Whole enc' P f.params.toList s.vars apart W args.toList ds gs before)
    (hres : ∀ (b : Nat) (sp : Nat → Bool) (hd : Bool), DataW.TrodAll enc' P W' b sp hd f.resultTypes.toList (v.resultList f.resultTypes.size) (s.fn H (ds ++ gs)).results [])
    (hargs : ∀ sp : Nat → Bool, (∀ p ∈ before, sp p.block = true) → DataW.TrodAll enc' P W' 0 sp true f.params.toList args.toList (s.fn H (ds ++ gs)).args pa)
    (hvars : ∀ sp : Nat → Bool, (∀ p ∈ before, sp p.block = true) → DataW.TrodVars enc' P W' sp s.vars (s.fn H (ds ++ gs)).vars pv)
    (hk : ∀ may, W.keptBut W' may) : s.post enc' P f apart fresh handsOn false W args v W' := by
  have hold : ∀ p ∈ before, (fun b => decide (b < W.heap.size)) p.block = true := fun p hp => by simpa using hW.lt p hp
  exact ⟨ds, gs, before, [], pa, pv, hW, hres _ _ _, hargs _ hold, hvars _ hold, hk _, fun h => by cases h⟩
end

/-- What the rows list. -/
noncomputable def laid7 : List (String × DataW Unit) := [("math/bits.deBruijn32tab", Rows.laid_math_bits_deBruijn32tab), ("math/bits.deBruijn64tab", Rows.laid_math_bits_deBruijn64tab), ("internal/strconv.uint64pow10", Rows.laid_internal_strconv_uint64pow10), ("unicode/utf8.acceptRanges", Rows.laid_unicode_utf8_acceptRanges), ("strconv.ErrRange", Rows.laid_strconv_ErrRange), ("strconv.ErrSyntax", Rows.laid_strconv_ErrSyntax), ("unicode/utf8.first", Rows.laid_unicode_utf8_first)]
theorem gTen : Tryz.prog.globalNamed "internal/strconv.uint64pow10" = some 5 := by kernel_rfl
theorem tTen : (Tryz.prog.globals[5]?).map (·.type) = some 150 := by kernel_rfl
theorem tSyn : (Tryz.prog.globals[3]?).map (·.type) = some 77 := by kernel_rfl
theorem tRan : (Tryz.prog.globals[4]?).map (·.type) = some 77 := by kernel_rfl
theorem cTen : Tryz.prog.cellsOf 150 = 20 := by kernel_rfl
theorem cU : Tryz.prog.cellsOf 43 = 1 := by kernel_rfl
theorem cI3 : Tryz.prog.cellsOf 3 = 1 := by kernel_rfl
theorem cS9 : Tryz.prog.cellsOf 9 = 1 := by kernel_rfl
theorem cErr : Tryz.prog.cellsOf 148 = 1 := by kernel_rfl
theorem dTen : (Rows.laid_internal_strconv_uint64pow10 : DataW Unit) = Lib.tabData .u64 Lib.pow10Tab := by kernel_rfl
theorem uE : ∃ ms, Tryz.prog.underlying 77 = some (.interface ms) := ⟨_, Tryz.underlying77⟩
theorem star : "*" ++ "errors.errorString" = "*errors.errorString" := by decide
theorem rowE (u : TypeId) (h : Tryz.prog.typeName? 3 u = some "*errors.errorString") : u = 146 :=
  typeName_ptr_named (nm := "errors.errorString") (by rw [star]; kernel_rfl) (by kernel_rfl) (by decide) u (by rw [star]; exact h)
/-- What the condition gives the walks. -/
theorem tabs_of_laid {W : World} (h : laidMetH Tryz.prog laid7 W) : Tabs W := by
  rw [MakeChecks.laidMetH_plain _ _ _ (by kernel_rfl)] at h
  have h3 := h.tail.tail
  have h5 := h3.tail.tail
  have h6 := h5.tail
  rw [dTen] at h3
  obtain ⟨a0, s0, hv0, -, -, -⟩ := laid_sentinel h5 gRan tRan Tryz.underlying77 rowE Tryz.underlying146 Tryz.underlying148 rfl rfl Tryz.underlying9 cErr cS9
  obtain ⟨a1, s1, hv1, -, -, -⟩ := laid_sentinel h6 gSyn tSyn Tryz.underlying77 rowE Tryz.underlying146 Tryz.underlying148 rfl rfl Tryz.underlying9 cErr cS9
  exact ⟨Lib.tabIs_of_head gTen tTen Tryz.underlying150 Tryz.underlying43 cU cTen h3, ⟨_, _, hv1⟩, ⟨_, _, hv0⟩⟩
set_option maxRecDepth 100000 in
/-- The tables laid by hand meet the condition. -/
theorem laid_met (os : Os) (args : Array Value) : laidMetH Tryz.prog laid7 ((World.laidAll Tryz.prog os laid7).forCall (fun _ _ => 0) ⟨#[], args, []⟩).memory := by
  rw [MakeChecks.laidMetH_plain _ _ _ (by kernel_rfl)]
  exact laidMet_laidAll _ (by kernel_rfl) (by kernel_rfl)
set_option maxRecDepth 100000 in
theorem laid_shaped (os : Os) : (World.laidAll Tryz.prog os laid7).Shaped Tryz.prog := World.shaped_of_ZipB (by kernel_rfl) (by kernel_rfl)

theorem add_plain (b o i : Nat) : (⟨b, o, none⟩ : Addr).add i = ⟨b, o + i, none⟩ := by
  unfold Addr.add
  by_cases h : i = 0 <;> simp [h]
set_option maxRecDepth 100000 in
/-- One factor out of its two cells. -/
theorem fa_at {H : Type} {enc : TypeId × Value → H} {w : World} {base : Nat} {spare : Nat → Bool} {held : Bool} {m : Nat} {ad : Addr} {cs : List Value} {x : DataW H × List MemPlace}
    (h1 : w.cells? base ad (Tryz.prog.cellsOf 37) = some cs) (h2 : DataW.trod enc Tryz.prog w base spare held m 37 cs = some x) :
    ∃ q : Fa, (w.cell? (ad.add 0) = some (.string q.1) ∧ w.cell? (ad.add 1) = some (.int .i64 q.2)) ∧ (-9223372036854775808 ≤ q.2 ∧ q.2 ≤ 9223372036854775807) ∧ ∃ y1, x.1 = .agg [.lit (.string q.1.data.toList), y1] := by
  rw [cellsF] at h1
  obtain ⟨_, hlen, hcell⟩ := World.cells?_some h1
  obtain ⟨y0, y1, k, hx, _, g0, g1⟩ := trod_struct2 Tryz.underlying37 h2
  match cs, hlen with
  | [v0, v1], _ =>
    simp only [cS9, cI3, List.drop_zero, List.take_succ_cons, List.take_zero, List.drop_succ_cons] at g0 g1
    obtain ⟨n0, e0, d0, _⟩ := DataW.trod_string Tryz.underlying9 g0
    obtain ⟨n1, e1, d1, u1⟩ := DataW.trod_int Tryz.underlying3 g1
    simp only [List.cons.injEq, and_true] at e0 e1
    subst e0 e1
    exact ⟨(n0, n1), ⟨by simpa using hcell 0 (by omega), by simpa using hcell 1 (by omega)⟩, bounds_i64 u1, y1.1, by rw [hx, d0]⟩
theorem sl_of {H : Type} {enc : TypeId × Value → H} {w : World} {fuel : Nat} {a : Option Addr} {n cap : Nat} {d : DataW H} {ps : List MemPlace}
    (h : DataW.trod enc Tryz.prog w 0 (fun _ => true) true fuel 22 [.slice a n cap] = some (d, ps))
    (hz : ∀ elems spare, d = .slice elems spare → (elems.length + spare.length) * Tryz.prog.bytesOf 37 ≤ reachBytes) :
    ∃ l, Sl w a n cap l ∧ (∀ x ∈ l, -9223372036854775808 ≤ x.2 ∧ x.2 ≤ 9223372036854775807) ∧ l.length < 5864062014805 := by
  have hb : reachBytes = 140737488351232 := rfl
  rcases Go.Deep.open_slice Tryz.underlying22 h with ⟨hcs, _⟩ | ⟨x, l, c, m, k, D, Pl, hcs, _, hl, hm, hmm, hx, hel⟩
  · simp at hcs
    obtain ⟨rfl, rfl, rfl⟩ := hcs
    exact ⟨[], .nil _, fun x h => (by cases h), by decide⟩
  · simp at hcs
    obtain ⟨rfl, rfl, rfl⟩ := hcs
    simp at hmm
    subst hmm
    have hmx := hm
    unfold maxLen at hmx
    have hz' := hz _ _ (Prod.mk.inj hx).1
    simp only [List.length_map, List.length_range, bytesF] at hz'
    rw [hb] at hz'
    obtain ⟨q, hq⟩ := Go.Deep.choose_lt (fun i hi => by
      obtain ⟨cs', h1, h2⟩ := hel i hi
      obtain ⟨q, e1, e2, _⟩ := fa_at h1 h2
      exact (⟨q, e1, e2⟩ : ∃ q : Fa, (w.cell? ((x.add (i * Tryz.prog.cellsOf 37)).add 0) = some (.string q.1) ∧ w.cell? ((x.add (i * Tryz.prog.cellsOf 37)).add 1) = some (.int .i64 q.2)) ∧ (-9223372036854775808 ≤ q.2 ∧ q.2 ≤ 9223372036854775807)))
    refine ⟨(List.range n).map q, ⟨?_, by simp, hl, by omega, fun h => by cases h⟩, fun y hy => ?_, by simp; omega⟩
    · by_cases h0 : n = 0
      · exact .inl (by simp [h0])
      obtain ⟨b, off, spot⟩ := x
      have hc := (hq 0 (by omega)).1.1
      have hspot : spot = none := by simpa [Addr.add] using World.cell?_spot hc
      subst hspot
      refine .inr ⟨b, off, rfl, fun j hj => ?_⟩
      have hj' : j < n := by simpa using hj
      have e : gt ((List.range n).map q) j = q j := by
        rw [gt_eq hj]
        simp
      obtain ⟨⟨k0, k1⟩, _⟩ := hq j (by omega)
      rw [cellsF, Go.Deep.add_add] at k0 k1
      rw [e]
      refine ⟨by simpa [add_plain] using k0, by simpa [add_plain, Nat.add_assoc] using k1⟩
    · simp only [List.mem_map, List.mem_range] at hy
      obtain ⟨i, hi, rfl⟩ := hy
      exact (hq i (by omega)).2
theorem string_size (s : ByteArray) {H : Type} {ts : List TypeId} {ds : List (DataW H)} (h : (DataW.weightsEach Tryz.prog ts ds).all (· ≤ reachBytes) = true) {j : Nat} {t : TypeId} (ht : ts[j]? = some t) (hd : ds[j]? = some (.lit (.string s.data.toList))) : s.size ≤ 140737488355328 := by
  have := sized_string h ht hd
  have e : s.data.toList.length = s.size := by rw [Array.length_toList]; rfl
  have hb : reachBytes = 140737488351232 := rfl
  omega
end Go.Proofs.YtcndlcogainnkaaGreatDoor
