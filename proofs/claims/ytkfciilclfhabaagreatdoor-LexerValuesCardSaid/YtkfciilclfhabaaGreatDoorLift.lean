/-
  From a walk of a statement to its row and its card: what the listed variables hold; how values come in.
-/
import Derived.Test.YtkfciilclfhabaaGreatDoorRows
import Derived.Test.YtkfciilclfhabaaGreatDoorCards
import Derived.Test.YtkfciilclfhabaaGreatDoorTie
import Derived.Test.YtkfciilclfhabaaGreatDoorCvf
import Derived.ProofKit
import Derived.LaidMore
import Derived.OpenShut
import Derived.Stop.Joined
import Derived.Stop.LaidErr
import Derived.SevenTiedAt
import Derived.Lib.SmallJoins
import Derived.Lib.LaidTab
import Derived.Deep.Slices
import Derived.SizedLaws
import Derived.ChangeMaps5
import Derived.Carry
namespace Go.Proofs.YtkfciilclfhabaaGreatDoor
open Go.ChangeShapes Go.WideShapes Go.ChangeAt Go.RowKit Go.Joins dec

theorem own : ownKnob Tryz.prog.godebug = none := by kernel_rfl
theorem laidOut : laidOutB Tryz.prog = true := by kernel_rfl
theorem cells5 : Tryz.prog.cellsOf 5 = 1 := by kernel_rfl
theorem bytes5 : Tryz.prog.bytesOf 5 = 1 := by kernel_rfl

section
variable {H : Type} {enc' : TypeId × Value → H} {P : Program}
/-- The end of a call that made memory and changed none. -/
theorem post_below {f : Func} {s : ChangeSpec} {apart fresh handsOn : Bool} {W W' : World} {args : Array Value} {v : Value} {ds gs : List (DataW H)} {before pa pv : List MemPlace}
    (hW : DataW.Whole enc' P f.params.toList s.vars apart W args.toList ds gs before)
    (hres : ∀ (b : Nat) (sp : Nat → Bool) (hd : Bool), DataW.TrodAll enc' P W' b sp hd f.resultTypes.toList (v.resultList f.resultTypes.size) (s.fn H (ds ++ gs)).results [])
    (hargs : ∀ sp : Nat → Bool, (∀ p ∈ before, sp p.block = true) → DataW.TrodAll enc' P W' 0 sp true f.params.toList args.toList (s.fn H (ds ++ gs)).args pa)
    (hvars : ∀ sp : Nat → Bool, (∀ p ∈ before, sp p.block = true) → DataW.TrodVars enc' P W' sp s.vars (s.fn H (ds ++ gs)).vars pv)
    (hk : ∀ may, W.keptBut W' may) : s.post enc' P f apart fresh handsOn false W args v W' := by
  have hold : ∀ p ∈ before, (fun b => decide (b < W.heap.size)) p.block = true := fun p hp => by simpa using hW.lt p hp
  exact ⟨ds, gs, before, [], pa, pv, hW, hres _ _ _, hargs _ hold, hvars _ hold, hk _, fun h => by cases h⟩
end

/-- What the rows list. -/
def laid7 : List (String × DataW Unit) := [("math/bits.deBruijn32tab", Rows.laid_math_bits_deBruijn32tab), ("math/bits.deBruijn64tab", Rows.laid_math_bits_deBruijn64tab), ("internal/strconv.uint64pow10", Rows.laid_internal_strconv_uint64pow10), ("strconv.ErrRange", Rows.laid_strconv_ErrRange), ("strconv.ErrSyntax", Rows.laid_strconv_ErrSyntax), ("asof/decimal.powers", Rows.laid_asof_decimal_powers), ("asof/lexer.classes", Rows.laid_asof_lexer_classes)]
theorem gTen : Tryz.prog.globalNamed "internal/strconv.uint64pow10" = some 7 := by kernel_rfl
theorem tTen : (Tryz.prog.globals[7]?).map (·.type) = some 149 := by kernel_rfl
theorem tPow : (Tryz.prog.globals[0]?).map (·.type) = some 80 := by kernel_rfl
theorem tSyn : (Tryz.prog.globals[4]?).map (·.type) = some 88 := by kernel_rfl
theorem tRan : (Tryz.prog.globals[5]?).map (·.type) = some 88 := by kernel_rfl
theorem tCls : (Tryz.prog.globals[1]?).map (·.type) = some 103 := by kernel_rfl
theorem cCls : Tryz.prog.cellsOf 103 = 126 := by kernel_rfl
theorem cC1 : Tryz.prog.cellsOf 84 = 1 := by kernel_rfl
theorem dCls : (Rows.laid_asof_lexer_classes : DataW Unit) = Lib.tabData .u8 clsTab := by kernel_rfl
theorem cTen : Tryz.prog.cellsOf 149 = 20 := by kernel_rfl
theorem cPow : Tryz.prog.cellsOf 80 = 7 := by kernel_rfl
theorem cU : Tryz.prog.cellsOf 76 = 1 := by kernel_rfl
theorem cI3 : Tryz.prog.cellsOf 3 = 1 := by kernel_rfl
theorem cS9 : Tryz.prog.cellsOf 9 = 1 := by kernel_rfl
theorem cE : Tryz.prog.cellsOf 147 = 1 := by kernel_rfl
theorem dTen : (Rows.laid_internal_strconv_uint64pow10 : DataW Unit) = Lib.tabData .u64 Lib.pow10Tab := by kernel_rfl
theorem dPow : (Rows.laid_asof_decimal_powers : DataW Unit) = Lib.tabData .i64 powTab := by kernel_rfl
theorem uE : ∃ ms, Tryz.prog.underlying 88 = some (.interface ms) := ⟨_, Tryz.underlying88⟩
theorem star : "*" ++ "errors.errorString" = "*errors.errorString" := by decide
theorem rowE (u : TypeId) (h : Tryz.prog.typeName? 3 u = some "*errors.errorString") : u = 145 :=
  typeName_ptr_named (nm := "errors.errorString") (by rw [star]; kernel_rfl) (by kernel_rfl) (by decide) u (by rw [star]; exact h)
/-- What the condition gives the walks. -/
theorem tabs_of_laid {W : World} (h : laidMetH Tryz.prog laid7 W) : Tabs W := by
  rw [MakeChecks.laidMetH_plain _ _ _ (by kernel_rfl)] at h
  have h3 := h.tail.tail
  have h4 := h3.tail
  have h5 := h4.tail
  have h6 := h5.tail
  have h7 := h6.tail
  rw [dTen] at h3
  rw [dPow] at h6
  rw [dCls] at h7
  obtain ⟨a0, s0, hv0, -, -, -⟩ := laid_sentinel h4 gRan tRan Tryz.underlying88 rowE Tryz.underlying145 Tryz.underlying147 rfl rfl Tryz.underlying9 cE cS9
  obtain ⟨a1, s1, hv1, -, -, -⟩ := laid_sentinel h5 gSyn tSyn Tryz.underlying88 rowE Tryz.underlying145 Tryz.underlying147 rfl rfl Tryz.underlying9 cE cS9
  exact ⟨Lib.tabIs_of_head gPow tPow Tryz.underlying80 Tryz.underlying3 cI3 cPow h6, Lib.tabIs_of_head gTen tTen Tryz.underlying149 Tryz.underlying76 cU cTen h3, ⟨_, _, hv1⟩, ⟨_, _, hv0⟩, Lib.tabIs_of_head gCls tCls Tryz.underlying103 Tryz.underlying84 cC1 cCls h7⟩
set_option maxRecDepth 100000 in
/-- The heap that the door's own run leaves meets the condition. -/
theorem door_met (os : Os) (args : Array Value) : laidMetH Tryz.prog laid7 ((World.doorLaid Tryz.prog 72 os).forCall (fun _ _ => 0) ⟨#[], args, []⟩).memory :=
  laidMetH_of_parts3 (fuel := 8) (laidMet_of_run' 8 (by kernel_rfl) (by kernel_rfl)) (by kernel_rfl) (by kernel_rfl)

theorem bounds_u8 {n : Int} (h : (Lit.int .u8 n).wf = true) : 0 ≤ n ∧ n ≤ 255 := by
  have hmin : IntKind.u8.min = 0 := rfl
  have hmax : IntKind.u8.max = 255 := rfl
  simp only [Lit.wf, Bool.and_eq_true, decide_eq_true_eq] at h
  omega
/-- A slice of bytes that came in. -/
theorem bs_of {H : Type} {enc' : TypeId × Value → H} {w : World} {fuel : Nat} {a : Option Addr} {n cap : Nat} {d : DataW H} {ps : List MemPlace}
    (h : DataW.trod enc' Tryz.prog w 0 (fun _ => true) true fuel 22 [.slice a n cap] = some (d, ps))
    (hz : ∀ elems spare, d = .slice elems spare → (elems.length + spare.length) * Tryz.prog.bytesOf 5 ≤ reachBytes) : ∃ s, Bs w a n cap s := by
  have hb : reachBytes = 140737488351232 := rfl
  rcases Go.Deep.open_slice1 Tryz.underlying22 cells5 h with ⟨hcs, hd⟩ | ⟨x, l, c, m, k, V, D, Pl, hcs, _, hl, hm, hmm, hx, hel⟩
  · simp at hcs
    obtain ⟨rfl, rfl, rfl⟩ := hcs
    exact ⟨.empty, ⟨.inl rfl, rfl, by omega, by omega, fun _ => rfl⟩⟩
  · simp at hcs
    obtain ⟨rfl, rfl, rfl⟩ := hcs
    simp at hmm
    subst hmm
    have hz' := hz _ _ (Prod.mk.inj hx).1
    simp only [List.length_map, List.length_range, bytes5] at hz'
    rw [hb] at hz'
    obtain ⟨q, hq⟩ : ∃ q : Nat → Nat, ∀ i, i < n → w.cell? (x.add i) = some (.int .u8 (q i : Nat)) ∧ q i < 256 := Go.Deep.choose_lt (p := fun i (v : Nat) => w.cell? (x.add i) = some (.int .u8 (v : Int)) ∧ v < 256) (fun i hi => by
      obtain ⟨h1, h2⟩ := hel i (by omega)
      obtain ⟨v, e, _, u⟩ := DataW.trod_int Tryz.underlying5 h2
      simp only [List.cons.injEq, and_true] at e
      have hu := bounds_u8 u
      refine ⟨v.toNat, ?_, by omega⟩
      rw [h1, e, show ((v.toNat : Nat) : Int) = v by omega])
    have hsz : (⟨((List.range n).map fun i => UInt8.ofNat (q i)).toArray⟩ : ByteArray).size = n := by
      rw [← str_len]
      simp
    refine ⟨⟨((List.range n).map fun i => UInt8.ofNat (q i)).toArray⟩, ?_, hsz, by omega, by omega, fun h => by cases h⟩
    by_cases h0 : n = 0
    · exact .inl (by rw [hsz]; exact h0)
    obtain ⟨b, off, spot⟩ := x
    have hspot : spot = none := by simpa [Addr.add] using World.cell?_spot (hq 0 (by omega)).1
    subst hspot
    refine .inr ⟨b, off, rfl, fun j hj => ?_⟩
    have hjn : j < n := by rw [hsz] at hj; exact hj
    have := (hq j hjn).1
    have hv : ((⟨((List.range n).map fun i => UInt8.ofNat (q i)).toArray⟩ : ByteArray)[j]).toNat = q j := by
      have e := ba_get _ j hj
      rw [show (⟨((List.range n).map fun i => UInt8.ofNat (q i)).toArray⟩ : ByteArray).data.toList = (List.range n).map fun i => UInt8.ofNat (q i) from rfl, List.getElem?_map, List.getElem?_range hjn] at e
      have e2 := Option.some.inj e
      rw [← e2]
      have := (hq j hjn).2
      show (UInt8.ofNat (q j)).toNat = q j
      rw [UInt8.toNat_ofNat']
      omega
    rw [hv]
    unfold Addr.add at this
    by_cases h1 : j = 0
    · subst h1; simpa using this
    · simpa [h1] using this

theorem string_size (s : ByteArray) {H : Type} {ts : List TypeId} {ds : List (DataW H)} (h : (DataW.weightsEach Tryz.prog ts ds).all (· ≤ reachBytes) = true) {j : Nat} {t : TypeId} (ht : ts[j]? = some t) (hd : ds[j]? = some (.lit (.string s.data.toList))) : s.size ≤ 140737488351232 := by
  have := sized_string h ht hd
  have e : s.data.toList.length = s.size := by rw [Array.length_toList]; rfl
  have hb : reachBytes = 140737488351232 := rfl
  omega

end Go.Proofs.YtkfciilclfhabaaGreatDoor
