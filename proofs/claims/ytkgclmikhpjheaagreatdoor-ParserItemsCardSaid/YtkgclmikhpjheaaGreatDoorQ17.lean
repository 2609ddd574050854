/-
  From a walk to its row.
-/
import Derived.LaidLaws
import Derived.ProofKit
import Derived.LaidMore
import Derived.OpenShut
import Derived.Stop.Joined
import Derived.Stop.LaidErr
import Derived.SevenTiedAt
import Derived.Lib.SmallJoins
import Derived.Lib.LaidTab
import Derived.Deep.Slices
import Derived.SizedLaws
import Derived.ChangeMaps5
import Derived.Carry
import Derived.Test.YtkgclmikhpjheaaGreatDoorCards
import Derived.Test.YtkgclmikhpjheaaGreatDoorQ02
import Derived.Test.YtkgclmikhpjheaaGreatDoorQ03
import Derived.Test.YtkgclmikhpjheaaGreatDoorRows
import Derived.Test.YtkgclmikhpjheaaGreatDoorTie
namespace Go.Proofs.YtkgclmikhpjheaaGreatDoor
open Go.ChangeShapes Go.WideShapes Go.ChangeAt Go.RowKit Go.Joins dec

theorem own : ownKnob Tryz.prog.godebug = none := by kernel_rfl
theorem laidOut : laidOutB Tryz.prog = true := by kernel_rfl
theorem cells5 : Tryz.prog.cellsOf 5 = 1 := by kernel_rfl
theorem bytes5 : Tryz.prog.bytesOf 5 = 1 := by kernel_rfl

section
variable {H : Type} {enc' : TypeId × Value → H} {P : Program}
/-- The end of a call that made memory and changed none. -/
theorem post_below {f : Func} {s : ChangeSpec} {apart fresh handsOn : Bool} {W W' : World} {args : Array Value} {v : Value} {ds gs : List (DataW H)} {before pa pv : List MemPlace}
    (hW : DataW.Whole enc' P f.params.toList s.vars apart W args.toList ds gs before)
    (hres : ∀ (b : Nat) (sp : Nat → Bool) (hd : Bool), DataW.TrodAll enc' P W' b sp hd f.resultTypes.toList (v.resultList f.resultTypes.size) (s.fn H (ds ++ gs)).results [])
    (hargs : ∀ sp : Nat → Bool, (∀ p ∈ before, sp p.block = true) → DataW.TrodAll enc' P W' 0 sp true f.params.toList args.toList (s.fn H (ds ++ gs)).args pa)
    (hvars : ∀ sp : Nat → Bool, (∀ p ∈ before, sp p.block = true) → DataW.TrodVars enc' P W' sp s.vars (s.fn H (ds ++ gs)).vars pv)
    (hk : ∀ may, W.keptBut W' may) : s.post enc' P f apart fresh handsOn false W args v W' := by
  have hold : ∀ p ∈ before, (fun b => decide (b < W.heap.size)) p.block = true := fun p hp => by simpa using hW.lt p hp
  exact ⟨ds, gs, before, [], pa, pv, hW, hres _ _ _, hargs _ hold, hvars _ hold, hk _, fun h => by cases h⟩
end

/-- What the rows list. -/
def laid7 : List (String × DataW Unit) := [("math/bits.deBruijn32tab", Rows.laid_math_bits_deBruijn32tab), ("math/bits.deBruijn64tab", Rows.laid_math_bits_deBruijn64tab), ("internal/strconv.uint64pow10", Rows.laid_internal_strconv_uint64pow10), ("strconv.ErrRange", Rows.laid_strconv_ErrRange), ("strconv.ErrSyntax", Rows.laid_strconv_ErrSyntax), ("asof/decimal.powers", Rows.laid_asof_decimal_powers), ("asof/lexer.classes", Rows.laid_asof_lexer_classes), ("asof/parser.operators", Rows.laid_asof_parser_operators)]
theorem gTen : Tryz.prog.globalNamed "internal/strconv.uint64pow10" = some 8 := by kernel_rfl
theorem tTen : (Tryz.prog.globals[8]?).map (·.type) = some 272 := by kernel_rfl
theorem tPow : (Tryz.prog.globals[1]?).map (·.type) = some 207 := by kernel_rfl
theorem tSyn : (Tryz.prog.globals[5]?).map (·.type) = some 160 := by kernel_rfl
theorem tRan : (Tryz.prog.globals[6]?).map (·.type) = some 160 := by kernel_rfl
theorem tCls : (Tryz.prog.globals[0]?).map (·.type) = some 199 := by kernel_rfl
theorem cCls : Tryz.prog.cellsOf 199 = 126 := by kernel_rfl
theorem cC1 : Tryz.prog.cellsOf 156 = 1 := by kernel_rfl
theorem dCls : (Rows.laid_asof_lexer_classes : DataW Unit) = Lib.tabData .u8 clsTab := by kernel_rfl
theorem cTen : Tryz.prog.cellsOf 272 = 20 := by kernel_rfl
theorem cPow : Tryz.prog.cellsOf 207 = 7 := by kernel_rfl
theorem cU : Tryz.prog.cellsOf 126 = 1 := by kernel_rfl
theorem cI3 : Tryz.prog.cellsOf 3 = 1 := by kernel_rfl
theorem cS9 : Tryz.prog.cellsOf 9 = 1 := by kernel_rfl
theorem cE : Tryz.prog.cellsOf 269 = 1 := by kernel_rfl
theorem dTen : (Rows.laid_internal_strconv_uint64pow10 : DataW Unit) = Lib.tabData .u64 Lib.pow10Tab := by kernel_rfl
theorem dPow : (Rows.laid_asof_decimal_powers : DataW Unit) = Lib.tabData .i64 powTab := by kernel_rfl
theorem uE : ∃ ms, Tryz.prog.underlying 160 = some (.interface ms) := ⟨_, Tryz.underlying160⟩
theorem star : "*" ++ "errors.errorString" = "*errors.errorString" := by decide
theorem rowE (u : TypeId) (h : Tryz.prog.typeName? 3 u = some "*errors.errorString") : u = 267 :=
  typeName_ptr_named (nm := "errors.errorString") (by rw [star]; kernel_rfl) (by kernel_rfl) (by decide) u (by rw [star]; exact h)
theorem gOps : Tryz.prog.globalNamed "asof/parser.operators" = some 4 := by kernel_rfl
theorem tOps : (Tryz.prog.globals[4]?).map (·.type) = some 219 := by kernel_rfl
theorem cOps : Tryz.prog.cellsOf 219 = 6 := by kernel_rfl
theorem cSs : Tryz.prog.cellsOf 61 = 1 := by kernel_rfl
theorem dOps : (Rows.laid_asof_parser_operators : DataW Unit) = .agg ((List.range 6).map fun n => .slice ((opL n).map fun s => .lit (.string s.data.toList)) []) := by kernel_rfl
theorem opL_len (n : Nat) : (opL n).length ≤ 4 := by
  match n with
  | 0 => decide
  | 1 => decide
  | 2 => decide
  | 3 => decide
  | 4 => decide
  | n + 5 => show ([_, _] : List ByteArray).length ≤ 4; simp
/-- The table of the operators. -/
theorem ops_of_head {W : World} {rest : List (String × DataW Unit)} (h : laidMet Tryz.prog (("asof/parser.operators", .agg ((List.range 6).map fun n => .slice ((opL n).map fun s => .lit (.string s.data.toList)) [])) :: rest) W) : Opt W := by
  obtain ⟨ps, ⟨g', t', cs, fuel, p, q, hg', ht', hvar, hd, _, _⟩, _⟩ := h
  obtain rfl := Option.some.inj (gOps.symm.trans hg')
  obtain rfl := Option.some.inj (tOps.symm.trans ht')
  cases fuel with
  | zero => simp [DataW.trod] at hd
  | succ fuel =>
    simp only [DataW.trod, Tryz.underlying219, cSs, cOps, Nat.mul_one] at hd
    split at hd
    · rename_i hl
      obtain ⟨xs, hm, hx⟩ := Option.map_eq_some_iff.1 hd
      have hxs : xs.map (·.1) = (List.range 6).map fun n => (DataW.slice ((opL n).map fun s => .lit (.string s.data.toList)) [] : DataW Unit) := by
        have := congrArg Prod.fst hx
        simpa using this
      intro n hn
      obtain ⟨y, hy, hf⟩ := Lib.mapM_at hm n n (by simp [hn])
      have h2 : (xs.map (·.1))[n]? = some y.1 := by simp [hy]
      rw [hxs, List.getElem?_map, List.getElem?_range hn] at h2
      have h3 : y.1 = DataW.slice ((opL n).map fun s => .lit (.string s.data.toList)) [] := (Option.some.inj h2).symm
      have hlt : n < cs.toList.length := by
        have : cs.toList.length = 6 := by simpa using hl
        omega
      have hcs : (cs.toList.drop n).take 1 = [cs.toList[n]] := by
        rw [List.drop_eq_getElem_cons hlt, List.take_succ_cons, List.take_zero]
      rw [hcs] at hf
      rcases Go.Deep.open_slice1 Tryz.underlying61 cS9 hf with ⟨_, h4⟩ | ⟨a, len, cap, m, k, V, D, Pl, h4, _, _, _, h5, h6, h7⟩
      · rw [h4] at h3
        cases h3
      · have h8 : cs.toList[n] = .slice (some a) len cap := by simpa using h4
        rw [h6] at h3
        injection h3 with h9 h10
        have hlen : len = (opL n).length := by
          have := congrArg List.length h9
          simpa using this
        have hc : W.cell? ⟨4, n, none⟩ = some (.slice (some a) len cap) := by
          have := World.var?_cell gOps hvar n
          rw [this, ← h8, ← Array.getElem?_toList, List.getElem?_eq_getElem hlt]
        obtain ⟨b, off, spot⟩ := a
        have hel : ∀ j (hj : j < (opL n).length), W.cell? ((⟨b, off, spot⟩ : Addr).add j) = some (.string (opL n)[j]) := fun j hj => by
          have hjm : j < m := by rw [h5]; split <;> omega
          obtain ⟨g1, g2⟩ := h7 j hjm
          obtain ⟨s, g3, g4, _⟩ := DataW.trod_string Tryz.underlying9 g2
          have g5 : V j = .string s := by simpa using g3
          have g6 : ((opL n).map fun s => (DataW.lit (.string s.data.toList) : DataW Unit))[j]? = some (D j) := by
            rw [← h9, List.getElem?_map, List.getElem?_range (by omega)]
            rfl
          rw [List.getElem?_map, List.getElem?_eq_getElem hj] at g6
          have g7 : D j = .lit (.string s.data.toList) := congrArg Prod.fst g4
          rw [g7] at g6
          have g8 : (opL n)[j].data.toList = s.data.toList := by
            have := Option.some.inj g6
            injection this with this
            injection this
          have g9 : s = (opL n)[j] := by
            rw [← ba_list s, ← ba_list (opL n)[j], g8]
          rw [g1, g5, g9]
        have hsp : spot = none := by
          have h0 : 0 < (opL n).length := by
            match n with
            | 0 => decide
            | 1 => decide
            | 2 => decide
            | 3 => decide
            | 4 => decide
            | n + 5 => show 0 < ([_, _] : List ByteArray).length; simp
          simpa [Addr.add] using World.cell?_spot (hel 0 h0)
        subst hsp
        refine ⟨b, off, cap, by rw [hc, hlen], fun j hj => ?_⟩
        have := hel j hj
        unfold Addr.add at this
        by_cases h1 : j = 0
        · subst h1; simpa using this
        · simpa [h1] using this
    · cases hd
/-- What the condition gives the walks. -/
theorem tabs_of_laid {W : World} (h : laidMetH Tryz.prog laid7 W) : Tabs W := by
  rw [MakeChecks.laidMetH_plain _ _ _ (by kernel_rfl)] at h
  have h3 := h.tail.tail
  have h4 := h3.tail
  have h5 := h4.tail
  have h6 := h5.tail
  have h7 := h6.tail
  have h8 := h7.tail
  rw [dTen] at h3
  rw [dPow] at h6
  rw [dCls] at h7
  rw [dOps] at h8
  obtain ⟨a0, s0, hv0, -, -, -⟩ := laid_sentinel h4 gRan tRan Tryz.underlying160 rowE Tryz.underlying267 Tryz.underlying269 rfl rfl Tryz.underlying9 cE cS9
  obtain ⟨a1, s1, hv1, -, -, -⟩ := laid_sentinel h5 gSyn tSyn Tryz.underlying160 rowE Tryz.underlying267 Tryz.underlying269 rfl rfl Tryz.underlying9 cE cS9
  exact ⟨Lib.tabIs_of_head gPow tPow Tryz.underlying207 Tryz.underlying3 cI3 cPow h6, Lib.tabIs_of_head gTen tTen Tryz.underlying272 Tryz.underlying126 cU cTen h3, ⟨_, _, hv1⟩, ⟨_, _, hv0⟩, Lib.tabIs_of_head gCls tCls Tryz.underlying199 Tryz.underlying156 cC1 cCls h7, ops_of_head h8⟩
set_option maxRecDepth 100000 in
/-- The heap that the door's own run leaves meets the condition. -/
theorem door_met (os : Os) (args : Array Value) : laidMetH Tryz.prog laid7 ((World.doorLaid Tryz.prog 93 os).forCall (fun _ _ => 0) ⟨#[], args, []⟩).memory :=
  laidMetH_of_parts3 (fuel := 8) (laidMet_of_run' 8 (by kernel_rfl) (by kernel_rfl)) (by kernel_rfl) (by kernel_rfl)

theorem bz_at (x : ByteArray) (k : Nat) (hk : k < x.size) : x.data.toList[k]? = some x[k] := by
  rw [List.getElem?_eq_getElem (by rw [str_len]; exact hk)]
  rfl
theorem bounds_u8 {n : Int} (h : (Lit.int .u8 n).wf = true) : 0 ≤ n ∧ n ≤ 255 := by
  have hmin : IntKind.u8.min = 0 := rfl
  have hmax : IntKind.u8.max = 255 := rfl
  simp only [Lit.wf, Bool.and_eq_true, decide_eq_true_eq] at h
  omega
/-- A slice of bytes that came in. -/
theorem bs_of {H : Type} {enc' : TypeId × Value → H} {w : World} {fuel : Nat} {a : Option Addr} {n cap : Nat} {d : DataW H} {ps : List MemPlace}
    (h : DataW.trod enc' Tryz.prog w 0 (fun _ => true) true fuel 22 [.slice a n cap] = some (d, ps))
    (hz : ∀ elems spare, d = .slice elems spare → (elems.length + spare.length) * Tryz.prog.bytesOf 5 ≤ reachBytes) : ∃ s, Bs w a n cap s := by
  have hb : reachBytes = 140737488351232 := rfl
  rcases Go.Deep.open_slice1 Tryz.underlying22 cells5 h with ⟨hcs, hd⟩ | ⟨x, l, c, m, k, V, D, Pl, hcs, _, hl, hm, hmm, hx, hel⟩
  · simp at hcs
    obtain ⟨rfl, rfl, rfl⟩ := hcs
    exact ⟨.empty, ⟨.inl rfl, rfl, by omega, by omega, fun _ => rfl⟩⟩
  · simp at hcs
    obtain ⟨rfl, rfl, rfl⟩ := hcs
    simp at hmm
    subst hmm
    have hz' := hz _ _ (Prod.mk.inj hx).1
    simp only [List.length_map, List.length_range, bytes5] at hz'
    rw [hb] at hz'
    obtain ⟨q, hq⟩ : ∃ q : Nat → Nat, ∀ i, i < n → w.cell? (x.add i) = some (.int .u8 (q i : Nat)) ∧ q i < 256 := Go.Deep.choose_lt (p := fun i (v : Nat) => w.cell? (x.add i) = some (.int .u8 (v : Int)) ∧ v < 256) (fun i hi => by
      obtain ⟨h1, h2⟩ := hel i (by omega)
      obtain ⟨v, e, _, u⟩ := DataW.trod_int Tryz.underlying5 h2
      simp only [List.cons.injEq, and_true] at e
      have hu := bounds_u8 u
      refine ⟨v.toNat, ?_, by omega⟩
      rw [h1, e, show ((v.toNat : Nat) : Int) = v by omega])
    have hsz : (⟨((List.range n).map fun i => UInt8.ofNat (q i)).toArray⟩ : ByteArray).size = n := by
      rw [← str_len]
      simp
    refine ⟨⟨((List.range n).map fun i => UInt8.ofNat (q i)).toArray⟩, ?_, hsz, by omega, by omega, fun h => by cases h⟩
    by_cases h0 : n = 0
    · exact .inl (by rw [hsz]; exact h0)
    obtain ⟨b, off, spot⟩ := x
    have hspot : spot = none := by simpa [Addr.add] using World.cell?_spot (hq 0 (by omega)).1
    subst hspot
    refine .inr ⟨b, off, rfl, fun j hj => ?_⟩
    have hjn : j < n := by rw [hsz] at hj; exact hj
    have := (hq j hjn).1
    have hv : ((⟨((List.range n).map fun i => UInt8.ofNat (q i)).toArray⟩ : ByteArray)[j]).toNat = q j := by
      have e := bz_at _ j hj
      rw [show (⟨((List.range n).map fun i => UInt8.ofNat (q i)).toArray⟩ : ByteArray).data.toList = (List.range n).map fun i => UInt8.ofNat (q i) from rfl, List.getElem?_map, List.getElem?_range hjn] at e
      have e2 := Option.some.inj e
      rw [← e2]
      have := (hq j hjn).2
      show (UInt8.ofNat (q j)).toNat = q j
      rw [UInt8.toNat_ofNat']
      omega
    rw [hv]
    unfold Addr.add at this
    by_cases h1 : j = 0
    · subst h1; simpa using this
    · simpa [h1] using this

theorem string_size (s : ByteArray) {H : Type} {ts : List TypeId} {ds : List (DataW H)} (h : (DataW.weightsEach Tryz.prog ts ds).all (· ≤ reachBytes) = true) {j : Nat} {t : TypeId} (ht : ts[j]? = some t) (hd : ds[j]? = some (.lit (.string s.data.toList))) : s.size ≤ 140737488351232 := by
  have := sized_string h ht hd
  have e : s.data.toList.length = s.size := by rw [Array.length_toList]; rfl
  have hb : reachBytes = 140737488351232 := rfl
  omega

end Go.Proofs.YtkgclmikhpjheaaGreatDoor
