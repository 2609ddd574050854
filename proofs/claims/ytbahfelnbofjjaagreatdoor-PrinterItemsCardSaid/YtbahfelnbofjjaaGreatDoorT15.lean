/-
  Types, tables, features and catalogs that came in; values of the call's arguments; From a walk of a statement to its row and its card: what the listed variables hold; how values come in; The reference's Digits; Bytes of the call's own; the reference's Format; The reference's Format.
-/
import Derived.ProofKit
import Derived.LaidMore
import Derived.OpenShut
import Derived.Stop.Joined
import Derived.Stop.LaidErr
import Derived.SevenTiedAt
import Derived.Lib.SmallJoins
import Derived.Lib.LaidTab
import Derived.Deep.Slices
import Derived.SizedLaws
import Derived.ChangeMaps5
import Derived.Carry
import Derived.Laws.BytesArg
import Derived.Lib.AppendStr
import Derived.Test.YtbahfelnbofjjaaGreatDoorCards
import Derived.Test.YtbahfelnbofjjaaGreatDoorT03
import Derived.Test.YtbahfelnbofjjaaGreatDoorT04
import Derived.Test.YtbahfelnbofjjaaGreatDoorT14
import Derived.Test.YtbahfelnbofjjaaGreatDoorRows
import Derived.Test.YtbahfelnbofjjaaGreatDoorTie
set_option maxRecDepth 100000
set_option maxHeartbeats 16000000
namespace Go.Proofs.YtbahfelnbofjjaaGreatDoor.ch
open Go.ChangeShapes Go.WideShapes Go.ChangeAt Go.RowKit Go.Joins dec
section
variable {H : Type} {enc : TypeId × Value → H} {w : World} {m : Nat} {y : DataW H × List MemPlace}
theorem one_le (d : DataW H) : 1 ≤ Rows.uptoBulk d := by
 cases d with
 | lit l => cases l <;> simp [Rows.uptoBulk]
 | nil => simp [Rows.uptoBulk]
 | ptr d => simp [Rows.uptoBulk]
 | slice elems spare => simp [Rows.uptoBulk]
 | agg parts => simp [Rows.uptoBulk]
 | iface t d => simp [Rows.uptoBulk]
 | map entries => simp [Rows.uptoBulk]
 | held h => simp [Rows.uptoBulk]
theorem len_bulk : ∀ l : List (DataW H), l.length ≤ Rows.uptoBulkAll l
 | [] => Nat.zero_le _
 | d :: l => by
  have := one_le d
  have := len_bulk l
  simp only [List.length_cons, Rows.uptoBulkAll]
  omega
theorem ty_of {cs : List Value} (h : Rd enc w m 31 cs y) (hk : Wk 31 y.1) : ∃ (ds : Array Value) (t : Ty), cs = ds.toList ∧ ds.size = 3 ∧ TyV w ds t ∧ t.ln ∧ t.of.size ≤ 140737488355328 := by
 obtain ⟨y0, y1, y2, k, rfl, hl, g0, g1, g2⟩ := Go.Deep.trod_struct3 Tryz.underlying31 h
 rw [cTy] at hl
 match cs, hl with
 | [c0, c1, c2], _ =>
  simp only [cSt, cI, cSfa, List.drop_zero, List.take_succ_cons, List.take_zero, List.drop_succ_cons] at g0 g1 g2
  obtain ⟨n0, e0, d0, _⟩ := DataW.trod_int Tryz.underlying3 g0
  obtain ⟨n2, e2, d2, _⟩ := DataW.trod_string Tryz.underlying9 g2
  simp only [List.cons.injEq, and_true] at e0 e2
  have k1 := wk_part Tryz.underlying31 hk (j := 1) (t := 24) rfl rfl
  have k2 := wk_part Tryz.underlying31 hk (j := 2) (t := 9) rfl rfl
  rw [d2] at k2
  obtain ⟨ua, uc, u, rfl, hU, hul, _⟩ := un_of g1 k1
  subst e0 e2
  exact ⟨tyC ⟨n0, u, n2⟩ ua uc, ⟨n0, u, n2⟩, rfl, rfl, ⟨ua, uc, rfl, hU⟩, hul, wk_str k2⟩
theorem fi_of {cs : List Value} (h : Rd enc w m 88 cs y) (hk : Wk 88 y.1) : ∃ (ds : Array Value) (f : Fi), cs = ds.toList ∧ ds.size = 4 ∧ FiV w ds f ∧ f.sz ∧ f.ty.ln := by
 obtain ⟨y0, y1, k, rfl, hl, g0, g1⟩ := trod_struct2 Tryz.underlying88 h
 rw [cFi] at hl
 match cs, hl with
 | [c0, c1, c2, c3], _ =>
  simp only [cSt, cTy, List.drop_zero, List.take_succ_cons, List.take_zero, List.drop_succ_cons] at g0 g1
  obtain ⟨n0, e0, d0, _⟩ := DataW.trod_string Tryz.underlying9 g0
  simp only [List.cons.injEq, and_true] at e0
  have k0 := wk_part Tryz.underlying88 hk (j := 0) (t := 9) rfl rfl
  have k1 := wk_part Tryz.underlying88 hk (j := 1) (t := 31) rfl rfl
  rw [d0] at k0
  obtain ⟨ds, t, e1, _, ⟨ua, uc, rfl, hU⟩, hln, hof⟩ := ty_of g1 k1
  subst e0
  refine ⟨fiC ⟨n0, t⟩ ua uc, ⟨n0, t⟩, ?_, rfl, ⟨ua, uc, rfl, hU⟩, ⟨wk_str k0, hof⟩, hln⟩
  show _ = Value.string n0 :: (tyC t ua uc).toList
  rw [← e1]
structure TbQ (t : Tb) : Prop where
 sz : t.sz
 ln : ∀ f ∈ t.fs, f.ty.ln
theorem tb_of {cs : List Value} (h : Rd enc w m 48 cs y) (hk : Wk 48 y.1) : ∃ (ds : Array Value) (t : Tb), cs = ds.toList ∧ ds.size = 4 ∧ TbV w ds t ∧ TbQ t := by
 obtain ⟨y0, y1, y2, y3, k, rfl, hl, g0, g1, g2, g3⟩ := trod_struct4 Tryz.underlying48 h
 rw [cTb] at hl
 match cs, hl with
 | [c0, c1, c2, c3], _ =>
  simp only [cSt, cSfi, cI, List.drop_zero, List.take_succ_cons, List.take_zero, List.drop_succ_cons] at g0 g1 g2 g3
  obtain ⟨n0, e0, d0, _⟩ := DataW.trod_string Tryz.underlying9 g0
  obtain ⟨n1, e1, d1, _⟩ := DataW.trod_string Tryz.underlying9 g1
  obtain ⟨n3, e3, d3, _⟩ := DataW.trod_int Tryz.underlying3 g3
  simp only [List.cons.injEq, and_true] at e0 e1 e3
  have k0 := wk_part Tryz.underlying48 hk (j := 0) (t := 9) rfl rfl
  have k1 := wk_part Tryz.underlying48 hk (j := 1) (t := 9) rfl rfl
  have k2 := wk_part Tryz.underlying48 hk (j := 2) (t := 46) rfl rfl
  rw [d0] at k0
  rw [d1] at k1
  obtain ⟨a, n, cap, l, el, sp, rfl, S, _, hel, hq, _⟩ := rw_of (Q := fun _ (f : Fi) => f.sz ∧ f.ty.ln) Tryz.underlying46 cFi (by decide) g2 k2 (fun k cs z _ h1 h2 => fi_of h1 h2)
  have hn := S.hn
  subst hn
  subst e0 e1 e3
  have hm : ∀ f ∈ l, f.sz ∧ f.ty.ln := fun f hf => by
   obtain ⟨j, hj, rfl⟩ := List.getElem_of_mem hf
   exact hq j (by omega) hj
  exact ⟨tbC ⟨n0, n1, l, n3⟩ a cap, ⟨n0, n1, l, n3⟩, rfl, rfl, ⟨a, cap, rfl, S⟩, ⟨⟨wk_str k0, wk_str k1, fun f hf => (hm f hf).1⟩, fun f hf => (hm f hf).2⟩⟩
structure FeQ (d : DataW H) (f : Fe) : Prop where
 sz : f.szs
 ln : f.ty.ln
 bulk : f.bo.ar.sz + 1 ≤ Rows.uptoBulk d
theorem fe_of {cs : List Value} (h : Rd enc w m 51 cs y) (hk : Wk 51 y.1) : ∃ (ds : Array Value) (f : Fe), cs = ds.toList ∧ ds.size = 18 ∧ FeV w ds f ∧ FeQ y.1 f := by
 obtain ⟨y0, y1, y2, y3, y4, n, rfl, hy, hl, g0, g1, g2, g3, g4⟩ := trod_struct5 Tryz.underlying51 h
 rw [cFe] at hl
 rw [hy] at hk ⊢
 match cs, hl with
 | [c0, c1, c2, c3, c4, c5, c6, c7, c8, c9, c10, c11, c12, c13, c14, c15, c16, c17], _ =>
  simp only [cI, cSt, cTy, cX, List.drop_zero, List.take_succ_cons, List.take_zero, List.drop_succ_cons] at g0 g1 g2 g3 g4
  obtain ⟨n0, e0, d0, _⟩ := DataW.trod_string Tryz.underlying9 g0
  obtain ⟨n1, e1, d1, _⟩ := DataW.trod_string Tryz.underlying9 g1
  obtain ⟨n4, e4, d4, _⟩ := DataW.trod_int Tryz.underlying3 g4
  simp only [List.cons.injEq, and_true] at e0 e1 e4
  have k0 := wk_part Tryz.underlying51 hk (j := 0) (t := 9) rfl rfl
  have k1 := wk_part Tryz.underlying51 hk (j := 1) (t := 9) rfl rfl
  have k2 := wk_part Tryz.underlying51 hk (j := 2) (t := 31) rfl rfl
  have k3 := wk_part Tryz.underlying51 hk (j := 3) (t := 29) rfl rfl
  rw [d0] at k0
  rw [d1] at k1
  obtain ⟨ds, t, e2, _, ⟨ta, tc, rfl, hT⟩, hln, hof⟩ := ty_of g2 k2
  obtain ⟨es, x, e3, _, ⟨ua, uc, aa, ac, rfl, hE⟩, hQ⟩ := ex_of _ _ _ g3 k3
  subst e0 e1 e4
  simp only [tyC, exC, List.cons.injEq, and_true] at e2 e3
  obtain ⟨rfl, rfl, rfl⟩ := e2
  obtain ⟨rfl, rfl, rfl, rfl, rfl, rfl, rfl, rfl, rfl, rfl, rfl, rfl⟩ := e3
  refine ⟨feC ⟨n0, n1, t, x, n4⟩ ta tc ua uc aa ac, ⟨n0, n1, t, x, n4⟩, rfl, rfl, ⟨ta, tc, ua, uc, aa, ac, rfl, hT, hE⟩, ⟨wk_str k0, wk_str k1, hof, hQ.sz, hQ.ln⟩, hln, ?_⟩
  have hb := hQ.bulk
  have hp : Rows.uptoBulk y3.1 ≤ Rows.uptoBulkAll [y0.1, y1.1, y2.1, y3.1, y4.1] := bulk_part (by simp)
  show x.ar.sz + 1 ≤ Rows.uptoBulkAll [y0.1, y1.1, y2.1, y3.1, y4.1] + 1
  omega
theorem fes_of {c : Value} (h : Rd enc w m 41 [c] y) (hk : Wk 41 y.1) : ∃ a cap l, c = .slice a l.length cap ∧ Fes w a l.length cap l ∧ l.length ≤ Rows.uptoBulk y.1 ∧ (∀ f ∈ l, f.szs ∧ f.ty.ln) ∧ l.length * Tryz.prog.bytesOf 51 ≤ 140737488351232 := by
 obtain ⟨a, n, cap, l, el, sp, rfl, S, hz, hel, hq, hb⟩ := rw_of (Q := FeQ) Tryz.underlying41 cFe (by decide) h hk (fun k cs z _ h1 h2 => fe_of h1 h2)
 have hn := S.hn
 subst hn
 refine ⟨a, cap, l, rfl, S, by have := len_bulk el; omega, fun f hf => ?_, Nat.le_trans (Nat.mul_le_mul_right _ (by omega)) hz⟩
 obtain ⟨j, hj, rfl⟩ := List.getElem_of_mem hf
 exact ⟨(hq j (by omega) hj).sz, (hq j (by omega) hj).ln⟩
theorem tbs_of {c : Value} (h : Rd enc w m 40 [c] y) (hk : Wk 40 y.1) : ∃ a cap l, c = .slice a l.length cap ∧ Tbs' w a l.length cap l ∧ l.length ≤ Rows.uptoBulk y.1 ∧ ∀ t ∈ l, TbQ t := by
 obtain ⟨a, n, cap, l, el, sp, rfl, S, hz, hel, hq, hb⟩ := rw_of (Q := fun _ (t : Tb) => TbQ t) Tryz.underlying40 cTb (by decide) h hk (fun k cs z _ h1 h2 => tb_of h1 h2)
 have hn := S.hn
 subst hn
 refine ⟨a, cap, l, rfl, S, by have := len_bulk el; omega, fun t ht => ?_⟩
 obtain ⟨j, hj, rfl⟩ := List.getElem_of_mem ht
 exact hq j (by omega) hj
variable {H : Type} {enc : TypeId × Value → H} {Z : World} {r : Reach} {b0' : Nat} {v : Value} {d : DataW H} {p : List MemPlace}
theorem wk_of {ts : List TypeId} {ds : List (DataW H)} (h : (DataW.weightsEach Tryz.prog ts ds).all (· ≤ reachBytes) = true) {j : Nat} {t : TypeId} {d : DataW H} (ht : ts[j]? = some t) (hd : ds[j]? = some d) : Wk t d := fun n hn => by
 have := List.all_eq_true.1 h n (DataW.weights_mem_each ht hd n hn)
 have hb : reachBytes = 140737488351232 := rfl
 simpa [hb] using this
end
end Go.Proofs.YtbahfelnbofjjaaGreatDoor.ch
namespace Go.Proofs.YtbahfelnbofjjaaGreatDoor
open Go.ChangeShapes Go.WideShapes Go.ChangeAt Go.RowKit Go.Joins dec ch
theorem own : ownKnob Tryz.prog.godebug = none := by kernel_rfl
theorem laidOut : laidOutB Tryz.prog = true := by kernel_rfl
section
variable {H : Type} {enc' : TypeId × Value → H} {P : Program}
end
def laid9 : List (String × DataW Unit) := [("math/bits.deBruijn32tab", Rows.laid_math_bits_deBruijn32tab), ("math/bits.deBruijn64tab", Rows.laid_math_bits_deBruijn64tab), ("internal/strconv.uint64pow10", Rows.laid_internal_strconv_uint64pow10), ("strconv.ErrRange", Rows.laid_strconv_ErrRange), ("strconv.ErrSyntax", Rows.laid_strconv_ErrSyntax), ("asof/decimal.powers", Rows.laid_asof_decimal_powers), ("asof/lexer.classes", Rows.laid_asof_lexer_classes), ("asof/printer.windowWords", Rows.laid_asof_printer_windowWords), ("asof/printer.typeWords", Rows.laid_asof_printer_typeWords)]
theorem gTen : Tryz.prog.globalNamed "internal/strconv.uint64pow10" = some 5 := by kernel_rfl
theorem tTen : (Tryz.prog.globals[5]?).map (·.type) = some 269 := by kernel_rfl
theorem tPow : (Tryz.prog.globals[2]?).map (·.type) = some 223 := by kernel_rfl
theorem tSyn : (Tryz.prog.globals[7]?).map (·.type) = some 154 := by kernel_rfl
theorem tRan : (Tryz.prog.globals[8]?).map (·.type) = some 154 := by kernel_rfl
theorem tCls : (Tryz.prog.globals[1]?).map (·.type) = some 213 := by kernel_rfl
theorem cCls : Tryz.prog.cellsOf 213 = 126 := by kernel_rfl
theorem cC1 : Tryz.prog.cellsOf 172 = 1 := by kernel_rfl
theorem dCls : (Rows.laid_asof_lexer_classes : DataW Unit) = Lib.tabData .u8 clsTab := by kernel_rfl
theorem cTen : Tryz.prog.cellsOf 269 = 20 := by kernel_rfl
theorem cPow : Tryz.prog.cellsOf 223 = 7 := by kernel_rfl
theorem cU : Tryz.prog.cellsOf 212 = 1 := by kernel_rfl
theorem cI3 : Tryz.prog.cellsOf 3 = 1 := by kernel_rfl
theorem cS9 : Tryz.prog.cellsOf 9 = 1 := by kernel_rfl
theorem cE : Tryz.prog.cellsOf 296 = 1 := by kernel_rfl
theorem dTen : (Rows.laid_internal_strconv_uint64pow10 : DataW Unit) = Lib.tabData .u64 Lib.pow10Tab := by kernel_rfl
theorem dPow : (Rows.laid_asof_decimal_powers : DataW Unit) = Lib.tabData .i64 powTab := by kernel_rfl
theorem star : "*" ++ "errors.errorString" = "*errors.errorString" := by decide
theorem rowE (u : TypeId) (h : Tryz.prog.typeName? 3 u = some "*errors.errorString") : u = 294 :=
 typeName_ptr_named (nm := "errors.errorString") (by rw [star]; kernel_rfl) (by kernel_rfl) (by decide) u (by rw [star]; exact h)
theorem cells_of_str {H : Type} {enc : TypeId × Value → H} {P : Program} {w : World} {base : Nat} {sp : Nat → Bool} {held : Bool} {fuel : Nat} {t e : TypeId} {n : Nat} {cs : List Value} {ss : List ByteArray} {p : List MemPlace}
  (ht : P.underlying t = some (.array n e)) (he : P.underlying e = some .string) (hce : P.cellsOf e = 1) (hct : P.cellsOf t = n)
  (h : DataW.trod enc P w base sp held fuel t cs = some (.agg (ss.map fun s => .lit (.string s.data.toList)), p)) : cs = ss.map fun s => Value.string s := by
 cases fuel with
 | zero => simp [DataW.trod] at h
 | succ fuel =>
  simp only [DataW.trod, ht, hce, hct, Nat.mul_one] at h
  split at h
  ·rename_i hl
   obtain ⟨xs, hm, hx⟩ := Option.map_eq_some_iff.1 h
   have hxs : xs.map (·.1) = ss.map fun s => (DataW.lit (.string s.data.toList) : DataW H) := by
    have := congrArg Prod.fst hx
    simpa using this
   have hxl : xs.length = n := by simpa using Lib.mapM_length hm
   have hzl : ss.length = n := by
    have := congrArg List.length hxs
    simp at this
    omega
   apply List.ext_getElem?
   intro i
   by_cases hi : i < n
   ·obtain ⟨b, hb, hf⟩ := Lib.mapM_at hm i i (by simp [hi])
    obtain ⟨z, hc, hz, _⟩ := DataW.trod_string he hf
    have h1 : cs[i]? = some (.string z) := by
     have := congrArg (·[0]?) hc
     simpa [List.getElem?_take, List.getElem?_drop] using this
    have h2 : (xs.map (·.1))[i]? = some (DataW.lit (.string z.data.toList) : DataW H) := by simp [hb, hz]
    rw [hxs] at h2
    simp only [List.getElem?_map, Option.map_eq_some_iff, DataW.lit.injEq, Lit.string.injEq] at h2
    obtain ⟨z', hz', e⟩ := h2
    have e2 : z' = z := ByteArray.ext (Array.toList_inj.1 e)
    simp [h1, hz', e2]
   ·rw [List.getElem?_eq_none (by omega), List.getElem?_eq_none (by simp; omega)]
  ·cases h
theorem strs_of_head {P : Program} {W : World} {name : String} {ss : List ByteArray} {rest : List (String × DataW Unit)} {g : Nat} {t e : TypeId} {n : Nat}
  (hg : P.globalNamed name = some g) (hty : (P.globals[g]?).map (·.type) = some t) (ht : P.underlying t = some (.array n e)) (he : P.underlying e = some .string) (hce : P.cellsOf e = 1) (hct : P.cellsOf t = n)
  (h : laidMet P ((name, .agg (ss.map fun s => .lit (.string s.data.toList))) :: rest) W) (i : Nat) (hi : i < ss.length) : W.cell? ⟨g, i, none⟩ = some (.string (ss.getD i .empty)) := by
 obtain ⟨ps, ⟨g', t', cs, fuel, p, q, hg', ht', hvar, hd, _, _⟩, _⟩ := h
 obtain rfl := Option.some.inj (hg.symm.trans hg')
 obtain rfl := Option.some.inj (hty.symm.trans ht')
 obtain rfl : cs = (ss.map fun s => Value.string s).toArray := by rw [← cells_of_str ht he hce hct hd]
 have := World.var?_cell hg hvar i
 simpa [List.getD, hi] using this
theorem gTyw : Tryz.prog.globalNamed "asof/printer.typeWords" = some 0 := by kernel_rfl
theorem gWiw : Tryz.prog.globalNamed "asof/printer.windowWords" = some 3 := by kernel_rfl
theorem tTyw : (Tryz.prog.globals[0]?).map (·.type) = some 147 := by kernel_rfl
theorem tWiw : (Tryz.prog.globals[3]?).map (·.type) = some 231 := by kernel_rfl
theorem cTyw : Tryz.prog.cellsOf 147 = 6 := by kernel_rfl
theorem cWiw : Tryz.prog.cellsOf 231 = 5 := by kernel_rfl
def tyL : List ByteArray := [.empty, ⟨#[98, 111, 111, 108]⟩, ⟨#[105, 110, 116]⟩, ⟨#[100, 101, 99]⟩, ⟨#[116, 101, 120, 116]⟩, ⟨#[107, 101, 121]⟩]
def wiL : List ByteArray := [.empty, ⟨#[97, 108, 108]⟩, ⟨#[115, 108, 105, 100, 105, 110, 103]⟩, ⟨#[116, 117, 109, 98, 108, 105, 110, 103]⟩, ⟨#[115, 101, 115, 115, 105, 111, 110]⟩]
theorem dTyw : (Rows.laid_asof_printer_typeWords : DataW Unit) = .agg (tyL.map fun s => .lit (.string s.data.toList)) := by kernel_rfl
theorem dWiw : (Rows.laid_asof_printer_windowWords : DataW Unit) = .agg (wiL.map fun s => .lit (.string s.data.toList)) := by kernel_rfl
theorem tyL_at : ∀ j, 1 ≤ j → j < 6 → tyL.getD j .empty = tyWs j
 | 0, h, _ => absurd h (by decide)
 | 1, _, _ => rfl
 | 2, _, _ => rfl
 | 3, _, _ => rfl
 | 4, _, _ => rfl
 | 5, _, _ => rfl
 | j + 6, _, h => absurd h (by omega)
theorem wiL_at : ∀ j, 1 ≤ j → j < 5 → wiL.getD j .empty = wiWs j
 | 0, h, _ => absurd h (by decide)
 | 1, _, _ => rfl
 | 2, _, _ => rfl
 | 3, _, _ => rfl
 | 4, _, _ => rfl
 | j + 5, _, h => absurd h (by omega)
theorem tabs_of_laid {W : World} (h : laidMetH Tryz.prog laid9 W) : Tabq W := by
 rw [MakeChecks.laidMetH_plain _ _ _ (by kernel_rfl)] at h
 have h3 := h.tail.tail
 have h4 := h3.tail
 have h5 := h4.tail
 have h6 := h5.tail
 have h7 := h6.tail
 have h8 := h7.tail
 have h9 := h8.tail
 rw [dTen] at h3
 rw [dPow] at h6
 rw [dCls] at h7
 rw [dWiw] at h8
 rw [dTyw] at h9
 obtain ⟨a0, s0, hv0, -, -, -⟩ := laid_sentinel h4 gRan tRan Tryz.underlying154 rowE Tryz.underlying294 Tryz.underlying296 rfl rfl Tryz.underlying9 cE cS9
 obtain ⟨a1, s1, hv1, -, -, -⟩ := laid_sentinel h5 gSyn tSyn Tryz.underlying154 rowE Tryz.underlying294 Tryz.underlying296 rfl rfl Tryz.underlying9 cE cS9
 refine ⟨⟨Lib.tabIs_of_head gPow tPow Tryz.underlying223 Tryz.underlying3 cI3 cPow h6, Lib.tabIs_of_head gTen tTen Tryz.underlying269 Tryz.underlying212 cU cTen h3, ⟨_, _, hv1⟩, ⟨_, _, hv0⟩, Lib.tabIs_of_head gCls tCls Tryz.underlying213 Tryz.underlying172 cC1 cCls h7⟩, fun j h1 h2 => ?_, fun j h1 h2 => ?_⟩
 ·rw [← tyL_at j h1 h2]
  exact strs_of_head gTyw tTyw Tryz.underlying147 Tryz.underlying9 cS9 cTyw h9 j h2
 ·rw [← wiL_at j h1 h2]
  exact strs_of_head gWiw tWiw Tryz.underlying231 Tryz.underlying9 cS9 cWiw h8 j h2
theorem door_met (os : Os) (args : Array Value) : laidMetH Tryz.prog laid9 ((World.doorLaid Tryz.prog 93 os).forCall (fun _ _ => 0) ⟨#[], args, []⟩).memory :=
 laidMetH_of_parts3 (fuel := 8) (laidMet_of_run' 8 (by kernel_rfl) (by kernel_rfl)) (by kernel_rfl) (by kernel_rfl)
end Go.Proofs.YtbahfelnbofjjaaGreatDoor
namespace Go.Proofs.YtbahfelnbofjjaaGreatDoor.un
open Go.RowKit dec
theorem one_cv (w : World) (b : Nat) (y : Int) (x : Nat) (hc : w.cell? ⟨b, 0, none⟩ = some (.int .u8 y)) (hy : y = 48 + (x : Int)) (hx : x < 10) : (convert 56 9 (.slice (some ⟨b, 0, none⟩) 1 1)).run Tryz.prog w = .ok (.string ⟨#[UInt8.ofNat (48 + x)]⟩) w := by
 rw [run_convert_bytes_arg w 56 5 Tryz.underlying56 Tryz.underlying5 b 0 1 1 [y] rfl ?_ _ Tryz.underlying9]
 ·subst hy
  rfl
 ·intro i hi
  obtain rfl : i = 0 := by omega
  exact hc
theorem byte_new (w : World) (y : Int) : (w.alloc (.cells #[.int .u8 y] 5)).cell? ⟨w.heap.size, 0, none⟩ = some (.int .u8 y) := by simp [go_sem]
theorem dd_small {u : Nat} (h : u < 10) : Lib.decDigits u = [UInt8.ofNat (48 + u)] := by rw [Lib.decDigits, dif_pos h]
theorem dd_big {u : Nat} (h : ¬ u < 10) : Lib.decDigits u = Lib.decDigits (u / 10) ++ [UInt8.ofNat (48 + u % 10)] := by rw [Lib.decDigits, dif_neg h]
theorem dd_len {u : Nat} (h : u ≤ 9223372036854775808) : (Lib.decDigits u).length ≤ 20 := by
 rw [Lib.decDigits_eq, List.length_map, List.length_range]
 rcases Nat.lt_or_ge (Lib.nDigits u) 20 with h' | h'
 ·omega
 ·exfalso
  have := nd_le 18 u (by omega)
  omega
theorem quo_nat (v : Nat) : ((v : Int)).tmod 10 = ((v % 10 : Nat) : Int) ∧ ((v : Int)).tdiv 10 = ((v / 10 : Nat) : Int) := ⟨by rfl, by rfl⟩
theorem quo_neg (v : Nat) : (-(v : Int)).tmod 10 = -((v % 10 : Nat) : Int) ∧ (-(v : Int)).tdiv 10 = -((v / 10 : Nat) : Int) := by
 rw [Int.neg_tmod, Int.neg_tdiv]
 exact ⟨by rfl, by rfl⟩
theorem dgs_pos (u : Nat) : u ≤ 9223372036854775807 → ∀ w, Calls Tryz.prog 231 #[.int .i64 (u : Int)] w fun e w' => e = .returned (.string ⟨(Lib.decDigits u).toArray⟩) ∧ Below w.heap.size w w' := by
 induction u using Nat.strongRecOn with
 | _ u ih =>
  intro hu w
  have q1 : decide (-10 < (u : Int)) = true := decide_eq_true (by omega)
  have q3 : decide ((u : Int) < 0) = false := decide_eq_false (by omega)
  by_cases h9 : u < 10
  ·have q2 : decide ((u : Int) < 10) = true := decide_eq_true (by omega)
   have hw : IntKind.u8.wrap (48 + (u : Int)) = 48 + (u : Int) := by rw [IntKind.wrap_u8]; omega
   have cv := one_cv _ _ _ u (byte_new w (48 + (u : Int))) rfl h9
   have HL := dd_small h9
   obtain ⟨y, hy⟩ : ∃ y, UInt8.ofNat (48 + u) = y := ⟨_, rfl⟩
   rw [hy] at HL cv
   replace HL := Lib.hid HL
   clear ih hy
   go_enter Tryz.func231, Tryz.ntmps231
   go_wp2_with fail
   go_ret
   exact ⟨by rw [HL.out]; rfl, balloc (b0 w) _⟩
  ·have q2 : decide ((u : Int) < 10) = false := decide_eq_false (by omega)
   have IH := Lib.hid (ih (u / 10) (by omega) (by omega))
   have HL := Lib.hid (dd_big h9)
   have A := Lib.hid (add_str (Lib.decDigits (u / 10)) [UInt8.ofNat (48 + u % 10)] (by have := dd_len (u := u / 10) (by omega); omega) (by simp))
   obtain ⟨x, hx⟩ : ∃ x, u % 10 = x := ⟨_, rfl⟩
   have hx10 : x < 10 := by omega
   obtain ⟨g1, g2⟩ := quo_nat u
   rw [hx] at g1 HL A
   have hw : IntKind.u8.wrap (48 + (x : Int)) = 48 + (x : Int) := by rw [IntKind.wrap_u8]; omega
   have hw1 : IntKind.i64.wrap ((u : Int) / 10) = (u : Int) / 10 := by rw [IntWalk.i64_left]; unfold wrap64; omega
   have hw2 : IntKind.i64.wrap (48 + (x : Int)) = 48 + (x : Int) := by rw [IntWalk.i64_left]; unfold wrap64; omega
   have q4 : decide ((x : Int) < 0) = false := decide_eq_false (by omega)
   obtain ⟨y, hy⟩ : ∃ y, UInt8.ofNat (48 + x) = y := ⟨_, rfl⟩
   rw [hy] at HL A
   have HY := Lib.hid hy
   clear hy
   generalize Lib.decDigits u = L at *
   generalize Lib.decDigits (u / 10) ++ [y] = L2 at *
   generalize Lib.decDigits (u / 10) = L3 at *
   clear ih h9
   go_enter Tryz.func231, Tryz.ntmps231
   go_wp2_with fail
   refine wp_region_noPanic ?_
   refine wp_region_held_drew (S := fun w' => Below w.heap.size w w') (by kernel_rfl) (b0 w).drew (fun hH => ?_)
   generalize w.drew = WW at *
   refine held_take (i := 0) (d := 29) (v := ?_) rfl (by kernel_rfl) (by kernel_rfl) (by kernel_rfl) rfl (fun _ _ _ h => h) rfl hH (fun w' hS => ?_) ?_
   rotate_left
   ·go_simp; first | done | with_reducible rfl | (rw [hw2]; done) | (rw [hw2]; rfl) | (rw [hw1]; done) | (rw [hw1]; rfl)
   simp only [List.set_cons_zero, List.set_cons_succ]
   refine held_take (i := 1) (d := 30) (v := .int .i64 ((u / 10 : Nat) : Int)) rfl (by kernel_rfl) (by kernel_rfl) (by kernel_rfl) rfl (fun _ _ _ h => h) rfl hH (fun w' hS => ?_) ?_
   ·go_simp; first | done | with_reducible rfl | (rw [hw2]; done) | (rw [hw2]; rfl) | (rw [hw1]; done) | (rw [hw1]; rfl)
   simp only [List.set_cons_zero, List.set_cons_succ]
   refine held_take (i := 3) (d := 32) (v := ?_) rfl (by kernel_rfl) (by kernel_rfl) (by kernel_rfl) rfl (fun _ _ _ h => h) rfl hH (fun w' hS => ?_) ?_
   rotate_left
   ·go_simp; first | done | with_reducible rfl | (rw [hw2]; done) | (rw [hw2]; rfl) | (rw [hw1]; done) | (rw [hw1]; rfl)
   simp only [List.set_cons_zero, List.set_cons_succ]
   refine held_take (i := 4) (d := 33) (v := .int .i64 (48 + (x : Int))) rfl (by kernel_rfl) (by kernel_rfl) (by kernel_rfl) rfl (fun _ _ _ h => h) rfl hH (fun w' hS => ?_) ?_
   ·go_simp; first | done | with_reducible rfl | (rw [hw2]; done) | (rw [hw2]; rfl) | (rw [hw1]; done) | (rw [hw1]; rfl)
   simp only [List.set_cons_zero, List.set_cons_succ]
   refine held_take (i := 5) (d := 34) (v := .int .u8 (48 + (x : Int))) rfl (by kernel_rfl) (by kernel_rfl) (by kernel_rfl) rfl (fun _ _ _ h => h) rfl hH (fun w' hS => ?_) ?_
   ·go_simp; first | done | with_reducible rfl | (rw [hw2]; done) | (rw [hw2]; rfl) | (rw [hw1]; done) | (rw [hw1]; rfl)
   simp only [List.set_cons_zero, List.set_cons_succ]
   refine held_two (i := 2) (j := 6) rfl rfl (by kernel_rfl) rfl rfl (fun K hK => ?_) (fun K hK => ?_)
   ·go_simp
    refine (IH.out _).mono ?_
    rintro e w6 ⟨rfl, b6⟩
    refine hK.out _ _ (hH.trans (b6.mono hH.size)) (fun hH => ?_)
    clear hK K b6
    refine held_only (i := 6) rfl (by kernel_rfl) rfl (fun K hK => ?_)
    go_simp
    have CC := Lib.hid (byte_new w6 (48 + (x : Int)))
    refine hK.out _ _ (hH.alloc hH.size _) (fun hH => ?_)
    clear hK K
    refine held_only (i := 7) rfl (by kernel_rfl) rfl (fun K hK => ?_)
    have cv := one_cv _ _ _ x CC.out rfl (by omega)
    rw [HY.out] at cv
    go_simp
    refine hK.out _ _ hH (fun hH => ?_)
    clear hK K cv
    refine held_only (i := 8) rfl (by kernel_rfl) rfl (fun K hK => ?_)
    have ad := A.out
    go_simp
    refine hK.out _ _ hH (fun hH => ?_)
    clear hK K
    refine held_only (i := 9) rfl (by kernel_rfl) rfl (fun K hK => ?_)
    go_simp
    refine hK.out _ _ hH (fun hH => ?_)
    clear hK K
    refine wpAnyH_done (by kernel_rfl) ?_ _
    refine noPanic_of ?_
    have HB := Lib.hid hH
    clear hH
    go_wp2_with fail
    go_ret
    exact ⟨by rw [HL.out]; rfl, HB.out⟩
   ·go_simp
    have CC := Lib.hid (byte_new WW (48 + (x : Int)))
    refine hK.out _ _ (hH.alloc hH.size _) (fun hH => ?_)
    clear hK K
    refine held_two (i := 2) (j := 7) rfl rfl (by kernel_rfl) rfl rfl (fun K hK => ?_) (fun K hK => ?_)
    ·go_simp
     refine (IH.out _).mono ?_
     rintro e w6 ⟨rfl, b6⟩
     replace CC := Lib.hid (dec.keeps b6 CC.out)
     refine hK.out _ _ (hH.trans (b6.mono hH.size)) (fun hH => ?_)
     clear hK K b6
     refine held_only (i := 7) rfl (by kernel_rfl) rfl (fun K hK => ?_)
     have cv := one_cv _ _ _ x CC.out rfl (by omega)
     rw [HY.out] at cv
     go_simp
     refine hK.out _ _ hH (fun hH => ?_)
     clear hK K cv
     refine held_only (i := 8) rfl (by kernel_rfl) rfl (fun K hK => ?_)
     have ad := A.out
     go_simp
     refine hK.out _ _ hH (fun hH => ?_)
     clear hK K
     refine held_only (i := 9) rfl (by kernel_rfl) rfl (fun K hK => ?_)
     go_simp
     refine hK.out _ _ hH (fun hH => ?_)
     clear hK K
     refine wpAnyH_done (by kernel_rfl) ?_ _
     refine noPanic_of ?_
     have HB := Lib.hid hH
     clear hH
     go_wp2_with fail
     go_ret
     exact ⟨by rw [HL.out]; rfl, HB.out⟩
    ·have cv := one_cv _ _ _ x CC.out rfl (by omega)
     rw [HY.out] at cv
     go_simp
     refine hK.out _ _ hH (fun hH => ?_)
     clear hK K cv
     refine held_only (i := 2) rfl (by kernel_rfl) rfl (fun K hK => ?_)
     go_simp
     refine (IH.out _).mono ?_
     rintro e w6 ⟨rfl, b6⟩
     refine hK.out _ _ (hH.trans (b6.mono hH.size)) (fun hH => ?_)
     clear hK K b6
     refine held_only (i := 8) rfl (by kernel_rfl) rfl (fun K hK => ?_)
     have ad := A.out
     go_simp
     refine hK.out _ _ hH (fun hH => ?_)
     clear hK K
     refine held_only (i := 9) rfl (by kernel_rfl) rfl (fun K hK => ?_)
     go_simp
     refine hK.out _ _ hH (fun hH => ?_)
     clear hK K
     refine wpAnyH_done (by kernel_rfl) ?_ _
     refine noPanic_of ?_
     have HB := Lib.hid hH
     clear hH
     go_wp2_with fail
     go_ret
     exact ⟨by rw [HL.out]; rfl, HB.out⟩
theorem dgs_neg (u : Nat) : 1 ≤ u → u ≤ 9223372036854775808 → ∀ (n : Int), n = -(u : Int) → ∀ w, Calls Tryz.prog 231 #[.int .i64 n] w fun e w' => e = .returned (.string ⟨(45 :: Lib.decDigits u).toArray⟩) ∧ Below w.heap.size w w' := by
 induction u using Nat.strongRecOn with
 | _ u ih =>
  intro h1 hu n hn w
  have q2 : decide (n < 10) = true := decide_eq_true (by omega)
  have q3 : decide (n < 0) = true := decide_eq_true (by omega)
  by_cases h9 : u < 10
  ·have q1 : decide (-10 < n) = true := decide_eq_true (by omega)
   have hm : IntKind.i64.wrap (48 - n) = 48 + (u : Int) := by rw [IntWalk.i64_left]; unfold wrap64; omega
   have hm2 : wrap64 (48 - n) = 48 + (u : Int) := by unfold wrap64; omega
   have hm3 : 48 - n = 48 + (u : Int) := by omega
   have hw : IntKind.u8.wrap (48 + (u : Int)) = 48 + (u : Int) := by rw [IntKind.wrap_u8]; omega
   have cv := one_cv _ _ _ u (byte_new w (48 + (u : Int))) rfl h9
   have HL := dd_small h9
   obtain ⟨y, hy⟩ : ∃ y, UInt8.ofNat (48 + u) = y := ⟨_, rfl⟩
   rw [hy] at HL cv
   have A := add_str [45] [y] (by simp) (by simp)
   replace HL := Lib.hid HL
   clear ih hy hn
   go_enter Tryz.func231, Tryz.ntmps231
   go_wp2_with fail
   go_ret
   exact ⟨by rw [HL.out]; rfl, balloc (b0 w) _⟩
  ·have q1 : decide (-10 < n) = false := decide_eq_false (by omega)
   obtain ⟨m, hm⟩ : ∃ m, m = -((u / 10 : Nat) : Int) := ⟨_, rfl⟩
   have IH := Lib.hid (ih (u / 10) (by omega) (by omega) (by omega) m hm)
   have HL := dd_big h9
   have A := add_str (45 :: Lib.decDigits (u / 10)) [UInt8.ofNat (48 + u % 10)] (by have := dd_len (u := u / 10) (by omega); simp; omega) (by simp)
   obtain ⟨x, hx⟩ : ∃ x, u % 10 = x := ⟨_, rfl⟩
   have hx10 : x < 10 := by omega
   obtain ⟨g1, g2⟩ := quo_neg u
   rw [← hn] at g1 g2
   rw [hx] at g1 HL A
   rw [← hm] at g2
   have hw : IntKind.u8.wrap (48 + (x : Int)) = 48 + (x : Int) := by rw [IntKind.wrap_u8]; omega
   have hw1 : IntKind.i64.wrap m = m := by rw [IntWalk.i64_left]; unfold wrap64; omega
   have hw3 : IntKind.i64.wrap (n.tdiv 10) = m := by rw [g2]; exact hw1
   have hw2 : IntKind.i64.wrap (48 + (x : Int)) = 48 + (x : Int) := by rw [IntWalk.i64_left]; unfold wrap64; omega
   obtain ⟨y, hy⟩ : ∃ y, UInt8.ofNat (48 + x) = y := ⟨_, rfl⟩
   rw [hy] at HL A
   have HY := Lib.hid hy
   clear hy
   replace HL : Hid (45 :: Lib.decDigits u = 45 :: Lib.decDigits (u / 10) ++ [y]) := by rw [HL]; exact Lib.hid rfl
   replace A := Lib.hid A
   generalize 45 :: Lib.decDigits u = L at *
   generalize 45 :: Lib.decDigits (u / 10) ++ [y] = L2 at *
   generalize 45 :: Lib.decDigits (u / 10) = L3 at *
   clear ih
   obtain ⟨r, hr⟩ : ∃ r, r = -(x : Int) := ⟨_, rfl⟩
   rcases Nat.eq_zero_or_pos x with h0 | h0
   ·have g1' : n.tmod 10 = (x : Int) := by rw [g1]; omega
    have q4 : decide ((x : Int) < 0) = false := decide_eq_false (by omega)
    have hwx : IntKind.i64.wrap (x : Int) = (x : Int) := by rw [IntWalk.i64_left]; unfold wrap64; omega
    clear g1 hr hn hm h0 hx
    go_enter Tryz.func231, Tryz.ntmps231
    go_wp2_with fail
    refine wp_region_noPanic ?_
    refine wp_region_held_drew (S := fun w' => Below w.heap.size w w') (by kernel_rfl) (b0 w).drew (fun hH => ?_)
    generalize w.drew = WW at *
    refine held_take (i := 0) (d := 29) (v := ?_) rfl (by kernel_rfl) (by kernel_rfl) (by kernel_rfl) rfl (fun _ _ _ h => h) rfl hH (fun w' hS => ?_) ?_
    rotate_left
    ·go_simp; first | done | with_reducible rfl | (rw [hw2]; done) | (rw [hw2]; rfl) | (rw [hw1]; done) | (rw [hw1]; rfl) | (rw [hw3]; done) | (rw [hw3]; rfl) | (simp only [hw1, hw3]; done)
    simp only [List.set_cons_zero, List.set_cons_succ]
    refine held_take (i := 1) (d := 30) (v := .int .i64 m) rfl (by kernel_rfl) (by kernel_rfl) (by kernel_rfl) rfl (fun _ _ _ h => h) rfl hH (fun w' hS => ?_) ?_
    ·go_simp; first | done | with_reducible rfl | (rw [hw2]; done) | (rw [hw2]; rfl) | (rw [hw1]; done) | (rw [hw1]; rfl) | (rw [hw3]; done) | (rw [hw3]; rfl) | (simp only [hw1, hw3]; done)
    simp only [List.set_cons_zero, List.set_cons_succ]
    refine held_take (i := 3) (d := 32) (v := ?_) rfl (by kernel_rfl) (by kernel_rfl) (by kernel_rfl) rfl (fun _ _ _ h => h) rfl hH (fun w' hS => ?_) ?_
    rotate_left
    ·go_simp; first | done | with_reducible rfl | (rw [hw2]; done) | (rw [hw2]; rfl) | (rw [hw1]; done) | (rw [hw1]; rfl) | (rw [hw3]; done) | (rw [hw3]; rfl) | (simp only [hw1, hw3]; done)
    simp only [List.set_cons_zero, List.set_cons_succ]
    refine held_take (i := 4) (d := 33) (v := .int .i64 (48 + (x : Int))) rfl (by kernel_rfl) (by kernel_rfl) (by kernel_rfl) rfl (fun _ _ _ h => h) rfl hH (fun w' hS => ?_) ?_
    ·go_simp; first | done | with_reducible rfl | (rw [hw2]; done) | (rw [hw2]; rfl) | (rw [hw1]; done) | (rw [hw1]; rfl) | (rw [hw3]; done) | (rw [hw3]; rfl) | (simp only [hw1, hw3]; done)
    simp only [List.set_cons_zero, List.set_cons_succ]
    refine held_take (i := 5) (d := 34) (v := .int .u8 (48 + (x : Int))) rfl (by kernel_rfl) (by kernel_rfl) (by kernel_rfl) rfl (fun _ _ _ h => h) rfl hH (fun w' hS => ?_) ?_
    ·go_simp; first | done | with_reducible rfl | (rw [hw2]; done) | (rw [hw2]; rfl) | (rw [hw1]; done) | (rw [hw1]; rfl) | (rw [hw3]; done) | (rw [hw3]; rfl) | (simp only [hw1, hw3]; done)
    simp only [List.set_cons_zero, List.set_cons_succ]
    refine held_two (i := 2) (j := 6) rfl rfl (by kernel_rfl) rfl rfl (fun K hK => ?_) (fun K hK => ?_)
    ·go_simp
     refine (IH.out _).mono ?_
     rintro e w6 ⟨rfl, b6⟩
     refine hK.out _ _ (hH.trans (b6.mono hH.size)) (fun hH => ?_)
     clear hK K b6
     refine held_only (i := 6) rfl (by kernel_rfl) rfl (fun K hK => ?_)
     go_simp
     have CC := Lib.hid (byte_new w6 (48 + (x : Int)))
     refine hK.out _ _ (hH.alloc hH.size _) (fun hH => ?_)
     clear hK K
     refine held_only (i := 7) rfl (by kernel_rfl) rfl (fun K hK => ?_)
     have cv := one_cv _ _ _ x CC.out rfl (by omega)
     rw [HY.out] at cv
     go_simp
     refine hK.out _ _ hH (fun hH => ?_)
     clear hK K cv
     refine held_only (i := 8) rfl (by kernel_rfl) rfl (fun K hK => ?_)
     have ad := A.out
     go_simp
     refine hK.out _ _ hH (fun hH => ?_)
     clear hK K
     refine held_only (i := 9) rfl (by kernel_rfl) rfl (fun K hK => ?_)
     go_simp
     refine hK.out _ _ hH (fun hH => ?_)
     clear hK K
     refine wpAnyH_done (by kernel_rfl) ?_ _
     refine noPanic_of ?_
     have HB := Lib.hid hH
     clear hH
     go_wp2_with fail
     go_ret
     exact ⟨by rw [HL.out]; rfl, HB.out⟩
    ·go_simp
     have CC := Lib.hid (byte_new WW (48 + (x : Int)))
     refine hK.out _ _ (hH.alloc hH.size _) (fun hH => ?_)
     clear hK K
     refine held_two (i := 2) (j := 7) rfl rfl (by kernel_rfl) rfl rfl (fun K hK => ?_) (fun K hK => ?_)
     ·go_simp
      refine (IH.out _).mono ?_
      rintro e w6 ⟨rfl, b6⟩
      replace CC := Lib.hid (dec.keeps b6 CC.out)
      refine hK.out _ _ (hH.trans (b6.mono hH.size)) (fun hH => ?_)
      clear hK K b6
      refine held_only (i := 7) rfl (by kernel_rfl) rfl (fun K hK => ?_)
      have cv := one_cv _ _ _ x CC.out rfl (by omega)
      rw [HY.out] at cv
      go_simp
      refine hK.out _ _ hH (fun hH => ?_)
      clear hK K cv
      refine held_only (i := 8) rfl (by kernel_rfl) rfl (fun K hK => ?_)
      have ad := A.out
      go_simp
      refine hK.out _ _ hH (fun hH => ?_)
      clear hK K
      refine held_only (i := 9) rfl (by kernel_rfl) rfl (fun K hK => ?_)
      go_simp
      refine hK.out _ _ hH (fun hH => ?_)
      clear hK K
      refine wpAnyH_done (by kernel_rfl) ?_ _
      refine noPanic_of ?_
      have HB := Lib.hid hH
      clear hH
      go_wp2_with fail
      go_ret
      exact ⟨by rw [HL.out]; rfl, HB.out⟩
     ·have cv := one_cv _ _ _ x CC.out rfl (by omega)
      rw [HY.out] at cv
      go_simp
      refine hK.out _ _ hH (fun hH => ?_)
      clear hK K cv
      refine held_only (i := 2) rfl (by kernel_rfl) rfl (fun K hK => ?_)
      go_simp
      refine (IH.out _).mono ?_
      rintro e w6 ⟨rfl, b6⟩
      refine hK.out _ _ (hH.trans (b6.mono hH.size)) (fun hH => ?_)
      clear hK K b6
      refine held_only (i := 8) rfl (by kernel_rfl) rfl (fun K hK => ?_)
      have ad := A.out
      go_simp
      refine hK.out _ _ hH (fun hH => ?_)
      clear hK K
      refine held_only (i := 9) rfl (by kernel_rfl) rfl (fun K hK => ?_)
      go_simp
      refine hK.out _ _ hH (fun hH => ?_)
      clear hK K
      refine wpAnyH_done (by kernel_rfl) ?_ _
      refine noPanic_of ?_
      have HB := Lib.hid hH
      clear hH
      go_wp2_with fail
      go_ret
      exact ⟨by rw [HL.out]; rfl, HB.out⟩
   ·rw [← hr] at g1
    have q4 : decide (r < 0) = true := decide_eq_true (by omega)
    have hwr : IntKind.i64.wrap r = r := by rw [IntWalk.i64_left]; unfold wrap64; omega
    have hwn : IntKind.i64.wrap (-r) = (x : Int) := by rw [IntWalk.i64_left]; unfold wrap64; omega
    have hwn2 : wrap64 (-r) = (x : Int) := by unfold wrap64; omega
    have hwn3 : -r = (x : Int) := by omega
    clear hr hn hm h0 hx
    go_enter Tryz.func231, Tryz.ntmps231
    go_wp2_with fail
    refine wp_region_noPanic ?_
    refine wp_region_held_drew (S := fun w' => Below w.heap.size w w') (by kernel_rfl) (b0 w).drew (fun hH => ?_)
    generalize w.drew = WW at *
    refine held_take (i := 0) (d := 29) (v := ?_) rfl (by kernel_rfl) (by kernel_rfl) (by kernel_rfl) rfl (fun _ _ _ h => h) rfl hH (fun w' hS => ?_) ?_
    rotate_left
    ·go_simp; first | done | with_reducible rfl | (rw [hw2]; done) | (rw [hw2]; rfl) | (rw [hw1]; done) | (rw [hw1]; rfl) | (rw [hw3]; done) | (rw [hw3]; rfl) | (simp only [hw1, hw3]; done)
    simp only [List.set_cons_zero, List.set_cons_succ]
    refine held_take (i := 1) (d := 30) (v := .int .i64 m) rfl (by kernel_rfl) (by kernel_rfl) (by kernel_rfl) rfl (fun _ _ _ h => h) rfl hH (fun w' hS => ?_) ?_
    ·go_simp; first | done | with_reducible rfl | (rw [hw2]; done) | (rw [hw2]; rfl) | (rw [hw1]; done) | (rw [hw1]; rfl) | (rw [hw3]; done) | (rw [hw3]; rfl) | (simp only [hw1, hw3]; done)
    simp only [List.set_cons_zero, List.set_cons_succ]
    refine held_take (i := 3) (d := 32) (v := ?_) rfl (by kernel_rfl) (by kernel_rfl) (by kernel_rfl) rfl (fun _ _ _ h => h) rfl hH (fun w' hS => ?_) ?_
    rotate_left
    ·go_simp; first | done | with_reducible rfl | (rw [hw2]; done) | (rw [hw2]; rfl) | (rw [hw1]; done) | (rw [hw1]; rfl) | (rw [hw3]; done) | (rw [hw3]; rfl) | (simp only [hw1, hw3]; done)
    simp only [List.set_cons_zero, List.set_cons_succ]
    refine held_take (i := 4) (d := 33) (v := .int .i64 (48 + (x : Int))) rfl (by kernel_rfl) (by kernel_rfl) (by kernel_rfl) rfl (fun _ _ _ h => h) rfl hH (fun w' hS => ?_) ?_
    ·go_simp; first | done | with_reducible rfl | (rw [hw2]; done) | (rw [hw2]; rfl) | (rw [hw1]; done) | (rw [hw1]; rfl) | (rw [hw3]; done) | (rw [hw3]; rfl) | (simp only [hw1, hw3]; done)
    simp only [List.set_cons_zero, List.set_cons_succ]
    refine held_take (i := 5) (d := 34) (v := .int .u8 (48 + (x : Int))) rfl (by kernel_rfl) (by kernel_rfl) (by kernel_rfl) rfl (fun _ _ _ h => h) rfl hH (fun w' hS => ?_) ?_
    ·go_simp; first | done | with_reducible rfl | (rw [hw2]; done) | (rw [hw2]; rfl) | (rw [hw1]; done) | (rw [hw1]; rfl) | (rw [hw3]; done) | (rw [hw3]; rfl) | (simp only [hw1, hw3]; done)
    simp only [List.set_cons_zero, List.set_cons_succ]
    refine held_two (i := 2) (j := 6) rfl rfl (by kernel_rfl) rfl rfl (fun K hK => ?_) (fun K hK => ?_)
    ·go_simp
     refine (IH.out _).mono ?_
     rintro e w6 ⟨rfl, b6⟩
     refine hK.out _ _ (hH.trans (b6.mono hH.size)) (fun hH => ?_)
     clear hK K b6
     refine held_only (i := 6) rfl (by kernel_rfl) rfl (fun K hK => ?_)
     go_simp
     have CC := Lib.hid (byte_new w6 (48 + (x : Int)))
     refine hK.out _ _ (hH.alloc hH.size _) (fun hH => ?_)
     clear hK K
     refine held_only (i := 7) rfl (by kernel_rfl) rfl (fun K hK => ?_)
     have cv := one_cv _ _ _ x CC.out rfl (by omega)
     rw [HY.out] at cv
     go_simp
     refine hK.out _ _ hH (fun hH => ?_)
     clear hK K cv
     refine held_only (i := 8) rfl (by kernel_rfl) rfl (fun K hK => ?_)
     have ad := A.out
     go_simp
     refine hK.out _ _ hH (fun hH => ?_)
     clear hK K
     refine held_only (i := 9) rfl (by kernel_rfl) rfl (fun K hK => ?_)
     go_simp
     refine hK.out _ _ hH (fun hH => ?_)
     clear hK K
     refine wpAnyH_done (by kernel_rfl) ?_ _
     refine noPanic_of ?_
     have HB := Lib.hid hH
     clear hH
     go_wp2_with fail
     go_ret
     exact ⟨by rw [HL.out]; rfl, HB.out⟩
    ·go_simp
     have CC := Lib.hid (byte_new WW (48 + (x : Int)))
     refine hK.out _ _ (hH.alloc hH.size _) (fun hH => ?_)
     clear hK K
     refine held_two (i := 2) (j := 7) rfl rfl (by kernel_rfl) rfl rfl (fun K hK => ?_) (fun K hK => ?_)
     ·go_simp
      refine (IH.out _).mono ?_
      rintro e w6 ⟨rfl, b6⟩
      replace CC := Lib.hid (dec.keeps b6 CC.out)
      refine hK.out _ _ (hH.trans (b6.mono hH.size)) (fun hH => ?_)
      clear hK K b6
      refine held_only (i := 7) rfl (by kernel_rfl) rfl (fun K hK => ?_)
      have cv := one_cv _ _ _ x CC.out rfl (by omega)
      rw [HY.out] at cv
      go_simp
      refine hK.out _ _ hH (fun hH => ?_)
      clear hK K cv
      refine held_only (i := 8) rfl (by kernel_rfl) rfl (fun K hK => ?_)
      have ad := A.out
      go_simp
      refine hK.out _ _ hH (fun hH => ?_)
      clear hK K
      refine held_only (i := 9) rfl (by kernel_rfl) rfl (fun K hK => ?_)
      go_simp
      refine hK.out _ _ hH (fun hH => ?_)
      clear hK K
      refine wpAnyH_done (by kernel_rfl) ?_ _
      refine noPanic_of ?_
      have HB := Lib.hid hH
      clear hH
      go_wp2_with fail
      go_ret
      exact ⟨by rw [HL.out]; rfl, HB.out⟩
     ·have cv := one_cv _ _ _ x CC.out rfl (by omega)
      rw [HY.out] at cv
      go_simp
      refine hK.out _ _ hH (fun hH => ?_)
      clear hK K cv
      refine held_only (i := 2) rfl (by kernel_rfl) rfl (fun K hK => ?_)
      go_simp
      refine (IH.out _).mono ?_
      rintro e w6 ⟨rfl, b6⟩
      refine hK.out _ _ (hH.trans (b6.mono hH.size)) (fun hH => ?_)
      clear hK K b6
      refine held_only (i := 8) rfl (by kernel_rfl) rfl (fun K hK => ?_)
      have ad := A.out
      go_simp
      refine hK.out _ _ hH (fun hH => ?_)
      clear hK K
      refine held_only (i := 9) rfl (by kernel_rfl) rfl (fun K hK => ?_)
      go_simp
      refine hK.out _ _ hH (fun hH => ?_)
      clear hK K
      refine wpAnyH_done (by kernel_rfl) ?_ _
      refine noPanic_of ?_
      have HB := Lib.hid hH
      clear hH
      go_wp2_with fail
      go_ret
      exact ⟨by rw [HL.out]; rfl, HB.out⟩
theorem rdig_any (n : Int) (h0 : -9223372036854775808 ≤ n) (h1 : n ≤ 9223372036854775807) (w : World) :
  Calls Tryz.prog 231 #[.int .i64 n] w fun e w' => e = .returned (.string ⟨(Lib.itoa n).toArray⟩) ∧ Below w.heap.size w w' := by
 unfold Lib.itoa
 by_cases h : n < 0
 ·rw [if_pos h]
  exact dgs_neg n.natAbs (by omega) (by omega) n (by omega) w
 ·rw [if_neg h]
  have := dgs_pos n.toNat (by omega) w
  rwa [show ((n.toNat : Nat) : Int) = n by omega] at this
end Go.Proofs.YtbahfelnbofjjaaGreatDoor.un
namespace Go.Proofs.YtbahfelnbofjjaaGreatDoor.un
open Go.RowKit dec
theorem infoU : (Tryz.prog.info? 5).map (fun i => (i.zero, i.size, i.bytes)) = some (some (.int .u8 0), 1, 1) := by kernel_rfl
def bv (l : List UInt8) : List Value := l.map fun c => Value.int .u8 (c.toNat : Int)
theorem bv_len (l : List UInt8) : (bv l).length = l.length := by unfold bv; rw [List.length_map]
theorem bv_append (l r : List UInt8) : bv (l ++ r) = bv l ++ bv r := by unfold bv; rw [List.map_append]
theorem strCells_bv (s : ByteArray) : Lib.strCells s = bv s.data.toList := by
 unfold Lib.strCells bv
 simp
def OB (w : World) (base : Nat) (v : Value) (l : List UInt8) : Prop := w.ownsRow base 5 1 v l.length (bv l)
theorem OB.nil (w : World) (base : Nat) : OB w base (.slice none 0 0) [] := World.ownsRow_nil _ _ _ _
theorem OB.keeps {w w1 : World} {base : Nat} {v : Value} {l : List UInt8} (h : OB w base v l) (hb : Below w.heap.size w w1) : OB w1 base v l := by
 obtain ⟨h1, h2⟩ := h
 refine ⟨h1, ?_⟩
 rcases h2 with h0 | ⟨g, cap, cur, e, hbg, hh, r⟩
 ·exact .inl h0
 ·refine .inr ⟨g, cap, cur, e, hbg, ?_, r⟩
  have : g < w.heap.size := by
   rcases Nat.lt_or_ge g w.heap.size with h' | h'
   ·exact h'
   ·rw [Array.getElem?_eq_none h'] at hh; cases hh
  rw [hb.block _ this]
  exact hh
theorem wpList_pushB (w : World) {ops : Array Oper} {rest : List Oper} {o : Oper} {a : Act} {Q : Exit → Act → World → Prop} (hgd : o.guard = none) (s x : Operand)
  (ho : o.op = .call { callee := .builtin .append, args := #[s, x], argTypes := #[56, 56] })
  (base : Nat) (v : Value) (l : List UInt8) (hs : a.eval s = v) (hown : OB w base v l) (b : Nat) (t : UInt8) (hx : a.eval x = .slice (some ⟨b, 0, none⟩) 1 1) (hB : w.cell? ⟨b, 0, none⟩ = some (.int .u8 (t.toNat : Int)))
  (hn : l.length < 140737488355328) (hbase : base ≤ w.heap.size)
  (h : ∀ v' w', OB w' base v' (l ++ [t]) → Below base w w' → wpList Tryz.prog ops Q rest (a.put o.dst v') w') : wpList Tryz.prog ops Q (o :: rest) a w := by
 refine wpList_plain hgd fun _ hK => ?_
 obtain ⟨i, hi, hz0, hz1, hz2⟩ := info_parts infoU
 refine wp_append_own w s x 56 ho base 5 i (.int .u8 0) 1 1 Tryz.underlying56 hi hz0 hz1 hz2 rfl (by decide) v l.length (bv l) hs hown ⟨b, 0, none⟩ 1 1 [.int .u8 (t.toNat : Int)] hx rfl ?_ (fun u hu => by simp at hu; subst hu; rfl)
  (by unfold maxLen; omega) (by omega) hbase fun v' w' h1 h2 _ => hK _ _ (h v' w' (by unfold OB; rw [bv_append, List.length_append]; exact h1) ((Below.refl base w).grown h2 hbase fun k hk => (hown.lt k hk).1))
 intro j u hu
 match j, hu with
 | 0, hu => simp at hu; subst hu; exact hB
 | j + 1, hu => simp at hu
theorem wpList_catB (w : World) {ops : Array Oper} {rest : List Oper} {o : Oper} {a : Act} {Q : Exit → Act → World → Prop} (hgd : o.guard = none) (s x : Operand)
  (ho : o.op = .call { callee := .builtin .append, args := #[s, x], argTypes := #[56, 9] })
  (base : Nat) (v : Value) (l : List UInt8) (hs : a.eval s = v) (hown : OB w base v l) (t : ByteArray) (hx : a.eval x = .string t)
  (hn : l.length + t.size ≤ 140737488355328) (hbase : base ≤ w.heap.size)
  (h : ∀ v' w', OB w' base v' (l ++ t.data.toList) → Below base w w' → wpList Tryz.prog ops Q rest (a.put o.dst v') w') : wpList Tryz.prog ops Q (o :: rest) a w := by
 obtain ⟨i, hi, hz0, hz1, hz2⟩ := info_parts infoU
 refine Lib.wpList_append_own_string w hgd s x 56 9 ho base 5 i Tryz.underlying56 Tryz.underlying9 hi hz0 hz1 hz2 v l.length (bv l) hs hown t hx (by unfold maxLen; omega) hn hbase fun v' w' h1 h2 _ => h v' w' ?_ ((Below.refl base w).grown h2 hbase fun k hk => (hown.lt k hk).1)
 unfold OB
 rw [bv_append, List.length_append, ← strCells_bv]
 rw [show t.data.toList.length = t.size from by rw [Array.length_toList]; rfl]
 exact h1
theorem is_appB {w : World} {ops : Array Oper} {rest : List Oper} {o : Oper} {a : Act} {Q : Exit → Act → World → Prop} (s x : Operand) (_ : o.op = .call { callee := .builtin .append, args := #[s, x], argTypes := #[56, 56] })
  (k : wpList Tryz.prog ops Q (o :: rest) a w) : wpList Tryz.prog ops Q (o :: rest) a w := k
theorem is_appT {w : World} {ops : Array Oper} {rest : List Oper} {o : Oper} {a : Act} {Q : Exit → Act → World → Prop} (s x : Operand) (_ : o.op = .call { callee := .builtin .append, args := #[s, x], argTypes := #[56, 9] })
  (k : wpList Tryz.prog ops Q (o :: rest) a w) : wpList Tryz.prog ops Q (o :: rest) a w := k
theorem OB.str {w : World} {base : Nat} {v : Value} {l : List UInt8} (h : OB w base v l) : (convert 56 9 v).run Tryz.prog w = .ok (.string ⟨l.toArray⟩) w := by
 obtain ⟨h1, h2⟩ := id h
 rcases h2 with ⟨rfl, h0⟩ | ⟨g, cap, cur, rfl, hbg, hh, hc, hm, hs, ht⟩
 ·have hz : l = [] := List.eq_nil_of_length_eq_zero h0
  subst hz
  exact run_convert_bytes_nil (P := Tryz.prog) (w := w) 56 5 Tryz.underlying56 Tryz.underlying5 0 0 _ Tryz.underlying9
 ·rw [run_convert_bytes_arg w 56 5 Tryz.underlying56 Tryz.underlying5 g 0 l.length cap (l.map fun c => (c.toNat : Int)) (by rw [List.length_map]) ?_ _ Tryz.underlying9]
  ·congr 2
   unfold strOfNums
   rw [List.map_map]
   congr 2
   refine (List.map_congr_left fun c _ => ?_).trans (List.map_id l)
   simp
  ·intro i hi
   rw [Nat.zero_add, World.ownsRow.cellAt h i (by simpa using hi)]
   unfold bv
   rw [List.getElem?_map, List.getElem?_eq_getElem hi, List.getD_eq_getElem?_getD, List.getElem?_map, List.getElem?_eq_getElem hi]
   rfl
theorem join_snoc (x : List UInt8) : ∀ l : List (List UInt8), Lib.join (l ++ [x]) [42] = if l = [] then x else Lib.join l [42] ++ 42 :: x
 | [] => by rw [if_pos rfl, List.nil_append, Lib.join_one]
 | y :: l => by
  rw [if_neg (by simp), List.cons_append, Lib.join_cons, Lib.join_cons]
  unfold Lib.joinTail
  simp
end Go.Proofs.YtbahfelnbofjjaaGreatDoor.un
namespace Go.Proofs.YtbahfelnbofjjaaGreatDoor.un
open Go.RowKit dec
theorem less_dn2 {n d : Nat} (h : d < n) : n - (intOf (Value.int .i64 ((d : Int) + 1))).toNat < n - (intOf (Value.int .i64 (d : Int))).toNat := by
 show n - (((d : Int) + 1)).toNat < n - ((d : Nat) : Int).toNat
 omega
theorem fT_next {l : List Fa} {j : Nat} (h : j < l.length) : fT (l.take (j + 1)) = if j = 0 then f1 (gt l j) else fT (l.take j) ++ 42 :: f1 (gt l j) := by
 unfold fT
 rw [take_gt h, List.map_append, List.map_singleton, join_snoc]
 by_cases h0 : j = 0
 ·subst h0
  simp
 ·rw [if_neg h0, if_neg]
  intro e
  have hl := congrArg List.length e
  rw [List.length_map, List.length_take, List.length_nil] at hl
  omega
theorem str_len (s : ByteArray) : s.data.toList.length = s.size := by rw [Array.length_toList]; rfl
theorem rformat_any (a : Option Addr) (n cap : Nat) (l : List Fa) (w : World) (hS : Sl w a n cap l) (hx : ∀ x ∈ l, -9223372036854775808 ≤ x.2 ∧ x.2 ≤ 9223372036854775807) (ht : ∀ j, (fT (l.take j)).length ≤ 140737488355328) :
  Calls Tryz.prog 164 #[.slice a n cap] w fun e w' => e = .returned (.string ⟨(fT l).toArray⟩) ∧ Below w.heap.size w w' := by
 have S0 := Lib.hid hS
 have X0 := Lib.hid hx
 have T0 := Lib.hid ht
 clear hS hx ht
 go_enter Tryz.func164, Tryz.ntmps164
 go_wp2_with fail
 go_loopw [3, 4] (fun vo vi wr => ∃ j : Nat, vi = .int .i64 (j : Nat) ∧ Hid (j ≤ n) ∧ Hid (OB wr w.heap.size vo (fT (l.take j))) ∧ Hid (Below w.heap.size w wr)) (fun _ vi _ => n - (intOf vi).toNat)
 case atStart => exact ⟨0, rfl, Lib.hid (Nat.zero_le _), Lib.hid (OB.nil _ _), Lib.hid (b0 w)⟩
 case round =>
  obtain ⟨j, rfl, hj, hO, hb⟩ := hrel
  by_cases hc : j < n
  ·have hln := Lib.hid (show j < l.length by have := S0.out.hn; omega)
   obtain ⟨bk, off, rfl, hC⟩ := S0.out.hat.resolve_left (by have := hln.out; omega)
   have C0 := Lib.hid (hC j hln.out).1
   have C1 := Lib.hid (hC j hln.out).2
   have q2 : decide ((j : Int) < (n : Int)) = true := decide_eq_true (by omega)
   have q3 : j < n := hc
   have f4 := Lib.hid (next_at (j := j) (by have := S0.out.hcap; have := S0.out.hmax; omega))
   have hnx := fT_next hln.out
   have hxr := X0.out _ (gt_mem hln.out)
   have htl := T0.out (j + 1)
   clear hC
   generalize gt l j = x at C0 C1 hnx hxr
   obtain ⟨nm, y⟩ := x
   simp only at C0 C1 hxr
   have DC := Lib.hid (fun W => rdig_any y hxr.1 hxr.2 W)
   have hsz := str_len nm
   have hit := str_len ⟨(Lib.itoa y).toArray⟩
   clear hxr
   obtain ⟨it, hitq⟩ : ∃ it : ByteArray, it = ⟨(Lib.itoa y).toArray⟩ := ⟨_, rfl⟩
   have hitd : Lib.itoa y = it.data.toList := by rw [hitq]
   rw [← hitq] at DC hit
   rw [show f1 (nm, y) = if y = 1 then nm.data.toList else nm.data.toList ++ 94 :: it.data.toList by unfold f1; rw [hitd]] at hnx
   clear hitq hitd
   obtain ⟨L0, hL0⟩ : ∃ L, fT (l.take j) = L := ⟨_, rfl⟩
   rw [hL0] at hO hnx
   by_cases h0 : j = 0
   ·have q6 : decide ((0 : Int) < (j : Int)) = false := decide_eq_false (by omega)
    have q7 : decide (0 < j) = false := decide_eq_false (by omega)
    have hz : L0 = [] := by rw [← hL0, h0]; rfl
    rw [if_pos h0] at hnx
    by_cases h1 : y = 1
    ·rw [if_pos h1] at hnx
     have q8 : (y != 1) = false := by rw [bne_eq_false_iff_eq]; exact h1
     have HL := Lib.hid (show fT (l.take (j + 1)) = L0 ++ nm.data.toList by rw [hnx, hz]; rfl)
     have hlen := Lib.hid (show L0.length + nm.size ≤ 140737488355328 by rw [HL.out, List.length_append, hsz] at htl; exact htl)
     clear hnx htl hsz hit hL0 hz h0
     replace h1 := Lib.hid h1
     have c0 := dec.keeps hb.out C0.out
     go_upto_region 8 with (at_builtin; refine is_appT (.tmp 16) (.tmp 21) rfl ?_; refine wpList_catB _ rfl (.tmp 16) (.tmp 21) rfl w.heap.size _ (L0) rfl hO.out nm rfl (by have := hlen.out; (try simp only [List.length_append, List.length_cons, List.length_nil]); omega) hb.out.size ?_; intro v2 z2 o2 e2)
     have B2 := Lib.hid (hb.out.trans e2)
     have O2 := Lib.hid o2
     clear e2 o2
     clear c0
     have c1 := dec.keeps B2.out C1.out
     go_wp2_with fail
     clear c1
     refine ⟨⟨j + 1, by first | exact congrArg (Value.int .i64) f4.out | rfl, Lib.hid hc, Lib.hid (by rw [HL.out]; simpa using O2.out), B2⟩, by first | exact less_at hc f4.out | exact less_dn2 hc⟩
    ·rw [if_neg h1] at hnx
     have q8 : (y != 1) = true := by rw [bne_iff_ne]; exact h1
     have HL := Lib.hid (show fT (l.take (j + 1)) = L0 ++ (nm.data.toList ++ 94 :: it.data.toList) by rw [hnx, hz]; rfl)
     have hlen := Lib.hid (show L0.length + nm.data.toList.length + 1 + it.size ≤ 140737488355328 ∧ nm.data.toList.length = nm.size by rw [HL.out] at htl; simp only [List.length_append, List.length_cons, hit] at htl; exact ⟨by omega, hsz⟩)
     clear hnx htl hsz hit hL0 hz h0
     replace h1 := Lib.hid h1
     have c0 := dec.keeps hb.out C0.out
     go_upto_region 8 with (at_builtin; refine is_appT (.tmp 16) (.tmp 21) rfl ?_; refine wpList_catB _ rfl (.tmp 16) (.tmp 21) rfl w.heap.size _ (L0) rfl hO.out nm rfl (by have := hlen.out; (try simp only [List.length_append, List.length_cons, List.length_nil]); omega) hb.out.size ?_; intro v2 z2 o2 e2)
     have B2 := Lib.hid (hb.out.trans e2)
     have O2 := Lib.hid o2
     clear e2 o2
     clear c0
     have c1 := dec.keeps B2.out C1.out
     go_upto_region 10 with (at_builtin; go_loud (refine is_appB (.tmp 29) (.tmp 30) rfl ?_; refine wpList_pushB _ rfl (.tmp 29) (.tmp 30) rfl w.heap.size _ (L0 ++ nm.data.toList) rfl (O2.out.keeps (balloc (b0 z2) _)) z2.heap.size 94 rfl (by simp [go_sem]) (by have := hlen.out; (try simp only [List.length_append, List.length_cons, List.length_nil]); omega) (balloc B2.out _).size ?_; intro v3 z3 o3 e3))
     have B3 := Lib.hid ((balloc B2.out _).trans e3)
     have O3 := Lib.hid o3
     clear e3 o3
     clear c1
     have c1 := dec.keeps B3.out C1.out
     go_wp2_with fail
     refine (DC.out _).mono ?_
     rintro e z5 ⟨rfl, b5⟩
     have O5 := Lib.hid (O3.out.keeps b5)
     have B5 := Lib.hid (bnext B3.out b5)
     clear b5 c1
     go_wp2_with (at_builtin; refine is_appT (.tmp 32) (.tmp 38) rfl ?_; refine wpList_catB _ rfl (.tmp 32) (.tmp 38) rfl w.heap.size _ (L0 ++ nm.data.toList ++ [94]) rfl O5.out it rfl (by have := hlen.out; (try simp only [List.length_append, List.length_cons, List.length_nil]); omega) B5.out.size ?_; intro v6 z6 o6 e6)
     have B6 := Lib.hid (B5.out.trans e6)
     have O6 := Lib.hid o6
     clear e6 o6
     go_wp2_with fail
     refine ⟨⟨j + 1, by first | exact congrArg (Value.int .i64) f4.out | rfl, Lib.hid hc, Lib.hid (by rw [HL.out]; simpa using O6.out), B6⟩, by first | exact less_at hc f4.out | exact less_dn2 hc⟩
   ·have q6 : decide ((0 : Int) < (j : Int)) = true := decide_eq_true (by omega)
    have q7 : decide (0 < j) = true := decide_eq_true (by omega)
    rw [if_neg h0] at hnx
    by_cases h1 : y = 1
    ·rw [if_pos h1] at hnx
     have q8 : (y != 1) = false := by rw [bne_eq_false_iff_eq]; exact h1
     have HL := Lib.hid hnx
     have hlen := Lib.hid (show L0.length + 1 + nm.size ≤ 140737488355328 by rw [HL.out] at htl; simp only [List.length_append, List.length_cons, hsz] at htl; omega)
     clear hnx htl hsz hit hL0 h0
     replace h1 := Lib.hid h1
     go_upto_region 7 with (at_builtin; go_loud (refine is_appB (.tmp 13) (.tmp 14) rfl ?_; refine wpList_pushB _ rfl (.tmp 13) (.tmp 14) rfl w.heap.size _ (L0) rfl (hO.out.keeps (balloc (b0 wr) _)) wr.heap.size 42 rfl (by simp [go_sem]) (by have := hlen.out; (try simp only [List.length_append, List.length_cons, List.length_nil]); omega) (balloc hb.out _).size ?_; intro v1 z1 o1 e1))
     have B1 := Lib.hid ((balloc hb.out _).trans e1)
     have O1 := Lib.hid o1
     clear e1 o1
     have c0 := dec.keeps B1.out C0.out
     have c1 := dec.keeps B1.out C1.out
     go_upto_region 8 with (at_builtin; refine is_appT (.tmp 16) (.tmp 21) rfl ?_; refine wpList_catB _ rfl (.tmp 16) (.tmp 21) rfl w.heap.size _ (L0 ++ [42]) rfl O1.out nm rfl (by have := hlen.out; (try simp only [List.length_append, List.length_cons, List.length_nil]); omega) B1.out.size ?_; intro v2 z2 o2 e2)
     have B2 := Lib.hid (B1.out.trans e2)
     have O2 := Lib.hid o2
     clear e2 o2
     clear c0
     clear c1
     have c1 := dec.keeps B2.out C1.out
     go_wp2_with fail
     clear c1
     refine ⟨⟨j + 1, by first | exact congrArg (Value.int .i64) f4.out | rfl, Lib.hid hc, Lib.hid (by rw [HL.out]; simpa using O2.out), B2⟩, by first | exact less_at hc f4.out | exact less_dn2 hc⟩
    ·rw [if_neg h1] at hnx
     have q8 : (y != 1) = true := by rw [bne_iff_ne]; exact h1
     have HL := Lib.hid hnx
     have hlen := Lib.hid (show L0.length + 1 + nm.data.toList.length + 1 + it.size ≤ 140737488355328 ∧ nm.data.toList.length = nm.size by rw [HL.out] at htl; simp only [List.length_append, List.length_cons, hit] at htl; exact ⟨by omega, hsz⟩)
     clear hnx htl hsz hit hL0 h0
     replace h1 := Lib.hid h1
     go_upto_region 7 with (at_builtin; go_loud (refine is_appB (.tmp 13) (.tmp 14) rfl ?_; refine wpList_pushB _ rfl (.tmp 13) (.tmp 14) rfl w.heap.size _ (L0) rfl (hO.out.keeps (balloc (b0 wr) _)) wr.heap.size 42 rfl (by simp [go_sem]) (by have := hlen.out; (try simp only [List.length_append, List.length_cons, List.length_nil]); omega) (balloc hb.out _).size ?_; intro v1 z1 o1 e1))
     have B1 := Lib.hid ((balloc hb.out _).trans e1)
     have O1 := Lib.hid o1
     clear e1 o1
     have c0 := dec.keeps B1.out C0.out
     have c1 := dec.keeps B1.out C1.out
     go_upto_region 8 with (at_builtin; refine is_appT (.tmp 16) (.tmp 21) rfl ?_; refine wpList_catB _ rfl (.tmp 16) (.tmp 21) rfl w.heap.size _ (L0 ++ [42]) rfl O1.out nm rfl (by have := hlen.out; (try simp only [List.length_append, List.length_cons, List.length_nil]); omega) B1.out.size ?_; intro v2 z2 o2 e2)
     have B2 := Lib.hid (B1.out.trans e2)
     have O2 := Lib.hid o2
     clear e2 o2
     clear c0
     clear c1
     have c1 := dec.keeps B2.out C1.out
     go_upto_region 10 with (at_builtin; go_loud (refine is_appB (.tmp 29) (.tmp 30) rfl ?_; refine wpList_pushB _ rfl (.tmp 29) (.tmp 30) rfl w.heap.size _ (L0 ++ [42] ++ nm.data.toList) rfl (O2.out.keeps (balloc (b0 z2) _)) z2.heap.size 94 rfl (by simp [go_sem]) (by have := hlen.out; (try simp only [List.length_append, List.length_cons, List.length_nil]); omega) (balloc B2.out _).size ?_; intro v3 z3 o3 e3))
     have B3 := Lib.hid ((balloc B2.out _).trans e3)
     have O3 := Lib.hid o3
     clear e3 o3
     clear c1
     have c1 := dec.keeps B3.out C1.out
     go_wp2_with fail
     refine (DC.out _).mono ?_
     rintro e z5 ⟨rfl, b5⟩
     have O5 := Lib.hid (O3.out.keeps b5)
     have B5 := Lib.hid (bnext B3.out b5)
     clear b5 c1
     go_wp2_with (at_builtin; refine is_appT (.tmp 32) (.tmp 38) rfl ?_; refine wpList_catB _ rfl (.tmp 32) (.tmp 38) rfl w.heap.size _ (L0 ++ [42] ++ nm.data.toList ++ [94]) rfl O5.out it rfl (by have := hlen.out; (try simp only [List.length_append, List.length_cons, List.length_nil]); omega) B5.out.size ?_; intro v6 z6 o6 e6)
     have B6 := Lib.hid (B5.out.trans e6)
     have O6 := Lib.hid o6
     clear e6 o6
     go_wp2_with fail
     refine ⟨⟨j + 1, by first | exact congrArg (Value.int .i64) f4.out | rfl, Lib.hid hc, Lib.hid (by rw [HL.out]; simpa using O6.out), B6⟩, by first | exact less_at hc f4.out | exact less_dn2 hc⟩
  ·have q2 : decide ((j : Int) < (n : Int)) = false := decide_eq_false (by omega)
   rw [show l.take j = l from List.take_of_length_le (by have := S0.out.hn; omega)] at hO
   have cv := fun W (h : Below wr.heap.size wr W) => (hO.out.keeps h).str
   have cv0 := hO.out.str
   go_wp2_with fail
   go_ret
   exact ⟨rfl, hb.out⟩
end Go.Proofs.YtbahfelnbofjjaaGreatDoor.un
