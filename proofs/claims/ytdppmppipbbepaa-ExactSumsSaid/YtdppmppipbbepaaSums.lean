/-
  ExactSums: the row.
-/
import Derived.Test.YtdppmppipbbepaaSumsWalk
import Derived.Deep.Slices
import Derived.SizedLaws
import Derived.OpenShut
import Derived.Carry
namespace Go.Proofs.Ytdppmppipbbepaa.sums
open Go.ChangeShapes Go.WideShapes Go.ChangeAt Go.RowKit Go.Joins

theorem laidOut : laidOutB Try.prog = true := by kernel_rfl
theorem cells42 : Try.prog.cellsOf 42 = 2 := by kernel_rfl
theorem cells3 : Try.prog.cellsOf 3 = 1 := by kernel_rfl
theorem bytes42 : Try.prog.bytesOf 42 = 16 := by kernel_rfl

/-- What the walk is told of the slice. -/
def Lies (w : World) (a : Option Addr) (n cap : Nat) : Prop :=
  n = 0 ∨ (0 < n ∧ ∃ b off f g, a = some ⟨b, off, none⟩ ∧ n ≤ cap ∧ n * 16 ≤ 140737488351232 ∧ Pairs w b off n f g ∧ Fit f n ∧ Fit g n)

theorem walk (a : Option Addr) (n cap : Nat) (by' : Int) (w : World) (h : Lies w a n cap) :
    Calls Try.prog 12 #[.slice a n cap, .int .i64 by'] w fun e w' => e = .returned (.bool true) ∧ Below w.heap.size w w' := by
  rcases h with rfl | ⟨hn, b, off, f, g, rfl, hc, hl, hP, hf, hg⟩
  · exact walk_none a cap by' w
  · exact walk_some b off n cap f g by' w hn hc hl hP hf hg

theorem add_plain (b off i : Nat) : (⟨b, off, none⟩ : Addr).add i = ⟨b, off + i, none⟩ := by
  unfold Addr.add
  by_cases h : i = 0 <;> simp [h]
/-- One pair out of its two cells. -/
theorem pair_at {H : Type} {enc : TypeId × Value → H} {w : World} {base : Nat} {spare : Nat → Bool} {held : Bool} {m : Nat} {ad : Addr} {cs : List Value} {x : DataW H × List MemPlace}
    (h1 : w.cells? base ad (Try.prog.cellsOf 42) = some cs) (h2 : DataW.trod enc Try.prog w base spare held m 42 cs = some x) :
    ∃ q : Int × Int, w.cell? (ad.add 0) = some (.int .i64 q.1) ∧ w.cell? (ad.add 1) = some (.int .i64 q.2) ∧ (Lit.int .i64 q.1).wf = true ∧ (Lit.int .i64 q.2).wf = true := by
  rw [cells42] at h1
  obtain ⟨_, hlen, hcell⟩ := World.cells?_some h1
  obtain ⟨xs, k, _, _, _, hxl, hf⟩ := DataW.trod_array Try.underlying42 h2
  match xs, hxl, cs, hlen with
  | [y0, y1], _, [v0, v1], _ =>
    have g0 := hf 0 (by omega)
    have g1 := hf 1 (by omega)
    simp only [cells3] at g0 g1
    simp at g0 g1
    obtain ⟨n0, e0, _, u0⟩ := DataW.trod_int Try.underlying3 g0
    obtain ⟨n1, e1, _, u1⟩ := DataW.trod_int Try.underlying3 g1
    simp only [List.cons.injEq, and_true] at e0 e1
    subst e0 e1
    exact ⟨(n0, n1), by simpa using hcell 0 (by omega), by simpa using hcell 1 (by omega), u0, u1⟩

theorem lies_of {H : Type} {enc : TypeId × Value → H} {w : World} {fuel : Nat} {a : Option Addr} {n cap : Nat} {d : DataW H} {ps : List MemPlace}
    (h : DataW.trod enc Try.prog w 0 (fun _ => true) true fuel 41 [.slice a n cap] = some (d, ps))
    (hz : ∀ elems spare, d = .slice elems spare → (elems.length + spare.length) * Try.prog.bytesOf 42 ≤ reachBytes) : Lies w a n cap := by
  rcases Go.Deep.open_slice Try.underlying41 h with ⟨hcs, _⟩ | ⟨x, l, c, m, k, D, Pl, hcs, _, hl, hm, hmm, hx, hel⟩
  · simp at hcs
    exact .inl hcs.2.1
  · simp at hcs
    obtain ⟨rfl, rfl, rfl⟩ := hcs
    simp at hmm
    subst hmm
    by_cases h0 : n = 0
    · exact .inl h0
    have hz' := hz _ _ (Prod.mk.inj hx).1
    simp only [List.length_map, List.length_range, bytes42] at hz'
    have hb : reachBytes = 140737488351232 := rfl
    rw [hb] at hz'
    obtain ⟨q, hq⟩ := Go.Deep.choose_lt (fun i hi => by
      obtain ⟨cs', h1, h2⟩ := hel i hi
      exact pair_at h1 h2)
    obtain ⟨b, off, spot⟩ := x
    have hc := (hq 0 (by omega)).1
    have hspot : spot = none := by simpa [Addr.add] using World.cell?_spot hc
    subst hspot
    refine .inr ⟨by omega, b, off, fun i => (q i).1, fun i => (q i).2, rfl, hl, by omega, ⟨fun j hj => ?_, fun j hj => ?_⟩, fun j hj => bounds_i64 (hq j (by omega)).2.2.1, fun j hj => bounds_i64 (hq j (by omega)).2.2.2⟩
    · have := (hq j (by omega)).1
      rw [cells42] at this
      rw [Go.Deep.add_add] at this
      simpa [add_plain] using this
    · have := (hq j (by omega)).2.1
      rw [cells42] at this
      rw [Go.Deep.add_add] at this
      simpa [add_plain, Nat.add_assoc] using this

set_option maxRecDepth 100000 in
theorem lifted (os : Os) (started : os.Started) (H : Type) (enc : TypeId × Value → H) :
    ReturnsInHanded {} Try.checked os 12 .any (Rows.exactSumsSpec.pre6 enc Try.prog Try.f12 Rows.exactSumsRow.domain false) (Rows.exactSumsSpec.post enc Try.prog Try.f12 false true false false) := by
  refine returnsInHanded_of_change_sized (C := Try.checked) own started (by kernel_rfl) Try.func12
    (ChangeSpec.witness6 (enc := enc) (C := Try.checked) false ⟨#[], #[.slice none 0 0, .int .i64 0], []⟩ 8 (by kernel_rfl) (by kernel_rfl) (by kernel_rfl) (by kernel_rfl)) ?_
  intro Z base args ds gs before hval0 hW hcnd hsz _
  have hval : ∀ (j : Nat) t v, Try.f12.params[j]? = some t → args[j]? = some v → Value.okWide Try.prog Z .any base t v := hval0
  have hW' := hW
  obtain ⟨p, q, hA0, hV, rfl, hfz, hnd⟩ := hW
  have hA : DataW.TrodAll enc Try.prog Z 0 (fun _ => true) true Try.f12.params.toList args.toList ds p := hA0
  rw [Try.params12] at hA hval
  obtain ⟨v0, vs0, d0, ds0, p0, q0, hargs, rfl, rfl, h0, r0⟩ := trodAll_cons hA
  obtain ⟨v1, vs1, d1, ds1, p1, q1, rfl, rfl, rfl, h1, r1⟩ := trodAll_cons r0
  obtain ⟨rfl, rfl, rfl⟩ := trodAll_nil r1
  obtain rfl : args = #[v0, v1] := by cases args; simp_all
  obtain ⟨rfl, rfl⟩ := trodVars_none hV
  obtain ⟨a0, len0, cap0, rfl⟩ := okWide_slice Try.underlying41 (hval 0 41 v0 rfl rfl)
  have k0 := h0
  have lt0 : ∀ x ∈ p0, x.block < Z.heap.size := by obtain ⟨m, hm⟩ := k0; exact DataW.trod_lt m _ _ _ hm
  have hL : Lies Z a0 len0 cap0 := by
    obtain ⟨fuel, hf⟩ := h0
    refine lies_of (by simpa [Value.cells] using hf) (fun elems spare he => ?_)
    subst he
    exact sized_slice hsz (j := 0) (t := 41) rfl rfl Try.underlying41
  obtain ⟨a1, rfl, rfl, rfl, w1⟩ := open_int Try.underlying3 (hval 1 3 v1 rfl rfl) h1
  clear hA0 hval0
  refine (walk a0 len0 cap0 a1 Z hL).mono fun e Z' ⟨he, bel⟩ => ?_
  subst he
  exact ⟨_, rfl, _, _, _, [], _, [], hW', trodAll_mk1 (shut_bool Try.underlying4 _), (trodAll_cons_mk (Below.trod laidOut (by kernel_rfl) (of_decide_eq_true (by kernel_rfl)) k0 bel lt0) (trodAll_cons_mk (shut_int Try.underlying3 w1) trodAll_mk0)), rfl, bel.frame _, fun h => by cases h⟩

theorem over : Rows.exactSumsRow.holds Try.pinned (OpenSpec.ofChange Rows.exactSumsSpec) :=
  OpenClaim.holds_of_wide 12 Try.f12 rfl rfl rfl rfl rfl rfl rfl ⟨rfl, rfl, rfl, rfl, rfl⟩ rfl rfl rfl rfl rfl (by kernel_rfl) Try.func12 (by kernel_rfl)
    (of_decide_eq_true (by kernel_rfl)) (by unfold Func.isWrapper; first | (rw [if_pos (by decide +kernel)]; kernel_rfl) | (rw [if_neg (by decide +kernel)]; exact ⟨rfl, rfl⟩))
    (fun os started H enc _ => lifted os started H enc)

/-- The statement. -/
theorem proved : Rows.ExactSumsSaid :=
  over
#print axioms proved
end Go.Proofs.Ytdppmppipbbepaa.sums
