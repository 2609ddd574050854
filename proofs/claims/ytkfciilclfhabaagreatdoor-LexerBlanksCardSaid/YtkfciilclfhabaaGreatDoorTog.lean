/-
  Slices of tokens and of strings that came in.
-/
import Derived.Test.YtkfciilclfhabaaGreatDoorLift
import Derived.Test.YtkfciilclfhabaaGreatDoorWbm
namespace Go.Proofs.YtkfciilclfhabaaGreatDoor
open Go.ChangeShapes Go.WideShapes Go.ChangeAt Go.RowKit Go.Joins dec

instance : Inhabited Tk := ⟨⟨0, .empty, 0⟩⟩
theorem cT3 : Tryz.prog.cellsOf 39 = 3 := by kernel_rfl
theorem add_plain (b o i : Nat) : (⟨b, o, none⟩ : Addr).add i = ⟨b, o + i, none⟩ := by
  unfold Addr.add
  by_cases h : i = 0 <;> simp [h]
set_option maxRecDepth 100000 in
/-- One token out of its three cells. -/
theorem tk_at {H : Type} {enc' : TypeId × Value → H} {w : World} {base : Nat} {spare : Nat → Bool} {held : Bool} {m : Nat} {ad : Addr} {cs : List Value} {x : DataW H × List MemPlace}
    (h1 : w.cells? base ad (Tryz.prog.cellsOf 39) = some cs) (h2 : DataW.trod enc' Tryz.prog w base spare held m 39 cs = some x) :
    ∃ q : Tk, w.cell? (ad.add 0) = some (.int .i64 q.k) ∧ w.cell? (ad.add 1) = some (.string q.t) ∧ w.cell? (ad.add 2) = some (.int .i64 q.a) := by
  rw [cT3] at h1
  obtain ⟨_, hlen, hcell⟩ := World.cells?_some h1
  obtain ⟨y0, y1, y2, k, _, _, g0, g1, g2⟩ := Go.Deep.trod_struct3 Tryz.underlying39 h2
  match cs, hlen with
  | [v0, v1, v2], _ =>
    simp only [cI3, cS9, List.drop_zero, List.take_succ_cons, List.take_zero, List.drop_succ_cons] at g0 g1 g2
    obtain ⟨n0, e0, _, u0⟩ := DataW.trod_int Tryz.underlying3 g0
    obtain ⟨n1, e1, _, u1⟩ := DataW.trod_string Tryz.underlying9 g1
    obtain ⟨n2, e2, _, u2⟩ := DataW.trod_int Tryz.underlying3 g2
    simp only [List.cons.injEq, and_true] at e0 e1 e2
    subst e0 e1 e2
    exact ⟨⟨n0, n1, n2⟩, by simpa using hcell 0 (by omega), by simpa using hcell 1 (by omega), by simpa using hcell 2 (by omega)⟩
/-- A slice of tokens that came in. -/
theorem toks_of {H : Type} {enc' : TypeId × Value → H} {w : World} {fuel : Nat} {a : Option Addr} {n cap : Nat} {d : DataW H} {ps : List MemPlace}
    (h : DataW.trod enc' Tryz.prog w 0 (fun _ => true) true fuel 24 [.slice a n cap] = some (d, ps)) : ∃ l, tk.Sl w a n cap l := by
  rcases Go.Deep.open_slice Tryz.underlying24 h with ⟨hcs, _⟩ | ⟨x, l, c, m, k, D, Pl, hcs, _, hl, hm, hmm, hx, hel⟩
  · simp at hcs
    obtain ⟨rfl, rfl, rfl⟩ := hcs
    exact ⟨[], tk.Sl.nil _⟩
  · simp at hcs
    obtain ⟨rfl, rfl, rfl⟩ := hcs
    simp at hmm
    subst hmm
    have hmx := hm
    unfold maxLen at hmx
    obtain ⟨q, hq⟩ := Go.Deep.choose_lt (fun i hi => by
      obtain ⟨cs', h1, h2⟩ := hel i hi
      exact tk_at h1 h2)
    refine ⟨(List.range n).map q, ⟨?_, by simp, hl, by omega, fun h => by cases h⟩⟩
    by_cases h0 : n = 0
    · exact .inl (by simp [h0])
    obtain ⟨b, off, spot⟩ := x
    have hc := (hq 0 (by omega)).1
    have hspot : spot = none := by simpa [Addr.add] using World.cell?_spot hc
    subst hspot
    refine .inr ⟨b, off, rfl, fun j hj => ?_⟩
    have hj' : j < n := by simpa using hj
    have e : tk.gt ((List.range n).map q) j = q j := by
      rw [tk.gt_eq hj]
      simp
    obtain ⟨k0, k1, k2⟩ := hq j (by omega)
    rw [cT3, Go.Deep.add_add] at k0 k1 k2
    rw [e]
    refine ⟨by simpa [add_plain] using k0, by simpa [add_plain, Nat.add_assoc] using k1, by simpa [add_plain, Nat.add_assoc] using k2⟩
/-- A slice of strings that came in. -/
theorem strs_of {H : Type} {enc' : TypeId × Value → H} {w : World} {fuel : Nat} {a : Option Addr} {n cap : Nat} {d : DataW H} {ps : List MemPlace}
    (h : DataW.trod enc' Tryz.prog w 0 (fun _ => true) true fuel 35 [.slice a n cap] = some (d, ps)) : ∃ q, Ss w a n cap q := by
  rcases Go.Deep.open_slice1 Tryz.underlying35 cS9 h with ⟨hcs, hd⟩ | ⟨x, l, c, m, k, V, D, Pl, hcs, _, hl, hm, hmm, hx, hel⟩
  · simp at hcs
    obtain ⟨rfl, rfl, rfl⟩ := hcs
    exact ⟨fun _ => .empty, ⟨.inl rfl, by omega, by omega⟩⟩
  · simp at hcs
    obtain ⟨rfl, rfl, rfl⟩ := hcs
    simp at hmm
    subst hmm
    have hmx := hm
    unfold maxLen at hmx
    obtain ⟨q, hq⟩ : ∃ q : Nat → ByteArray, ∀ i, i < n → w.cell? (x.add i) = some (.string (q i)) := Go.Deep.choose_lt (p := fun i (v : ByteArray) => w.cell? (x.add i) = some (.string v)) (fun i hi => by
      obtain ⟨h1, h2⟩ := hel i (by omega)
      obtain ⟨v, e, _, u⟩ := DataW.trod_string Tryz.underlying9 h2
      simp only [List.cons.injEq, and_true] at e
      exact ⟨v, by rw [h1, e]⟩)
    refine ⟨q, ⟨?_, hl, by omega⟩⟩
    by_cases h0 : n = 0
    · exact .inl h0
    obtain ⟨b, off, spot⟩ := x
    have hspot : spot = none := by simpa [Addr.add] using World.cell?_spot (hq 0 (by omega))
    subst hspot
    exact .inr ⟨b, off, rfl, fun j hj => by simpa [add_plain] using hq j hj⟩
end Go.Proofs.YtkfciilclfhabaaGreatDoor
