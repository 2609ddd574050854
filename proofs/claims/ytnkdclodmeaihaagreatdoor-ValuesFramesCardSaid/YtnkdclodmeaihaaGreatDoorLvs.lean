/-
  A list of values that came in; the encodings of its members.
-/
import Derived.Test.YtnkdclodmeaihaaGreatDoorLift
import Derived.Test.YtnkdclodmeaihaaGreatDoorRea
import Derived.Deep.Strs
namespace Go.Proofs.YtnkdclodmeaihaaGreatDoor
open Go.ChangeShapes Go.WideShapes Go.ChangeAt Go.RowKit Go.Joins dec

instance : Inhabited Va := ⟨⟨0, 0, .empty⟩⟩
/-- The slice at a has n members. -/
def Lv (w : World) (a : Option Addr) (n : Nat) (q : Nat → Va) : Prop :=
  n = 0 ∨ ∃ b off, a = some ⟨b, off, none⟩ ∧ ∀ i, i < n → w.cell? ⟨b, off + i * 3, none⟩ = some (.int .i64 (q i).k) ∧ w.cell? ⟨b, off + i * 3 + 1, none⟩ = some (.int .i64 (q i).n) ∧ w.cell? ⟨b, off + i * 3 + 2, none⟩ = some (.string (q i).s)
theorem Lv.keeps {w w1 : World} {a : Option Addr} {n : Nat} {q : Nat → Va} (h : Lv w a n q) (hb : Below w.heap.size w w1) : Lv w1 a n q :=
  h.imp id fun ⟨b, off, e, hB⟩ => ⟨b, off, e, fun i hi => ⟨Go.Proofs.YtnkdclodmeaihaaGreatDoor.keeps hb (hB i hi).1, Go.Proofs.YtnkdclodmeaihaaGreatDoor.keeps hb (hB i hi).2.1, Go.Proofs.YtnkdclodmeaihaaGreatDoor.keeps hb (hB i hi).2.2⟩⟩

/-- The encodings of the first k members. -/
def ev (q : Nat → Va) : Nat → List Nat
  | 0 => []
  | k + 1 => ev q k ++ enc (q k)
theorem ev_len (q : Nat → Va) (k : Nat) : (ev q k).length ≤ 75 * k := by
  induction k with
  | zero => simp [ev]
  | succ k ih =>
    have h1 := enc_len (q k)
    show (ev q k ++ enc (q k)).length ≤ 75 * (k + 1)
    rw [List.length_append]
    omega
theorem ev_split (q : Nat → Va) {k n : Nat} (h : k < n) : ∃ r, ev q n = ev q k ++ (enc (q k) ++ r) := by
  induction n with
  | zero => omega
  | succ n ih =>
    by_cases e : k = n
    · subst e
      exact ⟨[], by rw [List.append_nil]; rfl⟩
    · obtain ⟨r, hr⟩ := ih (by omega)
      refine ⟨r ++ enc (q n), ?_⟩
      show ev q n ++ _ = _
      rw [hr]
      simp only [List.append_assoc]
/-- Reading the member k out of the encodings of n. -/
theorem ev_read (q : Nat → Va) {k n : Nat} (h : k < n) (hk : ok (q k) = true) : rV (ev q n) ((ev q k).length : Int) = (q k, (ev q (k + 1)).length, 0) ∧ (ev q k).length < (ev q (k + 1)).length ∧ (ev q (k + 1)).length ≤ (ev q n).length := by
  obtain ⟨r, hr⟩ := ev_split q h
  have hl := encV_len hk
  have e : (ev q (k + 1)).length = (ev q k).length + (encV (q k)).length := by
    show (ev q k ++ enc (q k)).length = _
    rw [List.length_append, enc_ok hk]
  refine ⟨?_, by omega, ?_⟩
  · rw [hr, enc_ok hk, rV_back _ _ hk, e]
  · rw [hr, e, enc_ok hk]
    simp only [List.length_append]
    omega
theorem add_plain (b o i : Nat) : (⟨b, o, none⟩ : Addr).add i = ⟨b, o + i, none⟩ := by
  unfold Addr.add
  by_cases h : i = 0 <;> simp [h]
set_option maxRecDepth 100000 in
/-- One value out of its three cells. -/
theorem va_at {H : Type} {enc' : TypeId × Value → H} {w : World} {base : Nat} {spare : Nat → Bool} {held : Bool} {m : Nat} {ad : Addr} {cs : List Value} {x : DataW H × List MemPlace}
    (h1 : w.cells? base ad (Tryz.prog.cellsOf 23) = some cs) (h2 : DataW.trod enc' Tryz.prog w base spare held m 23 cs = some x) :
    ∃ q : Va, w.cell? (ad.add 0) = some (.int .i64 q.k) ∧ w.cell? (ad.add 1) = some (.int .i64 q.n) ∧ w.cell? (ad.add 2) = some (.string q.s) := by
  rw [cV3] at h1
  obtain ⟨_, hlen, hcell⟩ := World.cells?_some h1
  obtain ⟨y0, y1, y2, k, _, _, g0, g1, g2⟩ := Go.Deep.trod_struct3 Tryz.underlying23 h2
  match cs, hlen with
  | [v0, v1, v2], _ =>
    simp only [cI3, cS9, List.drop_zero, List.take_succ_cons, List.take_zero, List.drop_succ_cons] at g0 g1 g2
    obtain ⟨n0, e0, _, u0⟩ := DataW.trod_int Tryz.underlying3 g0
    obtain ⟨n1, e1, _, u1⟩ := DataW.trod_int Tryz.underlying3 g1
    obtain ⟨n2, e2, _, u2⟩ := DataW.trod_string Tryz.underlying9 g2
    simp only [List.cons.injEq, and_true] at e0 e1 e2
    subst e0 e1 e2
    exact ⟨⟨n0, n1, n2⟩, by simpa using hcell 0 (by omega), by simpa using hcell 1 (by omega), by simpa using hcell 2 (by omega)⟩
theorem lvs_of {H : Type} {enc' : TypeId × Value → H} {w : World} {fuel : Nat} {a : Option Addr} {n cap : Nat} {d : DataW H} {ps : List MemPlace}
    (h : DataW.trod enc' Tryz.prog w 0 (fun _ => true) true fuel 31 [.slice a n cap] = some (d, ps)) : ∃ q, Lv w a n q := by
  rcases Go.Deep.open_slice Tryz.underlying31 h with ⟨hcs, _⟩ | ⟨x, l, c, m, k, D, Pl, hcs, _, hl, hm, hmm, hx, hel⟩
  · simp at hcs
    obtain ⟨rfl, rfl, rfl⟩ := hcs
    exact ⟨fun _ => default, .inl rfl⟩
  · simp at hcs
    obtain ⟨rfl, rfl, rfl⟩ := hcs
    simp at hmm
    subst hmm
    obtain ⟨q, hq⟩ := Go.Deep.choose_lt (fun i hi => by
      obtain ⟨cs', h1, h2⟩ := hel i hi
      exact va_at h1 h2)
    refine ⟨q, ?_⟩
    by_cases h0 : n = 0
    · exact .inl h0
    obtain ⟨b, off, spot⟩ := x
    have hc := (hq 0 (by omega)).1
    have hspot : spot = none := by simpa [Addr.add] using World.cell?_spot hc
    subst hspot
    refine .inr ⟨b, off, rfl, fun j hj => ?_⟩
    obtain ⟨k0, k1, k2⟩ := hq j (by omega)
    rw [cV3, Go.Deep.add_add] at k0 k1 k2
    refine ⟨by simpa [add_plain] using k0, by simpa [add_plain, Nat.add_assoc] using k1, by simpa [add_plain, Nat.add_assoc] using k2⟩
end Go.Proofs.YtnkdclodmeaihaaGreatDoor
