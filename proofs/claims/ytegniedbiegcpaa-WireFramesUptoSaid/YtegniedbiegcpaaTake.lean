/-
  The reader of package wire: bytes, and a frame.
-/
import Derived.Test.YtegniedbiegcpaaRdr
namespace Go.Proofs.Ytegniedbiegcpaa
open Go.RowKit

/-- What reading a frame gives. -/
inductive RF where
  | ok (v : List Nat) (k : Nat)
  | err (c : Nat)

/-- Nothing but the block B has changed. -/
def Apart (B : Nat) (w w' : World) : Prop := ∀ k, k ≠ B → w'.heap[k]? = w.heap[k]?
theorem AtL.apart {B : Nat} {w w' : World} (h : Apart B w w') {b o : Nat} {l : List Nat} (hb : b ≠ B) (k : AtL w (some ⟨b, o, none⟩) l) : AtL w' (some ⟨b, o, none⟩) l := by
  refine ⟨?_, k.2⟩
  rcases k.1 with h0 | ⟨b', off, e, hB⟩
  · exact .inl h0
  · refine .inr ⟨b', off, e, fun j hj => ?_⟩
    simp only [Option.some.injEq, Addr.mk.injEq, and_true] at e
    obtain ⟨rfl, rfl⟩ := e
    rw [World.cell?_of_block (w := w) (h b hb)]
    exact hB j hj

/-- What take does. -/
def Tk (w : World) (B : Nat) (a : Option Addr) (n cap : Nat) (l : List Nat) (p N : Nat) (e : Ending) (w' : World) : Prop :=
  ∃ a', e = .returned (.slice a' N N) ∧ Li w' a' N N ((l.drop p).take N) ∧ (N = 0 ∨ ∃ b off, a' = some ⟨b, off, none⟩ ∧ b < B) ∧ Rdr w' B a n cap l (p + N) ∧ Below B w w' ∧ Apart B w w'

theorem li_cut {w : World} {B : Nat} {a : Option Addr} {n cap : Nat} {l : List Nat} {q : Nat} (h : Rdr w B a n cap l q) (p N : Nat) (hN : p + N ≤ n) :
    Li w (if N = 0 then a else Option.map (fun x : Addr => x.add p) a) N N ((l.drop p).take N) ∧ (N = 0 ∨ ∃ b off, (if N = 0 then a else Option.map (fun x => x.add p) a) = some ⟨b, off, none⟩ ∧ b < B) := by
  have hlim := h.li.hlim
  have hn := h.li.hn
  have hlen : ((l.drop p).take N).length = N := by rw [List.length_take, List.length_drop]; omega
  by_cases h0 : N = 0
  · subst h0
    rw [if_pos rfl]
    refine ⟨⟨?_, hlen, Nat.le_refl _, by omega, by omega, fun _ => rfl⟩, .inl rfl⟩
    rw [List.take_zero]
    exact AtL.nil _ _
  · obtain ⟨b, off, rfl, hb⟩ := h.lo.resolve_left (by omega)
    have e : (if N = 0 then some (⟨b, off, none⟩ : Addr) else Option.map (fun x : Addr => x.add p) (some (⟨b, off, none⟩ : Addr))) = some ⟨b, off + p, none⟩ := by
      rw [if_neg h0]
      unfold Addr.add
      by_cases hp : p = 0
      · subst hp; simp
      · simp [hp]
    rw [e]
    exact ⟨⟨h.li.hat.cut p N, hlen, Nat.le_refl _, by omega, by omega, fun h => by cases h⟩, .inr ⟨b, off + p, rfl, hb⟩⟩

set_option maxRecDepth 100000 in
set_option maxHeartbeats 1000000 in
theorem take_short (B : Nat) (a : Option Addr) (n cap : Nat) (l : List Nat) (p N : Nat) (w : World) (hR : Rdr w B a n cap l p) (hN : n - p < N) :
    Calls Try.prog 46 #[.pointer (some ⟨B, 0, none⟩), .int .u64 (N : Nat)] w fun e w' => e = thrown 41 ∧ Below B w w' := by
  have c0 := hR.c0
  have c1 := hR.c1
  have hle := hR.le
  have hlim := hR.li.hlim
  obtain ⟨F, hF⟩ : ∃ F, n - p = F := ⟨_, rfl⟩
  have hsub : IntKind.i64.wrap ((n : Int) - (p : Int)) = ((F : Nat) : Int) := by rw [IntWalk.i64_in _ (by omega)]; omega
  have hcv : IntKind.u64.wrap ((F : Nat) : Int) = ((F : Nat) : Int) := IntWalk.u64_in _ (by omega)
  have hB : decide (F < N) = true := decide_eq_true (by omega)
  have hBi : decide ((F : Int) < N) = true := decide_eq_true (by omega)
  clear hF hN
  go_enter Try.func46, Try.ntmps46
  go_wp2_with fail
  go_quiet (fail)
  go_wp2_with fail
  exact ⟨rfl, rfl, below_drewN' _ _ _⟩

set_option maxRecDepth 100000 in
set_option maxHeartbeats 1000000 in
theorem take_any (B : Nat) (a : Option Addr) (n cap : Nat) (l : List Nat) (p N : Nat) (w : World) (hR : Rdr w B a n cap l p) (hN : p + N ≤ n) :
    Calls Try.prog 46 #[.pointer (some ⟨B, 0, none⟩), .int .u64 (N : Nat)] w (Tk w B a n cap l p N) := by
  have c0 := hR.c0
  have c1 := hR.c1
  have z1 := hR.z1
  have hle := hR.le
  have hlim := hR.li.hlim
  have hmax := hR.li.hmax
  have hcap := hR.li.hcap
  obtain ⟨F, hF⟩ : ∃ F, n - p = F := ⟨_, rfl⟩
  have hsub : IntKind.i64.wrap ((n : Int) - (p : Int)) = ((F : Nat) : Int) := by rw [IntWalk.i64_in _ (by omega)]; omega
  have hcv : IntKind.u64.wrap ((F : Nat) : Int) = ((F : Nat) : Int) := IntWalk.u64_in _ (by omega)
  have hB : decide (F < N) = false := decide_eq_false (by omega)
  have hBi : decide ((F : Int) < N) = false := decide_eq_false (by omega)
  clear hF
  go_enter Try.func46, Try.ntmps46
  go_wp2_with fail
  go_quiet (fail)
  have e1 : ((p : Int) + (N : Int)) = ((p + N : Nat) : Int) := by omega
  have RM := Rdr.move (w := w.drewN nq) ⟨c0, c1, z1, hR.lo, ⟨hR.li.hat, hR.li.hn, hR.li.hcap, hR.li.hmax, hR.li.hlim, hR.li.hno⟩, hR.le⟩ (p + N) hN
  have hb2 := (below_drewN' B w nq).setCell (p := ⟨B, 1, none⟩) (Nat.le_refl _) (.int .i64 ((p + N : Nat) : Int))
  have hap : Apart B w ((w.drewN nq).setCell ⟨B, 1, none⟩ (.int .i64 ((p + N : Nat) : Int))) := fun k hk => Below.heap_setCell (w.drewN nq) ⟨B, 1, none⟩ _ k hk
  rw [← e1] at RM hb2 hap
  have E1 := Lib.hid e1
  clear e1
  go_wp2_with fail
  have c0' := RM.c0
  have c1' := RM.c1
  rw [← E1.out] at c1'
  generalize (w.drewN nq).setCell ⟨B, 1, none⟩ (.int .i64 ((p : Int) + N)) = w2 at *
  clear hB hBi hsub hcv c0 c1 z1
  have s1 : (p : Int) ≤ p + N := by omega
  have s2 : ¬ ((p : Int) + N < p) := by omega
  have s3 : (p : Int) + N ≤ cap := by omega
  have s4 : ((p : Int) + N).toNat = p + N := by omega
  go_quiet (fail)
  obtain ⟨q1, q2⟩ := li_cut RM p N hN
  generalize (if N = 0 then a else Option.map (fun x => x.add p) a) = a' at *
  clear s1 s2 s3 s4 c0' c1'
  go_wp2_with fail
  go_ret
  have k := below_drewN' w2.heap.size w2 nq
  exact ⟨a', rfl, q1.keeps k, q2, RM.keeps k, hb2.trans (below_drewN' B w2 nq), hap⟩

/-- What frame does. -/
def Fr (w : World) (B : Nat) (a : Option Addr) (n cap : Nat) (l : List Nat) (p : Nat) (r : RF) (e : Ending) (w' : World) : Prop :=
  match r with
  | .ok v k => ∃ g, e = .returned (.slice (some ⟨g, 0, none⟩) v.length v.length) ∧ w.heap.size ≤ g ∧ Ow w' g v.length v.length v ∧ Rdr w' B a n cap l (p + k) ∧ Below B w w'
  | .err c => e = thrown c ∧ Below B w w'
end Go.Proofs.Ytegniedbiegcpaa
