/-
  A region of open order, from some point on under a stronger condition; the beginning of a string of bytes.
-/
import Derived.Test.YtmogkinaegdioaaGreatDoorHel
namespace Go.Proofs.YtmogkinaegdioaaGreatDoor
open Go.RowKit dec

theorem held_more {P : Program} {Q : Exit → Act → World → Prop} {md : Region.Mode} {ops : Array Oper} {S S' : World → Prop} (hS : ∀ w, S' w → S w) : ∀ (fuel : Nat) (listed : Array Bool) (a : Act) (w : World), wpAnyH P md ops Q S' fuel listed a w → wpAnyH P md ops Q S fuel listed a w
  | 0, _, _, _, h => h
  | fuel + 1, _, _, _, h => ⟨h.1, fun i hi => wpOp_mono (fun a' w' h' => ⟨hS w' h'.1, held_more hS fuel _ a' w' h'.2⟩) (h.2 i hi)⟩
/-- .. that a slice holds what it holds, too. -/
theorem held_with {P : Program} {Q : Exit → Act → World → Prop} {md : Region.Mode} {ops : Array Oper} {S : World → Prop} {fuel : Nat} {listed : Array Bool} {a : Act} {w : World} {A : Option Addr} {n c : Nat} {l : List Nat} (L : Li w A n c l) (hS : S w)
    (h : (S w ∧ Li w A n c l) → wpAnyH P md ops Q (fun w' => S w' ∧ Li w' A n c l) fuel listed a w) : wpAnyH P md ops Q S fuel listed a w := held_more (fun _ h => h.1) _ _ _ _ (h ⟨hS, L⟩)
theorem slice_st (l : List Nat) (n : Nat) (h : n ≤ l.length) (W : World) : (Instr.slice 9 (.string (st_of l)) none (some (.int .i64 (n : Nat))) none).run Tryz.prog W = .ok (.string (st_of (l.take n))) W := by
  have e := st_of_size l
  rw [run_slice_string_to_if W 9 (st_of l) .i64 _ Tryz.underlying9, if_pos ⟨by omega, by rw [e]; omega⟩]
  congr 2
  apply ByteArray.ext
  apply Array.ext'
  rw [Lib.extract_data]
  show (((l.map UInt8.ofNat).toArray.toList.drop 0).take _) = ((l.take n).map UInt8.ofNat)
  rw [List.drop_zero, Nat.sub_zero, List.map_take]
  rfl
end Go.Proofs.YtmogkinaegdioaaGreatDoor
