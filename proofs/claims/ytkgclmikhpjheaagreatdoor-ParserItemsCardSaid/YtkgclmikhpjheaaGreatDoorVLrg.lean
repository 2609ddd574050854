/-
  ParserLarge: the walk.
-/
import Derived.Test.YtkgclmikhpjheaaGreatDoorQ13
import Derived.Test.YtkgclmikhpjheaaGreatDoorQ15
namespace Go.Proofs.YtkgclmikhpjheaaGreatDoor.pa
open Go.RowKit dec

/-- Bytes that the call made, whatever they are. -/
def Wb (w : World) (B K : Nat) : Prop := ∀ j, j < K → (∃ x : UInt8, w.cell? ⟨B, j, none⟩ = some (.int .u8 (x.toNat : Int))) ∧ w.frozen? ⟨B, j, none⟩ = false
theorem Wb.set {w : World} {B K : Nat} (h : Wb w B K) {k : Nat} (hk : k < K) (x : UInt8) : Wb (w.setCell ⟨B, k, none⟩ (.int .u8 (x.toNat : Int))) B K := fun j hj => by
  obtain ⟨⟨y, hy⟩, hf⟩ := h j hj
  obtain ⟨⟨z, hz⟩, _⟩ := h k hk
  refine ⟨?_, by rw [World.frozen?_setCell]; exact hf⟩
  by_cases e : j = k
  · subst e
    exact ⟨x, World.cell?_setCell_same _ _ _ hz⟩
  · exact ⟨y, by rw [World.cell?_setCell_other _ _ _ _ (fun h => e (by have := congrArg Addr.off h; simpa using this.symm))]; exact hy⟩
theorem Wb.drew {w : World} {B K : Nat} (h : Wb w B K) : Wb w.drew B K := h
theorem Wb.bs {w : World} {B K : Nat} (h : Wb w B K) (n : Nat) (hn : n ≤ K) (hK : K ≤ 1000000) : ∃ s : ByteArray, s.size = n ∧ Bs w (some ⟨B, 0, none⟩) n K s := by
  obtain ⟨q, hq⟩ : ∃ q : Nat → Nat, ∀ i, i < n → w.cell? ⟨B, i, none⟩ = some (.int .u8 (q i : Nat)) ∧ q i < 256 := Go.Deep.choose_lt (p := fun i (v : Nat) => w.cell? ⟨B, i, none⟩ = some (.int .u8 (v : Int)) ∧ v < 256) (fun i hi => by
    obtain ⟨⟨x, hx⟩, _⟩ := h i (by omega)
    exact ⟨x.toNat, hx, x.toNat_lt⟩)
  have hsz : (⟨((List.range n).map fun i => UInt8.ofNat (q i)).toArray⟩ : ByteArray).size = n := by
    rw [← str_len]
    simp
  refine ⟨⟨((List.range n).map fun i => UInt8.ofNat (q i)).toArray⟩, hsz, .inr ⟨B, 0, rfl, fun j hj => ?_⟩, hsz, hn, by omega, fun h => by cases h⟩
  have hjn : j < n := by rw [hsz] at hj; exact hj
  rw [Nat.zero_add, (hq j hjn).1]
  have hv : ((⟨((List.range n).map fun i => UInt8.ofNat (q i)).toArray⟩ : ByteArray)[j]).toNat = q j := by
    have e := ba_at _ j hj
    rw [show (⟨((List.range n).map fun i => UInt8.ofNat (q i)).toArray⟩ : ByteArray).data.toList = (List.range n).map fun i => UInt8.ofNat (q i) from rfl, List.getElem?_map, List.getElem?_range hjn] at e
    have e2 := Option.some.inj e
    rw [← e2]
    have := (hq j hjn).2
    show (UInt8.ofNat (q j)).toNat = q j
    rw [UInt8.toNat_ofNat']
    omega
  rw [hv]
end Go.Proofs.YtkgclmikhpjheaaGreatDoor.pa
