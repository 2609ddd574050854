/-
  Tokens of a given source, reckoned.
-/
import Derived.Test.YtkfciilclfhabaaGreatDoorJoi
import Derived.Test.YtkfciilclfhabaaGreatDoorHas
namespace Go.Proofs.YtkfciilclfhabaaGreatDoor
open dec

/-- The tokens by recursion on a number. -/
def lxF : Nat → Nat → Bool → List UInt8 → List Tk × List Pb
  | 0, _, _, _ => ([], [])
  | m + 1, p, f, l =>
    if l.drop (sk false l) = [] then ([], [])
    else
      let l' := l.drop (sk false l)
      let R := lxF m (p + sk false l + (shp l').2) (decide ((shp l').1 = 0)) (l'.drop (shp l').2)
      if flt (shp l').1 (l'.take (shp l').2) = 0 then (⟨(shp l').1, ⟨(cont (shp l').1 (l'.take (shp l').2)).toArray⟩, ((p + sk false l : Nat) : Int)⟩ :: R.1, R.2)
      else if (shp l').1 = 0 ∧ f = true ∧ sk false l = 0 then R
      else (R.1, (((p + sk false l : Nat) : Int), flt (shp l').1 (l'.take (shp l').2)) :: R.2)
theorem lxF_eq : ∀ (m p : Nat) (f : Bool) (l : List UInt8), l.length < m → lxF m p f l = lxs p f l
  | 0, _, _, _, h => by omega
  | m + 1, p, f, l, h => by
    unfold lxF
    by_cases h0 : l.drop (sk false l) = []
    · rw [if_pos h0, lex_done h0]
    · rw [if_neg h0, lex_step rfl h0]
      have h1 := shp_pos h0
      have h2 : (l.drop (sk false l)).length ≠ 0 := fun e => h0 (List.eq_nil_of_length_eq_zero e)
      rw [List.length_drop] at h2
      have := lxF_eq m (p + sk false l + (shp (l.drop (sk false l))).2) (decide ((shp (l.drop (sk false l))).1 = 0)) ((l.drop (sk false l)).drop (shp (l.drop (sk false l))).2) (by rw [List.length_drop, List.length_drop]; omega)
      simp only [this]
theorem tok_of {s : ByteArray} {lt : List Tk} {lb : List Pb} (hz : s.size ≤ 100) (h : lxF 101 0 false s.data.toList = (lt, lb)) (hb : lb.length ≤ 32) : tokE s = 0 ∧ tokL s = lt ++ [endT s] ∧ tokB s = lb := by
  rw [lxF_eq 101 0 false _ (by rw [str_len]; omega)] at h
  unfold tokE tokL tokB
  rw [if_neg (by omega), if_neg (by omega), if_neg (by omega), h]
  exact ⟨rfl, rfl, List.take_of_length_le hb⟩
theorem kw_data (s : ByteArray) : kw s = kwL.any fun l => s.data.toList == l := by
  unfold kw
  rw [ByteArray.toList_eq]
def xS0 : ByteArray := ⟨#[97, 60, 61, 49, 46, 53, 32, 35, 32, 110, 111, 116, 101]⟩
def xL0 : List Tk := [⟨1, ⟨#[97]⟩, 0⟩, ⟨5, ⟨#[60, 61]⟩, 1⟩, ⟨3, ⟨#[49, 46, 53]⟩, 3⟩]
def xB0 : List Pb := []
theorem xT0 : tokE xS0 = 0 ∧ tokL xS0 = xL0 ++ [endT xS0] ∧ tokB xS0 = xB0 := tok_of (by decide) (by kernel_rfl) (by decide)
theorem xW0 : ∀ x ∈ xL0, bdA x := by intro x hx; unfold xL0 at hx; simp only [List.mem_cons, List.not_mem_nil, or_false] at hx; (rcases hx with rfl | rfl | rfl <;> exact ⟨by decide, by decide⟩)
def xS1 : ByteArray := ⟨#[120, 61, 61, 45, 49, 59]⟩
def xL1 : List Tk := [⟨1, ⟨#[120]⟩, 0⟩, ⟨5, ⟨#[61, 61]⟩, 1⟩, ⟨5, ⟨#[45]⟩, 3⟩, ⟨2, ⟨#[49]⟩, 4⟩, ⟨5, ⟨#[59]⟩, 5⟩]
def xB1 : List Pb := []
theorem xT1 : tokE xS1 = 0 ∧ tokL xS1 = xL1 ++ [endT xS1] ∧ tokB xS1 = xB1 := tok_of (by decide) (by kernel_rfl) (by decide)
theorem xW1 : ∀ x ∈ xL1, bdA x := by intro x hx; unfold xL1 at hx; simp only [List.mem_cons, List.not_mem_nil, or_false] at hx; (rcases hx with rfl | rfl | rfl | rfl | rfl <;> exact ⟨by decide, by decide⟩)
def xS2 : ByteArray := ⟨#[49, 50, 97, 98, 32, 49, 46]⟩
def xL2 : List Tk := [⟨2, ⟨#[49, 50]⟩, 0⟩, ⟨1, ⟨#[97, 98]⟩, 2⟩, ⟨2, ⟨#[49]⟩, 5⟩]
def xB2 : List Pb := [(6, 80)]
theorem xT2 : tokE xS2 = 0 ∧ tokL xS2 = xL2 ++ [endT xS2] ∧ tokB xS2 = xB2 := tok_of (by decide) (by kernel_rfl) (by decide)
theorem xW2 : ∀ x ∈ xL2, bdA x := by intro x hx; unfold xL2 at hx; simp only [List.mem_cons, List.not_mem_nil, or_false] at hx; (rcases hx with rfl | rfl | rfl <;> exact ⟨by decide, by decide⟩)
def xS3 : ByteArray := ⟨#[97, 32, 36, 36, 32, 98, 32, 36]⟩
def xL3 : List Tk := [⟨1, ⟨#[97]⟩, 0⟩, ⟨1, ⟨#[98]⟩, 5⟩]
def xB3 : List Pb := [(2, 80), (7, 80)]
theorem xT3 : tokE xS3 = 0 ∧ tokL xS3 = xL3 ++ [endT xS3] ∧ tokB xS3 = xB3 := tok_of (by decide) (by kernel_rfl) (by decide)
theorem xW3 : ∀ x ∈ xL3, bdA x := by intro x hx; unfold xL3 at hx; simp only [List.mem_cons, List.not_mem_nil, or_false] at hx; (rcases hx with rfl | rfl <;> exact ⟨by decide, by decide⟩)
def xS4 : ByteArray := ⟨#[34, 97, 32, 98, 34, 32, 34, 99]⟩
def xL4 : List Tk := [⟨4, ⟨#[97, 32, 98]⟩, 0⟩, ⟨1, ⟨#[99]⟩, 7⟩]
def xB4 : List Pb := [(6, 80)]
theorem xT4 : tokE xS4 = 0 ∧ tokL xS4 = xL4 ++ [endT xS4] ∧ tokB xS4 = xB4 := tok_of (by decide) (by kernel_rfl) (by decide)
theorem xW4 : ∀ x ∈ xL4, bdA x := by intro x hx; unfold xL4 at hx; simp only [List.mem_cons, List.not_mem_nil, or_false] at hx; (rcases hx with rfl | rfl <;> exact ⟨by decide, by decide⟩)
def xS5 : ByteArray := ⟨#[48, 46, 49, 50, 51, 52, 53, 54, 55]⟩
def xL5 : List Tk := []
def xB5 : List Pb := [(0, 3)]
theorem xT5 : tokE xS5 = 0 ∧ tokL xS5 = xL5 ++ [endT xS5] ∧ tokB xS5 = xB5 := tok_of (by decide) (by kernel_rfl) (by decide)
theorem xW5 : ∀ x ∈ xL5, bdA x := fun x hx => by cases hx
def jL1 : List Tk := [⟨1, ⟨#[97]⟩, 0⟩, ⟨4, ⟨#[98, 32, 99]⟩, 0⟩]
def jL2 : List Tk := [⟨1, ⟨#[65]⟩, 0⟩]
theorem jT1 : joinE jL1 = 0 ∧ joinB jL1 = [97, 32, 34, 98, 32, 99, 34] := by
  have h1 : stripE jL1 = jL1 := by unfold stripE; rw [if_neg (fun h => absurd h.2.1 (by decide))]
  have h2 : allP jL1 = true := by decide +kernel
  have h3 : joinL jL1 = [97, 32, 34, 98, 32, 99, 34] := by unfold joinL; rw [h1]; decide +kernel
  have h4 : joinE jL1 = 0 := by unfold joinE; rw [h1, if_pos h2, h3]; decide
  exact ⟨h4, by unfold joinB; rw [if_pos h4, h3]⟩
theorem jT2 : joinE jL2 = 3 := by
  have h1 : stripE jL2 = jL2 := by unfold stripE; rw [if_neg (fun h => absurd h.2.1 (by decide))]
  have h2 : allP jL2 = false := by decide +kernel
  unfold joinE
  rw [h1, if_neg (by rw [h2]; decide)]
theorem kwT : kw ⟨#[99, 111, 117, 110, 116]⟩ = true := by rw [kw_data]; decide +kernel
theorem nT0 : name ⟨#[99, 111, 117, 110, 116]⟩ = false := by unfold name; rw [kw_data]; decide +kernel
theorem nT1 : name ⟨#[99, 111, 117, 110, 116, 115]⟩ = true := by unfold name; rw [kw_data]; decide +kernel
theorem nT2 : name ⟨#[95, 97]⟩ = false := by unfold name; rw [kw_data]; decide +kernel
theorem nT3 : name ⟨#[65]⟩ = false := by unfold name; rw [kw_data]; decide +kernel
end Go.Proofs.YtkfciilclfhabaaGreatDoor
