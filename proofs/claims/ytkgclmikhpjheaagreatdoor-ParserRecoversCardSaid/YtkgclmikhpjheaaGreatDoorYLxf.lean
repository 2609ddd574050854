/-
  Tokens of a given source, reckoned.
-/
import Derived.Test.YtkgclmikhpjheaaGreatDoorYHas
import Derived.Test.YtkgclmikhpjheaaGreatDoorYJoi
namespace Go.Proofs.YtkgclmikhpjheaaGreatDoor
open dec

/-- The tokens by recursion on a number. -/
def lxF : Nat → Nat → Bool → List UInt8 → List Tk × List Pb
  | 0, _, _, _ => ([], [])
  | m + 1, p, f, l =>
    if l.drop (sk false l) = [] then ([], [])
    else
      let l' := l.drop (sk false l)
      let R := lxF m (p + sk false l + (shp l').2) (decide ((shp l').1 = 0)) (l'.drop (shp l').2)
      if flt (shp l').1 (l'.take (shp l').2) = 0 then (⟨(shp l').1, ⟨(cont (shp l').1 (l'.take (shp l').2)).toArray⟩, ((p + sk false l : Nat) : Int)⟩ :: R.1, R.2)
      else if (shp l').1 = 0 ∧ f = true ∧ sk false l = 0 then R
      else (R.1, (((p + sk false l : Nat) : Int), flt (shp l').1 (l'.take (shp l').2)) :: R.2)
theorem lxF_eq : ∀ (m p : Nat) (f : Bool) (l : List UInt8), l.length < m → lxF m p f l = lxs p f l
  | 0, _, _, _, h => by omega
  | m + 1, p, f, l, h => by
    unfold lxF
    by_cases h0 : l.drop (sk false l) = []
    · rw [if_pos h0, lex_done h0]
    · rw [if_neg h0, lex_step rfl h0]
      have h1 := shp_pos h0
      have h2 : (l.drop (sk false l)).length ≠ 0 := fun e => h0 (List.eq_nil_of_length_eq_zero e)
      rw [List.length_drop] at h2
      have := lxF_eq m (p + sk false l + (shp (l.drop (sk false l))).2) (decide ((shp (l.drop (sk false l))).1 = 0)) ((l.drop (sk false l)).drop (shp (l.drop (sk false l))).2) (by rw [List.length_drop, List.length_drop]; omega)
      simp only [this]
theorem tok_of {s : ByteArray} {lt : List Tk} {lb : List Pb} (hz : s.size ≤ 100) (h : lxF 101 0 false s.data.toList = (lt, lb)) (hb : lb.length ≤ 32) : tokE s = 0 ∧ tokL s = lt ++ [endT s] ∧ tokB s = lb := by
  rw [lxF_eq 101 0 false _ (by rw [str_len]; omega)] at h
  unfold tokE tokL tokB
  rw [if_neg (by omega), if_neg (by omega), if_neg (by omega), h]
  exact ⟨rfl, rfl, List.take_of_length_le hb⟩
end Go.Proofs.YtkgclmikhpjheaaGreatDoor
