/-
  ParserGroups: texts. (Written by g_wgr3.py.)
-/
import Derived.Test.YtkgclmikhpjheaaGreatDoorQ15
namespace Go.Proofs.YtkgclmikhpjheaaGreatDoor.pa
open Go.RowKit dec

theorem opS_size (i : Nat) : (opS i).size ≤ 9 := by
  match i with
  | 0 => decide
  | 1 => decide
  | 2 => decide
  | 3 => decide
  | 4 => decide
  | 5 => decide
  | 6 => decide
  | 7 => decide
  | 8 => decide
  | 9 => decide
  | _ + 10 => show (⟨#[32, 47, 32]⟩ : ByteArray).size ≤ 9; decide
theorem sOne_size (i j : Nat) : (sOne i j).size ≤ 100 := by
  have := opS_size i
  have := opS_size j
  unfold sOne
  simp only [ByteArray.size_append]
  have e0 : (⟨#[120]⟩ : ByteArray).size = 1 := rfl
  have e1 : (⟨#[121]⟩ : ByteArray).size = 1 := rfl
  have e2 : (⟨#[122]⟩ : ByteArray).size = 1 := rfl
  omega
theorem sLeft_size (i j : Nat) : (sLeft i j).size ≤ 100 := by
  have := opS_size i
  have := opS_size j
  unfold sLeft
  simp only [ByteArray.size_append]
  have e0 : (⟨#[40, 120]⟩ : ByteArray).size = 2 := rfl
  have e1 : (⟨#[121, 41]⟩ : ByteArray).size = 2 := rfl
  have e2 : (⟨#[122]⟩ : ByteArray).size = 1 := rfl
  omega
theorem sRight_size (i j : Nat) : (sRight i j).size ≤ 100 := by
  have := opS_size i
  have := opS_size j
  unfold sRight
  simp only [ByteArray.size_append]
  have e0 : (⟨#[120]⟩ : ByteArray).size = 1 := rfl
  have e1 : (⟨#[40, 121]⟩ : ByteArray).size = 2 := rfl
  have e2 : (⟨#[122, 41]⟩ : ByteArray).size = 2 := rfl
  omega
/-- A source between parentheses. -/
def parS (x : ByteArray) : ByteArray := ⟨#[40]⟩ ++ x ++ ⟨#[10, 41]⟩
theorem parS_data (x : ByteArray) : (parS x).data.toList = 40 :: (x.data.toList ++ [10, 41]) := by
  unfold parS
  simp [ByteArray.data_append]
theorem parS_size (x : ByteArray) : (parS x).size = x.size + 3 := by
  rw [← str_len, parS_data]
  simp only [List.length_cons, List.length_append, List.length_nil, str_len]
theorem par_top {x : ByteArray} (hx : x.size ≤ 300) {a : Ex} {p : Int} (h : rTop x = (a, p, 0)) : ∃ q, rTop (parS x) = (a, q, 0) := by
  obtain ⟨h1, h2, rfl, r, h3⟩ := top_ok exR_ne (fun h => exR_nz h) h
  have hsz := parS_size x
  rw [tokL_eq (by omega)] at h3
  obtain ⟨q, h4⟩ := group_ok (e2 := (((parS x).size : Nat) : Int)) h3
  have hl := lxsB_nil (s := x) (by omega) h2
  refine ⟨0, topR_ok (l := q) ?_ ?_ ?_⟩
  · unfold tokE
    rw [if_neg (by omega)]
  · unfold tokB
    rw [if_neg (by omega), parS_data, lxs_group, hl]
    rfl
  · rw [tokL_eq (by omega), parS_data]
    exact h4

/-- The texts of two operators, put together. -/
structure Cats (o1 o2 y y1 y2 y3 l1 l2 l3 yl r2 r3 yr : ByteArray) : Prop where
  c1 : ∀ W, (Op.stringOp .add ⟨#[120]⟩ o1).run Tryz.prog W = .ok (.string y1) W
  c2 : ∀ W, (Op.stringOp .add y1 ⟨#[121]⟩).run Tryz.prog W = .ok (.string y2) W
  c3 : ∀ W, (Op.stringOp .add y2 o2).run Tryz.prog W = .ok (.string y3) W
  c4 : ∀ W, (Op.stringOp .add y3 ⟨#[122]⟩).run Tryz.prog W = .ok (.string y) W
  d1 : ∀ W, (Op.stringOp .add ⟨#[40, 120]⟩ o1).run Tryz.prog W = .ok (.string l1) W
  d2 : ∀ W, (Op.stringOp .add l1 ⟨#[121, 41]⟩).run Tryz.prog W = .ok (.string l2) W
  d3 : ∀ W, (Op.stringOp .add l2 o2).run Tryz.prog W = .ok (.string l3) W
  d4 : ∀ W, (Op.stringOp .add l3 ⟨#[122]⟩).run Tryz.prog W = .ok (.string yl) W
  e2 : ∀ W, (Op.stringOp .add y1 ⟨#[40, 121]⟩).run Tryz.prog W = .ok (.string r2) W
  e3 : ∀ W, (Op.stringOp .add r2 o2).run Tryz.prog W = .ok (.string r3) W
  e4 : ∀ W, (Op.stringOp .add r3 ⟨#[122, 41]⟩).run Tryz.prog W = .ok (.string yr) W
end Go.Proofs.YtkgclmikhpjheaaGreatDoor.pa
