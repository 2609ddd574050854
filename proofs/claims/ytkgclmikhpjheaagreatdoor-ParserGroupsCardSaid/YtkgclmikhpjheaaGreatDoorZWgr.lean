/-
  ParserGroups: the walk, whatever comes in.
-/
import Derived.Test.YtkgclmikhpjheaaGreatDoorZWga
import Derived.Test.YtkgclmikhpjheaaGreatDoorZWgb
namespace Go.Proofs.YtkgclmikhpjheaaGreatDoor.pa
open Go.RowKit dec

theorem cats_of (i j : Nat) : Cats (opS i) (opS j) (sOne i j) (⟨#[120]⟩ ++ opS i) (⟨#[120]⟩ ++ opS i ++ ⟨#[121]⟩) (⟨#[120]⟩ ++ opS i ++ ⟨#[121]⟩ ++ opS j) (⟨#[40, 120]⟩ ++ opS i) (⟨#[40, 120]⟩ ++ opS i ++ ⟨#[121, 41]⟩) (⟨#[40, 120]⟩ ++ opS i ++ ⟨#[121, 41]⟩ ++ opS j) (sLeft i j) (⟨#[120]⟩ ++ opS i ++ ⟨#[40, 121]⟩) (⟨#[120]⟩ ++ opS i ++ ⟨#[40, 121]⟩ ++ opS j) (sRight i j) := by
  have h1 := opS_size i
  have h2 := opS_size j
  have e1 : (⟨#[120]⟩ : ByteArray).size = 1 := rfl
  have e2 : (⟨#[121]⟩ : ByteArray).size = 1 := rfl
  have e3 : (⟨#[122]⟩ : ByteArray).size = 1 := rfl
  have e4 : (⟨#[40, 120]⟩ : ByteArray).size = 2 := rfl
  have e5 : (⟨#[121, 41]⟩ : ByteArray).size = 2 := rfl
  have e6 : (⟨#[40, 121]⟩ : ByteArray).size = 2 := rfl
  have e7 : (⟨#[122, 41]⟩ : ByteArray).size = 2 := rfl
  exact ⟨fun W => cat_run _ _ (by omega) W, fun W => cat_run _ _ (by rw [ByteArray.size_append]; omega) W, fun W => cat_run _ _ (by simp only [ByteArray.size_append]; omega) W, fun W => cat_run _ _ (by simp only [ByteArray.size_append]; omega) W,
    fun W => cat_run _ _ (by omega) W, fun W => cat_run _ _ (by rw [ByteArray.size_append]; omega) W, fun W => cat_run _ _ (by simp only [ByteArray.size_append]; omega) W, fun W => cat_run _ _ (by simp only [ByteArray.size_append]; omega) W,
    fun W => cat_run _ _ (by simp only [ByteArray.size_append]; omega) W, fun W => cat_run _ _ (by simp only [ByteArray.size_append]; omega) W, fun W => cat_run _ _ (by simp only [ByteArray.size_append]; omega) W⟩
theorem walk_groups (a0 : Option Addr) (n0 c0 : Nat) (s : ByteArray) (m n : Int) (w : World) (hS : Bs w a0 n0 c0 s) (T : Tabs w) (EXA : ExA) :
    Calls Tryz.prog 9 #[.slice a0 n0 c0, .int .i64 m, .int .i64 n] w fun e w' => e = .returned (.bool true) ∧ Below w.heap.size w w' := by
  obtain ⟨i, hi, R1⟩ := rank_any m
  obtain ⟨j, hj, R2⟩ := rank_any n
  obtain ⟨x, hx⟩ : ∃ x, fewS 300 s = x := ⟨_, rfl⟩
  have hx3 : x.size ≤ 300 := hx ▸ fewS_size 300 s
  rcases hA1 : rTop x with ⟨a1, p1, e1⟩
  have CC := cats_of i j
  have z1 := sOne_size i j
  have z2 := sLeft_size i j
  have z3 := sRight_size i j
  have hz : sTwo i j = if rkI i < rkI j then sRight i j else sLeft i j := rfl
  by_cases he : e1 = 0
  · subst he
    obtain ⟨p2, hA2⟩ := par_top hx3 hA1
    by_cases h4 : rkI i = 4 ∧ rkI j = 4
    · obtain ⟨g1, g2⟩ := ranks_cmp hi hj h4
      rw [hz, if_neg (by omega)] at g2
      rcases hA3 : rTop (sOne i j) with ⟨a3, p3, e3⟩
      rcases hA4 : rTop (sLeft i j) with ⟨a4, p4, e4⟩
      rw [hA3] at g1
      rw [hA4] at g2
      subst g1 g2
      exact wga_cmp a0 n0 c0 s m n w hS T EXA x _ _ _ _ _ _ _ _ _ _ _ _ _ _ _ hx R1 R2 CC z1 z2 a1 p1 p2 hA1 hA2 a3 a4 p3 p4 h4.1 h4.2 hA3 hA4
    · obtain ⟨g1, g2, g3⟩ := ranks_same hi hj h4
      rcases hA3 : rTop (sOne i j) with ⟨a3, p3, e3⟩
      rw [hA3] at g1 g3
      subst g1
      by_cases hlt : rkI i < rkI j
      · rw [hz, if_pos hlt] at g2 g3
        rcases hA4 : rTop (sRight i j) with ⟨a4, p4, e4⟩
        rw [hA4] at g2 g3
        subst g2 g3
        by_cases hp : rkI i = 4
        · exact wga_rightb a0 n0 c0 s m n w hS T EXA x _ _ _ _ _ _ _ _ _ _ _ _ _ _ _ hx R1 R2 CC z1 z3 a1 p1 p2 hA1 hA2 _ p3 p4 hp (fun h => h4 ⟨hp, h⟩) hlt hA3 hA4
        · exact wga_righta a0 n0 c0 s m n w hS T EXA x _ _ _ _ _ _ _ _ _ _ _ _ _ _ _ hx R1 R2 CC z1 z3 a1 p1 p2 hA1 hA2 _ p3 p4 hp hlt hA3 hA4
      · rw [hz, if_neg hlt] at g2 g3
        rcases hA4 : rTop (sLeft i j) with ⟨a4, p4, e4⟩
        rw [hA4] at g2 g3
        subst g2 g3
        by_cases hp : rkI i = 4
        · exact wga_leftb a0 n0 c0 s m n w hS T EXA x _ _ _ _ _ _ _ _ _ _ _ _ _ _ _ hx R1 R2 CC z1 z2 a1 p1 p2 hA1 hA2 _ p3 p4 hp (fun h => h4 ⟨hp, h⟩) hlt hA3 hA4
        · exact wga_lefta a0 n0 c0 s m n w hS T EXA x _ _ _ _ _ _ _ _ _ _ _ _ _ _ _ hx R1 R2 CC z1 z2 a1 p1 p2 hA1 hA2 _ p3 p4 hp hlt hA3 hA4
  · rcases hA2 : rTop (parS x) with ⟨a2, p2, e2⟩
    by_cases h4 : rkI i = 4 ∧ rkI j = 4
    · obtain ⟨g1, g2⟩ := ranks_cmp hi hj h4
      rw [hz, if_neg (by omega)] at g2
      rcases hA3 : rTop (sOne i j) with ⟨a3, p3, e3⟩
      rcases hA4 : rTop (sLeft i j) with ⟨a4, p4, e4⟩
      rw [hA3] at g1
      rw [hA4] at g2
      subst g1 g2
      exact wgb_cmp a0 n0 c0 s m n w hS T EXA x _ _ _ _ _ _ _ _ _ _ _ _ _ _ _ hx R1 R2 CC z1 z2 a1 a2 p1 p2 e1 e2 he hA1 hA2 a3 a4 p3 p4 h4.1 h4.2 hA3 hA4
    · obtain ⟨g1, g2, g3⟩ := ranks_same hi hj h4
      rcases hA3 : rTop (sOne i j) with ⟨a3, p3, e3⟩
      rw [hA3] at g1 g3
      subst g1
      by_cases hlt : rkI i < rkI j
      · rw [hz, if_pos hlt] at g2 g3
        rcases hA4 : rTop (sRight i j) with ⟨a4, p4, e4⟩
        rw [hA4] at g2 g3
        subst g2 g3
        by_cases hp : rkI i = 4
        · exact wgb_rightb a0 n0 c0 s m n w hS T EXA x _ _ _ _ _ _ _ _ _ _ _ _ _ _ _ hx R1 R2 CC z1 z3 a1 a2 p1 p2 e1 e2 he hA1 hA2 _ p3 p4 hp (fun h => h4 ⟨hp, h⟩) hlt hA3 hA4
        · exact wgb_righta a0 n0 c0 s m n w hS T EXA x _ _ _ _ _ _ _ _ _ _ _ _ _ _ _ hx R1 R2 CC z1 z3 a1 a2 p1 p2 e1 e2 he hA1 hA2 _ p3 p4 hp hlt hA3 hA4
      · rw [hz, if_neg hlt] at g2 g3
        rcases hA4 : rTop (sLeft i j) with ⟨a4, p4, e4⟩
        rw [hA4] at g2 g3
        subst g2 g3
        by_cases hp : rkI i = 4
        · exact wgb_leftb a0 n0 c0 s m n w hS T EXA x _ _ _ _ _ _ _ _ _ _ _ _ _ _ _ hx R1 R2 CC z1 z2 a1 a2 p1 p2 e1 e2 he hA1 hA2 _ p3 p4 hp (fun h => h4 ⟨hp, h⟩) hlt hA3 hA4
        · exact wgb_lefta a0 n0 c0 s m n w hS T EXA x _ _ _ _ _ _ _ _ _ _ _ _ _ _ _ hx R1 R2 CC z1 z2 a1 a2 p1 p2 e1 e2 he hA1 hA2 _ p3 p4 hp hlt hA3 hA4
end Go.Proofs.YtkgclmikhpjheaaGreatDoor.pa
