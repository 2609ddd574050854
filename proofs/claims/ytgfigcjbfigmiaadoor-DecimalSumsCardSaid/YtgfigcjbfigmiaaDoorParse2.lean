/-
  decimal.Parse for every string.
-/
import Derived.Test.YtgfigcjbfigmiaaDoorParse
namespace Go.Proofs.YtgfigcjbfigmiaaDoor
open Go.RowKit Go.Shelf

theorem rd_range (l : List UInt8) : ∀ (k i : Nat) (n : Int) (p : Nat), 0 ≤ n → n ≤ 1152921504606846979 → 0 ≤ (rd l k i n p).2.1 ∧ (rd l k i n p).2.1 ≤ 1152921504606846979
  | 0, _, _, _, h0, h1 => ⟨h0, h1⟩
  | k + 1, i, n, p, h0, h1 => by
    rw [rd]
    split
    · split
      · rename_i hd
        have hw := wd_range (n := n) (d := byteAt l i - 48) h0 (by omega) (by omega)
        exact rd_range l k (i + 1) _ p hw.1 hw.2
      · split
        · exact rd_range l k (i + 1) n i h0 h1
        · exact ⟨h0, h1⟩
    · exact ⟨h0, h1⟩
theorem rdAll_range (l : List UInt8) : 0 ≤ (rdAll l).1 ∧ (rdAll l).1 ≤ 1152921504606846979 ∧ 0 ≤ (rdAll l).2.1 ∧ (rdAll l).2.1 ≤ 6 := by
  have h := rd_range l l.length 0 0 l.length (by omega) (by omega)
  unfold rdAll rdEnd
  split
  · simp
  · split
    · exact ⟨h.1, h.2, by simp, by simp⟩
    · split
      · simp
      · exact ⟨h.1, h.2, by simp only; omega, by simp only; omega⟩

/-- The table decimal.powers. -/
def powTab : List Int := [1, 10, 100, 1000, 10000, 100000, 1000000]
theorem gPow : Tryd.prog.globalNamed "asof/decimal.powers" = some 0 := by kernel_rfl
theorem pow_range {a : Int} (h0 : 0 ≤ a) (h6 : a ≤ 6) : 1 ≤ powTab.getD (6 - a).toNat 0 ∧ powTab.getD (6 - a).toNat 0 ≤ 1000000 := by
  obtain h | h | h | h | h | h | h : a = 0 ∨ a = 1 ∨ a = 2 ∨ a = 3 ∨ a = 4 ∨ a = 5 ∨ a = 6 := by omega
  all_goals (subst h; decide)

/-- The millionths that a decimal's digits stand for. -/
def pmOf (l : List UInt8) : Int := (if Lib.hasPrefix l [45] then -(rdAll (Lib.trimPrefix l [45])).1 else (rdAll (Lib.trimPrefix l [45])).1) * powTab.getD (6 - (rdAll (Lib.trimPrefix l [45])).2.1).toNat 0
/-- What decimal.Parse answers: the number and the error. -/
def paX (l : List UInt8) : Int := if (rdAll (Lib.trimPrefix l [45])).2.2 && rg (pmOf l) then pmOf l else 0
def paE (l : List UInt8) : Int := if (rdAll (Lib.trimPrefix l [45])).2.2 then (if rg (pmOf l) then 0 else 2) else 3

theorem parse_core (s t : ByteArray) (neg ok : Bool) (n a P m X E : Int) (w : World)
    (CC : Hid (Calls Tryd.prog 51 #[.string s, .string ⟨#[45]⟩] w fun e w' => e = .returned (.tuple #[.string t, .bool neg]) ∧ w' = w))
    (CR : Hid (Calls Tryd.prog 52 #[.string t] w fun e w' => e = .returned (.tuple #[.int .i64 n, .int .i64 a, .bool ok]) ∧ w = w'))
    (n0 : 0 ≤ n) (n1 : n ≤ 1152921504606846979) (a0 : 0 ≤ a) (a6 : a ≤ 6) (P1 : 1 ≤ P) (P2 : P ≤ 1000000)
    (hc : w.cell? ⟨0, (6 - a).toNat, none⟩ = some (.int .i64 P))
    (hm : Hid (m = (if neg then -n else n) * P)) (hX : Hid (X = if ok && rg m then m else 0)) (hE : Hid (E = if ok then (if rg m then 0 else 2) else 3)) :
    Calls Tryd.prog 41 #[.string s] w fun e w' => e = .returned (.tuple #[.int .i64 X, .int .i64 E]) ∧ Below w.heap.size w w' := by
  cases ok
  · have eX : Hid (X = 0) := by unfold Hid; rw [hX.out]; rfl
    have eE : Hid (E = 3) := by unfold Hid; rw [hE.out]; rfl
    go_enter Tryd.func41, Tryd.ntmps41
    go_wp2_with (first
      | (go_at_call 51; refine CC.out.mono ?_; rintro e w' ⟨rfl, rfl⟩)
      | (go_at_call 52; refine CR.out.mono ?_; rintro e w' ⟨rfl, rfl⟩))
    go_ret2
    exact ⟨by rw [eX.out, eE.out]; rfl, b0 _⟩
  · cases neg
    · have em : Hid (n * P = m) := by unfold Hid; rw [hm.out]; rfl
      have im : In m := by rw [← em.out]; exact mul_in (by omega) (by omega) (by omega) (by omega)
      cases hr : rg m
      · have eX : Hid (X = 0) := by unfold Hid; rw [hX.out, hr]; rfl
        have eE : Hid (E = 2) := by unfold Hid; rw [hE.out, hr]; rfl
        go_enter Tryd.func41, Tryd.ntmps41
        go_wp2_with (first
          | (go_at_call 51; refine CC.out.mono ?_; rintro e w' ⟨rfl, rfl⟩)
          | (go_at_call 52; refine CR.out.mono ?_; rintro e w' ⟨rfl, rfl⟩))
        refine (mul_u n P _ (by omega) (by omega) (by omega) (by omega)).mono ?_
        rw [em.out]
        rintro e w1 ⟨rfl, k1⟩
        go_wp2_with fail
        refine (checked_any im _).mono ?_
        rw [hr]
        rintro e w2 ⟨rfl, k2⟩
        replace k2 := bnext k1 k2
        go_wp2_with fail
        go_ret2
        exact ⟨by rw [eX.out, eE.out]; rfl, k2⟩
      · have eX : Hid (X = m) := by unfold Hid; rw [hX.out, hr]; rfl
        have eE : Hid (E = 0) := by unfold Hid; rw [hE.out, hr]; rfl
        go_enter Tryd.func41, Tryd.ntmps41
        go_wp2_with (first
          | (go_at_call 51; refine CC.out.mono ?_; rintro e w' ⟨rfl, rfl⟩)
          | (go_at_call 52; refine CR.out.mono ?_; rintro e w' ⟨rfl, rfl⟩))
        refine (mul_u n P _ (by omega) (by omega) (by omega) (by omega)).mono ?_
        rw [em.out]
        rintro e w1 ⟨rfl, k1⟩
        go_wp2_with fail
        refine (checked_any im _).mono ?_
        rw [hr, kx_yes hr]
        rintro e w2 ⟨rfl, k2⟩
        replace k2 := bnext k1 k2
        go_wp2_with fail
        go_ret2
        exact ⟨by rw [eX.out, eE.out]; rfl, k2⟩
    · have em : Hid (-n * P = m) := by unfold Hid; rw [hm.out]; rfl
      have im : In m := by rw [← em.out]; exact mul_in (by omega) (by omega) (by omega) (by omega)
      cases hr : rg m
      · have eX : Hid (X = 0) := by unfold Hid; rw [hX.out, hr]; rfl
        have eE : Hid (E = 2) := by unfold Hid; rw [hE.out, hr]; rfl
        go_enter Tryd.func41, Tryd.ntmps41
        go_wp2_with (first
          | (go_at_call 51; refine CC.out.mono ?_; rintro e w' ⟨rfl, rfl⟩)
          | (go_at_call 52; refine CR.out.mono ?_; rintro e w' ⟨rfl, rfl⟩))
        refine (mul_u (-n) P _ (by omega) (by omega) (by omega) (by omega)).mono ?_
        rw [em.out]
        rintro e w1 ⟨rfl, k1⟩
        go_wp2_with fail
        refine (checked_any im _).mono ?_
        rw [hr]
        rintro e w2 ⟨rfl, k2⟩
        replace k2 := bnext k1 k2
        go_wp2_with fail
        go_ret2
        exact ⟨by rw [eX.out, eE.out]; rfl, k2⟩
      · have eX : Hid (X = m) := by unfold Hid; rw [hX.out, hr]; rfl
        have eE : Hid (E = 0) := by unfold Hid; rw [hE.out, hr]; rfl
        go_enter Tryd.func41, Tryd.ntmps41
        go_wp2_with (first
          | (go_at_call 51; refine CC.out.mono ?_; rintro e w' ⟨rfl, rfl⟩)
          | (go_at_call 52; refine CR.out.mono ?_; rintro e w' ⟨rfl, rfl⟩))
        refine (mul_u (-n) P _ (by omega) (by omega) (by omega) (by omega)).mono ?_
        rw [em.out]
        rintro e w1 ⟨rfl, k1⟩
        go_wp2_with fail
        refine (checked_any im _).mono ?_
        rw [hr, kx_yes hr]
        rintro e w2 ⟨rfl, k2⟩
        replace k2 := bnext k1 k2
        go_wp2_with fail
        go_ret2
        exact ⟨by rw [eX.out, eE.out]; rfl, k2⟩

theorem parse_any (s : ByteArray) (w : World) (hs : s.size ≤ 9223372036854775806) (hp : Lib.TabIs Tryd.prog w "asof/decimal.powers" .i64 powTab) :
    Calls Tryd.prog 41 #[.string s] w fun e w' => e = .returned (.tuple #[.int .i64 (paX s.data.toList), .int .i64 (paE s.data.toList)]) ∧ Below w.heap.size w w' := by
  obtain ⟨t, ht⟩ : ∃ t : ByteArray, t = ⟨(Lib.trimPrefix s.data.toList (⟨#[45]⟩ : ByteArray).data.toList).toArray⟩ := ⟨_, rfl⟩
  have htl : t.data.toList = Lib.trimPrefix s.data.toList [45] := by rw [ht]
  have hts : t.size ≤ 9223372036854775806 := by
    have h1 : t.size = t.data.toList.length := (Lib.size_eq t)
    have h2 := Lib.trimPrefix_le s.data.toList [45]
    have h3 : s.size = s.data.toList.length := (Lib.size_eq s)
    rw [htl] at h1
    omega
  have CR := readDigits_any t w hts
  rw [htl] at CR
  have CC := Tryd.strings_CutPrefix s ⟨#[45]⟩ w
  rw [← ht] at CC
  obtain ⟨n0, n1, a0, a6⟩ := rdAll_range (Lib.trimPrefix s.data.toList [45])
  have hc := hp.cell gPow (6 - (rdAll (Lib.trimPrefix s.data.toList [45])).2.1).toNat (by show _ < 7; omega)
  have hPr := pow_range a0 a6
  exact parse_core s t _ _ _ _ _ _ _ w CC CR n0 n1 a0 a6 hPr.1 hPr.2 hc (m := pmOf s.data.toList) rfl rfl rfl
end Go.Proofs.YtgfigcjbfigmiaaDoor
