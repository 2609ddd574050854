/-
  decimal.Format for every int.
-/
import Derived.Test.YtgfigcjbfigmiaaDoorFormat
import Derived.Laws.Concat
namespace Go.Proofs.YtgfigcjbfigmiaaDoor
open Go.RowKit Go.Shelf Go.Sort Go.Lib

/-- What decimal.Format answers. -/
def foX (x : Int) : List UInt8 := (if x < 0 then [45] else []) ++ Lib.decDigits (x.natAbs / 1000000) ++ [46] ++ (Lib.decDigits (1000000 + x.natAbs % 1000000)).drop 1

theorem dig_len (u : Nat) (h : u < 18446744073709551616) : 1 ≤ (Lib.decDigits u).length ∧ (Lib.decDigits u).length ≤ 20 := by
  rw [Lib.decDigits_length]
  refine ⟨Lib.nDigits_pos u, ?_⟩
  by_cases hu : 1 ≤ u
  · have := Lib.numDigits_eq u hu h; split at this <;> omega
  · rw [Lib.nDigits_small (by omega)]; decide
theorem slice_one (l : List UInt8) (h : 1 ≤ l.length) (W : World) : (Instr.slice 9 (.string ⟨l.toArray⟩) (some (.int .i64 1)) none none).run Tryd.prog W = .ok (.string ⟨(l.drop 1).toArray⟩) W := by
  have e : (ByteArray.mk l.toArray).size = l.length := by show l.toArray.size = _; simp
  rw [run_slice_string_from_if W 9 ⟨l.toArray⟩ .i64 _ Tryd.underlying9, if_pos ⟨by omega, by rw [e]; omega⟩]
  congr 2
  apply ByteArray.ext
  apply Array.ext'
  rw [Lib.extract_data]
  simp only [e]
  show ((l.toArray.toList.drop 1).take (l.length - 1)) = _
  rw [List.take_of_length_le (by simp)]
theorem add_lists (x y : List UInt8) (hx : x.length ≤ 100) (hy : y.length ≤ 100) (W : World) : (Op.stringOp .add ⟨x.toArray⟩ ⟨y.toArray⟩).run Tryd.prog W = .ok (.string ⟨(x ++ y).toArray⟩) W := run_string_add_lists W x y (by omega) (by omega)

theorem abs_wrap {x : Int} (h1 : -9223372036854775808 ≤ x) (h2 : x ≤ 9223372036854775807) :
    (x < 0 → IntKind.u64.wrap (-IntKind.u64.wrap x) = (x.natAbs : Int)) ∧ (0 ≤ x → IntKind.u64.wrap x = (x.natAbs : Int)) := by
  rw [IntKind.wrap_u64, IntKind.wrap_u64]
  constructor
  · intro h; omega
  · intro h; omega

theorem tab_stays {w w' : World} {n : String} {k : IntKind} {zs : List Int} (h : Lib.TabIs Tryd.prog w n k zs) (hb : Below w.heap.size w w') : Lib.TabIs Tryd.prog w' n k zs := by
  unfold Lib.TabIs at *
  cases hg : Tryd.prog.globalNamed n with
  | none => unfold World.var? at h; simp [hg] at h
  | some g => exact Go.Joins.var_stays hg h hb (Nat.le_refl _)

set_option maxHeartbeats 1000000 in
theorem format_any (x : Int) (h1 : -9223372036854775808 ≤ x) (h2 : x ≤ 9223372036854775807) (w : World) (htab : Lib.TabIs Tryd.prog w "internal/strconv.uint64pow10" .u64 Lib.pow10Tab) :
    Calls Tryd.prog 42 #[.int .i64 x] w fun e w' => e = .returned (.string ⟨(foX x).toArray⟩) ∧ Below w.heap.size w w' := by
  have haw := abs_wrap h1 h2
  obtain ⟨u, hu⟩ : ∃ u : Nat, u = x.natAbs := ⟨_, rfl⟩
  have hu64 : u ≤ 9223372036854775808 := by omega
  have hf : Hid (foX x = (if x < 0 then [45] else []) ++ Lib.decDigits (u / 1000000) ++ [46] ++ (Lib.decDigits (1000000 + u % 1000000)).drop 1) := by unfold Hid foX; rw [← hu]
  rw [← hu] at haw
  have CA := Lib.hid (fmt_any ((1000000 + u % 1000000 : Nat) : Int) (by omega) (by omega) w htab)
  have CB := Lib.hid (fun w' hb => fmt_any ((u / 1000000 : Nat) : Int) (by omega) (by omega) w' (tab_stays htab hb))
  have la := dig_len (1000000 + u % 1000000) (by omega)
  have lb := dig_len (u / 1000000) (by omega)
  have e1 : (((1000000 + u % 1000000 : Nat) : Int)).toNat = 1000000 + u % 1000000 := by omega
  have e2 : (((u / 1000000 : Nat) : Int)).toNat = u / 1000000 := by omega
  rw [e1] at CA
  rw [e2] at CB
  clear e1 e2 hu
  generalize Lib.decDigits (1000000 + u % 1000000) = a at *
  generalize Lib.decDigits (u / 1000000) = b at *
  have hsl := slice_one a la.1
  have q1 : ((1000000 + u % 1000000 : Nat) : Int) = 1000000 + (u : Int) % 1000000 := by omega
  have q2 : ((u / 1000000 : Nat) : Int) = (u : Int) / 1000000 := by omega
  rw [q1] at CA
  rw [q2] at CB
  clear q1 q2
  have hl3 : (a.drop 1).length ≤ 20 := by simp; omega
  generalize a.drop 1 = c at *
  by_cases hx : x < 0
  · have hw := haw.1 hx
    obtain ⟨d1, hd1⟩ : ∃ d1 : List UInt8, d1 = [45] ++ b := ⟨_, rfl⟩
    obtain ⟨d2, hd2⟩ : ∃ d2 : List UInt8, d2 = d1 ++ [46] := ⟨_, rfl⟩
    obtain ⟨d3, hd3⟩ : ∃ d3 : List UInt8, d3 = d2 ++ c := ⟨_, rfl⟩
    have l1 : d1.length ≤ 21 := by rw [hd1]; simp; omega
    have l2 : d2.length ≤ 22 := by rw [hd2]; simp; omega
    have p1 : ∀ W, (Op.stringOp .add ⟨#[45]⟩ ⟨b.toArray⟩).run Tryd.prog W = .ok (.string ⟨d1.toArray⟩) W := fun W => by rw [hd1]; exact add_lists [45] b (by simp) (by omega) W
    have p2 : ∀ W, (Op.stringOp .add ⟨d1.toArray⟩ ⟨#[46]⟩).run Tryd.prog W = .ok (.string ⟨d2.toArray⟩) W := fun W => by rw [hd2]; exact add_lists d1 [46] (by omega) (by simp) W
    have p3 : ∀ W, (Op.stringOp .add ⟨d2.toArray⟩ ⟨c.toArray⟩).run Tryd.prog W = .ok (.string ⟨d3.toArray⟩) W := fun W => by rw [hd3]; exact add_lists d2 c (by omega) (by omega) W
    have hf2 : Hid (foX x = d3) := by unfold Hid; rw [hf.out, if_pos hx, hd3, hd2, hd1]
    clear hf haw hd1 hd2 hd3
    go_enter Tryd.func42, Tryd.ntmps42
    go_wp2_with fail
    refine CA.out.mono ?_
    rintro e w1 ⟨rfl, k1⟩
    go_wp2_with fail
    refine (CB.out _ k1).mono ?_
    rintro e w2 ⟨rfl, k2⟩
    replace k2 := bnext k1 k2
    go_wp2_with fail
    go_ret
    exact ⟨by rw [hf2.out]; rfl, k2⟩
  · have hw := haw.2 (by omega)
    obtain ⟨d1, hd1⟩ : ∃ d1 : List UInt8, d1 = [] ++ b := ⟨_, rfl⟩
    obtain ⟨d2, hd2⟩ : ∃ d2 : List UInt8, d2 = d1 ++ [46] := ⟨_, rfl⟩
    obtain ⟨d3, hd3⟩ : ∃ d3 : List UInt8, d3 = d2 ++ c := ⟨_, rfl⟩
    have l1 : d1.length ≤ 21 := by rw [hd1]; simp; omega
    have l2 : d2.length ≤ 22 := by rw [hd2]; simp; omega
    have p1 : ∀ W, (Op.stringOp .add ⟨#[]⟩ ⟨b.toArray⟩).run Tryd.prog W = .ok (.string ⟨d1.toArray⟩) W := fun W => by rw [hd1]; exact add_lists [] b (by simp) (by omega) W
    have p2 : ∀ W, (Op.stringOp .add ⟨d1.toArray⟩ ⟨#[46]⟩).run Tryd.prog W = .ok (.string ⟨d2.toArray⟩) W := fun W => by rw [hd2]; exact add_lists d1 [46] (by omega) (by simp) W
    have p3 : ∀ W, (Op.stringOp .add ⟨d2.toArray⟩ ⟨c.toArray⟩).run Tryd.prog W = .ok (.string ⟨d3.toArray⟩) W := fun W => by rw [hd3]; exact add_lists d2 c (by omega) (by omega) W
    have hf2 : Hid (foX x = d3) := by unfold Hid; rw [hf.out, if_neg hx, hd3, hd2, hd1]
    clear hf haw hd1 hd2 hd3
    go_enter Tryd.func42, Tryd.ntmps42
    go_wp2_with fail
    refine CA.out.mono ?_
    rintro e w1 ⟨rfl, k1⟩
    go_wp2_with fail
    refine (CB.out _ k1).mono ?_
    rintro e w2 ⟨rfl, k2⟩
    replace k2 := bnext k1 k2
    go_wp2_with fail
    go_ret
    exact ⟨by rw [hf2.out]; rfl, k2⟩
end Go.Proofs.YtgfigcjbfigmiaaDoor
