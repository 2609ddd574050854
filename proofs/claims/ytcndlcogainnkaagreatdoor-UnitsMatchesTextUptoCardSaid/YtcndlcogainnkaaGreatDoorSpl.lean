/-
  strings.SplitN at one byte and five pieces, strings.Cut at one byte: for strings of every length.
-/
import Derived.Test.YtcndlcogainnkaaGreatDoorFmt
import Derived.Lib.Split
import Derived.Deep.OwnRows
import Derived.Deep.LoopGhost
import Derived.Shelf.RegionOpenPlain
import Derived.Laws.Strings3
namespace Go.Proofs.YtcndlcogainnkaaGreatDoor
open Go.RowKit dec

def spB : Nat → ByteArray → List ByteArray
  | 0, s => [s]
  | k + 1, s => if Lib.indexByte s.data.toList 42 = -1 then [s] else s.extract 0 (Lib.indexByte s.data.toList 42).toNat :: spB k (s.extract ((Lib.indexByte s.data.toList 42).toNat + 1) s.size)
theorem ext_end (s : ByteArray) (a : Nat) : (s.extract a s.size).data.toList = s.data.toList.drop a := by
  rw [Lib.extract_data]
  refine List.take_of_length_le ?_
  rw [List.length_drop, ← Lib.size_eq]
  omega
theorem ext_zero (s : ByteArray) (a : Nat) : (s.extract 0 a).data.toList = s.data.toList.take a := by
  rw [Lib.extract_data]
  simp
theorem spB_data : ∀ (k : Nat) (s : ByteArray), (spB k s).map (·.data.toList) = spL k s.data.toList
  | 0, _ => rfl
  | k + 1, s => by
    unfold spB spL
    split
    · rfl
    · rw [List.map_cons, spB_data k, ext_zero, ext_end]
theorem spB_len : ∀ (k : Nat) (s : ByteArray), (spB k s).length ≤ k + 1
  | 0, _ => Nat.le_refl _
  | k + 1, s => by
    unfold spB
    split
    · simp
    · have := spB_len k (s.extract ((Lib.indexByte s.data.toList 42).toNat + 1) s.size)
      simp only [List.length_cons]
      omega
theorem spB_miss {k : Nat} {s : ByteArray} (h : Lib.indexByte s.data.toList 42 = -1) : spB k s = [s] := by
  cases k with
  | zero => rfl
  | succ k => unfold spB; rw [if_pos h]
theorem spB_hit {k i : Nat} {s : ByteArray} (h : Lib.indexByte s.data.toList 42 = (i : Nat)) : spB (k + 1) s = s.extract 0 i :: spB k (s.extract (i + 1) s.size) := by
  rw [spB, if_neg (by omega), h, Int.toNat_natCast]
theorem less_dl {n d : Nat} (h : d < n) : n - (intOf (Value.int .i64 ((d : Int) + 1))).toNat < n - (intOf (Value.int .i64 (d : Int))).toNat := by
  show n - (((d : Int) + 1)).toNat < n - ((d : Nat) : Int).toNat
  omega
set_option maxRecDepth 1000000 in
set_option maxHeartbeats 2000000 in
theorem gen_any (s : ByteArray) (hs : s.size ≤ 140737488355328) (N : Nat) (hN : N = min 5 (s.size + 1)) (w : World) :
    Calls Tryz.prog 79 #[.string s, .string ⟨#[42]⟩, .int .i64 0, .int .i64 5] w fun e w' =>
      e = .returned (.slice (some ⟨w.heap.size, 0, none⟩) (spB (N - 1) s).length N) ∧ w' = w.alloc (.cells (Lib.cellsOf (spB (N - 1) s) N) 9) := by
  have IX := Lib.hid (fun x W => Tryz.strings_Index_one x 42 W)
  have hmk := run_make_row' (P := Tryz.prog) 53 9 (.string ByteArray.empty) 16 Tryz.underlying53 infoS rfl .i64 .i64 N (by omega) (by omega)
  have eN : min (5 : Int) ((s.size : Int) + 1) = (N : Int) := by omega
  have hN1 : 1 ≤ N ∧ N ≤ 5 := by omega
  have f1 : wrap64 ((s.size : Int) + 1) = (s.size : Int) + 1 := by unfold wrap64; omega
  have f2 : wrap64 ((N : Int) - 1) = ((N - 1 : Nat) : Int) := by unfold wrap64; omega
  replace hs := Lib.hid hs
  clear hN
  go_enter Tryz.func79, Tryz.ntmps79
  go_wp2_with fail
  clear f1 f2 eN hmk
  go_loopw [0, 10] (fun vs vi wr => ∃ (done : List ByteArray) (rest : ByteArray), vs = .string rest ∧ vi = .int .i64 (done.length : Nat) ∧ Hid (done.length ≤ N - 1) ∧ Hid (rest.size ≤ s.size) ∧ Hid (done ++ spB (N - 1 - done.length) rest = spB (N - 1) s) ∧ wr = w.alloc (.cells (Lib.cellsOf done N) 9)) (fun _ vi _ => N - 1 - (intOf vi).toNat)
  case atStart => exact ⟨[], s, rfl, rfl, Lib.hid (Nat.zero_le _), Lib.hid (Nat.le_refl _), Lib.hid rfl, by rw [Lib.cellsOf_nil]⟩
  case round =>
    obtain ⟨done, rest, rfl, rfl, hd, hr, hsp, rfl⟩ := hrel
    have fin := Lib.hid (fun (h : spB (N - 1 - done.length) rest = [rest]) => show (spB (N - 1) s).length = done.length + 1 ∧ (Lib.cellsOf done N).setIfInBounds done.length (.string rest) = Lib.cellsOf (spB (N - 1) s) N from by
      have e := hsp.out
      rw [h] at e
      rw [← e]
      exact ⟨by simp, Lib.cellsOf_set (by have := hd.out; omega) rest⟩)
    have hnext : (Lib.cellsOf done N)[done.length]? = some (.string ByteArray.empty) := Lib.cellsOf_next (by have := hd.out; omega)
    have hdN : done.length < N := by have := hd.out; omega
    have hdz : ((done.length : Nat) : Int) < (N : Int) := by omega
    have f6 := Lib.hid (show wrap64 (((done.length : Nat) : Int) + 1) = ((done.length + 1 : Nat) : Int) from next_at (by omega))
    have hszc := Lib.hid (Lib.cellsOf_size (done := done) (N := N) (by omega))
    generalize hdl : done.length = dl at *
    have hb1 : (0 : Int) ≤ (dl : Int) + 1 := by omega
    have hb2 : (dl : Int) + 1 ≤ (N : Int) := by omega
    by_cases hlt : dl < N - 1
    · have q1 : decide ((dl : Int) < (N : Int) - 1) = true := decide_eq_true (by omega)
      rcases ix_le 42 rest.data.toList with hix | ⟨hx1, hx2⟩
      · have e9 := Lib.hid (fin.out (spB_miss hix))
        have IXm := Lib.hid (fun W => IX.out rest W)
        rw [hix] at IXm
        clear hix IX
        have f7 : wrap64 ((dl : Int) + 1) = (dl : Int) + 1 := by unfold wrap64; omega
        go_wp2_with fail
        refine (IXm.out _).mono ?_
        rintro e w' ⟨rfl, rfl⟩
        go_wp2_with fail
        go_ret
        rw [e9.out.1, ← e9.out.2]
        exact ⟨by first | rfl | (congr 2; omega), rfl⟩
      · obtain ⟨i, hi⟩ : ∃ i : Nat, Lib.indexByte rest.data.toList 42 = (i : Nat) := ⟨(Lib.indexByte rest.data.toList 42).toNat, by omega⟩
        have hir : i < rest.size := by rw [Lib.size_eq]; omega
        have IXm := Lib.hid (fun W => IX.out rest W)
        rw [hi] at IXm
        have hst := spB_hit (k := N - 1 - (dl + 1)) hi
        rw [show N - 1 - (dl + 1) + 1 = N - 1 - dl by omega] at hst
        have hnew := Lib.hid (show (done ++ [rest.extract 0 i]) ++ spB (N - 1 - (done ++ [rest.extract 0 i]).length) (rest.extract (i + 1) rest.size) = spB (N - 1) s by
          rw [← hsp.out, hst, List.length_append, List.length_singleton, hdl]
          simp)
        have hset := Lib.hid (show (Lib.cellsOf done N).setIfInBounds dl (.string (rest.extract 0 i)) = Lib.cellsOf (done ++ [rest.extract 0 i]) N by rw [← hdl]; exact Lib.cellsOf_set (by omega) _)
        have hlen2 := Lib.hid (show dl + 1 = (done ++ [rest.extract 0 i]).length by rw [List.length_append, List.length_singleton, hdl])
        have hrs := Lib.hid (show (rest.extract (i + 1) rest.size).size ≤ s.size by have := hr.out; rw [ByteArray.size_extract]; omega)
        have hN2 := Lib.hid (show dl + 1 ≤ N - 1 by omega)
        have c0 : ¬ ((i : Int) < 0) := by omega
        have c1 : (0 : Int) ≤ (i : Int) := by omega
        have c2 : (i : Int) ≤ (rest.size : Int) := by omega
        have c3 : (0 : Int) ≤ (i : Int) + 1 := by omega
        have c4 : (i : Int) + 1 ≤ (rest.size : Int) := by omega
        have hlt2 := Lib.hid hlt
        have f9 : wrap64 (i : Int) = (i : Int) := by have := hs.out; have := hr.out; unfold wrap64; omega
        have f8 : wrap64 ((i : Int) + 1) = (i : Int) + 1 := by have := hs.out; have := hr.out; clear f9; unfold wrap64; omega
        clear IX fin hst hx1 hx2 hi
        go_wp2_with fail
        refine (IXm.out _).mono ?_
        rintro e w' ⟨rfl, rfl⟩
        go_wp2_with fail
        rw [hset.out]
        refine ⟨⟨done ++ [rest.extract 0 i], rest.extract (i + 1) rest.size, rfl, by rw [← hlen2.out]; rfl, by rw [← hlen2.out]; exact hN2, hrs, hnew, rfl⟩, less_dl hlt2.out⟩
    · have q1 : decide ((dl : Int) < (N : Int) - 1) = false := decide_eq_false (by omega)
      have e9 := Lib.hid (fin.out (by rw [show N - 1 - dl = 0 by omega]; rfl))
      have f7 : wrap64 ((dl : Int) + 1) = (dl : Int) + 1 := by unfold wrap64; omega
      clear fin IX
      go_wp2_with fail
      go_ret
      rw [e9.out.1, ← e9.out.2]
      exact ⟨by first | rfl | (congr 2; omega), rfl⟩
theorem splitN_any (s : ByteArray) (hs : s.size ≤ 140737488355328) (N : Nat) (hN : N = min 5 (s.size + 1)) (w : World) :
    Calls Tryz.prog 60 #[.string s, .string ⟨#[42]⟩, .int .i64 5] w fun e w' =>
      e = .returned (.slice (some ⟨w.heap.size, 0, none⟩) (spB (N - 1) s).length N) ∧ w' = w.alloc (.cells (Lib.cellsOf (spB (N - 1) s) N) 9) := by
  have C := Lib.hid (gen_any s hs N hN w)
  clear hs hN
  go_enter Tryz.func60, Tryz.ntmps60
  go_wp2_with fail
  refine C.out.mono ?_
  rintro e w' ⟨rfl, hw⟩
  have H := Lib.hid hw
  clear hw
  go_wp2_with fail
  go_ret
  exact ⟨rfl, H.out⟩
def cutB (s : ByteArray) : ByteArray × ByteArray × Bool := if Lib.indexByte s.data.toList 94 = -1 then (s, .empty, false) else (s.extract 0 (Lib.indexByte s.data.toList 94).toNat, s.extract ((Lib.indexByte s.data.toList 94).toNat + 1) s.size, true)
theorem cutB_miss {s : ByteArray} (h : Lib.indexByte s.data.toList 94 = -1) : cutB s = (s, .empty, false) := by unfold cutB; rw [if_pos h]
theorem cutB_hit {s : ByteArray} {i : Nat} (h : Lib.indexByte s.data.toList 94 = (i : Nat)) : cutB s = (s.extract 0 i, s.extract (i + 1) s.size, true) := by
  unfold cutB
  rw [if_neg (by omega), h, Int.toNat_natCast]
theorem cut1_any (s : ByteArray) (hs : s.size ≤ 140737488355328) (w : World) :
    Calls Tryz.prog 80 #[.string s, .string ⟨#[94]⟩] w fun e w' => e = .returned (.tuple #[.string (cutB s).1, .string (cutB s).2.1, .bool (cutB s).2.2]) ∧ Below w.heap.size w w' := by
  have IX := Lib.hid (fun W => Tryz.stringslite_Index_one s 94 W)
  rcases ix_le 94 s.data.toList with hix | ⟨hx1, hx2⟩
  · rw [hix] at IX
    rw [cutB_miss hix]
    clear hix hs
    go_enter Tryz.func80, Tryz.ntmps80
    go_wp2_with fail
    refine (IX.out _).mono ?_
    rintro e w' ⟨rfl, rfl⟩
    go_wp2_with fail
    go_ret3
    exact ⟨rfl, b0 _⟩
  · obtain ⟨i, hi⟩ : ∃ i : Nat, Lib.indexByte s.data.toList 94 = (i : Nat) := ⟨(Lib.indexByte s.data.toList 94).toNat, by omega⟩
    have hir : i < s.size := by rw [Lib.size_eq]; omega
    rw [hi] at IX
    rw [cutB_hit hi]
    have c0 : (0 : Int) ≤ (i : Int) := by omega
    have c2 : (i : Int) ≤ (s.size : Int) := by omega
    have c3 : (0 : Int) ≤ (i : Int) + 1 := by omega
    have c4 : (i : Int) + 1 ≤ (s.size : Int) := by omega
    have f8 : wrap64 ((i : Int) + 1) = (i : Int) + 1 := by unfold wrap64; omega
    clear hi hx1 hx2
    go_enter Tryz.func80, Tryz.ntmps80
    go_wp2_with fail
    refine (IX.out _).mono ?_
    rintro e w' ⟨rfl, rfl⟩
    go_wp2_with fail
    go_region
    go_wp2_with fail
    go_ret3
    exact ⟨rfl, (b0 _).drew⟩
theorem cut_any (s : ByteArray) (hs : s.size ≤ 140737488355328) (w : World) :
    Calls Tryz.prog 61 #[.string s, .string ⟨#[94]⟩] w fun e w' => e = .returned (.tuple #[.string (cutB s).1, .string (cutB s).2.1, .bool (cutB s).2.2]) ∧ Below w.heap.size w w' := by
  have C := Lib.hid (cut1_any s hs w)
  clear hs
  generalize (cutB s).1 = x at *
  generalize (cutB s).2.1 = y at *
  generalize (cutB s).2.2 = z at *
  go_enter Tryz.func61, Tryz.ntmps61
  go_wp2_with fail
  refine C.out.mono ?_
  rintro e w' ⟨rfl, hb⟩
  have H := Lib.hid hb
  clear hb
  go_wp2_with fail
  go_ret3
  exact ⟨rfl, H.out⟩
theorem ba_ext {a b : ByteArray} (h : a.data.toList = b.data.toList) : a = b := by
  cases a; cases b
  simp only at h
  rw [Array.toList_inj.1 h]
theorem fac_miss {s : ByteArray} (h : (cutB s).2.2 = false) : fac s.data.toList = ((cutB s).1, 1) := by
  unfold cutB at h ⊢
  unfold fac
  split
  · rfl
  · rename_i h'
    rw [if_neg h'] at h
    cases h
theorem fac_hit {s : ByteArray} (h : (cutB s).2.2 = true) : fac s.data.toList = ((cutB s).1, atoiN (cutB s).2.1.data.toList) := by
  unfold cutB at h ⊢
  unfold fac
  split
  · rename_i h'
    rw [if_pos h'] at h
    cases h
  · rename_i h'
    refine Prod.ext ?_ ?_
    · exact ba_ext (by rw [ext_zero])
    · show atoiN _ = atoiN _
      rw [ext_end]
theorem cutB_size (s : ByteArray) : (cutB s).1.size ≤ s.size ∧ (cutB s).2.1.size ≤ s.size := by
  unfold cutB
  split
  · exact ⟨Nat.le_refl _, Nat.zero_le _⟩
  · constructor <;> (simp only [ByteArray.size_extract]; omega)
/-- Pieces in the cells of a block. -/
def PS (w : World) (b : Nat) (ps : List ByteArray) : Prop := ∀ j, j < ps.length → w.cell? ⟨b, j, none⟩ = some (.string (ps.getD j .empty))
theorem PS.new (w : World) (ps : List ByteArray) (N : Nat) : PS (w.alloc (.cells (Lib.cellsOf ps N) 9)) w.heap.size ps := by
  intro j hj
  have : (Lib.cellsOf ps N)[j]? = some (.string (ps.getD j .empty)) := by
    unfold Lib.cellsOf
    rw [List.getElem?_toArray, List.getElem?_append_left (by simpa using hj), List.getElem?_map, List.getElem?_eq_getElem hj, List.getD_eq_getElem?_getD, List.getElem?_eq_getElem hj]
    rfl
  simp [go_sem, this]
theorem PS.keeps {w w' : World} {b : Nat} {ps : List ByteArray} (h : PS w b ps) (hb : Below w.heap.size w w') : PS w' b ps := fun j hj => dec.keeps hb (h j hj)
theorem spB_size : ∀ (k : Nat) (s : ByteArray), ∀ p ∈ spB k s, p.size ≤ s.size
  | 0, s, p, h => by
    have : p = s := by simpa [spB] using h
    rw [this]; exact Nat.le_refl _
  | k + 1, s, p, h => by
    rw [spB] at h
    split at h
    · have : p = s := by simpa using h
      rw [this]; exact Nat.le_refl _
    · rcases List.mem_cons.1 h with rfl | h
      · simp only [ByteArray.size_extract]; omega
      · have := spB_size k _ p h
        simp only [ByteArray.size_extract] at this
        omega
theorem spB_pos (k : Nat) (s : ByteArray) : 1 ≤ (spB k s).length := by
  cases k with
  | zero => exact Nat.le_refl _
  | succ k =>
    rw [spB]
    split <;> simp
end Go.Proofs.YtcndlcogainnkaaGreatDoor
