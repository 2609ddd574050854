/-
  The specification's Digits, Make and carry.
-/
import Derived.Test.YtcndlcogainnkaaGreatDoorDecB
import Derived.Test.YtcndlcogainnkaaGreatDoorDig
namespace Go.Proofs.YtcndlcogainnkaaGreatDoor.dec
open Go.RowKit

theorem info3 : (Tryz.prog.info? 3).map (fun i => (i.zero, i.size, i.bytes)) = some (some (.int .i64 0), 1, 8) := by kernel_rfl

/-- The block g holds the ints f 0 to f 7, and may be written. -/
structure Row (w : World) (g : Nat) (f : Nat → Int) : Prop where
  cell : ∀ j, j < 8 → w.cell? ⟨g, j, none⟩ = some (.int .i64 (f j))
  free : ∀ j, j < 8 → w.frozen? ⟨g, j, none⟩ = false
  lt : g < w.heap.size
theorem Row.keeps {w w1 : World} {g : Nat} {f : Nat → Int} (h : Row w g f) (hb : Below w.heap.size w w1) : Row w1 g f :=
  ⟨fun j hj => Go.Proofs.YtcndlcogainnkaaGreatDoor.dec.keeps hb (h.cell j hj), fun j hj => by rw [hb.frozen (p := ⟨g, j, none⟩) h.lt]; exact h.free j hj, Nat.lt_of_lt_of_le h.lt hb.size⟩
theorem Row.past {w : World} {g : Nat} {f : Nat → Int} (h : Row w g f) (o : Obj) : Row (w.alloc o) g f := h.keeps ((Below.refl _ _).alloc (Nat.le_refl _) _)

theorem owned_row {w : World} {B : Nat} {v : Value} {xs : List Int} (hl : xs.length = 8) (h : w.ownsRow B 3 1 v 8 (xs.map (Value.int .i64))) :
    ∃ g c, v = .slice (some ⟨g, 0, none⟩) 8 c ∧ B ≤ g ∧ 8 ≤ c ∧ Row w g (fun j => xs.getD j 0) := by
  obtain ⟨_, h | ⟨g, c, cur, rfl, hB, hh, hc, hm, hs, ht⟩⟩ := h
  · exact absurd h.2 (by decide)
  · have hlt : g < w.heap.size := by
      rcases Nat.lt_or_ge g w.heap.size with h | h
      · exact h
      · rw [Array.getElem?_eq_none h] at hh; cases hh
    refine ⟨g, c, rfl, hB, hc, ?_, ?_, hlt⟩
    · intro j hj
      have e : cur[j]? = some (.int .i64 (xs.getD j 0)) := by
        have := congrArg (fun l => l[j]?) ht
        simp only [List.getElem?_take, List.getElem?_map] at this
        rw [if_pos (by omega)] at this
        rw [← Array.getElem?_toList, this, List.getElem?_eq_getElem (by omega)]
        simp [List.getElem?_eq_getElem (show j < xs.length by omega)]
      simp [World.cell?, hh, e]
    · intro j hj
      simp [World.frozen?, hh]

theorem push_below {B : Nat} {w wr w1 : World} {v : Value} {n : Nat} {xs : List Value} {o : Obj} (hnx : Below B w wr) (hB : B ≤ wr.heap.size) (hown : wr.ownsRow B 3 1 v n xs) (hg : (wr.alloc o).grownBy w1 v.ownBlock) : Below B w w1 :=
  (hnx.alloc hB o).grown hg (by simp; omega) (fun j hj => (hown.lt j hj).1)

set_option maxRecDepth 100000 in
set_option maxHeartbeats 2000000 in
theorem digits_any {x : Value} {a : Int} (hx : x = W a) (w : World) :
    Calls Tryz.prog 72 #[x] w fun e w' => ∃ g c, e = .returned (.slice (some ⟨g, 0, none⟩) 8 c) ∧ w.heap.size ≤ g ∧ 8 ≤ c ∧ Row w' g (fun j => (dgs a).getD j 0) ∧ Below w.heap.size w w' := by
  subst hx
  obtain ⟨i0, hinf, hz0, hz1, hz2⟩ := info_parts info3
  have rl := lo_range a
  have rh := hu_range a
  have eh : IntKind.u64.wrap (hi a) = hu a := rfl
  have sl := fun k => shr_range rl.1 rl.2 k
  have sh := fun k => shr_range rh.1 rh.2 k
  have SL := Lib.hid sl
  have SH := Lib.hid sh
  clear rl rh sl sh
  have HD : Hid (dgs a = dl (lo a) 4 ++ dl (hu a) 4) := rfl
  unfold W
  go_enter Tryz.func72, Tryz.ntmps72
  go_wp2_with fail
  go_loopw [3, 4, 6] (fun v l i wr => ∃ k : Nat, k ≤ 4 ∧ i = .int .i64 k ∧ l = .int .u64 (shr (lo a) k) ∧ wr.ownsRow w.heap.size 3 1 v k ((dl (lo a) k).map (Value.int .i64)) ∧ Below w.heap.size w wr) (fun _ _ i _ => 4 - (intOf i).toNat)
  case atStart => exact ⟨0, by omega, rfl, rfl, World.ownsRow_nil _ _ _ _, balloc (b0 w) _⟩
  case round =>
    obtain ⟨k, hk, rfl, rfl, hown, hnx⟩ := hrel
    obtain ⟨s0, s1⟩ := SL.out k
    have hz := hnx.size
    by_cases hlt : k < 4
    · go_wp2_with (at_builtin; refine wpList_append_own _ rfl _ _ 90 rfl w.heap.size 3 i0 (.int .i64 0) 1 8 Tryz.underlying90 hinf hz0 hz1 hz2 rfl (by decide) _ _ _ rfl (hown.alloc _) ⟨wr.heap.size, 0, none⟩ 1 1 [.int .i64 (shr (lo a) k % 65536)] rfl rfl ?c1 ?c2 ?c3 ?c4 ?c5 ?_)
      case c1 =>
        intro j u hj
        match j, hj with
        | 0, hj => simp at hj; subst hj; simp [Addr.add]
      case c2 => intro u hu; simp at hu; subst hu; rfl
      case c3 => unfold maxLen; omega
      case c4 => omega
      case c5 => simp; omega
      intro v' w1 hown' hgrow _
      have R1 : w1.ownsRow w.heap.size 3 1 v' (k + 1) ((dl (lo a) (k + 1)).map (Value.int .i64)) := by simpa [dl] using hown'
      have R2 := push_below hnx hz hown hgrow
      clear hown' hgrow hown hnx
      go_wp2
      go_roundw
      case rel => exact ⟨k + 1, by omega, by go_num, rfl, R1, R2⟩
      case measure => simp [intOf]; omega
    · obtain rfl : k = 4 := by omega
      clear s0 s1 hz hlt hk
      go_wp2_with fail
      go_loopw [3, 5, 7] (fun v h i wq => ∃ k : Nat, k ≤ 4 ∧ i = .int .i64 k ∧ h = .int .u64 (shr (hu a) k) ∧ wq.ownsRow w.heap.size 3 1 v (4 + k) ((dl (lo a) 4 ++ dl (hu a) k).map (Value.int .i64)) ∧ Below w.heap.size w wq) (fun _ _ i _ => 4 - (intOf i).toNat)
      case atStart => exact ⟨0, by omega, rfl, rfl, by simpa [dl] using hown, hnx⟩
      case round =>
        clear hown hnx
        obtain ⟨k, hk, rfl, rfl, hown, hnx⟩ := hrel
        obtain ⟨s0, s1⟩ := SH.out k
        have hz := hnx.size
        by_cases hlt : k < 4
        · go_wp2_with (at_builtin; refine wpList_append_own _ rfl _ _ 90 rfl w.heap.size 3 i0 (.int .i64 0) 1 8 Tryz.underlying90 hinf hz0 hz1 hz2 rfl (by decide) _ _ _ rfl (hown.alloc _) ⟨wr.heap.size, 0, none⟩ 1 1 [.int .i64 (shr (hu a) k % 65536)] rfl rfl ?c1 ?c2 ?c3 ?c4 ?c5 ?_)
          case c1 =>
            intro j u hj
            match j, hj with
            | 0, hj => simp at hj; subst hj; simp [Addr.add]
          case c2 => intro u hu; simp at hu; subst hu; rfl
          case c3 => unfold maxLen; omega
          case c4 => omega
          case c5 => simp; omega
          intro v' w1 hown' hgrow _
          have R1 : w1.ownsRow w.heap.size 3 1 v' (4 + (k + 1)) ((dl (lo a) 4 ++ dl (hu a) (k + 1)).map (Value.int .i64)) := by
            have e : (dl (lo a) 4 ++ dl (hu a) (k + 1)).map (Value.int .i64) = (dl (lo a) 4 ++ dl (hu a) k).map (Value.int .i64) ++ [.int .i64 (shr (hu a) k % 65536)] := by simp [dl]
            rw [e]; exact hown'
          have R2 := push_below hnx hz hown hgrow
          clear hown' hgrow hown hnx
          go_wp2
          go_roundw
          case rel => first | exact ⟨k + 1, by omega, by go_num, rfl, R1, R2⟩ | ((repeat apply Exists.intro); exact ⟨⟨k + 1, by omega, by go_num, rfl, R1, R2⟩, rfl⟩)
          case measure => simp [intOf]; omega
        · obtain rfl : k = 4 := by omega
          have hO := hown
          rw [← HD.out] at hO
          obtain ⟨g, c, hv, hg, hc, R⟩ := owned_row (by simp [dgs, dl_length]) hO
          clear hown hO
          rw [hv]
          go_wp2
          go_ret
          exact ⟨g, c, rfl, hg, hc, R, hnx⟩
end Go.Proofs.YtcndlcogainnkaaGreatDoor.dec
