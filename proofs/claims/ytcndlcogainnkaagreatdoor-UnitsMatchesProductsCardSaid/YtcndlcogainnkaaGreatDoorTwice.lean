/-
  The specification's twice and minus.
-/
import Derived.Test.YtcndlcogainnkaaGreatDoorBelow
namespace Go.Proofs.YtcndlcogainnkaaGreatDoor.dec
open Go.RowKit

/-- The list of F 0 to F (k - 1). -/
def tl (F : Nat → Int) : Nat → List Int
  | 0 => []
  | k + 1 => tl F k ++ [F k]
theorem tl_length (F : Nat → Int) (k : Nat) : (tl F k).length = k := by induction k <;> simp_all [tl]
theorem tl_get (F : Nat → Int) : ∀ j, j < 8 → (tl F 8).getD j 0 = F j := of_eight rfl rfl rfl rfl rfl rfl rfl rfl
/-- Twice f, and n more in the least digit. -/
def tw (f : Nat → Int) (n : Int) (j : Nat) : Int := if j = 0 then 2 * f 0 + n else 2 * f j
theorem tw_val {f : Nat → Int} {r n : Int} (h : Dg f r) : val (tw f n) % 340282366920938463463374607431768211456 = (2 * r + n) % 340282366920938463463374607431768211456 := by
  have v := h.val; unfold val at *; simp only [tw, if_true, show ¬ (1 = 0) from by decide, show ¬ (2 = 0) from by decide, show ¬ (3 = 0) from by decide, show ¬ (4 = 0) from by decide, show ¬ (5 = 0) from by decide, show ¬ (6 = 0) from by decide, show ¬ (7 = 0) from by decide, if_false]; omega

set_option maxRecDepth 100000 in
set_option maxHeartbeats 4000000 in
theorem twice_any {g c : Nat} {f : Nat → Int} {r n : Int} (w : World) (hA : Row w g f) (hD : Dg f r) (n0 : 0 ≤ n) (n1 : n ≤ 1) :
    Calls Tryz.prog 76 #[.slice (some ⟨g, 0, none⟩) 8 c, .int .i64 n] w fun e w' => ∃ g' c' f', e = .returned (.slice (some ⟨g', 0, none⟩) 8 c') ∧ Row w' g' f' ∧ Dg f' (2 * r + n) ∧ Below w.heap.size w w' := by
  obtain ⟨i0, hinf, hz0, hz1, hz2⟩ := info_parts info3
  have D := Lib.hid hD
  have G := Lib.hid ((cl_dg (tw f n)).congr (tw_val hD))
  have CC := Lib.hid (fun w g c (hR : Row w g (tw f n)) => carry_any (c := c) w hR (fun j hj => by have := hD.lo j hj; have := hD.hi j hj; have := hD.lo 0 (by omega); have := hD.hi 0 (by omega); unfold tw; split <;> omega) (fun j hj => by have := hD.lo j hj; have := hD.hi j hj; have := hD.lo 0 (by omega); have := hD.hi 0 (by omega); unfold tw; split <;> omega))
  clear hD
  go_enter Tryz.func76, Tryz.ntmps76
  go_wp2_with fail
  go_loopw [5, 6] (fun v i wr => ∃ k : Nat, k ≤ 8 ∧ i = .int .i64 k ∧ wr.ownsRow w.heap.size 3 1 v k ((tl (fun j => 2 * f j) k).map (Value.int .i64)) ∧ Below w.heap.size w wr) (fun _ i _ => 8 - (intOf i).toNat)
  case atStart => exact ⟨0, by omega, rfl, World.ownsRow_nil _ _ _ _, b0 w⟩
  case round =>
    obtain ⟨k, hk, rfl, hown, hnx⟩ := hrel
    have hz := hnx.size
    by_cases hlt : k < 8
    · have hcell := (hA.keeps hnx).cell k hlt
      have a0 := D.out.lo k hlt
      have a1 := D.out.hi k hlt
      go_wp2_with (at_builtin; refine wpList_append_own _ rfl _ _ 90 rfl w.heap.size 3 i0 (.int .i64 0) 1 8 Tryz.underlying90 hinf hz0 hz1 hz2 rfl (by decide) _ _ _ rfl (hown.alloc _) ⟨wr.heap.size, 0, none⟩ 1 1 [.int .i64 (2 * f k)] rfl rfl ?c1 ?c2 ?c3 ?c4 ?c5 ?_)
      case c1 =>
        intro j u hj
        match j, hj with
        | 0, hj => simp at hj; subst hj; simp [Addr.add]
      case c2 => intro u hu; simp at hu; subst hu; rfl
      case c3 => unfold maxLen; omega
      case c4 => omega
      case c5 => simp; omega
      intro v' w1 hown' hgrow _
      have R1 : w1.ownsRow w.heap.size 3 1 v' (k + 1) ((tl (fun j => 2 * f j) (k + 1)).map (Value.int .i64)) := by simpa [tl] using hown'
      have R2 := push_below hnx hz hown hgrow
      clear hown' hgrow hown hnx hcell
      go_wp2
      go_roundw
      case rel => exact ⟨k + 1, by omega, by go_num, R1, R2⟩
      case measure => simp [intOf]; omega
    · obtain rfl : k = 8 := by omega
      obtain ⟨g', c', hv, hg, hc, R⟩ := owned_row (tl_length _ 8) hown
      clear hown
      have R := R.congr (tl_get (fun j => 2 * f j))
      have z0 := R.cell 0 (by omega)
      have z1 := R.free 0 (by omega)
      have a0 := D.out.lo 0 (by omega)
      have a1 := D.out.hi 0 (by omega)
      have R' := (R.put 0 (2 * f 0 + n)).congr (f' := tw f n) (fun j _ => by unfold tw; by_cases e : j = 0 <;> simp [e])
      have k1 := hnx.setCell (p := ⟨g', 0, none⟩) (by show w.heap.size ≤ g'; omega) (.int .i64 (2 * f 0 + n))
      rw [hv]
      clear R hnx
      go_wp2_with fail
      refine (CC.out _ g' c' R').mono ?_
      rintro e w5 ⟨g2, c2, rfl, Z, hb⟩
      have k5 := bnext k1 hb
      clear hb k1 R'
      go_wp2
      go_ret
      exact ⟨g2, c2, _, rfl, Z, G.out, k5⟩

set_option maxRecDepth 100000 in
set_option maxHeartbeats 4000000 in
theorem minus_any {ga gb ca cb : Nat} {f g : Nat → Int} {x y : Int} (w : World) (hA : Row w ga f) (hB : Row w gb g) (hf : Dg f x) (hg : Dg g y) :
    Calls Tryz.prog 78 #[.slice (some ⟨ga, 0, none⟩) 8 ca, .slice (some ⟨gb, 0, none⟩) 8 cb] w fun e w' => ∃ g' c' f', e = .returned (.slice (some ⟨g', 0, none⟩) 8 c') ∧ Row w' g' f' ∧ Dg f' (x - y) ∧ Below w.heap.size w w' := by
  obtain ⟨i0, hinf, hz0, hz1, hz2⟩ := info_parts info3
  have DA := Lib.hid hf
  have DB := Lib.hid hg
  have G := Lib.hid ((cl_dg (fun j => f j - g j)).congr (val_sub hf hg))
  have CC := Lib.hid (fun w g' c (hR : Row w g' (fun j => f j - g j)) => carry_any (c := c) w hR (fun j hj => by have := hf.lo j hj; have := hf.hi j hj; have := hg.lo j hj; have := hg.hi j hj; omega) (fun j hj => by have := hf.lo j hj; have := hf.hi j hj; have := hg.lo j hj; have := hg.hi j hj; omega))
  clear hf hg
  go_enter Tryz.func78, Tryz.ntmps78
  go_wp2_with fail
  go_loopw [5, 6] (fun v i wr => ∃ k : Nat, k ≤ 8 ∧ i = .int .i64 k ∧ wr.ownsRow w.heap.size 3 1 v k ((tl (fun j => f j - g j) k).map (Value.int .i64)) ∧ Below w.heap.size w wr) (fun _ i _ => 8 - (intOf i).toNat)
  case atStart => exact ⟨0, by omega, rfl, World.ownsRow_nil _ _ _ _, b0 w⟩
  case round =>
    obtain ⟨k, hk, rfl, hown, hnx⟩ := hrel
    have hz := hnx.size
    by_cases hlt : k < 8
    · have hcell := (hA.keeps hnx).cell k hlt
      have hcell' := (hB.keeps hnx).cell k hlt
      have a0 := DA.out.lo k hlt
      have a1 := DA.out.hi k hlt
      have q0 := DB.out.lo k hlt
      have q1 := DB.out.hi k hlt
      have s1 : (k : Int) < 8 := by omega
      go_wp2_with fail
      have neA : some ga ≠ Value.ownBlock _ := fun h => by have := (hown.lt ga h.symm).1; have := hA.lt; omega
      have neB : some gb ≠ Value.ownBlock _ := fun h => by have := (hown.lt gb h.symm).1; have := hB.lt; omega
      have zA := (hA.keeps hnx).lt
      have zB := (hB.keeps hnx).lt
      have hn : k + 1 ≤ maxLen := by unfold maxLen; omega
      have hb : (k + 1) * 8 ≤ 140737488355328 := by omega
      have sw : IntKind.i64.wrap (f k - g k) = f k - g k := IntWalk.i64_in _ (by omega)
      go_region_held3 (fun w' => w'.cell? ⟨ga, k, none⟩ = some (.int .i64 (f k)) ∧ w'.cell? ⟨gb, k, none⟩ = some (.int .i64 (g k)))
        ((first
          | go_keep
          | (refine ⟨?_, ?_⟩
             · (rw [hgrow.cell_far _ (by simp; omega) neA]; exact keeps_alloc _ hcell)
             · (rw [hgrow.cell_far _ (by simp; omega) neB]; exact keeps_alloc _ hcell'))))
        ((refine step_append_lies _ (by rfl) _ _ _ (by rfl) w.heap.size 3 i0 _ 1 8 Tryz.underlying90 hinf hz0 hz1 hz2 rfl (by omega) _ k _ (by rfl) ((hown.alloc _).drew) ⟨wr.heap.size, 0, none⟩ 1 1 [.int .i64 (f k - g k)] (by rfl) (by rfl) (World.news_of_block (cs := #[.int .i64 (f k - g k)]) (t := 3) (fr := (0, 0)) (heap_alloc_new wr _)) (by simp [Value.oneCell']) (by omega) hn hb (by simp; omega) (wr.heap.size + 1) (by simp) ?_; intro gg cap w1 hown1 hgrow hat hltg))
      have R1 : w1.ownsRow w.heap.size 3 1 (Value.slice (some ⟨gg, 0, none⟩) (k + 1) cap) (k + 1) ((tl (fun j => f j - g j) (k + 1)).map (Value.int .i64)) := by simpa [tl] using hown1
      have R2 : Below w.heap.size w w1 := (hnx.alloc hz _).drew.grown hgrow (by simp; omega) (fun j hj => (hown.lt j hj).1)
      clear hown1 hgrow hown hnx hcell hcell' hat hltg neA neB sw
      go_wp2
      go_roundw
      case rel => exact ⟨k + 1, by omega, by go_num, R1, R2⟩
      case measure => simp [intOf]; omega
    · obtain rfl : k = 8 := by omega
      obtain ⟨g', c', hv, hg, hc, R⟩ := owned_row (tl_length _ 8) hown
      clear hown
      have R := R.congr (tl_get (fun j => f j - g j))
      rw [hv]
      go_wp2_with fail
      refine (CC.out _ g' c' R).mono ?_
      rintro e w5 ⟨g2, c2, rfl, Z, hb⟩
      have k5 := bnext hnx hb
      clear hb hnx R
      go_wp2
      go_ret
      exact ⟨g2, c2, _, rfl, Z, G.out, k5⟩
end Go.Proofs.YtcndlcogainnkaaGreatDoor.dec
