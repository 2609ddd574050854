/-
  ParserLarge: the walk.
-/
import Derived.Test.YtkgclmikhpjheaaGreatDoorQ13
import Derived.Test.YtkgclmikhpjheaaGreatDoorQ15
namespace Go.Proofs.YtkgclmikhpjheaaGreatDoor.pa
open Go.RowKit dec

theorem modR_some (s : ByteArray) : ∃ m b, modR s = some (m, b) := by
  cases h : modR s with
  | none => exact absurd h (modL_ne _ _ _ _ (Nat.lt_succ_self _))
  | some x => exact ⟨x.1, x.2, rfl⟩
theorem topR_big {α : Type} {z : α} {one : List Tk → Rs α} {s : ByteArray} (h : 16384 < s.size) : topR z one s = (z, 0, 2) := by
  unfold topR tokE
  rw [if_pos h, if_neg (by decide)]
/-- Bytes that the call made, whatever they are. -/
def Wb (w : World) (B K : Nat) : Prop := ∀ j, j < K → (∃ x : UInt8, w.cell? ⟨B, j, none⟩ = some (.int .u8 (x.toNat : Int))) ∧ w.frozen? ⟨B, j, none⟩ = false
theorem Wb.set {w : World} {B K : Nat} (h : Wb w B K) {k : Nat} (hk : k < K) (x : UInt8) : Wb (w.setCell ⟨B, k, none⟩ (.int .u8 (x.toNat : Int))) B K := fun j hj => by
  obtain ⟨⟨y, hy⟩, hf⟩ := h j hj
  obtain ⟨⟨z, hz⟩, _⟩ := h k hk
  refine ⟨?_, by rw [World.frozen?_setCell]; exact hf⟩
  by_cases e : j = k
  · subst e
    exact ⟨x, World.cell?_setCell_same _ _ _ hz⟩
  · exact ⟨y, by rw [World.cell?_setCell_other _ _ _ _ (fun h => e (by have := congrArg Addr.off h; simpa using this.symm))]; exact hy⟩
theorem Wb.drew {w : World} {B K : Nat} (h : Wb w B K) : Wb w.drew B K := h
theorem Wb.bs {w : World} {B K : Nat} (h : Wb w B K) (n : Nat) (hn : n ≤ K) (hK : K ≤ 1000000) : ∃ s : ByteArray, s.size = n ∧ Bs w (some ⟨B, 0, none⟩) n K s := by
  obtain ⟨q, hq⟩ : ∃ q : Nat → Nat, ∀ i, i < n → w.cell? ⟨B, i, none⟩ = some (.int .u8 (q i : Nat)) ∧ q i < 256 := Go.Deep.choose_lt (p := fun i (v : Nat) => w.cell? ⟨B, i, none⟩ = some (.int .u8 (v : Int)) ∧ v < 256) (fun i hi => by
    obtain ⟨⟨x, hx⟩, _⟩ := h i (by omega)
    exact ⟨x.toNat, hx, x.toNat_lt⟩)
  have hsz : (⟨((List.range n).map fun i => UInt8.ofNat (q i)).toArray⟩ : ByteArray).size = n := by
    rw [← str_len]
    simp
  refine ⟨⟨((List.range n).map fun i => UInt8.ofNat (q i)).toArray⟩, hsz, .inr ⟨B, 0, rfl, fun j hj => ?_⟩, hsz, hn, by omega, fun h => by cases h⟩
  have hjn : j < n := by rw [hsz] at hj; exact hj
  rw [Nat.zero_add, (hq j hjn).1]
  have hv : ((⟨((List.range n).map fun i => UInt8.ofNat (q i)).toArray⟩ : ByteArray)[j]).toNat = q j := by
    have e := ba_at _ j hj
    rw [show (⟨((List.range n).map fun i => UInt8.ofNat (q i)).toArray⟩ : ByteArray).data.toList = (List.range n).map fun i => UInt8.ofNat (q i) from rfl, List.getElem?_map, List.getElem?_range hjn] at e
    have e2 := Option.some.inj e
    rw [← e2]
    have := (hq j hjn).2
    show (UInt8.ofNat (q j)).toNat = q j
    rw [UInt8.toNat_ofNat']
    omega
  rw [hv]
theorem wb_made {w : World} {base g n : Nat} (h : w.ownsRow base 5 1 (.slice (some ⟨g, 0, none⟩) n n) n (madeCells (Value.int .u8 0).cells (n * 1)).toList) : Wb w g n := by
  obtain ⟨h1, h2⟩ := id h
  rcases h2 with ⟨e, _⟩ | ⟨g', cap, cur, e, hbg, hh, hc, hm, hs, ht⟩
  · cases e
  · obtain rfl : g = g' := by
      simp only [Value.slice.injEq, Option.some.injEq, Addr.mk.injEq] at e
      exact e.1.1
    intro j hj
    have hl : j < (madeCells (Value.int .u8 0).cells (n * 1)).toList.length := by rw [Array.length_toList, size_madeCells]; omega
    refine ⟨⟨0, ?_⟩, by simp [World.frozen?, hh]⟩
    rw [World.ownsRow.cellAt h j (by omega), List.getElem?_eq_getElem hl]
    simp [madeCells, Value.cells, Nat.mod_one]
set_option maxRecDepth 100000 in
set_option maxHeartbeats 8000000 in
theorem walk_large (b : Int) (hb : 0 ≤ b ∧ b ≤ 255) (w : World) (T : Tabs w) (EXA : ExA) :
    Calls Tryz.prog 5 #[.int .u8 b] w fun e w' => e = .returned (.bool true) ∧ Below w.heap.size w w' := by
  have T0 := Lib.hid T
  have EX := Lib.hid EXA
  obtain ⟨b', rfl⟩ : ∃ b' : UInt8, b = (b'.toNat : Int) := ⟨UInt8.ofNat b.toNat, by rw [UInt8.toNat_ofNat']; omega⟩
  obtain ⟨i0, hi, hz0, hz1, hz2⟩ := info_parts infoU
  clear T EXA hb
  go_enter Tryz.func5, Tryz.ntmps5
  go_wp2_with (at_make; refine wpList_make_full _ rfl (.const (.int .i64 16385)) (.const (.int .i64 16385)) 22 rfl w.heap.size 5 i0 (.int .u8 0) 1 Tryz.underlying22 hi hz0 hz1 .i64 .i64 16385 16385 16385 rfl rfl rfl rfl (by rw [hz2]; omega) (by unfold maxLen; omega) (Nat.le_refl _) ?_; intro w1 hown hg; have X := Lib.hid (wb_made hown); have k1 := Lib.hid ((Below.refl w.heap.size w).grown hg (Nat.le_refl _) (fun k hk => by cases hk)); clear hown hg)
  clear hi hz0 hz1 hz2
  obtain ⟨B, hB⟩ : ∃ B, w.heap.size = B := ⟨_, rfl⟩
  rw [hB] at X k1 ⊢
  have hBl := Lib.hid (show w.heap.size ≤ B from by omega)
  have T1 := Lib.hid (show ∀ W, Below B w W → Tabs W from fun W h => T0.out.stays (hB ▸ h))
  clear hB T0
  go_loopw [4] (fun i wr => ∃ k : Nat, i = .int .i64 (k : Nat) ∧ Hid (k ≤ 16385) ∧ Hid (Wb wr B 16385) ∧ Hid (Below B w wr)) (fun i _ => 16385 - (intOf i).toNat)
  case atStart => exact ⟨0, rfl, Lib.hid (Nat.zero_le _), X, k1⟩
  case round =>
    clear X k1
    obtain ⟨k, rfl, hk, X, hb⟩ := hrel
    by_cases hlt : k < 16385
    · have q1 : decide ((k : Int) < 16385) = true := decide_eq_true (by omega)
      have q2 : (k : Int) < 16385 := by omega
      obtain ⟨⟨y, cy⟩, fy⟩ := X.out k hlt
      have X2 := Lib.hid (X.out.set hlt 32)
      have hb2 := Lib.hid (hb.out.setCell (p := ⟨B, k, none⟩) (Nat.le_refl _) (.int .u8 ((32 : UInt8).toNat : Int)))
      clear X hb hk
      go_wp2_with fail
      refine ⟨⟨k + 1, rfl, Lib.hid hlt, X2, hb2⟩, by simp [intOf]; omega⟩
    · have hk2 : k = 16385 := by have := hk.out; omega
      subst hk2
      have q1 : decide (((16385 : Nat) : Int) < 16385) = false := by decide
      obtain ⟨⟨y, cy⟩, fy⟩ := X.out 0 (by omega)
      have X2 := Lib.hid (X.out.set (show 0 < 16385 by omega) b')
      have hb2 := Lib.hid (hb.out.setCell (p := ⟨B, 0, none⟩) (Nat.le_refl _) (.int .u8 (b'.toNat : Int)))
      clear hk hlt
      go_wp2_with fail
      generalize wr.setCell ⟨B, 0, none⟩ (.int .u8 (b'.toNat : Int)) = w2 at *
      clear X hb fy cy
      obtain ⟨s, hs, hS⟩ := X2.out.bs 16385 (by omega) (by omega)
      have hE : tokE s = 2 := by unfold tokE; rw [if_pos (by omega)]
      have C1 := Lib.hid (module_no _ _ _ s w2 hS (T1.out _ hb2.out) (by rw [hE]; decide))
      rw [hE] at C1
      have C2 := Lib.hid (fun W h t => topE_any (some ⟨B, 0, none⟩) 16385 16385 s W (hS.keeps h) t _ (topR_big (z := (⟨h0, .nil⟩ : Ex)) (one := exR) (by omega)))
      have C3 := Lib.hid (fun W h t => topT_any (some ⟨B, 0, none⟩) 16385 16385 s W (hS.keeps h) t _ (topR_big (z := (⟨0, [], .empty⟩ : Ty)) (one := typ) (by omega)))
      obtain ⟨s', hs', hS'⟩ := X2.out.bs 16384 (by omega) (by omega)
      have hE' : tokE s' = 0 := by unfold tokE; rw [if_neg (by omega)]
      obtain ⟨m9, b9, hm⟩ := modR_some s'
      have C4 := Lib.hid (fun W h t => module_any (some ⟨B, 0, none⟩) 16384 16385 s' W (hS'.keeps h) t hE' m9 b9 hm)
      have sl : ∀ W, (Instr.slice 22 (.slice (some ⟨B, 0, none⟩) 16385 16385) none (some (.int .i64 16384)) none).run Tryz.prog W = .ok (.slice (some ⟨B, 0, none⟩) 16384 16385) W := fun W => slice_b _ 16385 16385 16384 (by omega) (by omega) W
      have B2 := Lib.hid (show Below w2.heap.size w2 w2 from b0 w2)
      have Bsz := Lib.hid (show ∀ W, Below w2.heap.size w2 W → Below B w W from fun W h => hb2.out.trans (h.mono (by have := hb2.out.size; have := X2.out 0 (by omega); obtain ⟨⟨_, hc⟩, _⟩ := this; exact Nat.le_of_lt (block_lt_of_cell hc))))
      clear hS hS' hE hE' hs hs' hm X2
      refine C1.out.mono ?_
      rintro e w3 ⟨rfl, b⟩
      have D3 := Lib.hid b
      clear b C1
      go_wp2_with (refine arm_storeT infMo (.tmp 5) (.tmp 33) rfl rfl _ _ _ _ rfl rfl (Blk.new _ _ _) rfl rfl zM_one ?_; intro u3 L s3; have b := (balloc (b0 w3) _).trans (s3.below (Nat.le_refl _)); have L3 := Lib.hid L; have F3 := Lib.hid b; clear L s3 b)
      have D4 := Lib.hid (bnext D3.out F3.out)
      refine (C2.out _ D4.out (T1.out _ (Bsz.out _ D4.out))).mono ?_
      rintro e w5 ⟨r, rfl, V, b⟩
      obtain ⟨ua2, uc2, aa2, ac2, rfl, E⟩ := V
      have D5 := Lib.hid (bnext D4.out b)
      have G5 := Lib.hid b
      clear b E C2
      go_wp2_with (refine arm_storeT infX (.tmp 8) (.tmp 39) rfl rfl _ _ _ _ rfl rfl (Blk.new _ _ _) rfl rfl (exC_one _ _ _ _ _) ?_; intro u5 L s3; have b := (balloc (b0 w5) _).trans (s3.below (Nat.le_refl _)); have L5 := Lib.hid L; have F5 := Lib.hid b; clear L s3 b)
      have D6 := Lib.hid (bnext D5.out F5.out)
      refine (C3.out _ D6.out (T1.out _ (Bsz.out _ D6.out))).mono ?_
      rintro e w7 ⟨r, rfl, V, b⟩
      obtain ⟨ua3, uc3, rfl, E⟩ := V
      have D7 := Lib.hid (bnext D6.out b)
      have G7 := Lib.hid b
      clear b E C3
      go_wp2_with (refine arm_storeT infTy (.tmp 11) (.tmp 45) rfl rfl _ _ _ _ rfl rfl (Blk.new _ _ _) rfl rfl (by simp [Value.oneCell']) ?_; intro u7 L s3; have b := (balloc (b0 w7) _).trans (s3.below (Nat.le_refl _)); have L7 := Lib.hid L; have F7 := Lib.hid b; clear L s3 b)
      have D8 := Lib.hid (bnext D7.out F7.out)
      refine (C4.out _ D8.out (T1.out _ (Bsz.out _ D8.out))).mono ?_
      rintro e w9 ⟨r, u, rfl, V, P, b⟩
      obtain ⟨ta, tc, fa, fc, rfl, _, _⟩ := V
      obtain ⟨pp, pa', pc, _, _, rfl, _⟩ := P
      have D9 := Lib.hid (bnext D8.out b)
      have G9 := Lib.hid b
      clear b C4
      have L9 := Lib.hid (show Blk w9 w3.heap.size 27 zM from L3.out.below (bnext (bnext (bnext (bnext G5.out F5.out) G7.out) F7.out) G9.out) L3.out.lt)
      go_wp2_with (refine arm_storeT infMo (.tmp 14) (.tmp 52) rfl rfl _ _ _ _ rfl rfl (Blk.new _ _ _) rfl rfl (by simp [Value.oneCell']) ?_; intro u9 L s3; have b := (balloc (b0 w9) _).trans (s3.below (Nat.le_refl _)); have F9 := Lib.hid b; have c0 := (L9.out.below b L9.out.lt).cell 0; have c1 := (L9.out.below b L9.out.lt).cell 1; simp only [zM, List.getElem?_toArray, List.getElem?_cons_zero, List.getElem?_cons_succ] at c0 c1; clear L s3 b)
      have D10 := Lib.hid (bnext D9.out F9.out)
      refine (EX.out _ (T1.out _ (Bsz.out _ D10.out))).mono ?_
      rintro e w11 ⟨rfl, b⟩
      have D11 := Lib.hid (bnext D10.out b)
      clear b c0 c1
      go_wp2_with fail
      go_ret
      exact ⟨rfl, (Bsz.out _ D11.out).mono hBl.out⟩
end Go.Proofs.YtkgclmikhpjheaaGreatDoor.pa
