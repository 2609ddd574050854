/-
  The walk of TimelineTicks.
-/
import Derived.Test.YtdhdofgdeljajaaTkf
import Derived.WalkSmall
import Derived.Deep.CutRange
import Derived.BigQuiet
namespace Go.Proofs.Ytdhdofgdeljajaa
open Go.RowKit

set_option maxRecDepth 100000 in
set_option maxHeartbeats 4000000 in
theorem walk_ticks (a : Option Addr) (n0 cap : Nat) (l : List I2) (p q t : Int) (w : World) (hS : Sl w a n0 cap l) : Calls Try.prog 7 #[.slice a n0 cap, .agg #[.int .i64 p, .int .i64 q], .int .i64 t] w fun e w' => e = .returned (.bool true) ∧ Below w.heap.size w w' := by
  have FC := Lib.hid (fun w => few_any a n0 cap w hS.hcap hS.hmax)
  have hN := fewN_le n0
  have X1 := hS.few (fewN n0) hN.2
  generalize fewN n0 = n at *
  generalize l.take n = X at *
  have hXn := X1.hn
  have C3 := Lib.hid example_any
  have A := Lib.hid (Bw.new w p q 23)
  have b1 := Lib.hid (balloc (b0 w) (.cells #[.int .i64 p, .int .i64 q] 23))
  replace X1 := Lib.hid (X1.keeps (balloc (b0 w) (.cells #[.int .i64 p, .int .i64 q] 23)))
  replace hXn := Lib.hid hXn
  replace hN := Lib.hid hN
  clear hS
  go_enter Try.func7, Try.ntmps7
  go_wp2_with fail
  generalize w.alloc (.cells #[.int .i64 p, .int .i64 q] 23) = W at *
  go_cut [7] from 21 to 27 (fun r wx => Hid (Own wx W.heap.size r (X ++ [(p, q)])) ∧ Hid (Below W.heap.size W wx))
  case first =>
    refine wp_region_noPanic ?_
    refine wp_region_held_drew (S := fun w' => Below W.heap.size W w') (by kernel_rfl) (b0 _).drew (fun hH => ?_)
    refine held_take (i := 1) (d := 22) (v := ?_) rfl (by kernel_rfl) (by kernel_rfl) (by kernel_rfl) rfl (fun _ _ _ h => h) rfl hH (fun w' hS => ?_) ?_
    rotate_left
    · go_simp; first | done | with_reducible rfl
    simp only [List.set_cons_zero, List.set_cons_succ]
    refine held_take (i := 4) (d := 25) (v := ?_) rfl (by kernel_rfl) (by kernel_rfl) (by kernel_rfl) rfl (fun _ _ _ h => h) rfl hH (fun w' hS => ?_) ?_
    rotate_left
    · obtain ⟨k0, k1, _, _⟩ := A.out.keeps hS; clear hS; go_simp; first | done | with_reducible rfl
    simp only [List.set_cons_zero, List.set_cons_succ]
    generalize hz0 : W.drew = z0 at *
    replace X1 := Lib.hid (X1.out.keeps (hz0 ▸ (b0 W).drew : Below W.heap.size W z0))
    clear hz0
    refine held_three (i := 0) (j := 2) (k := 5) rfl rfl rfl (by kernel_rfl) rfl rfl rfl (fun K hK => ?_) (fun K hK => ?_) (fun K hK => ?_)
    · go_simp
      refine take_world (fun z1 hw => ?_)
      have bb : Below z0.heap.size z0 z1 := hw ▸ balloc (b0 z0) _
      have O1 : Own z1 W.heap.size (.slice (some ⟨z0.heap.size, 0, none⟩) 0 0) [] := hw ▸ own_new z0 W.heap.size hH.size
      have X1k := Lib.hid (X1.out.keeps bb)
      refine hK.out _ _ (bnext hH bb) (fun hH => ?_)
      clear hK K bb hw
      generalize z0.heap.size = g0 at *
      refine held_two (i := 2) (j := 5) rfl rfl (by kernel_rfl) rfl rfl (fun K hK => ?_) (fun K hK => ?_)
      · go_simp
        refine (FC.out _).mono ?_
        rintro e z2 ⟨rfl, rfl⟩
        refine hK.out _ _ hH (fun hH => ?_)
        clear hK K
        refine held_two (i := 3) (j := 5) rfl rfl (by kernel_rfl) rfl rfl (fun K hK => ?_) (fun K hK => ?_)
        · refine wp_cat 24 rfl (.tmp 21) (.tmp 23) rfl W.heap.size _ [] rfl O1 a n cap X rfl X1k.out (by have := hN.out.1; simp only [List.length_nil]; omega) hH.size ?_
          intro v3 z3 O3 hg
          rw [List.nil_append] at O3
          refine hK.out _ _ (hH.trans (own_below O1 hg hH.size)) (fun hH => ?_)
          clear hK K hg
          simp only [List.set_cons_zero, List.set_cons_succ]
          refine held_only (i := 5) rfl (by kernel_rfl) rfl (fun K hK => ?_)
          go_simp
          refine take_world (fun z4 hw => ?_)
          have bb : Below z3.heap.size z3 z4 := hw ▸ balloc (b0 z3) _
          have B4 : Bw z4 z3.heap.size p q := hw ▸ Bw.new z3 p q _
          have O3k := O3.keeps bb
          refine hK.out _ _ (bnext hH bb) (fun hH => ?_)
          clear hK K bb hw
          generalize z3.heap.size = g5 at *
          refine held_only (i := 6) rfl (by kernel_rfl) rfl (fun K hK => ?_)
          refine wp_cat 27 rfl (.tmp 24) (.tmp 26) rfl W.heap.size v3 X rfl O3k (some ⟨g5, 0, none⟩) 1 1 [(p, q)] rfl B4.sl (by have := hN.out.1; have := hXn.out; omega) hH.size ?_
          intro v6 z5 O6 hg
          refine hK.out _ _ (hH.trans (own_below O3k hg hH.size)) (fun hH => ?_)
          clear hK K hg
          simp only [List.set_cons_zero, List.set_cons_succ]
          refine held_take (i := 7) (d := 7) (v := ?_) rfl (by kernel_rfl) (by kernel_rfl) (by kernel_rfl) rfl (fun _ _ _ h => h) rfl hH (fun w' hS => ?_) ?_
          rotate_left
          · go_simp; first | done | with_reducible rfl
          simp only [List.set_cons_zero, List.set_cons_succ]
          refine wpAnyH_done (by kernel_rfl) ?_ _
          refine noPanic_of ?_
          go_wp2_with fail
          go_meet
          case rel => exact ⟨O6, hH⟩
        · go_simp
          refine take_world (fun z6 hw => ?_)
          have bb : Below z1.heap.size z1 z6 := hw ▸ balloc (b0 z1) _
          have B6 : Bw z6 z1.heap.size p q := hw ▸ Bw.new z1 p q _
          have O1k := O1.keeps bb
          have hne : some z1.heap.size ≠ (Value.slice (some ⟨g0, 0, none⟩) 0 0).ownBlock := by have := (O1.lt g0 rfl).2; simp [Value.ownBlock]; omega
          have X1kk := Lib.hid (X1k.out.keeps bb)
          refine hK.out _ _ (bnext hH bb) (fun hH => ?_)
          clear hK K bb hw
          generalize z1.heap.size = g5 at *
          refine held_only (i := 3) rfl (by kernel_rfl) rfl (fun K hK => ?_)
          refine wp_cat 24 rfl (.tmp 21) (.tmp 23) rfl W.heap.size _ [] rfl O1k a n cap X rfl X1kk.out (by have := hN.out.1; simp only [List.length_nil]; omega) hH.size ?_
          intro v3 z7 O3 hg
          rw [List.nil_append] at O3
          have B3 := B6.grownBy hg hne
          refine hK.out _ _ (hH.trans (own_below O1k hg hH.size)) (fun hH => ?_)
          clear hK K hg
          simp only [List.set_cons_zero, List.set_cons_succ]
          refine held_only (i := 6) rfl (by kernel_rfl) rfl (fun K hK => ?_)
          refine wp_cat 27 rfl (.tmp 24) (.tmp 26) rfl W.heap.size v3 X rfl O3 (some ⟨g5, 0, none⟩) 1 1 [(p, q)] rfl B3.sl (by have := hN.out.1; have := hXn.out; omega) hH.size ?_
          intro v6 z8 O6 hg
          refine hK.out _ _ (hH.trans (own_below O3 hg hH.size)) (fun hH => ?_)
          clear hK K hg
          simp only [List.set_cons_zero, List.set_cons_succ]
          refine held_take (i := 7) (d := 7) (v := ?_) rfl (by kernel_rfl) (by kernel_rfl) (by kernel_rfl) rfl (fun _ _ _ h => h) rfl hH (fun w' hS => ?_) ?_
          rotate_left
          · go_simp; first | done | with_reducible rfl
          simp only [List.set_cons_zero, List.set_cons_succ]
          refine wpAnyH_done (by kernel_rfl) ?_ _
          refine noPanic_of ?_
          go_wp2_with fail
          go_meet
          case rel => exact ⟨O6, hH⟩
      · go_simp
        refine take_world (fun z9 hw => ?_)
        have bb : Below z1.heap.size z1 z9 := hw ▸ balloc (b0 z1) _
        have B9 : Bw z9 z1.heap.size p q := hw ▸ Bw.new z1 p q _
        have O1k := O1.keeps bb
        have hne : some z1.heap.size ≠ (Value.slice (some ⟨g0, 0, none⟩) 0 0).ownBlock := by have := (O1.lt g0 rfl).2; simp [Value.ownBlock]; omega
        have X1kk := Lib.hid (X1k.out.keeps bb)
        refine hK.out _ _ (bnext hH bb) (fun hH => ?_)
        clear hK K bb hw
        generalize z1.heap.size = g5 at *
        refine held_only (i := 2) rfl (by kernel_rfl) rfl (fun K hK => ?_)
        go_simp
        refine (FC.out _).mono ?_
        rintro e z10 ⟨rfl, rfl⟩
        refine hK.out _ _ hH (fun hH => ?_)
        clear hK K
        refine held_only (i := 3) rfl (by kernel_rfl) rfl (fun K hK => ?_)
        refine wp_cat 24 rfl (.tmp 21) (.tmp 23) rfl W.heap.size _ [] rfl O1k a n cap X rfl X1kk.out (by have := hN.out.1; simp only [List.length_nil]; omega) hH.size ?_
        intro v3 z11 O3 hg
        rw [List.nil_append] at O3
        have B3 := B9.grownBy hg hne
        refine hK.out _ _ (hH.trans (own_below O1k hg hH.size)) (fun hH => ?_)
        clear hK K hg
        simp only [List.set_cons_zero, List.set_cons_succ]
        refine held_only (i := 6) rfl (by kernel_rfl) rfl (fun K hK => ?_)
        refine wp_cat 27 rfl (.tmp 24) (.tmp 26) rfl W.heap.size v3 X rfl O3 (some ⟨g5, 0, none⟩) 1 1 [(p, q)] rfl B3.sl (by have := hN.out.1; have := hXn.out; omega) hH.size ?_
        intro v6 z12 O6 hg
        refine hK.out _ _ (hH.trans (own_below O3 hg hH.size)) (fun hH => ?_)
        clear hK K hg
        simp only [List.set_cons_zero, List.set_cons_succ]
        refine held_take (i := 7) (d := 7) (v := ?_) rfl (by kernel_rfl) (by kernel_rfl) (by kernel_rfl) rfl (fun _ _ _ h => h) rfl hH (fun w' hS => ?_) ?_
        rotate_left
        · go_simp; first | done | with_reducible rfl
        simp only [List.set_cons_zero, List.set_cons_succ]
        refine wpAnyH_done (by kernel_rfl) ?_ _
        refine noPanic_of ?_
        go_wp2_with fail
        go_meet
        case rel => exact ⟨O6, hH⟩
    · go_simp
      refine (FC.out _).mono ?_
      rintro e z13 ⟨rfl, rfl⟩
      refine hK.out _ _ hH (fun hH => ?_)
      clear hK K
      refine held_two (i := 0) (j := 5) rfl rfl (by kernel_rfl) rfl rfl (fun K hK => ?_) (fun K hK => ?_)
      · go_simp
        refine take_world (fun z14 hw => ?_)
        have bb : Below z0.heap.size z0 z14 := hw ▸ balloc (b0 z0) _
        have O14 : Own z14 W.heap.size (.slice (some ⟨z0.heap.size, 0, none⟩) 0 0) [] := hw ▸ own_new z0 W.heap.size hH.size
        have X1k := Lib.hid (X1.out.keeps bb)
        refine hK.out _ _ (bnext hH bb) (fun hH => ?_)
        clear hK K bb hw
        generalize z0.heap.size = g0 at *
        refine held_two (i := 3) (j := 5) rfl rfl (by kernel_rfl) rfl rfl (fun K hK => ?_) (fun K hK => ?_)
        · refine wp_cat 24 rfl (.tmp 21) (.tmp 23) rfl W.heap.size _ [] rfl O14 a n cap X rfl X1k.out (by have := hN.out.1; simp only [List.length_nil]; omega) hH.size ?_
          intro v3 z15 O3 hg
          rw [List.nil_append] at O3
          refine hK.out _ _ (hH.trans (own_below O14 hg hH.size)) (fun hH => ?_)
          clear hK K hg
          simp only [List.set_cons_zero, List.set_cons_succ]
          refine held_only (i := 5) rfl (by kernel_rfl) rfl (fun K hK => ?_)
          go_simp
          refine take_world (fun z16 hw => ?_)
          have bb : Below z15.heap.size z15 z16 := hw ▸ balloc (b0 z15) _
          have B16 : Bw z16 z15.heap.size p q := hw ▸ Bw.new z15 p q _
          have O3k := O3.keeps bb
          refine hK.out _ _ (bnext hH bb) (fun hH => ?_)
          clear hK K bb hw
          generalize z15.heap.size = g5 at *
          refine held_only (i := 6) rfl (by kernel_rfl) rfl (fun K hK => ?_)
          refine wp_cat 27 rfl (.tmp 24) (.tmp 26) rfl W.heap.size v3 X rfl O3k (some ⟨g5, 0, none⟩) 1 1 [(p, q)] rfl B16.sl (by have := hN.out.1; have := hXn.out; omega) hH.size ?_
          intro v6 z17 O6 hg
          refine hK.out _ _ (hH.trans (own_below O3k hg hH.size)) (fun hH => ?_)
          clear hK K hg
          simp only [List.set_cons_zero, List.set_cons_succ]
          refine held_take (i := 7) (d := 7) (v := ?_) rfl (by kernel_rfl) (by kernel_rfl) (by kernel_rfl) rfl (fun _ _ _ h => h) rfl hH (fun w' hS => ?_) ?_
          rotate_left
          · go_simp; first | done | with_reducible rfl
          simp only [List.set_cons_zero, List.set_cons_succ]
          refine wpAnyH_done (by kernel_rfl) ?_ _
          refine noPanic_of ?_
          go_wp2_with fail
          go_meet
          case rel => exact ⟨O6, hH⟩
        · go_simp
          refine take_world (fun z18 hw => ?_)
          have bb : Below z14.heap.size z14 z18 := hw ▸ balloc (b0 z14) _
          have B18 : Bw z18 z14.heap.size p q := hw ▸ Bw.new z14 p q _
          have O14k := O14.keeps bb
          have hne : some z14.heap.size ≠ (Value.slice (some ⟨g0, 0, none⟩) 0 0).ownBlock := by have := (O14.lt g0 rfl).2; simp [Value.ownBlock]; omega
          have X1kk := Lib.hid (X1k.out.keeps bb)
          refine hK.out _ _ (bnext hH bb) (fun hH => ?_)
          clear hK K bb hw
          generalize z14.heap.size = g5 at *
          refine held_only (i := 3) rfl (by kernel_rfl) rfl (fun K hK => ?_)
          refine wp_cat 24 rfl (.tmp 21) (.tmp 23) rfl W.heap.size _ [] rfl O14k a n cap X rfl X1kk.out (by have := hN.out.1; simp only [List.length_nil]; omega) hH.size ?_
          intro v3 z19 O3 hg
          rw [List.nil_append] at O3
          have B3 := B18.grownBy hg hne
          refine hK.out _ _ (hH.trans (own_below O14k hg hH.size)) (fun hH => ?_)
          clear hK K hg
          simp only [List.set_cons_zero, List.set_cons_succ]
          refine held_only (i := 6) rfl (by kernel_rfl) rfl (fun K hK => ?_)
          refine wp_cat 27 rfl (.tmp 24) (.tmp 26) rfl W.heap.size v3 X rfl O3 (some ⟨g5, 0, none⟩) 1 1 [(p, q)] rfl B3.sl (by have := hN.out.1; have := hXn.out; omega) hH.size ?_
          intro v6 z20 O6 hg
          refine hK.out _ _ (hH.trans (own_below O3 hg hH.size)) (fun hH => ?_)
          clear hK K hg
          simp only [List.set_cons_zero, List.set_cons_succ]
          refine held_take (i := 7) (d := 7) (v := ?_) rfl (by kernel_rfl) (by kernel_rfl) (by kernel_rfl) rfl (fun _ _ _ h => h) rfl hH (fun w' hS => ?_) ?_
          rotate_left
          · go_simp; first | done | with_reducible rfl
          simp only [List.set_cons_zero, List.set_cons_succ]
          refine wpAnyH_done (by kernel_rfl) ?_ _
          refine noPanic_of ?_
          go_wp2_with fail
          go_meet
          case rel => exact ⟨O6, hH⟩
      · go_simp
        refine take_world (fun z21 hw => ?_)
        have bb : Below z0.heap.size z0 z21 := hw ▸ balloc (b0 z0) _
        have B21 : Bw z21 z0.heap.size p q := hw ▸ Bw.new z0 p q _
        have X1k := Lib.hid (X1.out.keeps bb)
        refine hK.out _ _ (bnext hH bb) (fun hH => ?_)
        clear hK K bb hw
        generalize z0.heap.size = g5 at *
        refine held_only (i := 0) rfl (by kernel_rfl) rfl (fun K hK => ?_)
        go_simp
        refine take_world (fun z22 hw => ?_)
        have bb : Below z21.heap.size z21 z22 := hw ▸ balloc (b0 z21) _
        have O22 : Own z22 W.heap.size (.slice (some ⟨z21.heap.size, 0, none⟩) 0 0) [] := hw ▸ own_new z21 W.heap.size hH.size
        have B21k := B21.keeps bb
        have hne : some g5 ≠ (Value.slice (some ⟨z21.heap.size, 0, none⟩) 0 0).ownBlock := by have := B21.lt; simp [Value.ownBlock]; omega
        have X1kk := Lib.hid (X1k.out.keeps bb)
        refine hK.out _ _ (bnext hH bb) (fun hH => ?_)
        clear hK K bb hw
        generalize z21.heap.size = g0 at *
        refine held_only (i := 3) rfl (by kernel_rfl) rfl (fun K hK => ?_)
        refine wp_cat 24 rfl (.tmp 21) (.tmp 23) rfl W.heap.size _ [] rfl O22 a n cap X rfl X1kk.out (by have := hN.out.1; simp only [List.length_nil]; omega) hH.size ?_
        intro v3 z23 O3 hg
        rw [List.nil_append] at O3
        have B3 := B21k.grownBy hg hne
        refine hK.out _ _ (hH.trans (own_below O22 hg hH.size)) (fun hH => ?_)
        clear hK K hg
        simp only [List.set_cons_zero, List.set_cons_succ]
        refine held_only (i := 6) rfl (by kernel_rfl) rfl (fun K hK => ?_)
        refine wp_cat 27 rfl (.tmp 24) (.tmp 26) rfl W.heap.size v3 X rfl O3 (some ⟨g5, 0, none⟩) 1 1 [(p, q)] rfl B3.sl (by have := hN.out.1; have := hXn.out; omega) hH.size ?_
        intro v6 z24 O6 hg
        refine hK.out _ _ (hH.trans (own_below O3 hg hH.size)) (fun hH => ?_)
        clear hK K hg
        simp only [List.set_cons_zero, List.set_cons_succ]
        refine held_take (i := 7) (d := 7) (v := ?_) rfl (by kernel_rfl) (by kernel_rfl) (by kernel_rfl) rfl (fun _ _ _ h => h) rfl hH (fun w' hS => ?_) ?_
        rotate_left
        · go_simp; first | done | with_reducible rfl
        simp only [List.set_cons_zero, List.set_cons_succ]
        refine wpAnyH_done (by kernel_rfl) ?_ _
        refine noPanic_of ?_
        go_wp2_with fail
        go_meet
        case rel => exact ⟨O6, hH⟩
    · go_simp
      refine take_world (fun z25 hw => ?_)
      have bb : Below z0.heap.size z0 z25 := hw ▸ balloc (b0 z0) _
      have B25 : Bw z25 z0.heap.size p q := hw ▸ Bw.new z0 p q _
      have X1k := Lib.hid (X1.out.keeps bb)
      refine hK.out _ _ (bnext hH bb) (fun hH => ?_)
      clear hK K bb hw
      generalize z0.heap.size = g5 at *
      refine held_two (i := 0) (j := 2) rfl rfl (by kernel_rfl) rfl rfl (fun K hK => ?_) (fun K hK => ?_)
      · go_simp
        refine take_world (fun z26 hw => ?_)
        have bb : Below z25.heap.size z25 z26 := hw ▸ balloc (b0 z25) _
        have O26 : Own z26 W.heap.size (.slice (some ⟨z25.heap.size, 0, none⟩) 0 0) [] := hw ▸ own_new z25 W.heap.size hH.size
        have B25k := B25.keeps bb
        have hne : some g5 ≠ (Value.slice (some ⟨z25.heap.size, 0, none⟩) 0 0).ownBlock := by have := B25.lt; simp [Value.ownBlock]; omega
        have X1kk := Lib.hid (X1k.out.keeps bb)
        refine hK.out _ _ (bnext hH bb) (fun hH => ?_)
        clear hK K bb hw
        generalize z25.heap.size = g0 at *
        refine held_only (i := 2) rfl (by kernel_rfl) rfl (fun K hK => ?_)
        go_simp
        refine (FC.out _).mono ?_
        rintro e z27 ⟨rfl, rfl⟩
        refine hK.out _ _ hH (fun hH => ?_)
        clear hK K
        refine held_only (i := 3) rfl (by kernel_rfl) rfl (fun K hK => ?_)
        refine wp_cat 24 rfl (.tmp 21) (.tmp 23) rfl W.heap.size _ [] rfl O26 a n cap X rfl X1kk.out (by have := hN.out.1; simp only [List.length_nil]; omega) hH.size ?_
        intro v3 z28 O3 hg
        rw [List.nil_append] at O3
        have B3 := B25k.grownBy hg hne
        refine hK.out _ _ (hH.trans (own_below O26 hg hH.size)) (fun hH => ?_)
        clear hK K hg
        simp only [List.set_cons_zero, List.set_cons_succ]
        refine held_only (i := 6) rfl (by kernel_rfl) rfl (fun K hK => ?_)
        refine wp_cat 27 rfl (.tmp 24) (.tmp 26) rfl W.heap.size v3 X rfl O3 (some ⟨g5, 0, none⟩) 1 1 [(p, q)] rfl B3.sl (by have := hN.out.1; have := hXn.out; omega) hH.size ?_
        intro v6 z29 O6 hg
        refine hK.out _ _ (hH.trans (own_below O3 hg hH.size)) (fun hH => ?_)
        clear hK K hg
        simp only [List.set_cons_zero, List.set_cons_succ]
        refine held_take (i := 7) (d := 7) (v := ?_) rfl (by kernel_rfl) (by kernel_rfl) (by kernel_rfl) rfl (fun _ _ _ h => h) rfl hH (fun w' hS => ?_) ?_
        rotate_left
        · go_simp; first | done | with_reducible rfl
        simp only [List.set_cons_zero, List.set_cons_succ]
        refine wpAnyH_done (by kernel_rfl) ?_ _
        refine noPanic_of ?_
        go_wp2_with fail
        go_meet
        case rel => exact ⟨O6, hH⟩
      · go_simp
        refine (FC.out _).mono ?_
        rintro e z30 ⟨rfl, rfl⟩
        refine hK.out _ _ hH (fun hH => ?_)
        clear hK K
        refine held_only (i := 0) rfl (by kernel_rfl) rfl (fun K hK => ?_)
        go_simp
        refine take_world (fun z31 hw => ?_)
        have bb : Below z25.heap.size z25 z31 := hw ▸ balloc (b0 z25) _
        have O31 : Own z31 W.heap.size (.slice (some ⟨z25.heap.size, 0, none⟩) 0 0) [] := hw ▸ own_new z25 W.heap.size hH.size
        have B25k := B25.keeps bb
        have hne : some g5 ≠ (Value.slice (some ⟨z25.heap.size, 0, none⟩) 0 0).ownBlock := by have := B25.lt; simp [Value.ownBlock]; omega
        have X1kk := Lib.hid (X1k.out.keeps bb)
        refine hK.out _ _ (bnext hH bb) (fun hH => ?_)
        clear hK K bb hw
        generalize z25.heap.size = g0 at *
        refine held_only (i := 3) rfl (by kernel_rfl) rfl (fun K hK => ?_)
        refine wp_cat 24 rfl (.tmp 21) (.tmp 23) rfl W.heap.size _ [] rfl O31 a n cap X rfl X1kk.out (by have := hN.out.1; simp only [List.length_nil]; omega) hH.size ?_
        intro v3 z32 O3 hg
        rw [List.nil_append] at O3
        have B3 := B25k.grownBy hg hne
        refine hK.out _ _ (hH.trans (own_below O31 hg hH.size)) (fun hH => ?_)
        clear hK K hg
        simp only [List.set_cons_zero, List.set_cons_succ]
        refine held_only (i := 6) rfl (by kernel_rfl) rfl (fun K hK => ?_)
        refine wp_cat 27 rfl (.tmp 24) (.tmp 26) rfl W.heap.size v3 X rfl O3 (some ⟨g5, 0, none⟩) 1 1 [(p, q)] rfl B3.sl (by have := hN.out.1; have := hXn.out; omega) hH.size ?_
        intro v6 z33 O6 hg
        refine hK.out _ _ (hH.trans (own_below O3 hg hH.size)) (fun hH => ?_)
        clear hK K hg
        simp only [List.set_cons_zero, List.set_cons_succ]
        refine held_take (i := 7) (d := 7) (v := ?_) rfl (by kernel_rfl) (by kernel_rfl) (by kernel_rfl) rfl (fun _ _ _ h => h) rfl hH (fun w' hS => ?_) ?_
        rotate_left
        · go_simp; first | done | with_reducible rfl
        simp only [List.set_cons_zero, List.set_cons_succ]
        refine wpAnyH_done (by kernel_rfl) ?_ _
        refine noPanic_of ?_
        go_wp2_with fail
        go_meet
        case rel => exact ⟨O6, hH⟩
  case rest =>
    obtain ⟨hO, hbc⟩ := hcut
    obtain ⟨ax, capx, rfl, SX⟩ := hO.out.sl
    replace b1 := Lib.hid (b1.out.trans (hbc.out.mono b1.out.size))
    replace A := Lib.hid (A.out.keeps hbc.out)
    have hP61 : (X ++ [(p, q)]).length ≤ 61 := by have := hN.out.1; have := hXn.out; simp only [List.length_append, List.length_cons, List.length_nil]; omega
    clear hO hbc X1 hXn hN FC
    generalize X ++ [(p, q)] = P at *
    obtain ⟨nx, hnx⟩ : ∃ nx, P.length = nx := ⟨_, rfl⟩
    rw [hnx] at SX hP61 ⊢
    have hcapx := SX.hcap
    have hmaxx := SX.hmax
    have UC := Lib.hid (union_any ax nx capx P wc SX (by omega))
    replace SX := Lib.hid SX
    generalize wc = w1 at *
    go_wp2_with fail
    refine UC.out.mono ?_
    rintro e w2 ⟨v, U, rfl, hU, hUl, O, d⟩
    obtain ⟨au, capu, rfl, SU⟩ := O.sl
    obtain ⟨nu, hnu⟩ : ∃ nu, U.length = nu := ⟨_, rfl⟩
    rw [hnx, hnu] at hUl
    rw [hnu] at SU ⊢
    have hcapu := SU.hcap
    have hmaxu := SU.hmax
    have hU61 : nu ≤ 61 := by omega
    have hOk : Hid (∀ i, i < nu → Ok (gt U i)) := fun i hi => hU.ok _ (gt_mem (by omega))
    have hfar : Hid (∀ i, i + 1 < nu → 1 < (gt U (i + 1)).1 - (gt U i).2) := fun i hi => far_gt hU.far (by omega)
    have hany : Hid (∀ t, anyT U t nu = anyO P t nx) := fun t => by have := any_un hU t; rw [hnu, hnx] at this; exact this
    have UC2 := Lib.hid (fun w1 h1 => union_any au nu capu U w1 h1 (by omega))
    have hU2 : Hid (∀ V, Un U V → V = U) := fun V h2 => far_self hU h2
    replace b1 := Lib.hid (bnext b1.out d)
    replace A := Lib.hid (A.out.keeps d)
    replace SX := Lib.hid (SX.out.keeps d)
    replace SU := Lib.hid SU
    replace hnx := Lib.hid hnx
    replace hnu := Lib.hid hnu
    clear d O UC hU hUl
    go_wp2_with fail
    go_loopw [9] (fun i wr => ∃ k : Nat, i = .int .i64 ((k + 1 : Nat) : Int) ∧ Hid (k = 0 ∨ k + 1 ≤ nu) ∧ Hid (Below w2.heap.size w2 wr)) (fun i _ => nu - (intOf i).toNat)
    case atStart => exact ⟨0, rfl, .inl rfl, b0 w2⟩
    case round =>
      obtain ⟨j, rfl, hj, hb⟩ := hrel
      by_cases hjn : j + 1 < nu
      · have p2 : decide (((j + 1 : Nat) : Int) < (nu : Int)) = true := decide_eq_true (by omega)
        obtain ⟨bm, offm, rfl, hD⟩ := (SU.out.keeps hb.out).hat.resolve_left (by have := hnu.out; omega)
        obtain ⟨d0, _⟩ := hD (j + 1) (by have := hnu.out; omega)
        obtain ⟨_, d1⟩ := hD j (by have := hnu.out; omega)
        have hfr := hfar.out j hjn
        obtain ⟨o1, o2, o3⟩ := hOk.out j (by omega)
        obtain ⟨o4, o5, o6⟩ := hOk.out (j + 1) (by omega)
        generalize (gt U (j + 1)).1 = u at *
        generalize (gt U j).2 = v at *
        generalize (gt U (j + 1)).2 = u2 at *
        generalize (gt U j).1 = v2 at *
        have p3 : decide (u ≤ v + 1) = false := decide_eq_false (by omega)
        clear hD
        go_wp2_with fail
        go_quiet (fail)
        have hb2 := Lib.hid (below_drewN hb.out nq)
        generalize wr.drewN nq = W2 at *
        clear d0 d1 hfr o1 o2 o3 o4 o5 o6 p3
        go_wp2_with fail
        go_roundw
        case rel => exact ⟨j + 1, rfl, .inr hjn, hb2.out⟩
        case measure => simp only [intOf]; omega
      · have p2 : decide (((j + 1 : Nat) : Int) < (nu : Int)) = false := decide_eq_false (by omega)
        replace b1 := Lib.hid (bnext b1.out hb.out)
        replace A := Lib.hid (A.out.keeps hb.out)
        replace SX := Lib.hid (SX.out.keeps hb.out)
        replace SU := Lib.hid (SU.out.keeps hb.out)
        clear hb hfar hOk
        generalize wr = w3 at *
        go_wp2_with fail
        refine (UC2.out w3 SU.out).mono ?_
        rintro e w4 ⟨v, V, rfl, hV, _, O, d⟩
        obtain rfl := (hU2.out V hV).symm
        obtain ⟨av, capv, rfl, SV⟩ := O.sl
        rw [hnu.out] at SV ⊢
        replace b1 := Lib.hid (bnext b1.out d)
        replace A := Lib.hid (A.out.keeps d)
        replace SX := Lib.hid (SX.out.keeps d)
        replace SU := Lib.hid (SU.out.keeps d)
        have SC := Lib.hid (same_any av capv au capu nu U w4 SV SU.out)
        clear d O UC2 hV hU2 SV
        go_wp2_with fail
        refine SC.out.mono ?_
        rintro e w5 ⟨rfl, d⟩
        replace b1 := Lib.hid (bnext b1.out d)
        replace A := Lib.hid (A.out.keeps d)
        replace SX := Lib.hid (SX.out.keeps d)
        replace SU := Lib.hid (SU.out.keeps d)
        clear d SC
        go_wp2_with fail
        go_loopw [10, 11] (fun v i wr => ∃ (k : Nat) (T : List Int), i = .int .i64 (k : Int) ∧ Hid (k ≤ nx) ∧ Hid (OwnN wr w5.heap.size v T) ∧ Hid (T.length ≤ 1 + 4 * k) ∧ Hid (Below w5.heap.size w5 wr)) (fun _ i _ => nx - (intOf i).toNat)
        case atStart => exact ⟨0, [t], rfl, Nat.zero_le _, ownN_one w5 _ (Nat.le_refl _) t, by simp [Hid], balloc (b0 w5) _⟩
        case round =>
          obtain ⟨k, T, rfl, hk, hT, hTl, hb⟩ := hrel
          by_cases hlt : k < nx
          · have p2 : decide ((k : Int) < (nx : Int)) = true := decide_eq_true (by omega)
            obtain ⟨bm, offm, rfl, hD⟩ := SX.out.hat.resolve_left (by have := hnx.out; omega)
            obtain ⟨D0, D1⟩ := hD k (by have := hnx.out; omega)
            generalize gt P k = x at *
            obtain ⟨x1, x2⟩ := x
            simp only at D0 D1
            have d0 := keeps hb.out D0
            have d1 := keeps hb.out D1
            replace D0 := Lib.hid D0
            replace D1 := Lib.hid D1
            clear hD
            have CC := check_any x1 x2
            have hok := okI_iff (x1, x2)
            cases ho : okI (x1, x2)
            · rw [ho] at CC
              simp only [Bool.false_eq_true, if_false] at CC
              replace CC := Lib.hid CC
              clear ho hok
              go_wp2_with fail
              refine (CC.out _).mono ?_
              rintro e w6 ⟨rfl, d⟩
              replace hb := Lib.hid (bnext hb.out d)
              replace hT := Lib.hid (hT.out.keeps d)
              clear d CC d0 d1 D0 D1
              go_wp2_with fail
              go_roundw
              case rel => exact ⟨k + 1, T, rfl, hlt, hT.out, Nat.le_trans hTl.out (by omega), hb.out⟩
              case measure => simp only [intOf]; omega
            · rw [ho] at CC
              simp only [if_true] at CC
              replace CC := Lib.hid CC
              obtain ⟨h1, h2, h3⟩ := hok.1 ho
              simp only at h1 h2 h3
              clear ho hok
              go_wp2_with fail
              refine (CC.out _).mono ?_
              rintro e w6 ⟨rfl, d⟩
              replace hb := Lib.hid (bnext hb.out d)
              replace hT := Lib.hid (hT.out.keeps d)
              replace d0 := keeps d d0
              replace d1 := keeps d d1
              clear d CC h1 h2 h3
              go_wp2_with fail
              refine wp_region_noPanic ?_
              refine wp_region_held_drew (S := fun w' => Below w5.heap.size w5 w') (by kernel_rfl) hb.out.drew (fun hH => ?_)
              refine held_take (i := 0) (d := 68) (v := ?_) rfl (by kernel_rfl) (by kernel_rfl) (by kernel_rfl) rfl (fun _ _ _ h => h) rfl hH (fun w' hS => ?_) ?_
              rotate_left
              · clear hS; go_simp; first | done | with_reducible rfl
              simp only [List.set_cons_zero, List.set_cons_succ]
              refine held_take (i := 1) (d := 69) (v := ?_) rfl (by kernel_rfl) (by kernel_rfl) (by kernel_rfl) rfl (fun _ _ _ h => h) rfl hH (fun w' hS => ?_) ?_
              rotate_left
              · clear hS; go_simp; first | done | with_reducible rfl
              simp only [List.set_cons_zero, List.set_cons_succ]
              refine held_take (i := 2) (d := 70) (v := ?_) rfl (by kernel_rfl) (by kernel_rfl) (by kernel_rfl) rfl (fun _ _ _ h => h) rfl hH (fun w' hS => ?_) ?_
              rotate_left
              · clear hS; go_simp; first | done | with_reducible rfl
              simp only [List.set_cons_zero, List.set_cons_succ]
              refine held_take (i := 3) (d := 71) (v := ?_) rfl (by kernel_rfl) (by kernel_rfl) (by kernel_rfl) rfl (fun _ _ _ h => h) rfl hH (fun w' hS => ?_) ?_
              rotate_left
              · have k0 := keeps hS D0.out; have k1 := keeps hS D1.out; clear hS; go_simp; first | done | with_reducible rfl
              simp only [List.set_cons_zero, List.set_cons_succ]
              refine held_take (i := 4) (d := 72) (v := ?_) rfl (by kernel_rfl) (by kernel_rfl) (by kernel_rfl) rfl (fun _ _ _ h => h) rfl hH (fun w' hS => ?_) ?_
              rotate_left
              · clear hS; go_simp; first | done | with_reducible rfl
              simp only [List.set_cons_zero, List.set_cons_succ]
              refine held_take (i := 5) (d := 73) (v := ?_) rfl (by kernel_rfl) (by kernel_rfl) (by kernel_rfl) rfl (fun _ _ _ h => h) rfl hH (fun w' hS => ?_) ?_
              rotate_left
              · have k0 := keeps hS D0.out; have k1 := keeps hS D1.out; clear hS; go_simp; first | done | with_reducible rfl
              simp only [List.set_cons_zero, List.set_cons_succ]
              refine held_take (i := 6) (d := 74) (v := ?_) rfl (by kernel_rfl) (by kernel_rfl) (by kernel_rfl) rfl (fun _ _ _ h => h) rfl hH (fun w' hS => ?_) ?_
              rotate_left
              · clear hS; go_simp; first | done | with_reducible rfl
              simp only [List.set_cons_zero, List.set_cons_succ]
              refine held_take (i := 7) (d := 75) (v := ?_) rfl (by kernel_rfl) (by kernel_rfl) (by kernel_rfl) rfl (fun _ _ _ h => h) rfl hH (fun w' hS => ?_) ?_
              rotate_left
              · clear hS; go_simp; first | done | with_reducible rfl
              simp only [List.set_cons_zero, List.set_cons_succ]
              refine held_take (i := 8) (d := 76) (v := ?_) rfl (by kernel_rfl) (by kernel_rfl) (by kernel_rfl) rfl (fun _ _ _ h => h) rfl hH (fun w' hS => ?_) ?_
              rotate_left
              · have k0 := keeps hS D0.out; have k1 := keeps hS D1.out; clear hS; go_simp; first | done | with_reducible rfl
              simp only [List.set_cons_zero, List.set_cons_succ]
              refine held_take (i := 9) (d := 77) (v := ?_) rfl (by kernel_rfl) (by kernel_rfl) (by kernel_rfl) rfl (fun _ _ _ h => h) rfl hH (fun w' hS => ?_) ?_
              rotate_left
              · clear hS; go_simp; first | done | with_reducible rfl
              simp only [List.set_cons_zero, List.set_cons_succ]
              refine held_take (i := 10) (d := 78) (v := ?_) rfl (by kernel_rfl) (by kernel_rfl) (by kernel_rfl) rfl (fun _ _ _ h => h) rfl hH (fun w' hS => ?_) ?_
              rotate_left
              · have k0 := keeps hS D0.out; have k1 := keeps hS D1.out; clear hS; go_simp; first | done | with_reducible rfl
              simp only [List.set_cons_zero, List.set_cons_succ]
              refine held_take (i := 11) (d := 79) (v := ?_) rfl (by kernel_rfl) (by kernel_rfl) (by kernel_rfl) rfl (fun _ _ _ h => h) rfl hH (fun w' hS => ?_) ?_
              rotate_left
              · clear hS; go_simp; first | done | with_reducible rfl
              simp only [List.set_cons_zero, List.set_cons_succ]
              refine held_take (i := 12) (d := 80) (v := ?_) rfl (by kernel_rfl) (by kernel_rfl) (by kernel_rfl) rfl (fun _ _ _ h => h) rfl hH (fun w' hS => ?_) ?_
              rotate_left
              · clear hS; go_simp; first | done | with_reducible rfl
              simp only [List.set_cons_zero, List.set_cons_succ]
              refine held_take (i := 13) (d := 81) (v := ?_) rfl (by kernel_rfl) (by kernel_rfl) (by kernel_rfl) rfl (fun _ _ _ h => h) rfl hH (fun w' hS => ?_) ?_
              rotate_left
              · have k0 := keeps hS D0.out; have k1 := keeps hS D1.out; clear hS; go_simp; first | done | with_reducible rfl
              simp only [List.set_cons_zero, List.set_cons_succ]
              refine held_take (i := 14) (d := 82) (v := ?_) rfl (by kernel_rfl) (by kernel_rfl) (by kernel_rfl) rfl (fun _ _ _ h => h) rfl hH (fun w' hS => ?_) ?_
              rotate_left
              · clear hS; go_simp; first | done | with_reducible rfl
              simp only [List.set_cons_zero, List.set_cons_succ]
              refine held_take (i := 15) (d := 83) (v := ?_) rfl (by kernel_rfl) (by kernel_rfl) (by kernel_rfl) rfl (fun _ _ _ h => h) rfl hH (fun w' hS => ?_) ?_
              rotate_left
              · have k0 := keeps hS D0.out; have k1 := keeps hS D1.out; clear hS; go_simp; first | done | with_reducible rfl
              simp only [List.set_cons_zero, List.set_cons_succ]
              refine held_take (i := 16) (d := 84) (v := ?_) rfl (by kernel_rfl) (by kernel_rfl) (by kernel_rfl) rfl (fun _ _ _ h => h) rfl hH (fun w' hS => ?_) ?_
              rotate_left
              · clear hS; go_simp; first | done | with_reducible rfl
              simp only [List.set_cons_zero, List.set_cons_succ]
              refine held_take (i := 17) (d := 85) (v := ?_) rfl (by kernel_rfl) (by kernel_rfl) (by kernel_rfl) rfl (fun _ _ _ h => h) rfl hH (fun w' hS => ?_) ?_
              rotate_left
              · clear hS; go_simp; first | done | with_reducible rfl
              simp only [List.set_cons_zero, List.set_cons_succ]
              refine held_take (i := 18) (d := 86) (v := ?_) rfl (by kernel_rfl) (by kernel_rfl) (by kernel_rfl) rfl (fun _ _ _ h => h) rfl hH (fun w' hS => ?_) ?_
              rotate_left
              · clear hS; go_simp; first | done | with_reducible rfl
              simp only [List.set_cons_zero, List.set_cons_succ]
              refine held_take (i := 19) (d := 87) (v := ?_) rfl (by kernel_rfl) (by kernel_rfl) (by kernel_rfl) rfl (fun _ _ _ h => h) rfl hH (fun w' hS => ?_) ?_
              rotate_left
              · have k0 := keeps hS D0.out; have k1 := keeps hS D1.out; clear hS; go_simp; first | done | with_reducible rfl
              simp only [List.set_cons_zero, List.set_cons_succ]
              refine held_take (i := 20) (d := 88) (v := ?_) rfl (by kernel_rfl) (by kernel_rfl) (by kernel_rfl) rfl (fun _ _ _ h => h) rfl hH (fun w' hS => ?_) ?_
              rotate_left
              · clear hS; go_simp; first | done | with_reducible rfl
              simp only [List.set_cons_zero, List.set_cons_succ]
              refine held_take (i := 21) (d := 89) (v := ?_) rfl (by kernel_rfl) (by kernel_rfl) (by kernel_rfl) rfl (fun _ _ _ h => h) rfl hH (fun w' hS => ?_) ?_
              rotate_left
              · have k0 := keeps hS D0.out; have k1 := keeps hS D1.out; clear hS; go_simp; first | done | with_reducible rfl
              simp only [List.set_cons_zero, List.set_cons_succ]
              refine held_take (i := 22) (d := 90) (v := ?_) rfl (by kernel_rfl) (by kernel_rfl) (by kernel_rfl) rfl (fun _ _ _ h => h) rfl hH (fun w' hS => ?_) ?_
              rotate_left
              · clear hS; go_simp; first | done | with_reducible rfl
              simp only [List.set_cons_zero, List.set_cons_succ]
              replace hT := Lib.hid (hT.out.keeps (b0 w6).drew)
              generalize w6.drew = z0 at *
              refine held_only (i := 23) rfl (by kernel_rfl) rfl (fun K hK => ?_)
              go_simp
              refine take_world (fun z1 hw => ?_)
              have bb : Below z0.heap.size z0 z1 := hw ▸ balloc (b0 z0) _
              have hC : Cn z1 z0.heap.size 0 [x1, x2, IntKind.i64.wrap (x1 - 1), IntKind.i64.wrap (x2 + 1)] := hw ▸ cn_new z0 x1 x2 _ _
              replace hT := Lib.hid (hT.out.keeps bb)
              refine hK.out _ _ (bnext hH bb) (fun hH => ?_)
              clear hK K hw bb
              generalize z0.heap.size = g5 at *
              refine held_only (i := 24) rfl (by kernel_rfl) rfl (fun K hK => ?_)
              refine wp_catN 92 rfl (.tmp 68) (.tmp 91) rfl w5.heap.size _ T rfl hT.out g5 4 4 _ rfl rfl hC (by have := hTl.out; omega) hH.size ?_
              intro v7 z2 O7 b7
              refine hK.out _ _ (hH.trans b7) (fun hH => ?_)
              clear hK K
              simp only [List.set_cons_zero, List.set_cons_succ]
              refine held_take (i := 25) (d := 10) (v := ?_) rfl (by kernel_rfl) (by kernel_rfl) (by kernel_rfl) rfl (fun _ _ _ h => h) rfl hH (fun w' hS => ?_) ?_
              rotate_left
              · clear hS; go_simp; first | done | with_reducible rfl
              simp only [List.set_cons_zero, List.set_cons_succ]
              refine wpAnyH_done (by kernel_rfl) ?_ _
              refine noPanic_of ?_
              replace hb := Lib.hid hH
              clear hH hT D0 D1 d0 d1 hC b7
              go_wp2_with fail
              go_roundw
              case rel => exact ⟨k + 1, _, rfl, hlt, O7, by have := hTl.out; unfold Hid; simp only [List.length_append, List.length_cons, List.length_nil]; omega, hb.out⟩
              case measure => simp only [intOf]; omega
          · have p2 : decide ((k : Int) < (nx : Int)) = false := decide_eq_false (by omega)
            replace b1 := Lib.hid (bnext b1.out hb.out)
            replace A := Lib.hid (A.out.keeps hb.out)
            replace SX := Lib.hid (SX.out.keeps hb.out)
            replace SU := Lib.hid (SU.out.keeps hb.out)
            have hT245 : T.length ≤ 245 := by have := hTl.out; have := hk.out; omega
            obtain ⟨at0, capt, rfl, ST⟩ := hT.out.sn
            obtain ⟨nt, hnt⟩ : ∃ nt, T.length = nt := ⟨_, rfl⟩
            rw [hnt] at ST hT245 ⊢
            have hcapt := ST.hcap
            have hmaxt := ST.hmax
            replace ST := Lib.hid ST
            replace hnt := Lib.hid hnt
            clear hb hT hTl
            generalize wr = w6 at *
            go_wp2_with fail
            go_loopw [12] (fun i wr => ∃ m : Nat, i = .int .i64 (m : Int) ∧ Hid (m ≤ nt) ∧ Hid (Below w6.heap.size w6 wr)) (fun i _ => nt - (intOf i).toNat)
            case atStart => exact ⟨0, rfl, Nat.zero_le _, b0 w6⟩
            case round =>
              obtain ⟨m, rfl, hm, hb⟩ := hrel
              by_cases hmt : m < nt
              · have p3 : decide ((m : Int) < (nt : Int)) = true := decide_eq_true (by omega)
                obtain ⟨bt, offt, rfl, hC⟩ := ST.out.hat.resolve_left (by have := hnt.out; omega)
                have E0 := Lib.hid (hC m (by have := hnt.out; omega))
                generalize gn T m = s at *
                clear hC
                go_wp2_with fail
                generalize wr = W7 at *
                go_loopw [13, 15] (fun c i wr => ∃ j : Nat, c = .bool (anyT U s j) ∧ i = .int .i64 (j : Int) ∧ Hid (j ≤ nu) ∧ Hid (Below w6.heap.size w6 wr)) (fun _ i _ => nu - (intOf i).toNat)
                case atStart => exact ⟨0, by simp [anyT], rfl, Nat.zero_le _, hb.out⟩
                case round =>
                  obtain ⟨i, rfl, rfl, hi, hbi⟩ := hrel
                  by_cases hin : i < nu
                  · have p4 : decide ((i : Int) < (nu : Int)) = true := decide_eq_true (by omega)
                    obtain ⟨bu, offu, rfl, hD⟩ := (SU.out.keeps hbi.out).hat.resolve_left (by have := hnu.out; omega)
                    obtain ⟨d0, d1⟩ := hD i (by have := hnu.out; omega)
                    have has := Lib.hid (anyT_succ (M := U) (t := s) (k := i) (by have := hnu.out; omega))
                    have e0 := keeps hbi.out E0.out
                    generalize gt U i = y at *
                    obtain ⟨u, v⟩ := y
                    simp only [inn] at d0 d1 has
                    generalize anyT U s i = f0 at *
                    have K1 := Lib.hid (all_grown (inside_any u v s) wr)
                    generalize (decide (u ≤ s) && decide (s ≤ v)) = o1 at *
                    replace d0 := cell_regrown d0
                    replace d1 := cell_regrown d1
                    replace e0 := cell_regrown e0
                    clear hD
                    cases f0
                    · have has2 : Hid (anyT U s (i + 1) = o1) := by have := has.out; unfold Hid; simpa using this
                      clear has
                      go_wp2_with fail
                      refine wp_region_quiet_below (by kernel_rfl) (by kernel_rfl) ?_
                      repeat (first | go_big_quiet_skip | (go_big_quiet_want; go_big_quiet_op; go_big_quiet_on) | quiet_step ((first | (go_at_call 29; exact K1.out _ _))))
                      refine wpQuiet_nil ?_
                      intro w8 hw8
                      have hbi2 := Lib.hid (bnext hbi.out (below_of hw8))
                      clear hw8 K1 d0 d1 e0
                      go_wp2_with fail
                      go_roundw
                      case rel => exact ⟨i + 1, by rw [has2.out], rfl, hin, hbi2.out⟩
                      case measure => simp only [intOf]; omega
                    · have has2 : Hid (anyT U s (i + 1) = true) := by have := has.out; unfold Hid; simpa using this
                      clear has K1
                      go_wp2_with fail
                      refine wp_region_quiet_below (by kernel_rfl) (by kernel_rfl) ?_
                      repeat (first | go_big_quiet_skip | (go_big_quiet_want; go_big_quiet_op; go_big_quiet_on))
                      refine wpQuiet_nil ?_
                      intro w8 hw8
                      have hbi2 := Lib.hid (bnext hbi.out (below_of hw8))
                      clear hw8 d0 d1 e0
                      go_wp2_with fail
                      go_roundw
                      case rel => exact ⟨i + 1, by rw [has2.out], rfl, hin, hbi2.out⟩
                      case measure => simp only [intOf]; omega
                  · have p4 : decide ((i : Int) < (nu : Int)) = false := decide_eq_false (by omega)
                    obtain rfl : i = nu := by have := hi.out; omega
                    have hs := hany.out s
                    generalize anyT U s i = f1 at *
                    subst hs
                    replace hb := Lib.hid hbi.out
                    clear hbi
                    generalize wr = W8 at *
                    go_wp2_with fail
                    go_loopw [14, 16] (fun c i wr => ∃ j : Nat, c = .bool (anyO P s j) ∧ i = .int .i64 (j : Int) ∧ Hid (j ≤ nx) ∧ Hid (Below w6.heap.size w6 wr)) (fun _ i _ => nx - (intOf i).toNat)
                    case atStart => exact ⟨0, by simp [anyO], rfl, Nat.zero_le _, hb.out⟩
                    case round =>
                      obtain ⟨e, rfl, rfl, he, hbe⟩ := hrel
                      by_cases hen : e < nx
                      · have p5 : decide ((e : Int) < (nx : Int)) = true := decide_eq_true (by omega)
                        obtain ⟨bx, offx, rfl, hD⟩ := SX.out.hat.resolve_left (by have := hnx.out; omega)
                        obtain ⟨D0, D1⟩ := hD e (by have := hnx.out; omega)
                        have has := Lib.hid (anyO_succ (M := P) (t := s) (k := e) (by have := hnx.out; omega))
                        generalize gt P e = x at *
                        obtain ⟨x1, x2⟩ := x
                        simp only [inn] at D0 D1 has
                        have d0 := keeps hbe.out D0
                        have d1 := keeps hbe.out D1
                        replace D0 := Lib.hid D0
                        replace D1 := Lib.hid D1
                        have CC := check_any x1 x2
                        have MC := Lib.hid (meet_any x1 x2 p q)
                        have KX := Lib.hid (inside_any x1 x2 s)
                        have KA := Lib.hid (inside_any p q s)
                        have CA := check_any p q
                        have both := both_eq (x1, x2) (p, q) s
                        simp only [inn] at both
                        generalize mtv (x1, x2) (p, q) = mv at *
                        obtain ⟨mv1, mv2⟩ := mv
                        simp only at both MC
                        have KM := Lib.hid (inside_any mv1 mv2 s)
                        generalize mtb (x1, x2) (p, q) = mb at *
                        generalize okI (x1, x2) = ox at *
                        generalize okI (p, q) = oa at *
                        generalize (decide (x1 ≤ s) && decide (s ≤ x2)) = ix at *
                        generalize (decide (p ≤ s) && decide (s ≤ q)) = ia at *
                        generalize (decide (mv1 ≤ s) && decide (s ≤ mv2)) = im at *
                        generalize anyO P s e = f0 at *
                        obtain ⟨cx, hcx⟩ : ∃ c : Int, (if ox = true then (0 : Int) else 1) = c := ⟨_, rfl⟩
                        have hcx2 : (cx == 0) = ox := by subst hcx; cases ox <;> rfl
                        rw [hcx] at CC
                        clear hcx
                        replace CC := Lib.hid CC
                        replace both := Lib.hid both
                        clear hD
                        go_wp2_with fail
                        refine (CC.out _).mono ?_
                        rintro e9 w9 ⟨rfl, d⟩
                        replace hbe := Lib.hid (bnext hbe.out d)
                        clear d d0 d1 CC
                        go_wp2_with fail
                        clear hcx2
                        go_cut [14] from 129 to 143 (fun r wx => r = .bool (f0 || (ox && ix)) ∧ Hid (Below w6.heap.size w6 wx))
                        case first =>
                          have d0 := cell_regrown (keeps hbe.out D0.out)
                          have d1 := cell_regrown (keeps hbe.out D1.out)
                          have e0 := cell_regrown (keeps hbe.out E0.out)
                          have K1 := Lib.hid (all_grown KX.out w9)
                          clear KX KA CA MC KM both has D0 D1
                          cases f0
                          · cases ox
                            · clear K1
                              refine wp_region_quiet_below (by kernel_rfl) (by kernel_rfl) ?_
                              repeat (first | go_big_quiet_skip | (go_big_quiet_want; go_big_quiet_op; go_big_quiet_on))
                              refine wpQuiet_nil ?_
                              intro w99 hw99
                              replace hbe := Lib.hid (bnext hbe.out (below_of hw99))
                              clear hw99
                              clear d0 d1 e0
                              go_wp2_with fail
                              go_meet
                              case rel => exact ⟨rfl, hbe.out⟩
                            · skip
                              refine wp_region_quiet_below (by kernel_rfl) (by kernel_rfl) ?_
                              repeat (first | go_big_quiet_skip | (go_big_quiet_want; go_big_quiet_op; go_big_quiet_on) | quiet_step ((first | (go_at_call 29; exact K1.out _ _))))
                              refine wpQuiet_nil ?_
                              intro w99 hw99
                              replace hbe := Lib.hid (bnext hbe.out (below_of hw99))
                              clear hw99
                              clear d0 d1 e0 K1
                              go_wp2_with fail
                              go_meet
                              case rel => exact ⟨rfl, hbe.out⟩
                          · clear K1
                            refine wp_region_quiet_below (by kernel_rfl) (by kernel_rfl) ?_
                            repeat (first | go_big_quiet_skip | (go_big_quiet_want; go_big_quiet_op; go_big_quiet_on))
                            refine wpQuiet_nil ?_
                            intro w99 hw99
                            replace hbe := Lib.hid (bnext hbe.out (below_of hw99))
                            clear hw99
                            clear d0 d1 e0
                            go_wp2_with fail
                            go_meet
                            case rel => exact ⟨rfl, hbe.out⟩
                        case rest =>
                          obtain ⟨rfl, hbc⟩ := hcut
                          replace hbe := hbc
                          clear hbc
                          generalize (f0 || (ox && ix)) = f1 at *
                          generalize wc = w10 at *
                          go_wp2_with fail
                          go_cut [18, 19] from 144 to 152 (fun pp o wx => ∃ L : Nat, pp = .pointer (some ⟨L, 0, none⟩) ∧ o = .bool mb ∧ Hid (Bw wx L mv1 mv2) ∧ Hid (Below w6.heap.size w6 wx))
                          case first =>
                            clear KX KA CA KM both has
                            refine wp_region_noPanic ?_
                            refine wp_region_held_drew (S := fun w' => Below w6.heap.size w6 w') (by kernel_rfl) hbe.out.drew (fun hH => ?_)
                            refine held_take (i := 0) (d := 145) (v := ?_) rfl (by kernel_rfl) (by kernel_rfl) (by kernel_rfl) rfl (fun _ _ _ h => h) rfl hH (fun w' hS => ?_) ?_
                            rotate_left
                            · clear hS; go_simp; first | done | with_reducible rfl
                            simp only [List.set_cons_zero, List.set_cons_succ]
                            refine held_take (i := 1) (d := 146) (v := ?_) rfl (by kernel_rfl) (by kernel_rfl) (by kernel_rfl) rfl (fun _ _ _ h => h) rfl hH (fun w' hS => ?_) ?_
                            rotate_left
                            · clear hS; go_simp; first | done | with_reducible rfl
                            simp only [List.set_cons_zero, List.set_cons_succ]
                            refine held_take (i := 2) (d := 147) (v := ?_) rfl (by kernel_rfl) (by kernel_rfl) (by kernel_rfl) rfl (fun _ _ _ h => h) rfl hH (fun w' hS => ?_) ?_
                            rotate_left
                            · clear hS; go_simp; first | done | with_reducible rfl
                            simp only [List.set_cons_zero, List.set_cons_succ]
                            refine held_take (i := 3) (d := 148) (v := ?_) rfl (by kernel_rfl) (by kernel_rfl) (by kernel_rfl) rfl (fun _ _ _ h => h) rfl hH (fun w' hS => ?_) ?_
                            rotate_left
                            · have k0 := keeps hS D0.out; have k1 := keeps hS D1.out; clear hS; go_simp; first | done | with_reducible rfl
                            simp only [List.set_cons_zero, List.set_cons_succ]
                            refine held_take (i := 4) (d := 149) (v := ?_) rfl (by kernel_rfl) (by kernel_rfl) (by kernel_rfl) rfl (fun _ _ _ h => h) rfl hH (fun w' hS => ?_) ?_
                            rotate_left
                            · obtain ⟨k0, k1, _, _⟩ := A.out.keeps hS; clear hS; go_simp; first | done | with_reducible rfl
                            simp only [List.set_cons_zero, List.set_cons_succ]
                            generalize w10.drew = z0 at *
                            refine held_two (i := 5) (j := 9) rfl rfl (by kernel_rfl) rfl rfl (fun K hK => ?_) (fun K hK => ?_)
                            · go_simp
                              refine (MC.out _).mono ?_
                              rintro e10 z1 ⟨rfl, bb⟩
                              replace bb := bnext hH bb
                              clear hH
                              refine hK.out _ _ bb (fun hH => ?_)
                              clear hK K bb
                              refine held_take (i := 6) (d := 144) (v := ?_) rfl (by kernel_rfl) (by kernel_rfl) (by kernel_rfl) rfl (fun _ _ _ h => h) rfl hH (fun w' hS => ?_) ?_
                              rotate_left
                              · clear hS; go_simp; first | done | with_reducible rfl
                              simp only [List.set_cons_zero, List.set_cons_succ]
                              refine held_take (i := 7) (d := 151) (v := ?_) rfl (by kernel_rfl) (by kernel_rfl) (by kernel_rfl) rfl (fun _ _ _ h => h) rfl hH (fun w' hS => ?_) ?_
                              rotate_left
                              · clear hS; go_simp; first | done | with_reducible rfl
                              simp only [List.set_cons_zero, List.set_cons_succ]
                              refine held_take (i := 8) (d := 152) (v := ?_) rfl (by kernel_rfl) (by kernel_rfl) (by kernel_rfl) rfl (fun _ _ _ h => h) rfl hH (fun w' hS => ?_) ?_
                              rotate_left
                              · clear hS; go_simp; first | done | with_reducible rfl
                              simp only [List.set_cons_zero, List.set_cons_succ]
                              refine held_only (i := 9) rfl (by kernel_rfl) rfl (fun K hK => ?_)
                              go_simp
                              have hW := hH.size
                              refine hK.out _ _ (balloc hH _) (fun hH => ?_)
                              clear hK K
                              have R := Bw.new z1 0 0 23
                              generalize z1.heap.size = L at *
                              generalize z1.alloc (.cells #[.int .i64 0, .int .i64 0] 23) = z2 at *
                              refine held_and (fun w' => ∃ p q, Bw w' L p q) ⟨_, _, R⟩ hH (fun hH => ?_)
                              refine held_only (i := 10) rfl (by kernel_rfl) rfl (fun K hK => ?_)
                              have R1 := Lib.hid R
                              obtain ⟨a0, a1, g0, g1⟩ := R
                              go_simp
                              refine hK.out _ _ ⟨put_below hH.1 hW _ _, _, _, R1.out.put _ _⟩ (fun hH => ?_)
                              clear hK K a0 a1 g0 g1
                              refine held_take (i := 11) (d := 19) (v := ?_) rfl (by kernel_rfl) (by kernel_rfl) (by kernel_rfl) rfl (fun _ _ _ h => h) rfl hH (fun w' hS => ?_) ?_
                              rotate_left
                              · clear hS; go_simp; first | done | with_reducible rfl
                              simp only [List.set_cons_zero, List.set_cons_succ]
                              refine wpAnyH_done (by kernel_rfl) ?_ _
                              refine noPanic_of ?_
                              go_wp2_with fail
                              go_meet
                              case rel => exact ⟨L, rfl, rfl, R1.out.put _ _, hH.1⟩
                            · go_simp
                              have hW := hH.size
                              refine hK.out _ _ (balloc hH _) (fun hH => ?_)
                              clear hK K
                              have R := Bw.new z0 0 0 23
                              generalize z0.heap.size = L at *
                              generalize z0.alloc (.cells #[.int .i64 0, .int .i64 0] 23) = z2 at *
                              refine held_and (fun w' => ∃ p q, Bw w' L p q) ⟨_, _, R⟩ hH (fun hH => ?_)
                              refine held_only (i := 5) rfl (by kernel_rfl) rfl (fun K hK => ?_)
                              go_simp
                              refine (MC.out _).mono ?_
                              rintro e10 z1 ⟨rfl, bb⟩
                              replace R := R.keeps bb
                              replace bb := bnext hH.1 bb
                              clear hH
                              refine hK.out _ _ ⟨bb, _, _, R⟩ (fun hH => ?_)
                              clear hK K bb
                              refine held_take (i := 6) (d := 144) (v := ?_) rfl (by kernel_rfl) (by kernel_rfl) (by kernel_rfl) rfl (fun _ _ _ h => h) rfl hH (fun w' hS => ?_) ?_
                              rotate_left
                              · clear hS; go_simp; first | done | with_reducible rfl
                              simp only [List.set_cons_zero, List.set_cons_succ]
                              refine held_take (i := 7) (d := 151) (v := ?_) rfl (by kernel_rfl) (by kernel_rfl) (by kernel_rfl) rfl (fun _ _ _ h => h) rfl hH (fun w' hS => ?_) ?_
                              rotate_left
                              · clear hS; go_simp; first | done | with_reducible rfl
                              simp only [List.set_cons_zero, List.set_cons_succ]
                              refine held_take (i := 8) (d := 152) (v := ?_) rfl (by kernel_rfl) (by kernel_rfl) (by kernel_rfl) rfl (fun _ _ _ h => h) rfl hH (fun w' hS => ?_) ?_
                              rotate_left
                              · clear hS; go_simp; first | done | with_reducible rfl
                              simp only [List.set_cons_zero, List.set_cons_succ]
                              refine held_only (i := 10) rfl (by kernel_rfl) rfl (fun K hK => ?_)
                              have R1 := Lib.hid R
                              obtain ⟨a0, a1, g0, g1⟩ := R
                              go_simp
                              refine hK.out _ _ ⟨put_below hH.1 hW _ _, _, _, R1.out.put _ _⟩ (fun hH => ?_)
                              clear hK K a0 a1 g0 g1
                              refine held_take (i := 11) (d := 19) (v := ?_) rfl (by kernel_rfl) (by kernel_rfl) (by kernel_rfl) rfl (fun _ _ _ h => h) rfl hH (fun w' hS => ?_) ?_
                              rotate_left
                              · clear hS; go_simp; first | done | with_reducible rfl
                              simp only [List.set_cons_zero, List.set_cons_succ]
                              refine wpAnyH_done (by kernel_rfl) ?_ _
                              refine noPanic_of ?_
                              go_wp2_with fail
                              go_meet
                              case rel => exact ⟨L, rfl, rfl, R1.out.put _ _, hH.1⟩
                          case rest =>
                            obtain ⟨L, rfl, rfl, hBL, hbc⟩ := hcut
                            replace hbe := hbc
                            clear hbc MC
                            generalize wc = w11 at *
                            go_wp2_with fail
                            have KM2 := Lib.hid (all_grown KM.out)
                            have L0 := Lib.hid hBL.out.grown
                            go_cut [20] from 153 to 177 (fun r wx => r = .bool (ox && oa && ix && ia) ∧ Hid (Below w6.heap.size w6 wx) ∧ Hid (Below w11.heap.size w11 wx))
                            case first =>
                              have d0 := cell_regrown (keeps hbe.out D0.out)
                              have d1 := cell_regrown (keeps hbe.out D1.out)
                              have e0 := cell_regrown (keeps hbe.out E0.out)
                              obtain ⟨a0, a1⟩ := (A.out.keeps hbe.out).grown
                              have K1 := Lib.hid (all_grown KX.out w11)
                              have K2 := Lib.hid (all_grown KA.out w11)
                              have hb11 := Lib.hid (b0 w11)
                              clear KX KA KM KM2 both has D0 D1 hBL L0
                              cases ox
                              · clear K1 K2 CA
                                refine wp_region_quiet_below (by kernel_rfl) (by kernel_rfl) ?_
                                repeat (first | go_big_quiet_skip | (go_big_quiet_want; go_big_quiet_op; go_big_quiet_on))
                                refine wpQuiet_nil ?_
                                intro w99 hw99
                                replace hbe := Lib.hid (bnext hbe.out (below_of hw99))
                                replace hb11 := Lib.hid (below_of hw99)
                                clear hw99
                                clear d0 d1 e0 a0 a1
                                go_wp2_with fail
                                go_meet
                                case rel => exact ⟨rfl, hbe.out, hb11.out⟩
                              · cases oa
                                · simp only [Bool.false_eq_true, if_false] at CA
                                  have K0 := Lib.hid (all_grown CA w11)
                                  clear K1 K2 CA
                                  refine wp_region_quiet_below (by kernel_rfl) (by kernel_rfl) ?_
                                  repeat (first | go_big_quiet_skip | (go_big_quiet_want; go_big_quiet_op; go_big_quiet_on) | quiet_step ((first | (go_at_call 15; exact K0.out _ _))))
                                  refine wpQuiet_nil ?_
                                  intro w99 hw99
                                  replace hbe := Lib.hid (bnext hbe.out (below_of hw99))
                                  replace hb11 := Lib.hid (below_of hw99)
                                  clear hw99
                                  clear d0 d1 e0 a0 a1 K0
                                  go_wp2_with fail
                                  go_meet
                                  case rel => exact ⟨rfl, hbe.out, hb11.out⟩
                                · simp only [if_true] at CA
                                  have K0 := Lib.hid (all_grown CA w11)
                                  clear CA
                                  cases ix
                                  · clear K2
                                    refine wp_region_quiet_below (by kernel_rfl) (by kernel_rfl) ?_
                                    iterate 10 (first | go_big_quiet_skip | (go_big_quiet_want; go_big_quiet_op; go_big_quiet_on) | quiet_step ((first | (go_at_call 15; exact K0.out _ _))))
                                    repeat (first | go_big_quiet_skip | (go_big_quiet_want; go_big_quiet_op; go_big_quiet_on) | quiet_step ((first | (go_at_call 29; exact K1.out _ _))))
                                    refine wpQuiet_nil ?_
                                    intro w99 hw99
                                    replace hbe := Lib.hid (bnext hbe.out (below_of hw99))
                                    replace hb11 := Lib.hid (below_of hw99)
                                    clear hw99
                                    clear d0 d1 e0 a0 a1 K0 K1
                                    go_wp2_with fail
                                    go_meet
                                    case rel => exact ⟨rfl, hbe.out, hb11.out⟩
                                  · skip
                                    refine wp_region_quiet_below (by kernel_rfl) (by kernel_rfl) ?_
                                    iterate 10 (first | go_big_quiet_skip | (go_big_quiet_want; go_big_quiet_op; go_big_quiet_on) | quiet_step ((first | (go_at_call 15; exact K0.out _ _))))
                                    iterate 7 (first | go_big_quiet_skip | (go_big_quiet_want; go_big_quiet_op; go_big_quiet_on) | quiet_step ((first | (go_at_call 29; exact K1.out _ _))))
                                    repeat (first | go_big_quiet_skip | (go_big_quiet_want; go_big_quiet_op; go_big_quiet_on) | quiet_step ((first | (go_at_call 29; exact K2.out _ _))))
                                    refine wpQuiet_nil ?_
                                    intro w99 hw99
                                    replace hbe := Lib.hid (bnext hbe.out (below_of hw99))
                                    replace hb11 := Lib.hid (below_of hw99)
                                    clear hw99
                                    clear d0 d1 e0 a0 a1 K0 K1 K2
                                    go_wp2_with fail
                                    go_meet
                                    case rel => exact ⟨rfl, hbe.out, hb11.out⟩
                            case rest =>
                              obtain ⟨rfl, hbc, hbd⟩ := hcut
                              replace hBL := Lib.hid (hBL.out.keeps hbd.out)
                              replace hbe := hbc
                              clear hbc hbd KM2 L0 KX KA CA D0 D1
                              generalize wc = w12 at *
                              rw [both.out]
                              clear both
                              go_wp2_with fail
                              go_cut [188] from 178 to 187 (fun r wx => r = .bool false ∧ Hid (Below w6.heap.size w6 wx))
                              case first =>
                                have e0 := cell_regrown (keeps hbe.out E0.out)
                                obtain ⟨c0, c1⟩ := hBL.out.grown
                                have K1 := Lib.hid (all_grown KM.out w12)
                                clear KM has hBL
                                cases mb
                                · simp only [Bool.false_and]
                                  clear K1
                                  refine wp_region_quiet_below (by kernel_rfl) (by kernel_rfl) ?_
                                  repeat (first | go_big_quiet_skip | (go_big_quiet_want; go_big_quiet_op; go_big_quiet_on))
                                  refine wpQuiet_nil ?_
                                  intro w99 hw99
                                  replace hbe := Lib.hid (bnext hbe.out (below_of hw99))
                                  clear hw99
                                  clear e0 c0 c1
                                  go_wp2_with fail
                                  go_meet
                                  case rel => exact ⟨rfl, hbe.out⟩
                                · simp only [Bool.true_and]
                                  cases im
                                  · skip
                                    refine wp_region_quiet_below (by kernel_rfl) (by kernel_rfl) ?_
                                    repeat (first | go_big_quiet_skip | (go_big_quiet_want; go_big_quiet_op; go_big_quiet_on) | quiet_step ((first | (go_at_call 29; exact K1.out _ _))))
                                    refine wpQuiet_nil ?_
                                    intro w99 hw99
                                    replace hbe := Lib.hid (bnext hbe.out (below_of hw99))
                                    clear hw99
                                    clear e0 c0 c1 K1
                                    go_wp2_with fail
                                    go_meet
                                    case rel => exact ⟨rfl, hbe.out⟩
                                  · skip
                                    refine wp_region_quiet_below (by kernel_rfl) (by kernel_rfl) ?_
                                    repeat (first | go_big_quiet_skip | (go_big_quiet_want; go_big_quiet_op; go_big_quiet_on) | quiet_step ((first | (go_at_call 29; exact K1.out _ _))))
                                    refine wpQuiet_nil ?_
                                    intro w99 hw99
                                    replace hbe := Lib.hid (bnext hbe.out (below_of hw99))
                                    clear hw99
                                    clear e0 c0 c1 K1
                                    go_wp2_with fail
                                    go_meet
                                    case rel => exact ⟨rfl, hbe.out⟩
                              case rest =>
                                obtain ⟨rfl, hbc⟩ := hcut
                                replace hbe := hbc
                                clear hbc hBL KM
                                generalize wc = w13 at *
                                go_wp2_with fail
                                go_roundw
                                case rel => exact ⟨e + 1, by rw [has.out], rfl, hen, hbe.out⟩
                                case measure => simp only [intOf]; omega
                      · have p5 : decide ((e : Int) < (nx : Int)) = false := decide_eq_false (by omega)
                        obtain rfl : e = nx := by have := he.out; omega
                        generalize anyO P s e = f1 at *
                        generalize wr = w9 at *
                        cases f1
                        · go_wp2_with fail
                          go_roundw
                          case rel => exact ⟨m + 1, rfl, hmt, hbe.out⟩
                          case measure => simp only [intOf]; omega
                        · go_wp2_with fail
                          go_roundw
                          case rel => exact ⟨m + 1, rfl, hmt, hbe.out⟩
                          case measure => simp only [intOf]; omega
              · have p3 : decide ((m : Int) < (nt : Int)) = false := decide_eq_false (by omega)
                replace b1 := Lib.hid (bnext b1.out hb.out)
                clear hb
                go_wp2_with fail
                refine (C3.out _).mono ?_
                rintro e w9 ⟨rfl, d⟩
                replace b1 := Lib.hid (bnext b1.out d)
                clear d
                go_wp2_with fail
                go_ret
                exact ⟨rfl, b1.out⟩
end Go.Proofs.Ytdhdofgdeljajaa
