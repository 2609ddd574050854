/-
  The reference's Sessions.
-/
import Derived.Test.YtdhdofgdeljajaaSrd
import Derived.Test.YtdhdofgdeljajaaSat
namespace Go.Proofs.Ytdhdofgdeljajaa
open Go.RowKit

/-- Where the loop stands. -/
structure Rg (g : Int) (L : List Int) (k : Nat) (out : List I2) : Prop where
  len : out.length ≤ k
  nil : k = 0 → out = []
  run : k ≠ 0 → ∃ pre r, out = pre ++ [r] ∧ tkb r.2 = true ∧ (∀ y ∈ L.drop k, r.2 ≤ y) ∧ mrg g (L.map mo) = pre ++ mg g r ((L.drop k).map mo)
theorem Rg.start (g : Int) (L : List Int) : Rg g L 0 [] := ⟨Nat.le_refl _, fun _ => rfl, fun h => absurd rfl h⟩
theorem up_drop {L : List Int} {k : Nat} (hu : Up L) (hk : k < L.length) : ∀ y ∈ L.drop (k + 1), gn L k ≤ y := by
  have h : Up (L.drop k) := List.Pairwise.sublist (List.drop_sublist k L) hu
  rw [gn_drop hk] at h
  exact (List.pairwise_cons.1 h).1
theorem Rg.first {g : Int} {L : List Int} (hu : Up L) (h0 : 0 < L.length) (ht : tkb (gn L 0) = true) : Rg g L 1 ([] ++ [(gn L 0, gn L 0)]) := by
  refine ⟨by simp, fun h => absurd h (by decide), fun _ => ⟨[], _, rfl, ht, up_drop hu h0, ?_⟩⟩
  have := gn_drop h0
  rw [List.drop_zero] at this
  conv => lhs; rw [this]
  rfl
theorem Rg.join {g : Int} {L : List Int} {pre : List I2} {k : Nat} {r1 r2 : Int} (hu : Up L) (hk : k < L.length) (hl : (pre ++ [(r1, r2)]).length ≤ k) (ht : tkb (gn L k) = true) (hle : ∀ y ∈ L.drop k, r2 ≤ y) (he : mrg g (L.map mo) = pre ++ mg g (r1, r2) ((L.drop k).map mo)) (hj : gn L k - r2 ≤ g) : Rg g L (k + 1) (pre ++ [(r1, gn L k)]) := by
  refine ⟨by simp only [List.length_append, List.length_cons, List.length_nil] at *; omega, fun h => absurd h (by omega), fun _ => ⟨pre, _, rfl, ht, up_drop hu hk, ?_⟩⟩
  have hr : r2 ≤ gn L k := hle _ (by rw [gn_drop hk]; simp)
  rw [he, gn_drop hk, List.map_cons, mg_join (by exact hj)]
  congr 2
  simp only [mo]
  rw [show max r2 (gn L k) = gn L k by omega]
theorem Rg.part {g : Int} {L : List Int} {pre : List I2} {k : Nat} {r : I2} (hu : Up L) (hk : k < L.length) (hl : (pre ++ [r]).length ≤ k) (ht : tkb (gn L k) = true) (he : mrg g (L.map mo) = pre ++ mg g r ((L.drop k).map mo)) (hj : ¬ gn L k - r.2 ≤ g) : Rg g L (k + 1) ((pre ++ [r]) ++ [(gn L k, gn L k)]) := by
  refine ⟨by simp only [List.length_append, List.length_cons, List.length_nil] at *; omega, fun h => absurd h (by omega), fun _ => ⟨pre ++ [r], _, rfl, ht, up_drop hu hk, ?_⟩⟩
  rw [he, gn_drop hk, List.map_cons, mg_part (by exact hj), List.append_assoc]
  rfl
theorem Rg.done {g : Int} {L : List Int} {out : List I2} (h : Rg g L L.length out) : out = mrg g (L.map mo) := by
  by_cases h0 : L.length = 0
  · rw [h.nil h0, List.eq_nil_of_length_eq_zero h0]
    rfl
  · obtain ⟨pre, r, e, _, _, he⟩ := h.run h0
    rw [he, List.drop_length, List.map_nil, mg_nil, e]

set_option maxRecDepth 100000 in
set_option maxHeartbeats 2000000 in
theorem rsessions_any (a : Option Addr) (n cap : Nat) (l : List Int) (g : Int) (w : World) (hS : Sn w a n cap l) (hlim : n < 5000000000000) :
    Calls Try.prog 26 #[.slice a n cap, .int .i64 g] w (Mk (ses g 1099511627776 l) w) := by
  have TC := rtick_any g
  have SC := Lib.hid (rsorted_any a n cap l w hS (by omega))
  have hn := hS.hn
  have hL : (srt (l.filter tkb)).length < 5000000000000 := by
    rw [(srt_perm _).length_eq]
    exact Nat.lt_of_le_of_lt (List.length_filter_le _ _) (by omega)
  clear hS hn
  by_cases hg1 : g < 1
  · have hs : ses g 1099511627776 l = [] := by unfold ses; rw [if_neg (by omega)]
    rw [hs]
    have q1 : decide (g < 1) = true := decide_eq_true hg1
    clear TC SC hL hg1
    go_enter Try.func26, Try.ntmps26
    go_wp2_with fail
    go_ret
    exact ⟨_, rfl, Own.nil _ _, b0 w⟩
  have q1 : decide (g < 1) = false := decide_eq_false hg1
  by_cases hg2 : 1099511627776 < g
  · have hs : ses g 1099511627776 l = [] := by unfold ses; rw [if_neg (by omega)]
    rw [hs]
    have e : (decide (0 ≤ g) && decide (g ≤ 1099511627776)) = false := by rw [Bool.eq_false_iff]; intro h; simp at h; omega
    rw [e] at TC
    replace TC := Lib.hid TC
    clear SC hL hg1 hg2 e
    go_enter Try.func26, Try.ntmps26
    go_wp2_with fail
    refine (TC.out _).mono ?_
    rintro e w1 ⟨rfl, rfl⟩
    go_wp2_with fail
    go_ret
    exact ⟨_, rfl, Own.nil _ _, b0 _⟩
  have e : (decide (0 ≤ g) && decide (g ≤ 1099511627776)) = true := by simp; omega
  rw [e] at TC
  replace TC := Lib.hid TC
  have hs : ses g 1099511627776 l = mrg g ((srt (l.filter tkb)).map mo) := by unfold ses; rw [if_pos ⟨by omega, by omega⟩]; rfl
  rw [hs]
  have hu := Lib.hid (srt_up (l.filter tkb))
  have hT : Hid (∀ j, j < (srt (l.filter tkb)).length → tkb (gn (srt (l.filter tkb)) j) = true) := fun j hj => (List.mem_filter.1 (mem_srt.1 (gn_mem hj))).2
  generalize srt (l.filter tkb) = L at *
  have hg9 : 1 ≤ g ∧ g ≤ 1099511627776 := by omega
  clear hs e hg1 hg2
  go_enter Try.func26, Try.ntmps26
  go_wp2_with fail
  refine (TC.out _).mono ?_
  rintro e w1 ⟨rfl, rfl⟩
  clear TC q1
  go_wp2_with fail
  refine SC.out.mono ?_
  rintro e w1 ⟨v, rfl, O, hb⟩
  replace hb := Lib.hid hb
  obtain ⟨sa, caps, rfl, SS⟩ := O.sn
  obtain ⟨ns, hns⟩ : ∃ ns, L.length = ns := ⟨_, rfl⟩
  rw [hns] at SS hL ⊢
  have hcs := SS.hcap
  have hms := SS.hmax
  replace SS := Lib.hid SS
  replace hns := Lib.hid hns
  clear SC O
  go_wp2_with fail
  go_loopw [6, 7] (fun v i wr => ∃ (j : Nat) (out : List I2), i = .int .i64 (j : Int) ∧ Hid (j ≤ ns) ∧ Hid (Rg g L j out) ∧ Hid (Own wr w1.heap.size v out) ∧ Hid (Below w1.heap.size w1 wr)) (fun _ i _ => ns - (intOf i).toNat)
  case atStart => exact ⟨0, [], rfl, Nat.zero_le _, Rg.start g L, Own.nil _ _, b0 w1⟩
  case round =>
    obtain ⟨j, out, rfl, hj, hR, hO, hb2⟩ := hrel
    by_cases hlt2 : j < ns
    · have q3 : decide ((j : Int) < (ns : Int)) = true := decide_eq_true (by omega)
      obtain ⟨bs, offs, rfl, hC⟩ := (SS.out.keeps hb2.out).hat.resolve_left (by have := hns.out; omega)
      have e0 := hC j (by have := hns.out; omega)
      have hx := hT.out j (by have := hns.out; omega)
      have D0 := SS.out.hat.resolve_left (by have := hns.out; omega)
      obtain ⟨_, _, hee, hC2⟩ := D0
      cases hee
      have D0 := Lib.hid (hC2 j (by have := hns.out; omega))
      clear hC hC2
      by_cases hj0 : j = 0
      · subst hj0
        have ho := hR.out.nil rfl
        subst ho
        have hR2 := Lib.hid (Rg.first (g := g) hu.out (by have := hns.out; omega) hx)
        generalize gn L 0 = x at *
        simp only [Nat.add_zero] at e0
        replace D0 := Lib.hid (show w1.cell? ⟨bs, offs, none⟩ = some (.int .i64 x) from D0.out)
        obtain ⟨ao, capo, rfl, SO⟩ := hO.out.sl
        have hco := SO.hcap
        have hmo := SO.hmax
        clear SO hx
        go_wp2_with fail
        have E0 := cell_regrown e0
        refine wp_region_quiet_below (by kernel_rfl) (by kernel_rfl) ?_
        repeat (first | go_big_quiet_skip | (go_big_quiet_want; go_big_quiet_op; go_big_quiet_on))
        refine wpQuiet_nil ?_
        intro w9 hw9
        have d := below_of hw9
        replace e0 := keeps d e0
        replace hO := Lib.hid (hO.out.keeps d)
        replace hb2 := Lib.hid (bnext hb2.out d)
        clear d hw9 E0
        go_wp2_with fail
        refine wp_region_noPanic ?_
        refine wp_region_held_drew (S := fun w' => Below w1.heap.size w1 w') (by kernel_rfl) hb2.out.drew (fun hH => ?_)
        refine held_take (i := 0) (d := 52) (v := ?_) rfl (by kernel_rfl) (by kernel_rfl) (by kernel_rfl) rfl (fun _ _ _ h => h) rfl hH (fun w' hS => ?_) ?_
        rotate_left
        · clear hS; go_simp; first | done | with_reducible rfl
        simp only [List.set_cons_zero, List.set_cons_succ]
        refine held_take (i := 1) (d := 53) (v := ?_) rfl (by kernel_rfl) (by kernel_rfl) (by kernel_rfl) rfl (fun _ _ _ h => h) rfl hH (fun w' hS => ?_) ?_
        rotate_left
        · clear hS; go_simp; first | done | with_reducible rfl
        simp only [List.set_cons_zero, List.set_cons_succ]
        refine held_take (i := 2) (d := 54) (v := ?_) rfl (by kernel_rfl) (by kernel_rfl) (by kernel_rfl) rfl (fun _ _ _ h => h) rfl hH (fun w' hS => ?_) ?_
        rotate_left
        · clear hS; go_simp; first | done | with_reducible rfl
        simp only [List.set_cons_zero, List.set_cons_succ]
        refine held_take (i := 3) (d := 55) (v := ?_) rfl (by kernel_rfl) (by kernel_rfl) (by kernel_rfl) rfl (fun _ _ _ h => h) rfl hH (fun w' hS => ?_) ?_
        rotate_left
        · have k0 := keeps hS D0.out; clear hS; go_simp; first | done | with_reducible rfl
        simp only [List.set_cons_zero, List.set_cons_succ]
        refine held_take (i := 4) (d := 56) (v := ?_) rfl (by kernel_rfl) (by kernel_rfl) (by kernel_rfl) rfl (fun _ _ _ h => h) rfl hH (fun w' hS => ?_) ?_
        rotate_left
        · have k0 := keeps hS D0.out; clear hS; go_simp; first | done | with_reducible rfl
        simp only [List.set_cons_zero, List.set_cons_succ]
        refine held_take (i := 5) (d := 57) (v := ?_) rfl (by kernel_rfl) (by kernel_rfl) (by kernel_rfl) rfl (fun _ _ _ h => h) rfl hH (fun w' hS => ?_) ?_
        rotate_left
        · clear hS; go_simp; first | done | with_reducible rfl
        simp only [List.set_cons_zero, List.set_cons_succ]
        refine held_take (i := 6) (d := 58) (v := ?_) rfl (by kernel_rfl) (by kernel_rfl) (by kernel_rfl) rfl (fun _ _ _ h => h) rfl hH (fun w' hS => ?_) ?_
        rotate_left
        · clear hS; go_simp; first | done | with_reducible rfl
        simp only [List.set_cons_zero, List.set_cons_succ]
        refine held_take (i := 7) (d := 59) (v := ?_) rfl (by kernel_rfl) (by kernel_rfl) (by kernel_rfl) rfl (fun _ _ _ h => h) rfl hH (fun w' hS => ?_) ?_
        rotate_left
        · have k0 := keeps hS D0.out; clear hS; go_simp; first | done | with_reducible rfl
        simp only [List.set_cons_zero, List.set_cons_succ]
        refine held_take (i := 8) (d := 60) (v := ?_) rfl (by kernel_rfl) (by kernel_rfl) (by kernel_rfl) rfl (fun _ _ _ h => h) rfl hH (fun w' hS => ?_) ?_
        rotate_left
        · have k0 := keeps hS D0.out; clear hS; go_simp; first | done | with_reducible rfl
        simp only [List.set_cons_zero, List.set_cons_succ]
        refine held_take (i := 9) (d := 61) (v := ?_) rfl (by kernel_rfl) (by kernel_rfl) (by kernel_rfl) rfl (fun _ _ _ h => h) rfl hH (fun w' hS => ?_) ?_
        rotate_left
        · clear hS; go_simp; first | done | with_reducible rfl
        simp only [List.set_cons_zero, List.set_cons_succ]
        replace hO := Lib.hid (hO.out.keeps (b0 w9).drew)
        generalize w9.drew = z0 at *
        refine held_only (i := 10) rfl (by kernel_rfl) rfl (fun K hK => ?_)
        go_simp
        refine take_world (fun z1 hw => ?_)
        have bb : Below z0.heap.size z0 z1 := hw ▸ balloc (b0 z0) _
        have B5 : Bw z1 z0.heap.size x x := hw ▸ Bw.new z0 x x _
        replace hO := Lib.hid (hO.out.keeps bb)
        refine hK.out _ _ (bnext hH bb) (fun hH => ?_)
        clear hK K hw bb
        generalize z0.heap.size = g5 at *
        refine held_only (i := 11) rfl (by kernel_rfl) rfl (fun K hK => ?_)
        refine wp_cat 63 rfl (.tmp 52) (.tmp 62) rfl w1.heap.size _ [] rfl hO.out (some ⟨g5, 0, none⟩) 1 1 [(x, x)] rfl B5.sl (by simp only [List.length_nil]; omega) hH.size ?_
        intro v2 z2 O2 hg
        refine hK.out _ _ (hH.trans (own_below hO.out hg hH.size)) (fun hH => ?_)
        clear hK K hg
        simp only [List.set_cons_zero, List.set_cons_succ]
        refine held_take (i := 12) (d := 6) (v := ?_) rfl (by kernel_rfl) (by kernel_rfl) (by kernel_rfl) rfl (fun _ _ _ h => h) rfl hH (fun w' hS => ?_) ?_
        rotate_left
        · clear hS; go_simp; first | done | with_reducible rfl
        simp only [List.set_cons_zero, List.set_cons_succ]
        refine wpAnyH_done (by kernel_rfl) ?_ _
        refine noPanic_of ?_
        go_wp2_with fail
        go_roundw
        case rel => exact ⟨1, _, rfl, hlt2, hR2.out, O2, hH⟩
        case measure => simp only [intOf]; omega
      · obtain ⟨pre, r, rfl, hr, hle, he⟩ := hR.out.run hj0
        have hlen := hR.out.len
        obtain ⟨r1, r2⟩ := r
        obtain ⟨m, hm⟩ : ∃ m, pre.length = m := ⟨_, rfl⟩
        have hm1 : (pre ++ [(r1, r2)]).length = m + 1 := by simp [hm]
        have hjoin := Lib.hid (fun h => Rg.join (g := g) hu.out (by have := hns.out; omega) hlen hx hle he h)
        have hpart := Lib.hid (fun h => Rg.part (g := g) (r := (r1, r2)) hu.out (by have := hns.out; omega) hlen hx he h)
        have hgr : Hid (gt (pre ++ [(r1, r2)]) m = (r1, r2)) := by
          unfold Hid
          rw [gt_eq (by omega)]
          subst hm
          simp
        rcases hO.out.out with ⟨_, h0⟩ | ⟨g1, capo, rfl, hbg, hgs, hco, hmo, hCl, hfz⟩
        · simp at h0
        obtain ⟨c0, c1⟩ := hCl m (by omega)
        obtain ⟨z0, z1⟩ := hfz m (by omega)
        rw [hgr.out] at c0 c1
        rw [hm1] at hco hlen hO ⊢
        generalize gn L j = x at *
        simp only [Nat.zero_add] at e0 c0 c1 hjoin hpart
        simp only [tkb, Bool.and_eq_true, decide_eq_true_eq] at hr hx
        obtain ⟨hr1, hr2⟩ := hr
        obtain ⟨hx1, hx2⟩ := hx
        have hm9 : m < 6000000000000 := by omega
        clear hCl hfz hgr he hle
        have E0 := cell_regrown e0
        have C1 := cell_regrown c1
        by_cases hjn : x - r2 ≤ g
        · have q4 : decide (x - r2 ≤ g) = true := decide_eq_true hjn
          have hR2 := Lib.hid (hjoin.out hjn)
          clear hjoin hpart hjn hR
          go_wp2_with fail
          refine wp_region_quiet_below (by kernel_rfl) (by kernel_rfl) ?_
          repeat (first | go_big_quiet_skip | (go_big_quiet_want; go_big_quiet_op; go_big_quiet_on))
          refine wpQuiet_nil ?_
          intro w9 hw9
          have d := below_of hw9
          replace e0 := keeps d e0
          replace c0 := keeps d c0
          replace c1 := keeps d c1
          replace z1 := (d.frozen (p := ⟨g1, m * 2 + 1, none⟩) hgs).trans z1
          replace hO := Lib.hid (hO.out.keeps d)
          replace hb2 := Lib.hid (bnext hb2.out d)
          clear d hw9 E0 C1 z0
          go_wp2_with fail
          refine ⟨⟨j + 1, _, rfl, hlt2, hR2.out, Own.set hm hO.out x, Below.setCell (p := ⟨g1, m * 2 + 1, none⟩) hb2.out hbg _⟩, ?_⟩
          simp only [intOf]
          omega
        · have q4 : decide (x - r2 ≤ g) = false := decide_eq_false hjn
          have hR2 := Lib.hid (hpart.out hjn)
          clear hjoin hpart hjn hR
          go_wp2_with fail
          refine wp_region_quiet_below (by kernel_rfl) (by kernel_rfl) ?_
          repeat (first | go_big_quiet_skip | (go_big_quiet_want; go_big_quiet_op; go_big_quiet_on))
          refine wpQuiet_nil ?_
          intro w9 hw9
          have d := below_of hw9
          replace e0 := keeps d e0
          replace c0 := keeps d c0
          replace c1 := keeps d c1
          replace z1 := (d.frozen (p := ⟨g1, m * 2 + 1, none⟩) hgs).trans z1
          replace hO := Lib.hid (hO.out.keeps d)
          replace hb2 := Lib.hid (bnext hb2.out d)
          clear d hw9 E0 C1 z0
          clear q4 c0 c1 z1 hx1 hx2 hr1 hr2
          go_wp2_with fail
          refine wp_region_noPanic ?_
          refine wp_region_held_drew (S := fun w' => Below w1.heap.size w1 w') (by kernel_rfl) hb2.out.drew (fun hH => ?_)
          refine held_take (i := 0) (d := 52) (v := ?_) rfl (by kernel_rfl) (by kernel_rfl) (by kernel_rfl) rfl (fun _ _ _ h => h) rfl hH (fun w' hS => ?_) ?_
          rotate_left
          · clear hS; go_simp; first | done | with_reducible rfl
          simp only [List.set_cons_zero, List.set_cons_succ]
          refine held_take (i := 1) (d := 53) (v := ?_) rfl (by kernel_rfl) (by kernel_rfl) (by kernel_rfl) rfl (fun _ _ _ h => h) rfl hH (fun w' hS => ?_) ?_
          rotate_left
          · clear hS; go_simp; first | done | with_reducible rfl
          simp only [List.set_cons_zero, List.set_cons_succ]
          refine held_take (i := 2) (d := 54) (v := ?_) rfl (by kernel_rfl) (by kernel_rfl) (by kernel_rfl) rfl (fun _ _ _ h => h) rfl hH (fun w' hS => ?_) ?_
          rotate_left
          · clear hS; go_simp; first | done | with_reducible rfl
          simp only [List.set_cons_zero, List.set_cons_succ]
          refine held_take (i := 3) (d := 55) (v := ?_) rfl (by kernel_rfl) (by kernel_rfl) (by kernel_rfl) rfl (fun _ _ _ h => h) rfl hH (fun w' hS => ?_) ?_
          rotate_left
          · have k0 := keeps hS D0.out; clear hS; go_simp; first | done | with_reducible rfl
          simp only [List.set_cons_zero, List.set_cons_succ]
          refine held_take (i := 4) (d := 56) (v := ?_) rfl (by kernel_rfl) (by kernel_rfl) (by kernel_rfl) rfl (fun _ _ _ h => h) rfl hH (fun w' hS => ?_) ?_
          rotate_left
          · have k0 := keeps hS D0.out; clear hS; go_simp; first | done | with_reducible rfl
          simp only [List.set_cons_zero, List.set_cons_succ]
          refine held_take (i := 5) (d := 57) (v := ?_) rfl (by kernel_rfl) (by kernel_rfl) (by kernel_rfl) rfl (fun _ _ _ h => h) rfl hH (fun w' hS => ?_) ?_
          rotate_left
          · clear hS; go_simp; first | done | with_reducible rfl
          simp only [List.set_cons_zero, List.set_cons_succ]
          refine held_take (i := 6) (d := 58) (v := ?_) rfl (by kernel_rfl) (by kernel_rfl) (by kernel_rfl) rfl (fun _ _ _ h => h) rfl hH (fun w' hS => ?_) ?_
          rotate_left
          · clear hS; go_simp; first | done | with_reducible rfl
          simp only [List.set_cons_zero, List.set_cons_succ]
          refine held_take (i := 7) (d := 59) (v := ?_) rfl (by kernel_rfl) (by kernel_rfl) (by kernel_rfl) rfl (fun _ _ _ h => h) rfl hH (fun w' hS => ?_) ?_
          rotate_left
          · have k0 := keeps hS D0.out; clear hS; go_simp; first | done | with_reducible rfl
          simp only [List.set_cons_zero, List.set_cons_succ]
          refine held_take (i := 8) (d := 60) (v := ?_) rfl (by kernel_rfl) (by kernel_rfl) (by kernel_rfl) rfl (fun _ _ _ h => h) rfl hH (fun w' hS => ?_) ?_
          rotate_left
          · have k0 := keeps hS D0.out; clear hS; go_simp; first | done | with_reducible rfl
          simp only [List.set_cons_zero, List.set_cons_succ]
          refine held_take (i := 9) (d := 61) (v := ?_) rfl (by kernel_rfl) (by kernel_rfl) (by kernel_rfl) rfl (fun _ _ _ h => h) rfl hH (fun w' hS => ?_) ?_
          rotate_left
          · clear hS; go_simp; first | done | with_reducible rfl
          simp only [List.set_cons_zero, List.set_cons_succ]
          replace hO := Lib.hid (hO.out.keeps (b0 w9).drew)
          generalize w9.drew = z0 at *
          refine held_only (i := 10) rfl (by kernel_rfl) rfl (fun K hK => ?_)
          go_simp
          refine take_world (fun z1 hw => ?_)
          have bb : Below z0.heap.size z0 z1 := hw ▸ balloc (b0 z0) _
          have B5 : Bw z1 z0.heap.size x x := hw ▸ Bw.new z0 x x _
          replace hO := Lib.hid (hO.out.keeps bb)
          refine hK.out _ _ (bnext hH bb) (fun hH => ?_)
          clear hK K hw bb
          generalize z0.heap.size = g5 at *
          refine held_only (i := 11) rfl (by kernel_rfl) rfl (fun K hK => ?_)
          refine wp_cat 63 rfl (.tmp 52) (.tmp 62) rfl w1.heap.size _ (pre ++ [(r1, r2)]) rfl hO.out (some ⟨g5, 0, none⟩) 1 1 [(x, x)] rfl B5.sl (by rw [hm1]; omega) hH.size ?_
          intro v2 z2 O2 hg
          refine hK.out _ _ (hH.trans (own_below hO.out hg hH.size)) (fun hH => ?_)
          clear hK K hg
          simp only [List.set_cons_zero, List.set_cons_succ]
          refine held_take (i := 12) (d := 6) (v := ?_) rfl (by kernel_rfl) (by kernel_rfl) (by kernel_rfl) rfl (fun _ _ _ h => h) rfl hH (fun w' hS => ?_) ?_
          rotate_left
          · clear hS; go_simp; first | done | with_reducible rfl
          simp only [List.set_cons_zero, List.set_cons_succ]
          refine wpAnyH_done (by kernel_rfl) ?_ _
          refine noPanic_of ?_
          go_wp2_with fail
          go_roundw
          case rel => exact ⟨j + 1, _, rfl, hlt2, hR2.out, O2, hH⟩
          case measure => simp only [intOf]; omega
    · have q3 : decide ((j : Int) < (ns : Int)) = false := decide_eq_false (by omega)
      obtain rfl : j = ns := by have := hj.out; omega
      have hfin := hR.out
      rw [← hns.out] at hfin
      obtain rfl := hfin.done
      obtain ⟨ao, capo, rfl, SO⟩ := hO.out.sl
      clear SO
      go_wp2_with fail
      go_ret
      exact ⟨_, rfl, hO.out.less hb.out.size, bnext hb.out hb2.out⟩
end Go.Proofs.Ytdhdofgdeljajaa
