/-
  The reference's Union.
-/
import Derived.Test.YtdhdofgdeljajaaPut
import Derived.Test.YtdhdofgdeljajaaUni
import Derived.BigRegion
namespace Go.Proofs.Ytdhdofgdeljajaa
open Go.RowKit

theorem cs_set (r1 r2 r : Int) : ∀ pre : List I2, (cs (pre ++ [(r1, r2)])).set (pre.length * 2 + 1) (.int .i64 r) = cs (pre ++ [(r1, r)])
  | [] => rfl
  | x :: pre => by
    have := cs_set r1 r2 r pre
    rw [show (x :: pre).length * 2 + 1 = pre.length * 2 + 1 + 1 + 1 by simp only [List.length_cons]; omega]
    simp only [List.cons_append, cs, List.set_cons_succ, this]
theorem Own.set {w : World} {base g m cap : Nat} {pre : List I2} {r1 r2 : Int} (hm : pre.length = m) (h : Own w base (.slice (some ⟨g, 0, none⟩) (m + 1) cap) (pre ++ [(r1, r2)])) (r : Int) :
    Own (w.setCell ⟨g, m * 2 + 1, none⟩ (.int .i64 r)) base (.slice (some ⟨g, 0, none⟩) (m + 1) cap) (pre ++ [(r1, r)]) := by
  subst hm
  unfold Own at *
  have e : ∀ x : I2, (pre ++ [x]).length = pre.length + 1 := fun x => by simp
  rw [e] at *
  have h1 := (World.ownsRow.stored h (pre.length * 2 + 1) (.int .i64 r)).1
  rwa [cs_set] at h1
/-- Where the loop stands. -/
structure Rm (s : List I2) (k : Nat) (out : List I2) : Prop where
  len : out.length ≤ k
  nil : k = 0 → out = []
  run : k ≠ 0 → ∃ pre r, out = pre ++ [r] ∧ Ok r ∧ mrg 1 s = pre ++ mg 1 r (s.drop k)
theorem Rm.start (s : List I2) : Rm s 0 [] := ⟨Nat.le_refl _, fun _ => rfl, fun h => absurd rfl h⟩
theorem Rm.first {s : List I2} (h0 : 0 < s.length) (hok : Ok (gt s 0)) : Rm s 1 ([] ++ [gt s 0]) := by
  refine ⟨by simp, fun h => absurd h (by decide), fun _ => ⟨[], gt s 0, rfl, hok, ?_⟩⟩
  have := drop_gt h0
  rw [List.drop_zero] at this
  conv => lhs; rw [this]
  rfl
theorem Rm.join {s pre : List I2} {k : Nat} {r : I2} (hk : k < s.length) (hl : (pre ++ [r]).length ≤ k) (he : mrg 1 s = pre ++ mg 1 r (s.drop k)) (hr : Ok r) (hx : Ok (gt s k)) (hj : (gt s k).1 ≤ r.2 + 1) : Rm s (k + 1) (pre ++ [(r.1, max r.2 (gt s k).2)]) := by
  obtain ⟨a, b, c⟩ := hr
  obtain ⟨a', b', c'⟩ := hx
  refine ⟨by simp only [List.length_append, List.length_cons, List.length_nil] at *; omega, fun h => absurd h (by omega), fun _ => ⟨pre, _, rfl, ⟨a, by simp only; omega, by simp only; omega⟩, ?_⟩⟩
  rw [he, drop_gt hk, mg_join (by omega)]
theorem Rm.part {s pre : List I2} {k : Nat} {r : I2} (hk : k < s.length) (hl : (pre ++ [r]).length ≤ k) (he : mrg 1 s = pre ++ mg 1 r (s.drop k)) (hx : Ok (gt s k)) (hj : ¬ (gt s k).1 ≤ r.2 + 1) : Rm s (k + 1) ((pre ++ [r]) ++ [gt s k]) := by
  refine ⟨by simp only [List.length_append, List.length_cons, List.length_nil] at *; omega, fun h => absurd h (by omega), fun _ => ⟨pre ++ [r], _, rfl, hx, ?_⟩⟩
  rw [he, drop_gt hk, mg_part (by omega), List.append_assoc]
  rfl
theorem Rm.done {s out : List I2} (h : Rm s s.length out) : out = mrg 1 s := by
  by_cases h0 : s.length = 0
  · rw [h.nil h0, List.eq_nil_of_length_eq_zero h0]
    rfl
  · obtain ⟨pre, r, e, _, he⟩ := h.run h0
    rw [he, List.drop_length, mg_nil, e]

set_option maxRecDepth 100000 in
set_option maxHeartbeats 2000000 in
theorem runion_any (a : Option Addr) (n cap : Nat) (l : List I2) (w : World) (hS : Sl w a n cap l) (hlim : n < 6000000000000) :
    Calls Try.prog 19 #[.slice a n cap] w fun e w' => ∃ v u, e = .returned v ∧ Un l u ∧ Own w' w.heap.size v u ∧ Below w.heap.size w w' := by
  have hn := Lib.hid hS.hn
  have hcap := hS.hcap
  have hmax := hS.hmax
  have S1 := Lib.hid hS
  clear hS
  go_enter Try.func19, Try.ntmps19
  go_wp2_with fail
  go_loopw [3, 4] (fun v i wr => ∃ (k : Nat) (s : List I2), i = .int .i64 (k : Int) ∧ Hid (k ≤ n) ∧ Hid (s.Perm ((l.take k).filter okI)) ∧ Hid (Asc s) ∧ Hid (Own wr w.heap.size v s) ∧ Hid (Below w.heap.size w wr)) (fun _ i _ => n - (intOf i).toNat)
  case atStart => exact ⟨0, [], rfl, Nat.zero_le _, by simp [Hid], by simp [Hid, Asc], Own.nil _ _, b0 w⟩
  case round =>
    obtain ⟨k, s, rfl, hk, hp, ha, hO, hb⟩ := hrel
    have hsl : Hid (s.length ≤ n) := by
      have h1 := hp.out.length_eq
      have h2 := List.length_filter_le okI (l.take k)
      rw [List.length_take] at h2
      have := hn.out
      unfold Hid
      omega
    by_cases hlt : k < n
    · have q1 : decide ((k : Int) < (n : Int)) = true := decide_eq_true (by omega)
      obtain ⟨bk, off, rfl, hC⟩ := (S1.out.keeps hb.out).hat.resolve_left (by have := hn.out; omega)
      obtain ⟨e0, e1⟩ := hC k (by have := hn.out; omega)
      have hf := Lib.hid (filter_take (l := l) (k := k) (by have := hn.out; omega))
      generalize gt l k = x at *
      obtain ⟨x1, x2⟩ := x
      simp only at e0 e1
      have VC := Lib.hid (rvalid_any x1 x2)
      generalize okI (x1, x2) = o at *
      clear hC
      go_wp2_with fail
      refine (VC.out _).mono ?_
      rintro e w2 ⟨rfl, d⟩
      replace e0 := keeps d e0
      replace e1 := keeps d e1
      replace hO := Lib.hid (hO.out.keeps d)
      replace hb := Lib.hid (bnext hb.out d)
      clear d VC
      cases o
      · have hp2 : Hid (s.Perm ((l.take (k + 1)).filter okI)) := by unfold Hid; rw [hf.out]; simpa using hp.out
        clear e0 e1 hf
        go_wp2_with fail
        go_roundw
        case rel => exact ⟨k + 1, s, rfl, hlt, hp2.out, ha.out, hO.out, hb.out⟩
        case measure => simp only [intOf]; omega
      · obtain ⟨sa, caps, rfl, SS⟩ := hO.out.sl
        obtain ⟨ns, hns⟩ : ∃ ns, s.length = ns := ⟨_, rfl⟩
        rw [hns] at SS ⊢
        have hcs := SS.hcap
        have hms := SS.hmax
        have PC := Lib.hid (put_any sa ns caps s x1 x2 w2 SS ha.out (by have := hsl.out; omega))
        clear SS
        go_wp2_with fail
        refine PC.out.mono ?_
        rintro e w3 ⟨v, s', rfl, hp', ha', O', d⟩
        have hp2 : Hid (s'.Perm ((l.take (k + 1)).filter okI)) := by
          unfold Hid
          rw [hf.out]
          simp only [if_true]
          exact (hp'.trans (hp.out.cons _)).trans (List.perm_append_singleton _ _).symm
        replace O' := Lib.hid (O'.less hb.out.size)
        replace hb := Lib.hid (bnext hb.out d)
        replace ha' := Lib.hid ha'
        clear d PC e0 e1 hf hp'
        go_wp2_with fail
        go_roundw
        case rel => exact ⟨k + 1, s', rfl, hlt, hp2.out, ha'.out, O'.out, hb.out⟩
        case measure => simp only [intOf]; omega
    · have q1 : decide ((k : Int) < (n : Int)) = false := decide_eq_false (by omega)
      have hall : Hid (l.take k = l) := List.take_of_length_le (by have := hn.out; omega)
      rw [hall.out] at hp
      have hUn := Lib.hid (un_mrg hp.out ha.out)
      have hOk : Hid (∀ j, j < s.length → Ok (gt s j)) := fun j hj => (okI_iff _).1 (List.mem_filter.1 (hp.out.mem_iff.1 (gt_mem hj))).2
      obtain ⟨sa, caps, rfl, SS⟩ := hO.out.sl
      obtain ⟨ns, hns⟩ : ∃ ns, s.length = ns := ⟨_, rfl⟩
      rw [hns] at SS hsl ⊢
      have hcs := SS.hcap
      have hms := SS.hmax
      replace SS := Lib.hid SS
      replace hns := Lib.hid hns
      clear hall hp ha hO
      generalize wr = w1 at *
      go_wp2_with fail
      go_loopw [5, 6] (fun v i wr => ∃ (j : Nat) (out : List I2), i = .int .i64 (j : Int) ∧ Hid (j ≤ ns) ∧ Hid (Rm s j out) ∧ Hid (Own wr w1.heap.size v out) ∧ Hid (Below w1.heap.size w1 wr)) (fun _ i _ => ns - (intOf i).toNat)
      case atStart => exact ⟨0, [], rfl, Nat.zero_le _, Rm.start s, Own.nil _ _, b0 w1⟩
      case round =>
        obtain ⟨j, out, rfl, hj, hR, hO, hb2⟩ := hrel
        by_cases hlt2 : j < ns
        · have q3 : decide ((j : Int) < (ns : Int)) = true := decide_eq_true (by omega)
          obtain ⟨bs, offs, rfl, hC⟩ := (SS.out.keeps hb2.out).hat.resolve_left (by have := hns.out; omega)
          obtain ⟨e0, e1⟩ := hC j (by have := hns.out; omega)
          have hx := Lib.hid (hOk.out j (by have := hns.out; omega))
          clear hC
          by_cases hj0 : j = 0
          · subst hj0
            have ho := hR.out.nil rfl
            subst ho
            have hR2 := Lib.hid (Rm.first (s := s) (by have := hns.out; omega) hx.out)
            generalize gt s 0 = x at *
            obtain ⟨x1, x2⟩ := x
            simp only [Nat.zero_mul, Nat.add_zero] at e0 e1
            obtain ⟨ao, capo, rfl, SO⟩ := hO.out.sl
            have hco := SO.hcap
            have hmo := SO.hmax
            clear SO
            go_wp2_with fail
            have E0 := cell_regrown e0
            refine wp_region_quiet_below (by kernel_rfl) (by kernel_rfl) ?_
            repeat (first | go_big_quiet_skip | (go_big_quiet_want; go_big_quiet_op; go_big_quiet_on))
            refine wpQuiet_nil ?_
            intro w9 hw9
            have d := below_of hw9
            replace e0 := keeps d e0
            replace e1 := keeps d e1
            replace hO := Lib.hid (hO.out.keeps d)
            replace hb2 := Lib.hid (bnext hb2.out d)
            clear d hw9 E0
            go_wp2_with (at_builtin; refine is_app (.tmp 67) (.tmp 72) rfl ?_; refine wpList_push _ rfl (.tmp 67) (.tmp 72) rfl w1.heap.size _ _ rfl (hO.out.keeps (balloc (b0 _) _)) w9.heap.size x1 x2 rfl (Bw.new w9 x1 x2 23) (by simp) (balloc hb2.out _).size ?_; intro v2 w4 O2 b2)
            refine ⟨⟨1, _, rfl, hlt2, hR2.out, O2, (balloc hb2.out _).trans b2⟩, ?_⟩
            simp only [intOf]
            omega
          · obtain ⟨pre, r, rfl, hr, he⟩ := hR.out.run hj0
            have hlen := hR.out.len
            obtain ⟨m, hm⟩ : ∃ m, pre.length = m := ⟨_, rfl⟩
            have hm1 : (pre ++ [r]).length = m + 1 := by simp [hm]
            have hjoin := Lib.hid (fun h => Rm.join (s := s) (by have := hns.out; omega) hlen he hr hx.out h)
            have hpart := Lib.hid (fun h => Rm.part (s := s) (r := r) (by have := hns.out; omega) hlen he hx.out h)
            have hgr : Hid (gt (pre ++ [r]) m = r) := by
              unfold Hid
              rw [gt_eq (by omega)]
              subst hm
              simp
            rcases hO.out.out with ⟨_, h0⟩ | ⟨g, capo, rfl, hbg, hgs, hco, hmo, hCl, hfz⟩
            · simp at h0
            obtain ⟨c0, c1⟩ := hCl m (by omega)
            obtain ⟨z0, z1⟩ := hfz m (by omega)
            rw [hgr.out] at c0 c1
            rw [hm1] at hco hlen hO ⊢
            generalize gt s j = x at *
            obtain ⟨x1, x2⟩ := x
            obtain ⟨r1, r2⟩ := r
            simp only [Nat.zero_add] at e0 e1 c0 c1 hjoin hpart
            obtain ⟨hr1, hr2, hr3⟩ := hr
            simp only at hr1 hr2 hr3
            have hm9 : m < 6000000000000 := by have := hsl.out; omega
            clear hCl hfz hgr he
            have E0 := cell_regrown e0
            have C1 := cell_regrown c1
            by_cases hjn : x1 ≤ r2 + 1
            · have q4 : decide (x1 ≤ r2 + 1) = true := decide_eq_true hjn
              have hR2 := Lib.hid (hjoin.out hjn)
              clear hjoin hpart hjn hR
              go_wp2_with fail
              refine wp_region_quiet_below (by kernel_rfl) (by kernel_rfl) ?_
              repeat (first | go_big_quiet_skip | (go_big_quiet_want; go_big_quiet_op; go_big_quiet_on))
              refine wpQuiet_nil ?_
              intro w9 hw9
              have d := below_of hw9
              replace e0 := keeps d e0
              replace e1 := keeps d e1
              replace c0 := keeps d c0
              replace c1 := keeps d c1
              replace z1 := (d.frozen (p := ⟨g, m * 2 + 1, none⟩) hgs).trans z1
              replace hO := Lib.hid (hO.out.keeps d)
              replace hb2 := Lib.hid (bnext hb2.out d)
              clear d hw9 E0 C1 z0
              go_wp2_with fail
              go_region
              all_goals go_wp2_with fail
              refine ⟨⟨j + 1, _, rfl, hlt2, hR2.out, (Own.set hm hO.out (max r2 x2)).keeps (b0 _).drew, (Below.setCell (p := ⟨g, m * 2 + 1, none⟩) hb2.out hbg _).drew⟩, ?_⟩
              simp only [intOf]
              omega
            · have q4 : decide (x1 ≤ r2 + 1) = false := decide_eq_false hjn
              have hR2 := Lib.hid (hpart.out hjn)
              clear hjoin hpart hjn hR
              go_wp2_with fail
              refine wp_region_quiet_below (by kernel_rfl) (by kernel_rfl) ?_
              repeat (first | go_big_quiet_skip | (go_big_quiet_want; go_big_quiet_op; go_big_quiet_on))
              refine wpQuiet_nil ?_
              intro w9 hw9
              have d := below_of hw9
              replace e0 := keeps d e0
              replace e1 := keeps d e1
              replace c0 := keeps d c0
              replace c1 := keeps d c1
              replace z1 := (d.frozen (p := ⟨g, m * 2 + 1, none⟩) hgs).trans z1
              replace hO := Lib.hid (hO.out.keeps d)
              replace hb2 := Lib.hid (bnext hb2.out d)
              clear d hw9 E0 C1 z0
              clear q4 c0 c1 z1
              go_wp2_with (at_builtin; refine is_app (.tmp 67) (.tmp 72) rfl ?_; refine wpList_push _ rfl (.tmp 67) (.tmp 72) rfl w1.heap.size _ _ rfl (hO.out.keeps (balloc (b0 _) _)) w9.heap.size x1 x2 rfl (Bw.new w9 x1 x2 23) (by omega) (balloc hb2.out _).size ?_; intro v2 w4 O2 b2)
              refine ⟨⟨j + 1, _, rfl, hlt2, hR2.out, O2, (balloc hb2.out _).trans b2⟩, ?_⟩
              simp only [intOf]
              omega
        · have q3 : decide ((j : Int) < (ns : Int)) = false := decide_eq_false (by omega)
          obtain rfl : j = ns := by have := hj.out; omega
          have hfin := hR.out
          rw [← hns.out] at hfin
          obtain rfl := hfin.done
          obtain ⟨ao, capo, rfl, SO⟩ := hO.out.sl
          clear SO
          go_wp2_with fail
          go_ret
          exact ⟨_, _, rfl, hUn.out, hO.out.less hb.out.size, bnext hb.out hb2.out⟩
end Go.Proofs.Ytdhdofgdeljajaa
