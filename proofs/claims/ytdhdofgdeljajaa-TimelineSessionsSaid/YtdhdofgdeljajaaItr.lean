/-
  The iterator that merged returns.
-/
import Derived.Test.YtdhdofgdeljajaaJn
import Derived.Test.YtdhdofgdeljajaaHel
import Derived.Deep.CutRange
import Derived.RangeFuncNested
import Derived.RangeFuncBound
import Derived.RangeFuncCalls
import Derived.RangeFuncLeaves
import Derived.RangeFuncBox
import Derived.Shelf.Abstract
import Derived.Shelf.RegionOpen
import Derived.WalkKit
import Derived.OwnWalkIn
import Derived.TacticsInMore
import Derived.LoopNIn
import Derived.LoopIn
import Derived.Maps.AppendAt
import Derived.Deep.RegionHeld3
namespace Go.Proofs.Ytdhdofgdeljajaa
open Go.RowKit Go.Shelf

/-- What the iterator reads. -/
structure It (w : World) (b1 b2 b3 : Nat) (a : Option Addr) (n cap : Nat) (l : List I2) (g : Int) : Prop where
  c1 : w.cell? ⟨b1, 0, none⟩ = some (.slice a n cap)
  c2 : w.cell? ⟨b2, 0, none⟩ = some (.func (.func 49) #[] #[.pointer (some ⟨b3, 0, none⟩)])
  c3 : w.cell? ⟨b3, 0, none⟩ = some (.int .i64 g)
  sl : Sl w a n cap l
theorem It.keeps {w w1 : World} {b1 b2 b3 : Nat} {a : Option Addr} {n cap : Nat} {l : List I2} {g : Int} (h : It w b1 b2 b3 a n cap l g) (hb : Below w.heap.size w w1) : It w1 b1 b2 b3 a n cap l g :=
  ⟨Go.Proofs.Ytdhdofgdeljajaa.keeps hb h.c1, Go.Proofs.Ytdhdofgdeljajaa.keeps hb h.c2, Go.Proofs.Ytdhdofgdeljajaa.keeps hb h.c3, h.sl.keeps hb⟩
theorem mg_all (g : Int) (r : I2) (l : List I2) (k : Nat) (h : l.length ≤ k) : mg g r (l.drop k) = r :: mrg g (l.drop k) := by
  rw [List.drop_eq_nil_of_le h]
  rfl
theorem mrg_drop {g : Int} {l : List I2} {k : Nat} (h : k < l.length) : mrg g (l.drop k) = mg g (gt l k) (l.drop (k + 1)) := by
  rw [drop_gt h]
  rfl
theorem mg_yes {g : Int} {r : I2} {l : List I2} {k : Nat} (h : k < l.length) (hj : (gt l k).1 - r.2 ≤ g) : mg g r (l.drop k) = mg g (r.1, max r.2 (gt l k).2) (l.drop (k + 1)) := by
  rw [drop_gt h, mg_join hj]
theorem mg_no {g : Int} {r : I2} {l : List I2} {k : Nat} (h : k < l.length) (hj : ¬ (gt l k).1 - r.2 ≤ g) : mg g r (l.drop k) = r :: mrg g (l.drop k) := by
  rw [drop_gt h, mg_part hj]
  rfl
theorem abides_below {β : Type} {B : Nat} {J : β → World → Prop} (h : AbidesFrom B J) {s : β} {W W' : World} (hs : J s W) (hb : Below W.heap.size W W') : J s W' :=
  h s W W' none hs ⟨hb.os, hb.tape, hb.output, hb.size, fun k hk _ => hb.block k hk⟩ (fun r e => by cases e)

set_option maxRecDepth 100000 in
set_option maxHeartbeats 2000000 in
theorem iter_in (m : Nat) (b1 b2 b3 : Nat) (a : Option Addr) (n cap : Nat) (l : List I2) (g : Int) (hok : ∀ x ∈ l, Ok x) (l0 B0 : Nat) (J Jx : List I2 → World → Prop) (hJ : AbidesFrom B0 J)
    (hY : ∀ pre x W, J pre W → pre.length < (mrg g l).length → YieldAt Fence.wide (m - 1) Try.prog l0 #[.agg #[.int .i64 x.1, .int .i64 x.2]] W fun e W' =>
      (e = .returned (.bool true) ∧ J (pre ++ [x]) W' ∧ (It W b1 b2 b3 a n cap l g → It W' b1 b2 b3 a n cap l g)) ∨ (e = .returned (.bool false) ∧ Jx (pre ++ [x]) W'))
    (W : World) (hI : It W b1 b2 b3 a n cap l g) (h0 : J [] W) :
    Calls Try.prog 48 #[.func (.yield l0) #[] #[], .pointer (some ⟨b1, 0, none⟩), .pointer (some ⟨b2, 0, none⟩)] W fun e W' => (∃ v, e = .returned v) ∧
      ((∃ ys, ys = mrg g l ∧ J ys W') ∨ (∃ pre, pre <+: mrg g l ∧ Jx pre W')) := by
  have hI1 := Lib.hid hI
  have hok1 := Lib.hid hok
  have hY1 := Lib.hid hY
  have hJ1 := Lib.hid hJ
  clear hok hY hJ hI
  go_enter Try.func48, Try.ntmps48
  go_wp2_with fail
  go_loopw [4] (fun i wr => ∃ (k : Nat) (pre : List I2), i = .int .i64 (k : Int) ∧ Hid (k ≤ n) ∧ Hid (J pre wr) ∧ Hid (mrg g l = pre ++ mrg g (l.drop k)) ∧ Hid (It wr b1 b2 b3 a n cap l g)) (fun i _ => n - (intOf i).toNat)
  case atStart => exact ⟨0, [], rfl, Nat.zero_le _, h0, by simp [Hid], hI1.out⟩
  case round =>
    obtain ⟨k, pre, rfl, hk, hJs, hpre, hb⟩ := hrel
    have hI2 := hb.out
    obtain ⟨c1, c2, c3, ⟨hat, hn, hcap, hmax, _⟩⟩ := hI2
    by_cases hlt : k < n
    · have q1 : decide ((k : Int) < (n : Int)) = true := decide_eq_true (by omega)
      obtain ⟨bk, off, rfl, hC⟩ := hat.resolve_left (by omega)
      obtain ⟨e0, e1⟩ := hC k (by omega)
      have hm := mrg_drop (g := g) (show k < l.length by omega)
      have ho := hok1.out _ (gt_mem (show k < l.length by omega))
      generalize hx : gt l k = x at *
      obtain ⟨x1, x2⟩ := x
      simp only at e0 e1
      replace hm := Lib.hid hm
      replace ho := Lib.hid ho
      replace hC := Lib.hid hC
      replace hn := Lib.hid hn
      go_wp2_with fail
      clear e0 e1 c1 c2 c3 hat
      generalize wr = V at *
      go_loopw [4] (fun i wi => ∃ (j : Nat) (r1 r2 : Int), i = .int .i64 (j : Int) ∧ Hid (j ≤ n) ∧ Hid (Below V.heap.size V wi) ∧ Hid (Bw wi V.heap.size r1 r2) ∧ Hid (Ok (r1, r2)) ∧ Hid (mg g (x1, x2) (l.drop (k + 1)) = mg g (r1, r2) (l.drop j)) ∧ Hid (k < j)) (fun i _ => n - (intOf i).toNat)
      case atStart => exact ⟨k + 1, x1, x2, rfl, hlt, balloc (b0 _) _, Bw.new _ _ _ _, ho.out, rfl, Nat.lt_succ_self k⟩
      case round =>
        obtain ⟨j, r1, r2, rfl, hj, hbi, hbw, hor, hmg, hkj⟩ := hrel
        have hI3 := hb.out.keeps hbi.out
        have hI3' := hI3
        obtain ⟨c1, c2, c3, ⟨hat3, _, _, _, _⟩⟩ := hI3'
        replace hI3 := Lib.hid hI3
        obtain ⟨r0, r1', g0, g1⟩ := hbw.out
        by_cases hjn : j < n
        · have q2 : decide ((j : Int) < (n : Int)) = true := decide_eq_true (by omega)
          obtain ⟨d0, d1⟩ := (hC.out.keeps (hbi.out)) j (by have := hn.out; omega)
          have ho2 := hok1.out _ (gt_mem (show j < l.length by have := hn.out; omega))
          have hyes := Lib.hid (fun h => mg_yes (g := g) (r := (r1, r2)) (k := j) (l := l) (by have := hn.out; omega) h)
          have hno := Lib.hid (fun h => mg_no (g := g) (r := (r1, r2)) (k := j) (l := l) (by have := hn.out; omega) h)
          generalize gt l j = y at *
          obtain ⟨y1, y2⟩ := y
          simp only at d0 d1
          have JC := Lib.hid (fun w hg => join_any r1 r2 y1 y2 g b3 w hg (by obtain ⟨p1, p2, p3⟩ := ho2; obtain ⟨p4, p5, p6⟩ := hor.out; simp only at *; omega))
          replace ho2 := Lib.hid ho2
          go_wp2_with fail
          go_cut [6, 7] from 18 to 36 (fun p o wx => ∃ L : Nat, p = .pointer (some ⟨L, 0, none⟩) ∧ o = .bool (decide (y1 - r2 ≤ g)) ∧ Hid (Bw wx L r1 (max r2 y2)) ∧ Hid (V.heap.size < L) ∧ Hid (Below wr.heap.size wr wx))
          case first =>
            refine wp_region_noPanic ?_
            refine wp_region_held_drew (S := fun w' => Below wr.heap.size wr w') (by kernel_rfl) (b0 _).drew (fun hH => ?_)
            refine held_take (i := 0) (d := 25) (v := ?_) rfl (by kernel_rfl) (by kernel_rfl) (by kernel_rfl) rfl (fun _ _ _ h => h) rfl hH (fun w' hS => ?_) ?_
            rotate_left
            · obtain ⟨k1, k2, k3, _⟩ := hI3.out.keeps hS; obtain ⟨k4, k5, _, _⟩ := hbw.out.keeps hS; have k6 := keeps hS d0; have k7 := keeps hS d1; clear hS; go_simp; first | done | with_reducible rfl
            simp only [List.set_cons_zero, List.set_cons_succ]
            refine held_take (i := 1) (d := 26) (v := ?_) rfl (by kernel_rfl) (by kernel_rfl) (by kernel_rfl) rfl (fun _ _ _ h => h) rfl hH (fun w' hS => ?_) ?_
            rotate_left
            · obtain ⟨k1, k2, k3, _⟩ := hI3.out.keeps hS; obtain ⟨k4, k5, _, _⟩ := hbw.out.keeps hS; have k6 := keeps hS d0; have k7 := keeps hS d1; clear hS; go_simp; first | done | with_reducible rfl
            simp only [List.set_cons_zero, List.set_cons_succ]
            refine held_take (i := 2) (d := 27) (v := ?_) rfl (by kernel_rfl) (by kernel_rfl) (by kernel_rfl) rfl (fun _ _ _ h => h) rfl hH (fun w' hS => ?_) ?_
            rotate_left
            · obtain ⟨k1, k2, k3, _⟩ := hI3.out.keeps hS; obtain ⟨k4, k5, _, _⟩ := hbw.out.keeps hS; have k6 := keeps hS d0; have k7 := keeps hS d1; clear hS; go_simp; first | done | with_reducible rfl
            simp only [List.set_cons_zero, List.set_cons_succ]
            refine held_take (i := 3) (d := 28) (v := ?_) rfl (by kernel_rfl) (by kernel_rfl) (by kernel_rfl) rfl (fun _ _ _ h => h) rfl hH (fun w' hS => ?_) ?_
            rotate_left
            · go_simp; first | done | with_reducible rfl
            simp only [List.set_cons_zero, List.set_cons_succ]
            refine held_take (i := 4) (d := 29) (v := ?_) rfl (by kernel_rfl) (by kernel_rfl) (by kernel_rfl) rfl (fun _ _ _ h => h) rfl hH (fun w' hS => ?_) ?_
            rotate_left
            · obtain ⟨k1, k2, k3, _⟩ := hI3.out.keeps hS; obtain ⟨k4, k5, _, _⟩ := hbw.out.keeps hS; have k6 := keeps hS d0; have k7 := keeps hS d1; clear hS; go_simp; first | done | with_reducible rfl
            simp only [List.set_cons_zero, List.set_cons_succ]
            refine held_take (i := 5) (d := 30) (v := ?_) rfl (by kernel_rfl) (by kernel_rfl) (by kernel_rfl) rfl (fun _ _ _ h => h) rfl hH (fun w' hS => ?_) ?_
            rotate_left
            · obtain ⟨k1, k2, k3, _⟩ := hI3.out.keeps hS; obtain ⟨k4, k5, _, _⟩ := hbw.out.keeps hS; have k6 := keeps hS d0; have k7 := keeps hS d1; clear hS; go_simp; first | done | with_reducible rfl
            simp only [List.set_cons_zero, List.set_cons_succ]
            refine held_two (i := 6) (j := 10) rfl rfl (by kernel_rfl) rfl rfl (fun K hK => ?_) (fun K hK => ?_)
            · go_simp
              refine (JC.out _ (hI3.out.keeps hH).c3).mono ?_
              rintro e w8 ⟨rfl, b⟩
              have hW : wr.heap.size ≤ w8.heap.size := by have := b.size; simpa using this
              replace b := bnext hH b
              clear hH
              refine hK.out _ _ b (fun hH => ?_)
              clear hK K b
              refine held_take (i := 7) (d := 24) (v := ?_) rfl (by kernel_rfl) (by kernel_rfl) (by kernel_rfl) rfl (fun _ _ _ h => h) rfl hH (fun w' hS => ?_) ?_
              rotate_left
              · go_simp; first | done | with_reducible rfl
              simp only [List.set_cons_zero, List.set_cons_succ]
              refine held_take (i := 8) (d := 32) (v := ?_) rfl (by kernel_rfl) (by kernel_rfl) (by kernel_rfl) rfl (fun _ _ _ h => h) rfl hH (fun w' hS => ?_) ?_
              rotate_left
              · go_simp; first | done | with_reducible rfl
              simp only [List.set_cons_zero, List.set_cons_succ]
              refine held_take (i := 9) (d := 33) (v := ?_) rfl (by kernel_rfl) (by kernel_rfl) (by kernel_rfl) rfl (fun _ _ _ h => h) rfl hH (fun w' hS => ?_) ?_
              rotate_left
              · go_simp; first | done | with_reducible rfl
              simp only [List.set_cons_zero, List.set_cons_succ]
              refine held_only (i := 10) rfl (by kernel_rfl) rfl (fun K hK => ?_)
              go_simp
              refine hK.out _ _ (balloc hH _) (fun hH => ?_)
              clear hK K
              have R := Bw.new w8 0 0 23
              have hL : V.heap.size < w8.heap.size := Nat.lt_of_lt_of_le hbw.out.lt hW
              generalize w8.heap.size = L at *
              generalize w8.alloc (.cells #[.int .i64 0, .int .i64 0] 23) = w9 at *
              refine held_and (fun w' => ∃ p q, Bw w' L p q) ⟨_, _, R⟩ hH (fun hH => ?_)
              refine held_only (i := 11) rfl (by kernel_rfl) rfl (fun K hK => ?_)
              have R1 := Lib.hid R
              obtain ⟨a0, a1, f0, f1⟩ := R
              go_simp
              refine hK.out _ _ ⟨put_below hH.1 hW _ _, _, _, R1.out.put _ _⟩ (fun hH => ?_)
              clear hK K a0 a1 f0 f1
              refine held_take (i := 12) (d := 7) (v := ?_) rfl (by kernel_rfl) (by kernel_rfl) (by kernel_rfl) rfl (fun _ _ _ h => h) rfl hH (fun w' hS => ?_) ?_
              rotate_left
              · go_simp; first | done | with_reducible rfl
              simp only [List.set_cons_zero, List.set_cons_succ]
              refine wpAnyH_done (by kernel_rfl) ?_ _
              refine noPanic_of ?_
              go_wp2_with fail
              go_meet
              case rel => exact ⟨L, rfl, rfl, R1.out.put _ _, hL, hH.1⟩
            · go_simp
              refine hK.out _ _ (balloc hH _) (fun hH => ?_)
              clear hK K
              have R : Bw (wr.alloc (.cells #[.int .i64 0, .int .i64 0] 23)).drew wr.heap.size 0 0 := (Bw.new wr 0 0 23).keeps (b0 _).drew
              have hL : V.heap.size < wr.heap.size := hbw.out.lt
              generalize (wr.alloc (.cells #[.int .i64 0, .int .i64 0] 23)).drew = w9 at *
              refine held_and (fun w' => ∃ p q, Bw w' wr.heap.size p q) ⟨_, _, R⟩ hH (fun hH => ?_)
              refine held_only (i := 6) rfl (by kernel_rfl) rfl (fun K hK => ?_)
              go_simp
              refine (JC.out _ (hI3.out.keeps hH.1).c3).mono ?_
              rintro e w8 ⟨rfl, b⟩
              replace R := R.keeps b
              replace b := bnext hH.1 b
              clear hH
              refine hK.out _ _ ⟨b, _, _, R⟩ (fun hH => ?_)
              clear hK K b
              refine held_take (i := 7) (d := 24) (v := ?_) rfl (by kernel_rfl) (by kernel_rfl) (by kernel_rfl) rfl (fun _ _ _ h => h) rfl hH (fun w' hS => ?_) ?_
              rotate_left
              · go_simp; first | done | with_reducible rfl
              simp only [List.set_cons_zero, List.set_cons_succ]
              refine held_take (i := 8) (d := 32) (v := ?_) rfl (by kernel_rfl) (by kernel_rfl) (by kernel_rfl) rfl (fun _ _ _ h => h) rfl hH (fun w' hS => ?_) ?_
              rotate_left
              · go_simp; first | done | with_reducible rfl
              simp only [List.set_cons_zero, List.set_cons_succ]
              refine held_take (i := 9) (d := 33) (v := ?_) rfl (by kernel_rfl) (by kernel_rfl) (by kernel_rfl) rfl (fun _ _ _ h => h) rfl hH (fun w' hS => ?_) ?_
              rotate_left
              · go_simp; first | done | with_reducible rfl
              simp only [List.set_cons_zero, List.set_cons_succ]
              refine held_only (i := 11) rfl (by kernel_rfl) rfl (fun K hK => ?_)
              have R1 := Lib.hid R
              obtain ⟨a0, a1, f0, f1⟩ := R
              go_simp
              refine hK.out _ _ ⟨put_below hH.1 (Nat.le_refl _) _ _, _, _, R1.out.put _ _⟩ (fun hH => ?_)
              clear hK K a0 a1 f0 f1
              refine held_take (i := 12) (d := 7) (v := ?_) rfl (by kernel_rfl) (by kernel_rfl) (by kernel_rfl) rfl (fun _ _ _ h => h) rfl hH (fun w' hS => ?_) ?_
              rotate_left
              · go_simp; first | done | with_reducible rfl
              simp only [List.set_cons_zero, List.set_cons_succ]
              refine wpAnyH_done (by kernel_rfl) ?_ _
              refine noPanic_of ?_
              go_wp2_with fail
              go_meet
              case rel => exact ⟨_, rfl, rfl, R1.out.put _ _, hL, hH.1⟩
          case rest =>
            obtain ⟨L, rfl, rfl, hbl, hVL, hbc⟩ := hcut
            have hbw2 := hbw.out.keeps' hbc.out hbw.out.lt
            have bVc := hbi.out.trans (hbc.out.mono hbi.out.size)
            obtain ⟨a0, a1, _, _⟩ := hbl.out
            have hbw3 := Lib.hid hbw2
            obtain ⟨r0, r1', g0, g1⟩ := hbw2
            by_cases hjoin : y1 - r2 ≤ g
            · have q3 : decide (y1 - r2 ≤ g) = true := decide_eq_true hjoin
              have hmg2 := Lib.hid (hmg.out.trans (hyes.out hjoin))
              have hok2 : Hid (Ok (r1, max r2 y2)) := by
                obtain ⟨p1, p2, p3⟩ := ho2.out
                obtain ⟨p4, p5, p6⟩ := hor.out
                simp only at *
                refine ⟨p4, ?_, ?_⟩ <;> simp only <;> omega
              generalize max r2 y2 = z at *
              clear hyes hno
              go_wp2_with fail
              go_roundw
              case rel => exact ⟨j + 1, r1, z, rfl, hjn, put_below bVc (Nat.le_refl _) _ _, hbw3.out.put _ _, hok2, hmg2, Nat.lt_succ_of_lt hkj.out⟩
              case measure =>
                simp only [intOf]
                omega
            · have q3 : decide (y1 - r2 ≤ g) = false := decide_eq_false hjoin
              have hend := hno.out (by omega)
              have bV := bVc
              have hJ3 := abides_below hJ1.out hJs.out bV
              have hall : mrg g l = pre ++ (r1, r2) :: mrg g (l.drop j) := by rw [hpre.out, hm.out, hmg.out, hend]
              have hlen : pre.length < (mrg g l).length := by rw [hall]; simp
              obtain ⟨fn, tmps, assign, body, hy, hR⟩ := hY1.out pre (r1, r2) wc hJ3 hlen
              simp only at hy
              go_upto_region 9 with fail
              refine (wpIn_wide (n := m)).1 ?_
              gi_wp2
              refine ⟨fun h => absurd h (by decide), ?_⟩
              refine hR.mono ?_
              rintro e W3 (⟨rfl, hJ4, hk3⟩ | ⟨rfl, hJx3⟩)
              · dsimp only
                iterate 5 (first | go_values | gi_guarded | gi_step | gi_back)
                go_wp2_with fail
                go_roundw
                case rel => exact ⟨j, pre ++ [(r1, r2)], rfl, hj.out, hJ4, by unfold Hid; rw [hall, List.append_assoc]; rfl, hk3 (hb.out.keeps bV)⟩
                case measure =>
                  have := hkj.out
                  have := hj.out
                  simp only [intOf]
                  omega
              · dsimp only
                iterate 5 (first | go_values | gi_guarded | gi_step | gi_back)
                go_wp2_with fail
                refine bodyPost_ret (results_none rfl _ _ _) rfl ?_
                exact ⟨⟨_, rfl⟩, .inr ⟨pre ++ [(r1, r2)], ⟨mrg g (l.drop j), by rw [hall, List.append_assoc]; rfl⟩, hJx3⟩⟩
        · have hend := mg_all g (r1, r2) l j (by have := hn.out; omega)
          have q2 : decide ((j : Int) < (n : Int)) = false := decide_eq_false (by omega)
          have bV := hbi.out
          have hJ3 := abides_below hJ1.out hJs.out bV
          have hall : mrg g l = pre ++ (r1, r2) :: mrg g (l.drop j) := by rw [hpre.out, hm.out, hmg.out, hend]
          have hlen : pre.length < (mrg g l).length := by rw [hall]; simp
          obtain ⟨fn, tmps, assign, body, hy, hR⟩ := hY1.out pre (r1, r2) wr hJ3 hlen
          simp only at hy
          go_upto_region 9 with fail
          refine (wpIn_wide (n := m)).1 ?_
          gi_wp2
          refine ⟨fun h => absurd h (by decide), ?_⟩
          refine hR.mono ?_
          rintro e W3 (⟨rfl, hJ4, hk3⟩ | ⟨rfl, hJx3⟩)
          · dsimp only
            iterate 5 (first | go_values | gi_guarded | gi_step | gi_back)
            go_wp2_with fail
            go_roundw
            case rel => exact ⟨j, pre ++ [(r1, r2)], rfl, hj.out, hJ4, by unfold Hid; rw [hall, List.append_assoc]; rfl, hk3 (hb.out.keeps bV)⟩
            case measure =>
              have := hkj.out
              have := hj.out
              simp only [intOf]
              omega
          · dsimp only
            iterate 5 (first | go_values | gi_guarded | gi_step | gi_back)
            go_wp2_with fail
            refine bodyPost_ret (results_none rfl _ _ _) rfl ?_
            exact ⟨⟨_, rfl⟩, .inr ⟨pre ++ [(r1, r2)], ⟨mrg g (l.drop j), by rw [hall, List.append_assoc]; rfl⟩, hJx3⟩⟩
    · have q1 : decide ((k : Int) < (n : Int)) = false := decide_eq_false (by omega)
      have hend : mrg g l = pre := by
        have := hpre.out
        rw [List.drop_eq_nil_of_le (by omega)] at this
        simpa [mrg] using this
      go_wp2_with fail
      go_end0
      exact ⟨⟨_, rfl⟩, .inl ⟨pre, hend.symm, hJs.out⟩⟩
theorem Sl.kept {W W' : World} {row : Option Nat} {a : Option Addr} {n cap : Nat} {l : List I2} (h : Sl W a n cap l) (hg : W.grownBy W' row) (hr : ∀ r, row = some r → ∃ o : Obj, W.heap[r]? = some o ∧ o.isCells = false) : Sl W' a n cap l :=
  { h with hat := h.hat.imp id fun ⟨b, off, e, hC⟩ => ⟨b, off, e, fun j hj => ⟨cell_kept (hC j hj).1 hg hr, cell_kept (hC j hj).2 hg hr⟩⟩ }
theorem It.kept {W W' : World} {row : Option Nat} {b1 b2 b3 : Nat} {a : Option Addr} {n cap : Nat} {l : List I2} {g : Int} (h : It W b1 b2 b3 a n cap l g) (hg : W.grownBy W' row) (hr : ∀ r, row = some r → ∃ o : Obj, W.heap[r]? = some o ∧ o.isCells = false) : It W' b1 b2 b3 a n cap l g :=
  ⟨cell_kept h.c1 hg hr, cell_kept h.c2 hg hr, cell_kept h.c3 hg hr, h.sl.kept hg hr⟩
/-- What keeps the blocks below keeps what the iterator reads. -/
theorem It.under {w A B : World} {b1 b2 b3 : Nat} {a : Option Addr} {n cap : Nat} {l : List I2} {g : Int} (h : It w b1 b2 b3 a n cap l g) (hb : Below w.heap.size A B) (hA : It A b1 b2 b3 a n cap l g) : It B b1 b2 b3 a n cap l g := by
  refine ⟨(hb.cell (p := ⟨b1, 0, none⟩) (block_lt_of_cell h.c1)).trans hA.c1, (hb.cell (p := ⟨b2, 0, none⟩) (block_lt_of_cell h.c2)).trans hA.c2, (hb.cell (p := ⟨b3, 0, none⟩) (block_lt_of_cell h.c3)).trans hA.c3, { hA.sl with hat := ?_ }⟩
  rcases hA.sl.hat with h0 | ⟨b, off, e, hC⟩
  · exact .inl h0
  · refine .inr ⟨b, off, e, fun j hj => ?_⟩
    rcases h.sl.hat with h0 | ⟨b', off', e', hC'⟩
    · omega
    · rw [e] at e'
      cases e'
      have hlt := block_lt_of_cell (hC' j hj).1
      exact ⟨(hb.cell (p := ⟨b, off + j * 2, none⟩) hlt).trans (hC j hj).1, (hb.cell (p := ⟨b, off + j * 2 + 1, none⟩) hlt).trans (hC j hj).2⟩
theorem keepIt_t {b1 b2 b3 : Nat} {a : Option Addr} {n cap : Nat} {l : List I2} {g : Int} {A B C : World} (h : It A b1 b2 b3 a n cap l g → It B b1 b2 b3 a n cap l g) (k : It B b1 b2 b3 a n cap l g → It C b1 b2 b3 a n cap l g) : It A b1 b2 b3 a n cap l g → It C b1 b2 b3 a n cap l g := fun x => k (h x)
theorem keepIt_b {b1 b2 b3 : Nat} {a : Option Addr} {n cap : Nat} {l : List I2} {g : Int} (N : Nat) (W : World) (l0 : Nat) (o o' : Obj) (_ : N ≤ l0) (h : W.heap[l0]? = some o) (hc : o.isCells = false) (_ : o.isWalk = false) : It W b1 b2 b3 a n cap l g → It (W.putObj l0 o') b1 b2 b3 a n cap l g :=
  fun x => x.kept (grownBy_putObj' W l0 o') (fun r e => by cases e; exact ⟨o, h, hc⟩)
/-- What merged returns is an iterator over the joined elements. -/
theorem iter_stops (m : Nat) (b1 b2 b3 : Nat) (a : Option Addr) (n cap : Nat) (l : List I2) (g : Int) (hok : ∀ x ∈ l, Ok x) (w : World) (hI : It w b1 b2 b3 a n cap l g) :
    SeqStopsK Fence.wide m Try.prog 48 #[.pointer (some ⟨b1, 0, none⟩), .pointer (some ⟨b2, 0, none⟩)] (fun x : I2 => #[Value.agg #[.int .i64 x.1, .int .i64 x.2]]) (fun A B => It A b1 b2 b3 a n cap l g → It B b1 b2 b3 a n cap l g) (fun ys => ys = mrg g l) (fun pre => pre <+: mrg g l) (mrg g l).length w := fun l0 J Jx W hW hJ _ hY h0 =>
  callsIn_wide.2 (iter_in m b1 b2 b3 a n cap l g hok l0 W.heap.size J Jx hJ hY W (hI.keeps hW) h0)
end Go.Proofs.Ytdhdofgdeljajaa
