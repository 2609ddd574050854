/-
  units.Normal; A unit; a window; a type; a field.
-/
import Derived.Carry
import Derived.Test.YtbpijgddfaefkaaGreatDoorU07
import Derived.Test.YtbpijgddfaefkaaGreatDoorU08
namespace Go.Proofs.YtbpijgddfaefkaaGreatDoor.un
open Go.RowKit dec

theorem sortBy_any (base : Nat) (v : Value) (l : List Fa) (w : World) (hO : Own w base v l) (hn : l.length < 5864062014805) (hb : base ≤ w.heap.size) :
    Calls Tryz.prog 63 #[v, .func (.func 64) #[] #[]] w fun e w' => e = .returned (.tuple #[]) ∧ ∃ a cap s, v = .slice a l.length cap ∧ s.Perm l ∧ WSrt s ∧ Sl w' a l.length cap s ∧ (∀ x, a = some x → base ≤ x.block ∧ ∃ cs fr, w'.heap[x.block]? = some (.cells cs 55 fr)) ∧ Below base w w' := by
  have C := Lib.hid (fun W h1 h2 h3 h4 => sort_any base v l w.heap.size W h1 hn h2 h3 h4)
  have hO1 := hO.keeps (balloc (b0 w) (.cells #[.func (.func 64) #[] #[]] 109))
  have hlt : ∀ g, v.ownBlock = some g → w.heap.size ≠ g := fun g hg => by have := (hO.lt g hg).2; omega
  have hb1 : Below base w (w.alloc (.cells #[.func (.func 64) #[] #[]] 109)) := (balloc (b0 w) _).mono hb
  have O := Lib.hid hO1
  have L := Lib.hid hlt
  have B := Lib.hid hb1
  clear hO hO1 hlt hb1
  go_enter Tryz.func63, Tryz.ntmps63
  go_wp2_with fail
  refine (C.out _ O.out (by simp; omega) (by simp [go_sem]) L.out).mono ?_
  rintro e w1 ⟨rfl, a, cap, s, rfl, h1, h2, h3, h4, h5⟩
  go_wp2_with fail
  go_end0
  exact ⟨rfl, a, cap, s, rfl, h1, h2, h3, h4, B.out.trans h5⟩
/-- A slice that is handed back and holds l. -/
def Out (base : Nat) (w : World) (v : Value) (l : List Fa) : Prop := ∃ a cap, v = .slice a l.length cap ∧ Sl w a l.length cap l ∧ ∀ x, a = some x → base ≤ x.block ∧ ∃ cs fr, w.heap[x.block]? = some (.cells cs 55 fr)
theorem Out.nil (base : Nat) (w : World) : Out base w (.slice none 0 0) [] := ⟨none, 0, rfl, .nil _, fun _ h => by cases h⟩
theorem below_up2 {mb : Nat} {w wr : World} (h : Below mb w wr) (e : w.heap.size = mb) (o : Obj) : Below mb w (wr.alloc o) := h.alloc (by have := h.size; omega) o
theorem World.grownBy_drew' (w : World) {row : Option Nat} : w.grownBy w.drew row := ⟨rfl, rfl, rfl, Nat.le_refl _, fun _ _ _ => rfl⟩
theorem below_grown {W w' : World} {mb : Nat} (h : W.grownBy w' (some mb)) (hm : mb ≤ W.heap.size) : Below mb W w' := ⟨h.os, h.tape, h.output, h.size, fun i hi => h.block i (by omega) (by simp; omega)⟩
theorem below_grown_none {W w w' : World} {mb : Nat} (h : Below mb W w) (hg : w.grownBy w' none) (hm : W.heap.size = mb) : Below mb W w' := h.trans ⟨hg.os, hg.tape, hg.output, hg.size, fun i hi => hg.block i (by have := h.size; omega) (by simp)⟩
theorem below_r {W w w' : World} {mb r : Nat} (h : Below mb W w) (hg : w.grownBy w' (some r)) (hm : W.heap.size = mb) (hr : mb ≤ r) : Below mb W w' := h.trans ⟨hg.os, hg.tape, hg.output, hg.size, fun i hi => hg.block i (by have := h.size; omega) (by simp; omega)⟩
theorem own_r {w w' : World} {r : Nat} {v : Value} {l : List Fa} (h : Own w (r + 1) v l) (hg : w.grownBy w' (some r)) : Own w' (r + 1) v l := by
  obtain ⟨h1, h2⟩ := h
  refine ⟨h1, ?_⟩
  rcases h2 with h0 | ⟨g, cap, cur, e, hbg, hh, r⟩
  · exact .inl h0
  · refine .inr ⟨g, cap, cur, e, hbg, ?_, r⟩
    have : g < w.heap.size := by
      rcases Nat.lt_or_ge g w.heap.size with h' | h'
      · exact h'
      · rw [Array.getElem?_eq_none h'] at hh; cases hh
    rw [hg.block _ this (by simp; omega)]
    exact hh
theorem below_up3 {mb : Nat} {w wr w' : World} (h : Below mb w wr) (e : w.heap.size = mb) (b : Below wr.heap.size wr w') : Below mb w w' := h.trans (b.mono (by have := h.size; omega))
theorem take_mp {w : World} {b : Nat} {l : List Fa} {j : Nat} {x : Fa} (h : j < l.length) (e : gt l j = x) (M : Mp w b (l.take j ++ [x])) : Mp w b (l.take (j + 1)) := by
  rw [take_gt h, e]
  exact M
theorem wds_take {l : List Fa} {j : Nat} (h : j < l.length) (hw : word (gt l j).1 = false) : wds l = false := by
  cases hv : wds l
  · rfl
  · rw [wds_iff.1 hv _ (gt_mem h)] at hw
    cases hw
theorem wds_next {l : List Fa} {j : Nat} (h : j < l.length) (h1 : wds (l.take j) = true) (hw : word (gt l j).1 = true) : wds (l.take (j + 1)) = true := by
  rw [take_gt h, wds_append, h1]
  simp [wds, hw]
theorem nE_one {l : List Fa} (h : wds l = false) : nE l = 1 ∧ nL l = [] := by
  have e : nE l = 1 := by unfold nE; rw [h]; rfl
  exact ⟨e, by unfold nL; rw [e]; rfl⟩
theorem nE_far {l : List Fa} (h : wds l = true) (hf : anyFar l = true) : nE l = 70 ∧ nL l = [] := by
  have e : nE l = 70 := by unfold nE; rw [h, hf]; rfl
  exact ⟨e, by unfold nL; rw [e]; rfl⟩
set_option maxRecDepth 100000 in
set_option maxHeartbeats 4000000 in
theorem normal_any (a : Option Addr) (n cap : Nat) (l : List Fa) (w : World) (hS : Sl w a n cap l) (hx : ∀ x ∈ l, -9223372036854775808 ≤ x.2 ∧ x.2 ≤ 9223372036854775807) (hlen : l.length < 5864062014805) :
    Calls Tryz.prog 20 #[.slice a n cap] w fun e w' => ∃ v, e = .returned (.tuple #[v, .int .i64 (nE l)]) ∧ Out w.heap.size w' v (nL l) ∧ Below w.heap.size w w' := by
  have W1 := Lib.hid isWord_any
  have S0 := Lib.hid hS
  have X0 := Lib.hid hx
  have N0 := Lib.hid hlen
  have M0 := Lib.hid (Mp.made w)
  have B0 := Lib.hid (balloc (b0 w) (.map #[] 0))
  have hmm := @run_makeMap Tryz.prog
  have hmm := @run_makeMap Tryz.prog
  have hmm := @run_makeMap Tryz.prog
  have hmm := @run_makeMap Tryz.prog
  have hmm := @run_makeMap Tryz.prog
  have hmm := @run_makeMap Tryz.prog
  have hmm := @run_makeMap Tryz.prog
  have hmm := @run_makeMap Tryz.prog
  have hmm := @run_makeMap Tryz.prog
  have hmm := @run_makeMap Tryz.prog
  have hmm := @run_makeMap Tryz.prog
  have hmm := @run_makeMap Tryz.prog
  clear hS hx hlen
  go_enter Tryz.func20, Tryz.ntmps20
  go_wp2_with fail
  generalize hmb : w.heap.size = mb at *
  have Mge := Lib.hid hmb
  clear hmb
  go_loopw [2, 14] (fun vu vi wr => ∃ j : Nat, vu = .slice none 0 0 ∧ vi = .int .i64 (j : Nat) ∧ Hid (j ≤ n) ∧ Hid (wds (l.take j) = true) ∧ Hid (Mp wr mb (l.take j)) ∧ Hid (Below mb w wr)) (fun _ vi _ => n - (intOf vi).toNat)
  case atStart => exact ⟨0, rfl, rfl, Lib.hid (Nat.zero_le _), Lib.hid rfl, M0, B0⟩
  case round =>
    obtain ⟨j, rfl, rfl, hj, hd, hM, hb⟩ := hrel
    by_cases hc : j < n
    · have hln := Lib.hid (show j < l.length by have := S0.out.hn; omega)
      obtain ⟨bk, off, rfl, hC⟩ := (S0.out.keeps (hb.out.mono (by have := Mge.out; omega))).hat.resolve_left (by have := hln.out; omega)
      obtain ⟨c0, c1⟩ := hC j hln.out
      have q2 : decide ((j : Int) < (n : Int)) = true := decide_eq_true (by omega)
      have q3 : j < n := hc
      have f4 := Lib.hid (next_at (j := j) (by have := S0.out.hcap; have := S0.out.hmax; omega))
      have hwn := Lib.hid (wds_next hln.out hd.out)
      have hwt := Lib.hid (wds_take hln.out)
      have hxr := Lib.hid (X0.out _ (gt_mem hln.out))
      have hxx := Lib.hid (rfl : gt l j = gt l j)
      clear hC
      generalize hgx : (gt l j) = x at c0 c1 hwn hwt hxr
      replace hxx := Lib.hid hgx
      clear hgx
      have HX := Lib.hid (Bw.new wr x 55)
      cases hw : word x.1
      · have hr := Lib.hid (nE_one (hwt.out hw))
        go_wp2_with fail
        refine (W1.out _ _).mono ?_
        rintro e w' ⟨rfl, rfl⟩
        go_wp2_with fail
        go_ret2
        refine ⟨.slice none 0 0, by rw [hr.out.1]; rfl, by rw [hr.out.2]; exact Out.nil _ _, ?_⟩
        have := below_up2 hb.out Mge.out (.cells #[.string x.1, .int .i64 x.2] 55)
        exact Mge.out ▸ this
      · have HW := Lib.hid (hwn.out hw)
        have hsz := Lib.hid (show x.1.size ≤ maxLen by have := word_size hw; unfold maxLen; omega)
        have OC := Lib.hid (fun W => of_b x.2 W hxr.out.1 hxr.out.2)
        have AC := Lib.hid (fun W => add_b (x := dec.W (ex (l.take j) x.1)) (y := dec.W x.2) (a := ex (l.take j) x.1) (b := x.2) rfl rfl W)
        clear hwn hwt
        go_wp2_with fail
        refine (W1.out _ _).mono ?_
        rintro e w' ⟨rfl, rfl⟩
        go_wp2_with fail
        have M7 := Lib.hid ((hM.out.keeps (balloc (b0 wr) (.cells #[.string x.1, .int .i64 x.2] 55))).grown (World.grownBy_drew' (row := none) _) (by simp))
        have C0 := Lib.hid (HX.out.c0)
        have C1 := Lib.hid (HX.out.c1)
        have G0 := Lib.hid (show wr.heap.size ≠ mb by have := hM.out.lt; omega)
        have hbn := Lib.hid (below_up2 hb.out Mge.out (.cells #[.string x.1, .int .i64 x.2] 55))
        replace hb := hbn
        clear hbn HX hM c0 c1 S0
        generalize wr.heap.size = g6 at *
        generalize wr.alloc (.cells #[.string x.1, .int .i64 x.2] 55) = W at *
        have GD := Lib.hid (World.grownBy_drew' (row := some mb) W)
        have MW := Lib.hid (show mb ≤ W.heap.size from Nat.le_of_lt M7.out.lt)
        refine wp_region_noPanic ?_
        refine wp_region_held_drew (S := fun w' => W.grownBy w' (some mb)) (by kernel_rfl) GD.out (fun hH => ?_)
        refine held_take (i := 0) (d := 22) (v := ?_) rfl (by kernel_rfl) (by kernel_rfl) (by kernel_rfl) rfl (fun _ _ _ h => h) rfl hH (fun w' hS => ?_) ?_
        rotate_left
        · go_simp; first | done | with_reducible rfl
        simp only [List.set_cons_zero, List.set_cons_succ]
        refine held_take (i := 1) (d := 23) (v := ?_) rfl (by kernel_rfl) (by kernel_rfl) (by kernel_rfl) rfl (fun _ _ _ h => h) rfl hH (fun w' hS => ?_) ?_
        rotate_left
        · go_simp; first | done | with_reducible rfl
        simp only [List.set_cons_zero, List.set_cons_succ]
        refine held_take (i := 2) (d := 24) (v := ?_) rfl (by kernel_rfl) (by kernel_rfl) (by kernel_rfl) rfl (fun _ _ _ h => h) rfl hH (fun w' hS => ?_) ?_
        rotate_left
        · have e0 := gcell hS G0.out C0.out; go_simp; first | done | with_reducible rfl
        simp only [List.set_cons_zero, List.set_cons_succ]
        refine held_take (i := 3) (d := 25) (v := ?_) rfl (by kernel_rfl) (by kernel_rfl) (by kernel_rfl) rfl (fun _ _ _ h => h) rfl hH (fun w' hS => ?_) ?_
        rotate_left
        · go_simp; first | done | with_reducible rfl
        simp only [List.set_cons_zero, List.set_cons_succ]
        refine held_take (i := 4) (d := 26) (v := ?_) rfl (by kernel_rfl) (by kernel_rfl) (by kernel_rfl) rfl (fun _ _ _ h => h) rfl hH (fun w' hS => ?_) ?_
        rotate_left
        · go_simp; first | done | with_reducible rfl
        simp only [List.set_cons_zero, List.set_cons_succ]
        refine held_take (i := 5) (d := 27) (v := ?_) rfl (by kernel_rfl) (by kernel_rfl) (by kernel_rfl) rfl (fun _ _ _ h => h) rfl hH (fun w' hS => ?_) ?_
        rotate_left
        · have e0 := gcell hS G0.out C0.out; go_simp; first | done | with_reducible rfl
        simp only [List.set_cons_zero, List.set_cons_succ]
        refine held_take (i := 7) (d := 29) (v := ?_) rfl (by kernel_rfl) (by kernel_rfl) (by kernel_rfl) rfl (fun _ _ _ h => h) rfl hH (fun w' hS => ?_) ?_
        rotate_left
        · go_simp; first | done | with_reducible rfl
        simp only [List.set_cons_zero, List.set_cons_succ]
        refine held_take (i := 8) (d := 30) (v := ?_) rfl (by kernel_rfl) (by kernel_rfl) (by kernel_rfl) rfl (fun _ _ _ h => h) rfl hH (fun w' hS => ?_) ?_
        rotate_left
        · have e1 := gcell hS G0.out C1.out; go_simp; first | done | with_reducible rfl
        simp only [List.set_cons_zero, List.set_cons_succ]
        refine held_two (i := 6) (j := 9) rfl rfl (by kernel_rfl) rfl rfl (fun K hK => ?_) (fun K hK => ?_)
        · have hlk := M7.out.look x.1 hsz.out
          go_simp
          refine hK.out _ _ hH (fun hH => ?_)
          clear hK K hlk
          refine held_only (i := 9) rfl (by kernel_rfl) rfl (fun K hK => ?_)
          go_simp
          refine (OC.out _).mono ?_
          rintro e w6 ⟨rfl, b6⟩
          replace M7 := Lib.hid (M7.out.keeps b6)
          refine hK.out _ _ (hH.andThen (grown_below b6) (fun j hj => by cases hj)) (fun hH => ?_)
          clear hK K b6
          refine held_only (i := 10) rfl (by kernel_rfl) rfl (fun K hK => ?_)
          go_simp
          refine (AC.out _).mono ?_
          rintro e w8 ⟨rfl, b8⟩
          have M8 := Lib.hid (M7.out.keeps b8)
          refine hK.out _ _ (hH.andThen (grown_below b8) (fun j hj => by cases hj)) (fun hH => ?_)
          clear hK K b8
          refine held_only (i := 11) rfl (by kernel_rfl) rfl (fun K hK => ?_)
          refine wp_store (.tmp 22) (.tmp 24) (.tmp 32) rfl mb (l.take j) rfl M8.out x rfl rfl hsz.out (by have := N0.out; rw [List.length_take]; unfold maxLen; omega) ?_
          intro w9 M9 g9
          refine hK.out _ _ (hH.andThen g9 (fun j hj => .inr hj)) (fun hH => ?_)
          clear hK K g9
          refine wpAnyH_done (by kernel_rfl) ?_ _
          refine noPanic_of ?_
          have hbn := Lib.hid (hb.out.trans (below_grown hH MW.out))
          clear hH
          go_wp2_with fail
          refine ⟨⟨j + 1, rfl, congrArg (Value.int .i64) f4.out, Lib.hid hc, HW, Lib.hid (take_mp hln.out hxx.out M9), hbn⟩, less_at hc f4.out⟩
        · go_simp
          refine (OC.out _).mono ?_
          rintro e w6 ⟨rfl, b6⟩
          replace M7 := Lib.hid (M7.out.keeps b6)
          refine hK.out _ _ (hH.andThen (grown_below b6) (fun j hj => by cases hj)) (fun hH => ?_)
          clear hK K b6
          refine held_only (i := 6) rfl (by kernel_rfl) rfl (fun K hK => ?_)
          have hlk := M7.out.look x.1 hsz.out
          go_simp
          refine hK.out _ _ hH (fun hH => ?_)
          clear hK K hlk
          refine held_only (i := 10) rfl (by kernel_rfl) rfl (fun K hK => ?_)
          go_simp
          refine (AC.out _).mono ?_
          rintro e w8 ⟨rfl, b8⟩
          have M8 := Lib.hid (M7.out.keeps b8)
          refine hK.out _ _ (hH.andThen (grown_below b8) (fun j hj => by cases hj)) (fun hH => ?_)
          clear hK K b8
          refine held_only (i := 11) rfl (by kernel_rfl) rfl (fun K hK => ?_)
          refine wp_store (.tmp 22) (.tmp 24) (.tmp 32) rfl mb (l.take j) rfl M8.out x rfl rfl hsz.out (by have := N0.out; rw [List.length_take]; unfold maxLen; omega) ?_
          intro w9 M9 g9
          refine hK.out _ _ (hH.andThen g9 (fun j hj => .inr hj)) (fun hH => ?_)
          clear hK K g9
          refine wpAnyH_done (by kernel_rfl) ?_ _
          refine noPanic_of ?_
          have hbn := Lib.hid (hb.out.trans (below_grown hH MW.out))
          clear hH
          go_wp2_with fail
          refine ⟨⟨j + 1, rfl, congrArg (Value.int .i64) f4.out, Lib.hid hc, HW, Lib.hid (take_mp hln.out hxx.out M9), hbn⟩, less_at hc f4.out⟩
    · have hjn : j = n := by have := hj.out; omega
      have htl : l.take j = l := by rw [hjn, ← S0.out.hn, List.take_length]
      have q1 : decide ((j : Int) < (n : Int)) = false := decide_eq_false (by omega)
      have hW := Lib.hid (show wds l = true by rw [← htl]; exact hd.out)
      subst hjn
      have hM2 := hM.out
      rw [htl] at hM2
      obtain ⟨D, hown0, hsay0⟩ := hM2
      have hown := Lib.hid hown0
      have hsay := Lib.hid hsay0
      have hmr := Lib.hid hown0.lt
      clear hown0 hsay0 hM hd htl hj hc M0 B0 hmm
      go_wp2_with (first | (at_range; refine wpList_range_own _ rfl _ 111 rfl 9 114 K9 kMap _ mb l.length D rfl hown.out ?_; intro w0 hrg0 hg0 hs0) | fail)
      go_frame
      have hb2 := Lib.hid (below_grown_none hb.out hg0 Mge.out)
      have hsz2 := Lib.hid hs0
      have R0 := Lib.hid hrg0
      have hcn := Lib.hid (hown.out.size_le)
      clear hrg0 hg0 hs0 hown hb
      generalize wr.heap.size = r at *
      go_loopw [2] (fun vu wx => ∃ (o : List Fa) (left : Lit → Bool) (cnt : Nat), Hid (Own wx (r + 1) vu o) ∧ Hid (wx.ranges Tryz.prog 9 wElem mb r l.length D left cnt) ∧ Hid (Pk l left o) ∧ Hid (∀ z, left z = true → Maps.has D z = true) ∧ Hid (o.length + cnt ≤ l.length) ∧ Hid (Below mb w wx) ∧ Hid (r + 1 ≤ wx.heap.size)) (fun _ wx => wx.rangeLeft mb r)
      case atStart => exact ⟨[], _, _, Lib.hid (Own.nil _ _), R0, Lib.hid (Pk.start hsay.out), Lib.hid (fun _ h => h), Lib.hid (by simpa using hcn.out), hb2, Lib.hid (by have := hsz2.out; omega)⟩
      case round =>
        obtain ⟨o, left, cnt, hO, hR, hP, hL, hC, hB, hZ⟩ := hrel
        go_wp2_with (first | (at_next; refine wpList_next_map _ rfl _ rfl mb r l.length D l hsay.out left cnt rfl hR.out ?_ ?_) | fail)
        · intro hc0 hl0
          have hl := Lib.hid hl0
          have hlen := Lib.hid (hP.out.len hl0)
          have hall := hP.out.all hl0
          have hE := Lib.hid (show nE l = if 4 < o.length then 2 else 0 by unfold nE; rw [hW.out, hall, if_pos rfl, if_neg Bool.false_ne_true, hlen.out])
          have hol := Lib.hid (show o.length < 5864062014805 by have := N0.out; have := hC.out; omega)
          have SC := Lib.hid (fun W (h : Below wr.heap.size wr W) h1 => sortBy_any (r + 1) u2 o W (hO.out.keeps h) hol.out h1)
          obtain ⟨a2, cap2, rfl, S2⟩ := hO.out.sl
          have S2h := Lib.hid S2
          clear S2 hc0 hl0 hall hR hL hC hO
          by_cases h4 : 4 < o.length
          · have q4 : decide (4 < (o.length : Int)) = true := decide_eq_true (by omega)
            rw [if_pos h4] at hE
            go_wp2_with fail
            go_ret2
            exact ⟨.slice none 0 0, by rw [hE.out]; rfl, by unfold nL; rw [hE.out]; exact Out.nil _ _, Mge.out ▸ hB.out⟩
          · have q4 : decide (4 < (o.length : Int)) = false := decide_eq_false (by omega)
            rw [if_neg h4] at hE
            go_wp2_with fail
            refine (SC.out _ (b0 _) hZ.out).mono ?_
            rintro e w9 ⟨rfl, a3, cap3, s3, hv, hp3, hs3, hS3, hfr3, hb3⟩
            cases hv
            have hz3 := hP.out.done hl.out hp3 hs3
            have hn3 := Lib.hid (show nL l = s3 by unfold nL; rw [if_pos hE.out, hz3])
            have hl3 := Lib.hid (show o.length = s3.length from hp3.length_eq.symm)
            have HS3 := Lib.hid hS3
            have HF3 := Lib.hid (show ∀ x, a2 = some x → w.heap.size ≤ x.block ∧ ∃ cs fr, w9.heap[x.block]? = some (.cells cs 55 fr) from fun x hx => ⟨by have h1 := (hfr3 x hx).1; have h2 := hmr.out; have h3 := Mge.out; omega, (hfr3 x hx).2⟩)
            have HB3 := Lib.hid (Mge.out ▸ hB.out.trans (hb3.mono (by have := hmr.out; omega)) : Below w.heap.size w w9)
            clear hS3 hfr3 hb3 hz3
            go_wp2_with fail
            go_ret2
            exact ⟨.slice a2 o.length cap2, by rw [hE.out]; rfl, by rw [hn3.out]; exact ⟨a2, cap2, by rw [← hl3.out], by rw [← hl3.out]; exact HS3.out, HF3.out⟩, HB3.out⟩
        · intro s w2 cnt2 hss hls hrg2 hlt hg2 hs2 hen
          have hss' := Lib.hid hss
          have hls' := Lib.hid hls
          have R2 := Lib.hid hrg2
          have hlt' := Lib.hid hlt
          have Z2 := Lib.hid (show r + 1 ≤ w2.heap.size by rw [hs2]; exact hZ.out)
          have B2 := Lib.hid (below_r hB.out hg2 Mge.out (by have := hmr.out; omega))
          have O2 := Lib.hid (own_r hO.out hg2)
          have hin := Lib.hid (ex_in s X0.out N0.out)
          have DC := Lib.hid (fun W => divide_any (y := .agg #[.int .i64 (hi (ex l s)), .int .u64 (lo (ex l s))]) (a := ex l s) 1 rfl hin.out W (by decide) (by decide))
          rw [dv_one, dvOk_one] at DC
          have HF := Lib.hid (fun h : far (ex l s) = true => nE_far hW.out ((anyFar_iff l).2 ⟨s, h⟩))
          have HS := Lib.hid (fun (h1 : far (ex l s) = false) (h2 : ex l s = 0) => hP.out.skip hss h1 h2)
          have HP := Lib.hid (fun (h1 : far (ex l s) = false) (h2 : ex l s ≠ 0) => hP.out.push hss hls h1 h2)
          have hcnt := Lib.hid hR.out.left_eq
          have R1 := Lib.hid range_any
          clear hss hls hrg2 hlt hg2 hs2 hR hB hO hZ hP
          generalize hl2 : (fun z => left z && !z.sameKey (kS s)) = left2 at *
          have hL2 := Lib.hid (fun z (h : left2 z = true) => hL.out z (by rw [← hl2] at h; simp at h; exact h.1))
          clear hl2 hL
          generalize ex l s = x at *
          have R3 := Lib.hid (ranges_below R2.out (balloc (b0 w2) (.cells #[.int .i64 (hi x), .int .u64 (lo x)] 114)))
          have O3 := Lib.hid (O2.out.keeps (balloc (b0 w2) (.cells #[.int .i64 (hi x), .int .u64 (lo x)] 114)))
          have B3 := Lib.hid (below_up3 B2.out Mge.out (balloc (b0 w2) (.cells #[.int .i64 (hi x), .int .u64 (lo x)] 114)))
          have Z3 := Lib.hid (show r + 1 ≤ (w2.alloc (.cells #[.int .i64 (hi x), .int .u64 (lo x)] 114)).heap.size by have := Z2.out; simp; omega)
          clear R2 O2 B2 Z2
          have hol := Lib.hid (show o.length < 5864062014805 by have := N0.out; have := hC.out; omega)
          cases hrg : rg x
          · have hr := Lib.hid (HF.out (far_out hrg))
            rw [hrg] at DC
            clear HS HP HF
            go_wp2_with fail
            refine (DC.out _).mono ?_
            rintro e w4 ⟨rfl, b4⟩
            have B4 := Lib.hid (Mge.out ▸ below_up3 B3.out Mge.out b4 : Below w.heap.size w w4)
            clear b4
            go_wp2_with fail
            go_ret2
            exact ⟨.slice none 0 0, by rw [hr.out.1]; rfl, by rw [hr.out.2]; exact Out.nil _ _, B4.out⟩
          · rw [hrg, kx_yes hrg] at DC
            cases hf : far x
            · by_cases h0 : x = 0
              · have HP2 := Lib.hid (HS.out hf h0)
                have q5 : (x != 0) = false := by rw [bne_eq_false_iff_eq]; exact h0
                replace h0 := Lib.hid h0
                clear HS HP HF
                go_wp2_with fail
                refine (DC.out _).mono ?_
                rintro e w4 ⟨rfl, b4⟩
                have B4 := Lib.hid (below_up3 B3.out Mge.out b4)
                have R4 := Lib.hid (ranges_below R3.out b4)
                have O4 := Lib.hid (O3.out.keeps b4)
                have Z4 := Lib.hid (Nat.le_trans Z3.out b4.size)
                clear b4 B3 R3 O3
                go_wp2_with fail
                refine (R1.out _ _).mono ?_
                rintro e w5 ⟨rfl, rfl⟩
                go_wp2_with fail
                go_roundw
                case rel =>
                  exact ⟨o, left2, cnt2, O4, R4, HP2, hL2, Lib.hid (by have := hC.out; have := hlt'.out; omega), B4, Z4⟩
                case measure =>
                  rw [R4.out.left_eq, hcnt.out]
                  exact hlt'.out
              · have HP2 := Lib.hid (HP.out hf h0)
                have q5 : (x != 0) = true := by rw [bne_iff_ne]; exact h0
                replace h0 := Lib.hid h0
                clear HS HP HF
                go_wp2_with fail
                refine (DC.out _).mono ?_
                rintro e w4 ⟨rfl, b4⟩
                have B4 := Lib.hid (below_up3 B3.out Mge.out b4)
                have R4 := Lib.hid (ranges_below R3.out b4)
                have O4 := Lib.hid (O3.out.keeps b4)
                have Z4 := Lib.hid (Nat.le_trans Z3.out b4.size)
                clear b4 B3 R3 O3
                go_wp2_with fail
                refine (R1.out _ _).mono ?_
                rintro e w5 ⟨rfl, rfl⟩
                go_wp2_with (at_builtin; refine is_app (.tmp 55) (.tmp 59) rfl ?_; refine wpList_push _ rfl (.tmp 55) (.tmp 59) rfl (r + 1) _ _ rfl (O4.out.keeps (balloc (b0 _) _)) w4.heap.size s x rfl (Bw.new w4 (s, x) 55) hol.out (by have := Z4.out; simp; omega) ?_; intro v2 w6 O6 b6)
                have R6 := ranges_base (ranges_below R4.out (balloc (b0 w4) (.cells #[.string s, .int .i64 x] 55))) b6 (by have := hmr.out; omega) (by omega)
                have B6 := Lib.hid ((below_up3 B4.out Mge.out (balloc (b0 w4) (.cells #[.string s, .int .i64 x] 55))).trans (b6.mono (by have := hmr.out; omega)))
                have Z6 := Lib.hid (show r + 1 ≤ w6.heap.size from Nat.le_trans (by have := Z4.out; simp; omega) b6.size)
                have C6 := Lib.hid (show (o ++ [(s, x)]).length + cnt2 ≤ l.length by have := hC.out; have := hlt'.out; rw [List.length_append, List.length_singleton]; omega)
                replace O6 := Lib.hid O6
                replace R6 := Lib.hid R6
                clear b6
                go_wp2_with fail
                go_roundw
                case rel =>
                  exact ⟨o ++ [(s, x)], left2, cnt2, O6, R6, HP2, hL2, C6, B6, Z6⟩
                case measure =>
                  rw [R6.out.left_eq, hcnt.out]
                  exact hlt'.out
            · have hr := Lib.hid (HF.out hf)
              clear HS HP HF
              go_wp2_with fail
              refine (DC.out _).mono ?_
              rintro e w4 ⟨rfl, b4⟩
              have B4 := Lib.hid (Mge.out ▸ below_up3 B3.out Mge.out b4 : Below w.heap.size w w4)
              clear b4
              go_wp2_with fail
              refine (R1.out _ _).mono ?_
              rintro e w5 ⟨rfl, rfl⟩
              go_wp2_with fail
              go_ret2
              exact ⟨.slice none 0 0, by rw [hr.out.1]; rfl, by rw [hr.out.2]; exact Out.nil _ _, B4.out⟩
end Go.Proofs.YtbpijgddfaefkaaGreatDoor.un
namespace Go.Proofs.YtbpijgddfaefkaaGreatDoor.pa
open Go.RowKit dec

theorem wrap_in (n : Int) : -9223372036854775808 ≤ IntKind.i64.wrap n ∧ IntKind.i64.wrap n ≤ 9223372036854775807 := by
  rw [IntKind.wrap_i64]
  omega
def Inx (x : un.Fa) : Prop := -9223372036854775808 ≤ x.2 ∧ x.2 ≤ 9223372036854775807
theorem fac_in {l r : List Tk} {v : un.Fa} (h : fac l = .ok v r) : Inx v := by
  obtain ⟨_, q, h1, h2⟩ := bind_ok h
  split at h2
  · split at h2
    · obtain ⟨_, q', h3, h4⟩ := bind_ok h2
      cases h4
      exact wrap_in _
    · obtain ⟨_, q', h3, h4⟩ := bind_ok h2
      cases h4
      exact wrap_in _
  · cases h2
    exact ⟨by show (-9223372036854775808 : Int) ≤ 1; decide, by show (1 : Int) ≤ 9223372036854775807; decide⟩
theorem more_in {α : Type} {one : List Tk → Rs α} {p : α → Prop} {s : ByteArray} (h1 : ∀ l v r, one l = .ok v r → p v ∧ r.length < l.length) : ∀ (f : Nat) (x : List α) (l : List Tk) (v : List α) (r : List Tk), (∀ y ∈ x, p y) → more one s f x l = .ok v r → (∀ y ∈ v, p y) ∧ v.length + r.length ≤ x.length + l.length
  | 0, _, _, _, _, _, h => by cases h
  | f + 1, x, l, v, r, hx, h => by
    unfold more at h
    split at h
    · rename_i t
      obtain ⟨y, q, h2, h3⟩ := bind_ok h
      obtain ⟨h4, h5⟩ := h1 _ _ _ h2
      have h6 := more_in h1 f _ _ _ _ (by intro z hz; rw [List.mem_append, List.mem_singleton] at hz; rcases hz with hz | rfl <;> first | exact hx _ hz | exact h4) h3
      have := tail_lt t
      refine ⟨h6.1, ?_⟩
      have h7 := h6.2
      rw [List.length_append, List.length_singleton] at h7
      omega
    · cases h
      exact ⟨hx, Nat.le_refl _⟩
theorem lst_in {l r : List Tk} {s : ByteArray} {v : List un.Fa} (h : lst fac s l = .ok v r) : (∀ y ∈ v, Inx y) ∧ v.length + r.length ≤ l.length := by
  obtain ⟨y, q, h2, h3⟩ := bind_ok h
  have := more_in (p := Inx) (fun l v r h => ⟨fac_in h, fac_lt h⟩) _ _ _ _ _ (by intro z hz; rw [List.mem_singleton] at hz; subst hz; exact fac_in h2) h3
  refine ⟨this.1, ?_⟩
  have h4 := this.2
  have := fac_lt h2
  rw [List.length_singleton] at h4
  omega
theorem us_of {base : Nat} {w : World} {v : Value} {l : List un.Fa} (h : un.Out base w v l) : Uv base w v l := by
  obtain ⟨a, cap, rfl, S, hf⟩ := h
  refine ⟨a, cap, rfl, ?_⟩
  rcases S.hat with h0 | ⟨b, off, rfl, hC⟩
  · exact .inl h0
  · exact .inr ⟨b, off, rfl, (hf _ rfl).1, hC, (hf _ rfl).2⟩
theorem Us.more {C C' : Nat} {w : World} {a : Option Addr} {l : List un.Fa} (h : Us C w a l) (hC : C' ≤ C) : Us C' w a l := h.less hC
theorem Uv.less {C C' : Nat} {w : World} {v : Value} {l : List un.Fa} (h : Uv C w v l) (hC : C' ≤ C) : Uv C' w v l := by
  obtain ⟨ua, uc, e, U⟩ := h
  exact ⟨ua, uc, e, U.less hC⟩
theorem mv_cell {B : Nat} {w w' : World} (M : Mv w.heap.size B w w') {b o : Nat} {v : Value} (hb : b ≠ B) (hc : w.cell? ⟨b, o, none⟩ = some v) : w'.cell? ⟨b, o, none⟩ = some v := (World.cell?_of_block (w := w) (M.block b (block_lt_of_cell hc) hb)).trans hc
theorem sl_kp {B : Nat} {w w' : World} {a : Option Addr} {n cap : Nat} {l : List un.Fa} {base : Nat} (h : un.Sl w a n cap l) (M : Mv w.heap.size B w w') (hB : B < base) (hf : ∀ x, a = some x → base ≤ x.block) : un.Sl w' a n cap l :=
  { h with hat := h.hat.imp id fun ⟨b, off, e, hC⟩ => ⟨b, off, e, fun j hj => ⟨mv_cell M (by have := hf _ e; simp only at this; omega) (hC j hj).1, mv_cell M (by have := hf _ e; simp only at this; omega) (hC j hj).2⟩⟩ }
theorem own_from {base : Nat} {w : World} {v : Value} {l : List un.Fa} (h : un.Own w base v l) : ∀ a n cap, v = .slice a n cap → ∀ x, a = some x → base ≤ x.block := by
  intro a n cap hv x hx
  rcases h.out with ⟨rfl, _⟩ | ⟨g, c, rfl, hb, _⟩
  · cases hv
    cases hx
  · cases hv
    cases hx
    exact hb
set_option maxRecDepth 100000 in
set_option maxHeartbeats 1000000 in
theorem unit_r (B : Nat) (l : List Tk) (w : World) (h : Ps w B l) (r : Rs (List un.Fa)) (hr : uni l = r) (hne : r ≠ .out) :
    Calls Tryz.prog 95 #[.pointer (some ⟨B, 0, none⟩)] w (Pst B Uv r w) := by
  have P := Lib.hid h
  have M := Lib.hid (Mv.refl w.heap.size B w)
  have NE := Lib.hid hne
  unfold uni at hr
  have HR := Lib.hid hr
  clear h hne hr
  have C1 := Lib.hid (now_any B l w P.out)
  have F1 := tf2
  have F2 := mi_prob
  cases ht : isT ⟨#[91]⟩ l
  · replace HR := HR.out
    rw [ht, if_neg (by decide)] at HR
    replace HR := Lib.hid HR
    have HT := Lib.hid ht
    clear ht
    go_enter Tryz.func95, Tryz.ntmps95
    go_wp2_with fail
    refine (C1.out).mono ?_
    rintro e w1 ⟨rfl, b⟩
    have mm := Mv.of (B := B) b
    replace M := Lib.hid (M.out.next mm)
    replace P := Lib.hid (P.out.keeps b)
    clear mm b
    go_wp2_with fail
    refine (skip_no B ⟨#[91]⟩ l w1 P.out HT.out).mono ?_
    rintro e w2 ⟨rfl, pp, mm⟩
    replace M := Lib.hid (M.out.next mm)
    replace P := Lib.hid pp
    clear pp mm
    go_wp2_with fail
    go_ret
    exact pst_ok HR.out.symm ⟨none, 0, rfl, Us.nil _ _ _⟩ P.out M.out
  · replace HR := HR.out
    rw [ht, if_pos rfl] at HR
    replace HR := Lib.hid HR
    have HT := Lib.hid ht
    clear ht
    generalize (hd l).k = xk at *
    generalize (hd l).t = xt at *
    generalize (hd l).a = xa at *
    go_enter Tryz.func95, Tryz.ntmps95
    go_wp2_with fail
    refine (C1.out).mono ?_
    rintro e w1 ⟨rfl, b⟩
    have mm := Mv.of (B := B) b
    replace M := Lib.hid (M.out.next mm)
    replace P := Lib.hid (P.out.keeps b)
    clear mm b
    go_wp2_with fail
    refine (skip_yes B ⟨#[91]⟩ l w1 P.out HT.out).mono ?_
    rintro e w2 ⟨rfl, pp, mm⟩
    replace M := Lib.hid (M.out.next mm)
    replace P := Lib.hid pp
    clear pp mm
    have HL := Lib.hid P.out.tl.ln
    have hlt2 := Lib.hid P.out.lt
    go_wp2_with fail
    refine (listFa_r B ⟨#[42]⟩ l.tail _ P.out _ rfl (lst_ne (fun _ _ _ => fac_lt) fac_ne _)).mono ?_
    rintro e w3 h3
    rcases hG3 : lst fac ⟨#[42]⟩ l.tail with _ | ⟨v3, l3⟩ | ⟨a3, c3, l3⟩
    · exact absurd (by rw [← HR.out, hG3]; rfl) NE.out
    rotate_left
    · rw [hG3] at h3
      obtain ⟨rfl, pp, mm⟩ := h3
      unfold thr
      have hno := Lib.hid (show r = .no a3 c3 l3 by rw [← HR.out, hG3]; rfl)
      have PP := Lib.hid pp
      have MM := Lib.hid (M.out.next mm)
      clear pp mm hG3
      go_wp2_with fail
      exact ⟨rfl, pst_no hno.out PP.out MM.out⟩
    rw [hG3] at h3
    obtain ⟨u3, rfl, vv, pp, mm⟩ := h3
    replace HR := HR.out
    rw [hG3] at HR
    simp only [bind_okE] at HR
    replace HR := Lib.hid HR
    replace M := Lib.hid (M.out.next mm)
    replace P := Lib.hid pp
    clear pp mm
    have hin := Lib.hid (lst_in hG3)
    clear hG3
    have V3 := Lib.hid vv
    clear vv
    have hlt3 := Lib.hid (show B < w2.heap.size from hlt2.out)
    have hfr0 := own_from V3.out
    obtain ⟨ua, uc, rfl, S3⟩ := V3.out.sl
    have hfr := Lib.hid (fun x hx => hfr0 ua _ uc rfl x hx)
    clear hfr0
    replace V3 := Lib.hid S3
    clear S3
    go_wp2_with fail
    refine (need_any B ⟨#[93]⟩ l3 _ P.out).mono ?_
    rintro e w4 h4
    rcases hG4 : need ⟨#[93]⟩ l3 with _ | ⟨v4, l4⟩ | ⟨a4, c4, l4⟩
    · exact absurd (by rw [← HR.out, hG4]; rfl) NE.out
    rotate_left
    · rw [hG4] at h4
      obtain ⟨rfl, pp, mm⟩ := h4
      unfold thr
      have hno := Lib.hid (show r = .no a4 c4 l4 by rw [← HR.out, hG4]; rfl)
      have PP := Lib.hid pp
      have MM := Lib.hid (M.out.next mm)
      clear pp mm hG4
      go_wp2_with fail
      exact ⟨rfl, pst_no hno.out PP.out MM.out⟩
    rw [hG4] at h4
    obtain ⟨u4, rfl, vv, pp, mm⟩ := h4
    replace HR := HR.out
    rw [hG4] at HR
    simp only [bind_okE] at HR
    replace HR := Lib.hid HR
    replace M := Lib.hid (M.out.next mm)
    replace V3 := Lib.hid (sl_kp V3.out mm hlt3.out hfr.out)
    replace P := Lib.hid pp
    clear pp mm hG4
    obtain rfl : u4 = .tuple #[] := vv
    go_wp2_with fail
    refine (un.normal_any ua v3.length uc v3 w4 V3.out (fun x hx => hin.out.1 x hx) (by have := hin.out.2; have := HL.out; omega)).mono ?_
    have HR' := HR.out
    rintro e w5 ⟨u5, rfl, U5, b5⟩
    have P5 := Lib.hid (P.out.keeps b5)
    have hsz := Lib.hid (M.out.size)
    have M5 := Lib.hid (M.out.nextB b5)
    have U6 := Lib.hid (Uv.less (us_of U5) hsz.out)
    clear b5 U5
    by_cases hz : un.nE v3 = 0
    · have q1 : (un.nE v3 != 0) = false := by simp [hz]
      rw [if_pos hz] at HR'
      have HR2 := Lib.hid HR'
      clear HR' hz
      generalize un.nE v3 = ne at *
      go_wp2_with fail
      go_ret
      exact pst_ok HR2.out.symm U6.out P5.out M5.out
    · have q1 : (un.nE v3 != 0) = true := by simp [hz]
      rw [if_neg hz] at HR'
      have HR2 := Lib.hid HR'
      clear HR' hz
      generalize un.nE v3 = ne at *
      go_wp2_with fail
      exact ⟨rfl, pst_no HR2.out.symm P5.out M5.out⟩
end Go.Proofs.YtbpijgddfaefkaaGreatDoor.pa
