/-
  The reference's rule of proper form of aggregates.
-/
import Derived.Test.YtbahfelnbofjjaaGreatDoorT04
import Derived.Test.YtbahfelnbofjjaaGreatDoorT06
import Derived.Test.YtbahfelnbofjjaaGreatDoorT17
set_option maxRecDepth 100000
set_option maxHeartbeats 16000000
namespace Go.Proofs.YtbahfelnbofjjaaGreatDoor.ch
open Go.RowKit dec
theorem off_take {P : Program} {Q : Exit → Act → World → Prop} {md : Region.Mode} {S : World → Prop} {l : List Oper} {i d : Nat} {oi : Oper} {fuel : Nat} {listed : Array Bool} {t : List Value} {ds : List Deferred} {w : World} (hi : l[i]? = some oi)
  (hs : Region.noSelect l.toArray = true) (hf : Region.free md l.toArray listed i = true) (hr : (Region.ready md l.toArray listed).contains i = true) (hd : oi.dst = some d)
  (hQ : ∀ c a w, Q (.panic c) (a.put (some d) undef) w → Q (.panic c) a w) (hw : Region.wanted oi (yielded l.toArray t.toArray) = false) (hS : S w)
  (h : wpAnyH P md l.toArray Q S fuel (listed.setIfInBounds i true) ⟨(t.set d undef).toArray, ds⟩ w) : wpAnyH P md l.toArray Q S (fuel + 1) listed ⟨t.toArray, ds⟩ w := by
 refine wpAnyH_take (i := i) (oi := oi) (v := undef) (by simpa using hi) hs hf hr (by rw [hd]; exact hQ) (.inr ⟨hw, rfl⟩) hS ?_
 rw [hd]
 simpa [Act.put] using h
theorem off_one {P : Program} {Q : Exit → Act → World → Prop} {md : Region.Mode} {S : World → Prop} {l : List Oper} {i : Nat} {oi : Oper} {fuel : Nat} {listed : Array Bool} {a : Act} {w : World} (hi : l[i]? = some oi)
  (hr : Region.ready md l.toArray listed = [i]) (hw : Region.wanted oi (yielded l.toArray a.tmps) = false) (hS : S w)
  (h : wpAnyH P md l.toArray Q S fuel (listed.setIfInBounds i true) (a.put oi.dst undef) w) : wpAnyH P md l.toArray Q S (fuel + 1) listed a w := by
 refine wpAnyH_ready hr (by simp) (AllReadyH.cons (o := oi) (by simpa using hi) (fun K hK => ?_) AllReadyH.nil)
 rw [if_neg (by rw [hw]; decide)]
 exact hK.out _ _ hS (fun _ => h)
def agwH (h : Hd) : Hd := { h0 with k := 5, op := h.op, tb := h.tb, pa := h.pa, wk := h.wk, ws := h.ws }
def topR (op : ByteArray) : Int := if op = ⟨#[100, 101, 99, 97, 121]⟩ then 1073741824 else if op = ⟨#[113, 117, 97, 110, 116, 105, 108, 101]⟩ then 1000 else 0
def ragG (h : Hd) (t : Int) : Bool := (aggL.any fun t => decide (t = h.op)) && (name h.tb && (winH h.wk h.ws && (decide (h.pa ≤ t) && decide (min t 1 ≤ h.pa))))
def ragR (h : Hd) : Bool := ragG h (topR h.op) && flR h (agwH h)
theorem raggregate_any (h : Hd) (n : Nat) (ua aa : Option Addr) (uc ac : Nat) (w : World) (hU : un.Sl w ua h.un.length uc h.un) : Calls Tryz.prog 171 #[.agg (exC h n ua uc aa ac)] w (Bl (ragR h) w) := by
 have bb := balloc (b0 w) (.cells (exC h n ua uc aa ac) 29)
 have B0 := Lib.hid bb
 have G := Lib.hid (Blk.new w 29 (exC h n ua uc aa ac))
 have S0 := Lib.hid (hU.keeps bb)
 have C1 := Lib.hid (fun (W : World) => aggregates_r W)
 have C2 := Lib.hid (fun (a : Option Addr) (W : World) (S : SsV W a aggL) => (show Calls Tryz.prog 146 #[.string h.op, .slice a 10 10] W (Bl (aggL.any fun t => decide (t = h.op)) W) from (one_any h.op a 10 aggL (by decide) W S).mono fun _ _ hh => ⟨hh.1, hh.2 ▸ b0 W⟩))
 have C3 := Lib.hid (fun (W : World) => rname_any h.tb W)
 have C4 := Lib.hid (fun (W : World) => window_any h.wk h.ws W)
 have C5 := Lib.hid (fun (W : World) (S : un.Sl W ua h.un.length uc h.un) => (show Calls Tryz.prog 70 #[.agg #[.int .i64 h.k, .string h.op, .string h.nm, .string h.tb, .int .i64 h.vk, .int .i64 h.vn, .string h.vs, .slice ua h.un.length uc, .int .i64 h.pa, .int .i64 h.wk, .int .i64 h.ws, .slice aa n ac], .agg #[.int .i64 5, .string h.op, .string ⟨#[]⟩, .string h.tb, .int .i64 0, .int .i64 0, .string ⟨#[]⟩, .slice none 0 0, .int .i64 h.pa, .int .i64 h.wk, .int .i64 h.ws, .slice none 0 0]] W (Bl (flR h (agwH h)) W) from flat_any h (agwH h) n 0 ua none aa none uc 0 ac 0 W S (un.Sl.nil W)))
 have hE : ragR h = (ragG h (topR h.op) && flR h (agwH h)) := rfl
 clear hU bb
 unfold ragG at hE
 unfold exC at *
 generalize flR h (agwH h) = r at *
 generalize (aggL.any fun t => decide (t = h.op)) = A at *
 generalize name h.tb = N at *
 generalize winH h.wk h.ws = V at *
 go_enter Tryz.func171, Tryz.ntmps171
 go_upto_region 2 with fail
 generalize hw0 : (w.alloc (.cells #[.int .i64 h.k, .string h.op, .string h.nm, .string h.tb, .int .i64 h.vk, .int .i64 h.vn, .string h.vs, .slice ua h.un.length uc, .int .i64 h.pa, .int .i64 h.wk, .int .i64 h.ws, .slice aa n ac] 29)) = w0 at *
 clear hw0
 have c1 := G.out.cell 1
 simp only [List.getElem?_toArray, List.getElem?_cons_zero, List.getElem?_cons_succ] at c1
 by_cases hd : h.op = ⟨#[100, 101, 99, 97, 121]⟩
 ·have nq : h.op ≠ ⟨#[113, 117, 97, 110, 116, 105, 108, 101]⟩ := fun e => by rw [hd] at e; exact absurd e (by decide)
  go_upto_region 6 with fail
  have hT : topR h.op = 1073741824 := by unfold topR; exact if_pos hd
  rw [hT] at hE
  clear hT
  replace hE := Lib.hid hE
  clear c1 hd nq
  go_cut [39] from 10 to 40 (fun v wx => ∃ g : Bool, v = .bool g ∧ Hid (ragR h = (!g && r)) ∧ Hid (Below w0.heap.size w0 wx))
  case first =>
   refine wp_region_held_drew (S := fun w' => Below w0.heap.size w0 w') (by kernel_rfl) (b0 w0).drew (fun hH => ?_)
   refine held_take (i := 0) (d := 10) (v := ?_) rfl (by kernel_rfl) (by kernel_rfl) (by kernel_rfl) rfl (fun _ _ _ h => h) rfl hH (fun w' hS => ?_) ?_
   rotate_left
   ·go_simp; first | done | with_reducible rfl
   simp only [List.set_cons_zero, List.set_cons_succ]
   refine held_take (i := 1) (d := 11) (v := ?_) rfl (by kernel_rfl) (by kernel_rfl) (by kernel_rfl) rfl (fun _ _ _ h => h) rfl hH (fun w' hS => ?_) ?_
   rotate_left
   ·have m1 := (G.out.keeps hS).cell 1; simp only [List.getElem?_toArray, List.getElem?_cons_zero, List.getElem?_cons_succ] at m1; go_simp; first | done | with_reducible rfl
   simp only [List.set_cons_zero, List.set_cons_succ]
   generalize w0.drew = yy at *
   refine held_only (i := 2) rfl (by kernel_rfl) rfl (fun K hK => ?_)
   go_simp
   refine (C1.out _).mono ?_
   rintro e y61 ⟨ag, rfl, sag, b61⟩
   skip
   refine hK.out _ _ (bnext hH b61) (fun hH => ?_)
   clear hK K
   have SA := Lib.hid sag
   clear b61 sag
   refine held_only (i := 3) rfl (by kernel_rfl) rfl (fun K hK => ?_)
   go_simp
   refine (C2.out ag _ SA.out).mono ?_
   rintro e y62 ⟨rfl, b62⟩
   skip
   refine hK.out _ _ (bnext hH b62) (fun hH => ?_)
   clear hK K
   replace SA := Lib.hid (SA.out.keeps b62)
   clear b62
   cases A
   ·refine held_take (i := 4) (d := 14) (v := ?_) rfl (by kernel_rfl) (by kernel_rfl) (by kernel_rfl) rfl (fun _ _ _ h => h) rfl hH (fun w' hS => ?_) ?_
    rotate_left
    ·go_simp; first | done | with_reducible rfl
    simp only [List.set_cons_zero, List.set_cons_succ]
    refine held_take (i := 5) (d := 15) (v := ?_) rfl (by kernel_rfl) (by kernel_rfl) (by kernel_rfl) rfl (fun _ _ _ h => h) rfl hH (fun w' hS => ?_) ?_
    rotate_left
    ·go_simp; first | done | with_reducible rfl
    simp only [List.set_cons_zero, List.set_cons_succ]
    refine off_take (i := 6) (d := 16) rfl (by kernel_rfl) (by kernel_rfl) (by kernel_rfl) rfl (fun _ _ _ h => h) rfl hH ?_
    simp only [List.set_cons_zero, List.set_cons_succ]
    refine off_take (i := 7) (d := 17) rfl (by kernel_rfl) (by kernel_rfl) (by kernel_rfl) rfl (fun _ _ _ h => h) rfl hH ?_
    simp only [List.set_cons_zero, List.set_cons_succ]
    refine off_one (i := 8) rfl (by kernel_rfl) rfl hH ?_
    go_simp
    refine off_take (i := 9) (d := 19) rfl (by kernel_rfl) (by kernel_rfl) (by kernel_rfl) rfl (fun _ _ _ h => h) rfl hH ?_
    simp only [List.set_cons_zero, List.set_cons_succ]
    refine held_take (i := 10) (d := 20) (v := ?_) rfl (by kernel_rfl) (by kernel_rfl) (by kernel_rfl) rfl (fun _ _ _ h => h) rfl hH (fun w' hS => ?_) ?_
    rotate_left
    ·go_simp; first | done | with_reducible rfl
    simp only [List.set_cons_zero, List.set_cons_succ]
    refine held_take (i := 11) (d := 21) (v := ?_) rfl (by kernel_rfl) (by kernel_rfl) (by kernel_rfl) rfl (fun _ _ _ h => h) rfl hH (fun w' hS => ?_) ?_
    rotate_left
    ·go_simp; first | done | with_reducible rfl
    simp only [List.set_cons_zero, List.set_cons_succ]
    refine off_take (i := 12) (d := 22) rfl (by kernel_rfl) (by kernel_rfl) (by kernel_rfl) rfl (fun _ _ _ h => h) rfl hH ?_
    simp only [List.set_cons_zero, List.set_cons_succ]
    refine off_take (i := 13) (d := 23) rfl (by kernel_rfl) (by kernel_rfl) (by kernel_rfl) rfl (fun _ _ _ h => h) rfl hH ?_
    simp only [List.set_cons_zero, List.set_cons_succ]
    refine off_one (i := 14) rfl (by kernel_rfl) rfl hH ?_
    go_simp
    refine off_take (i := 15) (d := 25) rfl (by kernel_rfl) (by kernel_rfl) (by kernel_rfl) rfl (fun _ _ _ h => h) rfl hH ?_
    simp only [List.set_cons_zero, List.set_cons_succ]
    refine held_take (i := 16) (d := 26) (v := ?_) rfl (by kernel_rfl) (by kernel_rfl) (by kernel_rfl) rfl (fun _ _ _ h => h) rfl hH (fun w' hS => ?_) ?_
    rotate_left
    ·go_simp; first | done | with_reducible rfl
    simp only [List.set_cons_zero, List.set_cons_succ]
    refine held_take (i := 17) (d := 27) (v := ?_) rfl (by kernel_rfl) (by kernel_rfl) (by kernel_rfl) rfl (fun _ _ _ h => h) rfl hH (fun w' hS => ?_) ?_
    rotate_left
    ·go_simp; first | done | with_reducible rfl
    simp only [List.set_cons_zero, List.set_cons_succ]
    refine off_take (i := 18) (d := 28) rfl (by kernel_rfl) (by kernel_rfl) (by kernel_rfl) rfl (fun _ _ _ h => h) rfl hH ?_
    simp only [List.set_cons_zero, List.set_cons_succ]
    refine off_take (i := 19) (d := 29) rfl (by kernel_rfl) (by kernel_rfl) (by kernel_rfl) rfl (fun _ _ _ h => h) rfl hH ?_
    simp only [List.set_cons_zero, List.set_cons_succ]
    refine off_take (i := 20) (d := 30) rfl (by kernel_rfl) (by kernel_rfl) (by kernel_rfl) rfl (fun _ _ _ h => h) rfl hH ?_
    simp only [List.set_cons_zero, List.set_cons_succ]
    refine off_take (i := 21) (d := 31) rfl (by kernel_rfl) (by kernel_rfl) (by kernel_rfl) rfl (fun _ _ _ h => h) rfl hH ?_
    simp only [List.set_cons_zero, List.set_cons_succ]
    refine held_take (i := 22) (d := 32) (v := ?_) rfl (by kernel_rfl) (by kernel_rfl) (by kernel_rfl) rfl (fun _ _ _ h => h) rfl hH (fun w' hS => ?_) ?_
    rotate_left
    ·go_simp; first | done | with_reducible rfl
    simp only [List.set_cons_zero, List.set_cons_succ]
    refine held_take (i := 23) (d := 33) (v := ?_) rfl (by kernel_rfl) (by kernel_rfl) (by kernel_rfl) rfl (fun _ _ _ h => h) rfl hH (fun w' hS => ?_) ?_
    rotate_left
    ·go_simp; first | done | with_reducible rfl
    simp only [List.set_cons_zero, List.set_cons_succ]
    refine off_take (i := 24) (d := 34) rfl (by kernel_rfl) (by kernel_rfl) (by kernel_rfl) rfl (fun _ _ _ h => h) rfl hH ?_
    simp only [List.set_cons_zero, List.set_cons_succ]
    refine off_take (i := 25) (d := 35) rfl (by kernel_rfl) (by kernel_rfl) (by kernel_rfl) rfl (fun _ _ _ h => h) rfl hH ?_
    simp only [List.set_cons_zero, List.set_cons_succ]
    refine off_take (i := 26) (d := 36) rfl (by kernel_rfl) (by kernel_rfl) (by kernel_rfl) rfl (fun _ _ _ h => h) rfl hH ?_
    simp only [List.set_cons_zero, List.set_cons_succ]
    refine off_one (i := 27) rfl (by kernel_rfl) rfl hH ?_
    go_simp
    refine off_take (i := 28) (d := 38) rfl (by kernel_rfl) (by kernel_rfl) (by kernel_rfl) rfl (fun _ _ _ h => h) rfl hH ?_
    simp only [List.set_cons_zero, List.set_cons_succ]
    refine held_take (i := 29) (d := 39) (v := ?_) rfl (by kernel_rfl) (by kernel_rfl) (by kernel_rfl) rfl (fun _ _ _ h => h) rfl hH (fun w' hS => ?_) ?_
    rotate_left
    ·go_simp; first | done | with_reducible rfl
    simp only [List.set_cons_zero, List.set_cons_succ]
    refine wpAnyH_done (by kernel_rfl) ?_ _
    go_wp2_with fail
    go_meet
    case rel => exact ⟨true, rfl, Lib.hid (by rw [hE.out]; rfl), Lib.hid hH⟩
   ·refine held_take (i := 4) (d := 14) (v := ?_) rfl (by kernel_rfl) (by kernel_rfl) (by kernel_rfl) rfl (fun _ _ _ h => h) rfl hH (fun w' hS => ?_) ?_
    rotate_left
    ·go_simp; first | done | with_reducible rfl
    simp only [List.set_cons_zero, List.set_cons_succ]
    refine held_take (i := 5) (d := 15) (v := ?_) rfl (by kernel_rfl) (by kernel_rfl) (by kernel_rfl) rfl (fun _ _ _ h => h) rfl hH (fun w' hS => ?_) ?_
    rotate_left
    ·go_simp; first | done | with_reducible rfl
    simp only [List.set_cons_zero, List.set_cons_succ]
    refine held_take (i := 6) (d := 16) (v := ?_) rfl (by kernel_rfl) (by kernel_rfl) (by kernel_rfl) rfl (fun _ _ _ h => h) rfl hH (fun w' hS => ?_) ?_
    rotate_left
    ·go_simp; first | done | with_reducible rfl
    simp only [List.set_cons_zero, List.set_cons_succ]
    refine held_take (i := 7) (d := 17) (v := ?_) rfl (by kernel_rfl) (by kernel_rfl) (by kernel_rfl) rfl (fun _ _ _ h => h) rfl hH (fun w' hS => ?_) ?_
    rotate_left
    ·have m3 := (G.out.keeps hS).cell 3; simp only [List.getElem?_toArray, List.getElem?_cons_zero, List.getElem?_cons_succ] at m3; go_simp; first | done | with_reducible rfl
    simp only [List.set_cons_zero, List.set_cons_succ]
    refine held_only (i := 8) rfl (by kernel_rfl) rfl (fun K hK => ?_)
    go_simp
    refine (C3.out _).mono ?_
    rintro e y63 ⟨rfl, b63⟩
    skip
    refine hK.out _ _ (bnext hH b63) (fun hH => ?_)
    clear hK K
    replace SA := Lib.hid (SA.out.keeps b63)
    clear b63
    refine held_take (i := 9) (d := 19) (v := ?_) rfl (by kernel_rfl) (by kernel_rfl) (by kernel_rfl) rfl (fun _ _ _ h => h) rfl hH (fun w' hS => ?_) ?_
    rotate_left
    ·go_simp; first | done | with_reducible rfl
    simp only [List.set_cons_zero, List.set_cons_succ]
    cases N
    ·refine held_take (i := 10) (d := 20) (v := ?_) rfl (by kernel_rfl) (by kernel_rfl) (by kernel_rfl) rfl (fun _ _ _ h => h) rfl hH (fun w' hS => ?_) ?_
     rotate_left
     ·go_simp; first | done | with_reducible rfl
     simp only [List.set_cons_zero, List.set_cons_succ]
     refine held_take (i := 11) (d := 21) (v := ?_) rfl (by kernel_rfl) (by kernel_rfl) (by kernel_rfl) rfl (fun _ _ _ h => h) rfl hH (fun w' hS => ?_) ?_
     rotate_left
     ·go_simp; first | done | with_reducible rfl
     simp only [List.set_cons_zero, List.set_cons_succ]
     refine off_take (i := 12) (d := 22) rfl (by kernel_rfl) (by kernel_rfl) (by kernel_rfl) rfl (fun _ _ _ h => h) rfl hH ?_
     simp only [List.set_cons_zero, List.set_cons_succ]
     refine off_take (i := 13) (d := 23) rfl (by kernel_rfl) (by kernel_rfl) (by kernel_rfl) rfl (fun _ _ _ h => h) rfl hH ?_
     simp only [List.set_cons_zero, List.set_cons_succ]
     refine off_one (i := 14) rfl (by kernel_rfl) rfl hH ?_
     go_simp
     refine off_take (i := 15) (d := 25) rfl (by kernel_rfl) (by kernel_rfl) (by kernel_rfl) rfl (fun _ _ _ h => h) rfl hH ?_
     simp only [List.set_cons_zero, List.set_cons_succ]
     refine held_take (i := 16) (d := 26) (v := ?_) rfl (by kernel_rfl) (by kernel_rfl) (by kernel_rfl) rfl (fun _ _ _ h => h) rfl hH (fun w' hS => ?_) ?_
     rotate_left
     ·go_simp; first | done | with_reducible rfl
     simp only [List.set_cons_zero, List.set_cons_succ]
     refine held_take (i := 17) (d := 27) (v := ?_) rfl (by kernel_rfl) (by kernel_rfl) (by kernel_rfl) rfl (fun _ _ _ h => h) rfl hH (fun w' hS => ?_) ?_
     rotate_left
     ·go_simp; first | done | with_reducible rfl
     simp only [List.set_cons_zero, List.set_cons_succ]
     refine off_take (i := 18) (d := 28) rfl (by kernel_rfl) (by kernel_rfl) (by kernel_rfl) rfl (fun _ _ _ h => h) rfl hH ?_
     simp only [List.set_cons_zero, List.set_cons_succ]
     refine off_take (i := 19) (d := 29) rfl (by kernel_rfl) (by kernel_rfl) (by kernel_rfl) rfl (fun _ _ _ h => h) rfl hH ?_
     simp only [List.set_cons_zero, List.set_cons_succ]
     refine off_take (i := 20) (d := 30) rfl (by kernel_rfl) (by kernel_rfl) (by kernel_rfl) rfl (fun _ _ _ h => h) rfl hH ?_
     simp only [List.set_cons_zero, List.set_cons_succ]
     refine off_take (i := 21) (d := 31) rfl (by kernel_rfl) (by kernel_rfl) (by kernel_rfl) rfl (fun _ _ _ h => h) rfl hH ?_
     simp only [List.set_cons_zero, List.set_cons_succ]
     refine held_take (i := 22) (d := 32) (v := ?_) rfl (by kernel_rfl) (by kernel_rfl) (by kernel_rfl) rfl (fun _ _ _ h => h) rfl hH (fun w' hS => ?_) ?_
     rotate_left
     ·go_simp; first | done | with_reducible rfl
     simp only [List.set_cons_zero, List.set_cons_succ]
     refine held_take (i := 23) (d := 33) (v := ?_) rfl (by kernel_rfl) (by kernel_rfl) (by kernel_rfl) rfl (fun _ _ _ h => h) rfl hH (fun w' hS => ?_) ?_
     rotate_left
     ·go_simp; first | done | with_reducible rfl
     simp only [List.set_cons_zero, List.set_cons_succ]
     refine off_take (i := 24) (d := 34) rfl (by kernel_rfl) (by kernel_rfl) (by kernel_rfl) rfl (fun _ _ _ h => h) rfl hH ?_
     simp only [List.set_cons_zero, List.set_cons_succ]
     refine off_take (i := 25) (d := 35) rfl (by kernel_rfl) (by kernel_rfl) (by kernel_rfl) rfl (fun _ _ _ h => h) rfl hH ?_
     simp only [List.set_cons_zero, List.set_cons_succ]
     refine off_take (i := 26) (d := 36) rfl (by kernel_rfl) (by kernel_rfl) (by kernel_rfl) rfl (fun _ _ _ h => h) rfl hH ?_
     simp only [List.set_cons_zero, List.set_cons_succ]
     refine off_one (i := 27) rfl (by kernel_rfl) rfl hH ?_
     go_simp
     refine off_take (i := 28) (d := 38) rfl (by kernel_rfl) (by kernel_rfl) (by kernel_rfl) rfl (fun _ _ _ h => h) rfl hH ?_
     simp only [List.set_cons_zero, List.set_cons_succ]
     refine held_take (i := 29) (d := 39) (v := ?_) rfl (by kernel_rfl) (by kernel_rfl) (by kernel_rfl) rfl (fun _ _ _ h => h) rfl hH (fun w' hS => ?_) ?_
     rotate_left
     ·go_simp; first | done | with_reducible rfl
     simp only [List.set_cons_zero, List.set_cons_succ]
     refine wpAnyH_done (by kernel_rfl) ?_ _
     go_wp2_with fail
     go_meet
     case rel => exact ⟨true, rfl, Lib.hid (by rw [hE.out]; rfl), Lib.hid hH⟩
    ·refine held_take (i := 10) (d := 20) (v := ?_) rfl (by kernel_rfl) (by kernel_rfl) (by kernel_rfl) rfl (fun _ _ _ h => h) rfl hH (fun w' hS => ?_) ?_
     rotate_left
     ·go_simp; first | done | with_reducible rfl
     simp only [List.set_cons_zero, List.set_cons_succ]
     refine held_take (i := 11) (d := 21) (v := ?_) rfl (by kernel_rfl) (by kernel_rfl) (by kernel_rfl) rfl (fun _ _ _ h => h) rfl hH (fun w' hS => ?_) ?_
     rotate_left
     ·go_simp; first | done | with_reducible rfl
     simp only [List.set_cons_zero, List.set_cons_succ]
     refine held_take (i := 12) (d := 22) (v := ?_) rfl (by kernel_rfl) (by kernel_rfl) (by kernel_rfl) rfl (fun _ _ _ h => h) rfl hH (fun w' hS => ?_) ?_
     rotate_left
     ·go_simp; first | done | with_reducible rfl
     simp only [List.set_cons_zero, List.set_cons_succ]
     refine held_take (i := 13) (d := 23) (v := .agg #[.int .i64 h.wk, .int .i64 h.ws]) rfl (by kernel_rfl) (by kernel_rfl) (by kernel_rfl) rfl (fun _ _ _ h => h) rfl hH (fun w' hS => yield_loadM infWi Tryz.underlying26 rfl (.tmp 22) rfl w.heap.size 9 #[.int .i64 h.wk, .int .i64 h.ws] rfl (blk_range (G.out.keeps hS) 9 [.int .i64 h.wk, .int .i64 h.ws] rfl) rfl) ?_
     simp only [List.set_cons_zero, List.set_cons_succ]
     refine held_only (i := 14) rfl (by kernel_rfl) rfl (fun K hK => ?_)
     go_simp
     refine (C4.out _).mono ?_
     rintro e y64 ⟨rfl, b64⟩
     skip
     refine hK.out _ _ (bnext hH b64) (fun hH => ?_)
     clear hK K
     replace SA := Lib.hid (SA.out.keeps b64)
     clear b64
     refine held_take (i := 15) (d := 25) (v := ?_) rfl (by kernel_rfl) (by kernel_rfl) (by kernel_rfl) rfl (fun _ _ _ h => h) rfl hH (fun w' hS => ?_) ?_
     rotate_left
     ·go_simp; first | done | with_reducible rfl
     simp only [List.set_cons_zero, List.set_cons_succ]
     cases V
     ·refine held_take (i := 16) (d := 26) (v := ?_) rfl (by kernel_rfl) (by kernel_rfl) (by kernel_rfl) rfl (fun _ _ _ h => h) rfl hH (fun w' hS => ?_) ?_
      rotate_left
      ·go_simp; first | done | with_reducible rfl
      simp only [List.set_cons_zero, List.set_cons_succ]
      refine held_take (i := 17) (d := 27) (v := ?_) rfl (by kernel_rfl) (by kernel_rfl) (by kernel_rfl) rfl (fun _ _ _ h => h) rfl hH (fun w' hS => ?_) ?_
      rotate_left
      ·go_simp; first | done | with_reducible rfl
      simp only [List.set_cons_zero, List.set_cons_succ]
      refine off_take (i := 18) (d := 28) rfl (by kernel_rfl) (by kernel_rfl) (by kernel_rfl) rfl (fun _ _ _ h => h) rfl hH ?_
      simp only [List.set_cons_zero, List.set_cons_succ]
      refine off_take (i := 19) (d := 29) rfl (by kernel_rfl) (by kernel_rfl) (by kernel_rfl) rfl (fun _ _ _ h => h) rfl hH ?_
      simp only [List.set_cons_zero, List.set_cons_succ]
      refine off_take (i := 20) (d := 30) rfl (by kernel_rfl) (by kernel_rfl) (by kernel_rfl) rfl (fun _ _ _ h => h) rfl hH ?_
      simp only [List.set_cons_zero, List.set_cons_succ]
      refine off_take (i := 21) (d := 31) rfl (by kernel_rfl) (by kernel_rfl) (by kernel_rfl) rfl (fun _ _ _ h => h) rfl hH ?_
      simp only [List.set_cons_zero, List.set_cons_succ]
      refine held_take (i := 22) (d := 32) (v := ?_) rfl (by kernel_rfl) (by kernel_rfl) (by kernel_rfl) rfl (fun _ _ _ h => h) rfl hH (fun w' hS => ?_) ?_
      rotate_left
      ·go_simp; first | done | with_reducible rfl
      simp only [List.set_cons_zero, List.set_cons_succ]
      refine held_take (i := 23) (d := 33) (v := ?_) rfl (by kernel_rfl) (by kernel_rfl) (by kernel_rfl) rfl (fun _ _ _ h => h) rfl hH (fun w' hS => ?_) ?_
      rotate_left
      ·go_simp; first | done | with_reducible rfl
      simp only [List.set_cons_zero, List.set_cons_succ]
      refine off_take (i := 24) (d := 34) rfl (by kernel_rfl) (by kernel_rfl) (by kernel_rfl) rfl (fun _ _ _ h => h) rfl hH ?_
      simp only [List.set_cons_zero, List.set_cons_succ]
      refine off_take (i := 25) (d := 35) rfl (by kernel_rfl) (by kernel_rfl) (by kernel_rfl) rfl (fun _ _ _ h => h) rfl hH ?_
      simp only [List.set_cons_zero, List.set_cons_succ]
      refine off_take (i := 26) (d := 36) rfl (by kernel_rfl) (by kernel_rfl) (by kernel_rfl) rfl (fun _ _ _ h => h) rfl hH ?_
      simp only [List.set_cons_zero, List.set_cons_succ]
      refine off_one (i := 27) rfl (by kernel_rfl) rfl hH ?_
      go_simp
      refine off_take (i := 28) (d := 38) rfl (by kernel_rfl) (by kernel_rfl) (by kernel_rfl) rfl (fun _ _ _ h => h) rfl hH ?_
      simp only [List.set_cons_zero, List.set_cons_succ]
      refine held_take (i := 29) (d := 39) (v := ?_) rfl (by kernel_rfl) (by kernel_rfl) (by kernel_rfl) rfl (fun _ _ _ h => h) rfl hH (fun w' hS => ?_) ?_
      rotate_left
      ·go_simp; first | done | with_reducible rfl
      simp only [List.set_cons_zero, List.set_cons_succ]
      refine wpAnyH_done (by kernel_rfl) ?_ _
      go_wp2_with fail
      go_meet
      case rel => exact ⟨true, rfl, Lib.hid (by rw [hE.out]; rfl), Lib.hid hH⟩
     ·refine held_take (i := 16) (d := 26) (v := ?_) rfl (by kernel_rfl) (by kernel_rfl) (by kernel_rfl) rfl (fun _ _ _ h => h) rfl hH (fun w' hS => ?_) ?_
      rotate_left
      ·go_simp; first | done | with_reducible rfl
      simp only [List.set_cons_zero, List.set_cons_succ]
      refine held_take (i := 17) (d := 27) (v := ?_) rfl (by kernel_rfl) (by kernel_rfl) (by kernel_rfl) rfl (fun _ _ _ h => h) rfl hH (fun w' hS => ?_) ?_
      rotate_left
      ·go_simp; first | done | with_reducible rfl
      simp only [List.set_cons_zero, List.set_cons_succ]
      refine held_take (i := 18) (d := 28) (v := ?_) rfl (by kernel_rfl) (by kernel_rfl) (by kernel_rfl) rfl (fun _ _ _ h => h) rfl hH (fun w' hS => ?_) ?_
      rotate_left
      ·go_simp; first | done | with_reducible rfl
      simp only [List.set_cons_zero, List.set_cons_succ]
      refine held_take (i := 19) (d := 29) (v := ?_) rfl (by kernel_rfl) (by kernel_rfl) (by kernel_rfl) rfl (fun _ _ _ h => h) rfl hH (fun w' hS => ?_) ?_
      rotate_left
      ·have m8 := (G.out.keeps hS).cell 8; simp only [List.getElem?_toArray, List.getElem?_cons_zero, List.getElem?_cons_succ] at m8; go_simp; first | done | with_reducible rfl
      simp only [List.set_cons_zero, List.set_cons_succ]
      refine held_take (i := 20) (d := 30) (v := ?_) rfl (by kernel_rfl) (by kernel_rfl) (by kernel_rfl) rfl (fun _ _ _ h => h) rfl hH (fun w' hS => ?_) ?_
      rotate_left
      ·go_simp; first | done | with_reducible rfl
      simp only [List.set_cons_zero, List.set_cons_succ]
      refine held_take (i := 21) (d := 31) (v := ?_) rfl (by kernel_rfl) (by kernel_rfl) (by kernel_rfl) rfl (fun _ _ _ h => h) rfl hH (fun w' hS => ?_) ?_
      rotate_left
      ·go_simp; first | done | with_reducible rfl
      simp only [List.set_cons_zero, List.set_cons_succ]
      by_cases hp : h.pa ≤ 1073741824
      ·have q := decide_eq_true (p := h.pa ≤ 1073741824) hp
       have q2 : decide (1073741824 < h.pa) = false := decide_eq_false (by omega)
       simp only [q2]
       refine held_take (i := 22) (d := 32) (v := ?_) rfl (by kernel_rfl) (by kernel_rfl) (by kernel_rfl) rfl (fun _ _ _ h => h) rfl hH (fun w' hS => ?_) ?_
       rotate_left
       ·go_simp; first | done | with_reducible rfl
       simp only [List.set_cons_zero, List.set_cons_succ]
       refine held_take (i := 23) (d := 33) (v := ?_) rfl (by kernel_rfl) (by kernel_rfl) (by kernel_rfl) rfl (fun _ _ _ h => h) rfl hH (fun w' hS => ?_) ?_
       rotate_left
       ·go_simp; first | done | with_reducible rfl
       simp only [List.set_cons_zero, List.set_cons_succ]
       refine held_take (i := 24) (d := 34) (v := ?_) rfl (by kernel_rfl) (by kernel_rfl) (by kernel_rfl) rfl (fun _ _ _ h => h) rfl hH (fun w' hS => ?_) ?_
       rotate_left
       ·go_simp; first | done | with_reducible rfl
       simp only [List.set_cons_zero, List.set_cons_succ]
       refine held_take (i := 25) (d := 35) (v := ?_) rfl (by kernel_rfl) (by kernel_rfl) (by kernel_rfl) rfl (fun _ _ _ h => h) rfl hH (fun w' hS => ?_) ?_
       rotate_left
       ·have m8 := (G.out.keeps hS).cell 8; simp only [List.getElem?_toArray, List.getElem?_cons_zero, List.getElem?_cons_succ] at m8; go_simp; first | done | with_reducible rfl
       simp only [List.set_cons_zero, List.set_cons_succ]
       refine held_take (i := 26) (d := 36) (v := ?_) rfl (by kernel_rfl) (by kernel_rfl) (by kernel_rfl) rfl (fun _ _ _ h => h) rfl hH (fun w' hS => ?_) ?_
       rotate_left
       ·go_simp; first | done | with_reducible rfl
       simp only [List.set_cons_zero, List.set_cons_succ]
       refine held_only (i := 27) rfl (by kernel_rfl) rfl (fun K hK => ?_)
       go_simp
       refine hK.out _ _ hH (fun hH => ?_)
       clear hK K
       by_cases hl : 1 ≤ h.pa
       ·have u := decide_eq_true (p := 1 ≤ h.pa) hl
        have u2 : decide (h.pa < min 1073741824 1) = false := decide_eq_false (by rw [show min (1073741824 : Int) 1 = 1 from rfl]; omega)
        refine held_take (i := 28) (d := 38) (v := ?_) rfl (by kernel_rfl) (by kernel_rfl) (by kernel_rfl) rfl (fun _ _ _ h => h) rfl hH (fun w' hS => ?_) ?_
        rotate_left
        ·go_simp; first | done | with_reducible rfl
        simp only [List.set_cons_zero, List.set_cons_succ]
        refine held_take (i := 29) (d := 39) (v := ?_) rfl (by kernel_rfl) (by kernel_rfl) (by kernel_rfl) rfl (fun _ _ _ h => h) rfl hH (fun w' hS => ?_) ?_
        rotate_left
        ·go_simp; first | done | with_reducible rfl
        simp only [List.set_cons_zero, List.set_cons_succ]
        refine wpAnyH_done (by kernel_rfl) ?_ _
        go_wp2_with fail
        go_meet
        case rel => exact ⟨false, rfl, Lib.hid (by rw [hE.out, q, show min (1073741824 : Int) 1 = 1 from rfl, u]; rfl), Lib.hid hH⟩
       ·have u := decide_eq_false (p := 1 ≤ h.pa) hl
        have u2 : decide (h.pa < min 1073741824 1) = true := decide_eq_true (by rw [show min (1073741824 : Int) 1 = 1 from rfl]; omega)
        refine held_take (i := 28) (d := 38) (v := ?_) rfl (by kernel_rfl) (by kernel_rfl) (by kernel_rfl) rfl (fun _ _ _ h => h) rfl hH (fun w' hS => ?_) ?_
        rotate_left
        ·go_simp; first | done | with_reducible rfl
        simp only [List.set_cons_zero, List.set_cons_succ]
        refine held_take (i := 29) (d := 39) (v := ?_) rfl (by kernel_rfl) (by kernel_rfl) (by kernel_rfl) rfl (fun _ _ _ h => h) rfl hH (fun w' hS => ?_) ?_
        rotate_left
        ·go_simp; first | done | with_reducible rfl
        simp only [List.set_cons_zero, List.set_cons_succ]
        refine wpAnyH_done (by kernel_rfl) ?_ _
        go_wp2_with fail
        go_meet
        case rel => exact ⟨true, rfl, Lib.hid (by rw [hE.out, q, show min (1073741824 : Int) 1 = 1 from rfl, u]; rfl), Lib.hid hH⟩
      ·have q := decide_eq_false (p := h.pa ≤ 1073741824) hp
       have q2 : decide (1073741824 < h.pa) = true := decide_eq_true (by omega)
       simp only [q2]
       refine held_take (i := 22) (d := 32) (v := ?_) rfl (by kernel_rfl) (by kernel_rfl) (by kernel_rfl) rfl (fun _ _ _ h => h) rfl hH (fun w' hS => ?_) ?_
       rotate_left
       ·go_simp; first | done | with_reducible rfl
       simp only [List.set_cons_zero, List.set_cons_succ]
       refine held_take (i := 23) (d := 33) (v := ?_) rfl (by kernel_rfl) (by kernel_rfl) (by kernel_rfl) rfl (fun _ _ _ h => h) rfl hH (fun w' hS => ?_) ?_
       rotate_left
       ·go_simp; first | done | with_reducible rfl
       simp only [List.set_cons_zero, List.set_cons_succ]
       refine off_take (i := 24) (d := 34) rfl (by kernel_rfl) (by kernel_rfl) (by kernel_rfl) rfl (fun _ _ _ h => h) rfl hH ?_
       simp only [List.set_cons_zero, List.set_cons_succ]
       refine off_take (i := 25) (d := 35) rfl (by kernel_rfl) (by kernel_rfl) (by kernel_rfl) rfl (fun _ _ _ h => h) rfl hH ?_
       simp only [List.set_cons_zero, List.set_cons_succ]
       refine off_take (i := 26) (d := 36) rfl (by kernel_rfl) (by kernel_rfl) (by kernel_rfl) rfl (fun _ _ _ h => h) rfl hH ?_
       simp only [List.set_cons_zero, List.set_cons_succ]
       refine off_one (i := 27) rfl (by kernel_rfl) rfl hH ?_
       go_simp
       refine off_take (i := 28) (d := 38) rfl (by kernel_rfl) (by kernel_rfl) (by kernel_rfl) rfl (fun _ _ _ h => h) rfl hH ?_
       simp only [List.set_cons_zero, List.set_cons_succ]
       refine held_take (i := 29) (d := 39) (v := ?_) rfl (by kernel_rfl) (by kernel_rfl) (by kernel_rfl) rfl (fun _ _ _ h => h) rfl hH (fun w' hS => ?_) ?_
       rotate_left
       ·go_simp; first | done | with_reducible rfl
       simp only [List.set_cons_zero, List.set_cons_succ]
       refine wpAnyH_done (by kernel_rfl) ?_ _
       go_wp2_with fail
       go_meet
       case rel => exact ⟨true, rfl, Lib.hid (by rw [hE.out, q]; rfl), Lib.hid hH⟩
  case rest =>
   obtain ⟨g, rfl, hR, BW⟩ := hcut
   have Bx := Lib.hid (bnext B0.out BW.out)
   replace G := Lib.hid (G.out.keeps BW.out)
   replace S0 := Lib.hid (S0.out.keeps BW.out)
   generalize wc = w5 at *
   clear hE BW C1 C2 C3 C4
   have n1 := G.out.cell 1
   have n3 := G.out.cell 3
   have n8 := G.out.cell 8
   simp only [List.getElem?_toArray, List.getElem?_cons_zero, List.getElem?_cons_succ] at n1 n3 n8
   have RW := Lib.hid (blk_range G.out 9 [.int .i64 h.wk, .int .i64 h.ws] rfl)
   cases g
   ·go_wp2_with (first | (refine arm_loadT infX Tryz.underlying29 rfl (.tmp 1) rfl rfl _ _ _ rfl G.out rfl ?_) | (refine arm_mid infWi Tryz.underlying26 rfl (.tmp 47) rfl rfl w.heap.size 9 #[.int .i64 h.wk, .int .i64 h.ws] rfl RW.out rfl ?_))
    refine (C5.out _ S0.out).mono ?_
    rintro e w6 ⟨rfl, b6⟩
    have B6 := Lib.hid (bnext Bx.out b6)
    clear b6 C5
    go_wp2_with fail
    go_ret
    exact bl_of (by rw [hR.out]; rfl) B6.out
   ·go_wp2_with fail
    go_ret
    exact bl_of (by rw [hR.out]; rfl) Bx.out
 ·have kd : (h.op.toList == [100, 101, 99, 97, 121]) = false := by rw [eqL]; exact decide_eq_false hd
  by_cases hq : h.op = ⟨#[113, 117, 97, 110, 116, 105, 108, 101]⟩
  ·go_upto_region 6 with fail
   have hT : topR h.op = 1000 := by unfold topR; rw [if_neg hd, if_pos hq]
   rw [hT] at hE
   clear hT
   replace hE := Lib.hid hE
   clear c1 hd hq kd
   go_cut [39] from 10 to 40 (fun v wx => ∃ g : Bool, v = .bool g ∧ Hid (ragR h = (!g && r)) ∧ Hid (Below w0.heap.size w0 wx))
   case first =>
    refine wp_region_held_drew (S := fun w' => Below w0.heap.size w0 w') (by kernel_rfl) (b0 w0).drew (fun hH => ?_)
    refine held_take (i := 0) (d := 10) (v := ?_) rfl (by kernel_rfl) (by kernel_rfl) (by kernel_rfl) rfl (fun _ _ _ h => h) rfl hH (fun w' hS => ?_) ?_
    rotate_left
    ·go_simp; first | done | with_reducible rfl
    simp only [List.set_cons_zero, List.set_cons_succ]
    refine held_take (i := 1) (d := 11) (v := ?_) rfl (by kernel_rfl) (by kernel_rfl) (by kernel_rfl) rfl (fun _ _ _ h => h) rfl hH (fun w' hS => ?_) ?_
    rotate_left
    ·have m1 := (G.out.keeps hS).cell 1; simp only [List.getElem?_toArray, List.getElem?_cons_zero, List.getElem?_cons_succ] at m1; go_simp; first | done | with_reducible rfl
    simp only [List.set_cons_zero, List.set_cons_succ]
    generalize w0.drew = yy at *
    refine held_only (i := 2) rfl (by kernel_rfl) rfl (fun K hK => ?_)
    go_simp
    refine (C1.out _).mono ?_
    rintro e y61 ⟨ag, rfl, sag, b61⟩
    skip
    refine hK.out _ _ (bnext hH b61) (fun hH => ?_)
    clear hK K
    have SA := Lib.hid sag
    clear b61 sag
    refine held_only (i := 3) rfl (by kernel_rfl) rfl (fun K hK => ?_)
    go_simp
    refine (C2.out ag _ SA.out).mono ?_
    rintro e y62 ⟨rfl, b62⟩
    skip
    refine hK.out _ _ (bnext hH b62) (fun hH => ?_)
    clear hK K
    replace SA := Lib.hid (SA.out.keeps b62)
    clear b62
    cases A
    ·refine held_take (i := 4) (d := 14) (v := ?_) rfl (by kernel_rfl) (by kernel_rfl) (by kernel_rfl) rfl (fun _ _ _ h => h) rfl hH (fun w' hS => ?_) ?_
     rotate_left
     ·go_simp; first | done | with_reducible rfl
     simp only [List.set_cons_zero, List.set_cons_succ]
     refine held_take (i := 5) (d := 15) (v := ?_) rfl (by kernel_rfl) (by kernel_rfl) (by kernel_rfl) rfl (fun _ _ _ h => h) rfl hH (fun w' hS => ?_) ?_
     rotate_left
     ·go_simp; first | done | with_reducible rfl
     simp only [List.set_cons_zero, List.set_cons_succ]
     refine off_take (i := 6) (d := 16) rfl (by kernel_rfl) (by kernel_rfl) (by kernel_rfl) rfl (fun _ _ _ h => h) rfl hH ?_
     simp only [List.set_cons_zero, List.set_cons_succ]
     refine off_take (i := 7) (d := 17) rfl (by kernel_rfl) (by kernel_rfl) (by kernel_rfl) rfl (fun _ _ _ h => h) rfl hH ?_
     simp only [List.set_cons_zero, List.set_cons_succ]
     refine off_one (i := 8) rfl (by kernel_rfl) rfl hH ?_
     go_simp
     refine off_take (i := 9) (d := 19) rfl (by kernel_rfl) (by kernel_rfl) (by kernel_rfl) rfl (fun _ _ _ h => h) rfl hH ?_
     simp only [List.set_cons_zero, List.set_cons_succ]
     refine held_take (i := 10) (d := 20) (v := ?_) rfl (by kernel_rfl) (by kernel_rfl) (by kernel_rfl) rfl (fun _ _ _ h => h) rfl hH (fun w' hS => ?_) ?_
     rotate_left
     ·go_simp; first | done | with_reducible rfl
     simp only [List.set_cons_zero, List.set_cons_succ]
     refine held_take (i := 11) (d := 21) (v := ?_) rfl (by kernel_rfl) (by kernel_rfl) (by kernel_rfl) rfl (fun _ _ _ h => h) rfl hH (fun w' hS => ?_) ?_
     rotate_left
     ·go_simp; first | done | with_reducible rfl
     simp only [List.set_cons_zero, List.set_cons_succ]
     refine off_take (i := 12) (d := 22) rfl (by kernel_rfl) (by kernel_rfl) (by kernel_rfl) rfl (fun _ _ _ h => h) rfl hH ?_
     simp only [List.set_cons_zero, List.set_cons_succ]
     refine off_take (i := 13) (d := 23) rfl (by kernel_rfl) (by kernel_rfl) (by kernel_rfl) rfl (fun _ _ _ h => h) rfl hH ?_
     simp only [List.set_cons_zero, List.set_cons_succ]
     refine off_one (i := 14) rfl (by kernel_rfl) rfl hH ?_
     go_simp
     refine off_take (i := 15) (d := 25) rfl (by kernel_rfl) (by kernel_rfl) (by kernel_rfl) rfl (fun _ _ _ h => h) rfl hH ?_
     simp only [List.set_cons_zero, List.set_cons_succ]
     refine held_take (i := 16) (d := 26) (v := ?_) rfl (by kernel_rfl) (by kernel_rfl) (by kernel_rfl) rfl (fun _ _ _ h => h) rfl hH (fun w' hS => ?_) ?_
     rotate_left
     ·go_simp; first | done | with_reducible rfl
     simp only [List.set_cons_zero, List.set_cons_succ]
     refine held_take (i := 17) (d := 27) (v := ?_) rfl (by kernel_rfl) (by kernel_rfl) (by kernel_rfl) rfl (fun _ _ _ h => h) rfl hH (fun w' hS => ?_) ?_
     rotate_left
     ·go_simp; first | done | with_reducible rfl
     simp only [List.set_cons_zero, List.set_cons_succ]
     refine off_take (i := 18) (d := 28) rfl (by kernel_rfl) (by kernel_rfl) (by kernel_rfl) rfl (fun _ _ _ h => h) rfl hH ?_
     simp only [List.set_cons_zero, List.set_cons_succ]
     refine off_take (i := 19) (d := 29) rfl (by kernel_rfl) (by kernel_rfl) (by kernel_rfl) rfl (fun _ _ _ h => h) rfl hH ?_
     simp only [List.set_cons_zero, List.set_cons_succ]
     refine off_take (i := 20) (d := 30) rfl (by kernel_rfl) (by kernel_rfl) (by kernel_rfl) rfl (fun _ _ _ h => h) rfl hH ?_
     simp only [List.set_cons_zero, List.set_cons_succ]
     refine off_take (i := 21) (d := 31) rfl (by kernel_rfl) (by kernel_rfl) (by kernel_rfl) rfl (fun _ _ _ h => h) rfl hH ?_
     simp only [List.set_cons_zero, List.set_cons_succ]
     refine held_take (i := 22) (d := 32) (v := ?_) rfl (by kernel_rfl) (by kernel_rfl) (by kernel_rfl) rfl (fun _ _ _ h => h) rfl hH (fun w' hS => ?_) ?_
     rotate_left
     ·go_simp; first | done | with_reducible rfl
     simp only [List.set_cons_zero, List.set_cons_succ]
     refine held_take (i := 23) (d := 33) (v := ?_) rfl (by kernel_rfl) (by kernel_rfl) (by kernel_rfl) rfl (fun _ _ _ h => h) rfl hH (fun w' hS => ?_) ?_
     rotate_left
     ·go_simp; first | done | with_reducible rfl
     simp only [List.set_cons_zero, List.set_cons_succ]
     refine off_take (i := 24) (d := 34) rfl (by kernel_rfl) (by kernel_rfl) (by kernel_rfl) rfl (fun _ _ _ h => h) rfl hH ?_
     simp only [List.set_cons_zero, List.set_cons_succ]
     refine off_take (i := 25) (d := 35) rfl (by kernel_rfl) (by kernel_rfl) (by kernel_rfl) rfl (fun _ _ _ h => h) rfl hH ?_
     simp only [List.set_cons_zero, List.set_cons_succ]
     refine off_take (i := 26) (d := 36) rfl (by kernel_rfl) (by kernel_rfl) (by kernel_rfl) rfl (fun _ _ _ h => h) rfl hH ?_
     simp only [List.set_cons_zero, List.set_cons_succ]
     refine off_one (i := 27) rfl (by kernel_rfl) rfl hH ?_
     go_simp
     refine off_take (i := 28) (d := 38) rfl (by kernel_rfl) (by kernel_rfl) (by kernel_rfl) rfl (fun _ _ _ h => h) rfl hH ?_
     simp only [List.set_cons_zero, List.set_cons_succ]
     refine held_take (i := 29) (d := 39) (v := ?_) rfl (by kernel_rfl) (by kernel_rfl) (by kernel_rfl) rfl (fun _ _ _ h => h) rfl hH (fun w' hS => ?_) ?_
     rotate_left
     ·go_simp; first | done | with_reducible rfl
     simp only [List.set_cons_zero, List.set_cons_succ]
     refine wpAnyH_done (by kernel_rfl) ?_ _
     go_wp2_with fail
     go_meet
     case rel => exact ⟨true, rfl, Lib.hid (by rw [hE.out]; rfl), Lib.hid hH⟩
    ·refine held_take (i := 4) (d := 14) (v := ?_) rfl (by kernel_rfl) (by kernel_rfl) (by kernel_rfl) rfl (fun _ _ _ h => h) rfl hH (fun w' hS => ?_) ?_
     rotate_left
     ·go_simp; first | done | with_reducible rfl
     simp only [List.set_cons_zero, List.set_cons_succ]
     refine held_take (i := 5) (d := 15) (v := ?_) rfl (by kernel_rfl) (by kernel_rfl) (by kernel_rfl) rfl (fun _ _ _ h => h) rfl hH (fun w' hS => ?_) ?_
     rotate_left
     ·go_simp; first | done | with_reducible rfl
     simp only [List.set_cons_zero, List.set_cons_succ]
     refine held_take (i := 6) (d := 16) (v := ?_) rfl (by kernel_rfl) (by kernel_rfl) (by kernel_rfl) rfl (fun _ _ _ h => h) rfl hH (fun w' hS => ?_) ?_
     rotate_left
     ·go_simp; first | done | with_reducible rfl
     simp only [List.set_cons_zero, List.set_cons_succ]
     refine held_take (i := 7) (d := 17) (v := ?_) rfl (by kernel_rfl) (by kernel_rfl) (by kernel_rfl) rfl (fun _ _ _ h => h) rfl hH (fun w' hS => ?_) ?_
     rotate_left
     ·have m3 := (G.out.keeps hS).cell 3; simp only [List.getElem?_toArray, List.getElem?_cons_zero, List.getElem?_cons_succ] at m3; go_simp; first | done | with_reducible rfl
     simp only [List.set_cons_zero, List.set_cons_succ]
     refine held_only (i := 8) rfl (by kernel_rfl) rfl (fun K hK => ?_)
     go_simp
     refine (C3.out _).mono ?_
     rintro e y63 ⟨rfl, b63⟩
     skip
     refine hK.out _ _ (bnext hH b63) (fun hH => ?_)
     clear hK K
     replace SA := Lib.hid (SA.out.keeps b63)
     clear b63
     refine held_take (i := 9) (d := 19) (v := ?_) rfl (by kernel_rfl) (by kernel_rfl) (by kernel_rfl) rfl (fun _ _ _ h => h) rfl hH (fun w' hS => ?_) ?_
     rotate_left
     ·go_simp; first | done | with_reducible rfl
     simp only [List.set_cons_zero, List.set_cons_succ]
     cases N
     ·refine held_take (i := 10) (d := 20) (v := ?_) rfl (by kernel_rfl) (by kernel_rfl) (by kernel_rfl) rfl (fun _ _ _ h => h) rfl hH (fun w' hS => ?_) ?_
      rotate_left
      ·go_simp; first | done | with_reducible rfl
      simp only [List.set_cons_zero, List.set_cons_succ]
      refine held_take (i := 11) (d := 21) (v := ?_) rfl (by kernel_rfl) (by kernel_rfl) (by kernel_rfl) rfl (fun _ _ _ h => h) rfl hH (fun w' hS => ?_) ?_
      rotate_left
      ·go_simp; first | done | with_reducible rfl
      simp only [List.set_cons_zero, List.set_cons_succ]
      refine off_take (i := 12) (d := 22) rfl (by kernel_rfl) (by kernel_rfl) (by kernel_rfl) rfl (fun _ _ _ h => h) rfl hH ?_
      simp only [List.set_cons_zero, List.set_cons_succ]
      refine off_take (i := 13) (d := 23) rfl (by kernel_rfl) (by kernel_rfl) (by kernel_rfl) rfl (fun _ _ _ h => h) rfl hH ?_
      simp only [List.set_cons_zero, List.set_cons_succ]
      refine off_one (i := 14) rfl (by kernel_rfl) rfl hH ?_
      go_simp
      refine off_take (i := 15) (d := 25) rfl (by kernel_rfl) (by kernel_rfl) (by kernel_rfl) rfl (fun _ _ _ h => h) rfl hH ?_
      simp only [List.set_cons_zero, List.set_cons_succ]
      refine held_take (i := 16) (d := 26) (v := ?_) rfl (by kernel_rfl) (by kernel_rfl) (by kernel_rfl) rfl (fun _ _ _ h => h) rfl hH (fun w' hS => ?_) ?_
      rotate_left
      ·go_simp; first | done | with_reducible rfl
      simp only [List.set_cons_zero, List.set_cons_succ]
      refine held_take (i := 17) (d := 27) (v := ?_) rfl (by kernel_rfl) (by kernel_rfl) (by kernel_rfl) rfl (fun _ _ _ h => h) rfl hH (fun w' hS => ?_) ?_
      rotate_left
      ·go_simp; first | done | with_reducible rfl
      simp only [List.set_cons_zero, List.set_cons_succ]
      refine off_take (i := 18) (d := 28) rfl (by kernel_rfl) (by kernel_rfl) (by kernel_rfl) rfl (fun _ _ _ h => h) rfl hH ?_
      simp only [List.set_cons_zero, List.set_cons_succ]
      refine off_take (i := 19) (d := 29) rfl (by kernel_rfl) (by kernel_rfl) (by kernel_rfl) rfl (fun _ _ _ h => h) rfl hH ?_
      simp only [List.set_cons_zero, List.set_cons_succ]
      refine off_take (i := 20) (d := 30) rfl (by kernel_rfl) (by kernel_rfl) (by kernel_rfl) rfl (fun _ _ _ h => h) rfl hH ?_
      simp only [List.set_cons_zero, List.set_cons_succ]
      refine off_take (i := 21) (d := 31) rfl (by kernel_rfl) (by kernel_rfl) (by kernel_rfl) rfl (fun _ _ _ h => h) rfl hH ?_
      simp only [List.set_cons_zero, List.set_cons_succ]
      refine held_take (i := 22) (d := 32) (v := ?_) rfl (by kernel_rfl) (by kernel_rfl) (by kernel_rfl) rfl (fun _ _ _ h => h) rfl hH (fun w' hS => ?_) ?_
      rotate_left
      ·go_simp; first | done | with_reducible rfl
      simp only [List.set_cons_zero, List.set_cons_succ]
      refine held_take (i := 23) (d := 33) (v := ?_) rfl (by kernel_rfl) (by kernel_rfl) (by kernel_rfl) rfl (fun _ _ _ h => h) rfl hH (fun w' hS => ?_) ?_
      rotate_left
      ·go_simp; first | done | with_reducible rfl
      simp only [List.set_cons_zero, List.set_cons_succ]
      refine off_take (i := 24) (d := 34) rfl (by kernel_rfl) (by kernel_rfl) (by kernel_rfl) rfl (fun _ _ _ h => h) rfl hH ?_
      simp only [List.set_cons_zero, List.set_cons_succ]
      refine off_take (i := 25) (d := 35) rfl (by kernel_rfl) (by kernel_rfl) (by kernel_rfl) rfl (fun _ _ _ h => h) rfl hH ?_
      simp only [List.set_cons_zero, List.set_cons_succ]
      refine off_take (i := 26) (d := 36) rfl (by kernel_rfl) (by kernel_rfl) (by kernel_rfl) rfl (fun _ _ _ h => h) rfl hH ?_
      simp only [List.set_cons_zero, List.set_cons_succ]
      refine off_one (i := 27) rfl (by kernel_rfl) rfl hH ?_
      go_simp
      refine off_take (i := 28) (d := 38) rfl (by kernel_rfl) (by kernel_rfl) (by kernel_rfl) rfl (fun _ _ _ h => h) rfl hH ?_
      simp only [List.set_cons_zero, List.set_cons_succ]
      refine held_take (i := 29) (d := 39) (v := ?_) rfl (by kernel_rfl) (by kernel_rfl) (by kernel_rfl) rfl (fun _ _ _ h => h) rfl hH (fun w' hS => ?_) ?_
      rotate_left
      ·go_simp; first | done | with_reducible rfl
      simp only [List.set_cons_zero, List.set_cons_succ]
      refine wpAnyH_done (by kernel_rfl) ?_ _
      go_wp2_with fail
      go_meet
      case rel => exact ⟨true, rfl, Lib.hid (by rw [hE.out]; rfl), Lib.hid hH⟩
     ·refine held_take (i := 10) (d := 20) (v := ?_) rfl (by kernel_rfl) (by kernel_rfl) (by kernel_rfl) rfl (fun _ _ _ h => h) rfl hH (fun w' hS => ?_) ?_
      rotate_left
      ·go_simp; first | done | with_reducible rfl
      simp only [List.set_cons_zero, List.set_cons_succ]
      refine held_take (i := 11) (d := 21) (v := ?_) rfl (by kernel_rfl) (by kernel_rfl) (by kernel_rfl) rfl (fun _ _ _ h => h) rfl hH (fun w' hS => ?_) ?_
      rotate_left
      ·go_simp; first | done | with_reducible rfl
      simp only [List.set_cons_zero, List.set_cons_succ]
      refine held_take (i := 12) (d := 22) (v := ?_) rfl (by kernel_rfl) (by kernel_rfl) (by kernel_rfl) rfl (fun _ _ _ h => h) rfl hH (fun w' hS => ?_) ?_
      rotate_left
      ·go_simp; first | done | with_reducible rfl
      simp only [List.set_cons_zero, List.set_cons_succ]
      refine held_take (i := 13) (d := 23) (v := .agg #[.int .i64 h.wk, .int .i64 h.ws]) rfl (by kernel_rfl) (by kernel_rfl) (by kernel_rfl) rfl (fun _ _ _ h => h) rfl hH (fun w' hS => yield_loadM infWi Tryz.underlying26 rfl (.tmp 22) rfl w.heap.size 9 #[.int .i64 h.wk, .int .i64 h.ws] rfl (blk_range (G.out.keeps hS) 9 [.int .i64 h.wk, .int .i64 h.ws] rfl) rfl) ?_
      simp only [List.set_cons_zero, List.set_cons_succ]
      refine held_only (i := 14) rfl (by kernel_rfl) rfl (fun K hK => ?_)
      go_simp
      refine (C4.out _).mono ?_
      rintro e y64 ⟨rfl, b64⟩
      skip
      refine hK.out _ _ (bnext hH b64) (fun hH => ?_)
      clear hK K
      replace SA := Lib.hid (SA.out.keeps b64)
      clear b64
      refine held_take (i := 15) (d := 25) (v := ?_) rfl (by kernel_rfl) (by kernel_rfl) (by kernel_rfl) rfl (fun _ _ _ h => h) rfl hH (fun w' hS => ?_) ?_
      rotate_left
      ·go_simp; first | done | with_reducible rfl
      simp only [List.set_cons_zero, List.set_cons_succ]
      cases V
      ·refine held_take (i := 16) (d := 26) (v := ?_) rfl (by kernel_rfl) (by kernel_rfl) (by kernel_rfl) rfl (fun _ _ _ h => h) rfl hH (fun w' hS => ?_) ?_
       rotate_left
       ·go_simp; first | done | with_reducible rfl
       simp only [List.set_cons_zero, List.set_cons_succ]
       refine held_take (i := 17) (d := 27) (v := ?_) rfl (by kernel_rfl) (by kernel_rfl) (by kernel_rfl) rfl (fun _ _ _ h => h) rfl hH (fun w' hS => ?_) ?_
       rotate_left
       ·go_simp; first | done | with_reducible rfl
       simp only [List.set_cons_zero, List.set_cons_succ]
       refine off_take (i := 18) (d := 28) rfl (by kernel_rfl) (by kernel_rfl) (by kernel_rfl) rfl (fun _ _ _ h => h) rfl hH ?_
       simp only [List.set_cons_zero, List.set_cons_succ]
       refine off_take (i := 19) (d := 29) rfl (by kernel_rfl) (by kernel_rfl) (by kernel_rfl) rfl (fun _ _ _ h => h) rfl hH ?_
       simp only [List.set_cons_zero, List.set_cons_succ]
       refine off_take (i := 20) (d := 30) rfl (by kernel_rfl) (by kernel_rfl) (by kernel_rfl) rfl (fun _ _ _ h => h) rfl hH ?_
       simp only [List.set_cons_zero, List.set_cons_succ]
       refine off_take (i := 21) (d := 31) rfl (by kernel_rfl) (by kernel_rfl) (by kernel_rfl) rfl (fun _ _ _ h => h) rfl hH ?_
       simp only [List.set_cons_zero, List.set_cons_succ]
       refine held_take (i := 22) (d := 32) (v := ?_) rfl (by kernel_rfl) (by kernel_rfl) (by kernel_rfl) rfl (fun _ _ _ h => h) rfl hH (fun w' hS => ?_) ?_
       rotate_left
       ·go_simp; first | done | with_reducible rfl
       simp only [List.set_cons_zero, List.set_cons_succ]
       refine held_take (i := 23) (d := 33) (v := ?_) rfl (by kernel_rfl) (by kernel_rfl) (by kernel_rfl) rfl (fun _ _ _ h => h) rfl hH (fun w' hS => ?_) ?_
       rotate_left
       ·go_simp; first | done | with_reducible rfl
       simp only [List.set_cons_zero, List.set_cons_succ]
       refine off_take (i := 24) (d := 34) rfl (by kernel_rfl) (by kernel_rfl) (by kernel_rfl) rfl (fun _ _ _ h => h) rfl hH ?_
       simp only [List.set_cons_zero, List.set_cons_succ]
       refine off_take (i := 25) (d := 35) rfl (by kernel_rfl) (by kernel_rfl) (by kernel_rfl) rfl (fun _ _ _ h => h) rfl hH ?_
       simp only [List.set_cons_zero, List.set_cons_succ]
       refine off_take (i := 26) (d := 36) rfl (by kernel_rfl) (by kernel_rfl) (by kernel_rfl) rfl (fun _ _ _ h => h) rfl hH ?_
       simp only [List.set_cons_zero, List.set_cons_succ]
       refine off_one (i := 27) rfl (by kernel_rfl) rfl hH ?_
       go_simp
       refine off_take (i := 28) (d := 38) rfl (by kernel_rfl) (by kernel_rfl) (by kernel_rfl) rfl (fun _ _ _ h => h) rfl hH ?_
       simp only [List.set_cons_zero, List.set_cons_succ]
       refine held_take (i := 29) (d := 39) (v := ?_) rfl (by kernel_rfl) (by kernel_rfl) (by kernel_rfl) rfl (fun _ _ _ h => h) rfl hH (fun w' hS => ?_) ?_
       rotate_left
       ·go_simp; first | done | with_reducible rfl
       simp only [List.set_cons_zero, List.set_cons_succ]
       refine wpAnyH_done (by kernel_rfl) ?_ _
       go_wp2_with fail
       go_meet
       case rel => exact ⟨true, rfl, Lib.hid (by rw [hE.out]; rfl), Lib.hid hH⟩
      ·refine held_take (i := 16) (d := 26) (v := ?_) rfl (by kernel_rfl) (by kernel_rfl) (by kernel_rfl) rfl (fun _ _ _ h => h) rfl hH (fun w' hS => ?_) ?_
       rotate_left
       ·go_simp; first | done | with_reducible rfl
       simp only [List.set_cons_zero, List.set_cons_succ]
       refine held_take (i := 17) (d := 27) (v := ?_) rfl (by kernel_rfl) (by kernel_rfl) (by kernel_rfl) rfl (fun _ _ _ h => h) rfl hH (fun w' hS => ?_) ?_
       rotate_left
       ·go_simp; first | done | with_reducible rfl
       simp only [List.set_cons_zero, List.set_cons_succ]
       refine held_take (i := 18) (d := 28) (v := ?_) rfl (by kernel_rfl) (by kernel_rfl) (by kernel_rfl) rfl (fun _ _ _ h => h) rfl hH (fun w' hS => ?_) ?_
       rotate_left
       ·go_simp; first | done | with_reducible rfl
       simp only [List.set_cons_zero, List.set_cons_succ]
       refine held_take (i := 19) (d := 29) (v := ?_) rfl (by kernel_rfl) (by kernel_rfl) (by kernel_rfl) rfl (fun _ _ _ h => h) rfl hH (fun w' hS => ?_) ?_
       rotate_left
       ·have m8 := (G.out.keeps hS).cell 8; simp only [List.getElem?_toArray, List.getElem?_cons_zero, List.getElem?_cons_succ] at m8; go_simp; first | done | with_reducible rfl
       simp only [List.set_cons_zero, List.set_cons_succ]
       refine held_take (i := 20) (d := 30) (v := ?_) rfl (by kernel_rfl) (by kernel_rfl) (by kernel_rfl) rfl (fun _ _ _ h => h) rfl hH (fun w' hS => ?_) ?_
       rotate_left
       ·go_simp; first | done | with_reducible rfl
       simp only [List.set_cons_zero, List.set_cons_succ]
       refine held_take (i := 21) (d := 31) (v := ?_) rfl (by kernel_rfl) (by kernel_rfl) (by kernel_rfl) rfl (fun _ _ _ h => h) rfl hH (fun w' hS => ?_) ?_
       rotate_left
       ·go_simp; first | done | with_reducible rfl
       simp only [List.set_cons_zero, List.set_cons_succ]
       by_cases hp : h.pa ≤ 1000
       ·have q := decide_eq_true (p := h.pa ≤ 1000) hp
        have q2 : decide (1000 < h.pa) = false := decide_eq_false (by omega)
        simp only [q2]
        refine held_take (i := 22) (d := 32) (v := ?_) rfl (by kernel_rfl) (by kernel_rfl) (by kernel_rfl) rfl (fun _ _ _ h => h) rfl hH (fun w' hS => ?_) ?_
        rotate_left
        ·go_simp; first | done | with_reducible rfl
        simp only [List.set_cons_zero, List.set_cons_succ]
        refine held_take (i := 23) (d := 33) (v := ?_) rfl (by kernel_rfl) (by kernel_rfl) (by kernel_rfl) rfl (fun _ _ _ h => h) rfl hH (fun w' hS => ?_) ?_
        rotate_left
        ·go_simp; first | done | with_reducible rfl
        simp only [List.set_cons_zero, List.set_cons_succ]
        refine held_take (i := 24) (d := 34) (v := ?_) rfl (by kernel_rfl) (by kernel_rfl) (by kernel_rfl) rfl (fun _ _ _ h => h) rfl hH (fun w' hS => ?_) ?_
        rotate_left
        ·go_simp; first | done | with_reducible rfl
        simp only [List.set_cons_zero, List.set_cons_succ]
        refine held_take (i := 25) (d := 35) (v := ?_) rfl (by kernel_rfl) (by kernel_rfl) (by kernel_rfl) rfl (fun _ _ _ h => h) rfl hH (fun w' hS => ?_) ?_
        rotate_left
        ·have m8 := (G.out.keeps hS).cell 8; simp only [List.getElem?_toArray, List.getElem?_cons_zero, List.getElem?_cons_succ] at m8; go_simp; first | done | with_reducible rfl
        simp only [List.set_cons_zero, List.set_cons_succ]
        refine held_take (i := 26) (d := 36) (v := ?_) rfl (by kernel_rfl) (by kernel_rfl) (by kernel_rfl) rfl (fun _ _ _ h => h) rfl hH (fun w' hS => ?_) ?_
        rotate_left
        ·go_simp; first | done | with_reducible rfl
        simp only [List.set_cons_zero, List.set_cons_succ]
        refine held_only (i := 27) rfl (by kernel_rfl) rfl (fun K hK => ?_)
        go_simp
        refine hK.out _ _ hH (fun hH => ?_)
        clear hK K
        by_cases hl : 1 ≤ h.pa
        ·have u := decide_eq_true (p := 1 ≤ h.pa) hl
         have u2 : decide (h.pa < min 1000 1) = false := decide_eq_false (by rw [show min (1000 : Int) 1 = 1 from rfl]; omega)
         refine held_take (i := 28) (d := 38) (v := ?_) rfl (by kernel_rfl) (by kernel_rfl) (by kernel_rfl) rfl (fun _ _ _ h => h) rfl hH (fun w' hS => ?_) ?_
         rotate_left
         ·go_simp; first | done | with_reducible rfl
         simp only [List.set_cons_zero, List.set_cons_succ]
         refine held_take (i := 29) (d := 39) (v := ?_) rfl (by kernel_rfl) (by kernel_rfl) (by kernel_rfl) rfl (fun _ _ _ h => h) rfl hH (fun w' hS => ?_) ?_
         rotate_left
         ·go_simp; first | done | with_reducible rfl
         simp only [List.set_cons_zero, List.set_cons_succ]
         refine wpAnyH_done (by kernel_rfl) ?_ _
         go_wp2_with fail
         go_meet
         case rel => exact ⟨false, rfl, Lib.hid (by rw [hE.out, q, show min (1000 : Int) 1 = 1 from rfl, u]; rfl), Lib.hid hH⟩
        ·have u := decide_eq_false (p := 1 ≤ h.pa) hl
         have u2 : decide (h.pa < min 1000 1) = true := decide_eq_true (by rw [show min (1000 : Int) 1 = 1 from rfl]; omega)
         refine held_take (i := 28) (d := 38) (v := ?_) rfl (by kernel_rfl) (by kernel_rfl) (by kernel_rfl) rfl (fun _ _ _ h => h) rfl hH (fun w' hS => ?_) ?_
         rotate_left
         ·go_simp; first | done | with_reducible rfl
         simp only [List.set_cons_zero, List.set_cons_succ]
         refine held_take (i := 29) (d := 39) (v := ?_) rfl (by kernel_rfl) (by kernel_rfl) (by kernel_rfl) rfl (fun _ _ _ h => h) rfl hH (fun w' hS => ?_) ?_
         rotate_left
         ·go_simp; first | done | with_reducible rfl
         simp only [List.set_cons_zero, List.set_cons_succ]
         refine wpAnyH_done (by kernel_rfl) ?_ _
         go_wp2_with fail
         go_meet
         case rel => exact ⟨true, rfl, Lib.hid (by rw [hE.out, q, show min (1000 : Int) 1 = 1 from rfl, u]; rfl), Lib.hid hH⟩
       ·have q := decide_eq_false (p := h.pa ≤ 1000) hp
        have q2 : decide (1000 < h.pa) = true := decide_eq_true (by omega)
        simp only [q2]
        refine held_take (i := 22) (d := 32) (v := ?_) rfl (by kernel_rfl) (by kernel_rfl) (by kernel_rfl) rfl (fun _ _ _ h => h) rfl hH (fun w' hS => ?_) ?_
        rotate_left
        ·go_simp; first | done | with_reducible rfl
        simp only [List.set_cons_zero, List.set_cons_succ]
        refine held_take (i := 23) (d := 33) (v := ?_) rfl (by kernel_rfl) (by kernel_rfl) (by kernel_rfl) rfl (fun _ _ _ h => h) rfl hH (fun w' hS => ?_) ?_
        rotate_left
        ·go_simp; first | done | with_reducible rfl
        simp only [List.set_cons_zero, List.set_cons_succ]
        refine off_take (i := 24) (d := 34) rfl (by kernel_rfl) (by kernel_rfl) (by kernel_rfl) rfl (fun _ _ _ h => h) rfl hH ?_
        simp only [List.set_cons_zero, List.set_cons_succ]
        refine off_take (i := 25) (d := 35) rfl (by kernel_rfl) (by kernel_rfl) (by kernel_rfl) rfl (fun _ _ _ h => h) rfl hH ?_
        simp only [List.set_cons_zero, List.set_cons_succ]
        refine off_take (i := 26) (d := 36) rfl (by kernel_rfl) (by kernel_rfl) (by kernel_rfl) rfl (fun _ _ _ h => h) rfl hH ?_
        simp only [List.set_cons_zero, List.set_cons_succ]
        refine off_one (i := 27) rfl (by kernel_rfl) rfl hH ?_
        go_simp
        refine off_take (i := 28) (d := 38) rfl (by kernel_rfl) (by kernel_rfl) (by kernel_rfl) rfl (fun _ _ _ h => h) rfl hH ?_
        simp only [List.set_cons_zero, List.set_cons_succ]
        refine held_take (i := 29) (d := 39) (v := ?_) rfl (by kernel_rfl) (by kernel_rfl) (by kernel_rfl) rfl (fun _ _ _ h => h) rfl hH (fun w' hS => ?_) ?_
        rotate_left
        ·go_simp; first | done | with_reducible rfl
        simp only [List.set_cons_zero, List.set_cons_succ]
        refine wpAnyH_done (by kernel_rfl) ?_ _
        go_wp2_with fail
        go_meet
        case rel => exact ⟨true, rfl, Lib.hid (by rw [hE.out, q]; rfl), Lib.hid hH⟩
   case rest =>
    obtain ⟨g, rfl, hR, BW⟩ := hcut
    have Bx := Lib.hid (bnext B0.out BW.out)
    replace G := Lib.hid (G.out.keeps BW.out)
    replace S0 := Lib.hid (S0.out.keeps BW.out)
    generalize wc = w5 at *
    clear hE BW C1 C2 C3 C4
    have n1 := G.out.cell 1
    have n3 := G.out.cell 3
    have n8 := G.out.cell 8
    simp only [List.getElem?_toArray, List.getElem?_cons_zero, List.getElem?_cons_succ] at n1 n3 n8
    have RW := Lib.hid (blk_range G.out 9 [.int .i64 h.wk, .int .i64 h.ws] rfl)
    cases g
    ·go_wp2_with (first | (refine arm_loadT infX Tryz.underlying29 rfl (.tmp 1) rfl rfl _ _ _ rfl G.out rfl ?_) | (refine arm_mid infWi Tryz.underlying26 rfl (.tmp 47) rfl rfl w.heap.size 9 #[.int .i64 h.wk, .int .i64 h.ws] rfl RW.out rfl ?_))
     refine (C5.out _ S0.out).mono ?_
     rintro e w6 ⟨rfl, b6⟩
     have B6 := Lib.hid (bnext Bx.out b6)
     clear b6 C5
     go_wp2_with fail
     go_ret
     exact bl_of (by rw [hR.out]; rfl) B6.out
    ·go_wp2_with fail
     go_ret
     exact bl_of (by rw [hR.out]; rfl) Bx.out
  ·have kq : (h.op.toList == [113, 117, 97, 110, 116, 105, 108, 101]) = false := by rw [eqL]; exact decide_eq_false hq
   go_upto_region 6 with fail
   have hT : topR h.op = 0 := by unfold topR; rw [if_neg hd, if_neg hq]
   rw [hT] at hE
   clear hT
   replace hE := Lib.hid hE
   clear c1 hd hq kd kq
   go_cut [39] from 10 to 40 (fun v wx => ∃ g : Bool, v = .bool g ∧ Hid (ragR h = (!g && r)) ∧ Hid (Below w0.heap.size w0 wx))
   case first =>
    refine wp_region_held_drew (S := fun w' => Below w0.heap.size w0 w') (by kernel_rfl) (b0 w0).drew (fun hH => ?_)
    refine held_take (i := 0) (d := 10) (v := ?_) rfl (by kernel_rfl) (by kernel_rfl) (by kernel_rfl) rfl (fun _ _ _ h => h) rfl hH (fun w' hS => ?_) ?_
    rotate_left
    ·go_simp; first | done | with_reducible rfl
    simp only [List.set_cons_zero, List.set_cons_succ]
    refine held_take (i := 1) (d := 11) (v := ?_) rfl (by kernel_rfl) (by kernel_rfl) (by kernel_rfl) rfl (fun _ _ _ h => h) rfl hH (fun w' hS => ?_) ?_
    rotate_left
    ·have m1 := (G.out.keeps hS).cell 1; simp only [List.getElem?_toArray, List.getElem?_cons_zero, List.getElem?_cons_succ] at m1; go_simp; first | done | with_reducible rfl
    simp only [List.set_cons_zero, List.set_cons_succ]
    generalize w0.drew = yy at *
    refine held_only (i := 2) rfl (by kernel_rfl) rfl (fun K hK => ?_)
    go_simp
    refine (C1.out _).mono ?_
    rintro e y61 ⟨ag, rfl, sag, b61⟩
    skip
    refine hK.out _ _ (bnext hH b61) (fun hH => ?_)
    clear hK K
    have SA := Lib.hid sag
    clear b61 sag
    refine held_only (i := 3) rfl (by kernel_rfl) rfl (fun K hK => ?_)
    go_simp
    refine (C2.out ag _ SA.out).mono ?_
    rintro e y62 ⟨rfl, b62⟩
    skip
    refine hK.out _ _ (bnext hH b62) (fun hH => ?_)
    clear hK K
    replace SA := Lib.hid (SA.out.keeps b62)
    clear b62
    cases A
    ·refine held_take (i := 4) (d := 14) (v := ?_) rfl (by kernel_rfl) (by kernel_rfl) (by kernel_rfl) rfl (fun _ _ _ h => h) rfl hH (fun w' hS => ?_) ?_
     rotate_left
     ·go_simp; first | done | with_reducible rfl
     simp only [List.set_cons_zero, List.set_cons_succ]
     refine held_take (i := 5) (d := 15) (v := ?_) rfl (by kernel_rfl) (by kernel_rfl) (by kernel_rfl) rfl (fun _ _ _ h => h) rfl hH (fun w' hS => ?_) ?_
     rotate_left
     ·go_simp; first | done | with_reducible rfl
     simp only [List.set_cons_zero, List.set_cons_succ]
     refine off_take (i := 6) (d := 16) rfl (by kernel_rfl) (by kernel_rfl) (by kernel_rfl) rfl (fun _ _ _ h => h) rfl hH ?_
     simp only [List.set_cons_zero, List.set_cons_succ]
     refine off_take (i := 7) (d := 17) rfl (by kernel_rfl) (by kernel_rfl) (by kernel_rfl) rfl (fun _ _ _ h => h) rfl hH ?_
     simp only [List.set_cons_zero, List.set_cons_succ]
     refine off_one (i := 8) rfl (by kernel_rfl) rfl hH ?_
     go_simp
     refine off_take (i := 9) (d := 19) rfl (by kernel_rfl) (by kernel_rfl) (by kernel_rfl) rfl (fun _ _ _ h => h) rfl hH ?_
     simp only [List.set_cons_zero, List.set_cons_succ]
     refine held_take (i := 10) (d := 20) (v := ?_) rfl (by kernel_rfl) (by kernel_rfl) (by kernel_rfl) rfl (fun _ _ _ h => h) rfl hH (fun w' hS => ?_) ?_
     rotate_left
     ·go_simp; first | done | with_reducible rfl
     simp only [List.set_cons_zero, List.set_cons_succ]
     refine held_take (i := 11) (d := 21) (v := ?_) rfl (by kernel_rfl) (by kernel_rfl) (by kernel_rfl) rfl (fun _ _ _ h => h) rfl hH (fun w' hS => ?_) ?_
     rotate_left
     ·go_simp; first | done | with_reducible rfl
     simp only [List.set_cons_zero, List.set_cons_succ]
     refine off_take (i := 12) (d := 22) rfl (by kernel_rfl) (by kernel_rfl) (by kernel_rfl) rfl (fun _ _ _ h => h) rfl hH ?_
     simp only [List.set_cons_zero, List.set_cons_succ]
     refine off_take (i := 13) (d := 23) rfl (by kernel_rfl) (by kernel_rfl) (by kernel_rfl) rfl (fun _ _ _ h => h) rfl hH ?_
     simp only [List.set_cons_zero, List.set_cons_succ]
     refine off_one (i := 14) rfl (by kernel_rfl) rfl hH ?_
     go_simp
     refine off_take (i := 15) (d := 25) rfl (by kernel_rfl) (by kernel_rfl) (by kernel_rfl) rfl (fun _ _ _ h => h) rfl hH ?_
     simp only [List.set_cons_zero, List.set_cons_succ]
     refine held_take (i := 16) (d := 26) (v := ?_) rfl (by kernel_rfl) (by kernel_rfl) (by kernel_rfl) rfl (fun _ _ _ h => h) rfl hH (fun w' hS => ?_) ?_
     rotate_left
     ·go_simp; first | done | with_reducible rfl
     simp only [List.set_cons_zero, List.set_cons_succ]
     refine held_take (i := 17) (d := 27) (v := ?_) rfl (by kernel_rfl) (by kernel_rfl) (by kernel_rfl) rfl (fun _ _ _ h => h) rfl hH (fun w' hS => ?_) ?_
     rotate_left
     ·go_simp; first | done | with_reducible rfl
     simp only [List.set_cons_zero, List.set_cons_succ]
     refine off_take (i := 18) (d := 28) rfl (by kernel_rfl) (by kernel_rfl) (by kernel_rfl) rfl (fun _ _ _ h => h) rfl hH ?_
     simp only [List.set_cons_zero, List.set_cons_succ]
     refine off_take (i := 19) (d := 29) rfl (by kernel_rfl) (by kernel_rfl) (by kernel_rfl) rfl (fun _ _ _ h => h) rfl hH ?_
     simp only [List.set_cons_zero, List.set_cons_succ]
     refine off_take (i := 20) (d := 30) rfl (by kernel_rfl) (by kernel_rfl) (by kernel_rfl) rfl (fun _ _ _ h => h) rfl hH ?_
     simp only [List.set_cons_zero, List.set_cons_succ]
     refine off_take (i := 21) (d := 31) rfl (by kernel_rfl) (by kernel_rfl) (by kernel_rfl) rfl (fun _ _ _ h => h) rfl hH ?_
     simp only [List.set_cons_zero, List.set_cons_succ]
     refine held_take (i := 22) (d := 32) (v := ?_) rfl (by kernel_rfl) (by kernel_rfl) (by kernel_rfl) rfl (fun _ _ _ h => h) rfl hH (fun w' hS => ?_) ?_
     rotate_left
     ·go_simp; first | done | with_reducible rfl
     simp only [List.set_cons_zero, List.set_cons_succ]
     refine held_take (i := 23) (d := 33) (v := ?_) rfl (by kernel_rfl) (by kernel_rfl) (by kernel_rfl) rfl (fun _ _ _ h => h) rfl hH (fun w' hS => ?_) ?_
     rotate_left
     ·go_simp; first | done | with_reducible rfl
     simp only [List.set_cons_zero, List.set_cons_succ]
     refine off_take (i := 24) (d := 34) rfl (by kernel_rfl) (by kernel_rfl) (by kernel_rfl) rfl (fun _ _ _ h => h) rfl hH ?_
     simp only [List.set_cons_zero, List.set_cons_succ]
     refine off_take (i := 25) (d := 35) rfl (by kernel_rfl) (by kernel_rfl) (by kernel_rfl) rfl (fun _ _ _ h => h) rfl hH ?_
     simp only [List.set_cons_zero, List.set_cons_succ]
     refine off_take (i := 26) (d := 36) rfl (by kernel_rfl) (by kernel_rfl) (by kernel_rfl) rfl (fun _ _ _ h => h) rfl hH ?_
     simp only [List.set_cons_zero, List.set_cons_succ]
     refine off_one (i := 27) rfl (by kernel_rfl) rfl hH ?_
     go_simp
     refine off_take (i := 28) (d := 38) rfl (by kernel_rfl) (by kernel_rfl) (by kernel_rfl) rfl (fun _ _ _ h => h) rfl hH ?_
     simp only [List.set_cons_zero, List.set_cons_succ]
     refine held_take (i := 29) (d := 39) (v := ?_) rfl (by kernel_rfl) (by kernel_rfl) (by kernel_rfl) rfl (fun _ _ _ h => h) rfl hH (fun w' hS => ?_) ?_
     rotate_left
     ·go_simp; first | done | with_reducible rfl
     simp only [List.set_cons_zero, List.set_cons_succ]
     refine wpAnyH_done (by kernel_rfl) ?_ _
     go_wp2_with fail
     go_meet
     case rel => exact ⟨true, rfl, Lib.hid (by rw [hE.out]; rfl), Lib.hid hH⟩
    ·refine held_take (i := 4) (d := 14) (v := ?_) rfl (by kernel_rfl) (by kernel_rfl) (by kernel_rfl) rfl (fun _ _ _ h => h) rfl hH (fun w' hS => ?_) ?_
     rotate_left
     ·go_simp; first | done | with_reducible rfl
     simp only [List.set_cons_zero, List.set_cons_succ]
     refine held_take (i := 5) (d := 15) (v := ?_) rfl (by kernel_rfl) (by kernel_rfl) (by kernel_rfl) rfl (fun _ _ _ h => h) rfl hH (fun w' hS => ?_) ?_
     rotate_left
     ·go_simp; first | done | with_reducible rfl
     simp only [List.set_cons_zero, List.set_cons_succ]
     refine held_take (i := 6) (d := 16) (v := ?_) rfl (by kernel_rfl) (by kernel_rfl) (by kernel_rfl) rfl (fun _ _ _ h => h) rfl hH (fun w' hS => ?_) ?_
     rotate_left
     ·go_simp; first | done | with_reducible rfl
     simp only [List.set_cons_zero, List.set_cons_succ]
     refine held_take (i := 7) (d := 17) (v := ?_) rfl (by kernel_rfl) (by kernel_rfl) (by kernel_rfl) rfl (fun _ _ _ h => h) rfl hH (fun w' hS => ?_) ?_
     rotate_left
     ·have m3 := (G.out.keeps hS).cell 3; simp only [List.getElem?_toArray, List.getElem?_cons_zero, List.getElem?_cons_succ] at m3; go_simp; first | done | with_reducible rfl
     simp only [List.set_cons_zero, List.set_cons_succ]
     refine held_only (i := 8) rfl (by kernel_rfl) rfl (fun K hK => ?_)
     go_simp
     refine (C3.out _).mono ?_
     rintro e y63 ⟨rfl, b63⟩
     skip
     refine hK.out _ _ (bnext hH b63) (fun hH => ?_)
     clear hK K
     replace SA := Lib.hid (SA.out.keeps b63)
     clear b63
     refine held_take (i := 9) (d := 19) (v := ?_) rfl (by kernel_rfl) (by kernel_rfl) (by kernel_rfl) rfl (fun _ _ _ h => h) rfl hH (fun w' hS => ?_) ?_
     rotate_left
     ·go_simp; first | done | with_reducible rfl
     simp only [List.set_cons_zero, List.set_cons_succ]
     cases N
     ·refine held_take (i := 10) (d := 20) (v := ?_) rfl (by kernel_rfl) (by kernel_rfl) (by kernel_rfl) rfl (fun _ _ _ h => h) rfl hH (fun w' hS => ?_) ?_
      rotate_left
      ·go_simp; first | done | with_reducible rfl
      simp only [List.set_cons_zero, List.set_cons_succ]
      refine held_take (i := 11) (d := 21) (v := ?_) rfl (by kernel_rfl) (by kernel_rfl) (by kernel_rfl) rfl (fun _ _ _ h => h) rfl hH (fun w' hS => ?_) ?_
      rotate_left
      ·go_simp; first | done | with_reducible rfl
      simp only [List.set_cons_zero, List.set_cons_succ]
      refine off_take (i := 12) (d := 22) rfl (by kernel_rfl) (by kernel_rfl) (by kernel_rfl) rfl (fun _ _ _ h => h) rfl hH ?_
      simp only [List.set_cons_zero, List.set_cons_succ]
      refine off_take (i := 13) (d := 23) rfl (by kernel_rfl) (by kernel_rfl) (by kernel_rfl) rfl (fun _ _ _ h => h) rfl hH ?_
      simp only [List.set_cons_zero, List.set_cons_succ]
      refine off_one (i := 14) rfl (by kernel_rfl) rfl hH ?_
      go_simp
      refine off_take (i := 15) (d := 25) rfl (by kernel_rfl) (by kernel_rfl) (by kernel_rfl) rfl (fun _ _ _ h => h) rfl hH ?_
      simp only [List.set_cons_zero, List.set_cons_succ]
      refine held_take (i := 16) (d := 26) (v := ?_) rfl (by kernel_rfl) (by kernel_rfl) (by kernel_rfl) rfl (fun _ _ _ h => h) rfl hH (fun w' hS => ?_) ?_
      rotate_left
      ·go_simp; first | done | with_reducible rfl
      simp only [List.set_cons_zero, List.set_cons_succ]
      refine held_take (i := 17) (d := 27) (v := ?_) rfl (by kernel_rfl) (by kernel_rfl) (by kernel_rfl) rfl (fun _ _ _ h => h) rfl hH (fun w' hS => ?_) ?_
      rotate_left
      ·go_simp; first | done | with_reducible rfl
      simp only [List.set_cons_zero, List.set_cons_succ]
      refine off_take (i := 18) (d := 28) rfl (by kernel_rfl) (by kernel_rfl) (by kernel_rfl) rfl (fun _ _ _ h => h) rfl hH ?_
      simp only [List.set_cons_zero, List.set_cons_succ]
      refine off_take (i := 19) (d := 29) rfl (by kernel_rfl) (by kernel_rfl) (by kernel_rfl) rfl (fun _ _ _ h => h) rfl hH ?_
      simp only [List.set_cons_zero, List.set_cons_succ]
      refine off_take (i := 20) (d := 30) rfl (by kernel_rfl) (by kernel_rfl) (by kernel_rfl) rfl (fun _ _ _ h => h) rfl hH ?_
      simp only [List.set_cons_zero, List.set_cons_succ]
      refine off_take (i := 21) (d := 31) rfl (by kernel_rfl) (by kernel_rfl) (by kernel_rfl) rfl (fun _ _ _ h => h) rfl hH ?_
      simp only [List.set_cons_zero, List.set_cons_succ]
      refine held_take (i := 22) (d := 32) (v := ?_) rfl (by kernel_rfl) (by kernel_rfl) (by kernel_rfl) rfl (fun _ _ _ h => h) rfl hH (fun w' hS => ?_) ?_
      rotate_left
      ·go_simp; first | done | with_reducible rfl
      simp only [List.set_cons_zero, List.set_cons_succ]
      refine held_take (i := 23) (d := 33) (v := ?_) rfl (by kernel_rfl) (by kernel_rfl) (by kernel_rfl) rfl (fun _ _ _ h => h) rfl hH (fun w' hS => ?_) ?_
      rotate_left
      ·go_simp; first | done | with_reducible rfl
      simp only [List.set_cons_zero, List.set_cons_succ]
      refine off_take (i := 24) (d := 34) rfl (by kernel_rfl) (by kernel_rfl) (by kernel_rfl) rfl (fun _ _ _ h => h) rfl hH ?_
      simp only [List.set_cons_zero, List.set_cons_succ]
      refine off_take (i := 25) (d := 35) rfl (by kernel_rfl) (by kernel_rfl) (by kernel_rfl) rfl (fun _ _ _ h => h) rfl hH ?_
      simp only [List.set_cons_zero, List.set_cons_succ]
      refine off_take (i := 26) (d := 36) rfl (by kernel_rfl) (by kernel_rfl) (by kernel_rfl) rfl (fun _ _ _ h => h) rfl hH ?_
      simp only [List.set_cons_zero, List.set_cons_succ]
      refine off_one (i := 27) rfl (by kernel_rfl) rfl hH ?_
      go_simp
      refine off_take (i := 28) (d := 38) rfl (by kernel_rfl) (by kernel_rfl) (by kernel_rfl) rfl (fun _ _ _ h => h) rfl hH ?_
      simp only [List.set_cons_zero, List.set_cons_succ]
      refine held_take (i := 29) (d := 39) (v := ?_) rfl (by kernel_rfl) (by kernel_rfl) (by kernel_rfl) rfl (fun _ _ _ h => h) rfl hH (fun w' hS => ?_) ?_
      rotate_left
      ·go_simp; first | done | with_reducible rfl
      simp only [List.set_cons_zero, List.set_cons_succ]
      refine wpAnyH_done (by kernel_rfl) ?_ _
      go_wp2_with fail
      go_meet
      case rel => exact ⟨true, rfl, Lib.hid (by rw [hE.out]; rfl), Lib.hid hH⟩
     ·refine held_take (i := 10) (d := 20) (v := ?_) rfl (by kernel_rfl) (by kernel_rfl) (by kernel_rfl) rfl (fun _ _ _ h => h) rfl hH (fun w' hS => ?_) ?_
      rotate_left
      ·go_simp; first | done | with_reducible rfl
      simp only [List.set_cons_zero, List.set_cons_succ]
      refine held_take (i := 11) (d := 21) (v := ?_) rfl (by kernel_rfl) (by kernel_rfl) (by kernel_rfl) rfl (fun _ _ _ h => h) rfl hH (fun w' hS => ?_) ?_
      rotate_left
      ·go_simp; first | done | with_reducible rfl
      simp only [List.set_cons_zero, List.set_cons_succ]
      refine held_take (i := 12) (d := 22) (v := ?_) rfl (by kernel_rfl) (by kernel_rfl) (by kernel_rfl) rfl (fun _ _ _ h => h) rfl hH (fun w' hS => ?_) ?_
      rotate_left
      ·go_simp; first | done | with_reducible rfl
      simp only [List.set_cons_zero, List.set_cons_succ]
      refine held_take (i := 13) (d := 23) (v := .agg #[.int .i64 h.wk, .int .i64 h.ws]) rfl (by kernel_rfl) (by kernel_rfl) (by kernel_rfl) rfl (fun _ _ _ h => h) rfl hH (fun w' hS => yield_loadM infWi Tryz.underlying26 rfl (.tmp 22) rfl w.heap.size 9 #[.int .i64 h.wk, .int .i64 h.ws] rfl (blk_range (G.out.keeps hS) 9 [.int .i64 h.wk, .int .i64 h.ws] rfl) rfl) ?_
      simp only [List.set_cons_zero, List.set_cons_succ]
      refine held_only (i := 14) rfl (by kernel_rfl) rfl (fun K hK => ?_)
      go_simp
      refine (C4.out _).mono ?_
      rintro e y64 ⟨rfl, b64⟩
      skip
      refine hK.out _ _ (bnext hH b64) (fun hH => ?_)
      clear hK K
      replace SA := Lib.hid (SA.out.keeps b64)
      clear b64
      refine held_take (i := 15) (d := 25) (v := ?_) rfl (by kernel_rfl) (by kernel_rfl) (by kernel_rfl) rfl (fun _ _ _ h => h) rfl hH (fun w' hS => ?_) ?_
      rotate_left
      ·go_simp; first | done | with_reducible rfl
      simp only [List.set_cons_zero, List.set_cons_succ]
      cases V
      ·refine held_take (i := 16) (d := 26) (v := ?_) rfl (by kernel_rfl) (by kernel_rfl) (by kernel_rfl) rfl (fun _ _ _ h => h) rfl hH (fun w' hS => ?_) ?_
       rotate_left
       ·go_simp; first | done | with_reducible rfl
       simp only [List.set_cons_zero, List.set_cons_succ]
       refine held_take (i := 17) (d := 27) (v := ?_) rfl (by kernel_rfl) (by kernel_rfl) (by kernel_rfl) rfl (fun _ _ _ h => h) rfl hH (fun w' hS => ?_) ?_
       rotate_left
       ·go_simp; first | done | with_reducible rfl
       simp only [List.set_cons_zero, List.set_cons_succ]
       refine off_take (i := 18) (d := 28) rfl (by kernel_rfl) (by kernel_rfl) (by kernel_rfl) rfl (fun _ _ _ h => h) rfl hH ?_
       simp only [List.set_cons_zero, List.set_cons_succ]
       refine off_take (i := 19) (d := 29) rfl (by kernel_rfl) (by kernel_rfl) (by kernel_rfl) rfl (fun _ _ _ h => h) rfl hH ?_
       simp only [List.set_cons_zero, List.set_cons_succ]
       refine off_take (i := 20) (d := 30) rfl (by kernel_rfl) (by kernel_rfl) (by kernel_rfl) rfl (fun _ _ _ h => h) rfl hH ?_
       simp only [List.set_cons_zero, List.set_cons_succ]
       refine off_take (i := 21) (d := 31) rfl (by kernel_rfl) (by kernel_rfl) (by kernel_rfl) rfl (fun _ _ _ h => h) rfl hH ?_
       simp only [List.set_cons_zero, List.set_cons_succ]
       refine held_take (i := 22) (d := 32) (v := ?_) rfl (by kernel_rfl) (by kernel_rfl) (by kernel_rfl) rfl (fun _ _ _ h => h) rfl hH (fun w' hS => ?_) ?_
       rotate_left
       ·go_simp; first | done | with_reducible rfl
       simp only [List.set_cons_zero, List.set_cons_succ]
       refine held_take (i := 23) (d := 33) (v := ?_) rfl (by kernel_rfl) (by kernel_rfl) (by kernel_rfl) rfl (fun _ _ _ h => h) rfl hH (fun w' hS => ?_) ?_
       rotate_left
       ·go_simp; first | done | with_reducible rfl
       simp only [List.set_cons_zero, List.set_cons_succ]
       refine off_take (i := 24) (d := 34) rfl (by kernel_rfl) (by kernel_rfl) (by kernel_rfl) rfl (fun _ _ _ h => h) rfl hH ?_
       simp only [List.set_cons_zero, List.set_cons_succ]
       refine off_take (i := 25) (d := 35) rfl (by kernel_rfl) (by kernel_rfl) (by kernel_rfl) rfl (fun _ _ _ h => h) rfl hH ?_
       simp only [List.set_cons_zero, List.set_cons_succ]
       refine off_take (i := 26) (d := 36) rfl (by kernel_rfl) (by kernel_rfl) (by kernel_rfl) rfl (fun _ _ _ h => h) rfl hH ?_
       simp only [List.set_cons_zero, List.set_cons_succ]
       refine off_one (i := 27) rfl (by kernel_rfl) rfl hH ?_
       go_simp
       refine off_take (i := 28) (d := 38) rfl (by kernel_rfl) (by kernel_rfl) (by kernel_rfl) rfl (fun _ _ _ h => h) rfl hH ?_
       simp only [List.set_cons_zero, List.set_cons_succ]
       refine held_take (i := 29) (d := 39) (v := ?_) rfl (by kernel_rfl) (by kernel_rfl) (by kernel_rfl) rfl (fun _ _ _ h => h) rfl hH (fun w' hS => ?_) ?_
       rotate_left
       ·go_simp; first | done | with_reducible rfl
       simp only [List.set_cons_zero, List.set_cons_succ]
       refine wpAnyH_done (by kernel_rfl) ?_ _
       go_wp2_with fail
       go_meet
       case rel => exact ⟨true, rfl, Lib.hid (by rw [hE.out]; rfl), Lib.hid hH⟩
      ·refine held_take (i := 16) (d := 26) (v := ?_) rfl (by kernel_rfl) (by kernel_rfl) (by kernel_rfl) rfl (fun _ _ _ h => h) rfl hH (fun w' hS => ?_) ?_
       rotate_left
       ·go_simp; first | done | with_reducible rfl
       simp only [List.set_cons_zero, List.set_cons_succ]
       refine held_take (i := 17) (d := 27) (v := ?_) rfl (by kernel_rfl) (by kernel_rfl) (by kernel_rfl) rfl (fun _ _ _ h => h) rfl hH (fun w' hS => ?_) ?_
       rotate_left
       ·go_simp; first | done | with_reducible rfl
       simp only [List.set_cons_zero, List.set_cons_succ]
       refine held_take (i := 18) (d := 28) (v := ?_) rfl (by kernel_rfl) (by kernel_rfl) (by kernel_rfl) rfl (fun _ _ _ h => h) rfl hH (fun w' hS => ?_) ?_
       rotate_left
       ·go_simp; first | done | with_reducible rfl
       simp only [List.set_cons_zero, List.set_cons_succ]
       refine held_take (i := 19) (d := 29) (v := ?_) rfl (by kernel_rfl) (by kernel_rfl) (by kernel_rfl) rfl (fun _ _ _ h => h) rfl hH (fun w' hS => ?_) ?_
       rotate_left
       ·have m8 := (G.out.keeps hS).cell 8; simp only [List.getElem?_toArray, List.getElem?_cons_zero, List.getElem?_cons_succ] at m8; go_simp; first | done | with_reducible rfl
       simp only [List.set_cons_zero, List.set_cons_succ]
       refine held_take (i := 20) (d := 30) (v := ?_) rfl (by kernel_rfl) (by kernel_rfl) (by kernel_rfl) rfl (fun _ _ _ h => h) rfl hH (fun w' hS => ?_) ?_
       rotate_left
       ·go_simp; first | done | with_reducible rfl
       simp only [List.set_cons_zero, List.set_cons_succ]
       refine held_take (i := 21) (d := 31) (v := ?_) rfl (by kernel_rfl) (by kernel_rfl) (by kernel_rfl) rfl (fun _ _ _ h => h) rfl hH (fun w' hS => ?_) ?_
       rotate_left
       ·go_simp; first | done | with_reducible rfl
       simp only [List.set_cons_zero, List.set_cons_succ]
       by_cases hp : h.pa ≤ 0
       ·have q := decide_eq_true (p := h.pa ≤ 0) hp
        have q2 : decide (0 < h.pa) = false := decide_eq_false (by omega)
        simp only [q2]
        refine held_take (i := 22) (d := 32) (v := ?_) rfl (by kernel_rfl) (by kernel_rfl) (by kernel_rfl) rfl (fun _ _ _ h => h) rfl hH (fun w' hS => ?_) ?_
        rotate_left
        ·go_simp; first | done | with_reducible rfl
        simp only [List.set_cons_zero, List.set_cons_succ]
        refine held_take (i := 23) (d := 33) (v := ?_) rfl (by kernel_rfl) (by kernel_rfl) (by kernel_rfl) rfl (fun _ _ _ h => h) rfl hH (fun w' hS => ?_) ?_
        rotate_left
        ·go_simp; first | done | with_reducible rfl
        simp only [List.set_cons_zero, List.set_cons_succ]
        refine held_take (i := 24) (d := 34) (v := ?_) rfl (by kernel_rfl) (by kernel_rfl) (by kernel_rfl) rfl (fun _ _ _ h => h) rfl hH (fun w' hS => ?_) ?_
        rotate_left
        ·go_simp; first | done | with_reducible rfl
        simp only [List.set_cons_zero, List.set_cons_succ]
        refine held_take (i := 25) (d := 35) (v := ?_) rfl (by kernel_rfl) (by kernel_rfl) (by kernel_rfl) rfl (fun _ _ _ h => h) rfl hH (fun w' hS => ?_) ?_
        rotate_left
        ·have m8 := (G.out.keeps hS).cell 8; simp only [List.getElem?_toArray, List.getElem?_cons_zero, List.getElem?_cons_succ] at m8; go_simp; first | done | with_reducible rfl
        simp only [List.set_cons_zero, List.set_cons_succ]
        refine held_take (i := 26) (d := 36) (v := ?_) rfl (by kernel_rfl) (by kernel_rfl) (by kernel_rfl) rfl (fun _ _ _ h => h) rfl hH (fun w' hS => ?_) ?_
        rotate_left
        ·go_simp; first | done | with_reducible rfl
        simp only [List.set_cons_zero, List.set_cons_succ]
        refine held_only (i := 27) rfl (by kernel_rfl) rfl (fun K hK => ?_)
        go_simp
        refine hK.out _ _ hH (fun hH => ?_)
        clear hK K
        by_cases hl : 0 ≤ h.pa
        ·have u := decide_eq_true (p := 0 ≤ h.pa) hl
         have u2 : decide (h.pa < min 0 1) = false := decide_eq_false (by rw [show min (0 : Int) 1 = 0 from rfl]; omega)
         refine held_take (i := 28) (d := 38) (v := ?_) rfl (by kernel_rfl) (by kernel_rfl) (by kernel_rfl) rfl (fun _ _ _ h => h) rfl hH (fun w' hS => ?_) ?_
         rotate_left
         ·go_simp; first | done | with_reducible rfl
         simp only [List.set_cons_zero, List.set_cons_succ]
         refine held_take (i := 29) (d := 39) (v := ?_) rfl (by kernel_rfl) (by kernel_rfl) (by kernel_rfl) rfl (fun _ _ _ h => h) rfl hH (fun w' hS => ?_) ?_
         rotate_left
         ·go_simp; first | done | with_reducible rfl
         simp only [List.set_cons_zero, List.set_cons_succ]
         refine wpAnyH_done (by kernel_rfl) ?_ _
         go_wp2_with fail
         go_meet
         case rel => exact ⟨false, rfl, Lib.hid (by rw [hE.out, q, show min (0 : Int) 1 = 0 from rfl, u]; rfl), Lib.hid hH⟩
        ·have u := decide_eq_false (p := 0 ≤ h.pa) hl
         have u2 : decide (h.pa < min 0 1) = true := decide_eq_true (by rw [show min (0 : Int) 1 = 0 from rfl]; omega)
         refine held_take (i := 28) (d := 38) (v := ?_) rfl (by kernel_rfl) (by kernel_rfl) (by kernel_rfl) rfl (fun _ _ _ h => h) rfl hH (fun w' hS => ?_) ?_
         rotate_left
         ·go_simp; first | done | with_reducible rfl
         simp only [List.set_cons_zero, List.set_cons_succ]
         refine held_take (i := 29) (d := 39) (v := ?_) rfl (by kernel_rfl) (by kernel_rfl) (by kernel_rfl) rfl (fun _ _ _ h => h) rfl hH (fun w' hS => ?_) ?_
         rotate_left
         ·go_simp; first | done | with_reducible rfl
         simp only [List.set_cons_zero, List.set_cons_succ]
         refine wpAnyH_done (by kernel_rfl) ?_ _
         go_wp2_with fail
         go_meet
         case rel => exact ⟨true, rfl, Lib.hid (by rw [hE.out, q, show min (0 : Int) 1 = 0 from rfl, u]; rfl), Lib.hid hH⟩
       ·have q := decide_eq_false (p := h.pa ≤ 0) hp
        have q2 : decide (0 < h.pa) = true := decide_eq_true (by omega)
        simp only [q2]
        refine held_take (i := 22) (d := 32) (v := ?_) rfl (by kernel_rfl) (by kernel_rfl) (by kernel_rfl) rfl (fun _ _ _ h => h) rfl hH (fun w' hS => ?_) ?_
        rotate_left
        ·go_simp; first | done | with_reducible rfl
        simp only [List.set_cons_zero, List.set_cons_succ]
        refine held_take (i := 23) (d := 33) (v := ?_) rfl (by kernel_rfl) (by kernel_rfl) (by kernel_rfl) rfl (fun _ _ _ h => h) rfl hH (fun w' hS => ?_) ?_
        rotate_left
        ·go_simp; first | done | with_reducible rfl
        simp only [List.set_cons_zero, List.set_cons_succ]
        refine off_take (i := 24) (d := 34) rfl (by kernel_rfl) (by kernel_rfl) (by kernel_rfl) rfl (fun _ _ _ h => h) rfl hH ?_
        simp only [List.set_cons_zero, List.set_cons_succ]
        refine off_take (i := 25) (d := 35) rfl (by kernel_rfl) (by kernel_rfl) (by kernel_rfl) rfl (fun _ _ _ h => h) rfl hH ?_
        simp only [List.set_cons_zero, List.set_cons_succ]
        refine off_take (i := 26) (d := 36) rfl (by kernel_rfl) (by kernel_rfl) (by kernel_rfl) rfl (fun _ _ _ h => h) rfl hH ?_
        simp only [List.set_cons_zero, List.set_cons_succ]
        refine off_one (i := 27) rfl (by kernel_rfl) rfl hH ?_
        go_simp
        refine off_take (i := 28) (d := 38) rfl (by kernel_rfl) (by kernel_rfl) (by kernel_rfl) rfl (fun _ _ _ h => h) rfl hH ?_
        simp only [List.set_cons_zero, List.set_cons_succ]
        refine held_take (i := 29) (d := 39) (v := ?_) rfl (by kernel_rfl) (by kernel_rfl) (by kernel_rfl) rfl (fun _ _ _ h => h) rfl hH (fun w' hS => ?_) ?_
        rotate_left
        ·go_simp; first | done | with_reducible rfl
        simp only [List.set_cons_zero, List.set_cons_succ]
        refine wpAnyH_done (by kernel_rfl) ?_ _
        go_wp2_with fail
        go_meet
        case rel => exact ⟨true, rfl, Lib.hid (by rw [hE.out, q]; rfl), Lib.hid hH⟩
   case rest =>
    obtain ⟨g, rfl, hR, BW⟩ := hcut
    have Bx := Lib.hid (bnext B0.out BW.out)
    replace G := Lib.hid (G.out.keeps BW.out)
    replace S0 := Lib.hid (S0.out.keeps BW.out)
    generalize wc = w5 at *
    clear hE BW C1 C2 C3 C4
    have n1 := G.out.cell 1
    have n3 := G.out.cell 3
    have n8 := G.out.cell 8
    simp only [List.getElem?_toArray, List.getElem?_cons_zero, List.getElem?_cons_succ] at n1 n3 n8
    have RW := Lib.hid (blk_range G.out 9 [.int .i64 h.wk, .int .i64 h.ws] rfl)
    cases g
    ·go_wp2_with (first | (refine arm_loadT infX Tryz.underlying29 rfl (.tmp 1) rfl rfl _ _ _ rfl G.out rfl ?_) | (refine arm_mid infWi Tryz.underlying26 rfl (.tmp 47) rfl rfl w.heap.size 9 #[.int .i64 h.wk, .int .i64 h.ws] rfl RW.out rfl ?_))
     refine (C5.out _ S0.out).mono ?_
     rintro e w6 ⟨rfl, b6⟩
     have B6 := Lib.hid (bnext Bx.out b6)
     clear b6 C5
     go_wp2_with fail
     go_ret
     exact bl_of (by rw [hR.out]; rfl) B6.out
    ·go_wp2_with fail
     go_ret
     exact bl_of (by rw [hR.out]; rfl) Bx.out
end Go.Proofs.YtbahfelnbofjjaaGreatDoor.ch
