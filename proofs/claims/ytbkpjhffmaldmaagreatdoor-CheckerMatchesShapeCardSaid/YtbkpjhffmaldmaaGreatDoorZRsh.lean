/-
  The reference's Shape.
-/
import Derived.Test.YtbkpjhffmaldmaaGreatDoorQ04
import Derived.Test.YtbkpjhffmaldmaaGreatDoorZRfm
namespace Go.Proofs.YtbkpjhffmaldmaaGreatDoor.ch
open Go.RowKit dec

set_option maxRecDepth 100000 in
set_option maxHeartbeats 4000000 in
theorem rshape_any (x : Ex) (ua aa : Option Addr) (uc ac : Nat) (w : World) (hsx : x.szs) (hA : Ec w x ua uc aa ac) : Calls Tryz.prog 13 #[.agg (exC x.h x.ar.len ua uc aa ac)] w (Num (shE x) w) := by
  have bb := balloc (b0 w) (.cells (exC x.h x.ar.len ua uc aa ac) 29)
  have B0 := Lib.hid bb
  have G := Lib.hid (Blk.new w 29 (exC x.h x.ar.len ua uc aa ac))
  have HA := Lib.hid (hA.keeps bb)
  have C1 := Lib.hid (fun (W : World) (S : Ec W x ua uc aa ac) => rsize_any x ua aa uc ac W S.ar)
  have C2 := Lib.hid (fun (W : World) (S : Ec W x ua uc aa ac) => rdepth_any x ua aa uc ac W S.ar)
  have C3 := Lib.hid (fun (W : World) (S : Ec W x ua uc aa ac) => rform_any false x ua aa uc ac W hsx S)
  have hE : shE x = shE x := rfl
  conv at hE => rhs; unfold shE
  replace hE := Lib.hid hE
  clear hA bb hsx
  generalize szE x = m at *
  generalize dpE x = d at *
  generalize fmE false x = b at *
  go_enter Tryz.func13, Tryz.ntmps13
  go_wp2_with (first | (refine arm_loadT infX Tryz.underlying29 rfl (.tmp 1) rfl rfl _ _ _ rfl G.out rfl ?_) | (refine arm_loadG infX Tryz.underlying29 rfl (.tmp 1) rfl rfl _ _ _ rfl G.out rfl ?_))
  refine (C1.out _ HA.out).mono ?_
  rintro e w1 ⟨rfl, b1⟩
  have B1 := Lib.hid (bnext B0.out b1)
  replace G := Lib.hid (G.out.keeps b1)
  replace HA := Lib.hid (HA.out.keeps b1)
  clear b1
  by_cases h1 : 64 < m
  · have q1 : decide (64 < m) = true := decide_eq_true h1
    have h3 := Lib.hid h1
    clear h1
    go_wp2_with fail
    go_ret
    exact nu_of (by rw [hE.out, if_pos (.inl h3.out)]) B1.out
  · have q1 : decide (64 < m) = false := decide_eq_false h1
    have h3 := Lib.hid h1
    clear h1
    go_wp2_with (first | (refine arm_loadT infX Tryz.underlying29 rfl (.tmp 1) rfl rfl _ _ _ rfl G.out rfl ?_) | (refine arm_loadG infX Tryz.underlying29 rfl (.tmp 1) rfl rfl _ _ _ rfl G.out rfl ?_))
    refine (C2.out _ HA.out).mono ?_
    rintro e w2 ⟨rfl, b2⟩
    have B2 := Lib.hid (bnext B1.out b2)
    replace G := Lib.hid (G.out.keeps b2)
    replace HA := Lib.hid (HA.out.keeps b2)
    clear b2
    by_cases h2 : 12 < d
    · have q2 : decide (12 < d) = true := decide_eq_true h2
      have h4 := Lib.hid h2
      clear h2
      go_wp2_with fail
      go_ret
      exact nu_of (by rw [hE.out, if_pos (.inr h4.out)]) B2.out
    · have q2 : decide (12 < d) = false := decide_eq_false h2
      have h4 := Lib.hid (show ¬ (64 < m ∨ 12 < d) from fun h => h.elim (fun e => absurd e (by have := h3.out; omega)) h2)
      clear h2
      go_wp2_with (first | (refine arm_loadT infX Tryz.underlying29 rfl (.tmp 1) rfl rfl _ _ _ rfl G.out rfl ?_) | (refine arm_loadG infX Tryz.underlying29 rfl (.tmp 1) rfl rfl _ _ _ rfl G.out rfl ?_))
      refine (C3.out _ HA.out).mono ?_
      rintro e w3 ⟨rfl, b3⟩
      have B3 := Lib.hid (bnext B2.out b3)
      replace G := Lib.hid (G.out.keeps b3)
      replace HA := Lib.hid (HA.out.keeps b3)
      clear b3
      cases b
      · go_wp2_with fail
        go_ret
        exact nu_of (by rw [hE.out, if_neg h4.out]; rfl) B3.out
      · go_wp2_with fail
        go_ret
        exact nu_of (by rw [hE.out, if_neg h4.out]; rfl) B3.out
end Go.Proofs.YtbkpjhffmaldmaaGreatDoor.ch
