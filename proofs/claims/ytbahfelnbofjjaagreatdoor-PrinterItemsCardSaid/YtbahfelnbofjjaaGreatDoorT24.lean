/-
  The reference's Table; CheckerMatchesTables.
-/
import Derived.Test.YtbahfelnbofjjaaGreatDoorT04
import Derived.Test.YtbahfelnbofjjaaGreatDoorT14
import Derived.Test.YtbahfelnbofjjaaGreatDoorT19
set_option maxRecDepth 100000
set_option maxHeartbeats 16000000
namespace Go.Proofs.YtbahfelnbofjjaaGreatDoor.ch
open Go.RowKit dec
theorem fis_all {w : World} {a : Option Addr} {n c : Nat} {l : List Fi} (h : Fis w a n c l) (h0 : 0 < l.length) : ∃ bk off, a = some ⟨bk, off, none⟩ ∧ (∀ j (hj : j < l.length) W, Below w.heap.size w W → W.cell? ⟨bk, off + j * 4, none⟩ = some (.string l[j].nm)) ∧
  ∀ j (hj : j < l.length), ∃ ua uc, w.rangeAt bk (off + j * 4 + 1) (tyC l[j].ty ua uc).toList ∧ un.Sl w ua l[j].ty.un.length uc l[j].ty.un := by
 obtain ⟨bk, off, e, hA⟩ := h.hat.resolve_left (by omega)
 refine ⟨bk, off, e, fun j hj W hb => ?_, fun j hj => ?_⟩
 ·obtain ⟨cs, _, h2, ua, uc, rfl, _⟩ := hA j hj
  exact dec.keeps hb (by simpa using h2 0 _ rfl)
 ·obtain ⟨cs, _, h2, ua, uc, rfl, S⟩ := hA j hj
  refine ⟨ua, uc, fun i v hv => ?_, S⟩
  have := h2 (i + 1) v (by simpa [fiC, tyC] using hv)
  rw [← this]
  congr 2
  omega
theorem any_at {p : Fi → Bool} {l : List Fi} {k : Nat} (h : k < l.length) : (l.drop k).any p = (p l[k] || (l.drop (k + 1)).any p) := by
 rw [List.drop_eq_getElem_cons h, List.any_cons]
theorem rtable_any (t : Tb) (a : Option Addr) (c : Nat) (w : World) (hA : Fis w a t.fs.length c t.fs) :
  Calls Tryz.prog 58 #[.agg (tbC t a c)] w (Num (tbE t) w) := by
 have bb := balloc (b0 w) (.cells (tbC t a c) 48)
 have B0 := Lib.hid bb
 have V1 := Lib.hid (Blk.new w 48 (tbC t a c))
 have HA := Lib.hid hA
 have hL := Lib.hid (show t.fs.length ≤ 9223372036854775807 by have := hA.hcap; have := hA.hmax; omega)
 have CN := Lib.hid (fun (x : ByteArray) (W : World) => rname_any x W)
 have CT := Lib.hid (fun (t : Ty) (a : Option Addr) (c : Nat) (W : World) (S : un.Sl W a t.un.length c t.un) => rtype_any t a c W S)
 have hE : tbE t = tbE t := rfl
 conv at hE => rhs; unfold tbE
 replace hE := Lib.hid hE
 clear hA bb
 unfold tbC at *
 go_enter Tryz.func58, Tryz.ntmps58
 go_wp2_with fail
 refine (CN.out _ _).mono ?_
 rintro e w1 ⟨rfl, b1⟩
 have B1 := Lib.hid (bnext B0.out b1)
 replace V1 := Lib.hid (V1.out.keeps b1)
 clear b1 B0
 have c1 := V1.out.cell 1
 have c2 := V1.out.cell 2
 have c3 := V1.out.cell 3
 simp only [List.getElem?_toArray, List.getElem?_cons_zero, List.getElem?_cons_succ] at c1 c2 c3
 generalize name t.nm = n1 at *
 cases n1
 ·replace hE := Lib.hid (hE.out.trans (if_pos rfl))
  go_wp2_with fail
  go_ret
  exact nu_of (by rw [hE.out]) B1.out
 ·replace hE := Lib.hid (hE.out.trans (if_neg (by decide)))
  go_wp2_with fail
  refine (CN.out _ _).mono ?_
  rintro e w2 ⟨rfl, b2⟩
  have B2 := Lib.hid (bnext B1.out b2)
  replace V1 := Lib.hid (V1.out.keeps b2)
  clear b2 B1 c1 c2 c3
  have c1 := V1.out.cell 1
  have c2 := V1.out.cell 2
  have c3 := V1.out.cell 3
  simp only [List.getElem?_toArray, List.getElem?_cons_zero, List.getElem?_cons_succ] at c1 c2 c3
  generalize name t.en = n2 at *
  cases n2
  ·replace hE := Lib.hid (hE.out.trans (if_pos rfl))
   go_wp2_with fail
   go_ret
   exact nu_of (by rw [hE.out]) B2.out
  ·replace hE := Lib.hid (hE.out.trans (if_neg (by decide)))
   by_cases h1 : t.kp < 0
   ·have q := decide_eq_true h1
    replace hE := Lib.hid (hE.out.trans (if_pos h1))
    replace h1 := Lib.hid h1
    go_wp2_with fail
    go_ret
    exact nu_of (by rw [hE.out]) B2.out
   ·have q := decide_eq_false h1
    replace hE := Lib.hid (hE.out.trans (if_neg h1))
    replace h1 := Lib.hid h1
    by_cases h2 : 1099511627776 < t.kp
    ·have q2 := decide_eq_true h2
     replace hE := Lib.hid (hE.out.trans (if_pos h2))
     replace h2 := Lib.hid h2
     go_wp2_with fail
     go_ret
     exact nu_of (by rw [hE.out]) B2.out
    ·have q2 := decide_eq_false h2
     replace hE := Lib.hid (hE.out.trans (if_neg h2))
     replace h2 := Lib.hid h2
     by_cases h3 : 8 < t.fs.length
     ·have q3 : decide (8 < (t.fs.length : Int)) = true := decide_eq_true (by omega)
      replace hE := Lib.hid (hE.out.trans (if_pos h3))
      replace h3 := Lib.hid h3
      go_wp2_with fail
      go_ret
      exact nu_of (by rw [hE.out]) B2.out
     ·have q3 : decide (8 < (t.fs.length : Int)) = false := decide_eq_false (by omega)
      replace hE := Lib.hid (hE.out.trans (if_neg h3))
      have h8 := Lib.hid (show t.fs.length ≤ 8 by omega)
      replace h3 := Lib.hid h3
      have hS := Lib.hid (show tbE t = fsE (t.fs.take 0) (t.fs.drop 0) from by rw [hE.out, List.take_zero, List.drop_zero])
      clear hE
      go_wp2_with fail
      clear c1 c2 c3
      go_loopw [3, 4, 5] (fun vi _ _ wr => ∃ i : Nat, vi = .int .i64 (i : Nat) ∧ Hid (i ≤ t.fs.length) ∧ Hid (tbE t = fsE (t.fs.take i) (t.fs.drop i)) ∧ Hid (Below w2.heap.size w2 wr)) (fun vi _ _ _ => t.fs.length - (intOf vi).toNat)
      case atStart => exact ⟨0, rfl, Lib.hid (Nat.zero_le _), hS, Lib.hid (b0 w2)⟩
      case round =>
       clear hS
       obtain ⟨i, rfl, hi, hS, hb⟩ := hrel
       have Bw := Lib.hid (bnext B2.out hb.out)
       replace V1 := Lib.hid (V1.out.keeps hb.out)
       generalize wr = wo at *
       have c2 := V1.out.cell 2
       simp only [List.getElem?_toArray, List.getElem?_cons_zero, List.getElem?_cons_succ] at c2
       by_cases hlt : i < t.fs.length
       ·have q4 : decide ((i : Int) < (t.fs.length : Int)) = true := decide_eq_true (by omega)
        have i1 : (i : Int) < (t.fs.length : Int) := by omega
        have f4 := Lib.hid (next_at (j := i) (by have := hL.out; omega))
        have hlt2 := Lib.hid hlt
        obtain ⟨bk, off, rfl, hN, hR⟩ := fis_all HA.out (Nat.lt_of_le_of_lt (Nat.zero_le _) hlt)
        obtain ⟨ya, yc, R1, S1⟩ := hR i hlt
        have e1 := hN i hlt _ Bw.out
        have N2 := Lib.hid (fun W (b : Below w.heap.size w W) => hN i hlt W b)
        replace hN := Lib.hid hN
        replace R1 := Lib.hid R1
        replace S1 := Lib.hid S1
        clear hR
        replace hS := Lib.hid (hS.out.trans (fsE_at hlt))
        generalize hfi : t.fs[i] = f at *
        replace hfi := Lib.hid hfi
        go_wp2_with fail
        refine (CN.out _ _).mono ?_
        rintro e w3 ⟨rfl, b3⟩
        have B3 := Lib.hid (bnext Bw.out b3)
        have hb3 := Lib.hid (bnext hb.out b3)
        replace V1 := Lib.hid (V1.out.keeps b3)
        clear b3 c2 e1
        have hF : fiE (t.fs.take i) f = fiE (t.fs.take i) f := rfl
        conv at hF => rhs; unfold fiE
        replace hF := Lib.hid hF
        generalize name f.nm = nm at *
        cases nm
        ·replace hF := Lib.hid (hF.out.trans (if_pos rfl))
         go_wp2_with fail
         go_ret
         exact nu_of (by rw [hS.out, hF.out]; exact (if_neg (by decide)).symm) B3.out
        ·replace hF := Lib.hid (hF.out.trans (if_neg (by decide)))
         have hA0 := Lib.hid (show (t.fs.take i).any (fun g => decide (g.nm = f.nm)) = ((t.fs.take i).drop 0).any fun g => decide (g.nm = f.nm) by rw [List.drop_zero])
         generalize (t.fs.take i).any (fun g => decide (g.nm = f.nm)) = an at *
         go_wp2_with fail
         go_loopw [4] (fun vk wr => ∃ k : Nat, vk = .int .i64 (k : Nat) ∧ Hid (k ≤ i) ∧ Hid (an = ((t.fs.take i).drop k).any fun g => decide (g.nm = f.nm)) ∧ Hid (Below w3.heap.size w3 wr)) (fun vk _ => i - (intOf vk).toNat)
         case atStart => exact ⟨0, rfl, Lib.hid (Nat.zero_le _), hA0, Lib.hid (b0 w3)⟩
         case round =>
          clear hA0
          obtain ⟨k, rfl, hk, hA1, hbk⟩ := hrel
          have Bk := Lib.hid (bnext B3.out hbk.out)
          replace V1 := Lib.hid (V1.out.keeps hbk.out)
          by_cases hklt : k < i
          ·have q5 : decide ((k : Int) < (i : Int)) = true := decide_eq_true (by omega)
           have k1 : (k : Int) < (t.fs.length : Int) := by have := hlt2.out; omega
           have f5 := Lib.hid (next_at (j := k) (by have := hlt2.out; have := hL.out; omega))
           have hkt : k < (t.fs.take i).length := by rw [List.length_take]; have := hlt2.out; omega
           replace hA1 := Lib.hid (hA1.out.trans (any_at hkt))
           have hk2 := Lib.hid hklt
           have hkf : k < t.fs.length := by have := hlt2.out; omega
           have hg : (t.fs.take i)[k] = t.fs[k] := List.getElem_take
           rw [hg] at hA1
           have N1 := Lib.hid (fun W (b : Below w.heap.size w W) => hN.out k hkf W b)
           generalize t.fs[k] = g at *
           clear hg hkt
           go_upto_region 13 with fail
           go_cut [62] from 45 to 62 (fun v wx => v = .bool (decide (g.nm = f.nm)) ∧ Hid (Below wr.heap.size wr wx))
           case first =>
            refine wp_region_held_drew (S := fun w' => Below wr.heap.size wr w') (by kernel_rfl) (b0 wr).drew (fun hH => ?_)
            refine held_take (i := 0) (d := 50) (v := ?_) rfl (by kernel_rfl) (by kernel_rfl) (by kernel_rfl) rfl (fun _ _ _ h => h) rfl hH (fun w' hS => ?_) ?_
            rotate_left
            ·go_simp; first | done | with_reducible rfl
            simp only [List.set_cons_zero, List.set_cons_succ]
            refine held_take (i := 1) (d := 51) (v := ?_) rfl (by kernel_rfl) (by kernel_rfl) (by kernel_rfl) rfl (fun _ _ _ h => h) rfl hH (fun w' hS => ?_) ?_
            rotate_left
            ·have m2 := (V1.out.keeps hS).cell 2; simp only [List.getElem?_toArray, List.getElem?_cons_zero, List.getElem?_cons_succ] at m2; go_simp; first | done | with_reducible rfl
            simp only [List.set_cons_zero, List.set_cons_succ]
            refine held_take (i := 2) (d := 52) (v := ?_) rfl (by kernel_rfl) (by kernel_rfl) (by kernel_rfl) rfl (fun _ _ _ h => h) rfl hH (fun w' hS => ?_) ?_
            rotate_left
            ·go_simp; first | done | with_reducible rfl
            simp only [List.set_cons_zero, List.set_cons_succ]
            refine held_take (i := 3) (d := 53) (v := ?_) rfl (by kernel_rfl) (by kernel_rfl) (by kernel_rfl) rfl (fun _ _ _ h => h) rfl hH (fun w' hS => ?_) ?_
            rotate_left
            ·go_simp; first | done | with_reducible rfl
            simp only [List.set_cons_zero, List.set_cons_succ]
            refine held_take (i := 4) (d := 54) (v := ?_) rfl (by kernel_rfl) (by kernel_rfl) (by kernel_rfl) rfl (fun _ _ _ h => h) rfl hH (fun w' hS => ?_) ?_
            rotate_left
            ·go_simp; first | done | with_reducible rfl
            simp only [List.set_cons_zero, List.set_cons_succ]
            refine held_take (i := 5) (d := 55) (v := ?_) rfl (by kernel_rfl) (by kernel_rfl) (by kernel_rfl) rfl (fun _ _ _ h => h) rfl hH (fun w' hS => ?_) ?_
            rotate_left
            ·have m5 := N1.out _ (bnext Bk.out hS); go_simp; first | done | with_reducible rfl
            simp only [List.set_cons_zero, List.set_cons_succ]
            refine held_take (i := 6) (d := 56) (v := ?_) rfl (by kernel_rfl) (by kernel_rfl) (by kernel_rfl) rfl (fun _ _ _ h => h) rfl hH (fun w' hS => ?_) ?_
            rotate_left
            ·go_simp; first | done | with_reducible rfl
            simp only [List.set_cons_zero, List.set_cons_succ]
            refine held_take (i := 7) (d := 57) (v := ?_) rfl (by kernel_rfl) (by kernel_rfl) (by kernel_rfl) rfl (fun _ _ _ h => h) rfl hH (fun w' hS => ?_) ?_
            rotate_left
            ·have m2 := (V1.out.keeps hS).cell 2; simp only [List.getElem?_toArray, List.getElem?_cons_zero, List.getElem?_cons_succ] at m2; go_simp; first | done | with_reducible rfl
            simp only [List.set_cons_zero, List.set_cons_succ]
            refine held_take (i := 8) (d := 58) (v := ?_) rfl (by kernel_rfl) (by kernel_rfl) (by kernel_rfl) rfl (fun _ _ _ h => h) rfl hH (fun w' hS => ?_) ?_
            rotate_left
            ·go_simp; first | done | with_reducible rfl
            simp only [List.set_cons_zero, List.set_cons_succ]
            refine held_take (i := 9) (d := 59) (v := ?_) rfl (by kernel_rfl) (by kernel_rfl) (by kernel_rfl) rfl (fun _ _ _ h => h) rfl hH (fun w' hS => ?_) ?_
            rotate_left
            ·go_simp; first | done | with_reducible rfl
            simp only [List.set_cons_zero, List.set_cons_succ]
            refine held_take (i := 10) (d := 60) (v := ?_) rfl (by kernel_rfl) (by kernel_rfl) (by kernel_rfl) rfl (fun _ _ _ h => h) rfl hH (fun w' hS => ?_) ?_
            rotate_left
            ·go_simp; first | done | with_reducible rfl
            simp only [List.set_cons_zero, List.set_cons_succ]
            refine held_take (i := 11) (d := 61) (v := ?_) rfl (by kernel_rfl) (by kernel_rfl) (by kernel_rfl) rfl (fun _ _ _ h => h) rfl hH (fun w' hS => ?_) ?_
            rotate_left
            ·have m5 := N2.out _ (bnext Bk.out hS); go_simp; first | done | with_reducible rfl
            simp only [List.set_cons_zero, List.set_cons_succ]
            refine held_take (i := 12) (d := 62) (v := ?_) rfl (by kernel_rfl) (by kernel_rfl) (by kernel_rfl) rfl (fun _ _ _ h => h) rfl hH (fun w' hS => ?_) ?_
            rotate_left
            ·go_simp; first | done | with_reducible rfl
            simp only [List.set_cons_zero, List.set_cons_succ]
            refine wpAnyH_done (by kernel_rfl) ?_ _
            go_wp2_with fail
            go_meet
            case rel => exact ⟨congrArg Value.bool (un.bs_eq _ _), Lib.hid hH⟩
           case rest =>
            obtain ⟨rfl, BW⟩ := hcut
            generalize wc = w5 at *
            have hbk2 := Lib.hid (bnext hbk.out BW.out)
            have Bk2 := Lib.hid (bnext Bk.out BW.out)
            clear BW N1
            generalize decide (g.nm = f.nm) = dd at *
            cases dd
            ·replace hA1 := Lib.hid (hA1.out.trans (Bool.false_or _))
             go_wp2_with fail
             exact ⟨⟨k + 1, congrArg (Value.int .i64) f5.out, hk2, hA1, hbk2⟩, less_at hk2.out f5.out⟩
            ·have hA2 := hA1.out.trans (Bool.true_or _)
             subst hA2
             replace hF := Lib.hid (hF.out.trans (if_pos rfl))
             go_wp2_with fail
             go_ret
             exact nu_of (by rw [hS.out, hF.out]; exact (if_neg (by decide)).symm) Bk2.out
          ·have q5 : decide ((k : Int) < (i : Int)) = false := decide_eq_false (by omega)
           have hA2 : an = false := by rw [hA1.out, List.drop_eq_nil_of_le (by rw [List.length_take]; omega)]; rfl
           subst hA2
           replace hF := Lib.hid (hF.out.trans (if_neg (by decide)))
           have c2 := V1.out.cell 2
           simp only [List.getElem?_toArray, List.getElem?_cons_zero, List.getElem?_cons_succ] at c2
           have hb5 := Lib.hid (bnext hb3.out hbk.out)
           clear hA1 hbk hb3
           go_wp2_with (first | (refine arm_mid infTy Tryz.underlying31 rfl (.tmp 67) rfl rfl bk (off + i * 4 + 1) (tyC f.ty ya yc) rfl (range_keeps R1.out Bk.out) rfl ?_))
           refine (CT.out f.ty ya yc _ (S1.out.keeps Bk.out)).mono ?_
           rintro e w6 ⟨rfl, b6⟩
           have B6 := Lib.hid (bnext Bk.out b6)
           have hb6 := Lib.hid (bnext hb5.out b6)
           clear b6 hb5
           generalize tyE f.ty = te at *
           by_cases h0 : te = 0
           ·have q6 : (te != 0) = false := by simp [h0]
            replace hS := Lib.hid (hS.out.trans (if_pos (hF.out.trans h0)))
            replace h0 := Lib.hid h0
            go_wp2_with fail
            exact ⟨⟨i + 1, congrArg (Value.int .i64) f4.out, hlt2, hS, hb6⟩, less_at hlt2.out f4.out⟩
           ·have q6 : (te != 0) = true := by simp [h0]
            replace hS := Lib.hid (hS.out.trans (if_neg (fun e => h0 (hF.out.symm.trans e))))
            replace h0 := Lib.hid h0
            go_wp2_with fail
            go_ret
            exact nu_of (by rw [hS.out, hF.out]) B6.out
       ·have q4 : decide ((i : Int) < (t.fs.length : Int)) = false := decide_eq_false (by omega)
        have hS2 : tbE t = 0 := by rw [hS.out, List.drop_eq_nil_of_le (by omega)]; rfl
        replace hS2 := Lib.hid hS2
        go_wp2_with fail
        go_ret
        exact nu_of (by rw [hS2.out]) Bw.out
end Go.Proofs.YtbahfelnbofjjaaGreatDoor.ch
