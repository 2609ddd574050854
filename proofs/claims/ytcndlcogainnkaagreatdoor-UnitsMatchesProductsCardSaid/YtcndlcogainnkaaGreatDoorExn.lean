/-
  The reference's exponent.
-/
import Derived.Test.YtcndlcogainnkaaGreatDoorNms
import Derived.Test.YtcndlcogainnkaaGreatDoorRefDivide
import Derived.Test.YtcndlcogainnkaaGreatDoorNrm
namespace Go.Proofs.YtcndlcogainnkaaGreatDoor
open Go.RowKit dec

theorem dec.Free.put2 {w : World} {k : Nat} (h : Free w k) (u v : Value) : Free ((w.setCell ⟨k, 0, none⟩ u).setCell ⟨k, 1, none⟩ v) k := by
  obtain ⟨h1, h2, h3⟩ := h
  exact ⟨by simpa [go_sem] using h1, by simpa [go_sem] using h2, by simpa [go_sem] using h3⟩
theorem ex_on {l : List Fa} {j : Nat} (h : j < l.length) (s : ByteArray) (e : (gt l j).1 = s) : ex (l.take (j + 1)) s = ex (l.take j) s + (gt l j).2 := by
  rw [take_gt h, ex_append]
  simp [ex, e]
theorem ex_off {l : List Fa} {j : Nat} (h : j < l.length) (s : ByteArray) (e : (gt l j).1 ≠ s) : ex (l.take (j + 1)) s = ex (l.take j) s := by
  rw [take_gt h, ex_append]
  simp [ex, e]
set_option maxRecDepth 100000 in
set_option maxHeartbeats 4000000 in
theorem exponent_any (a : Option Addr) (n cap : Nat) (l : List Fa) (s : ByteArray) (w : World) (hS : Sl w a n cap l) (hx : ∀ x ∈ l, -9223372036854775808 ≤ x.2 ∧ x.2 ≤ 9223372036854775807) (hlen : l.length < 5864062014805) :
    Calls Tryz.prog 36 #[.slice a n cap, .string s] w fun e w' => e = .returned (.tuple #[.int .i64 (if far (ex l s) = true then 0 else ex l s), .bool (!far (ex l s))]) ∧ Below w.heap.size w w' := by
  generalize hrv : (if far (ex l s) = true then 0 else ex l s) = rv
  generalize hrb : (!far (ex l s)) = rb
  have RV := Lib.hid hrv
  have RB := Lib.hid hrb
  clear hrv hrb
  have S0 := Lib.hid hS
  have X0 := Lib.hid hx
  have N0 := Lib.hid hlen
  have Z0 := Lib.hid (fun W => refOf_any 0 W (by decide) (by decide))
  have IN := Lib.hid (ex_in s hx hlen)
  clear hS hx hlen
  go_enter Tryz.func36, Tryz.ntmps36
  go_wp2_with fail
  refine (Z0.out _).mono ?_
  rintro e w1 ⟨rfl, b1⟩
  have b2 := Lib.hid (balloc b1 (.cells #[.int .i64 (hi 0), .int .u64 (lo 0)] 45))
  have X2 := Lib.hid (Box.new w1 0)
  have F2 := Lib.hid (Free.new w1 #[.int .i64 (hi 0), .int .u64 (lo 0)])
  have MB := Lib.hid b1.size
  clear b1
  go_wp2_with fail
  generalize w1.alloc (.cells #[.int .i64 (hi 0), .int .u64 (lo 0)] 45) = W at *
  generalize w1.heap.size = mb at *
  go_loopw [7] (fun vi wr => ∃ j : Nat, vi = .int .i64 (j : Nat) ∧ Hid (j ≤ n) ∧ Hid (Box wr mb (ex (l.take j) s)) ∧ Hid (Free wr mb) ∧ Hid (Below w.heap.size w wr)) (fun vi _ => n - (intOf vi).toNat)
  case atStart => exact ⟨0, rfl, Lib.hid (Nat.zero_le _), X2, F2, b2⟩
  case round =>
    clear X2 F2 b2 Z0
    obtain ⟨j, rfl, hj, BX, FX, hb⟩ := hrel
    by_cases hc : j < n
    · have hln := Lib.hid (show j < l.length by have := S0.out.hn; omega)
      obtain ⟨bk, off, rfl, hC⟩ := S0.out.hat.resolve_left (by have := hln.out; omega)
      have C0 := Lib.hid (hC j hln.out).1
      have C1 := Lib.hid (hC j hln.out).2
      have c0 := dec.keeps hb.out C0.out
      have q2 : decide ((j : Int) < (n : Int)) = true := decide_eq_true (by omega)
      have q3 : j < n := hc
      have f4 := Lib.hid (next_at (j := j) (by have := S0.out.hcap; have := S0.out.hmax; omega))
      have hon := Lib.hid (ex_on hln.out s)
      have hoff := Lib.hid (ex_off hln.out s)
      have hxr := Lib.hid (X0.out _ (gt_mem hln.out))
      clear hC
      generalize gt l j = x at c0 C0 C1 hon hoff hxr
      by_cases hxs : x.1 = s
      · have q5 : (x.1.toList == s.toList) = true := by rw [bs_eq]; exact decide_eq_true hxs
        have HE := Lib.hid (hon.out hxs)
        have OC := Lib.hid (fun W => refOf_any x.2 W hxr.out.1 hxr.out.2)
        have AC := Lib.hid (fun W => refAdd_u (ex (l.take j) s) x.2 W)
        replace hxs := Lib.hid hxs
        clear hon hoff
        go_wp2_with fail
        clear c0
        have GD := Lib.hid (show Below w.heap.size w wr.drew from hb.out.drew)
        have B7 := Lib.hid (show Box wr.drew mb (ex (l.take j) s) from BX.out)
        have F7 := Lib.hid (show Free wr.drew mb from FX.out)
        replace BX := B7
        replace FX := F7
        clear B7 F7
        refine wp_region_noPanic ?_
        refine wp_region_held_drew (S := fun w' => Below w.heap.size w w') (by kernel_rfl) GD.out (fun hH => ?_)
        refine held_take (i := 1) (d := 25) (v := ?_) rfl (by kernel_rfl) (by kernel_rfl) (by kernel_rfl) rfl (fun _ _ _ h => h) rfl hH (fun w' hS => ?_) ?_
        rotate_left
        · go_simp; first | done | with_reducible rfl
        simp only [List.set_cons_zero, List.set_cons_succ]
        refine held_take (i := 2) (d := 26) (v := ?_) rfl (by kernel_rfl) (by kernel_rfl) (by kernel_rfl) rfl (fun _ _ _ h => h) rfl hH (fun w' hS => ?_) ?_
        rotate_left
        · go_simp; first | done | with_reducible rfl
        simp only [List.set_cons_zero, List.set_cons_succ]
        refine held_take (i := 3) (d := 27) (v := ?_) rfl (by kernel_rfl) (by kernel_rfl) (by kernel_rfl) rfl (fun _ _ _ h => h) rfl hH (fun w' hS => ?_) ?_
        rotate_left
        · go_simp; first | done | with_reducible rfl
        simp only [List.set_cons_zero, List.set_cons_succ]
        refine held_take (i := 4) (d := 28) (v := ?_) rfl (by kernel_rfl) (by kernel_rfl) (by kernel_rfl) rfl (fun _ _ _ h => h) rfl hH (fun w' hS => ?_) ?_
        rotate_left
        · go_simp; first | done | with_reducible rfl
        simp only [List.set_cons_zero, List.set_cons_succ]
        refine held_take (i := 5) (d := 29) (v := ?_) rfl (by kernel_rfl) (by kernel_rfl) (by kernel_rfl) rfl (fun _ _ _ h => h) rfl hH (fun w' hS => ?_) ?_
        rotate_left
        · have e1 := dec.keeps hS C1.out; go_simp; first | done | with_reducible rfl
        simp only [List.set_cons_zero, List.set_cons_succ]

        refine held_two (i := 0) (j := 6) rfl rfl (by kernel_rfl) rfl rfl (fun K hK => ?_) (fun K hK => ?_)
        · have e0 := BX.out.1
          have e1 := BX.out.2
          go_simp
          refine hK.out _ _ hH (fun hH => ?_)
          clear hK K e0 e1
          refine held_only (i := 6) rfl (by kernel_rfl) rfl (fun K hK => ?_)
          go_simp
          refine (OC.out _).mono ?_
          rintro e w6 ⟨rfl, b6⟩
          replace BX := Lib.hid (BX.out.keeps b6)
          replace FX := Lib.hid (FX.out.keeps b6)
          refine hK.out _ _ (hH.trans (b6.mono hH.size)) (fun hH => ?_)
          clear hK K b6
          refine held_only (i := 7) rfl (by kernel_rfl) rfl (fun K hK => ?_)
          go_simp
          refine (AC.out _).mono ?_
          rintro e w8 ⟨rfl, b8⟩
          replace BX := Lib.hid (BX.out.keeps b8)
          replace FX := Lib.hid (FX.out.keeps b8)
          refine hK.out _ _ (hH.trans (b8.mono hH.size)) (fun hH => ?_)
          clear hK K b8
          refine held_only (i := 8) rfl (by kernel_rfl) rfl (fun K hK => ?_)
          have e0 := BX.out.1
          have e1 := BX.out.2
          have e2 := FX.out.1
          have e3 := FX.out.2.1
          go_simp
          refine hK.out _ _ (store2 hH MB.out _ _) (fun hH => ?_)
          have BY := Lib.hid (BX.out.put (ex (l.take j) s + x.2))
          have FY := Lib.hid (FX.out.put2 (.int .i64 (hi (ex (l.take j) s + x.2))) (.int .u64 (lo (ex (l.take j) s + x.2))))
          clear hK K e0 e1 e2 e3
          refine wpAnyH_done (by kernel_rfl) ?_ _
          refine noPanic_of ?_
          have HB := Lib.hid hH
          clear hH
          go_wp2_with fail
          refine ⟨⟨j + 1, congrArg (Value.int .i64) f4.out, Lib.hid hc, Lib.hid (by rw [HE.out]; exact BY.out), FY, HB⟩, less_at hc f4.out⟩
        · go_simp
          refine (OC.out _).mono ?_
          rintro e w6 ⟨rfl, b6⟩
          replace BX := Lib.hid (BX.out.keeps b6)
          replace FX := Lib.hid (FX.out.keeps b6)
          refine hK.out _ _ (hH.trans (b6.mono hH.size)) (fun hH => ?_)
          clear hK K b6
          refine held_only (i := 0) rfl (by kernel_rfl) rfl (fun K hK => ?_)
          have e0 := BX.out.1
          have e1 := BX.out.2
          go_simp
          refine hK.out _ _ hH (fun hH => ?_)
          clear hK K e0 e1
          refine held_only (i := 7) rfl (by kernel_rfl) rfl (fun K hK => ?_)
          go_simp
          refine (AC.out _).mono ?_
          rintro e w8 ⟨rfl, b8⟩
          replace BX := Lib.hid (BX.out.keeps b8)
          replace FX := Lib.hid (FX.out.keeps b8)
          refine hK.out _ _ (hH.trans (b8.mono hH.size)) (fun hH => ?_)
          clear hK K b8
          refine held_only (i := 8) rfl (by kernel_rfl) rfl (fun K hK => ?_)
          have e0 := BX.out.1
          have e1 := BX.out.2
          have e2 := FX.out.1
          have e3 := FX.out.2.1
          go_simp
          refine hK.out _ _ (store2 hH MB.out _ _) (fun hH => ?_)
          have BY := Lib.hid (BX.out.put (ex (l.take j) s + x.2))
          have FY := Lib.hid (FX.out.put2 (.int .i64 (hi (ex (l.take j) s + x.2))) (.int .u64 (lo (ex (l.take j) s + x.2))))
          clear hK K e0 e1 e2 e3
          refine wpAnyH_done (by kernel_rfl) ?_ _
          refine noPanic_of ?_
          have HB := Lib.hid hH
          clear hH
          go_wp2_with fail
          refine ⟨⟨j + 1, congrArg (Value.int .i64) f4.out, Lib.hid hc, Lib.hid (by rw [HE.out]; exact BY.out), FY, HB⟩, less_at hc f4.out⟩
      · have q5 : (x.1.toList == s.toList) = false := by rw [bs_eq]; exact decide_eq_false hxs
        have HE := Lib.hid (hoff.out hxs)
        replace hxs := Lib.hid hxs
        clear hon hoff
        go_wp2_with fail
        refine ⟨⟨j + 1, congrArg (Value.int .i64) f4.out, Lib.hid hc, Lib.hid (HE.out ▸ BX.out), FX, hb⟩, less_at hc f4.out⟩
    · have q2 : decide ((j : Int) < (n : Int)) = false := decide_eq_false (by omega)
      rw [show l.take j = l from List.take_of_length_le (by have := S0.out.hn; omega)] at BX
      have DC := Lib.hid (fun W => refDivide_u (a := ex l s) 1 IN.out W (by decide) (by decide))
      rw [dv_one, dvOk_one] at DC
      have R1 := Lib.hid far_any
      generalize ex l s = x at *
      have e0 := BX.out.1
      have e1 := BX.out.2
      cases hrg : rg x
      · have hf := far_out hrg
        rw [hrg] at DC
        go_wp2_with fail
        refine (DC.out _).mono ?_
        rintro e w4 ⟨rfl, b4⟩
        have B4 := Lib.hid (bnext hb.out b4)
        clear b4
        go_wp2_with fail
        go_ret2
        exact ⟨by rw [← RV.out, ← RB.out, hf]; rfl, B4.out⟩
      · rw [hrg, kx_yes hrg] at DC
        cases hf : far x
        · go_wp2_with fail
          refine (DC.out _).mono ?_
          rintro e w4 ⟨rfl, b4⟩
          have B4 := Lib.hid (bnext hb.out b4)
          clear b4
          go_wp2_with fail
          refine (R1.out _ _).mono ?_
          rintro e w' ⟨rfl, rfl⟩
          go_wp2_with fail
          go_ret2
          exact ⟨by rw [← RV.out, ← RB.out, hf]; rfl, B4.out⟩
        · go_wp2_with fail
          refine (DC.out _).mono ?_
          rintro e w4 ⟨rfl, b4⟩
          have B4 := Lib.hid (bnext hb.out b4)
          clear b4
          go_wp2_with fail
          refine (R1.out _ _).mono ?_
          rintro e w' ⟨rfl, rfl⟩
          go_wp2_with fail
          go_ret2
          exact ⟨by rw [← RV.out, ← RB.out, hf]; rfl, B4.out⟩
end Go.Proofs.YtcndlcogainnkaaGreatDoor
