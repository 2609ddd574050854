/-
  The walk of TimelineNow.
-/
import Derived.Test.YtdhdofgdeljajaaApf
import Derived.Test.YtdhdofgdeljajaaMen
import Derived.Test.YtdhdofgdeljajaaLift
import Derived.WalkSmall
import Derived.Deep.CutRange
import Derived.BigQuiet
namespace Go.Proofs.Ytdhdofgdeljajaa
open Go.RowKit

def pastI (t : Int) (X : List Int) : List Int := X.filter fun x => decide (x ≤ t)
theorem pastI_take {t : Int} {X : List Int} {k : Nat} (hk : k < X.length) : pastI t (X.take (k + 1)) = pastI t (X.take k) ++ (if decide (gn X k ≤ t) then [gn X k] else []) := by
  unfold pastI
  rw [gn_take hk, List.filter_append]
  congr 1
  cases hx : decide (gn X k ≤ t) <;> simp [hx]
theorem sat_tick {g t : Int} {l : List Int} (h : satB g t l = true) : 0 ≤ t ∧ t ≤ 1099511627776 := by
  unfold satB sat at h
  by_cases ht : 0 ≤ t ∧ t ≤ 1099511627776
  · exact ht
  · rw [if_neg ht] at h; cases h
theorem sat_facts {g t : Int} {l : List Int} (h : satB g t l = true) : (satV g t l).1 ≤ (satV g t l).2 ∧ (satV g t l).2 ≤ t ∧ t - (satV g t l).2 ≤ g ∧ 0 ≤ (satV g t l).2 ∧ (0 ≤ t ∧ t ≤ 1099511627776) := by
  have ht := sat_tick h
  unfold satB at h
  unfold satV
  cases hs : sat g t l with
  | none => rw [hs] at h; cases h
  | some m =>
    obtain ⟨h1, h2, h3⟩ := sat_some hs
    refine ⟨h1, h2, h3, ?_, ht⟩
    have : m ∈ ses g t l := by
      unfold sat at hs
      rw [if_pos ht] at hs
      cases hl : (ses g t l).getLast? with
      | none => rw [hl] at hs; cases hs
      | some x =>
        rw [hl] at hs
        simp only [Option.bind_some] at hs
        split at hs
        · cases hs
        · cases hs
          exact List.mem_of_getLast? hl
    obtain ⟨p1, p2, p3⟩ := ses_ok g t l ht.2 m this
    simp only [Option.getD_some]
    omega
theorem sat_pastV (g t : Int) (l : List Int) : satV g t (pastI t l) = satV g t l ∧ satB g t (pastI t l) = satB g t l := by
  unfold satV satB pastI
  rw [sat_past]
  exact ⟨rfl, rfl⟩
theorem sat_lastV {g : Int} {l : List Int} {m : I2} (hm : m ∈ ses g 1099511627776 l) : satV g m.2 l = m ∧ satB g m.2 l = true := by
  unfold satV satB
  rw [sat_last hm]
  exact ⟨rfl, rfl⟩

set_option maxRecDepth 100000 in
set_option maxHeartbeats 2000000 in
theorem walk_now (a : Option Addr) (n0 cap : Nat) (l : List Int) (g t : Int) (w : World) (hS : Sn w a n0 cap l) : Calls Try.prog 9 #[.slice a n0 cap, .int .i64 g, .int .i64 t] w fun e w' => e = .returned (.bool true) ∧ Below w.heap.size w w' := by
  have FC := Lib.hid (fewI_any a n0 cap w hS.hcap hS.hmax)
  have hN := fewN_le n0
  have X1 := hS.few (fewN n0) hN.2
  generalize fewN n0 = n at *
  generalize l.take n = X at *
  have hXn := X1.hn
  have hcap := X1.hcap
  have hmax := X1.hmax
  have SC := Lib.hid (fun w1 h1 => Sessions_any a n cap X g w1 h1 (by omega))
  have AC := Lib.hid (fun w1 h1 => sessionAt_any a n cap X g t w1 h1 (by omega))
  have AM := Lib.hid (fun s w1 h1 => sessionAt_any a n cap X g s w1 h1 (by omega))
  have AP := Lib.hid (fun a' n' cap' w1 h1 h2 => sessionAt_any a' n' cap' (pastI t X) g t w1 h1 h2)
  rw [(sat_pastV g t X).1, (sat_pastV g t X).2] at AP
  have C3 := Lib.hid example_any
  have hML := ses_len g 1099511627776 X
  have hpt : Hid (∀ k, k < X.length → pastI t (X.take (k + 1)) = pastI t (X.take k) ++ (if decide (gn X k ≤ t) then [gn X k] else [])) := fun k hk => pastI_take hk
  have hpl : Hid (∀ k, (pastI t (X.take k)).length < 8000000000000) := fun k => by
    have h1 := List.length_filter_le (fun x => decide (x ≤ t)) (X.take k)
    rw [List.length_take] at h1
    unfold pastI
    omega
  have hfa := Lib.hid (fun hb => sat_facts (g := g) (t := t) (l := X) hb)
  have hla : Hid (∀ i, i < (ses g 1099511627776 X).length → satV g (gt (ses g 1099511627776 X) i).2 X = gt (ses g 1099511627776 X) i ∧ satB g (gt (ses g 1099511627776 X) i).2 X = true) := fun i hi => sat_lastV (gt_mem hi)
  rw [hXn] at hML
  generalize ses g 1099511627776 X = M at *
  generalize satV g t X = sv at *
  generalize satB g t X = sb at *
  obtain ⟨p, q⟩ := sv
  simp only at AC AP hfa
  replace X1 := Lib.hid X1
  replace hXn := Lib.hid hXn
  have hM60 : M.length ≤ 60 := by omega
  clear hS hML
  go_enter Try.func9, Try.ntmps9
  go_wp2_with fail
  refine FC.out.mono ?_
  rintro e w1 ⟨rfl, rfl⟩
  clear FC
  go_wp2_with fail
  go_loopw [8, 9] (fun v i wr => ∃ k : Nat, i = .int .i64 (k : Int) ∧ Hid (k ≤ n) ∧ Hid (OwnN wr w.heap.size v (pastI t (X.take k))) ∧ Hid (Below w.heap.size w wr)) (fun _ i _ => n - (intOf i).toNat)
  case atStart => exact ⟨0, rfl, Nat.zero_le _, by simp only [List.take_zero, pastI, List.filter_nil]; exact OwnN.nil _ _, b0 w⟩
  case round =>
    obtain ⟨k, rfl, hk, hO, hb⟩ := hrel
    by_cases hlt : k < n
    · have q1 : decide ((k : Int) < (n : Int)) = true := decide_eq_true (by omega)
      obtain ⟨bk, off, rfl, hC⟩ := (X1.out.keeps hb.out).hat.resolve_left (by have := hXn.out; omega)
      have e0 := hC k (by have := hXn.out; omega)
      have hf := Lib.hid (hpt.out k (by have := hXn.out; omega))
      have hlen := Lib.hid (hpl.out k)
      generalize gn X k = x at *
      clear hC
      by_cases hx : x ≤ t
      · have q2 : decide (x ≤ t) = true := decide_eq_true hx
        have h1 : Hid (pastI t (X.take (k + 1)) = pastI t (X.take k) ++ [x]) := by have := hf.out; rw [q2] at this; simpa [Hid] using this
        clear hf hx
        go_wp2_with (at_builtin; refine is_appN (.tmp 32) (.tmp 37) rfl ?_; refine wpList_pushN _ rfl (.tmp 32) (.tmp 37) rfl w.heap.size _ _ rfl (hO.out.keeps (balloc (b0 _) _)) wr.heap.size x rfl (by simp [go_sem]) hlen.out (balloc hb.out _).size ?_; intro v2 w4 O2 b2)
        refine ⟨⟨k + 1, rfl, hlt, by unfold Hid; rw [h1.out]; exact O2, (balloc hb.out _).trans b2⟩, ?_⟩
        simp only [intOf]
        omega
      · have q2 : decide (x ≤ t) = false := decide_eq_false hx
        have h1 : Hid (pastI t (X.take (k + 1)) = pastI t (X.take k)) := by have := hf.out; rw [q2] at this; simpa [Hid] using this
        clear hf hx
        go_wp2_with fail
        go_roundw
        case rel => exact ⟨k + 1, rfl, hlt, by unfold Hid; rw [h1.out]; exact hO.out, hb.out⟩
        case measure => simp only [intOf]; omega
    · have q1 : decide ((k : Int) < (n : Int)) = false := decide_eq_false (by omega)
      have hk2 : Hid (X.take k = X) := List.take_of_length_le (by have := hXn.out; omega)
      have hO2 := hk2.out ▸ hO.out
      have hpl2 := hpl.out k
      rw [hk2.out] at hpl2
      obtain ⟨ap, capp, rfl, SP⟩ := OwnN.sn (w := wr) hO2
      generalize hpn : (pastI t X).length = np at *
      replace X1 := Lib.hid (X1.out.keeps hb.out)
      replace SP := Lib.hid SP
      replace hpl2 := Lib.hid hpl2
      clear hO hO2 hk2 hpl hpt
      generalize wr = w2 at *
      go_wp2_with fail
      refine (AC.out w2 X1.out).mono ?_
      rintro e w3 ⟨rfl, d⟩
      replace X1 := Lib.hid (X1.out.keeps d)
      replace SP := Lib.hid (SP.out.keeps d)
      have b3 := Lib.hid (bnext hb.out d)
      have I := Lib.hid (Bw.new w3 p q 23)
      clear d AC hb
      have SP2 := Lib.hid (SP.out.keeps (balloc (b0 w3) (.cells #[.int .i64 p, .int .i64 q] 23)))
      go_wp2_with fail
      refine (AP.out ap np capp _ SP2.out hpl2.out).mono ?_
      rintro e w4 ⟨rfl, d⟩
      replace X1 := Lib.hid (X1.out.keeps (step_alloc d))
      have b4 := Lib.hid (bnext b3.out (step_alloc d))
      replace I := Lib.hid (I.out.keeps d)
      have J := Bw.new w4 p q 23
      obtain ⟨i0, i1, _, _⟩ := I.out.past (.cells #[.int .i64 p, .int .i64 q] 23)
      clear d AP SP SP2 b3 hpn hpl2
      generalize w3.heap.size = r10 at *
      obtain ⟨j0, j1, _, _⟩ := J
      have b5 := Lib.hid (balloc b4.out (.cells #[.int .i64 p, .int .i64 q] 23))
      replace X1 := Lib.hid (X1.out.keeps (balloc (b0 w4) (.cells #[.int .i64 p, .int .i64 q] 23)))
      cases sb
      · clear hfa b4
        go_wp2_with fail
        generalize w4.alloc (.cells #[.int .i64 p, .int .i64 q] 23) = w5 at *
        clear i0 i1 j0 j1 I
        go_wp2_with fail
        refine (SC.out _ X1.out).mono ?_
        rintro e w6 ⟨v, rfl, O, d⟩
        obtain ⟨am, capm, rfl, L⟩ := O.sl
        replace X1 := Lib.hid (X1.out.keeps d)
        have b6 := Lib.hid (bnext b5.out d)
        have hcapm := L.hcap
        have hmaxm := L.hmax
        obtain ⟨nm, hnm⟩ : ∃ nm, M.length = nm := ⟨_, rfl⟩
        rw [hnm] at L hM60 hcapm ⊢
        replace L := Lib.hid L
        replace hnm := Lib.hid hnm
        clear d O SC b5
        go_wp2_with fail
        go_loopw [15] (fun i wr => ∃ k : Nat, i = .int .i64 (k : Int) ∧ Hid (k ≤ nm) ∧ Hid (Below w6.heap.size w6 wr)) (fun i _ => nm - (intOf i).toNat)
        case atStart => exact ⟨0, rfl, Nat.zero_le _, b0 w6⟩
        case round =>
          obtain ⟨k2, rfl, hk2, hb2⟩ := hrel
          by_cases hlt2 : k2 < nm
          · have q3 : decide ((k2 : Int) < (nm : Int)) = true := decide_eq_true (by omega)
            have hLr := L.out.keeps hb2.out
            obtain ⟨bm, offm, rfl, hD⟩ := hLr.hat.resolve_left (by have := hnm.out; omega)
            obtain ⟨d0, d1⟩ := hD k2 (by have := hnm.out; omega)
            obtain ⟨hv, hbb⟩ := hla.out k2 (by have := hnm.out; omega)
            have AM2 := Lib.hid (AM.out (gt M k2).2 wr (X1.out.keeps hb2.out))
            rw [hv, hbb] at AM2
            generalize gt M k2 = mm at *
            obtain ⟨m1, m2⟩ := mm
            simp only at d0 d1 AM2
            replace d0 := Lib.hid d0
            clear hD hv hbb hLr
            go_wp2_with fail
            refine AM2.out.mono ?_
            rintro e w7 ⟨rfl, dd⟩
            have hb3 := Lib.hid (bnext hb2.out dd)
            have J := Bw.new w7 m1 m2 23
            have f0 := keeps (balloc (b0 w7) (.cells #[.int .i64 m1, .int .i64 m2] 23)) (keeps dd d0.out)
            have f1 := keeps (balloc (b0 w7) (.cells #[.int .i64 m1, .int .i64 m2] 23)) (keeps dd d1)
            obtain ⟨j0, j1, _, _⟩ := J
            replace hb3 := Lib.hid (balloc hb3.out (.cells #[.int .i64 m1, .int .i64 m2] 23))
            clear dd d0 d1 AM2 hb2
            go_wp2_with fail
            generalize w7.alloc (.cells #[.int .i64 m1, .int .i64 m2] 23) = w8 at *
            generalize w7.heap.size = r16 at *
            go_cut [114] from 105 to 113 (fun r wx => r = .bool false ∧ Hid (Below w8.heap.size w8 wx))
            case first =>
              go_quiet (fail)
              go_wp2_with fail
              go_meet
              case rel => exact ⟨rfl, below_drewN (b0 w8) _⟩
            case rest =>
              obtain ⟨rfl, hbc⟩ := hcut
              replace hb3 := Lib.hid (bnext hb3.out hbc.out)
              clear j0 j1 f0 f1 hbc
              go_wp2_with fail
              go_roundw
              case rel => exact ⟨k2 + 1, rfl, hlt2, hb3.out⟩
              case measure => simp only [intOf]; omega
          · have q3 : decide ((k2 : Int) < (nm : Int)) = false := decide_eq_false (by omega)
            replace b6 := Lib.hid (bnext b6.out hb2.out)
            clear hb2
            go_wp2_with fail
            refine (C3.out _).mono ?_
            rintro e w9 ⟨rfl, d⟩
            replace b6 := Lib.hid (bnext b6.out d)
            clear d
            go_wp2_with fail
            go_ret
            exact ⟨rfl, b6.out⟩
      · obtain ⟨g1, g2, g3, g4, g5, g6⟩ := hfa.out rfl
        have IC := Lib.hid (inside_any p q q)
        have o1 : (decide (p ≤ q) && decide (q ≤ q)) = true := by simp [g1]
        rw [o1] at IC
        have q5 : decide (t < q) = false := decide_eq_false (by omega)
        have q6 : decide (g < t - q) = false := decide_eq_false (by omega)
        clear hfa b4 o1
        go_wp2_with fail
        refine (IC.out _).mono ?_
        rintro e w5 ⟨rfl, d⟩
        obtain ⟨i0, i1, _, _⟩ := (I.out.past (.cells #[.int .i64 p, .int .i64 q] 23)).keeps d
        replace b5 := Lib.hid (bnext b5.out d)
        replace X1 := Lib.hid (X1.out.keeps d)
        clear d IC I
        go_wp2_with fail
        clear i0 i1 q5 q6 g1 g2 g3 g4 g5 g6
        refine (SC.out _ X1.out).mono ?_
        rintro e w6 ⟨v, rfl, O, d⟩
        obtain ⟨am, capm, rfl, L⟩ := O.sl
        replace X1 := Lib.hid (X1.out.keeps d)
        have b6 := Lib.hid (bnext b5.out d)
        have hcapm := L.hcap
        have hmaxm := L.hmax
        obtain ⟨nm, hnm⟩ : ∃ nm, M.length = nm := ⟨_, rfl⟩
        rw [hnm] at L hM60 hcapm ⊢
        replace L := Lib.hid L
        replace hnm := Lib.hid hnm
        clear d O SC b5
        go_wp2_with fail
        go_loopw [15] (fun i wr => ∃ k : Nat, i = .int .i64 (k : Int) ∧ Hid (k ≤ nm) ∧ Hid (Below w6.heap.size w6 wr)) (fun i _ => nm - (intOf i).toNat)
        case atStart => exact ⟨0, rfl, Nat.zero_le _, b0 w6⟩
        case round =>
          obtain ⟨k2, rfl, hk2, hb2⟩ := hrel
          by_cases hlt2 : k2 < nm
          · have q3 : decide ((k2 : Int) < (nm : Int)) = true := decide_eq_true (by omega)
            have hLr := L.out.keeps hb2.out
            obtain ⟨bm, offm, rfl, hD⟩ := hLr.hat.resolve_left (by have := hnm.out; omega)
            obtain ⟨d0, d1⟩ := hD k2 (by have := hnm.out; omega)
            obtain ⟨hv, hbb⟩ := hla.out k2 (by have := hnm.out; omega)
            have AM2 := Lib.hid (AM.out (gt M k2).2 wr (X1.out.keeps hb2.out))
            rw [hv, hbb] at AM2
            generalize gt M k2 = mm at *
            obtain ⟨m1, m2⟩ := mm
            simp only at d0 d1 AM2
            replace d0 := Lib.hid d0
            clear hD hv hbb hLr
            go_wp2_with fail
            refine AM2.out.mono ?_
            rintro e w7 ⟨rfl, dd⟩
            have hb3 := Lib.hid (bnext hb2.out dd)
            have J := Bw.new w7 m1 m2 23
            have f0 := keeps (balloc (b0 w7) (.cells #[.int .i64 m1, .int .i64 m2] 23)) (keeps dd d0.out)
            have f1 := keeps (balloc (b0 w7) (.cells #[.int .i64 m1, .int .i64 m2] 23)) (keeps dd d1)
            obtain ⟨j0, j1, _, _⟩ := J
            replace hb3 := Lib.hid (balloc hb3.out (.cells #[.int .i64 m1, .int .i64 m2] 23))
            clear dd d0 d1 AM2 hb2
            go_wp2_with fail
            generalize w7.alloc (.cells #[.int .i64 m1, .int .i64 m2] 23) = w8 at *
            generalize w7.heap.size = r16 at *
            go_cut [114] from 105 to 113 (fun r wx => r = .bool false ∧ Hid (Below w8.heap.size w8 wx))
            case first =>
              go_quiet (fail)
              go_wp2_with fail
              go_meet
              case rel => exact ⟨rfl, below_drewN (b0 w8) _⟩
            case rest =>
              obtain ⟨rfl, hbc⟩ := hcut
              replace hb3 := Lib.hid (bnext hb3.out hbc.out)
              clear j0 j1 f0 f1 hbc
              go_wp2_with fail
              go_roundw
              case rel => exact ⟨k2 + 1, rfl, hlt2, hb3.out⟩
              case measure => simp only [intOf]; omega
          · have q3 : decide ((k2 : Int) < (nm : Int)) = false := decide_eq_false (by omega)
            replace b6 := Lib.hid (bnext b6.out hb2.out)
            clear hb2
            go_wp2_with fail
            refine (C3.out _).mono ?_
            rintro e w9 ⟨rfl, d⟩
            replace b6 := Lib.hid (bnext b6.out d)
            clear d
            go_wp2_with fail
            go_ret
            exact ⟨rfl, b6.out⟩
end Go.Proofs.Ytdhdofgdeljajaa
