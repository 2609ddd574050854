/-
  The reference: reading.
-/
import Derived.Test.YtegniedbiegcpaaRefB
namespace Go.Proofs.Ytegniedbiegcpaa
open Go.RowKit

/-- The search so far: the bytes from the place j on were looked at. -/
def Sr (l : List Nat) (p M j : Nat) (la : Int) : Prop :=
  (la = -1 ∧ ∀ t, j ≤ t → t < M → 128 ≤ ix l (p + t)) ∨ (∃ q : Nat, la = q ∧ j ≤ q ∧ q < M ∧ ix l (p + q) < 128 ∧ ∀ t, j ≤ t → t < q → 128 ≤ ix l (p + t))
theorem Sr.start (l : List Nat) (p M : Nat) : Sr l p M M (-1) := .inl ⟨rfl, fun t h1 h2 => by omega⟩
theorem Sr.hit {l : List Nat} {p M j : Nat} (hj : j < M) (h : ix l (p + j) < 128) : Sr l p M j (j : Nat) := .inr ⟨j, rfl, Nat.le_refl _, hj, h, fun t h1 h2 => by omega⟩
theorem Sr.miss {l : List Nat} {p M j : Nat} {la : Int} (h : Sr l p M (j + 1) la) (hc : 128 ≤ ix l (p + j)) : Sr l p M j la := by
  rcases h with ⟨rfl, h⟩ | ⟨q, rfl, h1, h2, h3, h4⟩
  · refine .inl ⟨rfl, fun t ht1 ht2 => ?_⟩
    by_cases e : t = j
    · rw [e]; exact hc
    · exact h t (by omega) ht2
  · refine .inr ⟨q, rfl, by omega, h2, h3, fun t ht1 ht2 => ?_⟩
    by_cases e : t = j
    · rw [e]; exact hc
    · exact h4 t (by omega) ht2
/-- The digits from the place j on, up to the place q. -/
def dgv (L : List Nat) (q j : Nat) : Nat := ((L.take (q + 1)).drop j).foldr (fun c a => a * 128 + c % 128) 0
theorem dgv_end (L : List Nat) (q : Nat) : dgv L q (q + 1) = 0 := by
  unfold dgv
  rw [List.drop_of_length_le (by rw [List.length_take]; omega)]
  rfl
theorem dgv_step {L : List Nat} {q j : Nat} (hj : j ≤ q) (hq : q < L.length) : dgv L q j = dgv L q (j + 1) * 128 + ix L j % 128 := by
  unfold dgv
  have hl : j < (L.take (q + 1)).length := by rw [List.length_take]; omega
  rw [List.drop_eq_getElem_cons hl, List.foldr_cons]
  congr 2
  rw [List.getElem_take]
  simp [ix, show j < L.length by omega]
theorem dgv_le {L : List Nat} {q : Nat} (hq : q < L.length) : ∀ j, j ≤ q + 1 → dgv L q j ≤ dgv L q 0 := by
  intro j
  induction j with
  | zero => intro _; exact Nat.le_refl _
  | succ j ih =>
    intro h
    have h1 := ih (by omega)
    have h2 := dgv_step (L := L) (q := q) (j := j) (by omega) hq
    omega
theorem ix_drop (l : List Nat) (p j : Nat) : ix (l.drop p) j = ix l (p + j) := by
  unfold ix
  rw [List.getD_eq_getElem?_getD, List.getD_eq_getElem?_getD, List.getElem?_drop]

set_option maxRecDepth 100000 in
set_option maxHeartbeats 2000000 in
theorem refReadU_any (a : Option Addr) (n cap : Nat) (l : List Nat) (z : Int) (w : World) (hA : Li w a n cap l) (v k c : Nat) (h : rU l z = (v, k, c)) :
    Calls Try.prog 24 #[.slice a n cap, .int .i64 z] w fun e w' => e = .returned (.tuple #[.int .u64 (v : Nat), .int .i64 (k : Nat), .int .i64 (c : Nat)]) ∧ w = w' := by
  have hn := hA.hn
  have hby := hA.hat.by
  have hlim := hA.hlim
  unfold rU at h
  rw [hn] at h
  by_cases hz : z < 0 ∨ (n : Int) < z
  · rw [if_pos hz] at h
    simp only [Prod.mk.injEq] at h
    obtain ⟨rfl, rfl, rfl⟩ := h
    have c1 := refLeft_out a n cap z w hz
    clear hz hA hn hby
    go_enter Try.func24, Try.ntmps24
    go_wp2_with fail
    refine c1.mono ?_
    rintro e w' ⟨rfl, rfl⟩
    go_wp2_with fail
    go_ret3
    exact ⟨rfl, rfl⟩
  · rw [if_neg hz] at h
    obtain ⟨p, rfl⟩ : ∃ p : Nat, z = p := ⟨z.toNat, by omega⟩
    rw [Int.toNat_natCast] at h
    have hp : p ≤ n := by omega
    obtain ⟨F, hF⟩ : ∃ F, n - p = F := ⟨_, rfl⟩
    obtain ⟨M, hM⟩ : ∃ M, min F 10 = M := ⟨_, rfl⟩
    have hif : (if (10 : Int) < F then 10 else (F : Int)) = (M : Int) := by rw [← hM]; split <;> omega
    have c1 := refLeft_in a n cap p F w hp hF hlim
    have hLl : (l.drop p).length = F := by rw [List.length_drop, hn]; exact hF
    have t0 : decide ((F : Int) < 0) = false := decide_eq_false (by omega)
    have hMF : M ≤ F ∧ M ≤ 10 := by omega
    have HM := Lib.hid hM
    have HF := Lib.hid hF
    have HN := Lib.hid hn
    have HL := Lib.hid hLl
    have HH := Lib.hid h
    have HB := Lib.hid hby
    have HA := Lib.hid hA
    have HMF := Lib.hid hMF
    clear hz hM hF hn hLl h hby hA hMF
    go_enter Try.func24, Try.ntmps24
    go_wp2_with fail
    refine c1.mono ?_
    rintro e w' ⟨rfl, rfl⟩
    clear c1
    have hM10 := HMF.out.2
    go_wp2_with fail
    clear hif
    go_loop [9, 10] (fun s i => ∃ (la b : Int), s = .int .i64 la ∧ i = .int .i64 b ∧ -1 ≤ b ∧ b < M ∧ Sr l p M (b + 1).toNat la) (fun _ i => (intOf i + 1).toNat)
    case atStart => exact ⟨-1, (M : Int) - 1, rfl, rfl, by omega, by omega, by rw [show ((M : Int) - 1 + 1).toNat = M by omega]; exact Sr.start l p M⟩
    case round =>
      obtain ⟨la, b, rfl, rfl, hb1, hb2, hS⟩ := hrel
      by_cases hb : 0 ≤ b
      · obtain ⟨t, rfl⟩ : ∃ t : Nat, b = t := ⟨b.toNat, by omega⟩
        have htM : t < M := by omega
        have hA := HA.out
        have hMF := HMF.out
        have hFn := HF.out
        have hln := HN.out
        have hpt : p + t < n := by omega
        obtain ⟨bb, off, rfl, hB⟩ := hA.hat.1.resolve_left (by omega)
        have ca := hB (p + t) (by omega)
        have hc256 := hA.hat.2 (p + t) (by omega)
        have hadd : ((p : Int) + (t : Int)).toNat = p + t := by omega
        have t1 : decide ((0 : Int) ≤ (t : Int)) = true := decide_eq_true (by omega)
        have HS := Lib.hid hS
        clear hB hln hFn hS
        by_cases hc : ix l (p + t) < 128
        · have HT := Lib.hid (Sr.hit htM hc)
          have t2 : decide (((ix l (p + t) : Nat) : Int) < 128) = true := decide_eq_true (by omega)
          generalize ix l (p + t) = y at *
          clear hc hA
          go_wp2_with fail
          exact ⟨⟨t, t - 1, rfl, rfl, by omega, by omega, by rw [show ((t : Int) - 1 + 1).toNat = t by omega]; exact HT.out⟩, by simp only [intOf]; omega⟩
        · have hS2 := HS.out
          rw [show ((t : Int) + 1).toNat = t + 1 by omega] at hS2
          have HT := Lib.hid (Sr.miss hS2 (by omega))
          have t2 : decide (((ix l (p + t) : Nat) : Int) < 128) = false := decide_eq_false (by omega)
          generalize ix l (p + t) = y at *
          clear hc hA hS2
          go_wp2_with fail
          exact ⟨⟨la, t - 1, rfl, rfl, by omega, by omega, by rw [show ((t : Int) - 1 + 1).toNat = t by omega]; exact HT.out⟩, by simp only [intOf]; omega⟩
      · obtain rfl : b = -1 := by omega
        have hh := HH.out
        have hMF := HMF.out
        have hMM := HM.out
        have hlen := HL.out
        rcases hS with ⟨rfl, hno⟩ | ⟨q, rfl, _, hqM, hq128, hq⟩
        · have hr : rd (l.drop p) 0 0 = if 0 + (l.drop p).length < 10 then .err 41 else .err 3 := rd_none (l.drop p) 0 0 (by omega) (fun j hj hl => by
            have := hno j (by omega) (by omega)
            rwa [← ix_drop] at this)
          rw [hr, hlen] at hh
          by_cases h10 : F < 10
          · rw [if_pos (by omega)] at hh
            simp only [Prod.mk.injEq] at hh
            obtain ⟨rfl, rfl, rfl⟩ := hh
            have t1 : decide ((F : Int) < 10) = true := decide_eq_true (by omega)
            clear hno hr hMF hMM hlen
            go_wp2_with fail
            go_ret3
            exact ⟨rfl, rfl⟩
          · rw [if_neg (by omega)] at hh
            simp only [Prod.mk.injEq] at hh
            obtain ⟨rfl, rfl, rfl⟩ := hh
            have t1 : decide ((F : Int) < 10) = false := decide_eq_false (by omega)
            clear hno hr hMF hMM hlen
            go_wp2_with fail
            go_ret3
            exact ⟨rfl, rfl⟩
        · have hA := HA.out
          have hFn := HF.out
          have hln := HN.out
          have hpq : p + q < n := by omega
          have hr := rd_first q (l.drop p) 0 0 (HB.out.drop p) (by omega) (fun j hj => by have := hq j (by omega) hj; rwa [← ix_drop] at this) (by omega) (by rw [← ix_drop] at hq128; exact hq128)
          rw [show (l.drop p).getD q 0 = ix l (p + q) from ix_drop l p q] at hr
          obtain ⟨bb, off, rfl, hB⟩ := hA.hat.1.resolve_left (by omega)
          have ca := hB (p + q) (by omega)
          have hadd : ((p : Int) + (q : Int)).toNat = p + q := by omega
          have q0 : decide ((q : Int) < 0) = false := decide_eq_false (by omega)
          have hq9 : q ≤ 9 := by omega
          simp only [Nat.zero_add] at hr
          clear hFn hMF hMM
          by_cases hbad : (q = 9 ∧ 1 < ix l (p + q)) ∨ (0 < q ∧ ix l (p + q) = 0)
          · rw [hr, if_pos hbad] at hh
            simp only [Prod.mk.injEq] at hh
            obtain ⟨rfl, rfl, rfl⟩ := hh
            clear hr hq hB hA hln
            generalize ix l (p + q) = y at *
            by_cases k9 : q = 9
            · have e9 : p + q = p + 9 := by omega
              rw [e9] at ca
              have q1 : ((q : Int) == 9) = true := by simp; omega
              have hadd9 : ((p : Int) + 9).toNat = p + 9 := by omega
              have hp9 : ((p : Int) + 9) < n := by omega
              by_cases d1 : 1 < y
              · have q2 : decide ((1 : Int) < (y : Int)) = true := decide_eq_true (by omega)
                clear hbad e9 k9
                go_wp2_with fail
                go_ret3
                exact ⟨rfl, rfl⟩
              · have q2 : decide ((1 : Int) < (y : Int)) = false := decide_eq_false (by omega)
                have q3 : ((y : Int) == 0) = true := by simp; omega
                have q4 : decide ((0 : Int) < (q : Int)) = true := decide_eq_true (by omega)
                have q5 : 0 < q := by omega
                have ca2 : w.cell? ⟨bb, off + (p + q), none⟩ = some (.int .u8 (y : Nat)) := by rw [e9]; exact ca
                clear hbad e9 k9
                go_wp2_with fail
                go_ret3
                exact ⟨rfl, rfl⟩
            · have q1 : ((q : Int) == 9) = false := by simp; omega
              have q3 : ((y : Int) == 0) = true := by simp; omega
              have q4 : decide ((0 : Int) < (q : Int)) = true := decide_eq_true (by omega)
              have q5 : 0 < q := by omega
              clear hbad k9
              go_wp2_with fail
              go_ret3
              exact ⟨rfl, rfl⟩
          · rw [if_neg hbad] at hr
            have hv64 : dgv (l.drop p) q 0 < 18446744073709551616 := by
              obtain ⟨_, _, _, h64⟩ := rd_back (HB.out.drop p) hr
              simpa [dgv] using h64
            have hd0 : dgv (l.drop p) q 0 = (List.take (q + 1) (l.drop p)).foldr (fun c a => a * 128 + c % 128) 0 := by unfold dgv; rw [List.drop_zero]
            rw [hr, ← hd0] at hh
            simp only [Prod.mk.injEq, Nat.pow_zero, Nat.mul_one] at hh
            obtain ⟨hv, hk, rfl⟩ := hh
            have HV := Lib.hid hv
            have HK := Lib.hid hk
            have HV64 := Lib.hid hv64
            have HQ := Lib.hid hqM
            have HLen := Lib.hid hlen
            have HBB := Lib.hid hB
            clear hr hq hB hA hln hv hk hv64 hd0
            go_upto_region 13 with fail
            go_cut [66] (fun s wx => s = .bool false ∧ wx = w)
            case first =>
              generalize ix l (p + q) = y at *
              have hnb1 : q = 9 → ¬ 1 < y := fun h1 h2 => hbad (.inl ⟨h1, h2⟩)
              have hnb2 : 0 < q → y ≠ 0 := fun h1 h2 => hbad (.inr ⟨h1, h2⟩)
              by_cases k9 : q = 9
              · have e9 : p + q = p + 9 := by omega
                have ca2 : w.cell? ⟨bb, off + (p + 9), none⟩ = some (.int .u8 (y : Nat)) := by rw [← e9]; exact ca
                have q1 : ((q : Int) == 9) = true := by simp; omega
                have hadd9 : ((p : Int) + 9).toNat = p + 9 := by omega
                have hp9 : ((p : Int) + 9) < n := by omega
                have q2 : decide ((1 : Int) < (y : Int)) = false := decide_eq_false (by have := hnb1 k9; omega)
                have q3 : ((y : Int) == 0) = false := by have := hnb2 (by omega); simp; omega
                have q4 : decide ((0 : Int) < (q : Int)) = true := decide_eq_true (by omega)
                have q5 : 0 < q := by omega
                clear hbad e9 k9 hnb1 hnb2
                go_wp2_with fail
                go_meet
                case rel => exact ⟨rfl, rfl⟩
              · have q1 : ((q : Int) == 9) = false := by simp; omega
                by_cases k0 : 0 < q
                · have q3 : ((y : Int) == 0) = false := by have := hnb2 k0; simp; omega
                  have q4 : decide ((0 : Int) < (q : Int)) = true := decide_eq_true (by omega)
                  clear hbad k9 hnb1 hnb2
                  go_wp2_with fail
                  go_meet
                  case rel => exact ⟨rfl, rfl⟩
                · have q4 : decide ((0 : Int) < (q : Int)) = false := decide_eq_false (by omega)
                  clear hbad k9 hnb1 hnb2
                  go_wp2_with fail
                  go_meet
                  case rel => exact ⟨rfl, rfl⟩
            case rest =>
              obtain ⟨rfl, rfl⟩ := hcut
              clear ca hbad hq128
              go_wp2_with fail
              go_loop [11, 12] (fun s i => ∃ b : Int, i = .int .i64 b ∧ s = .int .u64 ((dgv (l.drop p) q (b + 1).toNat : Nat) : Int) ∧ -1 ≤ b ∧ b ≤ q) (fun _ i => (intOf i + 1).toNat)
              case atStart => exact ⟨(q : Int), rfl, by rw [show ((q : Int) + 1).toNat = q + 1 by omega, dgv_end]; rfl, by omega, by omega⟩
              case round =>
                obtain ⟨b, rfl, rfl, hb1, hb2⟩ := hrel
                by_cases hb : 0 ≤ b
                · obtain ⟨t, rfl⟩ : ∃ t : Nat, b = t := ⟨b.toNat, by omega⟩
                  rw [show ((t : Int) + 1).toNat = t + 1 by omega]
                  have hqM := HQ.out
                  have hMF := HMF.out
                  have hFn := HF.out
                  have hln := HN.out
                  have hlen := HLen.out
                  have ca := HBB.out (p + t) (by omega)
                  have hc256 := HA.out.hat.2 (p + t) (by omega)
                  have hadd : ((p : Int) + (t : Int)).toNat = p + t := by omega
                  have hadd2 : ((p : Int) + (t : Int)) < n := by omega
                  have t1 : decide ((0 : Int) ≤ (t : Int)) = true := decide_eq_true (by omega)
                  have hstep := dgv_step (L := l.drop p) (q := q) (j := t) (by omega) (by omega)
                  have hle := dgv_le (L := l.drop p) (q := q) (by omega) t (by omega)
                  rw [ix_drop] at hstep
                  have hv := HV.out
                  have hv64 := HV64.out
                  generalize ix l (p + t) = y at *
                  obtain ⟨A, hA⟩ : ∃ A, dgv (l.drop p) q (t + 1) = A := ⟨_, rfl⟩
                  obtain ⟨B, hB⟩ : ∃ B, dgv (l.drop p) q t = B := ⟨_, rfl⟩
                  rw [hA, hB] at hstep
                  rw [hA]
                  rw [hB] at hle
                  have E1 : IntKind.u64.wrap ((A : Int) * 128) = ((A * 128 : Nat) : Int) := by rw [IntWalk.u64_in] <;> omega
                  have E2 : IntKind.u64.wrap ((A : Int) * 128 + (y : Int) % 128) = (B : Int) := by rw [IntWalk.u64_in] <;> omega
                  have HE2 := Lib.hid E2
                  clear E2
                  have HB2 := Lib.hid hB
                  clear hqM hMF hFn hln hlen hstep hle hv hv64 hA hB hb
                  go_wp2_with fail
                  refine ⟨⟨(t : Int) - 1, rfl, ?_, by omega, by omega⟩, by simp only [intOf]; omega⟩
                  rw [show ((t : Int) - 1 + 1).toNat = t by omega, HB2.out, HE2.out]
                · obtain rfl : b = -1 := by omega
                  rw [show ((-1 : Int) + 1).toNat = 0 from rfl, HV.out]
                  have hk := HK.out
                  have HK2 := Lib.hid hk
                  clear hk
                  go_wp2_with fail
                  go_ret3
                  have := HK2.out
                  refine ⟨?_, rfl⟩
                  show Ending.returned (.tuple #[.int .u64 (v : Int), .int .i64 ((p : Int) + (q : Int) + 1), .int .i64 0]) = _
                  rw [show ((p : Int) + (q : Int) + 1) = (k : Int) by omega]
end Go.Proofs.Ytegniedbiegcpaa
