/-
  The reference: reading integers, strings and frames.
-/
import Derived.Test.YtegniedbiegcpaaRefR
import Derived.Test.YtegniedbiegcpaaOne
namespace Go.Proofs.Ytegniedbiegcpaa
open Go.RowKit

/-- b[p:p+j]. -/
theorem cut_gen {w : World} {a : Option Addr} {n cap : Nat} {l : List Nat} (h : Li w a n cap l) (p j : Nat) (hn : p + j ≤ n) :
    ∃ a', Li w a' j (cap - p) ((l.drop p).take j) ∧ ∀ (w' : World) (P K : Int), P = p → K = (p + j : Nat) → (Instr.slice 22 (.slice a n cap) (some (.int .i64 P)) (some (.int .i64 K)) none).run Try.prog w' = .ok (.slice a' j (cap - p)) w' := by
  by_cases hj : 1 ≤ j
  · obtain ⟨a', h1, h2, h3⟩ := cut_any h p j hj hn
    have hcap := h.hcap
    have hmax := h.hmax
    have hlim := h.hlim
    refine ⟨a', ⟨h1, h2, by omega, by omega, by omega, fun e => ?_⟩, h3⟩
    subst e
    rcases h1.1 with h0 | ⟨b, off, e, _⟩
    · omega
    · cases e
  · obtain rfl : j = 0 := by omega
    have hcap := h.hcap
    have hmax := h.hmax
    have hno := h.hno
    refine ⟨if cap = p then a else Option.map (fun x : Addr => x.add p) a, ⟨by rw [List.take_zero]; exact AtL.nil _ _, rfl, by omega, by omega, by omega, fun e => ?_⟩, ?_⟩
    · by_cases hc : cap = p
      · omega
      · rw [if_neg hc] at e
        cases a with
        | none => have := hno rfl; omega
        | some x => cases e
    · rintro w' P K rfl rfl
      have s2 : (p : Int) ≤ cap := by omega
      have s3 : (0 : Int) ≤ p := by omega
      simp [go_sem, s2]

set_option maxRecDepth 20000 in
theorem refReadI_any (a : Option Addr) (n cap : Nat) (l : List Nat) (z : Int) (w : World) (hA : Li w a n cap l) (m : Int) (k c : Nat) (h : rI l z = (m, k, c)) :
    Calls Try.prog 26 #[.slice a n cap, .int .i64 z] w fun e w' => e = .returned (.tuple #[.int .i64 m, .int .i64 (k : Nat), .int .i64 (c : Nat)]) ∧ w = w' := by
  rcases rU_cases l z hA.hat.by with ⟨c', hU, hI, hc0, _⟩ | ⟨p, v, rfl, hp, hpl, _, hv, hU, hI, _⟩
  · rw [hI] at h
    simp only [Prod.mk.injEq] at h
    obtain ⟨rfl, rfl, rfl⟩ := h
    have c1 := refReadU_any a n cap l z w hA 0 0 c' hU
    have q1 : ((c' : Int) != 0) = true := by simp; omega
    clear hA hU hI hc0
    go_enter Try.func26, Try.ntmps26
    go_wp2_with fail
    refine c1.mono ?_
    rintro e w' ⟨rfl, rfl⟩
    go_wp2_with fail
    go_ret3
    exact ⟨rfl, rfl⟩
  · rw [hI] at h
    simp only [Prod.mk.injEq] at h
    obtain ⟨hm, hk, rfl⟩ := h
    have c1 := refReadU_any a n cap l p w hA v k 0 (by rw [hU, hk])
    have hq : (v / 2 : Nat) ≤ 9223372036854775807 := by omega
    have HM := Lib.hid hm
    have HV := Lib.hid hv
    clear hA hU hI hm hk hv hp hpl
    by_cases hz : v % 2 = 1
    · have hz' : ((v : Int) % 2 == 1) = true := by simp; omega
      have e : -((v : Int) / 2) - 1 = m := by rw [← HM.out]; unfold unfd; rw [if_pos hz]; omega
      have E := Lib.hid e
      clear hz e
      go_enter Try.func26, Try.ntmps26
      go_wp2_with fail
      refine c1.mono ?_
      rintro e w' ⟨rfl, rfl⟩
      go_wp2_with fail
      go_ret3
      refine ⟨?_, rfl⟩
      show Ending.returned (.tuple #[.int .i64 (-((v : Int) / 2) - 1), .int .i64 (k : Int), .int .i64 0]) = _
      rw [E.out]
      rfl
    · have hz' : ((v : Int) % 2 == 1) = false := by simp; omega
      have e : ((v : Int) / 2) = m := by rw [← HM.out]; unfold unfd; rw [if_neg hz]; omega
      have E := Lib.hid e
      clear hz e
      go_enter Try.func26, Try.ntmps26
      go_wp2_with fail
      refine c1.mono ?_
      rintro e w' ⟨rfl, rfl⟩
      go_wp2_with fail
      go_ret3
      refine ⟨?_, rfl⟩
      show Ending.returned (.tuple #[.int .i64 ((v : Int) / 2), .int .i64 (k : Int), .int .i64 0]) = _
      rw [E.out]
      rfl

set_option maxRecDepth 20000 in
theorem refReadT_any (a : Option Addr) (n cap : Nat) (l : List Nat) (z : Int) (w : World) (hA : Li w a n cap l) (t : List Nat) (k c : Nat) (h : rT l z = (t, k, c)) :
    Calls Try.prog 28 #[.slice a n cap, .int .i64 z] w fun e w' => e = .returned (.tuple #[.string (st_of t), .int .i64 (k : Nat), .int .i64 (c : Nat)]) ∧ w = w' := by
  have hln := hA.hn
  have hlim := hA.hlim
  rcases rU_cases l z hA.hat.by with ⟨c', hU, hI, hc0, _⟩ | ⟨p, v, rfl, hp, hpl, _, hv, hU, hI, hrd⟩
  · have hT : rT l z = ([], 0, c') := by
      unfold rU at hU
      unfold rT
      by_cases hz : z < 0 ∨ (l.length : Int) < z
      · rw [if_pos hz] at hU ⊢
        simp only [Prod.mk.injEq] at hU
        rw [hU.2.2]
      · rw [if_neg hz] at hU ⊢
        rcases hr : rd (l.drop z.toNat) 0 0 with ⟨v, j⟩ | d
        · rw [hr] at hU
          simp only [Prod.mk.injEq] at hU
          omega
        · rw [hr] at hU
          simp only [Prod.mk.injEq] at hU
          rw [hU.2.2]
    rw [hT] at h
    simp only [Prod.mk.injEq] at h
    obtain ⟨rfl, rfl, rfl⟩ := h
    have c1 := refReadU_any a n cap l z w hA 0 0 c' hU
    have q1 : ((c' : Int) != 0) = true := by simp; omega
    clear hA hU hI hc0 hT hln
    go_enter Try.func28, Try.ntmps28
    go_wp2_with fail
    refine c1.mono ?_
    rintro e w' ⟨rfl, rfl⟩
    go_wp2_with fail
    go_ret3
    exact ⟨rfl, rfl⟩
  · obtain ⟨J, hJ⟩ : ∃ J, p + (en v).length = J := ⟨_, rfl⟩
    have c1 := refReadU_any a n cap l p w hA v J 0 (by rw [hU, hJ])
    have hT : rT l p = if n - J < v then ([], 0, 41) else ((l.drop J).take v, J + v, 0) := by
      unfold rT
      rw [if_neg (by omega), Int.toNat_natCast, hrd]
      simp only
      rw [hJ, hln]
    have hJn : J ≤ n := by omega
    obtain ⟨F, hF⟩ : ∃ F, n - J = F := ⟨_, rfl⟩
    have e1 : (n : Int) - (J : Int) = (F : Int) := by omega
    rw [hT, hF] at h
    have HV := Lib.hid hv
    have HA := Lib.hid hA
    clear hA hU hI hJ hT hrd hpl hln hv
    by_cases hs : F < v
    · rw [if_pos hs] at h
      simp only [Prod.mk.injEq] at h
      obtain ⟨rfl, rfl, rfl⟩ := h
      have t1 : decide ((F : Int) < (v : Int)) = true := decide_eq_true (by omega)
      have t1' : decide (F < v) = true := decide_eq_true hs
      clear hF
      go_enter Try.func28, Try.ntmps28
      go_wp2_with fail
      refine c1.mono ?_
      rintro e w' ⟨rfl, rfl⟩
      go_wp2_with fail
      go_ret3
      exact ⟨rfl, rfl⟩
    · rw [if_neg hs] at h
      simp only [Prod.mk.injEq] at h
      obtain ⟨ht, hk, rfl⟩ := h
      obtain ⟨a', L', hsl⟩ := cut_gen HA.out J v (by omega)
      rw [ht] at L'
      have s1 := run_str L'.hat v (cap - J) L'.hn
      have t1 : decide ((F : Int) < (v : Int)) = false := decide_eq_false (by omega)
      have t1' : decide (F < v) = false := decide_eq_false hs
      have hvb : v ≤ 281474976710656 := by omega
      have e2 : (J : Int) + (v : Int) = (k : Int) := by omega
      have hs1 := hsl w (J : Int) (k : Int) rfl (by omega)
      have hkn : k ≤ 281474976710656 := by omega
      clear hF hsl L' ht hk
      go_enter Try.func28, Try.ntmps28
      go_wp2_with fail
      refine c1.mono ?_
      rintro e w' ⟨rfl, rfl⟩
      go_wp2_with fail
      go_ret3
      exact ⟨rfl, rfl⟩

/-- What the reference's ReadFrame does. -/
def RfR (w : World) (r : RF) (e : Ending) (w' : World) : Prop :=
  match r with
  | .ok v k => ∃ a c, e = .returned (.tuple #[.slice a v.length c, .int .i64 (k : Nat), .int .i64 0]) ∧ Li w' a v.length c v ∧ Below w.heap.size w w'
  | .err c => e = .returned (.tuple #[.slice none 0 0, .int .i64 0, .int .i64 (c : Nat)]) ∧ Below w.heap.size w w'
set_option maxRecDepth 20000 in
set_option maxHeartbeats 1000000 in
theorem refReadF_any (a : Option Addr) (n cap : Nat) (l : List Nat) (z : Int) (w : World) (hA : Li w a n cap l) :
    Calls Try.prog 30 #[.slice a n cap, .int .i64 z] w (RfR w (rF l z)) := by
  have hln := hA.hn
  have hlim := hA.hlim
  rcases rU_cases l z hA.hat.by with ⟨c', hU, hI, hc0, _⟩ | ⟨p, v, rfl, hp, hpl, _, hv, hU, hI, hrd⟩
  · have hF : rF l z = .err c' := by
      unfold rU at hU
      unfold rF
      by_cases hz : z < 0 ∨ (l.length : Int) < z
      · rw [if_pos hz] at hU ⊢
        simp only [Prod.mk.injEq] at hU
        rw [hU.2.2]
      · rw [if_neg hz] at hU ⊢
        unfold rdF
        rcases hr : rd (l.drop z.toNat) 0 0 with ⟨v, j⟩ | d
        · rw [hr] at hU
          simp only [Prod.mk.injEq] at hU
          omega
        · rw [hr] at hU
          simp only [Prod.mk.injEq] at hU
          rw [hU.2.2]
    rw [hF]
    have c1 := refReadU_any a n cap l z w hA 0 0 c' hU
    have q1 : ((c' : Int) != 0) = true := by simp; omega
    clear hA hU hI hc0 hF hln
    go_enter Try.func30, Try.ntmps30
    go_wp2_with fail
    refine c1.mono ?_
    rintro e w' ⟨rfl, rfl⟩
    go_wp2_with fail
    go_ret3
    exact ⟨rfl, b0 _⟩
  · obtain ⟨J, hJ⟩ : ∃ J, p + (en v).length = J := ⟨_, rfl⟩
    have c1 := refReadU_any a n cap l p w hA v J 0 (by rw [hU, hJ])
    have hJn : J ≤ n := by omega
    have hF : rF l p = if 8192 < v then .err 2 else if n < J + v + 4 then .err 41 else if (l.drop (J + v)).take 4 = le4 (cs ((l.drop J).take v)) then .ok ((l.drop J).take v) (J + v + 4) else .err 40 := by
      unfold rF
      rw [if_neg (by omega), Int.toNat_natCast]
      unfold rdF
      rw [hrd]
      simp only
      by_cases h8 : 8192 < v
      · rw [if_pos h8, if_pos h8]
      · rw [if_neg h8, if_neg h8, List.drop_drop, List.drop_drop, ← Nat.add_assoc, hJ, List.length_drop, hln]
        by_cases hs : n < J + v + 4
        · rw [if_pos (by omega), if_pos hs]
        · rw [if_neg (by omega), if_neg hs]
          by_cases hq : (l.drop (J + v)).take 4 = le4 (cs ((l.drop J).take v))
          · rw [if_pos hq, if_pos hq]
            simp only [RF.ok.injEq, true_and]
            omega
          · rw [if_neg hq, if_neg hq]
    rw [hF]
    have HV := Lib.hid hv
    have HA := Lib.hid hA
    clear hA hU hI hJ hrd hpl hln hv hF
    by_cases h8 : 8192 < v
    · rw [if_pos h8]
      have t1 : decide ((8192 : Int) < (v : Int)) = true := decide_eq_true (by omega)
      go_enter Try.func30, Try.ntmps30
      go_wp2_with fail
      refine c1.mono ?_
      rintro e w' ⟨rfl, rfl⟩
      go_wp2_with fail
      go_ret3
      exact ⟨rfl, b0 _⟩
    · rw [if_neg h8]
      have t1 : decide ((8192 : Int) < (v : Int)) = false := decide_eq_false (by omega)
      obtain ⟨E, hE⟩ : ∃ E, J + v = E := ⟨_, rfl⟩
      rw [hE]
      have e2 : (J : Int) + (v : Int) = (E : Int) := by omega
      by_cases hs : n < E + 4
      · rw [if_pos hs]
        have t2 : decide ((n : Int) < (E : Int) + 4) = true := decide_eq_true (by omega)
        clear hE
        go_enter Try.func30, Try.ntmps30
        go_wp2_with fail
        refine c1.mono ?_
        rintro e w' ⟨rfl, rfl⟩
        go_wp2_with fail
        go_ret3
        exact ⟨rfl, b0 _⟩
      · rw [if_neg hs]
        have t2 : decide ((n : Int) < (E : Int) + 4) = false := decide_eq_false (by omega)
        obtain ⟨a', L', hsl⟩ := cut_gen HA.out J v (by omega)
        obtain ⟨a2, L2, hsl2⟩ := cut_gen HA.out E 4 (by omega)
        obtain ⟨x, hx⟩ : ∃ x, (l.drop J).take v = x := ⟨_, rfl⟩
        obtain ⟨u, hu⟩ : ∃ u, (l.drop E).take 4 = u := ⟨_, rfl⟩
        rw [hx] at L' ⊢
        rw [hu] at L2 ⊢
        obtain ⟨r, hr⟩ : ∃ r, (if u = le4 (cs x) then RF.ok x (E + 4) else RF.err 40) = r := ⟨_, rfl⟩
        rw [hr]
        have HR := Lib.hid hr
        have hs1 := fun w' => hsl w' (J : Int) (E : Int) rfl (by omega)
        have hs2 := fun w' => hsl2 w' (E : Int) ((E : Int) + 4) rfl (by omega)
        have HL' := Lib.hid L'
        have HL2 := Lib.hid L2
        have hEn : E + 4 ≤ n := by omega
        have hv8 : v ≤ 8192 := by omega
        clear hE hsl hsl2 L' L2 hx hu hr hs
        go_enter Try.func30, Try.ntmps30
        go_wp2_with fail
        refine c1.mono ?_
        rintro e w' ⟨rfl, rfl⟩
        go_wp2_with fail
        refine (refJoin_any a' v (cap - J) x none 0 0 [] w HL'.out (li_nil w) (by omega)).mono ?_
        rintro e w1 ⟨v1, rfl, O1, b1⟩
        rw [List.append_nil, HL'.out.hn] at O1
        obtain ⟨a3, c3, rfl, L3⟩ := O1.li (by omega)
        clear O1
        go_wp2_with fail
        refine (refSumB_any a3 v c3 x w1 L3 (by omega)).mono ?_
        rintro e w2 ⟨g, rfl, A2, b2⟩
        replace b1 := bnext b1 b2
        have L4 := L3.keeps b2
        clear L3 b2
        go_wp2_with fail
        refine (refSame_any (some ⟨g, 0, none⟩) 4 4 (le4 (cs x)) a2 4 (cap - E) u w2 A2 rfl (HL2.out.keeps b1).hat HL2.out.hn).mono ?_
        rintro e w' ⟨rfl, rfl⟩
        have HXL := Lib.hid L4.hn
        by_cases hq : u = le4 (cs x)
        · have hd : decide (le4 (cs x) = u) = true := decide_eq_true hq.symm
          have hr := HR.out
          rw [if_pos hq] at hr
          subst hr
          clear hq
          generalize decide (le4 (cs x) = u) = dd at *
          subst hd
          go_wp2_with fail
          go_ret3
          refine ⟨a3, c3, ?_, by rw [HXL.out]; exact L4, b1⟩
          rw [HXL.out]
          rfl
        · have hd : decide (le4 (cs x) = u) = false := decide_eq_false (fun h => hq h.symm)
          have hr := HR.out
          rw [if_neg hq] at hr
          subst hr
          clear hq
          generalize decide (le4 (cs x) = u) = dd at *
          subst hd
          go_wp2_with fail
          go_ret3
          exact ⟨rfl, b1⟩
end Go.Proofs.Ytegniedbiegcpaa
