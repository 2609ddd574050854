/-
  One encoding.
-/
import Derived.Test.YtegniedbiegcpaaLen
import Derived.Deep.DeepCutAuto
import Derived.Deep.CutBlock
import Derived.Test.YtegniedbiegcpaaHeld
namespace Go.Proofs.Ytegniedbiegcpaa
open Go.RowKit

theorem rd_code (l : List Nat) (i v c : Nat) (h : rd l i v = .err c) : c = 41 ∨ c = 3 := by
  induction l generalizing i v with
  | nil => simp only [rd] at h; split at h <;> (injection h; omega)
  | cons x l ih =>
    simp only [rd] at h
    split at h
    · injection h; omega
    · split at h
      · split at h
        · injection h; omega
        · cases h
      · exact ih _ _ h

/-- An integer was read, or none. -/
theorem rU_cases (l : List Nat) (z : Int) (hl : By l) : (∃ c, rU l z = (0, 0, c) ∧ rI l z = (0, 0, c) ∧ c ≠ 0 ∧ c < 100) ∨
    (∃ p v : Nat, z = p ∧ p ≤ l.length ∧ p + (en v).length ≤ l.length ∧ (l.drop p).take (en v).length = en v ∧ v < 18446744073709551616 ∧ rU l z = (v, p + (en v).length, 0) ∧ rI l z = (unfd v, p + (en v).length, 0) ∧ rd (l.drop p) 0 0 = .ok v (en v).length) := by
  unfold rU rI
  by_cases hz : z < 0 ∨ (l.length : Int) < z
  · exact .inl ⟨1, by rw [if_pos hz], by rw [if_pos hz], by decide, by decide⟩
  · obtain ⟨p, rfl⟩ : ∃ p : Nat, z = p := ⟨z.toNat, by omega⟩
    rw [if_neg hz, if_neg hz, Int.toNat_natCast]
    rcases hrd : rd (l.drop p) 0 0 with ⟨v, k⟩ | c
    · obtain ⟨r, h1, rfl, h3⟩ := rd_back (hl.drop p) hrd
      have hlen : l.length - p = (en v).length + r.length := by rw [← List.length_drop, h1, List.length_append]
      have hp := en_pos v
      refine .inr ⟨p, v, rfl, by omega, by omega, ?_, h3, rfl, rfl, hrd⟩
      rw [h1, List.take_left]
    · refine .inl ⟨c, rfl, rfl, ?_, ?_⟩ <;> (rcases rd_code _ _ _ _ hrd with rfl | rfl <;> decide)
theorem rT_cases (l : List Nat) (z : Int) (hl : By l) : (∃ c, rT l z = ([], 0, c) ∧ c ≠ 0 ∧ c < 100) ∨
    (∃ (p : Nat) (t : List Nat), z = p ∧ p ≤ l.length ∧ p + (en t.length ++ t).length ≤ l.length ∧ (l.drop p).take (en t.length ++ t).length = en t.length ++ t ∧ rT l z = (t, p + (en t.length ++ t).length, 0)) := by
  unfold rT
  by_cases hz : z < 0 ∨ (l.length : Int) < z
  · exact .inl ⟨1, by rw [if_pos hz], by decide, by decide⟩
  · obtain ⟨p, rfl⟩ : ∃ p : Nat, z = p := ⟨z.toNat, by omega⟩
    rw [if_neg hz, Int.toNat_natCast]
    rcases hrd : rd (l.drop p) 0 0 with ⟨v, k⟩ | c
    · obtain ⟨r, h1, rfl, h3⟩ := rd_back (hl.drop p) hrd
      have hlen : l.length - p = (en v).length + r.length := by rw [← List.length_drop, h1, List.length_append]
      have hp := en_pos v
      simp only
      by_cases hs : l.length - (p + (en v).length) < v
      · exact .inl ⟨41, by rw [if_pos hs], by decide, by decide⟩
      · have hr : l.drop (p + (en v).length) = r := by rw [← List.drop_drop, h1, List.drop_left]
        have ht : (r.take v).length = v := by rw [List.length_take]; omega
        refine .inr ⟨p, r.take v, rfl, by omega, ?_, ?_, ?_⟩
        · rw [List.length_append, ht]; omega
        · rw [List.length_append, ht, h1, List.take_length_add_append]
        · rw [if_neg hs, hr, List.length_append, ht, Nat.add_assoc]
    · refine .inl ⟨c, rfl, ?_, ?_⟩ <;> (rcases rd_code _ _ _ _ hrd with rfl | rfl <;> decide)

/-- b[p:p+j], at least one byte. -/
theorem cut_any {w : World} {a : Option Addr} {n cap : Nat} {l : List Nat} (h : Li w a n cap l) (p j : Nat) (hj : 1 ≤ j) (hn : p + j ≤ n) :
    ∃ a', AtL w a' ((l.drop p).take j) ∧ ((l.drop p).take j).length = j ∧ ∀ (w' : World) (P K : Int), P = p → K = (p + j : Nat) → (Instr.slice 22 (.slice a n cap) (some (.int .i64 P)) (some (.int .i64 K)) none).run Try.prog w' = .ok (.slice a' j (cap - p)) w' := by
  have hln := h.hn
  have hcap := h.hcap
  have hlen : ((l.drop p).take j).length = j := by rw [List.length_take, List.length_drop]; omega
  rcases h.hat.1 with h0 | ⟨b, off, rfl, hB⟩
  · omega
  · refine ⟨some ⟨b, off + p, none⟩, h.hat.cut p j, hlen, ?_⟩
    rintro w' P K rfl rfl
    have s2 : ((p + j : Nat) : Int) ≤ cap := by omega
    have hne : ¬ cap = p := by omega
    simp only [Int.natCast_add] at s2
    have s3 : (0 : Int) ≤ p + j := by omega
    have s4 : ((p : Int) + j).toNat = p + j := by omega
    simp [go_sem, s2, hne, s3, s4]

set_option maxRecDepth 100000 in
set_option maxHeartbeats 2000000 in
theorem walk_one (a : Option Addr) (n cap : Nat) (l : List Nat) (z : Int) (w : World) (hA : Li w a n cap l) (hlim : n ≤ 140737488351232) :
    Calls Try.prog 7 #[.slice a n cap, .int .i64 z] w fun e w' => e = .returned (.bool true) ∧ Below w.heap.size w w' := by
  have hby := hA.hat.by
  have hUI := rU_cases l z hby
  have hT := rT_cases l z hby
  have hln := hA.hn
  have HA := Lib.hid hA
  have HUI := Lib.hid hUI
  have HT := Lib.hid hT
  have HLN := Lib.hid hln
  obtain ⟨v, k, c, hU⟩ : ∃ v k c, rU l z = (v, k, c) := ⟨_, _, _, rfl⟩
  obtain ⟨m, k2, c2, hI⟩ : ∃ v k c, rI l z = (v, k, c) := ⟨_, _, _, rfl⟩
  obtain ⟨t, k3, c3, hTT⟩ : ∃ v k c, rT l z = (v, k, c) := ⟨_, _, _, rfl⟩
  have C1 := Lib.hid fun w (h : Li w a n cap l) => readU_any a n cap l z w h v k c hU
  have C2 := Lib.hid fun w (h : Li w a n cap l) => readI_any a n cap l z w h m k2 c2 hI
  have C3 := Lib.hid fun w (h : Li w a n cap l) => readT_any a n cap l z w h t k3 c3 hTT
  have HU := Lib.hid hU
  have HI := Lib.hid hI
  have HTT := Lib.hid hTT
  clear hA hUI hT hby hln hU hI hTT
  go_enter Try.func7, Try.ntmps7
  go_wp2_with fail
  refine (example_any _).mono ?_
  rintro e w1 ⟨rfl, k1⟩
  go_wp2_with fail
  refine (C1.out _ (HA.out.keeps k1)).mono ?_
  rintro e w2 ⟨rfl, b⟩
  replace k1 := bnext k1 b
  clear b
  go_upto_region 3 with fail
  go_cut [46] (fun s wx => s = .bool false ∧ Below w.heap.size w wx)
  case first =>
    rcases HUI.out with ⟨c', h1, _, hc0, hc1⟩ | ⟨p, v', rfl, hp, hpl, htk, hv, h1, _, _⟩
    · rw [HU.out] at h1
      simp only [Prod.mk.injEq] at h1
      obtain ⟨rfl, rfl, rfl⟩ := h1
      have q1 : ((c : Int) == 0) = false := by simp; omega
      have q1' : ((c : Int) != 0) = true := by simp; omega
      clear hc0 hc1
      go_quiet (fail)
      have k2 := k1.trans (below_drewN' w.heap.size w2 nq)
      go_wp2_with fail
      go_meet
      case rel => exact ⟨rfl, k2⟩
    · rw [HU.out] at h1
      simp only [Prod.mk.injEq] at h1
      obtain ⟨rfl, hk, rfl⟩ := h1
      have hj : 1 ≤ (en v).length := by exact en_pos v
      obtain ⟨J, hJ⟩ : ∃ J, (en v).length = J := ⟨_, rfl⟩
      rw [hJ] at hk hj hpl htk
      obtain ⟨ac, hac0, hcl, hsl⟩ := cut_any (HA.out.keeps k1) p J hj (by rw [← HLN.out]; exact hpl)
      rw [htk] at hac0 hcl
      rw [← hk] at hsl
      have hac : AtL w2.drew ac (en v) := hac0.keeps ((b0 w2).drew)
      have cU := fun w => au_any v J w hv hJ
      have q1 : decide ((p : Int) < 0) = false := decide_eq_false (by omega)
      have q1' : decide ((0 : Int) ≤ (p : Int)) = true := decide_eq_true (by omega)
      have q2 : decide ((k : Int) ≤ (p : Int)) = false := decide_eq_false (by omega)
      have q2' : decide (k ≤ p) = false := decide_eq_false (by omega)
      have q4 : decide ((p : Int) < (k : Int)) = true := decide_eq_true (by omega)
      have q4' : decide (p < k) = true := decide_eq_true (by omega)
      have q3 : decide ((n : Int) < (k : Int)) = false := decide_eq_false (by have := HLN.out; omega)
      have q3' : decide (n < k) = false := decide_eq_false (by have := HLN.out; omega)
      have q5 : decide ((k : Int) ≤ (n : Int)) = true := decide_eq_true (by have := HLN.out; omega)
      have q5' : decide (k ≤ n) = true := decide_eq_true (by have := HLN.out; omega)
      clear hk hj hpl htk hac0 hp
      refine wp_region_noPanic ?_
      refine wp_region_held_drew (S := fun w' => Go.RowKit.Below w.heap.size w w' ∧ AtL w' ac (en v)) (by kernel_rfl) ⟨k1.drew, hac⟩ (fun hH => ?_)
      refine held_take (i := 0) (d := 19) (v := ?_) rfl (by kernel_rfl) (by kernel_rfl) (by kernel_rfl) rfl (fun _ _ _ h => h) rfl hH (fun w' hS => ?_) ?_
      rotate_left
      · go_simp
        first | done | with_reducible rfl
      simp only [List.set_cons_zero, List.set_cons_succ]
      refine held_take (i := 1) (d := 20) (v := ?_) rfl (by kernel_rfl) (by kernel_rfl) (by kernel_rfl) rfl (fun _ _ _ h => h) rfl hH (fun w' hS => ?_) ?_
      rotate_left
      · go_simp
        first | done | with_reducible rfl
      simp only [List.set_cons_zero, List.set_cons_succ]
      refine held_take (i := 2) (d := 21) (v := ?_) rfl (by kernel_rfl) (by kernel_rfl) (by kernel_rfl) rfl (fun _ _ _ h => h) rfl hH (fun w' hS => ?_) ?_
      rotate_left
      · go_simp
        first | done | with_reducible rfl
      simp only [List.set_cons_zero, List.set_cons_succ]
      refine held_take (i := 3) (d := 22) (v := ?_) rfl (by kernel_rfl) (by kernel_rfl) (by kernel_rfl) rfl (fun _ _ _ h => h) rfl hH (fun w' hS => ?_) ?_
      rotate_left
      · go_simp
        first | done | with_reducible rfl
      simp only [List.set_cons_zero, List.set_cons_succ]
      refine held_take (i := 4) (d := 23) (v := ?_) rfl (by kernel_rfl) (by kernel_rfl) (by kernel_rfl) rfl (fun _ _ _ h => h) rfl hH (fun w' hS => ?_) ?_
      rotate_left
      · go_simp
        first | done | with_reducible rfl
      simp only [List.set_cons_zero, List.set_cons_succ]
      refine held_take (i := 5) (d := 24) (v := ?_) rfl (by kernel_rfl) (by kernel_rfl) (by kernel_rfl) rfl (fun _ _ _ h => h) rfl hH (fun w' hS => ?_) ?_
      rotate_left
      · go_simp
        first | done | with_reducible rfl
      simp only [List.set_cons_zero, List.set_cons_succ]
      refine held_take (i := 6) (d := 25) (v := ?_) rfl (by kernel_rfl) (by kernel_rfl) (by kernel_rfl) rfl (fun _ _ _ h => h) rfl hH (fun w' hS => ?_) ?_
      rotate_left
      · go_simp
        first | done | with_reducible rfl
      simp only [List.set_cons_zero, List.set_cons_succ]
      refine held_take (i := 7) (d := 26) (v := ?_) rfl (by kernel_rfl) (by kernel_rfl) (by kernel_rfl) rfl (fun _ _ _ h => h) rfl hH (fun w' hS => ?_) ?_
      rotate_left
      · go_simp
        first | done | with_reducible rfl
      simp only [List.set_cons_zero, List.set_cons_succ]
      refine held_take (i := 8) (d := 27) (v := ?_) rfl (by kernel_rfl) (by kernel_rfl) (by kernel_rfl) rfl (fun _ _ _ h => h) rfl hH (fun w' hS => ?_) ?_
      rotate_left
      · go_simp
        first | done | with_reducible rfl
      simp only [List.set_cons_zero, List.set_cons_succ]
      refine held_take (i := 9) (d := 28) (v := ?_) rfl (by kernel_rfl) (by kernel_rfl) (by kernel_rfl) rfl (fun _ _ _ h => h) rfl hH (fun w' hS => ?_) ?_
      rotate_left
      · go_simp
        first | done | with_reducible rfl
      simp only [List.set_cons_zero, List.set_cons_succ]
      refine held_take (i := 10) (d := 29) (v := ?_) rfl (by kernel_rfl) (by kernel_rfl) (by kernel_rfl) rfl (fun _ _ _ h => h) rfl hH (fun w' hS => ?_) ?_
      rotate_left
      · go_simp
        first | done | with_reducible rfl
      simp only [List.set_cons_zero, List.set_cons_succ]
      refine held_take (i := 11) (d := 30) (v := ?_) rfl (by kernel_rfl) (by kernel_rfl) (by kernel_rfl) rfl (fun _ _ _ h => h) rfl hH (fun w' hS => ?_) ?_
      rotate_left
      · go_simp
        first | done | with_reducible rfl
      simp only [List.set_cons_zero, List.set_cons_succ]
      refine held_take (i := 12) (d := 31) (v := ?_) rfl (by kernel_rfl) (by kernel_rfl) (by kernel_rfl) rfl (fun _ _ _ h => h) rfl hH (fun w' hS => ?_) ?_
      rotate_left
      · go_simp
        first | done | with_reducible rfl
      simp only [List.set_cons_zero, List.set_cons_succ]
      refine held_take (i := 13) (d := 32) (v := ?_) rfl (by kernel_rfl) (by kernel_rfl) (by kernel_rfl) rfl (fun _ _ _ h => h) rfl hH (fun w' hS => ?_) ?_
      rotate_left
      · go_simp
        first | done | with_reducible rfl
      simp only [List.set_cons_zero, List.set_cons_succ]
      refine held_take (i := 14) (d := 33) (v := ?_) rfl (by kernel_rfl) (by kernel_rfl) (by kernel_rfl) rfl (fun _ _ _ h => h) rfl hH (fun w' hS => ?_) ?_
      rotate_left
      · go_simp
        first | done | with_reducible rfl
      simp only [List.set_cons_zero, List.set_cons_succ]
      refine held_take (i := 15) (d := 34) (v := ?_) rfl (by kernel_rfl) (by kernel_rfl) (by kernel_rfl) rfl (fun _ _ _ h => h) rfl hH (fun w' hS => ?_) ?_
      rotate_left
      · go_simp
        first | done | with_reducible rfl
      simp only [List.set_cons_zero, List.set_cons_succ]
      refine held_take (i := 16) (d := 35) (v := ?_) rfl (by kernel_rfl) (by kernel_rfl) (by kernel_rfl) rfl (fun _ _ _ h => h) rfl hH (fun w' hS => ?_) ?_
      rotate_left
      · go_simp
        first | done | with_reducible rfl
      simp only [List.set_cons_zero, List.set_cons_succ]
      refine held_take (i := 17) (d := 36) (v := ?_) rfl (by kernel_rfl) (by kernel_rfl) (by kernel_rfl) rfl (fun _ _ _ h => h) rfl hH (fun w' hS => ?_) ?_
      rotate_left
      · go_simp
        first | done | with_reducible rfl
      simp only [List.set_cons_zero, List.set_cons_succ]
      refine held_take (i := 20) (d := 39) (v := ?_) rfl (by kernel_rfl) (by kernel_rfl) (by kernel_rfl) rfl (fun _ _ _ h => h) rfl hH (fun w' hS => ?_) ?_
      rotate_left
      · go_simp
        first | done | with_reducible rfl
      simp only [List.set_cons_zero, List.set_cons_succ]
      refine held_take (i := 21) (d := 40) (v := ?_) rfl (by kernel_rfl) (by kernel_rfl) (by kernel_rfl) rfl (fun _ _ _ h => h) rfl hH (fun w' hS => ?_) ?_
      rotate_left
      · go_simp
        first | done | with_reducible rfl
      simp only [List.set_cons_zero, List.set_cons_succ]
      refine held_take (i := 22) (d := 41) (v := ?_) rfl (by kernel_rfl) (by kernel_rfl) (by kernel_rfl) rfl (fun _ _ _ h => h) rfl hH (fun w' hS => ?_) ?_
      rotate_left
      · go_simp
        first | done | with_reducible rfl
      simp only [List.set_cons_zero, List.set_cons_succ]
      refine held_take (i := 23) (d := 42) (v := ?_) rfl (by kernel_rfl) (by kernel_rfl) (by kernel_rfl) rfl (fun _ _ _ h => h) rfl hH (fun w' hS => ?_) ?_
      rotate_left
      · have h0 := hsl w' (p : Int) (k : Int) rfl rfl; go_simp; with_reducible rfl
      simp only [List.set_cons_zero, List.set_cons_succ]
      refine held_take (i := 24) (d := 43) (v := ?_) rfl (by kernel_rfl) (by kernel_rfl) (by kernel_rfl) rfl (fun _ _ _ h => h) rfl hH (fun w' hS => ?_) ?_
      rotate_left
      · have h0 := run_str hS.2 _ (cap - p) hcl; go_simp; with_reducible rfl
      simp only [List.set_cons_zero, List.set_cons_succ]
      refine held_only (i := 18) rfl (by kernel_rfl) rfl (fun K hK => ?_)
      go_simp
      refine (cU _).mono ?_
      rintro e w5 ⟨rfl, A5, b5⟩
      change AtL w5 (some ⟨w2.heap.size, 0, none⟩) _ at A5
      have b6 := hH.1.trans (b5.mono hH.1.size)
      have h6 := hH.2.keeps b5
      clear hH
      refine hK.out _ _ ⟨b6, h6⟩ (fun hH => ?_)
      clear hK K
      refine held_only (i := 19) rfl (by kernel_rfl) rfl (fun K hK => ?_)
      go_simp
      have h0 := run_str A5 J 10 hJ
      go_simp
      refine hK.out _ _ ⟨b6, h6⟩ (fun hH => ?_)
      clear hK K
      refine held_take (i := 25) (d := 44) (v := ?_) rfl (by kernel_rfl) (by kernel_rfl) (by kernel_rfl) rfl (fun _ _ _ h => h) rfl hH (fun w' hS => ?_) ?_
      rotate_left
      · go_simp
        first | done | with_reducible rfl
      simp only [List.set_cons_zero, List.set_cons_succ]
      refine held_take (i := 26) (d := 45) (v := ?_) rfl (by kernel_rfl) (by kernel_rfl) (by kernel_rfl) rfl (fun _ _ _ h => h) rfl hH (fun w' hS => ?_) ?_
      rotate_left
      · go_simp
        first | done | with_reducible rfl
      simp only [List.set_cons_zero, List.set_cons_succ]
      refine held_take (i := 27) (d := 46) (v := ?_) rfl (by kernel_rfl) (by kernel_rfl) (by kernel_rfl) rfl (fun _ _ _ h => h) rfl hH (fun w' hS => ?_) ?_
      rotate_left
      · go_simp
        first | done | with_reducible rfl
      simp only [List.set_cons_zero, List.set_cons_succ]
      refine wpAnyH_done (by kernel_rfl) ?_ _
      refine noPanic_of ?_
      go_wp2_with fail
      go_meet
      case rel => exact ⟨rfl, b6⟩
  case rest =>
    obtain ⟨rfl, k1⟩ := hcut
    clear HU C1
    go_wp2_with fail
    refine (C2.out _ (HA.out.keeps k1)).mono ?_
    rintro e w3 ⟨rfl, b⟩
    replace k1 := bnext k1 b
    clear b
    go_upto_region 6 with fail
    go_cut [81] (fun s wx => s = .bool false ∧ Below w.heap.size w wx)
    case first =>
      rcases HUI.out with ⟨c', _, h1, hc0, hc1⟩ | ⟨p, v', rfl, hp, hpl, htk, hv, _, h1, _⟩
      · rw [HI.out] at h1
        simp only [Prod.mk.injEq] at h1
        obtain ⟨rfl, rfl, rfl⟩ := h1
        have q1 : ((c2 : Int) == 0) = false := by simp; omega
        have q1' : ((c2 : Int) != 0) = true := by simp; omega
        clear hc0 hc1
        go_quiet (fail)
        have k2 := k1.trans (below_drewN' w.heap.size w3 nq)
        go_wp2_with fail
        go_meet
        case rel => exact ⟨rfl, k2⟩
      · rw [HI.out] at h1
        simp only [Prod.mk.injEq] at h1
        obtain ⟨hm, hk, rfl⟩ := h1
        obtain ⟨m1, m2⟩ := unfd_in hv
        rw [← hm] at m1 m2
        have hfv : fold m = v' := by rw [hm, fold_unfd]
        rw [← hfv] at hk hpl htk
        have M1 := Lib.hid m1
        have M2 := Lib.hid m2
        clear hm hfv hv m1 m2
        have hj : 1 ≤ (en (fold m)).length := by exact en_pos _
        obtain ⟨J, hJ⟩ : ∃ J, (en (fold m)).length = J := ⟨_, rfl⟩
        rw [hJ] at hk hj hpl htk
        obtain ⟨ac, hac0, hcl, hsl⟩ := cut_any (HA.out.keeps k1) p J hj (by rw [← HLN.out]; exact hpl)
        rw [htk] at hac0 hcl
        rw [← hk] at hsl
        have hac : AtL w3.drew ac (en (fold m)) := hac0.keeps ((b0 w3).drew)
        have cU := fun w => ai_any m J w M1.out M2.out hJ
        have q1 : decide ((p : Int) < 0) = false := decide_eq_false (by omega)
        have q1' : decide ((0 : Int) ≤ (p : Int)) = true := decide_eq_true (by omega)
        have q2 : decide ((k2 : Int) ≤ (p : Int)) = false := decide_eq_false (by omega)
        have q2' : decide (k2 ≤ p) = false := decide_eq_false (by omega)
        have q4 : decide ((p : Int) < (k2 : Int)) = true := decide_eq_true (by omega)
        have q4' : decide (p < k2) = true := decide_eq_true (by omega)
        have q3 : decide ((n : Int) < (k2 : Int)) = false := decide_eq_false (by have := HLN.out; omega)
        have q3' : decide (n < k2) = false := decide_eq_false (by have := HLN.out; omega)
        have q5 : decide ((k2 : Int) ≤ (n : Int)) = true := decide_eq_true (by have := HLN.out; omega)
        have q5' : decide (k2 ≤ n) = true := decide_eq_true (by have := HLN.out; omega)
        clear hk hj hpl htk hac0 hp
        refine wp_region_noPanic ?_
        refine wp_region_held_drew (S := fun w' => Go.RowKit.Below w.heap.size w w' ∧ AtL w' ac (en (fold m))) (by kernel_rfl) ⟨k1.drew, hac⟩ (fun hH => ?_)
        refine held_take (i := 0) (d := 54) (v := ?_) rfl (by kernel_rfl) (by kernel_rfl) (by kernel_rfl) rfl (fun _ _ _ h => h) rfl hH (fun w' hS => ?_) ?_
        rotate_left
        · go_simp
          first | done | with_reducible rfl
        simp only [List.set_cons_zero, List.set_cons_succ]
        refine held_take (i := 1) (d := 55) (v := ?_) rfl (by kernel_rfl) (by kernel_rfl) (by kernel_rfl) rfl (fun _ _ _ h => h) rfl hH (fun w' hS => ?_) ?_
        rotate_left
        · go_simp
          first | done | with_reducible rfl
        simp only [List.set_cons_zero, List.set_cons_succ]
        refine held_take (i := 2) (d := 56) (v := ?_) rfl (by kernel_rfl) (by kernel_rfl) (by kernel_rfl) rfl (fun _ _ _ h => h) rfl hH (fun w' hS => ?_) ?_
        rotate_left
        · go_simp
          first | done | with_reducible rfl
        simp only [List.set_cons_zero, List.set_cons_succ]
        refine held_take (i := 3) (d := 57) (v := ?_) rfl (by kernel_rfl) (by kernel_rfl) (by kernel_rfl) rfl (fun _ _ _ h => h) rfl hH (fun w' hS => ?_) ?_
        rotate_left
        · go_simp
          first | done | with_reducible rfl
        simp only [List.set_cons_zero, List.set_cons_succ]
        refine held_take (i := 4) (d := 58) (v := ?_) rfl (by kernel_rfl) (by kernel_rfl) (by kernel_rfl) rfl (fun _ _ _ h => h) rfl hH (fun w' hS => ?_) ?_
        rotate_left
        · go_simp
          first | done | with_reducible rfl
        simp only [List.set_cons_zero, List.set_cons_succ]
        refine held_take (i := 5) (d := 59) (v := ?_) rfl (by kernel_rfl) (by kernel_rfl) (by kernel_rfl) rfl (fun _ _ _ h => h) rfl hH (fun w' hS => ?_) ?_
        rotate_left
        · go_simp
          first | done | with_reducible rfl
        simp only [List.set_cons_zero, List.set_cons_succ]
        refine held_take (i := 6) (d := 60) (v := ?_) rfl (by kernel_rfl) (by kernel_rfl) (by kernel_rfl) rfl (fun _ _ _ h => h) rfl hH (fun w' hS => ?_) ?_
        rotate_left
        · go_simp
          first | done | with_reducible rfl
        simp only [List.set_cons_zero, List.set_cons_succ]
        refine held_take (i := 7) (d := 61) (v := ?_) rfl (by kernel_rfl) (by kernel_rfl) (by kernel_rfl) rfl (fun _ _ _ h => h) rfl hH (fun w' hS => ?_) ?_
        rotate_left
        · go_simp
          first | done | with_reducible rfl
        simp only [List.set_cons_zero, List.set_cons_succ]
        refine held_take (i := 8) (d := 62) (v := ?_) rfl (by kernel_rfl) (by kernel_rfl) (by kernel_rfl) rfl (fun _ _ _ h => h) rfl hH (fun w' hS => ?_) ?_
        rotate_left
        · go_simp
          first | done | with_reducible rfl
        simp only [List.set_cons_zero, List.set_cons_succ]
        refine held_take (i := 9) (d := 63) (v := ?_) rfl (by kernel_rfl) (by kernel_rfl) (by kernel_rfl) rfl (fun _ _ _ h => h) rfl hH (fun w' hS => ?_) ?_
        rotate_left
        · go_simp
          first | done | with_reducible rfl
        simp only [List.set_cons_zero, List.set_cons_succ]
        refine held_take (i := 10) (d := 64) (v := ?_) rfl (by kernel_rfl) (by kernel_rfl) (by kernel_rfl) rfl (fun _ _ _ h => h) rfl hH (fun w' hS => ?_) ?_
        rotate_left
        · go_simp
          first | done | with_reducible rfl
        simp only [List.set_cons_zero, List.set_cons_succ]
        refine held_take (i := 11) (d := 65) (v := ?_) rfl (by kernel_rfl) (by kernel_rfl) (by kernel_rfl) rfl (fun _ _ _ h => h) rfl hH (fun w' hS => ?_) ?_
        rotate_left
        · go_simp
          first | done | with_reducible rfl
        simp only [List.set_cons_zero, List.set_cons_succ]
        refine held_take (i := 12) (d := 66) (v := ?_) rfl (by kernel_rfl) (by kernel_rfl) (by kernel_rfl) rfl (fun _ _ _ h => h) rfl hH (fun w' hS => ?_) ?_
        rotate_left
        · go_simp
          first | done | with_reducible rfl
        simp only [List.set_cons_zero, List.set_cons_succ]
        refine held_take (i := 13) (d := 67) (v := ?_) rfl (by kernel_rfl) (by kernel_rfl) (by kernel_rfl) rfl (fun _ _ _ h => h) rfl hH (fun w' hS => ?_) ?_
        rotate_left
        · go_simp
          first | done | with_reducible rfl
        simp only [List.set_cons_zero, List.set_cons_succ]
        refine held_take (i := 14) (d := 68) (v := ?_) rfl (by kernel_rfl) (by kernel_rfl) (by kernel_rfl) rfl (fun _ _ _ h => h) rfl hH (fun w' hS => ?_) ?_
        rotate_left
        · go_simp
          first | done | with_reducible rfl
        simp only [List.set_cons_zero, List.set_cons_succ]
        refine held_take (i := 15) (d := 69) (v := ?_) rfl (by kernel_rfl) (by kernel_rfl) (by kernel_rfl) rfl (fun _ _ _ h => h) rfl hH (fun w' hS => ?_) ?_
        rotate_left
        · go_simp
          first | done | with_reducible rfl
        simp only [List.set_cons_zero, List.set_cons_succ]
        refine held_take (i := 16) (d := 70) (v := ?_) rfl (by kernel_rfl) (by kernel_rfl) (by kernel_rfl) rfl (fun _ _ _ h => h) rfl hH (fun w' hS => ?_) ?_
        rotate_left
        · go_simp
          first | done | with_reducible rfl
        simp only [List.set_cons_zero, List.set_cons_succ]
        refine held_take (i := 17) (d := 71) (v := ?_) rfl (by kernel_rfl) (by kernel_rfl) (by kernel_rfl) rfl (fun _ _ _ h => h) rfl hH (fun w' hS => ?_) ?_
        rotate_left
        · go_simp
          first | done | with_reducible rfl
        simp only [List.set_cons_zero, List.set_cons_succ]
        refine held_take (i := 20) (d := 74) (v := ?_) rfl (by kernel_rfl) (by kernel_rfl) (by kernel_rfl) rfl (fun _ _ _ h => h) rfl hH (fun w' hS => ?_) ?_
        rotate_left
        · go_simp
          first | done | with_reducible rfl
        simp only [List.set_cons_zero, List.set_cons_succ]
        refine held_take (i := 21) (d := 75) (v := ?_) rfl (by kernel_rfl) (by kernel_rfl) (by kernel_rfl) rfl (fun _ _ _ h => h) rfl hH (fun w' hS => ?_) ?_
        rotate_left
        · go_simp
          first | done | with_reducible rfl
        simp only [List.set_cons_zero, List.set_cons_succ]
        refine held_take (i := 22) (d := 76) (v := ?_) rfl (by kernel_rfl) (by kernel_rfl) (by kernel_rfl) rfl (fun _ _ _ h => h) rfl hH (fun w' hS => ?_) ?_
        rotate_left
        · go_simp
          first | done | with_reducible rfl
        simp only [List.set_cons_zero, List.set_cons_succ]
        refine held_take (i := 23) (d := 77) (v := ?_) rfl (by kernel_rfl) (by kernel_rfl) (by kernel_rfl) rfl (fun _ _ _ h => h) rfl hH (fun w' hS => ?_) ?_
        rotate_left
        · have h0 := hsl w' (p : Int) (k2 : Int) rfl rfl; go_simp; with_reducible rfl
        simp only [List.set_cons_zero, List.set_cons_succ]
        refine held_take (i := 24) (d := 78) (v := ?_) rfl (by kernel_rfl) (by kernel_rfl) (by kernel_rfl) rfl (fun _ _ _ h => h) rfl hH (fun w' hS => ?_) ?_
        rotate_left
        · have h0 := run_str hS.2 _ (cap - p) hcl; go_simp; with_reducible rfl
        simp only [List.set_cons_zero, List.set_cons_succ]
        refine held_only (i := 18) rfl (by kernel_rfl) rfl (fun K hK => ?_)
        go_simp
        refine (cU _).mono ?_
        rintro e w5 ⟨rfl, A5, b5⟩
        change AtL w5 (some ⟨w3.heap.size, 0, none⟩) _ at A5
        have b6 := hH.1.trans (b5.mono hH.1.size)
        have h6 := hH.2.keeps b5
        clear hH
        refine hK.out _ _ ⟨b6, h6⟩ (fun hH => ?_)
        clear hK K
        refine held_only (i := 19) rfl (by kernel_rfl) rfl (fun K hK => ?_)
        go_simp
        have h0 := run_str A5 J 10 hJ
        go_simp
        refine hK.out _ _ ⟨b6, h6⟩ (fun hH => ?_)
        clear hK K
        refine held_take (i := 25) (d := 79) (v := ?_) rfl (by kernel_rfl) (by kernel_rfl) (by kernel_rfl) rfl (fun _ _ _ h => h) rfl hH (fun w' hS => ?_) ?_
        rotate_left
        · go_simp
          first | done | with_reducible rfl
        simp only [List.set_cons_zero, List.set_cons_succ]
        refine held_take (i := 26) (d := 80) (v := ?_) rfl (by kernel_rfl) (by kernel_rfl) (by kernel_rfl) rfl (fun _ _ _ h => h) rfl hH (fun w' hS => ?_) ?_
        rotate_left
        · go_simp
          first | done | with_reducible rfl
        simp only [List.set_cons_zero, List.set_cons_succ]
        refine held_take (i := 27) (d := 81) (v := ?_) rfl (by kernel_rfl) (by kernel_rfl) (by kernel_rfl) rfl (fun _ _ _ h => h) rfl hH (fun w' hS => ?_) ?_
        rotate_left
        · go_simp
          first | done | with_reducible rfl
        simp only [List.set_cons_zero, List.set_cons_succ]
        refine wpAnyH_done (by kernel_rfl) ?_ _
        refine noPanic_of ?_
        go_wp2_with fail
        go_meet
        case rel => exact ⟨rfl, b6⟩
    case rest =>
      obtain ⟨rfl, k1⟩ := hcut
      clear HI C2
      go_wp2_with fail
      refine (C3.out _ (HA.out.keeps k1)).mono ?_
      rintro e w4 ⟨rfl, b⟩
      replace k1 := bnext k1 b
      clear b C3
      rcases HT.out with ⟨c', h1, hc0, hc1⟩ | ⟨p, t', rfl, hp, hpl, htk, h1⟩
      · rw [HTT.out] at h1
        simp only [Prod.mk.injEq] at h1
        obtain ⟨rfl, rfl, rfl⟩ := h1
        go_wp2_with fail
        have q1 : ((c3 : Int) == 0) = false := by simp; omega
        have q1' : ((c3 : Int) != 0) = true := by simp; omega
        clear hc0 hc1
        go_quiet (fail)
        have k2 := k1.trans (below_drewN' w.heap.size w4 nq)
        go_wp2_with fail
        go_ret
        exact ⟨rfl, k2⟩
      · rw [HTT.out] at h1
        simp only [Prod.mk.injEq] at h1
        obtain ⟨rfl, hk, rfl⟩ := h1
        have hbt : By t := by
          have h := (HA.out.hat.by.drop p).take (en t.length ++ t).length
          rw [htk] at h
          exact h.right
        have htl : t.length ≤ 140737488351232 := by
          have := HLN.out
          rw [List.length_append] at hpl
          omega
        have hne := en_pos t.length
        have HBT := Lib.hid hbt
        clear hbt
        have hj : 1 ≤ (en t.length ++ t).length := by rw [List.length_append]; omega
        obtain ⟨J, hJ⟩ : ∃ J, (en t.length ++ t).length = J := ⟨_, rfl⟩
        rw [hJ] at hk hj hpl htk
        obtain ⟨ac, hac0, hcl, hsl⟩ := cut_any (HA.out.keeps k1) p J hj (by rw [← HLN.out]; exact hpl)
        rw [htk] at hac0 hcl
        rw [← hk] at hsl
        have hac : AtL w4.drew ac (en t.length ++ t) := hac0.keeps ((b0 w4).drew)
        have cU := fun w => at_list t J w HBT.out htl hJ
        have q1 : decide ((p : Int) < 0) = false := decide_eq_false (by omega)
        have q1' : decide ((0 : Int) ≤ (p : Int)) = true := decide_eq_true (by omega)
        have q2 : decide ((k3 : Int) ≤ (p : Int)) = false := decide_eq_false (by omega)
        have q2' : decide (k3 ≤ p) = false := decide_eq_false (by omega)
        have q4 : decide ((p : Int) < (k3 : Int)) = true := decide_eq_true (by omega)
        have q4' : decide (p < k3) = true := decide_eq_true (by omega)
        have q3 : decide ((n : Int) < (k3 : Int)) = false := decide_eq_false (by have := HLN.out; omega)
        have q3' : decide (n < k3) = false := decide_eq_false (by have := HLN.out; omega)
        have q5 : decide ((k3 : Int) ≤ (n : Int)) = true := decide_eq_true (by have := HLN.out; omega)
        have q5' : decide (k3 ≤ n) = true := decide_eq_true (by have := HLN.out; omega)
        clear hk hj hpl htk hac0 hp hne htl
        go_wp2_with fail
        refine wp_region_noPanic ?_
        refine wp_region_held_drew (S := fun w' => Go.RowKit.Below w.heap.size w w' ∧ AtL w' ac (en t.length ++ t)) (by kernel_rfl) ⟨k1.drew, hac⟩ (fun hH => ?_)
        refine held_take (i := 0) (d := 89) (v := ?_) rfl (by kernel_rfl) (by kernel_rfl) (by kernel_rfl) rfl (fun _ _ _ h => h) rfl hH (fun w' hS => ?_) ?_
        rotate_left
        · go_simp
          first | done | with_reducible rfl
        simp only [List.set_cons_zero, List.set_cons_succ]
        refine held_take (i := 1) (d := 90) (v := ?_) rfl (by kernel_rfl) (by kernel_rfl) (by kernel_rfl) rfl (fun _ _ _ h => h) rfl hH (fun w' hS => ?_) ?_
        rotate_left
        · go_simp
          first | done | with_reducible rfl
        simp only [List.set_cons_zero, List.set_cons_succ]
        refine held_take (i := 2) (d := 91) (v := ?_) rfl (by kernel_rfl) (by kernel_rfl) (by kernel_rfl) rfl (fun _ _ _ h => h) rfl hH (fun w' hS => ?_) ?_
        rotate_left
        · go_simp
          first | done | with_reducible rfl
        simp only [List.set_cons_zero, List.set_cons_succ]
        refine held_take (i := 3) (d := 92) (v := ?_) rfl (by kernel_rfl) (by kernel_rfl) (by kernel_rfl) rfl (fun _ _ _ h => h) rfl hH (fun w' hS => ?_) ?_
        rotate_left
        · go_simp
          first | done | with_reducible rfl
        simp only [List.set_cons_zero, List.set_cons_succ]
        refine held_take (i := 4) (d := 93) (v := ?_) rfl (by kernel_rfl) (by kernel_rfl) (by kernel_rfl) rfl (fun _ _ _ h => h) rfl hH (fun w' hS => ?_) ?_
        rotate_left
        · go_simp
          first | done | with_reducible rfl
        simp only [List.set_cons_zero, List.set_cons_succ]
        refine held_take (i := 5) (d := 94) (v := ?_) rfl (by kernel_rfl) (by kernel_rfl) (by kernel_rfl) rfl (fun _ _ _ h => h) rfl hH (fun w' hS => ?_) ?_
        rotate_left
        · go_simp
          first | done | with_reducible rfl
        simp only [List.set_cons_zero, List.set_cons_succ]
        refine held_take (i := 6) (d := 95) (v := ?_) rfl (by kernel_rfl) (by kernel_rfl) (by kernel_rfl) rfl (fun _ _ _ h => h) rfl hH (fun w' hS => ?_) ?_
        rotate_left
        · go_simp
          first | done | with_reducible rfl
        simp only [List.set_cons_zero, List.set_cons_succ]
        refine held_take (i := 7) (d := 96) (v := ?_) rfl (by kernel_rfl) (by kernel_rfl) (by kernel_rfl) rfl (fun _ _ _ h => h) rfl hH (fun w' hS => ?_) ?_
        rotate_left
        · go_simp
          first | done | with_reducible rfl
        simp only [List.set_cons_zero, List.set_cons_succ]
        refine held_take (i := 8) (d := 97) (v := ?_) rfl (by kernel_rfl) (by kernel_rfl) (by kernel_rfl) rfl (fun _ _ _ h => h) rfl hH (fun w' hS => ?_) ?_
        rotate_left
        · go_simp
          first | done | with_reducible rfl
        simp only [List.set_cons_zero, List.set_cons_succ]
        refine held_take (i := 9) (d := 98) (v := ?_) rfl (by kernel_rfl) (by kernel_rfl) (by kernel_rfl) rfl (fun _ _ _ h => h) rfl hH (fun w' hS => ?_) ?_
        rotate_left
        · go_simp
          first | done | with_reducible rfl
        simp only [List.set_cons_zero, List.set_cons_succ]
        refine held_take (i := 10) (d := 99) (v := ?_) rfl (by kernel_rfl) (by kernel_rfl) (by kernel_rfl) rfl (fun _ _ _ h => h) rfl hH (fun w' hS => ?_) ?_
        rotate_left
        · go_simp
          first | done | with_reducible rfl
        simp only [List.set_cons_zero, List.set_cons_succ]
        refine held_take (i := 11) (d := 100) (v := ?_) rfl (by kernel_rfl) (by kernel_rfl) (by kernel_rfl) rfl (fun _ _ _ h => h) rfl hH (fun w' hS => ?_) ?_
        rotate_left
        · go_simp
          first | done | with_reducible rfl
        simp only [List.set_cons_zero, List.set_cons_succ]
        refine held_take (i := 12) (d := 101) (v := ?_) rfl (by kernel_rfl) (by kernel_rfl) (by kernel_rfl) rfl (fun _ _ _ h => h) rfl hH (fun w' hS => ?_) ?_
        rotate_left
        · go_simp
          first | done | with_reducible rfl
        simp only [List.set_cons_zero, List.set_cons_succ]
        refine held_take (i := 13) (d := 102) (v := ?_) rfl (by kernel_rfl) (by kernel_rfl) (by kernel_rfl) rfl (fun _ _ _ h => h) rfl hH (fun w' hS => ?_) ?_
        rotate_left
        · go_simp
          first | done | with_reducible rfl
        simp only [List.set_cons_zero, List.set_cons_succ]
        refine held_take (i := 14) (d := 103) (v := ?_) rfl (by kernel_rfl) (by kernel_rfl) (by kernel_rfl) rfl (fun _ _ _ h => h) rfl hH (fun w' hS => ?_) ?_
        rotate_left
        · go_simp
          first | done | with_reducible rfl
        simp only [List.set_cons_zero, List.set_cons_succ]
        refine held_take (i := 15) (d := 104) (v := ?_) rfl (by kernel_rfl) (by kernel_rfl) (by kernel_rfl) rfl (fun _ _ _ h => h) rfl hH (fun w' hS => ?_) ?_
        rotate_left
        · go_simp
          first | done | with_reducible rfl
        simp only [List.set_cons_zero, List.set_cons_succ]
        refine held_take (i := 16) (d := 105) (v := ?_) rfl (by kernel_rfl) (by kernel_rfl) (by kernel_rfl) rfl (fun _ _ _ h => h) rfl hH (fun w' hS => ?_) ?_
        rotate_left
        · go_simp
          first | done | with_reducible rfl
        simp only [List.set_cons_zero, List.set_cons_succ]
        refine held_take (i := 17) (d := 106) (v := ?_) rfl (by kernel_rfl) (by kernel_rfl) (by kernel_rfl) rfl (fun _ _ _ h => h) rfl hH (fun w' hS => ?_) ?_
        rotate_left
        · go_simp
          first | done | with_reducible rfl
        simp only [List.set_cons_zero, List.set_cons_succ]
        refine held_take (i := 18) (d := 107) (v := ?_) rfl (by kernel_rfl) (by kernel_rfl) (by kernel_rfl) rfl (fun _ _ _ h => h) rfl hH (fun w' hS => ?_) ?_
        rotate_left
        · go_simp
          first | done | with_reducible rfl
        simp only [List.set_cons_zero, List.set_cons_succ]
        refine held_take (i := 19) (d := 108) (v := ?_) rfl (by kernel_rfl) (by kernel_rfl) (by kernel_rfl) rfl (fun _ _ _ h => h) rfl hH (fun w' hS => ?_) ?_
        rotate_left
        · go_simp
          first | done | with_reducible rfl
        simp only [List.set_cons_zero, List.set_cons_succ]
        refine held_take (i := 22) (d := 111) (v := ?_) rfl (by kernel_rfl) (by kernel_rfl) (by kernel_rfl) rfl (fun _ _ _ h => h) rfl hH (fun w' hS => ?_) ?_
        rotate_left
        · go_simp
          first | done | with_reducible rfl
        simp only [List.set_cons_zero, List.set_cons_succ]
        refine held_take (i := 23) (d := 112) (v := ?_) rfl (by kernel_rfl) (by kernel_rfl) (by kernel_rfl) rfl (fun _ _ _ h => h) rfl hH (fun w' hS => ?_) ?_
        rotate_left
        · go_simp
          first | done | with_reducible rfl
        simp only [List.set_cons_zero, List.set_cons_succ]
        refine held_take (i := 24) (d := 113) (v := ?_) rfl (by kernel_rfl) (by kernel_rfl) (by kernel_rfl) rfl (fun _ _ _ h => h) rfl hH (fun w' hS => ?_) ?_
        rotate_left
        · go_simp
          first | done | with_reducible rfl
        simp only [List.set_cons_zero, List.set_cons_succ]
        refine held_take (i := 25) (d := 114) (v := ?_) rfl (by kernel_rfl) (by kernel_rfl) (by kernel_rfl) rfl (fun _ _ _ h => h) rfl hH (fun w' hS => ?_) ?_
        rotate_left
        · have h0 := hsl w' (p : Int) (k3 : Int) rfl rfl; go_simp; with_reducible rfl
        simp only [List.set_cons_zero, List.set_cons_succ]
        refine held_take (i := 26) (d := 115) (v := ?_) rfl (by kernel_rfl) (by kernel_rfl) (by kernel_rfl) rfl (fun _ _ _ h => h) rfl hH (fun w' hS => ?_) ?_
        rotate_left
        · have h0 := run_str hS.2 _ (cap - p) hcl; go_simp; with_reducible rfl
        simp only [List.set_cons_zero, List.set_cons_succ]
        refine held_only (i := 20) rfl (by kernel_rfl) rfl (fun K hK => ?_)
        go_simp
        refine (cU _).mono ?_
        rintro e w5 ⟨rfl, A5, b5⟩
        change AtL w5 (some ⟨w4.heap.size, 0, none⟩) _ at A5
        have b6 := hH.1.trans (b5.mono hH.1.size)
        have h6 := hH.2.keeps b5
        clear hH
        refine hK.out _ _ ⟨b6, h6⟩ (fun hH => ?_)
        clear hK K
        refine held_only (i := 21) rfl (by kernel_rfl) rfl (fun K hK => ?_)
        go_simp
        have h0 := run_str A5 J (t.length + 10) hJ
        go_simp
        refine hK.out _ _ ⟨b6, h6⟩ (fun hH => ?_)
        clear hK K
        refine held_take (i := 27) (d := 116) (v := ?_) rfl (by kernel_rfl) (by kernel_rfl) (by kernel_rfl) rfl (fun _ _ _ h => h) rfl hH (fun w' hS => ?_) ?_
        rotate_left
        · go_simp
          first | done | with_reducible rfl
        simp only [List.set_cons_zero, List.set_cons_succ]
        refine held_take (i := 28) (d := 117) (v := ?_) rfl (by kernel_rfl) (by kernel_rfl) (by kernel_rfl) rfl (fun _ _ _ h => h) rfl hH (fun w' hS => ?_) ?_
        rotate_left
        · go_simp
          first | done | with_reducible rfl
        simp only [List.set_cons_zero, List.set_cons_succ]
        refine held_take (i := 29) (d := 118) (v := ?_) rfl (by kernel_rfl) (by kernel_rfl) (by kernel_rfl) rfl (fun _ _ _ h => h) rfl hH (fun w' hS => ?_) ?_
        rotate_left
        · go_simp
          first | done | with_reducible rfl
        simp only [List.set_cons_zero, List.set_cons_succ]
        refine held_take (i := 30) (d := 119) (v := ?_) rfl (by kernel_rfl) (by kernel_rfl) (by kernel_rfl) rfl (fun _ _ _ h => h) rfl hH (fun w' hS => ?_) ?_
        rotate_left
        · go_simp
          first | done | with_reducible rfl
        simp only [List.set_cons_zero, List.set_cons_succ]
        refine held_take (i := 31) (d := 4) (v := ?_) rfl (by kernel_rfl) (by kernel_rfl) (by kernel_rfl) rfl (fun _ _ _ h => h) rfl hH (fun w' hS => ?_) ?_
        rotate_left
        · go_simp
          first | done | with_reducible rfl
        simp only [List.set_cons_zero, List.set_cons_succ]
        refine wpAnyH_done (by kernel_rfl) ?_ _
        refine noPanic_of ?_
        go_wp2_with fail
        go_ret
        exact ⟨rfl, b6⟩
end Go.Proofs.Ytegniedbiegcpaa
