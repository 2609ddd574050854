/-
  The reference's rule of one node and that of package checker.
-/
import Derived.Test.YtbkpjhffmaldmaaGreatDoorZRno
import Derived.Test.YtbkpjhffmaldmaaGreatDoorZRsx
namespace Go.Proofs.YtbkpjhffmaldmaaGreatDoor.ch
open Go.RowKit dec

theorem rnam_is (h : Hd) : rnam h = namH h := by
  unfold rnam namH
  rw [fl_k (h := h) (g := nmG h) rfl]
  rfl
theorem ropr_is (h : Hd) : ropr h = same h { h0 with op := h.op } := by
  unfold ropr
  rw [fl_k (h := h) (g := opG h) rfl]
  rfl
theorem una_is (op : ByteArray) : (unaL.any fun t => decide (t = op)) = unaO op := by
  unfold unaL unaO
  simp only [List.any_cons, List.any_nil, Bool.or_false, eq_comm (b := op)]
theorem bin_is (op : ByteArray) : (opsL.any fun t => decide (t = op)) = binO op := by
  unfold opsL binO
  simp only [List.any_cons, List.any_nil, Bool.or_false, eq_comm (b := op)]
theorem par_is (op : ByteArray) (p : Int) : ((aggL.any fun t => decide (t = op)) && (decide (p ≤ topR op) && decide (min (topR op) 1 ≤ p))) = parH op p := by
  by_cases h1 : op = ⟨#[113, 117, 97, 110, 116, 105, 108, 101]⟩
  · subst h1
    rw [show topR ⟨#[113, 117, 97, 110, 116, 105, 108, 101]⟩ = 1000 from by decide, show (aggL.any fun t => decide (t = (⟨#[113, 117, 97, 110, 116, 105, 108, 101]⟩ : ByteArray))) = true from by decide, show parH ⟨#[113, 117, 97, 110, 116, 105, 108, 101]⟩ p = (decide (1 ≤ p) && decide (p ≤ 1000)) from rfl]
    show (true && (decide (p ≤ 1000) && decide (1 ≤ p))) = _
    rw [Bool.true_and, Bool.and_comm]
  · by_cases h2 : op = ⟨#[100, 101, 99, 97, 121]⟩
    · subst h2
      rw [show topR ⟨#[100, 101, 99, 97, 121]⟩ = 1073741824 from by decide, show (aggL.any fun t => decide (t = (⟨#[100, 101, 99, 97, 121]⟩ : ByteArray))) = true from by decide, show parH ⟨#[100, 101, 99, 97, 121]⟩ p = (decide (1 ≤ p) && decide (p ≤ 1073741824)) from rfl]
      show (true && (decide (p ≤ 1073741824) && decide (1 ≤ p))) = _
      rw [Bool.true_and, Bool.and_comm]
    · have ht : topR op = 0 := by unfold topR; rw [if_neg h2, if_neg h1]
      rw [ht]
      have e : (decide (p ≤ 0) && decide (min (0 : Int) 1 ≤ p)) = decide (p = 0) := by
        rw [show min (0 : Int) 1 = 0 from rfl, ← Bool.decide_and]
        exact decide_eq_decide.2 ⟨fun h => by omega, fun h => by omega⟩
      rw [e]
      unfold parH
      by_cases h3 : op = ⟨#[99, 111, 117, 110, 116]⟩ ∨ op = ⟨#[115, 117, 109]⟩ ∨ op = ⟨#[109, 101, 97, 110]⟩ ∨ op = ⟨#[109, 105, 110]⟩ ∨ op = ⟨#[109, 97, 120]⟩ ∨ op = ⟨#[102, 105, 114, 115, 116]⟩ ∨ op = ⟨#[108, 97, 115, 116]⟩ ∨ op = ⟨#[100, 105, 115, 116, 105, 110, 99, 116]⟩
      · rw [if_pos h3]
        have : (aggL.any fun t => decide (t = op)) = true := by
          rcases h3 with h | h | h | h | h | h | h | h <;> subst h <;> decide
        rw [this, Bool.true_and]
      · rw [if_neg h3, if_neg h1, if_neg h2]
        have : (aggL.any fun t => decide (t = op)) = false := by
          rw [List.any_eq_false]
          intro t hm h4
          have h5 := of_decide_eq_true h4
          subst h5
          unfold aggL at hm
          simp only [List.mem_cons, List.not_mem_nil, or_false] at hm
          have h3 := not_or.1 h3
          have h6 := not_or.1 h3.2
          have h7 := not_or.1 h6.2
          have h8 := not_or.1 h7.2
          have h9 := not_or.1 h8.2
          have ha := not_or.1 h9.2
          have hb := not_or.1 ha.2
          rcases hm with h | h | h | h | h | h | h | h | h | h
          · exact h3.1 h
          · exact h6.1 h
          · exact h7.1 h
          · exact h8.1 h
          · exact h9.1 h
          · exact ha.1 h
          · exact hb.1 h
          · exact hb.2 h
          · exact h1 h
          · exact h2 h
        rw [this, Bool.false_and]
theorem rag_is {h : Hd} (e : h.k = 5) : ragR h = aggH h := by
  unfold ragR ragG aggH
  rw [fl_k (g := agwH h) e, ← par_is]
  show _ = (name h.tb && _)
  generalize (aggL.any fun t => decide (t = h.op)) = a
  generalize name h.tb = b
  generalize winH h.wk h.ws = c
  generalize decide (h.pa ≤ topR h.op) = d
  generalize decide (min (topR h.op) 1 ≤ h.pa) = f
  show ((a && (b && (c && (d && f)))) && same h { h0 with op := h.op, tb := h.tb, pa := h.pa, wk := h.wk, ws := h.ws }) = _
  generalize same h { h0 with op := h.op, tb := h.tb, pa := h.pa, wk := h.wk, ws := h.ws } = s
  cases a <;> cases b <;> cases c <;> cases d <;> cases f <;> rfl
def cntR (h : Hd) (b : Bool) : Bool := !decide (h.k = 5) || (!decide (h.op = ⟨#[99, 111, 117, 110, 116]⟩) || b)
theorem emp_is (h : Hd) : (ropr h && decide (h.op = .empty)) = same h h0 := by
  rw [ropr_is]
  unfold same
  show ((decide (h.op = h.op) && _) && decide (h.op = .empty)) = (decide (h.op = .empty) && _)
  rw [decide_eq_true rfl, Bool.true_and, Bool.and_comm]
theorem nod_is (i : Bool) (h : Hd) (n : Nat) (g : Hd) : (rnoR i h && (decide ((n : Int) = arN h.k) && cntR h (truH g))) = nodE i h n g := by
  have d0 : decide ((n : Int) = 0) = decide (n = 0) := decide_eq_decide.2 (by omega)
  have d1 : decide ((n : Int) = 1) = decide (n = 1) := decide_eq_decide.2 (by omega)
  have d2 : decide ((n : Int) = 2) = decide (n = 2) := decide_eq_decide.2 (by omega)
  have d3 : decide ((n : Int) = 3) = decide (n = 3) := decide_eq_decide.2 (by omega)
  have hc : h.k ≠ 5 → cntR h (truH g) = true := fun e => by unfold cntR; rw [decide_eq_false e]; rfl
  unfold nodE rnoR arN
  by_cases k1 : h.k = 1
  · rw [if_pos k1, if_pos k1, hc (by omega), rli_is k1, if_neg (by omega), if_neg (by omega), if_neg (by omega), if_neg (by omega), if_neg (by omega), if_neg (by omega), d0, Bool.and_true]
  rw [if_neg k1, if_neg k1]
  by_cases k2 : h.k = 2
  · rw [if_pos k2, if_pos k2, hc (by omega), rnam_is, if_neg (by omega), if_neg (by omega), if_neg (by omega), if_neg (by omega), if_neg (by omega), if_neg (by omega), d0, Bool.and_true, Bool.and_assoc]
  rw [if_neg k2, if_neg k2]
  by_cases k3 : h.k = 3
  · rw [if_pos k3, if_pos k3, hc (by omega), rnam_is, if_neg (by omega), if_neg (by omega), if_neg (by omega), if_neg (by omega), if_neg (by omega), if_neg (by omega), d0, Bool.and_true, Bool.and_assoc]
  rw [if_neg k3, if_neg k3]
  by_cases k4 : h.k = 4
  · rw [if_pos k4, if_pos k4, hc (by omega), rnam_is, if_pos k4, d1, Bool.and_true, Bool.and_assoc]
  rw [if_neg k4, if_neg k4, if_neg k4]
  by_cases k5 : h.k = 5
  · rw [if_pos k5, if_pos k5, if_pos k5, rag_is k5, d2]
    unfold cntR
    rw [decide_eq_true k5, Bool.and_assoc]
    rfl
  rw [if_neg k5, if_neg k5, if_neg k5, hc k5]
  by_cases k6 : h.k = 6
  · rw [if_pos k6, if_pos k6, if_pos k6, una_is, ropr_is, d1, Bool.and_true]
    generalize unaO h.op = a
    generalize same h { h0 with op := h.op } = b
    cases a <;> cases b <;> rfl
  rw [if_neg k6, if_neg k6, if_neg k6]
  by_cases k7 : h.k = 7
  · rw [if_pos k7, if_pos k7, if_pos k7, bin_is, ropr_is, d2, Bool.and_true]
    generalize binO h.op = a
    generalize same h { h0 with op := h.op } = b
    cases a <;> cases b <;> rfl
  rw [if_neg k7, if_neg k7, if_neg k7]
  by_cases k8 : h.k = 8
  · rw [if_pos k8, if_pos k8, if_pos k8, emp_is, d3, Bool.and_true]
  rw [if_neg k8, if_neg k8, if_neg k8]
  by_cases k9 : h.k = 9
  · rw [if_pos k9, if_pos k9, if_pos k9, emp_is, d2, Bool.and_true]
  rw [if_neg k9, if_neg k9, if_neg k9]
  rfl
theorem tru_is {i : Bool} {g k : Hd} {n : Nat} (hf : nodE i g n k = true) : rsxR g n = truH g := by
  unfold rsxR flR truH
  by_cases hk : g.k = 1
  · unfold nodE at hf
    rw [if_pos hk] at hf
    simp only [litH, Bool.and_eq_true, decide_eq_true_eq, same] at hf
    obtain ⟨⟨_, _, ht, ho, _, htb, _, _, hpa, hwk, hws⟩, rfl⟩ := hf
    rw [show decide (g.k = truX.h.k) = true from decide_eq_true hk, decide_eq_true hk, Bool.true_and, Bool.true_and, decide_eq_true rfl, Bool.and_true]
    unfold same
    by_cases hv : g.vk = 1
    · have hnm : g.nm = .empty := by
        unfold tyE at ht
        dsimp only at ht
        by_cases e : g.nm = .empty
        · exact e
        · rw [if_neg (by omega), if_neg (by omega), if_pos ⟨by omega, e⟩] at ht
          cases ht
      have hun : g.un = [] := by
        unfold tyE num at ht
        dsimp only at ht
        by_cases e : g.un = []
        · exact e
        · have : 0 < g.un.length := List.length_pos_iff.2 e
          rw [if_neg (by omega), if_neg (by omega), if_neg (by rintro ⟨_, h⟩; exact h hnm), if_pos ⟨by rw [hv]; rfl, this⟩] at ht
          cases ht
      rw [ho, hnm, htb, hun, hpa, hwk, hws]
      show (true && (true && (true && ((decide (g.vk = 1) && (decide (g.vn = 1) && decide (g.vs = .empty))) && (true && (true && (true && true))))))) = _
      simp only [Bool.true_and, Bool.and_true]
    · rw [show decide (g.vk = truX.h.vk) = false from decide_eq_false hv, decide_eq_false hv]
      simp only [Bool.false_and, Bool.and_false]
  · rw [show decide (g.k = truX.h.k) = false from decide_eq_false hk, decide_eq_false hk]
    rfl
end Go.Proofs.YtbkpjhffmaldmaaGreatDoor.ch
