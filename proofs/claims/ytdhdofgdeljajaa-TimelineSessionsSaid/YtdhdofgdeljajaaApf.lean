/-
  Facts on sessions, place by place.
-/
import Derived.Test.YtdhdofgdeljajaaExa
namespace Go.Proofs.Ytdhdofgdeljajaa

theorem ses_len (g e : Int) (l : List Int) : (ses g e l).length ≤ l.length := by
  unfold ses
  split
  · have h1 := mrg_len g ((srt (l.filter fun t => decide (0 ≤ t) && decide (t ≤ e))).map mo)
    rw [List.length_map, (srt_perm _).length_eq] at h1
    exact Nat.le_trans h1 (List.length_filter_le _ _)
  · simp
theorem ses_none {g : Int} (h : ¬ (1 ≤ g ∧ g ≤ 1099511627776)) (e : Int) (l : List Int) : ses g e l = [] := by
  unfold ses
  rw [if_neg h]
theorem far_gt {g : Int} {M : List I2} (h : Far g M) {i : Nat} (hi : i + 1 < M.length) : g < (gt M (i + 1)).1 - (gt M i).2 := by
  rw [gt_eq hi, gt_eq (by omega)]
  exact (List.pairwise_iff_getElem.1 h) i (i + 1) (by omega) hi (by omega)
/-- How many of the first i ones hold t. -/
def cntI (M : List I2) (t : Int) (i : Nat) : Nat := (M.take i).countP fun m => decide (m.1 ≤ t) && decide (t ≤ m.2)
theorem cntI_succ {M : List I2} {t : Int} {i : Nat} (hi : i < M.length) : cntI M t (i + 1) = cntI M t i + (if decide ((gt M i).1 ≤ t) && decide (t ≤ (gt M i).2) then 1 else 0) := by
  unfold cntI
  rw [take_gt hi, List.countP_append, List.countP_cons, List.countP_nil, Nat.zero_add]
theorem cntI_le (M : List I2) (t : Int) (i : Nat) : cntI M t i ≤ M.length := by
  unfold cntI
  have h1 := List.countP_le_length (p := fun m : I2 => decide (m.1 ≤ t) && decide (t ≤ m.2)) (l := M.take i)
  have h2 := List.length_take_le i M
  rw [List.length_take] at h1
  omega
theorem cntI_all {g : Int} {X : List Int} (hg : 1 ≤ g ∧ g ≤ 1099511627776) {t : Int} (ht : t ∈ X) : cntI (ses g 1099511627776 X) t (ses g 1099511627776 X).length = if decide (0 ≤ t) && decide (t ≤ 1099511627776) then 1 else 0 := by
  unfold cntI
  rw [List.take_length]
  by_cases h : 0 ≤ t ∧ t ≤ 1099511627776
  · have e : (decide (0 ≤ t) && decide (t ≤ 1099511627776)) = true := by simpa using h
    rw [e, if_pos rfl]
    exact far_count g (by omega) _ (fun m hm => (ses_ok g _ X (Int.le_refl _) m hm).2.1) (ses_far g _ X) t (ses_each _ X hg ht h.1 h.2)
  · have e : (decide (0 ≤ t) && decide (t ≤ 1099511627776)) = false := by
      rw [Bool.eq_false_iff]
      intro h2
      exact h (by simpa using h2)
    rw [e, if_neg (by decide)]
    exact no_count (ses_ok g _ X (Int.le_refl _)) h
/-- One of the first k ones contains m. -/
def anyI (V : List I2) (m : I2) (k : Nat) : Bool := (V.take k).any fun M => (decide (M.1 ≤ m.1) && decide (m.1 ≤ M.2)) && (decide (M.1 ≤ m.2) && decide (m.2 ≤ M.2))
theorem anyI_succ {V : List I2} {m : I2} {k : Nat} (hk : k < V.length) : anyI V m (k + 1) = (anyI V m k || ((decide ((gt V k).1 ≤ m.1) && decide (m.1 ≤ (gt V k).2)) && (decide ((gt V k).1 ≤ m.2) && decide (m.2 ≤ (gt V k).2)))) := by
  unfold anyI
  rw [take_gt hk, List.any_append]
  simp
theorem anyI_all {g h : Int} {X : List Int} (h1 : 1 ≤ g) (hgh : g ≤ h) (h2 : h ≤ 1099511627776) {m : I2} (hm : m ∈ ses g 1099511627776 X) : anyI (ses h 1099511627776 X) m (ses h 1099511627776 X).length = true := by
  unfold anyI
  rw [List.take_length, List.any_eq_true]
  obtain ⟨M, hM, e1, e2⟩ := (ses_wide 1099511627776 X h1 hgh h2).1 m hm
  have ho := ses_ok g _ X (Int.le_refl _) m hm
  obtain ⟨p1, p2, p3⟩ := ho
  refine ⟨M, hM, ?_⟩
  simp only [Bool.and_eq_true, decide_eq_true_eq]
  omega
end Go.Proofs.Ytdhdofgdeljajaa
