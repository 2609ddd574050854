/-
  Intervals, sessions and parts as plain data: facts of arithmetic; nothing of the program.
-/
import Derived.Test.YtdhdofgdeljajaaProg
namespace Go.Proofs.Ytdhdofgdeljajaa

abbrev I2 := Int × Int
def okI (x : I2) : Bool := decide (0 ≤ x.1) && (decide (x.1 ≤ x.2) && decide (x.2 ≤ 1099511627776))
theorem okI_iff (x : I2) : okI x = true ↔ 0 ≤ x.1 ∧ x.1 ≤ x.2 ∧ x.2 ≤ 1099511627776 := by simp [okI]
def Ok (x : I2) : Prop := 0 ≤ x.1 ∧ x.1 ≤ x.2 ∧ x.2 ≤ 1099511627776
/-- The tick t lies in x. -/
def In (x : I2) (t : Int) : Prop := x.1 ≤ t ∧ t ≤ x.2

/-- What comes of a run and the elements behind it. -/
def mg (g : Int) : I2 → List I2 → List I2
  | r, [] => [r]
  | r, x :: l => if x.1 - r.2 ≤ g then mg g (r.1, max r.2 x.2) l else r :: mg g x l
def mrg (g : Int) : List I2 → List I2
  | [] => []
  | x :: l => mg g x l
/-- In order of where they begin. -/
def Asc (l : List I2) : Prop := l.Pairwise fun a b => a.1 ≤ b.1
/-- Far apart. -/
def Far (g : Int) (l : List I2) : Prop := l.Pairwise fun a b => g < b.1 - a.2

theorem mg_nil (g : Int) (r : I2) : mg g r [] = [r] := rfl
theorem mg_join {g : Int} {r x : I2} {l : List I2} (h : x.1 - r.2 ≤ g) : mg g r (x :: l) = mg g (r.1, max r.2 x.2) l := by rw [mg, if_pos h]
theorem mg_part {g : Int} {r x : I2} {l : List I2} (h : ¬ x.1 - r.2 ≤ g) : mg g r (x :: l) = r :: mg g x l := by rw [mg, if_neg h]
theorem mg_ne (g : Int) : ∀ (l : List I2) (r : I2), mg g r l ≠ []
  | [], r => by simp [mg]
  | x :: l, r => by
    unfold mg
    split
    · exact mg_ne g l _
    · simp
theorem mg_len (g : Int) : ∀ (l : List I2) (r : I2), (mg g r l).length ≤ l.length + 1
  | [], r => by simp [mg]
  | x :: l, r => by
    unfold mg
    split
    · have := mg_len g l (r.1, max r.2 x.2)
      simp only [List.length_cons]
      omega
    · have := mg_len g l x
      simp only [List.length_cons]
      omega
theorem mrg_len (g : Int) (l : List I2) : (mrg g l).length ≤ l.length := by
  cases l with
  | nil => simp [mrg]
  | cons x l => exact mg_len g l x
theorem Asc.tail {x : I2} {l : List I2} (h : Asc (x :: l)) : Asc l := (List.pairwise_cons.1 h).2
theorem Asc.head {x : I2} {l : List I2} (h : Asc (x :: l)) : ∀ y ∈ l, x.1 ≤ y.1 := (List.pairwise_cons.1 h).1

/-- What begins no earlier than the run. -/
theorem mg_from (g : Int) : ∀ (l : List I2) (r : I2), (∀ y ∈ l, r.1 ≤ y.1) → ∀ m ∈ mg g r l, r.1 ≤ m.1
  | [], r, _, m, hm => by simp [mg] at hm; subst hm; exact Int.le_refl _
  | x :: l, r, h, m, hm => by
    unfold mg at hm
    split at hm
    · exact mg_from g l (r.1, max r.2 x.2) (fun y hy => h y (by simp [hy])) m hm
    · rcases List.mem_cons.1 hm with rfl | hm
      · exact Int.le_refl _
      · by_cases ha : ∀ y ∈ l, x.1 ≤ y.1
        · have := mg_from g l x ha m hm
          have := h x (by simp)
          omega
        · exact mg_from_any g l x r.1 (h x (by simp)) (fun y hy => h y (by simp [hy])) m hm
where
  mg_from_any (g : Int) : ∀ (l : List I2) (r : I2) (k : Int), k ≤ r.1 → (∀ y ∈ l, k ≤ y.1) → ∀ m ∈ mg g r l, k ≤ m.1
    | [], r, k, hr, _, m, hm => by simp [mg] at hm; subst hm; exact hr
    | x :: l, r, k, hr, h, m, hm => by
      unfold mg at hm
      split at hm
      · exact mg_from_any g l (r.1, max r.2 x.2) k hr (fun y hy => h y (by simp [hy])) m hm
      · rcases List.mem_cons.1 hm with rfl | hm
        · exact hr
        · exact mg_from_any g l x k (h x (by simp)) (fun y hy => h y (by simp [hy])) m hm
/-- What ends no later than all. -/
theorem mg_to (g k : Int) : ∀ (l : List I2) (r : I2), r.2 ≤ k → (∀ y ∈ l, y.2 ≤ k) → ∀ m ∈ mg g r l, m.2 ≤ k
  | [], r, hr, _, m, hm => by simp [mg] at hm; subst hm; exact hr
  | x :: l, r, hr, h, m, hm => by
    have hx := h x (by simp)
    unfold mg at hm
    split at hm
    · exact mg_to g k l (r.1, max r.2 x.2) (by show max r.2 x.2 ≤ k; omega) (fun y hy => h y (by simp [hy])) m hm
    · rcases List.mem_cons.1 hm with rfl | hm
      · exact hr
      · exact mg_to g k l x hx (fun y hy => h y (by simp [hy])) m hm
theorem mg_ok (g : Int) : ∀ (l : List I2) (r : I2), Ok r → (∀ y ∈ l, Ok y) → ∀ m ∈ mg g r l, Ok m
  | [], r, hr, _, m, hm => by simp [mg] at hm; subst hm; exact hr
  | x :: l, r, hr, h, m, hm => by
    have hx := h x (by simp)
    unfold mg at hm
    split at hm
    · refine mg_ok g l (r.1, max r.2 x.2) ?_ (fun y hy => h y (by simp [hy])) m hm
      obtain ⟨a, b, c⟩ := hr
      obtain ⟨a', b', c'⟩ := hx
      refine ⟨a, ?_, ?_⟩ <;> simp only <;> omega
    · rcases List.mem_cons.1 hm with rfl | hm
      · exact hr
      · exact mg_ok g l x hx (fun y hy => h y (by simp [hy])) m hm
theorem mrg_ok (g : Int) (l : List I2) (h : ∀ y ∈ l, Ok y) : ∀ m ∈ mrg g l, Ok m := by
  cases l with
  | nil => intro m hm; simp [mrg] at hm
  | cons x l => exact mg_ok g l x (h x (by simp)) (fun y hy => h y (by simp [hy]))
theorem mg_far (g : Int) : ∀ (l : List I2) (r : I2), Asc (r :: l) → Far g (mg g r l)
  | [], r, _ => by simp [mg, Far]
  | x :: l, r, h => by
    have h1 := h.head
    have h2 := h.tail
    unfold mg
    split
    · refine mg_far g l (r.1, max r.2 x.2) (List.pairwise_cons.2 ⟨fun y hy => h1 y (by simp [hy]), h2.tail⟩)
    · rename_i hn
      refine List.pairwise_cons.2 ⟨fun m hm => ?_, mg_far g l x h2⟩
      have := mg_from g l x h2.head m hm
      omega
theorem mrg_far (g : Int) (l : List I2) (h : Asc l) : Far g (mrg g l) := by
  cases l with
  | nil => simp [mrg, Far]
  | cons x l => exact mg_far g l x h

/-- The run itself is in the first one. -/
theorem mg_has (g : Int) : ∀ (l : List I2) (r : I2), ∃ m ∈ mg g r l, m.1 = r.1 ∧ r.2 ≤ m.2
  | [], r => ⟨r, by simp [mg], rfl, Int.le_refl _⟩
  | x :: l, r => by
    unfold mg
    split
    · obtain ⟨m, hm, h1, h2⟩ := mg_has g l (r.1, max r.2 x.2)
      refine ⟨m, hm, h1, ?_⟩
      have : r.2 ≤ max r.2 x.2 := by omega
      exact Int.le_trans this h2
    · exact ⟨r, by simp, rfl, Int.le_refl _⟩
/-- Each element is in one. -/
theorem mg_each (g : Int) : ∀ (l : List I2) (r : I2), Asc (r :: l) → ∀ x ∈ l, ∃ m ∈ mg g r l, m.1 ≤ x.1 ∧ x.2 ≤ m.2
  | [], _, _, x, hx => by simp at hx
  | y :: l, r, h, x, hx => by
    have h1 := h.head
    have h2 := h.tail
    have hy := h1 y (by simp)
    unfold mg
    split
    · rcases List.mem_cons.1 hx with rfl | hx
      · obtain ⟨m, hm, e1, e2⟩ := mg_has g l (r.1, max r.2 x.2)
        refine ⟨m, hm, ?_, ?_⟩
        · rw [e1]; exact hy
        · have : x.2 ≤ max r.2 x.2 := by omega
          exact Int.le_trans this e2
      · exact mg_each g l (r.1, max r.2 y.2) (List.pairwise_cons.2 ⟨fun z hz => h1 z (by simp [hz]), h2.tail⟩) x hx
    · rcases List.mem_cons.1 hx with rfl | hx
      · obtain ⟨m, hm, e1, e2⟩ := mg_has g l x
        exact ⟨m, by simp [hm], by rw [e1]; exact Int.le_refl _, e2⟩
      · obtain ⟨m, hm, e⟩ := mg_each g l y h2 x hx
        exact ⟨m, by simp [hm], e⟩
theorem mrg_each (g : Int) (l : List I2) (h : Asc l) : ∀ x ∈ l, ∃ m ∈ mrg g l, m.1 ≤ x.1 ∧ x.2 ≤ m.2 := by
  cases l with
  | nil => intro x hx; simp at hx
  | cons y l =>
    intro x hx
    rcases List.mem_cons.1 hx with rfl | hx
    · obtain ⟨m, hm, e1, e2⟩ := mg_has g l x
      exact ⟨m, hm, by rw [e1]; exact Int.le_refl _, e2⟩
    · exact mg_each g l y h x hx
/-- Ticks that come of the elements. -/
theorem mg_only : ∀ (l : List I2) (r : I2), Asc (r :: l) → ∀ m ∈ mg 1 r l, ∀ t, In m t → In r t ∨ ∃ x ∈ l, In x t
  | [], r, _, m, hm, t, ht => by simp [mg] at hm; subst hm; exact .inl ht
  | x :: l, r, h, m, hm, t, ht => by
    have h1 := h.head
    have h2 := h.tail
    have hx := h1 x (by simp)
    unfold mg at hm
    split at hm
    · rename_i hj
      rcases mg_only l (r.1, max r.2 x.2) (List.pairwise_cons.2 ⟨fun z hz => h1 z (by simp [hz]), h2.tail⟩) m hm t ht with ⟨a, b⟩ | ⟨z, hz, hi⟩
      · simp only at a b
        by_cases hr : t ≤ r.2
        · exact .inl ⟨a, hr⟩
        · exact .inr ⟨x, by simp, by omega, by omega⟩
      · exact .inr ⟨z, by simp [hz], hi⟩
    · rcases List.mem_cons.1 hm with rfl | hm
      · exact .inl ht
      · rcases mg_only l x h2 m hm t ht with hi | ⟨z, hz, hi⟩
        · exact .inr ⟨x, by simp, hi⟩
        · exact .inr ⟨z, by simp [hz], hi⟩
theorem mrg_ticks (l : List I2) (h : Asc l) (t : Int) : (∃ m ∈ mrg 1 l, In m t) ↔ ∃ x ∈ l, In x t := by
  constructor
  · rintro ⟨m, hm, ht⟩
    cases l with
    | nil => simp [mrg] at hm
    | cons x l =>
      rcases mg_only l x h m hm t ht with hi | ⟨z, hz, hi⟩
      · exact ⟨x, by simp, hi⟩
      · exact ⟨z, by simp [hz], hi⟩
  · rintro ⟨x, hx, h1, h2⟩
    obtain ⟨m, hm, e1, e2⟩ := mrg_each 1 l h x hx
    exact ⟨m, hm, by omega, by omega⟩

/-- What Union of l is. -/
structure Un (l u : List I2) : Prop where
  ok : ∀ m ∈ u, Ok m
  far : Far 1 u
  ticks : ∀ t, (∃ m ∈ u, In m t) ↔ ∃ x ∈ l, okI x = true ∧ In x t
theorem far_eq : ∀ (u v : List I2), (∀ m ∈ u, m.1 ≤ m.2) → (∀ m ∈ v, m.1 ≤ m.2) → Far 1 u → Far 1 v → (∀ t, (∃ m ∈ u, In m t) ↔ ∃ m ∈ v, In m t) → u = v
  | [], [], _, _, _, _, _ => rfl
  | a :: u, [], hu, _, _, _, h => by
    have := (h a.1).1 ⟨a, by simp, Int.le_refl _, hu a (by simp)⟩
    obtain ⟨m, hm, _⟩ := this
    simp at hm
  | [], b :: v, _, hv, _, _, h => by
    have := (h b.1).2 ⟨b, by simp, Int.le_refl _, hv b (by simp)⟩
    obtain ⟨m, hm, _⟩ := this
    simp at hm
  | a :: u, b :: v, hu, hv, fu, fv, h => by
    have ha := hu a (by simp)
    have hb := hv b (by simp)
    have fu1 := (List.pairwise_cons.1 fu).1
    have fv1 := (List.pairwise_cons.1 fv).1
    have e1 : a.1 = b.1 := by
      obtain ⟨m, hm, i1, i2⟩ := (h a.1).1 ⟨a, by simp, Int.le_refl _, ha⟩
      obtain ⟨n, hn, j1, j2⟩ := (h b.1).2 ⟨b, by simp, Int.le_refl _, hb⟩
      have k1 : b.1 ≤ m.1 := by
        rcases List.mem_cons.1 hm with rfl | hm
        · exact Int.le_refl _
        · have := fv1 m hm
          omega
      have k2 : a.1 ≤ n.1 := by
        rcases List.mem_cons.1 hn with rfl | hn
        · exact Int.le_refl _
        · have := fu1 n hn
          omega
      omega
    have e2 : a.2 = b.2 := by
      by_cases c1 : a.2 < b.2
      · obtain ⟨m, hm, i1, i2⟩ := (h (a.2 + 1)).2 ⟨b, by simp, by omega, by omega⟩
        rcases List.mem_cons.1 hm with rfl | hm
        · omega
        · have := fu1 m hm
          omega
      · by_cases c2 : b.2 < a.2
        · obtain ⟨m, hm, i1, i2⟩ := (h (b.2 + 1)).1 ⟨a, by simp, by omega, by omega⟩
          rcases List.mem_cons.1 hm with rfl | hm
          · omega
          · have := fv1 m hm
            omega
        · omega
    obtain rfl : a = b := Prod.ext e1 e2
    congr 1
    refine far_eq u v (fun m hm => hu m (by simp [hm])) (fun m hm => hv m (by simp [hm])) (List.pairwise_cons.1 fu).2 (List.pairwise_cons.1 fv).2 fun t => ?_
    constructor
    · rintro ⟨m, hm, i1, i2⟩
      have k := fu1 m hm
      obtain ⟨n, hn, j⟩ := (h t).1 ⟨m, by simp [hm], i1, i2⟩
      rcases List.mem_cons.1 hn with rfl | hn
      · have := j.2
        omega
      · exact ⟨n, hn, j⟩
    · rintro ⟨m, hm, i1, i2⟩
      have k := fv1 m hm
      obtain ⟨n, hn, j⟩ := (h t).2 ⟨m, by simp [hm], i1, i2⟩
      rcases List.mem_cons.1 hn with rfl | hn
      · have := j.2
        omega
      · exact ⟨n, hn, j⟩
theorem Un.eq {l u v : List I2} (hu : Un l u) (hv : Un l v) : u = v :=
  far_eq u v (fun m hm => (hu.ok m hm).2.1) (fun m hm => (hv.ok m hm).2.1) hu.far hv.far (fun t => (hu.ticks t).trans (hv.ticks t).symm)
theorem Un.self {l u v : List I2} (hu : Un l u) (hv : Un u v) : v = u := by
  refine Un.eq hv ⟨hu.ok, hu.far, fun t => ⟨fun ⟨m, hm, i⟩ => ⟨m, hm, (okI_iff m).2 (hu.ok m hm), i⟩, fun ⟨m, hm, _, i⟩ => ⟨m, hm, i⟩⟩⟩
/-- The valid ones, in whatever order by where they begin, joined. -/
theorem un_mrg {l s : List I2} (hp : s.Perm (l.filter okI)) (ha : Asc s) : Un l (mrg 1 s) := by
  have hok : ∀ y ∈ s, Ok y := fun y hy => (okI_iff y).1 (List.mem_filter.1 (hp.mem_iff.1 hy)).2
  refine ⟨mrg_ok 1 s hok, mrg_far 1 s ha, fun t => (mrg_ticks s ha t).trans ⟨?_, ?_⟩⟩
  · rintro ⟨x, hx, i⟩
    have := List.mem_filter.1 (hp.mem_iff.1 hx)
    exact ⟨x, this.1, this.2, i⟩
  · rintro ⟨x, hx, h, i⟩
    exact ⟨x, hp.mem_iff.2 (List.mem_filter.2 ⟨hx, h⟩), i⟩

/-! ### Sessions -/
/-- Sorted integers. -/
def Up (l : List Int) : Prop := l.Pairwise (· ≤ ·)
theorem up_eq : ∀ (l r : List Int), Up l → Up r → l.Perm r → l = r
  | [], r, _, _, h => h.nil_eq
  | a :: l, [], _, _, h => absurd h.symm (by simp)
  | a :: l, b :: r, hl, hr, h => by
    have e : a = b := by
      have h1 : a ∈ b :: r := h.mem_iff.1 (by simp)
      have h2 : b ∈ a :: l := h.mem_iff.2 (by simp)
      rcases List.mem_cons.1 h1 with e | h1
      · exact e
      rcases List.mem_cons.1 h2 with e | h2
      · exact e.symm
      have := (List.pairwise_cons.1 hl).1 b h2
      have := (List.pairwise_cons.1 hr).1 a h1
      omega
    subst e
    rw [up_eq l r (List.pairwise_cons.1 hl).2 (List.pairwise_cons.1 hr).2 ((List.perm_cons a).1 h)]
def ins (x : Int) : List Int → List Int
  | [] => [x]
  | y :: l => if x ≤ y then x :: y :: l else y :: ins x l
def srt (l : List Int) : List Int := l.foldr ins []
theorem ins_perm (x : Int) : ∀ l : List Int, (ins x l).Perm (x :: l)
  | [] => List.Perm.refl _
  | y :: l => by
    unfold ins
    split
    · exact List.Perm.refl _
    · exact ((ins_perm x l).cons y).trans (List.Perm.swap x y l)
theorem srt_perm : ∀ l : List Int, (srt l).Perm l
  | [] => List.Perm.refl _
  | x :: l => (ins_perm x (srt l)).trans ((srt_perm l).cons x)
theorem ins_up (x : Int) : ∀ l : List Int, Up l → Up (ins x l)
  | [], _ => by simp [ins, Up]
  | y :: l, h => by
    have h1 := (List.pairwise_cons.1 h).1
    have h2 := (List.pairwise_cons.1 h).2
    unfold ins
    split
    · rename_i c
      refine List.pairwise_cons.2 ⟨fun z hz => ?_, h⟩
      rcases List.mem_cons.1 hz with rfl | hz
      · exact c
      · exact Int.le_trans c (h1 z hz)
    · rename_i c
      refine List.pairwise_cons.2 ⟨fun z hz => ?_, ins_up x l h2⟩
      rcases List.mem_cons.1 ((ins_perm x l).mem_iff.1 hz) with rfl | hz
      · omega
      · exact h1 z hz
theorem srt_up : ∀ l : List Int, Up (srt l)
  | [] => by simp [srt, Up]
  | x :: l => ins_up x (srt l) (srt_up l)
theorem srt_of {l r : List Int} (hp : r.Perm l) (h : Up r) : r = srt l := up_eq r (srt l) h (srt_up l) (hp.trans (srt_perm l).symm)
def mo (t : Int) : I2 := (t, t)
/-- The sessions of the events from 0 to e. -/
def ses (g e : Int) (l : List Int) : List I2 := if 1 ≤ g ∧ g ≤ 1099511627776 then mrg g ((srt (l.filter fun t => decide (0 ≤ t) && decide (t ≤ e))).map mo) else []
theorem asc_mo {l : List Int} (h : Up l) : Asc (l.map mo) := by
  unfold Asc
  rw [List.pairwise_map]
  exact h
theorem ses_far (g e : Int) (l : List Int) : Far g (ses g e l) := by
  unfold ses
  split
  · exact mrg_far g _ (asc_mo (srt_up _))
  · simp [Far]
theorem mem_srt {l : List Int} {t : Int} : t ∈ srt l ↔ t ∈ l := (srt_perm l).mem_iff
theorem ses_ok (g e : Int) (l : List Int) (he : e ≤ 1099511627776) : ∀ m ∈ ses g e l, Ok m := by
  unfold ses
  split
  · refine mrg_ok g _ fun y hy => ?_
    simp only [List.mem_map, mem_srt, List.mem_filter, Bool.and_eq_true, decide_eq_true_eq] at hy
    obtain ⟨t, ⟨_, h1, h2⟩, rfl⟩ := hy
    exact ⟨h1, Int.le_refl _, by simp only [mo]; omega⟩
  · intro m hm; simp at hm
theorem ses_each {g : Int} (e : Int) (l : List Int) (hg : 1 ≤ g ∧ g ≤ 1099511627776) {t : Int} (ht : t ∈ l) (h0 : 0 ≤ t) (h1 : t ≤ e) : ∃ m ∈ ses g e l, In m t := by
  unfold ses
  rw [if_pos hg]
  obtain ⟨m, hm, a, b⟩ := mrg_each g _ (asc_mo (srt_up (l.filter fun t => decide (0 ≤ t) && decide (t ≤ e)))) (mo t) (List.mem_map.2 ⟨t, mem_srt.2 (List.mem_filter.2 ⟨ht, by simp [h0, h1]⟩), rfl⟩)
  exact ⟨m, hm, a, b⟩
/-- The ones that hold a tick: one at most. -/
theorem far_count (g : Int) (hg : 0 ≤ g) : ∀ (u : List I2), (∀ m ∈ u, m.1 ≤ m.2) → Far g u → ∀ t, (∃ m ∈ u, In m t) → u.countP (fun m => decide (m.1 ≤ t) && decide (t ≤ m.2)) = 1
  | [], _, _, t, h => by obtain ⟨m, hm, _⟩ := h; simp at hm
  | a :: u, ho, hf, t, h => by
    have f1 := (List.pairwise_cons.1 hf).1
    rw [List.countP_cons]
    by_cases c : a.1 ≤ t ∧ t ≤ a.2
    · have : u.countP (fun m => decide (m.1 ≤ t) && decide (t ≤ m.2)) = 0 := by
        rw [List.countP_eq_zero]
        intro m hm
        have := f1 m hm
        simp only [Bool.and_eq_true, decide_eq_true_eq]
        omega
      rw [this]
      simp [c]
    · have : u.countP (fun m => decide (m.1 ≤ t) && decide (t ≤ m.2)) = 1 := by
        refine far_count g hg u (fun m hm => ho m (by simp [hm])) (List.pairwise_cons.1 hf).2 t ?_
        obtain ⟨m, hm, i⟩ := h
        rcases List.mem_cons.1 hm with rfl | hm
        · exact absurd i c
        · exact ⟨m, hm, i⟩
      rw [this, if_neg (by simpa using c)]
theorem no_count {u : List I2} (ho : ∀ m ∈ u, Ok m) {t : Int} (h : ¬ (0 ≤ t ∧ t ≤ 1099511627776)) : u.countP (fun m => decide (m.1 ≤ t) && decide (t ≤ m.2)) = 0 := by
  rw [List.countP_eq_zero]
  intro m hm
  obtain ⟨a, b, c⟩ := ho m hm
  simp only [Bool.and_eq_true, decide_eq_true_eq]
  omega
/-- With a greater gap: each is contained in one, and there are no more. -/
theorem mg_wide {g h : Int} (hg : 0 ≤ g) (hgh : g ≤ h) : ∀ (l : List I2) (r R : I2), Asc (r :: l) → (∀ y ∈ l, y.1 ≤ y.2) → R.1 ≤ r.1 → R.2 = r.2 →
    (∀ m ∈ mg g r l, ∃ M ∈ mg h R l, M.1 ≤ m.1 ∧ m.2 ≤ M.2) ∧ (mg h R l).length ≤ (mg g r l).length
  | [], r, R, _, _, h1, h2 => by
    refine ⟨fun m hm => ?_, by simp [mg]⟩
    simp [mg] at hm
    subst hm
    exact ⟨R, by simp [mg], h1, by omega⟩
  | x :: l, r, R, ha, hv, h1, h2 => by
    have a1 := ha.head
    have a2 := ha.tail
    have hx := hv x (by simp)
    have hv' : ∀ y ∈ l, y.1 ≤ y.2 := fun y hy => hv y (by simp [hy])
    have hrx := a1 x (by simp)
    by_cases c : x.1 - r.2 ≤ g
    · rw [mg_join c, mg_join (show x.1 - R.2 ≤ h by omega)]
      exact mg_wide hg hgh l _ _ (List.pairwise_cons.2 ⟨fun z hz => a1 z (by simp [hz]), a2.tail⟩) hv' h1 (by simp only; rw [h2])
    · rw [mg_part c]
      by_cases d : x.1 - R.2 ≤ h
      · rw [mg_join d]
        have ih := mg_wide hg hgh l x (R.1, max R.2 x.2) a2 hv' (by simp only; omega) (by simp only; omega)
        refine ⟨fun m hm => ?_, by simp only [List.length_cons]; omega⟩
        rcases List.mem_cons.1 hm with rfl | hm
        · obtain ⟨M, hM, e1, e2⟩ := mg_has h l (R.1, max R.2 x.2)
          simp only at e1 e2
          exact ⟨M, hM, by omega, by omega⟩
        · exact ih.1 m hm
      · rw [mg_part d]
        have ih := mg_wide hg hgh l x x a2 hv' (Int.le_refl _) rfl
        refine ⟨fun m hm => ?_, by simp only [List.length_cons]; omega⟩
        rcases List.mem_cons.1 hm with rfl | hm
        · exact ⟨R, by simp, h1, by omega⟩
        · obtain ⟨M, hM, e⟩ := ih.1 m hm
          exact ⟨M, by simp [hM], e⟩
theorem ses_wide {g h : Int} (e : Int) (l : List Int) (h1 : 1 ≤ g) (hgh : g ≤ h) (h2 : h ≤ 1099511627776) :
    (∀ m ∈ ses g e l, ∃ M ∈ ses h e l, M.1 ≤ m.1 ∧ m.2 ≤ M.2) ∧ (ses h e l).length ≤ (ses g e l).length := by
  unfold ses
  rw [if_pos ⟨h1, by omega⟩, if_pos ⟨by omega, h2⟩]
  have ha := asc_mo (srt_up (l.filter fun t => decide (0 ≤ t) && decide (t ≤ e)))
  generalize hs : (srt (l.filter fun t => decide (0 ≤ t) && decide (t ≤ e))).map mo = s at ha
  have hv : ∀ y ∈ s, y.1 ≤ y.2 := by
    subst hs
    intro y hy
    obtain ⟨t, _, rfl⟩ := List.mem_map.1 hy
    exact Int.le_refl _
  cases s with
  | nil => simp [mrg]
  | cons x s => exact mg_wide (by omega) hgh s x x ha (fun y hy => hv y (by simp [hy])) (Int.le_refl _) rfl

/-! ### The current session -/
theorem mg_last {g : Int} (hg : 0 ≤ g) : ∀ (l : List I2) (r : I2), Asc (r :: l) → (∀ y ∈ l, y.1 = y.2) → ∀ m ∈ mg g r l, (mg g r (l.filter fun x => decide (x.1 ≤ m.2))).getLast? = some m ∧ r.2 ≤ m.2
  | [], r, _, _, m, hm => by simp [mg] at hm; subst hm; simp [mg]
  | x :: l, r, ha, hv, m, hm => by
    have a1 := ha.head
    have a2 := ha.tail
    have hx := hv x (by simp)
    have hv' : ∀ y ∈ l, y.1 = y.2 := fun y hy => hv y (by simp [hy])
    by_cases c : x.1 - r.2 ≤ g
    · rw [mg_join c] at hm
      have ih := mg_last hg l (r.1, max r.2 x.2) (List.pairwise_cons.2 ⟨fun z hz => a1 z (by simp [hz]), a2.tail⟩) hv' m hm
      have i2 := ih.2
      simp only at i2
      rw [List.filter_cons_of_pos (by simp; omega), mg_join c]
      exact ⟨ih.1, by omega⟩
    · rw [mg_part c] at hm
      rcases List.mem_cons.1 hm with rfl | hm
      · have : (x :: l).filter (fun x => decide (x.1 ≤ m.2)) = [] := by
          rw [List.filter_eq_nil_iff]
          intro y hy
          have : x.1 ≤ y.1 := by
            rcases List.mem_cons.1 hy with rfl | hy
            · exact Int.le_refl _
            · exact a2.head y hy
          simp only [decide_eq_true_eq]
          omega
        rw [this]
        exact ⟨by simp [mg], Int.le_refl _⟩
      · have ih := mg_last hg l x a2 hv' m hm
        rw [List.filter_cons_of_pos (by simp; omega), mg_part c]
        refine ⟨?_, by omega⟩
        rw [List.getLast?_cons, ih.1]
        rfl
theorem filter_mo (q : Int) (l : List Int) : (l.map mo).filter (fun x => decide (x.1 ≤ q)) = (l.filter fun t => decide (t ≤ q)).map mo := by
  rw [List.filter_map]
  rfl
theorem srt_filter (p : Int → Bool) (l : List Int) : (srt l).filter p = srt (l.filter p) :=
  srt_of ((srt_perm l).filter p) (List.Pairwise.filter p (srt_up l))
/-- .. at the end of one of them it is this one. -/
theorem ses_last {g e : Int} {l : List Int} {m : I2} (hm : m ∈ ses g e l) (hk : m.2 ≤ e) : (ses g m.2 l).getLast? = some m := by
  unfold ses at hm ⊢
  split at hm
  · rename_i hg
    rw [if_pos hg]
    have e1 : (l.filter fun t => decide (0 ≤ t) && decide (t ≤ m.2)) = (l.filter fun t => decide (0 ≤ t) && decide (t ≤ e)).filter fun t => decide (t ≤ m.2) := by
      rw [List.filter_filter]
      apply List.filter_congr
      intro t _
      by_cases h1 : 0 ≤ t <;> by_cases h2 : t ≤ m.2 <;> simp [h1, h2]
      omega
    rw [e1, ← srt_filter, ← filter_mo]
    have ha := asc_mo (srt_up (l.filter fun t => decide (0 ≤ t) && decide (t ≤ e)))
    generalize hs : (srt (l.filter fun t => decide (0 ≤ t) && decide (t ≤ e))).map mo = s at ha hm
    have hv : ∀ y ∈ s, y.1 = y.2 := by
      subst hs
      intro y hy
      obtain ⟨t, _, rfl⟩ := List.mem_map.1 hy
      rfl
    cases s with
    | nil => simp [mrg] at hm
    | cons x s =>
      have hl := mg_last (by omega) s x ha (fun y hy => hv y (by simp [hy])) m hm
      have hx := hv x (by simp)
      rw [List.filter_cons_of_pos (by simp; omega)]
      exact hl.1
  · simp at hm
theorem ses_to (g e : Int) (l : List Int) : ∀ m ∈ ses g e l, m.2 ≤ e := by
  unfold ses
  split
  · intro m hm
    have hall : ∀ y ∈ (srt (l.filter fun t => decide (0 ≤ t) && decide (t ≤ e))).map mo, y.2 ≤ e := by
      intro y hy
      simp only [List.mem_map, mem_srt, List.mem_filter, Bool.and_eq_true, decide_eq_true_eq] at hy
      obtain ⟨t, ⟨_, _, h2⟩, rfl⟩ := hy
      exact h2
    generalize (srt (l.filter fun t => decide (0 ≤ t) && decide (t ≤ e))).map mo = s at hm hall
    cases s with
    | nil => simp [mrg] at hm
    | cons x s => exact mg_to g e s x (hall x (by simp)) (fun y hy => hall y (by simp [hy])) m hm
  · intro m hm; simp at hm
theorem ses_past (g t : Int) (l : List Int) : ses g t (l.filter fun x => decide (x ≤ t)) = ses g t l := by
  unfold ses
  rw [List.filter_filter]
  have : (l.filter fun a => (decide (0 ≤ a) && decide (a ≤ t)) && decide (a ≤ t)) = l.filter fun a => decide (0 ≤ a) && decide (a ≤ t) := by
    apply List.filter_congr
    intro x _
    by_cases h : x ≤ t <;> simp [h]
  rw [this]
/-- The current session at t. -/
def sat (g t : Int) (l : List Int) : Option I2 := if 0 ≤ t ∧ t ≤ 1099511627776 then (ses g t l).getLast?.bind fun m => if m.2 < t - g then none else some m else none
theorem sat_past (g t : Int) (l : List Int) : sat g t (l.filter fun x => decide (x ≤ t)) = sat g t l := by
  unfold sat
  rw [ses_past]
theorem sat_some {g t : Int} {l : List Int} {m : I2} (h : sat g t l = some m) : m.1 ≤ m.2 ∧ m.2 ≤ t ∧ t - m.2 ≤ g := by
  unfold sat at h
  split at h
  · rename_i ht
    cases hl : (ses g t l).getLast? with
    | none => rw [hl] at h; simp at h
    | some x =>
      rw [hl] at h
      simp only [Option.bind_some] at h
      split at h
      · simp at h
      · rename_i hn
        obtain rfl := Option.some.inj h
        have hm : x ∈ ses g t l := List.mem_of_getLast? hl
        have := ses_ok g t l ht.2 x hm
        have := ses_to g t l x hm
        exact ⟨‹Ok x›.2.1, this, by omega⟩
  · simp at h
theorem sat_last {g : Int} {l : List Int} {m : I2} (hm : m ∈ ses g 1099511627776 l) : sat g m.2 l = some m := by
  have ho := ses_ok g _ l (Int.le_refl _) m hm
  obtain ⟨a, b, c⟩ := ho
  have hg : 1 ≤ g := by
    unfold ses at hm
    split at hm
    · rename_i h; exact h.1
    · simp at hm
  unfold sat
  rw [if_pos ⟨by omega, c⟩, ses_last hm c]
  simp only [Option.bind_some]
  rw [if_neg (by omega)]

/-! ### Parts -/
/-- The part of i in the range k of s ticks. -/
def part (i : I2) (s k : Int) : I2 := (max i.1 (k * s), min i.2 (k * s + s - 1))
def isz (s : Int) : Bool := decide (1 ≤ s) && decide (s ≤ 1099511627776)
/-- How many parts. -/
def cnt (i : I2) (s : Int) : Nat := (i.2 / s - i.1 / s + 1).toNat
def buk (i : I2) (s : Int) : List I2 := if okI i && (isz s && decide (i.2 / s - i.1 / s < 4096)) then (List.range (cnt i s)).map fun j : Nat => part i s (i.1 / s + (j : Int)) else []
end Go.Proofs.Ytdhdofgdeljajaa
