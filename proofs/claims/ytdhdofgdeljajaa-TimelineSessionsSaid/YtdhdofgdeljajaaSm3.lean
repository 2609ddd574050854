/-
  The references of Meet and Bounds; Bounds.
-/
import Derived.Test.YtdhdofgdeljajaaSm2
namespace Go.Proofs.Ytdhdofgdeljajaa
open Go.RowKit

theorem rmeet_any (x y u v : Int) (w : World) : Calls Try.prog 12 #[.agg #[.int .i64 x, .int .i64 y], .agg #[.int .i64 u, .int .i64 v]] w fun e w' => e = .returned (.tuple #[.agg #[.int .i64 (mtv (x, y) (u, v)).1, .int .i64 (mtv (x, y) (u, v)).2], .bool (mtb (x, y) (u, v))]) ∧ Below w.heap.size w w' := by
  have e1 := max_walk x u
  have e2 := min_walk y v
  unfold mtv
  rw [mtb_ref]
  simp only
  generalize max x u = p at *
  generalize min y v = q at *
  have C1 := Lib.hid (rvalid_any x y)
  have C2 := Lib.hid (rvalid_any u v)
  generalize okI (x, y) = o1 at *
  generalize okI (u, v) = o2 at *
  have k1 : decide (q < p) = !decide (p ≤ q) := by
    by_cases h : p ≤ q
    · rw [decide_eq_true h, decide_eq_false (by omega)]; rfl
    · rw [decide_eq_false h, decide_eq_true (by omega)]; rfl
  generalize decide (p ≤ q) = o3 at *
  replace k1 := Lib.hid k1
  have A := (((Bw.new w x y 23).past (.cells #[.int .i64 u, .int .i64 v] 23)).past (.cells #[.int .i64 0, .int .i64 0] 23)).past (.cells #[.int .i64 p, .int .i64 q] 23)
  have B := ((Bw.new (w.alloc (.cells #[.int .i64 x, .int .i64 y] 23)) u v 23).past (.cells #[.int .i64 0, .int .i64 0] 23)).past (.cells #[.int .i64 p, .int .i64 q] 23)
  have R := (Bw.new ((w.alloc (.cells #[.int .i64 x, .int .i64 y] 23)).alloc (.cells #[.int .i64 u, .int .i64 v] 23)) 0 0 23).past (.cells #[.int .i64 p, .int .i64 q] 23)
  have I := Bw.new (((w.alloc (.cells #[.int .i64 x, .int .i64 y] 23)).alloc (.cells #[.int .i64 u, .int .i64 v] 23)).alloc (.cells #[.int .i64 0, .int .i64 0] 23)) p q 23
  have b1 := balloc (balloc (balloc (balloc (b0 w) (.cells #[.int .i64 x, .int .i64 y] 23)) (.cells #[.int .i64 u, .int .i64 v] 23)) (.cells #[.int .i64 0, .int .i64 0] 23)) (.cells #[.int .i64 p, .int .i64 q] 23)
  simp only [alloc_size] at A B R I
  replace A := Lib.hid A
  replace B := Lib.hid B
  replace R := Lib.hid R
  replace I := Lib.hid I
  replace b1 := Lib.hid b1
  go_enter Try.func12, Try.ntmps12
  go_wp2_with fail
  refine (C1.out _).mono ?_
  rintro e w1 ⟨rfl, d⟩
  replace B := B.out.keeps d
  replace R := R.out.keeps d
  replace I := I.out.keeps d
  replace b1 := bnext b1.out d
  clear d C1 A
  obtain ⟨c0, c1, g0, g1⟩ := B
  have R1 := R
  obtain ⟨r0, r1, h0, h1⟩ := R
  have I1 := Lib.hid I
  cases o1
  · go_wp2_with fail
    obtain ⟨d0, d1, _, _⟩ := R1.put 0 0
    simp [bodyPost, results, Try.results12, go_sem, d0, d1]
    exact put_below b1 (by omega) _ _
  go_wp2_with fail
  clear c0 c1 g0 g1 r0 r1 h0 h1
  refine (C2.out _).mono ?_
  rintro e w2 ⟨rfl, d⟩
  replace R := R1.keeps d
  replace I := I1.out.keeps d
  replace b1 := bnext b1 d
  clear d C2 R1 I1
  have R1 := R
  obtain ⟨r0, r1, h0, h1⟩ := R
  obtain ⟨i0, i1, j0, j1⟩ := I
  cases o2
  · go_wp2_with fail
    obtain ⟨d0, d1, _, _⟩ := R1.put 0 0
    simp [bodyPost, results, Try.results12, go_sem, d0, d1]
    exact put_below b1 (by omega) _ _
  cases o3
  · replace k1 : decide (q < p) = true := k1.out
    go_wp2_with fail
    obtain ⟨d0, d1, _, _⟩ := R1.put 0 0
    simp [bodyPost, results, Try.results12, go_sem, d0, d1]
    exact put_below b1 (by omega) _ _
  · replace k1 : decide (q < p) = false := k1.out
    go_wp2_with fail
    obtain ⟨d0, d1, _, _⟩ := R1.put p q
    simp [bodyPost, results, Try.results12, go_sem, d0, d1]
    exact put_below b1 (by omega) _ _

/-- What Bounds answers. -/
def bd (k s t : Int) : I2 × Bool :=
  if decide (0 ≤ t) && decide (t ≤ 1099511627776) then
    (if k = 1 then (if s = 0 then ((0, t), true) else ((0, 0), false))
     else if k = 2 then (if isz s then ((max (t - s + 1) 0, t), true) else ((0, 0), false))
     else if k = 3 then (if isz s then ((t - t % s, t), true) else ((0, 0), false))
     else ((0, 0), false))
  else ((0, 0), false)
theorem isz_iff (s : Int) : isz s = true ↔ 1 ≤ s ∧ s ≤ 1099511627776 := by simp [isz]
theorem tick_b (t : Int) (w : World) : Calls Try.prog 38 #[.int .i64 t] w fun e w' => e = .returned (.bool (decide (0 ≤ t) && decide (t ≤ 1099511627776))) ∧ Below w.heap.size w w' := (tick_any t w).mono fun _ _ h => ⟨h.1, h.2 ▸ b0 w⟩
theorem rtick_b (t : Int) (w : World) : Calls Try.prog 41 #[.int .i64 t] w fun e w' => e = .returned (.bool (decide (0 ≤ t) && decide (t ≤ 1099511627776))) ∧ Below w.heap.size w w' := (rtick_any t w).mono fun _ _ h => ⟨h.1, h.2 ▸ b0 w⟩
theorem size_b (t : Int) (w : World) : Calls Try.prog 39 #[.int .i64 t] w fun e w' => e = .returned (.bool (isz t)) ∧ Below w.heap.size w w' := (size_any t w).mono fun _ _ h => ⟨h.1, h.2 ▸ b0 w⟩
theorem bd_out {k s t : Int} (ht : ¬ (0 ≤ t ∧ t ≤ 1099511627776)) : bd k s t = ((0, 0), false) := by
  unfold bd
  rw [if_neg (by simpa using ht)]
theorem bd_in {k s t : Int} (ht : 0 ≤ t ∧ t ≤ 1099511627776) : bd k s t = if k = 1 then (if s = 0 then ((0, t), true) else ((0, 0), false))
     else if k = 2 then (if isz s then ((max (t - s + 1) 0, t), true) else ((0, 0), false))
     else if k = 3 then (if isz s then ((t - t % s, t), true) else ((0, 0), false))
     else ((0, 0), false) := by
  unfold bd
  rw [if_pos (by simpa using ht)]
theorem bd_two {P : I2 × Bool} {p q : Int} {o : Bool} (h : P = ((p, q), o)) : p = P.1.1 ∧ q = P.1.2 ∧ o = P.2 := by subst h; exact ⟨rfl, rfl, rfl⟩
theorem bounds_any (k s t : Int) (w : World) : Calls Try.prog 20 #[.agg #[.int .i64 k, .int .i64 s], .int .i64 t] w fun e w' => e = .returned (.tuple #[.agg #[.int .i64 (bd k s t).1.1, .int .i64 (bd k s t).1.2], .bool (bd k s t).2]) ∧ Below w.heap.size w w' := by
  have C1 := Lib.hid (tick_b t)
  have C2 := Lib.hid (size_b s)
  have A := (Bw.new w k s 35).past (.cells #[.int .i64 0, .int .i64 0] 23)
  have R := Bw.new (w.alloc (.cells #[.int .i64 k, .int .i64 s] 35)) 0 0 23
  have b1 := balloc (balloc (b0 w) (.cells #[.int .i64 k, .int .i64 s] 35)) (.cells #[.int .i64 0, .int .i64 0] 23)
  simp only [alloc_size] at A R
  have h0t : Hid (∀ o, (decide (0 ≤ t) && decide (t ≤ 1099511627776)) = o → (o = true → 0 ≤ t ∧ t ≤ 1099511627776) ∧ (o = false → bd k s t = ((0, 0), false))) := by
    rintro o rfl
    exact ⟨fun h => by simpa using h, fun h => bd_out (by simpa using h)⟩
  obtain ⟨o, ho⟩ : ∃ o, (decide (0 ≤ t) && decide (t ≤ 1099511627776)) = o := ⟨_, rfl⟩
  obtain ⟨h1t, h2t⟩ := h0t.out o ho
  replace h1t := Lib.hid h1t
  replace h2t := Lib.hid h2t
  rw [ho] at C1
  clear ho h0t
  have hin := Lib.hid (fun h => bd_in (k := k) (s := s) (t := t) h)
  have hsz := Lib.hid (isz_iff s).1
  generalize bd k s t = P at *
  generalize isz s = z at *
  replace A := Lib.hid A
  replace R := Lib.hid R
  replace b1 := Lib.hid b1
  go_enter Try.func20, Try.ntmps20
  go_wp2_with fail
  refine (C1.out _).mono ?_
  rintro e w1 ⟨rfl, d⟩
  replace A := A.out.keeps d
  replace R := R.out.keeps d
  replace b1 := bnext b1.out d
  clear d C1
  have R1 := Lib.hid R
  have A1 := Lib.hid A
  obtain ⟨r0, r1, h0, h1⟩ := R
  obtain ⟨a0, a1, f0, f1⟩ := A
  cases o
  · have hp := bd_two (h2t.out rfl)
    obtain ⟨e1, e2, e3⟩ := hp
    replace e1 := Lib.hid e1
    replace e2 := Lib.hid e2
    replace e3 := Lib.hid e3
    go_wp2_with fail
    obtain ⟨d0, d1, _, _⟩ := R1.out.put 0 0
    simp [bodyPost, results, Try.results20, go_sem, d0, d1]
    exact ⟨⟨⟨e1.out, e2.out⟩, e3.out.symm⟩, put_below b1 (by omega) _ _⟩
  have hh := h1t.out rfl
  replace hin := Lib.hid (hin.out hh)
  obtain ⟨ht0, ht1⟩ := hh
  clear h1t h2t
  have fin0 : Hid (P = ((0, 0), false) → ∀ {w2 : World}, Bw w2 (w.heap.size + 1) 0 0 → True) := fun _ _ _ => trivial
  clear fin0
  by_cases k1 : k = 1
  · subst k1
    by_cases s0 : s = 0
    · subst s0
      obtain ⟨e1, e2, e3⟩ := bd_two hin.out
      replace e1 := Lib.hid e1
      replace e2 := Lib.hid e2
      replace e3 := Lib.hid e3
      go_wp2_with fail
      obtain ⟨d0, d1, _, _⟩ := R1.out.put 0 t
      simp [bodyPost, results, Try.results20, go_sem, d0, d1]
      exact ⟨⟨⟨e1.out, e2.out⟩, e3.out.symm⟩, put_below b1 (by omega) _ _⟩
    · have q1 : (s == 0) = false := by simpa using s0
      obtain ⟨e1, e2, e3⟩ := bd_two (hin.out.trans (by rw [if_pos rfl, if_neg s0]))
      replace e1 := Lib.hid e1
      replace e2 := Lib.hid e2
      replace e3 := Lib.hid e3
      clear s0
      go_wp2_with fail
      obtain ⟨d0, d1, _, _⟩ := R1.out.put 0 0
      simp [bodyPost, results, Try.results20, go_sem, d0, d1]
      exact ⟨⟨⟨e1.out, e2.out⟩, e3.out.symm⟩, put_below b1 (by omega) _ _⟩
  have q1 : (k == 1) = false := by simpa using k1
  replace hin := Lib.hid (hin.out.trans (if_neg k1))
  clear k1
  by_cases k2 : k = 2
  · subst k2
    replace hin := Lib.hid (hin.out.trans (if_pos rfl))
    go_wp2_with fail
    refine (C2.out _).mono ?_
    rintro e w2 ⟨rfl, d⟩
    obtain ⟨a0, a1, f0, f1⟩ := A1.out.keeps d
    obtain ⟨r0, r1, h0, h1⟩ := R1.out.keeps d
    have R2 := Lib.hid (R1.out.keeps d)
    replace b1 := bnext b1 d
    clear d C2 R1 A1
    cases z
    · obtain ⟨e1, e2, e3⟩ := bd_two (hin.out.trans (if_neg (by decide)))
      replace e1 := Lib.hid e1
      replace e2 := Lib.hid e2
      replace e3 := Lib.hid e3
      go_wp2_with fail
      obtain ⟨d0, d1, _, _⟩ := R2.out.put 0 0
      simp [bodyPost, results, Try.results20, go_sem, d0, d1]
      exact ⟨⟨⟨e1.out, e2.out⟩, e3.out.symm⟩, put_below b1 (by omega) _ _⟩
    · obtain ⟨hs0, hs1⟩ := hsz.out rfl
      obtain ⟨e1, e2, e3⟩ := bd_two (hin.out.trans (if_pos rfl))
      have w1' : IntKind.i64.wrap (t - s) = t - s := by simp [IntKind.wrap, IntKind.bits, IntKind.signed]; omega
      have w2' : IntKind.i64.wrap (t - s + 1) = t - s + 1 := by simp [IntKind.wrap, IntKind.bits, IntKind.signed]; omega
      have m1 := max_walk (t - s + 1) 0
      generalize max (t - s + 1) 0 = p at *
      replace e1 := Lib.hid e1
      replace e2 := Lib.hid e2
      replace e3 := Lib.hid e3
      go_wp2_with fail
      obtain ⟨d0, d1, _, _⟩ := R2.out.put p t
      simp [bodyPost, results, Try.results20, go_sem, d0, d1]
      exact ⟨⟨⟨e1.out, e2.out⟩, e3.out.symm⟩, put_below b1 (by omega) _ _⟩
  have q2 : (k == 2) = false := by simpa using k2
  replace hin := Lib.hid (hin.out.trans (if_neg k2))
  clear k2
  by_cases k3 : k = 3
  · subst k3
    replace hin := Lib.hid (hin.out.trans (if_pos rfl))
    go_wp2_with fail
    refine (C2.out _).mono ?_
    rintro e w2 ⟨rfl, d⟩
    obtain ⟨a0, a1, f0, f1⟩ := A1.out.keeps d
    obtain ⟨r0, r1, h0, h1⟩ := R1.out.keeps d
    have R2 := Lib.hid (R1.out.keeps d)
    replace b1 := bnext b1 d
    clear d C2 R1 A1
    cases z
    · obtain ⟨e1, e2, e3⟩ := bd_two (hin.out.trans (if_neg (by decide)))
      replace e1 := Lib.hid e1
      replace e2 := Lib.hid e2
      replace e3 := Lib.hid e3
      go_wp2_with fail
      obtain ⟨d0, d1, _, _⟩ := R2.out.put 0 0
      simp [bodyPost, results, Try.results20, go_sem, d0, d1]
      exact ⟨⟨⟨e1.out, e2.out⟩, e3.out.symm⟩, put_below b1 (by omega) _ _⟩
    · obtain ⟨hs0, hs1⟩ := hsz.out rfl
      obtain ⟨e1, e2, e3⟩ := bd_two (hin.out.trans (if_pos rfl))
      have s0 : (s == 0) = false := by simp; omega
      have m0 : Int.tmod t s = t % s := Int.tmod_eq_emod_of_nonneg ht0
      have m1 : 0 ≤ t % s := Int.emod_nonneg _ (by omega)
      have m2 : t % s < s := Int.emod_lt_of_pos _ (by omega)
      generalize t % s = r at *
      have w1' : IntKind.i64.wrap r = r := by simp [IntKind.wrap, IntKind.bits, IntKind.signed]; omega
      have w2' : IntKind.i64.wrap (t - r) = t - r := by simp [IntKind.wrap, IntKind.bits, IntKind.signed]; omega
      replace e1 := Lib.hid e1
      replace e2 := Lib.hid e2
      replace e3 := Lib.hid e3
      go_wp2_with fail
      obtain ⟨d0, d1, _, _⟩ := R2.out.put (t - r) t
      simp [bodyPost, results, Try.results20, go_sem, d0, d1]
      exact ⟨⟨⟨e1.out, e2.out⟩, e3.out.symm⟩, put_below b1 (by omega) _ _⟩
  · have q3 : (k == 3) = false := by simpa using k3
    obtain ⟨e1, e2, e3⟩ := bd_two (hin.out.trans (if_neg k3))
    replace e1 := Lib.hid e1
    replace e2 := Lib.hid e2
    replace e3 := Lib.hid e3
    clear k3
    go_wp2_with fail
    obtain ⟨d0, d1, _, _⟩ := R1.out.put 0 0
    simp [bodyPost, results, Try.results20, go_sem, d0, d1]
    exact ⟨⟨⟨e1.out, e2.out⟩, e3.out.symm⟩, put_below b1 (by omega) _ _⟩
end Go.Proofs.Ytdhdofgdeljajaa
