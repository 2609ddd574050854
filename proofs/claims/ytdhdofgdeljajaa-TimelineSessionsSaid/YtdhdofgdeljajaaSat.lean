/-
  Sessions and SessionAt.
-/
import Derived.Test.YtdhdofgdeljajaaSes
namespace Go.Proofs.Ytdhdofgdeljajaa
open Go.RowKit Go.Shelf

theorem Sessions_any (a : Option Addr) (n cap : Nat) (l : List Int) (g : Int) (w : World) (hS : Sn w a n cap l) (hlim : l.length < 8000000000000) :
    Calls Try.prog 25 #[.slice a n cap, .int .i64 g] w (Mk (ses g 1099511627776 l) w) := by
  have C := Lib.hid (sessions_any a n cap l g 1099511627776 (Int.le_refl _) w hS hlim)
  replace hlim := Lib.hid hlim
  clear hS
  go_enter Try.func25, Try.ntmps25
  go_wp2_with fail
  refine C.out.mono ?_
  rintro e w1 ⟨b1, b2, b3, a', n', cap', s, rfl, I, hok, hl, hm, _, b⟩
  have K := Lib.hid (collect_any b1 b2 b3 a' n' cap' s g hok (Nat.lt_of_le_of_lt hl hlim.out) w1 I)
  rw [hm] at K
  replace b := Lib.hid b
  clear I hok hl hm C
  go_wp2_with fail
  refine K.out.mono ?_
  rintro e w2 ⟨v, rfl, O, d⟩
  replace O := Lib.hid (O.less b.out.size)
  replace d := Lib.hid (bnext b.out d)
  go_wp2_with fail
  go_ret
  exact ⟨v, rfl, O.out, d.out⟩

attribute [local go_sem] Oper.semAt_some

theorem box_keeps {w w1 : World} {B : Nat} {t : TypeId} {v : Value} (h : Boxed w B t v) (hb : Below w.heap.size w w1) : Boxed w1 B t v := (hb.block B (Boxed.lt h)).trans h
theorem box_other {W : World} {B : Nat} {t : TypeId} {v : Value} (h : Boxed W B t v) {B' o : Nat} (hne : B ≠ B') (u : Value) : Boxed (W.setCell ⟨B', o, none⟩ u) B t v := (Below.heap_setCell W ⟨B', o, none⟩ u B hne).trans h
theorem Sl.other {W : World} {a : Option Addr} {n cap : Nat} {l : List I2} (h : Sl W a n cap l) {B o : Nat} (u : Value) (hne : ∀ x, a = some x → x.block ≠ B) : Sl (W.setCell ⟨B, o, none⟩ u) a n cap l := by
  refine { h with hat := ?_ }
  rcases h.hat with h0 | ⟨b, off, e, hC⟩
  · exact .inl h0
  · refine .inr ⟨b, off, e, fun j hj => ⟨?_, ?_⟩⟩
    · rw [World.cell?_setCell_other _ _ _ _ (fun he => hne _ e (congrArg Addr.block he).symm)]
      exact (hC j hj).1
    · rw [World.cell?_setCell_other _ _ _ _ (fun he => hne _ e (congrArg Addr.block he).symm)]
      exact (hC j hj).2
theorem It.other {W : World} {b1 b2 b3 : Nat} {a : Option Addr} {n cap : Nat} {l : List I2} {g : Int} (h : It W b1 b2 b3 a n cap l g) {B o : Nat} (u : Value) (h1 : b1 ≠ B) (h2 : b2 ≠ B) (h3 : b3 ≠ B) (hne : ∀ x, a = some x → x.block ≠ B) : It (W.setCell ⟨B, o, none⟩ u) b1 b2 b3 a n cap l g :=
  ⟨by rw [World.cell?_setCell_other _ _ _ _ (fun he => h1 (congrArg Addr.block he).symm)]; exact h.c1, by rw [World.cell?_setCell_other _ _ _ _ (fun he => h2 (congrArg Addr.block he).symm)]; exact h.c2, by rw [World.cell?_setCell_other _ _ _ _ (fun he => h3 (congrArg Addr.block he).symm)]; exact h.c3, h.sl.other u hne⟩
theorem Bw.other {W : World} {b : Nat} {x y : Int} (h : Bw W b x y) {B o : Nat} (u : Value) (hne : b ≠ B) : Bw (W.setCell ⟨B, o, none⟩ u) b x y :=
  ⟨by rw [World.cell?_setCell_other _ _ _ _ (fun he => hne (congrArg Addr.block he).symm)]; exact h.c0, by rw [World.cell?_setCell_other _ _ _ _ (fun he => hne (congrArg Addr.block he).symm)]; exact h.c1, by rw [World.frozen?_setCell]; exact h.f0, by rw [World.frozen?_setCell]; exact h.f1⟩
/-- The last one so far. -/
def lst (l : List I2) : I2 := l.getLastD (0, 0)
theorem lst_snoc (l : List I2) (x : I2) : lst (l ++ [x]) = x := by simp [lst]
def satV (g t : Int) (l : List Int) : I2 := (sat g t l).getD (0, 0)
def satB (g t : Int) (l : List Int) : Bool := (sat g t l).isSome

set_option maxRecDepth 100000 in
set_option maxHeartbeats 2000000 in
theorem sessionAt_any (a : Option Addr) (n cap : Nat) (l : List Int) (g t : Int) (w : World) (hS : Sn w a n cap l) (hlim : l.length < 8000000000000) :
    Calls Try.prog 23 #[.slice a n cap, .int .i64 g, .int .i64 t] w fun e w' => e = .returned (.tuple #[.agg #[.int .i64 (satV g t l).1, .int .i64 (satV g t l).2], .bool (satB g t l)]) ∧ Below w.heap.size w w' := by
  have TK := Lib.hid (tick_b t)
  have B6 := Bw.new w 0 0 23
  have bB : Boxed _ _ _ _ := Boxed.new (w.alloc (.cells #[.int .i64 0, .int .i64 0] 23)) 4 (.bool false)
  have b1 := balloc (balloc (b0 w) (.cells #[.int .i64 0, .int .i64 0] 23)) (.cells #[.bool false] 4)
  have B6 := B6.past (.cells #[.bool false] 4)
  simp only [alloc_size] at bB
  refine (callsIn_wide (n := 6)).1 ?_
  refine callsIn_of_wp_marks Try.func23 rfl trivial ?_ rfl
  simp only [Try.ntmps23, List.size_toArray, List.length_cons, List.length_nil, Nat.reduceAdd, Nat.reduceSub, Array.replicate_succ, Array.replicate_zero, List.push_toArray, List.append_toArray, List.nil_append, List.cons_append]
  replace B6 := Lib.hid B6
  replace bB := Lib.hid bB
  replace b1 := Lib.hid b1
  have SC := Lib.hid (fun w1 h => sessions_any a n cap l g t h w1)
  have hS1 := Lib.hid hS
  replace hlim := Lib.hid hlim
  clear hS
  by_cases ht : 0 ≤ t ∧ t ≤ 1099511627776
  · have ho : (decide (0 ≤ t) && decide (t ≤ 1099511627776)) = true := by simpa using ht
    rw [ho] at TK
    replace ht := Lib.hid ht
    gi_wp2
    refine ⟨trivial, ?_⟩
    refine (callsIn_wide.2 (TK.out _)).mono ?_
    rintro e w1 ⟨rfl, d⟩
    replace B6 := Lib.hid (B6.out.keeps d)
    replace bB := Lib.hid (box_keeps bB.out d)
    have hS2 := Lib.hid (hS1.out.keeps (bnext b1.out d))
    have hsz : w.heap.size + 2 ≤ w1.heap.size := by have := d.size; simp at this; omega
    replace b1 := Lib.hid (bnext b1.out d)
    clear d TK
    gi_wp2
    refine ⟨trivial, ?_⟩
    refine (callsIn_wide.2 (SC.out w1 ht.out.2 hS2.out hlim.out)).mono ?_
    rintro e w2 ⟨c1, c2, c3, a', n', cap', s, rfl, I, hok, hl, hm, ⟨f1, f2, f3, f4⟩, d⟩
    replace B6 := B6.out.keeps d
    replace bB := box_keeps bB.out d
    replace b1 := bnext b1.out d
    have hsz2 := d.size
    have hst := iter_stops 5 c1 c2 c3 a' n' cap' s g hok w2 I
    rw [hm] at hst
    clear d SC hS2 hl
    gi_wp2
    refine wpIn_rangeFunc_ownH rfl (by decide) (gf := 48) (lb := #[.pointer (some ⟨c1, 0, none⟩), .pointer (some ⟨c2, 0, none⟩)]) rfl trivial (enters_of Try.func48 (by kernel_rfl) rfl)
      hst keepIt_t (keepIt_b _) (b0 w2) (fun _ => rfl)
      (fun pre W => (Bw W w.heap.size (lst pre).1 (lst pre).2 ∧ Boxed W (w.heap.size + 1) 4 (.bool (!pre.isEmpty))) ∧ Below w.heap.size w W)
      (fun _ _ _ => False)
      (OwnFrom.and (OwnFrom.and (Own.from (fun s X Y row h hg hr => h.kept hg hr) _) (Own.from (boxed_own _ _ _) _)) (ownFrom_below (Nat.le_refl _) b1.size))
      (fun _ _ _ _ _ hs _ _ => hs)
      ⟨⟨B6, bB⟩, b1⟩
      (fun x a'' W => ∃ Bx, w.heap.size + 1 < Bx ∧ Bw W Bx x.1 x.2 ∧ a'' = { tmps := #[.slice a n cap, .int .i64 g, .int .i64 t, undef, undef, undef, .pointer (some ⟨w.heap.size, 0, none⟩), .pointer (some ⟨w.heap.size + 1, 0, none⟩), .pointer (some ⟨Bx, 0, none⟩), .int .i64 t, .bool true, .bool false, undef, .slice a n cap, .int .i64 g, .int .i64 t, .func (.func 48) #[] #[.pointer (some ⟨c1, 0, none⟩), .pointer (some ⟨c2, 0, none⟩)], .agg #[.int .i64 x.1, .int .i64 x.2], undef, undef, undef, undef, undef, undef, undef, undef, undef, undef, undef, undef, undef], defers := [] })
      (fun x a'' _ X Y row hs hg hr => by obtain ⟨Bx, h1, h2, h3⟩ := hs; exact ⟨Bx, h1, h2.kept hg (fun r e => (hr r e).2), h3⟩)
      ?assign ?body ?done ?stop
    case assign =>
      rintro l0 pre x W K ⟨⟨hb6, hb7⟩, hB⟩ hK
      gi_wp2
      exact hK _ _ ((KeepsOthers.alloc _ _).from _) (fun hx => hx.keeps (balloc (b0 W) _)) ⟨⟨hb6.past _, hb7.alloc _⟩, hB.alloc hB.size _⟩ ⟨W.heap.size, hb7.lt, Bw.new W _ _ _, rfl⟩
    case body =>
      rintro l0 pre x a'' W hl ⟨r, hr⟩ ⟨⟨hb6, hb7⟩, hB⟩ ⟨Bx, hBx, bX, rfl⟩ hlt
      obtain ⟨x1, x2⟩ := x
      obtain ⟨e0, e1, _, _⟩ := bX
      simp only at e0 e1
      obtain ⟨g0, g1, g2, g3⟩ := hb6
      have hb6 : Bw W w.heap.size (lst pre).1 (lst pre).2 := ⟨g0, g1, g2, g3⟩
      have k0 := hb7.cell
      have k1 := hb7.frozen
      gi_wp2
      have n1 : c1 ≠ w.heap.size ∧ c1 ≠ w.heap.size + 1 := by omega
      have n2 : c2 ≠ w.heap.size ∧ c2 ≠ w.heap.size + 1 := by omega
      have n3 : c3 ≠ w.heap.size ∧ c3 ≠ w.heap.size + 1 := by omega
      have n4 : ∀ x, a' = some x → x.block ≠ w.heap.size := fun x hx => by have := f4 x hx; omega
      have n5 : ∀ x, a' = some x → x.block ≠ w.heap.size + 1 := fun x hx => by have := f4 x hx; omega
      refine ⟨(((KeepsOthers.setCell _ _ _).trans (KeepsOthers.setCell _ _ _)).trans (KeepsOthers.setCell _ _ _)).from _, fun hx => ((hx.other _ n1.1 n2.1 n3.1 n4).other _ n1.1 n2.1 n3.1 n4).other _ n1.2 n2.2 n3.2 n5, ⟨⟨?_, ?_⟩, (Below.setCell (p := ⟨w.heap.size + 1, 0, none⟩) (put_below hB (Nat.le_refl _) _ _) (by simp) _)⟩⟩
      · rw [lst_snoc]
        exact (hb6.put x1 x2).other _ (by omega)
      · have e5 : (!(pre ++ [(x1, x2)]).isEmpty) = true := by simp
        rw [e5]
        exact Boxed.set _ (box_other (box_other hb7 (by omega) _) (by omega) _)
    case done =>
      rintro D ys W hD rfl ⟨⟨hb6, hb7⟩, hB⟩ hK
      have hD2 : w.heap.size + 2 ≤ D := by omega
      have hBD := belowK_b (w := w) (Nat.le_refl _)
      have hR1 := Lib.hid hb6
      have hR7 := Lib.hid hb7
      obtain ⟨r0, r1, h0, h1⟩ := hb6
      have k0 := hb7.cell
      have k1 := hb7.frozen
      have hsat : Hid (sat g t l = (ses g t l).getLast?.bind fun m => if m.2 < t - g then none else some m) := by unfold Hid sat; rw [if_pos ht.out]
      have hgz : Hid (ses g t l ≠ [] → 1 ≤ g ∧ g ≤ 1099511627776) := by
        unfold Hid ses
        intro h
        by_cases hc : 1 ≤ g ∧ g ≤ 1099511627776
        · exact hc
        · rw [if_neg hc] at h; exact absurd rfl h
      have hses : Hid (∀ m ∈ ses g t l, 0 ≤ m.2 ∧ m.2 ≤ 1099511627776) := fun m hm => by have := ses_ok g t l ht.out.2 m hm; obtain ⟨p1, p2, p3⟩ := this; omega
      generalize ses g t l = M at *
      by_cases hM : M = []
      · subst hM
        have hv : Hid (satV g t l = (0, 0) ∧ satB g t l = false) := by unfold Hid satV satB; rw [hsat.out]; exact ⟨rfl, rfl⟩
        simp only [List.isEmpty_nil, Bool.not_true] at k0
        gi_wp2
        have d3 := Boxed.set (Value.bool false) (box_other (o := 1) (box_other (o := 0) hR7.out (show w.heap.size + 1 ≠ w.heap.size by omega) (.int .i64 0)) (show w.heap.size + 1 ≠ w.heap.size by omega) (.int .i64 0))
        obtain ⟨d0, d1, _, _⟩ := (hR1.out.put 0 0).other (B := w.heap.size + 1) (o := 0) (.bool false) (by omega)
        have d2 := Boxed.cell d3
        have dB := Below.setCell (p := ⟨w.heap.size + 1, 0, none⟩) (put_below hB (Nat.le_refl _) (.int .i64 0) (.int .i64 0)) (by simp) (.bool false)
        have hK3 := (((KeepsOthers.setCell W ⟨w.heap.size, 0, none⟩ (.int .i64 0)).trans (KeepsOthers.setCell _ ⟨w.heap.size, 1, none⟩ (.int .i64 0))).trans (KeepsOthers.setCell _ ⟨w.heap.size + 1, 0, none⟩ (.bool false))).same D _ hK rfl
        generalize ((W.setCell ⟨w.heap.size, 0, none⟩ (.int .i64 0)).setCell ⟨w.heap.size, 1, none⟩ (.int .i64 0)).setCell ⟨w.heap.size + 1, 0, none⟩ (.bool false) = W2 at *
        replace d0 := cell_kept d0 (grownBy_putObj' W2 D (.deferred none)) (fun r e => by cases e; exact ⟨_, hK3, rfl⟩)
        replace d1 := cell_kept d1 (grownBy_putObj' W2 D (.deferred none)) (fun r e => by cases e; exact ⟨_, hK3, rfl⟩)
        replace d2 := cell_kept d2 (grownBy_putObj' W2 D (.deferred none)) (fun r e => by cases e; exact ⟨_, hK3, rfl⟩)
        refine ⟨by simp, .inl ⟨_, _, rfl, run_takeDeferred hK3, ?_⟩⟩
        refine ⟨.tuple #[.agg #[.int .i64 0, .int .i64 0], .bool false], ?_, ?_⟩
        · simp [results, Try.results23, go_sem, d0, d1, d2]
        · rw [hv.out.1, hv.out.2]
          exact ⟨rfl, dB.trans (belowK_b (w := w) (Nat.le_refl _) W2 D _ _ (by omega) hK3 rfl rfl)⟩
      · have hlast : Hid (M.getLast? = some (lst M)) := by
          unfold Hid lst
          rw [List.getLastD_eq_getLast?, List.getLast?_eq_some_getLast hM]
          rfl
        have hmem : lst M ∈ M := List.mem_of_getLast? hlast.out
        have hbnd := hses.out _ hmem
        have hgb := hgz.out hM
        have e5 : (!M.isEmpty) = true := by simp [hM]
        rw [e5] at k0 hR7
        rw [hlast.out] at hsat
        simp only [Option.bind_some] at hsat
        have htt := ht.out
        generalize lst M = m at *
        obtain ⟨m1, m2⟩ := m
        simp only at r0 r1 hR1 hbnd hsat
        have f5 : wrap64 (t - g) = t - g := fitsW (by omega) (by omega)
        replace hM := Lib.hid hM
        clear hmem hgz hses hlast e5
        by_cases hc : m2 < t - g
        · have q1 : decide (m2 < t - g) = true := decide_eq_true hc
          have hv : Hid (satV g t l = (0, 0) ∧ satB g t l = false) := by unfold Hid satV satB; rw [hsat.out, if_pos hc]; exact ⟨rfl, rfl⟩
          replace hc := Lib.hid hc
          gi_wp2
          have d3 := Boxed.set (Value.bool false) (box_other (o := 1) (box_other (o := 0) hR7.out (show w.heap.size + 1 ≠ w.heap.size by omega) (.int .i64 0)) (show w.heap.size + 1 ≠ w.heap.size by omega) (.int .i64 0))
          obtain ⟨d0, d1, _, _⟩ := (hR1.out.put 0 0).other (B := w.heap.size + 1) (o := 0) (.bool false) (by omega)
          have d2 := Boxed.cell d3
          have dB := Below.setCell (p := ⟨w.heap.size + 1, 0, none⟩) (put_below hB (Nat.le_refl _) (.int .i64 0) (.int .i64 0)) (by simp) (.bool false)
          have hK3 := (((KeepsOthers.setCell W ⟨w.heap.size, 0, none⟩ (.int .i64 0)).trans (KeepsOthers.setCell _ ⟨w.heap.size, 1, none⟩ (.int .i64 0))).trans (KeepsOthers.setCell _ ⟨w.heap.size + 1, 0, none⟩ (.bool false))).same D _ hK rfl
          generalize ((W.setCell ⟨w.heap.size, 0, none⟩ (.int .i64 0)).setCell ⟨w.heap.size, 1, none⟩ (.int .i64 0)).setCell ⟨w.heap.size + 1, 0, none⟩ (.bool false) = W2 at *
          replace d0 := cell_kept d0 (grownBy_putObj' W2 D (.deferred none)) (fun r e => by cases e; exact ⟨_, hK3, rfl⟩)
          replace d1 := cell_kept d1 (grownBy_putObj' W2 D (.deferred none)) (fun r e => by cases e; exact ⟨_, hK3, rfl⟩)
          replace d2 := cell_kept d2 (grownBy_putObj' W2 D (.deferred none)) (fun r e => by cases e; exact ⟨_, hK3, rfl⟩)
          refine ⟨by simp, .inl ⟨_, _, rfl, run_takeDeferred hK3, ?_⟩⟩
          refine ⟨.tuple #[.agg #[.int .i64 0, .int .i64 0], .bool false], ?_, ?_⟩
          · simp [results, Try.results23, go_sem, d0, d1, d2]
          · rw [hv.out.1, hv.out.2]
            exact ⟨rfl, dB.trans (belowK_b (w := w) (Nat.le_refl _) W2 D _ _ (by omega) hK3 rfl rfl)⟩
        · have q1 : decide (m2 < t - g) = false := decide_eq_false hc
          have hv : Hid (satV g t l = (m1, m2) ∧ satB g t l = true) := by unfold Hid satV satB; rw [hsat.out, if_neg hc]; exact ⟨rfl, rfl⟩
          replace hc := Lib.hid hc
          gi_wp2
          have d3 := Boxed.set (Value.bool true) (box_other (o := 1) (box_other (o := 0) hR7.out (show w.heap.size + 1 ≠ w.heap.size by omega) (.int .i64 m1)) (show w.heap.size + 1 ≠ w.heap.size by omega) (.int .i64 m2))
          obtain ⟨d0, d1, _, _⟩ := (hR1.out.put m1 m2).other (B := w.heap.size + 1) (o := 0) (.bool true) (by omega)
          have d2 := Boxed.cell d3
          have dB := Below.setCell (p := ⟨w.heap.size + 1, 0, none⟩) (put_below hB (Nat.le_refl _) (.int .i64 m1) (.int .i64 m2)) (by simp) (.bool true)
          have hK3 := (((KeepsOthers.setCell W ⟨w.heap.size, 0, none⟩ (.int .i64 m1)).trans (KeepsOthers.setCell _ ⟨w.heap.size, 1, none⟩ (.int .i64 m2))).trans (KeepsOthers.setCell _ ⟨w.heap.size + 1, 0, none⟩ (.bool true))).same D _ hK rfl
          generalize ((W.setCell ⟨w.heap.size, 0, none⟩ (.int .i64 m1)).setCell ⟨w.heap.size, 1, none⟩ (.int .i64 m2)).setCell ⟨w.heap.size + 1, 0, none⟩ (.bool true) = W2 at *
          replace d0 := cell_kept d0 (grownBy_putObj' W2 D (.deferred none)) (fun r e => by cases e; exact ⟨_, hK3, rfl⟩)
          replace d1 := cell_kept d1 (grownBy_putObj' W2 D (.deferred none)) (fun r e => by cases e; exact ⟨_, hK3, rfl⟩)
          replace d2 := cell_kept d2 (grownBy_putObj' W2 D (.deferred none)) (fun r e => by cases e; exact ⟨_, hK3, rfl⟩)
          refine ⟨by simp, .inl ⟨_, _, rfl, run_takeDeferred hK3, ?_⟩⟩
          refine ⟨.tuple #[.agg #[.int .i64 m1, .int .i64 m2], .bool true], ?_, ?_⟩
          · simp [results, Try.results23, go_sem, d0, d1, d2]
          · rw [hv.out.1, hv.out.2]
            exact ⟨rfl, dB.trans (belowK_b (w := w) (Nat.le_refl _) W2 D _ _ (by omega) hK3 rfl rfl)⟩
    case stop =>
      rintro D c pre W _ _ h _
      exact h.elim
  · have ho : (decide (0 ≤ t) && decide (t ≤ 1099511627776)) = false := by
      rw [Bool.eq_false_iff]
      intro h
      exact ht (by simpa using h)
    rw [ho] at TK
    have hv : Hid (satV g t l = (0, 0) ∧ satB g t l = false) := by
      unfold Hid satV satB sat
      rw [if_neg ht]
      exact ⟨rfl, rfl⟩
    replace ht := Lib.hid ht
    gi_wp2
    refine ⟨trivial, ?_⟩
    refine (callsIn_wide.2 (TK.out _)).mono ?_
    rintro e w1 ⟨rfl, d⟩
    replace B6 := B6.out.keeps d
    replace bB := box_keeps bB.out d
    replace b1 := bnext b1.out d
    clear d TK SC
    have R1 := Lib.hid B6
    obtain ⟨r0, r1, h0, h1⟩ := B6
    have k0 := Boxed.cell bB
    have k1 := Boxed.frozen bB
    gi_wp2
    refine ⟨.tuple #[.agg #[.int .i64 0, .int .i64 0], .bool false], ?_, ?_⟩
    · obtain ⟨d0, d1, _, _⟩ := (R1.out.put 0 0).other (B := w.heap.size + 1) (o := 0) (.bool false) (by omega)
      have d2 := Boxed.cell (Boxed.set (.bool false) (box_other (o := 1) (box_other (o := 0) bB (show w.heap.size + 1 ≠ w.heap.size by omega) (.int .i64 0)) (show w.heap.size + 1 ≠ w.heap.size by omega) (.int .i64 0)))
      simp [results, Try.results23, go_sem, d0, d1, d2]
    · rw [hv.out.1, hv.out.2]
      exact ⟨rfl, Below.setCell (p := ⟨w.heap.size + 1, 0, none⟩) (put_below b1 (Nat.le_refl _) _ _) (by simp) _⟩
end Go.Proofs.Ytdhdofgdeljajaa
