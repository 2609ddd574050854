/-
  slices.AppendSeq and slices.Collect over the iterator.
-/
import Derived.Test.YtdhdofgdeljajaaItr
namespace Go.Proofs.Ytdhdofgdeljajaa
open Go.RowKit Go.Shelf

attribute [local go_sem] Oper.semAt_some

theorem Bw.kept {W W' : World} {row : Option Nat} {b : Nat} {x y : Int} (h : Bw W b x y) (hg : W.grownBy W' row) (hr : ∀ r, row = some r → ∃ o : Obj, W.heap[r]? = some o ∧ o.isCells = false) : Bw W' b x y :=
  ⟨cell_kept h.c0 hg hr, cell_kept h.c1 hg hr, (frozen_kept h.c0 hg hr).trans h.f0, (frozen_kept h.c1 hg hr).trans h.f1⟩
theorem bx_news {w : World} {b : Nat} {x y : Int} (hB : Bw w b x y) : ∀ j u, (cs [(x, y)])[j]? = some u → w.cell? ((⟨b, 0, none⟩ : Addr).add j) = some u := by
  intro j u hu
  unfold Addr.add
  match j, hu with
  | 0, hu => simp [cs] at hu; subst hu; exact hB.c0
  | 1, hu => simp [cs] at hu; subst hu; exact hB.c1
  | j + 2, hu => simp [cs] at hu
theorem mrg_le (g : Int) (l : List I2) : (mrg g l).length ≤ l.length := mrg_len g l

set_option maxRecDepth 100000 in
set_option maxHeartbeats 2000000 in
theorem appendSeq_any (b1 b2 b3 : Nat) (a : Option Addr) (n cap : Nat) (l : List I2) (g : Int) (hok : ∀ x ∈ l, Ok x) (hlim : l.length < 8000000000000) (w : World) (hI : It w b1 b2 b3 a n cap l g) :
    Calls Try.prog 47 #[.slice none 0 0, .func (.func 48) #[] #[.pointer (some ⟨b1, 0, none⟩), .pointer (some ⟨b2, 0, none⟩)]] w (Mk (mrg g l) w) := by
  obtain ⟨i0, hi, hz0, hz1, hz2⟩ := info_parts infoI
  have hN := mrg_le g l
  have hst := iter_stops 4 b1 b2 b3 a n cap l g hok w hI
  generalize mrg g l = M at *
  refine (callsIn_wide (n := 5)).1 ?_
  refine callsIn_of_wp_marks Try.func47 rfl trivial ?_ rfl
  simp only [Try.ntmps47, List.size_toArray, List.length_cons, List.length_nil, Nat.reduceAdd, Nat.reduceSub, Array.replicate_succ, Array.replicate_zero, List.push_toArray, List.append_toArray, List.nil_append, List.cons_append]
  gi_wp2
  have bO := Boxed.new w 24 (.slice none 0 0)
  have hB0 : Below w.heap.size w (w.alloc (.cells #[.slice none 0 0] 24)) := (Below.refl _ w).alloc (Nat.le_refl _) _
  refine wpIn_rangeFunc_ownH rfl (by decide) (gf := 48) (lb := #[.pointer (some ⟨b1, 0, none⟩), .pointer (some ⟨b2, 0, none⟩)]) rfl trivial (enters_of Try.func48 (by kernel_rfl) rfl)
    hst keepIt_t (keepIt_b _) hB0 (fun _ => rfl)
    (fun pre W => (∃ v, Boxed W w.heap.size 24 v ∧ W.ownsRow w.heap.size 23 2 v pre.length (cs pre) ∧ True) ∧ Below w.heap.size w W)
    (fun _ _ _ => False)
    (OwnFrom.and (Own.from (holdsRow_own w.heap.size w.heap.size 24 23 2 (fun pre => pre.length) cs (fun _ _ => True)) _) (ownFrom_below (Nat.le_refl _) (by simp)))
    (fun _ _ _ _ _ hs _ _ => hs)
    ⟨⟨_, bO, World.ownsRow_nil _ _ _ _, trivial⟩, hB0⟩
    (fun x a' W => ∃ Bx, w.heap.size < Bx ∧ Bw W Bx x.1 x.2 ∧ a' = { tmps := #[.slice none 0 0, .func (.func 48) #[] #[.pointer (some ⟨b1, 0, none⟩), .pointer (some ⟨b2, 0, none⟩)], .pointer (some ⟨w.heap.size, 0, none⟩), undef, .slice none 0 0, .pointer (some ⟨Bx, 0, none⟩), .func (.func 48) #[] #[.pointer (some ⟨b1, 0, none⟩), .pointer (some ⟨b2, 0, none⟩)], .agg #[.int .i64 x.1, .int .i64 x.2], undef, undef, undef, undef, undef], defers := [] })
    (fun x a' _ X Y row hs hg hr => by obtain ⟨Bx, h1, h2, h3⟩ := hs; exact ⟨Bx, h1, h2.kept hg (fun r e => (hr r e).2), h3⟩)
    ?assign ?body ?done ?stop
  case assign =>
    rintro l pre x W K ⟨⟨v, hv, hrow, _⟩, hB⟩ hK
    gi_wp2
    exact hK _ _ ((KeepsOthers.alloc _ _).from _) (fun hx => hx.keeps (balloc (b0 W) _)) ⟨⟨_, hv.alloc _, hrow.alloc _, trivial⟩, hB.alloc hB.size _⟩ ⟨W.heap.size, hv.lt, Bw.new W _ _ _, rfl⟩
  case body =>
    rintro l pre x a' W hl ⟨r, hr⟩ ⟨⟨v, hv, hrow, _⟩, hB⟩ ⟨Bx, hBx, bX, rfl⟩ hlt
    obtain ⟨x1, x2⟩ := x
    obtain ⟨e0, e1, _, _⟩ := bX
    simp only at e0 e1
    have hc := hv.cell
    gi_wp2_with (gi_at_builtin; refine wpListIn_append_own _ rfl _ _ 24 rfl w.heap.size 23 i0 (.agg #[.int .i64 0, .int .i64 0]) 2 16 Try.underlying24 hi hz0 hz1 hz2 rfl (by decide) _ _ _ rfl (hrow.alloc _) ⟨W.heap.size, 0, none⟩ 1 1 (cs [(x1, x2)]) rfl rfl (bx_news (Bw.new W x1 x2 23)) (cs_one _) (by unfold maxLen; omega) (by omega) (by have := hB.size; simp; omega) ?_; intro v' w' hown' hgrow _; obtain ⟨g', cap', rfl⟩ := ownsRow_succ hown'; obtain ⟨hv1, hv2, hr2, hk2, hb2⟩ := hv.appended (by decide) hrow hB.size (Nat.le_refl _) hown' hgrow; have hc1 := hv1.cell; have hf1 := hv1.frozen)
    rw [← cs_append] at hr2
    rw [show pre.length + 1 = (pre ++ [(x1, x2)]).length from by simp] at hr2 hv2 hb2 hk2 ⊢
    exact ⟨hk2.from _, hI.under hb2, ⟨_, hv2, hr2⟩, hB.trans hb2⟩
  case done =>
    rintro D ys W hD rfl ⟨⟨v, hv, hrow, _⟩, hB⟩ hK
    have hc := hv.cell
    gi_wp2
    refine ⟨by simp, .inl ⟨_, _, rfl, run_takeDeferred hK, ?_⟩⟩
    exact ⟨_, results_tmp rfl _ _ _, v, rfl, ownsRow_putObj hrow _ hK rfl, hB.trans (belowK_b (w := w) (Nat.le_refl _) W D _ _ (by simp at hD; omega) hK rfl rfl)⟩
  case stop =>
    rintro D c pre W _ _ h _
    exact h.elim
theorem collect_any (b1 b2 b3 : Nat) (a : Option Addr) (n cap : Nat) (l : List I2) (g : Int) (hok : ∀ x ∈ l, Ok x) (hlim : l.length < 8000000000000) (w : World) (hI : It w b1 b2 b3 a n cap l g) :
    Calls Try.prog 34 #[.func (.func 48) #[] #[.pointer (some ⟨b1, 0, none⟩), .pointer (some ⟨b2, 0, none⟩)]] w (Mk (mrg g l) w) := by
  have C := Lib.hid (appendSeq_any b1 b2 b3 a n cap l g hok hlim w hI)
  generalize mrg g l = M at *
  clear hI
  go_enter Try.func34, Try.ntmps34
  go_wp2_with fail
  refine C.out.mono ?_
  rintro e w1 ⟨v, rfl, O, b⟩
  go_wp2_with fail
  go_ret
  exact ⟨v, rfl, O, b⟩
end Go.Proofs.Ytdhdofgdeljajaa
