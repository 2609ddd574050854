/-
  slices.SortFunc over a slice of the call's own, by where the intervals begin.
-/
import Derived.Test.YtdhdofgdeljajaaShelf
import Derived.Test.YtdhdofgdeljajaaRbk
namespace Go.Proofs.Ytdhdofgdeljajaa
open Go.RowKit Go.Sort Go.Lib

def enI (x : I2) : List Value := [.int .i64 x.1, .int .i64 x.2]
theorem lt_enI (x y : I2) : ltOf (fun x y : I2 => Lib.compareInt x.1 y.1) x y = decide (x.1 < y.1) := by
  unfold ltOf Lib.compareInt
  by_cases h1 : x.1 < y.1
  · simp [h1]
  · by_cases h2 : y.1 < x.1 <;> simp [h1, h2]
/-- 'begins earlier' is a strict weak order. -/
theorem swo_enI : SWO (ltOf fun x y : I2 => Lib.compareInt x.1 y.1) where
  irrefl x := by rw [lt_enI]; simp
  trans x y z h1 h2 := by rw [lt_enI] at *; simp at *; omega
  ntrans x y z h1 h2 := by rw [lt_enI] at *; simp at *; omega
set_option maxHeartbeats 1000000 in
theorem byFrom_any (x y : I2) (W : World) : Calls Try.prog 33 #[.agg #[.int .i64 x.1, .int .i64 x.2], .agg #[.int .i64 y.1, .int .i64 y.2]] W fun e w' => e = .returned (.int .i64 (Lib.compareInt x.1 y.1)) ∧ ∃ q os', w' = grow (W.drewN q) os' := by
  have hcon := fun W' => Try.cmp_Compare_int x.1 y.1 W'
  generalize Lib.compareInt x.1 y.1 = r at hcon ⊢
  go_enter Try.func33, Try.ntmps33
  go_wp2_with (go_at_call 46; refine (hcon _).mono ?_; rintro e w' ⟨rfl, rfl⟩)
  go_ret
  exact ⟨rfl, 0, _, by rw [alloc_eq_grow, alloc_eq_grow, grow_grow]; rfl⟩
theorem cmpLays_any (blk off size : Nat) (w : World) : CmpLays Try.prog 33 #[] enI 2 (fun x y => Lib.compareInt x.1 y.1) blk off size w :=
  fun _ _ _ _ x y => byFrom_any x y _
theorem grownBy_put {w : World} {g n : Nat} {os : Array Obj} (d : Array Value) : w.grownBy (grow (putRow id (Sort.ahead w n) g 0 d) os) (some g) := by
  refine ⟨rfl, rfl, rfl, by simp, fun k hk hne => ?_⟩
  rw [heap_grow_old _ _ (by simpa using hk)]
  have : g ≠ k := fun e => hne (by rw [e])
  simp [putRow, mapBlock, Sort.ahead, Array.getElem?_modify, this]
theorem holds_cl {w : World} {g : Nat} {l : List I2} (h : Cl w g 0 l) (hf : ∀ j, j < l.length → w.frozen? ⟨g, j * 2, none⟩ = false ∧ w.frozen? ⟨g, j * 2 + 1, none⟩ = false) : HoldsK enI 2 w g 0 l.toArray := by
  intro j hj
  have hj' : j < l.length * 2 := by simpa using hj
  have hd : j / 2 < l.length := by omega
  obtain ⟨c0, c1⟩ := h (j / 2) hd
  obtain ⟨f0, f1⟩ := hf (j / 2) hd
  rw [get_flatK enI 2 _ _ (by simpa using hj')]
  have e1 : l.toArray[j / 2]! = gt l (j / 2) := by
    rw [gt_eq hd]
    simp [hd]
  rw [e1]
  rcases Nat.mod_two_eq_zero_or_one j with hm | hm
  · have : j / 2 * 2 = j := by omega
    rw [this] at c0 f0
    rw [hm]
    exact ⟨c0, by rw [Nat.zero_add]; exact f0⟩
  · have : j / 2 * 2 + 1 = j := by omega
    rw [Nat.add_assoc, this] at c1
    rw [this] at f1
    rw [hm]
    exact ⟨c1, by rw [Nat.zero_add]; exact f1⟩
theorem cl_holds {w : World} {g : Nat} {d : Array I2} (h : HoldsK enI 2 w g 0 d) : Cl w g 0 d.toList := by
  intro j hj
  have hj' : j < d.size := by simpa using hj
  have e1 : d[j]! = gt d.toList j := by
    rw [gt_eq hj]
    simp [hj']
  have h0 := (h.cell (c := 0) hj' (by decide)).1
  have h1 := (h.cell (c := 1) hj' (by decide)).1
  rw [e1] at h0 h1
  exact ⟨h0, h1⟩
/-- SortFunc over a slice that the call has made. -/
theorem sort_any (base : Nat) (v : Value) (l : List I2) (w : World) (hO : Own w base v l) (hn : l.length < 8000000000000) (hb : base ≤ w.heap.size) :
    Calls Try.prog 32 #[v, .func (.func 33) #[] #[]] w fun e w' => e = .returned (.tuple #[]) ∧ ∃ a cap s, v = .slice a l.length cap ∧ s.Perm l ∧ Asc s ∧ Sl w' a l.length cap s ∧ (∀ x, a = some x → base ≤ x.block) ∧ Below base w w' := by
  rcases hO.out with ⟨rfl, rfl⟩ | ⟨g, cap, rfl, hbg, hg, hc, hm, hC, hF⟩
  · have hS := AnyF.slices_SortFunc_none (P := Try.prog) (ρ := Try.sortIv_ren) { Try.sortIv with } none 0 (.func (.func 33) #[] #[]) w
    refine (show Calls Try.prog 32 _ _ _ from hS).mono ?_
    rintro e w' ⟨rfl, rfl⟩
    exact ⟨rfl, none, 0, [], rfl, List.Perm.refl _, by simp [Asc], .nil _, fun x h => (by cases h), Below.refl _ _⟩
  · have eg : ∀ args w, (callFunc 33 args).run Try.prog w = .ok (.enter 33 args) w := enters_of Try.func33 (by kernel_rfl) rfl
    have hcon := AnyQ.slices_SortFunc Try.sortIv 2 Try.isAgg23 Try.sizeOf23 enI (fun _ => rfl) (fun x v hv => by simp [enI] at hv; rcases hv with rfl | rfl <;> rfl) (fun x y => Lib.compareInt x.1 y.1) swo_enI 33 #[] g 0 cap l.toArray w eg (cmpLays_any g 0 _ w) (holds_cl hC hF) hg (by simp; omega)
    simp only [List.size_toArray] at hcon
    refine (show Calls Try.prog 32 _ _ _ from hcon).mono ?_
    rintro e w' ⟨rfl, d', n, os, hp, hs, rfl⟩
    have hsz : d'.size = l.length := by have := hp.1; simpa using this
    have hpl : d'.toList.Perm l := by
      have := hp.2.2
      simp only [← hsz, Array.extract_size] at this
      simpa [hsz] using this
    have hH : HoldsK enI 2 (sortWorldK enI 2 w g 0 n d' os) g 0 d' := holdsK_grow enI 2 _ os g 0 d' (by unfold putRowK; simpa using hg) (holdsK_putRowK enI 2 (Sort.ahead w n) g 0 l.toArray d' (holdsK_ahead enI 2 w n g 0 _ (holds_cl hC hF)) (by simpa using hsz))
    refine ⟨rfl, _, cap, d'.toList, rfl, hpl, ?_, ⟨.inr ⟨g, 0, rfl, cl_holds hH⟩, by simpa using hsz, hc, hm, fun h => by cases h⟩, fun x h => (by cases h; exact hbg), (Below.refl base w).grown (grownBy_put _) hb (fun k hk => by cases hk; exact hbg)⟩
    unfold Asc
    rw [List.pairwise_iff_getElem]
    intro i j hi hj hij
    have h1 := hs i j (Nat.zero_le _) hij (by rw [← hsz]; simpa using hj)
    rw [lt_enI] at h1
    simp at hi hj
    simp [hi, hj] at h1
    simpa using h1
end Go.Proofs.Ytdhdofgdeljajaa
