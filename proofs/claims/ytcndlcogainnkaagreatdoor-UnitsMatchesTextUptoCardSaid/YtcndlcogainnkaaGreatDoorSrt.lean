/-
  sortBy: a slice of the call's own, by name.
-/
import Derived.Test.YtcndlcogainnkaaGreatDoorShelf
import Derived.Test.YtcndlcogainnkaaGreatDoorChk
import Derived.Shelf.SlSortCmp.QuietGrown
import Derived.BigQuiet
namespace Go.Proofs.YtcndlcogainnkaaGreatDoor
open Go.RowKit Go.Sort Go.Lib dec

def cS (a b : ByteArray) : Int := if ltS a b = true then -1 else if a.toList = b.toList then 0 else 1
theorem nan_any (s : ByteArray) (w : World) : Calls Tryz.prog 71 #[.string s] w fun e w' => e = .returned (.bool false) ∧ w' = w := by
  go_enter Tryz.func71, Tryz.ntmps71
  go_wp2
  go_ret
  exact ⟨rfl, rfl⟩
theorem cmps_any (a b : ByteArray) (w : World) : Calls Tryz.prog 55 #[.string a, .string b] w fun e w' => e = .returned (.int .i64 (cS a b)) ∧ w' = w := by
  go_enter Tryz.func55, Tryz.ntmps55
  go_wp2_with (go_at_call 71; refine (nan_any _ _).mono ?_; rintro e w' ⟨rfl, rfl⟩)
  all_goals go_ret
  all_goals refine ⟨congrArg (fun n => Ending.returned (Value.int .i64 n)) (Eq.symm ?_), rfl⟩
  all_goals simp_all [cS, ltS]
def enF (x : Fa) : List Value := [.string x.1, .int .i64 x.2]
theorem lt_enF (x y : Fa) : ltOf (fun x y : Fa => cS x.1 y.1) x y = ltS x.1 y.1 := by
  show decide (cS x.1 y.1 < 0) = _
  unfold cS
  cases h1 : ltS x.1 y.1
  · rw [if_neg Bool.false_ne_true]
    split <;> rfl
  · rw [if_pos rfl]
    rfl
/-- By name is a strict weak order. -/
theorem swo_enF : SWO (ltOf fun x y : Fa => cS x.1 y.1) where
  irrefl x := by rw [lt_enF]; exact ltS_irr _
  trans x y z h1 h2 := by rw [lt_enF] at *; exact ltS_tr h1 h2
  ntrans x y z h1 h2 := by
    rw [lt_enF] at *
    cases h : ltS x.1 z.1
    · rfl
    · exfalso
      by_cases e : x.1 = y.1
      · rw [e, h2] at h; cases h
      · have a := ltS_tri h1 e
        have := ltS_tr a h
        rw [h2] at this; cases this
theorem asz (w : World) (o : Obj) : (w.alloc o).heap.size = w.heap.size + 1 := by simp
theorem grow2 (W : World) (o1 o2 : Obj) : ∃ os, (W.alloc o1).alloc o2 = grow W os := ⟨_, by rw [alloc_eq_grow, alloc_eq_grow, grow_grow]⟩
theorem grow_none (w : World) : grow (w.drewN 0) #[] = w := by rw [grow_empty]; rfl
theorem key_any (x : Fa) (w : World) : Calls Tryz.prog 33 #[.agg #[.string x.1, .int .i64 x.2]] w fun e w' => e = .returned (.string x.1) ∧ ∃ q os', w' = grow (w.drewN q) os' := by
  go_enter Tryz.func33, Tryz.ntmps33
  go_wp2_with fail
  go_ret
  exact ⟨rfl, 0, _, by rw [alloc_eq_grow]; rfl⟩
set_option maxRecDepth 100000 in
set_option maxHeartbeats 1000000 in
theorem less_any (x y : Fa) (kb : Nat) (W : World) (hk : W.cell? ⟨kb, 0, none⟩ = some (.func (.func 33) #[] #[])) :
    Calls Tryz.prog 54 #[.agg #[.string x.1, .int .i64 x.2], .agg #[.string y.1, .int .i64 y.2], .pointer (some ⟨kb, 0, none⟩)] W fun e w' => e = .returned (.int .i64 (cS x.1 y.1)) ∧ ∃ q os', w' = grow (W.drewN q) os' := by
  have mixed : Tryz.prog.follows .mixedOrders = true := by kernel_rfl
  have K1 := Lib.hid key_any
  have hcon := Lib.hid (fun W' => cmps_any x.1 y.1 W')
  generalize cS x.1 y.1 = r at hcon ⊢
  have hkl := block_lt_of_cell hk
  go_enter Tryz.func54, Tryz.ntmps54
  go_wp2_with fail
  have B1 := (Bw.new W x 37).past (.cells #[.string y.1, .int .i64 y.2] 37)
  have B2 := Bw.new (W.alloc (.cells #[.string x.1, .int .i64 x.2] 37)) y 37
  rw [asz] at B2
  have hk2 := keeps_alloc (.cells #[.string y.1, .int .i64 y.2] 37) (keeps_alloc (.cells #[.string x.1, .int .i64 x.2] 37) hk)
  have hz : ((W.alloc (.cells #[.string x.1, .int .i64 x.2] 37)).alloc (.cells #[.string y.1, .int .i64 y.2] 37)).heap.size = W.heap.size + 2 := by simp
  have hW := grow2 W (.cells #[.string x.1, .int .i64 x.2] 37) (.cells #[.string y.1, .int .i64 y.2] 37)
  generalize hW2 : (W.alloc (.cells #[.string x.1, .int .i64 x.2] 37)).alloc (.cells #[.string y.1, .int .i64 y.2] 37) = W2 at *
  have k0 : ∀ n os, (grow (W2.drewN n) os).cell? ⟨kb, 0, none⟩ = _ := cell_grown (by show kb < _; omega) hk2
  have x0 : ∀ n os, (grow (W2.drewN n) os).cell? ⟨W.heap.size, 0, none⟩ = _ := cell_grown (by show W.heap.size < _; omega) B1.c0
  have x1 : ∀ n os, (grow (W2.drewN n) os).cell? ⟨W.heap.size, 1, none⟩ = _ := cell_grown (by show W.heap.size < _; omega) B1.c1
  have y0 : ∀ n os, (grow (W2.drewN n) os).cell? ⟨W.heap.size + 1, 0, none⟩ = _ := cell_grown (by show W.heap.size + 1 < _; omega) B2.c0
  have y1 : ∀ n os, (grow (W2.drewN n) os).cell? ⟨W.heap.size + 1, 1, none⟩ = _ := cell_grown (by show W.heap.size + 1 < _; omega) B2.c1
  clear B1 B2 hk2 hz hk hW2 hkl
  generalize W.heap.size = g at *
  go_quiet_grown (first | (go_at_call 33; first | exact Calls.grown_of (K1.out x _) | exact Calls.grown_of (K1.out y _)) | (go_at_call 55; exact Calls.grown_of ((hcon.out _).mono fun e w' h => ⟨h.1, 0, #[], h.2.trans (grow_none _).symm⟩)))
  go_wp2_with fail
  go_ret
  refine ⟨rfl, ?_⟩
  obtain ⟨os, rfl⟩ := hW
  exact ⟨nq, os ++ osq, by rw [← grow_grow]; rfl⟩
def WSrt (l : List Fa) : Prop := l.Pairwise fun x y => ltS y.1 x.1 = false
theorem cmpLays_any (blk off size kb : Nat) (w : World) (hk : w.cell? ⟨kb, 0, none⟩ = some (.func (.func 33) #[] #[])) (hne : kb ≠ blk) :
    CmpLays Tryz.prog 54 #[.pointer (some ⟨kb, 0, none⟩)] enF 2 (fun x y => cS x.1 y.1) blk off size w := by
  intro m os dk _ x y
  refine less_any x y kb _ ?_
  have hl := block_lt_of_cell hk
  have hkl : kb < w.heap.size := hl
  unfold sortWorldK
  rw [cell?_grow _ _ _ (by show kb < _; simpa [putRowK, putRow, mapBlock, Sort.ahead] using hkl), cell?_putRowK_other enF 2 _ _ _ _ _ hne]
  exact hk
theorem grownBy_put {w : World} {g n : Nat} {os : Array Obj} (d : Array Value) : w.grownBy (grow (putRow id (Sort.ahead w n) g 0 d) os) (some g) := by
  refine ⟨rfl, rfl, rfl, by simp, fun k hk hne => ?_⟩
  rw [heap_grow_old _ _ (by simpa using hk)]
  have : g ≠ k := fun e => hne (by rw [e])
  simp [putRow, mapBlock, Sort.ahead, Array.getElem?_modify, this]
theorem holds_cl {w : World} {g : Nat} {l : List Fa} (h : Cl w g 0 l) (hf : ∀ j, j < l.length → w.frozen? ⟨g, j * 2, none⟩ = false ∧ w.frozen? ⟨g, j * 2 + 1, none⟩ = false) : HoldsK enF 2 w g 0 l.toArray := by
  intro j hj
  have hj' : j < l.length * 2 := by simpa using hj
  have hd : j / 2 < l.length := by omega
  obtain ⟨c0, c1⟩ := h (j / 2) hd
  obtain ⟨f0, f1⟩ := hf (j / 2) hd
  rw [get_flatK enF 2 _ _ (by simpa using hj')]
  have e1 : l.toArray[j / 2]! = gt l (j / 2) := by
    rw [gt_eq hd]
    simp [hd]
  rw [e1]
  rcases Nat.mod_two_eq_zero_or_one j with hm | hm
  · have : j / 2 * 2 = j := by omega
    rw [this] at c0 f0
    rw [hm]
    exact ⟨c0, by rw [Nat.zero_add]; exact f0⟩
  · have : j / 2 * 2 + 1 = j := by omega
    rw [Nat.add_assoc, this] at c1
    rw [this] at f1
    rw [hm]
    exact ⟨c1, by rw [Nat.zero_add]; exact f1⟩
theorem cl_holds {w : World} {g : Nat} {d : Array Fa} (h : HoldsK enF 2 w g 0 d) : Cl w g 0 d.toList := by
  intro j hj
  have hj' : j < d.size := by simpa using hj
  have e1 : d[j]! = gt d.toList j := by
    rw [gt_eq hj]
    simp [hj']
  have h0 := (h.cell (c := 0) hj' (by decide)).1
  have h1 := (h.cell (c := 1) hj' (by decide)).1
  rw [e1] at h0 h1
  exact ⟨h0, h1⟩
/-- SortFunc over a slice that the call has made. -/
theorem sort_any (base : Nat) (v : Value) (l : List Fa) (kb : Nat) (w : World) (hO : Own w base v l) (hn : l.length < 5864062014805) (hb : base ≤ w.heap.size) (hk : w.cell? ⟨kb, 0, none⟩ = some (.func (.func 33) #[] #[])) (hkn : ∀ g, v.ownBlock = some g → kb ≠ g) :
    Calls Tryz.prog 53 #[v, .func (.func 54) #[] #[.pointer (some ⟨kb, 0, none⟩)]] w fun e w' => e = .returned (.tuple #[]) ∧ ∃ a cap s, v = .slice a l.length cap ∧ s.Perm l ∧ WSrt s ∧ Sl w' a l.length cap s ∧ (∀ x, a = some x → base ≤ x.block) ∧ Below base w w' := by
  rcases hO.out with ⟨rfl, rfl⟩ | ⟨g, cap, rfl, hbg, hg, hc, hm, hC, hF⟩
  · have hS := AnyF.slices_SortFunc_none (P := Tryz.prog) (ρ := Tryz.sortFa_ren) { Tryz.sortFa with } none 0 (.func (.func 54) #[] #[.pointer (some ⟨kb, 0, none⟩)]) w
    refine (show Calls Tryz.prog 53 _ _ _ from hS).mono ?_
    rintro e w' ⟨rfl, rfl⟩
    exact ⟨rfl, none, 0, [], rfl, List.Perm.refl _, by simp [WSrt], .nil _, fun x h => (by cases h), Below.refl _ _⟩
  · have eg : ∀ args w, (callFunc 54 args).run Tryz.prog w = .ok (.enter 54 args) w := enters_of Tryz.func54 (by kernel_rfl) rfl
    have hkg : kb ≠ g := hkn g rfl
    have hcon := AnyQ.slices_SortFunc Tryz.sortFa 2 Tryz.isAgg37 Tryz.sizeOf37 enF (fun _ => rfl) (fun x v hv => by simp [enF] at hv; rcases hv with rfl | rfl <;> rfl) (fun x y => cS x.1 y.1) swo_enF 54 #[.pointer (some ⟨kb, 0, none⟩)] g 0 cap l.toArray w eg (cmpLays_any g 0 _ kb w hk hkg) (holds_cl hC hF) hg (by simp; omega)
    simp only [List.size_toArray] at hcon
    refine (show Calls Tryz.prog 53 _ _ _ from hcon).mono ?_
    rintro e w' ⟨rfl, d', n, os, hp, hs, rfl⟩
    have hsz : d'.size = l.length := by have := hp.1; simpa using this
    have hpl : d'.toList.Perm l := by
      have := hp.2.2
      simp only [← hsz, Array.extract_size] at this
      simpa [hsz] using this
    have hH : HoldsK enF 2 (sortWorldK enF 2 w g 0 n d' os) g 0 d' := holdsK_grow enF 2 _ os g 0 d' (by unfold putRowK; simpa using hg) (holdsK_putRowK enF 2 (Sort.ahead w n) g 0 l.toArray d' (holdsK_ahead enF 2 w n g 0 _ (holds_cl hC hF)) (by simpa using hsz))
    refine ⟨rfl, _, cap, d'.toList, rfl, hpl, ?_, ⟨.inr ⟨g, 0, rfl, cl_holds hH⟩, by simpa using hsz, hc, hm, fun h => by cases h⟩, fun x h => (by cases h; exact hbg), (Below.refl base w).grown (grownBy_put _) hb (fun k hk => by cases hk; exact hbg)⟩
    unfold WSrt
    rw [List.pairwise_iff_getElem]
    intro i j hi hj hij
    have h1 := hs i j (Nat.zero_le _) hij (by rw [← hsz]; simpa using hj)
    rw [lt_enF] at h1
    simp at hi hj
    simp [hi, hj] at h1
    simpa using h1
end Go.Proofs.YtcndlcogainnkaaGreatDoor
