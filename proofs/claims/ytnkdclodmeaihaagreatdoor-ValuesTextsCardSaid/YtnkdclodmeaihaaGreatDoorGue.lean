/-
  asofref05.guess: for every string.
-/
import Derived.Test.YtnkdclodmeaihaaGreatDoorRwh
import Derived.Test.YtnkdclodmeaihaaGreatDoorPsv
import Derived.Laws.DeepStrings4
namespace Go.Proofs.YtnkdclodmeaihaaGreatDoor
open Go.RowKit dec

theorem mem_at (s : ByteArray) {j : Nat} (hj : j < s.size) : s[j] ∈ s.data.toList := by
  have h : j < s.data.toList.length := by rw [← Lib.size_eq]; exact hj
  exact List.getElem_mem h
theorem at_mem (s : ByteArray) {c : UInt8} (h : c ∈ s.data.toList) : ∃ (j : Nat) (hj : j < s.size), s[j] = c := by
  obtain ⟨j, hj, e⟩ := List.getElem_of_mem h
  exact ⟨j, by rw [Lib.size_eq]; exact hj, e⟩
theorem getD_lit (s : ByteArray) {p : Nat} (h : p < s.size) (c : Nat) (hc : c < 256) : (s.data.toList.getD p 0 = UInt8.ofNat c) = (s[p].toNat = c) := by
  rw [getD_at' s h]
  exact propext ⟨fun e => by rw [e, UInt8.toNat_ofNat', Nat.mod_eq_of_lt hc], fun e => UInt8.toNat_inj.1 (by rw [e, UInt8.toNat_ofNat', Nat.mod_eq_of_lt hc])⟩
/-- s[1 : n-1]. -/
theorem slice_in (s : ByteArray) (h : 2 ≤ s.size) (W : World) : (Instr.slice 9 (.string s) (some (.int .i64 1)) (some (.int .i64 ((s.size : Int) - 1))) none).run Tryz.prog W = .ok (.string ⟨((s.data.toList.drop 1).take (s.size - 2)).toArray⟩) W := by
  rw [run_slice_string_if W 9 s .i64 .i64 1 ((s.size : Int) - 1) Tryz.underlying9, if_pos ⟨by omega, by omega⟩, if_pos ⟨by omega, by omega⟩]
  congr 2
  apply ByteArray.ext
  apply Array.ext'
  rw [Lib.extract_data]
  show ((s.data.toList.drop 1).take (((s.size : Int) - 1).toNat - 1)) = _
  rw [show ((s.size : Int) - 1).toNat - 1 = s.size - 2 by omega]

/-- The ways of asofref05.guess that come to its loop. -/
theorem gs_ways (s : ByteArray) (h0 : ¬ s.data.toList = [116, 114, 117, 101]) (h1 : ¬ s.data.toList = [102, 97, 108, 115, 101]) :
    (∃ (h2 : 2 ≤ s.size), s[0].toNat = 34 ∧ s[s.size - 1].toNat = 34 ∧ gsP s.data.toList = ⟨4, 0, ⟨((s.data.toList.drop 1).take (s.size - 2)).toArray⟩⟩)
    ∨ (∃ (h2 : 1 ≤ s.size), s[0].toNat = 64 ∧ gsP s.data.toList = ⟨5, 0, ⟨(s.data.toList.drop 1).toArray⟩⟩)
    ∨ ((s.size = 0 ∨ (s.size = 1 ∧ ∃ h : 0 < s.size, s[0].toNat ≠ 64) ∨ (2 ≤ s.size ∧ ∃ h : 0 < s.size, s[0].toNat ≠ 34 ∧ s[0].toNat ≠ 64) ∨ (∃ h : 2 ≤ s.size, s[0].toNat = 34 ∧ s[s.size - 1].toNat ≠ 34)) ∧ gsP s.data.toList = if 46 ∈ s.data.toList then ⟨3, (rpP s.data.toList).1, .empty⟩ else whP s.data.toList) := by
  have hl : s.data.toList.length = s.size := (Lib.size_eq s).symm
  unfold gsP
  rw [if_neg h0, if_neg h1, hl]
  by_cases e0 : s.size = 0
  · refine .inr (.inr ⟨.inl e0, ?_⟩)
    rw [if_neg (by omega), if_neg (by omega)]
  have hp : 0 < s.size := by omega
  have g0 : ∀ c : Nat, c < 256 → (s.data.toList.getD 0 0 = UInt8.ofNat c) = (s[0].toNat = c) := fun c hc => getD_lit s hp c hc
  have g1 : ∀ c : Nat, c < 256 → (s.data.toList.getD (s.size - 1) 0 = UInt8.ofNat c) = (s[s.size - 1].toNat = c) := fun c hc => getD_lit s (by omega) c hc
  have a0 := g0 34 (by omega)
  have a1 := g0 64 (by omega)
  have a2 := g1 34 (by omega)
  rw [show UInt8.ofNat 34 = (34 : UInt8) from rfl] at a0 a2
  rw [show UInt8.ofNat 64 = (64 : UInt8) from rfl] at a1
  simp only [a0, a1, a2]
  by_cases e1 : s[0].toNat = 64
  · refine .inr (.inl ⟨by omega, e1, ?_⟩)
    rw [if_neg (by omega), if_pos ⟨by omega, e1⟩]
  rw [if_neg (c := 1 ≤ s.size ∧ s[0].toNat = 64) (fun h => e1 h.2)]
  by_cases e2 : s.size = 1
  · refine .inr (.inr ⟨.inr (.inl ⟨e2, hp, e1⟩), ?_⟩)
    rw [if_neg (by omega)]
  by_cases e3 : s[0].toNat = 34
  · by_cases e4 : s[s.size - 1].toNat = 34
    · refine .inl ⟨by omega, e3, e4, ?_⟩
      rw [if_pos ⟨by omega, e3, e4⟩]
    · refine .inr (.inr ⟨.inr (.inr (.inr ⟨by omega, e3, e4⟩)), ?_⟩)
      rw [if_neg (fun h => e4 h.2.2)]
  · refine .inr (.inr ⟨.inr (.inr (.inl ⟨by omega, hp, e3, e1⟩)), ?_⟩)
    rw [if_neg (fun h => e3 h.2.1)]

set_option maxRecDepth 20000 in
set_option maxHeartbeats 4000000 in
theorem guess_any (s : ByteArray) (hs : s.size ≤ 1048576) (w : World) (v : Va) (hV : gsP s.data.toList = v) :
    Calls Tryz.prog 21 #[.string s] w fun e w' => e = .returned (.agg #[.int .i64 v.k, .int .i64 v.n, .string v.s]) ∧ Below w.heap.size w w' := by
  have V := Vw.new w 0 0 ⟨#[]⟩ 23
  have b := balloc (b0 w) (.cells #[.int .i64 0, .int .i64 0, .string ⟨#[]⟩] 23)
  have hl : s.toList = s.data.toList := ByteArray.toList_eq s
  by_cases e0 : s.data.toList = [116, 114, 117, 101]
  · have h0 : (s.toList == [116, 114, 117, 101]) = true := by rw [hl, beq_iff_eq]; exact e0
    have hv : v = ⟨1, 1, .empty⟩ := by rw [← hV, e0]; rfl
    subst hv
    clear hV e0 hl
    go_enter Tryz.func21, Tryz.ntmps21
    go_wp2_with fail
    all_goals simp [bodyPost, results, Tryz.results21, go_sem]
    all_goals first | exact ⟨rfl, balloc (b0 w) _⟩ | exact balloc (b0 w) _
  have h0 : (s.toList == [116, 114, 117, 101]) = false := by rw [hl, beq_eq_false_iff_ne]; exact e0
  by_cases e1 : s.data.toList = [102, 97, 108, 115, 101]
  · have h1 : (s.toList == [102, 97, 108, 115, 101]) = true := by rw [hl, beq_iff_eq]; exact e1
    have hv : v = ⟨1, 0, .empty⟩ := by rw [← hV, e1]; rfl
    subst hv
    clear hV e0 e1 hl
    go_enter Tryz.func21, Tryz.ntmps21
    go_wp2_with fail
    all_goals simp [bodyPost, results, Tryz.results21, go_sem]
    all_goals first | exact ⟨rfl, balloc (b0 w) _⟩ | exact balloc (b0 w) _
  have h1 : (s.toList == [102, 97, 108, 115, 101]) = false := by rw [hl, beq_eq_false_iff_ne]; exact e1
  have hw := gs_ways s e0 e1
  rw [hV] at hw
  clear e0 e1 hl hV
  rcases hw with ⟨h2, q1, q2, rfl⟩ | ⟨h2, q1, rfl⟩ | ⟨hw, hv⟩
  · have hsl := slice_in s h2
    generalize ((s.data.toList.drop 1).take (s.size - 2)) = t at *
    have z2 : decide ((2 : Int) ≤ (s.size : Int)) = true := decide_eq_true (by omega)
    have t34 : (((s[0].toNat : Nat) : Int) == 34) = true := by rw [beq_iff_eq]; omega
    have u34 : (((s[s.size - 1].toNat : Nat) : Int) == 34) = true := by rw [beq_iff_eq]; omega
    go_enter Tryz.func21, Tryz.ntmps21
    go_wp2_with fail
    all_goals simp [bodyPost, results, Tryz.results21, go_sem]
    all_goals first | exact ⟨rfl, balloc (b0 w) _⟩ | exact balloc (b0 w) _
  · have hsl := slice_s s h2
    generalize s.data.toList.drop 1 = t at *
    have t64 : (((s[0].toNat : Nat) : Int) == 64) = true := by rw [beq_iff_eq]; omega
    have t34 : (((s[0].toNat : Nat) : Int) == 34) = false := by rw [beq_eq_false_iff_ne]; omega
    go_enter Tryz.func21, Tryz.ntmps21
    go_wp2_with fail
    all_goals simp [bodyPost, results, Tryz.results21, go_sem]
    all_goals first | exact ⟨rfl, balloc (b0 w) _⟩ | exact balloc (b0 w) _
  have hv46 : (46 ∉ s.data.toList → whP s.data.toList = v) ∧ (46 ∈ s.data.toList → v = ⟨3, (rpP s.data.toList).1, .empty⟩) := by
    constructor
    · intro h; rw [if_neg h] at hv; exact hv.symm
    · intro h; rw [if_pos h] at hv; exact hv
  have HV := Lib.hid hv46
  have CP := Lib.hid (fun w => rparse02_any s hs w)
  have CW := Lib.hid (fun w h => whole_any s hs w v h)
  have V0 := Lib.hid V
  have B0 := Lib.hid b
  clear hv hv46 V b
  have hw' : (s.size = 0) ∨ (s.size = 1 ∧ ∃ h : 0 < s.size, (((s[0].toNat : Nat) : Int) == 64) = false) ∨ (2 ≤ s.size ∧ ∃ h : 0 < s.size, (((s[0].toNat : Nat) : Int) == 34) = false ∧ (((s[0].toNat : Nat) : Int) == 64) = false) ∨ (∃ h : 2 ≤ s.size, (((s[0].toNat : Nat) : Int) == 34) = true ∧ (((s[0].toNat : Nat) : Int) == 64) = false ∧ (((s[s.size - 1].toNat : Nat) : Int) == 34) = false) := by
    rcases hw with h | ⟨h, h', g⟩ | ⟨h, h', g, g'⟩ | ⟨h, g, g'⟩
    · exact .inl h
    · exact .inr (.inl ⟨h, h', by rw [beq_eq_false_iff_ne]; omega⟩)
    · exact .inr (.inr (.inl ⟨h, h', by rw [beq_eq_false_iff_ne]; omega, by rw [beq_eq_false_iff_ne]; omega⟩))
    · exact .inr (.inr (.inr ⟨h, by rw [beq_iff_eq]; omega, by rw [beq_eq_false_iff_ne]; omega, by rw [beq_eq_false_iff_ne]; omega⟩))
  clear hw
  rcases hw' with hz | ⟨hz, hz', t64⟩ | ⟨hz, hz', t34, t64⟩ | ⟨hz, t34, t64, u34⟩
  all_goals
    first
      | (have p2 : decide ((2 : Int) ≤ (s.size : Int)) = true := decide_eq_true (by omega))
      | (have p2 : decide ((2 : Int) ≤ (s.size : Int)) = false := decide_eq_false (by omega))
    first
      | (have p1 : decide ((1 : Int) ≤ (s.size : Int)) = true := decide_eq_true (by omega))
      | (have p1 : decide ((1 : Int) ≤ (s.size : Int)) = false := decide_eq_false (by omega))
    try clear hz
    go_enter Tryz.func21, Tryz.ntmps21
    go_wp2_with fail
    go_loopw [4] (fun vi wr => ∃ j : Nat, j ≤ s.size ∧ vi = .int .i64 (j : Nat) ∧ Hid (∀ (k : Nat) (hk : k < s.size), k < j → s[k].toNat ≠ 46) ∧ Vw wr w.heap.size 0 0 ⟨#[]⟩ ∧ Below w.heap.size w wr) (fun vi _ => s.size - (intOf vi).toNat)
    case atStart => exact ⟨0, by omega, rfl, (fun k hk h => absurd h (Nat.not_lt_zero _)), V0.out, B0.out⟩
    case round =>
      obtain ⟨j, hj, rfl, hd, V, b⟩ := hrel
      obtain ⟨⟨c0, c1, c2⟩, f0, f1, f2⟩ := id V
      clear V0 B0
      by_cases hc : j < s.size
      · by_cases h46 : s[j].toNat = 46
        · have hm : 46 ∈ s.data.toList := by
            have := mem_at s hc
            rw [show s[j] = 46 from UInt8.toNat_inj.1 h46] at this
            exact this
          have hv := HV.out.2 hm
          have t46 : (((s[j].toNat : Nat) : Int) == 46) = true := by rw [beq_iff_eq]; omega
          subst hv
          clear hm HV h46 hd CW
          go_wp2_with fail
          refine (CP.out _).mono ?_
          rintro e w1 ⟨rfl, rfl⟩
          go_wp2_with fail
          obtain ⟨r0, r1, r2⟩ := (V.put 3 (rpP s.data.toList).1 ⟨#[]⟩).val
          simp [bodyPost, results, Tryz.results21, go_sem, r0, r1, r2]
          first | exact ⟨rfl, put_below b (Nat.le_refl _) _ _ _⟩ | exact put_below b (Nat.le_refl _) _ _ _
        · have t46 : (((s[j].toNat : Nat) : Int) == 46) = false := by rw [beq_eq_false_iff_ne]; omega
          have HD : Hid (∀ (k : Nat) (hk : k < s.size), k < j + 1 → s[k].toNat ≠ 46) := by
            intro k hk hkj
            rcases Nat.lt_or_ge k j with h | h
            · exact hd.out k hk h
            · have : k = j := by omega
              subst this
              exact h46
          clear hd h46 HV CW CP
          go_wp2_with fail
          first
            | (refine ⟨⟨j + 1, by omega, rfl, HD, V, b⟩, ?_⟩; show s.size - ((j : Int) + 1).toNat < s.size - ((j : Nat) : Int).toNat; omega)
            | (go_roundw
               case rel => first | exact ⟨j + 1, by omega, rfl, HD, V, b⟩ | ((repeat apply Exists.intro); exact ⟨⟨j + 1, by omega, rfl, HD, V, b⟩, rfl⟩)
               case measure => simp [intOf]; omega)
      · have hm : 46 ∉ s.data.toList := by
          intro h
          obtain ⟨k, hk, e⟩ := at_mem s h
          refine hd.out k hk (by omega) ?_
          rw [e]; rfl
        have hW := HV.out.1 hm
        have C := Lib.hid (CW.out wr hW)
        clear hm hW HV CW CP hd
        go_wp2_with fail
        refine (C.out).mono ?_
        rintro e w1 ⟨rfl, b1⟩
        have V1 := (V.keeps b1)
        clear c0 c1 c2 f0 f1 f2
        obtain ⟨⟨c0, c1, c2⟩, f0, f1, f2⟩ := id V1
        replace b := bnext b b1
        clear b1 V C
        go_wp2_with fail
        obtain ⟨r0, r1, r2⟩ := (V1.put v.k v.n v.s).val
        simp [bodyPost, results, Tryz.results21, go_sem, r0, r1, r2]
        first | exact ⟨rfl, put_below b (Nat.le_refl _) _ _ _⟩ | exact put_below b (Nat.le_refl _) _ _ _
end Go.Proofs.YtnkdclodmeaihaaGreatDoor
