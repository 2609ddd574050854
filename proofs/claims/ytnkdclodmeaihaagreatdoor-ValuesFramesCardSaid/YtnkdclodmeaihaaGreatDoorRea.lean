/-
  values.Read: for all bytes and offsets.
-/
import Derived.Test.YtnkdclodmeaihaaGreatDoorRdv
namespace Go.Proofs.YtnkdclodmeaihaaGreatDoor
open Go.RowKit dec

theorem rT_len (l : List Nat) (z : Int) : (rT l z).1.length ≤ l.length := by
  unfold rT
  split
  · exact Nat.zero_le _
  · split
    · split
      · exact Nat.zero_le _
      · simp only [List.length_take, List.length_drop]; omega
    · exact Nat.zero_le _
theorem rC_size (k : Nat) (l : List Nat) (p : Nat) : (rC k l p).1.s.size ≤ l.length := by
  have h0 : (.empty : ByteArray).size ≤ l.length := by show 0 ≤ _; omega
  unfold rC
  (repeat' split) <;> try exact h0
  show (st_of _).size ≤ _
  rw [st_of_size]
  exact rT_len _ _
theorem readV_any (a : Option Addr) (n c : Nat) (l : List Nat) (z : Int) (w : World) (hA : Li w a n c l) (hn : n ≤ 100000) (v : Va) (y : Nat) (e : Int) (h : rV l z = (v, y, e)) :
    Calls Tryz.prog 15 #[.slice a n c, .int .i64 z] w fun e' w' => e' = .returned (.tuple #[.agg #[.int .i64 v.k, .int .i64 v.n, .string v.s], .int .i64 (y : Nat), .int .i64 e]) ∧ Below w.heap.size w w' := by
  have bl := balloc (b0 w) (.cells #[.int .i64 0, .int .i64 0, .string ⟨#[]⟩] 23)
  have hln := hA.hn
  unfold rV at h
  by_cases h1 : z < 0 ∨ (l.length : Int) < z
  · rw [if_pos h1] at h
    obtain ⟨rfl, rfl, rfl⟩ : ⟨0, 0, .empty⟩ = v ∧ 0 = y ∧ 1 = e := by simpa using h
    clear hA h
    rw [hln] at h1
    clear hln
    by_cases hz : z < 0
    · have hd : decide (z < 0) = true := decide_eq_true hz
      clear h1
      go_enter Tryz.func15, Tryz.ntmps15
      go_wp2_with fail
      simp [bodyPost, results, Tryz.results15, go_sem]
      exact ⟨rfl, bl⟩
    · have hd : decide (z < 0) = false := decide_eq_false hz
      have hd2 : decide ((n : Int) < z) = true := decide_eq_true (by omega)
      clear h1
      go_enter Tryz.func15, Tryz.ntmps15
      go_wp2_with fail
      simp [bodyPost, results, Tryz.results15, go_sem]
      exact ⟨rfl, bl⟩
  rw [if_neg h1, hln] at h
  rw [hln] at h1
  obtain ⟨p, rfl⟩ : ∃ p : Nat, z = p := ⟨z.toNat, by omega⟩
  by_cases h2 : (p : Int) = (n : Int)
  · rw [if_pos h2] at h
    obtain ⟨rfl, rfl, rfl⟩ : ⟨0, 0, .empty⟩ = v ∧ 0 = y ∧ 41 = e := by simpa using h
    obtain rfl : p = n := by omega
    clear hA h h1 h2 hln
    go_enter Tryz.func15, Tryz.ntmps15
    go_wp2_with fail
    simp [bodyPost, results, Tryz.results15, go_sem]
    exact ⟨rfl, bl⟩
  rw [if_neg h2, Int.toNat_natCast] at h
  have hpn : p < n := by omega
  clear h1 h2
  have hx := hA.hat.2 p (by omega)
  have C := Lib.hid (readContent_any (ix l p) a n c l (p + 1) _ (hA.keeps bl) hn (by omega))
  have hsz := rC_size (ix l p) l (p + 1)
  obtain ⟨b, off, rfl, hc, _⟩ := cell_at hA.hat (p := p) (by omega)
  have hc1 := keeps bl hc
  generalize ix l p = x at *
  generalize rC x l (p + 1) = r at *
  obtain ⟨⟨k, m, s⟩, q, f⟩ := r
  simp only at hsz C h
  have K := Lib.hid (check_any k m s (by omega))
  have V0 := Vw.new w 0 0 ⟨#[]⟩ 23
  clear hA hln hsz
  have HX := Lib.hid hx
  clear hx hc
  unfold rEnd at h
  simp only at h
  go_enter Tryz.func15, Tryz.ntmps15
  go_wp2_with fail
  refine C.out.mono ?_
  rintro e' w1 ⟨rfl, b1⟩
  obtain ⟨⟨c0, c1, c2⟩, f0, f1, f2⟩ := V0.keeps b1
  have V1 := (V0.keeps b1).put k m s
  have b2 := put_below (b := w.heap.size) (bnext bl b1) (Nat.le_refl _) (.int .i64 k) (.int .i64 m) (.string s)
  clear V0 bl b1 C
  by_cases hf : f = 0
  · subst hf
    rw [if_pos rfl] at h
    go_wp2_with fail
    clear c0 c1 c2 f0 f1 f2
    generalize ((w1.setCell ⟨w.heap.size, 0, none⟩ (.int .i64 k)).setCell ⟨w.heap.size, 1, none⟩ (.int .i64 m)).setCell ⟨w.heap.size, 2, none⟩ (.string s) = w2 at *
    refine (K.out _).mono ?_
    rintro e' w3 ⟨rfl, b3⟩
    obtain ⟨⟨c0, c1, c2⟩, f0, f1, f2⟩ := V1.keeps b3
    have V3 := V1.keeps b3
    replace b3 := bnext b2 b3
    clear b2 V1 K
    generalize ck ⟨k, m, s⟩ = cc at *
    by_cases hc0 : cc = 0
    · subst hc0
      rw [if_pos rfl] at h
      obtain ⟨rfl, rfl, rfl⟩ : ⟨k, m, s⟩ = v ∧ q = y ∧ 0 = e := by simpa using h
      clear h
      go_wp2_with fail
      obtain ⟨d0, d1, d2⟩ := (V3.put k m s).val
      simp [bodyPost, results, Tryz.results15, go_sem, d0, d1, d2]
      exact put_below b3 (Nat.le_refl _) _ _ _
    · rw [if_neg hc0] at h
      obtain ⟨rfl, rfl, rfl⟩ : ⟨0, 0, .empty⟩ = v ∧ 0 = y ∧ cc = e := by simpa using h
      clear h
      go_wp2_with fail
      obtain ⟨d0, d1, d2⟩ := (V3.put 0 0 ⟨#[]⟩).val
      simp [bodyPost, results, Tryz.results15, go_sem, d0, d1, d2]
      exact ⟨rfl, put_below b3 (Nat.le_refl _) _ _ _⟩
  · rw [if_neg hf] at h
    obtain ⟨rfl, rfl, rfl⟩ : ⟨0, 0, .empty⟩ = v ∧ 0 = y ∧ (f : Int) = e := by simpa using h
    have hd : ((f : Int) == 0) = false := by rw [beq_eq_false_iff_ne]; omega
    clear h K
    go_wp2_with fail
    obtain ⟨d0, d1, d2⟩ := (V1.put 0 0 ⟨#[]⟩).val
    simp [bodyPost, results, Tryz.results15, go_sem, d0, d1, d2]
    exact ⟨rfl, put_below b2 (Nat.le_refl _) _ _ _⟩
end Go.Proofs.YtnkdclodmeaihaaGreatDoor
