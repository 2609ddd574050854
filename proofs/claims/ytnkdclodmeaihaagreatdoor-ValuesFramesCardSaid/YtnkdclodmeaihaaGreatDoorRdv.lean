/-
  values.Read: for all bytes and offsets.
-/
import Derived.Test.YtnkdclodmeaihaaGreatDoorCat
import Derived.Test.YtnkdclodmeaihaaGreatDoorVw
namespace Go.Proofs.YtnkdclodmeaihaaGreatDoor
open Go.RowKit dec

/-- values.readBool. -/
def rB (l : List Nat) (p : Nat) : Nat × Nat × Nat := if p = l.length then (0, 0, 41) else if 1 < ix l p then (0, 0, 3) else (ix l p, p + 1, 0)
theorem cell_at {w : World} {a : Option Addr} {l : List Nat} (h : AtL w a l) {p : Nat} (hp : p < l.length) : ∃ b off, a = some ⟨b, off, none⟩ ∧ w.cell? ⟨b, off + p, none⟩ = some (.int .u8 (ix l p : Int)) ∧ ix l p < 256 := by
  rcases h.1 with h0 | ⟨b, off, e, hB⟩
  · omega
  · exact ⟨b, off, e, hB p hp, h.2 p hp⟩
theorem readBool_any (a : Option Addr) (n c : Nat) (l : List Nat) (p : Nat) (w : World) (hA : Li w a n c l) (hn : n ≤ 100000) (hp : p ≤ n) (x y z : Nat) (h : rB l p = (x, y, z)) :
    Calls Tryz.prog 67 #[.slice a n c, .int .i64 (p : Nat)] w fun e w' => e = .returned (.tuple #[.int .i64 (x : Nat), .int .i64 (y : Nat), .int .i64 (z : Nat)]) ∧ w = w' := by
  have hln := hA.hn
  unfold rB at h
  by_cases e1 : p = n
  · rw [if_pos (by omega)] at h
    obtain ⟨rfl, rfl, rfl⟩ : 0 = x ∧ 0 = y ∧ 41 = z := by simpa using h
    subst e1
    clear hA hln h
    go_enter Tryz.func67, Tryz.ntmps67
    go_wp2_with fail
    go_ret3
    exact ⟨rfl, rfl⟩
  · rw [if_neg (by omega)] at h
    obtain ⟨b, off, rfl, hc, hx⟩ := cell_at hA.hat (p := p) (by omega)
    have hpn : p < n := by omega
    clear hA hln
    generalize ix l p = v at *
    by_cases e2 : 1 < v
    · rw [if_pos e2] at h
      obtain ⟨rfl, rfl, rfl⟩ : 0 = x ∧ 0 = y ∧ 3 = z := by simpa using h
      have hd : decide ((1 : Int) < (v : Int)) = true := decide_eq_true (by omega)
      clear h e2
      go_enter Tryz.func67, Tryz.ntmps67
      go_wp2_with fail
      go_ret3
      exact ⟨rfl, rfl⟩
    · rw [if_neg e2] at h
      obtain ⟨rfl, rfl, rfl⟩ : v = x ∧ p + 1 = y ∧ 0 = z := by simpa using h
      have hd : decide ((1 : Int) < (v : Int)) = false := decide_eq_false (by omega)
      clear h e2
      go_enter Tryz.func67, Tryz.ntmps67
      go_wp2_with fail
      go_ret3
      exact ⟨rfl, rfl⟩

/-! readContent -/
theorem Vx.set1 {w : World} {b : Nat} {k n : Int} {s : ByteArray} (h : Vx w b k n s) (m : Int) : Vx (w.setCell ⟨b, 1, none⟩ (.int .i64 m)) b k m s := by
  have ne : ∀ {o o' : Nat}, o ≠ o' → (⟨b, o, none⟩ : Addr) ≠ ⟨b, o', none⟩ := fun h e => h (congrArg Addr.off e)
  refine ⟨?_, World.cell?_setCell_same _ _ _ h.2.1, ?_⟩
  · rw [World.cell?_setCell_other _ _ _ _ (ne (by decide))]; exact h.1
  · rw [World.cell?_setCell_other _ _ _ _ (ne (by decide))]; exact h.2.2
theorem Vx.set2 {w : World} {b : Nat} {k n : Int} {s : ByteArray} (h : Vx w b k n s) (m : ByteArray) : Vx (w.setCell ⟨b, 2, none⟩ (.string m)) b k n m := by
  have ne : ∀ {o o' : Nat}, o ≠ o' → (⟨b, o, none⟩ : Addr) ≠ ⟨b, o', none⟩ := fun h e => h (congrArg Addr.off e)
  refine ⟨?_, ?_, World.cell?_setCell_same _ _ _ h.2.2⟩
  · rw [World.cell?_setCell_other _ _ _ _ (ne (by decide))]; exact h.1
  · rw [World.cell?_setCell_other _ _ _ _ (ne (by decide))]; exact h.2.1
theorem rc_null (a : Option Addr) (n c : Nat) (p : Nat) (w : World) :
    Calls Tryz.prog 38 #[.int .i64 0, .slice a n c, .int .i64 (p : Nat)] w fun e w' => e = .returned (.tuple #[.agg #[.int .i64 0, .int .i64 0, .string ⟨#[]⟩], .int .i64 (p : Nat), .int .i64 0]) ∧ Below w.heap.size w w' := by
  have bl := balloc (b0 w) (.cells #[.int .i64 0, .int .i64 0, .string ⟨#[]⟩] 23)
  go_enter Tryz.func38, Tryz.ntmps38
  go_wp2_with fail
  simp [bodyPost, results, Tryz.results38, go_sem]
  exact bl
theorem rc_none (k : Int) (h0 : k ≠ 0) (h1 : k ≠ 1) (h2 : k ≠ 2) (h3 : k ≠ 3) (h4 : k ≠ 4) (h5 : k ≠ 5) (a : Option Addr) (n c : Nat) (p : Nat) (w : World) :
    Calls Tryz.prog 38 #[.int .i64 k, .slice a n c, .int .i64 (p : Nat)] w fun e w' => e = .returned (.tuple #[.agg #[.int .i64 k, .int .i64 0, .string ⟨#[]⟩], .int .i64 (p : Nat), .int .i64 3]) ∧ Below w.heap.size w w' := by
  have bl := balloc (b0 w) (.cells #[.int .i64 k, .int .i64 0, .string ⟨#[]⟩] 23)
  go_enter Tryz.func38, Tryz.ntmps38
  go_wp2_with fail
  simp [bodyPost, results, Tryz.results38, go_sem]
  exact bl
theorem rc_bool (a : Option Addr) (n c : Nat) (l : List Nat) (p : Nat) (w : World) (hA : Li w a n c l) (hn : n ≤ 100000) (hp : p ≤ n) (x y z : Nat) (h : rB l p = (x, y, z)) :
    Calls Tryz.prog 38 #[.int .i64 1, .slice a n c, .int .i64 (p : Nat)] w fun e w' => e = .returned (.tuple #[.agg #[.int .i64 1, .int .i64 (x : Nat), .string ⟨#[]⟩], .int .i64 (y : Nat), .int .i64 (z : Nat)]) ∧ Below w.heap.size w w' := by
  have bl := balloc (b0 w) (.cells #[.int .i64 1, .int .i64 0, .string ⟨#[]⟩] 23)
  have C := Lib.hid (readBool_any a n c l p _ (hA.keeps bl) hn hp x y z h)
  clear hA hp h
  go_enter Tryz.func38, Tryz.ntmps38
  go_wp2_with fail
  refine C.out.mono ?_
  rintro e w1 ⟨rfl, rfl⟩
  go_wp2_with fail
  simp [bodyPost, results, Tryz.results38, go_sem]
  exact balloc (b0 w) _
theorem rc_int2 (a : Option Addr) (n c : Nat) (l : List Nat) (p : Nat) (w : World) (hA : Li w a n c l) (x : Int) (y z : Nat) (h : rI l (p : Nat) = (x, y, z)) :
    Calls Tryz.prog 38 #[.int .i64 2, .slice a n c, .int .i64 (p : Nat)] w fun e w' => e = .returned (.tuple #[.agg #[.int .i64 2, .int .i64 x, .string ⟨#[]⟩], .int .i64 (y : Nat), .int .i64 (z : Nat)]) ∧ Below w.heap.size w w' := by
  have V0 := Vw.new w 2 0 ⟨#[]⟩ 23
  have bl := balloc (b0 w) (.cells #[.int .i64 2, .int .i64 0, .string ⟨#[]⟩] 23)
  have C := Lib.hid (readI_any a n c l (p : Nat) _ (hA.keeps bl) _ _ _ h)
  clear hA h
  go_enter Tryz.func38, Tryz.ntmps38
  go_wp2_with fail
  refine C.out.mono ?_
  rintro e w1 ⟨rfl, b1⟩
  obtain ⟨⟨c0, c1, c2⟩, f0, f1, f2⟩ := V0.keeps b1
  have V1 := (V0.keeps b1).val
  have b2 := bnext bl b1
  obtain ⟨e0, e1, e2⟩ := V1.set1 x
  have V2 := V1.set1 x
  clear V0 bl b1 C
  go_wp2_with fail
  obtain ⟨d0, d1, d2⟩ := V2.put 2 x ⟨#[]⟩
  simp [bodyPost, results, Tryz.results38, go_sem, d0, d1, d2]
  exact put_below (Below.setCell b2 (Nat.le_refl _) _) (Nat.le_refl _) _ _ _
theorem rc_int3 (a : Option Addr) (n c : Nat) (l : List Nat) (p : Nat) (w : World) (hA : Li w a n c l) (x : Int) (y z : Nat) (h : rI l (p : Nat) = (x, y, z)) :
    Calls Tryz.prog 38 #[.int .i64 3, .slice a n c, .int .i64 (p : Nat)] w fun e w' => e = .returned (.tuple #[.agg #[.int .i64 3, .int .i64 x, .string ⟨#[]⟩], .int .i64 (y : Nat), .int .i64 (z : Nat)]) ∧ Below w.heap.size w w' := by
  have V0 := Vw.new w 3 0 ⟨#[]⟩ 23
  have bl := balloc (b0 w) (.cells #[.int .i64 3, .int .i64 0, .string ⟨#[]⟩] 23)
  have C := Lib.hid (readI_any a n c l (p : Nat) _ (hA.keeps bl) _ _ _ h)
  clear hA h
  go_enter Tryz.func38, Tryz.ntmps38
  go_wp2_with fail
  refine C.out.mono ?_
  rintro e w1 ⟨rfl, b1⟩
  obtain ⟨⟨c0, c1, c2⟩, f0, f1, f2⟩ := V0.keeps b1
  have V1 := (V0.keeps b1).val
  have b2 := bnext bl b1
  obtain ⟨e0, e1, e2⟩ := V1.set1 x
  have V2 := V1.set1 x
  clear V0 bl b1 C
  go_wp2_with fail
  obtain ⟨d0, d1, d2⟩ := V2.put 3 x ⟨#[]⟩
  simp [bodyPost, results, Tryz.results38, go_sem, d0, d1, d2]
  exact put_below (Below.setCell b2 (Nat.le_refl _) _) (Nat.le_refl _) _ _ _
theorem rc_text4 (a : Option Addr) (n c : Nat) (l : List Nat) (p : Nat) (w : World) (hA : Li w a n c l) (x : List Nat) (y z : Nat) (h : rT l (p : Nat) = (x, y, z)) :
    Calls Tryz.prog 38 #[.int .i64 4, .slice a n c, .int .i64 (p : Nat)] w fun e w' => e = .returned (.tuple #[.agg #[.int .i64 4, .int .i64 0, .string (st_of x)], .int .i64 (y : Nat), .int .i64 (z : Nat)]) ∧ Below w.heap.size w w' := by
  have V0 := Vw.new w 4 0 ⟨#[]⟩ 23
  have bl := balloc (b0 w) (.cells #[.int .i64 4, .int .i64 0, .string ⟨#[]⟩] 23)
  have C := Lib.hid (readT_any a n c l (p : Nat) _ (hA.keeps bl) _ _ _ h)
  clear hA h
  go_enter Tryz.func38, Tryz.ntmps38
  go_wp2_with fail
  refine C.out.mono ?_
  rintro e w1 ⟨rfl, b1⟩
  obtain ⟨⟨c0, c1, c2⟩, f0, f1, f2⟩ := V0.keeps b1
  have V1 := (V0.keeps b1).val
  have b2 := bnext bl b1
  obtain ⟨e0, e1, e2⟩ := V1.set2 (st_of x)
  have V2 := V1.set2 (st_of x)
  clear V0 bl b1 C
  go_wp2_with fail
  obtain ⟨d0, d1, d2⟩ := V2.put 4 0 (st_of x)
  simp [bodyPost, results, Tryz.results38, go_sem, d0, d1, d2]
  exact put_below (Below.setCell b2 (Nat.le_refl _) _) (Nat.le_refl _) _ _ _
theorem rc_text5 (a : Option Addr) (n c : Nat) (l : List Nat) (p : Nat) (w : World) (hA : Li w a n c l) (x : List Nat) (y z : Nat) (h : rT l (p : Nat) = (x, y, z)) :
    Calls Tryz.prog 38 #[.int .i64 5, .slice a n c, .int .i64 (p : Nat)] w fun e w' => e = .returned (.tuple #[.agg #[.int .i64 5, .int .i64 0, .string (st_of x)], .int .i64 (y : Nat), .int .i64 (z : Nat)]) ∧ Below w.heap.size w w' := by
  have V0 := Vw.new w 5 0 ⟨#[]⟩ 23
  have bl := balloc (b0 w) (.cells #[.int .i64 5, .int .i64 0, .string ⟨#[]⟩] 23)
  have C := Lib.hid (readT_any a n c l (p : Nat) _ (hA.keeps bl) _ _ _ h)
  clear hA h
  go_enter Tryz.func38, Tryz.ntmps38
  go_wp2_with fail
  refine C.out.mono ?_
  rintro e w1 ⟨rfl, b1⟩
  obtain ⟨⟨c0, c1, c2⟩, f0, f1, f2⟩ := V0.keeps b1
  have V1 := (V0.keeps b1).val
  have b2 := bnext bl b1
  obtain ⟨e0, e1, e2⟩ := V1.set2 (st_of x)
  have V2 := V1.set2 (st_of x)
  clear V0 bl b1 C
  go_wp2_with fail
  obtain ⟨d0, d1, d2⟩ := V2.put 5 0 (st_of x)
  simp [bodyPost, results, Tryz.results38, go_sem, d0, d1, d2]
  exact put_below (Below.setCell b2 (Nat.le_refl _) _) (Nat.le_refl _) _ _ _
theorem readContent_any (k : Nat) (a : Option Addr) (n c : Nat) (l : List Nat) (p : Nat) (w : World) (hA : Li w a n c l) (hn : n ≤ 100000) (hp : p ≤ n) :
    Calls Tryz.prog 38 #[.int .i64 (k : Nat), .slice a n c, .int .i64 (p : Nat)] w fun e w' =>
      e = .returned (.tuple #[.agg #[.int .i64 (rC k l p).1.k, .int .i64 (rC k l p).1.n, .string (rC k l p).1.s], .int .i64 ((rC k l p).2.1 : Nat), .int .i64 ((rC k l p).2.2 : Nat)]) ∧ Below w.heap.size w w' := by
  unfold rC
  by_cases k0 : k = 0
  · subst k0
    exact rc_null a n c p w
  rw [if_neg k0]
  by_cases k1 : k = 1
  · subst k1
    rw [if_pos rfl]
    have hB : rB l p = _ := rfl
    unfold rB at hB
    have := rc_bool a n c l p w hA hn hp (rB l p).1 (rB l p).2.1 (rB l p).2.2 rfl
    unfold rB at this
    by_cases e1 : p = l.length
    · simp only [if_pos e1] at this ⊢; exact this
    · by_cases e2 : 1 < ix l p
      · simp only [if_neg e1, if_pos e2] at this ⊢; exact this
      · simp only [if_neg e1, if_neg e2] at this ⊢; exact this
  rw [if_neg k1]
  by_cases k2 : k = 2
  · subst k2
    exact rc_int2 a n c l p w hA _ _ _ rfl
  by_cases k3 : k = 3
  · subst k3
    exact rc_int3 a n c l p w hA _ _ _ rfl
  rw [if_neg (by omega)]
  by_cases k4 : k = 4
  · subst k4
    exact rc_text4 a n c l p w hA _ _ _ rfl
  by_cases k5 : k = 5
  · subst k5
    exact rc_text5 a n c l p w hA _ _ _ rfl
  rw [if_neg (by omega)]
  exact rc_none k (by omega) (by omega) (by omega) (by omega) (by omega) (by omega) a n c p w
end Go.Proofs.YtnkdclodmeaihaaGreatDoor
