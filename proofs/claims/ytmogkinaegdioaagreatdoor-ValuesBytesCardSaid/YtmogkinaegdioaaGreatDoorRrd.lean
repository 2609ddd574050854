/-
  The reference's Read: for all bytes and offsets.
-/
import Derived.Test.YtmogkinaegdioaaGreatDoorRea
import Derived.Test.YtmogkinaegdioaaGreatDoorRck
namespace Go.Proofs.YtmogkinaegdioaaGreatDoor
open Go.RowKit dec

set_option maxRecDepth 20000 in
set_option maxHeartbeats 1000000 in
theorem rrd_null (a : Option Addr) (n c : Nat) (l : List Nat) (p : Nat) (w : World) (hA : Li w a n c l) (hn : n ≤ 100000) (hp : p < n) (hx : ix l p = 0) (v : Va) (y : Nat) (e : Int) (h : rEnd (rC 0 l (p + 1)) = (v, y, e)) :
    Calls Tryz.prog 21 #[.slice a n c, .int .i64 (p : Nat)] w fun e' w' => e' = .returned (.tuple #[.agg #[.int .i64 v.k, .int .i64 v.n, .string v.s], .int .i64 (y : Nat), .int .i64 e]) ∧ Below w.heap.size w w' := by
  have bl := balloc (b0 w) (.cells #[.int .i64 0, .int .i64 0, .string ⟨#[]⟩] 23)
  have hln := hA.hn
  obtain ⟨B, off, rfl, hc, hx2⟩ := cell_at hA.hat (p := p) (by omega)
  have hc1 := keeps bl hc
  rw [hx] at hc1
  obtain ⟨F, hF⟩ : ∃ F, n - p = F := ⟨_, rfl⟩
  have CL := Lib.hid (refLeft_in (some ⟨B, off, none⟩) n c p F (w.alloc (.cells #[.int .i64 0, .int .i64 0, .string ⟨#[]⟩] 23)) (by omega) hF (by omega))
  have LA := hA.keeps bl
  have hF0 : ¬ (F : Int) < 0 := by omega
  have hF1 : ((F : Int) == 0) = false := by rw [beq_eq_false_iff_ne]; omega
  have bl2 := balloc bl (.cells #[.int .i64 0, .int .i64 0, .string ⟨#[]⟩] 23)
  have R := (Vw.new w 0 0 ⟨#[]⟩ 23).keeps (balloc (b0 _) (.cells #[.int .i64 0, .int .i64 0, .string ⟨#[]⟩] 23))
  have V := Vw.new (w.alloc (.cells #[.int .i64 0, .int .i64 0, .string ⟨#[]⟩] 23)) 0 0 ⟨#[]⟩ 23
  rw [show (w.alloc (.cells #[.int .i64 0, .int .i64 0, .string ⟨#[]⟩] 23)).heap.size = w.heap.size + 1 by simp] at V
  have he : (.empty : ByteArray) = ⟨#[]⟩ := rfl
  simp only [rEnd, rC, if_true, he] at h
  have C := Lib.hid (rcheck_any 0 0 ⟨#[]⟩ (by decide))
  have b := bl2
  clear hA LA hc hx hx2 hF bl bl2
  go_enter Tryz.func21, Tryz.ntmps21
  go_wp2_with fail
  refine CL.out.mono ?_
  rintro e' w1 ⟨rfl, rfl⟩
  obtain ⟨⟨c0, c1, c2⟩, f0, f1, f2⟩ := id R
  replace V := V.val
  go_wp2_with fail
  refine (C.out _).mono ?_
  rintro e' w3 ⟨rfl, b3⟩
  replace V := V.keeps b3
  replace R := R.keeps b3
  replace b := bnext b b3
  clear b3 C c0 c1 c2
  obtain ⟨⟨c0, c1, c2⟩, f0, f1, f2⟩ := id R
  obtain ⟨d0, d1, d2⟩ := id V
  generalize ck ⟨0, 0, ⟨#[]⟩⟩ = cc at *
  by_cases hc0 : cc = 0
  · subst hc0
    rw [if_pos rfl] at h
    obtain ⟨rfl, rfl, rfl⟩ : ⟨0, 0, ⟨#[]⟩⟩ = v ∧ p + 1 = y ∧ 0 = e := by simpa using h
    clear h
    go_wp2_with fail
    obtain ⟨r0, r1, r2⟩ := (R.put 0 0 ⟨#[]⟩).val
    simp [bodyPost, results, Tryz.results21, go_sem, r0, r1, r2]
    exact put_below b (Nat.le_refl _) _ _ _
  · rw [if_neg hc0] at h
    obtain ⟨rfl, rfl, rfl⟩ : ⟨0, 0, ⟨#[]⟩⟩ = v ∧ 0 = y ∧ cc = e := by simpa using h
    clear h
    go_wp2_with fail
    obtain ⟨r0, r1, r2⟩ := (R.put 0 0 ⟨#[]⟩).val
    simp [bodyPost, results, Tryz.results21, go_sem, r0, r1, r2]
    first | exact ⟨rfl, put_below b (Nat.le_refl _) _ _ _⟩ | exact put_below b (Nat.le_refl _) _ _ _

set_option maxRecDepth 20000 in
set_option maxHeartbeats 1000000 in
theorem rrd_none (k : Nat) (a : Option Addr) (n c : Nat) (l : List Nat) (p : Nat) (w : World) (hA : Li w a n c l) (hn : n ≤ 100000) (hp : p < n) (hx : ix l p = k) (k0 : k ≠ 0) (k1 : k ≠ 1) (k2 : k ≠ 2) (k3 : k ≠ 3) (k4 : k ≠ 4) (k5 : k ≠ 5) (v : Va) (y : Nat) (e : Int) (h : rEnd (rC k l (p + 1)) = (v, y, e)) :
    Calls Tryz.prog 21 #[.slice a n c, .int .i64 (p : Nat)] w fun e' w' => e' = .returned (.tuple #[.agg #[.int .i64 v.k, .int .i64 v.n, .string v.s], .int .i64 (y : Nat), .int .i64 e]) ∧ Below w.heap.size w w' := by
  have bl := balloc (b0 w) (.cells #[.int .i64 0, .int .i64 0, .string ⟨#[]⟩] 23)
  have hln := hA.hn
  obtain ⟨B, off, rfl, hc, hx2⟩ := cell_at hA.hat (p := p) (by omega)
  have hc1 := keeps bl hc
  obtain ⟨K, hK⟩ : ∃ K : Int, ((k : Nat) : Int) = K := ⟨_, rfl⟩
  rw [hx, hK] at hc1
  have hw : wrap64 K = K := IntWalk.wrap64_in K (by rw [hx] at hx2; omega)
  have zb : 0 ≤ K ∧ K ≤ 255 := by rw [hx] at hx2; omega
  have z0 : K ≠ 0 := by omega
  have z1 : K ≠ 1 := by omega
  have z2 : K ≠ 2 := by omega
  have z3 : K ≠ 3 := by omega
  have z4 : K ≠ 4 := by omega
  have z5 : K ≠ 5 := by omega
  obtain ⟨F, hF⟩ : ∃ F, n - p = F := ⟨_, rfl⟩
  have CL := Lib.hid (refLeft_in (some ⟨B, off, none⟩) n c p F (w.alloc (.cells #[.int .i64 0, .int .i64 0, .string ⟨#[]⟩] 23)) (by omega) hF (by omega))
  have LA := hA.keeps bl
  have hF0 : ¬ (F : Int) < 0 := by omega
  have hF1 : ((F : Int) == 0) = false := by rw [beq_eq_false_iff_ne]; omega
  have bl2 := balloc bl (.cells #[.int .i64 K, .int .i64 0, .string ⟨#[]⟩] 23)
  have R := (Vw.new w 0 0 ⟨#[]⟩ 23).keeps (balloc (b0 _) (.cells #[.int .i64 K, .int .i64 0, .string ⟨#[]⟩] 23))
  have V := Vw.new (w.alloc (.cells #[.int .i64 0, .int .i64 0, .string ⟨#[]⟩] 23)) K 0 ⟨#[]⟩ 23
  rw [show (w.alloc (.cells #[.int .i64 0, .int .i64 0, .string ⟨#[]⟩] 23)).heap.size = w.heap.size + 1 by simp] at V
  have he : (.empty : ByteArray) = ⟨#[]⟩ := rfl
  rw [show rC k l (p + 1) = (⟨k, 0, .empty⟩, p + 1, 3) by unfold rC; rw [if_neg k0, if_neg k1, if_neg (by omega), if_neg (by omega)]] at h
  simp only [rEnd, he] at h
  obtain ⟨rfl, rfl, rfl⟩ : ⟨0, 0, ⟨#[]⟩⟩ = v ∧ 0 = y ∧ 3 = e := by simpa using h
  have b := bl2
  clear hA LA hc hx hx2 hF bl bl2 hK k0 k1 k2 k3 k4 k5
  go_enter Tryz.func21, Tryz.ntmps21
  go_wp2_with fail
  refine CL.out.mono ?_
  rintro e' w1 ⟨rfl, rfl⟩
  clear h
  go_wp2_with fail
  simp [bodyPost, results, Tryz.results21, go_sem]
  first | exact ⟨rfl, b⟩ | exact b

set_option maxRecDepth 20000 in
set_option maxHeartbeats 1000000 in
theorem rrd_bool (a : Option Addr) (n c : Nat) (l : List Nat) (p : Nat) (w : World) (hA : Li w a n c l) (hn : n ≤ 100000) (hp : p < n) (hx : ix l p = 1) (v : Va) (y : Nat) (e : Int) (h : rEnd (rC 1 l (p + 1)) = (v, y, e)) :
    Calls Tryz.prog 21 #[.slice a n c, .int .i64 (p : Nat)] w fun e' w' => e' = .returned (.tuple #[.agg #[.int .i64 v.k, .int .i64 v.n, .string v.s], .int .i64 (y : Nat), .int .i64 e]) ∧ Below w.heap.size w w' := by
  have bl := balloc (b0 w) (.cells #[.int .i64 0, .int .i64 0, .string ⟨#[]⟩] 23)
  have hln := hA.hn
  obtain ⟨B, off, rfl, hc, hx2⟩ := cell_at hA.hat (p := p) (by omega)
  have hc1 := keeps bl hc
  rw [hx] at hc1
  obtain ⟨F, hF⟩ : ∃ F, n - p = F := ⟨_, rfl⟩
  have CL := Lib.hid (refLeft_in (some ⟨B, off, none⟩) n c p F (w.alloc (.cells #[.int .i64 0, .int .i64 0, .string ⟨#[]⟩] 23)) (by omega) hF (by omega))
  have LA := hA.keeps bl
  have hF0 : ¬ (F : Int) < 0 := by omega
  have hF1 : ((F : Int) == 0) = false := by rw [beq_eq_false_iff_ne]; omega
  have bl2 := balloc bl (.cells #[.int .i64 1, .int .i64 0, .string ⟨#[]⟩] 23)
  have R := (Vw.new w 0 0 ⟨#[]⟩ 23).keeps (balloc (b0 _) (.cells #[.int .i64 1, .int .i64 0, .string ⟨#[]⟩] 23))
  have V := Vw.new (w.alloc (.cells #[.int .i64 0, .int .i64 0, .string ⟨#[]⟩] 23)) 1 0 ⟨#[]⟩ 23
  rw [show (w.alloc (.cells #[.int .i64 0, .int .i64 0, .string ⟨#[]⟩] 23)).heap.size = w.heap.size + 1 by simp] at V
  have he : (.empty : ByteArray) = ⟨#[]⟩ := rfl
  have hR : rC 1 l (p + 1) = if p + 1 = l.length then (⟨1, 0, .empty⟩, 0, 41) else if 1 < ix l (p + 1) then (⟨1, 0, .empty⟩, 0, 3) else (⟨1, ix l (p + 1), .empty⟩, p + 1 + 1, 0) := by unfold rC; rw [if_neg (by decide), if_pos rfl]
  rw [hR] at h
  clear hR
  have b := bl2
  by_cases e1 : p + 1 = l.length
  · rw [if_pos e1] at h
    simp only [rEnd, he] at h
    obtain ⟨rfl, rfl, rfl⟩ : ⟨0, 0, ⟨#[]⟩⟩ = v ∧ 0 = y ∧ 41 = e := by simpa using h
    obtain rfl : F = 1 := by omega
    clear hA LA hc hx hx2 hF bl bl2 V e1 hln hF0 hF1
    go_enter Tryz.func21, Tryz.ntmps21
    go_wp2_with fail
    refine CL.out.mono ?_
    rintro e' w1 ⟨rfl, rfl⟩
    clear h
    go_wp2_with fail
    simp [bodyPost, results, Tryz.results21, go_sem]
    first | exact ⟨rfl, b⟩ | exact b
  rw [if_neg e1] at h
  obtain ⟨_, _, hB, hcc, hx3⟩ := cell_at hA.hat (p := p + 1) (by omega)
  obtain ⟨rfl, rfl⟩ : B = _ ∧ off = _ := by simpa using hB
  have hc2 := keeps bl2 hcc
  have hF2 : ((F : Int) == 1) = false := by rw [beq_eq_false_iff_ne]; omega
  have hF3 : ¬ F = 1 := by omega
  have hpn : (p : Int) + 1 < (n : Int) := by omega
  generalize ix l (p + 1) = u at *
  clear hB hcc
  by_cases e2 : 1 < u
  · rw [if_pos e2] at h
    simp only [rEnd, he] at h
    obtain ⟨rfl, rfl, rfl⟩ : ⟨0, 0, ⟨#[]⟩⟩ = v ∧ 0 = y ∧ 3 = e := by simpa using h
    have hu : decide ((1 : Int) < (u : Int)) = true := decide_eq_true (by omega)
    have b := balloc bl (.cells #[.int .i64 1, .int .i64 (u : Nat), .string ⟨#[]⟩] 23)
    clear hA LA hc hx hx2 hF bl bl2 e1
    go_enter Tryz.func21, Tryz.ntmps21
    go_wp2_with fail
    refine CL.out.mono ?_
    rintro e' w1 ⟨rfl, rfl⟩
    clear h
    go_wp2_with fail
    simp [bodyPost, results, Tryz.results21, go_sem]
    first | exact ⟨rfl, b⟩ | exact b
  · rw [if_neg e2] at h
    simp only [rEnd, he, if_true] at h
    have hu : decide ((1 : Int) < (u : Int)) = false := decide_eq_false (by omega)
    have b := balloc bl (.cells #[.int .i64 1, .int .i64 (u : Nat), .string ⟨#[]⟩] 23)
    have V := Vx.new (w.alloc (.cells #[.int .i64 0, .int .i64 0, .string ⟨#[]⟩] 23)) 1 (u : Nat) ⟨#[]⟩ 23
    rw [show (w.alloc (.cells #[.int .i64 0, .int .i64 0, .string ⟨#[]⟩] 23)).heap.size = w.heap.size + 1 by simp] at V
    have R := (Vw.new w 0 0 ⟨#[]⟩ 23).keeps (balloc (b0 _) (.cells #[.int .i64 1, .int .i64 (u : Nat), .string ⟨#[]⟩] 23))
    have C := Lib.hid (rcheck_any 1 (u : Nat) ⟨#[]⟩ (by decide))
    have R0 := Lib.hid R
    have V0 := Lib.hid V
    clear hA LA hc hx hx2 hF bl bl2 e1 R V
    go_enter Tryz.func21, Tryz.ntmps21
    go_wp2_with fail
    refine CL.out.mono ?_
    rintro e' w1 ⟨rfl, rfl⟩
    go_wp2_with fail
    have R := R0.out
    have V := V0.out
    obtain ⟨⟨c0, c1, c2⟩, f0, f1, f2⟩ := id R
    refine (C.out _).mono ?_
    rintro e' w3 ⟨rfl, b3⟩
    replace V := V.keeps b3
    replace R := R.keeps b3
    replace b := bnext b b3
    clear b3 C c0 c1 c2
    obtain ⟨⟨c0, c1, c2⟩, f0, f1, f2⟩ := id R
    obtain ⟨d0, d1, d2⟩ := id V
    generalize ck ⟨1, (u : Nat), ⟨#[]⟩⟩ = cc at *
    by_cases hc0 : cc = 0
    · subst hc0
      rw [if_pos rfl] at h
      obtain ⟨rfl, rfl, rfl⟩ : ⟨1, (u : Nat), ⟨#[]⟩⟩ = v ∧ p + 1 + 1 = y ∧ 0 = e := by simpa using h
      clear h
      go_wp2_with fail
      obtain ⟨r0, r1, r2⟩ := (R.put 1 (u : Nat) ⟨#[]⟩).val
      simp [bodyPost, results, Tryz.results21, go_sem, r0, r1, r2]
      exact put_below b (Nat.le_refl _) _ _ _
    · rw [if_neg hc0] at h
      obtain ⟨rfl, rfl, rfl⟩ : ⟨0, 0, ⟨#[]⟩⟩ = v ∧ 0 = y ∧ cc = e := by simpa using h
      clear h
      go_wp2_with fail
      obtain ⟨r0, r1, r2⟩ := (R.put 0 0 ⟨#[]⟩).val
      simp [bodyPost, results, Tryz.results21, go_sem, r0, r1, r2]
      first | exact ⟨rfl, put_below b (Nat.le_refl _) _ _ _⟩ | exact put_below b (Nat.le_refl _) _ _ _

set_option maxRecDepth 20000 in
set_option maxHeartbeats 1000000 in
theorem rrd_int2 (a : Option Addr) (n c : Nat) (l : List Nat) (p : Nat) (w : World) (hA : Li w a n c l) (hn : n ≤ 100000) (hp : p < n) (hx : ix l p = 2) (v : Va) (y : Nat) (e : Int) (h : rEnd (rC 2 l (p + 1)) = (v, y, e)) :
    Calls Tryz.prog 21 #[.slice a n c, .int .i64 (p : Nat)] w fun e' w' => e' = .returned (.tuple #[.agg #[.int .i64 v.k, .int .i64 v.n, .string v.s], .int .i64 (y : Nat), .int .i64 e]) ∧ Below w.heap.size w w' := by
  have bl := balloc (b0 w) (.cells #[.int .i64 0, .int .i64 0, .string ⟨#[]⟩] 23)
  have hln := hA.hn
  obtain ⟨B, off, rfl, hc, hx2⟩ := cell_at hA.hat (p := p) (by omega)
  have hc1 := keeps bl hc
  rw [hx] at hc1
  obtain ⟨F, hF⟩ : ∃ F, n - p = F := ⟨_, rfl⟩
  have CL := Lib.hid (refLeft_in (some ⟨B, off, none⟩) n c p F (w.alloc (.cells #[.int .i64 0, .int .i64 0, .string ⟨#[]⟩] 23)) (by omega) hF (by omega))
  have LA := hA.keeps bl
  have hF0 : ¬ (F : Int) < 0 := by omega
  have hF1 : ((F : Int) == 0) = false := by rw [beq_eq_false_iff_ne]; omega
  have bl2 := balloc bl (.cells #[.int .i64 2, .int .i64 0, .string ⟨#[]⟩] 23)
  have R := (Vw.new w 0 0 ⟨#[]⟩ 23).keeps (balloc (b0 _) (.cells #[.int .i64 2, .int .i64 0, .string ⟨#[]⟩] 23))
  have V := Vw.new (w.alloc (.cells #[.int .i64 0, .int .i64 0, .string ⟨#[]⟩] 23)) 2 0 ⟨#[]⟩ 23
  rw [show (w.alloc (.cells #[.int .i64 0, .int .i64 0, .string ⟨#[]⟩] 23)).heap.size = w.heap.size + 1 by simp] at V
  have he : (.empty : ByteArray) = ⟨#[]⟩ := rfl
  obtain ⟨m, q, f, hI⟩ : ∃ m q f, rI l ((p + 1 : Nat) : Int) = (m, q, f) := ⟨_, _, _, rfl⟩
  rw [show rC 2 l (p + 1) = (⟨2, m, .empty⟩, q, f) by unfold rC; rw [if_neg (by decide), if_neg (by decide), if_pos (by decide), hI]; rfl] at h
  simp only [rEnd, he] at h
  have b := balloc bl (.cells #[.int .i64 2, .int .i64 m, .string ⟨#[]⟩] 23)
  have V' := Vx.new (w.alloc (.cells #[.int .i64 0, .int .i64 0, .string ⟨#[]⟩] 23)) 2 m ⟨#[]⟩ 23
  rw [show (w.alloc (.cells #[.int .i64 0, .int .i64 0, .string ⟨#[]⟩] 23)).heap.size = w.heap.size + 1 by simp] at V'
  have R' := (Vw.new w 0 0 ⟨#[]⟩ 23).keeps (balloc (b0 _) (.cells #[.int .i64 2, .int .i64 m, .string ⟨#[]⟩] 23))
  have CR := Lib.hid (refReadI_any (some ⟨B, off, none⟩) n c l ((p + 1 : Nat) : Int) _ (LA.keeps (balloc (b0 _) (.cells #[.int .i64 2, .int .i64 0, .string ⟨#[]⟩] 23))) m q f hI)
  have C := Lib.hid (rcheck_any 2 m ⟨#[]⟩ (by decide))
  clear hA LA hc hx hx2 hF bl bl2 hI
  go_enter Tryz.func21, Tryz.ntmps21
  go_wp2_with fail
  refine CL.out.mono ?_
  rintro e' w1 ⟨rfl, rfl⟩
  obtain ⟨⟨c0, c1, c2⟩, f0, f1, f2⟩ := id V
  go_wp2_with fail
  refine CR.out.mono ?_
  rintro e' w2 ⟨rfl, rfl⟩
  clear CR CL c0 c1 c2
  have V'' := Lib.hid V'
  have R'' := Lib.hid R'
  clear V' R'
  by_cases hf : f = 0
  · subst hf
    rw [if_pos rfl] at h
    obtain ⟨⟨c0, c1, c2⟩, g0, g1, g2⟩ := id R''.out
    obtain ⟨d0, d1, d2⟩ := id V''.out
    have V := V''.out
    have R := R''.out
    go_wp2_with fail
    refine (C.out _).mono ?_
    rintro e' w3 ⟨rfl, b3⟩
    replace V := V.keeps b3
    replace R := R.keeps b3
    replace b := bnext b b3
    clear b3 C c0 c1 c2
    obtain ⟨⟨c0, c1, c2⟩, f0, f1, f2⟩ := id R
    obtain ⟨d0, d1, d2⟩ := id V
    generalize ck ⟨2, m, ⟨#[]⟩⟩ = cc at *
    by_cases hc0 : cc = 0
    · subst hc0
      rw [if_pos rfl] at h
      obtain ⟨rfl, rfl, rfl⟩ : ⟨2, m, ⟨#[]⟩⟩ = v ∧ q = y ∧ 0 = e := by simpa using h
      clear h
      go_wp2_with fail
      obtain ⟨r0, r1, r2⟩ := (R.put 2 m ⟨#[]⟩).val
      simp [bodyPost, results, Tryz.results21, go_sem, r0, r1, r2]
      exact put_below b (Nat.le_refl _) _ _ _
    · rw [if_neg hc0] at h
      obtain ⟨rfl, rfl, rfl⟩ : ⟨0, 0, ⟨#[]⟩⟩ = v ∧ 0 = y ∧ cc = e := by simpa using h
      clear h
      go_wp2_with fail
      obtain ⟨r0, r1, r2⟩ := (R.put 0 0 ⟨#[]⟩).val
      simp [bodyPost, results, Tryz.results21, go_sem, r0, r1, r2]
      first | exact ⟨rfl, put_below b (Nat.le_refl _) _ _ _⟩ | exact put_below b (Nat.le_refl _) _ _ _
  · rw [if_neg hf] at h
    obtain ⟨rfl, rfl, rfl⟩ : ⟨0, 0, ⟨#[]⟩⟩ = v ∧ 0 = y ∧ (f : Int) = e := by simpa using h
    have hd : ((f : Int) == 0) = false := by rw [beq_eq_false_iff_ne]; omega
    have R := R''.out
    obtain ⟨⟨r0, r1, r2⟩, g0, g1, g2⟩ := id R
    clear r0 r1 r2
    clear h
    go_wp2_with fail
    simp [bodyPost, results, Tryz.results21, go_sem]
    first | exact ⟨rfl, b⟩ | exact b

set_option maxRecDepth 20000 in
set_option maxHeartbeats 1000000 in
theorem rrd_int3 (a : Option Addr) (n c : Nat) (l : List Nat) (p : Nat) (w : World) (hA : Li w a n c l) (hn : n ≤ 100000) (hp : p < n) (hx : ix l p = 3) (v : Va) (y : Nat) (e : Int) (h : rEnd (rC 3 l (p + 1)) = (v, y, e)) :
    Calls Tryz.prog 21 #[.slice a n c, .int .i64 (p : Nat)] w fun e' w' => e' = .returned (.tuple #[.agg #[.int .i64 v.k, .int .i64 v.n, .string v.s], .int .i64 (y : Nat), .int .i64 e]) ∧ Below w.heap.size w w' := by
  have bl := balloc (b0 w) (.cells #[.int .i64 0, .int .i64 0, .string ⟨#[]⟩] 23)
  have hln := hA.hn
  obtain ⟨B, off, rfl, hc, hx2⟩ := cell_at hA.hat (p := p) (by omega)
  have hc1 := keeps bl hc
  rw [hx] at hc1
  obtain ⟨F, hF⟩ : ∃ F, n - p = F := ⟨_, rfl⟩
  have CL := Lib.hid (refLeft_in (some ⟨B, off, none⟩) n c p F (w.alloc (.cells #[.int .i64 0, .int .i64 0, .string ⟨#[]⟩] 23)) (by omega) hF (by omega))
  have LA := hA.keeps bl
  have hF0 : ¬ (F : Int) < 0 := by omega
  have hF1 : ((F : Int) == 0) = false := by rw [beq_eq_false_iff_ne]; omega
  have bl2 := balloc bl (.cells #[.int .i64 3, .int .i64 0, .string ⟨#[]⟩] 23)
  have R := (Vw.new w 0 0 ⟨#[]⟩ 23).keeps (balloc (b0 _) (.cells #[.int .i64 3, .int .i64 0, .string ⟨#[]⟩] 23))
  have V := Vw.new (w.alloc (.cells #[.int .i64 0, .int .i64 0, .string ⟨#[]⟩] 23)) 3 0 ⟨#[]⟩ 23
  rw [show (w.alloc (.cells #[.int .i64 0, .int .i64 0, .string ⟨#[]⟩] 23)).heap.size = w.heap.size + 1 by simp] at V
  have he : (.empty : ByteArray) = ⟨#[]⟩ := rfl
  obtain ⟨m, q, f, hI⟩ : ∃ m q f, rI l ((p + 1 : Nat) : Int) = (m, q, f) := ⟨_, _, _, rfl⟩
  rw [show rC 3 l (p + 1) = (⟨3, m, .empty⟩, q, f) by unfold rC; rw [if_neg (by decide), if_neg (by decide), if_pos (by decide), hI]; rfl] at h
  simp only [rEnd, he] at h
  have b := balloc bl (.cells #[.int .i64 3, .int .i64 m, .string ⟨#[]⟩] 23)
  have V' := Vx.new (w.alloc (.cells #[.int .i64 0, .int .i64 0, .string ⟨#[]⟩] 23)) 3 m ⟨#[]⟩ 23
  rw [show (w.alloc (.cells #[.int .i64 0, .int .i64 0, .string ⟨#[]⟩] 23)).heap.size = w.heap.size + 1 by simp] at V'
  have R' := (Vw.new w 0 0 ⟨#[]⟩ 23).keeps (balloc (b0 _) (.cells #[.int .i64 3, .int .i64 m, .string ⟨#[]⟩] 23))
  have CR := Lib.hid (refReadI_any (some ⟨B, off, none⟩) n c l ((p + 1 : Nat) : Int) _ (LA.keeps (balloc (b0 _) (.cells #[.int .i64 3, .int .i64 0, .string ⟨#[]⟩] 23))) m q f hI)
  have C := Lib.hid (rcheck_any 3 m ⟨#[]⟩ (by decide))
  clear hA LA hc hx hx2 hF bl bl2 hI
  go_enter Tryz.func21, Tryz.ntmps21
  go_wp2_with fail
  refine CL.out.mono ?_
  rintro e' w1 ⟨rfl, rfl⟩
  obtain ⟨⟨c0, c1, c2⟩, f0, f1, f2⟩ := id V
  go_wp2_with fail
  refine CR.out.mono ?_
  rintro e' w2 ⟨rfl, rfl⟩
  clear CR CL c0 c1 c2
  have V'' := Lib.hid V'
  have R'' := Lib.hid R'
  clear V' R'
  by_cases hf : f = 0
  · subst hf
    rw [if_pos rfl] at h
    obtain ⟨⟨c0, c1, c2⟩, g0, g1, g2⟩ := id R''.out
    obtain ⟨d0, d1, d2⟩ := id V''.out
    have V := V''.out
    have R := R''.out
    go_wp2_with fail
    refine (C.out _).mono ?_
    rintro e' w3 ⟨rfl, b3⟩
    replace V := V.keeps b3
    replace R := R.keeps b3
    replace b := bnext b b3
    clear b3 C c0 c1 c2
    obtain ⟨⟨c0, c1, c2⟩, f0, f1, f2⟩ := id R
    obtain ⟨d0, d1, d2⟩ := id V
    generalize ck ⟨3, m, ⟨#[]⟩⟩ = cc at *
    by_cases hc0 : cc = 0
    · subst hc0
      rw [if_pos rfl] at h
      obtain ⟨rfl, rfl, rfl⟩ : ⟨3, m, ⟨#[]⟩⟩ = v ∧ q = y ∧ 0 = e := by simpa using h
      clear h
      go_wp2_with fail
      obtain ⟨r0, r1, r2⟩ := (R.put 3 m ⟨#[]⟩).val
      simp [bodyPost, results, Tryz.results21, go_sem, r0, r1, r2]
      exact put_below b (Nat.le_refl _) _ _ _
    · rw [if_neg hc0] at h
      obtain ⟨rfl, rfl, rfl⟩ : ⟨0, 0, ⟨#[]⟩⟩ = v ∧ 0 = y ∧ cc = e := by simpa using h
      clear h
      go_wp2_with fail
      obtain ⟨r0, r1, r2⟩ := (R.put 0 0 ⟨#[]⟩).val
      simp [bodyPost, results, Tryz.results21, go_sem, r0, r1, r2]
      first | exact ⟨rfl, put_below b (Nat.le_refl _) _ _ _⟩ | exact put_below b (Nat.le_refl _) _ _ _
  · rw [if_neg hf] at h
    obtain ⟨rfl, rfl, rfl⟩ : ⟨0, 0, ⟨#[]⟩⟩ = v ∧ 0 = y ∧ (f : Int) = e := by simpa using h
    have hd : ((f : Int) == 0) = false := by rw [beq_eq_false_iff_ne]; omega
    have R := R''.out
    obtain ⟨⟨r0, r1, r2⟩, g0, g1, g2⟩ := id R
    clear r0 r1 r2
    clear h
    go_wp2_with fail
    simp [bodyPost, results, Tryz.results21, go_sem]
    first | exact ⟨rfl, b⟩ | exact b

set_option maxRecDepth 20000 in
set_option maxHeartbeats 1000000 in
theorem rrd_text4 (a : Option Addr) (n c : Nat) (l : List Nat) (p : Nat) (w : World) (hA : Li w a n c l) (hn : n ≤ 100000) (hp : p < n) (hx : ix l p = 4) (v : Va) (y : Nat) (e : Int) (h : rEnd (rC 4 l (p + 1)) = (v, y, e)) :
    Calls Tryz.prog 21 #[.slice a n c, .int .i64 (p : Nat)] w fun e' w' => e' = .returned (.tuple #[.agg #[.int .i64 v.k, .int .i64 v.n, .string v.s], .int .i64 (y : Nat), .int .i64 e]) ∧ Below w.heap.size w w' := by
  have bl := balloc (b0 w) (.cells #[.int .i64 0, .int .i64 0, .string ⟨#[]⟩] 23)
  have hln := hA.hn
  obtain ⟨B, off, rfl, hc, hx2⟩ := cell_at hA.hat (p := p) (by omega)
  have hc1 := keeps bl hc
  rw [hx] at hc1
  obtain ⟨F, hF⟩ : ∃ F, n - p = F := ⟨_, rfl⟩
  have CL := Lib.hid (refLeft_in (some ⟨B, off, none⟩) n c p F (w.alloc (.cells #[.int .i64 0, .int .i64 0, .string ⟨#[]⟩] 23)) (by omega) hF (by omega))
  have LA := hA.keeps bl
  have hF0 : ¬ (F : Int) < 0 := by omega
  have hF1 : ((F : Int) == 0) = false := by rw [beq_eq_false_iff_ne]; omega
  have bl2 := balloc bl (.cells #[.int .i64 4, .int .i64 0, .string ⟨#[]⟩] 23)
  have R := (Vw.new w 0 0 ⟨#[]⟩ 23).keeps (balloc (b0 _) (.cells #[.int .i64 4, .int .i64 0, .string ⟨#[]⟩] 23))
  have V := Vw.new (w.alloc (.cells #[.int .i64 0, .int .i64 0, .string ⟨#[]⟩] 23)) 4 0 ⟨#[]⟩ 23
  rw [show (w.alloc (.cells #[.int .i64 0, .int .i64 0, .string ⟨#[]⟩] 23)).heap.size = w.heap.size + 1 by simp] at V
  have he : (.empty : ByteArray) = ⟨#[]⟩ := rfl
  obtain ⟨m, q, f, hI⟩ : ∃ m q f, rT l ((p + 1 : Nat) : Int) = (m, q, f) := ⟨_, _, _, rfl⟩
  have hml := rT_len l ((p + 1 : Nat) : Int)
  rw [hI] at hml
  rw [show rC 4 l (p + 1) = (⟨4, 0, st_of m⟩, q, f) by unfold rC; rw [if_neg (by decide), if_neg (by decide), if_neg (by decide), if_pos (by decide), hI]; rfl] at h
  simp only [rEnd, he] at h
  have b := balloc bl (.cells #[.int .i64 4, .int .i64 0, .string (st_of m)] 23)
  have V' := Vx.new (w.alloc (.cells #[.int .i64 0, .int .i64 0, .string ⟨#[]⟩] 23)) 4 0 (st_of m) 23
  rw [show (w.alloc (.cells #[.int .i64 0, .int .i64 0, .string ⟨#[]⟩] 23)).heap.size = w.heap.size + 1 by simp] at V'
  have R' := (Vw.new w 0 0 ⟨#[]⟩ 23).keeps (balloc (b0 _) (.cells #[.int .i64 4, .int .i64 0, .string (st_of m)] 23))
  have CR := Lib.hid (refReadT_any (some ⟨B, off, none⟩) n c l ((p + 1 : Nat) : Int) _ (LA.keeps (balloc (b0 _) (.cells #[.int .i64 4, .int .i64 0, .string ⟨#[]⟩] 23))) m q f hI)
  have C := Lib.hid (rcheck_any 4 0 (st_of m) (by rw [st_of_size]; have : m.length ≤ l.length := hml; omega))
  clear hA LA hc hx hx2 hF bl bl2 hI
  go_enter Tryz.func21, Tryz.ntmps21
  go_wp2_with fail
  refine CL.out.mono ?_
  rintro e' w1 ⟨rfl, rfl⟩
  obtain ⟨⟨c0, c1, c2⟩, f0, f1, f2⟩ := id V
  go_wp2_with fail
  refine CR.out.mono ?_
  rintro e' w2 ⟨rfl, rfl⟩
  clear CR CL c0 c1 c2
  have V'' := Lib.hid V'
  have R'' := Lib.hid R'
  clear V' R'
  by_cases hf : f = 0
  · subst hf
    rw [if_pos rfl] at h
    obtain ⟨⟨c0, c1, c2⟩, g0, g1, g2⟩ := id R''.out
    obtain ⟨d0, d1, d2⟩ := id V''.out
    have V := V''.out
    have R := R''.out
    go_wp2_with fail
    refine (C.out _).mono ?_
    rintro e' w3 ⟨rfl, b3⟩
    replace V := V.keeps b3
    replace R := R.keeps b3
    replace b := bnext b b3
    clear b3 C c0 c1 c2
    obtain ⟨⟨c0, c1, c2⟩, f0, f1, f2⟩ := id R
    obtain ⟨d0, d1, d2⟩ := id V
    generalize ck ⟨4, 0, st_of m⟩ = cc at *
    by_cases hc0 : cc = 0
    · subst hc0
      rw [if_pos rfl] at h
      obtain ⟨rfl, rfl, rfl⟩ : ⟨4, 0, st_of m⟩ = v ∧ q = y ∧ 0 = e := by simpa using h
      clear h
      go_wp2_with fail
      obtain ⟨r0, r1, r2⟩ := (R.put 4 0 (st_of m)).val
      simp [bodyPost, results, Tryz.results21, go_sem, r0, r1, r2]
      exact put_below b (Nat.le_refl _) _ _ _
    · rw [if_neg hc0] at h
      obtain ⟨rfl, rfl, rfl⟩ : ⟨0, 0, ⟨#[]⟩⟩ = v ∧ 0 = y ∧ cc = e := by simpa using h
      clear h
      go_wp2_with fail
      obtain ⟨r0, r1, r2⟩ := (R.put 0 0 ⟨#[]⟩).val
      simp [bodyPost, results, Tryz.results21, go_sem, r0, r1, r2]
      first | exact ⟨rfl, put_below b (Nat.le_refl _) _ _ _⟩ | exact put_below b (Nat.le_refl _) _ _ _
  · rw [if_neg hf] at h
    obtain ⟨rfl, rfl, rfl⟩ : ⟨0, 0, ⟨#[]⟩⟩ = v ∧ 0 = y ∧ (f : Int) = e := by simpa using h
    have hd : ((f : Int) == 0) = false := by rw [beq_eq_false_iff_ne]; omega
    have R := R''.out
    obtain ⟨⟨r0, r1, r2⟩, g0, g1, g2⟩ := id R
    clear r0 r1 r2
    clear h
    go_wp2_with fail
    simp [bodyPost, results, Tryz.results21, go_sem]
    first | exact ⟨rfl, b⟩ | exact b

set_option maxRecDepth 20000 in
set_option maxHeartbeats 1000000 in
theorem rrd_text5 (a : Option Addr) (n c : Nat) (l : List Nat) (p : Nat) (w : World) (hA : Li w a n c l) (hn : n ≤ 100000) (hp : p < n) (hx : ix l p = 5) (v : Va) (y : Nat) (e : Int) (h : rEnd (rC 5 l (p + 1)) = (v, y, e)) :
    Calls Tryz.prog 21 #[.slice a n c, .int .i64 (p : Nat)] w fun e' w' => e' = .returned (.tuple #[.agg #[.int .i64 v.k, .int .i64 v.n, .string v.s], .int .i64 (y : Nat), .int .i64 e]) ∧ Below w.heap.size w w' := by
  have bl := balloc (b0 w) (.cells #[.int .i64 0, .int .i64 0, .string ⟨#[]⟩] 23)
  have hln := hA.hn
  obtain ⟨B, off, rfl, hc, hx2⟩ := cell_at hA.hat (p := p) (by omega)
  have hc1 := keeps bl hc
  rw [hx] at hc1
  obtain ⟨F, hF⟩ : ∃ F, n - p = F := ⟨_, rfl⟩
  have CL := Lib.hid (refLeft_in (some ⟨B, off, none⟩) n c p F (w.alloc (.cells #[.int .i64 0, .int .i64 0, .string ⟨#[]⟩] 23)) (by omega) hF (by omega))
  have LA := hA.keeps bl
  have hF0 : ¬ (F : Int) < 0 := by omega
  have hF1 : ((F : Int) == 0) = false := by rw [beq_eq_false_iff_ne]; omega
  have bl2 := balloc bl (.cells #[.int .i64 5, .int .i64 0, .string ⟨#[]⟩] 23)
  have R := (Vw.new w 0 0 ⟨#[]⟩ 23).keeps (balloc (b0 _) (.cells #[.int .i64 5, .int .i64 0, .string ⟨#[]⟩] 23))
  have V := Vw.new (w.alloc (.cells #[.int .i64 0, .int .i64 0, .string ⟨#[]⟩] 23)) 5 0 ⟨#[]⟩ 23
  rw [show (w.alloc (.cells #[.int .i64 0, .int .i64 0, .string ⟨#[]⟩] 23)).heap.size = w.heap.size + 1 by simp] at V
  have he : (.empty : ByteArray) = ⟨#[]⟩ := rfl
  obtain ⟨m, q, f, hI⟩ : ∃ m q f, rT l ((p + 1 : Nat) : Int) = (m, q, f) := ⟨_, _, _, rfl⟩
  have hml := rT_len l ((p + 1 : Nat) : Int)
  rw [hI] at hml
  rw [show rC 5 l (p + 1) = (⟨5, 0, st_of m⟩, q, f) by unfold rC; rw [if_neg (by decide), if_neg (by decide), if_neg (by decide), if_pos (by decide), hI]; rfl] at h
  simp only [rEnd, he] at h
  have b := balloc bl (.cells #[.int .i64 5, .int .i64 0, .string (st_of m)] 23)
  have V' := Vx.new (w.alloc (.cells #[.int .i64 0, .int .i64 0, .string ⟨#[]⟩] 23)) 5 0 (st_of m) 23
  rw [show (w.alloc (.cells #[.int .i64 0, .int .i64 0, .string ⟨#[]⟩] 23)).heap.size = w.heap.size + 1 by simp] at V'
  have R' := (Vw.new w 0 0 ⟨#[]⟩ 23).keeps (balloc (b0 _) (.cells #[.int .i64 5, .int .i64 0, .string (st_of m)] 23))
  have CR := Lib.hid (refReadT_any (some ⟨B, off, none⟩) n c l ((p + 1 : Nat) : Int) _ (LA.keeps (balloc (b0 _) (.cells #[.int .i64 5, .int .i64 0, .string ⟨#[]⟩] 23))) m q f hI)
  have C := Lib.hid (rcheck_any 5 0 (st_of m) (by rw [st_of_size]; have : m.length ≤ l.length := hml; omega))
  clear hA LA hc hx hx2 hF bl bl2 hI
  go_enter Tryz.func21, Tryz.ntmps21
  go_wp2_with fail
  refine CL.out.mono ?_
  rintro e' w1 ⟨rfl, rfl⟩
  obtain ⟨⟨c0, c1, c2⟩, f0, f1, f2⟩ := id V
  go_wp2_with fail
  refine CR.out.mono ?_
  rintro e' w2 ⟨rfl, rfl⟩
  clear CR CL c0 c1 c2
  have V'' := Lib.hid V'
  have R'' := Lib.hid R'
  clear V' R'
  by_cases hf : f = 0
  · subst hf
    rw [if_pos rfl] at h
    obtain ⟨⟨c0, c1, c2⟩, g0, g1, g2⟩ := id R''.out
    obtain ⟨d0, d1, d2⟩ := id V''.out
    have V := V''.out
    have R := R''.out
    go_wp2_with fail
    refine (C.out _).mono ?_
    rintro e' w3 ⟨rfl, b3⟩
    replace V := V.keeps b3
    replace R := R.keeps b3
    replace b := bnext b b3
    clear b3 C c0 c1 c2
    obtain ⟨⟨c0, c1, c2⟩, f0, f1, f2⟩ := id R
    obtain ⟨d0, d1, d2⟩ := id V
    generalize ck ⟨5, 0, (st_of m)⟩ = cc at *
    by_cases hc0 : cc = 0
    · subst hc0
      rw [if_pos rfl] at h
      obtain ⟨rfl, rfl, rfl⟩ : ⟨5, 0, (st_of m)⟩ = v ∧ q = y ∧ 0 = e := by simpa using h
      clear h
      go_wp2_with fail
      obtain ⟨r0, r1, r2⟩ := (R.put 5 0 (st_of m)).val
      simp [bodyPost, results, Tryz.results21, go_sem, r0, r1, r2]
      exact put_below b (Nat.le_refl _) _ _ _
    · rw [if_neg hc0] at h
      obtain ⟨rfl, rfl, rfl⟩ : ⟨0, 0, ⟨#[]⟩⟩ = v ∧ 0 = y ∧ cc = e := by simpa using h
      clear h
      go_wp2_with fail
      obtain ⟨r0, r1, r2⟩ := (R.put 0 0 ⟨#[]⟩).val
      simp [bodyPost, results, Tryz.results21, go_sem, r0, r1, r2]
      first | exact ⟨rfl, put_below b (Nat.le_refl _) _ _ _⟩ | exact put_below b (Nat.le_refl _) _ _ _
  · rw [if_neg hf] at h
    obtain ⟨rfl, rfl, rfl⟩ : ⟨0, 0, ⟨#[]⟩⟩ = v ∧ 0 = y ∧ (f : Int) = e := by simpa using h
    have hd : ((f : Int) == 0) = false := by rw [beq_eq_false_iff_ne]; omega
    have R := R''.out
    obtain ⟨⟨r0, r1, r2⟩, g0, g1, g2⟩ := id R
    clear r0 r1 r2
    clear h
    go_wp2_with fail
    simp [bodyPost, results, Tryz.results21, go_sem]
    first | exact ⟨rfl, b⟩ | exact b

set_option maxRecDepth 20000 in
theorem rread_any (a : Option Addr) (n c : Nat) (l : List Nat) (z : Int) (w : World) (hA : Li w a n c l) (hn : n ≤ 100000) (v : Va) (y : Nat) (e : Int) (h : rV l z = (v, y, e)) :
    Calls Tryz.prog 21 #[.slice a n c, .int .i64 z] w fun e' w' => e' = .returned (.tuple #[.agg #[.int .i64 v.k, .int .i64 v.n, .string v.s], .int .i64 (y : Nat), .int .i64 e]) ∧ Below w.heap.size w w' := by
  have bl := balloc (b0 w) (.cells #[.int .i64 0, .int .i64 0, .string ⟨#[]⟩] 23)
  have hln := hA.hn
  unfold rV at h
  by_cases h1 : z < 0 ∨ (l.length : Int) < z
  · rw [if_pos h1] at h
    obtain ⟨rfl, rfl, rfl⟩ : ⟨0, 0, .empty⟩ = v ∧ 0 = y ∧ 1 = e := by simpa using h
    rw [hln] at h1
    have CL := Lib.hid (refLeft_out a n c z (w.alloc (.cells #[.int .i64 0, .int .i64 0, .string ⟨#[]⟩] 23)) h1)
    clear hA h hln h1
    go_enter Tryz.func21, Tryz.ntmps21
    go_wp2_with fail
    refine CL.out.mono ?_
    rintro e' w1 ⟨rfl, rfl⟩
    go_wp2_with fail
    simp [bodyPost, results, Tryz.results21, go_sem]
    exact ⟨rfl, bl⟩
  rw [if_neg h1, hln] at h
  rw [hln] at h1
  obtain ⟨p, rfl⟩ : ∃ p : Nat, z = p := ⟨z.toNat, by omega⟩
  by_cases h2 : (p : Int) = (n : Int)
  · rw [if_pos h2] at h
    obtain ⟨rfl, rfl, rfl⟩ : ⟨0, 0, .empty⟩ = v ∧ 0 = y ∧ 41 = e := by simpa using h
    have CL := Lib.hid (refLeft_in a n c p 0 (w.alloc (.cells #[.int .i64 0, .int .i64 0, .string ⟨#[]⟩] 23)) (by omega) (by omega) (by omega))
    clear hA h h1 h2 hln
    go_enter Tryz.func21, Tryz.ntmps21
    go_wp2_with fail
    refine CL.out.mono ?_
    rintro e' w1 ⟨rfl, rfl⟩
    go_wp2_with fail
    simp [bodyPost, results, Tryz.results21, go_sem]
    exact ⟨rfl, bl⟩
  rw [if_neg h2, Int.toNat_natCast] at h
  have hp : p < n := by omega
  by_cases k0 : ix l p = 0
  · rw [k0] at h; exact rrd_null a n c l p w hA hn hp k0 v y e h
  by_cases k1 : ix l p = 1
  · rw [k1] at h; exact rrd_bool a n c l p w hA hn hp k1 v y e h
  by_cases k2 : ix l p = 2
  · rw [k2] at h; exact rrd_int2 a n c l p w hA hn hp k2 v y e h
  by_cases k3 : ix l p = 3
  · rw [k3] at h; exact rrd_int3 a n c l p w hA hn hp k3 v y e h
  by_cases k4 : ix l p = 4
  · rw [k4] at h; exact rrd_text4 a n c l p w hA hn hp k4 v y e h
  by_cases k5 : ix l p = 5
  · rw [k5] at h; exact rrd_text5 a n c l p w hA hn hp k5 v y e h
  exact rrd_none (ix l p) a n c l p w hA hn hp rfl k0 k1 k2 k3 k4 k5 v y e h
end Go.Proofs.YtmogkinaegdioaaGreatDoor
