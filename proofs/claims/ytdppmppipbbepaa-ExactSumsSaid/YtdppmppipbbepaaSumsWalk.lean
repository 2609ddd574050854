/-
  The walk of ExactSums over the pairs in memory.
-/
import Derived.Test.YtdppmppipbbepaaLift
import Derived.Test.YtdppmppipbbepaaSum
import Derived.Deep.CutBlock
import Derived.Deep.DeepCutAuto
import Derived.Deep.RegionWith
namespace Go.Proofs.Ytdppmppipbbepaa.sums
open Go.RowKit

/-- The block b holds the pairs (f j, g j) from the cell off on. -/
structure Pairs (w : World) (b off n : Nat) (f g : Nat → Int) : Prop where
  c0 : ∀ j, j < n → w.cell? ⟨b, off + j * 2, none⟩ = some (.int .i64 (f j))
  c1 : ∀ j, j < n → w.cell? ⟨b, off + j * 2 + 1, none⟩ = some (.int .i64 (g j))
theorem Pairs.keeps {w w1 : World} {b off n : Nat} {f g : Nat → Int} (h : Pairs w b off n f g) (hb : Below w.heap.size w w1) : Pairs w1 b off n f g :=
  ⟨fun j hj => Go.Proofs.Ytdppmppipbbepaa.keeps hb (h.c0 j hj), fun j hj => Go.Proofs.Ytdppmppipbbepaa.keeps hb (h.c1 j hj)⟩
/-- Fits an int. -/
def Fit (f : Nat → Int) (n : Nat) : Prop := ∀ j, j < n → -9223372036854775808 ≤ f j ∧ f j ≤ 9223372036854775807

/-- What the loops know. -/
structure Sg (w wr : World) (b off n : Nat) (f g : Nat → Int) (ku kd : Nat) (S T : Int) : Prop where
  P : Pairs wr b off n f g
  U : Box wr ku S
  V : Box wr kd T
  FU : Free wr ku
  FV : Free wr kd
  k : Below w.heap.size w wr
theorem Sg.next {w wr w1 : World} {b off n : Nat} {f g : Nat → Int} {ku kd : Nat} {S T : Int} (h : Sg w wr b off n f g ku kd S T) (hb : Below wr.heap.size wr w1) : Sg w w1 b off n f g ku kd S T :=
  ⟨h.P.keeps hb, h.U.keeps hb, h.V.keeps hb, h.FU.keeps hb, h.FV.keeps hb, bnext h.k hb⟩

/-- A pair of ints in the block k. -/
def Pr (w : World) (k : Nat) (x y : Int) : Prop := w.cell? ⟨k, 0, none⟩ = some (.int .i64 x) ∧ w.cell? ⟨k, 1, none⟩ = some (.int .i64 y)
theorem Pr.out {w : World} {k : Nat} {x y : Int} (h : Pr w k x y) : w.cell? ⟨k, 0, none⟩ = some (.int .i64 x) ∧ w.cell? ⟨k, 1, none⟩ = some (.int .i64 y) := h
theorem Pr.new (w : World) (x y : Int) : Pr (w.alloc (.cells #[.int .i64 x, .int .i64 y] 42)) w.heap.size x y := ⟨by simp [go_sem], by simp [go_sem]⟩
theorem Pr.keeps {w w1 : World} {k : Nat} {x y : Int} (h : Pr w k x y) (hb : Below w.heap.size w w1) : Pr w1 k x y := ⟨Go.Proofs.Ytdppmppipbbepaa.keeps hb h.1, Go.Proofs.Ytdppmppipbbepaa.keeps hb h.2⟩
theorem Pr.off {w : World} {k k' : Nat} {x y : Int} (h : Pr w k x y) (hk : k' ≠ k) (u v : Value) : Pr ((w.setCell ⟨k', 0, none⟩ u).setCell ⟨k', 1, none⟩ v) k x y := by
  have e : ∀ o o', (⟨k', o, none⟩ : Addr) ≠ ⟨k, o', none⟩ := fun _ _ h => hk (congrArg Addr.block h)
  unfold Pr
  rw [World.cell?_setCell_other _ _ _ _ (e 1 0), World.cell?_setCell_other _ _ _ _ (e 0 0), World.cell?_setCell_other _ _ _ _ (e 1 1), World.cell?_setCell_other _ _ _ _ (e 0 1)]
  exact h
theorem Pairs.off {w : World} {b off n k' : Nat} {f g : Nat → Int} (h : Pairs w b off n f g) (hk : k' ≠ b) (u v : Value) : Pairs ((w.setCell ⟨k', 0, none⟩ u).setCell ⟨k', 1, none⟩ v) b off n f g := by
  have e : ∀ o o', (⟨k', o, none⟩ : Addr) ≠ ⟨b, o', none⟩ := fun _ _ h => hk (congrArg Addr.block h)
  exact ⟨fun j hj => by rw [World.cell?_setCell_other _ _ _ _ (e 1 _), World.cell?_setCell_other _ _ _ _ (e 0 _)]; exact h.c0 j hj, fun j hj => by rw [World.cell?_setCell_other _ _ _ _ (e 1 _), World.cell?_setCell_other _ _ _ _ (e 0 _)]; exact h.c1 j hj⟩
theorem Free.set {w : World} {k : Nat} (h : Free w k) (p q : Addr) (u v : Value) : Free ((w.setCell p u).setCell q v) k :=
  ⟨by rw [World.frozen?_setCell, World.frozen?_setCell]; exact h.1, by rw [World.frozen?_setCell, World.frozen?_setCell]; exact h.2.1, by simpa using h.2.2⟩
theorem Sg.putU {w wr : World} {b off n : Nat} {f g : Nat → Int} {ku kd : Nat} {S T : Int} (h : Sg w wr b off n f g ku kd S T) (S' : Int) (h1 : ku ≠ b) (h2 : ku ≠ kd) (h3 : w.heap.size ≤ ku) :
    Sg w ((wr.setCell ⟨ku, 0, none⟩ (.int .i64 (hi S'))).setCell ⟨ku, 1, none⟩ (.int .u64 (lo S'))) b off n f g ku kd S' T :=
  ⟨h.P.off h1 _ _, h.U.put S', h.V.off h2 _ _, Free.set h.FU _ _ _ _, Free.set h.FV _ _ _ _, store2 h.k h3 _ _⟩
theorem Sg.putV {w wr : World} {b off n : Nat} {f g : Nat → Int} {ku kd : Nat} {S T : Int} (h : Sg w wr b off n f g ku kd S T) (T' : Int) (h1 : kd ≠ b) (h2 : kd ≠ ku) (h3 : w.heap.size ≤ kd) :
    Sg w ((wr.setCell ⟨kd, 0, none⟩ (.int .i64 (hi T'))).setCell ⟨kd, 1, none⟩ (.int .u64 (lo T'))) b off n f g ku kd S T' :=
  ⟨h.P.off h1 _ _, h.U.off h2 _ _, h.V.put T', Free.set h.FU _ _ _ _, Free.set h.FV _ _ _ _, store2 h.k h3 _ _⟩

theorem tmod_in (a : Int) (k : Nat) (hk : 0 < k) : -(k : Int) < a.tmod k ∧ a.tmod k < k := by
  refine ⟨?_, Int.tmod_lt_of_pos _ (by omega)⟩
  have h := Int.tmod_lt_of_pos (-a) (show (0 : Int) < k by omega)
  rw [Int.neg_tmod] at h
  omega
theorem turn_ix (j k : Nat) (m : Int) (m0 : -(k : Int) < m) : ((j : Int) + m + k).tmod k = (((j + (m + k).toNat) % k : Nat) : Int) := by
  rw [Int.tmod_eq_emod_of_nonneg (by omega), Int.natCast_emod]
  congr 1
  omega

set_option maxHeartbeats 8000000 in
theorem walk_some (b off n cap : Nat) (f g : Nat → Int) (by' : Int) (w : World) (hn : 0 < n) (hc : n ≤ cap) (hl : n * 16 ≤ 140737488351232) (hP : Pairs w b off n f g) (hf : Fit f n) (hg : Fit g n) :
    Calls Try.prog 12 #[.slice (some ⟨b, off, none⟩) n cap, .int .i64 by'] w fun e w' => e = .returned (.bool true) ∧ Below w.heap.size w w' := by
  go_enter Try.func12, Try.ntmps12
  go_wp2_with fail
  refine (example_any _).mono ?_
  rintro e w1 ⟨rfl, k1⟩
  go_wp2_with fail
  refine (of_u 0 _ (by decide) (by decide)).mono ?_
  rintro e w2 ⟨rfl, hb⟩
  have k2 := bnext k1 hb
  clear hb k1
  go_wp2_with fail
  refine (of_u 0 _ (by decide) (by decide)).mono ?_
  rintro e w3 ⟨rfl, hb⟩
  have k3 := bnext k2 hb
  clear hb k2
  go_wp2_with fail
  have hb0 : b < w.heap.size := block_lt_of_cell (hP.c0 0 hn)
  have L : Sg w ((w3.alloc (.cells #[.int .i64 (hi 0), .int .u64 (lo 0)] 24)).alloc (.cells #[.int .i64 (hi 0), .int .u64 (lo 0)] 24)) b off n f g w3.heap.size (w3.heap.size + 1) 0 0 := by
    have hb2 := (Below.refl w3.heap.size w3).alloc (Nat.le_refl _) (.cells #[.int .i64 (hi 0), .int .u64 (lo 0)] 24)
    have hb3 := (Below.refl (w3.alloc (.cells #[.int .i64 (hi 0), .int .u64 (lo 0)] 24)).heap.size (w3.alloc (.cells #[.int .i64 (hi 0), .int .u64 (lo 0)] 24))).alloc (Nat.le_refl _) (.cells #[.int .i64 (hi 0), .int .u64 (lo 0)] 24)
    have V := Box.new (w3.alloc (.cells #[.int .i64 (hi 0), .int .u64 (lo 0)] 24)) 0
    have FV := Free.new (w3.alloc (.cells #[.int .i64 (hi 0), .int .u64 (lo 0)] 24)) #[.int .i64 (hi 0), .int .u64 (lo 0)]
    simp only [World.size_alloc] at V FV
    exact ⟨((hP.keeps k3).keeps hb2).keeps hb3, (Box.new w3 0).keeps hb3, V, (Free.new w3 _).keeps hb3, FV, bnext (bnext k3 hb2) hb3⟩
  have hku : w.heap.size ≤ w3.heap.size := k3.size
  clear k3 hP
  generalize (w3.alloc (.cells #[.int .i64 (hi 0), .int .u64 (lo 0)] 24)).alloc (.cells #[.int .i64 (hi 0), .int .u64 (lo 0)] 24) = w4 at *
  generalize hkd : w3.heap.size + 1 = kd at *
  have KD := Lib.hid hkd
  clear hkd
  generalize w3.heap.size = ku at *
  have hkb : ku ≠ b ∧ kd ≠ b ∧ ku ≠ kd ∧ w.heap.size ≤ ku ∧ w.heap.size ≤ kd := by
    have := KD.out
    omega
  go_loopw [8] (fun i wr => ∃ k : Nat, k ≤ n ∧ i = .int .i64 k ∧ Sg w wr b off n f g ku kd (sm (fun j => f j * g j) k) (sm (fun j => f (n - 1 - j) * g (n - 1 - j)) k)) (fun i _ => n - (intOf i).toNat)
  case atStart => exact ⟨0, by omega, rfl, L⟩
  case round =>
    clear L
    obtain ⟨k, hk, rfl, L⟩ := hrel
    by_cases hlt : k < n
    · have x0 := L.P.c0 k hlt
      have x1 := L.P.c1 k hlt
      have y0 := L.P.c0 (n - 1 - k) (by omega)
      have y1 := L.P.c1 (n - 1 - k) (by omega)
      obtain ⟨p0, p1⟩ := hf k hlt
      obtain ⟨p2, p3⟩ := hg k hlt
      obtain ⟨q0, q1⟩ := hf (n - 1 - k) (by omega)
      obtain ⟨q2, q3⟩ := hg (n - 1 - k) (by omega)
      have s1 : ((n : Int) - 1 - k) < n := by omega
      have s2 : 0 ≤ ((n : Int) - 1 - k) := by omega
      have y0' := keeps_alloc (.cells #[.int .i64 (f k), .int .i64 (g k)] 42) y0
      have y1' := keeps_alloc (.cells #[.int .i64 (f k), .int .i64 (g k)] 42) y1
      go_wp2_with fail
      have hux : ku ≠ wr.heap.size ∧ ku ≠ wr.heap.size + 1 ∧ kd ≠ wr.heap.size ∧ kd ≠ wr.heap.size + 1 := by
        have h1 := L.FU.2.2
        have h2 := L.FV.2.2
        exact ⟨Nat.ne_of_lt h1, Nat.ne_of_lt (Nat.lt_succ_of_lt h1), Nat.ne_of_lt h2, Nat.ne_of_lt (Nat.lt_succ_of_lt h2)⟩
      have hb2 := (Below.refl wr.heap.size wr).alloc (Nat.le_refl _) (.cells #[.int .i64 (f k), .int .i64 (g k)] 42)
      have hb3 := (Below.refl (wr.alloc (.cells #[.int .i64 (f k), .int .i64 (g k)] 42)).heap.size (wr.alloc (.cells #[.int .i64 (f k), .int .i64 (g k)] 42))).alloc (Nat.le_refl _) (.cells #[.int .i64 (f (n - 1 - k)), .int .i64 (g (n - 1 - k))] 42)
      replace L := (L.next hb2).next hb3
      have XP := (Pr.new wr (f k) (g k)).keeps hb3
      have YP := Pr.new (wr.alloc (.cells #[.int .i64 (f k), .int .i64 (g k)] 42)) (f (n - 1 - k)) (g (n - 1 - k))
      simp only [World.size_alloc] at YP
      clear hb2 hb3 x0 x1 y0 y1 y0' y1' s1 s2
      generalize (wr.alloc (.cells #[.int .i64 (f k), .int .i64 (g k)] 42)).alloc (.cells #[.int .i64 (f (n - 1 - k)), .int .i64 (g (n - 1 - k))] 42) = w8 at *
      generalize wr.heap.size = xb at *
      go_cut [40] (fun _ wx => Sg w wx b off n f g ku kd (sm (fun j => f j * g j) k + f k * g k) (sm (fun j => f (n - 1 - j) * g (n - 1 - j)) k) ∧ Pr wx (xb + 1) (f (n - 1 - k)) (g (n - 1 - k)))
      case first =>
        generalize sm (fun j => f j * g j) k = S at *
        have L0 : Sg w w8.drew b off n f g ku kd S (sm (fun j => f (n - 1 - j) * g (n - 1 - j)) k) := ⟨⟨L.P.c0, L.P.c1⟩, L.U, L.V, L.FU, L.FV, L.k.drew⟩
        have X0 : Pr w8.drew xb (f k) (g k) := XP
        have Y0 : Pr w8.drew (xb + 1) (f (n - 1 - k)) (g (n - 1 - k)) := YP
        have ⟨u0, u1⟩ := L0.U
        have ⟨u0', u1'⟩ := L.U
        have ⟨xx0, xx1⟩ := X0
        go_region_with (first | (go_at_call 24; refine (mul_u (f k) (g k) _ (by omega) (by omega) (by omega) (by omega)).mono ?_; rintro e w9 ⟨rfl, hb⟩; have L9 := Sg.next (by assumption) hb; have X9 := Pr.keeps (show Pr _ xb _ _ from by assumption) hb; have Y9 := Pr.keeps (show Pr _ (xb + 1) _ _ from by assumption) hb; clear hb; have ⟨z0, z1⟩ := L9.U; have ⟨zx0, zx1⟩ := X9) | (go_at_call 14; refine (add_u S (f k * g k) _).mono ?_; rintro e w10 ⟨rfl, hb⟩; have L10 := Sg.next (by assumption) hb; have X10 := Pr.keeps (show Pr _ xb _ _ from by assumption) hb; have Y10 := Pr.keeps (show Pr _ (xb + 1) _ _ from by assumption) hb; clear hb; have ⟨z2, z3⟩ := L10.U; have ⟨z4, z5, z6⟩ := L10.FU))
        all_goals go_wp2_with fail
        all_goals go_meet
        all_goals exact ⟨Sg.putU L10 _ hkb.1 hkb.2.2.1 hkb.2.2.2.1, Y10.off hux.2.1 _ _⟩
      case rest =>
        obtain ⟨Lx, Yx⟩ := hcut
        clear L XP YP
        have eS : sm (fun j => f j * g j) (k + 1) = sm (fun j => f j * g j) k + f k * g k := rfl
        have eT : sm (fun j => f (n - 1 - j) * g (n - 1 - j)) (k + 1) = sm (fun j => f (n - 1 - j) * g (n - 1 - j)) k + f (n - 1 - k) * g (n - 1 - k) := rfl
        generalize sm (fun j => f (n - 1 - j) * g (n - 1 - j)) k = T at *
        generalize sm (fun j => f j * g j) k + f k * g k = S1 at *
        rw [Int.add_comm T] at eT
        have ES := Lib.hid eS
        have ET := Lib.hid eT
        clear eS eT
        have L0 : Sg w wc.drew b off n f g ku kd S1 T := ⟨⟨Lx.P.c0, Lx.P.c1⟩, Lx.U, Lx.V, Lx.FU, Lx.FV, Lx.k.drew⟩
        have Y0 : Pr wc.drew (xb + 1) (f (n - 1 - k)) (g (n - 1 - k)) := Yx
        have ⟨u0, u1⟩ := L0.V
        have ⟨u0', u1'⟩ := Lx.V
        have ⟨xx0, xx1⟩ := Y0
        have ⟨yx0, yx1⟩ := Yx
        go_wp2_with fail
        go_region_with (first | (go_at_call 24; refine (mul_u (f (n - 1 - k)) (g (n - 1 - k)) _ (by omega) (by omega) (by omega) (by omega)).mono ?_; rintro e w9 ⟨rfl, hb⟩; have L9 := Sg.next (by assumption) hb; have Y9 := Pr.keeps (show Pr _ (xb + 1) _ _ from by assumption) hb; clear hb; have ⟨z0, z1⟩ := L9.V; have ⟨zx0, zx1⟩ := Y9) | (go_at_call 14; refine (add_u (f (n - 1 - k) * g (n - 1 - k)) T _).mono ?_; rintro e w10 ⟨rfl, hb⟩; have L10 := Sg.next (by assumption) hb; have Y10 := Pr.keeps (show Pr _ (xb + 1) _ _ from by assumption) hb; clear hb; have ⟨z2, z3⟩ := L10.V; have ⟨z4, z5, z6⟩ := L10.FV))
        all_goals go_wp2_with fail
        all_goals (go_roundw; (case rel => first | exact ⟨k + 1, by omega, by go_num, by rw [ES.out, ET.out]; exact Sg.putV L10 _ hkb.2.1 hkb.2.2.1.symm hkb.2.2.2.2⟩ | ((repeat apply Exists.intro); exact ⟨⟨k + 1, by omega, by go_num, by rw [ES.out, ET.out]; exact Sg.putV L10 _ hkb.2.1 hkb.2.2.1.symm hkb.2.2.2.2⟩, rfl⟩)); (case measure => (simp [intOf]; omega)))
    · have ke : k = n := by omega
      subst ke
      rw [sm_rev (fun j => f j * g j) k] at L
      have ⟨u0, u1⟩ := L.U
      have ⟨v0, v1⟩ := L.V
      generalize hS : sm (fun j => f j * g j) k = S at *
      go_wp2_with fail
      go_loopw [11] (fun i wr => ∃ j : Nat, j ≤ k ∧ i = .int .i64 j ∧ Sg w wr b off k f g ku kd (S - sm (fun j => f ((j + (by'.tmod k + k).toNat) % k) * g ((j + (by'.tmod k + k).toNat) % k)) j) S) (fun i _ => k - (intOf i).toNat)
      case atStart => exact ⟨0, by omega, rfl, by simpa [sm] using L⟩
      case round =>
        clear L u0 u1 v0 v1
        obtain ⟨j, hj, rfl, L⟩ := hrel
        by_cases hlt2 : j < k
        · obtain ⟨m0, m1⟩ := tmod_in by' k hn
          have hix := turn_ix j k (by'.tmod k) m0
          have hne : ¬ (k : Int) = 0 := by omega
          obtain ⟨q, hq⟩ : ∃ q, (j + (by'.tmod k + k).toNat) % k = q := ⟨_, rfl⟩
          have hqk : q < k := by rw [← hq]; exact Nat.mod_lt _ hn
          have hstep : sm (fun j => f ((j + (by'.tmod k + k).toNat) % k) * g ((j + (by'.tmod k + k).toNat) % k)) (j + 1) = sm (fun j => f ((j + (by'.tmod k + k).toNat) % k) * g ((j + (by'.tmod k + k).toNat) % k)) j + f q * g q := by
            show _ + f ((j + (by'.tmod k + k).toNat) % k) * g ((j + (by'.tmod k + k).toNat) % k) = _
            rw [hq]
          rw [hq] at hix
          rw [← Int.mul_comm (g q)] at hstep
          generalize hF : sm (fun j => f ((j + (by'.tmod k + k).toNat) % k) * g ((j + (by'.tmod k + k).toNat) % k)) j = R at *
          generalize hG : sm (fun j => f ((j + (by'.tmod k + k).toNat) % k) * g ((j + (by'.tmod k + k).toNat) % k)) (j + 1) = R1 at *
          have hG' := Lib.hid hG
          clear hF hG
          obtain ⟨p0, p1⟩ := hf q hqk
          obtain ⟨p2, p3⟩ := hg q hqk
          go_upto_region 16 with fail
          clear hix m0 m1 hne
          have L0 : Sg w wr.drew b off k f g ku kd (S - R) S := ⟨⟨L.P.c0, L.P.c1⟩, L.U, L.V, L.FU, L.FV, L.k.drew⟩
          have ⟨u0, u1⟩ := L0.U
          have ⟨u0', u1'⟩ := L.U
          have x0 := L0.P.c0 q hqk
          have x1 := L0.P.c1 q hqk
          have y0 := L.P.c0 q hqk
          have y1 := L.P.c1 q hqk
          go_region_with (first | (go_at_call 24; refine (mul_u (g q) (f q) _ (by omega) (by omega) (by omega) (by omega)).mono ?_; rintro e w9 ⟨rfl, hb⟩; have L9 := Sg.next (by assumption) hb; clear hb; have ⟨z0, z1⟩ := L9.U; have zx0 := L9.P.c0 q hqk; have zx1 := L9.P.c1 q hqk) | (go_at_call 16; refine (sub_u (S - R) (g q * f q) _).mono ?_; rintro e w10 ⟨rfl, hb⟩; have L10 := Sg.next (by assumption) hb; clear hb; have ⟨z2, z3⟩ := L10.U; have ⟨z4, z5, z6⟩ := L10.FU))
          all_goals go_wp2_with fail
          all_goals (go_roundw; (case rel => first | exact ⟨j + 1, by omega, by go_num, by rw [hG'.out, hstep, ← Int.sub_sub]; exact Sg.putU L10 _ hkb.1 hkb.2.2.1 hkb.2.2.2.1⟩ | ((repeat apply Exists.intro); exact ⟨⟨j + 1, by omega, by go_num, by rw [hG'.out, hstep, ← Int.sub_sub]; exact Sg.putU L10 _ hkb.1 hkb.2.2.1 hkb.2.2.2.1⟩, rfl⟩)); (case measure => (simp [intOf]; omega)))
        · have je : j = k := by omega
          subst je
          rw [sm_turn (fun j => f j * g j) j _ hn, hS, Int.sub_self] at L
          have ⟨u0, u1⟩ := L.U
          go_wp2_with fail
          obtain ⟨A0, A1⟩ := L.U.regrown
          refine wp_region_quiet_below (by kernel_rfl) (by kernel_rfl) ?_
          repeat (quiet_step ((go_at_call 20; exact Calls.regrown_of (of_u 0 _ (by omega) (by omega)))))
          refine wpQuiet_nil ?_
          intro w5 hw5
          have hb := below_of hw5
          have k5 := bnext L.k hb
          clear hw5 hb A0 A1 u0 u1
          go_wp2
          go_ret
          exact ⟨rfl, k5⟩

set_option maxHeartbeats 8000000 in
theorem walk_none (a : Option Addr) (cap : Nat) (by' : Int) (w : World) :
    Calls Try.prog 12 #[.slice a 0 cap, .int .i64 by'] w fun e w' => e = .returned (.bool true) ∧ Below w.heap.size w w' := by
  go_enter Try.func12, Try.ntmps12
  go_wp2_with fail
  refine (example_any _).mono ?_
  rintro e w1 ⟨rfl, k1⟩
  go_wp2_with fail
  refine (of_u 0 _ (by decide) (by decide)).mono ?_
  rintro e w2 ⟨rfl, hb⟩
  have k2 := bnext k1 hb
  clear hb k1
  go_wp2_with fail
  refine (of_u 0 _ (by decide) (by decide)).mono ?_
  rintro e w3 ⟨rfl, hb⟩
  have k3 := bnext k2 hb
  clear hb k2
  go_wp2_with fail
  have hb2 := (Below.refl w3.heap.size w3).alloc (Nat.le_refl _) (.cells #[.int .i64 (hi 0), .int .u64 (lo 0)] 24)
  have hb3 := (Below.refl (w3.alloc (.cells #[.int .i64 (hi 0), .int .u64 (lo 0)] 24)).heap.size (w3.alloc (.cells #[.int .i64 (hi 0), .int .u64 (lo 0)] 24))).alloc (Nat.le_refl _) (.cells #[.int .i64 (hi 0), .int .u64 (lo 0)] 24)
  have U := (Box.new w3 0).keeps hb3
  have V := Box.new (w3.alloc (.cells #[.int .i64 (hi 0), .int .u64 (lo 0)] 24)) 0
  simp only [World.size_alloc] at V
  have k4 := bnext (bnext k3 hb2) hb3
  clear k3 hb2 hb3
  generalize (w3.alloc (.cells #[.int .i64 (hi 0), .int .u64 (lo 0)] 24)).alloc (.cells #[.int .i64 (hi 0), .int .u64 (lo 0)] 24) = w4 at *
  generalize w3.heap.size + 1 = kd at *
  generalize w3.heap.size = ku at *
  go_loopw [8] (fun i wr => i = .int .i64 0 ∧ wr = w4) (fun _ _ => 0)
  case atStart => exact ⟨rfl, rfl⟩
  case round =>
    obtain ⟨rfl, rfl⟩ := hrel
    have ⟨u0, u1⟩ := U
    have ⟨v0, v1⟩ := V
    go_wp2_with fail
    go_loopw [11] (fun i wq => i = .int .i64 0 ∧ wq = wr) (fun _ _ => 0)
    case atStart => exact ⟨rfl, rfl⟩
    case round =>
      obtain ⟨rfl, rfl⟩ := hrel
      go_wp2_with fail
      obtain ⟨A0, A1⟩ := U.regrown
      refine wp_region_quiet_below (by kernel_rfl) (by kernel_rfl) ?_
      repeat (quiet_step ((go_at_call 20; exact Calls.regrown_of (of_u 0 _ (by omega) (by omega)))))
      refine wpQuiet_nil ?_
      intro w5 hw5
      have hb := below_of hw5
      have k5 := bnext k4 hb
      clear hw5 hb A0 A1 u0 u1
      go_wp2
      go_ret
      exact ⟨rfl, k5⟩
end Go.Proofs.Ytdppmppipbbepaa.sums
