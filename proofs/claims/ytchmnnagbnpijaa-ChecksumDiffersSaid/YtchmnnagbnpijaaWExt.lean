/-
  The walks of ChecksumExtends and ChecksumLinear.
-/
import Derived.Test.YtchmnnagbnpijaaLift
import Derived.Test.YtchmnnagbnpijaaOwn
import Derived.Deep.RegionWith
import Derived.BigRegion
namespace Go.Proofs.Ytchmnnagbnpijaa
open Go.RowKit

theorem few_b {a : Option Addr} {n cap : Nat} {f : Nat → Nat} {w : World} (h : Lies w a n cap f) (m : Nat) (hm : m ≤ 140737488351232) :
    ∃ k, k ≤ n ∧ k ≤ m ∧ Lies w a k cap f ∧ Calls Try.prog 10 #[.slice a n cap, .int .i64 m] w fun e w' => e = .returned (.slice a k cap) ∧ w = w' := by
  obtain ⟨h1, h2, h3, h4, h5⟩ := h
  exact ⟨min n m, Nat.min_le_left _ _, Nat.min_le_right _ _, ⟨h1.less (Nat.min_le_left _ _), by omega, h3, by omega, h5⟩, few_any a n cap m w h2 h3⟩

theorem walk_extends (a b : Option Addr) (n cap m cap2 : Nat) (f g : Nat → Nat) (w : World) (hA : Lies w a n cap f) (hB : Lies w b m cap2 g) :
    Calls Try.prog 6 #[.slice a n cap, .slice b m cap2] w fun e w' => e = .returned (.bool true) ∧ Below w.heap.size w w' := by
  obtain ⟨n1, _, l1, hA, c1⟩ := few_b hA 500 (by omega)
  obtain ⟨m1, _, l2, hB, c2⟩ := few_b hB 500 (by omega)
  obtain ⟨A1, A2, A3, A4, A5⟩ := hA
  obtain ⟨B1, B2, B3, B4, B5⟩ := hB
  go_enter Try.func6, Try.ntmps6
  go_wp2_with fail
  refine c1.mono ?_
  rintro e w' ⟨rfl, rfl⟩
  go_wp2_with fail
  refine c2.mono ?_
  rintro e w' ⟨rfl, rfl⟩
  clear c1 c2
  have O := Own.empty w w.heap.size (Nat.le_refl _) f
  have hb := balloc (b0 w) (.cells #[] 5)
  have A0 := A1.keeps hb
  go_wp2_with (first | (at_builtin; refine wpList_app _ rfl (.tmp 12) (.tmp 13) rfl w.heap.size 0 _ f rfl O a n1 cap f rfl A0 A5 (by omega) hb.size ?_; intro v1 w1 O1 hb1; rw [Nat.zero_add, cat_zero] at O1; have k1 := hb.trans hb1; clear hb1) | (at_builtin; refine wpList_app _ rfl (.tmp 14) (.tmp 15) rfl w.heap.size n1 v1 f rfl O1 b m1 cap2 g rfl (B1.keeps k1) B5 (by omega) k1.size ?_; intro v2 w2 O2 hb2; have k2 := k1.trans hb2; clear hb2 k1 O1 O A0 hb))
  obtain ⟨a2, cp2, rfl, C1, C2, C3, C4⟩ := O2.at (cat_lt A1.2 B1.2)
  clear O2
  have hv := (crc_cat f g n1 m1 0).symm
  have hS : crc f n1 0 < 4294967296 := crc_lt n1 (by decide) A1.2
  refine (example_any _).mono ?_
  rintro e w3 ⟨rfl, hb⟩
  replace k2 := bnext k2 hb
  replace C1 := C1.keeps hb
  clear hb
  go_wp2_with fail
  refine (sum_any a n1 cap f _ A4 (A1.keeps k2)).mono ?_
  rintro e w4 ⟨rfl, hb⟩
  replace k2 := bnext k2 hb
  replace C1 := C1.keeps hb
  clear hb
  generalize crc f n1 0 = S at *
  go_wp2_with fail
  refine (extend_any S b m1 cap2 g _ hS B4 (B1.keeps k2)).mono ?_
  rintro e w5 ⟨rfl, hb⟩
  replace k2 := bnext k2 hb
  replace C1 := C1.keeps hb
  clear hb
  generalize crc g m1 S = T at *
  go_wp2_with fail
  refine (sum_at hv a2 cp2 _ (by omega) C1).mono ?_
  rintro e w6 ⟨rfl, hb⟩
  replace k2 := bnext k2 hb
  clear hb
  go_wp2_with fail
  go_ret
  exact ⟨rfl, k2⟩

def x3 (f g h : Nat → Nat) : Nat → Nat := fun i => f i ^^^ g i ^^^ h i
theorem x3_lt {f g h : Nat → Nat} {n : Nat} (hf : ∀ j, j < n → f j < 256) (hg : ∀ j, j < n → g j < 256) (hh : ∀ j, j < n → h j < 256) : ∀ j, j < n → x3 f g h j < 256 :=
  fun j hj => Nat.xor_lt_two_pow (n := 8) (Nat.xor_lt_two_pow (n := 8) (hf j hj) (hg j hj)) (hh j hj)
/-- The first k bytes are laid, the others are 0. -/
def upto (f : Nat → Nat) (k : Nat) : Nat → Nat := fun i => if i < k then f i else 0
theorem upto_step (f : Nat → Nat) (k : Nat) : upd (upto f k) k (f k) = upto f (k + 1) := by
  funext i
  unfold upd upto
  by_cases h : i = k
  · subst h
    rw [if_pos rfl, if_pos (by omega)]
  · rw [if_neg h]
    by_cases h2 : i < k
    · rw [if_pos h2, if_pos (by omega)]
    · rw [if_neg h2, if_neg (by omega)]
theorem upto_all (f : Nat → Nat) (n : Nat) : ∀ i, i < n → upto f n i = f i := fun _ hi => if_pos hi
theorem made_zero (f : Nat → Nat) (n : Nat) : (madeCells (Value.int .u8 0).cells (n * 1)).toList = vals (upto f 0) n := by
  unfold madeCells vals
  simp [upto, Value.cells, Nat.mod_one]
theorem run_min4 (n m l : Nat) (t : Array TypeId) (ty : TypeId) (w : World) :
    (Builtin.min_ t ty #[.int .i64 (n : Int), .int .i64 (m : Int), .int .i64 (l : Int), .int .i64 500]).run Try.prog w = .ok (.int .i64 ((min (min (min n m) l) 500 : Nat) : Int)) w := by
  simp [Builtin.min_, Builtin.min2]
  repeat' split
  all_goals omega
theorem x8 {a b : Nat} (ha : a < 256) (hb : b < 256) : bits .xor .u8 (a : Int) (b : Int) = ((a ^^^ b : Nat) : Int) := u8_xor_nat a b ha hb

/-- What the loop knows. -/
structure Lin (w wr : World) (B K k : Nat) (f g h : Nat → Nat) : Prop where
  X : Wr wr B K (upto (x3 f g h) k)
  k : Below w.heap.size w wr
theorem At.regrown {w : World} {a : Option Addr} {n : Nat} {f : Nat → Nat} (h : At w a n f) (d : Nat) (os : Array Obj) : At (Sort.grow (redrawn w d) os) a n f := h.keeps (below_regrown w d os)
theorem below_of {w w' : World} (h : ∃ p : Regrown, w' = Sort.grow (redrawn w p.d) p.os) : Below w.heap.size w w' := by
  obtain ⟨p, rfl⟩ := h; exact below_regrown w p.d p.os
/-- Sum32, in a region of open order. -/
theorem sum_r {f : Nat → Nat} {n v : Nat} (hv : crc f n 0 = v) (a : Option Addr) (cap : Nat) (w : World) (hn : n ≤ 140737488351232) (hA : At w a n f) (d : Nat) (os : Array Obj) :
    Calls Try.prog 12 #[.slice a n cap] (Sort.grow (redrawn w d) os) fun e w'' => e = .returned (.int .u32 (v : Nat)) ∧ ∃ p : Regrown, w'' = Sort.grow (redrawn w p.d) p.os :=
  Calls.regrown_of (sum_at hv a cap _ hn (hA.regrown d os))
theorem example_r (w : World) (d : Nat) (os : Array Obj) :
    Calls Try.prog 11 #[] (Sort.grow (redrawn w d) os) fun e w'' => e = .returned (.bool true) ∧ ∃ p : Regrown, w'' = Sort.grow (redrawn w p.d) p.os :=
  Calls.regrown_of (example_any _)

theorem walk_linear (a b c : Option Addr) (n m l cap cap2 cap3 : Nat) (f g h : Nat → Nat) (w : World) (hA : Lies w a n cap f) (hB : Lies w b m cap2 g) (hC : Lies w c l cap3 h) :
    Calls Try.prog 7 #[.slice a n cap, .slice b m cap2, .slice c l cap3] w fun e w' => e = .returned (.bool true) ∧ Below w.heap.size w w' := by
  obtain ⟨A1, A2, A3, A4, A5⟩ := hA
  obtain ⟨B1, B2, B3, B4, B5⟩ := hB
  obtain ⟨C1, C2, C3, C4, C5⟩ := hC
  have hmin := run_min4 n m l
  have hK1 : min (min (min n m) l) 500 ≤ 500 := Nat.min_le_right _ _
  have hKn : min (min (min n m) l) 500 ≤ n := by omega
  have hKm : min (min (min n m) l) 500 ≤ m := by omega
  have hKl : min (min (min n m) l) 500 ≤ l := by omega
  generalize min (min (min n m) l) 500 = K at *
  replace A1 := A1.less hKn
  replace B1 := B1.less hKm
  replace C1 := C1.less hKl
  obtain ⟨i0, hi, hz0, hz1, hz2⟩ := info_parts info5
  have HMI := Lib.hid hi
  go_enter Try.func7, Try.ntmps7
  go_wp2_with (at_make; refine wpList_make_full _ rfl (.tmp 17) (.tmp 17) 23 rfl w.heap.size 5 i0 (.int .u8 0) 1 Try.underlying23 hi hz0 hz1 .i64 .i64 K K K rfl rfl rfl rfl (by rw [hz2]; omega) (by unfold maxLen; omega) (Nat.le_refl _) ?_; intro w1 hown hg; have X : Own w1 w.heap.size _ K (upto (x3 f g h) 0) := (by unfold Own; rw [← made_zero]; exact hown); have k1 := (Below.refl w.heap.size w).grown hg (Nat.le_refl _) (fun k hk => by cases hk); clear hown hg)
  have X0 : Wr w1 w.heap.size K (upto (x3 f g h) 0) := by
    rcases X.out with ⟨h1, _⟩ | ⟨g', cap', h1, _, _, _, _, h2⟩
    · cases h1
    · simp only [Value.slice.injEq, Option.some.injEq, Addr.mk.injEq] at h1
      rw [h1.1.1]
      exact h2
  have L0 : Lin w w1 w.heap.size K 0 f g h := ⟨X0, k1⟩
  clear hmin hi hz0 hz1 hz2 HMI X X0 k1
  obtain ⟨B, hB⟩ : ∃ B, w.heap.size = B := ⟨_, rfl⟩
  rw [hB] at L0 ⊢
  have hBl : w.heap.size ≤ B := by omega
  clear hB
  go_loopw [9] (fun i wr => ∃ k : Nat, k ≤ K ∧ i = .int .i64 k ∧ Lin w wr B K k f g h) (fun i _ => K - (intOf i).toNat)
  case atStart => exact ⟨0, by omega, rfl, L0⟩
  case round =>
    clear L0
    obtain ⟨k, hk, rfl, L⟩ := hrel
    by_cases hlt : k < K
    · obtain ⟨ba, oa, rfl, hA⟩ := (A1.keeps L.k).1.resolve_left (by omega)
      obtain ⟨bb, ob, rfl, hB⟩ := (B1.keeps L.k).1.resolve_left (by omega)
      obtain ⟨bc, oc, rfl, hC⟩ := (C1.keeps L.k).1.resolve_left (by omega)
      have ca := hA k hlt
      have cb := hB k hlt
      have cc := hC k hlt
      obtain ⟨cx, fx⟩ := L.X k hlt
      have e1 := x8 (A1.2 k hlt) (B1.2 k hlt)
      have e2 := x8 (a := f k ^^^ g k) (Nat.xor_lt_two_pow (n := 8) (A1.2 k hlt) (B1.2 k hlt)) (C1.2 k hlt)
      have XS := L.X.set hlt (f k ^^^ g k ^^^ h k)
      rw [show f k ^^^ g k ^^^ h k = x3 f g h k from rfl, upto_step] at XS
      rw [show f k ^^^ g k ^^^ h k = x3 f g h k from rfl] at e2
      clear hA hB hC
      generalize f k ^^^ g k = y at *
      generalize x3 f g h k = z at *
      go_wp2_with fail
      go_region
      all_goals (try go_wp2_with fail)
      all_goals (go_roundw; (case rel => exact ⟨k + 1, by omega, by go_num, ⟨XS, (L.k.setCell (p := ⟨B, k, none⟩) hBl _).drew⟩⟩); (case measure => (simp [intOf]; omega)))
    · obtain rfl : k = K := by omega
      have hX : At wr (some ⟨B, 0, none⟩) k (x3 f g h) := by
        refine ⟨.inr ⟨B, 0, rfl, fun j hj => ?_⟩, x3_lt A1.2 B1.2 C1.2⟩
        rw [Nat.zero_add, (L.X j hj).1, upto_all _ _ _ hj]
      have hv : crc (x3 f g h) k 0 = crc f k 0 ^^^ crc g k 0 ^^^ crc h k 0 := crc_xor3 f g h k
      have F1 := crc_lt (s := 0) k (by decide) A1.2
      have G1 := crc_lt (s := 0) k (by decide) B1.2
      have H1 := crc_lt (s := 0) k (by decide) C1.2
      have hn : k ≤ 140737488351232 := by omega
      have SX := sum_r hv (some ⟨B, 0, none⟩) k wr hn hX
      have SA := sum_r rfl a cap wr hn (A1.keeps L.k)
      have SB := sum_r rfl b cap2 wr hn (B1.keeps L.k)
      have SC := sum_r rfl c cap3 wr hn (C1.keeps L.k)
      have e1 := x32 F1 G1
      have e2 := x32 (xor32 F1 G1) H1
      generalize crc f k 0 ^^^ crc g k 0 = y at *
      generalize y ^^^ crc h k 0 = z at *
      generalize crc f k 0 = F at *
      generalize crc g k 0 = G at *
      generalize crc h k 0 = H at *
      have q1 : k ≤ cap := by omega
      have q2 : k ≤ cap2 := by omega
      have q3 : k ≤ cap3 := by omega
      have SX := Lib.hid SX
      have SA := Lib.hid SA
      have SB := Lib.hid SB
      have SC := Lib.hid SC
      clear hX hv F1 G1 H1
      go_wp2_with fail
      refine wp_region_quiet_below (by kernel_rfl) (by kernel_rfl) ?_
      repeat (quiet_step ((first | (go_at_call 11; exact example_r _ _ _) | (go_at_call 12; first | exact SX.out _ _ | exact SA.out _ _ | exact SB.out _ _ | exact SC.out _ _))))
      refine wpQuiet_nil ?_
      intro w5 hw5
      have hb := below_of hw5
      have k5 := bnext L.k hb
      clear hw5 hb SX SA SB SC e1 e2
      go_wp2_with fail
      go_ret
      exact ⟨rfl, k5⟩
end Go.Proofs.Ytchmnnagbnpijaa
