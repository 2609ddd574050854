/-
  The worked examples of the chapter.
-/
import Derived.Test.YtchmnnagbnpijaaSmp
import Derived.Lib.SlBytesConst
namespace Go.Proofs.Ytchmnnagbnpijaa
open Go.RowKit

/-- The bytes of the examples. -/
def dgt : Nat → Nat := fun i => 49 + i
def cst (c : Nat) : Nat → Nat := fun _ => c
theorem v0 : crc dgt 0 0 = 0 := by decide +kernel
theorem v1 : crc dgt 9 0 = 3421780262 := by decide +kernel
theorem v2 : crc (cst 98) 1 (crc (cst 97) 1 0) = 2659403885 := by decide +kernel
theorem v3 : hsh dgt 0 0 = 0 := by decide +kernel
theorem v4 : hsh (cst 97) 1 0 = 10811150683561025831 := by decide +kernel
theorem v5 : hsh dgt 8 7 = 8553921110080825787 := by decide +kernel
theorem v6 : hsh dgt 9 7 = 4973162054311077252 := by decide +kernel
theorem v7 : smp (cst 97) 1 0 831 = false := by decide +kernel
theorem v8 : smp (cst 97) 1 0 832 = true := by decide +kernel

/-! at the values -/
theorem va : crc (cst 97) 1 0 = crc (cst 97) 1 0 := rfl
theorem sum_at {f : Nat → Nat} {n v : Nat} (hv : crc f n 0 = v) (a : Option Addr) (cap : Nat) (w : World) (hn : n ≤ 140737488351232) (hA : At w a n f) :
    Calls Try.prog 12 #[.slice a n cap] w fun e w' => e = .returned (.int .u32 (v : Nat)) ∧ Below w.heap.size w w' := hv ▸ sum_any a n cap f w hn hA
theorem extend_at {f : Nat → Nat} {n s v : Nat} (hv : crc f n s = v) (hs : s < 4294967296) (a : Option Addr) (cap : Nat) (w : World) (hn : n ≤ 140737488351232) (hA : At w a n f) :
    Calls Try.prog 14 #[.int .u32 (s : Nat), .slice a n cap] w fun e w' => e = .returned (.int .u32 (v : Nat)) ∧ Below w.heap.size w w' := hv ▸ extend_any s a n cap f w hs hn hA
theorem hash_at {f : Nat → Nat} {n s v : Nat} (hv : hsh f n s = v) (hs : s < 18446744073709551616) (a : Option Addr) (cap : Nat) (w : World) (hn : n ≤ 140737488351232) (hc : n ≤ cap) (hc2 : cap ≤ 9223372036854775807) (hA : At w a n f) :
    Calls Try.prog 16 #[.int .u64 (s : Nat), .slice a n cap] w fun e w' => e = .returned (.int .u64 (v : Nat)) ∧ w = w' := hv ▸ hash_any s a n cap f w hs hn hc hc2 hA
theorem sample_at {f : Nat → Nat} {n : Nat} {s p : Int} {v : Bool} (hv : smp f n s p = v) (a : Option Addr) (cap : Nat) (w : World) (hn : n ≤ 140737488351232) (hc : n ≤ cap) (hc2 : cap ≤ 9223372036854775807) (hA : At w a n f) :
    Calls Try.prog 18 #[.int .i64 s, .slice a n cap, .int .i64 p] w fun e w' => e = .returned (.bool v) ∧ w = w' := hv ▸ sample_any s p a n cap f w hn hc hc2 hA
theorem heap_alloc (w : World) (o : Obj) : (w.alloc o).heap[w.heap.size]? = some o := by
  show (w.heap.push o)[w.heap.size]? = some o
  simp
theorem nine (w : World) : At (w.alloc (.cells #[.int .u8 49, .int .u8 50, .int .u8 51, .int .u8 52, .int .u8 53, .int .u8 54, .int .u8 55, .int .u8 56, .int .u8 57] 5 (9, 10))) (some ⟨w.heap.size, 0, none⟩) 9 dgt := by
  refine ⟨.inr ⟨_, _, rfl, fun j hj => ?_⟩, fun j hj => by unfold dgt; omega⟩
  have h : j = 0 ∨ j = 1 ∨ j = 2 ∨ j = 3 ∨ j = 4 ∨ j = 5 ∨ j = 6 ∨ j = 7 ∨ j = 8 := by omega
  rcases h with rfl | rfl | rfl | rfl | rfl | rfl | rfl | rfl | rfl <;> (simp only [World.cell?, heap_alloc]; rfl)
theorem one (w : World) (c : Nat) (hc : c < 256) : At (w.alloc (.cells #[.int .u8 (c : Nat)] 5 (1, 2))) (some ⟨w.heap.size, 0, none⟩) 1 (cst c) := by
  refine ⟨.inr ⟨_, _, rfl, fun j hj => ?_⟩, fun _ _ => hc⟩
  obtain rfl : j = 0 := by omega
  simp only [World.cell?, heap_alloc]
  rfl

set_option maxRecDepth 100000 in
theorem example_any (w : World) : Calls Try.prog 11 #[] w fun e w' => e = .returned (.bool true) ∧ Below w.heap.size w w' := by
  have kc := fun (w : World) (C : Array Value) (n c : Nat) => Lib.run_convert_bytes_const (P := Try.prog) w 23 5 C n c Try.underlying23 Try.underlying5
  go_enter Try.func11, Try.ntmps11
  go_wp2_with fail
  have D := nine w
  have k := balloc (b0 w) (.cells #[.int .u8 49, .int .u8 50, .int .u8 51, .int .u8 52, .int .u8 53, .int .u8 54, .int .u8 55, .int .u8 56, .int .u8 57] 5 (9, 10))
  generalize w.alloc (.cells #[.int .u8 49, .int .u8 50, .int .u8 51, .int .u8 52, .int .u8 53, .int .u8 54, .int .u8 55, .int .u8 56, .int .u8 57] 5 (9, 10)) = w1 at *
  obtain ⟨B, hB⟩ : ∃ B, w.heap.size = B := ⟨_, rfl⟩ -- w.heap.size = B at *
  rw [hB] at D ⊢
  clear hB
  refine (sum_at v0 none 0 _ (by decide) (At.nil _ _ _)).mono ?_
  rintro e w2 ⟨rfl, hb⟩
  replace k := bnext k hb
  replace D := D.keeps hb
  clear hb
  go_wp2_with fail
  refine (sum_at v1 (some ⟨B, 0, none⟩) 9 _ (by decide) D).mono ?_
  rintro e w3 ⟨rfl, hb⟩
  replace k := bnext k hb
  replace D := D.keeps hb
  clear hb
  go_wp2_with fail
  have O := one w3 97 (by decide)
  have hb := balloc (b0 w3) (.cells #[.int .u8 97] 5 (1, 2))
  replace k := bnext k hb
  replace D := D.keeps hb
  clear hb
  generalize w3.alloc (.cells #[.int .u8 97] 5 (1, 2)) = w4 at *
  generalize w3.heap.size = b3 at *
  refine (sum_at va (some ⟨b3, 0, none⟩) 1 _ (by decide) O).mono ?_
  rintro e w5 ⟨rfl, hb⟩
  replace k := bnext k hb
  replace D := D.keeps hb
  clear hb O
  go_wp2_with fail
  have O := one w5 98 (by decide)
  have hb := balloc (b0 w5) (.cells #[.int .u8 98] 5 (1, 2))
  replace k := bnext k hb
  replace D := D.keeps hb
  clear hb
  generalize w5.alloc (.cells #[.int .u8 98] 5 (1, 2)) = w6 at *
  generalize w5.heap.size = b5 at *
  refine (extend_at v2 (by decide) (some ⟨b5, 0, none⟩) 1 _ (by decide) O).mono ?_
  rintro e w7 ⟨rfl, hb⟩
  replace k := bnext k hb
  replace D := D.keeps hb
  clear hb O
  go_wp2_with fail
  refine (hash_at v3 (by decide) none 0 _ (by decide) (by decide) (by decide) (At.nil _ _ _)).mono ?_
  rintro e w' ⟨rfl, rfl⟩
  go_wp2_with fail
  have O := one w7 97 (by decide)
  have hb := balloc (b0 w7) (.cells #[.int .u8 97] 5 (1, 2))
  replace k := bnext k hb
  replace D := D.keeps hb
  clear hb
  generalize w7.alloc (.cells #[.int .u8 97] 5 (1, 2)) = w8 at *
  generalize w7.heap.size = b7 at *
  refine (hash_at v4 (by decide) (some ⟨b7, 0, none⟩) 1 _ (by decide) (by decide) (by decide) O).mono ?_
  rintro e w' ⟨rfl, rfl⟩
  clear O
  go_wp2_with fail
  refine (hash_at v5 (by decide) (some ⟨B, 0, none⟩) 9 _ (by decide) (by decide) (by decide) (D.less (by decide))).mono ?_
  rintro e w' ⟨rfl, rfl⟩
  go_wp2_with fail
  refine (hash_at v6 (by decide) (some ⟨B, 0, none⟩) 9 _ (by decide) (by decide) (by decide) D).mono ?_
  rintro e w' ⟨rfl, rfl⟩
  go_wp2_with fail
  have O := one w8 97 (by decide)
  have hb := balloc (b0 w8) (.cells #[.int .u8 97] 5 (1, 2))
  replace k := bnext k hb
  replace D := D.keeps hb
  clear hb
  generalize w8.alloc (.cells #[.int .u8 97] 5 (1, 2)) = w9 at *
  generalize w8.heap.size = b8 at *
  refine (sample_at v7 (some ⟨b8, 0, none⟩) 1 _ (by decide) (by decide) (by decide) O).mono ?_
  rintro e w' ⟨rfl, rfl⟩
  clear O
  go_wp2_with fail
  have O := one w9 97 (by decide)
  have hb := balloc (b0 w9) (.cells #[.int .u8 97] 5 (1, 2))
  replace k := bnext k hb
  replace D := D.keeps hb
  clear hb
  generalize w9.alloc (.cells #[.int .u8 97] 5 (1, 2)) = w10 at *
  generalize w9.heap.size = b9 at *
  refine (sample_at v8 (some ⟨b9, 0, none⟩) 1 _ (by decide) (by decide) (by decide) O).mono ?_
  rintro e w' ⟨rfl, rfl⟩
  clear O
  go_wp2_with fail
  go_ret
  exact ⟨rfl, k⟩
end Go.Proofs.Ytchmnnagbnpijaa
