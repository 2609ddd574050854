/-
  The worked examples of the chapter.
-/
import Derived.Test.YtegniedbiegcpaaReads
import Derived.Lib.SlBytesConst
namespace Go.Proofs.Ytegniedbiegcpaa
open Go.RowKit

theorem li_nil (w : World) : Li w none 0 0 [] := ⟨AtL.nil _ _, rfl, by omega, by omega, by omega, fun _ => rfl⟩
theorem e300 : en 300 = [172, 2] := by rw [en_big (by decide), en_small (by decide)]
theorem e128 : en 128 = [128, 1] := by rw [en_big (by decide), en_small (by decide)]
theorem e3 : en 3 = [3] := en_small (by decide)
theorem e2 : en 2 = [2] := en_small (by decide)
theorem e9 : en 9 = [9] := en_small (by decide)
theorem ab_sl : sl { data := #[97, 98] } = [97, 98] := by decide
theorem ex1 (w : World) : Calls Try.prog 14 #[.slice none 0 0, .int .u64 300] w fun e w' => e = .returned (.slice (some ⟨w.heap.size, 0, none⟩) 2 10) ∧ AtL w' (some ⟨w.heap.size, 0, none⟩) [172, 2] ∧ Below w.heap.size w w' := by
  have := appendUint_any none 0 0 300 [] w (li_nil w) (by omega) (by decide) 2 (by rw [e300]; rfl)
  rw [e300] at this
  exact this.mono fun e w' ⟨h1, h2, h3⟩ => ⟨h1, h2.at, h3⟩
theorem ex2 (w : World) : Calls Try.prog 14 #[.slice none 0 0, .int .u64 128] w fun e w' => e = .returned (.slice (some ⟨w.heap.size, 0, none⟩) 2 10) ∧ AtL w' (some ⟨w.heap.size, 0, none⟩) [128, 1] ∧ Below w.heap.size w w' := by
  have := appendUint_any none 0 0 128 [] w (li_nil w) (by omega) (by decide) 2 (by rw [e128]; rfl)
  rw [e128] at this
  exact this.mono fun e w' ⟨h1, h2, h3⟩ => ⟨h1, h2.at, h3⟩
theorem ex3 (w : World) : Calls Try.prog 17 #[.slice none 0 0, .int .i64 (-2)] w fun e w' => e = .returned (.slice (some ⟨w.heap.size, 0, none⟩) 1 10) ∧ AtL w' (some ⟨w.heap.size, 0, none⟩) [3] ∧ Below w.heap.size w w' := by
  have h : fold (-2) = 3 := by decide
  have := appendInt_any none 0 0 (-2) [] w (li_nil w) (by omega) (by omega) (by omega) 1 (by rw [h, e3]; rfl)
  rw [h, e3] at this
  exact this.mono fun e w' ⟨h1, h2, h3⟩ => ⟨h1, h2.at, h3⟩
theorem ex4 (w : World) : Calls Try.prog 19 #[.slice none 0 0, .string { data := #[97, 98] }] w fun e w' => e = .returned (.slice (some ⟨w.heap.size, 0, none⟩) 3 12) ∧ AtL w' (some ⟨w.heap.size, 0, none⟩) [2, 97, 98] ∧ Below w.heap.size w w' := by
  have hs : ({ data := #[97, 98] } : ByteArray).size = 2 := rfl
  have := appendText_any none 0 0 { data := #[97, 98] } [] w (li_nil w) (by rw [hs]; omega) (by rw [hs]; omega) 3 (by rw [hs, e2]; rfl)
  rw [hs, e2, ab_sl] at this
  exact this.mono fun e w' ⟨h1, h2, h3⟩ => ⟨h1, h2.at, h3⟩
theorem str_is {w : World} {a : Option Addr} {l : List Nat} (h : AtL w a l) (n c : Nat) (hn : l.length = n) (s : ByteArray) (hs : st_of l = s) : (convert 22 9 (.slice a n c)).run Try.prog w = .ok (.string s) w := hs ▸ run_str h n c hn

theorem heap_alloc (w : World) (o : Obj) : (w.alloc o).heap[w.heap.size]? = some o := by
  show (w.heap.push o)[w.heap.size]? = some o
  simp
/-- A block that was made of bytes. -/
theorem made (w : World) (l : List Nat) (hb : By l) (fr : Nat × Nat) : AtL (w.alloc (.cells (Vs l).toArray 5 fr)) (some ⟨w.heap.size, 0, none⟩) l := by
  refine ⟨.inr ⟨_, _, rfl, fun j hj => ?_⟩, hb.ix⟩
  have h := Vs_at l hj
  simp only [World.cell?, heap_alloc, Nat.zero_add]
  simpa using h
theorem li_made {w : World} {g n : Nat} {l : List Nat} (h : AtL w (some ⟨g, 0, none⟩) l) (hn : l.length = n) (hl : n ≤ 281474976710656) (c : Nat) (hc : n ≤ c) (hm : c ≤ 9223372036854775807) : Li w (some ⟨g, 0, none⟩) n c l := ⟨h, hn, hc, hm, hl, fun h => by cases h⟩

theorem v1 : rU [172, 2, 7] 0 = (300, 2, 0) := by decide
theorem v2 : rU [128, 0] 0 = (0, 0, 3) := by decide
theorem v3 : rU [172] 0 = (0, 0, 41) := by decide
theorem v4 : rT [3, 97, 98] 0 = ([], 0, 41) := by decide
def pay : List Nat := [49, 50, 51, 52, 53, 54, 55, 56, 57]
theorem c_pay : cs pay = 3421780262 := by decide +kernel
theorem l_pay : le4 (cs pay) = [38, 57, 244, 203] := by rw [c_pay]; decide
theorem v5 : rF [9, 49, 50, 51, 52, 53, 54, 55, 56, 57, 38, 57, 244, 203] 0 = .ok pay 14 := by
  have h1 : rd [9, 49, 50, 51, 52, 53, 54, 55, 56, 57, 38, 57, 244, 203] 0 0 = .ok 9 1 := by decide
  have h2 : rdF [9, 49, 50, 51, 52, 53, 54, 55, 56, 57, 38, 57, 244, 203] = .ok pay 14 := by
    unfold rdF
    rw [h1]
    show (if 8192 < 9 then RF.err 2 else if 13 < 13 then RF.err 41 else if [38, 57, 244, 203] = le4 (cs pay) then RF.ok pay 14 else RF.err 40) = RF.ok pay 14
    rw [l_pay]
    rfl
  unfold rF
  rw [if_neg (by decide), show (0 : Int).toNat = 0 from rfl, List.drop_zero, h2]

def f14 : List Nat := [9, 49, 50, 51, 52, 53, 54, 55, 56, 57, 38, 57, 244, 203]
theorem v6 : [] ++ (en 9 ++ (pay ++ le4 (cs pay))) = f14 := by rw [l_pay, e9]; rfl
theorem ex5 (w : World) (a : Option Addr) (hp : Li w a 9 9 pay) : Calls Try.prog 21 #[.slice none 0 0, .slice a 9 9] w fun e w' => e = .returned (.slice (some ⟨w.heap.size, 0, none⟩) 14 23) ∧ AtL w' (some ⟨w.heap.size, 0, none⟩) f14 ∧ Below w.heap.size w w' := by
  have := appendFrame_any none 0 0 [] a 9 9 pay w (li_nil w) hp (by decide) (by decide) 14 (by rw [e9]; rfl)
  rw [v6] at this
  exact this.mono fun e w' ⟨h1, h2, h3⟩ => ⟨h1, h2.at, h3⟩
theorem ex6 (w : World) (a : Option Addr) (h : Li w a 14 23 f14) : Calls Try.prog 29 #[.slice a 14 23, .int .i64 0] w fun e w' => ∃ g, e = .returned (.tuple #[.slice (some ⟨g, 0, none⟩) 9 9, .int .i64 14, .int .i64 0]) ∧ AtL w' (some ⟨g, 0, none⟩) pay ∧ Below w.heap.size w w' := by
  have := readF_any a 14 23 f14 0 w h
  rw [show rF f14 0 = .ok pay 14 from v5] at this
  exact this.mono fun e w' ⟨g, h1, h2, h3, h4⟩ => ⟨g, h1, h3.at, h4⟩

set_option maxRecDepth 100000 in
set_option maxHeartbeats 1000000 in
theorem example_any (w : World) : Calls Try.prog 12 #[] w fun e w' => e = .returned (.bool true) ∧ Below w.heap.size w w' := by
  have kc := fun (w : World) (C : Array Value) (n c : Nat) => Lib.run_convert_bytes_const (P := Try.prog) w 22 5 C n c Try.underlying22 Try.underlying5
  go_enter Try.func12, Try.ntmps12
  go_wp2_with fail
  refine (ex1 w).mono ?_
  rintro e w1 ⟨rfl, A1, k⟩
  have s1 := str_is A1 2 10 rfl { data := #[172, 2] } rfl
  go_wp2_with fail
  refine (ex2 w1).mono ?_
  rintro e w2 ⟨rfl, A2, b⟩
  replace k := bnext k b
  have s2 := str_is A2 2 10 rfl { data := #[128, 1] } rfl
  clear A1 s1 b
  go_wp2_with fail
  refine (ex3 w2).mono ?_
  rintro e w3 ⟨rfl, A3, b⟩
  replace k := bnext k b
  have s3 := str_is A3 1 10 rfl { data := #[3] } rfl
  clear A2 s2 b
  go_wp2_with fail
  refine (ex4 w3).mono ?_
  rintro e w4 ⟨rfl, A4, b⟩
  replace k := bnext k b
  have s4 := str_is A4 3 12 rfl { data := #[2, 97, 98] } rfl
  clear A3 s3 b
  go_wp2_with fail
  clear A4 s4
  have A := made w4 [172, 2, 7] (by unfold By; decide) (0, 0)
  have b := balloc (b0 w4) (.cells (Vs [172, 2, 7]).toArray 5)
  refine (readU_any (some ⟨w4.heap.size, 0, none⟩) 3 3 [172, 2, 7] 0 _ (li_made A rfl (by decide) 3 (by decide) (by decide)) 300 2 0 v1).mono ?_
  rintro e w5 ⟨rfl, b2⟩
  replace k := bnext k (bnext b b2)
  clear A b b2
  go_wp2_with fail
  have A := made w5 [128, 0] (by unfold By; decide) (0, 0)
  have b := balloc (b0 w5) (.cells (Vs [128, 0]).toArray 5)
  refine (readU_any (some ⟨w5.heap.size, 0, none⟩) 2 2 [128, 0] 0 _ (li_made A rfl (by decide) 2 (by decide) (by decide)) 0 0 3 v2).mono ?_
  rintro e w6 ⟨rfl, b2⟩
  replace k := bnext k (bnext b b2)
  clear A b b2
  go_wp2_with fail
  have A := made w6 [172] (by unfold By; decide) (0, 0)
  have b := balloc (b0 w6) (.cells (Vs [172]).toArray 5)
  refine (readU_any (some ⟨w6.heap.size, 0, none⟩) 1 1 [172] 0 _ (li_made A rfl (by decide) 1 (by decide) (by decide)) 0 0 41 v3).mono ?_
  rintro e w7 ⟨rfl, b2⟩
  replace k := bnext k (bnext b b2)
  clear A b b2
  go_wp2_with fail
  have A := made w7 [3, 97, 98] (by unfold By; decide) (0, 0)
  have b := balloc (b0 w7) (.cells (Vs [3, 97, 98]).toArray 5)
  refine (readT_any (some ⟨w7.heap.size, 0, none⟩) 3 3 [3, 97, 98] 0 _ (li_made A rfl (by decide) 3 (by decide) (by decide)) [] 0 41 v4).mono ?_
  rintro e w8 ⟨rfl, b2⟩
  replace k := bnext k (bnext b b2)
  clear A b b2
  go_wp2_with fail
  clear kc
  have A := made w8 pay (by unfold By; decide) (9, 10)
  have b := balloc (b0 w8) (.cells (Vs pay).toArray 5 (9, 10))
  refine (ex5 _ _ (li_made A rfl (by decide) 9 (by decide) (by decide))).mono ?_
  rintro e w9 ⟨rfl, A9, b2⟩
  replace k := bnext k (bnext b b2)
  clear A b b2
  generalize (w8.alloc (.cells (Vs pay).toArray 5 (9, 10))).heap.size = g9 at *
  go_wp2_with fail
  refine (ex6 w9 _ (li_made A9 rfl (by decide) 23 (by decide) (by decide))).mono ?_
  rintro e w10 ⟨g, rfl, A10, b⟩
  replace A9 := A9.keeps b
  replace k := bnext k b
  clear b
  have s1 := str_is A9 14 23 rfl { data := #[9, 49, 50, 51, 52, 53, 54, 55, 56, 57, 38, 57, 244, 203] } rfl
  have s2 := str_is A10 9 9 rfl { data := #[49, 50, 51, 52, 53, 54, 55, 56, 57] } rfl
  clear A9 A10
  go_wp2_with fail
  go_ret
  exact ⟨rfl, k⟩
end Go.Proofs.Ytegniedbiegcpaa
