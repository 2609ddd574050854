/-
  The four bytes of a checksum.
-/
import Derived.Test.YtegniedbiegcpaaTake
import Derived.Test.YtegniedbiegcpaaExt
namespace Go.Proofs.Ytegniedbiegcpaa
open Go.RowKit

/-- The checksum of bytes. -/
def cs (l : List Nat) : Nat := crc (ix l) l.length 0
theorem cs_lt {l : List Nat} (h : By l) : cs l < 4294967296 := crc_lt _ (by decide) h.ix
/-- Four bytes, the lowest one first. -/
def le4 (S : Nat) : List Nat := [S % 256, S / 256 % 256, S / 65536 % 256, S / 16777216 % 256]
theorem by_le4 (S : Nat) : By (le4 S) := by
  intro x hx
  simp only [le4, List.mem_cons, List.not_mem_nil, or_false] at hx
  rcases hx with rfl | rfl | rfl | rfl <;> omega
theorem le4_inj {S T : Nat} (hS : S < 4294967296) (hT : T < 4294967296) (h : le4 S = le4 T) : S = T := by
  simp only [le4, List.cons.injEq, and_true] at h
  omega
def pw (S i : Nat) : Nat := S / 2 ^ (8 * i) % 256
theorem le4_pw (S : Nat) : le4 S = [pw S 0, pw S 1, pw S 2, pw S 3] := by
  simp [le4, pw]
theorem sum_l {w : World} {a : Option Addr} {n cap : Nat} {l : List Nat} (h : Li w a n cap l) (h2 : n ≤ 140737488351232) :
    Calls Try.prog 31 #[.slice a n cap] w fun e w' => e = .returned (.int .u32 (cs l : Nat)) ∧ Below w.heap.size w w' := by
  have h1 := h.hat
  rw [← h.hn] at h2 ⊢
  exact sum_any a l.length cap (ix l) w h2 h1

set_option maxHeartbeats 1000000 in
theorem sumBytes_any (a : Option Addr) (n cap : Nat) (l : List Nat) (w : World) (hA : Li w a n cap l) (hl : n ≤ 140737488351232) :
    Calls Try.prog 36 #[.slice a n cap] w fun e w' => e = .returned (.agg #[.int .u8 (pw (cs l) 0 : Nat), .int .u8 (pw (cs l) 1 : Nat), .int .u8 (pw (cs l) 2 : Nat), .int .u8 (pw (cs l) 3 : Nat)]) ∧ Below w.heap.size w w' := by
  have hS := cs_lt hA.hat.by
  go_enter Try.func36, Try.ntmps36
  go_wp2_with fail
  have k0 := balloc (b0 w) (.cells #[.int .u8 0, .int .u8 0, .int .u8 0, .int .u8 0] 57)
  have W0 : Wr (w.alloc (.cells #[.int .u8 0, .int .u8 0, .int .u8 0, .int .u8 0] 57)) w.heap.size 4 (fun _ => 0) := by
    intro j hj
    have h : j = 0 ∨ j = 1 ∨ j = 2 ∨ j = 3 := by omega
    rcases h with rfl | rfl | rfl | rfl <;> simp [go_sem]
  generalize w.alloc (.cells #[.int .u8 0, .int .u8 0, .int .u8 0, .int .u8 0] 57) = w1 at *
  refine (sum_l (hA.keeps k0) hl).mono ?_
  rintro e w2 ⟨rfl, hb⟩
  replace W0 := W0.keeps hb
  have k1 := bnext k0 hb
  clear hb k0 hA
  obtain ⟨S, hSl⟩ : ∃ S, cs l = S := ⟨_, rfl⟩
  rw [hSl] at hS ⊢
  have HSL := Lib.hid hSl
  clear hSl
  go_wp2_with fail
  have hBl : w.heap.size ≤ w.heap.size := Nat.le_refl _
  obtain ⟨R, hR⟩ : ∃ R, w.heap.size = R := ⟨_, rfl⟩
  rw [hR] at W0 ⊢
  rw [hR] at hBl
  have hBl' : w.heap.size ≤ R := by omega
  clear hR hBl
  go_loopw [7] (fun s wr => ∃ (k : Nat) (f : Nat → Nat), s = .int .i64 k ∧ k ≤ 4 ∧ Wr wr R 4 f ∧ (∀ j, j < k → f j = pw S j) ∧ Below w.heap.size w wr) (fun s _ => 4 - (intOf s).toNat)
  case atStart => exact ⟨0, _, rfl, by omega, W0, fun j hj => by omega, k1⟩
  case round =>
    obtain ⟨k, f, rfl, hk, W, hf, kb⟩ := hrel
    have HF := Lib.hid hf
    clear hf W0 k1
    by_cases hlt : k < 4
    · have WS := W.set hlt (pw S k)
      have c0 := (W k hlt).1
      have z0 := (W k hlt).2
      have e1 : (S : Int) / 2 ^ (8 * k) % 256 = ((pw S k : Nat) : Int) := by unfold pw; simp
      have HS := Lib.hid hS
      have E1 := Lib.hid e1
      clear e1
      go_wp2_with fail
      rw [E1.out]
      refine ⟨⟨k + 1, _, by go_num, by omega, WS, fun j hj => ?_, kb.setCell (p := ⟨R, k, none⟩) hBl' _⟩, by simp only [intOf]; omega⟩
      by_cases hjk : j = k
      · rw [hjk, upd_at]
      · rw [upd_off _ _ _ hjk]
        exact HF.out j (by omega)
    · obtain rfl : k = 4 := by omega
      have f0 := HF.out 0 (by omega)
      have f1 := HF.out 1 (by omega)
      have f2 := HF.out 2 (by omega)
      have f3 := HF.out 3 (by omega)
      have c0 := (W 0 (by omega)).1
      have c1 := (W 1 (by omega)).1
      have c2 := (W 2 (by omega)).1
      have c3 := (W 3 (by omega)).1
      have z0 := (W 0 (by omega)).2
      have z1 := (W 1 (by omega)).2
      have z2 := (W 2 (by omega)).2
      have z3 := (W 3 (by omega)).2
      rw [f0] at c0
      rw [f1] at c1
      rw [f2] at c2
      rw [f3] at c3
      clear f0 f1 f2 f3 hlt
      go_wp2_with fail
      refine bodyPost_ret (v := .agg #[.int .u8 (pw S 0 : Nat), .int .u8 (pw S 1 : Nat), .int .u8 (pw S 2 : Nat), .int .u8 (pw S 3 : Nat)]) (by simp [results, Try.results36, go_sem, c0, c1, c2, c3]) rfl ⟨by rw [HSL.out], ?_⟩
      exact (((kb.setCell (p := ⟨R, 0, none⟩) hBl' _).setCell (p := ⟨R, 1, none⟩) hBl' _).setCell (p := ⟨R, 2, none⟩) hBl' _).setCell (p := ⟨R, 3, none⟩) hBl' _
end Go.Proofs.Ytegniedbiegcpaa
