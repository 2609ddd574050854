/-
  The examples: facts of plain arithmetic.
-/
import Derived.Test.YtnkdclodmeaihaaGreatDoorOne
namespace Go.Proofs.YtnkdclodmeaihaaGreatDoor
open Go.RowKit dec

theorem k1 : ok ⟨0, 0, ⟨#[]⟩⟩ = true := by decide +kernel
theorem k2 : ok ⟨1, 1, ⟨#[]⟩⟩ = true := by decide +kernel
theorem k3 : ok ⟨2, -300, ⟨#[]⟩⟩ = true := by decide +kernel
theorem k4 : ok ⟨3, 1500000, ⟨#[]⟩⟩ = true := by decide +kernel
theorem k5 : ok ⟨4, 0, ⟨#[97, 32, 98]⟩⟩ = true := by decide +kernel
theorem k6 : ok ⟨5, 0, ⟨#[117, 55]⟩⟩ = true := by decide +kernel
theorem en599 : en 599 = [215, 4] := by rw [en_big (by decide), en_small (by decide)]
theorem en3m : en 3000000 = [192, 141, 183, 1] := by rw [en_big (by decide), en_big (by decide), en_big (by decide), en_small (by decide)]
theorem en_s (n : Nat) (h : n < 128) : en n = [n] := en_small h
theorem b1' : st_of (enc ⟨0, 0, ⟨#[]⟩⟩) = ⟨#[0]⟩ := by rw [enc_ok k1]; rfl
theorem b2' : st_of (enc ⟨1, 1, ⟨#[]⟩⟩) = ⟨#[1, 1]⟩ := by rw [enc_ok k2]; rfl
theorem b3' : st_of (enc ⟨2, -300, ⟨#[]⟩⟩) = ⟨#[2, 215, 4]⟩ := by
  rw [enc_ok k3]
  show st_of (2 :: en (fold (-300))) = _
  rw [show fold (-300) = 599 from rfl, en599]
  rfl
theorem b4' : st_of (enc ⟨3, 1500000, ⟨#[]⟩⟩) = ⟨#[3, 192, 141, 183, 1]⟩ := by
  rw [enc_ok k4]
  have he : encV ⟨3, 1500000, ⟨#[]⟩⟩ = 3 :: en (fold 1500000) := by simp [encV]
  have hf : fold 1500000 = 3000000 := by unfold fold; rw [if_neg (by decide)]; omega
  rw [he, hf, en3m]
  rfl
theorem b5' : st_of (enc ⟨4, 0, ⟨#[97, 32, 98]⟩⟩) = ⟨#[4, 3, 97, 32, 98]⟩ := by
  rw [enc_ok k5]
  show st_of (4 :: (en 3 ++ [97, 32, 98])) = _
  rw [en_small (by decide)]
  rfl
theorem b6' : st_of (enc ⟨5, 0, ⟨#[117, 55]⟩⟩) = ⟨#[5, 2, 117, 55]⟩ := by
  rw [enc_ok k6]
  show st_of (5 :: (en 2 ++ [117, 55])) = _
  rw [en_small (by decide)]
  rfl
theorem t1' : (⟨#[110, 117, 108, 108]⟩ : ByteArray).data.toList = fm ⟨0, 0, ⟨#[]⟩⟩ := by rw [fm_ok k1]; rfl
theorem t2' : (⟨#[116, 114, 117, 101]⟩ : ByteArray).data.toList = fm ⟨1, 1, ⟨#[]⟩⟩ := by rw [fm_ok k2]; rfl
theorem itoa300 : Lib.itoa (-300) = [45, 51, 48, 48] := by
  have h : Int.natAbs (-300) = 300 := rfl
  unfold Lib.itoa
  rw [if_pos (by decide), h]
  simp [Lib.decDigits]
theorem t3' : (⟨#[45, 51, 48, 48]⟩ : ByteArray).data.toList = fm ⟨2, -300, ⟨#[]⟩⟩ := by
  rw [fm_ok k3]
  exact itoa300.symm
theorem fo15 : foX 1500000 = [49, 46, 53, 48, 48, 48, 48, 48] := by
  have h : Int.natAbs 1500000 = 1500000 := rfl
  unfold foX
  rw [h]
  simp [Lib.decDigits]
theorem t4' : (⟨#[49, 46, 53, 48, 48, 48, 48, 48]⟩ : ByteArray).data.toList = fm ⟨3, 1500000, ⟨#[]⟩⟩ := by
  rw [fm_ok k4]
  exact fo15.symm
theorem t5' : (⟨#[34, 97, 32, 98, 34]⟩ : ByteArray).data.toList = fm ⟨4, 0, ⟨#[97, 32, 98]⟩⟩ := by rw [fm_ok k5]; rfl
theorem t6' : (⟨#[64, 117, 55]⟩ : ByteArray).data.toList = fm ⟨5, 0, ⟨#[117, 55]⟩⟩ := by rw [fm_ok k6]; rfl
theorem ck_two : ck ⟨1, 2, ⟨#[]⟩⟩ = 1 := by decide +kernel
theorem ok_two : ok ⟨1, 2, ⟨#[]⟩⟩ = false := by decide +kernel
theorem rd_two : rV [1, 2] 0 = (⟨0, 0, .empty⟩, 0, 3) := by decide +kernel
theorem ps15 : psP [49, 46, 53] = (⟨0, 0, .empty⟩, 3) := by
  have hc : cdP [49, 46, 53] = ⟨3, 1500000, ⟨#[]⟩⟩ := by decide +kernel
  unfold psP
  rw [hc, fm_ok k4, show fmV ⟨3, 1500000, ⟨#[]⟩⟩ = foX 1500000 from rfl, fo15, if_neg (by decide)]
theorem itoa0 : Lib.itoa 0 = [48] := by
  unfold Lib.itoa
  rw [if_neg (by decide)]
  simp [Lib.decDigits]
theorem ps00 : psP [45, 48] = (⟨0, 0, .empty⟩, 3) := by
  have hc : cdP [45, 48] = ⟨2, 0, ⟨#[]⟩⟩ := by decide +kernel
  have hk : ok ⟨2, 0, ⟨#[]⟩⟩ = true := by decide +kernel
  unfold psP
  rw [hc, fm_ok hk, show fmV ⟨2, 0, ⟨#[]⟩⟩ = Lib.itoa 0 from rfl, itoa0, if_neg (by decide)]
theorem cv1 : cV ⟨2, 5, ⟨#[]⟩⟩ ⟨3, 0, ⟨#[]⟩⟩ = -1 := by decide +kernel
theorem cv2 : cV ⟨4, 0, ⟨#[97]⟩⟩ ⟨4, 0, ⟨#[97, 98]⟩⟩ = -1 := by
  rw [cV_eq]
  unfold cS
  rw [ByteArray.toList_eq, ByteArray.toList_eq]
  decide +kernel
theorem hs1 : hsP ⟨0, 0, ⟨#[]⟩⟩ 1 = true := by decide +kernel
theorem hs2 : hsP ⟨2, 5, ⟨#[]⟩⟩ 3 = false := by decide +kernel
theorem Li.two (w : World) (x y : Nat) (hx : x < 256) (hy : y < 256) : Li (w.alloc (.cells #[.int .u8 (x : Nat), .int .u8 (y : Nat)] 5)) (some ⟨w.heap.size, 0, none⟩) 2 2 [x, y] := by
  have hb : By [x, y] := fun z hz => by simp only [List.mem_cons, List.not_mem_nil, or_false] at hz; omega
  refine ⟨⟨.inr ⟨_, _, rfl, fun j hj => ?_⟩, hb.ix⟩, rfl, by omega, by omega, by omega, fun h => by cases h⟩
  obtain rfl | rfl : j = 0 ∨ j = 1 := by simp at hj; omega
  · simp [go_sem, ix]
  · simp [go_sem, ix]
end Go.Proofs.YtnkdclodmeaihaaGreatDoor
