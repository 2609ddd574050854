/-
  A wrong item between two sources without problems. (Written by gen_rcv.py.)
-/
import Derived.Test.YtkgclmikhpjheaaGreatDoorYItl
import Derived.Test.YtkgclmikhpjheaaGreatDoorYLxf
namespace Go.Proofs.YtkgclmikhpjheaaGreatDoor.pa
open Go.RowKit dec

def rS0 : ByteArray := ⟨#[116, 97, 98, 108, 101, 59]⟩
def rL0 : List Tk := [⟨1, ⟨#[116, 97, 98, 108, 101]⟩, 0⟩, ⟨5, ⟨#[59]⟩, 5⟩]
theorem rT0 : tokE rS0 = 0 ∧ tokL rS0 = rL0 ++ [endT rS0] ∧ tokB rS0 = [] := tok_of (by decide) (by kernel_rfl) (by decide)
theorem rN0 (m : Mo) (t : List Tk) : ∃ r, itmR m (rL0 ++ t) = .no 5 90 r ∧ lvR r = t := ⟨(⟨5, ⟨#[59]⟩, 5⟩ : Tk) :: t, by kernel_rfl, by kernel_rfl⟩
def rS1 : ByteArray := ⟨#[116, 97, 98, 108, 101, 32, 116, 32, 111, 102, 32, 123, 32, 125, 59]⟩
def rL1 : List Tk := [⟨1, ⟨#[116, 97, 98, 108, 101]⟩, 0⟩, ⟨1, ⟨#[116]⟩, 6⟩, ⟨1, ⟨#[111, 102]⟩, 8⟩, ⟨5, ⟨#[123]⟩, 11⟩, ⟨5, ⟨#[125]⟩, 13⟩, ⟨5, ⟨#[59]⟩, 14⟩]
theorem rT1 : tokE rS1 = 0 ∧ tokL rS1 = rL1 ++ [endT rS1] ∧ tokB rS1 = [] := tok_of (by decide) (by kernel_rfl) (by decide)
theorem rN1 (m : Mo) (t : List Tk) : ∃ r, itmR m (rL1 ++ t) = .no 11 90 r ∧ lvR r = t := ⟨(⟨5, ⟨#[123]⟩, 11⟩ : Tk) :: (⟨5, ⟨#[125]⟩, 13⟩ : Tk) :: (⟨5, ⟨#[59]⟩, 14⟩ : Tk) :: t, by kernel_rfl, by kernel_rfl⟩
def rS2 : ByteArray := ⟨#[102, 101, 97, 116, 117, 114, 101, 32, 102, 32, 111, 102, 32, 117, 58, 32, 105, 110, 116, 32, 61, 32, 59]⟩
def rL2 : List Tk := [⟨1, ⟨#[102, 101, 97, 116, 117, 114, 101]⟩, 0⟩, ⟨1, ⟨#[102]⟩, 8⟩, ⟨1, ⟨#[111, 102]⟩, 10⟩, ⟨1, ⟨#[117]⟩, 13⟩, ⟨5, ⟨#[58]⟩, 14⟩, ⟨1, ⟨#[105, 110, 116]⟩, 16⟩, ⟨5, ⟨#[61]⟩, 20⟩, ⟨5, ⟨#[59]⟩, 22⟩]
theorem rT2 : tokE rS2 = 0 ∧ tokL rS2 = rL2 ++ [endT rS2] ∧ tokB rS2 = [] := tok_of (by decide) (by kernel_rfl) (by decide)
theorem rN2 (m : Mo) (t : List Tk) : ∃ r, itmR m (rL2 ++ t) = .no 22 90 r ∧ lvR r = t := ⟨(⟨5, ⟨#[59]⟩, 22⟩ : Tk) :: t, by kernel_rfl, by kernel_rfl⟩
def rS3 : ByteArray := ⟨#[102, 101, 97, 116, 117, 114, 101, 32, 102, 32, 111, 102, 32, 117, 58, 32, 105, 110, 116, 32, 61, 32, 49, 32, 43, 59]⟩
def rL3 : List Tk := [⟨1, ⟨#[102, 101, 97, 116, 117, 114, 101]⟩, 0⟩, ⟨1, ⟨#[102]⟩, 8⟩, ⟨1, ⟨#[111, 102]⟩, 10⟩, ⟨1, ⟨#[117]⟩, 13⟩, ⟨5, ⟨#[58]⟩, 14⟩, ⟨1, ⟨#[105, 110, 116]⟩, 16⟩, ⟨5, ⟨#[61]⟩, 20⟩, ⟨2, ⟨#[49]⟩, 22⟩, ⟨5, ⟨#[43]⟩, 24⟩, ⟨5, ⟨#[59]⟩, 25⟩]
theorem rT3 : tokE rS3 = 0 ∧ tokL rS3 = rL3 ++ [endT rS3] ∧ tokB rS3 = [] := tok_of (by decide) (by kernel_rfl) (by decide)
theorem rN3 (m : Mo) (t : List Tk) : ∃ r, itmR m (rL3 ++ t) = .no 25 90 r ∧ lvR r = t := ⟨(⟨5, ⟨#[59]⟩, 25⟩ : Tk) :: t, by kernel_rfl, by kernel_rfl⟩
def rS4 : ByteArray := ⟨#[120, 59]⟩
def rL4 : List Tk := [⟨1, ⟨#[120]⟩, 0⟩, ⟨5, ⟨#[59]⟩, 1⟩]
theorem rT4 : tokE rS4 = 0 ∧ tokL rS4 = rL4 ++ [endT rS4] ∧ tokB rS4 = [] := tok_of (by decide) (by kernel_rfl) (by decide)
theorem rN4 (m : Mo) (t : List Tk) : ∃ r, itmR m (rL4 ++ t) = .no 0 90 r ∧ lvR r = t := ⟨(⟨1, ⟨#[120]⟩, 0⟩ : Tk) :: (⟨5, ⟨#[59]⟩, 1⟩ : Tk) :: t, by kernel_rfl, by kernel_rfl⟩
def rS5 : ByteArray := ⟨#[59]⟩
def rL5 : List Tk := [⟨5, ⟨#[59]⟩, 0⟩]
theorem rT5 : tokE rS5 = 0 ∧ tokL rS5 = rL5 ++ [endT rS5] ∧ tokB rS5 = [] := tok_of (by decide) (by kernel_rfl) (by decide)
theorem rN5 (m : Mo) (t : List Tk) : ∃ r, itmR m (rL5 ++ t) = .no 0 90 r ∧ lvR r = t := ⟨(⟨5, ⟨#[59]⟩, 0⟩ : Tk) :: t, by kernel_rfl, by kernel_rfl⟩
def rS6 : ByteArray := ⟨#[116, 97, 98, 108, 101, 32, 116, 32, 111, 102, 32, 117, 32, 123, 32, 110, 32, 105, 110, 116, 32, 125, 59]⟩
def rL6 : List Tk := [⟨1, ⟨#[116, 97, 98, 108, 101]⟩, 0⟩, ⟨1, ⟨#[116]⟩, 6⟩, ⟨1, ⟨#[111, 102]⟩, 8⟩, ⟨1, ⟨#[117]⟩, 11⟩, ⟨5, ⟨#[123]⟩, 13⟩, ⟨1, ⟨#[110]⟩, 15⟩, ⟨1, ⟨#[105, 110, 116]⟩, 17⟩, ⟨5, ⟨#[125]⟩, 21⟩, ⟨5, ⟨#[59]⟩, 22⟩]
theorem rT6 : tokE rS6 = 0 ∧ tokL rS6 = rL6 ++ [endT rS6] ∧ tokB rS6 = [] := tok_of (by decide) (by kernel_rfl) (by decide)
theorem rN6 (m : Mo) (t : List Tk) : ∃ r, itmR m (rL6 ++ t) = .no 17 90 r ∧ lvR r = t := ⟨(⟨1, ⟨#[105, 110, 116]⟩, 17⟩ : Tk) :: (⟨5, ⟨#[125]⟩, 21⟩ : Tk) :: (⟨5, ⟨#[59]⟩, 22⟩ : Tk) :: t, by kernel_rfl, by kernel_rfl⟩
def rS7 : ByteArray := ⟨#[102, 101, 97, 116, 117, 114, 101, 32, 102, 32, 111, 102, 32, 117, 58, 32, 105, 110, 116, 32, 61, 32, 99, 111, 117, 110, 116, 40, 116, 44, 32, 97, 108, 108, 32, 119, 104, 101, 114, 101, 41, 59]⟩
def rL7 : List Tk := [⟨1, ⟨#[102, 101, 97, 116, 117, 114, 101]⟩, 0⟩, ⟨1, ⟨#[102]⟩, 8⟩, ⟨1, ⟨#[111, 102]⟩, 10⟩, ⟨1, ⟨#[117]⟩, 13⟩, ⟨5, ⟨#[58]⟩, 14⟩, ⟨1, ⟨#[105, 110, 116]⟩, 16⟩, ⟨5, ⟨#[61]⟩, 20⟩, ⟨1, ⟨#[99, 111, 117, 110, 116]⟩, 22⟩, ⟨5, ⟨#[40]⟩, 27⟩, ⟨1, ⟨#[116]⟩, 28⟩, ⟨5, ⟨#[44]⟩, 29⟩, ⟨1, ⟨#[97, 108, 108]⟩, 31⟩, ⟨1, ⟨#[119, 104, 101, 114, 101]⟩, 35⟩, ⟨5, ⟨#[41]⟩, 40⟩, ⟨5, ⟨#[59]⟩, 41⟩]
theorem rT7 : tokE rS7 = 0 ∧ tokL rS7 = rL7 ++ [endT rS7] ∧ tokB rS7 = [] := tok_of (by decide) (by kernel_rfl) (by decide)
theorem rN7 (m : Mo) (t : List Tk) : ∃ r, itmR m (rL7 ++ t) = .no 40 90 r ∧ lvR r = t := ⟨(⟨5, ⟨#[41]⟩, 40⟩ : Tk) :: (⟨5, ⟨#[59]⟩, 41⟩ : Tk) :: t, by kernel_rfl, by kernel_rfl⟩
theorem rec_one {s : ByteArray} {L : List Tk} {a : Int} (hT : tokE s = 0 ∧ tokL s = L ++ [endT s] ∧ tokB s = []) (hN : ∀ (m : Mo) (t : List Tk), ∃ r, itmR m (L ++ t) = .no a 90 r ∧ lvR r = t) (h6 : ∀ t, (hd (L ++ t)).k ≠ 6)
    {x y z v : ByteArray} (hv : v.data.toList = s.data.toList ++ 10 :: y.data.toList) (hz : z.data.toList = x.data.toList ++ 10 :: v.data.toList) (hs : ¬ 16384 < z.size) {m n : Mo} (h1 : modR x = some (m, [])) (h2 : modR y = some (n, [])) :
    modR z = some (m.app n, [(a + ((x.size + 1 : Nat) : Int), 90)]) := by
  have hvz : v.size ≤ z.size := by
    rw [← str_len v, ← str_len z, hz]
    simp only [List.length_append, List.length_cons]
    omega
  have hsv : ¬ 16384 < v.size := by omega
  obtain ⟨hsz, hl, ht⟩ := lines_ok hv hsv hT.2.2
  have hyB := tokB_nil h2
  have hsl := tokL_eq (s := s) (by have := tokE_small hT.1; exact this)
  rw [hT.2.1] at hsl
  obtain ⟨hL, _⟩ := concat_inj hsl
  rw [← hL] at hl
  rw [hyB] at ht
  unfold modR at h2
  rw [tokL_eq (by omega), hyB] at h2
  obtain ⟨p2, h3, h4⟩ := modL_sim _ _ (sim_shift (d := s.size + 1) (e := endT y) (e' := endT v) rfl rfl rfl (by show ((v.size : Nat) : Int) = ((y.size : Nat) : Int) + _; omega) (lxs 0 false y.data.toList).1) .nil _ _ h2
  cases h4
  have h5 := modL_acc ⟨[], []⟩ [(a, 90)] _ _ _ _ _ _ h3
  have hn : Mo.app ⟨[], []⟩ n = n := rfl
  have hz0 : Mo.app ⟨[], []⟩ ⟨[], []⟩ = ⟨[], []⟩ := rfl
  rw [hn, hz0, List.append_nil] at h5
  obtain ⟨r, h6r, h7⟩ := hN ⟨[], []⟩ ((lxs 0 false y.data.toList).1.map (shT (s.size + 1)) ++ [endT v])
  have h8 : modR v = some (n, [(a, 90)]) := by
    refine modR_of (f := ((lxs 0 false y.data.toList).1 ++ [endT y]).length + 1 + 1) ?_
    rw [hl, ht]
    unfold modL
    rw [if_neg (h6 _), h6r]
    show modL _ _ ([] ++ [(a, 90)]) (lvR r) = _
    rw [h7]
    exact h5
  have h9 := items_ok hz hs h1 h8
  exact h9
def recS : Nat → ByteArray
  | 0 => rS0
  | 1 => rS1
  | 2 => rS2
  | 3 => rS3
  | 4 => rS4
  | 5 => rS5
  | 6 => rS6
  | _ => rS7
def recA : Nat → Int
  | 0 => 5
  | 1 => 11
  | 2 => 22
  | 3 => 25
  | 4 => 0
  | 5 => 0
  | 6 => 17
  | _ => 40
theorem recov_ok (k : Nat) {x y z v : ByteArray} (hv : v.data.toList = (recS k).data.toList ++ 10 :: y.data.toList) (hz : z.data.toList = x.data.toList ++ 10 :: v.data.toList) (hs : ¬ 16384 < z.size) {m n : Mo} (h1 : modR x = some (m, [])) (h2 : modR y = some (n, [])) :
    modR z = some (m.app n, [(recA k + ((x.size + 1 : Nat) : Int), 90)]) := by
  match k, hv with
  | 0, hv => exact rec_one rT0 rN0 (fun _ (h : (1 : Int) = 6) => absurd h (by decide)) hv hz hs h1 h2
  | 1, hv => exact rec_one rT1 rN1 (fun _ (h : (1 : Int) = 6) => absurd h (by decide)) hv hz hs h1 h2
  | 2, hv => exact rec_one rT2 rN2 (fun _ (h : (1 : Int) = 6) => absurd h (by decide)) hv hz hs h1 h2
  | 3, hv => exact rec_one rT3 rN3 (fun _ (h : (1 : Int) = 6) => absurd h (by decide)) hv hz hs h1 h2
  | 4, hv => exact rec_one rT4 rN4 (fun _ (h : (1 : Int) = 6) => absurd h (by decide)) hv hz hs h1 h2
  | 5, hv => exact rec_one rT5 rN5 (fun _ (h : (5 : Int) = 6) => absurd h (by decide)) hv hz hs h1 h2
  | 6, hv => exact rec_one rT6 rN6 (fun _ (h : (1 : Int) = 6) => absurd h (by decide)) hv hz hs h1 h2
  | _ + 7, hv => exact rec_one rT7 rN7 (fun _ (h : (1 : Int) = 6) => absurd h (by decide)) hv hz hs h1 h2
theorem rec_at (k : Nat) : 0 ≤ recA k ∧ recA k < (recS k).size := by
  match k with
  | 0 => exact ⟨by decide, by decide⟩
  | 1 => exact ⟨by decide, by decide⟩
  | 2 => exact ⟨by decide, by decide⟩
  | 3 => exact ⟨by decide, by decide⟩
  | 4 => exact ⟨by decide, by decide⟩
  | 5 => exact ⟨by decide, by decide⟩
  | 6 => exact ⟨by decide, by decide⟩
  | _ + 7 => exact ⟨by show (0 : Int) ≤ 40; decide, by show (40 : Int) < (rS7.size : Nat); decide⟩
end Go.Proofs.YtkgclmikhpjheaaGreatDoor.pa
