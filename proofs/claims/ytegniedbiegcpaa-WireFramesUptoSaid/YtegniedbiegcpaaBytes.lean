/-
  Bytes in memory, and the tables of bits as the walk spells them.
-/
import Derived.Test.YtegniedbiegcpaaChecked
import Derived.Test.YtegniedbiegcpaaCrc
import Derived.Test.YtegniedbiegcpaaEnc
import Derived.WalkKit
import Derived.Laws.BitsAllLaws
import Derived.Lib.Hide
import Derived.Lib.SmallJoins
import Derived.Lib.QuietBelow
namespace Go.Proofs.Ytegniedbiegcpaa
open Go.RowKit

theorem keeps {W w1 : World} (hb : Below W.heap.size W w1) {k o : Nat} {v : Value} (h : W.cell? ⟨k, o, none⟩ = some v) : w1.cell? ⟨k, o, none⟩ = some v := by
  rw [hb.cell (p := ⟨k, o, none⟩) (block_lt_of_cell h)]; exact h
theorem bnext {w a b : World} (h : Below w.heap.size w a) (k : Below a.heap.size a b) : Below w.heap.size w b := h.trans (k.mono h.size)
theorem b0 (w : World) : Below w.heap.size w w := Below.refl _ _
theorem balloc {w a : World} (h : Below w.heap.size w a) (o : Obj) : Below w.heap.size w (a.alloc o) := h.alloc h.size o

/-- The block b holds the bytes f from the cell off on. -/
def Bs (w : World) (b off n : Nat) (f : Nat → Nat) : Prop := ∀ j, j < n → w.cell? ⟨b, off + j, none⟩ = some (.int .u8 (f j : Int))
theorem Bs.keeps {w w1 : World} {b off n : Nat} {f : Nat → Nat} (h : Bs w b off n f) (hb : Below w.heap.size w w1) : Bs w1 b off n f := fun j hj => Go.Proofs.Ytegniedbiegcpaa.keeps hb (h j hj)
/-- A slice at the address a holds the bytes f. -/
def At (w : World) (a : Option Addr) (n : Nat) (f : Nat → Nat) : Prop := (n = 0 ∨ ∃ b off, a = some ⟨b, off, none⟩ ∧ Bs w b off n f) ∧ ∀ j, j < n → f j < 256
theorem At.keeps {w w1 : World} {a : Option Addr} {n : Nat} {f : Nat → Nat} (h : At w a n f) (hb : Below w.heap.size w w1) : At w1 a n f :=
  ⟨h.1.imp id fun ⟨b, off, e, hB⟩ => ⟨b, off, e, hB.keeps hb⟩, h.2⟩
theorem At.less {w : World} {a : Option Addr} {n m : Nat} {f : Nat → Nat} (h : At w a n f) (hm : m ≤ n) : At w a m f := by
  refine ⟨?_, fun j hj => h.2 j (by omega)⟩
  rcases h.1 with h0 | ⟨b, off, e, hB⟩
  · exact .inl (by omega)
  · exact .inr ⟨b, off, e, fun j hj => hB j (by omega)⟩
theorem At.nil (w : World) (a : Option Addr) (f : Nat → Nat) : At w a 0 f := ⟨.inl rfl, fun _ h => by omega⟩

theorem ret_int {k : IntKind} {a b : Int} (h : a = b) : Ending.returned (.int k a) = .returned (.int k b) := by rw [h]
theorem x32 {a b : Nat} (ha : a < 4294967296) (hb : b < 4294967296) : bits .xor .u32 (a : Int) (b : Int) = ((a ^^^ b : Nat) : Int) := u32_xor_nat a b ha hb
theorem st_walk {r : Nat} (hr : r < 4294967296) : bits .xor .u32 ((r : Int) / 2) (3988292384 * bits .and .u32 (r : Int) 1 % 4294967296) = ((st r : Nat) : Int) := by
  have e1 : bits .and .u32 (r : Int) 1 = ((r % 2 : Nat) : Int) := by
    have := u32_and_nat r 1 hr (by decide)
    rw [Nat.and_one_is_mod] at this
    exact this
  have e2 : (3988292384 * ((r % 2 : Nat) : Int) % 4294967296) = ((3988292384 * (r % 2) : Nat) : Int) := by omega
  have e3 : (r : Int) / 2 = ((r / 2 : Nat) : Int) := by omega
  rw [e1, e2, e3, x32 (by omega) (by omega)]
  unfold st
  rcases Nat.mod_two_eq_zero_or_one r with h | h
  · rw [h, if_neg (by decide), Nat.mul_zero, Nat.xor_zero]
  · rw [h, if_pos rfl, Nat.mul_one]
theorem four_walk {r : Nat} (hr : r < 4294967296) : bits .xor .u32 ((r : Int) / 16) ((sts 4 (r % 16) : Nat) : Int) = ((sts 4 r : Nat) : Int) := by
  have e3 : (r : Int) / 16 = ((r / 16 : Nat) : Int) := by omega
  rw [e3, x32 (by omega) (sts_lt 4 (by omega)), four r]
end Go.Proofs.Ytegniedbiegcpaa
