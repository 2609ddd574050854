/-
  Bytes in memory and the Append functions of package wire (taken over from stages 3 and 4).
-/
import Derived.WalkKit
import Derived.Test.YtnkdclodmeaihaaGreatDoorChecked
import Derived.Laws.BitsAllLaws
import Derived.Lib.Hide
import Derived.Lib.SmallJoins
import Derived.Lib.QuietBelow
import Derived.Laws.AppendOwn
import Derived.Laws.OwnMore
import Derived.OwnWalk
import Derived.Below
import Derived.Laws.BytesArg
import Derived.Room.AppendFits
namespace Go.Proofs.YtnkdclodmeaihaaGreatDoor

/-- One step of the register. -/
def st (r : Nat) : Nat := if r % 2 = 1 then r / 2 ^^^ 3988292384 else r / 2
/-- So many steps. -/
def sts : Nat → Nat → Nat
  | 0, r => r
  | k + 1, r => sts k (st r)

theorem xor_eq_zero {a b : Nat} (h : a ^^^ b = 0) : a = b := by
  have h1 := congrArg (· ^^^ b) h
  simpa [Nat.xor_assoc] using h1
theorem xor_half (a b : Nat) : (a ^^^ b) / 2 = a / 2 ^^^ b / 2 := by
  apply Nat.eq_of_testBit_eq
  intro i
  rw [Nat.testBit_xor, ← Nat.testBit_succ, ← Nat.testBit_succ, ← Nat.testBit_succ, Nat.testBit_xor]
theorem xor_odd (a b : Nat) : (a ^^^ b) % 2 = (a % 2 + b % 2) % 2 := by
  have h : (a ^^^ b).testBit 0 = (a.testBit 0 ^^ b.testBit 0) := Nat.testBit_xor ..
  rw [Nat.testBit_zero, Nat.testBit_zero, Nat.testBit_zero] at h
  have ha := Nat.mod_two_eq_zero_or_one a
  have hb := Nat.mod_two_eq_zero_or_one b
  have hc := Nat.mod_two_eq_zero_or_one (a ^^^ b)
  rcases ha with ha | ha <;> rcases hb with hb | hb <;> rcases hc with hc | hc <;> simp [ha, hb, hc] at h ⊢
theorem st_xor (a b : Nat) : st (a ^^^ b) = st a ^^^ st b := by
  unfold st
  rw [xor_odd, xor_half]
  rcases Nat.mod_two_eq_zero_or_one a with ha | ha <;> rcases Nat.mod_two_eq_zero_or_one b with hb | hb <;> simp [ha, hb]
  · rw [Nat.xor_assoc]
  · rw [Nat.xor_assoc, Nat.xor_comm (b / 2), ← Nat.xor_assoc]
  · rw [Nat.xor_assoc, Nat.xor_comm 3988292384, Nat.xor_assoc, Nat.xor_self, Nat.xor_zero]
theorem sts_xor (k : Nat) : ∀ a b, sts k (a ^^^ b) = sts k a ^^^ sts k b := by
  induction k with
  | zero => intro a b; rfl
  | succ k ih => intro a b; show sts k (st (a ^^^ b)) = _; rw [st_xor, ih]; rfl
theorem sts_add (k : Nat) : ∀ m r, sts (k + m) r = sts m (sts k r) := by
  induction k with
  | zero => intro m r; rw [Nat.zero_add]; rfl
  | succ k ih => intro m r; rw [Nat.succ_add]; exact ih m (st r)
theorem sts_last (k r : Nat) : sts (k + 1) r = st (sts k r) := sts_add k 1 r
theorem xor32 {a b : Nat} (ha : a < 4294967296) (hb : b < 4294967296) : a ^^^ b < 4294967296 := Nat.xor_lt_two_pow (n := 32) ha hb
theorem st_lt {r : Nat} (h : r < 4294967296) : st r < 4294967296 := by
  unfold st
  split
  · exact xor32 (by omega) (by decide)
  · omega
theorem sts_lt (k : Nat) : ∀ {r : Nat}, r < 4294967296 → sts k r < 4294967296 := by
  induction k with
  | zero => intro r h; exact h
  | succ k ih => intro r h; exact ih (st_lt h)
/-- A step leads to zero from zero alone. -/
theorem st_zero {r : Nat} (h : r < 4294967296) (hz : st r = 0) : r = 0 := by
  unfold st at hz
  split at hz
  · have h1 : r / 2 = 3988292384 := xor_eq_zero hz
    omega
  · omega
theorem sts_zero (k : Nat) : ∀ {r : Nat}, r < 4294967296 → sts k r = 0 → r = 0 := by
  induction k with
  | zero => intro r _ h; exact h
  | succ k ih => intro r h hz; exact st_zero h (ih (st_lt h) hz)
theorem sts_of_zero (k : Nat) : sts k 0 = 0 := by
  induction k with
  | zero => rfl
  | succ k ih => exact ih
theorem st_twice (r : Nat) : st (2 * r) = r := by unfold st; split <;> omega
theorem sts_pow (k : Nat) : ∀ m, sts (k + m) (2 ^ k) = sts m 1 := by
  induction k with
  | zero => intro m; rw [Nat.zero_add, Nat.pow_zero]
  | succ k ih =>
    intro m
    rw [Nat.succ_add, Nat.pow_succ, Nat.mul_comm]
    show sts (k + m) (st (2 * 2 ^ k)) = _
    rw [st_twice, ih]
theorem sts_pow' {M k : Nat} (h : k ≤ M) : sts M (2 ^ k) = sts (M - k) 1 := by
  have e : M = k + (M - k) := by omega
  rw [e, sts_pow, Nat.add_sub_cancel_left]

/-- Four steps by the table: what the upper bits become, and what the lowest four. -/
theorem four (r : Nat) : sts 4 r = r / 16 ^^^ sts 4 (r % 16) := by
  have e : r = (16 * (r / 16)) ^^^ (r % 16) := by
    have h : 16 * (r / 16) + r % 16 = r := by omega
    have h2 := Nat.two_pow_add_eq_or_of_lt (i := 4) (b := r % 16) (by omega) (r / 16)
    apply Nat.eq_of_testBit_eq
    intro i
    rw [Nat.testBit_xor]
    have h3 := Nat.testBit_two_pow_mul_add (r / 16) (b := r % 16) (i := 4) (by omega) i
    have h4 := Nat.testBit_two_pow_mul_add (r / 16) (b := 0) (i := 4) (by omega) i
    have e1 : 2 ^ 4 * (r / 16) + r % 16 = r := by omega
    have e2 : 2 ^ 4 * (r / 16) + 0 = 16 * (r / 16) := by omega
    rw [e1] at h3
    rw [e2] at h4
    rw [h3, h4]
    by_cases hi : i < 4
    · simp [hi]
    · have : (r % 16).testBit i = false := Nat.testBit_lt_two_pow (Nat.lt_of_lt_of_le (show r % 16 < 2 ^ 4 by omega) (Nat.pow_le_pow_right (by omega) (by omega)))
      simp [hi, this]
  have e4 : sts 4 (16 * (r / 16)) = r / 16 := by
    have : 16 * (r / 16) = 2 * (2 * (2 * (2 * (r / 16)))) := by omega
    rw [this]
    show st (st (st (st _))) = _
    rw [st_twice, st_twice, st_twice, st_twice]
  calc sts 4 r = sts 4 ((16 * (r / 16)) ^^^ (r % 16)) := by rw [← e]
    _ = _ := by rw [sts_xor, e4]
theorem eight (r : Nat) : sts 8 r = (sts 4 r) / 16 ^^^ sts 4 ((sts 4 r) % 16) := by rw [← four]; exact sts_add 4 4 r

/-- The register after n bytes of f, from r on. -/
def reg (f : Nat → Nat) (r : Nat) : Nat → Nat
  | 0 => r
  | n + 1 => sts 8 (reg f r n ^^^ f n)
theorem reg_succ (f : Nat → Nat) (r n : Nat) : reg f r (n + 1) = sts 8 (reg f r n ^^^ f n) := rfl
theorem reg_lt {f : Nat → Nat} {r : Nat} (n : Nat) (hr : r < 4294967296) (hf : ∀ i, i < n → f i < 256) : reg f r n < 4294967296 := by
  induction n with
  | zero => exact hr
  | succ n ih => exact sts_lt 8 (xor32 (ih fun i hi => hf i (by omega)) (by have := hf n (by omega); omega))
theorem reg_congr {f g : Nat → Nat} {r : Nat} (n : Nat) (h : ∀ i, i < n → f i = g i) : reg f r n = reg g r n := by
  induction n with
  | zero => rfl
  | succ n ih => rw [reg_succ, reg_succ, ih fun i hi => h i (by omega), h n (by omega)]
theorem reg_cat (f : Nat → Nat) (r m n : Nat) : reg f r (m + n) = reg (fun i => f (m + i)) (reg f r m) n := by
  induction n with
  | zero => rfl
  | succ n ih => rw [← Nat.add_assoc, reg_succ, reg_succ, ih]
theorem reg_xor3 (f g h : Nat → Nat) (a b c n : Nat) : reg (fun i => f i ^^^ g i ^^^ h i) (a ^^^ b ^^^ c) n = reg f a n ^^^ reg g b n ^^^ reg h c n := by
  induction n with
  | zero => rfl
  | succ n ih =>
    simp only [reg_succ]
    rw [ih]
    have e : reg f a n ^^^ reg g b n ^^^ reg h c n ^^^ (f n ^^^ g n ^^^ h n) = (reg f a n ^^^ f n) ^^^ (reg g b n ^^^ g n) ^^^ (reg h c n ^^^ h n) := by
      apply Nat.eq_of_testBit_eq
      intro i
      simp only [Nat.testBit_xor]
      cases (reg f a n).testBit i <;> cases (reg g b n).testBit i <;> cases (reg h c n).testBit i <;> cases (f n).testBit i <;> cases (g n).testBit i <;> cases (h n).testBit i <;> rfl
    rw [e, sts_xor, sts_xor]

/-- f with the byte at j replaced. -/
def upd (f : Nat → Nat) (j v : Nat) : Nat → Nat := fun i => if i = j then v else f i
theorem upd_at (f : Nat → Nat) (j v : Nat) : upd f j v j = v := by unfold upd; rw [if_pos rfl]
theorem upd_off (f : Nat → Nat) (j v : Nat) {i : Nat} (h : i ≠ j) : upd f j v i = f i := by unfold upd; rw [if_neg h]
/-- Changing the bit t of the byte j changes the register by what is left of the bit. -/
theorem reg_flip (f : Nat → Nat) (r j t n : Nat) (ht : t < 8) (hj : j < n) : reg (upd f j (f j ^^^ 2 ^ t)) r n = reg f r n ^^^ sts (8 * (n - j) - t) 1 := by
  induction n with
  | zero => omega
  | succ n ih =>
    rw [reg_succ, reg_succ]
    by_cases h : j = n
    · subst h
      rw [upd_at, reg_congr (f := upd f j (f j ^^^ 2 ^ t)) (g := f) j (fun i hi => upd_off _ _ _ (by omega)), ← Nat.xor_assoc, sts_xor, sts_pow' (by omega)]
      congr 3
      omega
    · rw [ih (by omega), upd_off _ _ _ (by omega), Nat.xor_assoc, Nat.xor_comm (sts _ 1), ← Nat.xor_assoc, sts_xor, ← sts_add]
      congr 2
      omega
theorem upd_lt {f : Nat → Nat} {n j v : Nat} (h : ∀ i, i < n → f i < 256) (hv : v < 256) : ∀ i, i < n → upd f j v i < 256 := by
  intro i hi
  unfold upd
  split
  · exact hv
  · exact h i hi

/-- The checksum of n bytes of f, continued from s. -/
def crc (f : Nat → Nat) (n s : Nat) : Nat := 4294967295 ^^^ reg f (4294967295 ^^^ s) n
theorem crc_lt {f : Nat → Nat} {s : Nat} (n : Nat) (hs : s < 4294967296) (hf : ∀ i, i < n → f i < 256) : crc f n s < 4294967296 :=
  xor32 (by decide) (reg_lt n (xor32 (by decide) hs) hf)
theorem not_not (x : Nat) : 4294967295 ^^^ (4294967295 ^^^ x) = x := by rw [← Nat.xor_assoc, Nat.xor_self, Nat.zero_xor]
theorem crc_congr {f g : Nat → Nat} {s : Nat} (n : Nat) (h : ∀ i, i < n → f i = g i) : crc f n s = crc g n s := by unfold crc; rw [reg_congr n h]
/-- Extending. -/
theorem crc_cat (f g : Nat → Nat) (m n s : Nat) : crc g n (crc f m s) = crc (fun i => if i < m then f i else g (i - m)) (m + n) s := by
  unfold crc
  rw [not_not, reg_cat, reg_congr (f := fun i => if i < m then f i else g (i - m)) (g := f) m (fun i hi => if_pos hi)]
  congr 1
  refine reg_congr n fun i _ => ?_
  rw [if_neg (by omega), Nat.add_sub_cancel_left]
theorem crc_xor3 (f g h : Nat → Nat) (n : Nat) : crc (fun i => f i ^^^ g i ^^^ h i) n 0 = crc f n 0 ^^^ crc g n 0 ^^^ crc h n 0 := by
  unfold crc
  have e := reg_xor3 f g h 4294967295 4294967295 4294967295 n
  rw [Nat.xor_self, Nat.zero_xor] at e
  simp only [Nat.xor_zero]
  rw [e]
  generalize reg f 4294967295 n = a
  generalize reg g 4294967295 n = b
  generalize reg h 4294967295 n = c
  apply Nat.eq_of_testBit_eq
  intro i
  simp only [Nat.testBit_xor]
  cases a.testBit i <;> cases b.testBit i <;> cases c.testBit i <;> cases Nat.testBit 4294967295 i <;> rfl

/-- The pattern's lowest k bits that lie before the end. -/
def part (bits M : Nat) : Nat → Nat
  | 0 => 0
  | k + 1 => if bits.testBit k = true ∧ k < M then part bits M k ^^^ 2 ^ k else part bits M k
theorem part_lt (bits M k : Nat) : part bits M k < 2 ^ k := by
  induction k with
  | zero => exact Nat.one_pos
  | succ k ih =>
    unfold part
    have h1 : 2 ^ k < 2 ^ (k + 1) := Nat.pow_lt_pow_right (by decide) (by omega)
    split
    · exact Nat.xor_lt_two_pow (Nat.lt_trans ih h1) h1
    · exact Nat.lt_trans ih h1
theorem part_step (bits M k : Nat) (h : bits.testBit k = true) (hk : k < M) : part bits M (k + 1) ≠ 0 ∧ part bits M (k + 1) = part bits M k ^^^ 2 ^ k := by
  have e : part bits M (k + 1) = part bits M k ^^^ 2 ^ k := by rw [part, if_pos ⟨h, hk⟩]
  refine ⟨fun h0 => ?_, e⟩
  rw [e] at h0
  have h1 := xor_eq_zero h0
  have h2 := part_lt bits M k
  omega
theorem part_skip (bits M k : Nat) (h : ¬ (bits.testBit k = true ∧ k < M)) : part bits M (k + 1) = part bits M k := by rw [part, if_neg h]
/-- What the changes so far have done to the register. -/
def Done (f g : Nat → Nat) (n first bits k : Nat) : Prop := reg g 4294967295 n = reg f 4294967295 n ^^^ sts (8 * n - first) (part bits (8 * n - first) k)
theorem done_zero (f : Nat → Nat) (n first bits : Nat) : Done f f n first bits 0 := by unfold Done; rw [part, sts_of_zero, Nat.xor_zero]
theorem done_step {f g : Nat → Nat} {n first bits k : Nat} (h : Done f g n first bits k) (hb : bits.testBit k = true) (hk : first + k < 8 * n) :
    Done f (upd g ((first + k) / 8) (g ((first + k) / 8) ^^^ 2 ^ ((first + k) % 8))) n first bits (k + 1) := by
  unfold Done at *
  rw [reg_flip _ _ _ _ _ (by omega) (by omega), h, (part_step bits (8 * n - first) k hb (by omega)).2, sts_xor, sts_pow' (by omega), Nat.xor_assoc]
  congr 3
  omega
theorem done_end {f g : Nat → Nat} {n first bits : Nat} (h : Done f g n first bits 32) : (crc g n 0 = crc f n 0) ↔ part bits (8 * n - first) 32 = 0 := by
  unfold Done at h
  unfold crc
  rw [Nat.xor_zero, h]
  have hl : part bits (8 * n - first) 32 < 4294967296 := part_lt bits (8 * n - first) 32
  generalize part bits (8 * n - first) 32 = p at *
  constructor
  · intro e
    have e2 := congrArg (fun x => 4294967295 ^^^ x) e
    simp only [not_not] at e2
    have e3 := congrArg (fun x => reg f 4294967295 n ^^^ x) e2
    simp only [← Nat.xor_assoc, Nat.xor_self, Nat.zero_xor] at e3
    exact sts_zero _ hl e3
  · intro e
    rw [e, sts_of_zero, Nat.xor_zero]

end Go.Proofs.YtnkdclodmeaihaaGreatDoor

namespace Go.Proofs.YtnkdclodmeaihaaGreatDoor

/-- The encoding of an unsigned integer. -/
def en (n : Nat) : List Nat := if n < 128 then [n] else (n % 128 + 128) :: en (n / 128)
termination_by n
decreasing_by omega

theorem en_small {n : Nat} (h : n < 128) : en n = [n] := by rw [en, if_pos h]
theorem en_big {n : Nat} (h : ¬ n < 128) : en n = (n % 128 + 128) :: en (n / 128) := by rw [en, if_neg h]
theorem en_pos (n : Nat) : 1 ≤ (en n).length := by
  by_cases h : n < 128
  · rw [en_small h]; exact Nat.le_refl _
  · rw [en_big h, List.length_cons]; omega
theorem en_lt (n : Nat) : ∀ x ∈ en n, x < 256 := by
  induction n using Nat.strongRecOn with
  | _ n ih =>
    intro x hx
    by_cases h : n < 128
    · rw [en_small h, List.mem_singleton] at hx; omega
    · rw [en_big h, List.mem_cons] at hx
      rcases hx with rfl | hx
      · omega
      · exact ih (n / 128) (by omega) x hx
theorem en_len (k n : Nat) (h : n < 128 ^ (k + 1)) : (en n).length ≤ k + 1 := by
  induction k generalizing n with
  | zero => rw [en_small (by simpa using h)]; exact Nat.le_refl _
  | succ k ih =>
    by_cases hs : n < 128
    · rw [en_small hs, List.length_singleton]; omega
    · rw [en_big hs, List.length_cons]
      have := ih (n / 128) (by rw [Nat.pow_succ] at h; omega)
      omega
theorem en_ten {n : Nat} (h : n < 18446744073709551616) : (en n).length ≤ 10 := en_len 9 n (Nat.lt_of_lt_of_le h (by decide))
/-- An encoding of k + 1 bytes is that of a number of at least 128 ^ k. -/
theorem en_ge (k n : Nat) (h : k + 1 < (en n).length) : 128 ^ (k + 1) ≤ n := by
  induction k generalizing n with
  | zero =>
    by_cases hs : n < 128
    · rw [en_small hs, List.length_singleton] at h; omega
    · simpa using hs
  | succ k ih =>
    by_cases hs : n < 128
    · rw [en_small hs, List.length_singleton] at h; omega
    · rw [en_big hs, List.length_cons] at h
      have := ih (n / 128) (by omega)
      rw [Nat.pow_succ]
      omega
theorem en_mono {n m : Nat} (h : n ≤ m) : (en n).length ≤ (en m).length := by
  have hm := en_pos m
  obtain ⟨k, hk⟩ : ∃ k, (en m).length = k + 1 := ⟨(en m).length - 1, by omega⟩
  rw [hk]
  apply Nat.le_of_not_lt
  intro hl
  have h1 := en_ge k n hl
  by_cases hc : m < 128 ^ (k + 1)
  · omega
  · have := en_le_of k m hk
    omega
where
  en_le_of (k m : Nat) (hk : (en m).length = k + 1) : m < 128 ^ (k + 1) := by
    induction k generalizing m with
    | zero =>
      by_cases hs : m < 128
      · simpa using hs
      · rw [en_big hs, List.length_cons] at hk
        have := en_pos (m / 128)
        omega
    | succ k ih =>
      by_cases hs : m < 128
      · rw [en_small hs, List.length_singleton] at hk; omega
      · rw [en_big hs, List.length_cons] at hk
        have := ih (m / 128) (by omega)
        rw [Nat.pow_succ]
        omega

/-- What reading gives: a number and how many bytes it takes, or an error's code. -/
inductive R where
  | ok (n k : Nat)
  | err (c : Nat)
deriving DecidableEq

/-- Reading on: i bytes were read, their digits are v. -/
def rd : List Nat → Nat → Nat → R
  | [], i, _ => if i < 10 then .err 41 else .err 3
  | c :: l, i, v =>
    if i = 10 then .err 3
    else if c < 128 then (if (i = 9 ∧ 1 < c) ∨ (0 < i ∧ c = 0) then .err 3 else .ok (v + c * 128 ^ i) (i + 1))
    else rd l (i + 1) (v + (c - 128) * 128 ^ i)

theorem rd_ten (l : List Nat) (v : Nat) : rd l 10 v = .err 3 := by
  cases l <;> simp [rd]

theorem p9 : 128 ^ 9 = 9223372036854775808 := by decide
theorem pow_small {i : Nat} (h : 128 ^ i < 18446744073709551616) : i ≤ 9 := by
  apply Nat.le_of_not_lt
  intro hl
  have : 128 ^ 10 ≤ 128 ^ i := Nat.pow_le_pow_right (by decide) hl
  have : (128 : Nat) ^ 10 = 1180591620717411303424 := by decide
  omega

theorem rd_en_from (m : Nat) : ∀ (i v : Nat) (r : List Nat), (i = 0 ∨ 0 < m) → m * 128 ^ i < 18446744073709551616 → i ≤ 9 → rd (en m ++ r) i v = .ok (v + m * 128 ^ i) (i + (en m).length) := by
  induction m using Nat.strongRecOn with
  | _ m ih =>
    intro i v r hi hm h9
    by_cases hs : m < 128
    · rw [en_small hs]
      show rd (m :: r) i v = _
      rw [rd, if_neg (by omega), if_pos hs, if_neg]
      · rfl
      · rintro (⟨rfl, h⟩ | ⟨h1, h2⟩)
        · rw [p9] at hm; omega
        · omega
    · rw [en_big hs]
      have e : 128 ^ (i + 1) = 128 ^ i * 128 := Nat.pow_succ ..
      have h1 : 128 ^ (i + 1) ≤ m * 128 ^ i := by
        rw [e, Nat.mul_comm m]
        exact Nat.mul_le_mul_left _ (by omega)
      have hi9 := pow_small (Nat.lt_of_le_of_lt h1 hm)
      have h2 : m / 128 * 128 ^ (i + 1) ≤ m * 128 ^ i := by
        rw [e, Nat.mul_comm (128 ^ i), ← Nat.mul_assoc]
        exact Nat.mul_le_mul_right _ (Nat.div_mul_le_self _ _)
      show rd ((m % 128 + 128) :: (en (m / 128) ++ r)) i v = _
      rw [rd, if_neg (by omega), if_neg (by omega), ih (m / 128) (by omega) (i + 1) _ r (.inr (by omega)) (by omega) hi9]
      rw [List.length_cons]
      congr 1
      · rw [Nat.add_sub_cancel, e, Nat.add_assoc]
        congr 1
        have : m / 128 * (128 ^ i * 128) = (m / 128 * 128) * 128 ^ i := by rw [Nat.mul_comm (128 ^ i), Nat.mul_assoc]
        rw [this, ← Nat.add_mul]
        congr 1
        omega
      · omega
theorem rd_en {m : Nat} (hm : m < 18446744073709551616) (r : List Nat) : rd (en m ++ r) 0 0 = .ok m (en m).length := by
  rw [rd_en_from m 0 0 r (.inl rfl) (by simpa using hm) (by decide)]
  simp

/-- What was read is an encoding. -/
theorem rd_back_from : ∀ (l : List Nat) (i v n k : Nat), i ≤ 10 → (∀ x ∈ l, x < 256) → rd l i v = .ok n k →
    ∃ m r, l = en m ++ r ∧ (i = 0 ∨ 0 < m) ∧ n = v + m * 128 ^ i ∧ k = i + (en m).length ∧ m * 128 ^ i < 18446744073709551616 := by
  intro l
  induction l with
  | nil => intro i v n k _ _ h; simp only [rd] at h; split at h <;> cases h
  | cons c l ih =>
    intro i v n k hi hl h
    simp only [rd] at h
    split at h
    · cases h
    have hc : c < 256 := hl c (List.mem_cons_self ..)
    split at h
    · split at h
      · cases h
      · rename_i h1 h2 h3
        injection h with h4 h5
        refine ⟨c, l, by rw [en_small h2]; rfl, by omega, h4.symm, by rw [en_small h2]; exact h5.symm, ?_⟩
        by_cases h9 : i = 9
        · subst h9; rw [p9]; omega
        · have h8 : i ≤ 8 := by omega
          have : 128 ^ i ≤ 128 ^ 8 := Nat.pow_le_pow_right (by decide) h8
          have e8 : (128 : Nat) ^ 8 = 72057594037927936 := by decide
          calc c * 128 ^ i ≤ 127 * 128 ^ 8 := Nat.mul_le_mul (by omega) this
            _ < _ := by rw [e8]; decide
    · rename_i h1 h2
      obtain ⟨m, r, e1, e2, e3, e4, e5⟩ := ih (i + 1) _ n k (by omega) (fun x hx => hl x (List.mem_cons_of_mem _ hx)) h
      have hm : 0 < m := by omega
      have eq : (m * 128 + (c - 128)) % 128 + 128 = c := by omega
      have eq2 : (m * 128 + (c - 128)) / 128 = m := by omega
      have hen : en (m * 128 + (c - 128)) = c :: en m := by rw [en_big (by omega), eq, eq2]
      have e : 128 ^ (i + 1) = 128 ^ i * 128 := Nat.pow_succ ..
      have hv : (m * 128 + (c - 128)) * 128 ^ i = (c - 128) * 128 ^ i + m * 128 ^ (i + 1) := by
        rw [Nat.add_mul, e, Nat.mul_comm (128 ^ i) 128, Nat.mul_assoc, Nat.add_comm]
      refine ⟨m * 128 + (c - 128), r, by rw [hen, e1]; rfl, .inr (by omega), by rw [hv, e3]; omega, by rw [hen, List.length_cons]; omega, ?_⟩
      -- no wrap: the digits below are less than one of the next
      rw [hv]
      have hi8 : i + 1 ≤ 9 := by
        apply pow_small
        calc 128 ^ (i + 1) = 1 * 128 ^ (i + 1) := (Nat.one_mul _).symm
          _ ≤ m * 128 ^ (i + 1) := Nat.mul_le_mul_right _ hm
          _ < _ := e5
      obtain ⟨d, hd⟩ : ∃ d, 18446744073709551616 = d * 128 ^ (i + 1) := by
        refine ⟨2 * 128 ^ (9 - (i + 1)), ?_⟩
        rw [Nat.mul_assoc, ← Nat.pow_add, show 9 - (i + 1) + (i + 1) = 9 by omega, p9]
      rw [hd] at e5 ⊢
      have hmd : m < d := Nat.lt_of_mul_lt_mul_right e5
      have : (c - 128) * 128 ^ i < 128 ^ (i + 1) := by
        rw [e, Nat.mul_comm (128 ^ i)]
        exact Nat.mul_lt_mul_of_pos_right (by omega) (Nat.pow_pos (by decide))
      calc (c - 128) * 128 ^ i + m * 128 ^ (i + 1) < 128 ^ (i + 1) + m * 128 ^ (i + 1) := by omega
        _ = (m + 1) * 128 ^ (i + 1) := by rw [Nat.add_mul, Nat.one_mul, Nat.add_comm]
        _ ≤ d * 128 ^ (i + 1) := Nat.mul_le_mul_right _ hmd
theorem rd_back {l : List Nat} {n k : Nat} (hl : ∀ x ∈ l, x < 256) (h : rd l 0 0 = .ok n k) : ∃ r, l = en n ++ r ∧ k = (en n).length ∧ n < 18446744073709551616 := by
  obtain ⟨m, r, e1, _, e3, e4, e5⟩ := rd_back_from l 0 0 n k (by decide) hl h
  simp only [Nat.pow_zero, Nat.mul_one, Nat.zero_add] at e3 e4 e5
  subst e3
  exact ⟨r, e1, e4, e5⟩

/-- A proper beginning is too short. -/
theorem rd_short_from (m : Nat) : ∀ (i v j : Nat), i + (en m).length ≤ 10 → j < (en m).length → rd ((en m).take j) i v = .err 41 := by
  induction m using Nat.strongRecOn with
  | _ m ih =>
    intro i v j hi hj
    have hp := en_pos m
    cases j with
    | zero => rw [List.take_zero, rd, if_pos (by omega)]
    | succ j =>
      by_cases hs : m < 128
      · rw [en_small hs, List.length_singleton] at hj; omega
      · rw [en_big hs, List.length_cons] at hi hj
        rw [en_big hs, List.take_succ_cons, rd, if_neg (by omega), if_neg (by omega)]
        exact ih (m / 128) (by omega) (i + 1) _ j (by omega) (by omega)
theorem rd_short {m : Nat} (hm : m < 18446744073709551616) {j : Nat} (hj : j < (en m).length) : rd ((en m).take j) 0 0 = .err 41 :=
  rd_short_from m 0 0 j (by have := en_ten hm; omega) hj

/-- No encoding is the beginning of another one. -/
theorem en_free {n m : Nat} (hn : n < 18446744073709551616) (hm : m < 18446744073709551616) (h : en n = (en m).take (en n).length) : n = m := by
  have h1 : en m = en n ++ (en m).drop (en n).length := by
    conv => lhs; rw [← List.take_append_drop (en n).length (en m), ← h]
  have h2 := rd_en hm []
  rw [List.append_nil, h1, rd_en hn] at h2
  injection h2

/-! The integers. -/
def fold (z : Int) : Nat := if z < 0 then 2 * (-(z + 1)).toNat + 1 else 2 * z.toNat
def unfd (n : Nat) : Int := if n % 2 = 1 then -((n / 2 : Nat) : Int) - 1 else ((n / 2 : Nat) : Int)
theorem unfd_fold (z : Int) : unfd (fold z) = z := by
  unfold unfd fold
  split <;> split <;> omega
theorem fold_unfd (n : Nat) : fold (unfd n) = n := by
  unfold unfd fold
  split <;> split <;> omega
theorem fold_lt {z : Int} (h1 : -9223372036854775808 ≤ z) (h2 : z ≤ 9223372036854775807) : fold z < 18446744073709551616 := by
  unfold fold
  split <;> omega
theorem unfd_in {n : Nat} (h : n < 18446744073709551616) : -9223372036854775808 ≤ unfd n ∧ unfd n ≤ 9223372036854775807 := by
  unfold unfd
  split <;> omega

/-! The search of the first byte below 128. -/
theorem rd_first : ∀ (p : Nat) (l : List Nat) (i v : Nat), (∀ x ∈ l, x < 256) → i + p ≤ 9 → (∀ j, j < p → 128 ≤ l.getD j 0) → p < l.length → l.getD p 0 < 128 →
    (rd l i v = if (i + p = 9 ∧ 1 < l.getD p 0) ∨ (0 < i + p ∧ l.getD p 0 = 0) then .err 3 else .ok (v + ((l.take (p + 1)).foldr (fun c a => a * 128 + c % 128) 0) * 128 ^ i) (i + p + 1)) := by
  intro p
  induction p with
  | zero =>
    intro l i v _ hi _ hp hc
    cases l with
    | nil => cases hp
    | cons c l =>
      simp only [List.getD_cons_zero] at hc
      rw [rd, if_neg (by omega), if_pos hc]
      simp [Nat.mod_eq_of_lt hc]
  | succ p ih =>
    intro l i v hl hi hb hp hc
    cases l with
    | nil => cases hp
    | cons c l =>
      have h256 := hl c (List.mem_cons_self ..)
      simp only [List.getD_cons_succ] at hc
      have h0 := hb 0 (by omega)
      simp only [List.getD_cons_zero] at h0
      rw [rd, if_neg (by omega), if_neg (by omega), ih l (i + 1) _ (fun x hx => hl x (List.mem_cons_of_mem _ hx)) (by omega) (fun j hj => by have := hb (j + 1) (by omega); simpa using this) (by simpa using hp) hc]
      simp only [List.getD_cons_succ, show i + 1 + p = i + (p + 1) by omega, List.take_succ_cons, List.foldr_cons]
      have hc7 : c % 128 = c - 128 := by omega
      generalize (l.take (p + 1)).foldr (fun c a => a * 128 + c % 128) 0 = F
      have e : v + (c - 128) * 128 ^ i + F * 128 ^ (i + 1) = v + (F * 128 + c % 128) * 128 ^ i := by
        have e1 : (F * 128 + c % 128) * 128 ^ i = F * 128 ^ (i + 1) + (c - 128) * 128 ^ i := by
          rw [hc7, Nat.add_mul, Nat.pow_succ, Nat.mul_comm (128 ^ i) 128, Nat.mul_assoc]
        rw [e1, Nat.add_assoc, Nat.add_comm ((c - 128) * 128 ^ i)]
      rw [e]
theorem rd_none : ∀ (l : List Nat) (i v : Nat), i ≤ 10 → (∀ j, i + j < 10 → j < l.length → 128 ≤ l.getD j 0) → rd l i v = if i + l.length < 10 then .err 41 else .err 3 := by
  intro l
  induction l with
  | nil => intro i v _ _; simp [rd]
  | cons c l ih =>
    intro i v hi hb
    rw [rd]
    by_cases h10 : i = 10
    · rw [if_pos h10, if_neg (by omega)]
    · have h0 := hb 0 (by omega) (by simp)
      simp only [List.getD_cons_zero] at h0
      rw [if_neg h10, if_neg (by omega), ih (i + 1) _ (by omega) (fun j hj hl => by have := hb (j + 1) (by omega) (by simpa using hl); simpa using this)]
      rw [List.length_cons]
      congr 1
      simp only [eq_iff_iff]
      omega
end Go.Proofs.YtnkdclodmeaihaaGreatDoor

namespace Go.Proofs.YtnkdclodmeaihaaGreatDoor
open Go.RowKit

theorem keeps {W w1 : World} (hb : Below W.heap.size W w1) {k o : Nat} {v : Value} (h : W.cell? ⟨k, o, none⟩ = some v) : w1.cell? ⟨k, o, none⟩ = some v := by
  rw [hb.cell (p := ⟨k, o, none⟩) (block_lt_of_cell h)]; exact h
theorem bnext {w a b : World} (h : Below w.heap.size w a) (k : Below a.heap.size a b) : Below w.heap.size w b := h.trans (k.mono h.size)
theorem b0 (w : World) : Below w.heap.size w w := Below.refl _ _
theorem balloc {w a : World} (h : Below w.heap.size w a) (o : Obj) : Below w.heap.size w (a.alloc o) := h.alloc h.size o

/-- The block b holds the bytes f from the cell off on. -/
def Bs (w : World) (b off n : Nat) (f : Nat → Nat) : Prop := ∀ j, j < n → w.cell? ⟨b, off + j, none⟩ = some (.int .u8 (f j : Int))
theorem Bs.keeps {w w1 : World} {b off n : Nat} {f : Nat → Nat} (h : Bs w b off n f) (hb : Below w.heap.size w w1) : Bs w1 b off n f := fun j hj => Go.Proofs.YtnkdclodmeaihaaGreatDoor.keeps hb (h j hj)
/-- A slice at the address a holds the bytes f. -/
def At (w : World) (a : Option Addr) (n : Nat) (f : Nat → Nat) : Prop := (n = 0 ∨ ∃ b off, a = some ⟨b, off, none⟩ ∧ Bs w b off n f) ∧ ∀ j, j < n → f j < 256
theorem At.keeps {w w1 : World} {a : Option Addr} {n : Nat} {f : Nat → Nat} (h : At w a n f) (hb : Below w.heap.size w w1) : At w1 a n f :=
  ⟨h.1.imp id fun ⟨b, off, e, hB⟩ => ⟨b, off, e, hB.keeps hb⟩, h.2⟩
theorem At.less {w : World} {a : Option Addr} {n m : Nat} {f : Nat → Nat} (h : At w a n f) (hm : m ≤ n) : At w a m f := by
  refine ⟨?_, fun j hj => h.2 j (by omega)⟩
  rcases h.1 with h0 | ⟨b, off, e, hB⟩
  · exact .inl (by omega)
  · exact .inr ⟨b, off, e, fun j hj => hB j (by omega)⟩
theorem At.nil (w : World) (a : Option Addr) (f : Nat → Nat) : At w a 0 f := ⟨.inl rfl, fun _ h => by omega⟩

theorem ret_int {k : IntKind} {a b : Int} (h : a = b) : Ending.returned (.int k a) = .returned (.int k b) := by rw [h]
theorem x32 {a b : Nat} (ha : a < 4294967296) (hb : b < 4294967296) : bits .xor .u32 (a : Int) (b : Int) = ((a ^^^ b : Nat) : Int) := u32_xor_nat a b ha hb
theorem st_walk {r : Nat} (hr : r < 4294967296) : bits .xor .u32 ((r : Int) / 2) (3988292384 * bits .and .u32 (r : Int) 1 % 4294967296) = ((st r : Nat) : Int) := by
  have e1 : bits .and .u32 (r : Int) 1 = ((r % 2 : Nat) : Int) := by
    have := u32_and_nat r 1 hr (by decide)
    rw [Nat.and_one_is_mod] at this
    exact this
  have e2 : (3988292384 * ((r % 2 : Nat) : Int) % 4294967296) = ((3988292384 * (r % 2) : Nat) : Int) := by omega
  have e3 : (r : Int) / 2 = ((r / 2 : Nat) : Int) := by omega
  rw [e1, e2, e3, x32 (by omega) (by omega)]
  unfold st
  rcases Nat.mod_two_eq_zero_or_one r with h | h
  · rw [h, if_neg (by decide), Nat.mul_zero, Nat.xor_zero]
  · rw [h, if_pos rfl, Nat.mul_one]
theorem four_walk {r : Nat} (hr : r < 4294967296) : bits .xor .u32 ((r : Int) / 16) ((sts 4 (r % 16) : Nat) : Int) = ((sts 4 r : Nat) : Int) := by
  have e3 : (r : Int) / 16 = ((r / 16 : Nat) : Int) := by omega
  rw [e3, x32 (by omega) (sts_lt 4 (by omega)), four r]
end Go.Proofs.YtnkdclodmeaihaaGreatDoor

namespace Go.Proofs.YtnkdclodmeaihaaGreatDoor
open Go.RowKit

def vals (f : Nat → Nat) (n : Nat) : List Value := (List.range n).map fun j => Value.int .u8 (f j : Int)
theorem vals_length (f : Nat → Nat) (n : Nat) : (vals f n).length = n := by simp [vals]
theorem vals_at (f : Nat → Nat) (n j : Nat) (hj : j < n) : (vals f n)[j]? = some (.int .u8 (f j : Int)) := by simp [vals, hj]
theorem vals_one (f : Nat → Nat) (n : Nat) : ∀ u ∈ vals f n, u.oneCell' = true := by
  intro u hu
  simp only [vals, List.mem_map] at hu
  obtain ⟨j, _, rfl⟩ := hu
  rfl
/-- The bytes f, n of them, and the bytes g behind them. -/
def cat (f : Nat → Nat) (n : Nat) (g : Nat → Nat) : Nat → Nat := fun i => if i < n then f i else g (i - n)
theorem cat_zero (f g : Nat → Nat) : cat f 0 g = g := by
  funext i
  unfold cat
  rw [if_neg (by omega), Nat.sub_zero]
theorem vals_cat (f g : Nat → Nat) (n m : Nat) : vals f n ++ vals g m = vals (cat f n g) (n + m) := by
  apply List.ext_getElem?
  intro j
  by_cases h : j < n
  · rw [List.getElem?_append_left (by rw [vals_length]; exact h), vals_at _ _ _ h, vals_at _ _ _ (by omega)]
    unfold cat
    rw [if_pos h]
  · rw [List.getElem?_append_right (by rw [vals_length]; omega), vals_length]
    by_cases h2 : j < n + m
    · rw [vals_at _ _ _ (by omega), vals_at _ _ _ h2]
      unfold cat
      rw [if_neg h]
    · rw [List.getElem?_eq_none (by rw [vals_length]; omega), List.getElem?_eq_none (by rw [vals_length]; omega)]

theorem info5 : (Tryz.prog.info? 5).map (fun i => (i.zero, i.size, i.bytes)) = some (some (.int .u8 0), 1, 1) := by kernel_rfl

/-- The value v is a slice of the call's own with the bytes f. -/
def Own (w : World) (base : Nat) (v : Value) (n : Nat) (f : Nat → Nat) : Prop := w.ownsRow base 5 1 v n (vals f n)
theorem Own.empty (w : World) (base : Nat) (hb : base ≤ w.heap.size) (f : Nat → Nat) : Own (w.alloc (.cells #[] 5)) base (.slice (some ⟨w.heap.size, 0, none⟩) 0 0) 0 f := by
  have h := World.ownsRow_made (base := base) (e := 5) (size := 1) w #[] 0 hb (by decide) (by simp)
  exact h

/-- A slice that holds bytes and may be written: the block b, from its first cell on. -/
def Wr (w : World) (b n : Nat) (f : Nat → Nat) : Prop := ∀ j, j < n → w.cell? ⟨b, j, none⟩ = some (.int .u8 (f j : Int)) ∧ w.frozen? ⟨b, j, none⟩ = false
theorem Wr.keeps {w w1 : World} {b n : Nat} {f : Nat → Nat} (h : Wr w b n f) (hb : Below w.heap.size w w1) : Wr w1 b n f := by
  intro j hj
  obtain ⟨h1, h2⟩ := h j hj
  exact ⟨Go.Proofs.YtnkdclodmeaihaaGreatDoor.keeps hb h1, by rw [hb.frozen (p := ⟨b, j, none⟩) (block_lt_of_cell h1)]; exact h2⟩
theorem Wr.at {w : World} {b n : Nat} {f : Nat → Nat} (h : Wr w b n f) (hf : ∀ j, j < n → f j < 256) : At w (some ⟨b, 0, none⟩) n f := by
  refine ⟨.inr ⟨b, 0, rfl, fun j hj => ?_⟩, hf⟩
  rw [Nat.zero_add]
  exact (h j hj).1
theorem Wr.set {w : World} {b n j : Nat} {f : Nat → Nat} (h : Wr w b n f) (hj : j < n) (v : Nat) : Wr (w.setCell ⟨b, j, none⟩ (.int .u8 (v : Int))) b n (upd f j v) := by
  intro i hi
  obtain ⟨h1, h2⟩ := h i hi
  refine ⟨?_, by rw [World.frozen?_setCell]; exact h2⟩
  by_cases he : i = j
  · subst he
    rw [upd_at]
    exact World.cell?_setCell_same _ _ _ h1
  · rw [World.cell?_setCell_other _ _ _ _ (fun h => he (congrArg Addr.off h).symm), upd_off _ _ _ he, h1]
theorem Own.out {w : World} {base n : Nat} {v : Value} {f : Nat → Nat} (h : Own w base v n f) : (v = .slice none 0 0 ∧ n = 0) ∨ ∃ g cap, v = .slice (some ⟨g, 0, none⟩) n cap ∧ base ≤ g ∧ g < w.heap.size ∧ n ≤ cap ∧ cap ≤ 9223372036854775807 ∧ Wr w g n f := by
  rcases h.2 with h0 | ⟨g, cap, cur, rfl, hb, hg, hc, hm, hs, ht⟩
  · exact .inl h0
  · refine .inr ⟨g, cap, rfl, hb, (h.lt g rfl).2, hc, by unfold maxLen at hm; omega, fun j hj => ⟨?_, h.frozenAt j⟩⟩
    rw [h.cellAt j (by omega)]
    exact vals_at f n j hj
theorem Own.at {w : World} {base n : Nat} {v : Value} {f : Nat → Nat} (h : Own w base v n f) (hf : ∀ j, j < n → f j < 256) : ∃ a cap, v = .slice a n cap ∧ At w a n f ∧ n ≤ cap ∧ cap ≤ 9223372036854775807 ∧ (a = none → cap = 0) := by
  rcases h.out with ⟨rfl, rfl⟩ | ⟨g, cap, rfl, _, _, hc, hm, hW⟩
  · exact ⟨_, _, rfl, At.nil _ _ _, by omega, by omega, fun _ => rfl⟩
  · exact ⟨_, _, rfl, hW.at hf, hc, hm, fun h => by cases h⟩
theorem cat_lt {f g : Nat → Nat} {n m : Nat} (hf : ∀ j, j < n → f j < 256) (hg : ∀ j, j < m → g j < 256) : ∀ j, j < n + m → cat f n g j < 256 := by
  intro j hj
  unfold cat
  split
  · exact hf _ (by assumption)
  · exact hg _ (by omega)
theorem own_below {w w' : World} {base n : Nat} {v : Value} {f : Nat → Nat} (h : Own w base v n f) (hg : w.grownBy w' v.ownBlock) (hb : base ≤ w.heap.size) : Below base w w' :=
  (Below.refl base w).grown hg hb fun k hk => (h.lt k hk).1

/-- append(x, y...), x of the call's own, y any slice of bytes. -/
theorem wp_app (w : World) {o : Oper} {a : Act} {K : Act → World → Prop} {Q : Exit → Act → World → Prop} (s x : Operand)
    (ho : o.op = .call { callee := .builtin .append, args := #[s, x], argTypes := #[32, 32] })
    (base n : Nat) (v : Value) (f : Nat → Nat) (hs : a.eval s = v) (hown : Own w base v n f) (A : Option Addr) (m c : Nat) (g : Nat → Nat) (hx : a.eval x = .slice A m c) (hA : At w A m g) (hnil : A = none → c = 0)
    (hn : n + m ≤ 140737488351232) (hbase : base ≤ w.heap.size)
    (h : ∀ v' w', Own w' base v' (n + m) (cat f n g) → Below base w w' → K (a.put o.dst v') w') : o.wp Tryz.prog a w K Q := by
  obtain ⟨i, hi, hz0, hz1, hz2⟩ := info_parts info5
  rcases A with _ | ad
  · have hm : m = 0 := by
      rcases hA.1 with h0 | ⟨_, _, h0, _⟩
      · exact h0
      · cases h0
    obtain rfl : c = 0 := hnil rfl
    subst hm
    have hrun := run_append_owned_none (P := Tryz.prog) (w := w) base 32 o.type 5 i 1 Tryz.underlying32 hi v n (vals f n) hown
    unfold Oper.wp
    simp [execOp, ho, resolve, invoke, builtin, hs, hx, hrun, Result.andThen]
    refine h v w ?_ (Below.refl _ _)
    have e := vals_cat f g n 0
    simp only [vals, List.range_zero, List.map_nil, List.append_nil] at e
    unfold Own vals
    rw [Nat.add_zero] at e ⊢
    rw [← e]
    exact hown
  · refine wp_append_own w s x 32 ho base 5 i (.int .u8 0) 1 1 Tryz.underlying32 hi hz0 hz1 hz2 rfl (by decide) v n (vals f n) hs hown ad m c (vals g m) hx (by rw [vals_length]; omega) ?_ (vals_one _ _)
      (by unfold maxLen; omega) (by omega) hbase fun v' w' h1 h2 _ => h v' w' (by unfold Own; rw [← vals_cat]; exact h1) (own_below hown h2 hbase)
    intro j u hu
    have hj : j < m := by
      have := (List.getElem?_eq_some_iff.1 hu).1
      rwa [vals_length] at this
    rw [vals_at _ _ _ hj] at hu
    rcases hA.1 with h0 | ⟨b, off, e, hB⟩
    · omega
    · simp only [Option.some.injEq] at e hu
      subst e hu
      have := hB j hj
      unfold Addr.add
      by_cases h1 : j = 0
      · subst h1; simpa using this
      · simpa [h1] using this
theorem wpList_app (w : World) {ops : Array Oper} {rest : List Oper} {o : Oper} {a : Act} {Q : Exit → Act → World → Prop} (hgd : o.guard = none) (s x : Operand)
    (ho : o.op = .call { callee := .builtin .append, args := #[s, x], argTypes := #[32, 32] })
    (base n : Nat) (v : Value) (f : Nat → Nat) (hs : a.eval s = v) (hown : Own w base v n f) (A : Option Addr) (m c : Nat) (g : Nat → Nat) (hx : a.eval x = .slice A m c) (hA : At w A m g) (hnil : A = none → c = 0)
    (hn : n + m ≤ 140737488351232) (hbase : base ≤ w.heap.size)
    (h : ∀ v' w', Own w' base v' (n + m) (cat f n g) → Below base w w' → wpList Tryz.prog ops Q rest (a.put o.dst v') w') : wpList Tryz.prog ops Q (o :: rest) a w :=
  wpList_plain hgd fun _ hK => wp_app w s x ho base n v f hs hown A m c g hx hA hnil hn hbase fun v' w' h1 h2 => hK _ _ (h v' w' h1 h2)
/-- .. behind a guard that holds. -/
theorem wpList_app_if (w : World) {ops : Array Oper} {rest : List Oper} {o : Oper} {a : Act} {Q : Exit → Act → World → Prop} (hgd : Region.wanted o (yielded ops a.tmps) = true) (s x : Operand)
    (ho : o.op = .call { callee := .builtin .append, args := #[s, x], argTypes := #[32, 32] })
    (base n : Nat) (v : Value) (f : Nat → Nat) (hs : a.eval s = v) (hown : Own w base v n f) (A : Option Addr) (m c : Nat) (g : Nat → Nat) (hx : a.eval x = .slice A m c) (hA : At w A m g) (hnil : A = none → c = 0)
    (hn : n + m ≤ 140737488351232) (hbase : base ≤ w.heap.size)
    (h : ∀ v' w', Own w' base v' (n + m) (cat f n g) → Below base w w' → wpList Tryz.prog ops Q rest (a.put o.dst v') w') : wpList Tryz.prog ops Q (o :: rest) a w := by
  refine wpList_step fun K hK => ?_
  rw [if_pos hgd]
  exact wp_app w s x ho base n v f hs hown A m c g hx hA hnil hn hbase fun v' w' h1 h2 => hK _ _ (h v' w' h1 h2)
end Go.Proofs.YtnkdclodmeaihaaGreatDoor

namespace Go.Proofs.YtnkdclodmeaihaaGreatDoor
open Go.RowKit

def ix (l : List Nat) : Nat → Nat := fun i => l.getD i 0
def lst (f : Nat → Nat) (n : Nat) : List Nat := (List.range n).map f
theorem lst_length (f : Nat → Nat) (n : Nat) : (lst f n).length = n := by simp [lst]
theorem ix_lst (f : Nat → Nat) {n i : Nat} (h : i < n) : ix (lst f n) i = f i := by simp [ix, lst, h]
theorem lst_ix (l : List Nat) : lst (ix l) l.length = l := by
  apply List.ext_getElem
  · rw [lst_length]
  · intro i h1 h2
    simp [lst, ix, h2]
def By (l : List Nat) : Prop := ∀ x ∈ l, x < 256
theorem By.nil : By [] := fun _ h => by cases h
theorem By.append {l r : List Nat} (h : By l) (k : By r) : By (l ++ r) := fun x hx => (List.mem_append.1 hx).elim (h x) (k x)
theorem By.left {l r : List Nat} (h : By (l ++ r)) : By l := fun x hx => h x (List.mem_append_left _ hx)
theorem By.right {l r : List Nat} (h : By (l ++ r)) : By r := fun x hx => h x (List.mem_append_right _ hx)
theorem By.drop {l : List Nat} (h : By l) (n : Nat) : By (l.drop n) := fun x hx => h x (List.mem_of_mem_drop hx)
theorem By.take {l : List Nat} (h : By l) (n : Nat) : By (l.take n) := fun x hx => h x (List.mem_of_mem_take hx)
theorem By.ix {l : List Nat} (h : By l) : ∀ j, j < l.length → Go.Proofs.YtnkdclodmeaihaaGreatDoor.ix l j < 256 := by
  intro j hj
  have : Go.Proofs.YtnkdclodmeaihaaGreatDoor.ix l j = l[j] := by simp [Go.Proofs.YtnkdclodmeaihaaGreatDoor.ix, hj]
  rw [this]
  exact h _ (List.getElem_mem hj)
theorem by_en (n : Nat) : By (en n) := en_lt n
theorem by_lst {f : Nat → Nat} {n : Nat} (h : ∀ j, j < n → f j < 256) : By (lst f n) := by
  intro x hx
  simp only [lst, List.mem_map, List.mem_range] at hx
  obtain ⟨j, hj, rfl⟩ := hx
  exact h j hj

def Vs (l : List Nat) : List Value := l.map fun x : Nat => Value.int .u8 (x : Int)
theorem Vs_length (l : List Nat) : (Vs l).length = l.length := by simp [Vs]
theorem Vs_append (l r : List Nat) : Vs (l ++ r) = Vs l ++ Vs r := by simp [Vs]
theorem Vs_one (l : List Nat) : ∀ u ∈ Vs l, u.oneCell' = true := by
  intro u hu
  simp only [Vs, List.mem_map] at hu
  obtain ⟨j, _, rfl⟩ := hu
  rfl
theorem Vs_at (l : List Nat) {j : Nat} (hj : j < l.length) : (Vs l)[j]? = some (.int .u8 (ix l j : Int)) := by simp [Vs, ix, hj]

/-- A slice at the address a holds the bytes l. -/
def AtL (w : World) (a : Option Addr) (l : List Nat) : Prop := At w a l.length (ix l)
theorem At.list {w : World} {a : Option Addr} {n : Nat} {f : Nat → Nat} (h : At w a n f) : AtL w a (lst f n) := by
  unfold AtL
  rw [lst_length]
  refine ⟨?_, fun j hj => by rw [ix_lst f hj]; exact h.2 j hj⟩
  rcases h.1 with h0 | ⟨b, off, e, hB⟩
  · exact .inl h0
  · exact .inr ⟨b, off, e, fun j hj => by rw [ix_lst f hj]; exact hB j hj⟩
theorem AtL.by {w : World} {a : Option Addr} {l : List Nat} (h : AtL w a l) : By l := by
  intro x hx
  obtain ⟨j, hj, rfl⟩ := List.mem_iff_getElem.1 hx
  have := h.2 j hj
  simpa [ix, hj] using this
theorem AtL.keeps {w w1 : World} {a : Option Addr} {l : List Nat} (h : AtL w a l) (hb : Below w.heap.size w w1) : AtL w1 a l := At.keeps h hb
theorem AtL.nil (w : World) (a : Option Addr) : AtL w a [] := At.nil _ _ _
/-- .. and its cells, as a law of append asks for them. -/
theorem AtL.news {w : World} {ad : Addr} {l : List Nat} (h : AtL w (some ad) l) : ∀ j u, (Vs l)[j]? = some u → w.cell? (ad.add j) = some u := by
  intro j u hu
  have hj : j < l.length := by
    have := (List.getElem?_eq_some_iff.1 hu).1
    rwa [Vs_length] at this
  rw [Vs_at _ hj] at hu
  rcases h.1 with h0 | ⟨b, off, e, hB⟩
  · omega
  · simp only [Option.some.injEq] at e hu
    subst e hu
    have := hB j hj
    unfold Addr.add
    by_cases h1 : j = 0
    · subst h1; simpa using this
    · simpa [h1] using this
theorem AtL.cut {w : World} {b off : Nat} {l : List Nat} (h : AtL w (some ⟨b, off, none⟩) l) (k m : Nat) : AtL w (some ⟨b, off + k, none⟩) ((l.drop k).take m) := by
  have hby := h.by
  refine ⟨?_, (By.take (By.drop hby k) m).ix⟩
  by_cases h0 : ((l.drop k).take m).length = 0
  · exact .inl h0
  · have hlen : ((l.drop k).take m).length = min m (l.length - k) := by simp
    rcases h.1 with h1 | ⟨b', off', e, hB⟩
    · omega
    · simp only [Option.some.injEq, Addr.mk.injEq, and_true] at e
      obtain ⟨rfl, rfl⟩ := e
      refine .inr ⟨b, off + k, rfl, fun j hj => ?_⟩
      have := hB (k + j) (by omega)
      rw [Nat.add_assoc, this]
      congr 3
      unfold ix
      rw [List.getD_eq_getElem?_getD, List.getD_eq_getElem?_getD, List.getElem?_take, if_pos (by omega), List.getElem?_drop]

/-- What is told of a slice of bytes that came in. -/
structure Li (w : World) (a : Option Addr) (n cap : Nat) (l : List Nat) : Prop where
  hat : AtL w a l
  hn : l.length = n
  hcap : n ≤ cap
  hmax : cap ≤ 9223372036854775807
  hlim : n ≤ 281474976710656
  hno : a = none → cap = 0
theorem Li.keeps {w w1 : World} {a : Option Addr} {n cap : Nat} {l : List Nat} (h : Li w a n cap l) (hb : Below w.heap.size w w1) : Li w1 a n cap l := { h with hat := h.hat.keeps hb }

/-- The block g, from its first cell on, is of the call's own, holds l, k bytes, and has room for c. -/
def Ow (w : World) (g k c : Nat) (l : List Nat) : Prop := w.ownsRow g 5 1 (.slice (some ⟨g, 0, none⟩) k c) k (Vs l) ∧ By l
theorem Ow.len {w : World} {g k c : Nat} {l : List Nat} (h : Ow w g k c l) : l.length = k := by
  have := h.1.1
  rw [Vs_length] at this
  omega
theorem Ow.lt {w : World} {g k c : Nat} {l : List Nat} (h : Ow w g k c l) : g < w.heap.size := (World.ownsRow.lt h.1 g rfl).2
theorem Ow.cap {w : World} {g k c : Nat} {l : List Nat} (h : Ow w g k c l) : k ≤ c ∧ c ≤ 9223372036854775807 := by
  rcases h.1.2 with ⟨h0, _⟩ | ⟨g', cap, cur, e, _, _, h1, h2, _, _⟩
  · cases h0
  · simp only [Value.slice.injEq] at e
    obtain ⟨_, _, rfl⟩ := e
    unfold maxLen at h2
    omega
theorem Ow.cell {w : World} {g k c : Nat} {l : List Nat} (h : Ow w g k c l) {j : Nat} (hj : j < k) : w.cell? ⟨g, j, none⟩ = some (.int .u8 (ix l j : Int)) ∧ w.frozen? ⟨g, j, none⟩ = false := by
  have hl := h.len
  exact ⟨by rw [h.1.cellAt j (by omega)]; exact Vs_at l (by omega), h.1.frozenAt j⟩
theorem Ow.at {w : World} {g k c : Nat} {l : List Nat} (h : Ow w g k c l) : AtL w (some ⟨g, 0, none⟩) l := by
  refine ⟨.inr ⟨g, 0, rfl, fun j hj => ?_⟩, h.2.ix⟩
  rw [Nat.zero_add]
  exact (h.cell (by rw [← h.len]; exact hj)).1
theorem Ow.li {w : World} {g k c : Nat} {l : List Nat} (h : Ow w g k c l) (hk : k ≤ 281474976710656) : Li w (some ⟨g, 0, none⟩) k c l := ⟨h.at, h.len, h.cap.1, h.cap.2, hk, fun h => by cases h⟩
theorem Ow.keeps {w w1 : World} {g k c : Nat} {l : List Nat} (h : Ow w g k c l) {B : Nat} (hb : Below B w w1) (hg : g < B) : Ow w1 g k c l := by
  obtain ⟨⟨h1, h2⟩, h3⟩ := h
  refine ⟨⟨h1, ?_⟩, h3⟩
  rcases h2 with h0 | ⟨g', cap, cur, e, hbg, hh, r⟩
  · exact .inl h0
  · refine .inr ⟨g', cap, cur, e, hbg, ?_, r⟩
    simp only [Value.slice.injEq, Option.some.injEq, Addr.mk.injEq] at e
    obtain ⟨⟨rfl, _⟩, _⟩ := e
    rw [hb.block _ hg]
    exact hh
theorem Ow.next {w w1 : World} {g k c : Nat} {l : List Nat} (h : Ow w g k c l) (hb : Below w.heap.size w w1) : Ow w1 g k c l := h.keeps hb h.lt

/-- make([]byte, 0, c). -/
theorem wpList_mk (w : World) {ops : Array Oper} {rest : List Oper} {o : Oper} {a : Act} {Q : Exit → Act → World → Prop}
    (hg : o.guard = none) (x y : Operand) (hop : o.op = Op.makeSlice 32 x y) (C : Int) (c : Nat) (hl : a.eval x = .int .i64 0) (hc : a.eval y = .int .i64 C) (hC : C = (c : Int)) (hcap : c ≤ 281474976710656)
    (hK : ∀ w', Ow w' w.heap.size 0 c [] → Below w.heap.size w w' → wpList Tryz.prog ops Q rest (a.put o.dst (.slice (some ⟨w.heap.size, 0, none⟩) 0 c)) w') :
    wpList Tryz.prog ops Q (o :: rest) a w := by
  obtain ⟨i0, hi, hz0, hz1, hz2⟩ := info_parts info5
  refine wpList_make_own w hg x y 32 hop w.heap.size 5 i0 (.int .u8 0) 1 Tryz.underlying32 hi hz0 hz1 .i64 .i64 C c hl hc hC (by rw [hz2]; omega) (by unfold maxLen; omega) (Nat.le_refl _) fun w' hown hgr => hK w' ⟨hown, By.nil⟩ ?_
  exact (Below.refl w.heap.size w).grown hgr (Nat.le_refl _) (fun k hk => by cases hk)
/-- append(s, x...) where there is room. -/
theorem wpList_fit (w : World) {ops : Array Oper} {rest : List Oper} {o : Oper} {a : Act} {Q : Exit → Act → World → Prop} (hgd : o.guard = none) (s x : Operand)
    (ho : o.op = .call { callee := .builtin .append, args := #[s, x], argTypes := #[32, 32] })
    (g k c : Nat) (l : List Nat) (hs : a.eval s = .slice (some ⟨g, 0, none⟩) k c) (hown : Ow w g k c l) (A : Option Addr) (m d : Nat) (r : List Nat) (hx : a.eval x = .slice A m d) (hA : AtL w A r) (hr : r.length = m) (hnil : A = none → d = 0 ∧ m = 0)
    (hn : k + m ≤ c)
    (h : ∀ w', Ow w' g (k + m) c (l ++ r) → Below g w w' → wpList Tryz.prog ops Q rest (a.put o.dst (.slice (some ⟨g, 0, none⟩) (k + m) c)) w') : wpList Tryz.prog ops Q (o :: rest) a w := by
  obtain ⟨i, hi, hz0, hz1, hz2⟩ := info_parts info5
  refine wpList_append_fits_any w hgd s x 32 ho g 5 i 1 Tryz.underlying32 hi hz1 g k c (Vs l) hs hown.1 A m d (Vs r) hx (by rw [Vs_length]; omega) (fun e => ⟨(hnil e).2, (hnil e).1⟩) ?_ (Vs_one _) hn ?_
  · intro ad e
    subst e
    exact hA.news
  · intro w' h1 h2
    rw [← Vs_append] at h1
    exact h w' ⟨h1, hown.2.append hA.by⟩ ((Below.refl g w).grown h2 (Nat.le_of_lt hown.lt) (fun q hq => by cases hq; exact Nat.le_refl _))

/-! Strings. -/
/-- The bytes of a string. -/
def sl (s : ByteArray) : List Nat := s.data.toList.map UInt8.toNat
theorem sl_length (s : ByteArray) : (sl s).length = s.size := by
  rw [sl, List.length_map, Array.length_toList]
  rfl
theorem by_sl (s : ByteArray) : By (sl s) := by
  intro x hx
  simp only [sl, List.mem_map] at hx
  obtain ⟨b, _, rfl⟩ := hx
  exact b.toNat_lt
theorem Vs_sl (s : ByteArray) : Vs (sl s) = Lib.strCells s := by
  unfold Vs sl Lib.strCells
  rw [List.map_map]
  rfl
/-- The string of bytes. -/
def st_of (l : List Nat) : ByteArray := ⟨(l.map UInt8.ofNat).toArray⟩
theorem st_of_sl (s : ByteArray) : st_of (sl s) = s := by
  unfold st_of sl
  have e : (UInt8.ofNat ∘ UInt8.toNat) = id := by funext b; simp
  rw [List.map_map, e, List.map_id]
theorem sl_st_of {l : List Nat} (h : By l) : sl (st_of l) = l := by
  unfold st_of sl
  simp only [List.map_map]
  conv => rhs; rw [← List.map_id l]
  apply List.map_congr_left
  intro x hx
  have := h x hx
  simp [Nat.mod_eq_of_lt this]
theorem st_of_inj {l r : List Nat} (hl : By l) (hr : By r) (h : st_of l = st_of r) : l = r := by rw [← sl_st_of hl, ← sl_st_of hr, h]
theorem st_of_size (l : List Nat) : (st_of l).size = l.length := by simp [st_of, ByteArray.size]
theorem wpList_fit_s (w : World) {ops : Array Oper} {rest : List Oper} {o : Oper} {a : Act} {Q : Exit → Act → World → Prop} (hgd : o.guard = none) (s x : Operand)
    (ho : o.op = .call { callee := .builtin .append, args := #[s, x], argTypes := #[32, 9] })
    (g k c : Nat) (l : List Nat) (hs : a.eval s = .slice (some ⟨g, 0, none⟩) k c) (hown : Ow w g k c l) (r : ByteArray) (hx : a.eval x = .string r) (h1 : 0 < c) (hn : k + r.size ≤ c)
    (h : ∀ w', Ow w' g (k + r.size) c (l ++ sl r) → Below g w w' → wpList Tryz.prog ops Q rest (a.put o.dst (.slice (some ⟨g, 0, none⟩) (k + r.size) c)) w') : wpList Tryz.prog ops Q (o :: rest) a w := by
  obtain ⟨i, hi, hz0, hz1, hz2⟩ := info_parts info5
  refine Lib.wpList_append_fits_string w hgd s x 32 9 ho g 5 i Tryz.underlying32 Tryz.underlying9 hi hz1 (some ⟨g, 0, none⟩) k c (Vs l) hs hown.1 r hx h1 hn ?_
  intro w' h1 h2
  rw [← Vs_sl, ← Vs_append] at h1
  exact h w' ⟨h1, hown.2.append (by_sl r)⟩ ((Below.refl g w).grown h2 (Nat.le_of_lt hown.lt) (fun q hq => by cases hq; exact Nat.le_refl _))
/-- string(b). -/
theorem run_str {w : World} {a : Option Addr} {l : List Nat} (h : AtL w a l) (n c : Nat) (hn : l.length = n) : (convert 32 9 (.slice a n c)).run Tryz.prog w = .ok (.string (st_of l)) w := by
  subst hn
  rcases h.1 with h0 | ⟨b, off, rfl, hB⟩
  · obtain rfl : l = [] := List.eq_nil_of_length_eq_zero h0
    rw [run_convert_bytes_string w 32 9 5 a _ c Tryz.underlying32 Tryz.underlying5 Tryz.underlying9]
    show (Conv.bytesToString (.slice a 0 c)).run Tryz.prog w = _
    cases a <;> simp [Conv.bytesToString, loadCells, st_of]
    all_goals rfl
  · rw [run_convert_bytes_arg w 32 5 Tryz.underlying32 Tryz.underlying5 b off l.length c (l.map fun x : Nat => (x : Int)) (by simp) ?_ _ Tryz.underlying9]
    · congr 2
      unfold strOfNums st_of
      simp
    · intro i hi
      rw [hB i hi]
      simp [ix, hi]
end Go.Proofs.YtnkdclodmeaihaaGreatDoor

namespace Go.Proofs.YtnkdclodmeaihaaGreatDoor
open Go.RowKit

theorem one_new (w : World) (y : Int) (x : Nat) (hy : y = (x : Int)) (hx : x < 256) : AtL (w.alloc (.cells #[.int .u8 y] 5)) (some ⟨w.heap.size, 0, none⟩) [x] := by
  subst hy
  refine ⟨.inr ⟨_, _, rfl, fun j hj => ?_⟩, By.ix (l := [x]) fun y hy => by rw [List.mem_singleton] at hy; omega⟩
  obtain rfl : j = 0 := by simpa using hj
  simp [go_sem, ix]

theorem extensible_any (a : Option Addr) (n cap k : Nat) (l : List Nat) (w : World) (hA : Li w a n cap l) (hk : n + k ≤ 281474976710656) (K : Int) (hK : K = (k : Nat)) :
    Calls Tryz.prog 33 #[.slice a n cap, .int .i64 K] w fun e w' => e = .returned (.slice (some ⟨w.heap.size, 0, none⟩) n (n + k)) ∧ Ow w' w.heap.size n (n + k) l ∧ Below w.heap.size w w' := by
  subst hK
  obtain ⟨h1, h2, h3, h4, h5, h6⟩ := hA
  have H2 := Lib.hid h2
  have H6 := Lib.hid h6
  clear h2 h6
  go_enter Tryz.func33, Tryz.ntmps33
  go_wp2_with (first | (at_make; refine wpList_mk _ rfl (.const (.int .i64 0)) (.tmp 8) rfl _ (n + k) rfl rfl (by omega) hk ?_; intro w1 O1 b1; replace h1 := h1.keeps b1) | (at_builtin; refine wpList_fit _ rfl (.tmp 9) (.tmp 10) rfl w.heap.size 0 (n + k) [] rfl O1 a n cap l rfl h1 H2.out (fun e => ⟨H6.out e, by have := H6.out e; omega⟩) (by omega) ?_; intro w2 O2 b2; rw [Nat.zero_add, List.nil_append] at O2))
  go_ret
  exact ⟨rfl, O2, b1.trans b2⟩

set_option maxRecDepth 20000 in
theorem digits_any (g k c : Nat) (l : List Nat) (v : Nat) (w : World) (hO : Ow w g k c l) (hv : v < 18446744073709551616) (hroom : k + (en v).length ≤ c) :
    Calls Tryz.prog 34 #[.slice (some ⟨g, 0, none⟩) k c, .int .u64 (v : Nat)] w fun e w' => e = .returned (.slice (some ⟨g, 0, none⟩) (k + (en v).length) c) ∧ Ow w' g (k + (en v).length) c (l ++ en v) ∧ Below g w w' := by
  have HV := Lib.hid hv
  clear hv
  go_enter Tryz.func34, Tryz.ntmps34
  go_wp2_with fail
  go_loopw [0, 1] (fun s x wr => ∃ (j u : Nat) (p : List Nat), s = .slice (some ⟨g, 0, none⟩) (k + j) c ∧ x = .int .u64 u ∧ p.length = j ∧ p ++ en u = en v ∧ u < 18446744073709551616 ∧ Ow wr g (k + j) c (l ++ p) ∧ Below g w wr) (fun _ x _ => (intOf x).toNat)
  case atStart => exact ⟨0, v, [], rfl, rfl, rfl, rfl, HV.out, by rw [List.append_nil]; exact hO, Below.refl _ _⟩
  case round =>
    obtain ⟨j, u, p, rfl, rfl, hp, hen, hu, O, hb⟩ := hrel
    have hlen : (en v).length = j + (en u).length := by rw [← hen, List.length_append, hp]
    have he := Lib.hid hen
    have hl := Lib.hid hlen
    have hpp := Lib.hid hp
    have HU := Lib.hid hu
    clear hp hu
    by_cases h : u < 128
    · have e1 : en u = [u] := en_small h
      rw [e1] at he hl
      have hl2 := hl.out
      rw [List.length_singleton] at hl2
      clear hen hlen e1
      have hr2 : k + j + 1 ≤ c := by omega
      have hl3 := Lib.hid hl2
      clear hl2 hl hroom
      have hB : decide ((128 : Int) ≤ u) = false := decide_eq_false (by omega)
      go_wp2_with (at_builtin; refine wpList_fit _ rfl (.tmp 16) (.tmp 19) rfl g (k + j) c (l ++ p) rfl (O.next (balloc (b0 _) _)) (some ⟨wr.heap.size, 0, none⟩) 1 1 [u] rfl (one_new wr _ u (by omega) (by omega)) rfl (fun e => by cases e) hr2 ?_; intro w2 O2 b2)
      go_ret
      rw [List.append_assoc, he.out] at O2
      rw [hl3.out, ← Nat.add_assoc]
      exact ⟨rfl, O2, (hb.trans ((balloc (b0 _) _).mono (Nat.le_of_lt O.lt))).trans b2⟩
    · have hd := en_big h
      rw [hd] at he hl
      clear hen hlen hd
      have hr2 : k + j + 1 ≤ c := by have := hl.out; rw [List.length_cons] at this; omega
      have hB : decide ((128 : Int) ≤ u) = true := decide_eq_true (by omega)
      have hq : IntKind.u64.wrap ((u : Int) / 128) = ((u / 128 : Nat) : Int) := by
        have := HU.out
        rw [IntWalk.u64_in] <;> omega
      clear hroom
      go_wp2_with (at_builtin; refine wpList_fit _ rfl (.tmp 9) (.tmp 14) rfl g (k + j) c (l ++ p) rfl (O.next (balloc (b0 _) _)) (some ⟨wr.heap.size, 0, none⟩) 1 1 [u % 128 + 128] rfl (one_new wr _ _ (by omega) (by omega)) rfl (fun e => by cases e) hr2 ?_; intro w2 O2 b2)
      refine ⟨⟨j + 1, u / 128, p ++ [u % 128 + 128], rfl, by simp, by simp [hpp.out], by rw [List.append_assoc]; exact he.out, by have := HU.out; omega, by rw [← List.append_assoc]; exact O2, (hb.trans ((balloc (b0 _) _).mono (Nat.le_of_lt O.lt))).trans b2⟩, ?_⟩
      simp only [intOf]
      omega

theorem appendUint_any (a : Option Addr) (n cap v : Nat) (l : List Nat) (w : World) (hA : Li w a n cap l) (hn : n ≤ 281474976710646) (hv : v < 18446744073709551616) (N : Nat) (hN : n + (en v).length = N) :
    Calls Tryz.prog 88 #[.slice a n cap, .int .u64 (v : Nat)] w fun e w' => e = .returned (.slice (some ⟨w.heap.size, 0, none⟩) N (n + 10)) ∧ Ow w' w.heap.size N (n + 10) (l ++ en v) ∧ Below w.heap.size w w' := by
  have h10 := en_ten hv
  have c1 := extensible_any a n cap 10 l w hA (by omega) 10 rfl
  have HV := Lib.hid hv
  clear hv hA
  go_enter Tryz.func88, Tryz.ntmps88
  go_wp2_with fail
  refine c1.mono ?_
  rintro e w1 ⟨rfl, O, b1⟩
  go_wp2_with fail
  refine (digits_any w.heap.size n (n + 10) l v w1 O HV.out (by omega)).mono ?_
  rintro e w2 ⟨rfl, O2, b2⟩
  go_wp2_with fail
  go_ret
  rw [hN] at O2
  exact ⟨rfl, O2, b1.trans b2⟩

theorem folded_any (z : Int) (w : World) (h1 : -9223372036854775808 ≤ z) (h2 : z ≤ 9223372036854775807) (v : Nat) (hv : fold z = v) :
    Calls Tryz.prog 89 #[.int .i64 z] w fun e w' => e = .returned (.int .u64 (v : Nat)) ∧ w = w' := by
  subst hv
  go_enter Tryz.func89, Tryz.ntmps89
  by_cases hz : z < 0
  · go_wp2_with fail
    go_ret
    refine ⟨ret_int ?_, rfl⟩
    unfold fold
    rw [if_pos hz]
    omega
  · go_wp2_with fail
    go_ret
    refine ⟨ret_int ?_, rfl⟩
    unfold fold
    rw [if_neg (by omega)]
    omega
theorem appendInt_any (a : Option Addr) (n cap : Nat) (z : Int) (l : List Nat) (w : World) (hA : Li w a n cap l) (hn : n ≤ 281474976710646) (h1 : -9223372036854775808 ≤ z) (h2 : z ≤ 9223372036854775807) (N : Nat) (hN : n + (en (fold z)).length = N) :
    Calls Tryz.prog 60 #[.slice a n cap, .int .i64 z] w fun e w' => e = .returned (.slice (some ⟨w.heap.size, 0, none⟩) N (n + 10)) ∧ Ow w' w.heap.size N (n + 10) (l ++ en (fold z)) ∧ Below w.heap.size w w' := by
  have c1 := folded_any z w h1 h2 _ rfl
  have c2 := appendUint_any a n cap (fold z) l w hA hn (fold_lt h1 h2) N hN
  clear hA h1 h2 hN
  generalize fold z = v at *
  go_enter Tryz.func60, Tryz.ntmps60
  go_wp2_with fail
  refine c1.mono ?_
  rintro e w1 ⟨rfl, rfl⟩
  go_wp2_with fail
  refine c2.mono ?_
  rintro e w1 ⟨rfl, O, b1⟩
  go_wp2_with fail
  go_ret
  exact ⟨rfl, O, b1⟩

theorem appendText_any (a : Option Addr) (n cap : Nat) (s : ByteArray) (l : List Nat) (w : World) (hA : Li w a n cap l) (hs : s.size ≤ 140737488351232) (hn : n + (s.size + 10) ≤ 281474976710656) (N : Nat) (hN : n + (en s.size).length + s.size = N) :
    Calls Tryz.prog 61 #[.slice a n cap, .string s] w fun e w' => e = .returned (.slice (some ⟨w.heap.size, 0, none⟩) N (n + (s.size + 10))) ∧ Ow w' w.heap.size N (n + (s.size + 10)) (l ++ (en s.size ++ sl s)) ∧ Below w.heap.size w w' := by
  have h10 := en_ten (n := s.size) (by omega)
  have c1 := extensible_any a n cap (s.size + 10) l w hA hn (10 + s.size) (by omega)
  clear hA
  have HN := Lib.hid hN
  clear hN
  go_enter Tryz.func61, Tryz.ntmps61
  go_wp2_with fail
  refine c1.mono ?_
  rintro e w1 ⟨rfl, O, b1⟩
  go_wp2_with fail
  refine (digits_any w.heap.size n (n + (s.size + 10)) l s.size w1 O (by omega) (by omega)).mono ?_
  rintro e w2 ⟨rfl, O2, b2⟩
  go_wp2_with (at_builtin; refine wpList_fit_s _ rfl (.tmp 15) (.tmp 16) rfl w.heap.size (n + (en s.size).length) (n + (s.size + 10)) (l ++ en s.size) rfl O2 s rfl (by omega) (by omega) ?_; intro w3 O3 b3)
  go_ret
  rw [HN.out, List.append_assoc] at O3
  exact ⟨by rw [← HN.out]; rfl, O3, (b1.trans b2).trans b3⟩

theorem unfolded_any (v : Nat) (w : World) (hv : v < 18446744073709551616) (z : Int) (hz : unfd v = z) :
    Calls Tryz.prog 93 #[.int .u64 (v : Nat)] w fun e w' => e = .returned (.int .i64 z) ∧ w = w' := by
  subst hz
  have hq : (v / 2 : Nat) ≤ 9223372036854775807 := by omega
  have HV := Lib.hid hv
  clear hv
  by_cases hz : v % 2 = 1
  · have hz' : ((v : Int) % 2 == 1) = true := by simp; omega
    go_enter Tryz.func93, Tryz.ntmps93
    go_wp2_with fail
    go_ret
    refine ⟨ret_int ?_, rfl⟩
    unfold unfd
    rw [if_pos (by omega)]
    omega
  · have hz' : ((v : Int) % 2 == 1) = false := by simp; omega
    go_enter Tryz.func93, Tryz.ntmps93
    go_wp2_with fail
    go_ret
    refine ⟨ret_int ?_, rfl⟩
    unfold unfd
    rw [if_neg (by omega)]
    omega
end Go.Proofs.YtnkdclodmeaihaaGreatDoor
