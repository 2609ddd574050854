/-
  Plain arithmetic of the checksum: the register, its steps, and what changed bits do to it.
-/
import Derived.WalkKit
namespace Go.Proofs.Ytegniedbiegcpaa

/-- One step of the register. -/
def st (r : Nat) : Nat := if r % 2 = 1 then r / 2 ^^^ 3988292384 else r / 2
/-- So many steps. -/
def sts : Nat → Nat → Nat
  | 0, r => r
  | k + 1, r => sts k (st r)

theorem xor_eq_zero {a b : Nat} (h : a ^^^ b = 0) : a = b := by
  have h1 := congrArg (· ^^^ b) h
  simpa [Nat.xor_assoc] using h1
theorem xor_half (a b : Nat) : (a ^^^ b) / 2 = a / 2 ^^^ b / 2 := by
  apply Nat.eq_of_testBit_eq
  intro i
  rw [Nat.testBit_xor, ← Nat.testBit_succ, ← Nat.testBit_succ, ← Nat.testBit_succ, Nat.testBit_xor]
theorem xor_odd (a b : Nat) : (a ^^^ b) % 2 = (a % 2 + b % 2) % 2 := by
  have h : (a ^^^ b).testBit 0 = (a.testBit 0 ^^ b.testBit 0) := Nat.testBit_xor ..
  rw [Nat.testBit_zero, Nat.testBit_zero, Nat.testBit_zero] at h
  have ha := Nat.mod_two_eq_zero_or_one a
  have hb := Nat.mod_two_eq_zero_or_one b
  have hc := Nat.mod_two_eq_zero_or_one (a ^^^ b)
  rcases ha with ha | ha <;> rcases hb with hb | hb <;> rcases hc with hc | hc <;> simp [ha, hb, hc] at h ⊢
theorem st_xor (a b : Nat) : st (a ^^^ b) = st a ^^^ st b := by
  unfold st
  rw [xor_odd, xor_half]
  rcases Nat.mod_two_eq_zero_or_one a with ha | ha <;> rcases Nat.mod_two_eq_zero_or_one b with hb | hb <;> simp [ha, hb]
  · rw [Nat.xor_assoc]
  · rw [Nat.xor_assoc, Nat.xor_comm (b / 2), ← Nat.xor_assoc]
  · rw [Nat.xor_assoc, Nat.xor_comm 3988292384, Nat.xor_assoc, Nat.xor_self, Nat.xor_zero]
theorem sts_xor (k : Nat) : ∀ a b, sts k (a ^^^ b) = sts k a ^^^ sts k b := by
  induction k with
  | zero => intro a b; rfl
  | succ k ih => intro a b; show sts k (st (a ^^^ b)) = _; rw [st_xor, ih]; rfl
theorem sts_add (k : Nat) : ∀ m r, sts (k + m) r = sts m (sts k r) := by
  induction k with
  | zero => intro m r; rw [Nat.zero_add]; rfl
  | succ k ih => intro m r; rw [Nat.succ_add]; exact ih m (st r)
theorem sts_last (k r : Nat) : sts (k + 1) r = st (sts k r) := sts_add k 1 r
theorem xor32 {a b : Nat} (ha : a < 4294967296) (hb : b < 4294967296) : a ^^^ b < 4294967296 := Nat.xor_lt_two_pow (n := 32) ha hb
theorem st_lt {r : Nat} (h : r < 4294967296) : st r < 4294967296 := by
  unfold st
  split
  · exact xor32 (by omega) (by decide)
  · omega
theorem sts_lt (k : Nat) : ∀ {r : Nat}, r < 4294967296 → sts k r < 4294967296 := by
  induction k with
  | zero => intro r h; exact h
  | succ k ih => intro r h; exact ih (st_lt h)
/-- A step leads to zero from zero alone. -/
theorem st_zero {r : Nat} (h : r < 4294967296) (hz : st r = 0) : r = 0 := by
  unfold st at hz
  split at hz
  · have h1 : r / 2 = 3988292384 := xor_eq_zero hz
    omega
  · omega
theorem sts_zero (k : Nat) : ∀ {r : Nat}, r < 4294967296 → sts k r = 0 → r = 0 := by
  induction k with
  | zero => intro r _ h; exact h
  | succ k ih => intro r h hz; exact st_zero h (ih (st_lt h) hz)
theorem sts_of_zero (k : Nat) : sts k 0 = 0 := by
  induction k with
  | zero => rfl
  | succ k ih => exact ih
theorem st_twice (r : Nat) : st (2 * r) = r := by unfold st; split <;> omega
theorem sts_pow (k : Nat) : ∀ m, sts (k + m) (2 ^ k) = sts m 1 := by
  induction k with
  | zero => intro m; rw [Nat.zero_add, Nat.pow_zero]
  | succ k ih =>
    intro m
    rw [Nat.succ_add, Nat.pow_succ, Nat.mul_comm]
    show sts (k + m) (st (2 * 2 ^ k)) = _
    rw [st_twice, ih]
theorem sts_pow' {M k : Nat} (h : k ≤ M) : sts M (2 ^ k) = sts (M - k) 1 := by
  have e : M = k + (M - k) := by omega
  rw [e, sts_pow, Nat.add_sub_cancel_left]

/-- Four steps by the table: what the upper bits become, and what the lowest four. -/
theorem four (r : Nat) : sts 4 r = r / 16 ^^^ sts 4 (r % 16) := by
  have e : r = (16 * (r / 16)) ^^^ (r % 16) := by
    have h : 16 * (r / 16) + r % 16 = r := by omega
    have h2 := Nat.two_pow_add_eq_or_of_lt (i := 4) (b := r % 16) (by omega) (r / 16)
    apply Nat.eq_of_testBit_eq
    intro i
    rw [Nat.testBit_xor]
    have h3 := Nat.testBit_two_pow_mul_add (r / 16) (b := r % 16) (i := 4) (by omega) i
    have h4 := Nat.testBit_two_pow_mul_add (r / 16) (b := 0) (i := 4) (by omega) i
    have e1 : 2 ^ 4 * (r / 16) + r % 16 = r := by omega
    have e2 : 2 ^ 4 * (r / 16) + 0 = 16 * (r / 16) := by omega
    rw [e1] at h3
    rw [e2] at h4
    rw [h3, h4]
    by_cases hi : i < 4
    · simp [hi]
    · have : (r % 16).testBit i = false := Nat.testBit_lt_two_pow (Nat.lt_of_lt_of_le (show r % 16 < 2 ^ 4 by omega) (Nat.pow_le_pow_right (by omega) (by omega)))
      simp [hi, this]
  have e4 : sts 4 (16 * (r / 16)) = r / 16 := by
    have : 16 * (r / 16) = 2 * (2 * (2 * (2 * (r / 16)))) := by omega
    rw [this]
    show st (st (st (st _))) = _
    rw [st_twice, st_twice, st_twice, st_twice]
  calc sts 4 r = sts 4 ((16 * (r / 16)) ^^^ (r % 16)) := by rw [← e]
    _ = _ := by rw [sts_xor, e4]
theorem eight (r : Nat) : sts 8 r = (sts 4 r) / 16 ^^^ sts 4 ((sts 4 r) % 16) := by rw [← four]; exact sts_add 4 4 r

/-- The register after n bytes of f, from r on. -/
def reg (f : Nat → Nat) (r : Nat) : Nat → Nat
  | 0 => r
  | n + 1 => sts 8 (reg f r n ^^^ f n)
theorem reg_succ (f : Nat → Nat) (r n : Nat) : reg f r (n + 1) = sts 8 (reg f r n ^^^ f n) := rfl
theorem reg_lt {f : Nat → Nat} {r : Nat} (n : Nat) (hr : r < 4294967296) (hf : ∀ i, i < n → f i < 256) : reg f r n < 4294967296 := by
  induction n with
  | zero => exact hr
  | succ n ih => exact sts_lt 8 (xor32 (ih fun i hi => hf i (by omega)) (by have := hf n (by omega); omega))
theorem reg_congr {f g : Nat → Nat} {r : Nat} (n : Nat) (h : ∀ i, i < n → f i = g i) : reg f r n = reg g r n := by
  induction n with
  | zero => rfl
  | succ n ih => rw [reg_succ, reg_succ, ih fun i hi => h i (by omega), h n (by omega)]
theorem reg_cat (f : Nat → Nat) (r m n : Nat) : reg f r (m + n) = reg (fun i => f (m + i)) (reg f r m) n := by
  induction n with
  | zero => rfl
  | succ n ih => rw [← Nat.add_assoc, reg_succ, reg_succ, ih]
theorem reg_xor3 (f g h : Nat → Nat) (a b c n : Nat) : reg (fun i => f i ^^^ g i ^^^ h i) (a ^^^ b ^^^ c) n = reg f a n ^^^ reg g b n ^^^ reg h c n := by
  induction n with
  | zero => rfl
  | succ n ih =>
    simp only [reg_succ]
    rw [ih]
    have e : reg f a n ^^^ reg g b n ^^^ reg h c n ^^^ (f n ^^^ g n ^^^ h n) = (reg f a n ^^^ f n) ^^^ (reg g b n ^^^ g n) ^^^ (reg h c n ^^^ h n) := by
      apply Nat.eq_of_testBit_eq
      intro i
      simp only [Nat.testBit_xor]
      cases (reg f a n).testBit i <;> cases (reg g b n).testBit i <;> cases (reg h c n).testBit i <;> cases (f n).testBit i <;> cases (g n).testBit i <;> cases (h n).testBit i <;> rfl
    rw [e, sts_xor, sts_xor]

/-- f with the byte at j replaced. -/
def upd (f : Nat → Nat) (j v : Nat) : Nat → Nat := fun i => if i = j then v else f i
theorem upd_at (f : Nat → Nat) (j v : Nat) : upd f j v j = v := by unfold upd; rw [if_pos rfl]
theorem upd_off (f : Nat → Nat) (j v : Nat) {i : Nat} (h : i ≠ j) : upd f j v i = f i := by unfold upd; rw [if_neg h]
/-- Changing the bit t of the byte j changes the register by what is left of the bit. -/
theorem reg_flip (f : Nat → Nat) (r j t n : Nat) (ht : t < 8) (hj : j < n) : reg (upd f j (f j ^^^ 2 ^ t)) r n = reg f r n ^^^ sts (8 * (n - j) - t) 1 := by
  induction n with
  | zero => omega
  | succ n ih =>
    rw [reg_succ, reg_succ]
    by_cases h : j = n
    · subst h
      rw [upd_at, reg_congr (f := upd f j (f j ^^^ 2 ^ t)) (g := f) j (fun i hi => upd_off _ _ _ (by omega)), ← Nat.xor_assoc, sts_xor, sts_pow' (by omega)]
      congr 3
      omega
    · rw [ih (by omega), upd_off _ _ _ (by omega), Nat.xor_assoc, Nat.xor_comm (sts _ 1), ← Nat.xor_assoc, sts_xor, ← sts_add]
      congr 2
      omega
theorem upd_lt {f : Nat → Nat} {n j v : Nat} (h : ∀ i, i < n → f i < 256) (hv : v < 256) : ∀ i, i < n → upd f j v i < 256 := by
  intro i hi
  unfold upd
  split
  · exact hv
  · exact h i hi

/-- The checksum of n bytes of f, continued from s. -/
def crc (f : Nat → Nat) (n s : Nat) : Nat := 4294967295 ^^^ reg f (4294967295 ^^^ s) n
theorem crc_lt {f : Nat → Nat} {s : Nat} (n : Nat) (hs : s < 4294967296) (hf : ∀ i, i < n → f i < 256) : crc f n s < 4294967296 :=
  xor32 (by decide) (reg_lt n (xor32 (by decide) hs) hf)
theorem not_not (x : Nat) : 4294967295 ^^^ (4294967295 ^^^ x) = x := by rw [← Nat.xor_assoc, Nat.xor_self, Nat.zero_xor]
theorem crc_congr {f g : Nat → Nat} {s : Nat} (n : Nat) (h : ∀ i, i < n → f i = g i) : crc f n s = crc g n s := by unfold crc; rw [reg_congr n h]
/-- Extending. -/
theorem crc_cat (f g : Nat → Nat) (m n s : Nat) : crc g n (crc f m s) = crc (fun i => if i < m then f i else g (i - m)) (m + n) s := by
  unfold crc
  rw [not_not, reg_cat, reg_congr (f := fun i => if i < m then f i else g (i - m)) (g := f) m (fun i hi => if_pos hi)]
  congr 1
  refine reg_congr n fun i _ => ?_
  rw [if_neg (by omega), Nat.add_sub_cancel_left]
theorem crc_xor3 (f g h : Nat → Nat) (n : Nat) : crc (fun i => f i ^^^ g i ^^^ h i) n 0 = crc f n 0 ^^^ crc g n 0 ^^^ crc h n 0 := by
  unfold crc
  have e := reg_xor3 f g h 4294967295 4294967295 4294967295 n
  rw [Nat.xor_self, Nat.zero_xor] at e
  simp only [Nat.xor_zero]
  rw [e]
  generalize reg f 4294967295 n = a
  generalize reg g 4294967295 n = b
  generalize reg h 4294967295 n = c
  apply Nat.eq_of_testBit_eq
  intro i
  simp only [Nat.testBit_xor]
  cases a.testBit i <;> cases b.testBit i <;> cases c.testBit i <;> cases Nat.testBit 4294967295 i <;> rfl

/-- The pattern's lowest k bits that lie before the end. -/
def part (bits M : Nat) : Nat → Nat
  | 0 => 0
  | k + 1 => if bits.testBit k = true ∧ k < M then part bits M k ^^^ 2 ^ k else part bits M k
theorem part_lt (bits M k : Nat) : part bits M k < 2 ^ k := by
  induction k with
  | zero => exact Nat.one_pos
  | succ k ih =>
    unfold part
    have h1 : 2 ^ k < 2 ^ (k + 1) := Nat.pow_lt_pow_right (by decide) (by omega)
    split
    · exact Nat.xor_lt_two_pow (Nat.lt_trans ih h1) h1
    · exact Nat.lt_trans ih h1
theorem part_step (bits M k : Nat) (h : bits.testBit k = true) (hk : k < M) : part bits M (k + 1) ≠ 0 ∧ part bits M (k + 1) = part bits M k ^^^ 2 ^ k := by
  have e : part bits M (k + 1) = part bits M k ^^^ 2 ^ k := by rw [part, if_pos ⟨h, hk⟩]
  refine ⟨fun h0 => ?_, e⟩
  rw [e] at h0
  have h1 := xor_eq_zero h0
  have h2 := part_lt bits M k
  omega
theorem part_skip (bits M k : Nat) (h : ¬ (bits.testBit k = true ∧ k < M)) : part bits M (k + 1) = part bits M k := by rw [part, if_neg h]
/-- What the changes so far have done to the register. -/
def Done (f g : Nat → Nat) (n first bits k : Nat) : Prop := reg g 4294967295 n = reg f 4294967295 n ^^^ sts (8 * n - first) (part bits (8 * n - first) k)
theorem done_zero (f : Nat → Nat) (n first bits : Nat) : Done f f n first bits 0 := by unfold Done; rw [part, sts_of_zero, Nat.xor_zero]
theorem done_step {f g : Nat → Nat} {n first bits k : Nat} (h : Done f g n first bits k) (hb : bits.testBit k = true) (hk : first + k < 8 * n) :
    Done f (upd g ((first + k) / 8) (g ((first + k) / 8) ^^^ 2 ^ ((first + k) % 8))) n first bits (k + 1) := by
  unfold Done at *
  rw [reg_flip _ _ _ _ _ (by omega) (by omega), h, (part_step bits (8 * n - first) k hb (by omega)).2, sts_xor, sts_pow' (by omega), Nat.xor_assoc]
  congr 3
  omega
theorem done_end {f g : Nat → Nat} {n first bits : Nat} (h : Done f g n first bits 32) : (crc g n 0 = crc f n 0) ↔ part bits (8 * n - first) 32 = 0 := by
  unfold Done at h
  unfold crc
  rw [Nat.xor_zero, h]
  have hl : part bits (8 * n - first) 32 < 4294967296 := part_lt bits (8 * n - first) 32
  generalize part bits (8 * n - first) 32 = p at *
  constructor
  · intro e
    have e2 := congrArg (fun x => 4294967295 ^^^ x) e
    simp only [not_not] at e2
    have e3 := congrArg (fun x => reg f 4294967295 n ^^^ x) e2
    simp only [← Nat.xor_assoc, Nat.xor_self, Nat.zero_xor] at e3
    exact sts_zero _ hl e3
  · intro e
    rw [e, sts_of_zero, Nat.xor_zero]

end Go.Proofs.Ytegniedbiegcpaa
