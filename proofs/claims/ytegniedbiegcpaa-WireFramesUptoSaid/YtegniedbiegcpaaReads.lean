/-
  The Read functions of package wire. (Written by g_reads.py.)
-/
import Derived.Test.YtegniedbiegcpaaRead
namespace Go.Proofs.Ytegniedbiegcpaa
open Go.RowKit

/-! Their methods. -/
theorem enters_digits (args : Array Value) (w : World) : (callFunc 39 args).run Try.prog w = .ok (.enter 39 args) w := by simp [go_sem]
theorem enters_int (args : Array Value) (w : World) : (callFunc 42 args).run Try.prog w = .ok (.enter 42 args) w := by simp [go_sem]
theorem enters_text (args : Array Value) (w : World) : (callFunc 45 args).run Try.prog w = .ok (.enter 45 args) w := by simp [go_sem]
theorem enters_frame (args : Array Value) (w : World) : (callFunc 48 args).run Try.prog w = .ok (.enter 48 args) w := by simp [go_sem]

section
variable (B : Nat) (a : Option Addr) (n cap : Nat) (l : List Nat) (p : Nat) (w : World) (hR : Rdr w B a n cap l p)
include hR

theorem mU_ok {v k : Nat} (h : rd (l.drop p) 0 0 = .ok v k) :
    Calls Try.prog 39 #[.pointer (some ⟨B, 0, none⟩)] w (Mok (fun x _ => x = .int .u64 (v : Nat)) B a n cap l (p + k) w) := by
  have := digits_read B a n cap l p w hR
  rw [h] at this
  exact this.mono fun e w' ⟨h1, h2, h3⟩ => ⟨_, h1, rfl, h2, h3⟩
theorem mU_err {c : Nat} (h : rd (l.drop p) 0 0 = .err c) :
    Calls Try.prog 39 #[.pointer (some ⟨B, 0, none⟩)] w (fun e w' => e = thrown c ∧ Below B w w') := by
  have := digits_read B a n cap l p w hR
  rw [h] at this
  exact this
theorem mI_ok {v k : Nat} (h : rd (l.drop p) 0 0 = .ok v k) (hv : v < 18446744073709551616) :
    Calls Try.prog 42 #[.pointer (some ⟨B, 0, none⟩)] w (Mok (fun x _ => x = .int .i64 (unfd v)) B a n cap l (p + k) w) := by
  have c1 := mU_ok B a n cap l p w hR h
  have HV := Lib.hid hv
  clear h hR hv
  go_enter Try.func42, Try.ntmps42
  go_wp2_with fail
  refine c1.mono ?_
  rintro e w1 ⟨_, rfl, rfl, R1, b1⟩
  clear c1
  go_wp2_with fail
  refine (unfolded_any v w1 HV.out _ rfl).mono ?_
  rintro e w' ⟨rfl, rfl⟩
  go_wp2_with fail
  go_ret
  exact ⟨_, rfl, rfl, R1, b1⟩
theorem mI_err {c : Nat} (h : rd (l.drop p) 0 0 = .err c) :
    Calls Try.prog 42 #[.pointer (some ⟨B, 0, none⟩)] w (fun e w' => e = thrown c ∧ Below B w w') := by
  have c1 := mU_err B a n cap l p w hR h
  clear h hR
  go_enter Try.func42, Try.ntmps42
  go_wp2_with fail
  refine c1.mono ?_
  rintro e w1 ⟨rfl, b1⟩
  exact ⟨rfl, rfl, b1⟩
theorem mT_ok {v k : Nat} (h : rd (l.drop p) 0 0 = .ok v k) (hv : p + k + v ≤ n) (t : List Nat) (ht : (l.drop (p + k)).take v = t) :
    Calls Try.prog 45 #[.pointer (some ⟨B, 0, none⟩)] w (Mok (fun x _ => x = .string (st_of t)) B a n cap l (p + k + v) w) := by
  have c1 := mU_ok B a n cap l p w hR h
  have HT := Lib.hid ht
  clear h hR ht
  go_enter Try.func45, Try.ntmps45
  go_wp2_with fail
  refine c1.mono ?_
  rintro e w1 ⟨_, rfl, rfl, R1, b1⟩
  clear c1
  go_wp2_with fail
  refine (take_any B a n cap l (p + k) v w1 R1 hv).mono ?_
  rintro e w2 ⟨a', rfl, L2, lo2, R2, b2, _⟩
  rw [HT.out] at L2
  replace b2 := b1.trans b2
  have s1 := run_str L2.hat v v L2.hn
  clear b1 L2 lo2
  go_wp2_with fail
  go_ret
  exact ⟨_, rfl, rfl, R2, b2⟩
theorem mT_short {v k : Nat} (h : rd (l.drop p) 0 0 = .ok v k) (hv : n - (p + k) < v) :
    Calls Try.prog 45 #[.pointer (some ⟨B, 0, none⟩)] w (fun e w' => e = thrown 41 ∧ Below B w w') := by
  have c1 := mU_ok B a n cap l p w hR h
  clear h hR
  go_enter Try.func45, Try.ntmps45
  go_wp2_with fail
  refine c1.mono ?_
  rintro e w1 ⟨_, rfl, rfl, R1, b1⟩
  clear c1
  go_wp2_with fail
  refine (take_short B a n cap l (p + k) v w1 R1 hv).mono ?_
  rintro e w2 ⟨rfl, b2⟩
  exact ⟨rfl, rfl, b1.trans b2⟩
theorem mT_err {c : Nat} (h : rd (l.drop p) 0 0 = .err c) :
    Calls Try.prog 45 #[.pointer (some ⟨B, 0, none⟩)] w (fun e w' => e = thrown c ∧ Below B w w') := by
  have c1 := mU_err B a n cap l p w hR h
  clear h hR
  go_enter Try.func45, Try.ntmps45
  go_wp2_with fail
  refine c1.mono ?_
  rintro e w1 ⟨rfl, b1⟩
  exact ⟨rfl, rfl, b1⟩
/-- A payload in memory of its own, behind the block E. -/
def Own2 (E : Nat) (v : List Nat) (x : Value) (w : World) : Prop := ∃ g, x = .slice (some ⟨g, 0, none⟩) v.length v.length ∧ E < g ∧ Ow w g v.length v.length v
omit hR in
theorem Own2.apart {E : Nat} {v : List Nat} {x : Value} {w w' : World} (h : Own2 E v x w) (k : Apart E w w') : Own2 E v x w' := by
  obtain ⟨g, h1, h2, h3⟩ := h
  refine ⟨g, h1, h2, ?_⟩
  obtain ⟨⟨o1, o2⟩, o3⟩ := h3
  refine ⟨⟨o1, ?_⟩, o3⟩
  rcases o2 with h0 | ⟨g', cap, cur, e, hbg, hh, r⟩
  · exact .inl h0
  · refine .inr ⟨g', cap, cur, e, hbg, ?_, r⟩
    simp only [Value.slice.injEq, Option.some.injEq, Addr.mk.injEq] at e
    obtain ⟨⟨rfl, _⟩, _⟩ := e
    rw [k _ (Nat.ne_of_gt h2)]
    exact hh
theorem mF_ok {v : List Nat} {k : Nat} (h : rdF (l.drop p) = .ok v k) (E : Nat) (hE : E < w.heap.size) :
    Calls Try.prog 48 #[.pointer (some ⟨B, 0, none⟩)] w (Mok (Own2 E v) B a n cap l (p + k) w) := by
  have := frame_read B a n cap l p w hR
  rw [h] at this
  exact this.mono fun e w' ⟨g, h1, h2, h3, h4, h5⟩ => ⟨_, h1, ⟨g, rfl, Nat.lt_of_lt_of_le hE h2, h3⟩, h4, h5⟩
theorem mF_err {c : Nat} (h : rdF (l.drop p) = .err c) :
    Calls Try.prog 48 #[.pointer (some ⟨B, 0, none⟩)] w (fun e w' => e = thrown c ∧ Below B w w') := by
  have := frame_read B a n cap l p w hR
  rw [h] at this
  exact this
end

/-! What the functions return: the value, the offset after it, the error's code. -/
def rU (l : List Nat) (z : Int) : Nat × Nat × Nat :=
  if z < 0 ∨ (l.length : Int) < z then (0, 0, 1) else
  match rd (l.drop z.toNat) 0 0 with
  | .ok v k => (v, z.toNat + k, 0)
  | .err c => (0, 0, c)
def rI (l : List Nat) (z : Int) : Int × Nat × Nat :=
  if z < 0 ∨ (l.length : Int) < z then (0, 0, 1) else
  match rd (l.drop z.toNat) 0 0 with
  | .ok v k => (unfd v, z.toNat + k, 0)
  | .err c => (0, 0, c)
def rT (l : List Nat) (z : Int) : List Nat × Nat × Nat :=
  if z < 0 ∨ (l.length : Int) < z then ([], 0, 1) else
  match rd (l.drop z.toNat) 0 0 with
  | .ok v k => if l.length - (z.toNat + k) < v then ([], 0, 41) else ((l.drop (z.toNat + k)).take v, z.toNat + k + v, 0)
  | .err c => ([], 0, c)
def rF (l : List Nat) (z : Int) : RF :=
  if z < 0 ∨ (l.length : Int) < z then .err 1 else
  match rdF (l.drop z.toNat) with
  | .ok v k => .ok v (z.toNat + k)
  | .err c => .err c

theorem readU_any (a : Option Addr) (n cap : Nat) (l : List Nat) (z : Int) (w : World) (hA : Li w a n cap l) (v : Nat) (k c : Nat) (h : rU l z = (v, k, c)) :
    Calls Try.prog 23 #[.slice a n cap, .int .i64 z] w fun e w' => e = .returned (.tuple #[.int .u64 (v : Nat), .int .i64 (k : Nat), .int .i64 (c : Nat)]) ∧ Below w.heap.size w w' := by
  have hn := hA.hn
  have hby := hA.hat.by
  unfold rU at h
  rw [hn] at h
  by_cases hz : z < 0 ∨ (n : Int) < z
  · rw [if_pos hz] at h
    simp only [Prod.mk.injEq] at h
    obtain ⟨rfl, rfl, rfl⟩ := h
    have c1 := readArg_u 39 a n cap z w hz
    clear hz hA hn hby
    go_enter Try.func23, Try.ntmps23
    go_wp2_with fail
    refine c1.mono ?_
    rintro e w1 ⟨rfl, b1⟩
    go_wp2_with fail
    go_ret3
    exact ⟨rfl, b1⟩
  · rw [if_neg hz] at h
    obtain ⟨p, rfl⟩ : ∃ p : Nat, z = p := ⟨z.toNat, by omega⟩
    rw [Int.toNat_natCast] at h
    have hp : p ≤ n := by omega
    rcases hrd : rd (l.drop p) 0 0 with ⟨N, j⟩ | d
    · rw [hrd] at h
      obtain ⟨rest, hL, hk, hN⟩ := rd_back (hby.drop p) hrd
      simp only [Prod.mk.injEq] at h
      obtain ⟨rfl, rfl, rfl⟩ := h
      have c1 := readOk_u (fun x _ => x = .int .u64 (N : Nat)) 39 a n cap l p (p + j) w hA hp (fun w2 hR _ _ => mU_ok _ a n cap l p w2 hR hrd) (fun _ _ _ h _ => h) enters_digits
      clear hz hA hn hrd hby hp hL hk hN
      go_enter Try.func23, Try.ntmps23
      go_wp2_with fail
      refine c1.mono ?_
      rintro e w1 ⟨_, rfl, rfl, b1⟩
      clear c1
      go_wp2_with fail
      go_ret3
      exact ⟨rfl, b1⟩
    · rw [hrd] at h
      simp only [Prod.mk.injEq] at h
      obtain ⟨rfl, rfl, rfl⟩ := h
      have c1 := readErr_u d 39 a n cap l p w hA hp (fun w2 hR _ _ => mU_err _ a n cap l p w2 hR hrd) enters_digits
      clear hz hA hn hrd hby hp
      go_enter Try.func23, Try.ntmps23
      go_wp2_with fail
      refine c1.mono ?_
      rintro e w1 ⟨rfl, b1⟩
      go_wp2_with fail
      go_ret3
      exact ⟨rfl, b1⟩

theorem readI_any (a : Option Addr) (n cap : Nat) (l : List Nat) (z : Int) (w : World) (hA : Li w a n cap l) (v : Int) (k c : Nat) (h : rI l z = (v, k, c)) :
    Calls Try.prog 25 #[.slice a n cap, .int .i64 z] w fun e w' => e = .returned (.tuple #[.int .i64 v, .int .i64 (k : Nat), .int .i64 (c : Nat)]) ∧ Below w.heap.size w w' := by
  have hn := hA.hn
  have hby := hA.hat.by
  unfold rI at h
  rw [hn] at h
  by_cases hz : z < 0 ∨ (n : Int) < z
  · rw [if_pos hz] at h
    simp only [Prod.mk.injEq] at h
    obtain ⟨rfl, rfl, rfl⟩ := h
    have c1 := readArg_i 42 a n cap z w hz
    clear hz hA hn hby
    go_enter Try.func25, Try.ntmps25
    go_wp2_with fail
    refine c1.mono ?_
    rintro e w1 ⟨rfl, b1⟩
    go_wp2_with fail
    go_ret3
    exact ⟨rfl, b1⟩
  · rw [if_neg hz] at h
    obtain ⟨p, rfl⟩ : ∃ p : Nat, z = p := ⟨z.toNat, by omega⟩
    rw [Int.toNat_natCast] at h
    have hp : p ≤ n := by omega
    rcases hrd : rd (l.drop p) 0 0 with ⟨N, j⟩ | d
    · rw [hrd] at h
      obtain ⟨rest, hL, hk, hN⟩ := rd_back (hby.drop p) hrd
      simp only [Prod.mk.injEq] at h
      obtain ⟨rfl, rfl, rfl⟩ := h
      have c1 := readOk_i (fun x _ => x = .int .i64 (unfd N)) 42 a n cap l p (p + j) w hA hp (fun w2 hR _ _ => mI_ok _ a n cap l p w2 hR hrd hN) (fun _ _ _ h _ => h) enters_int
      clear hz hA hn hrd hby hp hL hk hN
      go_enter Try.func25, Try.ntmps25
      go_wp2_with fail
      refine c1.mono ?_
      rintro e w1 ⟨_, rfl, rfl, b1⟩
      clear c1
      go_wp2_with fail
      go_ret3
      exact ⟨rfl, b1⟩
    · rw [hrd] at h
      simp only [Prod.mk.injEq] at h
      obtain ⟨rfl, rfl, rfl⟩ := h
      have c1 := readErr_i d 42 a n cap l p w hA hp (fun w2 hR _ _ => mI_err _ a n cap l p w2 hR hrd) enters_int
      clear hz hA hn hrd hby hp
      go_enter Try.func25, Try.ntmps25
      go_wp2_with fail
      refine c1.mono ?_
      rintro e w1 ⟨rfl, b1⟩
      go_wp2_with fail
      go_ret3
      exact ⟨rfl, b1⟩

theorem readT_any (a : Option Addr) (n cap : Nat) (l : List Nat) (z : Int) (w : World) (hA : Li w a n cap l) (v : List Nat) (k c : Nat) (h : rT l z = (v, k, c)) :
    Calls Try.prog 27 #[.slice a n cap, .int .i64 z] w fun e w' => e = .returned (.tuple #[.string (st_of v), .int .i64 (k : Nat), .int .i64 (c : Nat)]) ∧ Below w.heap.size w w' := by
  have hn := hA.hn
  have hby := hA.hat.by
  unfold rT at h
  rw [hn] at h
  by_cases hz : z < 0 ∨ (n : Int) < z
  · rw [if_pos hz] at h
    simp only [Prod.mk.injEq] at h
    obtain ⟨rfl, rfl, rfl⟩ := h
    have c1 := readArg_t 45 a n cap z w hz
    clear hz hA hn hby
    go_enter Try.func27, Try.ntmps27
    go_wp2_with fail
    refine c1.mono ?_
    rintro e w1 ⟨rfl, b1⟩
    go_wp2_with fail
    go_ret3
    exact ⟨rfl, b1⟩
  · rw [if_neg hz] at h
    obtain ⟨p, rfl⟩ : ∃ p : Nat, z = p := ⟨z.toNat, by omega⟩
    rw [Int.toNat_natCast] at h
    have hp : p ≤ n := by omega
    rcases hrd : rd (l.drop p) 0 0 with ⟨N, j⟩ | d
    · rw [hrd] at h
      obtain ⟨rest, hL, hk, hN⟩ := rd_back (hby.drop p) hrd
      simp only at h
      by_cases hs : n - (p + j) < N
      · rw [if_pos hs] at h
        simp only [Prod.mk.injEq] at h
        obtain ⟨rfl, rfl, rfl⟩ := h
        have c1 := readErr_t 41 45 a n cap l p w hA hp (fun w2 hR _ _ => mT_short _ a n cap l p w2 hR hrd hs) enters_text
        clear hz hA hn hrd hby hp hL hk hN hs
        go_enter Try.func27, Try.ntmps27
        go_wp2_with fail
        refine c1.mono ?_
        rintro e w1 ⟨rfl, b1⟩
        go_wp2_with fail
        go_ret3
        exact ⟨rfl, b1⟩
      rw [if_neg hs] at h
      simp only [Prod.mk.injEq] at h
      obtain ⟨h1, rfl, rfl⟩ := h
      have hj : p + j ≤ n := by
        have : (l.drop p).length = n - p := by rw [List.length_drop, hn]
        rw [hL, List.length_append] at this
        omega
      have c1 := readOk_t (fun x _ => x = .string (st_of v)) 45 a n cap l p (p + j + N) w hA hp (fun w2 hR _ _ => mT_ok _ a n cap l p w2 hR hrd (by omega) v h1) (fun _ _ _ h _ => h) enters_text
      clear hz hA hn hrd hby hp hL hk hN h1 hs hj
      go_enter Try.func27, Try.ntmps27
      go_wp2_with fail
      refine c1.mono ?_
      rintro e w1 ⟨_, rfl, rfl, b1⟩
      clear c1
      go_wp2_with fail
      go_ret3
      exact ⟨rfl, b1⟩
    · rw [hrd] at h
      simp only [Prod.mk.injEq] at h
      obtain ⟨rfl, rfl, rfl⟩ := h
      have c1 := readErr_t d 45 a n cap l p w hA hp (fun w2 hR _ _ => mT_err _ a n cap l p w2 hR hrd) enters_text
      clear hz hA hn hrd hby hp
      go_enter Try.func27, Try.ntmps27
      go_wp2_with fail
      refine c1.mono ?_
      rintro e w1 ⟨rfl, b1⟩
      go_wp2_with fail
      go_ret3
      exact ⟨rfl, b1⟩

/-- What ReadFrame does. -/
def Rfp (w : World) (r : RF) (e : Ending) (w' : World) : Prop :=
  match r with
  | .ok v k => ∃ g, e = .returned (.tuple #[.slice (some ⟨g, 0, none⟩) v.length v.length, .int .i64 (k : Nat), .int .i64 0]) ∧ w.heap.size < g ∧ Ow w' g v.length v.length v ∧ Below w.heap.size w w'
  | .err c => e = .returned (.tuple #[.slice none 0 0, .int .i64 0, .int .i64 (c : Nat)]) ∧ Below w.heap.size w w'
theorem readF_any (a : Option Addr) (n cap : Nat) (l : List Nat) (z : Int) (w : World) (hA : Li w a n cap l) :
    Calls Try.prog 29 #[.slice a n cap, .int .i64 z] w (Rfp w (rF l z)) := by
  have hn := hA.hn
  unfold rF
  rw [hn]
  by_cases hz : z < 0 ∨ (n : Int) < z
  · rw [if_pos hz]
    have c1 := readArg_f 48 a n cap z w hz
    clear hz hA hn
    go_enter Try.func29, Try.ntmps29
    go_wp2_with fail
    refine c1.mono ?_
    rintro e w1 ⟨rfl, b1⟩
    go_wp2_with fail
    go_ret3
    exact ⟨rfl, b1⟩
  · rw [if_neg hz]
    obtain ⟨p, rfl⟩ : ∃ p : Nat, z = p := ⟨z.toNat, by omega⟩
    rw [Int.toNat_natCast]
    have hp : p ≤ n := by omega
    rcases hrd : rdF (l.drop p) with ⟨v, k⟩ | d
    · simp only
      have c1 := readOk_f (Own2 w.heap.size v) 48 a n cap l p (p + k) w hA hp (fun w2 hR _ hs => mF_ok _ a n cap l p w2 hR hrd w.heap.size (by omega)) (fun _ _ _ h k => h.apart k) enters_frame
      clear hz hA hn hrd hp
      go_enter Try.func29, Try.ntmps29
      go_wp2_with fail
      refine c1.mono ?_
      rintro e w1 ⟨_, rfl, ⟨g, rfl, hg, hO⟩, b1⟩
      clear c1
      go_wp2_with fail
      go_ret3
      exact ⟨g, rfl, hg, hO, b1⟩
    · simp only
      have c1 := readErr_f d 48 a n cap l p w hA hp (fun w2 hR _ _ => mF_err _ a n cap l p w2 hR hrd) enters_frame
      clear hz hA hn hrd hp
      go_enter Try.func29, Try.ntmps29
      go_wp2_with fail
      refine c1.mono ?_
      rintro e w1 ⟨rfl, b1⟩
      go_wp2_with fail
      go_ret3
      exact ⟨rfl, b1⟩
end Go.Proofs.Ytegniedbiegcpaa
