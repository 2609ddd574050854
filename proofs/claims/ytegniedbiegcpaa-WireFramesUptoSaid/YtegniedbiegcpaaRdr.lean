/-
  The reader of package wire: an integer's digits.
-/
import Derived.Test.YtegniedbiegcpaaApp
import Derived.WalkLawsBesides
import Derived.Deep.QuietTactic
import Derived.BigQuiet
import Derived.IntWalk
namespace Go.Proofs.Ytegniedbiegcpaa
open Go.RowKit

/-- A reader lies in the block B: it reads l (the slice a, n, cap), from the offset p on. -/
structure Rdr (w : World) (B : Nat) (a : Option Addr) (n cap : Nat) (l : List Nat) (p : Nat) : Prop where
  c0 : w.cell? ⟨B, 0, none⟩ = some (.slice a n cap)
  c1 : w.cell? ⟨B, 1, none⟩ = some (.int .i64 (p : Int))
  z1 : w.frozen? ⟨B, 1, none⟩ = false
  lo : n = 0 ∨ ∃ b off, a = some ⟨b, off, none⟩ ∧ b < B
  li : Li w a n cap l
  le : p ≤ n
theorem Rdr.lt {w : World} {B : Nat} {a : Option Addr} {n cap : Nat} {l : List Nat} {p : Nat} (h : Rdr w B a n cap l p) : B < w.heap.size := block_lt_of_cell h.c1
theorem Rdr.keeps {w w1 : World} {B : Nat} {a : Option Addr} {n cap : Nat} {l : List Nat} {p : Nat} (h : Rdr w B a n cap l p) (hb : Below w.heap.size w w1) : Rdr w1 B a n cap l p :=
  ⟨Go.Proofs.Ytegniedbiegcpaa.keeps hb h.c0, Go.Proofs.Ytegniedbiegcpaa.keeps hb h.c1, by rw [hb.frozen (p := ⟨B, 1, none⟩) h.lt]; exact h.z1, h.lo, h.li.keeps hb, h.le⟩
theorem AtL.set {w : World} {a : Option Addr} {l : List Nat} {B o : Nat} (h : AtL w a l) (lo : l.length = 0 ∨ ∃ b off, a = some ⟨b, off, none⟩ ∧ b < B) (v : Value) : AtL (w.setCell ⟨B, o, none⟩ v) a l := by
  refine ⟨?_, h.2⟩
  rcases h.1 with h0 | ⟨b, off, rfl, hB⟩
  · exact .inl h0
  · refine .inr ⟨b, off, rfl, fun j hj => ?_⟩
    rcases lo with h0 | ⟨b', off', e, hlt⟩
    · omega
    · simp only [Option.some.injEq, Addr.mk.injEq, and_true] at e
      rw [World.cell?_setCell_other _ _ _ _ (fun h => by have := congrArg Addr.block h; simp only at this; omega)]
      exact hB j hj
theorem Rdr.move {w : World} {B : Nat} {a : Option Addr} {n cap : Nat} {l : List Nat} {p : Nat} (h : Rdr w B a n cap l p) (q : Nat) (hq : q ≤ n) : Rdr (w.setCell ⟨B, 1, none⟩ (.int .i64 (q : Int))) B a n cap l q :=
  ⟨by rw [World.cell?_setCell_other _ _ _ _ (fun h => by have := congrArg Addr.off h; simp only at this; omega)]; exact h.c0, World.cell?_setCell_same _ _ _ h.c1, by rw [World.frozen?_setCell]; exact h.z1, h.lo,
    { h.li with hat := h.li.hat.set (h.li.hn ▸ h.lo) _ }, hq⟩

/-- The error of a code, on its way. -/
def thrown (c : Nat) : Ending := .panicked [{ v := .iface 35 (.int .i64 (c : Int)), recovered := false }]
/-- What digits does. -/
def Dig (w : World) (B : Nat) (a : Option Addr) (n cap : Nat) (l : List Nat) (p : Nat) (r : R) (e : Ending) (w' : World) : Prop :=
  match r with
  | .ok v k => e = .returned (.int .u64 (v : Int)) ∧ Rdr w' B a n cap l (p + k) ∧ Below B w w'
  | .err c => e = thrown c ∧ Below B w w'

theorem below_drewN' (B : Nat) (w : World) (n : Nat) : Below B w (w.drewN n) := ⟨rfl, rfl, rfl, Nat.le_refl _, fun _ _ => rfl⟩
theorem or_digit {v k d : Nat} (hv : v < 128 ^ k) : v ||| d * 128 ^ k = v + d * 128 ^ k := by
  have e : (128 : Nat) ^ k = 2 ^ (7 * k) := by rw [Nat.pow_mul]
  rw [e] at hv ⊢
  have := Nat.shiftLeft_add_eq_or_of_lt hv d
  rw [Nat.shiftLeft_eq] at this
  rw [Nat.or_comm, ← this, Nat.add_comm]

theorem or_walk {v k c : Nat} (hk : k ≤ 9) (hv : v < 128 ^ k) (hd : k ≤ 8 ∨ c % 128 ≤ 1) :
    bits .or .u64 (v : Int) (IntKind.u64.wrap ((c : Int) % 128 * 2 ^ (7 * k))) = ((v + c % 128 * 128 ^ k : Nat) : Int) := by
  have e : (128 : Nat) ^ k = 2 ^ (7 * k) := by rw [Nat.pow_mul]
  have e1 : ((c : Int) % 128 * 2 ^ (7 * k)) = ((c % 128 * 128 ^ k : Nat) : Int) := by rw [e]; simp
  have h9 : 128 ^ k ≤ 128 ^ 9 := Nat.pow_le_pow_right (by decide) hk
  have hv2 : v < 18446744073709551616 := by rw [p9] at h9; omega
  have hlt : c % 128 * 128 ^ k < 18446744073709551616 := by
    rcases hd with h | h
    · have h8 : 128 ^ k ≤ 128 ^ 8 := Nat.pow_le_pow_right (by decide) h
      have e8 : (128 : Nat) ^ 8 = 72057594037927936 := by decide
      rw [e8] at h8
      calc c % 128 * 128 ^ k ≤ 127 * 72057594037927936 := Nat.mul_le_mul (by omega) h8
        _ < _ := by decide
    · rw [p9] at h9
      calc c % 128 * 128 ^ k ≤ 1 * 9223372036854775808 := Nat.mul_le_mul h h9
        _ < _ := by decide
  rw [e1, IntWalk.u64_in _ (by omega), u64_or_nat v _ hv2 hlt, or_digit hv]

/-- After k digits: the number so far is z. -/
def Going (L : List Nat) (k : Nat) (z : Int) : Prop := (k ≤ 9 → ∃ v : Nat, z = v ∧ v < 128 ^ k ∧ rd L 0 0 = rd (L.drop k) k v) ∧ (k = 10 → rd L 0 0 = .err 3)
theorem Going.start (L : List Nat) : Going L 0 0 := ⟨fun _ => ⟨0, rfl, by simp, by simp⟩, fun h => by cases h⟩

set_option maxRecDepth 100000 in
set_option maxHeartbeats 2000000 in
theorem digits_read (B : Nat) (a : Option Addr) (n cap : Nat) (l : List Nat) (p : Nat) (w : World) (hR : Rdr w B a n cap l p) :
    Calls Try.prog 39 #[.pointer (some ⟨B, 0, none⟩)] w (Dig w B a n cap l p (rd (l.drop p) 0 0)) := by
  have c0 := hR.c0
  have c1 := hR.c1
  have hle := hR.le
  have hlim := hR.li.hlim
  have hsub : ((n : Int) - (p : Int)) = ((n - p : Nat) : Int) := by omega
  have hL : (l.drop p).length = n - p := by rw [List.length_drop, hR.li.hn]
  obtain ⟨F, hF⟩ : ∃ F, n - p = F := ⟨_, rfl⟩
  rw [hF] at hsub hL
  obtain ⟨M, hM⟩ : ∃ M, min F 10 = M := ⟨_, rfl⟩
  have hif : (if (10 : Int) < F then 10 else (F : Int)) = (M : Int) := by rw [← hM]; split <;> omega
  have HM := Lib.hid hM
  have HF := Lib.hid hF
  have HL := Lib.hid hL
  clear hM hF hL
  go_enter Try.func39, Try.ntmps39
  go_wp2_with fail
  go_region
  all_goals (try go_wp2_with fail)
  clear hif hsub c0 c1
  go_loopw [2, 18] (fun x s wr => ∃ (k : Nat) (z : Int), s = .int .i64 k ∧ x = .int .u64 z ∧ k ≤ M ∧ Going (l.drop p) k z ∧ Below w.heap.size w wr) (fun _ s _ => M - (intOf s).toNat)
  case atStart => exact ⟨0, 0, rfl, rfl, by omega, Going.start _, (b0 w).drew⟩
  case round =>
    obtain ⟨k, z, rfl, rfl, hk, G, hb⟩ := hrel
    have hMF := HM.out
    have hFn := HF.out
    have hLn := HL.out
    have R := hR.keeps hb
    have c0 := R.c0
    have c1 := R.c1
    have HG := Lib.hid G
    by_cases hlt : k < M
    · obtain ⟨v, hz, hv, hrd⟩ := G.1 (by omega)
      subst hz
      have hln := R.li.hn
      have hat := R.li.hat
      have hcap := R.li.hcap
      have hc256 : ix l (p + k) < 256 := hat.2 (p + k) (by omega)
      obtain ⟨b, off, rfl, hB⟩ := hat.1.resolve_left (by omega)
      have ca := hB (p + k) (by omega)
      have hcons : (l.drop p).drop k = ix l (p + k) :: (l.drop p).drop (k + 1) := by
        rw [List.drop_drop, List.drop_drop, List.drop_eq_getElem_cons (by omega)]
        simp [ix, show p + k < l.length by omega, Nat.add_assoc]
      rw [hcons] at hrd
      generalize ix l (p + k) = c at *
      have hadd : IntKind.i64.wrap ((p : Int) + (k : Int)) = ((p + k : Nat) : Int) := by rw [IntWalk.i64_in _ (by omega)]; omega
      have hadd0 : (0 : Int) ≤ ((p + k : Nat) : Int) := by omega
      have hadd1 : ((p + k : Nat) : Int) < (n : Int) := by omega
      have HV := Lib.hid hv
      have HRD := Lib.hid hrd
      have HM1 := Lib.hid hlt
      have hk9 : k ≤ 9 := by omega
      have H256 := Lib.hid hc256
      clear hB hat hln hMF hFn hLn HG hv hrd hcons
      clear hcap hk hle hlim hc256
      go_wp2_with fail
      go_quiet (fail)
      clear hadd hadd0 hadd1 ca
      by_cases h128 : c < 128
      · have hB1 : decide ((c : Int) < 128) = true := decide_eq_true (by omega)
        have hr := HRD.out
        rw [rd, if_neg (by omega), if_pos h128] at hr
        have c1' : (wr.drewN nq).cell? ⟨B, 1, none⟩ = some (.int .i64 p) := c1
        have z1' : (wr.drewN nq).frozen? ⟨B, 1, none⟩ = false := R.z1
        have hpk : p + k + 1 ≤ n := by have := HM1.out; have := HM.out; have := HF.out; omega
        have hlim := hR.li.hlim
        have RM := Rdr.move (w := wr.drewN nq) ⟨c0, c1', z1', R.lo, ⟨R.li.hat, R.li.hn, R.li.hcap, R.li.hmax, R.li.hlim, R.li.hno⟩, R.le⟩ (p + (k + 1)) (by omega)
        by_cases hbad : (k = 9 ∧ 1 < c) ∨ (0 < k ∧ c = 0)
        · rw [if_pos hbad] at hr
          have HR := Lib.hid hr
          have hb2 := (hb.trans (below_drewN' _ wr nq)).mono (Nat.le_of_lt hR.lt)
          clear hr RM
          by_cases k9 : k = 9
          · have q1 : ((k : Int) == 9) = true := by simp; omega
            by_cases d1 : 1 < c
            · have q2 : decide ((1 : Int) < c) = true := decide_eq_true (by omega)
              go_wp2_with fail
              refine ⟨rfl, ?_⟩
              rw [HR.out]
              exact ⟨rfl, hb2⟩
            · have q2 : decide ((1 : Int) < c) = false := decide_eq_false (by omega)
              have q3 : ((c : Int) == 0) = true := by simp; omega
              have q4 : decide ((0 : Int) < k) = true := decide_eq_true (by omega)
              have q5 : 0 < k := by omega
              go_wp2_with fail
              refine ⟨rfl, ?_⟩
              rw [HR.out]
              exact ⟨rfl, hb2⟩
          · have q1 : ((k : Int) == 9) = false := by simp; omega
            have q3 : ((c : Int) == 0) = true := by simp; omega
            have q4 : decide ((0 : Int) < k) = true := decide_eq_true (by omega)
            have q5 : 0 < k := by omega
            go_wp2_with fail
            refine ⟨rfl, ?_⟩
            rw [HR.out]
            exact ⟨rfl, hb2⟩
        · rw [if_neg hbad] at hr
          have ho := or_walk (v := v) (k := k) (c := c) hk9 HV.out (by omega)
          rw [Nat.mod_eq_of_lt h128] at ho
          have HO := Lib.hid ho
          have HR := Lib.hid hr
          have hb2 := (hb.trans (below_drewN' _ wr nq)).mono (Nat.le_of_lt hR.lt)
          have hn9 : ¬ (k = 9 ∧ 1 < c) := by omega
          have hn0 : ¬ (0 < k ∧ c = 0) := by omega
          have e1 : ((p : Int) + ((k : Int) + 1)) = ((p + (k + 1) : Nat) : Int) := by omega
          rw [← e1] at RM
          clear hr ho hbad e1
          by_cases k9 : k = 9
          · have q1 : ((k : Int) == 9) = true := by simp; omega
            have q2 : decide ((1 : Int) < c) = false := decide_eq_false (by omega)
            have q3 : ((c : Int) == 0) = false := by simp; omega
            have q4 : decide ((0 : Int) < k) = true := decide_eq_true (by omega)
            have q5 : 0 < k := by omega
            clear hn9 hn0 k9
            go_wp2_with fail
            go_ret
            rw [HR.out]
            exact ⟨ret_int HO.out, RM, hb2.setCell (Nat.le_refl _) _⟩
          · have q1 : ((k : Int) == 9) = false := by simp; omega
            by_cases k0 : 0 < k
            · have q3 : ((c : Int) == 0) = false := by simp; omega
              have q4 : decide ((0 : Int) < k) = true := decide_eq_true (by omega)
              clear hn9 hn0 k9
              go_wp2_with fail
              go_ret
              rw [HR.out]
              exact ⟨ret_int HO.out, RM, hb2.setCell (Nat.le_refl _) _⟩
            · have q4 : decide ((0 : Int) < k) = false := decide_eq_false (by omega)
              clear hn9 hn0 k9
              go_wp2_with fail
              go_ret
              rw [HR.out]
              exact ⟨ret_int HO.out, RM, hb2.setCell (Nat.le_refl _) _⟩
      · have hB1 : decide ((c : Int) < 128) = false := decide_eq_false (by omega)
        go_wp2_with fail
        refine ⟨⟨k + 1, _, by simp, rfl, by have := HM1.out; omega, ?_, hb.trans (below_drewN' _ _ _)⟩, by simp only [intOf]; omega⟩
        have hr := HRD.out
        rw [rd, if_neg (by omega), if_neg (by omega)] at hr
        refine ⟨fun h9 => ⟨v + (c - 128) * 128 ^ k, ?_, ?_, ?_⟩, fun h10 => ?_⟩
        · rw [or_walk hk9 HV.out (.inl (by omega)), show c % 128 = c - 128 by have := H256.out; omega]
        · have hv := HV.out
          have := H256.out
          calc v + (c - 128) * 128 ^ k < 1 * 128 ^ k + 127 * 128 ^ k := Nat.add_lt_add_of_lt_of_le (by omega) (Nat.mul_le_mul_right _ (by omega))
            _ = 128 ^ (k + 1) := by rw [← Nat.add_mul, Nat.pow_succ, Nat.mul_comm]
        · exact hr
        · rw [hr, h10, rd_ten]
    · have hkM : k = M := by omega
      have hb2 := hb.mono (Nat.le_of_lt hR.lt)
      by_cases h10 : F < 10
      · have hF1 : decide ((F : Int) < 10) = true := decide_eq_true (by omega)
        obtain ⟨v, _, _, hrd⟩ := G.1 (by omega)
        have hd0 : (l.drop p).drop k = [] := List.drop_of_length_le (by omega)
        rw [hd0, show rd [] k v = .err 41 from if_pos (by omega)] at hrd
        clear hd0
        have HR := Lib.hid hrd
        clear hrd hMF hFn hLn HG hkM
        go_wp2_with fail
        refine ⟨rfl, ?_⟩
        rw [HR.out]
        exact ⟨rfl, hb2⟩
      · have hF1 : decide ((F : Int) < 10) = false := decide_eq_false (by omega)
        have HR := Lib.hid (G.2 (by omega))
        clear hMF hFn hLn HG hkM
        go_wp2_with fail
        refine ⟨rfl, ?_⟩
        rw [HR.out]
        exact ⟨rfl, hb2⟩
end Go.Proofs.Ytegniedbiegcpaa
