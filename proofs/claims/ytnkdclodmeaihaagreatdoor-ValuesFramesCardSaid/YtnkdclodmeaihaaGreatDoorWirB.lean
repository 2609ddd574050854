/-
  The reader of package wire, and AppendFrame (taken over from stage 4).
-/
import Derived.Test.YtnkdclodmeaihaaGreatDoorWirA
import Derived.WalkLawsBesides
import Derived.Deep.QuietTactic
import Derived.BigQuiet
import Derived.IntWalk
import Derived.Test.YtnkdclodmeaihaaGreatDoorWirT
import Derived.Deep.RegionWith
namespace Go.Proofs.YtnkdclodmeaihaaGreatDoor
open Go.RowKit

/-- A reader lies in the block B: it reads l (the slice a, n, cap), from the offset p on. -/
structure Rdr (w : World) (B : Nat) (a : Option Addr) (n cap : Nat) (l : List Nat) (p : Nat) : Prop where
  c0 : w.cell? ⟨B, 0, none⟩ = some (.slice a n cap)
  c1 : w.cell? ⟨B, 1, none⟩ = some (.int .i64 (p : Int))
  z1 : w.frozen? ⟨B, 1, none⟩ = false
  lo : n = 0 ∨ ∃ b off, a = some ⟨b, off, none⟩ ∧ b < B
  li : Li w a n cap l
  le : p ≤ n
theorem Rdr.lt {w : World} {B : Nat} {a : Option Addr} {n cap : Nat} {l : List Nat} {p : Nat} (h : Rdr w B a n cap l p) : B < w.heap.size := block_lt_of_cell h.c1
theorem Rdr.keeps {w w1 : World} {B : Nat} {a : Option Addr} {n cap : Nat} {l : List Nat} {p : Nat} (h : Rdr w B a n cap l p) (hb : Below w.heap.size w w1) : Rdr w1 B a n cap l p :=
  ⟨Go.Proofs.YtnkdclodmeaihaaGreatDoor.keeps hb h.c0, Go.Proofs.YtnkdclodmeaihaaGreatDoor.keeps hb h.c1, by rw [hb.frozen (p := ⟨B, 1, none⟩) h.lt]; exact h.z1, h.lo, h.li.keeps hb, h.le⟩
theorem AtL.set {w : World} {a : Option Addr} {l : List Nat} {B o : Nat} (h : AtL w a l) (lo : l.length = 0 ∨ ∃ b off, a = some ⟨b, off, none⟩ ∧ b < B) (v : Value) : AtL (w.setCell ⟨B, o, none⟩ v) a l := by
  refine ⟨?_, h.2⟩
  rcases h.1 with h0 | ⟨b, off, rfl, hB⟩
  · exact .inl h0
  · refine .inr ⟨b, off, rfl, fun j hj => ?_⟩
    rcases lo with h0 | ⟨b', off', e, hlt⟩
    · omega
    · simp only [Option.some.injEq, Addr.mk.injEq, and_true] at e
      rw [World.cell?_setCell_other _ _ _ _ (fun h => by have := congrArg Addr.block h; simp only at this; omega)]
      exact hB j hj
theorem Rdr.move {w : World} {B : Nat} {a : Option Addr} {n cap : Nat} {l : List Nat} {p : Nat} (h : Rdr w B a n cap l p) (q : Nat) (hq : q ≤ n) : Rdr (w.setCell ⟨B, 1, none⟩ (.int .i64 (q : Int))) B a n cap l q :=
  ⟨by rw [World.cell?_setCell_other _ _ _ _ (fun h => by have := congrArg Addr.off h; simp only at this; omega)]; exact h.c0, World.cell?_setCell_same _ _ _ h.c1, by rw [World.frozen?_setCell]; exact h.z1, h.lo,
    { h.li with hat := h.li.hat.set (h.li.hn ▸ h.lo) _ }, hq⟩

/-- The error of a code, on its way. -/
def thrown (c : Nat) : Ending := .panicked [{ v := .iface 26 (.int .i64 (c : Int)), recovered := false }]
/-- What digits does. -/
def Dig (w : World) (B : Nat) (a : Option Addr) (n cap : Nat) (l : List Nat) (p : Nat) (r : R) (e : Ending) (w' : World) : Prop :=
  match r with
  | .ok v k => e = .returned (.int .u64 (v : Int)) ∧ Rdr w' B a n cap l (p + k) ∧ Below B w w'
  | .err c => e = thrown c ∧ Below B w w'

theorem below_drewN' (B : Nat) (w : World) (n : Nat) : Below B w (w.drewN n) := ⟨rfl, rfl, rfl, Nat.le_refl _, fun _ _ => rfl⟩
theorem or_digit {v k d : Nat} (hv : v < 128 ^ k) : v ||| d * 128 ^ k = v + d * 128 ^ k := by
  have e : (128 : Nat) ^ k = 2 ^ (7 * k) := by rw [Nat.pow_mul]
  rw [e] at hv ⊢
  have := Nat.shiftLeft_add_eq_or_of_lt hv d
  rw [Nat.shiftLeft_eq] at this
  rw [Nat.or_comm, ← this, Nat.add_comm]

theorem or_walk {v k c : Nat} (hk : k ≤ 9) (hv : v < 128 ^ k) (hd : k ≤ 8 ∨ c % 128 ≤ 1) :
    bits .or .u64 (v : Int) (IntKind.u64.wrap ((c : Int) % 128 * 2 ^ (7 * k))) = ((v + c % 128 * 128 ^ k : Nat) : Int) := by
  have e : (128 : Nat) ^ k = 2 ^ (7 * k) := by rw [Nat.pow_mul]
  have e1 : ((c : Int) % 128 * 2 ^ (7 * k)) = ((c % 128 * 128 ^ k : Nat) : Int) := by rw [e]; simp
  have h9 : 128 ^ k ≤ 128 ^ 9 := Nat.pow_le_pow_right (by decide) hk
  have hv2 : v < 18446744073709551616 := by rw [p9] at h9; omega
  have hlt : c % 128 * 128 ^ k < 18446744073709551616 := by
    rcases hd with h | h
    · have h8 : 128 ^ k ≤ 128 ^ 8 := Nat.pow_le_pow_right (by decide) h
      have e8 : (128 : Nat) ^ 8 = 72057594037927936 := by decide
      rw [e8] at h8
      calc c % 128 * 128 ^ k ≤ 127 * 72057594037927936 := Nat.mul_le_mul (by omega) h8
        _ < _ := by decide
    · rw [p9] at h9
      calc c % 128 * 128 ^ k ≤ 1 * 9223372036854775808 := Nat.mul_le_mul h h9
        _ < _ := by decide
  rw [e1, IntWalk.u64_in _ (by omega), u64_or_nat v _ hv2 hlt, or_digit hv]

/-- After k digits: the number so far is z. -/
def Going (L : List Nat) (k : Nat) (z : Int) : Prop := (k ≤ 9 → ∃ v : Nat, z = v ∧ v < 128 ^ k ∧ rd L 0 0 = rd (L.drop k) k v) ∧ (k = 10 → rd L 0 0 = .err 3)
theorem Going.start (L : List Nat) : Going L 0 0 := ⟨fun _ => ⟨0, rfl, by simp, by simp⟩, fun h => by cases h⟩

set_option maxRecDepth 100000 in
set_option maxHeartbeats 2000000 in
theorem digits_read (B : Nat) (a : Option Addr) (n cap : Nat) (l : List Nat) (p : Nat) (w : World) (hR : Rdr w B a n cap l p) :
    Calls Tryz.prog 64 #[.pointer (some ⟨B, 0, none⟩)] w (Dig w B a n cap l p (rd (l.drop p) 0 0)) := by
  have c0 := hR.c0
  have c1 := hR.c1
  have hle := hR.le
  have hlim := hR.li.hlim
  have hsub : ((n : Int) - (p : Int)) = ((n - p : Nat) : Int) := by omega
  have hL : (l.drop p).length = n - p := by rw [List.length_drop, hR.li.hn]
  obtain ⟨F, hF⟩ : ∃ F, n - p = F := ⟨_, rfl⟩
  rw [hF] at hsub hL
  obtain ⟨M, hM⟩ : ∃ M, min F 10 = M := ⟨_, rfl⟩
  have hif : (if (10 : Int) < F then 10 else (F : Int)) = (M : Int) := by rw [← hM]; split <;> omega
  have HM := Lib.hid hM
  have HF := Lib.hid hF
  have HL := Lib.hid hL
  clear hM hF hL
  go_enter Tryz.func64, Tryz.ntmps64
  go_wp2_with fail
  go_region
  all_goals (try go_wp2_with fail)
  clear hif hsub c0 c1
  go_loopw [2, 18] (fun x s wr => ∃ (k : Nat) (z : Int), s = .int .i64 k ∧ x = .int .u64 z ∧ k ≤ M ∧ Going (l.drop p) k z ∧ Below w.heap.size w wr) (fun _ s _ => M - (intOf s).toNat)
  case atStart => exact ⟨0, 0, rfl, rfl, by omega, Going.start _, (b0 w).drew⟩
  case round =>
    obtain ⟨k, z, rfl, rfl, hk, G, hb⟩ := hrel
    have hMF := HM.out
    have hFn := HF.out
    have hLn := HL.out
    have R := hR.keeps hb
    have c0 := R.c0
    have c1 := R.c1
    have HG := Lib.hid G
    by_cases hlt : k < M
    · obtain ⟨v, hz, hv, hrd⟩ := G.1 (by omega)
      subst hz
      have hln := R.li.hn
      have hat := R.li.hat
      have hcap := R.li.hcap
      have hc256 : ix l (p + k) < 256 := hat.2 (p + k) (by omega)
      obtain ⟨b, off, rfl, hB⟩ := hat.1.resolve_left (by omega)
      have ca := hB (p + k) (by omega)
      have hcons : (l.drop p).drop k = ix l (p + k) :: (l.drop p).drop (k + 1) := by
        rw [List.drop_drop, List.drop_drop, List.drop_eq_getElem_cons (by omega)]
        simp [ix, show p + k < l.length by omega, Nat.add_assoc]
      rw [hcons] at hrd
      generalize ix l (p + k) = c at *
      have hadd : IntKind.i64.wrap ((p : Int) + (k : Int)) = ((p + k : Nat) : Int) := by rw [IntWalk.i64_in _ (by omega)]; omega
      have hadd0 : (0 : Int) ≤ ((p + k : Nat) : Int) := by omega
      have hadd1 : ((p + k : Nat) : Int) < (n : Int) := by omega
      have HV := Lib.hid hv
      have HRD := Lib.hid hrd
      have HM1 := Lib.hid hlt
      have hk9 : k ≤ 9 := by omega
      have H256 := Lib.hid hc256
      clear hB hat hln hMF hFn hLn HG hv hrd hcons
      clear hcap hk hle hlim hc256
      go_wp2_with fail
      go_quiet (fail)
      clear hadd hadd0 hadd1 ca
      by_cases h128 : c < 128
      · have hB1 : decide ((c : Int) < 128) = true := decide_eq_true (by omega)
        have hr := HRD.out
        rw [rd, if_neg (by omega), if_pos h128] at hr
        have c1' : (wr.drewN nq).cell? ⟨B, 1, none⟩ = some (.int .i64 p) := c1
        have z1' : (wr.drewN nq).frozen? ⟨B, 1, none⟩ = false := R.z1
        have hpk : p + k + 1 ≤ n := by have := HM1.out; have := HM.out; have := HF.out; omega
        have hlim := hR.li.hlim
        have RM := Rdr.move (w := wr.drewN nq) ⟨c0, c1', z1', R.lo, ⟨R.li.hat, R.li.hn, R.li.hcap, R.li.hmax, R.li.hlim, R.li.hno⟩, R.le⟩ (p + (k + 1)) (by omega)
        by_cases hbad : (k = 9 ∧ 1 < c) ∨ (0 < k ∧ c = 0)
        · rw [if_pos hbad] at hr
          have HR := Lib.hid hr
          have hb2 := (hb.trans (below_drewN' _ wr nq)).mono (Nat.le_of_lt hR.lt)
          clear hr RM
          by_cases k9 : k = 9
          · have q1 : ((k : Int) == 9) = true := by simp; omega
            by_cases d1 : 1 < c
            · have q2 : decide ((1 : Int) < c) = true := decide_eq_true (by omega)
              go_wp2_with fail
              refine ⟨rfl, ?_⟩
              rw [HR.out]
              exact ⟨rfl, hb2⟩
            · have q2 : decide ((1 : Int) < c) = false := decide_eq_false (by omega)
              have q3 : ((c : Int) == 0) = true := by simp; omega
              have q4 : decide ((0 : Int) < k) = true := decide_eq_true (by omega)
              have q5 : 0 < k := by omega
              go_wp2_with fail
              refine ⟨rfl, ?_⟩
              rw [HR.out]
              exact ⟨rfl, hb2⟩
          · have q1 : ((k : Int) == 9) = false := by simp; omega
            have q3 : ((c : Int) == 0) = true := by simp; omega
            have q4 : decide ((0 : Int) < k) = true := decide_eq_true (by omega)
            have q5 : 0 < k := by omega
            go_wp2_with fail
            refine ⟨rfl, ?_⟩
            rw [HR.out]
            exact ⟨rfl, hb2⟩
        · rw [if_neg hbad] at hr
          have ho := or_walk (v := v) (k := k) (c := c) hk9 HV.out (by omega)
          rw [Nat.mod_eq_of_lt h128] at ho
          have HO := Lib.hid ho
          have HR := Lib.hid hr
          have hb2 := (hb.trans (below_drewN' _ wr nq)).mono (Nat.le_of_lt hR.lt)
          have hn9 : ¬ (k = 9 ∧ 1 < c) := by omega
          have hn0 : ¬ (0 < k ∧ c = 0) := by omega
          have e1 : ((p : Int) + ((k : Int) + 1)) = ((p + (k + 1) : Nat) : Int) := by omega
          rw [← e1] at RM
          clear hr ho hbad e1
          by_cases k9 : k = 9
          · have q1 : ((k : Int) == 9) = true := by simp; omega
            have q2 : decide ((1 : Int) < c) = false := decide_eq_false (by omega)
            have q3 : ((c : Int) == 0) = false := by simp; omega
            have q4 : decide ((0 : Int) < k) = true := decide_eq_true (by omega)
            have q5 : 0 < k := by omega
            clear hn9 hn0 k9
            go_wp2_with fail
            go_ret
            rw [HR.out]
            exact ⟨ret_int HO.out, RM, hb2.setCell (Nat.le_refl _) _⟩
          · have q1 : ((k : Int) == 9) = false := by simp; omega
            by_cases k0 : 0 < k
            · have q3 : ((c : Int) == 0) = false := by simp; omega
              have q4 : decide ((0 : Int) < k) = true := decide_eq_true (by omega)
              clear hn9 hn0 k9
              go_wp2_with fail
              go_ret
              rw [HR.out]
              exact ⟨ret_int HO.out, RM, hb2.setCell (Nat.le_refl _) _⟩
            · have q4 : decide ((0 : Int) < k) = false := decide_eq_false (by omega)
              clear hn9 hn0 k9
              go_wp2_with fail
              go_ret
              rw [HR.out]
              exact ⟨ret_int HO.out, RM, hb2.setCell (Nat.le_refl _) _⟩
      · have hB1 : decide ((c : Int) < 128) = false := decide_eq_false (by omega)
        go_wp2_with fail
        refine ⟨⟨k + 1, _, by simp, rfl, by have := HM1.out; omega, ?_, hb.trans (below_drewN' _ _ _)⟩, by simp only [intOf]; omega⟩
        have hr := HRD.out
        rw [rd, if_neg (by omega), if_neg (by omega)] at hr
        refine ⟨fun h9 => ⟨v + (c - 128) * 128 ^ k, ?_, ?_, ?_⟩, fun h10 => ?_⟩
        · rw [or_walk hk9 HV.out (.inl (by omega)), show c % 128 = c - 128 by have := H256.out; omega]
        · have hv := HV.out
          have := H256.out
          calc v + (c - 128) * 128 ^ k < 1 * 128 ^ k + 127 * 128 ^ k := Nat.add_lt_add_of_lt_of_le (by omega) (Nat.mul_le_mul_right _ (by omega))
            _ = 128 ^ (k + 1) := by rw [← Nat.add_mul, Nat.pow_succ, Nat.mul_comm]
        · exact hr
        · rw [hr, h10, rd_ten]
    · have hkM : k = M := by omega
      have hb2 := hb.mono (Nat.le_of_lt hR.lt)
      by_cases h10 : F < 10
      · have hF1 : decide ((F : Int) < 10) = true := decide_eq_true (by omega)
        obtain ⟨v, _, _, hrd⟩ := G.1 (by omega)
        have hd0 : (l.drop p).drop k = [] := List.drop_of_length_le (by omega)
        rw [hd0, show rd [] k v = .err 41 from if_pos (by omega)] at hrd
        clear hd0
        have HR := Lib.hid hrd
        clear hrd hMF hFn hLn HG hkM
        go_wp2_with fail
        refine ⟨rfl, ?_⟩
        rw [HR.out]
        exact ⟨rfl, hb2⟩
      · have hF1 : decide ((F : Int) < 10) = false := decide_eq_false (by omega)
        have HR := Lib.hid (G.2 (by omega))
        clear hMF hFn hLn HG hkM
        go_wp2_with fail
        refine ⟨rfl, ?_⟩
        rw [HR.out]
        exact ⟨rfl, hb2⟩
end Go.Proofs.YtnkdclodmeaihaaGreatDoor

namespace Go.Proofs.YtnkdclodmeaihaaGreatDoor
open Go.RowKit

/-- What reading a frame gives. -/
inductive RF where
  | ok (v : List Nat) (k : Nat)
  | err (c : Nat)

/-- Nothing but the block B has changed. -/
def Apart (B : Nat) (w w' : World) : Prop := ∀ k, k ≠ B → w'.heap[k]? = w.heap[k]?
theorem AtL.apart {B : Nat} {w w' : World} (h : Apart B w w') {b o : Nat} {l : List Nat} (hb : b ≠ B) (k : AtL w (some ⟨b, o, none⟩) l) : AtL w' (some ⟨b, o, none⟩) l := by
  refine ⟨?_, k.2⟩
  rcases k.1 with h0 | ⟨b', off, e, hB⟩
  · exact .inl h0
  · refine .inr ⟨b', off, e, fun j hj => ?_⟩
    simp only [Option.some.injEq, Addr.mk.injEq, and_true] at e
    obtain ⟨rfl, rfl⟩ := e
    rw [World.cell?_of_block (w := w) (h b hb)]
    exact hB j hj

/-- What take does. -/
def Tk (w : World) (B : Nat) (a : Option Addr) (n cap : Nat) (l : List Nat) (p N : Nat) (e : Ending) (w' : World) : Prop :=
  ∃ a', e = .returned (.slice a' N N) ∧ Li w' a' N N ((l.drop p).take N) ∧ (N = 0 ∨ ∃ b off, a' = some ⟨b, off, none⟩ ∧ b < B) ∧ Rdr w' B a n cap l (p + N) ∧ Below B w w' ∧ Apart B w w'

theorem li_cut {w : World} {B : Nat} {a : Option Addr} {n cap : Nat} {l : List Nat} {q : Nat} (h : Rdr w B a n cap l q) (p N : Nat) (hN : p + N ≤ n) :
    Li w (if N = 0 then a else Option.map (fun x : Addr => x.add p) a) N N ((l.drop p).take N) ∧ (N = 0 ∨ ∃ b off, (if N = 0 then a else Option.map (fun x => x.add p) a) = some ⟨b, off, none⟩ ∧ b < B) := by
  have hlim := h.li.hlim
  have hn := h.li.hn
  have hlen : ((l.drop p).take N).length = N := by rw [List.length_take, List.length_drop]; omega
  by_cases h0 : N = 0
  · subst h0
    rw [if_pos rfl]
    refine ⟨⟨?_, hlen, Nat.le_refl _, by omega, by omega, fun _ => rfl⟩, .inl rfl⟩
    rw [List.take_zero]
    exact AtL.nil _ _
  · obtain ⟨b, off, rfl, hb⟩ := h.lo.resolve_left (by omega)
    have e : (if N = 0 then some (⟨b, off, none⟩ : Addr) else Option.map (fun x : Addr => x.add p) (some (⟨b, off, none⟩ : Addr))) = some ⟨b, off + p, none⟩ := by
      rw [if_neg h0]
      unfold Addr.add
      by_cases hp : p = 0
      · subst hp; simp
      · simp [hp]
    rw [e]
    exact ⟨⟨h.li.hat.cut p N, hlen, Nat.le_refl _, by omega, by omega, fun h => by cases h⟩, .inr ⟨b, off + p, rfl, hb⟩⟩

set_option maxRecDepth 100000 in
set_option maxHeartbeats 1000000 in
theorem take_short (B : Nat) (a : Option Addr) (n cap : Nat) (l : List Nat) (p N : Nat) (w : World) (hR : Rdr w B a n cap l p) (hN : n - p < N) :
    Calls Tryz.prog 65 #[.pointer (some ⟨B, 0, none⟩), .int .u64 (N : Nat)] w fun e w' => e = thrown 41 ∧ Below B w w' := by
  have c0 := hR.c0
  have c1 := hR.c1
  have hle := hR.le
  have hlim := hR.li.hlim
  obtain ⟨F, hF⟩ : ∃ F, n - p = F := ⟨_, rfl⟩
  have hsub : IntKind.i64.wrap ((n : Int) - (p : Int)) = ((F : Nat) : Int) := by rw [IntWalk.i64_in _ (by omega)]; omega
  have hcv : IntKind.u64.wrap ((F : Nat) : Int) = ((F : Nat) : Int) := IntWalk.u64_in _ (by omega)
  have hB : decide (F < N) = true := decide_eq_true (by omega)
  have hBi : decide ((F : Int) < N) = true := decide_eq_true (by omega)
  clear hF hN
  go_enter Tryz.func65, Tryz.ntmps65
  go_wp2_with fail
  go_quiet (fail)
  go_wp2_with fail
  exact ⟨rfl, rfl, below_drewN' _ _ _⟩

set_option maxRecDepth 100000 in
set_option maxHeartbeats 1000000 in
theorem take_any (B : Nat) (a : Option Addr) (n cap : Nat) (l : List Nat) (p N : Nat) (w : World) (hR : Rdr w B a n cap l p) (hN : p + N ≤ n) :
    Calls Tryz.prog 65 #[.pointer (some ⟨B, 0, none⟩), .int .u64 (N : Nat)] w (Tk w B a n cap l p N) := by
  have c0 := hR.c0
  have c1 := hR.c1
  have z1 := hR.z1
  have hle := hR.le
  have hlim := hR.li.hlim
  have hmax := hR.li.hmax
  have hcap := hR.li.hcap
  obtain ⟨F, hF⟩ : ∃ F, n - p = F := ⟨_, rfl⟩
  have hsub : IntKind.i64.wrap ((n : Int) - (p : Int)) = ((F : Nat) : Int) := by rw [IntWalk.i64_in _ (by omega)]; omega
  have hcv : IntKind.u64.wrap ((F : Nat) : Int) = ((F : Nat) : Int) := IntWalk.u64_in _ (by omega)
  have hB : decide (F < N) = false := decide_eq_false (by omega)
  have hBi : decide ((F : Int) < N) = false := decide_eq_false (by omega)
  clear hF
  go_enter Tryz.func65, Tryz.ntmps65
  go_wp2_with fail
  go_quiet (fail)
  have e1 : ((p : Int) + (N : Int)) = ((p + N : Nat) : Int) := by omega
  have RM := Rdr.move (w := w.drewN nq) ⟨c0, c1, z1, hR.lo, ⟨hR.li.hat, hR.li.hn, hR.li.hcap, hR.li.hmax, hR.li.hlim, hR.li.hno⟩, hR.le⟩ (p + N) hN
  have hb2 := (below_drewN' B w nq).setCell (p := ⟨B, 1, none⟩) (Nat.le_refl _) (.int .i64 ((p + N : Nat) : Int))
  have hap : Apart B w ((w.drewN nq).setCell ⟨B, 1, none⟩ (.int .i64 ((p + N : Nat) : Int))) := fun k hk => Below.heap_setCell (w.drewN nq) ⟨B, 1, none⟩ _ k hk
  rw [← e1] at RM hb2 hap
  have E1 := Lib.hid e1
  clear e1
  go_wp2_with fail
  have c0' := RM.c0
  have c1' := RM.c1
  rw [← E1.out] at c1'
  generalize (w.drewN nq).setCell ⟨B, 1, none⟩ (.int .i64 ((p : Int) + N)) = w2 at *
  clear hB hBi hsub hcv c0 c1 z1
  have s1 : (p : Int) ≤ p + N := by omega
  have s2 : ¬ ((p : Int) + N < p) := by omega
  have s3 : (p : Int) + N ≤ cap := by omega
  have s4 : ((p : Int) + N).toNat = p + N := by omega
  go_quiet (fail)
  obtain ⟨q1, q2⟩ := li_cut RM p N hN
  generalize (if N = 0 then a else Option.map (fun x => x.add p) a) = a' at *
  clear s1 s2 s3 s4 c0' c1'
  go_wp2_with fail
  go_ret
  have k := below_drewN' w2.heap.size w2 nq
  exact ⟨a', rfl, q1.keeps k, q2, RM.keeps k, hb2.trans (below_drewN' B w2 nq), hap⟩

/-- What frame does. -/
def Fr (w : World) (B : Nat) (a : Option Addr) (n cap : Nat) (l : List Nat) (p : Nat) (r : RF) (e : Ending) (w' : World) : Prop :=
  match r with
  | .ok v k => ∃ g, e = .returned (.slice (some ⟨g, 0, none⟩) v.length v.length) ∧ w.heap.size ≤ g ∧ Ow w' g v.length v.length v ∧ Rdr w' B a n cap l (p + k) ∧ Below B w w'
  | .err c => e = thrown c ∧ Below B w w'
end Go.Proofs.YtnkdclodmeaihaaGreatDoor

namespace Go.Proofs.YtnkdclodmeaihaaGreatDoor
open Go.RowKit

/-- The checksum of bytes. -/
def cs (l : List Nat) : Nat := crc (ix l) l.length 0
theorem cs_lt {l : List Nat} (h : By l) : cs l < 4294967296 := crc_lt _ (by decide) h.ix
/-- Four bytes, the lowest one first. -/
def le4 (S : Nat) : List Nat := [S % 256, S / 256 % 256, S / 65536 % 256, S / 16777216 % 256]
theorem by_le4 (S : Nat) : By (le4 S) := by
  intro x hx
  simp only [le4, List.mem_cons, List.not_mem_nil, or_false] at hx
  rcases hx with rfl | rfl | rfl | rfl <;> omega
theorem le4_inj {S T : Nat} (hS : S < 4294967296) (hT : T < 4294967296) (h : le4 S = le4 T) : S = T := by
  simp only [le4, List.cons.injEq, and_true] at h
  omega
def pw (S i : Nat) : Nat := S / 2 ^ (8 * i) % 256
theorem le4_pw (S : Nat) : le4 S = [pw S 0, pw S 1, pw S 2, pw S 3] := by
  simp [le4, pw]
theorem sum_l {w : World} {a : Option Addr} {n cap : Nat} {l : List Nat} (h : Li w a n cap l) (h2 : n ≤ 140737488351232) :
    Calls Tryz.prog 62 #[.slice a n cap] w fun e w' => e = .returned (.int .u32 (cs l : Nat)) ∧ Below w.heap.size w w' := by
  have h1 := h.hat
  rw [← h.hn] at h2 ⊢
  exact sum_any a l.length cap (ix l) w h2 h1

set_option maxHeartbeats 1000000 in
theorem sumBytes_any (a : Option Addr) (n cap : Nat) (l : List Nat) (w : World) (hA : Li w a n cap l) (hl : n ≤ 140737488351232) :
    Calls Tryz.prog 35 #[.slice a n cap] w fun e w' => e = .returned (.agg #[.int .u8 (pw (cs l) 0 : Nat), .int .u8 (pw (cs l) 1 : Nat), .int .u8 (pw (cs l) 2 : Nat), .int .u8 (pw (cs l) 3 : Nat)]) ∧ Below w.heap.size w w' := by
  have hS := cs_lt hA.hat.by
  go_enter Tryz.func35, Tryz.ntmps35
  go_wp2_with fail
  have k0 := balloc (b0 w) (.cells #[.int .u8 0, .int .u8 0, .int .u8 0, .int .u8 0] 58)
  have W0 : Wr (w.alloc (.cells #[.int .u8 0, .int .u8 0, .int .u8 0, .int .u8 0] 58)) w.heap.size 4 (fun _ => 0) := by
    intro j hj
    have h : j = 0 ∨ j = 1 ∨ j = 2 ∨ j = 3 := by omega
    rcases h with rfl | rfl | rfl | rfl <;> simp [go_sem]
  generalize w.alloc (.cells #[.int .u8 0, .int .u8 0, .int .u8 0, .int .u8 0] 58) = w1 at *
  refine (sum_l (hA.keeps k0) hl).mono ?_
  rintro e w2 ⟨rfl, hb⟩
  replace W0 := W0.keeps hb
  have k1 := bnext k0 hb
  clear hb k0 hA
  obtain ⟨S, hSl⟩ : ∃ S, cs l = S := ⟨_, rfl⟩
  rw [hSl] at hS ⊢
  have HSL := Lib.hid hSl
  clear hSl
  go_wp2_with fail
  have hBl : w.heap.size ≤ w.heap.size := Nat.le_refl _
  obtain ⟨R, hR⟩ : ∃ R, w.heap.size = R := ⟨_, rfl⟩
  rw [hR] at W0 ⊢
  rw [hR] at hBl
  have hBl' : w.heap.size ≤ R := by omega
  clear hR hBl
  go_loopw [7] (fun s wr => ∃ (k : Nat) (f : Nat → Nat), s = .int .i64 k ∧ k ≤ 4 ∧ Wr wr R 4 f ∧ (∀ j, j < k → f j = pw S j) ∧ Below w.heap.size w wr) (fun s _ => 4 - (intOf s).toNat)
  case atStart => exact ⟨0, _, rfl, by omega, W0, fun j hj => by omega, k1⟩
  case round =>
    obtain ⟨k, f, rfl, hk, W, hf, kb⟩ := hrel
    have HF := Lib.hid hf
    clear hf W0 k1
    by_cases hlt : k < 4
    · have WS := W.set hlt (pw S k)
      have c0 := (W k hlt).1
      have z0 := (W k hlt).2
      have e1 : (S : Int) / 2 ^ (8 * k) % 256 = ((pw S k : Nat) : Int) := by unfold pw; simp
      have HS := Lib.hid hS
      have E1 := Lib.hid e1
      clear e1
      go_wp2_with fail
      rw [E1.out]
      refine ⟨⟨k + 1, _, by go_num, by omega, WS, fun j hj => ?_, kb.setCell (p := ⟨R, k, none⟩) hBl' _⟩, by simp only [intOf]; omega⟩
      by_cases hjk : j = k
      · rw [hjk, upd_at]
      · rw [upd_off _ _ _ hjk]
        exact HF.out j (by omega)
    · obtain rfl : k = 4 := by omega
      have f0 := HF.out 0 (by omega)
      have f1 := HF.out 1 (by omega)
      have f2 := HF.out 2 (by omega)
      have f3 := HF.out 3 (by omega)
      have c0 := (W 0 (by omega)).1
      have c1 := (W 1 (by omega)).1
      have c2 := (W 2 (by omega)).1
      have c3 := (W 3 (by omega)).1
      have z0 := (W 0 (by omega)).2
      have z1 := (W 1 (by omega)).2
      have z2 := (W 2 (by omega)).2
      have z3 := (W 3 (by omega)).2
      rw [f0] at c0
      rw [f1] at c1
      rw [f2] at c2
      rw [f3] at c3
      clear f0 f1 f2 f3 hlt
      go_wp2_with fail
      refine bodyPost_ret (v := .agg #[.int .u8 (pw S 0 : Nat), .int .u8 (pw S 1 : Nat), .int .u8 (pw S 2 : Nat), .int .u8 (pw S 3 : Nat)]) (by simp [results, Tryz.results35, go_sem, c0, c1, c2, c3]) rfl ⟨by rw [HSL.out], ?_⟩
      exact (((kb.setCell (p := ⟨R, 0, none⟩) hBl' _).setCell (p := ⟨R, 1, none⟩) hBl' _).setCell (p := ⟨R, 2, none⟩) hBl' _).setCell (p := ⟨R, 3, none⟩) hBl' _
end Go.Proofs.YtnkdclodmeaihaaGreatDoor

namespace Go.Proofs.YtnkdclodmeaihaaGreatDoor
open Go.RowKit

theorem sums_new (w : World) (S : Nat) : AtL (w.alloc (.cells #[.int .u8 (pw S 0 : Nat), .int .u8 (pw S 1 : Nat), .int .u8 (pw S 2 : Nat), .int .u8 (pw S 3 : Nat)] 58)) (some ⟨w.heap.size, 0, none⟩) (le4 S) := by
  refine ⟨.inr ⟨_, _, rfl, fun j hj => ?_⟩, (by_le4 S).ix⟩
  rw [le4_pw] at hj ⊢
  have h : j = 0 ∨ j = 1 ∨ j = 2 ∨ j = 3 := by simp at hj; omega
  rcases h with rfl | rfl | rfl | rfl <;> simp [go_sem, ix]

set_option maxRecDepth 20000 in
set_option maxHeartbeats 1000000 in
theorem appendFrame_any (a : Option Addr) (n cap : Nat) (l : List Nat) (a2 : Option Addr) (m cap2 : Nat) (r : List Nat) (w : World) (hA : Li w a n cap l) (hB : Li w a2 m cap2 r) (hlm : m ≤ 140737488351232) (hn : n + (m + 14) ≤ 281474976710656)
    (N : Nat) (hN : n + (en m).length + m + 4 = N) :
    Calls Tryz.prog 13 #[.slice a n cap, .slice a2 m cap2] w fun e w' => e = .returned (.slice (some ⟨w.heap.size, 0, none⟩) N (n + (m + 14))) ∧ Ow w' w.heap.size N (n + (m + 14)) (l ++ (en m ++ (r ++ le4 (cs r)))) ∧ Below w.heap.size w w' := by
  have h10 := en_ten (n := m) (by omega)
  have c1 := extensible_any a n cap (m + 14) l w hA hn (10 + m + 4) (by omega)
  have HN := Lib.hid hN
  clear hN hA
  go_enter Tryz.func13, Tryz.ntmps13
  go_wp2_with fail
  refine c1.mono ?_
  rintro e w1 ⟨rfl, O, b1⟩
  clear c1
  go_wp2_with fail
  refine (digits_any w.heap.size n (n + (m + 14)) l m w1 O (by omega) (by omega)).mono ?_
  rintro e w2 ⟨rfl, O2, b2⟩
  have b12 := b1.trans b2
  have hB2 := hB.keeps b12
  have hat := hB2.hat
  have HNO : Hid (a2 = none → cap2 = 0 ∧ m = 0) := Lib.hid fun e => ⟨hB.hno e, by have := hB.hno e; have := hB.hcap; omega⟩
  have HLN := Lib.hid hB.hn
  clear b1 b2 O
  go_wp2_with (at_builtin; refine wpList_fit _ rfl (.tmp 17) (.tmp 18) rfl w.heap.size (n + (en m).length) (n + (m + 14)) (l ++ en m) rfl O2 a2 m cap2 r rfl hat HLN.out HNO.out (by omega) ?_; intro w3 O3 b3)
  have b13 := b12.trans b3
  clear b12 b3 O2
  refine (sumBytes_any a2 m cap2 r w3 (hB.keeps b13) hlm).mono ?_
  rintro e w4 ⟨rfl, b4⟩
  replace O3 := O3.next b4
  have b14 := b13.trans (b4.mono b13.size)
  clear b13 b4 hat
  obtain ⟨S, hS⟩ : ∃ S, cs r = S := ⟨_, rfl⟩
  rw [hS]
  have HS := Lib.hid hS
  clear hS
  go_wp2_with (at_builtin; refine wpList_fit _ rfl (.tmp 22) (.tmp 23) rfl w.heap.size (n + (en m).length + m) (n + (m + 14)) (l ++ en m ++ r) rfl (O3.next (balloc (b0 _) _)) (some ⟨w4.heap.size, 0, none⟩) 4 4 (le4 S) rfl (sums_new w4 S) rfl (fun e => by cases e) (by omega) ?_; intro w5 O5 b5)
  go_ret
  rw [HN.out, List.append_assoc, List.append_assoc] at O5
  rw [HS.out]
  exact ⟨by rw [← HN.out]; rfl, O5, (b14.alloc b14.size _).trans b5⟩

theorem eq_lists {l r : List Nat} (h1 : By l) (h3 : By r) : ((st_of l).toList == (st_of r).toList) = decide (l = r) := by
  rw [ByteArray.toList_eq, ByteArray.toList_eq]
  by_cases h : l = r
  · subst h; simp
  · rw [decide_eq_false h]
    simp only [beq_eq_false_iff_ne, ne_eq]
    intro e
    apply h
    apply st_of_inj h1 h3
    unfold st_of at e ⊢
    simp only at e
    rw [e]

/-- bytes.Equal. -/
theorem equal_any (a : Option Addr) (n c : Nat) (l : List Nat) (a2 : Option Addr) (m d : Nat) (r : List Nat) (w : World) (h1 : AtL w a l) (h2 : l.length = n) (h3 : AtL w a2 r) (h4 : r.length = m) :
    Calls Tryz.prog 66 #[.slice a n c, .slice a2 m d] w fun e w' => e = .returned (.bool (decide (l = r))) ∧ w = w' := by
  have s1 := run_str h1 n c h2
  have s2 := run_str h3 m d h4
  have hb := eq_lists h1.by h3.by
  have HB := Lib.hid hb
  clear hb
  go_enter Tryz.func66, Tryz.ntmps66
  go_wp2_with fail
  go_ret
  exact ⟨by rw [← HB.out]; rfl, rfl⟩

/-- What reading a frame gives. -/
def rdF (L : List Nat) : RF :=
  match rd L 0 0 with
  | .err c => .err c
  | .ok N k => if 8192 < N then .err 2 else if L.length - k < N + 4 then .err 41 else if (L.drop (k + N)).take 4 = le4 (cs ((L.drop k).take N)) then .ok ((L.drop k).take N) (k + N + 4) else .err 40

theorem Li.apart {B : Nat} {w w' : World} {a : Option Addr} {n cap : Nat} {l : List Nat} (h : Li w a n cap l) (p : Apart B w.drew w') (lo : n = 0 ∨ ∃ b off, a = some ⟨b, off, none⟩ ∧ b < B) : Li w' a n cap l := by
  refine { h with hat := ?_ }
  rcases lo with h0 | ⟨b, off, rfl, hb⟩
  · have : l = [] := List.eq_nil_of_length_eq_zero (by rw [h.hn, h0])
    subst this
    exact AtL.nil _ _
  · exact AtL.apart p (Nat.ne_of_lt hb) (h.hat.keeps ((b0 w).drew))

set_option maxRecDepth 100000 in
set_option maxHeartbeats 2000000 in
theorem frame_read (B : Nat) (a : Option Addr) (n cap : Nat) (l : List Nat) (p : Nat) (w : World) (hR : Rdr w B a n cap l p) :
    Calls Tryz.prog 37 #[.pointer (some ⟨B, 0, none⟩)] w (Fr w B a n cap l p (rdF (l.drop p))) := by
  have hc := digits_read B a n cap l p w hR
  have hle := hR.le
  have hlim := hR.li.hlim
  have hln : l.length = n := hR.li.hn
  have hLl : (l.drop p).length = n - p := by rw [List.length_drop, hln]
  unfold rdF
  have hby : By (l.drop p) := hR.li.hat.by.drop p
  rcases hrd : rd (l.drop p) 0 0 with ⟨N, k⟩ | c
  · rw [hrd] at hc
    simp only
    obtain ⟨rest, hL, hk, hN64⟩ := rd_back hby hrd
    have hkl : k ≤ n - p := by rw [← hLl, hL, List.length_append]; omega
    rw [List.drop_drop, List.drop_drop, ← Nat.add_assoc, hLl]
    clear hrd hL hk hLl hby
    obtain ⟨q, hq⟩ : ∃ q, p + k = q := ⟨_, rfl⟩
    have hnq : n - p - k = n - q := by omega
    have hqn : q ≤ n := by omega
    rw [hq, hnq]
    have HQ := Lib.hid hq
    have HN64 := Lib.hid hN64
    clear hnq hq hkl hN64
    by_cases h1 : 8192 < N
    · rw [if_pos h1]
      have t1 : decide ((8192 : Int) < N) = true := decide_eq_true (by omega)
      go_enter Tryz.func37, Tryz.ntmps37
      go_wp2_with fail
      refine hc.mono ?_
      rintro e w1 ⟨rfl, R1, b1⟩
      go_wp2_with fail
      exact ⟨rfl, rfl, b1⟩
    · rw [if_neg h1]
      have t1 : decide ((8192 : Int) < N) = false := decide_eq_false (by omega)
      by_cases h2 : n - q < N
      · rw [if_pos (by omega)]
        go_enter Tryz.func37, Tryz.ntmps37
        go_wp2_with fail
        refine hc.mono ?_
        rintro e w1 ⟨rfl, R1, b1⟩
        rw [HQ.out] at R1
        go_wp2_with fail
        refine (take_short B a n cap l q N w1 R1 h2).mono ?_
        rintro e w2 ⟨rfl, b2⟩
        exact ⟨rfl, rfl, b1.trans b2⟩
      · obtain ⟨v, hv⟩ : ∃ v, (l.drop q).take N = v := ⟨_, rfl⟩
        rw [hv]
        have HV := Lib.hid hv
        clear hv
        by_cases h3 : n - q < N + 4
        · rw [if_pos h3]
          have hc2 : q + N ≤ n := by omega
          have hc3 : n - (q + N) < 4 := by omega
          clear h3 h2
          go_enter Tryz.func37, Tryz.ntmps37
          go_wp2_with fail
          refine hc.mono ?_
          rintro e w1 ⟨rfl, R1, b1⟩
          rw [HQ.out] at R1
          go_wp2_with fail
          refine (take_any B a n cap l q N w1 R1 hc2).mono ?_
          rintro e w2 ⟨a', rfl, L2, lo2, R2, b2, _⟩
          rw [HV.out] at L2
          replace b2 := b1.trans b2
          clear b1 R1
          go_wp2_with fail
          refine (sumBytes_any a' N N v w2 L2 (by omega)).mono ?_
          rintro e w3 ⟨rfl, b3⟩
          replace R2 := R2.keeps b3
          replace L2 := L2.keeps b3
          replace b2 := b2.trans (b3.mono (Nat.le_of_lt (Nat.lt_of_lt_of_le hR.lt b2.size)))
          clear b3
          have lt2 := R2.lt
          have S3 := sums_new w3 (cs v)
          have R3 := R2.keeps (balloc (b0 w3) (.cells #[.int .u8 (pw (cs v) 0 : Nat), .int .u8 (pw (cs v) 1 : Nat), .int .u8 (pw (cs v) 2 : Nat), .int .u8 (pw (cs v) 3 : Nat)] 58))
          have b4 : Below B w _ := b2.alloc (Nat.le_of_lt lt2) (.cells #[.int .u8 (pw (cs v) 0 : Nat), .int .u8 (pw (cs v) 1 : Nat), .int .u8 (pw (cs v) 2 : Nat), .int .u8 (pw (cs v) 3 : Nat)] 58)
          go_wp2_with fail
          generalize w3.alloc (.cells #[.int .u8 (pw (cs v) 0 : Nat), .int .u8 (pw (cs v) 1 : Nat), .int .u8 (pw (cs v) 2 : Nat), .int .u8 (pw (cs v) 3 : Nat)] 58) = w4 at *
          generalize w3.heap.size = g3 at *
          have T4 : Calls Tryz.prog 65 #[.pointer (some ⟨B, 0, none⟩), .int .u64 4] w4.drew fun e w' => e = thrown 41 ∧ Below B w4.drew w' := take_short B a n cap l (q + N) 4 w4.drew (R3.keeps ((b0 w4).drew)) hc3
          replace b4 := b4.drew
          clear S3 R3 hc
          refine wp_region_any (by kernel_rfl) ?_
          change wpAny _ _ _ _ _ _ _ (World.drew _)
          refine wpAny_take (i := 0) (v := ?_) rfl (by kernel_rfl) (by kernel_rfl) (by kernel_rfl) (fun _ _ _ h => h) (Or.inl ⟨by rfl, ?_⟩) ?_
          rotate_left
          · intro w; go_simp; with_reducible rfl
          refine wpAny_ready (rs := [1, 2]) (by kernel_rfl) (by simp) ?_
          refine AllReady.cons rfl (fun K hK => ?_) ?_
          · go_simp
            refine T4.mono ?_
            rintro e w5 ⟨rfl, b5⟩
            exact ⟨rfl, rfl, b4.trans b5⟩
          refine AllReady.cons rfl (fun K hK => ?_) AllReady.nil
          go_simp
          refine hK _ _ ?_
          clear hK K
          refine wpAny_ready (rs := [1]) (by kernel_rfl) (by simp) ?_
          refine AllReady.cons rfl (fun K hK => ?_) AllReady.nil
          go_simp
          refine T4.mono ?_
          rintro e w5 ⟨rfl, b5⟩
          exact ⟨rfl, rfl, b4.trans b5⟩
        · rw [if_neg h3]
          have hc2 : q + N ≤ n := by omega
          have hc3 : q + N + 4 ≤ n := by omega
          clear h3 h2
          obtain ⟨u, hu⟩ : ∃ u, (l.drop (q + N)).take 4 = u := ⟨_, rfl⟩
          have hq2 : p + (k + N) = q + N := by rw [← HQ.out]; omega
          have hq4 : q + N + 4 = p + (k + N + 4) := by rw [← HQ.out]; omega
          rw [hu]
          obtain ⟨r, hr⟩ : ∃ r, (if u = le4 (cs v) then RF.ok v (k + N + 4) else RF.err 40) = r := ⟨_, rfl⟩
          rw [hr]
          have HR := Lib.hid hr
          clear hr
          have HU := Lib.hid hu
          have HQ4 := Lib.hid hq4
          clear hu hq2 hq4
          go_enter Tryz.func37, Tryz.ntmps37
          go_wp2_with fail
          refine hc.mono ?_
          rintro e w1 ⟨rfl, R1, b1⟩
          rw [HQ.out] at R1
          go_wp2_with fail
          refine (take_any B a n cap l q N w1 R1 hc2).mono ?_
          rintro e w2 ⟨a', rfl, L2, lo2, R2, b2, _⟩
          rw [HV.out] at L2
          replace b2 := b1.trans b2
          clear b1 R1
          go_wp2_with fail
          refine (sumBytes_any a' N N v w2 L2 (by omega)).mono ?_
          rintro e w3 ⟨rfl, b3⟩
          replace R2 := R2.keeps b3
          replace L2 := L2.keeps b3
          replace b2 := b2.trans (b3.mono (Nat.le_of_lt (Nat.lt_of_lt_of_le hR.lt b2.size)))
          clear b3
          have lt2 := R2.lt
          have S3 := sums_new w3 (cs v)
          have g0 := balloc (b0 w3) (.cells #[.int .u8 (pw (cs v) 0 : Nat), .int .u8 (pw (cs v) 1 : Nat), .int .u8 (pw (cs v) 2 : Nat), .int .u8 (pw (cs v) 3 : Nat)] 58)
          have R3 := R2.keeps g0
          have L3 := L2.keeps g0
          have b4 : Below B w _ := b2.alloc (Nat.le_of_lt lt2) (.cells #[.int .u8 (pw (cs v) 0 : Nat), .int .u8 (pw (cs v) 1 : Nat), .int .u8 (pw (cs v) 2 : Nat), .int .u8 (pw (cs v) 3 : Nat)] 58)
          go_wp2_with fail
          generalize w3.alloc (.cells #[.int .u8 (pw (cs v) 0 : Nat), .int .u8 (pw (cs v) 1 : Nat), .int .u8 (pw (cs v) 2 : Nat), .int .u8 (pw (cs v) 3 : Nat)] 58) = w4 at *
          have hg3 : B < w3.heap.size := lt2
          generalize w3.heap.size = g3 at *
          clear g0 R2 L2 b2 lt2
          have T4 : Calls Tryz.prog 65 #[.pointer (some ⟨B, 0, none⟩), .int .u64 4] w4.drew (Tk w4.drew B a n cap l (q + N) 4) := take_any B a n cap l (q + N) 4 w4.drew (R3.keeps ((b0 w4).drew)) hc3
          replace b4 := b4.drew
          clear R3 hc
          go_region_with (first | (go_at_call 65; refine T4.mono ?_; rintro e w5 ⟨a5, rfl, L5, lo5, R5, b5, p5⟩; rw [HU.out] at L5; replace S3 := AtL.apart p5 (Nat.ne_of_gt hg3) (S3.keeps ((b0 w4).drew))) | (go_at_call 66; refine (equal_any a5 4 4 u (some ⟨g3, 0, none⟩) 4 4 (le4 (cs v)) w5 L5.hat L5.hn S3 rfl).mono ?_; rintro e w' ⟨rfl, rfl⟩))
          all_goals
            have L6 : Li w5 a' N N v := L3.apart p5 lo2
            have hvl : v.length = N := L3.hn
            have HVL := Lib.hid hvl
            have hbB := b4.trans b5
            clear T4 L3 S3 L5 lo5 p5 hvl
            by_cases hs : u = le4 (cs v)
            · have hd : decide (u = le4 (cs v)) = true := decide_eq_true hs
              have hr := HR.out
              rw [if_pos hs] at hr
              subst hr
              clear hs
              generalize decide (u = le4 (cs v)) = dd at *
              subst hd
              go_wp2_with fail
              refine (extensible_any a' N N 0 v w5 L6 (by omega) 0 rfl).mono ?_
              rintro e w6 ⟨rfl, O6, b6⟩
              go_wp2_with fail
              go_ret
              have hB5 := R5.lt
              rw [HQ4.out] at R5
              refine ⟨w5.heap.size, by rw [HVL.out]; rfl, hbB.size, by rw [HVL.out]; exact O6, R5.keeps b6, hbB.trans (b6.mono (Nat.le_of_lt hB5))⟩
            · have hd : decide (u = le4 (cs v)) = false := decide_eq_false hs
              have hr := HR.out
              rw [if_neg hs] at hr
              subst hr
              clear hs
              generalize decide (u = le4 (cs v)) = dd at *
              subst hd
              go_wp2_with fail
              exact ⟨rfl, rfl, hbB⟩
  · rw [hrd] at hc
    simp only
    clear hrd
    go_enter Tryz.func37, Tryz.ntmps37
    go_wp2_with fail
    refine hc.mono ?_
    rintro e w1 ⟨rfl, b1⟩
    exact ⟨rfl, rfl, b1⟩
end Go.Proofs.YtnkdclodmeaihaaGreatDoor
