/-
  The walk of WireFrames.
-/
import Derived.Test.YtegniedbiegcpaaLls
import Derived.Test.YtegniedbiegcpaaFrm
import Derived.Test.YtegniedbiegcpaaReads
namespace Go.Proofs.Ytegniedbiegcpaa
open Go.RowKit

theorem ix_mid (x r : List Nat) (S i : Nat) (hi : i < 4) : ix (x ++ (le4 S ++ r)) (x.length + i) = pw S i := by
  unfold ix
  rw [List.getD_eq_getElem?_getD, List.getElem?_append_right (by omega), Nat.add_sub_cancel_left, List.getElem?_append_left (by show i < 4; exact hi), le4_pw]
  match i, hi with
  | 0, _ => rfl
  | 1, _ => rfl
  | 2, _ => rfl
  | 3, _ => rfl

set_option maxRecDepth 100000 in
set_option maxHeartbeats 2000000 in
theorem walk_frames (a : Option Addr) (n cap : Nat) (q : Nat → Mb) (w : World) (hL : Ll w a n q) (hs : sm q n + n ≤ 1048576) :
    Calls Try.prog 6 #[.slice a n cap] w fun e w' => e = .returned (.bool true) ∧ Below w.heap.size w w' := by
  have HLen := Lib.hid fun (k : Nat) (hk : k ≤ n) => show (fr q k).length ≤ 15 * 1048576 from by
    have h1 := fr_len (q := q) (n := n) (fun i hi => ⟨(hL.2 i hi).hn, (hL.2 i hi).hlim⟩) hk
    have h2 := sm_le q hk
    omega
  have HM := Lib.hid fun (k : Nat) (hk : k < n) => show (q k).n ≤ 1048576 from by have := sm_at q hk; omega
  have hn : n ≤ 1048576 := by omega
  have HL := Lib.hid hL
  clear hL hs
  go_enter Try.func6, Try.ntmps6
  go_wp2_with fail
  refine (example_any _).mono ?_
  rintro e w1 ⟨rfl, kw⟩
  go_wp2_with fail
  go_loopw [4, 5] (fun v i wr => ∃ (k K c : Nat) (g : Option Addr), k ≤ n ∧ i = .int .i64 k ∧ v = .slice g K c ∧ Li wr g K c (fr q k) ∧ Below w.heap.size w wr) (fun _ i _ => n - (intOf i).toNat)
  case atStart => exact ⟨0, 0, 0, none, Nat.zero_le _, rfl, rfl, ⟨AtL.nil _ _, rfl, Nat.le_refl _, Nat.zero_le _, Nat.zero_le _, fun _ => rfl⟩, kw⟩
  case round =>
    obtain ⟨k, K, c, g, hk, rfl, rfl, LB, hb⟩ := hrel
    by_cases hlt : k < n
    · have LL := HL.out.keeps hb
      obtain ⟨b, off, rfl, hcell⟩ := LL.1.resolve_left (by omega)
      have hc := hcell k hlt
      have LI := LL.2 k hlt
      have hm := HM.out k hlt
      have hK : K ≤ 15 * 1048576 := by rw [← LB.hn]; exact HLen.out k hk
      have h10 := en_ten (n := (q k).n) (by omega)
      obtain ⟨N, hN⟩ : ∃ N, K + (en (q k).n).length + (q k).n + 4 = N := ⟨_, rfl⟩
      have hN2 : N ≤ 17 * 1048576 := by omega
      have C := Lib.hid (appendFrame_any g K c (fr q k) (q k).a (q k).n (q k).c (q k).l wr LB LI (by omega) (by omega) N hN)
      have e1 : fr q (k + 1) = fr q k ++ (en (q k).n ++ ((q k).l ++ le4 (cs (q k).l))) := rfl
      rw [← e1] at C
      clear e1 h10 hN hcell LL LB LI
      generalize (q k).a = am at *
      generalize (q k).n = mm at *
      generalize (q k).c = cm at *
      go_wp2_with fail
      refine C.out.mono ?_
      rintro e w2 ⟨rfl, O, b⟩
      have kb := bnext hb b
      go_wp2_with fail
      exact ⟨⟨k + 1, N, _, _, by omega, by go_num, rfl, O.li (by omega), kb⟩, by simp only [intOf]; omega⟩
    · obtain rfl : k = n := by omega
      have hF : (fr q k).length = K := LB.hn
      have hb1 := b0 wr
      generalize hw1 : wr = w2 at hb LB
      go_wp2_with fail
      go_loopw [6, 7] (fun s i wr => ∃ (j J : Nat), j ≤ k ∧ i = .int .i64 j ∧ s = .int .i64 (J : Int) ∧ (fr q j).length = J ∧ Below w2.heap.size w2 wr) (fun _ i _ => k - (intOf i).toNat)
      case atStart => exact ⟨0, 0, by omega, rfl, rfl, rfl, b0 w2⟩
      case round =>
        obtain ⟨j, J, hj, rfl, rfl, hJ, h2⟩ := hrel
        by_cases hlt2 : j < k
        · have LL := HL.out.keeps (bnext hb h2)
          obtain ⟨b, off, rfl, hcell⟩ := LL.1.resolve_left (by omega)
          have hc := hcell j hlt2
          have LI := LL.2 j hlt2
          have hm := HM.out j hlt2
          have LBk := LB.keeps h2
          obtain ⟨r, hr⟩ := fr_split q hlt2
          have hKl : K = J + ((en (q j).n).length + (q j).n + 4) + r.length := by
            have h4 : (le4 (cs (q j).l)).length = 4 := rfl
            have := LI.hn
            rw [← hF, hr]
            simp only [List.length_append, hJ, h4, this]
            omega
          have hK15 : K ≤ 15 * 1048576 := by rw [← hF]; exact HLen.out k (Nat.le_refl _)
          have cF := readF_any g K c (fr q k) (J : Int) wr LBk
          by_cases h8 : (q j).n ≤ 8192
          · have hB8 : decide ((8192 : Int) < ((q j).n : Int)) = false := decide_eq_false (by omega)
            have hrF : rF (fr q k) (J : Int) = .ok (q j).l (J + ((en (q j).n).length + (q j).n + 4)) := by
              have := rF_back (fr q j) (q j).l r (by rw [LI.hn]; exact h8)
              rw [LI.hn, ← hr, hJ] at this
              exact this
            rw [hrF] at cF
            obtain ⟨N, hN⟩ : ∃ N, J + ((en (q j).n).length + (q j).n + 4) = N := ⟨_, rfl⟩
            have hN1 : (fr q (j + 1)).length = N := by
              have h4 : (le4 (cs (q j).l)).length = 4 := rfl
              show (fr q j ++ (en (q j).n ++ ((q j).l ++ le4 (cs (q j).l)))).length = N
              simp only [List.length_append, hJ, h4, LI.hn]
              omega
            have HN1 := Lib.hid hN1
            rw [hN] at cF hKl
            clear hrF hN1 hcell LL
            have hln := LI.hn
            have HLI := Lib.hid LI
            have HLB := Lib.hid LBk
            have HC := Lib.hid cF
            have hJN : J + 4 ≤ N := by omega
            have hNK : N ≤ K := by omega
            clear hKl
            have HNN := Lib.hid hN
            have HR := Lib.hid hr
            clear hN hr
            generalize (q j).a = am at *
            generalize (q j).n = mm at *
            generalize (q j).c = cm at *
            generalize (q j).l = tm at *
            clear cF LI LBk
            go_wp2_with fail
            refine HC.out.mono ?_
            rintro e w3 ⟨gp, rfl, hgp, OP, b3⟩
            rw [hln]
            replace h2 := bnext h2 b3
            have LP := OP.at
            clear OP HC
            have hcc := Go.Proofs.Ytegniedbiegcpaa.keeps b3 hc
            have s1 : ∀ j, (convert 22 9 (.slice (some ⟨gp, 0, none⟩) mm mm)).run Try.prog (w3.drewN j) = .ok (.string (st_of tm)) (w3.drewN j) := fun j => run_str (LP.keeps (below_drewN' _ _ j)) mm mm hln
            have s2 : ∀ j, (convert 22 9 (.slice am mm cm)).run Try.prog (w3.drewN j) = .ok (.string (st_of tm)) (w3.drewN j) := fun j => run_str ((HLI.out.hat.keeps b3).keeps (below_drewN' _ _ j)) mm cm hln
            have wr4 : IntKind.i64.wrap ((N : Int) - 4) = (N : Int) - 4 := IntWalk.i64_in _ (by omega)
            have d1 : decide ((N : Int) - 4 < (J : Int)) = false := decide_eq_false (by omega)
            have d2 : decide ((K : Int) < (N : Int)) = false := decide_eq_false (by omega)
            have d2' : decide (K < N) = false := decide_eq_false (by omega)
            go_upto_region 14 with fail
            go_quiet (fail)
            have h4 := h2.trans ((below_drewN' _ w3 nq).mono h2.size)
            have b4 := b3.trans ((below_drewN' _ w3 nq).mono b3.size)
            have hc4 := Go.Proofs.Ytegniedbiegcpaa.keeps b4 hc
            have LB4 := HLB.out.keeps b4
            have LI4 := HLI.out.keeps b4
            clear LP hcc s1 s2 d1 d2 d2' wr4 b3 h2 hc HLB HLI hgp
            generalize w3.drewN nq = w4 at *
            obtain ⟨bg, og, rfl, hB⟩ := LB4.hat.1.resolve_left (by omega)
            obtain ⟨E0, hE0⟩ : ∃ E, N - 4 = E := ⟨_, rfl⟩
            obtain ⟨E1, hE1⟩ : ∃ E, N - 3 = E := ⟨_, rfl⟩
            obtain ⟨E2, hE2⟩ : ∃ E, N - 2 = E := ⟨_, rfl⟩
            obtain ⟨E3, hE3⟩ : ∃ E, N - 1 = E := ⟨_, rfl⟩
            have hcs : cs tm < 4294967296 := cs_lt LI4.hat.by
            obtain ⟨S, hS⟩ : ∃ S, cs tm = S := ⟨_, rfl⟩
            have hmid : ∀ i, i < 4 → ix (fr q k) (E0 + i) = pw S i := fun i hi => by
              rw [HR.out, hS]
              have e : fr q j ++ (en mm ++ (tm ++ (le4 S ++ r))) = (fr q j ++ en mm ++ tm) ++ (le4 S ++ r) := by simp only [List.append_assoc]
              have hl : (fr q j ++ en mm ++ tm).length = E0 := by
                have := HNN.out
                simp only [List.length_append, hJ, hln]
                omega
              rw [e, ← hl]
              exact ix_mid _ _ _ _ hi
            have x0 : w4.cell? ⟨bg, og + E0, none⟩ = some (.int .u8 (pw S 0 : Nat)) := by
              rw [hB E0 (by rw [hF]; omega)]; have := hmid 0 (by omega); rw [Nat.add_zero] at this; rw [this]
            have x1 : w4.cell? ⟨bg, og + E1, none⟩ = some (.int .u8 (pw S 1 : Nat)) := by
              rw [hB E1 (by rw [hF]; omega)]; have := hmid 1 (by omega); rw [show E0 + 1 = E1 by omega] at this; rw [this]
            have x2 : w4.cell? ⟨bg, og + E2, none⟩ = some (.int .u8 (pw S 2 : Nat)) := by
              rw [hB E2 (by rw [hF]; omega)]; have := hmid 2 (by omega); rw [show E0 + 2 = E2 by omega] at this; rw [this]
            have x3 : w4.cell? ⟨bg, og + E3, none⟩ = some (.int .u8 (pw S 3 : Nat)) := by
              rw [hB E3 (by rw [hF]; omega)]; have := hmid 3 (by omega); rw [show E0 + 3 = E3 by omega] at this; rw [this]
            have v0 : IntKind.i64.wrap ((N : Int) - 4) = (E0 : Int) := by rw [show (N : Int) - 4 = (E0 : Int) by omega]; exact IntWalk.i64_in _ (by omega)
            have v1 : IntKind.i64.wrap ((N : Int) - 3) = (E1 : Int) := by rw [show (N : Int) - 3 = (E1 : Int) by omega]; exact IntWalk.i64_in _ (by omega)
            have v2 : IntKind.i64.wrap ((N : Int) - 2) = (E2 : Int) := by rw [show (N : Int) - 2 = (E2 : Int) by omega]; exact IntWalk.i64_in _ (by omega)
            have v3 : IntKind.i64.wrap ((N : Int) - 1) = (E3 : Int) := by rw [show (N : Int) - 1 = (E3 : Int) by omega]; exact IntWalk.i64_in _ (by omega)
            have l0 : E0 < K := by omega
            have l1 : E1 < K := by omega
            have l2 : E2 < K := by omega
            have l3 : E3 < K := by omega
            have HS := Lib.hid hS
            clear hE0 hE1 hE2 hE3 hmid hB hS
            have p0 : pw S 0 < 256 := Nat.mod_lt _ (by decide)
            have p1 : pw S 1 < 256 := Nat.mod_lt _ (by decide)
            have p2 : pw S 2 < 256 := Nat.mod_lt _ (by decide)
            have p3 : pw S 3 < 256 := Nat.mod_lt _ (by decide)
            have hSum : S = pw S 0 + pw S 1 * 256 + pw S 2 * 65536 + pw S 3 * 16777216 := by
              rw [HS.out] at hcs
              unfold pw
              omega
            have HSum := Lib.hid hSum
            clear hSum
            generalize pw S 0 = y0 at *
            generalize pw S 1 = y1 at *
            generalize pw S 2 = y2 at *
            generalize pw S 3 = y3 at *
            go_upto_region 16 with fail
            go_quiet (fail)
            rw [show ((y0 : Int) + (y1 : Int) * 256 + (y2 : Int) * 65536 + (y3 : Int) * 16777216) = (S : Int) by have := HSum.out; omega]
            have h5 := h4.trans ((below_drewN' _ w4 nq).mono h4.size)
            have hc5 := Go.Proofs.Ytegniedbiegcpaa.keeps (below_drewN' _ w4 nq) hc4
            have LI5 := LI4.keeps (below_drewN' _ w4 nq)
            clear x0 x1 x2 x3 LI4 LB4 hc4 h4 b4 HSum p0 p1 p2 p3 v0 v1 v2 v3 l0 l1 l2 l3
            generalize w4.drewN nq = w5 at *
            have C5 := sum_l LI5 (by omega)
            rw [HS.out] at C5
            have qS : ((S : Int) != (S : Int)) = false := by simp
            go_wp2_with fail
            refine C5.mono ?_
            rintro e w6 ⟨rfl, b6⟩
            have h6 := bnext h5 b6
            go_wp2_with fail
            exact ⟨⟨j + 1, N, by omega, by go_num, rfl, HN1.out, h6⟩, by simp only [intOf]; omega⟩
          · have hB8 : decide ((8192 : Int) < ((q j).n : Int)) = true := decide_eq_true (by omega)
            have hrF : rF (fr q k) (J : Int) = .err 2 := by
              have := rF_big (fr q j) (q j).l ((q j).l ++ (le4 (cs (q j).l) ++ r)) (by rw [LI.hn]; exact h8) (by rw [LI.hn]; omega)
              rw [LI.hn, ← hr, hJ] at this
              exact this
            rw [hrF] at cF
            have HC := Lib.hid cF
            clear cF hrF hKl hr hcell LL LI LBk
            generalize (q j).a = am at *
            generalize (q j).n = mm at *
            generalize (q j).c = cm at *
            go_wp2_with fail
            refine HC.out.mono ?_
            rintro e w3 ⟨rfl, b3⟩
            have h3 := bnext h2 b3
            have hcc := Go.Proofs.Ytegniedbiegcpaa.keeps b3 hc
            clear HC
            go_wp2_with fail
            go_ret
            exact ⟨rfl, bnext hb h3⟩
        · obtain rfl : j = k := by omega
          have hJK : K = J := by omega
          subst hJK
          have qJ : ((K : Int) == (K : Int)) = true := by simp
          have h3 := bnext hb h2
          clear LB
          go_wp2_with fail
          go_ret
          exact ⟨rfl, h3⟩
end Go.Proofs.Ytegniedbiegcpaa
