/-
  lexer.Join.
-/
import Derived.Test.YtkgclmikhpjheaaGreatDoorZJnp
namespace Go.Proofs.YtkgclmikhpjheaaGreatDoor
open Go.RowKit dec

theorem sl_take {w : World} {a : Option Addr} {n cap : Nat} {l : List Tk} (h : tk.Sl w a n cap l) {m : Nat} (hm : m ≤ n) : tk.Sl w a m cap (l.take m) := by
  refine ⟨?_, by rw [List.length_take, h.hn]; omega, by have := h.hcap; omega, h.hmax, h.hno⟩
  rcases h.hat with h0 | ⟨b, off, e, hC⟩
  · exact .inl (by rw [List.length_take]; omega)
  · exact .inr ⟨b, off, e, hC.take m⟩
set_option maxRecDepth 100000 in
set_option maxHeartbeats 8000000 in
theorem join_go (a : Option Addr) (n cap : Nat) (l : List Tk) (w : World) (hS : tk.Sl w a n cap l) (hF : fewT l) (T : Tabs w) :
    Calls Tryz.prog 24 #[.slice a n cap] w fun e w' => JR w w' e l := by
  have T0 := Lib.hid T
  have hn := hS.hn
  by_cases h0 : n = 0
  · have hl0 : l = [] := List.eq_nil_of_length_eq_zero (by omega)
    obtain ⟨L, hLq⟩ : ∃ L, L = l := ⟨_, rfl⟩
    have hL : stripE l = L := by rw [hLq, hl0]; rfl
    have hJ := Lib.hid (show Lib.join (L.map so) [32] = joinL l by unfold joinL; rw [hL])
    have EY := Lib.hid (show allP L = true → joinE l = if 16384 < (joinL l).length then 2 else 0 by intro h; unfold joinE; rw [hL, if_pos h])
    have EN := Lib.hid (show allP L = false → joinE l = 3 by intro h; unfold joinE; rw [hL, if_neg (by rw [h]; decide)])
    have FW := Lib.hid (show fewT L by rw [← hL]; exact few_strip hF)
    obtain ⟨m, hmq⟩ : ∃ m, m = n := ⟨_, rfl⟩
    have S0 := Lib.hid (show tk.Sl w a m cap L by rw [hLq, hmq]; exact hS)
    rw [← hmq] at h0 ⊢
    have q0 : ¬ (0 : Int) ≤ (m : Int) - 1 := by omega
    clear hS hn hl0 hLq hL T hF hmq
    replace h0 := Lib.hid h0
    go_enter Tryz.func24, Tryz.ntmps24
    go_wp2_with fail
    go_loopw [5, 35] (fun vs vi wr => ∃ j : Nat, vi = .int .i64 (j : Nat) ∧ Hid (j ≤ m) ∧ Hid (OS wr w.heap.size vs ((L.take j).map fun x => (⟨(so x).toArray⟩ : ByteArray))) ∧ Hid (allP (L.take j) = true) ∧ Hid (Below w.heap.size w wr)) (fun _ vi _ => m - (intOf vi).toNat)
    case atStart => exact ⟨0, rfl, Lib.hid (Nat.zero_le _), Lib.hid (OS.nil _ _), Lib.hid rfl, Lib.hid (b0 w)⟩
    case round =>
      obtain ⟨j, rfl, hj, hO, hA, hb⟩ := hrel
      by_cases hc : j < m
      · exact absurd hc (by have := h0.out; omega)
      · have q2 : decide ((j : Int) < (m : Int)) = false := decide_eq_false (by omega)
        rw [show L.take j = L from List.take_of_length_le (by have := S0.out.hn; omega)] at hO hA
        have EA := EY.out hA.out
        have JC := Lib.hid (join_any _ (L.map fun x => (⟨(so x).toArray⟩ : ByteArray)) w.heap.size wr hO.out (by rw [List.length_map]; have := FW.out.2; omega) (by rw [so_map]; exact join_few FW.out))
        rw [so_map, hJ.out] at JC
        have hJz := Lib.hid (show (joinL l).length ≤ 140737488355328 by rw [← hJ.out]; exact join_few FW.out)
        obtain ⟨s1, hs1⟩ : ∃ s1 : ByteArray, s1 = ⟨(joinL l).toArray⟩ := ⟨_, rfl⟩
        have hsd : s1.data.toList = joinL l := by rw [hs1]
        have hsz : s1.size = (joinL l).length := by rw [← str_len, hsd]
        rw [← hs1] at JC
        rw [← hsz] at EA hJz
        clear hO hA
        by_cases hbig : 16384 < s1.size
        · rw [if_pos hbig] at EA
          replace EA := Lib.hid EA
          have qb : decide (16384 < (s1.size : Int)) = true := decide_eq_true (by omega)
          clear hs1 hsz hsd
          go_wp2_with fail
          refine JC.out.mono ?_
          rintro e w2 ⟨rfl, b2⟩
          have B2 := Lib.hid (bnext hb.out b2)
          obtain ⟨w3, c, hcv, hB, b3⟩ := bytes_of w2 s1 (by have := hJz.out; omega)
          have B3 := Lib.hid (bnext B2.out b3)
          clear b2 b3 hB
          go_wp2_with fail
          go_ret2
          exact ⟨.empty, none, 0, by unfold joinB; rw [EA.out]; rfl, by rw [EA.out]; rfl, ⟨.inl rfl, rfl, by decide, by decide, fun _ => rfl⟩, B3.out⟩
        · rw [if_neg hbig] at EA
          replace EA := Lib.hid EA
          have hjb := Lib.hid (show s1.data.toList = joinB l by unfold joinB; rw [EA.out, if_pos rfl, hsd])
          have qb : decide (16384 < (s1.size : Int)) = false := decide_eq_false (by omega)
          clear hs1 hsz hsd
          go_wp2_with fail
          refine JC.out.mono ?_
          rintro e w2 ⟨rfl, b2⟩
          have B2 := Lib.hid (bnext hb.out b2)
          obtain ⟨w3, c, hcv, hB, b3⟩ := bytes_of w2 s1 (by have := hJz.out; omega)
          have B3 := Lib.hid (bnext B2.out b3)
          have BS := Lib.hid hB
          clear b2 b3 hB
          go_wp2_with fail
          go_ret2
          exact ⟨s1, _, c, hjb.out, by rw [EA.out]; rfl, BS.out, B3.out⟩
  · obtain ⟨p, rfl⟩ : ∃ p, n = p + 1 := ⟨n - 1, by omega⟩
    obtain ⟨bk0, off0, rfl, hC0⟩ := hS.hat.resolve_left (by omega)
    obtain ⟨k0, k1, k2⟩ := hC0 p (by omega)
    have hp1 : l.length - 1 = p := by omega
    have hlast : stripE l = if (tk.gt l p).k = 6 ∧ (tk.gt l p).t.size = 0 then l.take p else l := by
      unfold stripE
      rw [hp1]
      have : l ≠ [] := fun e => by rw [e] at hn; cases hn
      simp only [this, ne_eq, not_false_eq_true, true_and]
    have hcap := hS.hcap
    have hpz : p ≤ 100000 := by have := hF.2; omega
    have q0 : (0 : Int) ≤ (p : Int) := by omega
    clear hC0 h0 hp1
    generalize tk.gt l p = x at *
    obtain ⟨xk, xt, xa⟩ := x
    simp only at k0 k1 k2 hlast
    by_cases h6 : xk = 6
    · by_cases ht : xt.size = 0
      · have e1 : (xk == 6) = true := by rw [h6]; rfl
        have e2 : (xt.toList == []) = true := by rw [toList_nil]; exact decide_eq_true ht
        rw [if_pos ⟨h6, ht⟩] at hlast
        obtain ⟨L, hLq⟩ : ∃ L, L = l.take p := ⟨_, rfl⟩
        have hL : stripE l = L := by rw [hlast, hLq]
        have hJ := Lib.hid (show Lib.join (L.map so) [32] = joinL l by unfold joinL; rw [hL])
        have EY := Lib.hid (show allP L = true → joinE l = if 16384 < (joinL l).length then 2 else 0 by intro h; unfold joinE; rw [hL, if_pos h])
        have EN := Lib.hid (show allP L = false → joinE l = 3 by intro h; unfold joinE; rw [hL, if_neg (by rw [h]; decide)])
        have FW := Lib.hid (show fewT L by rw [← hL]; exact few_strip hF)
        obtain ⟨m, hmq⟩ : ∃ m, m = p := ⟨_, rfl⟩
        have S0 := Lib.hid (show tk.Sl w (some ⟨bk0, off0, none⟩) m cap L by rw [hLq, hmq]; exact sl_take hS (by omega))
        rw [← hmq] at k0 k1 k2 hcap hpz q0 ⊢
        clear hS hn hLq hL T hF hmq hlast h6 ht
        go_enter Tryz.func24, Tryz.ntmps24
        go_wp2_with fail
        clear k0 k1 k2
        go_loopw [5, 35] (fun vs vi wr => ∃ j : Nat, vi = .int .i64 (j : Nat) ∧ Hid (j ≤ m) ∧ Hid (OS wr w.heap.size vs ((L.take j).map fun x => (⟨(so x).toArray⟩ : ByteArray))) ∧ Hid (allP (L.take j) = true) ∧ Hid (Below w.heap.size w wr)) (fun _ vi _ => m - (intOf vi).toNat)
        case atStart => exact ⟨0, rfl, Lib.hid (Nat.zero_le _), Lib.hid (OS.nil _ _), Lib.hid rfl, Lib.hid (b0 w)⟩
        case round =>
          obtain ⟨j, rfl, hj, hO, hA, hb⟩ := hrel
          by_cases hc : j < m
          · have hln := Lib.hid (show j < L.length by have := S0.out.hn; omega)
            obtain ⟨bk, off, hab, hC⟩ := (S0.out.keeps hb.out).hat.resolve_left (by have := hln.out; omega)
            cases hab
            obtain ⟨c0, c1, c2⟩ := hC j hln.out
            have q2 : decide ((j : Int) < (m : Int)) = true := decide_eq_true (by omega)
            have q3 : j < m := hc
            have f4 := Lib.hid (next_at (j := j) (by have := FW.out.2; have := hln.out; omega))
            have hmem := tk.gt_mem hln.out
            have hxz := FW.out.1 _ hmem
            have hzs : (⟨(so (tk.gt L j)).toArray⟩ : ByteArray).size ≤ 1048576 := by
              have h1 := so_size (tk.gt L j)
              have h2 := str_len ⟨(so (tk.gt L j)).toArray⟩
              have h3 : (⟨(so (tk.gt L j)).toArray⟩ : ByteArray).data.toList.length = (so (tk.gt L j)).length := rfl
              omega
            have SC := Lib.hid (fun W => source_any (tk.gt L j) hxz W)
            have IC := Lib.hid (fun W T => isToken_any (tk.gt L j).k ⟨(so (tk.gt L j)).toArray⟩ hzs W T)
            rw [prB_so] at IC
            have hnx := Lib.hid (all_next hln.out hA.out)
            have hno := Lib.hid (fun h => EN.out (all_no hln.out h))
            have htk := Lib.hid (tk.take_gt hln.out)
            have hl8 := Lib.hid (show ((L.take j).map fun x => (⟨(so x).toArray⟩ : ByteArray)).length < 5864062014805 by have := FW.out.2; rw [List.length_map, List.length_take]; omega)
            clear hC hmem hxz hzs
            generalize tk.gt L j = x at *
            obtain ⟨xk, xt, xa⟩ := x
            simp only at c0 c1 c2 SC IC
            have BB := Lib.hid (tk.Bw.new wr ⟨xk, xt, xa⟩ 79)
            have BW := Lib.hid (balloc hb.out (.cells #[.int .i64 xk, .string xt, .int .i64 xa] 79))
            have O1 := Lib.hid (hO.out.keeps (balloc (b0 wr) (.cells #[.int .i64 xk, .string xt, .int .i64 xa] 79)))
            generalize hs1 : (⟨(so ⟨xk, xt, xa⟩).toArray⟩ : ByteArray) = s1 at *
            replace hs1 := Lib.hid hs1
            cases hp : pr ⟨xk, xt, xa⟩
            · rw [hp] at IC
              have hE := Lib.hid (hno.out hp)
              clear hp hno hnx
              go_wp2_with fail
              refine (SC.out _).mono ?_
              rintro e w2 ⟨rfl, b2⟩
              have B2 := Lib.hid (bnext BW.out b2)
              have BB2 := BB.out.keeps b2
              obtain ⟨d0, d1, d2⟩ := BB2
              simp only at d0 d1 d2
              clear b2
              go_wp2_with fail
              refine (IC.out _ (T0.out.stays B2.out)).mono ?_
              rintro e w3 ⟨rfl, b3⟩
              have B3 := Lib.hid (bnext B2.out b3)
              clear b3 d0 d1 d2
              go_wp2_with fail
              go_ret2
              exact ⟨.empty, none, 0, by unfold joinB; rw [hE.out]; rfl, by rw [hE.out]; rfl, ⟨.inl rfl, rfl, by decide, by decide, fun _ => rfl⟩, B3.out⟩
            · rw [hp] at IC hnx
              clear hp hno
              go_wp2_with fail
              refine (SC.out _).mono ?_
              rintro e w2 ⟨rfl, b2⟩
              have B2 := Lib.hid (bnext BW.out b2)
              have O2 := Lib.hid (O1.out.keeps b2)
              have BB2 := BB.out.keeps b2
              obtain ⟨d0, d1, d2⟩ := BB2
              simp only at d0 d1 d2
              clear b2
              go_wp2_with fail
              refine (IC.out _ (T0.out.stays B2.out)).mono ?_
              rintro e w3 ⟨rfl, b3⟩
              have B3 := Lib.hid (bnext B2.out b3)
              have O3 := Lib.hid (O2.out.keeps b3)
              clear b3 d0 d1 d2
              go_wp2_with (at_builtin; refine is_appS (.tmp 46) (.tmp 48) rfl ?_; refine wpList_pushS _ rfl (.tmp 46) (.tmp 48) rfl w.heap.size _ _ rfl (O3.out.keeps (balloc (b0 w3) _)) w3.heap.size s1 rfl (by simp [go_sem]) hl8.out (by have := B3.out.size; simp; omega) ?_; intro v2 w6 O6 b6)
              have B6 := Lib.hid ((balloc B3.out (.cells #[.string s1] 9)).trans b6)
              have O7 := Lib.hid (show OS w6 w.heap.size v2 ((L.take (j + 1)).map fun x => (⟨(so x).toArray⟩ : ByteArray)) by rw [htk.out, List.map_append, List.map_singleton, hs1.out]; exact O6)
              clear b6 O6
              go_wp2_with fail
              exact ⟨⟨j + 1, by first | exact congrArg (Value.int .i64) f4.out | rfl, Lib.hid hc, O7, hnx, B6⟩, by first | exact less_at hc f4.out | exact less_dn2 hc⟩
          · have q2 : decide ((j : Int) < (m : Int)) = false := decide_eq_false (by omega)
            rw [show L.take j = L from List.take_of_length_le (by have := S0.out.hn; omega)] at hO hA
            have EA := EY.out hA.out
            have JC := Lib.hid (join_any _ (L.map fun x => (⟨(so x).toArray⟩ : ByteArray)) w.heap.size wr hO.out (by rw [List.length_map]; have := FW.out.2; omega) (by rw [so_map]; exact join_few FW.out))
            rw [so_map, hJ.out] at JC
            have hJz := Lib.hid (show (joinL l).length ≤ 140737488355328 by rw [← hJ.out]; exact join_few FW.out)
            obtain ⟨s1, hs1⟩ : ∃ s1 : ByteArray, s1 = ⟨(joinL l).toArray⟩ := ⟨_, rfl⟩
            have hsd : s1.data.toList = joinL l := by rw [hs1]
            have hsz : s1.size = (joinL l).length := by rw [← str_len, hsd]
            rw [← hs1] at JC
            rw [← hsz] at EA hJz
            clear hO hA
            by_cases hbig : 16384 < s1.size
            · rw [if_pos hbig] at EA
              replace EA := Lib.hid EA
              have qb : decide (16384 < (s1.size : Int)) = true := decide_eq_true (by omega)
              clear hs1 hsz hsd
              go_wp2_with fail
              refine JC.out.mono ?_
              rintro e w2 ⟨rfl, b2⟩
              have B2 := Lib.hid (bnext hb.out b2)
              obtain ⟨w3, c, hcv, hB, b3⟩ := bytes_of w2 s1 (by have := hJz.out; omega)
              have B3 := Lib.hid (bnext B2.out b3)
              clear b2 b3 hB
              go_wp2_with fail
              go_ret2
              exact ⟨.empty, none, 0, by unfold joinB; rw [EA.out]; rfl, by rw [EA.out]; rfl, ⟨.inl rfl, rfl, by decide, by decide, fun _ => rfl⟩, B3.out⟩
            · rw [if_neg hbig] at EA
              replace EA := Lib.hid EA
              have hjb := Lib.hid (show s1.data.toList = joinB l by unfold joinB; rw [EA.out, if_pos rfl, hsd])
              have qb : decide (16384 < (s1.size : Int)) = false := decide_eq_false (by omega)
              clear hs1 hsz hsd
              go_wp2_with fail
              refine JC.out.mono ?_
              rintro e w2 ⟨rfl, b2⟩
              have B2 := Lib.hid (bnext hb.out b2)
              obtain ⟨w3, c, hcv, hB, b3⟩ := bytes_of w2 s1 (by have := hJz.out; omega)
              have B3 := Lib.hid (bnext B2.out b3)
              have BS := Lib.hid hB
              clear b2 b3 hB
              go_wp2_with fail
              go_ret2
              exact ⟨s1, _, c, hjb.out, by rw [EA.out]; rfl, BS.out, B3.out⟩
      · have e1 : (xk == 6) = true := by rw [h6]; rfl
        have e2 : (xt.toList == []) = false := by rw [toList_nil]; exact decide_eq_false ht
        rw [if_neg (fun h => ht h.2)] at hlast
        obtain ⟨L, hLq⟩ : ∃ L, L = l := ⟨_, rfl⟩
        have hL : stripE l = L := by rw [hlast, hLq]
        have hJ := Lib.hid (show Lib.join (L.map so) [32] = joinL l by unfold joinL; rw [hL])
        have EY := Lib.hid (show allP L = true → joinE l = if 16384 < (joinL l).length then 2 else 0 by intro h; unfold joinE; rw [hL, if_pos h])
        have EN := Lib.hid (show allP L = false → joinE l = 3 by intro h; unfold joinE; rw [hL, if_neg (by rw [h]; decide)])
        have FW := Lib.hid (show fewT L by rw [← hL]; exact few_strip hF)
        have S0 := Lib.hid (show tk.Sl w (some ⟨bk0, off0, none⟩) (p + 1) cap L by rw [hLq]; exact hS)
        clear hS hn hLq hL T hF hlast
        go_enter Tryz.func24, Tryz.ntmps24
        go_wp2_with fail
        clear k0 k1 k2
        go_loopw [5, 35] (fun vs vi wr => ∃ j : Nat, vi = .int .i64 (j : Nat) ∧ Hid (j ≤ p + 1) ∧ Hid (OS wr w.heap.size vs ((L.take j).map fun x => (⟨(so x).toArray⟩ : ByteArray))) ∧ Hid (allP (L.take j) = true) ∧ Hid (Below w.heap.size w wr)) (fun _ vi _ => p + 1 - (intOf vi).toNat)
        case atStart => exact ⟨0, rfl, Lib.hid (Nat.zero_le _), Lib.hid (OS.nil _ _), Lib.hid rfl, Lib.hid (b0 w)⟩
        case round =>
          obtain ⟨j, rfl, hj, hO, hA, hb⟩ := hrel
          by_cases hc : j < p + 1
          · have hln := Lib.hid (show j < L.length by have := S0.out.hn; omega)
            obtain ⟨bk, off, hab, hC⟩ := (S0.out.keeps hb.out).hat.resolve_left (by have := hln.out; omega)
            cases hab
            obtain ⟨c0, c1, c2⟩ := hC j hln.out
            have q2 : decide ((j : Int) < (p : Int) + 1) = true := decide_eq_true (by omega)
            have q3 : j < p + 1 := hc
            have f4 := Lib.hid (next_at (j := j) (by have := FW.out.2; have := hln.out; omega))
            have hmem := tk.gt_mem hln.out
            have hxz := FW.out.1 _ hmem
            have hzs : (⟨(so (tk.gt L j)).toArray⟩ : ByteArray).size ≤ 1048576 := by
              have h1 := so_size (tk.gt L j)
              have h2 := str_len ⟨(so (tk.gt L j)).toArray⟩
              have h3 : (⟨(so (tk.gt L j)).toArray⟩ : ByteArray).data.toList.length = (so (tk.gt L j)).length := rfl
              omega
            have SC := Lib.hid (fun W => source_any (tk.gt L j) hxz W)
            have IC := Lib.hid (fun W T => isToken_any (tk.gt L j).k ⟨(so (tk.gt L j)).toArray⟩ hzs W T)
            rw [prB_so] at IC
            have hnx := Lib.hid (all_next hln.out hA.out)
            have hno := Lib.hid (fun h => EN.out (all_no hln.out h))
            have htk := Lib.hid (tk.take_gt hln.out)
            have hl8 := Lib.hid (show ((L.take j).map fun x => (⟨(so x).toArray⟩ : ByteArray)).length < 5864062014805 by have := FW.out.2; rw [List.length_map, List.length_take]; omega)
            clear hC hmem hxz hzs
            generalize tk.gt L j = x at *
            obtain ⟨xk, xt, xa⟩ := x
            simp only at c0 c1 c2 SC IC
            have BB := Lib.hid (tk.Bw.new wr ⟨xk, xt, xa⟩ 79)
            have BW := Lib.hid (balloc hb.out (.cells #[.int .i64 xk, .string xt, .int .i64 xa] 79))
            have O1 := Lib.hid (hO.out.keeps (balloc (b0 wr) (.cells #[.int .i64 xk, .string xt, .int .i64 xa] 79)))
            generalize hs1 : (⟨(so ⟨xk, xt, xa⟩).toArray⟩ : ByteArray) = s1 at *
            replace hs1 := Lib.hid hs1
            cases hp : pr ⟨xk, xt, xa⟩
            · rw [hp] at IC
              have hE := Lib.hid (hno.out hp)
              clear hp hno hnx
              go_wp2_with fail
              refine (SC.out _).mono ?_
              rintro e w2 ⟨rfl, b2⟩
              have B2 := Lib.hid (bnext BW.out b2)
              have BB2 := BB.out.keeps b2
              obtain ⟨d0, d1, d2⟩ := BB2
              simp only at d0 d1 d2
              clear b2
              go_wp2_with fail
              refine (IC.out _ (T0.out.stays B2.out)).mono ?_
              rintro e w3 ⟨rfl, b3⟩
              have B3 := Lib.hid (bnext B2.out b3)
              clear b3 d0 d1 d2
              go_wp2_with fail
              go_ret2
              exact ⟨.empty, none, 0, by unfold joinB; rw [hE.out]; rfl, by rw [hE.out]; rfl, ⟨.inl rfl, rfl, by decide, by decide, fun _ => rfl⟩, B3.out⟩
            · rw [hp] at IC hnx
              clear hp hno
              go_wp2_with fail
              refine (SC.out _).mono ?_
              rintro e w2 ⟨rfl, b2⟩
              have B2 := Lib.hid (bnext BW.out b2)
              have O2 := Lib.hid (O1.out.keeps b2)
              have BB2 := BB.out.keeps b2
              obtain ⟨d0, d1, d2⟩ := BB2
              simp only at d0 d1 d2
              clear b2
              go_wp2_with fail
              refine (IC.out _ (T0.out.stays B2.out)).mono ?_
              rintro e w3 ⟨rfl, b3⟩
              have B3 := Lib.hid (bnext B2.out b3)
              have O3 := Lib.hid (O2.out.keeps b3)
              clear b3 d0 d1 d2
              go_wp2_with (at_builtin; refine is_appS (.tmp 46) (.tmp 48) rfl ?_; refine wpList_pushS _ rfl (.tmp 46) (.tmp 48) rfl w.heap.size _ _ rfl (O3.out.keeps (balloc (b0 w3) _)) w3.heap.size s1 rfl (by simp [go_sem]) hl8.out (by have := B3.out.size; simp; omega) ?_; intro v2 w6 O6 b6)
              have B6 := Lib.hid ((balloc B3.out (.cells #[.string s1] 9)).trans b6)
              have O7 := Lib.hid (show OS w6 w.heap.size v2 ((L.take (j + 1)).map fun x => (⟨(so x).toArray⟩ : ByteArray)) by rw [htk.out, List.map_append, List.map_singleton, hs1.out]; exact O6)
              clear b6 O6
              go_wp2_with fail
              exact ⟨⟨j + 1, by first | exact congrArg (Value.int .i64) f4.out | rfl, Lib.hid hc, O7, hnx, B6⟩, by first | exact less_at hc f4.out | exact less_dn2 hc⟩
          · have q2 : decide ((j : Int) < (p : Int) + 1) = false := decide_eq_false (by omega)
            rw [show L.take j = L from List.take_of_length_le (by have := S0.out.hn; omega)] at hO hA
            have EA := EY.out hA.out
            have JC := Lib.hid (join_any _ (L.map fun x => (⟨(so x).toArray⟩ : ByteArray)) w.heap.size wr hO.out (by rw [List.length_map]; have := FW.out.2; omega) (by rw [so_map]; exact join_few FW.out))
            rw [so_map, hJ.out] at JC
            have hJz := Lib.hid (show (joinL l).length ≤ 140737488355328 by rw [← hJ.out]; exact join_few FW.out)
            obtain ⟨s1, hs1⟩ : ∃ s1 : ByteArray, s1 = ⟨(joinL l).toArray⟩ := ⟨_, rfl⟩
            have hsd : s1.data.toList = joinL l := by rw [hs1]
            have hsz : s1.size = (joinL l).length := by rw [← str_len, hsd]
            rw [← hs1] at JC
            rw [← hsz] at EA hJz
            clear hO hA
            by_cases hbig : 16384 < s1.size
            · rw [if_pos hbig] at EA
              replace EA := Lib.hid EA
              have qb : decide (16384 < (s1.size : Int)) = true := decide_eq_true (by omega)
              clear hs1 hsz hsd
              go_wp2_with fail
              refine JC.out.mono ?_
              rintro e w2 ⟨rfl, b2⟩
              have B2 := Lib.hid (bnext hb.out b2)
              obtain ⟨w3, c, hcv, hB, b3⟩ := bytes_of w2 s1 (by have := hJz.out; omega)
              have B3 := Lib.hid (bnext B2.out b3)
              clear b2 b3 hB
              go_wp2_with fail
              go_ret2
              exact ⟨.empty, none, 0, by unfold joinB; rw [EA.out]; rfl, by rw [EA.out]; rfl, ⟨.inl rfl, rfl, by decide, by decide, fun _ => rfl⟩, B3.out⟩
            · rw [if_neg hbig] at EA
              replace EA := Lib.hid EA
              have hjb := Lib.hid (show s1.data.toList = joinB l by unfold joinB; rw [EA.out, if_pos rfl, hsd])
              have qb : decide (16384 < (s1.size : Int)) = false := decide_eq_false (by omega)
              clear hs1 hsz hsd
              go_wp2_with fail
              refine JC.out.mono ?_
              rintro e w2 ⟨rfl, b2⟩
              have B2 := Lib.hid (bnext hb.out b2)
              obtain ⟨w3, c, hcv, hB, b3⟩ := bytes_of w2 s1 (by have := hJz.out; omega)
              have B3 := Lib.hid (bnext B2.out b3)
              have BS := Lib.hid hB
              clear b2 b3 hB
              go_wp2_with fail
              go_ret2
              exact ⟨s1, _, c, hjb.out, by rw [EA.out]; rfl, BS.out, B3.out⟩
    · have e1 : (xk == 6) = false := by rw [beq_eq_false_iff_ne]; exact h6
      rw [if_neg (fun h => h6 h.1)] at hlast
      obtain ⟨L, hLq⟩ : ∃ L, L = l := ⟨_, rfl⟩
      have hL : stripE l = L := by rw [hlast, hLq]
      have hJ := Lib.hid (show Lib.join (L.map so) [32] = joinL l by unfold joinL; rw [hL])
      have EY := Lib.hid (show allP L = true → joinE l = if 16384 < (joinL l).length then 2 else 0 by intro h; unfold joinE; rw [hL, if_pos h])
      have EN := Lib.hid (show allP L = false → joinE l = 3 by intro h; unfold joinE; rw [hL, if_neg (by rw [h]; decide)])
      have FW := Lib.hid (show fewT L by rw [← hL]; exact few_strip hF)
      have S0 := Lib.hid (show tk.Sl w (some ⟨bk0, off0, none⟩) (p + 1) cap L by rw [hLq]; exact hS)
      clear hS hn hLq hL T hF hlast
      go_enter Tryz.func24, Tryz.ntmps24
      go_wp2_with fail
      clear k0 k1 k2
      go_loopw [5, 35] (fun vs vi wr => ∃ j : Nat, vi = .int .i64 (j : Nat) ∧ Hid (j ≤ p + 1) ∧ Hid (OS wr w.heap.size vs ((L.take j).map fun x => (⟨(so x).toArray⟩ : ByteArray))) ∧ Hid (allP (L.take j) = true) ∧ Hid (Below w.heap.size w wr)) (fun _ vi _ => p + 1 - (intOf vi).toNat)
      case atStart => exact ⟨0, rfl, Lib.hid (Nat.zero_le _), Lib.hid (OS.nil _ _), Lib.hid rfl, Lib.hid (b0 w)⟩
      case round =>
        obtain ⟨j, rfl, hj, hO, hA, hb⟩ := hrel
        by_cases hc : j < p + 1
        · have hln := Lib.hid (show j < L.length by have := S0.out.hn; omega)
          obtain ⟨bk, off, hab, hC⟩ := (S0.out.keeps hb.out).hat.resolve_left (by have := hln.out; omega)
          cases hab
          obtain ⟨c0, c1, c2⟩ := hC j hln.out
          have q2 : decide ((j : Int) < (p : Int) + 1) = true := decide_eq_true (by omega)
          have q3 : j < p + 1 := hc
          have f4 := Lib.hid (next_at (j := j) (by have := FW.out.2; have := hln.out; omega))
          have hmem := tk.gt_mem hln.out
          have hxz := FW.out.1 _ hmem
          have hzs : (⟨(so (tk.gt L j)).toArray⟩ : ByteArray).size ≤ 1048576 := by
            have h1 := so_size (tk.gt L j)
            have h2 := str_len ⟨(so (tk.gt L j)).toArray⟩
            have h3 : (⟨(so (tk.gt L j)).toArray⟩ : ByteArray).data.toList.length = (so (tk.gt L j)).length := rfl
            omega
          have SC := Lib.hid (fun W => source_any (tk.gt L j) hxz W)
          have IC := Lib.hid (fun W T => isToken_any (tk.gt L j).k ⟨(so (tk.gt L j)).toArray⟩ hzs W T)
          rw [prB_so] at IC
          have hnx := Lib.hid (all_next hln.out hA.out)
          have hno := Lib.hid (fun h => EN.out (all_no hln.out h))
          have htk := Lib.hid (tk.take_gt hln.out)
          have hl8 := Lib.hid (show ((L.take j).map fun x => (⟨(so x).toArray⟩ : ByteArray)).length < 5864062014805 by have := FW.out.2; rw [List.length_map, List.length_take]; omega)
          clear hC hmem hxz hzs
          generalize tk.gt L j = x at *
          obtain ⟨xk, xt, xa⟩ := x
          simp only at c0 c1 c2 SC IC
          have BB := Lib.hid (tk.Bw.new wr ⟨xk, xt, xa⟩ 79)
          have BW := Lib.hid (balloc hb.out (.cells #[.int .i64 xk, .string xt, .int .i64 xa] 79))
          have O1 := Lib.hid (hO.out.keeps (balloc (b0 wr) (.cells #[.int .i64 xk, .string xt, .int .i64 xa] 79)))
          generalize hs1 : (⟨(so ⟨xk, xt, xa⟩).toArray⟩ : ByteArray) = s1 at *
          replace hs1 := Lib.hid hs1
          cases hp : pr ⟨xk, xt, xa⟩
          · rw [hp] at IC
            have hE := Lib.hid (hno.out hp)
            clear hp hno hnx
            go_wp2_with fail
            refine (SC.out _).mono ?_
            rintro e w2 ⟨rfl, b2⟩
            have B2 := Lib.hid (bnext BW.out b2)
            have BB2 := BB.out.keeps b2
            obtain ⟨d0, d1, d2⟩ := BB2
            simp only at d0 d1 d2
            clear b2
            go_wp2_with fail
            refine (IC.out _ (T0.out.stays B2.out)).mono ?_
            rintro e w3 ⟨rfl, b3⟩
            have B3 := Lib.hid (bnext B2.out b3)
            clear b3 d0 d1 d2
            go_wp2_with fail
            go_ret2
            exact ⟨.empty, none, 0, by unfold joinB; rw [hE.out]; rfl, by rw [hE.out]; rfl, ⟨.inl rfl, rfl, by decide, by decide, fun _ => rfl⟩, B3.out⟩
          · rw [hp] at IC hnx
            clear hp hno
            go_wp2_with fail
            refine (SC.out _).mono ?_
            rintro e w2 ⟨rfl, b2⟩
            have B2 := Lib.hid (bnext BW.out b2)
            have O2 := Lib.hid (O1.out.keeps b2)
            have BB2 := BB.out.keeps b2
            obtain ⟨d0, d1, d2⟩ := BB2
            simp only at d0 d1 d2
            clear b2
            go_wp2_with fail
            refine (IC.out _ (T0.out.stays B2.out)).mono ?_
            rintro e w3 ⟨rfl, b3⟩
            have B3 := Lib.hid (bnext B2.out b3)
            have O3 := Lib.hid (O2.out.keeps b3)
            clear b3 d0 d1 d2
            go_wp2_with (at_builtin; refine is_appS (.tmp 46) (.tmp 48) rfl ?_; refine wpList_pushS _ rfl (.tmp 46) (.tmp 48) rfl w.heap.size _ _ rfl (O3.out.keeps (balloc (b0 w3) _)) w3.heap.size s1 rfl (by simp [go_sem]) hl8.out (by have := B3.out.size; simp; omega) ?_; intro v2 w6 O6 b6)
            have B6 := Lib.hid ((balloc B3.out (.cells #[.string s1] 9)).trans b6)
            have O7 := Lib.hid (show OS w6 w.heap.size v2 ((L.take (j + 1)).map fun x => (⟨(so x).toArray⟩ : ByteArray)) by rw [htk.out, List.map_append, List.map_singleton, hs1.out]; exact O6)
            clear b6 O6
            go_wp2_with fail
            exact ⟨⟨j + 1, by first | exact congrArg (Value.int .i64) f4.out | rfl, Lib.hid hc, O7, hnx, B6⟩, by first | exact less_at hc f4.out | exact less_dn2 hc⟩
        · have q2 : decide ((j : Int) < (p : Int) + 1) = false := decide_eq_false (by omega)
          rw [show L.take j = L from List.take_of_length_le (by have := S0.out.hn; omega)] at hO hA
          have EA := EY.out hA.out
          have JC := Lib.hid (join_any _ (L.map fun x => (⟨(so x).toArray⟩ : ByteArray)) w.heap.size wr hO.out (by rw [List.length_map]; have := FW.out.2; omega) (by rw [so_map]; exact join_few FW.out))
          rw [so_map, hJ.out] at JC
          have hJz := Lib.hid (show (joinL l).length ≤ 140737488355328 by rw [← hJ.out]; exact join_few FW.out)
          obtain ⟨s1, hs1⟩ : ∃ s1 : ByteArray, s1 = ⟨(joinL l).toArray⟩ := ⟨_, rfl⟩
          have hsd : s1.data.toList = joinL l := by rw [hs1]
          have hsz : s1.size = (joinL l).length := by rw [← str_len, hsd]
          rw [← hs1] at JC
          rw [← hsz] at EA hJz
          clear hO hA
          by_cases hbig : 16384 < s1.size
          · rw [if_pos hbig] at EA
            replace EA := Lib.hid EA
            have qb : decide (16384 < (s1.size : Int)) = true := decide_eq_true (by omega)
            clear hs1 hsz hsd
            go_wp2_with fail
            refine JC.out.mono ?_
            rintro e w2 ⟨rfl, b2⟩
            have B2 := Lib.hid (bnext hb.out b2)
            obtain ⟨w3, c, hcv, hB, b3⟩ := bytes_of w2 s1 (by have := hJz.out; omega)
            have B3 := Lib.hid (bnext B2.out b3)
            clear b2 b3 hB
            go_wp2_with fail
            go_ret2
            exact ⟨.empty, none, 0, by unfold joinB; rw [EA.out]; rfl, by rw [EA.out]; rfl, ⟨.inl rfl, rfl, by decide, by decide, fun _ => rfl⟩, B3.out⟩
          · rw [if_neg hbig] at EA
            replace EA := Lib.hid EA
            have hjb := Lib.hid (show s1.data.toList = joinB l by unfold joinB; rw [EA.out, if_pos rfl, hsd])
            have qb : decide (16384 < (s1.size : Int)) = false := decide_eq_false (by omega)
            clear hs1 hsz hsd
            go_wp2_with fail
            refine JC.out.mono ?_
            rintro e w2 ⟨rfl, b2⟩
            have B2 := Lib.hid (bnext hb.out b2)
            obtain ⟨w3, c, hcv, hB, b3⟩ := bytes_of w2 s1 (by have := hJz.out; omega)
            have B3 := Lib.hid (bnext B2.out b3)
            have BS := Lib.hid hB
            clear b2 b3 hB
            go_wp2_with fail
            go_ret2
            exact ⟨s1, _, c, hjb.out, by rw [EA.out]; rfl, BS.out, B3.out⟩
end Go.Proofs.YtkgclmikhpjheaaGreatDoor
