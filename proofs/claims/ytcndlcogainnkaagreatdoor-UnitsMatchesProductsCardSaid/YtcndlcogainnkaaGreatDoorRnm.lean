/-
  The reference's Normal.
-/
import Derived.Test.YtcndlcogainnkaaGreatDoorNmw
import Derived.Test.YtcndlcogainnkaaGreatDoorExn
import Derived.Test.YtcndlcogainnkaaGreatDoorWrd
namespace Go.Proofs.YtcndlcogainnkaaGreatDoor
open Go.RowKit dec

theorem nE_lim {l : List Fa} (h : wds l = true) (hf : anyFar l = false) (hn : 4 < (nz l).length) : nE l = 2 ∧ nL l = [] := by
  have e : nE l = 2 := by unfold nE; rw [h, hf, if_pos rfl, if_neg (by decide), if_pos hn]
  exact ⟨e, by unfold nL; rw [e]; rfl⟩
theorem nE_good {l : List Fa} (h : wds l = true) (hf : anyFar l = false) (hn : ¬ 4 < (nz l).length) : nE l = 0 ∧ nL l = nz l := by
  have e : nE l = 0 := by unfold nE; rw [h, hf, if_pos rfl, if_neg (by decide), if_neg hn]
  exact ⟨e, by unfold nL; rw [e]; rfl⟩
theorem nzOf_on {l : List Fa} {o : List ByteArray} {j : Nat} (h : j < o.length) (h0 : ex l (gS o j) ≠ 0) : nzOf l (o.take (j + 1)) = nzOf l (o.take j) ++ [(gS o j, ex l (gS o j))] := by
  unfold nzOf
  rw [takeS h, List.filter_append, List.map_append]
  simp [h0]
theorem nzOf_off {l : List Fa} {o : List ByteArray} {j : Nat} (h : j < o.length) (h0 : ex l (gS o j) = 0) : nzOf l (o.take (j + 1)) = nzOf l (o.take j) := by
  unfold nzOf
  rw [takeS h, List.filter_append, List.map_append]
  simp [h0]
theorem nzOf_len (l : List Fa) (o : List ByteArray) : (nzOf l o).length ≤ o.length := by
  unfold nzOf
  rw [List.length_map]
  exact List.length_filter_le ..
theorem nofar_next {l : List Fa} {o : List ByteArray} {j : Nat} (h : j < o.length) (hf : far (ex l (gS o j)) = false) (h1 : (o.take j).any (fun s => far (ex l s)) = false) : (o.take (j + 1)).any (fun s => far (ex l s)) = false := by
  rw [takeS h, List.any_append, h1]
  simp [hf]
theorem far_some {l : List Fa} {o : List ByteArray} {j : Nat} (h : j < o.length) (hf : far (ex l (gS o j)) = true) : o.any (fun s => far (ex l s)) = true := by
  rw [List.any_eq_true]
  exact ⟨gS o j, by rw [gS_eq h]; exact List.getElem_mem h, hf⟩
theorem ns_len' (l : List Fa) : (ns l).length ≤ l.length := by
  have := ns_len l l.length (Nat.le_refl _)
  rwa [List.take_length] at this
set_option maxRecDepth 100000 in
set_option maxHeartbeats 4000000 in
theorem rnormal_any (a : Option Addr) (n cap : Nat) (l : List Fa) (w : World) (hS : Sl w a n cap l) (hx : ∀ x ∈ l, -9223372036854775808 ≤ x.2 ∧ x.2 ≤ 9223372036854775807) (hlen : l.length < 5864062014805) :
    Calls Tryz.prog 12 #[.slice a n cap] w fun e w' => ∃ v, e = .returned (.tuple #[v, .int .i64 (nE l)]) ∧ Out w' v (nL l) ∧ Below w.heap.size w w' := by
  have W1 := Lib.hid rword_any
  have S0 := Lib.hid hS
  have X0 := Lib.hid hx
  have N0 := Lib.hid hlen
  have NS := Lib.hid (fun W (h : Sl W a n cap l) => names_any a n cap l W h hlen)
  have EX := Lib.hid (fun W s (h : Sl W a n cap l) => exponent_any a n cap l s W h hx hlen)
  clear hS hx hlen
  go_enter Tryz.func12, Tryz.ntmps12
  go_wp2_with fail
  go_loopw [4] (fun vi wr => ∃ j : Nat, vi = .int .i64 (j : Nat) ∧ Hid (j ≤ n) ∧ Hid (wds (l.take j) = true) ∧ Hid (Below w.heap.size w wr)) (fun vi _ => n - (intOf vi).toNat)
  case atStart => exact ⟨0, rfl, Lib.hid (Nat.zero_le _), Lib.hid rfl, Lib.hid (b0 w)⟩
  case round =>
    obtain ⟨j, rfl, hj, hd, hb⟩ := hrel
    by_cases hc : j < n
    · have hln := Lib.hid (show j < l.length by have := S0.out.hn; omega)
      obtain ⟨bk, off, rfl, hC⟩ := (S0.out.keeps hb.out).hat.resolve_left (by have := hln.out; omega)
      obtain ⟨c0, _⟩ := hC j hln.out
      have q2 : decide ((j : Int) < (n : Int)) = true := decide_eq_true (by omega)
      have q3 : j < n := hc
      have f4 := Lib.hid (next_at (j := j) (by have := S0.out.hcap; have := S0.out.hmax; omega))
      have hwn := Lib.hid (wds_next hln.out hd.out)
      have hwt := Lib.hid (wds_take hln.out)
      clear hC
      generalize gt l j = x at c0 hwn hwt
      cases hw : word x.1
      · have hr := Lib.hid (nE_one (hwt.out hw))
        go_wp2_with fail
        refine (W1.out _ _).mono ?_
        rintro e w' ⟨rfl, rfl⟩
        go_wp2_with fail
        go_ret2
        exact ⟨.slice none 0 0, by rw [hr.out.1]; rfl, by rw [hr.out.2]; exact Out.nil _, hb.out⟩
      · have HW := Lib.hid (hwn.out hw)
        go_wp2_with fail
        refine (W1.out _ _).mono ?_
        rintro e w' ⟨rfl, rfl⟩
        go_wp2_with fail
        refine ⟨⟨j + 1, congrArg (Value.int .i64) f4.out, Lib.hid hc, HW, hb⟩, less_at hc f4.out⟩
    · have q2 : decide ((j : Int) < (n : Int)) = false := decide_eq_false (by omega)
      rw [show l.take j = l from List.take_of_length_le (by have := S0.out.hn; omega)] at hd
      go_wp2_with fail
      refine (NS.out _ (S0.out.keeps hb.out)).mono ?_
      rintro e w2 ⟨vo, rfl, O2, b2⟩
      have B2 := Lib.hid (bnext hb.out b2)
      obtain ⟨ao, co, rfl, hso⟩ := O2.ss
      have SO := Lib.hid hso
      have hoc := hso.hcap
      have hom := hso.hmax
      have hol := Lib.hid (show (ns l).length < 5864062014805 by have := ns_len' l; have := N0.out; omega)
      have HA : Hid (anyFar l = (ns l).any fun s => far (ex l s)) := Lib.hid rfl
      have HN : Hid (nz l = nzOf l (ns l)) := Lib.hid rfl
      clear O2 b2 hso hb NS
      generalize ns l = o at *
      generalize hmm : o.length = m at *
      replace hmm := Lib.hid hmm
      go_wp2_with fail
      go_loopw [7, 8] (fun vu vi wr => ∃ j : Nat, vi = .int .i64 (j : Nat) ∧ Hid (j ≤ m) ∧ Hid (Own wr w2.heap.size vu (nzOf l (o.take j))) ∧ Hid ((o.take j).any (fun s => far (ex l s)) = false) ∧ Hid (Below w2.heap.size w2 wr)) (fun _ vi _ => m - (intOf vi).toNat)
      case atStart => exact ⟨0, rfl, Lib.hid (Nat.zero_le _), Lib.hid (Own.nil _ _), Lib.hid rfl, Lib.hid (b0 w2)⟩
      case round =>
        obtain ⟨k, rfl, hk, hO, hf0, hb⟩ := hrel
        by_cases hkm : k < m
        · obtain ⟨bo, offo, rfl, hD⟩ := (SO.out.keeps hb.out).hat.resolve_left (by have := hmm.out; omega)
          have d0 := hD k (by have := hmm.out; omega)
          have p1 : decide ((k : Int) < (m : Int)) = true := decide_eq_true (by omega)
          have p3 : k < m := hkm
          have f5 := Lib.hid (next_at (j := k) (by have := hol.out; omega))
          have hlk := Lib.hid (show k < o.length by have := hmm.out; omega)
          have g1 := Lib.hid (nzOf_on (l := l) hlk.out)
          have g2 := Lib.hid (nzOf_off (l := l) hlk.out)
          have g3 := Lib.hid (fun h => nofar_next (l := l) hlk.out h hf0.out)
          have g4 := Lib.hid (far_some (l := l) hlk.out)
          have hl5 := Lib.hid (show (nzOf l (o.take k)).length < 5864062014805 by have := nzOf_len l (o.take k); rw [List.length_take] at this; have := hol.out; omega)
          clear hD
          generalize gS o k = s at d0 g1 g2 g3 g4
          have EC := Lib.hid (fun W h => EX.out W s h)
          generalize ex l s = x at g1 g2 g3 g4 EC
          have SL := Lib.hid (S0.out.keeps (bnext B2.out hb.out))
          cases hf : far x
          · rw [hf, if_neg (by decide)] at EC
            have HF := Lib.hid (g3.out hf)
            by_cases h0 : x = 0
            · have p5 : (x != 0) = false := by rw [bne_eq_false_iff_eq]; exact h0
              have HZ := Lib.hid (g2.out h0)
              replace h0 := Lib.hid h0
              clear g1 g2 g3 g4
              go_wp2_with fail
              refine (EC.out _ SL.out).mono ?_
              rintro e w3 ⟨rfl, b3⟩
              have B3 := Lib.hid (bnext hb.out b3)
              have O3 := Lib.hid (hO.out.keeps b3)
              clear b3
              go_wp2_with fail
              refine ⟨⟨k + 1, by first | exact congrArg (Value.int .i64) f5.out | rfl, Lib.hid hkm, Lib.hid (by rw [HZ.out]; exact O3.out), HF, B3⟩, by first | exact less_at hkm f5.out | exact less_dn hkm⟩
            · have p5 : (x != 0) = true := by rw [bne_iff_ne]; exact h0
              have HZ := Lib.hid (g1.out h0)
              replace h0 := Lib.hid h0
              clear g1 g2 g3 g4
              have D0 := Lib.hid d0
              clear d0
              have d0 := D0.out
              go_wp2_with fail
              refine (EC.out _ SL.out).mono ?_
              rintro e w3 ⟨rfl, b3⟩
              have B3 := Lib.hid (bnext hb.out b3)
              have O3 := Lib.hid (hO.out.keeps b3)
              replace d0 := dec.keeps b3 d0
              clear b3
              go_wp2_with (at_builtin; refine is_app (.tmp 46) (.tmp 53) rfl ?_; refine wpList_push _ rfl (.tmp 46) (.tmp 53) rfl w2.heap.size _ (nzOf l (o.take k)) rfl (O3.out.keeps (balloc (b0 w3) _)) w3.heap.size s x rfl (Bw.new w3 (s, x) 37) hl5.out (balloc B3.out _).size ?_; intro v6 w6 O6 b6)
              have B6 := Lib.hid ((balloc B3.out (.cells #[.string s, .int .i64 x] 37)).trans b6)
              have O7 := Lib.hid O6
              clear b6 O6
              go_wp2_with fail
              refine ⟨⟨k + 1, by first | exact congrArg (Value.int .i64) f5.out | rfl, Lib.hid hkm, Lib.hid (by rw [HZ.out]; exact O7.out), HF, B6⟩, by first | exact less_at hkm f5.out | exact less_dn hkm⟩
          · rw [hf, if_pos rfl] at EC
            have hr := Lib.hid (nE_far hd.out (HA.out.trans (g4.out hf)))
            clear g1 g2 g3 g4
            go_wp2_with fail
            refine (EC.out _ SL.out).mono ?_
            rintro e w3 ⟨rfl, b3⟩
            have B3 := Lib.hid (bnext hb.out b3)
            clear b3
            go_wp2_with fail
            go_ret2
            exact ⟨.slice none 0 0, by rw [hr.out.1]; rfl, by rw [hr.out.2]; exact Out.nil _, bnext B2.out B3.out⟩
        · have p1 : decide ((k : Int) < (m : Int)) = false := decide_eq_false (by omega)
          rw [show o.take k = o from List.take_of_length_le (by have := hmm.out; omega)] at hO hf0
          rw [← HN.out] at hO
          have hfa := Lib.hid (HA.out.trans hf0.out)
          obtain ⟨au, cu, rfl, hsu⟩ := hO.out.sl
          have SU := Lib.hid hsu
          clear hsu
          by_cases h4 : 4 < (nz l).length
          · have hr := Lib.hid (nE_lim hd.out hfa.out h4)
            clear hO
            generalize (nz l).length = m2 at *
            have p4 : decide ((4 : Int) < (m2 : Int)) = true := decide_eq_true (by omega)
            go_wp2_with fail
            go_ret2
            exact ⟨.slice none 0 0, by rw [hr.out.1]; rfl, by rw [hr.out.2]; exact Out.nil _, bnext B2.out hb.out⟩
          · have hr := Lib.hid (nE_good hd.out hfa.out h4)
            have HO := Lib.hid (show ∀ m2, m2 = (nz l).length → Out wr (.slice au m2 cu) (nz l) from fun m2 e => by rw [e]; exact ⟨au, cu, rfl, SU.out⟩)
            clear hO SU
            generalize hm2 : (nz l).length = m2 at *
            replace hm2 := Lib.hid hm2
            have p4 : decide ((4 : Int) < (m2 : Int)) = false := decide_eq_false (by omega)
            go_wp2_with fail
            go_ret2
            exact ⟨.slice au m2 cu, by rw [hr.out.1]; rfl, by rw [hr.out.2]; exact HO.out m2 rfl, bnext B2.out hb.out⟩
end Go.Proofs.YtcndlcogainnkaaGreatDoor
