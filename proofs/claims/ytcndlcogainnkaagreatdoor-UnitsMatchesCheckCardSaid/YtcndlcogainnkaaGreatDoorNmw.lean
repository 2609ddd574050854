/-
  The reference's names.
-/
import Derived.Test.YtcndlcogainnkaaGreatDoorNms
namespace Go.Proofs.YtcndlcogainnkaaGreatDoor
open Go.RowKit dec

theorem less_dn {n d : Nat} (h : d < n) : n - (intOf (Value.int .i64 ((d : Int) + 1))).toNat < n - (intOf (Value.int .i64 (d : Int))).toNat := by
  show n - (((d : Int) + 1)).toNat < n - ((d : Nat) : Int).toNat
  omega
theorem OS.less {w : World} {base base' : Nat} {v : Value} {l : List ByteArray} (h : OS w base v l) (hb : base' ≤ base) : OS w base' v l := by
  refine ⟨h.1, h.2.imp id fun ⟨g, cap, cur, e, hbg, r⟩ => ⟨g, cap, cur, e, by omega, r⟩⟩
theorem OS.keeps2 {w w1 : World} {base m : Nat} {a : Option Addr} {c : Nat} {l : List ByteArray} (h : OS w base (.slice a m c) l) (_ : l.length = m) (hb : Below w.heap.size w w1) : OS w1 base (.slice a m c) l := h.keeps hb
set_option maxRecDepth 100000 in
set_option maxHeartbeats 4000000 in
theorem names_any (a : Option Addr) (n cap : Nat) (l : List Fa) (w : World) (hS : Sl w a n cap l) (hlen : l.length < 5864062014805) :
    Calls Tryz.prog 35 #[.slice a n cap] w fun e w' => ∃ v, e = .returned v ∧ OS w' w.heap.size v (ns l) ∧ Below w.heap.size w w' := by
  have S0 := Lib.hid hS
  have N0 := Lib.hid hlen
  clear hS hlen
  go_enter Tryz.func35, Tryz.ntmps35
  go_wp2_with fail
  go_loopw [3, 4] (fun vo vi wr => ∃ j : Nat, vi = .int .i64 (j : Nat) ∧ Hid (j ≤ n) ∧ Hid (OS wr w.heap.size vo (ns (l.take j))) ∧ Hid (Below w.heap.size w wr)) (fun _ vi _ => n - (intOf vi).toNat)
  case atStart => exact ⟨0, rfl, Lib.hid (Nat.zero_le _), Lib.hid (OS.nil _ _), Lib.hid (b0 w)⟩
  case round =>
    obtain ⟨j, rfl, hj, hO, hb⟩ := hrel
    by_cases hc : j < n
    · have hln := Lib.hid (show j < l.length by have := S0.out.hn; omega)
      obtain ⟨bl, offl, rfl, hC⟩ := (S0.out.keeps hb.out).hat.resolve_left (by have := hln.out; omega)
      obtain ⟨c0, _⟩ := hC j hln.out
      have q2 : decide ((j : Int) < (n : Int)) = true := decide_eq_true (by omega)
      have q3 : j < n := hc
      have f4 := Lib.hid (next_at (j := j) (by have := S0.out.hcap; have := S0.out.hmax; omega))
      have hol := Lib.hid (show (ns (l.take j)).length < 5864062014804 by have := ns_len l j (by have := hln.out; omega); have := N0.out; have := hln.out; omega)
      have hns := Lib.hid (show ns (l.take (j + 1)) = ins (gt l j).1 (ns (l.take j)) by rw [take_gt hln.out, ns_snoc])
      clear hC
      generalize (gt l j).1 = x at c0 hns
      generalize ns (l.take j) = o at hO hol hns
      obtain ⟨ao, co, rfl, hs⟩ := hO.out.ss
      have SO := Lib.hid hs
      have hcap := hs.hcap
      have hmax := hs.hmax
      have hm : Hid (o.length = o.length) := Lib.hid rfl
      clear hs
      generalize hmm : o.length = m at *
      replace hmm := Lib.hid hmm
      clear hm
      replace C0 := Lib.hid c0
      clear c0
      generalize wr = wo at *
      go_wp2_with fail
      go_loopw [5] (fun vk wq => ∃ k : Nat, vk = .int .i64 (k : Nat) ∧ Hid (k ≤ m) ∧ Hid (ins x o = o.take k ++ ins x (o.drop k)) ∧ Hid (Below wo.heap.size wo wq)) (fun vk _ => m - (intOf vk).toNat)
      case atStart => exact ⟨0, rfl, Lib.hid (Nat.zero_le _), Lib.hid rfl, Lib.hid (b0 wo)⟩
      case round =>
        obtain ⟨k, rfl, hk, hi, hbq⟩ := hrel
        have c0 := cell_regrown (dec.keeps hbq.out C0.out)
        have f5 := Lib.hid (next_at (j := k) (by have := hk.out; have := hol.out; omega))
        by_cases hkm : k < m
        · obtain ⟨bo, offo, rfl, hD⟩ := (SO.out.keeps hbq.out).hat.resolve_left (by have := hmm.out; omega)
          have d0 := hD k (by have := hmm.out; omega)
          have d1 := cell_regrown d0
          have p1 : decide ((k : Int) < (m : Int)) = true := decide_eq_true (by omega)
          have hkc : k < co := by omega
          have hkc2 : k ≤ co := by omega
          have g1 := Lib.hid (fun h => ins_go (x := x) (o := o) (k := k) (by have := hmm.out; omega) h hi.out)
          have g2 := Lib.hid (fun h => ins_same (x := x) (o := o) (k := k) (by have := hmm.out; omega) h hi.out)
          have g3 := Lib.hid (fun h h' => ins_put (x := x) (o := o) (k := k) (by have := hmm.out; omega) h h' hi.out)
          clear hD hi
          replace d0 := Lib.hid d0
          generalize gS o k = y at d1 d0 g1 g2 g3
          cases hlt : ltS y x
          · have p2 : Op.bytesLess y.toList x.toList = false := hlt
            by_cases hyx : y = x
            · subst hyx
              have p3 : (y.toList == y.toList) = true := beq_self_eq_true _
              have hins := Lib.hid (hns.out.trans (g2.out rfl))
              clear g1 g2 g3
              replace hlt := Lib.hid hlt
              go_wp2_with fail
              refine wp_region_quiet_below (by kernel_rfl) (by kernel_rfl) ?_
              repeat (first | go_big_quiet_skip | (go_big_quiet_want; go_big_quiet_op; go_big_quiet_on))
              refine wpQuiet_nil ?_
              intro w9 hw9
              have hb9 := Lib.hid (below_of hw9)
              have hb2 := Lib.hid (bnext hbq.out hb9.out)
              clear hw9
              clear c0 d1
              have c0 := cell_regrown (dec.keeps hb2.out C0.out)
              have d1 := cell_regrown (dec.keeps (hb9.out) d0.out)
              go_wp2_with fail
              refine wp_region_quiet_below (by kernel_rfl) (by kernel_rfl) ?_
              repeat (first | go_big_quiet_skip | (go_big_quiet_want; go_big_quiet_op; go_big_quiet_on))
              refine wpQuiet_nil ?_
              intro w8 hw8
              have hb3 := Lib.hid (bnext hb2.out (below_of hw8))
              clear hw8
              clear c0 d1
              go_wp2_with fail
              refine ⟨⟨j + 1, congrArg (Value.int .i64) f4.out, Lib.hid hc, Lib.hid (by rw [hins.out]; exact (OS.keeps2 (hO.out) hmm.out hb3.out)), Lib.hid (bnext hb.out hb3.out)⟩, less_at hc f4.out⟩
            · have p3 : (y.toList == x.toList) = false := by rw [bs_eq]; exact decide_eq_false hyx
              have hins := Lib.hid (g3.out hlt hyx)
              clear g1 g2 g3
              replace hlt := Lib.hid hlt
              replace hyx := Lib.hid hyx
              go_wp2_with fail
              refine wp_region_quiet_below (by kernel_rfl) (by kernel_rfl) ?_
              repeat (first | go_big_quiet_skip | (go_big_quiet_want; go_big_quiet_op; go_big_quiet_on))
              refine wpQuiet_nil ?_
              intro w9 hw9
              have hb9 := Lib.hid (below_of hw9)
              have hb2 := Lib.hid (bnext hbq.out hb9.out)
              clear hw9
              clear c0 d1
              have c0 := cell_regrown (dec.keeps hb2.out C0.out)
              have d1 := cell_regrown (dec.keeps (hb9.out) d0.out)
              go_wp2_with fail
              refine wp_region_quiet_below (by kernel_rfl) (by kernel_rfl) ?_
              repeat (first | go_big_quiet_skip | (go_big_quiet_want; go_big_quiet_op; go_big_quiet_on))
              refine wpQuiet_nil ?_
              intro w8 hw8
              have hb3 := Lib.hid (bnext hb2.out (below_of hw8))
              clear hw8
              clear c0 d1 p2 p3
              generalize w8 = z0 at *
              have hl1 := Lib.hid (show (o.take k).length = k by have := hmm.out; have := hk.out; rw [List.length_take]; omega)
              have Sx := Lib.hid ((SO.out.keeps hb3.out).few k hk.out)
              go_upto_region 11 with (at_builtin; refine is_appS (.tmp 47) (.tmp 50) rfl ?_; refine wpList_catS _ rfl (.tmp 47) (.tmp 50) rfl wo.heap.size _ [] rfl (OS.nil z0 _) (some ⟨bo, offo, none⟩) k co (o.take k) rfl Sx.out (by have := hk.out; have := hol.out; simp only [List.length_nil]; omega) hb3.out.size ?_; intro v1 z1 O1 e1)
              rw [List.nil_append] at O1
              have hb4 := Lib.hid (hb3.out.trans e1)
              replace O1 := Lib.hid O1
              clear e1 Sx
              have c0 := dec.keeps hb4.out C0.out
              go_upto_region 12 with (at_builtin; refine is_appS (.tmp 52) (.tmp 58) rfl ?_; refine wpList_pushS _ rfl (.tmp 52) (.tmp 58) rfl wo.heap.size _ (o.take k) rfl (O1.out.keeps (balloc (b0 z1) _)) z1.heap.size x rfl (by simp [go_sem]) (by have := hk.out; have := hol.out; rw [hl1.out]; omega) (balloc hb4.out _).size ?_; intro v2 z2 O2 e2)
              have hb5 := Lib.hid ((balloc hb4.out _).trans e2)
              replace O2 := Lib.hid O2
              clear e2 c0
              go_wp2_with (at_builtin; refine is_appS (.tmp 60) (.tmp 63) rfl ?_; refine wpList_catS _ rfl (.tmp 60) (.tmp 63) rfl wo.heap.size _ (o.take k ++ [x]) rfl O2.out (some ⟨bo, offo + k, none⟩) (m - k) (co - k) (o.drop k) rfl ((SO.out.keeps hb5.out).cut k hk.out) (by have := hk.out; have := hol.out; rw [List.length_append, hl1.out]; simp only [List.length_cons, List.length_nil]; omega) hb5.out.size ?_; intro v3 z3 O3 e3)
              have O4 := Lib.hid (show OS z3 w.heap.size v3 (ns (l.take (j + 1))) by rw [hns.out, hins.out]; exact O3.less hb.out.size)
              have hb6 := Lib.hid (bnext hb.out (hb5.out.trans e3))
              clear e3 O3
              go_wp2_with fail
              refine ⟨⟨j + 1, congrArg (Value.int .i64) f4.out, Lib.hid hc, O4, hb6⟩, less_at hc f4.out⟩
          · have p2 : Op.bytesLess y.toList x.toList = true := hlt
            have hi2 := Lib.hid (g1.out hlt)
            clear g1 g2 g3
            replace hlt := Lib.hid hlt
            go_wp2_with fail
            refine wp_region_quiet_below (by kernel_rfl) (by kernel_rfl) ?_
            repeat (first | go_big_quiet_skip | (go_big_quiet_want; go_big_quiet_op; go_big_quiet_on))
            refine wpQuiet_nil ?_
            intro w9 hw9
            have hb9 := Lib.hid (below_of hw9)
            have hb2 := Lib.hid (bnext hbq.out hb9.out)
            clear hw9
            clear c0 d1
            go_wp2_with fail
            refine ⟨⟨k + 1, by first | exact congrArg (Value.int .i64) f5.out | rfl, Lib.hid hkm, hi2, hb2⟩, by first | exact less_at hkm f5.out | exact less_dn hkm⟩
        · have p1 : decide ((k : Int) < (m : Int)) = false := decide_eq_false (by omega)
          obtain rfl : k = m := by have := hk.out; omega
          have hins := Lib.hid (ins_end (x := x) (o := o) (k := k) (by have := hmm.out; omega) hi.out)
          clear hi hkm c0
          go_wp2_with fail
          refine wp_region_quiet_below (by kernel_rfl) (by kernel_rfl) ?_
          repeat (first | go_big_quiet_skip | (go_big_quiet_want; go_big_quiet_op; go_big_quiet_on))
          refine wpQuiet_nil ?_
          intro w9 hw9
          have hb9 := Lib.hid (below_of hw9)
          have hb2 := Lib.hid (bnext hbq.out hb9.out)
          clear hw9
          go_wp2_with fail
          refine wp_region_quiet_below (by kernel_rfl) (by kernel_rfl) ?_
          repeat (first | go_big_quiet_skip | (go_big_quiet_want; go_big_quiet_op; go_big_quiet_on))
          refine wpQuiet_nil ?_
          intro w8 hw8
          have hb3 := Lib.hid (bnext hb2.out (below_of hw8))
          clear hw8
          by_cases hkk : k = co
          · obtain rfl := hkk
            have hkc : k ≤ k := Nat.le_refl _
            generalize w8 = z0 at *
            have hl1 := Lib.hid (show (o.take k).length = k by have := hmm.out; have := hk.out; rw [List.length_take]; omega)
            have Sx := Lib.hid ((SO.out.keeps hb3.out).few k hk.out)
            go_upto_region 11 with (at_builtin; refine is_appS (.tmp 47) (.tmp 50) rfl ?_; refine wpList_catS _ rfl (.tmp 47) (.tmp 50) rfl wo.heap.size _ [] rfl (OS.nil z0 _) ao k k (o.take k) rfl Sx.out (by have := hk.out; have := hol.out; simp only [List.length_nil]; omega) hb3.out.size ?_; intro v1 z1 O1 e1)
            rw [List.nil_append] at O1
            have hb4 := Lib.hid (hb3.out.trans e1)
            replace O1 := Lib.hid O1
            clear e1 Sx
            have c0 := dec.keeps hb4.out C0.out
            go_upto_region 12 with (at_builtin; refine is_appS (.tmp 52) (.tmp 58) rfl ?_; refine wpList_pushS _ rfl (.tmp 52) (.tmp 58) rfl wo.heap.size _ (o.take k) rfl (O1.out.keeps (balloc (b0 z1) _)) z1.heap.size x rfl (by simp [go_sem]) (by have := hk.out; have := hol.out; rw [hl1.out]; omega) (balloc hb4.out _).size ?_; intro v2 z2 O2 e2)
            have hb5 := Lib.hid ((balloc hb4.out _).trans e2)
            replace O2 := Lib.hid O2
            clear e2 c0
            go_wp2_with (at_builtin; refine is_appS (.tmp 60) (.tmp 63) rfl ?_; refine wpList_catS _ rfl (.tmp 60) (.tmp 63) rfl wo.heap.size _ (o.take k ++ [x]) rfl O2.out ao 0 0 [] rfl (SS.none_at (fun _ => rfl) (by omega)) (by have := hk.out; have := hol.out; rw [List.length_append, hl1.out]; simp only [List.length_cons, List.length_nil]; omega) hb5.out.size ?_; intro v3 z3 O3 e3)
            have O4 := Lib.hid (show OS z3 w.heap.size v3 (ns (l.take (j + 1))) by rw [hns.out, hins.out]; exact O3.less hb.out.size)
            have hb6 := Lib.hid (bnext hb.out (hb5.out.trans e3))
            clear e3 O3
            go_wp2_with fail
            refine ⟨⟨j + 1, congrArg (Value.int .i64) f4.out, Lib.hid hc, O4, hb6⟩, less_at hc f4.out⟩
          · have hkn : k < co := by omega
            obtain ⟨⟨bo, offo, spot⟩, rfl⟩ : ∃ x, ao = some x := by
              cases ao with
              | none => have := SO.out.hno rfl; omega
              | some x => exact ⟨x, rfl⟩
            skip
            generalize w8 = z0 at *
            have hl1 := Lib.hid (show (o.take k).length = k by have := hmm.out; have := hk.out; rw [List.length_take]; omega)
            have Sx := Lib.hid ((SO.out.keeps hb3.out).few k hk.out)
            go_upto_region 11 with (at_builtin; refine is_appS (.tmp 47) (.tmp 50) rfl ?_; refine wpList_catS _ rfl (.tmp 47) (.tmp 50) rfl wo.heap.size _ [] rfl (OS.nil z0 _) (some ⟨bo, offo, spot⟩) k co (o.take k) rfl Sx.out (by have := hk.out; have := hol.out; simp only [List.length_nil]; omega) hb3.out.size ?_; intro v1 z1 O1 e1)
            rw [List.nil_append] at O1
            have hb4 := Lib.hid (hb3.out.trans e1)
            replace O1 := Lib.hid O1
            clear e1 Sx
            have c0 := dec.keeps hb4.out C0.out
            go_upto_region 12 with (at_builtin; refine is_appS (.tmp 52) (.tmp 58) rfl ?_; refine wpList_pushS _ rfl (.tmp 52) (.tmp 58) rfl wo.heap.size _ (o.take k) rfl (O1.out.keeps (balloc (b0 z1) _)) z1.heap.size x rfl (by simp [go_sem]) (by have := hk.out; have := hol.out; rw [hl1.out]; omega) (balloc hb4.out _).size ?_; intro v2 z2 O2 e2)
            have hb5 := Lib.hid ((balloc hb4.out _).trans e2)
            replace O2 := Lib.hid O2
            clear e2 c0
            go_wp2_with (at_builtin; refine is_appS (.tmp 60) (.tmp 63) rfl ?_; refine wpList_catS _ rfl (.tmp 60) (.tmp 63) rfl wo.heap.size _ (o.take k ++ [x]) rfl O2.out (some ((⟨bo, offo, spot⟩ : Addr).add k)) 0 (co - k) [] rfl (SS.none_at (fun h => by cases h) (by omega)) (by have := hk.out; have := hol.out; rw [List.length_append, hl1.out]; simp only [List.length_cons, List.length_nil]; omega) hb5.out.size ?_; intro v3 z3 O3 e3)
            have O4 := Lib.hid (show OS z3 w.heap.size v3 (ns (l.take (j + 1))) by rw [hns.out, hins.out]; exact O3.less hb.out.size)
            have hb6 := Lib.hid (bnext hb.out (hb5.out.trans e3))
            clear e3 O3
            go_wp2_with fail
            refine ⟨⟨j + 1, congrArg (Value.int .i64) f4.out, Lib.hid hc, O4, hb6⟩, less_at hc f4.out⟩
    · have q2 : decide ((j : Int) < (n : Int)) = false := decide_eq_false (by omega)
      have hO2 := Lib.hid hO.out
      rw [show l.take j = l from List.take_of_length_le (by have := S0.out.hn; omega)] at hO2
      clear hO
      go_wp2_with fail
      go_ret
      exact ⟨_, rfl, hO2.out, hb.out⟩
end Go.Proofs.YtcndlcogainnkaaGreatDoor
