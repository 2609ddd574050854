/-
  The reference's Format.
-/
import Derived.Test.YtcndlcogainnkaaGreatDoorRfm
namespace Go.Proofs.YtcndlcogainnkaaGreatDoor
open Go.RowKit dec

theorem less_dn2 {n d : Nat} (h : d < n) : n - (intOf (Value.int .i64 ((d : Int) + 1))).toNat < n - (intOf (Value.int .i64 (d : Int))).toNat := by
  show n - (((d : Int) + 1)).toNat < n - ((d : Nat) : Int).toNat
  omega
theorem fT_next {l : List Fa} {j : Nat} (h : j < l.length) : fT (l.take (j + 1)) = if j = 0 then f1 (gt l j) else fT (l.take j) ++ 42 :: f1 (gt l j) := by
  unfold fT
  rw [take_gt h, List.map_append, List.map_singleton, join_snoc]
  by_cases h0 : j = 0
  · subst h0
    simp
  · rw [if_neg h0, if_neg]
    intro e
    have hl := congrArg List.length e
    rw [List.length_map, List.length_take, List.length_nil] at hl
    omega
theorem str_len (s : ByteArray) : s.data.toList.length = s.size := by rw [Array.length_toList]; rfl
set_option maxRecDepth 100000 in
set_option maxHeartbeats 4000000 in
theorem rformat_any (a : Option Addr) (n cap : Nat) (l : List Fa) (w : World) (hS : Sl w a n cap l) (hx : ∀ x ∈ l, -9223372036854775808 ≤ x.2 ∧ x.2 ≤ 9223372036854775807) (ht : ∀ j, (fT (l.take j)).length ≤ 140737488355328) :
    Calls Tryz.prog 24 #[.slice a n cap] w fun e w' => e = .returned (.string ⟨(fT l).toArray⟩) ∧ Below w.heap.size w w' := by
  have S0 := Lib.hid hS
  have X0 := Lib.hid hx
  have T0 := Lib.hid ht
  clear hS hx ht
  go_enter Tryz.func24, Tryz.ntmps24
  go_wp2_with fail
  go_loopw [3, 4] (fun vo vi wr => ∃ j : Nat, vi = .int .i64 (j : Nat) ∧ Hid (j ≤ n) ∧ Hid (OB wr w.heap.size vo (fT (l.take j))) ∧ Hid (Below w.heap.size w wr)) (fun _ vi _ => n - (intOf vi).toNat)
  case atStart => exact ⟨0, rfl, Lib.hid (Nat.zero_le _), Lib.hid (OB.nil _ _), Lib.hid (b0 w)⟩
  case round =>
    obtain ⟨j, rfl, hj, hO, hb⟩ := hrel
    by_cases hc : j < n
    · have hln := Lib.hid (show j < l.length by have := S0.out.hn; omega)
      obtain ⟨bk, off, rfl, hC⟩ := S0.out.hat.resolve_left (by have := hln.out; omega)
      have C0 := Lib.hid (hC j hln.out).1
      have C1 := Lib.hid (hC j hln.out).2
      have q2 : decide ((j : Int) < (n : Int)) = true := decide_eq_true (by omega)
      have q3 : j < n := hc
      have f4 := Lib.hid (next_at (j := j) (by have := S0.out.hcap; have := S0.out.hmax; omega))
      have hnx := fT_next hln.out
      have hxr := X0.out _ (gt_mem hln.out)
      have htl := T0.out (j + 1)
      clear hC
      generalize gt l j = x at C0 C1 hnx hxr
      obtain ⟨nm, y⟩ := x
      simp only at C0 C1 hxr
      have DC := Lib.hid (fun W => rdig_any y hxr.1 hxr.2 W)
      have hsz := str_len nm
      have hit := str_len ⟨(Lib.itoa y).toArray⟩
      clear hxr
      obtain ⟨it, hitq⟩ : ∃ it : ByteArray, it = ⟨(Lib.itoa y).toArray⟩ := ⟨_, rfl⟩
      have hitd : Lib.itoa y = it.data.toList := by rw [hitq]
      rw [← hitq] at DC hit
      rw [show f1 (nm, y) = if y = 1 then nm.data.toList else nm.data.toList ++ 94 :: it.data.toList by unfold f1; rw [hitd]] at hnx
      clear hitq hitd
      obtain ⟨L0, hL0⟩ : ∃ L, fT (l.take j) = L := ⟨_, rfl⟩
      rw [hL0] at hO hnx
      by_cases h0 : j = 0
      · have q6 : decide ((0 : Int) < (j : Int)) = false := decide_eq_false (by omega)
        have q7 : decide (0 < j) = false := decide_eq_false (by omega)
        have hz : L0 = [] := by rw [← hL0, h0]; rfl
        rw [if_pos h0] at hnx
        by_cases h1 : y = 1
        · rw [if_pos h1] at hnx
          have q8 : (y != 1) = false := by rw [bne_eq_false_iff_eq]; exact h1
          have HL := Lib.hid (show fT (l.take (j + 1)) = L0 ++ nm.data.toList by rw [hnx, hz]; rfl)
          have hlen := Lib.hid (show L0.length + nm.size ≤ 140737488355328 by rw [HL.out, List.length_append, hsz] at htl; exact htl)
          clear hnx htl hsz hit hL0 hz h0
          replace h1 := Lib.hid h1
          have c0 := dec.keeps hb.out C0.out
          go_upto_region 8 with (at_builtin; refine is_appT (.tmp 16) (.tmp 21) rfl ?_; refine wpList_catB _ rfl (.tmp 16) (.tmp 21) rfl w.heap.size _ (L0) rfl hO.out nm rfl (by have := hlen.out; (try simp only [List.length_append, List.length_cons, List.length_nil]); omega) hb.out.size ?_; intro v2 z2 o2 e2)
          have B2 := Lib.hid (hb.out.trans e2)
          have O2 := Lib.hid o2
          clear e2 o2
          clear c0
          have c1 := dec.keeps B2.out C1.out
          go_wp2_with fail
          clear c1
          refine ⟨⟨j + 1, by first | exact congrArg (Value.int .i64) f4.out | rfl, Lib.hid hc, Lib.hid (by rw [HL.out]; simpa using O2.out), B2⟩, by first | exact less_at hc f4.out | exact less_dn2 hc⟩
        · rw [if_neg h1] at hnx
          have q8 : (y != 1) = true := by rw [bne_iff_ne]; exact h1
          have HL := Lib.hid (show fT (l.take (j + 1)) = L0 ++ (nm.data.toList ++ 94 :: it.data.toList) by rw [hnx, hz]; rfl)
          have hlen := Lib.hid (show L0.length + nm.data.toList.length + 1 + it.size ≤ 140737488355328 ∧ nm.data.toList.length = nm.size by rw [HL.out] at htl; simp only [List.length_append, List.length_cons, hit] at htl; exact ⟨by omega, hsz⟩)
          clear hnx htl hsz hit hL0 hz h0
          replace h1 := Lib.hid h1
          have c0 := dec.keeps hb.out C0.out
          go_upto_region 8 with (at_builtin; refine is_appT (.tmp 16) (.tmp 21) rfl ?_; refine wpList_catB _ rfl (.tmp 16) (.tmp 21) rfl w.heap.size _ (L0) rfl hO.out nm rfl (by have := hlen.out; (try simp only [List.length_append, List.length_cons, List.length_nil]); omega) hb.out.size ?_; intro v2 z2 o2 e2)
          have B2 := Lib.hid (hb.out.trans e2)
          have O2 := Lib.hid o2
          clear e2 o2
          clear c0
          have c1 := dec.keeps B2.out C1.out
          go_upto_region 10 with (at_builtin; go_loud (refine is_appB (.tmp 29) (.tmp 30) rfl ?_; refine wpList_pushB _ rfl (.tmp 29) (.tmp 30) rfl w.heap.size _ (L0 ++ nm.data.toList) rfl (O2.out.keeps (balloc (b0 z2) _)) z2.heap.size 94 rfl (by simp [go_sem]) (by have := hlen.out; (try simp only [List.length_append, List.length_cons, List.length_nil]); omega) (balloc B2.out _).size ?_; intro v3 z3 o3 e3))
          have B3 := Lib.hid ((balloc B2.out _).trans e3)
          have O3 := Lib.hid o3
          clear e3 o3
          clear c1
          have c1 := dec.keeps B3.out C1.out
          go_wp2_with fail
          refine (DC.out _).mono ?_
          rintro e z5 ⟨rfl, b5⟩
          have O5 := Lib.hid (O3.out.keeps b5)
          have B5 := Lib.hid (bnext B3.out b5)
          clear b5 c1
          go_wp2_with (at_builtin; refine is_appT (.tmp 32) (.tmp 38) rfl ?_; refine wpList_catB _ rfl (.tmp 32) (.tmp 38) rfl w.heap.size _ (L0 ++ nm.data.toList ++ [94]) rfl O5.out it rfl (by have := hlen.out; (try simp only [List.length_append, List.length_cons, List.length_nil]); omega) B5.out.size ?_; intro v6 z6 o6 e6)
          have B6 := Lib.hid (B5.out.trans e6)
          have O6 := Lib.hid o6
          clear e6 o6
          go_wp2_with fail
          refine ⟨⟨j + 1, by first | exact congrArg (Value.int .i64) f4.out | rfl, Lib.hid hc, Lib.hid (by rw [HL.out]; simpa using O6.out), B6⟩, by first | exact less_at hc f4.out | exact less_dn2 hc⟩
      · have q6 : decide ((0 : Int) < (j : Int)) = true := decide_eq_true (by omega)
        have q7 : decide (0 < j) = true := decide_eq_true (by omega)
        rw [if_neg h0] at hnx
        by_cases h1 : y = 1
        · rw [if_pos h1] at hnx
          have q8 : (y != 1) = false := by rw [bne_eq_false_iff_eq]; exact h1
          have HL := Lib.hid hnx
          have hlen := Lib.hid (show L0.length + 1 + nm.size ≤ 140737488355328 by rw [HL.out] at htl; simp only [List.length_append, List.length_cons, hsz] at htl; omega)
          clear hnx htl hsz hit hL0 h0
          replace h1 := Lib.hid h1
          go_upto_region 7 with (at_builtin; go_loud (refine is_appB (.tmp 13) (.tmp 14) rfl ?_; refine wpList_pushB _ rfl (.tmp 13) (.tmp 14) rfl w.heap.size _ (L0) rfl (hO.out.keeps (balloc (b0 wr) _)) wr.heap.size 42 rfl (by simp [go_sem]) (by have := hlen.out; (try simp only [List.length_append, List.length_cons, List.length_nil]); omega) (balloc hb.out _).size ?_; intro v1 z1 o1 e1))
          have B1 := Lib.hid ((balloc hb.out _).trans e1)
          have O1 := Lib.hid o1
          clear e1 o1
          have c0 := dec.keeps B1.out C0.out
          have c1 := dec.keeps B1.out C1.out
          go_upto_region 8 with (at_builtin; refine is_appT (.tmp 16) (.tmp 21) rfl ?_; refine wpList_catB _ rfl (.tmp 16) (.tmp 21) rfl w.heap.size _ (L0 ++ [42]) rfl O1.out nm rfl (by have := hlen.out; (try simp only [List.length_append, List.length_cons, List.length_nil]); omega) B1.out.size ?_; intro v2 z2 o2 e2)
          have B2 := Lib.hid (B1.out.trans e2)
          have O2 := Lib.hid o2
          clear e2 o2
          clear c0
          clear c1
          have c1 := dec.keeps B2.out C1.out
          go_wp2_with fail
          clear c1
          refine ⟨⟨j + 1, by first | exact congrArg (Value.int .i64) f4.out | rfl, Lib.hid hc, Lib.hid (by rw [HL.out]; simpa using O2.out), B2⟩, by first | exact less_at hc f4.out | exact less_dn2 hc⟩
        · rw [if_neg h1] at hnx
          have q8 : (y != 1) = true := by rw [bne_iff_ne]; exact h1
          have HL := Lib.hid hnx
          have hlen := Lib.hid (show L0.length + 1 + nm.data.toList.length + 1 + it.size ≤ 140737488355328 ∧ nm.data.toList.length = nm.size by rw [HL.out] at htl; simp only [List.length_append, List.length_cons, hit] at htl; exact ⟨by omega, hsz⟩)
          clear hnx htl hsz hit hL0 h0
          replace h1 := Lib.hid h1
          go_upto_region 7 with (at_builtin; go_loud (refine is_appB (.tmp 13) (.tmp 14) rfl ?_; refine wpList_pushB _ rfl (.tmp 13) (.tmp 14) rfl w.heap.size _ (L0) rfl (hO.out.keeps (balloc (b0 wr) _)) wr.heap.size 42 rfl (by simp [go_sem]) (by have := hlen.out; (try simp only [List.length_append, List.length_cons, List.length_nil]); omega) (balloc hb.out _).size ?_; intro v1 z1 o1 e1))
          have B1 := Lib.hid ((balloc hb.out _).trans e1)
          have O1 := Lib.hid o1
          clear e1 o1
          have c0 := dec.keeps B1.out C0.out
          have c1 := dec.keeps B1.out C1.out
          go_upto_region 8 with (at_builtin; refine is_appT (.tmp 16) (.tmp 21) rfl ?_; refine wpList_catB _ rfl (.tmp 16) (.tmp 21) rfl w.heap.size _ (L0 ++ [42]) rfl O1.out nm rfl (by have := hlen.out; (try simp only [List.length_append, List.length_cons, List.length_nil]); omega) B1.out.size ?_; intro v2 z2 o2 e2)
          have B2 := Lib.hid (B1.out.trans e2)
          have O2 := Lib.hid o2
          clear e2 o2
          clear c0
          clear c1
          have c1 := dec.keeps B2.out C1.out
          go_upto_region 10 with (at_builtin; go_loud (refine is_appB (.tmp 29) (.tmp 30) rfl ?_; refine wpList_pushB _ rfl (.tmp 29) (.tmp 30) rfl w.heap.size _ (L0 ++ [42] ++ nm.data.toList) rfl (O2.out.keeps (balloc (b0 z2) _)) z2.heap.size 94 rfl (by simp [go_sem]) (by have := hlen.out; (try simp only [List.length_append, List.length_cons, List.length_nil]); omega) (balloc B2.out _).size ?_; intro v3 z3 o3 e3))
          have B3 := Lib.hid ((balloc B2.out _).trans e3)
          have O3 := Lib.hid o3
          clear e3 o3
          clear c1
          have c1 := dec.keeps B3.out C1.out
          go_wp2_with fail
          refine (DC.out _).mono ?_
          rintro e z5 ⟨rfl, b5⟩
          have O5 := Lib.hid (O3.out.keeps b5)
          have B5 := Lib.hid (bnext B3.out b5)
          clear b5 c1
          go_wp2_with (at_builtin; refine is_appT (.tmp 32) (.tmp 38) rfl ?_; refine wpList_catB _ rfl (.tmp 32) (.tmp 38) rfl w.heap.size _ (L0 ++ [42] ++ nm.data.toList ++ [94]) rfl O5.out it rfl (by have := hlen.out; (try simp only [List.length_append, List.length_cons, List.length_nil]); omega) B5.out.size ?_; intro v6 z6 o6 e6)
          have B6 := Lib.hid (B5.out.trans e6)
          have O6 := Lib.hid o6
          clear e6 o6
          go_wp2_with fail
          refine ⟨⟨j + 1, by first | exact congrArg (Value.int .i64) f4.out | rfl, Lib.hid hc, Lib.hid (by rw [HL.out]; simpa using O6.out), B6⟩, by first | exact less_at hc f4.out | exact less_dn2 hc⟩
    · have q2 : decide ((j : Int) < (n : Int)) = false := decide_eq_false (by omega)
      rw [show l.take j = l from List.take_of_length_le (by have := S0.out.hn; omega)] at hO
      have cv := fun W (h : Below wr.heap.size wr W) => (hO.out.keeps h).str
      have cv0 := hO.out.str
      go_wp2_with fail
      go_ret
      exact ⟨rfl, hb.out⟩
end Go.Proofs.YtcndlcogainnkaaGreatDoor
