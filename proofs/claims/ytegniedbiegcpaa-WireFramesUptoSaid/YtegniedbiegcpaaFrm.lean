/-
  Frames: appending, and the reader's.
-/
import Derived.Test.YtegniedbiegcpaaSum4
import Derived.Deep.RegionWith
namespace Go.Proofs.Ytegniedbiegcpaa
open Go.RowKit

theorem sums_new (w : World) (S : Nat) : AtL (w.alloc (.cells #[.int .u8 (pw S 0 : Nat), .int .u8 (pw S 1 : Nat), .int .u8 (pw S 2 : Nat), .int .u8 (pw S 3 : Nat)] 57)) (some ⟨w.heap.size, 0, none⟩) (le4 S) := by
  refine ⟨.inr ⟨_, _, rfl, fun j hj => ?_⟩, (by_le4 S).ix⟩
  rw [le4_pw] at hj ⊢
  have h : j = 0 ∨ j = 1 ∨ j = 2 ∨ j = 3 := by simp at hj; omega
  rcases h with rfl | rfl | rfl | rfl <;> simp [go_sem, ix]

set_option maxRecDepth 20000 in
set_option maxHeartbeats 1000000 in
theorem appendFrame_any (a : Option Addr) (n cap : Nat) (l : List Nat) (a2 : Option Addr) (m cap2 : Nat) (r : List Nat) (w : World) (hA : Li w a n cap l) (hB : Li w a2 m cap2 r) (hlm : m ≤ 140737488351232) (hn : n + (m + 14) ≤ 281474976710656)
    (N : Nat) (hN : n + (en m).length + m + 4 = N) :
    Calls Try.prog 21 #[.slice a n cap, .slice a2 m cap2] w fun e w' => e = .returned (.slice (some ⟨w.heap.size, 0, none⟩) N (n + (m + 14))) ∧ Ow w' w.heap.size N (n + (m + 14)) (l ++ (en m ++ (r ++ le4 (cs r)))) ∧ Below w.heap.size w w' := by
  have h10 := en_ten (n := m) (by omega)
  have c1 := extensible_any a n cap (m + 14) l w hA hn (10 + m + 4) (by omega)
  have HN := Lib.hid hN
  clear hN hA
  go_enter Try.func21, Try.ntmps21
  go_wp2_with fail
  refine c1.mono ?_
  rintro e w1 ⟨rfl, O, b1⟩
  clear c1
  go_wp2_with fail
  refine (digits_any w.heap.size n (n + (m + 14)) l m w1 O (by omega) (by omega)).mono ?_
  rintro e w2 ⟨rfl, O2, b2⟩
  have b12 := b1.trans b2
  have hB2 := hB.keeps b12
  have hat := hB2.hat
  have HNO : Hid (a2 = none → cap2 = 0 ∧ m = 0) := Lib.hid fun e => ⟨hB.hno e, by have := hB.hno e; have := hB.hcap; omega⟩
  have HLN := Lib.hid hB.hn
  clear b1 b2 O
  go_wp2_with (at_builtin; refine wpList_fit _ rfl (.tmp 17) (.tmp 18) rfl w.heap.size (n + (en m).length) (n + (m + 14)) (l ++ en m) rfl O2 a2 m cap2 r rfl hat HLN.out HNO.out (by omega) ?_; intro w3 O3 b3)
  have b13 := b12.trans b3
  clear b12 b3 O2
  refine (sumBytes_any a2 m cap2 r w3 (hB.keeps b13) hlm).mono ?_
  rintro e w4 ⟨rfl, b4⟩
  replace O3 := O3.next b4
  have b14 := b13.trans (b4.mono b13.size)
  clear b13 b4 hat
  obtain ⟨S, hS⟩ : ∃ S, cs r = S := ⟨_, rfl⟩
  rw [hS]
  have HS := Lib.hid hS
  clear hS
  go_wp2_with (at_builtin; refine wpList_fit _ rfl (.tmp 22) (.tmp 23) rfl w.heap.size (n + (en m).length + m) (n + (m + 14)) (l ++ en m ++ r) rfl (O3.next (balloc (b0 _) _)) (some ⟨w4.heap.size, 0, none⟩) 4 4 (le4 S) rfl (sums_new w4 S) rfl (fun e => by cases e) (by omega) ?_; intro w5 O5 b5)
  go_ret
  rw [HN.out, List.append_assoc, List.append_assoc] at O5
  rw [HS.out]
  exact ⟨by rw [← HN.out]; rfl, O5, (b14.alloc b14.size _).trans b5⟩

theorem eq_lists {l r : List Nat} (h1 : By l) (h3 : By r) : ((st_of l).toList == (st_of r).toList) = decide (l = r) := by
  rw [ByteArray.toList_eq, ByteArray.toList_eq]
  by_cases h : l = r
  · subst h; simp
  · rw [decide_eq_false h]
    simp only [beq_eq_false_iff_ne, ne_eq]
    intro e
    apply h
    apply st_of_inj h1 h3
    unfold st_of at e ⊢
    simp only at e
    rw [e]

/-- bytes.Equal. -/
theorem equal_any (a : Option Addr) (n c : Nat) (l : List Nat) (a2 : Option Addr) (m d : Nat) (r : List Nat) (w : World) (h1 : AtL w a l) (h2 : l.length = n) (h3 : AtL w a2 r) (h4 : r.length = m) :
    Calls Try.prog 55 #[.slice a n c, .slice a2 m d] w fun e w' => e = .returned (.bool (decide (l = r))) ∧ w = w' := by
  have s1 := run_str h1 n c h2
  have s2 := run_str h3 m d h4
  have hb := eq_lists h1.by h3.by
  have HB := Lib.hid hb
  clear hb
  go_enter Try.func55, Try.ntmps55
  go_wp2_with fail
  go_ret
  exact ⟨by rw [← HB.out]; rfl, rfl⟩

/-- What reading a frame gives. -/
def rdF (L : List Nat) : RF :=
  match rd L 0 0 with
  | .err c => .err c
  | .ok N k => if 8192 < N then .err 2 else if L.length - k < N + 4 then .err 41 else if (L.drop (k + N)).take 4 = le4 (cs ((L.drop k).take N)) then .ok ((L.drop k).take N) (k + N + 4) else .err 40

theorem Li.apart {B : Nat} {w w' : World} {a : Option Addr} {n cap : Nat} {l : List Nat} (h : Li w a n cap l) (p : Apart B w.drew w') (lo : n = 0 ∨ ∃ b off, a = some ⟨b, off, none⟩ ∧ b < B) : Li w' a n cap l := by
  refine { h with hat := ?_ }
  rcases lo with h0 | ⟨b, off, rfl, hb⟩
  · have : l = [] := List.eq_nil_of_length_eq_zero (by rw [h.hn, h0])
    subst this
    exact AtL.nil _ _
  · exact AtL.apart p (Nat.ne_of_lt hb) (h.hat.keeps ((b0 w).drew))

set_option maxRecDepth 100000 in
set_option maxHeartbeats 2000000 in
theorem frame_read (B : Nat) (a : Option Addr) (n cap : Nat) (l : List Nat) (p : Nat) (w : World) (hR : Rdr w B a n cap l p) :
    Calls Try.prog 48 #[.pointer (some ⟨B, 0, none⟩)] w (Fr w B a n cap l p (rdF (l.drop p))) := by
  have hc := digits_read B a n cap l p w hR
  have hle := hR.le
  have hlim := hR.li.hlim
  have hln : l.length = n := hR.li.hn
  have hLl : (l.drop p).length = n - p := by rw [List.length_drop, hln]
  unfold rdF
  have hby : By (l.drop p) := hR.li.hat.by.drop p
  rcases hrd : rd (l.drop p) 0 0 with ⟨N, k⟩ | c
  · rw [hrd] at hc
    simp only
    obtain ⟨rest, hL, hk, hN64⟩ := rd_back hby hrd
    have hkl : k ≤ n - p := by rw [← hLl, hL, List.length_append]; omega
    rw [List.drop_drop, List.drop_drop, ← Nat.add_assoc, hLl]
    clear hrd hL hk hLl hby
    obtain ⟨q, hq⟩ : ∃ q, p + k = q := ⟨_, rfl⟩
    have hnq : n - p - k = n - q := by omega
    have hqn : q ≤ n := by omega
    rw [hq, hnq]
    have HQ := Lib.hid hq
    have HN64 := Lib.hid hN64
    clear hnq hq hkl hN64
    by_cases h1 : 8192 < N
    · rw [if_pos h1]
      have t1 : decide ((8192 : Int) < N) = true := decide_eq_true (by omega)
      go_enter Try.func48, Try.ntmps48
      go_wp2_with fail
      refine hc.mono ?_
      rintro e w1 ⟨rfl, R1, b1⟩
      go_wp2_with fail
      exact ⟨rfl, rfl, b1⟩
    · rw [if_neg h1]
      have t1 : decide ((8192 : Int) < N) = false := decide_eq_false (by omega)
      by_cases h2 : n - q < N
      · rw [if_pos (by omega)]
        go_enter Try.func48, Try.ntmps48
        go_wp2_with fail
        refine hc.mono ?_
        rintro e w1 ⟨rfl, R1, b1⟩
        rw [HQ.out] at R1
        go_wp2_with fail
        refine (take_short B a n cap l q N w1 R1 h2).mono ?_
        rintro e w2 ⟨rfl, b2⟩
        exact ⟨rfl, rfl, b1.trans b2⟩
      · obtain ⟨v, hv⟩ : ∃ v, (l.drop q).take N = v := ⟨_, rfl⟩
        rw [hv]
        have HV := Lib.hid hv
        clear hv
        by_cases h3 : n - q < N + 4
        · rw [if_pos h3]
          have hc2 : q + N ≤ n := by omega
          have hc3 : n - (q + N) < 4 := by omega
          clear h3 h2
          go_enter Try.func48, Try.ntmps48
          go_wp2_with fail
          refine hc.mono ?_
          rintro e w1 ⟨rfl, R1, b1⟩
          rw [HQ.out] at R1
          go_wp2_with fail
          refine (take_any B a n cap l q N w1 R1 hc2).mono ?_
          rintro e w2 ⟨a', rfl, L2, lo2, R2, b2, _⟩
          rw [HV.out] at L2
          replace b2 := b1.trans b2
          clear b1 R1
          go_wp2_with fail
          refine (sumBytes_any a' N N v w2 L2 (by omega)).mono ?_
          rintro e w3 ⟨rfl, b3⟩
          replace R2 := R2.keeps b3
          replace L2 := L2.keeps b3
          replace b2 := b2.trans (b3.mono (Nat.le_of_lt (Nat.lt_of_lt_of_le hR.lt b2.size)))
          clear b3
          have lt2 := R2.lt
          have S3 := sums_new w3 (cs v)
          have R3 := R2.keeps (balloc (b0 w3) (.cells #[.int .u8 (pw (cs v) 0 : Nat), .int .u8 (pw (cs v) 1 : Nat), .int .u8 (pw (cs v) 2 : Nat), .int .u8 (pw (cs v) 3 : Nat)] 57))
          have b4 : Below B w _ := b2.alloc (Nat.le_of_lt lt2) (.cells #[.int .u8 (pw (cs v) 0 : Nat), .int .u8 (pw (cs v) 1 : Nat), .int .u8 (pw (cs v) 2 : Nat), .int .u8 (pw (cs v) 3 : Nat)] 57)
          go_wp2_with fail
          generalize w3.alloc (.cells #[.int .u8 (pw (cs v) 0 : Nat), .int .u8 (pw (cs v) 1 : Nat), .int .u8 (pw (cs v) 2 : Nat), .int .u8 (pw (cs v) 3 : Nat)] 57) = w4 at *
          generalize w3.heap.size = g3 at *
          have T4 : Calls Try.prog 46 #[.pointer (some ⟨B, 0, none⟩), .int .u64 4] w4.drew fun e w' => e = thrown 41 ∧ Below B w4.drew w' := take_short B a n cap l (q + N) 4 w4.drew (R3.keeps ((b0 w4).drew)) hc3
          replace b4 := b4.drew
          clear S3 R3 hc
          refine wp_region_any (by kernel_rfl) ?_
          change wpAny _ _ _ _ _ _ _ (World.drew _)
          refine wpAny_take (i := 0) (v := ?_) rfl (by kernel_rfl) (by kernel_rfl) (by kernel_rfl) (fun _ _ _ h => h) (Or.inl ⟨by rfl, ?_⟩) ?_
          rotate_left
          · intro w; go_simp; with_reducible rfl
          refine wpAny_ready (rs := [1, 2]) (by kernel_rfl) (by simp) ?_
          refine AllReady.cons rfl (fun K hK => ?_) ?_
          · go_simp
            refine T4.mono ?_
            rintro e w5 ⟨rfl, b5⟩
            exact ⟨rfl, rfl, b4.trans b5⟩
          refine AllReady.cons rfl (fun K hK => ?_) AllReady.nil
          go_simp
          refine hK _ _ ?_
          clear hK K
          refine wpAny_ready (rs := [1]) (by kernel_rfl) (by simp) ?_
          refine AllReady.cons rfl (fun K hK => ?_) AllReady.nil
          go_simp
          refine T4.mono ?_
          rintro e w5 ⟨rfl, b5⟩
          exact ⟨rfl, rfl, b4.trans b5⟩
        · rw [if_neg h3]
          have hc2 : q + N ≤ n := by omega
          have hc3 : q + N + 4 ≤ n := by omega
          clear h3 h2
          obtain ⟨u, hu⟩ : ∃ u, (l.drop (q + N)).take 4 = u := ⟨_, rfl⟩
          have hq2 : p + (k + N) = q + N := by rw [← HQ.out]; omega
          have hq4 : q + N + 4 = p + (k + N + 4) := by rw [← HQ.out]; omega
          rw [hu]
          obtain ⟨r, hr⟩ : ∃ r, (if u = le4 (cs v) then RF.ok v (k + N + 4) else RF.err 40) = r := ⟨_, rfl⟩
          rw [hr]
          have HR := Lib.hid hr
          clear hr
          have HU := Lib.hid hu
          have HQ4 := Lib.hid hq4
          clear hu hq2 hq4
          go_enter Try.func48, Try.ntmps48
          go_wp2_with fail
          refine hc.mono ?_
          rintro e w1 ⟨rfl, R1, b1⟩
          rw [HQ.out] at R1
          go_wp2_with fail
          refine (take_any B a n cap l q N w1 R1 hc2).mono ?_
          rintro e w2 ⟨a', rfl, L2, lo2, R2, b2, _⟩
          rw [HV.out] at L2
          replace b2 := b1.trans b2
          clear b1 R1
          go_wp2_with fail
          refine (sumBytes_any a' N N v w2 L2 (by omega)).mono ?_
          rintro e w3 ⟨rfl, b3⟩
          replace R2 := R2.keeps b3
          replace L2 := L2.keeps b3
          replace b2 := b2.trans (b3.mono (Nat.le_of_lt (Nat.lt_of_lt_of_le hR.lt b2.size)))
          clear b3
          have lt2 := R2.lt
          have S3 := sums_new w3 (cs v)
          have g0 := balloc (b0 w3) (.cells #[.int .u8 (pw (cs v) 0 : Nat), .int .u8 (pw (cs v) 1 : Nat), .int .u8 (pw (cs v) 2 : Nat), .int .u8 (pw (cs v) 3 : Nat)] 57)
          have R3 := R2.keeps g0
          have L3 := L2.keeps g0
          have b4 : Below B w _ := b2.alloc (Nat.le_of_lt lt2) (.cells #[.int .u8 (pw (cs v) 0 : Nat), .int .u8 (pw (cs v) 1 : Nat), .int .u8 (pw (cs v) 2 : Nat), .int .u8 (pw (cs v) 3 : Nat)] 57)
          go_wp2_with fail
          generalize w3.alloc (.cells #[.int .u8 (pw (cs v) 0 : Nat), .int .u8 (pw (cs v) 1 : Nat), .int .u8 (pw (cs v) 2 : Nat), .int .u8 (pw (cs v) 3 : Nat)] 57) = w4 at *
          have hg3 : B < w3.heap.size := lt2
          generalize w3.heap.size = g3 at *
          clear g0 R2 L2 b2 lt2
          have T4 : Calls Try.prog 46 #[.pointer (some ⟨B, 0, none⟩), .int .u64 4] w4.drew (Tk w4.drew B a n cap l (q + N) 4) := take_any B a n cap l (q + N) 4 w4.drew (R3.keeps ((b0 w4).drew)) hc3
          replace b4 := b4.drew
          clear R3 hc
          go_region_with (first | (go_at_call 46; refine T4.mono ?_; rintro e w5 ⟨a5, rfl, L5, lo5, R5, b5, p5⟩; rw [HU.out] at L5; replace S3 := AtL.apart p5 (Nat.ne_of_gt hg3) (S3.keeps ((b0 w4).drew))) | (go_at_call 55; refine (equal_any a5 4 4 u (some ⟨g3, 0, none⟩) 4 4 (le4 (cs v)) w5 L5.hat L5.hn S3 rfl).mono ?_; rintro e w' ⟨rfl, rfl⟩))
          all_goals
            have L6 : Li w5 a' N N v := L3.apart p5 lo2
            have hvl : v.length = N := L3.hn
            have HVL := Lib.hid hvl
            have hbB := b4.trans b5
            clear T4 L3 S3 L5 lo5 p5 hvl
            by_cases hs : u = le4 (cs v)
            · have hd : decide (u = le4 (cs v)) = true := decide_eq_true hs
              have hr := HR.out
              rw [if_pos hs] at hr
              subst hr
              clear hs
              generalize decide (u = le4 (cs v)) = dd at *
              subst hd
              go_wp2_with fail
              refine (extensible_any a' N N 0 v w5 L6 (by omega) 0 rfl).mono ?_
              rintro e w6 ⟨rfl, O6, b6⟩
              go_wp2_with fail
              go_ret
              have hB5 := R5.lt
              rw [HQ4.out] at R5
              refine ⟨w5.heap.size, by rw [HVL.out]; rfl, hbB.size, by rw [HVL.out]; exact O6, R5.keeps b6, hbB.trans (b6.mono (Nat.le_of_lt hB5))⟩
            · have hd : decide (u = le4 (cs v)) = false := decide_eq_false hs
              have hr := HR.out
              rw [if_neg hs] at hr
              subst hr
              clear hs
              generalize decide (u = le4 (cs v)) = dd at *
              subst hd
              go_wp2_with fail
              exact ⟨rfl, rfl, hbB⟩
  · rw [hrd] at hc
    simp only
    clear hrd
    go_enter Try.func48, Try.ntmps48
    go_wp2_with fail
    refine hc.mono ?_
    rintro e w1 ⟨rfl, b1⟩
    exact ⟨rfl, rfl, b1⟩
end Go.Proofs.Ytegniedbiegcpaa
