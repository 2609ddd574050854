/-
  The examples that each statement calls first: one value with its bytes and its text.
-/
import Derived.Test.YtnkdclodmeaihaaGreatDoorRea
import Derived.Test.YtnkdclodmeaihaaGreatDoorPar
import Derived.Test.YtnkdclodmeaihaaGreatDoorCmpv
import Derived.Test.YtnkdclodmeaihaaGreatDoorRck
namespace Go.Proofs.YtnkdclodmeaihaaGreatDoor
open Go.RowKit dec

set_option maxRecDepth 100000 in
set_option maxHeartbeats 1000000 in
theorem one_any (k n : Int) (s bs tx : ByteArray) (w : World) (T : Tabs w) (hk : ok ⟨k, n, s⟩ = true) (hs : s.size ≤ 1000) (hb : st_of (enc ⟨k, n, s⟩) = bs) (ht : tx.data.toList = fm ⟨k, n, s⟩) (hts : tx.size ≤ 1000) :
    Calls Tryz.prog 16 #[.agg #[.int .i64 k, .int .i64 n, .string s], .string bs, .string tx] w fun e w' => e = .returned (.bool true) ∧ Below w.heap.size w w' := by
  obtain ⟨N, hN⟩ : ∃ N, (enc ⟨k, n, s⟩).length = N := ⟨_, rfl⟩
  have hlen := enc_len ⟨k, n, s⟩
  have bl := balloc (b0 w) (.cells #[.int .i64 k, .int .i64 n, .string s] 23)
  have V0 := Vx.new w k n s 23
  have C1 := Lib.hid (fun W => appendV_any none 0 0 [] k n s hs W (li_nil W) (by omega) N (by omega))
  have hr : rV (enc ⟨k, n, s⟩) 0 = (⟨k, n, s⟩, N, 0) := by
    have := rV_back [] [] hk
    rw [List.append_nil, List.nil_append, List.length_nil, Nat.zero_add, ← enc_ok hk, hN] at this
    exact this
  have hp : psP tx.data.toList = (⟨k, n, s⟩, 0) := by rw [ht]; exact ps_fm hk
  have C3 := Lib.hid (fun W T => parseV_any tx hts W T)
  rw [hp] at C3
  have C4 := Lib.hid (fun W T => formatV_any k n s hs W T)
  have C5 := Lib.hid (check_any k n s (by omega))
  rw [ck_ok hk] at C5
  have hq : (fm ⟨k, n, s⟩ == tx.toList) = true := by rw [beq_iff_eq, ByteArray.toList_eq, ht]
  have hq2 : (bs.toList == bs.toList) = true := by simp
  have C2 := Lib.hid (fun W a c (L : Li W a N c (enc ⟨k, n, s⟩)) => readV_any a N c _ 0 W L (by omega) _ _ _ hr)
  have HS := Lib.hid (fun W a c (L : Li W a N c (enc ⟨k, n, s⟩)) => show (convert 32 9 (.slice a N c)).run Tryz.prog W = .ok (.string bs) W from hb ▸ run_str L.hat N c L.hn)
  have T0 := T.stays bl
  have BL := Lib.hid bl
  clear bl T hk hb ht hr hp hN hlen
  go_enter Tryz.func16, Tryz.ntmps16
  go_wp2_with fail
  refine (C1.out _).mono ?_
  rintro e w1 ⟨a, c, rfl, L, b1⟩
  rw [List.nil_append] at L
  replace V0 := V0.keeps b1
  replace T0 := T0.stays b1
  replace b1 := bnext BL.out b1
  clear C1 BL
  go_wp2_with fail
  refine (C2.out _ _ _ L).mono ?_
  rintro e w2 ⟨rfl, b2⟩
  replace V0 := V0.keeps b2
  replace T0 := T0.stays b2
  replace L := L.keeps b2
  replace b2 := bnext b1 b2
  clear C2 b1
  have x2 := balloc (b0 w2) (.cells #[.int .i64 k, .int .i64 n, .string s] 23)
  have W1 := Vx.new w2 k n s 23
  replace V0 := V0.keeps x2
  replace T0 := T0.stays x2
  replace L := L.keeps x2
  replace b2 := bnext b2 x2
  clear x2
  go_wp2_with fail
  refine (C3.out _ T0).mono ?_
  rintro e w3 ⟨v, cc, rfl, hvc, b3⟩
  obtain ⟨rfl, rfl⟩ : v = ⟨k, n, s⟩ ∧ cc = 0 := by simpa using hvc
  clear hvc C3
  replace V0 := V0.keeps b3
  replace W1 := W1.keeps b3
  replace T0 := T0.stays b3
  replace L := L.keeps b3
  replace b3 := bnext b2 b3
  clear b2
  have x3 := balloc (b0 w3) (.cells #[.int .i64 k, .int .i64 n, .string s] 23)
  have U1 := Vx.new w3 k n s 23
  replace V0 := V0.keeps x3
  replace W1 := W1.keeps x3
  replace T0 := T0.stays x3
  replace L := L.keeps x3
  replace b3 := bnext b3 x3
  have hcv := HS.out _ a c L
  have VH := Lib.hid V0
  obtain ⟨c0, c1, c2⟩ := V0
  clear x3
  simp only
  go_wp2_with fail
  refine (C4.out _ T0).mono ?_
  rintro e w4 ⟨rfl, b4⟩
  have V0 := VH.out.keeps b4
  replace W1 := W1.keeps b4
  replace U1 := U1.keeps b4
  replace b4 := bnext b3 b4
  clear b3 T0 L hcv c0 c1 c2 C4 HS
  obtain ⟨c0, c1, c2⟩ := V0
  obtain ⟨d0, d1, d2⟩ := W1
  obtain ⟨f0, f1, f2⟩ := U1
  go_wp2_with fail
  refine (C5.out _).mono ?_
  rintro e w5 ⟨rfl, b5⟩
  go_wp2_with fail
  go_ret
  exact ⟨rfl, bnext b4 b5⟩
end Go.Proofs.YtnkdclodmeaihaaGreatDoor
