/-
  lexer.Tokens.
-/
import Derived.Test.YtkfciilclfhabaaGreatDoorTki
namespace Go.Proofs.YtkfciilclfhabaaGreatDoor
open Go.RowKit dec

/-- What Tokens hands back. -/
def TR (w w' : World) (e : Ending) (s : ByteArray) : Prop := ∃ v u, e = .returned (.tuple #[v, u, .int .i64 (tokE s)]) ∧ tk.Own w' w.heap.size v (tokL s) ∧ pb.Own w' w.heap.size u (tokB s) ∧ Below w.heap.size w w'
theorem ext_part (s : ByteArray) (a n : Nat) : (s.extract a (a + n)).data.toList = (s.data.toList.drop a).take n := by
  rw [ext_data, show a + n - a = n by omega]
theorem part_shp {l : List UInt8} {k : Int} {n : Nat} (h : shp l = (k, n)) : k = 0 ∨ shp (l.take n) = (k, (l.take n).length) := by
  by_cases h0 : k = 0
  · exact .inl h0
  · right
    have h1 := shp_part (l := l) (by rw [h]; exact h0) (.inl rfl : Sep [])
    rw [List.append_nil, h] at h1
    have h2 := shp_le l
    rw [h] at h2
    rw [h1, take_len h2]
theorem ext_size (s : ByteArray) {a n : Nat} (h : a + n ≤ s.size) : (s.extract a (a + n)).size = n := by
  rw [← str_len, ext_part, List.length_take, List.length_drop, str_len]
  omega
theorem less_to {n x y : Nat} (h : x < n) (hy : x < y) : n - (intOf (Value.int .i64 ((y : Nat) : Int))).toNat < n - (intOf (Value.int .i64 ((x : Nat) : Int))).toNat := by
  show n - ((y : Nat) : Int).toNat < n - ((x : Nat) : Int).toNat
  omega
theorem tail_size (s : ByteArray) (a : Nat) : (s.extract a s.size).size ≤ s.size := by
  rw [← str_len (s.extract a s.size), ext_tail, List.length_drop, str_len]
  omega
theorem slice_tail (s : ByteArray) {i : Nat} (hi : i ≤ s.size) (W : World) : (Instr.slice 9 (.string s) (some (.int .i64 (i : Nat))) none none).run Tryz.prog W = .ok (.string (s.extract i s.size)) W := by
  rw [run_slice_string_from_if W 9 s .i64 _ Tryz.underlying9, if_pos ⟨by omega, by omega⟩, Int.toNat_natCast]
set_option maxRecDepth 100000 in
set_option maxHeartbeats 8000000 in
theorem tokens_any (a0 : Option Addr) (n0 cap : Nat) (s : ByteArray) (w : World) (hS : Bs w a0 n0 cap s) (T : Tabs w) :
    Calls Tryz.prog 8 #[.slice a0 n0 cap] w fun e w' => TR w w' e s := by
  have hn0 := hS.hn
  by_cases hbig : 16384 < n0
  · have q1 : decide (16384 < (n0 : Int)) = true := decide_eq_true (by omega)
    have hE := Lib.hid (show tokE s = 2 ∧ tokL s = [] ∧ tokB s = [] by unfold tokE tokL tokB; rw [if_pos (by omega), if_pos (by omega), if_pos (by omega)]; exact ⟨rfl, rfl, rfl⟩)
    clear hS T hn0
    go_enter Tryz.func8, Tryz.ntmps8
    go_wp2_with fail
    go_ret3
    exact ⟨.slice none 0 0, .slice none 0 0, by rw [hE.out.1]; rfl, by rw [hE.out.2.1]; exact tk.Own.nil _ _, by rw [hE.out.2.2]; exact pb.Own.nil _ _, b0 w⟩
  · have q1 : decide (16384 < (n0 : Int)) = false := decide_eq_false (by omega)
    have hE := Lib.hid (show tokE s = 0 ∧ tokL s = (lxs 0 false s.data.toList).1 ++ [endT s] ∧ tokB s = (lxs 0 false s.data.toList).2.take 32 by unfold tokE tokL tokB; rw [if_neg (by omega), if_neg (by omega), if_neg (by omega)]; exact ⟨rfl, rfl, rfl⟩)
    have hz : s.size ≤ 16384 := by omega
    have CV := hS.str
    have T0 := Lib.hid T
    have SK := Lib.hid (fun i hi W T => skip_any s (by omega) i hi W T)
    have LS := Lib.hid (LI.start s)
    have Z0 := Lib.hid hz
    clear hS T hbig hn0
    go_enter Tryz.func8, Tryz.ntmps8
    go_wp2_with fail
    refine (SK.out 0 (Nat.zero_le _) _ T0.out).mono ?_
    rintro e w1 ⟨rfl, b1⟩
    have B1 := Lib.hid b1
    clear b1
    generalize 0 + sk false (s.data.toList.drop 0) = x0 at *
    go_wp2_with fail
    go_loopw [2, 3, 6, 7] (fun vl vb vf va wr => ∃ (x : Nat) (fe : Int) (ts : List Tk) (bs : List Pb), va = .int .i64 (x : Nat) ∧ vf = .int .i64 fe ∧ Hid (LI s x fe ts bs) ∧ Hid (tk.Own wr w.heap.size vl ts) ∧ Hid (pb.Own wr w.heap.size vb bs) ∧ Hid (Below w.heap.size w wr)) (fun _ _ _ va _ => s.size - (intOf va).toNat)
    case atStart => exact ⟨x0, -1, [], [], rfl, rfl, LS, Lib.hid (tk.Own.nil _ _), Lib.hid (pb.Own.nil _ _), B1⟩
    case round =>
      obtain ⟨x, fe, ts, bs, rfl, rfl, hI, hO, hP, hb⟩ := hrel
      have hfew := hI.out.few
      have hl8 := Lib.hid (show ts.length < 4398046511104 by have := hfew.2.2; omega)
      have hb8 := Lib.hid (show bs.length < 8796093022208 by have := hfew.2.1; omega)
      by_cases hc : x < s.size
      · have q2 : decide ((x : Int) < (s.size : Int)) = true := decide_eq_true (by omega)
        obtain ⟨q, hq⟩ : ∃ q, shp (s.data.toList.drop x) = q := ⟨_, rfl⟩
        obtain ⟨k, n⟩ := q
        obtain ⟨c, hcd⟩ : ∃ c, flt k ((s.data.toList.drop x).take n) = c := ⟨_, rfl⟩
        obtain ⟨⟨hn1, hn2⟩, s1, s2, s3, s4⟩ := hI.out.step hc hq hcd
        replace s1 := Lib.hid s1
        replace s2 := Lib.hid s2
        replace s3 := Lib.hid s3
        replace s4 := Lib.hid s4
        have SC := Lib.hid (fun W T => shape_any (s.extract x s.size) (Nat.le_trans (tail_size s x) (by omega)) W T)
        rw [ext_tail, hq] at SC
        have SL := fun W => slice_ij s (i := x) (j := x + n) (x := (x : Int)) (y := (x : Int) + (n : Int)) rfl (by omega) (by omega) hn2 W
        have ST := fun W => slice_tail s (i := x) (Nat.le_of_lt hc) W
        have hps := ext_size s hn2
        have FC := Lib.hid (fun W T => fault_any k (s.extract x (x + n)) (by rw [hps]; omega) (by rw [ext_part]; exact part_shp hq) W T)
        rw [ext_part, hcd] at FC
        have CC := Lib.hid (fun h W => content_any k (s.extract x (x + n)) (by rw [hps]; omega) h W)
        rw [ext_part] at CC
        have hk4 := Lib.hid (show k = 4 → 2 ≤ (s.extract x (x + n)).size by
          rintro rfl
          have h1 := text_two ((part_shp hq).resolve_left (by decide))
          rw [← ext_part, str_len] at h1
          exact h1)
        have SK1 := Lib.hid (fun W T => (skip_any s (by omega) (x + n) hn2 W T : Calls Tryz.prog 25 #[.string s, .int .i64 ((x : Int) + (n : Int))] W fun e w' => e = .returned (.int .i64 ((x + n + sk false (s.data.toList.drop (x + n)) : Nat) : Int)) ∧ Below W.heap.size W w'))
        have hge := Lib.hid (show x < x + n + sk false (s.data.toList.drop (x + n)) by omega)
        generalize x + n + sk false (s.data.toList.drop (x + n)) = y at *
        generalize s.extract x (x + n) = p at *
        generalize s.extract x s.size = t at *
        generalize (⟨(cont k ((s.data.toList.drop x).take n)).toArray⟩ : ByteArray) = ct at *
        have hxn := Lib.hid hn2
        clear hq hcd hps hI
        obtain ⟨ab, cb, rfl, hsb⟩ := hP.out.sl
        generalize hm : bs.length = m at *
        replace hm := Lib.hid hm
        by_cases hc0 : c = 0
        · subst hc0
          obtain ⟨hk0, hI2⟩ := s1.out rfl
          have qk : (k == 0) = false := by rw [beq_eq_false_iff_ne]; exact hk0
          replace hI2 := Lib.hid hI2
          clear s1 s2 s3 s4 hk0 hsb
          go_wp2_with fail
          refine (SC.out _ (T0.out.stays hb.out)).mono ?_
          rintro e w2 ⟨rfl, b2⟩
          have B2 := Lib.hid (bnext hb.out b2)
          have O2 := Lib.hid (hO.out.keeps b2)
          have P2 := Lib.hid (hP.out.keeps b2)
          clear b2 hO hP hb
          go_wp2_with fail
          refine (FC.out _ (T0.out.stays B2.out)).mono ?_
          rintro e w3 ⟨rfl, b3⟩
          have B3 := Lib.hid (bnext B2.out b3)
          have O3 := Lib.hid (O2.out.keeps b3)
          have P3 := Lib.hid (P2.out.keeps b3)
          clear b3 O2 P2 B2
          have CC1 := Lib.hid (CC.out hk4.out w3)
          go_wp2_with fail
          refine CC1.out.mono ?_
          rintro e w4 ⟨rfl, rfl⟩
          go_wp2_with (at_builtin; refine tk.is_app (.tmp 45) (.tmp 52) rfl ?_; refine tk.wpList_push _ rfl (.tmp 45) (.tmp 52) rfl w.heap.size _ _ rfl (O3.out.keeps (balloc (b0 w4) _)) w4.heap.size ⟨k, ct, (x : Nat)⟩ rfl (tk.Bw.new w4 ⟨k, ct, (x : Nat)⟩ 39) hl8.out (by have := B3.out.size; simp; omega) ?_; intro v2 w6 O6 b6 g6)
          have P6 := Lib.hid (pb_stays (O3.out.keeps (balloc (b0 w4) _)) (P3.out.keeps (balloc (b0 w4) _)) g6)
          have B6 := Lib.hid ((balloc B3.out (.cells #[.int .i64 k, .string ct, .int .i64 (x : Nat)] 39)).trans b6)
          have O7 := Lib.hid O6
          clear b6 O6 g6
          go_wp2_with fail
          refine (SK1.out _ (T0.out.stays B6.out)).mono ?_
          rintro e w7 ⟨rfl, b7⟩
          have B7 := Lib.hid (bnext B6.out b7)
          have O8 := Lib.hid (O7.out.keeps b7)
          have P8 := Lib.hid (P6.out.keeps b7)
          clear b7
          go_wp2_with fail
          exact ⟨⟨y, fe, _, bs, rfl, rfl, hI2, O8, P8, B7⟩, less_to hc hge.out⟩
        · have qc : (c == 0) = false := by rw [beq_eq_false_iff_ne]; exact hc0
          by_cases hk0 : k = 0
          · subst hk0
            by_cases hxe : (x : Int) = fe
            · subst hxe
              have hI2 := Lib.hid (s2.out hc0 rfl rfl)
              clear s1 s2 s3 s4 hsb CC hk4
              go_wp2_with fail
              refine (SC.out _ (T0.out.stays hb.out)).mono ?_
              rintro e w2 ⟨rfl, b2⟩
              have B2 := Lib.hid (bnext hb.out b2)
              have O2 := Lib.hid (hO.out.keeps b2)
              have P2 := Lib.hid (hP.out.keeps b2)
              clear b2 hO hP hb
              go_wp2_with fail
              refine (FC.out _ (T0.out.stays B2.out)).mono ?_
              rintro e w3 ⟨rfl, b3⟩
              have B3 := Lib.hid (bnext B2.out b3)
              have O3 := Lib.hid (O2.out.keeps b3)
              have P3 := Lib.hid (P2.out.keeps b3)
              clear b3 O2 P2 B2
              go_wp2_with fail
              refine (SK1.out _ (T0.out.stays B3.out)).mono ?_
              rintro e w7 ⟨rfl, b7⟩
              have B7 := Lib.hid (bnext B3.out b7)
              have O8 := Lib.hid (O3.out.keeps b7)
              have P8 := Lib.hid (P3.out.keeps b7)
              clear b7
              go_wp2_with fail
              exact ⟨⟨y, _, ts, bs, rfl, rfl, hI2, O8, P8, B7⟩, less_to hc hge.out⟩
            · have qx : ((x : Int) == fe) = false := by rw [beq_eq_false_iff_ne]; exact hxe
              by_cases hm32 : m < 32
              · have qm : decide ((m : Int) < 32) = true := decide_eq_true (by omega)
                have hI2 := Lib.hid (s3.out hc0 (fun h => hxe h.2) hm32)
                rw [if_pos rfl] at hI2
                clear s1 s2 s3 s4 hsb CC hk4
                go_wp2_with fail
                refine (SC.out _ (T0.out.stays hb.out)).mono ?_
                rintro e w2 ⟨rfl, b2⟩
                have B2 := Lib.hid (bnext hb.out b2)
                have O2 := Lib.hid (hO.out.keeps b2)
                have P2 := Lib.hid (hP.out.keeps b2)
                clear b2 hO hP hb
                go_wp2_with fail
                refine (FC.out _ (T0.out.stays B2.out)).mono ?_
                rintro e w3 ⟨rfl, b3⟩
                have B3 := Lib.hid (bnext B2.out b3)
                have O3 := Lib.hid (O2.out.keeps b3)
                have P3 := Lib.hid (P2.out.keeps b3)
                clear b3 O2 P2 B2
                go_wp2_with (at_builtin; refine pb.is_app (.tmp 66) (.tmp 70) rfl ?_; refine pb.wpList_push _ rfl (.tmp 66) (.tmp 70) rfl w.heap.size _ _ rfl (P3.out.keeps (balloc (b0 w3) _)) w3.heap.size ((x : Nat), c) rfl (pb.Bw.new w3 ((x : Nat), c) 52) (by rw [hm.out]; exact hb8.out) (by have := B3.out.size; simp; omega) ?_; intro v2 w6 P6 b6 g6)
                have O6 := Lib.hid (tk_stays (P3.out.keeps (balloc (b0 w3) _)) (O3.out.keeps (balloc (b0 w3) _)) g6)
                have B6 := Lib.hid ((balloc B3.out (.cells #[.int .i64 (x : Nat), .int .i64 c] 52)).trans b6)
                have P7 := Lib.hid P6
                clear b6 P6 g6
                go_wp2_with fail
                refine (SK1.out _ (T0.out.stays B6.out)).mono ?_
                rintro e w7 ⟨rfl, b7⟩
                have B7 := Lib.hid (bnext B6.out b7)
                have O8 := Lib.hid (O6.out.keeps b7)
                have P8 := Lib.hid (P7.out.keeps b7)
                clear b7
                go_wp2_with fail
                exact ⟨⟨y, _, ts, _, rfl, rfl, hI2, O8, P8, B7⟩, less_to hc hge.out⟩
              · have qm : decide ((m : Int) < 32) = false := decide_eq_false (by omega)
                have hI2 := Lib.hid (s4.out hc0 (fun h => hxe h.2) hm32)
                rw [if_pos rfl] at hI2
                clear s1 s2 s3 s4 hsb CC hk4
                go_wp2_with fail
                refine (SC.out _ (T0.out.stays hb.out)).mono ?_
                rintro e w2 ⟨rfl, b2⟩
                have B2 := Lib.hid (bnext hb.out b2)
                have O2 := Lib.hid (hO.out.keeps b2)
                have P2 := Lib.hid (hP.out.keeps b2)
                clear b2 hO hP hb
                go_wp2_with fail
                refine (FC.out _ (T0.out.stays B2.out)).mono ?_
                rintro e w3 ⟨rfl, b3⟩
                have B3 := Lib.hid (bnext B2.out b3)
                have O3 := Lib.hid (O2.out.keeps b3)
                have P3 := Lib.hid (P2.out.keeps b3)
                clear b3 O2 P2 B2
                go_wp2_with fail
                refine (SK1.out _ (T0.out.stays B3.out)).mono ?_
                rintro e w7 ⟨rfl, b7⟩
                have B7 := Lib.hid (bnext B3.out b7)
                have O8 := Lib.hid (O3.out.keeps b7)
                have P8 := Lib.hid (P3.out.keeps b7)
                clear b7
                go_wp2_with fail
                exact ⟨⟨y, _, ts, bs, rfl, rfl, hI2, O8, P8, B7⟩, less_to hc hge.out⟩
          · have qk : (k == 0) = false := by rw [beq_eq_false_iff_ne]; exact hk0
            by_cases hm32 : m < 32
            · have qm : decide ((m : Int) < 32) = true := decide_eq_true (by omega)
              have hI2 := Lib.hid (s3.out hc0 (fun h => hk0 h.1) hm32)
              rw [if_neg hk0] at hI2
              clear s1 s2 s3 s4 hsb CC hk4
              go_wp2_with fail
              refine (SC.out _ (T0.out.stays hb.out)).mono ?_
              rintro e w2 ⟨rfl, b2⟩
              have B2 := Lib.hid (bnext hb.out b2)
              have O2 := Lib.hid (hO.out.keeps b2)
              have P2 := Lib.hid (hP.out.keeps b2)
              clear b2 hO hP hb
              go_wp2_with fail
              refine (FC.out _ (T0.out.stays B2.out)).mono ?_
              rintro e w3 ⟨rfl, b3⟩
              have B3 := Lib.hid (bnext B2.out b3)
              have O3 := Lib.hid (O2.out.keeps b3)
              have P3 := Lib.hid (P2.out.keeps b3)
              clear b3 O2 P2 B2
              go_wp2_with (at_builtin; refine pb.is_app (.tmp 66) (.tmp 70) rfl ?_; refine pb.wpList_push _ rfl (.tmp 66) (.tmp 70) rfl w.heap.size _ _ rfl (P3.out.keeps (balloc (b0 w3) _)) w3.heap.size ((x : Nat), c) rfl (pb.Bw.new w3 ((x : Nat), c) 52) (by rw [hm.out]; exact hb8.out) (by have := B3.out.size; simp; omega) ?_; intro v2 w6 P6 b6 g6)
              have O6 := Lib.hid (tk_stays (P3.out.keeps (balloc (b0 w3) _)) (O3.out.keeps (balloc (b0 w3) _)) g6)
              have B6 := Lib.hid ((balloc B3.out (.cells #[.int .i64 (x : Nat), .int .i64 c] 52)).trans b6)
              have P7 := Lib.hid P6
              clear b6 P6 g6
              go_wp2_with fail
              refine (SK1.out _ (T0.out.stays B6.out)).mono ?_
              rintro e w7 ⟨rfl, b7⟩
              have B7 := Lib.hid (bnext B6.out b7)
              have O8 := Lib.hid (O6.out.keeps b7)
              have P8 := Lib.hid (P7.out.keeps b7)
              clear b7
              go_wp2_with fail
              exact ⟨⟨y, _, ts, _, rfl, rfl, hI2, O8, P8, B7⟩, less_to hc hge.out⟩
            · have qm : decide ((m : Int) < 32) = false := decide_eq_false (by omega)
              have hI2 := Lib.hid (s4.out hc0 (fun h => hk0 h.1) hm32)
              rw [if_neg hk0] at hI2
              clear s1 s2 s3 s4 hsb CC hk4
              go_wp2_with fail
              refine (SC.out _ (T0.out.stays hb.out)).mono ?_
              rintro e w2 ⟨rfl, b2⟩
              have B2 := Lib.hid (bnext hb.out b2)
              have O2 := Lib.hid (hO.out.keeps b2)
              have P2 := Lib.hid (hP.out.keeps b2)
              clear b2 hO hP hb
              go_wp2_with fail
              refine (FC.out _ (T0.out.stays B2.out)).mono ?_
              rintro e w3 ⟨rfl, b3⟩
              have B3 := Lib.hid (bnext B2.out b3)
              have O3 := Lib.hid (O2.out.keeps b3)
              have P3 := Lib.hid (P2.out.keeps b3)
              clear b3 O2 P2 B2
              go_wp2_with fail
              refine (SK1.out _ (T0.out.stays B3.out)).mono ?_
              rintro e w7 ⟨rfl, b7⟩
              have B7 := Lib.hid (bnext B3.out b7)
              have O8 := Lib.hid (O3.out.keeps b7)
              have P8 := Lib.hid (P3.out.keeps b7)
              clear b7
              go_wp2_with fail
              exact ⟨⟨y, _, ts, bs, rfl, rfl, hI2, O8, P8, B7⟩, less_to hc hge.out⟩
      · have q2 : decide ((x : Int) < (s.size : Int)) = false := decide_eq_false (by omega)
        have hov := hI.out.over hc
        clear hI
        rw [hov.1, hov.2] at hE
        clear hov
        go_wp2_with (at_builtin; refine tk.is_app (.tmp 78) (.tmp 82) rfl ?_; refine tk.wpList_push _ rfl (.tmp 78) (.tmp 82) rfl w.heap.size _ _ rfl (hO.out.keeps (balloc (b0 wr) _)) wr.heap.size (endT s) rfl (tk.Bw.new wr (endT s) 39) hl8.out (by have := hb.out.size; simp; omega) ?_; intro v2 w6 O6 b6 g6)
        have P6 := Lib.hid (pb_stays (hO.out.keeps (balloc (b0 wr) _)) (hP.out.keeps (balloc (b0 wr) _)) g6)
        have B6 := Lib.hid ((balloc hb.out (.cells #[.int .i64 6, .string .empty, .int .i64 (s.size : Nat)] 39)).trans b6)
        go_ret3
        exact ⟨_, _, by rw [hE.out.1]; rfl, by rw [hE.out.2.1]; exact O6, by rw [hE.out.2.2]; exact P6.out, B6.out⟩
end Go.Proofs.YtkfciilclfhabaaGreatDoor
