/-
  The reference's Tokens.
-/
import Derived.Test.YtkfciilclfhabaaGreatDoorRto
namespace Go.Proofs.YtkfciilclfhabaaGreatDoor
open Go.RowKit dec

theorem lt_on {x n : Nat} (t : Nat) (h : 1 ≤ n) : x < x + n + t := by omega
theorem wrap_add {x n m : Nat} (h : x + n ≤ m) (hm : m ≤ 1048576) : wrap64 ((x : Int) + (n : Int)) = (x : Int) + (n : Int) := by unfold wrap64; omega
theorem mx_facts {N n : Nat} {k : Int} (hN : N = if k = 0 then 0 else n) (hn : 1 ≤ n) (hk : k = 0 → n = 1) : max N 1 = n ∧ (if (N : Int) < 1 then (1 : Int) else (N : Int)) = (n : Int) ∧ (if (1 : Int) < (N : Int) then (N : Int) else (1 : Int)) = (n : Int) ∧ max (N : Int) 1 = (n : Int) ∧ max 1 (N : Int) = (n : Int) := by
  by_cases h : k = 0
  · rw [if_pos h] at hN
    rw [hN, hk h]
    decide
  · rw [if_neg h] at hN
    subst hN
    refine ⟨by omega, ?_, ?_, by omega, by omega⟩ <;> split <;> omega
theorem LI.low {s : ByteArray} {a : Nat} {fe : Int} {ts : List Tk} {bs : List Pb} (h : LI s a fe ts bs) : fe ≤ (a : Int) := by
  obtain ⟨p, f, h1, _, h3, _⟩ := h
  omega
theorem sgn_zero {l : List UInt8} (h : (sgn l).1 = 0) (h0 : l ≠ []) : (sgn l).2 = 1 := by
  rcases sgn_ways l h0 with e | e | e
  · rw [e]
  · rw [e] at h; cases h
  · rw [e] at h; cases h
theorem shp_zero {l : List UInt8} {n : Nat} (h : shp l = (0, n)) (h0 : l ≠ []) : n = 1 := by
  cases l with
  | nil => exact absurd rfl h0
  | cons c r =>
    rw [shp_cons] at h
    split at h
    · cases h
    · split at h
      · split at h <;> cases h
      · split at h
        · cases h
        · have := sgn_zero (l := c :: r) (by rw [h]) h0
          rw [h] at this
          exact this
/-- A problem, or none. -/
theorem LI.bad {s : ByteArray} {a y : Nat} {fe : Int} {ts : List Tk} {bs : List Pb} {k : Int} {n m N : Nat} {c : Int} (hc : c ≠ 0) (hN : N = if k = 0 then 0 else n) (hn : 1 ≤ n)
    (s2 : c ≠ 0 → k = 0 → (a : Int) = fe → LI s y ((a + n : Nat) : Int) ts bs)
    (s3 : c ≠ 0 → ¬ (k = 0 ∧ (a : Int) = fe) → m < 32 → LI s y (if k = 0 then ((a + n : Nat) : Int) else fe) ts (bs ++ [(((a : Nat) : Int), c)]))
    (s4 : c ≠ 0 → ¬ (k = 0 ∧ (a : Int) = fe) → ¬ m < 32 → LI s y (if k = 0 then ((a + n : Nat) : Int) else fe) ts bs)
    {b1 b2 f : Bool} (h1 : decide (0 < N) = b1) (h2 : decide (m < 32) = b2) (hf : f = decide ((a : Int) = fe)) :
    LI s y (if k = 0 then ((a + n : Nat) : Int) else fe) ts (if ((b1 || !f) && b2) = true then bs ++ [(((a : Nat) : Int), c)] else bs) := by
  by_cases hk : k = 0
  · rw [if_pos hk] at hN
    subst hN
    by_cases hx : (a : Int) = fe
    · have h0 : ((b1 || !f) && b2) = false := by rw [← h1, hf, decide_eq_true hx]; rfl
      rw [h0, if_pos hk]
      exact s2 hc hk hx
    · have h0 : ((b1 || !f) && b2) = b2 := by rw [← h1, hf, decide_eq_false hx]; rfl
      rw [h0, ← h2]
      by_cases hb : m < 32
      · rw [decide_eq_true hb, if_pos rfl]
        exact s3 hc (fun h => hx h.2) (by omega)
      · rw [decide_eq_false hb, if_neg (show ¬ (false = true) by decide)]
        exact s4 hc (fun h => hx h.2) (by omega)
  · rw [if_neg hk] at hN
    have h0 : ((b1 || !f) && b2) = b2 := by rw [← h1, decide_eq_true (by omega)]; rfl
    rw [h0, ← h2]
    by_cases hb : m < 32
    · rw [decide_eq_true hb, if_pos rfl]
      exact s3 hc (fun h => hk h.1) (by omega)
    · rw [decide_eq_false hb, if_neg (show ¬ (false = true) by decide)]
      exact s4 hc (fun h => hk h.1) (by omega)
/-- Whether the last byte was foreign. -/
theorem foreign_next {x y : Nat} {fe k : Int} {n N : Nat} (hlow : fe ≤ (x : Int)) (hN : N = if k = 0 then 0 else n) (hn : 1 ≤ n) (hy : x < y) : (((N : Int) == 0) && ((y : Int) == (x : Int) + (n : Int))) = decide ((y : Int) = if k = 0 then ((x + n : Nat) : Int) else fe) := by
  rw [eqb, eqb]
  by_cases hk : k = 0
  · rw [if_pos hk] at hN
    rw [if_pos hk, hN, Int.natCast_add]
    simp
  · rw [if_neg hk] at hN
    rw [if_neg hk, decide_eq_false (show ¬ (N : Int) = 0 by omega), decide_eq_false (show ¬ (y : Int) = fe by omega)]
    rfl
theorem new2T (w : World) (o : Obj) (x : Tk) (T : TypeId) : tk.Bw ((w.alloc o).alloc (.cells #[.int .i64 x.k, .string x.t, .int .i64 x.a] T)) (w.heap.size + 1) x := ⟨by simp [go_sem], by simp [go_sem], by simp [go_sem]⟩
theorem new2P (w : World) (o : Obj) (x : Pb) (T : TypeId) : pb.Bw ((w.alloc o).alloc (.cells #[.int .i64 x.1, .int .i64 x.2] T)) (w.heap.size + 1) x := ⟨by simp [go_sem], by simp [go_sem]⟩
set_option maxRecDepth 100000 in
set_option maxHeartbeats 30000000 in
theorem rtokens_any (a0 : Option Addr) (n0 cap : Nat) (s : ByteArray) (w : World) (hS : Bs w a0 n0 cap s) :
    Calls Tryz.prog 9 #[.slice a0 n0 cap] w fun e w' => TR w w' e s := by
  have hn0 := hS.hn
  subst hn0
  by_cases hbig : 16384 < s.size
  · have q1 : decide (16384 < (s.size : Int)) = true := decide_eq_true (by omega)
    have q1' : decide (16384 < s.size) = true := decide_eq_true hbig
    have hE := Lib.hid (show tokE s = 2 ∧ tokL s = [] ∧ tokB s = [] by unfold tokE tokL tokB; rw [if_pos (by omega), if_pos (by omega), if_pos (by omega)]; exact ⟨rfl, rfl, rfl⟩)
    clear hS
    go_enter Tryz.func9, Tryz.ntmps9
    go_wp2_with fail
    go_ret3
    exact ⟨.slice none 0 0, .slice none 0 0, by rw [hE.out.1]; rfl, by rw [hE.out.2.1]; exact tk.Own.nil _ _, by rw [hE.out.2.2]; exact pb.Own.nil _ _, b0 w⟩
  · have q1 : decide (16384 < (s.size : Int)) = false := decide_eq_false (by omega)
    have q1' : decide (16384 < s.size) = false := decide_eq_false hbig
    have hE := Lib.hid (show tokE s = 0 ∧ tokL s = (lxs 0 false s.data.toList).1 ++ [endT s] ∧ tokB s = (lxs 0 false s.data.toList).2.take 32 by unfold tokE tokL tokB; rw [if_neg (by omega), if_neg (by omega), if_neg (by omega)]; exact ⟨rfl, rfl, rfl⟩)
    have hz : s.size ≤ 16384 := by omega
    have SK := Lib.hid (fun i hi W hS => rskip_any a0 s.size cap s (by omega) i hi W hS)
    have TK := Lib.hid (fun i hi W hS => rtoken_any a0 s.size cap s (by omega) i hi W hS)
    have LS := Lib.hid (LI.start s)
    have Z0 := Lib.hid hz
    have S0 := Lib.hid hS
    clear hS hz
    go_enter Tryz.func9, Tryz.ntmps9
    go_wp2_with fail
    refine (SK.out 0 (Nat.zero_le _) _ S0.out).mono ?_
    rintro e w1 ⟨rfl, rfl⟩
    generalize 0 + sk false (s.data.toList.drop 0) = x0 at *
    go_wp2_with fail
    go_loopw [5, 6, 7, 8] (fun vl vb va vf wr => ∃ (x : Nat) (fe : Int) (f : Bool) (ts : List Tk) (bs : List Pb), va = .int .i64 (x : Nat) ∧ vf = .bool f ∧ Hid (f = decide ((x : Int) = fe)) ∧ Hid (LI s x fe ts bs) ∧ Hid (tk.Own wr w1.heap.size vl ts) ∧ Hid (pb.Own wr w1.heap.size vb bs) ∧ Hid (Below w1.heap.size w1 wr)) (fun _ _ va _ _ => s.size - (intOf va).toNat)
    case atStart => exact ⟨x0, -1, false, [], [], rfl, rfl, Lib.hid (by rw [decide_eq_false (by omega)]), LS, Lib.hid (tk.Own.nil _ _), Lib.hid (pb.Own.nil _ _), Lib.hid (b0 _)⟩
    case round =>
      obtain ⟨x, fe, f, ts, bs, rfl, rfl, hf, hI, hO, hP, hb⟩ := hrel
      have hfew := hI.out.few
      have hl8 := Lib.hid (show ts.length < 4398046511104 by have := hfew.2.2; omega)
      have hb8 := Lib.hid (show bs.length < 8796093022208 by have := hfew.2.1; omega)
      by_cases hc : x < s.size
      · have q2 : decide ((x : Int) < (s.size : Int)) = true := decide_eq_true (by omega)
        have q2' : decide (x < s.size) = true := decide_eq_true hc
        obtain ⟨q, hq⟩ : ∃ q, shp (s.data.toList.drop x) = q := ⟨_, rfl⟩
        obtain ⟨k, n⟩ := q
        obtain ⟨c, hcd⟩ : ∃ c, flt k ((s.data.toList.drop x).take n) = c := ⟨_, rfl⟩
        obtain ⟨⟨hn1, hn2⟩, s1, s2, s3, s4⟩ := hI.out.step hc hq hcd
        have hk1 : k = 0 → n = 1 := fun h => shp_zero (by rw [← h]; exact hq) (drop_ne s hc)
        have hlow := hI.out.low
        have TC := Lib.hid (fun W hS => TK.out x hc W hS)
        unfold TkA at TC
        rw [hq] at TC
        simp only [hcd] at TC
        obtain ⟨N, hN⟩ : ∃ N : Nat, N = if k = 0 then 0 else n := ⟨_, rfl⟩
        rw [← hN] at TC
        have SK1 := Lib.hid (fun W hS => (SK.out (x + n) hn2 W hS : Calls Tryz.prog 29 #[.slice a0 s.size cap, .int .i64 ((x : Int) + (n : Int))] W fun e w' => e = .returned (.int .i64 ((x + n + sk false (s.data.toList.drop (x + n)) : Nat) : Int)) ∧ w' = W))
        have hge := Lib.hid (lt_on (x := x) (sk false (s.data.toList.drop (x + n))) hn1)
        generalize x + n + sk false (s.data.toList.drop (x + n)) = y at *
        generalize (⟨(cont k ((s.data.toList.drop x).take n)).toArray⟩ : ByteArray) = ct at *
        have hnx := Lib.hid (foreign_next hlow hN hn1 hge.out)
        have f1 : wrap64 ((x : Int) + (n : Int)) = (x : Int) + (n : Int) := wrap_add hn2 (by have := Z0.out; omega)
        obtain ⟨b1, hb1⟩ : ∃ b, decide (0 < N) = b := ⟨_, rfl⟩
        have hb1' : decide ((0 : Int) < (N : Int)) = b1 := by rw [← hb1, decide_eq_decide]; omega
        obtain ⟨z1, hz1⟩ : ∃ b, ((N : Int) == 0) = b := ⟨_, rfl⟩
        have hzb : z1 = !b1 := by rw [← hz1, ← hb1, eqb]; by_cases h : N = 0 <;> simp [h] <;> omega
        obtain ⟨z2, hz2⟩ : ∃ b, ((y : Int) == (x : Int) + (n : Int)) = b := ⟨_, rfl⟩
        rw [hz1, hz2] at hnx
        obtain ⟨mx, mx1, mx2, mx3, mx4⟩ := mx_facts hN hn1 hk1
        obtain ⟨ab, cb, rfl, hsb⟩ := hP.out.sl
        generalize hm : bs.length = m at *
        by_cases hc0 : c = 0
        · subst hc0
          obtain ⟨hk0, hI2⟩ := s1 rfl
          rw [if_neg hk0] at hnx
          clear hzb
          obtain rfl : z1 = false := by rw [← hz1, beq_eq_false_iff_ne, hN, if_neg hk0]; omega
          replace hI2 := Lib.hid hI2
          replace hc := Lib.hid hc
          clear s1 s2 s3 s4 hsb hk1 hlow hN hb1 hb1' hfew hI hf
          go_wp2_with fail
          refine (TC.out _ (S0.out.keeps hb.out)).mono ?_
          rintro e w2 ⟨x', rfl, hx', b2⟩
          obtain rfl := hx' trivial
          have B2 := Lib.hid (bnext hb.out b2)
          have O2 := Lib.hid (hO.out.keeps b2)
          have P2 := Lib.hid (hP.out.keeps b2)
          clear b2 hO hP hb hx'
          have BB := Lib.hid (balloc (balloc (b0 w2) (.cells #[.int .i64 k, .string ct, .int .i64 (x : Nat)] 39)) (.cells #[.int .i64 k, .string ct, .int .i64 (x : Nat)] 39))
          go_wp2_with (at_builtin; refine tk.is_app (.tmp 52) (.tmp 54) rfl ?_; refine tk.wpList_push _ rfl (.tmp 52) (.tmp 54) rfl w1.heap.size _ _ rfl (O2.out.keeps BB.out) (w2.heap.size + 1) ⟨k, ct, (x : Nat)⟩ rfl (new2T w2 _ ⟨k, ct, (x : Nat)⟩ 39) hl8.out (by have := B2.out.size; simp; omega) ?_; intro v2 w6 O6 b6 g6)
          have P6 := Lib.hid (pb_stays (O2.out.keeps BB.out) (P2.out.keeps BB.out) g6)
          have B6 := Lib.hid ((balloc (balloc B2.out (.cells #[.int .i64 k, .string ct, .int .i64 (x : Nat)] 39)) (.cells #[.int .i64 k, .string ct, .int .i64 (x : Nat)] 39)).trans b6)
          have O7 := Lib.hid O6
          clear b6 O6 g6 BB
          go_wp2_with fail
          refine (SK1.out _ (S0.out.keeps B6.out)).mono ?_
          rintro e w7 ⟨rfl, rfl⟩
          go_wp2_with fail
          exact ⟨⟨y, fe, _, _, bs, rfl, rfl, hnx, hI2, O7, P6, B6⟩, less_to hc.out hge.out⟩
        · have hI2 := LI.bad hc0 hN hn1 s2 s3 s4 hb1 rfl hf.out
          have qc : (c != 0) = true := by rw [bne_iff_ne]; exact hc0
          have qc' : (c == 0) = false := by rw [beq_eq_false_iff_ne]; exact hc0
          obtain ⟨b2, hb2⟩ : ∃ b, decide (m < 32) = b := ⟨_, rfl⟩
          have hb2' : decide ((m : Int) < 32) = b2 := by rw [← hb2, decide_eq_decide]; omega
          rw [hb2] at hI2
          replace hc := Lib.hid hc
          replace hm := Lib.hid hm
          by_cases hk0 : k = 0
          · obtain rfl : N = 0 := by rw [hN, if_pos hk0]
            obtain rfl : n = 1 := hk1 hk0
            obtain rfl : b1 = false := hb1.symm
            obtain rfl : z1 = true := hz1.symm
            rw [if_pos hk0] at hI2 hnx
            clear s1 s2 s3 s4 hsb hk1 hlow hN hfew hI hf hc0 hb1 hb1' hz1 hzb mx mx1 mx2 mx3 mx4 hq hcd hk0 hn1 hn2 hb2
            replace hI2 := Lib.hid hI2
            replace TC : Hid (∀ W (hS : Bs W a0 s.size cap s), Calls Tryz.prog 30 #[.slice a0 s.size cap, .int .i64 (x : Nat)] W fun e w' => ∃ x' : Tk, e = .returned (.tuple #[.agg #[.int .i64 x'.k, .string x'.t, .int .i64 x'.a], .int .i64 0, .int .i64 c]) ∧ (c = 0 → x' = ⟨k, ct, (x : Nat)⟩) ∧ Below W.heap.size W w') := TC
            have mx5 : max (0 : Int) 1 = 1 := rfl
            replace f1 : wrap64 ((x : Int) + 1) = (x : Int) + 1 := f1
            replace hz2 : ((y : Int) == (x : Int) + 1) = z2 := hz2
            replace SK1 : Hid (∀ W (hS : Bs W a0 s.size cap s), Calls Tryz.prog 29 #[.slice a0 s.size cap, .int .i64 ((x : Int) + 1)] W fun e w' => e = .returned (.int .i64 (y : Nat)) ∧ w' = W) := SK1
            cases f
            · cases b2
              · replace hI2 : Hid (LI s y ((x + 1 : Nat) : Int) ts bs) := hI2
                go_wp2_with fail
                refine (TC.out _ (S0.out.keeps hb.out)).mono ?_
                rintro e w2 ⟨x', rfl, _, b2⟩
                have B2 := Lib.hid (bnext hb.out b2)
                have O2 := Lib.hid (hO.out.keeps b2)
                have P2 := Lib.hid (hP.out.keeps b2)
                clear b2 hO hP hb
                have BB := Lib.hid (balloc (b0 w2) (.cells #[.int .i64 x'.k, .string x'.t, .int .i64 x'.a] 39))
                have B6 := Lib.hid (balloc B2.out (.cells #[.int .i64 x'.k, .string x'.t, .int .i64 x'.a] 39))
                have O6 := Lib.hid (O2.out.keeps BB.out)
                have P6 := Lib.hid (P2.out.keeps BB.out)
                go_wp2_with fail
                refine (SK1.out _ (S0.out.keeps B6.out)).mono ?_
                rintro e w7 ⟨rfl, rfl⟩
                go_wp2_with fail
                exact ⟨⟨y, _, _, ts, bs, rfl, rfl, hnx, hI2, O6, P6, B6⟩, less_to hc.out hge.out⟩
              · replace hI2 : Hid (LI s y ((x + 1 : Nat) : Int) ts (bs ++ [(((x : Nat) : Int), c)])) := hI2
                go_wp2_with fail
                refine (TC.out _ (S0.out.keeps hb.out)).mono ?_
                rintro e w2 ⟨x', rfl, _, b2⟩
                have B2 := Lib.hid (bnext hb.out b2)
                have O2 := Lib.hid (hO.out.keeps b2)
                have P2 := Lib.hid (hP.out.keeps b2)
                clear b2 hO hP hb
                have BB := Lib.hid (balloc (balloc (b0 w2) (.cells #[.int .i64 x'.k, .string x'.t, .int .i64 x'.a] 39)) (.cells #[.int .i64 (x : Nat), .int .i64 c] 52))
                go_wp2_with (at_builtin; refine pb.is_app (.tmp 44) (.tmp 48) rfl ?_; refine pb.wpList_push _ rfl (.tmp 44) (.tmp 48) rfl w1.heap.size _ _ rfl (P2.out.keeps BB.out) (w2.heap.size + 1) ((x : Nat), c) rfl (new2P w2 _ ((x : Nat), c) 52) (by rw [hm.out]; exact hb8.out) (by have := B2.out.size; simp; omega) ?_; intro v2 w6 P6 b6 g6)
                have O6 := Lib.hid (tk_stays (P2.out.keeps BB.out) (O2.out.keeps BB.out) g6)
                have B6 := Lib.hid ((balloc (balloc B2.out (.cells #[.int .i64 x'.k, .string x'.t, .int .i64 x'.a] 39)) (.cells #[.int .i64 (x : Nat), .int .i64 c] 52)).trans b6)
                have P7 := Lib.hid P6
                clear b6 P6 g6 BB
                go_wp2_with fail
                refine (SK1.out _ (S0.out.keeps B6.out)).mono ?_
                rintro e w7 ⟨rfl, rfl⟩
                go_wp2_with fail
                exact ⟨⟨y, _, _, ts, _, rfl, rfl, hnx, hI2, O6, P7, B6⟩, less_to hc.out hge.out⟩
            · replace hI2 : Hid (LI s y ((x + 1 : Nat) : Int) ts bs) := hI2
              go_wp2_with fail
              refine (TC.out _ (S0.out.keeps hb.out)).mono ?_
              rintro e w2 ⟨x', rfl, _, b2⟩
              have B2 := Lib.hid (bnext hb.out b2)
              have O2 := Lib.hid (hO.out.keeps b2)
              have P2 := Lib.hid (hP.out.keeps b2)
              clear b2 hO hP hb
              have BB := Lib.hid (balloc (b0 w2) (.cells #[.int .i64 x'.k, .string x'.t, .int .i64 x'.a] 39))
              have B6 := Lib.hid (balloc B2.out (.cells #[.int .i64 x'.k, .string x'.t, .int .i64 x'.a] 39))
              have O6 := Lib.hid (O2.out.keeps BB.out)
              have P6 := Lib.hid (P2.out.keeps BB.out)
              go_wp2_with fail
              refine (SK1.out _ (S0.out.keeps B6.out)).mono ?_
              rintro e w7 ⟨rfl, rfl⟩
              go_wp2_with fail
              exact ⟨⟨y, _, _, ts, bs, rfl, rfl, hnx, hI2, O6, P6, B6⟩, less_to hc.out hge.out⟩
          · obtain rfl : N = n := by rw [hN, if_neg hk0]
            obtain rfl : b1 = true := by rw [← hb1, decide_eq_true (by omega)]
            obtain rfl : z1 = false := by rw [← hz1, beq_eq_false_iff_ne]; omega
            rw [if_neg hk0] at hI2 hnx
            clear s1 s2 s3 s4 hsb hk1 hlow hN hfew hI hf hc0 hb1 hzb mx hq hcd hk0 hn1 hn2 hb2
            replace hI2 := Lib.hid hI2
            cases b2
            · replace hI2 : Hid (LI s y fe ts bs) := hI2
              go_wp2_with fail
              refine (TC.out _ (S0.out.keeps hb.out)).mono ?_
              rintro e w2 ⟨x', rfl, _, b2⟩
              have B2 := Lib.hid (bnext hb.out b2)
              have O2 := Lib.hid (hO.out.keeps b2)
              have P2 := Lib.hid (hP.out.keeps b2)
              clear b2 hO hP hb
              have BB := Lib.hid (balloc (b0 w2) (.cells #[.int .i64 x'.k, .string x'.t, .int .i64 x'.a] 39))
              have B6 := Lib.hid (balloc B2.out (.cells #[.int .i64 x'.k, .string x'.t, .int .i64 x'.a] 39))
              have O6 := Lib.hid (O2.out.keeps BB.out)
              have P6 := Lib.hid (P2.out.keeps BB.out)
              go_wp2_with fail
              refine (SK1.out _ (S0.out.keeps B6.out)).mono ?_
              rintro e w7 ⟨rfl, rfl⟩
              go_wp2_with fail
              exact ⟨⟨y, _, _, ts, bs, rfl, rfl, hnx, hI2, O6, P6, B6⟩, less_to hc.out hge.out⟩
            · replace hI2 : Hid (LI s y fe ts (bs ++ [(((x : Nat) : Int), c)])) := hI2
              go_wp2_with fail
              refine (TC.out _ (S0.out.keeps hb.out)).mono ?_
              rintro e w2 ⟨x', rfl, _, b2⟩
              have B2 := Lib.hid (bnext hb.out b2)
              have O2 := Lib.hid (hO.out.keeps b2)
              have P2 := Lib.hid (hP.out.keeps b2)
              clear b2 hO hP hb
              have BB := Lib.hid (balloc (balloc (b0 w2) (.cells #[.int .i64 x'.k, .string x'.t, .int .i64 x'.a] 39)) (.cells #[.int .i64 (x : Nat), .int .i64 c] 52))
              go_wp2_with (at_builtin; refine pb.is_app (.tmp 44) (.tmp 48) rfl ?_; refine pb.wpList_push _ rfl (.tmp 44) (.tmp 48) rfl w1.heap.size _ _ rfl (P2.out.keeps BB.out) (w2.heap.size + 1) ((x : Nat), c) rfl (new2P w2 _ ((x : Nat), c) 52) (by rw [hm.out]; exact hb8.out) (by have := B2.out.size; simp; omega) ?_; intro v2 w6 P6 b6 g6)
              have O6 := Lib.hid (tk_stays (P2.out.keeps BB.out) (O2.out.keeps BB.out) g6)
              have B6 := Lib.hid ((balloc (balloc B2.out (.cells #[.int .i64 x'.k, .string x'.t, .int .i64 x'.a] 39)) (.cells #[.int .i64 (x : Nat), .int .i64 c] 52)).trans b6)
              have P7 := Lib.hid P6
              clear b6 P6 g6 BB
              go_wp2_with fail
              refine (SK1.out _ (S0.out.keeps B6.out)).mono ?_
              rintro e w7 ⟨rfl, rfl⟩
              go_wp2_with fail
              exact ⟨⟨y, _, _, ts, _, rfl, rfl, hnx, hI2, O6, P7, B6⟩, less_to hc.out hge.out⟩
      · have q2 : decide ((x : Int) < (s.size : Int)) = false := decide_eq_false (by omega)
        have q2' : decide (x < s.size) = false := decide_eq_false hc
        have hov := hI.out.over hc
        clear hI
        rw [hov.1, hov.2] at hE
        clear hov
        go_wp2_with (at_builtin; refine tk.is_app (.tmp 70) (.tmp 74) rfl ?_; refine tk.wpList_push _ rfl (.tmp 70) (.tmp 74) rfl w1.heap.size _ _ rfl (hO.out.keeps (balloc (b0 wr) _)) wr.heap.size (endT s) rfl (tk.Bw.new wr (endT s) 39) hl8.out (by have := hb.out.size; simp; omega) ?_; intro v2 w6 O6 b6 g6)
        have P6 := Lib.hid (pb_stays (hO.out.keeps (balloc (b0 wr) _)) (hP.out.keeps (balloc (b0 wr) _)) g6)
        have B6 := Lib.hid ((balloc hb.out (.cells #[.int .i64 6, .string .empty, .int .i64 (s.size : Nat)] 39)).trans b6)
        go_ret3
        exact ⟨_, _, by rw [hE.out.1]; rfl, by rw [hE.out.2.1]; exact O6, by rw [hE.out.2.2]; exact P6.out, B6.out⟩
end Go.Proofs.YtkfciilclfhabaaGreatDoor
