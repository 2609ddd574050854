/-
  The reference's Join.
-/
import Derived.Test.YtkfciilclfhabaaGreatDoorRpo
import Derived.Test.YtkfciilclfhabaaGreatDoorSml
namespace Go.Proofs.YtkfciilclfhabaaGreatDoor
open Go.RowKit dec

theorem join_snoc (l : List Tk) (x : Tk) : Lib.join ((l ++ [x]).map so) [32] = if l = [] then so x else Lib.join (l.map so) [32] ++ [32] ++ so x := by
  cases l with
  | nil => rw [if_pos rfl, List.nil_append, List.map_singleton, Lib.join_one]
  | cons y l =>
    rw [if_neg (by simp), List.cons_append, List.map_cons, List.map_cons, Lib.join_cons, Lib.join_cons]
    simp [Lib.joinTail]
/-- One more token. -/
theorem join_next {L : List Tk} {j : Nat} (h : j < L.length) : Lib.join ((L.take (j + 1)).map so) [32] = if j = 0 then so (tk.gt L j) else Lib.join ((L.take j).map so) [32] ++ [32] ++ so (tk.gt L j) := by
  rw [tk.take_gt h, join_snoc]
  by_cases h0 : j = 0
  · rw [if_pos h0, if_pos (by rw [h0]; rfl)]
  · rw [if_neg h0, if_neg]
    intro e
    have := congrArg List.length e
    rw [List.length_take, List.length_nil] at this
    omega
theorem strip_len (l : List Tk) : (stripE l).length ≤ l.length := by
  unfold stripE
  split
  · rw [List.length_take]; omega
  · exact Nat.le_refl _
theorem strip_at (l : List Tk) {j : Nat} (hj : j < l.length) :
    (j = l.length - 1 ∧ (tk.gt l j).k = 6 ∧ (tk.gt l j).t.size = 0 ∧ (stripE l).take (j + 1) = (stripE l).take j) ∨
    (¬ (j = l.length - 1 ∧ (tk.gt l j).k = 6 ∧ (tk.gt l j).t.size = 0) ∧ j < (stripE l).length ∧ tk.gt (stripE l) j = tk.gt l j) := by
  have hne : l ≠ [] := fun e => by rw [e] at hj; cases hj
  by_cases h : j = l.length - 1 ∧ (tk.gt l j).k = 6 ∧ (tk.gt l j).t.size = 0
  · left
    refine ⟨h.1, h.2.1, h.2.2, ?_⟩
    have h2 : stripE l = l.take j := by
      unfold stripE
      rw [← h.1, if_pos ⟨hne, h.2⟩]
    rw [h2, List.take_take, List.take_take]
    congr 1
    omega
  · right
    refine ⟨h, ?_⟩
    unfold stripE
    by_cases h2 : l ≠ [] ∧ (tk.gt l (l.length - 1)).k = 6 ∧ (tk.gt l (l.length - 1)).t.size = 0
    · rw [if_pos h2]
      have h3 : j < l.length - 1 := by
        rcases Nat.lt_or_ge j (l.length - 1) with h3 | h3
        · exact h3
        · have : j = l.length - 1 := by omega
          exact absurd ⟨this, by rw [this]; exact h2.2.1, by rw [this]; exact h2.2.2⟩ h
      have h4 : j < (l.take (l.length - 1)).length := by rw [List.length_take]; omega
      refine ⟨h4, ?_⟩
      rw [tk.gt_eq h4, tk.gt_eq hj, List.getElem_take]
    · rw [if_neg h2]
      exact ⟨hj, rfl⟩
def fewR (l : List Tk) : Prop := (∀ x ∈ l, x.t.size ≤ 10000) ∧ l.length ≤ 1000
theorem fewR_T {l : List Tk} (h : fewR l) : fewT l := ⟨fun x hx => by have := h.1 x hx; omega, by have := h.2; omega⟩
theorem strip_mem {l : List Tk} {x : Tk} (h : x ∈ stripE l) : x ∈ l := by
  unfold stripE at h
  split at h
  · exact List.mem_of_mem_take h
  · exact h
theorem fewR_strip {l : List Tk} (h : fewR l) : fewR (stripE l) := ⟨fun x hx => h.1 x (strip_mem hx), Nat.le_trans (strip_len l) h.2⟩
theorem join_small {l : List Tk} (h : fewR l) : (Lib.join (l.map so) [32]).length ≤ 2000000000 := by
  have h1 := join_le l
  have h2 := so_sum l (fewR_T h).1
  have h3 := h.2
  have h4 : 1000002 * l.length ≤ 1000002 * 1000 := Nat.mul_le_mul_left _ h3
  omega
theorem join_part {l : List Tk} (h : fewR l) (j : Nat) : (Lib.join ((l.take j).map so) [32]).length ≤ 2000000000 :=
  join_small ⟨fun x hx => h.1 x (List.mem_of_mem_take hx), by have := h.2; rw [List.length_take]; omega⟩
theorem pred_int {n : Nat} (h : 1 ≤ n) (h2 : n ≤ 1000) : wrap64 ((n : Int) - 1) = (n : Int) - 1 := by unfold wrap64; omega
theorem wpList_pushBg (w : World) {ops : Array Oper} {rest : List Oper} {o : Oper} {a : Act} {Q : Exit → Act → World → Prop} (hgd : o.guard = none) (s x : Operand)
    (ho : o.op = .call { callee := .builtin .append, args := #[s, x], argTypes := #[22, 22] })
    (base : Nat) (v : Value) (l : List UInt8) (hs : a.eval s = v) (hown : OB w base v l) (b : Nat) (t : UInt8) (hx : a.eval x = .slice (some ⟨b, 0, none⟩) 1 1) (hB : w.cell? ⟨b, 0, none⟩ = some (.int .u8 (t.toNat : Int)))
    (hn : l.length < 140737488355328) (hbase : base ≤ w.heap.size)
    (h : ∀ v' w', OB w' base v' (l ++ [t]) → Below base w w' → w.grownBy w' v.ownBlock → wpList Tryz.prog ops Q rest (a.put o.dst v') w') : wpList Tryz.prog ops Q (o :: rest) a w := by
  refine wpList_plain hgd fun _ hK => ?_
  obtain ⟨i, hi, hz0, hz1, hz2⟩ := info_parts infoU
  refine wp_append_own w s x 22 ho base 5 i (.int .u8 0) 1 1 Tryz.underlying22 hi hz0 hz1 hz2 rfl (by decide) v l.length (bv l) hs hown ⟨b, 0, none⟩ 1 1 [.int .u8 (t.toNat : Int)] hx rfl ?_ (fun u hu => by simp at hu; subst hu; rfl)
    (by unfold maxLen; omega) (by omega) hbase fun v' w' h1 h2 _ => hK _ _ (h v' w' (by unfold OB; rw [bv_append, List.length_append]; exact h1) ((Below.refl base w).grown h2 hbase fun k hk => (hown.lt k hk).1) h2)
  intro j u hu
  match j, hu with
  | 0, hu => simp at hu; subst hu; exact hB
  | j + 1, hu => simp at hu
/-- A token in a block that the row does not own stays. -/
theorem bw_far {w w' : World} {v : Value} {b : Nat} {x : Tk} (h : tk.Bw w b x) (hg : w.grownBy w' v.ownBlock) (hne : v.ownBlock ≠ some b) : tk.Bw w' b x :=
  ⟨hg.cell h.c0 (fun e => hne e.symm), hg.cell h.c1 (fun e => hne e.symm), hg.cell h.c2 (fun e => hne e.symm)⟩
theorem own_ne {w : World} {base : Nat} {v : Value} {l : List UInt8} (h : OB w base v l) : v.ownBlock ≠ some w.heap.size := fun e => by
  have := (h.lt _ e).2
  omega
set_option maxRecDepth 100000 in
set_option maxHeartbeats 16000000 in
theorem rjoin_any (a : Option Addr) (n cap : Nat) (l : List Tk) (w : World) (hS : tk.Sl w a n cap l) (hF : fewR l) :
    Calls Tryz.prog 14 #[.slice a n cap] w fun e w' => JR w w' e l := by
  have S0 := Lib.hid hS
  have hn := hS.hn
  have hnz := Lib.hid (show n ≤ 1000 by have := hF.2; omega)
  obtain ⟨L, hL⟩ : ∃ L, stripE l = L := ⟨_, rfl⟩
  have SA := Lib.hid (fun j (hj : j < l.length) => strip_at l hj)
  rw [hL] at SA
  have hJ := Lib.hid (show Lib.join (L.map so) [32] = joinL l by unfold joinL; rw [hL])
  have EY := Lib.hid (show allP L = true → joinE l = if 16384 < (joinL l).length then 2 else 0 by intro h; unfold joinE; rw [hL, if_pos h])
  have EN := Lib.hid (show allP L = false → joinE l = 3 by intro h; unfold joinE; rw [hL, if_neg (by rw [h]; decide)])
  have FW := Lib.hid (show fewR L by rw [← hL]; exact fewR_strip hF)
  have hLn := Lib.hid (show L.length ≤ n by rw [← hL, ← hn]; exact strip_len l)
  have FR := Lib.hid hF
  have hn2 := Lib.hid hn
  clear hS hn hL hF
  go_enter Tryz.func14, Tryz.ntmps14
  go_wp2_with fail
  go_loopw [4, 5] (fun vs vi wr => ∃ j : Nat, vi = .int .i64 (j : Nat) ∧ Hid (j ≤ n) ∧ Hid (OB wr w.heap.size vs (Lib.join ((L.take j).map so) [32])) ∧ Hid (allP (L.take j) = true) ∧ Hid (Below w.heap.size w wr)) (fun _ vi _ => n - (intOf vi).toNat)
  case atStart => exact ⟨0, rfl, Lib.hid (Nat.zero_le _), Lib.hid (OB.nil _ _), Lib.hid rfl, Lib.hid (b0 w)⟩
  case round =>
    obtain ⟨j, rfl, hj, hO, hA, hb⟩ := hrel
    by_cases hc : j < n
    · have hjl := Lib.hid (show j < l.length by have := hn2.out; omega)
      obtain ⟨bk, off, rfl, hC⟩ := (S0.out.keeps hb.out).hat.resolve_left (by have := hjl.out; omega)
      obtain ⟨c0, c1, c2⟩ := hC j hjl.out
      have q2 : decide ((j : Int) < (n : Int)) = true := decide_eq_true (by omega)
      have q3 : j < n := hc
      have f4 := Lib.hid (next_at (j := j) (by have := hnz.out; omega))
      have f5 := pred_int (n := n) (by omega) hnz.out
      have hcap := S0.out.hcap
      have hmem := tk.gt_mem hjl.out
      have hxz := Lib.hid (FR.out.1 _ hmem)
      have sa := SA.out j hjl.out
      rw [hn2.out] at sa
      have ql : ((j : Int) == (n : Int) - 1) = decide (j = n - 1) := by rw [eqb, decide_eq_decide]; clear f5; omega
      have hno := Lib.hid (fun h h2 => EN.out (all_no (l := L) (j := j) h h2))
      clear hC hmem
      rcases sa with ⟨h1, h2, h3, h4⟩ | ⟨h1, h2, h3⟩
      · rw [decide_eq_true h1] at ql
        rw [← h4] at hO hA
        generalize tk.gt l j = x at *
        obtain ⟨xk, xt, xa⟩ := x
        simp only at c0 c1 c2 h2 h3
        subst h2
        have e2 : (xt.toList == []) = true := by rw [toList_nil]; exact decide_eq_true h3
        have BW := Lib.hid (balloc hb.out (.cells #[.int .i64 6, .string xt, .int .i64 xa] 39))
        have O1 := Lib.hid (hO.out.keeps (balloc (b0 wr) (.cells #[.int .i64 6, .string xt, .int .i64 xa] 39)))
        clear h1 h3 h4 hno hc
        go_wp2_with fail
        exact ⟨⟨j + 1, congrArg (Value.int .i64) f4.out, Lib.hid q3, O1, hA, BW⟩, less_at q3 f4.out⟩
      · have hnx := all_next h2 hA.out
        have hjn := join_next h2
        have hno2 := hno.out h2
        rw [h3] at hnx hjn hno2
        have hlen := Lib.hid (join_part FW.out j)
        have PC := Lib.hid (fun W => rproper_any (tk.gt l j) hxz.out W)
        have SC := Lib.hid (fun W => rsource_any (tk.gt l j) (by have := hxz.out; omega) W)
        have hsz := so_size (tk.gt l j)
        generalize tk.gt l j = x at *
        have hxs := Lib.hid (show (⟨(so x).toArray⟩ : ByteArray).size ≤ 10002 by
          have h1 := str_len ⟨(so x).toArray⟩
          have h3 : (⟨(so x).toArray⟩ : ByteArray).data.toList.length = (so x).length := rfl
          have := hxz.out
          omega)
        have hxd := Lib.hid (show (⟨(so x).toArray⟩ : ByteArray).data.toList = so x from rfl)
        generalize so x = sx at *
        generalize (⟨sx.toArray⟩ : ByteArray) = s1 at *
        generalize pr x = px at *
        obtain ⟨xk, xt, xa⟩ := x
        simp only at c0 c1 c2 h1 PC SC
        have BB := Lib.hid (tk.Bw.new wr ⟨xk, xt, xa⟩ 39)
        have BW := Lib.hid (balloc hb.out (.cells #[.int .i64 xk, .string xt, .int .i64 xa] 39))
        have O1 := Lib.hid (hO.out.keeps (balloc (b0 wr) (.cells #[.int .i64 xk, .string xt, .int .i64 xa] 39)))
        replace hno2 := Lib.hid hno2
        replace hnx := Lib.hid hnx
        replace hjn := Lib.hid hjn
        have ways : decide (j = n - 1) = false ∨ (decide (j = n - 1) = true ∧ (xk == 6) = false) ∨ (decide (j = n - 1) = true ∧ (xk == 6) = true ∧ (xt.toList == []) = false) := by
          by_cases g1 : j = n - 1
          · by_cases g2 : xk = 6
            · exact .inr (.inr ⟨decide_eq_true g1, by rw [g2]; rfl, by rw [toList_nil]; exact decide_eq_false fun g3 => h1 ⟨g1, g2, g3⟩⟩)
            · exact .inr (.inl ⟨decide_eq_true g1, by rw [beq_eq_false_iff_ne]; exact g2⟩)
          · exact .inl (decide_eq_false g1)
        clear h1 h2 h3 hno hsz hxz hA hc
        rcases ways with g1 | ⟨g1, g2⟩ | ⟨g1, g2, g3⟩
        all_goals (
          rw [g1] at ql
          clear g1
          cases px
          · have hE := Lib.hid (hno2.out rfl)
            clear hno2 hnx hjn
            go_wp2_with fail
            refine (PC.out _).mono ?_
            rintro e w2 ⟨rfl, b2⟩
            have B2 := Lib.hid (bnext BW.out b2)
            clear b2
            go_wp2_with fail
            go_ret2
            exact ⟨.empty, none, 0, by unfold joinB; rw [hE.out]; rfl, by rw [hE.out]; rfl, ⟨.inl rfl, rfl, by decide, by decide, fun _ => rfl⟩, B2.out⟩
          · clear hno2
            by_cases h0 : j = 0
            · have hjn2 := Lib.hid (show Lib.join ((L.take (j + 1)).map so) [32] = Lib.join ((L.take j).map so) [32] ++ s1.data.toList by rw [hjn.out, if_pos h0, hxd.out, h0]; rfl)
              have q5 : decide ((0 : Int) < (j : Int)) = false := decide_eq_false (by clear f5; omega)
              have q5' : decide (0 < j) = false := decide_eq_false (by clear f5; omega)
              clear hjn h0
              go_wp2_with fail
              refine (PC.out _).mono ?_
              rintro e w2 ⟨rfl, b2⟩
              have B2 := Lib.hid (bnext BW.out b2)
              have O2 := Lib.hid (O1.out.keeps b2)
              have BB2 := Lib.hid (BB.out.keeps b2)
              clear b2
              obtain ⟨d0, d1, d2⟩ := BB2.out
              simp only at d0 d1 d2
              go_wp2_with fail
              refine (SC.out _).mono ?_
              rintro e w3 ⟨rfl, b3⟩
              have B3 := Lib.hid (bnext B2.out b3)
              have O3 := Lib.hid (O2.out.keeps b3)
              clear b3 d0 d1 d2
              go_wp2_with (at_builtin; refine is_appT (.tmp 40) (.tmp 42) rfl ?_; refine wpList_catB _ rfl (.tmp 40) (.tmp 42) rfl w.heap.size _ _ rfl O3.out s1 rfl (by have := hlen.out; have := hxs.out; omega) B3.out.size ?_; intro v2 w6 O6 b6)
              have B6 := Lib.hid (B3.out.trans b6)
              have O7 := Lib.hid (show OB w6 w.heap.size v2 (Lib.join ((L.take (j + 1)).map so) [32]) by rw [hjn2.out]; exact O6)
              clear b6 O6
              go_wp2_with fail
              exact ⟨⟨j + 1, congrArg (Value.int .i64) f4.out, Lib.hid q3, O7, hnx, B6⟩, less_at q3 f4.out⟩
            · have q5 : decide ((0 : Int) < (j : Int)) = true := decide_eq_true (by clear f5; omega)
              have q5' : decide (0 < j) = true := decide_eq_true (by clear f5; omega)
              have hjn2 := Lib.hid (show Lib.join ((L.take (j + 1)).map so) [32] = Lib.join ((L.take j).map so) [32] ++ [32] ++ s1.data.toList by rw [hjn.out, if_neg h0, hxd.out])
              clear hjn h0
              go_wp2_with fail
              refine (PC.out _).mono ?_
              rintro e w2 ⟨rfl, b2⟩
              have B2 := Lib.hid (bnext BW.out b2)
              have O2 := Lib.hid (O1.out.keeps b2)
              have BB2 := Lib.hid (BB.out.keeps b2)
              clear b2
              go_wp2_with (at_builtin; refine is_appB (.tmp 37) (.tmp 38) rfl ?_; refine wpList_pushBg _ rfl (.tmp 37) (.tmp 38) rfl w.heap.size _ _ rfl (O2.out.keeps (balloc (b0 w2) _)) w2.heap.size 32 rfl (by simp [go_sem]) (by have := hlen.out; omega) (by have := B2.out.size; simp; omega) ?_; intro v2 w4 O4 b4 g4; have BB4 := bw_far (BB2.out.keeps (balloc (b0 w2) (.cells #[.int .u8 32] 5))) g4 (own_ne hO.out); have d0 : w4.cell? ⟨wr.heap.size, 0, none⟩ = some (.int .i64 xk) := BB4.c0; have d1 : w4.cell? ⟨wr.heap.size, 1, none⟩ = some (.string xt) := BB4.c1; have d2 : w4.cell? ⟨wr.heap.size, 2, none⟩ = some (.int .i64 xa) := BB4.c2; clear BB4)
              have B4 := Lib.hid ((balloc B2.out (.cells #[.int .u8 32] 5)).trans b4)
              have O5 := Lib.hid O4
              clear b4 O4 g4
              refine (SC.out _).mono ?_
              rintro e w3 ⟨rfl, b3⟩
              have B3 := Lib.hid (bnext B4.out b3)
              have O3 := Lib.hid (O5.out.keeps b3)
              clear b3 d0 d1 d2
              go_wp2_with (at_builtin; refine is_appT (.tmp 40) (.tmp 42) rfl ?_; refine wpList_catB _ rfl (.tmp 40) (.tmp 42) rfl w.heap.size _ _ rfl O3.out s1 rfl (by have := hlen.out; have := hxs.out; rw [List.length_append, List.length_singleton]; omega) B3.out.size ?_; intro v3 w6 O6 b6)
              have B6 := Lib.hid (B3.out.trans b6)
              have O7 := Lib.hid (show OB w6 w.heap.size v3 (Lib.join ((L.take (j + 1)).map so) [32]) by rw [hjn2.out]; exact O6)
              clear b6 O6
              go_wp2_with fail
              exact ⟨⟨j + 1, congrArg (Value.int .i64) f4.out, Lib.hid q3, O7, hnx, B6⟩, less_at q3 f4.out⟩)
    · have q2 : decide ((j : Int) < (n : Int)) = false := decide_eq_false (by omega)
      have q3 : decide (j < n) = false := decide_eq_false hc
      rw [show L.take j = L from List.take_of_length_le (by have := hLn.out; omega)] at hO hA
      have EA := EY.out hA.out
      rw [hJ.out] at hO
      obtain ⟨s1, hs1⟩ : ∃ s1 : ByteArray, s1 = ⟨(joinL l).toArray⟩ := ⟨_, rfl⟩
      have hsd : s1.data.toList = joinL l := by rw [hs1]
      have hsz : s1.size = (joinL l).length := by rw [← str_len, hsd]
      have hO2 := hO.out
      rw [← hsd] at hO2
      obtain ⟨a1, c1, rfl, hB1⟩ := hO2.bs
      rw [← hsz] at EA
      replace hB1 := Lib.hid hB1
      clear hO hA hc hO2
      by_cases hbig : 16384 < s1.size
      · rw [if_pos hbig] at EA
        replace EA := Lib.hid EA
        have qb : decide (16384 < (s1.size : Int)) = true := decide_eq_true (by omega)
        have qb' : decide (16384 < s1.size) = true := decide_eq_true hbig
        clear hs1 hsz hsd hbig
        go_wp2_with fail
        go_ret2
        exact ⟨.empty, none, 0, by unfold joinB; rw [EA.out]; rfl, by rw [EA.out]; rfl, ⟨.inl rfl, rfl, by decide, by decide, fun _ => rfl⟩, hb.out⟩
      · rw [if_neg hbig] at EA
        replace EA := Lib.hid EA
        have hjb := Lib.hid (show s1.data.toList = joinB l by unfold joinB; rw [EA.out, if_pos rfl, hsd])
        have qb : decide (16384 < (s1.size : Int)) = false := decide_eq_false (by omega)
        have qb' : decide (16384 < s1.size) = false := decide_eq_false hbig
        clear hs1 hsz hsd hbig
        go_wp2_with fail
        go_ret2
        exact ⟨s1, a1, c1, hjb.out, by rw [EA.out]; rfl, hB1.out, hb.out⟩
end Go.Proofs.YtkfciilclfhabaaGreatDoor
