/-
  The reference's Parse.
-/
import Derived.Test.YtcndlcogainnkaaGreatDoorRfd
import Derived.Test.YtcndlcogainnkaaGreatDoorRsp
import Derived.Test.YtcndlcogainnkaaGreatDoorRck
import Derived.Test.YtcndlcogainnkaaGreatDoorPar
namespace Go.Proofs.YtcndlcogainnkaaGreatDoor
open Go.RowKit dec

theorem fT_few : ∀ l : List Fa, (∀ x ∈ l, word x.1 = true ∧ far x.2 = false) → (fT l).length ≤ 28 * l.length := by
  intro l
  induction l with
  | nil => intro _; exact Nat.le_refl _
  | cons x l ih =>
    intro hl
    have hx := hl x (List.mem_cons_self ..)
    have h1 := (f1_len hx.1 hx.2).2
    have h2 := ih fun y hy => hl y (List.mem_cons_of_mem _ hy)
    cases l with
    | nil =>
      unfold fT
      rw [List.map_cons, List.map_nil, Lib.join_one]
      simp; omega
    | cons y l =>
      have e : fT (x :: y :: l) = f1 x ++ 42 :: fT (y :: l) := by
        unfold fT
        rw [List.map_cons, List.map_cons, Lib.join_cons, Lib.join_cons]
        simp [Lib.joinTail]
      rw [e, List.length_append, List.length_cons]
      simp only [List.length_cons] at *
      omega
theorem ok_takes {l : List Fa} (h : Ok l) : ∀ j, (fT (l.take j)).length ≤ 140737488355328 := fun j => by
  have h1 := fT_few (l.take j) fun x hx => ⟨(h.good x (List.mem_of_mem_take hx)).1, (h.good x (List.mem_of_mem_take hx)).2.2⟩
  have h2 := h.le
  rw [List.length_take] at h1
  omega
theorem ri_ext {s : ByteArray} {a i : Nat} : (s.extract a i).data.toList = (s.data.toList.drop a).take (i - a) := by
  rw [Lib.extract_data]
theorem slice_ij (s : ByteArray) {i j : Nat} {x y : Int} (hx : x = (i : Nat)) (hy : y = (j : Nat)) (hij : i ≤ j) (hj : j ≤ s.size) (W : World) : (Instr.slice 9 (.string s) (some (.int .i64 x)) (some (.int .i64 y)) none).run Tryz.prog W = .ok (.string (s.extract i j)) W := by
  subst hx hy
  exact Go.run_slice_string W 9 s .i64 .i64 i j Tryz.underlying9 (by omega) (by omega) (by omega)
set_option maxRecDepth 100000 in
set_option maxHeartbeats 4000000 in
theorem rparse_any (s : ByteArray) (hs : s.size ≤ 140737488355328) (w : World) :
    Calls Tryz.prog 22 #[.string s] w fun e w' => Ret w w' e (psE s.data.toList) (psL s.data.toList) := by
  by_cases h0 : s.size = 0
  · have q1 : ((s.size : Int) == 0) = true := by rw [beq_iff_eq]; omega
    have hn : s.data.toList = [] := List.eq_nil_of_length_eq_zero (by rw [str_len]; exact h0)
    have hr := Lib.hid (show psE s.data.toList = 0 ∧ psL s.data.toList = [] by rw [hn]; decide)
    clear hn hs h0
    go_enter Tryz.func22, Tryz.ntmps22
    go_wp2_with fail
    go_ret2
    exact ⟨.slice none 0 0, by rw [hr.out.1]; rfl, by rw [hr.out.2]; exact Out.nil _, b0 w⟩
  · have q1 : ((s.size : Int) == 0) = false := by rw [beq_eq_false_iff_ne]; omega
    have hne : s.data.toList ≠ [] := fun e => h0 (by rw [← str_len, e]; rfl)
    have RY := Lib.hid (fun h1 h2 => rc_yes (l := s.data.toList) h1 h2)
    have RN := Lib.hid (fun h => rc_no (l := s.data.toList) hne h)
    have FC := Lib.hid (fun t h W => rfactor_any t h W)
    have ST := Lib.hid (RI.start s.data.toList)
    have Z0 := Lib.hid hs
    clear hne h0
    go_enter Tryz.func22, Tryz.ntmps22
    go_wp2_with fail
    go_loopw [4, 5, 6] (fun vo vf vi wr => ∃ (a i : Nat) (l : List Fa), vf = .int .i64 (a : Nat) ∧ vi = .int .i64 (i : Nat) ∧ Hid (RI s.data.toList a i l) ∧ Hid (i ≤ s.size + 1) ∧ Hid (Own wr w.heap.size vo l) ∧ Hid (Below w.heap.size w wr)) (fun _ _ vi _ => s.size + 1 - (intOf vi).toNat)
    case atStart => exact ⟨0, 0, [], rfl, rfl, ST, Lib.hid (Nat.zero_le _), Lib.hid (Own.nil _ _), Lib.hid (b0 w)⟩
    case round =>
      obtain ⟨a, i, l, rfl, rfl, hR, hi, hO, hb⟩ := hrel
      obtain ⟨ao, cap, rfl, hS⟩ := hO.out.sl
      have hl5 := hR.out.1
      have hl8 := Lib.hid (show l.length < 5864062014805 by omega)
      generalize hk : l.length = k at hO hS hl5 ⊢
      replace hk := Lib.hid hk
      by_cases hc : i ≤ s.size ∧ k ≤ 4
      · obtain ⟨c1, c2⟩ := hc
        have p1 : decide ((i : Int) ≤ (s.size : Int)) = true := decide_eq_true (by omega)
        have p2 : decide ((k : Int) ≤ 4) = true := decide_eq_true (by omega)
        have hl4 := Lib.hid (show l.length ≤ 4 by rw [hk.out]; exact c2)
        have f4 := Lib.hid (next_at (j := i) (by omega))
        have hai := hR.out.from_le (by rw [str_len]; exact c1)
        clear hS
        by_cases he : i = s.size
        · subst he
          have p3 : ((s.size : Int) == (s.size : Int)) = true := by rw [beq_iff_eq]
          have hN := hR.out
          rw [← str_len] at hN
          have hNX := hN.last hl4.out
          rw [str_len] at hNX
          have SL := fun W => slice_ij s (i := a) (j := s.size) (x := (a : Int)) (y := ((s.size : Nat) : Int)) rfl rfl hai (Nat.le_refl _) W
          have FC1 := Lib.hid (fun W => FC.out (s.extract a s.size) (by have := ri_ext (s := s) (a := a) (i := s.size); have h1 := congrArg List.length this; rw [str_len, List.length_take, List.length_drop, str_len] at h1; have := Z0.out; omega) W)
          rw [ri_ext] at FC1
          generalize rfac ((s.data.toList.drop a).take (s.size - a)) = x at FC1 hNX
          obtain ⟨xn, xe⟩ := x
          generalize s.extract a s.size = t at FC1 SL
          replace hNX := Lib.hid hNX
          go_wp2_with fail
          refine (FC1.out _).mono ?_
          rintro e w3 ⟨rfl, b3⟩
          have O3 := Lib.hid (hO.out.keeps b3)
          have B3 := Lib.hid (bnext hb.out b3)
          clear b3 hO hb hR
          go_wp2_with (at_builtin; refine is_app (.tmp 31) (.tmp 37) rfl ?_; refine wpList_push _ rfl (.tmp 31) (.tmp 37) rfl w.heap.size _ _ rfl (O3.out.keeps (balloc (b0 w3) _)) w3.heap.size xn xe rfl (Bw.new w3 (xn, xe) 37) hl8.out (by have := B3.out.size; simp; omega) ?_; intro v2 w6 O6 b6)
          have B6 := Lib.hid ((balloc B3.out (.cells #[.string xn, .int .i64 xe] 37)).trans b6)
          have O7 := Lib.hid O6
          clear b6 O6
          go_wp2_with fail
          exact ⟨⟨s.size + 1, s.size + 1, l ++ [(xn, xe)], by first | rfl | exact congrArg (Value.int .i64) f4.out, by first | rfl | exact congrArg (Value.int .i64) f4.out, hNX, Lib.hid (by omega), O7, B6⟩, by first | exact less_dn2 (Nat.lt_succ_of_le c1) | exact less_at (Nat.lt_succ_of_le c1) f4.out⟩
        · have hlt : i < s.size := by omega
          have p3 : ((i : Int) == (s.size : Int)) = false := by rw [beq_eq_false_iff_ne]; omega
          have hlt' : i < s.data.toList.length := by rw [str_len]; exact hlt
          have hsi : s.data.toList[i] = s[i] := rfl
          by_cases h42 : s[i] = 42
          · have p4 : ((s[i].toNat : Int) == 42) = true := by rw [h42]; rfl
            have hNX := hR.out.star hlt' hl4.out (hsi.trans h42)
            clear h42 hsi
            have SL := fun W => slice_ij s (i := a) (j := i) (x := (a : Int)) (y := ((i : Nat) : Int)) rfl rfl hai c1 W
            have FC1 := Lib.hid (fun W => FC.out (s.extract a i) (by have := ri_ext (s := s) (a := a) (i := i); have h1 := congrArg List.length this; rw [str_len, List.length_take, List.length_drop, str_len] at h1; have := Z0.out; omega) W)
            rw [ri_ext] at FC1
            generalize rfac ((s.data.toList.drop a).take (i - a)) = x at FC1 hNX
            obtain ⟨xn, xe⟩ := x
            generalize s.extract a i = t at FC1 SL
            replace hNX := Lib.hid hNX
            go_wp2_with fail
            refine (FC1.out _).mono ?_
            rintro e w3 ⟨rfl, b3⟩
            have O3 := Lib.hid (hO.out.keeps b3)
            have B3 := Lib.hid (bnext hb.out b3)
            clear b3 hO hb hR
            go_wp2_with (at_builtin; refine is_app (.tmp 31) (.tmp 37) rfl ?_; refine wpList_push _ rfl (.tmp 31) (.tmp 37) rfl w.heap.size _ _ rfl (O3.out.keeps (balloc (b0 w3) _)) w3.heap.size xn xe rfl (Bw.new w3 (xn, xe) 37) hl8.out (by have := B3.out.size; simp; omega) ?_; intro v2 w6 O6 b6)
            have B6 := Lib.hid ((balloc B3.out (.cells #[.string xn, .int .i64 xe] 37)).trans b6)
            have O7 := Lib.hid O6
            clear b6 O6
            go_wp2_with fail
            exact ⟨⟨i + 1, i + 1, l ++ [(xn, xe)], by first | rfl | exact congrArg (Value.int .i64) f4.out, by first | rfl | exact congrArg (Value.int .i64) f4.out, hNX, Lib.hid (by omega), O7, B6⟩, by first | exact less_dn2 (Nat.lt_succ_of_le c1) | exact less_at (Nat.lt_succ_of_le c1) f4.out⟩
          · have p4 : ((s[i].toNat : Int) == 42) = false := by
              rw [beq_eq_false_iff_ne]
              intro e
              exact h42 (UInt8.toNat_inj.1 (by have : s[i].toNat = 42 := by omega
                                               rw [this]; rfl))
            have hNX := Lib.hid (hR.out.next hlt' (fun e => h42 (hsi.symm.trans e)))
            clear h42 hsi
            go_wp2_with fail
            exact ⟨⟨a, i + 1, l, rfl, by first | rfl | exact congrArg (Value.int .i64) f4.out, hNX, Lib.hid (by omega), hO, hb⟩, by first | exact less_dn2 (Nat.lt_succ_of_le c1) | exact less_at (Nat.lt_succ_of_le c1) f4.out⟩
      · have hov := hR.out.over (by rw [str_len, hk.out]; exact hc)
        rw [hov] at RY RN
        have p12 : (¬ i ≤ s.size) ∨ (i ≤ s.size ∧ ¬ k ≤ 4) := by
          by_cases c1 : i ≤ s.size
          · exact .inr ⟨c1, by omega⟩
          · exact .inl c1
        have KC := Lib.hid (fun W h => rcheck_any ao k cap l W h)
        have S0 := Lib.hid hS
        clear hS hov hc hR hO
        by_cases h1 : ck l = 0
        · have ok := (ck_iff _).1 h1
          have TC := Lib.hid (fun W h => rformat_any ao k cap l W h (fun x hx => (ok_facts ok).1 x hx) (ok_takes ok))
          have q5 := arr_eq (fT l) s
          rw [h1] at KC
          by_cases h2 : fT l = s.data.toList
          · have hr := Lib.hid (RY.out h1 h2)
            rw [decide_eq_true h2] at q5
            clear ok h1 h2 RN RY
            generalize (⟨(fT l).toArray⟩ : ByteArray) = t at *
            have q6 : (t.toList != s.toList) = false := by rw [bne, q5]; rfl
            rcases p12 with p1 | ⟨p1, p2⟩
            · go_wp2_with fail
              refine (KC.out _ S0.out).mono ?_
              rintro e w2 ⟨rfl, b2⟩
              have S2 := Lib.hid (S0.out.keeps b2)
              have B2 := Lib.hid (bnext hb.out b2)
              clear b2
              go_wp2_with fail
              refine (TC.out _ S2.out).mono ?_
              rintro e w3 ⟨rfl, b3⟩
              have S3 := Lib.hid (S2.out.keeps b3)
              have B3 := Lib.hid (bnext B2.out b3)
              clear b3
              go_wp2_with fail
              go_ret2
              exact ⟨.slice ao k cap, by rw [hr.out.1]; rfl, by rw [hr.out.2]; exact ⟨ao, cap, by rw [S3.out.hn], by rw [S3.out.hn]; exact S3.out⟩, B3.out⟩
            · go_wp2_with fail
              refine (KC.out _ S0.out).mono ?_
              rintro e w2 ⟨rfl, b2⟩
              have S2 := Lib.hid (S0.out.keeps b2)
              have B2 := Lib.hid (bnext hb.out b2)
              clear b2
              go_wp2_with fail
              refine (TC.out _ S2.out).mono ?_
              rintro e w3 ⟨rfl, b3⟩
              have S3 := Lib.hid (S2.out.keeps b3)
              have B3 := Lib.hid (bnext B2.out b3)
              clear b3
              go_wp2_with fail
              go_ret2
              exact ⟨.slice ao k cap, by rw [hr.out.1]; rfl, by rw [hr.out.2]; exact ⟨ao, cap, by rw [S3.out.hn], by rw [S3.out.hn]; exact S3.out⟩, B3.out⟩
          · have hr := Lib.hid (RN.out (.inr h2))
            rw [decide_eq_false h2] at q5
            clear ok h1 h2 RN RY
            generalize (⟨(fT l).toArray⟩ : ByteArray) = t at *
            have q6 : (t.toList != s.toList) = true := by rw [bne, q5]; rfl
            rcases p12 with p1 | ⟨p1, p2⟩
            · go_wp2_with fail
              refine (KC.out _ S0.out).mono ?_
              rintro e w2 ⟨rfl, b2⟩
              have S2 := Lib.hid (S0.out.keeps b2)
              have B2 := Lib.hid (bnext hb.out b2)
              clear b2
              go_wp2_with fail
              refine (TC.out _ S2.out).mono ?_
              rintro e w3 ⟨rfl, b3⟩
              have S3 := Lib.hid (S2.out.keeps b3)
              have B3 := Lib.hid (bnext B2.out b3)
              clear b3
              go_wp2_with fail
              go_ret2
              exact ⟨.slice none 0 0, by rw [hr.out.1]; rfl, by rw [hr.out.2]; exact Out.nil _, B3.out⟩
            · go_wp2_with fail
              refine (KC.out _ S0.out).mono ?_
              rintro e w2 ⟨rfl, b2⟩
              have S2 := Lib.hid (S0.out.keeps b2)
              have B2 := Lib.hid (bnext hb.out b2)
              clear b2
              go_wp2_with fail
              refine (TC.out _ S2.out).mono ?_
              rintro e w3 ⟨rfl, b3⟩
              have S3 := Lib.hid (S2.out.keeps b3)
              have B3 := Lib.hid (bnext B2.out b3)
              clear b3
              go_wp2_with fail
              go_ret2
              exact ⟨.slice none 0 0, by rw [hr.out.1]; rfl, by rw [hr.out.2]; exact Out.nil _, B3.out⟩
        · have hr := Lib.hid (RN.out (.inl h1))
          have q5 : (ck l != 0) = true := by rw [bne_iff_ne]; exact h1
          clear h1 RN RY
          generalize ck l = c at *
          rcases p12 with p1 | ⟨p1, p2⟩
          · go_wp2_with fail
            refine (KC.out _ S0.out).mono ?_
            rintro e w2 ⟨rfl, b2⟩
            have S2 := Lib.hid (S0.out.keeps b2)
            have B2 := Lib.hid (bnext hb.out b2)
            clear b2
            go_wp2_with fail
            go_ret2
            exact ⟨.slice none 0 0, by rw [hr.out.1]; rfl, by rw [hr.out.2]; exact Out.nil _, B2.out⟩
          · go_wp2_with fail
            refine (KC.out _ S0.out).mono ?_
            rintro e w2 ⟨rfl, b2⟩
            have S2 := Lib.hid (S0.out.keeps b2)
            have B2 := Lib.hid (bnext hb.out b2)
            clear b2
            go_wp2_with fail
            go_ret2
            exact ⟨.slice none 0 0, by rw [hr.out.1]; rfl, by rw [hr.out.2]; exact Out.nil _, B2.out⟩
end Go.Proofs.YtcndlcogainnkaaGreatDoor
