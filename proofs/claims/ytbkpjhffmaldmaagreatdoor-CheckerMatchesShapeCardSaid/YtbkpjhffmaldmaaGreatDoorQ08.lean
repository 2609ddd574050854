/-
  Comparing and calculating; scopes.
-/
import Derived.Laws.EntriesVeiled
import Derived.Test.YtbkpjhffmaldmaaGreatDoorQ03
import Derived.Test.YtbkpjhffmaldmaaGreatDoorQ07
namespace Go.Proofs.YtbkpjhffmaldmaaGreatDoor.ch
open Go.RowKit dec

/-- A unit that is one of what lay at w0, or lies in blocks from N on. -/
def Uw (w0 w : World) (N : Nat) (a : Option Addr) (n cap : Nat) (l : List un.Fa) : Prop := un.Sl w0 a n cap l ∨ (un.Sl w a n cap l ∧ ∀ x, a = some x → N ≤ x.block)
theorem Uw.keeps {w0 w w' : World} {N : Nat} {a : Option Addr} {n cap : Nat} {l : List un.Fa} (h : Uw w0 w N a n cap l) (hb : Below w.heap.size w w') : Uw w0 w' N a n cap l := h.imp id fun ⟨S, hN⟩ => ⟨S.keeps hb, hN⟩
theorem Uw.less {w0 w : World} {N N' : Nat} {a : Option Addr} {n cap : Nat} {l : List un.Fa} (h : Uw w0 w N a n cap l) (hN : N' ≤ N) : Uw w0 w N' a n cap l := h.imp id fun ⟨S, h⟩ => ⟨S, fun x hx => Nat.le_trans hN (h x hx)⟩
theorem Uw.sl {w0 w : World} {N : Nat} {a : Option Addr} {n cap : Nat} {l : List un.Fa} (h : Uw w0 w N a n cap l) (hb : Below w0.heap.size w0 w) : un.Sl w a n cap l := by
  rcases h with h | h
  · exact h.keeps hb
  · exact h.1
theorem Uw.nil (w0 w : World) (N : Nat) : Uw w0 w N none 0 0 [] := .inl (.nil _)
theorem sl_st {w w' : World} {g : Nat} {a : Option Addr} {n cap : Nat} {l : List un.Fa} (h : un.Sl w a n cap l) (hs : St g w w') (hg : l ≠ [] → ∀ b off, a = some ⟨b, off, none⟩ → b ≠ g) : un.Sl w' a n cap l := by
  refine { h with hat := ?_ }
  rcases h.hat with h0 | ⟨b, off, e, hC⟩
  · exact .inl h0
  · by_cases hl : l = []
    · exact .inl (by rw [hl]; rfl)
    have hb : b ≠ g := hg hl b off e
    exact .inr ⟨b, off, e, fun j hj => ⟨(World.cell?_of_block (w := w) (hs.block b hb)).trans (hC j hj).1, (World.cell?_of_block (w := w) (hs.block b hb)).trans (hC j hj).2⟩⟩
theorem Uw.st {w0 w w' : World} {g N : Nat} {a : Option Addr} {n cap : Nat} {l : List un.Fa} (h : Uw w0 w N a n cap l) (hs : St g w w') (hg : g < N) : Uw w0 w' N a n cap l :=
  h.imp id fun ⟨S, hN⟩ => ⟨sl_st S hs fun _ b off e => by have : N ≤ b := hN _ e; omega, hN⟩
/-- No unit lies in a variable of a type. -/
theorem Uw.ty {w0 w w' : World} {g N : Nat} {T : TypeId} {a : Option Addr} {n cap : Nat} {l : List un.Fa} {t : Ty} {ua : Option Addr} {uc : Nat} (h : Uw w0 w N a n cap l) (hG : Blk w g T (tyC t ua uc)) (hs : St g w w') : Uw w0 w' N a n cap l := by
  refine h.imp id fun ⟨S, hN⟩ => ⟨sl_st S hs fun hl b off e hb => ?_, hN⟩
  subst hb
  have hpos : 0 < l.length := List.length_pos_iff.2 hl
  have h0 : l.length = 0 ∨ _ := S.hat
  obtain ⟨b', off', e', hC⟩ := h0.resolve_left (by omega)
  rw [e] at e'
  cases e'
  obtain ⟨c0, c1⟩ := hC 0 hpos
  rw [hG.cell] at c0 c1
  have hz : ∀ o, o = off + 0 * 2 → (tyC t ua uc)[o]? = some (Value.string (un.gt l 0).1) → (tyC t ua uc)[o + 1]? = some (Value.int .i64 (un.gt l 0).2) → False := fun o _ q0 q1 => by
    match o with
    | 0 => simp [tyC] at q0
    | 1 => simp [tyC] at q0
    | 2 => simp [tyC] at q1
    | o + 3 => simp [tyC] at q0
  exact hz _ rfl c0 c1
/-- What a rule returns: an error and a type. -/
def TrV (r : Int × Ty) (w0 : World) (N : Nat) (w : World) (e : Ending) (w' : World) : Prop :=
  ∃ ua uc, e = .returned (.tuple #[.agg (tyC r.2 ua uc), .int .i64 r.1]) ∧ Uw w0 w' N ua r.2.un.length uc r.2.un ∧ Below w.heap.size w w'
theorem tr_of {r : Int × Ty} {c : Int} {t : Ty} (h : r = (c, t)) {w0 w w' : World} {N : Nat} {ua : Option Addr} {uc : Nat} (hU : Uw w0 w' N ua t.un.length uc t.un) (hb : Below w.heap.size w w') : TrV r w0 N w (.returned (.tuple #[.agg (tyC t ua uc), .int .i64 c])) w' := by
  subst h
  exact ⟨ua, uc, rfl, hU, hb⟩
theorem bw_three (w : World) (c d f : Array Value) (T U V : TypeId) : Blk (((w.alloc (.cells c T)).alloc (.cells d U)).alloc (.cells f V)) w.heap.size T c ∧ Blk (((w.alloc (.cells c T)).alloc (.cells d U)).alloc (.cells f V)) (w.heap.size + 1) U d ∧ Blk (((w.alloc (.cells c T)).alloc (.cells d U)).alloc (.cells f V)) (w.heap.size + 2) V f := by
  have h := bw_two w c d T U
  refine ⟨h.1.past _, h.2.past _, ?_⟩
  have := Blk.new ((w.alloc (.cells c T)).alloc (.cells d U)) V f
  simpa using this
theorem below_three (w : World) (c d f : Obj) : Below w.heap.size w (((w.alloc c).alloc d).alloc f) := balloc (below_two w c d) _
set_option maxRecDepth 100000 in
set_option maxHeartbeats 2000000 in
theorem common_any (a b : Ty) (ua ub : Option Addr) (uc ud N : Nat) (w0 w : World) (hb0 : Below w0.heap.size w0 w) (hN : N ≤ w.heap.size) (hA : Uw w0 w N ua a.un.length uc a.un) (hB : Uw w0 w N ub b.un.length ud b.un) :
    Calls Tryz.prog 116 #[.agg (tyC a ua uc), .agg (tyC b ub ud)] w (TrV (comT a b) w0 N w) := by
  have bb := below_three w (.cells (tyC a ua uc) 36) (.cells (tyC b ub ud) 36) (.cells (tyC t0 none 0) 36)
  have B0 := Lib.hid bb
  have GG := bw_three w (tyC a ua uc) (tyC b ub ud) (tyC t0 none 0) 36 36 36
  have G1 := Lib.hid GG.1
  have G2 := Lib.hid GG.2.1
  have G3 := Lib.hid GG.2.2
  clear GG
  have U1 := Lib.hid (hA.keeps bb)
  have H0 := Lib.hid (hb0.trans (bb.mono hb0.size))
  have HN := Lib.hid hN
  have C := Lib.hid (difference_any a b ua ub uc ud _ ((hA.keeps bb).sl H0.out) ((hB.keeps bb).sl H0.out))
  have hE : comT a b = comT a b := rfl
  conv at hE => rhs; unfold comT
  replace hE := Lib.hid hE
  clear hA hB bb hb0 hN
  unfold tyC t0 at *
  generalize difT a b = d at *
  go_enter Tryz.func116, Tryz.ntmps116
  go_wp2_with fail
  refine (C.out).mono ?_
  rintro e w1 ⟨rfl, b1⟩
  have B1 := Lib.hid (bnext B0.out b1)
  replace U1 := Lib.hid (U1.out.keeps b1)
  replace G1 := Lib.hid (G1.out.keeps b1)
  replace G2 := Lib.hid (G2.out.keeps b1)
  replace G3 := Lib.hid (G3.out.keeps b1)
  clear b1 C
  by_cases hd : d = 0
  · have q := in_is hd
    have q2 : (d != 0) = false := by simp [hd]
    replace hE := Lib.hid (hE.out.trans (if_pos hd))
    clear hd
    go_wp2_with (first | (refine arm_loadT infTy Tryz.underlying36 rfl (.tmp 2) rfl rfl _ _ _ rfl G1.out rfl ?_) | (refine arm_storeT infTy (.tmp 4) (.tmp 13) rfl rfl _ _ _ _ rfl rfl G3.out rfl rfl (by simp [Value.oneCell']) ?_; intro w5 L5 hs5))
    have U5 := U1.out.ty (t := t0) (ua := none) (uc := 0) G3.out hs5
    exact ret_T2 infTy Tryz.underlying36 rfl Tryz.results116 _ _ _ _ (tyC a ua uc) rfl L5 rfl (tr_of hE.out U5 (B1.out.trans (hs5.below (by omega))))
  · have q := in_ne hd
    have q2 : (d != 0) = true := by simp [hd]
    replace hE := Lib.hid (hE.out.trans (if_neg hd))
    clear hd
    go_wp2_with (first | (refine arm_storeT infTy (.tmp 4) (.tmp 11) rfl rfl _ _ _ _ rfl rfl G3.out rfl rfl (by simp [Value.oneCell']) ?_; intro w5 L5 hs5))
    exact ret_T2 infTy Tryz.underlying36 rfl Tryz.results116 _ _ _ _ (tyC t0 none 0) rfl L5 rfl (tr_of hE.out (.nil _ _ _) (B1.out.trans (hs5.below (by omega))))
set_option maxRecDepth 100000 in
theorem unless_any (b : Bool) (c : Int) (w : World) : Calls Tryz.prog 142 #[.bool b, .int .i64 c] w (Num (if b = true then 0 else c) w) := by
  cases b
  · go_enter Tryz.func142, Tryz.ntmps142
    go_wp2_with fail
    go_ret
    exact nu_of rfl (b0 w)
  · go_enter Tryz.func142, Tryz.ntmps142
    go_wp2_with fail
    go_ret
    exact nu_of rfl (b0 w)
set_option maxRecDepth 100000 in
set_option maxHeartbeats 4000000 in
theorem aggregates_any (op : ByteArray) (t : Ty) (ua : Option Addr) (uc : Nat) (w : World) : Calls Tryz.prog 113 #[.string op, .agg (tyC t ua uc)] w (Bl (aggO op t) w) := by
  have B0 := Lib.hid (balloc (b0 w) (.cells (tyC t ua uc) 36))
  have G := Lib.hid (Blk.new w 36 (tyC t ua uc))
  have CI := Lib.hid (fun W => isNumber_any t ua uc W)
  obtain ⟨r, hr⟩ : ∃ r, r = aggO op t := ⟨_, rfl⟩
  rw [← hr]
  unfold aggO at hr
  have hr := Lib.hid hr
  unfold tyC at *
  go_enter Tryz.func113, Tryz.ntmps113
  go_wp2_with fail
  all_goals first
    | (exfalso; simp_all; done)
    | (refine (CI.out _).mono ?_
       rintro e w1 ⟨rfl, b1⟩
       have B1 := Lib.hid (bnext B0.out b1)
       have c0 := (G.out.keeps b1).cell 0
       simp only [List.getElem?_toArray, List.getElem?_cons_zero] at c0
       clear b1 CI B0
       generalize num t = m at *
       cases m
       · go_wp2_with fail
         all_goals go_ret
         all_goals exact bl_of (by rw [hr.out]; simp only [eqL, eqI] at *; simp_all) B1.out
       · go_wp2_with fail
         all_goals go_ret
         all_goals exact bl_of (by rw [hr.out]; simp only [eqL] at *; simp_all) B1.out)
    | (go_ret; exact bl_of (by rw [hr.out]; simp only [eqL] at *; simp_all) B0.out)
set_option maxRecDepth 100000 in
set_option maxHeartbeats 4000000 in
theorem compare_any (op : ByteArray) (a b : Ty) (ua ub : Option Addr) (uc ud : Nat) (w : World) (hA : un.Sl w ua a.un.length uc a.un) (hB : un.Sl w ub b.un.length ud b.un) :
    Calls Tryz.prog 115 #[.string op, .agg (tyC a ua uc), .agg (tyC b ub ud)] w (Num (cmpT op a b) w) := by
  have bb := below_two w (.cells (tyC a ua uc) 36) (.cells (tyC b ub ud) 36)
  have B0 := Lib.hid bb
  have GG := bw_two w (tyC a ua uc) (tyC b ub ud) 36 36
  have G1 := Lib.hid GG.1
  have G2 := Lib.hid GG.2
  clear GG
  have U1 := Lib.hid (hA.keeps bb)
  have U2 := Lib.hid (hB.keeps bb)
  have C1 := Lib.hid (fun W => isNumber_any a ua uc W)
  have C2 := Lib.hid (fun W => isNumber_any b ub ud W)
  have C3 := Lib.hid (fun W h1 h2 => difference_any a b ua ub uc ud W h1 h2)
  have CS := Lib.hid (fun W h1 h2 => un.same_any ua a.un.length uc ub b.un.length ud a.un b.un W h1 h2)
  have CU := Lib.hid unless_any
  have hE : cmpT op a b = cmpT op a b := rfl
  conv at hE => rhs; unfold cmpT
  replace hE := Lib.hid hE
  clear hA hB bb
  unfold tyC at *
  generalize num a = na at *
  generalize num b = nb at *
  generalize difT a b = d at *
  by_cases hs1 : op = ⟨#[97, 110, 100]⟩
  · have qs1 : (op.toList == [97, 110, 100]) = true := by rw [eqL]; exact decide_eq_true hs1
    have qn1 : (!op.toList == [97, 110, 100]) = false := by rw [qs1]; rfl
    replace hs1 := Lib.hid hs1
    replace hE := hE.out
    rw [if_pos (.inl hs1.out)] at hE
    replace hE := Lib.hid hE
    by_cases hi2 : a.k = 1
    · have qi2 := in_is hi2
      have qj2 : (a.k != 1) = false := by simp [hi2]
      replace hi2 := Lib.hid hi2
      by_cases hi3 : b.k = 1
      · have qi3 := in_is hi3
        have qj3 : (b.k != 1) = false := by simp [hi3]
        replace hi3 := Lib.hid hi3
        replace hE := hE.out
        rw [if_pos ⟨hi2.out, hi3.out⟩] at hE
        replace hE := Lib.hid hE
        go_enter Tryz.func115, Tryz.ntmps115
        go_wp2_with fail
        refine (CU.out true _ _).mono ?_
        rintro e w1 ⟨rfl, b1⟩
        have B1 := Lib.hid (bnext B0.out b1)
        clear b1 CU
        go_wp2_with fail
        go_ret
        exact nu_of (by rw [hE.out]; try rfl) B1.out
      · have qi3 := in_ne hi3
        have qj3 : (b.k != 1) = true := by simp [hi3]
        replace hi3 := Lib.hid hi3
        replace hE := hE.out
        rw [if_neg (fun e => hi3.out e.2)] at hE
        replace hE := Lib.hid hE
        go_enter Tryz.func115, Tryz.ntmps115
        go_wp2_with fail
        refine (CU.out false _ _).mono ?_
        rintro e w2 ⟨rfl, b2⟩
        have B2 := Lib.hid (bnext B0.out b2)
        clear b2 CU
        go_wp2_with fail
        go_ret
        exact nu_of (by rw [hE.out]; try rfl) B2.out
    · have qi2 := in_ne hi2
      have qj2 : (a.k != 1) = true := by simp [hi2]
      replace hi2 := Lib.hid hi2
      replace hE := hE.out
      rw [if_neg (fun e => hi2.out e.1)] at hE
      replace hE := Lib.hid hE
      go_enter Tryz.func115, Tryz.ntmps115
      go_wp2_with fail
      refine (CU.out false _ _).mono ?_
      rintro e w3 ⟨rfl, b3⟩
      have B3 := Lib.hid (bnext B0.out b3)
      clear b3 CU
      go_wp2_with fail
      go_ret
      exact nu_of (by rw [hE.out]; try rfl) B3.out
  · have qs1 : (op.toList == [97, 110, 100]) = false := by rw [eqL]; exact decide_eq_false hs1
    have qn1 : (!op.toList == [97, 110, 100]) = true := by rw [qs1]; rfl
    replace hs1 := Lib.hid hs1
    by_cases hs4 : op = ⟨#[111, 114]⟩
    · have qs4 : (op.toList == [111, 114]) = true := by rw [eqL]; exact decide_eq_true hs4
      have qn4 : (!op.toList == [111, 114]) = false := by rw [qs4]; rfl
      replace hs4 := Lib.hid hs4
      replace hE := hE.out
      rw [if_pos (.inr hs4.out)] at hE
      replace hE := Lib.hid hE
      by_cases hi5 : a.k = 1
      · have qi5 := in_is hi5
        have qj5 : (a.k != 1) = false := by simp [hi5]
        replace hi5 := Lib.hid hi5
        by_cases hi6 : b.k = 1
        · have qi6 := in_is hi6
          have qj6 : (b.k != 1) = false := by simp [hi6]
          replace hi6 := Lib.hid hi6
          replace hE := hE.out
          rw [if_pos ⟨hi5.out, hi6.out⟩] at hE
          replace hE := Lib.hid hE
          go_enter Tryz.func115, Tryz.ntmps115
          go_wp2_with fail
          refine (CU.out true _ _).mono ?_
          rintro e w4 ⟨rfl, b4⟩
          have B4 := Lib.hid (bnext B0.out b4)
          clear b4 CU
          go_wp2_with fail
          go_ret
          exact nu_of (by rw [hE.out]; try rfl) B4.out
        · have qi6 := in_ne hi6
          have qj6 : (b.k != 1) = true := by simp [hi6]
          replace hi6 := Lib.hid hi6
          replace hE := hE.out
          rw [if_neg (fun e => hi6.out e.2)] at hE
          replace hE := Lib.hid hE
          go_enter Tryz.func115, Tryz.ntmps115
          go_wp2_with fail
          refine (CU.out false _ _).mono ?_
          rintro e w5 ⟨rfl, b5⟩
          have B5 := Lib.hid (bnext B0.out b5)
          clear b5 CU
          go_wp2_with fail
          go_ret
          exact nu_of (by rw [hE.out]; try rfl) B5.out
      · have qi5 := in_ne hi5
        have qj5 : (a.k != 1) = true := by simp [hi5]
        replace hi5 := Lib.hid hi5
        replace hE := hE.out
        rw [if_neg (fun e => hi5.out e.1)] at hE
        replace hE := Lib.hid hE
        go_enter Tryz.func115, Tryz.ntmps115
        go_wp2_with fail
        refine (CU.out false _ _).mono ?_
        rintro e w6 ⟨rfl, b6⟩
        have B6 := Lib.hid (bnext B0.out b6)
        clear b6 CU
        go_wp2_with fail
        go_ret
        exact nu_of (by rw [hE.out]; try rfl) B6.out
    · have qs4 : (op.toList == [111, 114]) = false := by rw [eqL]; exact decide_eq_false hs4
      have qn4 : (!op.toList == [111, 114]) = true := by rw [qs4]; rfl
      replace hs4 := Lib.hid hs4
      replace hE := hE.out
      rw [if_neg (fun e => e.elim hs1.out hs4.out)] at hE
      replace hE := Lib.hid hE
      go_enter Tryz.func115, Tryz.ntmps115
      go_wp2_with (first | (refine arm_loadT infTy Tryz.underlying36 rfl (.tmp 4) rfl rfl _ _ _ rfl G1.out rfl ?_) | (refine arm_loadT infTy Tryz.underlying36 rfl (.tmp 5) rfl rfl _ _ _ rfl G2.out rfl ?_) | (refine arm_loadG infTy Tryz.underlying36 rfl (.tmp 5) rfl rfl _ _ _ rfl G2.out rfl ?_))
      refine (C1.out _).mono ?_
      rintro e w7 ⟨rfl, b7⟩
      have B7 := Lib.hid (bnext B0.out b7)
      replace U1 := Lib.hid (U1.out.keeps b7)
      replace U2 := Lib.hid (U2.out.keeps b7)
      replace G1 := Lib.hid (G1.out.keeps b7)
      replace G2 := Lib.hid (G2.out.keeps b7)
      have c0 := G1.out.cell 0
      have c1 := G1.out.cell 1
      simp only [List.getElem?_toArray, List.getElem?_cons_zero, List.getElem?_cons_succ] at c0 c1
      have d0 := G2.out.cell 0
      have d1 := G2.out.cell 1
      simp only [List.getElem?_toArray, List.getElem?_cons_zero, List.getElem?_cons_succ] at d0 d1
      clear b7 C1
      cases na
      · replace hE := hE.out
        rw [if_neg (fun e => by cases e.1)] at hE
        replace hE := Lib.hid hE
        by_cases hs7 : op = ⟨#[60]⟩
        · have qs7 : (op.toList == [60]) = true := by rw [eqL]; exact decide_eq_true hs7
          have qn7 : (!op.toList == [60]) = false := by rw [qs7]; rfl
          replace hs7 := Lib.hid hs7
          replace hE := hE.out
          rw [if_pos (.inl hs7.out)] at hE
          replace hE := Lib.hid hE
          by_cases hi8 : a.k = 4
          · have qi8 := in_is hi8
            have qj8 : (a.k != 4) = false := by simp [hi8]
            replace hi8 := Lib.hid hi8
            by_cases hi9 : b.k = 4
            · have qi9 := in_is hi9
              have qj9 : (b.k != 4) = false := by simp [hi9]
              replace hi9 := Lib.hid hi9
              replace hE := hE.out
              rw [if_pos ⟨hi8.out, hi9.out⟩] at hE
              replace hE := Lib.hid hE
              go_wp2_with fail
              refine (CU.out true _ _).mono ?_
              rintro e w8 ⟨rfl, b8⟩
              have B8 := Lib.hid (bnext B7.out b8)
              clear b8 CU
              go_wp2_with fail
              go_ret
              exact nu_of (by rw [hE.out]; try rfl) B8.out
            · have qi9 := in_ne hi9
              have qj9 : (b.k != 4) = true := by simp [hi9]
              replace hi9 := Lib.hid hi9
              replace hE := hE.out
              rw [if_neg (fun e => hi9.out e.2)] at hE
              replace hE := Lib.hid hE
              go_wp2_with fail
              refine (CU.out false _ _).mono ?_
              rintro e w9 ⟨rfl, b9⟩
              have B9 := Lib.hid (bnext B7.out b9)
              clear b9 CU
              go_wp2_with fail
              go_ret
              exact nu_of (by rw [hE.out]; try rfl) B9.out
          · have qi8 := in_ne hi8
            have qj8 : (a.k != 4) = true := by simp [hi8]
            replace hi8 := Lib.hid hi8
            replace hE := hE.out
            rw [if_neg (fun e => hi8.out e.1)] at hE
            replace hE := Lib.hid hE
            go_wp2_with fail
            refine (CU.out false _ _).mono ?_
            rintro e w10 ⟨rfl, b10⟩
            have B10 := Lib.hid (bnext B7.out b10)
            clear b10 CU
            go_wp2_with fail
            go_ret
            exact nu_of (by rw [hE.out]; try rfl) B10.out
        · have qs7 : (op.toList == [60]) = false := by rw [eqL]; exact decide_eq_false hs7
          have qn7 : (!op.toList == [60]) = true := by rw [qs7]; rfl
          replace hs7 := Lib.hid hs7
          by_cases hs10 : op = ⟨#[60, 61]⟩
          · have qs10 : (op.toList == [60, 61]) = true := by rw [eqL]; exact decide_eq_true hs10
            have qn10 : (!op.toList == [60, 61]) = false := by rw [qs10]; rfl
            replace hs10 := Lib.hid hs10
            replace hE := hE.out
            rw [if_pos (.inr hs10.out)] at hE
            replace hE := Lib.hid hE
            by_cases hi11 : a.k = 4
            · have qi11 := in_is hi11
              have qj11 : (a.k != 4) = false := by simp [hi11]
              replace hi11 := Lib.hid hi11
              by_cases hi12 : b.k = 4
              · have qi12 := in_is hi12
                have qj12 : (b.k != 4) = false := by simp [hi12]
                replace hi12 := Lib.hid hi12
                replace hE := hE.out
                rw [if_pos ⟨hi11.out, hi12.out⟩] at hE
                replace hE := Lib.hid hE
                go_wp2_with fail
                refine (CU.out true _ _).mono ?_
                rintro e w11 ⟨rfl, b11⟩
                have B11 := Lib.hid (bnext B7.out b11)
                clear b11 CU
                go_wp2_with fail
                go_ret
                exact nu_of (by rw [hE.out]; try rfl) B11.out
              · have qi12 := in_ne hi12
                have qj12 : (b.k != 4) = true := by simp [hi12]
                replace hi12 := Lib.hid hi12
                replace hE := hE.out
                rw [if_neg (fun e => hi12.out e.2)] at hE
                replace hE := Lib.hid hE
                go_wp2_with fail
                refine (CU.out false _ _).mono ?_
                rintro e w12 ⟨rfl, b12⟩
                have B12 := Lib.hid (bnext B7.out b12)
                clear b12 CU
                go_wp2_with fail
                go_ret
                exact nu_of (by rw [hE.out]; try rfl) B12.out
            · have qi11 := in_ne hi11
              have qj11 : (a.k != 4) = true := by simp [hi11]
              replace hi11 := Lib.hid hi11
              replace hE := hE.out
              rw [if_neg (fun e => hi11.out e.1)] at hE
              replace hE := Lib.hid hE
              go_wp2_with fail
              refine (CU.out false _ _).mono ?_
              rintro e w13 ⟨rfl, b13⟩
              have B13 := Lib.hid (bnext B7.out b13)
              clear b13 CU
              go_wp2_with fail
              go_ret
              exact nu_of (by rw [hE.out]; try rfl) B13.out
          · have qs10 : (op.toList == [60, 61]) = false := by rw [eqL]; exact decide_eq_false hs10
            have qn10 : (!op.toList == [60, 61]) = true := by rw [qs10]; rfl
            replace hs10 := Lib.hid hs10
            replace hE := hE.out
            rw [if_neg (fun e => e.elim hs7.out hs10.out)] at hE
            replace hE := Lib.hid hE
            go_wp2_with (first | (refine arm_loadT infTy Tryz.underlying36 rfl (.tmp 4) rfl rfl _ _ _ rfl G1.out rfl ?_) | (refine arm_loadT infTy Tryz.underlying36 rfl (.tmp 5) rfl rfl _ _ _ rfl G2.out rfl ?_) | (refine arm_loadG infTy Tryz.underlying36 rfl (.tmp 5) rfl rfl _ _ _ rfl G2.out rfl ?_))
            refine (C3.out _ U1.out U2.out).mono ?_
            rintro e w14 ⟨rfl, b14⟩
            have B14 := Lib.hid (bnext B7.out b14)
            clear b14 C3
            by_cases hi13 : d = 0
            · have qi13 := in_is hi13
              have qj13 : (d != 0) = false := by simp [hi13]
              replace hi13 := Lib.hid hi13
              replace hE := hE.out
              rw [if_pos hi13.out] at hE
              replace hE := Lib.hid hE
              go_wp2_with fail
              refine (CU.out true _ _).mono ?_
              rintro e w15 ⟨rfl, b15⟩
              have B15 := Lib.hid (bnext B14.out b15)
              clear b15 CU
              go_wp2_with fail
              go_ret
              exact nu_of (by rw [hE.out]; try rfl) B15.out
            · have qi13 := in_ne hi13
              have qj13 : (d != 0) = true := by simp [hi13]
              replace hi13 := Lib.hid hi13
              replace hE := hE.out
              rw [if_neg hi13.out] at hE
              replace hE := Lib.hid hE
              go_wp2_with fail
              refine (CU.out false _ _).mono ?_
              rintro e w16 ⟨rfl, b16⟩
              have B16 := Lib.hid (bnext B14.out b16)
              clear b16 CU
              go_wp2_with fail
              go_ret
              exact nu_of (by rw [hE.out]; try rfl) B16.out
      · go_wp2_with (first | (refine arm_loadT infTy Tryz.underlying36 rfl (.tmp 4) rfl rfl _ _ _ rfl G1.out rfl ?_) | (refine arm_loadT infTy Tryz.underlying36 rfl (.tmp 5) rfl rfl _ _ _ rfl G2.out rfl ?_) | (refine arm_loadG infTy Tryz.underlying36 rfl (.tmp 5) rfl rfl _ _ _ rfl G2.out rfl ?_))
        refine (C2.out _).mono ?_
        rintro e w17 ⟨rfl, b17⟩
        have B17 := Lib.hid (bnext B7.out b17)
        replace U1 := Lib.hid (U1.out.keeps b17)
        replace U2 := Lib.hid (U2.out.keeps b17)
        replace G1 := Lib.hid (G1.out.keeps b17)
        replace G2 := Lib.hid (G2.out.keeps b17)
        have e0 := G1.out.cell 0
        have e1 := G1.out.cell 1
        simp only [List.getElem?_toArray, List.getElem?_cons_zero, List.getElem?_cons_succ] at e0 e1
        have f0 := G2.out.cell 0
        have f1 := G2.out.cell 1
        simp only [List.getElem?_toArray, List.getElem?_cons_zero, List.getElem?_cons_succ] at f0 f1
        clear b17 C2
        cases nb
        · replace hE := hE.out
          rw [if_neg (fun e => by cases e.2)] at hE
          replace hE := Lib.hid hE
          by_cases hs14 : op = ⟨#[60]⟩
          · have qs14 : (op.toList == [60]) = true := by rw [eqL]; exact decide_eq_true hs14
            have qn14 : (!op.toList == [60]) = false := by rw [qs14]; rfl
            replace hs14 := Lib.hid hs14
            replace hE := hE.out
            rw [if_pos (.inl hs14.out)] at hE
            replace hE := Lib.hid hE
            by_cases hi15 : a.k = 4
            · have qi15 := in_is hi15
              have qj15 : (a.k != 4) = false := by simp [hi15]
              replace hi15 := Lib.hid hi15
              by_cases hi16 : b.k = 4
              · have qi16 := in_is hi16
                have qj16 : (b.k != 4) = false := by simp [hi16]
                replace hi16 := Lib.hid hi16
                replace hE := hE.out
                rw [if_pos ⟨hi15.out, hi16.out⟩] at hE
                replace hE := Lib.hid hE
                go_wp2_with fail
                refine (CU.out true _ _).mono ?_
                rintro e w18 ⟨rfl, b18⟩
                have B18 := Lib.hid (bnext B17.out b18)
                clear b18 CU
                go_wp2_with fail
                go_ret
                exact nu_of (by rw [hE.out]; try rfl) B18.out
              · have qi16 := in_ne hi16
                have qj16 : (b.k != 4) = true := by simp [hi16]
                replace hi16 := Lib.hid hi16
                replace hE := hE.out
                rw [if_neg (fun e => hi16.out e.2)] at hE
                replace hE := Lib.hid hE
                go_wp2_with fail
                refine (CU.out false _ _).mono ?_
                rintro e w19 ⟨rfl, b19⟩
                have B19 := Lib.hid (bnext B17.out b19)
                clear b19 CU
                go_wp2_with fail
                go_ret
                exact nu_of (by rw [hE.out]; try rfl) B19.out
            · have qi15 := in_ne hi15
              have qj15 : (a.k != 4) = true := by simp [hi15]
              replace hi15 := Lib.hid hi15
              replace hE := hE.out
              rw [if_neg (fun e => hi15.out e.1)] at hE
              replace hE := Lib.hid hE
              go_wp2_with fail
              refine (CU.out false _ _).mono ?_
              rintro e w20 ⟨rfl, b20⟩
              have B20 := Lib.hid (bnext B17.out b20)
              clear b20 CU
              go_wp2_with fail
              go_ret
              exact nu_of (by rw [hE.out]; try rfl) B20.out
          · have qs14 : (op.toList == [60]) = false := by rw [eqL]; exact decide_eq_false hs14
            have qn14 : (!op.toList == [60]) = true := by rw [qs14]; rfl
            replace hs14 := Lib.hid hs14
            by_cases hs17 : op = ⟨#[60, 61]⟩
            · have qs17 : (op.toList == [60, 61]) = true := by rw [eqL]; exact decide_eq_true hs17
              have qn17 : (!op.toList == [60, 61]) = false := by rw [qs17]; rfl
              replace hs17 := Lib.hid hs17
              replace hE := hE.out
              rw [if_pos (.inr hs17.out)] at hE
              replace hE := Lib.hid hE
              by_cases hi18 : a.k = 4
              · have qi18 := in_is hi18
                have qj18 : (a.k != 4) = false := by simp [hi18]
                replace hi18 := Lib.hid hi18
                by_cases hi19 : b.k = 4
                · have qi19 := in_is hi19
                  have qj19 : (b.k != 4) = false := by simp [hi19]
                  replace hi19 := Lib.hid hi19
                  replace hE := hE.out
                  rw [if_pos ⟨hi18.out, hi19.out⟩] at hE
                  replace hE := Lib.hid hE
                  go_wp2_with fail
                  refine (CU.out true _ _).mono ?_
                  rintro e w21 ⟨rfl, b21⟩
                  have B21 := Lib.hid (bnext B17.out b21)
                  clear b21 CU
                  go_wp2_with fail
                  go_ret
                  exact nu_of (by rw [hE.out]; try rfl) B21.out
                · have qi19 := in_ne hi19
                  have qj19 : (b.k != 4) = true := by simp [hi19]
                  replace hi19 := Lib.hid hi19
                  replace hE := hE.out
                  rw [if_neg (fun e => hi19.out e.2)] at hE
                  replace hE := Lib.hid hE
                  go_wp2_with fail
                  refine (CU.out false _ _).mono ?_
                  rintro e w22 ⟨rfl, b22⟩
                  have B22 := Lib.hid (bnext B17.out b22)
                  clear b22 CU
                  go_wp2_with fail
                  go_ret
                  exact nu_of (by rw [hE.out]; try rfl) B22.out
              · have qi18 := in_ne hi18
                have qj18 : (a.k != 4) = true := by simp [hi18]
                replace hi18 := Lib.hid hi18
                replace hE := hE.out
                rw [if_neg (fun e => hi18.out e.1)] at hE
                replace hE := Lib.hid hE
                go_wp2_with fail
                refine (CU.out false _ _).mono ?_
                rintro e w23 ⟨rfl, b23⟩
                have B23 := Lib.hid (bnext B17.out b23)
                clear b23 CU
                go_wp2_with fail
                go_ret
                exact nu_of (by rw [hE.out]; try rfl) B23.out
            · have qs17 : (op.toList == [60, 61]) = false := by rw [eqL]; exact decide_eq_false hs17
              have qn17 : (!op.toList == [60, 61]) = true := by rw [qs17]; rfl
              replace hs17 := Lib.hid hs17
              replace hE := hE.out
              rw [if_neg (fun e => e.elim hs14.out hs17.out)] at hE
              replace hE := Lib.hid hE
              go_wp2_with (first | (refine arm_loadT infTy Tryz.underlying36 rfl (.tmp 4) rfl rfl _ _ _ rfl G1.out rfl ?_) | (refine arm_loadT infTy Tryz.underlying36 rfl (.tmp 5) rfl rfl _ _ _ rfl G2.out rfl ?_) | (refine arm_loadG infTy Tryz.underlying36 rfl (.tmp 5) rfl rfl _ _ _ rfl G2.out rfl ?_))
              refine (C3.out _ U1.out U2.out).mono ?_
              rintro e w24 ⟨rfl, b24⟩
              have B24 := Lib.hid (bnext B17.out b24)
              clear b24 C3
              by_cases hi20 : d = 0
              · have qi20 := in_is hi20
                have qj20 : (d != 0) = false := by simp [hi20]
                replace hi20 := Lib.hid hi20
                replace hE := hE.out
                rw [if_pos hi20.out] at hE
                replace hE := Lib.hid hE
                go_wp2_with fail
                refine (CU.out true _ _).mono ?_
                rintro e w25 ⟨rfl, b25⟩
                have B25 := Lib.hid (bnext B24.out b25)
                clear b25 CU
                go_wp2_with fail
                go_ret
                exact nu_of (by rw [hE.out]; try rfl) B25.out
              · have qi20 := in_ne hi20
                have qj20 : (d != 0) = true := by simp [hi20]
                replace hi20 := Lib.hid hi20
                replace hE := hE.out
                rw [if_neg hi20.out] at hE
                replace hE := Lib.hid hE
                go_wp2_with fail
                refine (CU.out false _ _).mono ?_
                rintro e w26 ⟨rfl, b26⟩
                have B26 := Lib.hid (bnext B24.out b26)
                clear b26 CU
                go_wp2_with fail
                go_ret
                exact nu_of (by rw [hE.out]; try rfl) B26.out
        · replace hE := hE.out
          rw [if_pos (by simp)] at hE
          replace hE := Lib.hid hE
          go_wp2_with fail
          refine (CS.out _ U1.out U2.out).mono ?_
          rintro e w27 ⟨rfl, b27⟩
          have B27 := Lib.hid (bnext B17.out b27)
          clear b27 CS
          have hu := Lib.hid (show (if a.un = b.un then (0 : Int) else 70) = if un.sameB a.un b.un = true then 0 else 70 by unfold un.sameB; simp)
          replace hE := hE.out
          rw [hu.out] at hE
          replace hE := Lib.hid hE
          clear hu
          generalize un.sameB a.un b.un = u at *
          cases u
          · replace hE := hE.out
            rw [if_neg (by decide)] at hE
            replace hE := Lib.hid hE
            go_wp2_with fail
            refine (CU.out false _ _).mono ?_
            rintro e w28 ⟨rfl, b28⟩
            have B28 := Lib.hid (bnext B27.out b28)
            clear b28 CU
            go_wp2_with fail
            go_ret
            exact nu_of (by rw [hE.out]; try rfl) B28.out
          · replace hE := hE.out
            rw [if_pos rfl] at hE
            replace hE := Lib.hid hE
            go_wp2_with fail
            refine (CU.out true _ _).mono ?_
            rintro e w29 ⟨rfl, b29⟩
            have B29 := Lib.hid (bnext B27.out b29)
            clear b29 CU
            go_wp2_with fail
            go_ret
            exact nu_of (by rw [hE.out]; try rfl) B29.out
set_option maxRecDepth 100000 in
set_option maxHeartbeats 4000000 in
theorem calculateUnit_any (op : ByteArray) (l r : List un.Fa) (ua ub : Option Addr) (uc ud N : Nat) (w0 w : World) (hb0 : Below w0.heap.size w0 w) (hN : N ≤ w.heap.size) (hA : Uw w0 w N ua l.length uc l) (hB : Uw w0 w N ub r.length ud r) :
    Calls Tryz.prog 141 #[.string op, .slice ua l.length uc, .slice ub r.length ud] w fun e w' => ∃ x c, e = .returned (.tuple #[.slice x (calU op l r).2.length c, .int .i64 (calU op l r).1]) ∧ Uw w0 w' N x (calU op l r).2.length c (calU op l r).2 ∧ Below w.heap.size w w' := by
  have S1 := Lib.hid (hA.sl hb0)
  have S2 := Lib.hid (hB.sl hb0)
  have U1 := Lib.hid hA
  have C1 := Lib.hid (un.times_any _ _ _ _ _ _ _ _ w S1.out S2.out)
  have C2 := Lib.hid (un.over_any _ _ _ _ _ _ _ _ w S1.out S2.out)
  have C3 := Lib.hid (un.same_any _ _ _ _ _ _ _ _ w S1.out S2.out)
  have HN := Lib.hid hN
  have hE : calU op l r = calU op l r := rfl
  conv at hE => rhs; unfold calU
  replace hE := Lib.hid hE
  clear hA hB hb0 hN
  by_cases hs21 : op = ⟨#[42]⟩
  · have qs21 : (op.toList == [42]) = true := by rw [eqL]; exact decide_eq_true hs21
    have qn21 : (!op.toList == [42]) = false := by rw [qs21]; rfl
    replace hs21 := Lib.hid hs21
    replace hE := hE.out
    rw [if_pos hs21.out] at hE
    replace hE := Lib.hid hE
    go_enter Tryz.func141, Tryz.ntmps141
    go_wp2_with fail
    refine C1.out.mono ?_
    rintro e w1 ⟨v, rfl, ⟨x, c, rfl, S9, hx⟩, b1⟩
    have B1 := Lib.hid b1
    have S9 := Lib.hid S9
    have hx := Lib.hid hx
    clear b1
    go_wp2_with fail
    go_ret2
    exact ⟨x, c, by rw [hE.out]; rfl, by rw [hE.out]; exact .inr ⟨S9.out, fun y hy => Nat.le_trans HN.out (hx.out y hy)⟩, B1.out⟩
  · have qs21 : (op.toList == [42]) = false := by rw [eqL]; exact decide_eq_false hs21
    have qn21 : (!op.toList == [42]) = true := by rw [qs21]; rfl
    replace hs21 := Lib.hid hs21
    replace hE := hE.out
    rw [if_neg hs21.out] at hE
    replace hE := Lib.hid hE
    by_cases hs22 : op = ⟨#[47]⟩
    · have qs22 : (op.toList == [47]) = true := by rw [eqL]; exact decide_eq_true hs22
      have qn22 : (!op.toList == [47]) = false := by rw [qs22]; rfl
      replace hs22 := Lib.hid hs22
      replace hE := hE.out
      rw [if_pos hs22.out] at hE
      replace hE := Lib.hid hE
      go_enter Tryz.func141, Tryz.ntmps141
      go_wp2_with fail
      refine C2.out.mono ?_
      rintro e w1 ⟨v, rfl, ⟨x, c, rfl, S9, hx⟩, b1⟩
      have B1 := Lib.hid b1
      have S9 := Lib.hid S9
      have hx := Lib.hid hx
      clear b1
      go_wp2_with fail
      go_ret2
      exact ⟨x, c, by rw [hE.out]; rfl, by rw [hE.out]; exact .inr ⟨S9.out, fun y hy => Nat.le_trans HN.out (hx.out y hy)⟩, B1.out⟩
    · have qs22 : (op.toList == [47]) = false := by rw [eqL]; exact decide_eq_false hs22
      have qn22 : (!op.toList == [47]) = true := by rw [qs22]; rfl
      replace hs22 := Lib.hid hs22
      replace hE := hE.out
      rw [if_neg hs22.out] at hE
      replace hE := Lib.hid hE
      go_enter Tryz.func141, Tryz.ntmps141
      go_wp2_with fail
      refine C3.out.mono ?_
      rintro e w1 ⟨rfl, b1⟩
      have B1 := Lib.hid b1
      replace U1 := Lib.hid (U1.out.keeps b1)
      clear b1 C3
      have hu : un.sameB l r = decide (l = r) := rfl
      rw [hu]
      clear hu
      by_cases hl : l = r
      · have qd : decide (l = r) = true := decide_eq_true hl
        replace hE := Lib.hid (hE.out.trans (if_pos hl))
        clear hl
        go_wp2_with fail
        go_ret2
        exact ⟨_, _, by rw [hE.out]; rfl, by rw [hE.out]; exact U1.out, B1.out⟩
      · have qd : decide (l = r) = false := decide_eq_false hl
        replace hE := Lib.hid (hE.out.trans (if_neg hl))
        clear hl
        go_wp2_with fail
        go_ret2
        exact ⟨none, 0, by rw [hE.out]; rfl, by rw [hE.out]; exact .nil _ _ _, B1.out⟩
set_option maxRecDepth 100000 in
set_option maxHeartbeats 4000000 in
theorem calculate_any (op : ByteArray) (a b : Ty) (ua ub : Option Addr) (uc ud N : Nat) (w0 w : World) (hb0 : Below w0.heap.size w0 w) (hN : N ≤ w.heap.size) (hA : Uw w0 w N ua a.un.length uc a.un) (hB : Uw w0 w N ub b.un.length ud b.un) :
    Calls Tryz.prog 114 #[.string op, .agg (tyC a ua uc), .agg (tyC b ub ud)] w (TrV (calT op a b) w0 N w) := by
  have bb := below_three w (.cells (tyC a ua uc) 36) (.cells (tyC b ub ud) 36) (.cells (tyC t0 none 0) 36)
  have B0 := Lib.hid bb
  have GG := bw_three w (tyC a ua uc) (tyC b ub ud) (tyC t0 none 0) 36 36 36
  have G1 := Lib.hid GG.1
  have G2 := Lib.hid GG.2.1
  have G3 := Lib.hid GG.2.2
  clear GG
  have U1 := Lib.hid (hA.keeps bb)
  have U2 := Lib.hid (hB.keeps bb)
  have HW := Lib.hid hb0
  have HM := Lib.hid hN
  have C1 := Lib.hid (fun W => isNumber_any a ua uc W)
  have C2 := Lib.hid (fun W => isNumber_any b ub ud W)
  have CC := Lib.hid (fun W h0 hN h1 h2 => calculateUnit_any op a.un b.un ua ub uc ud N w0 W h0 hN h1 h2)
  have hE : calT op a b = calT op a b := rfl
  conv at hE => rhs; unfold calT
  replace hE := Lib.hid hE
  clear hA hB bb hb0 hN
  unfold tyC t0 at *
  generalize num a = na at *
  generalize num b = nb at *
  generalize calU op a.un b.un = r at *
  go_enter Tryz.func114, Tryz.ntmps114
  go_wp2_with (first | (refine arm_loadT infTy Tryz.underlying36 rfl (.tmp 4) rfl rfl _ _ _ rfl G1.out rfl ?_) | (refine arm_loadT infTy Tryz.underlying36 rfl (.tmp 5) rfl rfl _ _ _ rfl G2.out rfl ?_) | (refine arm_loadG infTy Tryz.underlying36 rfl (.tmp 5) rfl rfl _ _ _ rfl G2.out rfl ?_))
  refine (C1.out _).mono ?_
  rintro e w1 ⟨rfl, b1⟩
  have B1 := Lib.hid (bnext B0.out b1)
  replace U1 := Lib.hid (U1.out.keeps b1)
  replace U2 := Lib.hid (U2.out.keeps b1)
  replace G1 := Lib.hid (G1.out.keeps b1)
  replace G2 := Lib.hid (G2.out.keeps b1)
  replace G3 := Lib.hid (G3.out.keeps b1)
  have c0 := G1.out.cell 0
  have c1 := G1.out.cell 1
  simp only [List.getElem?_toArray, List.getElem?_cons_zero, List.getElem?_cons_succ] at c0 c1
  have d0 := G2.out.cell 0
  have d1 := G2.out.cell 1
  simp only [List.getElem?_toArray, List.getElem?_cons_zero, List.getElem?_cons_succ] at d0 d1
  clear b1 C1
  cases na
  · replace hE := hE.out
    rw [if_pos rfl] at hE
    replace hE := Lib.hid hE
    go_wp2_with (first | (refine arm_loadT infTy Tryz.underlying36 rfl (.tmp 4) rfl rfl _ _ _ rfl G1.out rfl ?_) | (refine arm_loadT infTy Tryz.underlying36 rfl (.tmp 5) rfl rfl _ _ _ rfl G2.out rfl ?_) | (refine arm_loadG infTy Tryz.underlying36 rfl (.tmp 5) rfl rfl _ _ _ rfl G2.out rfl ?_) | (refine arm_storeT infTy (.tmp 6) (.tmp 17) rfl rfl _ _ _ _ rfl rfl G3.out rfl rfl (by simp [Value.oneCell']) ?_; intro w5 L5 hs5))
    exact ret_T2 infTy Tryz.underlying36 rfl Tryz.results114 _ _ _ _ (tyC t0 none 0) rfl L5 rfl (tr_of hE.out (.nil _ _ _) (B1.out.trans (hs5.below (by omega))))
  · replace hE := hE.out
    rw [if_neg (by decide)] at hE
    replace hE := Lib.hid hE
    go_wp2_with (first | (refine arm_loadT infTy Tryz.underlying36 rfl (.tmp 4) rfl rfl _ _ _ rfl G1.out rfl ?_) | (refine arm_loadT infTy Tryz.underlying36 rfl (.tmp 5) rfl rfl _ _ _ rfl G2.out rfl ?_) | (refine arm_loadG infTy Tryz.underlying36 rfl (.tmp 5) rfl rfl _ _ _ rfl G2.out rfl ?_))
    refine (C2.out _).mono ?_
    rintro e w2 ⟨rfl, b2⟩
    have B2 := Lib.hid (bnext B1.out b2)
    replace U1 := Lib.hid (U1.out.keeps b2)
    replace U2 := Lib.hid (U2.out.keeps b2)
    replace G1 := Lib.hid (G1.out.keeps b2)
    replace G2 := Lib.hid (G2.out.keeps b2)
    replace G3 := Lib.hid (G3.out.keeps b2)
    have e0 := G1.out.cell 0
    have e1 := G1.out.cell 1
    simp only [List.getElem?_toArray, List.getElem?_cons_zero, List.getElem?_cons_succ] at e0 e1
    have f0 := G2.out.cell 0
    have f1 := G2.out.cell 1
    simp only [List.getElem?_toArray, List.getElem?_cons_zero, List.getElem?_cons_succ] at f0 f1
    clear b2 C2
    cases nb
    · replace hE := hE.out
      rw [if_pos rfl] at hE
      replace hE := Lib.hid hE
      go_wp2_with (first | (refine arm_loadT infTy Tryz.underlying36 rfl (.tmp 4) rfl rfl _ _ _ rfl G1.out rfl ?_) | (refine arm_loadT infTy Tryz.underlying36 rfl (.tmp 5) rfl rfl _ _ _ rfl G2.out rfl ?_) | (refine arm_loadG infTy Tryz.underlying36 rfl (.tmp 5) rfl rfl _ _ _ rfl G2.out rfl ?_) | (refine arm_storeT infTy (.tmp 6) (.tmp 17) rfl rfl _ _ _ _ rfl rfl G3.out rfl rfl (by simp [Value.oneCell']) ?_; intro w5 L5 hs5))
      exact ret_T2 infTy Tryz.underlying36 rfl Tryz.results114 _ _ _ _ (tyC t0 none 0) rfl L5 rfl (tr_of hE.out (.nil _ _ _) (B2.out.trans (hs5.below (by omega))))
    · replace hE := hE.out
      rw [if_neg (by decide)] at hE
      replace hE := Lib.hid hE
      go_wp2_with (first | (refine arm_loadT infTy Tryz.underlying36 rfl (.tmp 4) rfl rfl _ _ _ rfl G1.out rfl ?_) | (refine arm_loadT infTy Tryz.underlying36 rfl (.tmp 5) rfl rfl _ _ _ rfl G2.out rfl ?_) | (refine arm_loadG infTy Tryz.underlying36 rfl (.tmp 5) rfl rfl _ _ _ rfl G2.out rfl ?_))
      refine (CC.out _ (HW.out.trans (B2.out.mono HW.out.size)) (Nat.le_trans HM.out B2.out.size) U1.out U2.out).mono ?_
      rintro e w7 ⟨x, c, rfl, ux, b7⟩
      have B7 := Lib.hid (bnext B2.out b7)
      have UX := Lib.hid ux
      replace G1 := Lib.hid (G1.out.keeps b7)
      replace G2 := Lib.hid (G2.out.keeps b7)
      replace G3 := Lib.hid (G3.out.keeps b7)
      have g0 := G1.out.cell 0
      have h0' := G2.out.cell 0
      simp only [List.getElem?_toArray, List.getElem?_cons_zero] at g0 h0'
      clear b7 ux CC
      obtain ⟨re, ru⟩ := r
      simp only at hE UX ⊢
      by_cases hi23 : re = 0
      · have qi23 := in_is hi23
        have qj23 : (re != 0) = false := by simp [hi23]
        replace hi23 := Lib.hid hi23
        replace hE := hE.out
        rw [if_neg (fun e => e hi23.out)] at hE
        replace hE := Lib.hid hE
        by_cases hs24 : op = ⟨#[47]⟩
        · have qs24 : (op.toList == [47]) = true := by rw [eqL]; exact decide_eq_true hs24
          have qn24 : (!op.toList == [47]) = false := by rw [qs24]; rfl
          replace hs24 := Lib.hid hs24
          replace hE := hE.out
          rw [if_neg (fun e => e.1 hs24.out)] at hE
          replace hE := Lib.hid hE
          go_wp2_with (first | (refine arm_loadT infTy Tryz.underlying36 rfl (.tmp 4) rfl rfl _ _ _ rfl G1.out rfl ?_) | (refine arm_loadT infTy Tryz.underlying36 rfl (.tmp 5) rfl rfl _ _ _ rfl G2.out rfl ?_) | (refine arm_loadG infTy Tryz.underlying36 rfl (.tmp 5) rfl rfl _ _ _ rfl G2.out rfl ?_) | (refine arm_storeT infTy (.tmp 6) (.tmp 45) rfl rfl _ _ _ _ rfl rfl G3.out rfl rfl (by simp [Value.oneCell']) ?_; intro w5 L5 hs5))
          exact ret_T2 infTy Tryz.underlying36 rfl Tryz.results114 _ _ _ _ (tyC ⟨3, ru, .empty⟩ x c) rfl L5 rfl (tr_of hE.out (UX.out.ty (t := t0) (ua := none) (uc := 0) G3.out hs5) (B7.out.trans (hs5.below (by omega))))
        · have qs24 : (op.toList == [47]) = false := by rw [eqL]; exact decide_eq_false hs24
          have qn24 : (!op.toList == [47]) = true := by rw [qs24]; rfl
          replace hs24 := Lib.hid hs24
          by_cases hi25 : a.k = 2
          · have qi25 := in_is hi25
            have qj25 : (a.k != 2) = false := by simp [hi25]
            replace hi25 := Lib.hid hi25
            by_cases hi26 : b.k = 2
            · have qi26 := in_is hi26
              have qj26 : (b.k != 2) = false := by simp [hi26]
              replace hi26 := Lib.hid hi26
              replace hE := hE.out
              rw [if_pos ⟨hs24.out, hi25.out, hi26.out⟩] at hE
              replace hE := Lib.hid hE
              go_wp2_with (first | (refine arm_loadT infTy Tryz.underlying36 rfl (.tmp 4) rfl rfl _ _ _ rfl G1.out rfl ?_) | (refine arm_loadT infTy Tryz.underlying36 rfl (.tmp 5) rfl rfl _ _ _ rfl G2.out rfl ?_) | (refine arm_loadG infTy Tryz.underlying36 rfl (.tmp 5) rfl rfl _ _ _ rfl G2.out rfl ?_) | (refine arm_storeT infTy (.tmp 6) (.tmp 43) rfl rfl _ _ _ _ rfl rfl G3.out rfl rfl (by simp [Value.oneCell']) ?_; intro w5 L5 hs5))
              exact ret_T2 infTy Tryz.underlying36 rfl Tryz.results114 _ _ _ _ (tyC ⟨2, ru, .empty⟩ x c) rfl L5 rfl (tr_of hE.out (UX.out.ty (t := t0) (ua := none) (uc := 0) G3.out hs5) (B7.out.trans (hs5.below (by omega))))
            · have qi26 := in_ne hi26
              have qj26 : (b.k != 2) = true := by simp [hi26]
              replace hi26 := Lib.hid hi26
              replace hE := hE.out
              rw [if_neg (fun e => hi26.out e.2.2)] at hE
              replace hE := Lib.hid hE
              go_wp2_with (first | (refine arm_loadT infTy Tryz.underlying36 rfl (.tmp 4) rfl rfl _ _ _ rfl G1.out rfl ?_) | (refine arm_loadT infTy Tryz.underlying36 rfl (.tmp 5) rfl rfl _ _ _ rfl G2.out rfl ?_) | (refine arm_loadG infTy Tryz.underlying36 rfl (.tmp 5) rfl rfl _ _ _ rfl G2.out rfl ?_) | (refine arm_storeT infTy (.tmp 6) (.tmp 45) rfl rfl _ _ _ _ rfl rfl G3.out rfl rfl (by simp [Value.oneCell']) ?_; intro w5 L5 hs5))
              exact ret_T2 infTy Tryz.underlying36 rfl Tryz.results114 _ _ _ _ (tyC ⟨3, ru, .empty⟩ x c) rfl L5 rfl (tr_of hE.out (UX.out.ty (t := t0) (ua := none) (uc := 0) G3.out hs5) (B7.out.trans (hs5.below (by omega))))
          · have qi25 := in_ne hi25
            have qj25 : (a.k != 2) = true := by simp [hi25]
            replace hi25 := Lib.hid hi25
            replace hE := hE.out
            rw [if_neg (fun e => hi25.out e.2.1)] at hE
            replace hE := Lib.hid hE
            go_wp2_with (first | (refine arm_loadT infTy Tryz.underlying36 rfl (.tmp 4) rfl rfl _ _ _ rfl G1.out rfl ?_) | (refine arm_loadT infTy Tryz.underlying36 rfl (.tmp 5) rfl rfl _ _ _ rfl G2.out rfl ?_) | (refine arm_loadG infTy Tryz.underlying36 rfl (.tmp 5) rfl rfl _ _ _ rfl G2.out rfl ?_) | (refine arm_storeT infTy (.tmp 6) (.tmp 45) rfl rfl _ _ _ _ rfl rfl G3.out rfl rfl (by simp [Value.oneCell']) ?_; intro w5 L5 hs5))
            exact ret_T2 infTy Tryz.underlying36 rfl Tryz.results114 _ _ _ _ (tyC ⟨3, ru, .empty⟩ x c) rfl L5 rfl (tr_of hE.out (UX.out.ty (t := t0) (ua := none) (uc := 0) G3.out hs5) (B7.out.trans (hs5.below (by omega))))
      · have qi23 := in_ne hi23
        have qj23 : (re != 0) = true := by simp [hi23]
        replace hi23 := Lib.hid hi23
        replace hE := hE.out
        rw [if_pos hi23.out] at hE
        replace hE := Lib.hid hE
        go_wp2_with (first | (refine arm_loadT infTy Tryz.underlying36 rfl (.tmp 4) rfl rfl _ _ _ rfl G1.out rfl ?_) | (refine arm_loadT infTy Tryz.underlying36 rfl (.tmp 5) rfl rfl _ _ _ rfl G2.out rfl ?_) | (refine arm_loadG infTy Tryz.underlying36 rfl (.tmp 5) rfl rfl _ _ _ rfl G2.out rfl ?_) | (refine arm_storeT infTy (.tmp 6) (.tmp 29) rfl rfl _ _ _ _ rfl rfl G3.out rfl rfl (by simp [Value.oneCell']) ?_; intro w5 L5 hs5))
        exact ret_T2 infTy Tryz.underlying36 rfl Tryz.results114 _ _ _ _ (tyC t0 none 0) rfl L5 rfl (tr_of hE.out (.nil _ _ _) (B7.out.trans (hs5.below (by omega))))
end Go.Proofs.YtbkpjhffmaldmaaGreatDoor.ch
namespace Go.Proofs.YtbkpjhffmaldmaaGreatDoor.ch
open Go.RowKit dec

def tyF (f : FuncId) (B : Nat) : Value := .func (.func f) #[.pointer (some ⟨B, 0, none⟩)] #[]
def tyL (B : Nat) : List Value := [tyF 77 B, tyF 78 B, tyF 79 B, tyF 80 B, tyF 81 B, tyF 82 B, tyF 83 B, tyF 84 B, tyF 85 B]
/-- The value of a catalog. -/
def ctC (ta : Option Addr) (tn tc : Nat) (ga : Option Addr) (gn gc : Nat) (da : Option Addr) (dn dc : Nat) (pa : Option Addr) (pn pc : Nat) : Array Value := #[.slice ta tn tc, .slice ga gn gc, .slice da dn dc, .slice pa pn pc]
def CtV (w : World) (cs : Array Value) (ts : List Tb) (gs : List Fe) : Prop := ∃ ta tn tc ga gn gc da dn dc pa pn pc, cs = ctC ta tn tc ga gn gc da dn dc pa pn pc ∧ Tbs' w ta tn tc ts ∧ Fes w ga gn gc gs
def scC (ta : Option Addr) (tn tc : Nat) (ga : Option Addr) (gn gc : Nat) (da : Option Addr) (dn dc : Nat) (pa : Option Addr) (pn pc : Nat) (en : ByteArray) (gT mb : Nat) : Array Value :=
  #[.slice ta tn tc, .slice ga gn gc, .slice da dn dc, .slice pa pn pc, .string en, .func (.func 74) #[] #[.pointer (some ⟨gT, 0, none⟩)], .map (some mb)]
/-- What the letters of a scope stand for. -/
structure ScL where
  ta : Option Addr
  tn : Nat
  tc : Nat
  ga : Option Addr
  gn : Nat
  gc : Nat
  da : Option Addr
  dn : Nat
  dc : Nat
  pa : Option Addr
  pn : Nat
  pc : Nat
  gT : Nat
  mb : Nat
  t : Tb
  a : Option Addr
  c : Nat
def ScL.cs (L : ScL) (en : ByteArray) : Array Value := scC L.ta L.tn L.tc L.ga L.gn L.gc L.da L.dn L.dc L.pa L.pn L.pc en L.gT L.mb
/-- The block B is a scope. -/
structure Sc1 (w0 w : World) (B : Nat) (ts : List Tb) (gs : List Fe) (en : ByteArray) (fl : List Fi) (L : ScL) : Prop where
  blk : Blk w B 107 (L.cs en)
  mp : Mp w L.mb (tyL B)
  tab : Blk w L.gT 39 (tbC L.t L.a L.c)
  fis : Fis w0 L.a L.t.fs.length L.c L.t.fs
  fl : L.t.fs = fl
  ct : Tbs' w0 L.ta L.tn L.tc ts
  cg : Fes w0 L.ga L.gn L.gc gs
def Scp (w0 w : World) (B : Nat) (ts : List Tb) (gs : List Fe) (en : ByteArray) (fl : List Fi) : Prop := ∃ L, Sc1 w0 w B ts gs en fl L
theorem Sc1.keeps {w0 w w' : World} {B : Nat} {ts : List Tb} {gs : List Fe} {en : ByteArray} {fl : List Fi} {L : ScL} (h : Sc1 w0 w B ts gs en fl L) (b : Below w.heap.size w w') : Sc1 w0 w' B ts gs en fl L :=
  { h with blk := h.blk.keeps b, mp := h.mp.keeps b, tab := h.tab.keeps b }
theorem Scp.keeps {w0 w w' : World} {B : Nat} {ts : List Tb} {gs : List Fe} {en : ByteArray} {fl : List Fi} (h : Scp w0 w B ts gs en fl) (b : Below w.heap.size w w') : Scp w0 w' B ts gs en fl := h.imp fun _ h => h.keeps b
theorem Mp.st {w w' : World} {b g : Nat} {vs : List Value} (h : Mp w b vs) (hs : St g w w') (hn : b ≠ g) : Mp w' b vs := (hs.block b hn).trans h
set_option maxRecDepth 100000 in
set_option maxHeartbeats 8000000 in
theorem newScope_any (w0 : World) (cs : Array Value) (ts : List Tb) (gs : List Fe) (en : ByteArray) (t : Tb) (a : Option Addr) (c : Nat) (w : World) (hC : CtV w0 cs ts gs) (hF : Fis w0 a t.fs.length c t.fs) :
    Calls Tryz.prog 46 #[.agg cs, .string en, .agg (tbC t a c)] w fun e w' => ∃ B, e = .returned (.pointer (some ⟨B, 0, none⟩)) ∧ Scp w0 w' B ts gs en t.fs ∧ Below w.heap.size w w' := by
  have hmm := @run_makeMap Tryz.prog
  have hmf : ∀ (fn : Fn) (first cap : Array Value) (w : World), (Instr.makeFunc fn first cap).run Tryz.prog w = .ok (.func fn first cap) w := fun _ _ _ _ => rfl
  obtain ⟨ta, tn, tc, ga, gn, gc, da, dn, dc, pa, pn, pc, rfl, hT, hG⟩ := hC
  have W3 := bw_three w #[.slice ta tn tc, .slice ga gn gc, .slice da dn dc, .slice pa pn pc] #[.string t.nm, .string t.en, .slice a t.fs.length c, .int .i64 t.kp] #[.slice ta tn tc, .slice ga gn gc, .slice da dn dc, .slice pa pn pc, .string en, .nilFunc, .map none] 46 39 107
  have bb := below_three w (.cells #[.slice ta tn tc, .slice ga gn gc, .slice da dn dc, .slice pa pn pc] 46) (.cells #[.string t.nm, .string t.en, .slice a t.fs.length c, .int .i64 t.kp] 39) (.cells #[.slice ta tn tc, .slice ga gn gc, .slice da dn dc, .slice pa pn pc, .string en, .nilFunc, .map none] 107)
  unfold ctC tbC at *
  have HT := Lib.hid hT
  have HG := Lib.hid hG
  have HF := Lib.hid hF
  clear hT hG hF
  replace W3 := Lib.hid W3
  replace bb := Lib.hid bb
  go_enter Tryz.func46, Tryz.ntmps46
  go_upto_region 2 with fail
  have hz := Lib.hid (show (((w.alloc (.cells #[.slice ta tn tc, .slice ga gn gc, .slice da dn dc, .slice pa pn pc] 46)).alloc (.cells #[.string t.nm, .string t.en, .slice a t.fs.length c, .int .i64 t.kp] 39)).alloc (.cells #[.slice ta tn tc, .slice ga gn gc, .slice da dn dc, .slice pa pn pc, .string en, .nilFunc, .map none] 107)).heap.size = w.heap.size + 2 + 1 by simp)
  simp only [Nat.add_assoc, Nat.reduceAdd] at *
  generalize (((w.alloc (.cells #[.slice ta tn tc, .slice ga gn gc, .slice da dn dc, .slice pa pn pc] 46)).alloc (.cells #[.string t.nm, .string t.en, .slice a t.fs.length c, .int .i64 t.kp] 39)).alloc (.cells #[.slice ta tn tc, .slice ga gn gc, .slice da dn dc, .slice pa pn pc, .string en, .nilFunc, .map none] 107)) = wq at *
  have g35 := W3.out.2.2.cell 5
  have z35 := W3.out.2.2.free 5
  simp only [List.getElem?_toArray, List.getElem?_cons_zero, List.getElem?_cons_succ] at g35
  have P4 := W3.out.2.2.setCell 5 (.func (.func 74) #[] #[.pointer (some ⟨w.heap.size + 1, 0, none⟩)])
  have R4 := W3.out.2.1.st P4.2 (by omega)
  have b4 := bb.out.trans (P4.2.below (by omega))
  have hz4 : (wq.setCell ⟨w.heap.size + 2, 5, none⟩ (.func (.func 74) #[] #[.pointer (some ⟨w.heap.size + 1, 0, none⟩)])).heap.size = wq.heap.size := by simp [World.setCell]
  have M0 := Mp.made (wq.setCell ⟨w.heap.size + 2, 5, none⟩ (.func (.func 74) #[] #[.pointer (some ⟨w.heap.size + 1, 0, none⟩)]))
  rw [hz4] at M0
  have GS := Lib.hid (P4.1.past (.map #[] 0))
  have GT := Lib.hid (R4.past (.map #[] 0))
  have BB := Lib.hid (b4.trans ((Below.refl _ _).alloc (by rw [hz4, hz.out]; omega) (.map #[] 0)))
  replace M0 := Lib.hid M0
  replace hz4 := Lib.hid hz4
  clear W3 bb P4 R4 b4
  skip
  go_wp2_with (first | (refine wpList_ins kTypes _ rfl (.tmp 17) (.const _) (.tmp 19) rfl wq.heap.size [] rfl M0.out 1 rfl rfl (tyF 77 (w.heap.size + 2)) rfl ?_; intro w1 M1 S1) | (refine wpList_ins kTypes _ rfl (.tmp 17) (.const _) (.tmp 21) rfl wq.heap.size ((tyL (w.heap.size + 2)).take 1) rfl M1 2 rfl rfl (tyF 78 (w.heap.size + 2)) rfl ?_; intro w2 M2 S2) | (refine wpList_ins kTypes _ rfl (.tmp 17) (.const _) (.tmp 23) rfl wq.heap.size ((tyL (w.heap.size + 2)).take 2) rfl M2 3 rfl rfl (tyF 79 (w.heap.size + 2)) rfl ?_; intro w3 M3 S3) | (refine wpList_ins kTypes _ rfl (.tmp 17) (.const _) (.tmp 25) rfl wq.heap.size ((tyL (w.heap.size + 2)).take 3) rfl M3 4 rfl rfl (tyF 80 (w.heap.size + 2)) rfl ?_; intro w4 M4 S4) | (refine wpList_ins kTypes _ rfl (.tmp 17) (.const _) (.tmp 27) rfl wq.heap.size ((tyL (w.heap.size + 2)).take 4) rfl M4 5 rfl rfl (tyF 81 (w.heap.size + 2)) rfl ?_; intro w5 M5 S5) | (refine wpList_ins kTypes _ rfl (.tmp 17) (.const _) (.tmp 29) rfl wq.heap.size ((tyL (w.heap.size + 2)).take 5) rfl M5 6 rfl rfl (tyF 82 (w.heap.size + 2)) rfl ?_; intro w6 M6 S6) | (refine wpList_ins kTypes _ rfl (.tmp 17) (.const _) (.tmp 31) rfl wq.heap.size ((tyL (w.heap.size + 2)).take 6) rfl M6 7 rfl rfl (tyF 83 (w.heap.size + 2)) rfl ?_; intro w7 M7 S7) | (refine wpList_ins kTypes _ rfl (.tmp 17) (.const _) (.tmp 33) rfl wq.heap.size ((tyL (w.heap.size + 2)).take 7) rfl M7 8 rfl rfl (tyF 84 (w.heap.size + 2)) rfl ?_; intro w8 M8 S8) | (refine wpList_ins kTypes _ rfl (.tmp 17) (.const _) (.tmp 35) rfl wq.heap.size ((tyL (w.heap.size + 2)).take 8) rfl M8 9 rfl rfl (tyF 85 (w.heap.size + 2)) rfl ?_; intro w9 M9 S9; have G9 := GS.out.st S1 (by have := hz.out; omega) |>.st S2 (by have := hz.out; omega) |>.st S3 (by have := hz.out; omega) |>.st S4 (by have := hz.out; omega) |>.st S5 (by have := hz.out; omega) |>.st S6 (by have := hz.out; omega) |>.st S7 (by have := hz.out; omega) |>.st S8 (by have := hz.out; omega) |>.st S9 (by have := hz.out; omega); have z9 := G9.free 6; have g96 := G9.cell 6; simp only [List.setIfInBounds_toArray, List.set_cons_succ, List.set_cons_zero, List.getElem?_toArray, List.getElem?_cons_zero, List.getElem?_cons_succ] at g96))
  go_ret
  have Q9 := G9.setCell 6 (.map (some wq.heap.size))
  have T9 := GT.out.st S1 (by have := hz.out; omega) |>.st S2 (by have := hz.out; omega) |>.st S3 (by have := hz.out; omega) |>.st S4 (by have := hz.out; omega) |>.st S5 (by have := hz.out; omega) |>.st S6 (by have := hz.out; omega) |>.st S7 (by have := hz.out; omega) |>.st S8 (by have := hz.out; omega) |>.st S9 (by have := hz.out; omega)
  have hq : w.heap.size ≤ wq.heap.size := by have := hz.out; omega
  have B9 := BB.out.trans (S1.below hq) |>.trans (S2.below hq) |>.trans (S3.below hq) |>.trans (S4.below hq) |>.trans (S5.below hq) |>.trans (S6.below hq) |>.trans (S7.below hq) |>.trans (S8.below hq) |>.trans (S9.below hq)
  refine ⟨w.heap.size + 2, rfl, ⟨⟨ta, tn, tc, ga, gn, gc, da, dn, dc, pa, pn, pc, w.heap.size + 1, wq.heap.size, t, a, c⟩, ⟨?_, M9.st Q9.2 (by have := hz.out; omega), T9.st Q9.2 (by omega), HF.out, rfl, HT.out, HG.out⟩⟩, B9.trans (Q9.2.below (by omega))⟩
  have := Q9.1
  simpa [ScL.cs, scC] using this
end Go.Proofs.YtbkpjhffmaldmaaGreatDoor.ch
