/-
  parser.Module; The statements' helpers that make expressions; What the sources of the examples are read as; The reference's sameUnit and SameType: of equal ones; The reference's SameExpr: of equal ones; What is parsed is short throughout; The reference's SameModule: of equal ones; Tokens that differ in their offsets alone are read alike; More steps change no answer; what is read depends on the tokens that are read and on the one behind them; A source between parentheses is read as the source; What is parsed as a module is short throughout.
-/
import Derived.BigQuiet
import Derived.Test.YtbpijgddfaefkaaGreatDoorU10
import Derived.Test.YtbpijgddfaefkaaGreatDoorU17
import Derived.Test.YtbpijgddfaefkaaGreatDoorU19
namespace Go.Proofs.YtbpijgddfaefkaaGreatDoor.pa
open Go.RowKit dec

/-- What a whole source is read as: the module, and the problems, not yet sorted. -/
def modR (s : ByteArray) : Option (Mo × List Pb) := modL ((tokL s).length + 1) ⟨[], []⟩ (tokB s) (tokL s)
/-- The value of a module. -/
def Mov (C : Nat) (w : World) (v : Value) (m : Mo) : Prop := ∃ ta tc fa fc, v = .agg #[.slice ta m.ts.length tc, .slice fa m.fs.length fc] ∧ RowAt 85 4 C (TbQ C) w ta m.ts ∧ RowAt 88 18 C (FeQ C) w fa m.fs
def zM : Array Value := #[.slice none 0 0, .slice none 0 0]
/-- The problems as they are handed back. -/
def Pbv (w : World) (u : Value) (b : List Pb) : Prop := ∃ p a c, p.Perm b ∧ pb.WSrt p ∧ u = .slice a (min b.length 32) c ∧ pb.Sl w a (min b.length 32) c (p.take 32)
set_option maxRecDepth 100000 in
theorem slice_32 (a : Option Addr) (n c : Nat) (h : n ≤ c) (W : World) : (Instr.slice 28 (.slice a n c) none (some (.int .i64 (min (n : Int) 32))) none).run Tryz.prog W = .ok (.slice a (min n 32) c) W := by
  have hel : Tryz.prog.elem 28 = 72 := by kernel_rfl
  have h1 := run_slice_h (P := Tryz.prog) (w := W) 28 a n c (by rw [hel]; exact Tryz.underlying28) .i64 (min (n : Int) 32) (by omega) (by omega)
  have e : (min (n : Int) 32).toNat = min n 32 := by omega
  rw [h1, hel, Tryz.sizeOf72, e]
  simp [Result.andThen, sliced]
  intro _
  cases a with
  | none => rfl
  | some x => simp only [Option.map_some, Option.some.injEq]; unfold Addr.add; split <;> simp_all
theorem itmR_len {m m' : Mo} {l r : List Tk} (h : itmR m l = .ok m' r) : m'.ts.length + m'.fs.length = m.ts.length + m.fs.length + 1 := by
  unfold itmR at h
  split at h
  · obtain ⟨t, q, h1, h2⟩ := bind_ok h
    cases h2
    simp
    omega
  · split at h
    · obtain ⟨t, q, h1, h2⟩ := bind_ok h
      cases h2
      simp
      omega
    · cases h
set_option maxRecDepth 100000 in
set_option maxHeartbeats 4000000 in
theorem module_any (a0 : Option Addr) (n0 cap : Nat) (s : ByteArray) (w : World) (hS : Bs w a0 n0 cap s) (T : Tabs w) (he : tokE s = 0) (m9 : Mo) (b9 : List Pb) (hm : modR s = some (m9, b9)) :
    Calls Tryz.prog 7 #[.slice a0 n0 cap] w fun e w' => ∃ v u, e = .returned (.tuple #[v, u, .int .i64 0]) ∧ Mov w.heap.size w' v m9 ∧ Pbv w' u b9 ∧ Below w.heap.size w w' := by
  have bb := balloc (b0 w) (.cells zM 27)
  have R := Lib.hid (Blk.new w 27 zM)
  have TC := Lib.hid (tokens_any a0 n0 cap s _ (hS.keeps bb) (T.stays bb))
  have T0 := Lib.hid T
  have BB := Lib.hid bb
  have HM := Lib.hid hm
  have hz := Lib.hid (tl_tok (tokE_small he))
  clear hS T bb hm
  go_enter Tryz.func7, Tryz.ntmps7
  go_wp2_with fail
  refine TC.out.mono ?_
  rintro e w2 ⟨vt, vb, rfl, Ot, Ob, b2⟩
  have R2 := Lib.hid (R.out.below b2 R.out.lt)
  have B2 := Lib.hid (bnext BB.out b2)
  have hs2 := Lib.hid (show w.heap.size + 1 ≤ w2.heap.size from by have := b2.size; simpa using this)
  rw [show (w.alloc (.cells zM 27)).heap.size = w.heap.size + 1 by simp] at Ot Ob
  obtain ⟨ta, tcap, rfl, St0⟩ := Ot.sl
  replace Ob := Lib.hid Ob
  rw [he]
  have hOt : ∀ b off, ta = some ⟨b, off, none⟩ → w.heap.size + 1 ≤ b ∧ b < w2.heap.size ∧ Tg w2 b 69 := fun b off e => by
    rcases Ot.2 with ⟨h1, _⟩ | ⟨g', cp, cur, h1, hbg, hh, _⟩
    · injection h1 with i1
      rw [i1] at e
      cases e
    · injection h1 with i1
      rw [i1] at e
      cases e
      exact ⟨hbg, heap_lt hh, _, _, hh⟩
  have pc := balloc (balloc (b0 w2) (.cells #[.slice ta (tokL s).length tcap, .int .i64 0] 67)) (.cells #[.pointer (some ⟨w2.heap.size, 0, none⟩)] 65)
  have BP := (Blk.new w2 67 #[.slice ta (tokL s).length tcap, .int .i64 0]).past (.cells #[.pointer (some ⟨w2.heap.size, 0, none⟩)] 65)
  have BQ : Blk ((w2.alloc (.cells #[.slice ta (tokL s).length tcap, .int .i64 0] 67)).alloc (.cells #[.pointer (some ⟨w2.heap.size, 0, none⟩)] 65)) (w2.heap.size + 1) 65 #[.pointer (some ⟨w2.heap.size, 0, none⟩)] := by
    have := Blk.new (w2.alloc (.cells #[.slice ta (tokL s).length tcap, .int .i64 0] 67)) 65 #[.pointer (some ⟨w2.heap.size, 0, none⟩)]
    simpa using this
  have P3 : Ps ((w2.alloc (.cells #[.slice ta (tokL s).length tcap, .int .i64 0] 67)).alloc (.cells #[.pointer (some ⟨w2.heap.size, 0, none⟩)] 65)) w2.heap.size (tokL s) :=
    ⟨⟨ta, (tokL s).length, tcap, tokL s, 0, BP.cell 0, BP.cell 1, BP.free 1, St0.keeps pc, fun b off hb => (hOt b off hb).2.1, rfl⟩, hz.out, ⟨w2, T0.out.stays B2.out, pc, Nat.le_refl _⟩, BP.tg⟩
  have F3 := Lib.hid (show Mf w (w2.heap.size + 2) w2.heap.size w.heap.size ta (tokL s).length tcap ((w2.alloc (.cells #[.slice ta (tokL s).length tcap, .int .i64 0] 67)).alloc (.cells #[.pointer (some ⟨w2.heap.size, 0, none⟩)] 65)) ⟨[], []⟩ (tokL s) from
    ⟨P3, BP.cell 0, fun b off e => by
      obtain ⟨h1, h2, cs, fr, h3⟩ := hOt b off e
      exact ⟨by omega, by omega, cs, fr, (pc.block b h2).trans h3⟩, T0.out, bnext B2.out pc, Nat.le_refl _, by have := hs2.out; omega, by omega, by simp, ⟨.slice none 0 0, .slice none 0 0, [], [], R2.out.below pc R2.out.lt, Rw.nil _ _ _ _, Rw.nil _ _ _ _, Each.nil _ _, Each.nil _ _⟩⟩)
  have O3 := Lib.hid (Ob.out.keeps pc)
  have BQ3 := Lib.hid BQ
  have hlen := Lib.hid (show ([] : List Tb).length + ([] : List Fe).length + (tokL s).length ≤ 1048576 ∧ (tokB s).length + (tokL s).length ≤ 1048608 from by
    have h1 := hz.out.ln
    have h2 : (tokB s).length ≤ 32 := by unfold tokB; split <;> simp [List.length_take]; omega
    exact ⟨by simpa using h1, by omega⟩)
  clear pc BP BQ P3 hOt St0 Ot Ob TC R R2 BB T0
  go_wp2_with fail
  generalize ((w2.alloc (.cells #[.slice ta (tokL s).length tcap, .int .i64 0] 67)).alloc (.cells #[.pointer (some ⟨w2.heap.size, 0, none⟩)] 65)) = w3 at *
  have hmf : ∀ (fn : Fn) (first cap : Array Value) (w : World), (Instr.makeFunc fn first cap).run Tryz.prog w = .ok (.func fn first cap) w := fun _ _ _ _ => rfl
  have F0 := tf0
  go_loopg [3] ((tokL s).length + 1) (fun k v wr => ∃ (m : Mo) (b : List Pb) (l : List Tk), Hid (Mf w (w2.heap.size + 2) w2.heap.size w.heap.size ta (tokL s).length tcap wr m l) ∧ Hid (pb.Own wr (w.heap.size + 1) v b) ∧ Hid (Blk wr (w2.heap.size + 1) 65 #[.pointer (some ⟨w2.heap.size, 0, none⟩)]) ∧ Hid (modL k m b l = some (m9, b9)) ∧ Hid (m.ts.length + m.fs.length + l.length ≤ 1048576 ∧ b.length + l.length ≤ 1048608))
  case atStart => exact ⟨⟨[], []⟩, tokB s, tokL s, F3, O3, BQ3, HM, hlen⟩
  case round =>
    clear F3 O3 BQ3 HM hlen
    obtain ⟨m, b, l, F, O, Q, HM, hlen⟩ := hrel
    rcases gk with _ | gk
    · exact absurd HM.out (by simp [modL])
    have e0 : wr.cell? ⟨w2.heap.size + 1, 0, none⟩ = some (.pointer (some ⟨w2.heap.size, 0, none⟩)) := Q.out.cell 0
    go_wp2_with fail
    refine (now_any w2.heap.size l _ F.out.ps).mono ?_
    rintro e w4 ⟨rfl, b4⟩
    have F4 := Lib.hid (F.out.step (Mv.of b4) (F.out.ps.keeps b4))
    have O4 := Lib.hid (O.out.keeps b4)
    have Q4 := Lib.hid (Q.out.below b4 Q.out.lt)
    clear b4 F O Q e0
    by_cases h6 : (hd l).k = 6
    · have q1 : ((hd l).k != 6) = false := by simp [h6]
      obtain ⟨rfl, rfl⟩ : m = m9 ∧ b = b9 := by simpa [modL, h6] using HM.out
      clear h6 HM
      generalize hd l = x at *
      go_wp2_with fail
      refine (pb.sort_any (w.heap.size + 1) _ b w4 O4.out (by have := hlen.out; omega)).mono ?_
      rintro e w5 ⟨rfl, a5, c5, p, rfl, hp, hs, S5, g5, hT5⟩
      have F5 := F4.out.kp (pb_grow O4.out g5) ((Below.refl w.heap.size w4).grown g5 F4.out.bel.size (fun k hk => by have := (hT5 k hk).2; omega))
      obtain ⟨tv, fv, ct, cf, bM, r1, r2, e1, e2⟩ := F5.mm.ex
      obtain ⟨ra, rc, rfl, RA⟩ := r1.row e1.1 e1.2
      obtain ⟨fa, fc, rfl, FA⟩ := r2.row e2.1 e2.2
      have hne : ∀ x, a5 = some x → x.block ≠ w.heap.size := fun x hx => by
        subst hx
        have := (hT5 x.block rfl).2
        omega
      have sl := slice_32 a5 b.length c5 S5.hcap
      have hbel := Lib.hid F5.bel
      have hbase := Lib.hid (show w.heap.size < w2.heap.size + 2 from by have := hs2.out; omega)
      replace RA := Lib.hid RA
      replace FA := Lib.hid FA
      replace S5 := Lib.hid S5
      replace hne := Lib.hid hne
      clear r1 r2 e1 e2 F5 g5 hT5 F4 O4 Q4
      go_wp2_with fail
      refine wp_region_held_drew (S := fun w' => Blk w' w.heap.size 27 #[.slice ra m.ts.length rc, .slice fa m.fs.length fc]) (by kernel_rfl) bM (fun hH => ?_)
      refine held_take (i := 0) (d := 38) (v := .agg #[.slice ra m.ts.length rc, .slice fa m.fs.length fc]) rfl (by kernel_rfl) (by kernel_rfl) (by kernel_rfl) rfl (fun _ _ _ h => h) rfl hH (fun w' hS => yield_load infMo Tryz.underlying27 rfl (.tmp 2) rfl _ _ _ rfl hS rfl) ?_
      simp only [List.set_cons_zero, List.set_cons_succ]
      refine held_take (i := 1) (d := 39) (v := ?_) rfl (by kernel_rfl) (by kernel_rfl) (by kernel_rfl) rfl (fun _ _ _ h => h) rfl hH (fun w' hS => ?_) ?_
      rotate_left
      · go_simp; first | done | with_reducible rfl
      simp only [List.set_cons_zero, List.set_cons_succ]
      refine held_take (i := 2) (d := 40) (v := ?_) rfl (by kernel_rfl) (by kernel_rfl) (by kernel_rfl) rfl (fun _ _ _ h => h) rfl hH (fun w' hS => ?_) ?_
      rotate_left
      · go_simp; first | done | with_reducible rfl
      simp only [List.set_cons_zero, List.set_cons_succ]
      refine held_take (i := 3) (d := 41) (v := ?_) rfl (by kernel_rfl) (by kernel_rfl) (by kernel_rfl) rfl (fun _ _ _ h => h) rfl hH (fun w' hS => ?_) ?_
      rotate_left
      · go_simp; first | done | with_reducible rfl
      simp only [List.set_cons_zero, List.set_cons_succ]
      refine held_take (i := 4) (d := 42) (v := ?_) rfl (by kernel_rfl) (by kernel_rfl) (by kernel_rfl) rfl (fun _ _ _ h => h) rfl hH (fun w' hS => ?_) ?_
      rotate_left
      · go_simp; first | done | with_reducible rfl
      simp only [List.set_cons_zero, List.set_cons_succ]
      refine held_take (i := 5) (d := 43) (v := ?_) rfl (by kernel_rfl) (by kernel_rfl) (by kernel_rfl) rfl (fun _ _ _ h => h) rfl hH (fun w' hS => ?_) ?_
      rotate_left
      · go_simp; first | done | with_reducible rfl
      simp only [List.set_cons_zero, List.set_cons_succ]
      refine held_only (i := 6) rfl (by kernel_rfl) rfl (fun K hK => ?_)
      refine op_storeT infMo (.tmp 2) (.tmp 38) rfl _ _ _ _ rfl rfl hH rfl rfl (by simp [Value.oneCell']) ?_
      intro w9 hb9 hs9
      refine hK.out _ _ hb9 (fun hH => ?_)
      clear hK K
      simp only [Act.put]
      refine held_take (i := 7) (d := 3) (v := ?_) rfl (by kernel_rfl) (by kernel_rfl) (by kernel_rfl) rfl (fun _ _ _ h => h) rfl hH (fun w' hS => ?_) ?_
      rotate_left
      · go_simp; first | done | with_reducible rfl
      simp only [List.set_cons_zero, List.set_cons_succ]
      refine held_take (i := 8) (d := 4) (v := ?_) rfl (by kernel_rfl) (by kernel_rfl) (by kernel_rfl) rfl (fun _ _ _ h => h) rfl hH (fun w' hS => ?_) ?_
      rotate_left
      · go_simp; first | done | with_reducible rfl
      simp only [List.set_cons_zero, List.set_cons_succ]
      refine wpAnyH_done (by kernel_rfl) ?_ _
      go_wp2_with fail
      have K9 : Kp (w2.heap.size + 2) w5 w9 := hs9.kp hbase.out
      refine ret_T3 infMo Tryz.underlying27 rfl rfl _ _ _ _ _ rfl hb9 rfl ?_
      refine ⟨_, _, rfl, ⟨ra, rc, fa, fc, rfl, (RA.out.kpT trivial K9 fun c x hq => TbQ.kpT trivial trivial hq K9).less (Nat.le_of_lt hbase.out) fun c x hq => hq.less (Nat.le_of_lt hbase.out), (FA.out.kpT trivial K9 fun c x hq => FeQ.kpT trivial trivial hq K9).less (Nat.le_of_lt hbase.out) fun c x hq => hq.less (Nat.le_of_lt hbase.out)⟩, ⟨p, a5, c5, hp, hs, rfl, ?_, ?_, ?_, S5.out.hmax, S5.out.hno⟩, hbel.out.drew.trans (hs9.below (Nat.le_refl _))⟩
      · rcases S5.out.hat with h0 | ⟨bk, off, ea, hC⟩
        · exact .inl (by rw [List.length_take]; omega)
        · refine .inr ⟨bk, off, ea, fun j hj => ?_⟩
          have hbk := hs9.block bk (hne.out _ ea)
          have := hC.take 32 j hj
          exact ⟨(World.cell?_of_block (w := w5.drew) hbk).trans this.1, (World.cell?_of_block (w := w5.drew) hbk).trans this.2⟩
      · rw [List.length_take, S5.out.hn]
        omega
      · have := S5.out.hcap
        omega
    · have q1 : ((hd l).k != 6) = true := by simp [h6]
      have HM2 := HM.out
      rw [modL, if_neg h6] at HM2
      have H6 := Lib.hid h6
      clear h6 HM
      generalize hx : hd l = x at *
      replace hx := Lib.hid hx
      have Bg : Tg w4 w.heap.size 27 := by
        obtain ⟨tv, fv, ct, cf, bM, _⟩ := F4.out.mm.ex
        exact bM.tg
      replace Bg := Lib.hid Bg
      rcases hG : itmR m l with _ | ⟨m', l2⟩ | ⟨a, c, l2⟩
      · exact absurd hG (itmR_ne m l)
      · rw [hG] at HM2
        replace HM2 := Lib.hid HM2
        have h1 := Lib.hid (itmR_lt hG)
        have h2 := Lib.hid (itmR_len hG)
        have GG := Lib.hid hG
        clear hG
        go_wp2_with fail
        refine (att_ok (w2.heap.size + 1) F4.out (by have := hlen.out; omega) (by have := hlen.out; omega) Q4.out GG.out).mono ?_
        rintro e w5 ⟨rfl, F5, Q5⟩
        have O5 := Lib.hid (pb_mq O4.out Q5 F4.out.ps.tag Bg.out)
        have P5 := Lib.hid (show Blk w5 (w2.heap.size + 1) 65 #[.pointer (some ⟨w2.heap.size, 0, none⟩)] from (Q5.block _ _ _ _ Q4.out (by omega) (by have := hs2.out; omega) (by decide) (by decide)).trans Q4.out)
        replace F5 := Lib.hid F5
        clear Q5 F4 O4 Q4 Bg
        go_wp2_with (refine arm_storeT infPr (.tmp 7) (.tmp 26) rfl rfl _ _ _ _ rfl rfl (Blk.new _ _ _) rfl rfl (by simp [Value.oneCell']) ?_; intro w6 L hs; have c1 : w6.cell? ⟨w5.heap.size, 1, none⟩ = some (.int .i64 0) := L.cell 1)
        have bb := (balloc (b0 w5) (.cells #[.int .i64 0, .int .i64 0] 72)).trans (hs.below (Nat.le_refl _))
        go_roundg gk
        case measure => omega
        case rel => exact ⟨m', b, l2, Lib.hid (F5.out.step (Mv.of bb) (F5.out.ps.keeps bb)), Lib.hid (O5.out.keeps bb), Lib.hid (P5.out.below bb P5.out.lt), HM2, Lib.hid (by have := hlen.out; have := h1.out; have := h2.out; omega)⟩
      · rw [hG] at HM2
        replace HM2 := Lib.hid HM2
        have h1 := Lib.hid (lvR_no hG (by rw [hx.out]; exact H6.out))
        have q2 : (c != 0) = true := by simp [itmR_nz hG]
        have GG := Lib.hid hG
        clear hG
        go_wp2_with fail
        refine (att_no (w2.heap.size + 1) F4.out (by have := hlen.out; omega) (by have := hlen.out; omega) Q4.out GG.out).mono ?_
        rintro e w5 ⟨rfl, F5, Q5⟩
        have O5 := Lib.hid (pb_mq O4.out Q5 F4.out.ps.tag Bg.out)
        have P5 := Lib.hid (show Blk w5 (w2.heap.size + 1) 65 #[.pointer (some ⟨w2.heap.size, 0, none⟩)] from (Q5.block _ _ _ _ Q4.out (by omega) (by have := hs2.out; omega) (by decide) (by decide)).trans Q4.out)
        replace F5 := Lib.hid F5
        clear Q5 F4 O4 Q4 Bg
        have hb1 := Lib.hid (show b.length < 8796093022208 from by have := hlen.out; omega)
        have hww := Lib.hid (show w.heap.size + 1 ≤ w5.heap.size from by have := F5.out.h4; have := F5.out.h2; omega)
        go_wp2_with (first | (refine arm_loadT infPr Tryz.underlying72 rfl (.tmp 7) rfl rfl _ _ _ rfl L rfl ?_) | (refine arm_storeT infPr (.tmp 7) (.tmp 26) rfl rfl _ _ _ _ rfl rfl (Blk.new _ _ _) rfl rfl (by simp [Value.oneCell']) ?_; intro w6 L hs; have c1 : w6.cell? ⟨w5.heap.size, 1, none⟩ = some (.int .i64 c) := L.cell 1; have bb := (balloc (b0 w5) (.cells #[.int .i64 0, .int .i64 0] 72)).trans (hs.below (Nat.le_refl _))) | (at_builtin; refine pb.is_app (.tmp 30) (.tmp 32) rfl ?_; refine pb.wpList_push _ rfl (.tmp 30) (.tmp 32) rfl (w.heap.size + 1) _ b rfl (O5.out.keeps (balloc bb _)) w6.heap.size (a, c) rfl (pb.Bw.new _ (a, c) _) hb1.out (by have := hww.out; have := bb.size; simp; omega) ?_; intro v7 w7 O7 b7 g7; have b6 := balloc bb (.cells #[.int .i64 a, .int .i64 c] 72); have K7 := pb_grow (O5.out.keeps b6) g7; have P7 := (K7 _ _ _ _ (Nat.zero_le _) (by decide) (P5.out.below b6 P5.out.lt)).trans (P5.out.below b6 P5.out.lt); have F7 := Lib.hid ((F5.out.step (Mv.of b6) (F5.out.ps.keeps b6)).kp K7 (b7.mono (by omega))); have e7 : w7.cell? ⟨w2.heap.size + 1, 0, none⟩ = some (.pointer (some ⟨w2.heap.size, 0, none⟩)) := Blk.cell P7 0; replace P7 := Lib.hid P7; replace O7 := Lib.hid O7; clear K7 b6 b7 g7))
        refine (leave_any w2.heap.size l2 w7 F7.out.ps).mono ?_
        rintro e w8 ⟨rfl, P8, M8⟩
        have F8 := Lib.hid (F7.out.step M8 P8)
        have Bg : Tg w7 w.heap.size 27 := by
          obtain ⟨tv, fv, ct, cf, bM, _⟩ := F7.out.mm.ex
          exact bM.tg
        have O8 := Lib.hid (pb_mq O7.out (Mq.mv (g := w.heap.size) M8) F7.out.ps.tag Bg)
        have Q8 := Lib.hid (show Blk w8 (w2.heap.size + 1) 65 #[.pointer (some ⟨w2.heap.size, 0, none⟩)] from Blk.mv P7.out M8 (by omega) (Blk.lt P7.out))
        clear P8 M8 F7 O7 P7 Bg e7
        go_wp2_with fail
        go_roundg gk
        case measure => omega
        case rel => exact ⟨m, b ++ [(a, c)], lvR l2, F8, O8, Q8, HM2, Lib.hid (by have := hlen.out; have := h1.out; rw [List.length_append, List.length_singleton]; omega)⟩
end Go.Proofs.YtbpijgddfaefkaaGreatDoor.pa
namespace Go.Proofs.YtbpijgddfaefkaaGreatDoor.pa
open Go.RowKit dec

theorem yes_any (w : World) : Calls Tryz.prog 40 #[] w fun e w' => e = .returned (.agg (exC (booE 1) none 0 none 0)) ∧ Below w.heap.size w w' := by
  go_enter Tryz.func40, Tryz.ntmps40
  go_wp2_with fail
  refine ret_expr rfl _ _ w.heap.size _ _ rfl (Blk.new w _ _) rfl ?_
  exact ⟨rfl, balloc (b0 w) _⟩
theorem use_any (s : ByteArray) (w : World) : Calls Tryz.prog 39 #[.string s] w fun e w' => e = .returned (.agg (exC (feaE s) none 0 none 0)) ∧ Below w.heap.size w w' := by
  go_enter Tryz.func39, Tryz.ntmps39
  go_wp2_with fail
  refine ret_expr rfl _ _ w.heap.size _ _ rfl (Blk.new w _ _) rfl ?_
  exact ⟨rfl, balloc (b0 w) _⟩
theorem whole_any (n : Int) (w : World) : Calls Tryz.prog 42 #[.int .i64 n] w fun e w' => e = .returned (.agg (exC (litE 2 n []) none 0 none 0)) ∧ Below w.heap.size w w' := by
  go_enter Tryz.func42, Tryz.ntmps42
  go_wp2_with fail
  refine ret_expr rfl _ _ w.heap.size _ _ rfl (Blk.new w _ _) rfl ?_
  exact ⟨rfl, balloc (b0 w) _⟩
def twoE (op : ByteArray) (x y : Ex) : Ex := ⟨{ h0 with k := 7, op := op }, .cons x.h x.ar (.cons y.h y.ar .nil)⟩
set_option maxRecDepth 100000 in
set_option maxHeartbeats 1000000 in
theorem two_any (op : ByteArray) (x : Ex) (uax : Option Addr) (ucx : Nat) (aax : Option Addr) (acx : Nat) (y : Ex) (uay : Option Addr) (ucy : Nat) (aay : Option Addr) (acy : Nat) (C : Nat) (w : World) (E : Ec C w x uax aax) (E2 : Ec C w y uay aay) (hC : C ≤ w.heap.size) :
    Calls Tryz.prog 41 #[.string op, .agg (exC x uax ucx aax acx), .agg (exC y uay ucy aay acy)] w fun e w' =>
    ∃ aa ac, e = .returned (.agg (exC (twoE op x y) none 0 aa ac)) ∧ Ec C w' (twoE op x y) none aa ∧ Below w.heap.size w w' := by
  have EH := Lib.hid E
  have EH2 := Lib.hid E2
  clear E E2
  unfold twoE
  unfold exC
  go_enter Tryz.func41, Tryz.ntmps41
  go_wp2_with fail
  refine ret_expr rfl _ _ (w.heap.size + 2) _ _ rfl (by have := (Blk.new ((w.alloc (.cells (ex1 x uax ucx aax acx) 43)).alloc (.cells (ex1 y uay ucy aay acy) 43)) 43 (exC ⟨{ h0 with k := 7, op := op }, .cons x.h x.ar (.cons y.h y.ar .nil)⟩ none 0 (some ⟨w.heap.size + 3, 0, none⟩) 2)).past (.cells (ex2 x uax ucx aax acx y uay ucy aay acy) 43); rw [show ((w.alloc (.cells (ex1 x uax ucx aax acx) 43)).alloc (.cells (ex1 y uay ucy aay acy) 43)).heap.size = w.heap.size + 2 by simp] at this; exact this) rfl ?_
  refine ⟨some ⟨w.heap.size + 3, 0, none⟩, 2, rfl, ⟨.inl rfl, ?_⟩, balloc (balloc (balloc (balloc (b0 w) _) _) _) _⟩
  have hB := Blk.new (((w.alloc (.cells (ex1 x uax ucx aax acx) 43)).alloc (.cells (ex1 y uay ucy aay acy) 43)).alloc (.cells (exC ⟨{ h0 with k := 7, op := op }, .cons x.h x.ar (.cons y.h y.ar .nil)⟩ none 0 (some ⟨w.heap.size + 3, 0, none⟩) 2) 43)) 43 (ex2 x uax ucx aax acx y uay ucy aay acy)
  rw [show (((w.alloc (.cells (ex1 x uax ucx aax acx) 43)).alloc (.cells (ex1 y uay ucy aay acy) 43)).alloc (.cells (exC ⟨{ h0 with k := 7, op := op }, .cons x.h x.ar (.cons y.h y.ar .nil)⟩ none 0 (some ⟨w.heap.size + 3, 0, none⟩) 2) 43)).heap.size = w.heap.size + 3 by simp] at hB
  have hk := kp_of (C := C) (balloc (balloc (balloc (balloc (b0 w) (.cells (ex1 x uax ucx aax acx) 43)) (.cells (ex1 y uay ucy aay acy) 43)) (.cells (exC ⟨{ h0 with k := 7, op := op }, .cons x.h x.ar (.cons y.h y.ar .nil)⟩ none 0 (some ⟨w.heap.size + 3, 0, none⟩) 2) 43)) (.cells (ex2 x uax ucx aax acx y uay ucy aay acy) 43))
  exact as_2 hB (EH.out.kp hk) (EH2.out.kp hk) (by omega)
end Go.Proofs.YtbpijgddfaefkaaGreatDoor.pa
namespace Go.Proofs.YtbpijgddfaefkaaGreatDoor.pa
open Go.RowKit dec

def eS1 : ByteArray := ⟨#[49, 32, 43, 32, 50, 32, 42, 32, 97]⟩
def eS2 : ByteArray := ⟨#[97, 32, 100, 101, 102, 97, 117, 108, 116, 32, 98, 32, 100, 101, 102, 97, 117, 108, 116, 32, 49, 46, 53]⟩
def eS3 : ByteArray := ⟨#[99, 111, 117, 110, 116, 40, 116, 44, 32, 97, 108, 108, 32, 119, 104, 101, 114, 101, 32, 120, 41]⟩
def eS4 : ByteArray := ⟨#[97, 32, 60, 32, 98, 32, 60, 32, 99]⟩
def eS5 : ByteArray := ⟨#[99, 111, 117, 110, 116, 40, 116, 44, 32, 97, 108, 108]⟩
def eS6 : ByteArray := ⟨#[49, 32, 91, 109, 94, 57, 93]⟩
def eS7 : ByteArray := ⟨#[100, 101, 99, 32, 91, 101, 117, 114, 32, 42, 32, 104, 94, 45, 49, 93]⟩
def eS8 : ByteArray := ⟨#[116, 97, 98, 108, 101, 32, 116, 32, 111, 102, 32, 117, 32, 123, 32, 110, 58, 32, 105, 110, 116, 32, 125, 59, 32, 116, 97, 98, 108, 101, 32, 120, 32, 111, 102, 59, 32, 102, 101, 97, 116, 117, 114, 101, 32, 102, 32, 111, 102, 32, 117, 58, 32, 105, 110, 116, 32, 61, 32, 49, 59]⟩
def eX1 : Ex := twoE ⟨#[43]⟩ (litE 2 1 []) (twoE ⟨#[42]⟩ (litE 2 2 []) (feaE ⟨#[97]⟩))
def eXi : Ex := ⟨{ h0 with k := 9 }, .cons (feaE ⟨#[97]⟩).h (feaE ⟨#[97]⟩).ar (.cons (feaE ⟨#[98]⟩).h (feaE ⟨#[98]⟩).ar .nil)⟩
def eXh : Ex := litE 3 1500000 []
def eX2 : Ex := ⟨{ h0 with k := 9 }, .cons eXi.h eXi.ar (.cons eXh.h eXh.ar .nil)⟩
def eX3 : Ex := ⟨{ h0 with k := 5, op := ⟨#[99, 111, 117, 110, 116]⟩, tb := ⟨#[116]⟩, wk := 1 }, .cons (booE 1).h (booE 1).ar (.cons (fieE ⟨#[120]⟩).h (fieE ⟨#[120]⟩).ar .nil)⟩
def zX : Ex := ⟨h0, .nil⟩
def eT7 : Ty := ⟨3, [(⟨#[101, 117, 114]⟩, 1), (⟨#[104]⟩, -1)], .empty⟩
def eM8 : Mo := ⟨[⟨⟨#[116]⟩, ⟨#[117]⟩, [⟨⟨#[110]⟩, ⟨2, [], .empty⟩⟩], 0⟩], [⟨⟨#[102]⟩, ⟨#[117]⟩, ⟨2, [], .empty⟩, litE 2 1 []⟩]⟩
theorem ev1 : topR (α := Ex) ⟨h0, .nil⟩ exR eS1 = (eX1, 0, 0) := by kernel_rfl
theorem ev2 : topR (α := Ex) ⟨h0, .nil⟩ exR eS2 = (eX2, 0, 0) := by kernel_rfl
theorem ev3 : topR (α := Ex) ⟨h0, .nil⟩ exR eS3 = (eX3, 0, 0) := by kernel_rfl
theorem ev4 : topR (α := Ex) ⟨h0, .nil⟩ exR eS4 = (zX, 6, 90) := by kernel_rfl
theorem ev5 : topR (α := Ex) ⟨h0, .nil⟩ exR eS5 = (zX, 12, 90) := by kernel_rfl
theorem ev6 : topR (α := Ex) ⟨h0, .nil⟩ exR eS6 = (zX, 2, 70) := by kernel_rfl
theorem ev7 : topR (α := Ty) ⟨0, [], .empty⟩ typ eS7 = (eT7, 0, 0) := by kernel_rfl
theorem ev8 : modR eS8 = some (eM8, [(35, 90)]) := by kernel_rfl
theorem ek8 : tokE eS8 = 0 := by kernel_rfl
end Go.Proofs.YtbpijgddfaefkaaGreatDoor.pa
namespace Go.Proofs.YtbpijgddfaefkaaGreatDoor.pa
open Go.RowKit dec

set_option maxRecDepth 100000 in
set_option maxHeartbeats 1000000 in
theorem sameU_any (C D : Nat) (l : List un.Fa) (ua ub : Option Addr) (uc ud : Nat) (w : World) (hA : Us C w ua l) (hB : Us D w ub l) (hn : l.length ≤ 1048576) :
    Calls Tryz.prog 53 #[.slice ua l.length uc, .slice ub l.length ud] w (Say (.bool true) w) := by
  have h1 := Lib.hid hA
  have h2 := Lib.hid hB
  have hN := Lib.hid hn
  clear hA hB hn
  have qn : ((l.length : Int) != (l.length : Int)) = false := by simp
  go_enter Tryz.func53, Tryz.ntmps53
  go_wp2_with fail
  go_loopw [5] (fun i wr => ∃ j : Nat, i = .int .i64 (j : Nat) ∧ Hid (j ≤ l.length) ∧ Below w.heap.size w wr) (fun i _ => l.length - (intOf i).toNat)
  case atStart => exact ⟨0, rfl, Lib.hid (Nat.zero_le _), b0 w⟩
  case round =>
    obtain ⟨j, rfl, hj, hb⟩ := hrel
    by_cases hlt : j < l.length
    · have q1 : decide ((j : Int) < (l.length : Int)) = true := decide_eq_true (by omega)
      obtain ⟨bk, off, rfl, _, hC, _⟩ := (h1.out.kp (kp_of hb)).resolve_left (by omega)
      obtain ⟨bk2, off2, rfl, _, hD, _⟩ := (h2.out.kp (kp_of hb)).resolve_left (by omega)
      obtain ⟨c0, c1⟩ := hC j (by omega)
      obtain ⟨d0, d1⟩ := hD j (by omega)
      have f4 := Lib.hid (next_at (j := j) (by have := hN.out; omega))
      have hbh := Lib.hid hb
      have i1 : (j : Int) < (l.length : Int) := by omega
      clear hC hD h1 h2 hj hb
      generalize un.gt l j = x at *
      go_wp2_with fail
      go_region
      go_wp2_with fail
      refine ⟨⟨j + 1, congrArg (Value.int .i64) f4.out, Lib.hid hlt, hbh.out.drew⟩, less_at hlt f4.out⟩
    · have q1 : decide ((j : Int) < (l.length : Int)) = false := decide_eq_false (by omega)
      have hbh := Lib.hid hb
      clear h1 h2 hj hb
      go_wp2_with fail
      go_ret
      exact ⟨rfl, hbh.out⟩
set_option maxRecDepth 100000 in
set_option maxHeartbeats 1000000 in
theorem sameT_any (C D : Nat) (t : Ty) (ua ub : Option Addr) (uc ud : Nat) (w : World) (hA : Us C w ua t.un) (hB : Us D w ub t.un) (hn : t.un.length ≤ 1048576) :
    Calls Tryz.prog 17 #[.agg (tyC t ua uc), .agg (tyC t ub ud)] w (Say (.bool true) w) := by
  have bb := balloc (balloc (b0 w) (.cells (tyC t ua uc) 47)) (.cells (tyC t ub ud) 47)
  have C1 := Lib.hid (sameU_any C D t.un ua ub uc ud _ (hA.kp (kp_of bb)) (hB.kp (kp_of bb)) hn)
  have BB := Lib.hid bb
  clear hA hB bb hn
  unfold tyC at *
  obtain ⟨tk, tu, tof⟩ := t
  simp only at C1 BB ⊢
  go_enter Tryz.func17, Tryz.ntmps17
  go_wp2_with fail
  refine C1.out.mono ?_
  rintro e w1 ⟨rfl, b1⟩
  have B1 := Lib.hid (bnext BB.out b1)
  clear b1
  go_wp2_with fail
  go_ret
  exact ⟨rfl, B1.out⟩
end Go.Proofs.YtbpijgddfaefkaaGreatDoor.pa
namespace Go.Proofs.YtbpijgddfaefkaaGreatDoor
open Go.RowKit dec

/-- Short lists throughout. -/
def Fo.sm : Fo → Prop
  | .nil => True
  | .cons h ar r => h.un.length ≤ 1048576 ∧ ar.len ≤ 1048576 ∧ ar.sm ∧ r.sm
/-- An expression of a row. -/
def Fo.nth : Fo → Nat → Ex
  | .nil, _ => ⟨h0, .nil⟩
  | .cons h ar _, 0 => ⟨h, ar⟩
  | .cons _ _ r, j + 1 => r.nth j
def Fo.sz : Fo → Nat
  | .nil => 0
  | .cons _ ar r => ar.sz + r.sz + 1
theorem nth_sz : ∀ (F : Fo) (j : Nat), j < F.len → (F.nth j).ar.sz < F.sz
  | .nil, _, h => absurd h (Nat.not_lt_zero _)
  | .cons h ar r, 0, _ => by
    simp only [Fo.nth, Fo.sz]
    omega
  | .cons h ar r, j + 1, hj => by
    have := nth_sz r j (by simpa [Fo.len] using hj)
    simp only [Fo.nth, Fo.sz]
    omega
theorem nth_sm : ∀ (F : Fo) (j : Nat), F.sm → j < F.len → (F.nth j).h.un.length ≤ 1048576 ∧ (F.nth j).ar.len ≤ 1048576 ∧ (F.nth j).ar.sm
  | .nil, _, _, h => absurd h (Nat.not_lt_zero _)
  | .cons h ar r, 0, hs, _ => ⟨hs.1, hs.2.1, hs.2.2.1⟩
  | .cons h ar r, j + 1, hs, hj => nth_sm r j hs.2.2.2 (by simpa [Fo.len] using hj)
theorem fm_at {C : Nat} {w : World} : ∀ (F : Fo) (b off j : Nat), Fm C w F b off → j < F.len → ∃ ua uc aa ac, Nd w b (off + j * 12) (F.nth j).h ua uc aa (F.nth j).ar.len ac ∧ Ec C w (F.nth j) ua aa
  | .nil, _, _, _, _, h => absurd h (Nat.not_lt_zero _)
  | .cons h ar r, b, off, 0, hF, _ => by
    obtain ⟨⟨ua, uc, aa, ac, N, U, A⟩, R⟩ := hF
    exact ⟨ua, uc, aa, ac, by simpa [Fo.nth] using N, U, A⟩
  | .cons h ar r, b, off, j + 1, hF, hj => by
    have := fm_at r b (off + 12) j hF.2 (by simpa [Fo.len] using hj)
    rw [show off + (j + 1) * 12 = off + 12 + j * 12 by omega]
    exact this
theorem nd_range {w : World} {b off : Nat} {x : Ex} {ua : Option Addr} {uc : Nat} {aa : Option Addr} {ac : Nat} (N : Nd w b off x.h ua uc aa x.ar.len ac) : w.rangeAt b off (exC x ua uc aa ac).toList := by
  intro j v hv
  have hj : j < 12 := by
    have := (List.getElem?_eq_some_iff.1 hv).1
    simpa [exC] using this
  match j, hj with
  | 0, _ => simp [exC] at hv; rw [← hv]; exact N.c0
  | 1, _ => simp [exC] at hv; rw [← hv]; exact N.c1
  | 2, _ => simp [exC] at hv; rw [← hv]; exact N.c2
  | 3, _ => simp [exC] at hv; rw [← hv]; exact N.c3
  | 4, _ => simp [exC] at hv; rw [← hv]; exact N.c4
  | 5, _ => simp [exC] at hv; rw [← hv]; exact N.c5
  | 6, _ => simp [exC] at hv; rw [← hv]; exact N.c6
  | 7, _ => simp [exC] at hv; rw [← hv]; exact N.c7
  | 8, _ => simp [exC] at hv; rw [← hv]; exact N.c8
  | 9, _ => simp [exC] at hv; rw [← hv]; exact N.c9
  | 10, _ => simp [exC] at hv; rw [← hv]; exact N.c10
  | 11, _ => simp [exC] at hv; rw [← hv]; exact N.c11
end Go.Proofs.YtbpijgddfaefkaaGreatDoor
namespace Go.Proofs.YtbpijgddfaefkaaGreatDoor.pa
open Go.RowKit dec
theorem yield_loadM {T : TypeId} {n : Nat} {d : TypeDesc} (hi : (Tryz.prog.info? T).map (·.size) = some n) (hu : Tryz.prog.underlying T = some d) (hd : d.isRow = true) {oi : Oper} {a : Act} {w : World} (x : Operand) (ho : oi.op = .load T x)
    (b o : Nat) (cells : Array Value) (hx : a.eval x = .pointer (some ⟨b, o, none⟩)) (hR : w.rangeAt b o cells.toList) (hc : cells.size = n) : (execOp a.eval oi).run Tryz.prog w = .ok (.value (.agg cells)) w := by
  unfold execOp
  have := run_loadVar_mid (P := Tryz.prog) w b o T cells.toList d hR hu hd (by rw [Array.length_toList, hc]; exact hi)
  simp only [ho, hx, Instr.loadAt, Instr.sureAddr, Sem.run_bind, Sem.run_pure, Result.andThen_ok, this, Array.toArray_toList]
theorem range_keeps {w w' : World} {b o : Nat} {cs : List Value} (h : w.rangeAt b o cs) (hb : Below w.heap.size w w') : w'.rangeAt b o cs := fun j v hv => dec.keeps hb (h j v hv)
set_option maxRecDepth 100000 in
set_option maxHeartbeats 4000000 in
theorem sameE_step (n : Nat) (IH : ∀ (C D : Nat) (x : Ex) (ua aa ub ab : Option Addr) (uc ac ud ad : Nat) (w : World), x.ar.sz < n → x.h.un.length ≤ 1048576 → x.ar.len ≤ 1048576 → x.ar.sm → Ec C w x ua aa → Ec D w x ub ab → Calls Tryz.prog 16 #[.agg (exC x ua uc aa ac), .agg (exC x ub ud ab ad)] w (Say (.bool true) w))
    (C D : Nat) (x : Ex) (ua aa ub ab : Option Addr) (uc ac ud ad : Nat) (w : World) (hz : x.ar.sz = n) (hu : x.h.un.length ≤ 1048576) (hl : x.ar.len ≤ 1048576) (hs : x.ar.sm) (hA : Ec C w x ua aa) (hB : Ec D w x ub ab) :
    Calls Tryz.prog 16 #[.agg (exC x ua uc aa ac), .agg (exC x ub ud ab ad)] w (Say (.bool true) w) := by
  have bb := balloc (balloc (b0 w) (.cells (exC x ua uc aa ac) 43)) (.cells (exC x ub ud ab ad) 43)
  have A1 := Lib.hid hA
  have A2 := Lib.hid hB
  have C1 := Lib.hid (sameU_any C D x.h.un ua ub uc ud _ (hA.us.kp (kp_of bb)) (hB.us.kp (kp_of bb)) hu)
  have BB := Lib.hid bb
  have G1 := Lib.hid ((Blk.new w 43 (exC x ua uc aa ac)).past (.cells (exC x ub ud ab ad) 43))
  have G2 := Lib.hid (by have := Blk.new (w.alloc (.cells (exC x ua uc aa ac) 43)) 43 (exC x ub ud ab ad); simpa using this : Blk ((w.alloc (.cells (exC x ua uc aa ac) 43)).alloc (.cells (exC x ub ud ab ad) 43)) (w.heap.size + 1) 43 (exC x ub ud ab ad))
  have IH' := Lib.hid IH
  have HZ := Lib.hid hz
  have HL := Lib.hid hl
  have HS := Lib.hid hs
  clear hA hB bb hu hl hs hz IH
  unfold exC at *
  go_enter Tryz.func16, Tryz.ntmps16
  go_wp2_with fail
  refine C1.out.mono ?_
  rintro e w1 ⟨rfl, b1⟩
  have B1 := Lib.hid (bnext BB.out b1)
  replace G1 := Lib.hid (G1.out.below b1 G1.out.lt)
  replace G2 := Lib.hid (G2.out.below b1 G2.out.lt)
  clear b1 BB C1
  go_wp2_with fail
  go_loopw [5] (fun i wr => ∃ j : Nat, i = .int .i64 (j : Nat) ∧ Hid (j ≤ x.ar.len) ∧ Hid (Blk wr w.heap.size 43 #[.int .i64 x.h.k, .string x.h.op, .string x.h.nm, .string x.h.tb, .int .i64 x.h.vk, .int .i64 x.h.vn, .string x.h.vs, .slice ua x.h.un.length uc, .int .i64 x.h.pa, .int .i64 x.h.wk, .int .i64 x.h.ws, .slice aa x.ar.len ac]) ∧ Hid (Blk wr (w.heap.size + 1) 43 #[.int .i64 x.h.k, .string x.h.op, .string x.h.nm, .string x.h.tb, .int .i64 x.h.vk, .int .i64 x.h.vn, .string x.h.vs, .slice ub x.h.un.length ud, .int .i64 x.h.pa, .int .i64 x.h.wk, .int .i64 x.h.ws, .slice ab x.ar.len ad]) ∧ Hid (Below w.heap.size w wr)) (fun i _ => x.ar.len - (intOf i).toNat)
  case atStart => exact ⟨0, rfl, Lib.hid (Nat.zero_le _), G1, G2, B1⟩
  case round =>
    clear G1 G2 B1
    obtain ⟨j, rfl, hj, G1, G2, hb⟩ := hrel
    have g1 := G1.out.cell 11
    have g2 := G2.out.cell 11
    simp only [List.getElem?_toArray, List.getElem?_cons_zero, List.getElem?_cons_succ] at g1 g2
    by_cases hlt : j < x.ar.len
    · have q1 : decide ((j : Int) < (x.ar.len : Int)) = true := decide_eq_true (by omega)
      obtain ⟨bk, off, rfl, _, _, hF⟩ := (A1.out.kp (kp_of hb.out)).ar.resolve_left (by omega)
      obtain ⟨bk2, off2, rfl, _, _, hF2⟩ := (A2.out.kp (kp_of hb.out)).ar.resolve_left (by omega)
      obtain ⟨va, vc, wa, wc, N1, E1⟩ := fm_at _ _ _ j hF hlt
      obtain ⟨vb, vd, wb, wd, N2, E2⟩ := fm_at _ _ _ j hF2 hlt
      have R1 := nd_range N1
      have R2 := nd_range N2
      have f4 := Lib.hid (next_at (j := j) (by have := HL.out; omega))
      have hsz := Lib.hid (nth_sz x.ar j hlt)
      have hsm := Lib.hid (nth_sm x.ar j HS.out hlt)
      have i1 : (j : Int) < (x.ar.len : Int) := by omega
      replace E1 := Lib.hid E1
      replace E2 := Lib.hid E2
      clear hF hF2 N1 N2 A1 A2 hj
      generalize x.ar.nth j = y at *
      have SS := Lib.hid (show (Blk wr.drew w.heap.size 43 #[.int .i64 x.h.k, .string x.h.op, .string x.h.nm, .string x.h.tb, .int .i64 x.h.vk, .int .i64 x.h.vn, .string x.h.vs, .slice ua x.h.un.length uc, .int .i64 x.h.pa, .int .i64 x.h.wk, .int .i64 x.h.ws, .slice (some ⟨bk, off, none⟩) x.ar.len ac] ∧ Blk wr.drew (w.heap.size + 1) 43 #[.int .i64 x.h.k, .string x.h.op, .string x.h.nm, .string x.h.tb, .int .i64 x.h.vk, .int .i64 x.h.vn, .string x.h.vs, .slice ub x.h.un.length ud, .int .i64 x.h.pa, .int .i64 x.h.wk, .int .i64 x.h.ws, .slice (some ⟨bk2, off2, none⟩) x.ar.len ad]) ∧ wr.drew.rangeAt bk (off + j * 12) (exC y va vc wa wc).toList ∧ wr.drew.rangeAt bk2 (off2 + j * 12) (exC y vb vd wb wd).toList from ⟨⟨G1.out, G2.out⟩, R1, R2⟩)
      clear R1 R2
      go_wp2_with fail
      clear g1 g2
      refine wp_region_held_drew (S := fun w' => (Blk w' w.heap.size 43 #[.int .i64 x.h.k, .string x.h.op, .string x.h.nm, .string x.h.tb, .int .i64 x.h.vk, .int .i64 x.h.vn, .string x.h.vs, .slice ua x.h.un.length uc, .int .i64 x.h.pa, .int .i64 x.h.wk, .int .i64 x.h.ws, .slice (some ⟨bk, off, none⟩) x.ar.len ac] ∧ Blk w' (w.heap.size + 1) 43 #[.int .i64 x.h.k, .string x.h.op, .string x.h.nm, .string x.h.tb, .int .i64 x.h.vk, .int .i64 x.h.vn, .string x.h.vs, .slice ub x.h.un.length ud, .int .i64 x.h.pa, .int .i64 x.h.wk, .int .i64 x.h.ws, .slice (some ⟨bk2, off2, none⟩) x.ar.len ad]) ∧ w'.rangeAt bk (off + j * 12) (exC y va vc wa wc).toList ∧ w'.rangeAt bk2 (off2 + j * 12) (exC y vb vd wb wd).toList) (by kernel_rfl) SS.out (fun hH => ?_)
      refine held_take (i := 0) (d := 77) (v := ?_) rfl (by kernel_rfl) (by kernel_rfl) (by kernel_rfl) rfl (fun _ _ _ h => h) rfl hH (fun w' hS => ?_) ?_
      rotate_left
      · go_simp; first | done | with_reducible rfl
      simp only [List.set_cons_zero, List.set_cons_succ]
      refine held_take (i := 1) (d := 78) (v := ?_) rfl (by kernel_rfl) (by kernel_rfl) (by kernel_rfl) rfl (fun _ _ _ h => h) rfl hH (fun w' hS => ?_) ?_
      rotate_left
      · have e1 := hS.1.1.cell 11; simp only [List.getElem?_toArray, List.getElem?_cons_zero, List.getElem?_cons_succ] at e1; go_simp; first | done | with_reducible rfl
      simp only [List.set_cons_zero, List.set_cons_succ]
      refine held_take (i := 2) (d := 79) (v := ?_) rfl (by kernel_rfl) (by kernel_rfl) (by kernel_rfl) rfl (fun _ _ _ h => h) rfl hH (fun w' hS => ?_) ?_
      rotate_left
      · go_simp; first | done | with_reducible rfl
      simp only [List.set_cons_zero, List.set_cons_succ]
      refine held_take (i := 3) (d := 80) (v := ?_) rfl (by kernel_rfl) (by kernel_rfl) (by kernel_rfl) rfl (fun _ _ _ h => h) rfl hH (fun w' hS => ?_) ?_
      rotate_left
      · go_simp; first | done | with_reducible rfl
      simp only [List.set_cons_zero, List.set_cons_succ]
      refine held_take (i := 4) (d := 81) (v := .agg (exC y va vc wa wc)) rfl (by kernel_rfl) (by kernel_rfl) (by kernel_rfl) rfl (fun _ _ _ h => h) rfl hH (fun w' hS => yield_loadM infX Tryz.underlying43 rfl (.tmp 80) rfl _ _ _ rfl hS.2.1 rfl) ?_
      simp only [List.set_cons_zero, List.set_cons_succ]
      refine held_take (i := 5) (d := 82) (v := ?_) rfl (by kernel_rfl) (by kernel_rfl) (by kernel_rfl) rfl (fun _ _ _ h => h) rfl hH (fun w' hS => ?_) ?_
      rotate_left
      · go_simp; first | done | with_reducible rfl
      simp only [List.set_cons_zero, List.set_cons_succ]
      refine held_take (i := 6) (d := 83) (v := ?_) rfl (by kernel_rfl) (by kernel_rfl) (by kernel_rfl) rfl (fun _ _ _ h => h) rfl hH (fun w' hS => ?_) ?_
      rotate_left
      · have e1 := hS.1.2.cell 11; simp only [List.getElem?_toArray, List.getElem?_cons_zero, List.getElem?_cons_succ] at e1; go_simp; first | done | with_reducible rfl
      simp only [List.set_cons_zero, List.set_cons_succ]
      refine held_take (i := 7) (d := 84) (v := ?_) rfl (by kernel_rfl) (by kernel_rfl) (by kernel_rfl) rfl (fun _ _ _ h => h) rfl hH (fun w' hS => ?_) ?_
      rotate_left
      · go_simp; first | done | with_reducible rfl
      simp only [List.set_cons_zero, List.set_cons_succ]
      refine held_take (i := 8) (d := 85) (v := ?_) rfl (by kernel_rfl) (by kernel_rfl) (by kernel_rfl) rfl (fun _ _ _ h => h) rfl hH (fun w' hS => ?_) ?_
      rotate_left
      · go_simp; first | done | with_reducible rfl
      simp only [List.set_cons_zero, List.set_cons_succ]
      refine held_take (i := 9) (d := 86) (v := .agg (exC y vb vd wb wd)) rfl (by kernel_rfl) (by kernel_rfl) (by kernel_rfl) rfl (fun _ _ _ h => h) rfl hH (fun w' hS => yield_loadM infX Tryz.underlying43 rfl (.tmp 85) rfl _ _ _ rfl hS.2.2 rfl) ?_
      simp only [List.set_cons_zero, List.set_cons_succ]
      refine held_only (i := 10) rfl (by kernel_rfl) rfl (fun K hK => ?_)
      go_simp
      refine (IH'.out C D y va wa vb wb vc wc vd wd _ (by have := hsz.out; have := HZ.out; omega) hsm.out.1 hsm.out.2.1 hsm.out.2.2 (E1.out.kp (kp_of (b0 wr).drew)) (E2.out.kp (kp_of (b0 wr).drew))).mono ?_
      rintro e w5 ⟨rfl, b5⟩
      refine hK.out _ _ ⟨⟨hH.1.1.below b5 hH.1.1.lt, hH.1.2.below b5 hH.1.2.lt⟩, range_keeps hH.2.1 b5, range_keeps hH.2.2 b5⟩ (fun hH => ?_)
      clear hK K
      have G3 := Lib.hid hH.1.1
      have G4 := Lib.hid hH.1.2
      have B5 := Lib.hid (hb.out.drew.trans (b5.mono hb.out.size))
      clear b5 SS
      refine held_take (i := 11) (d := 88) (v := ?_) rfl (by kernel_rfl) (by kernel_rfl) (by kernel_rfl) rfl (fun _ _ _ h => h) rfl hH (fun w' hS => ?_) ?_
      rotate_left
      · go_simp; first | done | with_reducible rfl
      simp only [List.set_cons_zero, List.set_cons_succ]
      clear hH
      refine wpAnyH_done (by kernel_rfl) ?_ _
      go_wp2_with fail
      refine ⟨⟨j + 1, congrArg (Value.int .i64) f4.out, Lib.hid hlt, G3, G4, B5⟩, less_at hlt f4.out⟩
    · have q1 : decide ((j : Int) < (x.ar.len : Int)) = false := decide_eq_false (by omega)
      clear A1 A2 hj
      go_wp2_with fail
      go_ret
      exact ⟨rfl, hb.out⟩
theorem sameE_any (C D : Nat) (x : Ex) (ua aa ub ab : Option Addr) (uc ac ud ad : Nat) (w : World) (hu : x.h.un.length ≤ 1048576) (hl : x.ar.len ≤ 1048576) (hs : x.ar.sm) (hA : Ec C w x ua aa) (hB : Ec D w x ub ab) :
    Calls Tryz.prog 16 #[.agg (exC x ua uc aa ac), .agg (exC x ub ud ab ad)] w (Say (.bool true) w) := by
  have key : ∀ n, ∀ (C D : Nat) (x : Ex) (ua aa ub ab : Option Addr) (uc ac ud ad : Nat) (w : World), x.ar.sz < n → x.h.un.length ≤ 1048576 → x.ar.len ≤ 1048576 → x.ar.sm → Ec C w x ua aa → Ec D w x ub ab → Calls Tryz.prog 16 #[.agg (exC x ua uc aa ac), .agg (exC x ub ud ab ad)] w (Say (.bool true) w) := by
    intro n
    induction n with
    | zero => intro C D x ua aa ub ab uc ac ud ad w h; exact absurd h (Nat.not_lt_zero _)
    | succ n ih =>
      intro C D x ua aa ub ab uc ac ud ad w h hu hl hs hA hB
      exact sameE_step x.ar.sz (fun C' D' x' ua' aa' ub' ab' uc' ac' ud' ad' w' h' => ih C' D' x' ua' aa' ub' ab' uc' ac' ud' ad' w' (by omega)) C D x ua aa ub ab uc ac ud ad w rfl hu hl hs hA hB
  exact key _ C D x ua aa ub ab uc ac ud ad w (Nat.lt_succ_self _) hu hl hs hA hB
end Go.Proofs.YtbpijgddfaefkaaGreatDoor.pa
namespace Go.Proofs.YtbpijgddfaefkaaGreatDoor.pa
open Go.RowKit dec

end Go.Proofs.YtbpijgddfaefkaaGreatDoor.pa
namespace Go.Proofs.YtbpijgddfaefkaaGreatDoor.pa
open Go.RowKit dec

end Go.Proofs.YtbpijgddfaefkaaGreatDoor.pa
namespace Go.Proofs.YtbpijgddfaefkaaGreatDoor
open Go.RowKit dec

def Ex.sm (x : Ex) : Prop := x.h.un.length ≤ 1048576 ∧ x.ar.len ≤ 1048576 ∧ x.ar.sm
theorem sm1 {h : Hd} {x : Ex} (hu : h.un = []) (hx : x.sm) : Ex.sm ⟨h, .cons x.h x.ar .nil⟩ := by
  refine ⟨by rw [hu]; decide, by simp [Fo.len], hx.1, hx.2.1, hx.2.2, trivial⟩
theorem sm2 {h : Hd} {x y : Ex} (hu : h.un = []) (hx : x.sm) (hy : y.sm) : Ex.sm ⟨h, .cons x.h x.ar (.cons y.h y.ar .nil)⟩ := by
  refine ⟨by rw [hu]; decide, by simp [Fo.len], hx.1, hx.2.1, hx.2.2, hy.1, hy.2.1, hy.2.2, trivial⟩
theorem sm3 {h : Hd} {x y z : Ex} (hu : h.un = []) (hx : x.sm) (hy : y.sm) (hz : z.sm) : Ex.sm ⟨h, .cons x.h x.ar (.cons y.h y.ar (.cons z.h z.ar .nil))⟩ := by
  refine ⟨by rw [hu]; decide, by simp [Fo.len], hx.1, hx.2.1, hx.2.2, hy.1, hy.2.1, hy.2.2, hz.1, hz.2.1, hz.2.2, trivial⟩
theorem sm0 {h : Hd} (hu : h.un.length ≤ 1048576) : Ex.sm ⟨h, .nil⟩ := ⟨hu, by simp [Fo.len], trivial⟩
theorem binE_sm {op : ByteArray} {x y : Ex} (hx : x.sm) (hy : y.sm) : (binE op x y).sm := by
  unfold binE
  split
  · exact sm2 rfl hx hy
  · exact sm2 rfl hx hy
theorem nL_four (u : List un.Fa) : (un.nL u).length ≤ 4 := by
  unfold un.nL
  split
  · rename_i h
    exact (un.nE_zero h).2.2
  · exact Nat.zero_le _
theorem uni_sm {l r : List Tk} {u : List un.Fa} (h : uni l = .ok u r) : u.length ≤ 1048576 := by
  unfold uni at h
  split at h
  · obtain ⟨v, q, h1, h2⟩ := bind_ok h
    obtain ⟨_, q', h3, h4⟩ := bind_ok h2
    split at h4
    · cases h4
      have := nL_four v
      omega
    · cases h4
  · cases h
    exact Nat.zero_le _
def Md.sm : Md → Prop
  | .tl _ _ y => y.sm
  | _ => True
theorem boo_sm (n : Int) : (booE n).sm := sm0 (by simp [h0])
theorem pz_sm : ∀ (f : Nat) (i : Bool) (m : Md) (l : List Tk) (x : Ex) (r : List Tk), m.sm → pz f i m l = .ok x r → x.sm := by
  intro f
  induction f with
  | zero => intro i m l x r _ h; cases h
  | succ f ih =>
    intro i m l x r hm h
    cases m with
    | ex =>
      simp only [pz] at h
      split at h
      · obtain ⟨a, q1, h1, h⟩ := bind_ok h
        obtain ⟨_, q2, h2, h⟩ := bind_ok h
        obtain ⟨b, q3, h3, h⟩ := bind_ok h
        obtain ⟨_, q4, h4, h⟩ := bind_ok h
        obtain ⟨c, q5, h5, h⟩ := bind_ok h
        cases h
        exact sm3 rfl (ih _ _ _ _ _ (by exact trivial) h1) (ih _ _ _ _ _ (by exact trivial) h3) (ih _ _ _ _ _ (by exact trivial) h5)
      · exact ih _ _ _ _ _ (by exact trivial) h
    | op least =>
      simp only [pz] at h
      split at h
      · obtain ⟨a, q1, h1, h⟩ := bind_ok h
        exact ih _ (.tl _ _ _) _ _ _ (sm1 rfl (ih _ _ _ _ _ (by exact trivial) h1)) h
      · obtain ⟨a, q1, h1, h⟩ := bind_ok h
        exact ih _ (.tl _ _ _) _ _ _ (ih _ _ _ _ _ (by exact trivial) h1) h
    | tl least n y =>
      simp only [pz] at h
      split at h
      · cases h
        exact hm
      · split at h
        · exact ih _ (.tl _ (n - 1) y) _ _ _ (by exact hm) h
        · obtain ⟨a, q1, h1, h⟩ := bind_ok h
          exact ih _ (.tl _ _ _) _ _ _ (binE_sm hm (ih _ _ _ _ _ (by exact trivial) h1)) h
    | ng =>
      simp only [pz] at h
      split at h
      · obtain ⟨a, q1, h1, h⟩ := bind_ok h
        cases h
        exact sm1 rfl (ih _ _ _ _ _ (by exact trivial) h1)
      · exact ih _ _ _ _ _ (by exact trivial) h
    | pa =>
      simp only [pz] at h
      obtain ⟨_, q1, h1, h⟩ := bind_ok h
      obtain ⟨a, q2, h2, h⟩ := bind_ok h
      obtain ⟨_, q3, h3, h⟩ := bind_ok h
      cases h
      exact ih _ _ _ _ _ (by exact trivial) h2
    | rf =>
      simp only [pz] at h
      obtain ⟨n, q1, h1, h⟩ := bind_ok h
      split at h
      · obtain ⟨a, q2, h2, h⟩ := bind_ok h
        cases h
        exact sm1 rfl (ih _ _ _ _ _ (by exact trivial) h2)
      · cases h
        exact sm0 (by simp [h0])
    | ag =>
      simp only [pz] at h
      obtain ⟨op, q1, h1, h⟩ := bind_ok h
      obtain ⟨_, q2, h2, h⟩ := bind_ok h
      obtain ⟨t, q3, h3, h⟩ := bind_ok h
      obtain ⟨_, q4, h4, h⟩ := bind_ok h
      obtain ⟨a, q5, h5, h⟩ := bind_ok h
      have g5 : a.sm := by
        split at h5
        · cases h5; exact boo_sm 1
        · obtain ⟨_, p1, k1, h5⟩ := bind_ok h5
          obtain ⟨_, p2, k2, h5⟩ := bind_ok h5
          cases h5
          exact ih _ _ _ _ _ (by exact trivial) k1
      obtain ⟨n, q6, h6, h⟩ := bind_ok h
      obtain ⟨w, q7, h7, h⟩ := bind_ok h
      obtain ⟨b, q8, h8, h⟩ := bind_ok h
      have g8 : b.sm := by
        split at h8
        · exact ih _ _ _ _ _ (by exact trivial) h8
        · cases h8; exact boo_sm 1
      obtain ⟨_, q9, h9, h⟩ := bind_ok h
      cases h
      exact sm2 rfl g5 g8
    | pr =>
      simp only [pz] at h
      split at h
      · obtain ⟨n, q1, h1, h⟩ := bind_ok h
        obtain ⟨u, q2, h2, h⟩ := bind_ok h
        cases h
        exact sm0 (uni_sm h2)
      split at h
      · obtain ⟨n, q1, h1, h⟩ := bind_ok h
        obtain ⟨u, q2, h2, h⟩ := bind_ok h
        cases h
        exact sm0 (uni_sm h2)
      split at h
      · obtain ⟨n, q1, h1, h⟩ := bind_ok h
        cases h
        exact sm0 (by simp [h0])
      split at h
      · cases h; exact boo_sm 1
      split at h
      · cases h; exact boo_sm 0
      split at h
      · obtain ⟨n, q, h1, h2⟩ := bind_ok h
        obtain ⟨s, q', h3, h4⟩ := bind_ok h2
        split at h4
        · cases h4
          exact sm0 (by simp [h0])
        · cases h4
      split at h
      · obtain ⟨n, q1, h1, h⟩ := bind_ok h
        cases h
        exact sm1 rfl (ih _ _ _ _ _ (by exact trivial) h1)
      split at h
      · exact ih _ _ _ _ _ (by exact trivial) h
      split at h
      · obtain ⟨n, q1, h1, h⟩ := bind_ok h
        cases h
        exact sm0 (by simp [h0])
      split at h
      · exact ih _ _ _ _ _ (by exact trivial) h
      · exact ih _ _ _ _ _ (by exact trivial) h
end Go.Proofs.YtbpijgddfaefkaaGreatDoor
namespace Go.Proofs.YtbpijgddfaefkaaGreatDoor.pa
open Go.RowKit dec

theorem row_at {α : Type} {T : TypeId} {k C : Nat} {Q : World → List Value → α → Prop} {w : World} {a : Option Addr} {l : List α} (h : RowAt T k C Q w a l) (hk : ∀ c x, Q w c x → c.length = k) (j : Nat) (hj : j < l.length) : ∃ b off c, a = some ⟨b, off, none⟩ ∧ w.rangeAt b (off + j * k) c ∧ Q w c l[j] := by
  rcases h with h | ⟨b, off, cs, e, _, _, hl, hc, hq⟩
  · omega
  have q := hq j (by omega) hj
  refine ⟨b, off, _, e, fun i v hv => ?_, q⟩
  have hi : i < k := by
    have := (List.getElem?_eq_some_iff.1 hv).1
    rw [hk _ _ q] at this
    exact this
  obtain ⟨u, h1, h2⟩ := hc j i (by omega) hi
  rw [hv] at h1
  cases h1
  rw [Nat.add_assoc]
  exact h2
/-- Short tables, short features. -/
def Mo.sm (m : Mo) : Prop := m.ts.length ≤ 1048576 ∧ m.fs.length ≤ 1048576 ∧ (∀ t ∈ m.ts, t.fs.length ≤ 1048576 ∧ ∀ f ∈ t.fs, f.ty.un.length ≤ 1048576) ∧ ∀ f ∈ m.fs, f.ty.un.length ≤ 1048576 ∧ f.bo.sm
end Go.Proofs.YtbpijgddfaefkaaGreatDoor.pa
namespace Go.Proofs.YtbpijgddfaefkaaGreatDoor.pa
open Go.RowKit dec

/-- Lists of tokens, each with its end, that differ in their offsets alone, and these as R says. -/
inductive SimR (R : Int → Int → Prop) : List Tk → List Tk → Prop where
  | last {x y : Tk} (hk : x.k = 6) (hy : y.k = x.k) (ht : y.t = x.t) (ha : R x.a y.a) : SimR R [x] [y]
  | cons {x y : Tk} {l r : List Tk} (hk : y.k = x.k) (ht : y.t = x.t) (ha : R x.a y.a) (h : SimR R l r) : SimR R (x :: l) (y :: r)
theorem SimR.hk {R : Int → Int → Prop} {l r : List Tk} (h : SimR R l r) : (hd r).k = (hd l).k := by
  cases h with
  | last hk hy ht ha => exact hy
  | cons hk ht ha h => exact hk
theorem SimR.ht {R : Int → Int → Prop} {l r : List Tk} (h : SimR R l r) : (hd r).t = (hd l).t := by
  cases h with
  | last hk hy ht ha => exact ht
  | cons hk ht ha h => exact ht
theorem SimR.ha {R : Int → Int → Prop} {l r : List Tk} (h : SimR R l r) : R (hd l).a (hd r).a := by
  cases h with
  | last hk hy ht ha => exact ha
  | cons hk ht ha h => exact ha
theorem SimR.len {R : Int → Int → Prop} {l r : List Tk} (h : SimR R l r) : r.length = l.length := by
  induction h with
  | last hk hy ht ha => rfl
  | cons hk ht ha h ih => simp only [List.length_cons, ih]
theorem SimR.tail {R : Int → Int → Prop} {l r : List Tk} (h : SimR R l r) (h6 : (hd l).k ≠ 6) : SimR R l.tail r.tail := by
  cases h with
  | last hk hy ht ha => exact absurd hk h6
  | cons hk ht ha h => exact h
theorem SimR.sT {R : Int → Int → Prop} {l r : List Tk} (h : SimR R l r) (s : ByteArray) : isT s r = isT s l := by
  unfold Go.Proofs.YtbpijgddfaefkaaGreatDoor.isT
  rw [h.hk, h.ht]
theorem SimR.of {R : Int → Int → Prop} {l r : List Tk} (h : SimR R l r) {s : ByteArray} (hs : isT s l = true) : SimR R l.tail r.tail := h.tail (isT_hd hs)
/-- Outcomes that differ in offsets alone. -/
inductive RSim {α : Type} (R : Int → Int → Prop) : Rs α → Rs α → Prop where
  | out : RSim R .out .out
  | ok (v : α) {l r : List Tk} (h : SimR R l r) : RSim R (.ok v l) (.ok v r)
  | no {a b : Int} (c : Int) {l r : List Tk} (ha : R a b) (h : SimR R l r) : RSim R (.no a c l) (.no b c r)
theorem RSim.bind {α β : Type} {R : Int → Int → Prop} {x y : Rs α} {g k : α → List Tk → Rs β} (h : RSim R x y) (hg : ∀ v l r, SimR R l r → RSim R (g v l) (k v r)) : RSim R (x.bind g) (y.bind k) := by
  cases h with
  | out => exact .out
  | ok v h => exact hg v _ _ h
  | no c ha h => exact .no c ha h
section
variable {R : Int → Int → Prop}
/-- Problems that differ in their offsets alone. -/
inductive PbR (R : Int → Int → Prop) : List Pb → List Pb → Prop where
  | nil : PbR R [] []
  | cons {a b c : Int} {l r : List Pb} (ha : R a b) (h : PbR R l r) : PbR R ((a, c) :: l) ((b, c) :: r)
theorem PbR.push {l r : List Pb} (h : PbR R l r) {a b : Int} (c : Int) (ha : R a b) : PbR R (l ++ [(a, c)]) (r ++ [(b, c)]) := by
  induction h with
  | nil => exact .cons ha .nil
  | cons ha' h ih => exact .cons ha' ih
theorem PbR.len {l r : List Pb} (h : PbR R l r) : r.length = l.length := by
  induction h with
  | nil => rfl
  | cons ha h ih => simp only [List.length_cons, ih]
end
end Go.Proofs.YtbpijgddfaefkaaGreatDoor.pa
namespace Go.Proofs.YtbpijgddfaefkaaGreatDoor.pa
open Go.RowKit dec

/-! More steps. -/
def RM {α : Type} (x y : Rs α) : Prop := x ≠ .out → y = x
theorem RM.refl {α : Type} (x : Rs α) : RM x x := fun _ => rfl
theorem RM.bind {α β : Type} {x y : Rs α} {g k : α → List Tk → Rs β} (h : RM x y) (hg : ∀ v q, RM (g v q) (k v q)) : RM (x.bind g) (y.bind k) := by
  intro hn
  rw [h (ne_left hn)]
  cases x with
  | out => exact absurd rfl hn
  | ok v q => exact hg v q hn
  | no a c q => rfl
theorem isT_same {l r : List Tk} (hk : (hd r).k = (hd l).k) (ht : (hd r).t = (hd l).t) (s : ByteArray) : isT s r = isT s l := by
  unfold isT
  rw [hk, ht]
/-- No expression and no type goes on so. -/
def Stp (l : List Tk) : Prop := ((hd l).k = 6 ∧ (hd l).t = .empty) ∨ ((hd l).k = 5 ∧ (hd l).t = ⟨#[41]⟩) ∨ ((hd l).k = 5 ∧ (hd l).t = ⟨#[59]⟩)
theorem Stp.sT {l : List Tk} (h : Stp l) {s : ByteArray} (h1 : s ≠ ⟨#[41]⟩) (h2 : s ≠ ⟨#[59]⟩) : isT s l = false := by
  unfold Go.Proofs.YtbpijgddfaefkaaGreatDoor.isT
  rcases h with ⟨hk, ht⟩ | ⟨hk, ht⟩ | ⟨hk, ht⟩
  · rw [hk]; rfl
  · rw [hk, ht, decide_eq_false (p := (⟨#[41]⟩ : ByteArray) = s) (fun e => h1 e.symm)]; rfl
  · rw [hk, ht, decide_eq_false (p := (⟨#[59]⟩ : ByteArray) = s) (fun e => h2 e.symm)]; rfl
theorem Stp.hk {l : List Tk} (h : Stp l) : (hd l).k = 6 ∨ (hd l).k = 5 := by
  rcases h with ⟨hk, ht⟩ | ⟨hk, ht⟩ | ⟨hk, ht⟩
  · exact .inl hk
  · exact .inr hk
  · exact .inr hk
theorem Stp.ag {l : List Tk} (h : Stp l) : agg (hd l).t = false := by
  rcases h with ⟨hk, ht⟩ | ⟨hk, ht⟩ | ⟨hk, ht⟩ <;> rw [ht] <;> decide
/-- Lists that have the same tokens, but for their offsets, up to their ends t1 and t2. -/
inductive Loc (t1 t2 : List Tk) : List Tk → List Tk → Prop where
  | base : Loc t1 t2 t1 t2
  | cons {x y : Tk} {l r : List Tk} (hk : y.k = x.k) (ht : y.t = x.t) (h : Loc t1 t2 l r) : Loc t1 t2 (x :: l) (y :: r)
theorem Loc.le {t1 t2 l r : List Tk} (h : Loc t1 t2 l r) : t1.length ≤ l.length := by
  induction h with
  | base => exact Nat.le_refl _
  | cons hk ht h ih => exact Nat.le_succ_of_le ih
theorem Loc.fin {t1 t2 r : List Tk} (h : Loc t1 t2 t1 r) : r = t2 := by
  generalize hl : t1 = l at h
  cases h with
  | base => rfl
  | cons hk ht h =>
    have := h.le
    rw [← hl] at this
    have h2 := congrArg List.length hl
    rw [List.length_cons] at h2
    omega
/-- What may stand at the ends. -/
structure Ends (t1 t2 : List Tk) : Prop where
  l : Stp t1
  r : Stp t2
  p : isT ⟨#[41]⟩ t1 = false
section
variable {t1 t2 : List Tk}
theorem Loc.sT (E : Ends t1 t2) {l r : List Tk} (h : Loc t1 t2 l r) {s : ByteArray} (h1 : s ≠ ⟨#[41]⟩ := by decide) (h2 : s ≠ ⟨#[59]⟩ := by decide) : isT s r = isT s l := by
  cases h with
  | base => rw [E.l.sT h1 h2, E.r.sT h1 h2]
  | @cons x y l r hk ht h => exact isT_same (l := x :: l) (r := y :: r) hk ht s
theorem Loc.of (E : Ends t1 t2) {l r : List Tk} (h : Loc t1 t2 l r) {s : ByteArray} (t : Go.Proofs.YtbpijgddfaefkaaGreatDoor.isT s l = true) (h2 : s ≠ ⟨#[59]⟩ := by decide) : Loc t1 t2 l.tail r.tail := by
  cases h with
  | base =>
    exfalso
    by_cases h1 : s = ⟨#[41]⟩
    · subst h1
      rw [E.p] at t
      cases t
    · rw [E.l.sT h1 h2] at t
      cases t
  | cons hk ht h => exact h
theorem Loc.ag (E : Ends t1 t2) {l r : List Tk} (h : Loc t1 t2 l r) : agg (hd r).t = agg (hd l).t := by
  cases h with
  | base => rw [E.l.ag, E.r.ag]
  | cons hk ht h => rw [show (hd (_ :: _)).t = _ from ht]; rfl
/-- What succeeds on the one list succeeds on the other. -/
def RL (t1 t2 : List Tk) {α : Type} (x y : Rs α) : Prop := ∀ v q, x = .ok v q → ∃ q', y = .ok v q' ∧ Loc t1 t2 q q'
theorem RL.bind {α β : Type} {x y : Rs α} {g k : α → List Tk → Rs β} (h : RL t1 t2 x y) (hg : ∀ v q q', Loc t1 t2 q q' → RL t1 t2 (g v q) (k v q')) : RL t1 t2 (x.bind g) (y.bind k) := by
  intro v q e
  obtain ⟨u, s, h1, h2⟩ := bind_ok e
  obtain ⟨s', h3, h4⟩ := h u s h1
  obtain ⟨q', h5, h6⟩ := hg u s s' h4 v q h2
  exact ⟨q', by rw [h3]; exact h5, h6⟩
theorem opL_ok : ∀ n, ∀ s ∈ opL n, s ≠ ⟨#[41]⟩ ∧ s ≠ ⟨#[59]⟩
  | 0 => by decide
  | 1 => by decide
  | 2 => by decide
  | 3 => by decide
  | 4 => by decide
  | n + 5 => by
    show ∀ s ∈ [(⟨#[42]⟩ : ByteArray), ⟨#[47]⟩], _
    decide
end
end Go.Proofs.YtbpijgddfaefkaaGreatDoor.pa
namespace Go.Proofs.YtbpijgddfaefkaaGreatDoor.pa
open Go.RowKit dec

theorem opr_stp {n : Nat} {l : List Tk} (h : Stp l) : opr n l = .empty := by
  unfold opr
  rw [List.find?_eq_none.2 fun s hs => by rw [h.sT (opL_ok n s hs).1 (opL_ok n s hs).2]; decide]
  rfl
theorem tl_end {l : List Tk} (h : Stp l) (i : Bool) (x : Ex) : ∀ (n f : Nat), n < f → pz f i (.tl 0 n x) l = .ok x l
  | _, 0, hf => by omega
  | 0, f + 1, _ => by simp only [pz]; rw [if_pos (Nat.le_refl 0)]
  | n + 1, f + 1, hf => by
    simp only [pz]
    rw [if_neg (by omega), if_pos (by rw [Nat.add_sub_cancel]; exact opr_stp h), Nat.add_sub_cancel]
    exact tl_end h i x n f (by omega)
theorem pz_ex {f : Nat} {i : Bool} {l : List Tk} (h : isT ⟨#[105, 102]⟩ l = false) : pz (f + 1) i .ex l = pz f i (.op 0) l := by
  simp only [pz]
  rw [if_neg (by rw [h]; decide)]
theorem pz_op {f n : Nat} {i : Bool} {l : List Tk} (h : isT ⟨#[110, 111, 116]⟩ l = false) : pz (f + 1) i (.op n) l = (pz f i .ng l).bind fun x r => pz f i (.tl n 6 x) r := by
  simp only [pz]
  rw [if_neg (fun e => by rw [h] at e; exact absurd e.2 (by decide))]
theorem pz_ng {f : Nat} {i : Bool} {l : List Tk} (h : isT ⟨#[45]⟩ l = false) : pz (f + 1) i .ng l = pz f i .pr l := by
  simp only [pz]
  rw [if_neg (by rw [h]; decide)]
theorem Loc.map {t1 t2 : List Tk} (d : Nat) : ∀ C : List Tk, Loc t1 t2 (C ++ t1) (C.map (shT d) ++ t2)
  | [] => .base
  | _ :: C => .cons rfl rfl (Loc.map d C)
/-- Where a reader of a whole source stops. -/
theorem all_ok {α : Type} {one : List Tk → Rs α} {l r : List Tk} {v : α} (h : allR one l = .ok v r) : one l = .ok v r ∧ (hd r).k = 6 := by
  obtain ⟨u, q, h1, h2⟩ := bind_ok h
  obtain ⟨_, q2, h3, h4⟩ := bind_ok h2
  cases h4
  unfold endR at h3
  split at h3
  · rename_i hk
    cases h3
    exact ⟨h1, hk⟩
  · cases h3
theorem all_of {α : Type} {one : List Tk → Rs α} {l r : List Tk} {v : α} (h : one l = .ok v r) (hk : (hd r).k = 6) : allR one l = .ok v r := by
  unfold allR
  rw [h]
  show Rs.bind (endR r) _ = _
  unfold endR
  rw [if_pos hk]
  rfl
theorem Loc.left {t1 t2 l r : List Tk} (h : Loc t1 t2 l r) : ∃ C, l = C ++ t1 := by
  induction h with
  | base => exact ⟨[], rfl⟩
  | @cons x y l r hk ht h ih =>
    obtain ⟨C, e⟩ := ih
    exact ⟨x :: C, by rw [e]; rfl⟩
theorem tokL_eq {s : ByteArray} (hs : ¬ 16384 < s.size) : tokL s = (lxs 0 false s.data.toList).1 ++ [endT s] := by
  unfold tokL
  rw [if_neg hs]
end Go.Proofs.YtbpijgddfaefkaaGreatDoor.pa
namespace Go.Proofs.YtbpijgddfaefkaaGreatDoor.pa
open Go.RowKit dec

theorem top_sm {s : ByteArray} {x : Ex} {a c : Int} (h : topR (α := Ex) ⟨h0, .nil⟩ exR s = (x, a, c)) : x.sm := by
  have hz : Ex.sm ⟨h0, .nil⟩ := sm0 (by simp [h0])
  unfold topR at h
  split at h
  · cases hb : tokB s with
    | cons q qs => rw [hb] at h; cases h; exact hz
    | nil =>
      rw [hb] at h
      cases ha : allR exR (tokL s) with
      | out => rw [ha] at h; cases h; exact hz
      | ok v r =>
        rw [ha] at h
        cases h
        obtain ⟨h1, _⟩ := all_ok ha
        exact pz_sm _ _ .ex _ _ _ trivial h1
      | no a' c' r => rw [ha] at h; cases h; exact hz
  · cases h; exact hz
end Go.Proofs.YtbpijgddfaefkaaGreatDoor.pa
