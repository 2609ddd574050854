/-
  Items; parser.Module.
-/
import Derived.Maps.OwnSet
import Derived.Test.YtkgclmikhpjheaaGreatDoorQ03
import Derived.Test.YtkgclmikhpjheaaGreatDoorQ04
import Derived.Test.YtkgclmikhpjheaaGreatDoorQ05
import Derived.Test.YtkgclmikhpjheaaGreatDoorQ11
import Derived.Test.YtkgclmikhpjheaaGreatDoorQ12
namespace Go.Proofs.YtkgclmikhpjheaaGreatDoor.pa
open Go.RowKit dec

theorem kMapF : Tryz.prog.underlying 137 = some (.map 9 82) := by kernel_rfl
def fnT (B : Nat) : Value := .func (.func 81) #[.pointer (some ⟨B, 0, none⟩)] #[]
def fnF (B : Nat) : Value := .func (.func 82) #[.pointer (some ⟨B, 0, none⟩)] #[]
def dI (n : Int) : DataW Unit := .lit (.int .i64 n)
theorem dI_inj {a b : Int} (h : dI a = dI b) : a = b := by
  unfold dI at h
  cases h
  rfl
open Classical in
/-- How a method in the map reads. -/
noncomputable def fnE (B : Nat) (v : Value) : Option (DataW Unit × List MemPlace) :=
  if v = .nilFunc then some (dI 0, []) else if v = fnT B then some (dI 1, []) else if v = fnF B then some (dI 2, []) else none
theorem fnE_nil (B : Nat) : fnE B .nilFunc = some (dI 0, []) := by simp [fnE]
theorem fnE_T (B : Nat) : fnE B (fnT B) = some (dI 1, []) := by simp [fnE, fnT]
theorem fnE_F (B : Nat) : fnE B (fnF B) = some (dI 2, []) := by simp [fnE, fnT, fnF]
theorem fnE_inv {B : Nat} {v : Value} {n : Int} {ps : List MemPlace} (h : fnE B v = some (dI n, ps)) : (n = 1 → v = fnT B) ∧ (n = 2 → v = fnF B) := by
  unfold fnE at h
  split at h
  · simp only [Option.some.injEq, Prod.mk.injEq] at h
    have := dI_inj h.1
    exact ⟨fun e => by omega, fun e => by omega⟩
  · split at h
    · rename_i h2
      simp only [Option.some.injEq, Prod.mk.injEq] at h
      have := dI_inj h.1
      exact ⟨fun _ => h2, fun e => by omega⟩
    · split at h
      · rename_i h3
        simp only [Option.some.injEq, Prod.mk.injEq] at h
        have := dI_inj h.1
        exact ⟨fun e => by omega, fun _ => h3⟩
      · cases h
theorem wpList_ins {B b n : Nat} {D : DataW Unit} {w : World} {ops : Array Oper} {rest : List Oper} {o : Oper} {a : Act} {Q : Exit → Act → World → Prop} (hg : o.guard = none) (m x v : Operand) (hop : o.op = .insert 137 m x v)
    (hm : a.eval m = .map (some b)) (h : w.ownsMap Tryz.prog 9 (fnE B) b n D) (hn : n < maxLen) (s : ByteArray) (val : Value) (hx : a.eval x = .string s) (hs : s.size ≤ maxLen) (hv : a.eval v = val) (d : DataW Unit) (hval : fnE B val = some (d, []))
    (hK : ∀ w', w'.ownsMap Tryz.prog 9 (fnE B) b (n + 1) (D.put (un.kS s) d) → w.grownBy w' (some b) → wpList Tryz.prog ops Q rest (a.put o.dst undef) w') : wpList Tryz.prog ops Q (o :: rest) a w := by
  refine wpList_plain hg fun K' hK' => ?_
  obtain ⟨w', hrun, r1, r2⟩ := h.update un.K9 kMapF hn (un.kS_key hs) hval
  unfold Oper.wp
  simp [execOp, hop, hm, hx, hv, hrun, Result.andThen]
  exact hK' _ _ (hK w' r1 r2)
theorem zeroF (w : World) : (zeroValue 82).run Tryz.prog w = .ok .nilFunc w := by kernel_rfl
/-- The map of the items. -/
def itD : DataW Unit := ((DataW.map []).put (un.kS ⟨#[116, 97, 98, 108, 101]⟩) (dI 1)).put (un.kS ⟨#[102, 101, 97, 116, 117, 114, 101]⟩) (dI 2)
theorem isM0 : Maps.IsMap (DataW.map [] : DataW Unit) := ⟨[], rfl⟩
theorem ks_ne {a b : ByteArray} (h : a ≠ b) : un.kS a ≠ un.kS b := fun e => h (un.kS_inj e)
theorem it_T : Maps.has itD (un.kS ⟨#[116, 97, 98, 108, 101]⟩) = true ∧ itD.atKey (un.kS ⟨#[116, 97, 98, 108, 101]⟩) (dI 0) = dI 1 := by
  unfold itD
  rw [Maps.has_put_other (ks_ne (by decide)), Maps.has_put_same isM0 (un.kS_lit (by decide)), Maps.atKey_put_other (ks_ne (by decide)), Maps.atKey_put_same isM0 (un.kS_lit (by decide))]
  exact ⟨rfl, rfl⟩
theorem it_F : Maps.has itD (un.kS ⟨#[102, 101, 97, 116, 117, 114, 101]⟩) = true ∧ itD.atKey (un.kS ⟨#[102, 101, 97, 116, 117, 114, 101]⟩) (dI 0) = dI 2 := by
  unfold itD
  rw [Maps.has_put_same (isM0.put _ _) (un.kS_lit (by decide)), Maps.atKey_put_same (isM0.put _ _) (un.kS_lit (by decide))]
  exact ⟨rfl, rfl⟩
theorem it_no {s : ByteArray} (h1 : s ≠ ⟨#[116, 97, 98, 108, 101]⟩) (h2 : s ≠ ⟨#[102, 101, 97, 116, 117, 114, 101]⟩) : Maps.has itD (un.kS s) = false := by
  unfold itD
  rw [Maps.has_put_other (ks_ne h2), Maps.has_put_other (ks_ne h1)]
  rfl
theorem look_it {B b n : Nat} {w : World} (h : w.ownsMap Tryz.prog 9 (fnE B) b n itD) (s : ByteArray) (hs : s.size ≤ maxLen) :
    ∃ v, (Instr.lookup 137 (.map (some b)) (.string s) true).run Tryz.prog w = .ok (.tuple #[v, .bool (decide (s = ⟨#[116, 97, 98, 108, 101]⟩) || decide (s = ⟨#[102, 101, 97, 116, 117, 114, 101]⟩))]) w ∧ (s = ⟨#[116, 97, 98, 108, 101]⟩ → v = fnT B) ∧ (s = ⟨#[102, 101, 97, 116, 117, 114, 101]⟩ → v = fnF B) := by
  obtain ⟨v, ps, hrun, hv⟩ := h.look_ok un.K9 kMapF (zeroF w) (fnE_nil B) (un.kS_key hs)
  refine ⟨v, ?_, fun e => ?_, fun e => ?_⟩
  · rw [hrun]
    by_cases h1 : s = ⟨#[116, 97, 98, 108, 101]⟩
    · subst h1
      rw [it_T.1]
      rfl
    · by_cases h2 : s = ⟨#[102, 101, 97, 116, 117, 114, 101]⟩
      · subst h2
        rw [it_F.1]
        rfl
      · rw [it_no h1 h2, decide_eq_false h1, decide_eq_false h2]
        rfl
  · subst e
    rw [it_T.2] at hv
    exact (fnE_inv hv).1 rfl
  · subst e
    rw [it_F.2] at hv
    exact (fnE_inv hv).2 rfl
set_option maxRecDepth 100000 in
set_option maxHeartbeats 2000000 in
theorem item_r (w0 : World) (base B g : Nat) (ta : Option Addr) (n cap : Nat) (m : Mo) (l : List Tk) (w : World) (h : Mf w0 base B g ta n cap w m l) (hn1 : m.ts.length < 1048577) (hn2 : m.fs.length < 1048577) :
    Calls Tryz.prog 34 #[.pointer (some ⟨B, 0, none⟩), .pointer (some ⟨g, 0, none⟩)] w (Mst w0 base B g ta n cap m (itmR m l) w) := by
  have P := Lib.hid h.ps
  have HF := Lib.hid h
  replace hn1 := Lib.hid hn1
  replace hn2 := Lib.hid hn2
  have F := tf1
  have hmm := @run_makeMap Tryz.prog
  have F2 := mi_prob
  have hsz := Lib.hid (show (hd l).t.size ≤ maxLen from by have := h.ps.tl.hd; unfold maxLen; omega)
  have hmf : ∀ (fn : Fn) (first cap : Array Value) (w : World), (Instr.makeFunc fn first cap).run Tryz.prog w = .ok (.func fn first cap) w := fun _ _ _ _ => rfl
  clear h
  go_enter Tryz.func34, Tryz.ntmps34
  go_wp2_with (first | (refine wpList_ins (B := B) rfl (.tmp 7) (.const _) (.tmp 9) rfl rfl (World.ownsMap_made w _ _ _) (by decide) ⟨#[116, 97, 98, 108, 101]⟩ (fnT B) rfl (by decide) rfl _ (fnE_T B) ?_; intro wa Oa ga) | (refine wpList_ins (B := B) rfl (.tmp 7) (.const _) (.tmp 11) rfl rfl Oa (by decide) ⟨#[102, 101, 97, 116, 117, 114, 101]⟩ (fnF B) rfl (by decide) rfl _ (fnE_F B) ?_; intro wb Ob gb))
  have bb := (((balloc (b0 w) (.map #[] 0)).grown ga (by simp) (fun k hk => by cases hk; exact Nat.le_refl _)).grown gb (by have := ga.size; simp at this; omega) (fun k hk => by cases hk; exact Nat.le_refl _))
  replace P := Lib.hid (P.out.keeps bb)
  have M := Lib.hid (Mv.of (B := B) bb)
  replace Ob := Lib.hid Ob
  clear Oa ga gb bb
  refine (now_any B l wb P.out).mono ?_
  rintro e w1 ⟨rfl, b1⟩
  obtain ⟨v, hl, hT, hV⟩ := look_it (Ob.out.kept (un.grown_below b1) (by simp)) (hd l).t hsz.out
  replace P := Lib.hid (P.out.keeps b1)
  replace M := Lib.hid (M.out.nextB b1)
  have HF1 := Lib.hid (HF.out.step M.out P.out)
  clear Ob b1
  by_cases h1 : (hd l).t = ⟨#[116, 97, 98, 108, 101]⟩
  · have q1 : (decide ((hd l).t = ⟨#[116, 97, 98, 108, 101]⟩) || decide ((hd l).t = ⟨#[102, 101, 97, 116, 117, 114, 101]⟩)) = true := by simp [h1]
    rw [q1] at hl
    obtain rfl := hT h1
    have hI := Lib.hid (show itmR m l = (tabR l).bind fun t r => .ok { m with ts := m.ts ++ [t] } r from by unfold itmR; rw [if_pos h1])
    unfold fnT at hl
    clear q1 hT hV h1
    generalize hx : hd l = x at *
    clear hx
    go_wp2_with fail
    refine (table_r w0 base B g ta n cap m l w1 HF1.out hn1.out _ rfl (tabR_ne l)).mono ?_
    rintro e w2 k2
    rw [← hI.out] at k2
    rcases hG : itmR m l with _ | ⟨m', l2⟩ | ⟨a, c, l2⟩
    · exact absurd hG (itmR_ne m l)
    · rw [hG] at k2
      obtain ⟨rfl, F9, Q9⟩ := k2
      have F9 := Lib.hid F9
      have Q9 := Lib.hid Q9
      go_wp2_with fail
      go_end0
      exact mst_ok hG F9.out ((Mq.mv M.out).trans Q9.out)
    · rw [hG] at k2
      obtain ⟨rfl, F9, Q9⟩ := k2
      have F9 := Lib.hid F9
      have Q9 := Lib.hid Q9
      unfold thr
      go_wp2_with fail
      exact ⟨rfl, rfl, F9.out, (Mq.mv M.out).trans Q9.out⟩
  · by_cases h2 : (hd l).t = ⟨#[102, 101, 97, 116, 117, 114, 101]⟩
    · have q1 : (decide ((hd l).t = ⟨#[116, 97, 98, 108, 101]⟩) || decide ((hd l).t = ⟨#[102, 101, 97, 116, 117, 114, 101]⟩)) = true := by simp [h2]
      rw [q1] at hl
      obtain rfl := hV h2
      have hI := Lib.hid (show itmR m l = (feaR l).bind fun f r => .ok { m with fs := m.fs ++ [f] } r from by unfold itmR; rw [if_neg h1, if_pos h2])
      unfold fnF at hl
      clear q1 hT hV h1 h2
      generalize hx : hd l = x at *
      clear hx
      go_wp2_with fail
      refine (feature_r w0 base B g ta n cap m l w1 HF1.out hn2.out _ rfl (feaR_ne l)).mono ?_
      rintro e w2 k2
      rw [← hI.out] at k2
      rcases hG : itmR m l with _ | ⟨m', l2⟩ | ⟨a, c, l2⟩
      · exact absurd hG (itmR_ne m l)
      · rw [hG] at k2
        obtain ⟨rfl, F9, Q9⟩ := k2
        have F9 := Lib.hid F9
        have Q9 := Lib.hid Q9
        go_wp2_with fail
        go_end0
        exact mst_ok hG F9.out ((Mq.mv M.out).trans Q9.out)
      · rw [hG] at k2
        obtain ⟨rfl, F9, Q9⟩ := k2
        have F9 := Lib.hid F9
        have Q9 := Lib.hid Q9
        unfold thr
        go_wp2_with fail
        exact ⟨rfl, rfl, F9.out, (Mq.mv M.out).trans Q9.out⟩
    · have q1 : (decide ((hd l).t = ⟨#[116, 97, 98, 108, 101]⟩) || decide ((hd l).t = ⟨#[102, 101, 97, 116, 117, 114, 101]⟩)) = false := by simp [h1, h2]
      rw [q1] at hl
      have hI := Lib.hid (show itmR m l = wrg l from by unfold itmR; rw [if_neg h1, if_neg h2])
      clear q1 hT hV h1 h2
      have C2 := Lib.hid (wrong_any B l w1 P.out)
      generalize hx : hd l = x at *
      go_wp2_with fail
      refine C2.out.mono ?_
      rintro e w2 ⟨rfl, b2⟩
      have P2 := Lib.hid (P.out.keeps b2)
      have M2 := Lib.hid (M.out.nextB b2)
      clear b2 C2
      go_wp2_with fail
      refine ⟨rfl, mst_no HF.out ?_ P2.out M2.out⟩
      rw [hI.out, wrg, hx]
end Go.Proofs.YtkgclmikhpjheaaGreatDoor.pa
namespace Go.Proofs.YtkgclmikhpjheaaGreatDoor.pa
open Go.RowKit dec

set_option maxRecDepth 100000 in
set_option maxHeartbeats 1000000 in
theorem leave_any (B : Nat) (l : List Tk) (w : World) (h : Ps w B l) :
    Calls Tryz.prog 35 #[.pointer (some ⟨B, 0, none⟩)] w fun e w' => e = .returned (.tuple #[]) ∧ Ps w' B (lvR l) ∧ Mv w.heap.size B w w' := by
  have P := Lib.hid h
  have M := Lib.hid (Mv.refl w.heap.size B w)
  have F := tf0
  clear h
  go_enter Tryz.func35, Tryz.ntmps35
  go_wp2_with fail
  go_loopg [] (l.length) (fun k wr => ∃ (l' : List Tk), Hid (Ps wr B l') ∧ Hid (Mv w.heap.size B w wr) ∧ Hid (lvR l' = lvR l) ∧ Hid (l'.length ≤ k))
  case atStart => exact ⟨l, P, M, Lib.hid rfl, Lib.hid (Nat.le_refl _)⟩
  case round =>
    clear P M
    obtain ⟨l', P, M, HL, hk⟩ := hrel
    rcases gk with _ | gk
    · exact absurd (List.eq_nil_of_length_eq_zero (Nat.le_zero.1 hk.out)) P.out.tl.ne
    have C1 := Lib.hid (now_any B l' _ P.out)
    go_wp2_with fail
    refine C1.out.mono ?_
    rintro e w1 ⟨rfl, b1⟩
    have P1 := Lib.hid (P.out.keeps b1)
    have M1 := Lib.hid (M.out.nextB b1)
    clear b1 C1 P M
    by_cases h6 : (hd l').k = 6
    · have q1 : ((hd l').k != 6) = false := by simp [h6]
      have e1 := Lib.hid (show lvR l' = l' from by rw [lvR_eq P1.out.tl.ne, if_pos h6])
      clear h6
      generalize hd l' = x at *
      go_wp2_with fail
      go_end0
      rw [← HL.out, e1.out]
      exact ⟨rfl, P1.out, M1.out⟩
    · have q1 : ((hd l').k != 6) = true := by simp [h6]
      cases ht : isT ⟨#[59]⟩ l'
      · have e1 := Lib.hid (show lvR l' = lvR l'.tail from by rw [lvR_eq P1.out.tl.ne, if_neg h6, ht, if_neg (by decide)])
        have HT := Lib.hid (P1.out.tl.tail h6)
        have hle := Lib.hid (show l'.tail.length + 1 ≤ l'.length from by have := P1.out.tl.ne; cases l' with | nil => exact absurd rfl this | cons x r => simp)
        have hF := Lib.hid ht
        clear h6 ht
        generalize hx : hd l' = x at *
        clear hx
        go_wp2_with fail
        refine (skip_no B ⟨#[59]⟩ l' _ P1.out hF.out).mono ?_
        rintro e w2 ⟨rfl, pp, mm⟩
        obtain ⟨q, c1, z, hq, P2⟩ := pp.go HT.out
        have f := Lib.hid (next_at hq)
        replace P2 := Lib.hid P2
        have M2 := Lib.hid ((M1.out.next mm).put 1 (.int .i64 ((q : Int) + 1)))
        clear pp mm P1 M1 hF HT
        go_wp2_with fail
        go_roundg gk
        case measure => have := hle.out; have := hk.out; omega
        case rel => exact ⟨l'.tail, P2, M2, Lib.hid (e1.out.symm.trans HL.out), Lib.hid (by have := hle.out; have := hk.out; omega)⟩
      · have e1 := Lib.hid (show lvR l' = l'.tail from by rw [lvR_eq P1.out.tl.ne, if_neg h6, ht, if_pos rfl])
        have hT := Lib.hid ht
        clear h6 ht
        generalize hx : hd l' = x at *
        clear hx
        go_wp2_with fail
        refine (skip_yes B ⟨#[59]⟩ l' _ P1.out hT.out).mono ?_
        rintro e w2 ⟨rfl, pp, mm⟩
        have P2 := Lib.hid pp
        have M2 := Lib.hid (M1.out.next mm)
        clear pp mm P1 M1
        go_wp2_with fail
        go_end0
        rw [← HL.out, e1.out]
        exact ⟨rfl, P2.out, M2.out⟩
end Go.Proofs.YtkgclmikhpjheaaGreatDoor.pa
namespace Go.Proofs.YtkgclmikhpjheaaGreatDoor.pb
open Go.RowKit Go.Sort Go.Lib dec

def cP (a b : Pb) : Int := Lib.compareInt a.1 b.1
theorem cmp2_any (x y : Pb) (W : World) :
    Calls Tryz.prog 37 #[.agg #[.int .i64 x.1, .int .i64 x.2], .agg #[.int .i64 y.1, .int .i64 y.2]] W fun e w' => e = .returned (.int .i64 (cP x y)) ∧ ∃ q os', w' = grow (W.drewN q) os' := by
  have hcon := Lib.hid (fun W' => Tryz.cmp_Compare_int x.1 y.1 W')
  have hW := un.grow2 W (.cells #[.int .i64 x.1, .int .i64 x.2] 60) (.cells #[.int .i64 y.1, .int .i64 y.2] 60)
  unfold cP
  generalize Lib.compareInt x.1 y.1 = r at hcon ⊢
  go_enter Tryz.func37, Tryz.ntmps37
  go_wp2_with fail
  refine (hcon.out _).mono ?_
  rintro e w' ⟨rfl, rfl⟩
  go_wp2_with fail
  go_ret
  obtain ⟨os, ho⟩ := hW
  exact ⟨rfl, 0, os, ho⟩
def enP (x : Pb) : List Value := [.int .i64 x.1, .int .i64 x.2]
theorem lt_enP (x y : Pb) : ltOf cP x y = decide (x.1 < y.1) := by
  show decide (cP x y < 0) = _
  unfold cP Lib.compareInt
  by_cases h : x.1 < y.1
  · simp [h]
  · by_cases h2 : y.1 < x.1 <;> simp [h, h2]
/-- By offset is a strict weak order. -/
theorem swo_enP : SWO (ltOf cP) where
  irrefl x := by rw [lt_enP]; simp
  trans x y z h1 h2 := by rw [lt_enP] at *; simp at *; omega
  ntrans x y z h1 h2 := by rw [lt_enP] at *; simp at *; omega
def WSrt (l : List Pb) : Prop := l.Pairwise fun x y => x.1 ≤ y.1
theorem cmpLays_any (blk off size : Nat) (w : World) : CmpLays Tryz.prog 37 #[] enP 2 cP blk off size w := by
  intro m os dk _ x y
  exact cmp2_any x y _
theorem holds_cl {w : World} {g : Nat} {l : List Pb} (h : Cl w g 0 l) (hf : ∀ j, w.frozen? ⟨g, j, none⟩ = false) : HoldsK enP 2 w g 0 l.toArray := by
  intro j hj
  have hj' : j < l.length * 2 := by simpa using hj
  have hd : j / 2 < l.length := by omega
  obtain ⟨c0, c1⟩ := h (j / 2) hd
  rw [get_flatK enP 2 _ _ (by simpa using hj')]
  have e1 : l.toArray[j / 2]! = gt l (j / 2) := by
    rw [gt_eq hd]
    simp [hd]
  rw [e1]
  rcases Nat.mod_two_eq_zero_or_one j with hm | hm
  · have : 0 + j / 2 * 2 = 0 + j := by omega
    rw [this] at c0
    rw [hm]
    exact ⟨c0, hf _⟩
  · have : 0 + j / 2 * 2 + 1 = 0 + j := by omega
    rw [this] at c1
    rw [hm]
    exact ⟨c1, hf _⟩
theorem cl_holds {w : World} {g : Nat} {d : Array Pb} (h : HoldsK enP 2 w g 0 d) : Cl w g 0 d.toList := by
  intro j hj
  have hj' : j < d.size := by simpa using hj
  have e1 : d[j]! = gt d.toList j := by
    rw [gt_eq hj]
    simp [hj']
  have h0 := (h.cell (c := 0) hj' (by decide)).1
  have h1 := (h.cell (c := 1) hj' (by decide)).1
  rw [e1] at h0 h1
  exact ⟨h0, h1⟩
/-- SortFunc over a slice that the call has made. -/
theorem sort_any (base : Nat) (v : Value) (l : List Pb) (w : World) (hO : Own w base v l) (hn : l.length < 5864062014805) :
    Calls Tryz.prog 36 #[v, .func (.func 37) #[] #[]] w fun e w' => e = .returned (.tuple #[]) ∧ ∃ a cap s, v = .slice a l.length cap ∧ s.Perm l ∧ WSrt s ∧ Sl w' a l.length cap s ∧ w.grownBy w' v.ownBlock ∧ (∀ x, v.ownBlock = some x → Tg w x 60 ∧ base ≤ x) := by
  rcases hO.2 with ⟨rfl, h0⟩ | ⟨g, cap, cur, rfl, hbg, hh, hc, hm, hsz0, _⟩
  · obtain rfl : l = [] := List.eq_nil_of_length_eq_zero h0
    have hS := AnyF.slices_SortFunc_none (P := Tryz.prog) (ρ := Tryz.sortPr_ren) { Tryz.sortPr with } none 0 (.func (.func 37) #[] #[]) w
    refine (show Calls Tryz.prog 36 _ _ _ from hS).mono ?_
    rintro e w' ⟨rfl, rfl⟩
    exact ⟨rfl, none, 0, [], rfl, List.Perm.refl _, by simp [WSrt], .nil _, ⟨rfl, rfl, rfl, Nat.le_refl _, fun _ _ _ => rfl⟩, fun x h => by cases h⟩
  · have eg : ∀ args w, (callFunc 37 args).run Tryz.prog w = .ok (.enter 37 args) w := enters_of Tryz.func37 (by kernel_rfl) rfl
    have hg : g < w.heap.size := heap_lt hh
    have hF : ∀ j, w.frozen? ⟨g, j, none⟩ = false := fun j => by simp [World.frozen?, hh]
    have hC : Cl w g 0 l := fun j hj => by
      rw [Nat.zero_add, hO.cellAt (j * 2) (by omega), hO.cellAt (j * 2 + 1) (by omega)]
      exact cs_at l j hj
    have hcon := AnyQ.slices_SortFunc Tryz.sortPr 2 Tryz.isAgg60 Tryz.sizeOf60 enP (fun _ => rfl) (fun x v hv => by simp [enP] at hv; rcases hv with rfl | rfl <;> rfl) cP swo_enP 37 #[] g 0 cap l.toArray w eg (cmpLays_any g 0 _ w) (holds_cl hC hF) hg (by simp; omega)
    simp only [List.size_toArray] at hcon
    refine (show Calls Tryz.prog 36 _ _ _ from hcon).mono ?_
    rintro e w' ⟨rfl, d', n, os, hp, hs, rfl⟩
    have hsz : d'.size = l.length := by have := hp.1; simpa using this
    have hpl : d'.toList.Perm l := by
      have := hp.2.2
      simp only [← hsz, Array.extract_size] at this
      simpa [hsz] using this
    have hH : HoldsK enP 2 (sortWorldK enP 2 w g 0 n d' os) g 0 d' := holdsK_grow enP 2 _ os g 0 d' (by unfold putRowK; simpa using hg) (holdsK_putRowK enP 2 (Sort.ahead w n) g 0 l.toArray d' (holdsK_ahead enP 2 w n g 0 _ (holds_cl hC hF)) (by simpa using hsz))
    refine ⟨rfl, _, cap, d'.toList, rfl, hpl, ?_, ⟨.inr ⟨g, 0, rfl, cl_holds hH⟩, by simpa using hsz, hc, by unfold maxLen at hm; omega, fun h => by cases h⟩, un.grownBy_put _, fun x h => by cases h; exact ⟨⟨_, _, hh⟩, hbg⟩⟩
    unfold WSrt
    rw [List.pairwise_iff_getElem]
    intro i j hi hj hij
    have h1 := hs i j (Nat.zero_le _) hij (by rw [← hsz]; simpa using hj)
    rw [lt_enP] at h1
    simp at hi hj
    simp [hi, hj] at h1
    simpa using h1
end Go.Proofs.YtkgclmikhpjheaaGreatDoor.pb
namespace Go.Proofs.YtkgclmikhpjheaaGreatDoor.pa
open Go.RowKit dec

theorem KpT.mono {ok ok' : TypeId → Prop} {C C' : Nat} {w w' : World} (h : KpT ok C w w') (hok : ∀ T, ok' T → ok T) (hC : C ≤ C') : KpT ok' C' w w' := fun b T cs fr hb hT hc => h b T cs fr (Nat.le_trans hC hb) (hok T hT) hc
/-- What changes no block but of problems. -/
theorem Mf.kp {w0 : World} {base B g : Nat} {ta : Option Addr} {n cap : Nat} {m : Mo} {l : List Tk} {w w' : World} (h : Mf w0 base B g ta n cap w m l) (K : KpT (fun T => T ≠ 60) 0 w w') (hb : Below w0.heap.size w w') : Mf w0 base B g ta n cap w' m l := by
  have h1 := h.h1
  have h2 := h.h2
  have h3 := h.h3
  obtain ⟨tv, fv, ct, cf, b, r1, r2, e1, e2⟩ := h.mm.ex
  have hB : w'.heap[B]? = w.heap[B]? := by
    obtain ⟨cs, fr, ht⟩ := h.ps.tag
    exact K B _ cs fr (Nat.zero_le _) (by decide) ht
  have hT : ∀ b off, ta = some ⟨b, off, none⟩ → w'.heap[b]? = w.heap[b]? := fun b off e => by
    obtain ⟨t1, t2, cs, fr, t3⟩ := h.tok b off e
    exact K b _ cs fr (Nat.zero_le _) (by decide) t3
  refine ⟨Ps.pass h.ps h.cB hB hT h.tabs (h.bel.trans hb) (by omega), (World.cell?_of_block (w := w) hB).trans h.cB, fun b off e => ?_, h.tabs, h.bel.trans hb, h1, h2, h3, by have := h.h4; have := hb.size; omega, ⟨tv, fv, ct, cf, (K g _ _ _ (Nat.zero_le _) (by decide) b).trans b, ?_, ?_, ?_, ?_⟩⟩
  · obtain ⟨t1, t2, t3⟩ := h.tok b off e
    exact ⟨t1, t2, K.tg (Nat.zero_le _) (by decide) t3⟩
  · exact Rw.kpT r1 K (by decide) (Nat.zero_le _)
  · exact Rw.kpT r2 K (by decide) (Nat.zero_le _)
  · exact e1.map fun c y hq => TbQ.kpT (ok := fun T => T ≠ 60) (by decide) (by decide) hq (KpT.mono K (fun _ h => h) (Nat.zero_le _))
  · exact e2.map fun c y hq => FeQ.kpT (ok := fun T => T ≠ 60) (by decide) (by decide) hq (KpT.mono K (fun _ h => h) (Nat.zero_le _))
theorem Mf.prob {w0 : World} {base B g k : Nat} {ta : Option Addr} {n cap : Nat} {m : Mo} {l : List Tk} {w w' : World} {cs : Array Value} (h : Mf w0 base B g ta n cap w m l) (hs : St k w w') (hb : Blk w k 60 cs) (hk : base ≤ k) : Mf w0 base B g ta n cap w' m l :=
  h.kp (St.kpT hs hb (by simp) 0) (hs.below (by have := h.h1; have := h.h2; have := h.h3; omega))
theorem pb_grow {w w' : World} {base : Nat} {v : Value} {l : List Pb} (hO : pb.Own w base v l) (hg : w.grownBy w' v.ownBlock) : KpT (fun T => T ≠ 60) 0 w w' := fun b T cs fr _ hT hc => hg.block b (heap_lt hc) (by
  intro e
  rcases hO.2 with ⟨rfl, _⟩ | ⟨g, cap, cur, rfl, _, hh, _⟩
  · cases e
  · cases e
    rw [hh] at hc
    cases hc
    exact hT rfl)
theorem pb_mq {w w' : World} {base B g : Nat} {v : Value} {l : List Pb} (hO : pb.Own w base v l) (Q : Mq B g w w') (hB : Tg w B 77) (hg : Tg w g 27) : pb.Own w' base v l := by
  obtain ⟨h1, h2⟩ := hO
  refine ⟨h1, ?_⟩
  rcases h2 with h0 | ⟨k, cap, cur, e, hbg, hh, r⟩
  · exact .inl h0
  · refine .inr ⟨k, cap, cur, e, hbg, ?_, r⟩
    rw [Q.block k _ cur (0, 0) hh ?_ ?_ (by decide) (by decide)]
    · exact hh
    · rintro rfl
      obtain ⟨cs, fr, ht⟩ := hB
      rw [ht] at hh
      cases hh
    · rintro rfl
      obtain ⟨cs, fr, ht⟩ := hg
      rw [ht] at hh
      cases hh
set_option maxRecDepth 100000 in
set_option maxHeartbeats 2000000 in
theorem mod1_r (bp : Nat) (w0 : World) (base B g : Nat) (ta : Option Addr) (n cap : Nat) (m : Mo) (l : List Tk) (w : World) (h : Mf w0 base B g ta n cap w m l) (hn1 : m.ts.length < 1048577) (hn2 : m.fs.length < 1048577) (hp : Blk w bp 75 #[.pointer (some ⟨B, 0, none⟩)]) :
    Calls Tryz.prog 33 #[.pointer (some ⟨bp, 0, none⟩), .pointer (some ⟨g, 0, none⟩)] w (Mst w0 base B g ta n cap m (itmR m l) w) := by
  have I := Lib.hid (item_r w0 base B g ta n cap m l w h hn1 hn2)
  have e0 : w.cell? ⟨bp, 0, none⟩ = some (.pointer (some ⟨B, 0, none⟩)) := hp.cell 0
  clear h hp
  go_enter Tryz.func33, Tryz.ntmps33
  go_wp2_with fail
  refine I.out.mono ?_
  rintro e w2 k2
  rcases hG : itmR m l with _ | ⟨m', l2⟩ | ⟨a, c, l2⟩
  · exact absurd hG (itmR_ne m l)
  · rw [hG] at k2
    obtain ⟨rfl, F9, Q9⟩ := k2
    have F9 := Lib.hid F9
    have Q9 := Lib.hid Q9
    go_wp2_with fail
    go_end0
    exact mst_ok hG F9.out Q9.out
  · rw [hG] at k2
    obtain ⟨rfl, F9, Q9⟩ := k2
    have F9 := Lib.hid F9
    have Q9 := Lib.hid Q9
    unfold thr
    go_wp2_with fail
    refine ⟨rfl, ?_⟩
    first | exact ⟨rfl, F9.out, Q9.out⟩ | (rw [hG]; exact ⟨rfl, F9.out, Q9.out⟩)
set_option maxRecDepth 100000 in
/-- An item is attempted. -/
theorem att_ok (bp : Nat) {w0 : World} {base B g : Nat} {ta : Option Addr} {n cap : Nat} {m m' : Mo} {l l' : List Tk} {w : World} (h : Mf w0 base B g ta n cap w m l) (hn1 : m.ts.length < 1048577) (hn2 : m.fs.length < 1048577) (hp : Blk w bp 75 #[.pointer (some ⟨B, 0, none⟩)]) (hG : itmR m l = .ok m' l') :
    Calls Tryz.prog 32 #[.func (.func 33) #[] #[.pointer (some ⟨bp, 0, none⟩), .pointer (some ⟨g, 0, none⟩)]] w fun e w' => e = .returned (.agg #[.int .i64 0, .int .i64 0]) ∧ Mf w0 base B g ta n cap w' m' l' ∧ Mq B g w w' := by
  have bb := balloc (b0 w) (.cells #[.int .i64 0, .int .i64 0] 60)
  have h1 := h.step (Mv.of bb) (h.ps.keeps bb)
  have hI := mod1_r bp w0 base B g ta n cap m l _ h1 hn1 hn2 (hp.past _)
  rw [hG] at hI
  have hBg : B < w.heap.size := h.ps.lt
  have hg : g < w.heap.size := Nat.lt_trans h.h2 hBg
  have n1 : w.heap.size ≠ B := Nat.ne_of_gt hBg
  have n2 : w.heap.size ≠ g := Nat.ne_of_gt hg
  have hY : ∀ w', Mq B g (w.alloc (.cells #[.int .i64 0, .int .i64 0] 60)) w' → Blk w' w.heap.size 60 #[.int .i64 0, .int .i64 0] := fun w' Q => by
    have := Q.block w.heap.size 60 _ (0, 0) (Blk.new w 60 #[.int .i64 0, .int .i64 0]) n1 n2 (by decide) (by decide)
    exact this.trans (Blk.new w _ _)
  refine (attempt_ok 33 _ w (fun w' => Mf w0 base B g ta n cap w' m' l' ∧ Mq B g (w.alloc (.cells #[.int .i64 0, .int .i64 0] 60)) w') (fun w' hY' => hY w' hY'.2) hI (fun _ => rfl)).mono ?_
  rintro e w'' ⟨w', ⟨F', Q'⟩, S', rfl⟩
  have hsz := Q'.size
  simp at hsz
  refine ⟨rfl, F'.prob S' (hY w' Q') h.h4, by have := S'.size; omega, fun k T cs fr hk hn hg' t1 t2 => ?_⟩
  have hlt := heap_lt hk
  have a1 := Go.heap_alloc_old w (.cells #[.int .i64 0, .int .i64 0] 60) hlt
  have a2 := Q'.block k T cs fr (a1.trans hk) hn hg' t1 t2
  exact (S'.block k (by omega)).trans (a2.trans a1)
set_option maxRecDepth 100000 in
/-- An item is attempted. -/
theorem att_no (bp : Nat) {w0 : World} {base B g : Nat} {ta : Option Addr} {n cap : Nat} {m : Mo} {l l' : List Tk} {w : World} (h : Mf w0 base B g ta n cap w m l) (hn1 : m.ts.length < 1048577) (hn2 : m.fs.length < 1048577) (hp : Blk w bp 75 #[.pointer (some ⟨B, 0, none⟩)]) {a c : Int} (hG : itmR m l = .no a c l') :
    Calls Tryz.prog 32 #[.func (.func 33) #[] #[.pointer (some ⟨bp, 0, none⟩), .pointer (some ⟨g, 0, none⟩)]] w fun e w' => e = .returned (.agg #[.int .i64 a, .int .i64 c]) ∧ Mf w0 base B g ta n cap w' m l' ∧ Mq B g w w' := by
  have bb := balloc (b0 w) (.cells #[.int .i64 0, .int .i64 0] 60)
  have h1 := h.step (Mv.of bb) (h.ps.keeps bb)
  have hI := mod1_r bp w0 base B g ta n cap m l _ h1 hn1 hn2 (hp.past _)
  rw [hG] at hI
  have hBg : B < w.heap.size := h.ps.lt
  have hg : g < w.heap.size := Nat.lt_trans h.h2 hBg
  have n1 : w.heap.size ≠ B := Nat.ne_of_gt hBg
  have n2 : w.heap.size ≠ g := Nat.ne_of_gt hg
  have hY : ∀ w', Mq B g (w.alloc (.cells #[.int .i64 0, .int .i64 0] 60)) w' → Blk w' w.heap.size 60 #[.int .i64 0, .int .i64 0] := fun w' Q => by
    have := Q.block w.heap.size 60 _ (0, 0) (Blk.new w 60 #[.int .i64 0, .int .i64 0]) n1 n2 (by decide) (by decide)
    exact this.trans (Blk.new w _ _)
  refine (attempt_no 33 _ w a c (fun w' => Mf w0 base B g ta n cap w' m l' ∧ Mq B g (w.alloc (.cells #[.int .i64 0, .int .i64 0] 60)) w') (fun w' hY' => hY w' hY'.2) hI (fun _ => rfl)).mono ?_
  rintro e w'' ⟨w', ⟨F', Q'⟩, S', rfl⟩
  have hsz := Q'.size
  simp at hsz
  refine ⟨rfl, F'.prob S' (hY w' Q') h.h4, by have := S'.size; omega, fun k T cs fr hk hn hg' t1 t2 => ?_⟩
  have hlt := heap_lt hk
  have a1 := Go.heap_alloc_old w (.cells #[.int .i64 0, .int .i64 0] 60) hlt
  have a2 := Q'.block k T cs fr (a1.trans hk) hn hg' t1 t2
  exact (S'.block k (by omega)).trans (a2.trans a1)
end Go.Proofs.YtkgclmikhpjheaaGreatDoor.pa
namespace Go.Proofs.YtkgclmikhpjheaaGreatDoor.pa
open Go.RowKit dec

/-- What a whole source is read as: the module, and the problems, not yet sorted. -/
def modR (s : ByteArray) : Option (Mo × List Pb) := modL ((tokL s).length + 1) ⟨[], []⟩ (tokB s) (tokL s)
/-- The value of a module. -/
def Mov (C : Nat) (w : World) (v : Value) (m : Mo) : Prop := ∃ ta tc fa fc, v = .agg #[.slice ta m.ts.length tc, .slice fa m.fs.length fc] ∧ RowAt 93 4 C (TbQ C) w ta m.ts ∧ RowAt 96 18 C (FeQ C) w fa m.fs
def zM : Array Value := #[.slice none 0 0, .slice none 0 0]
theorem zM_one : zM.all (·.oneCell') = true := by simp [zM, Value.oneCell']
set_option maxRecDepth 100000 in
set_option maxHeartbeats 2000000 in
theorem module_no (a0 : Option Addr) (n0 cap : Nat) (s : ByteArray) (w : World) (hS : Bs w a0 n0 cap s) (T : Tabs w) (he : tokE s ≠ 0) :
    Calls Tryz.prog 12 #[.slice a0 n0 cap] w fun e w' => e = .returned (.tuple #[.agg zM, .slice none 0 0, .int .i64 (tokE s)]) ∧ Below w.heap.size w w' := by
  have bb := balloc (b0 w) (.cells zM 27)
  have R := Lib.hid (Blk.new w 27 zM)
  have TC := Lib.hid (tokens_any a0 n0 cap s _ (hS.keeps bb) (T.stays bb))
  have BB := Lib.hid bb
  have q1 : (tokE s != 0) = true := by simp [he]
  clear hS T bb he
  go_enter Tryz.func12, Tryz.ntmps12
  go_wp2_with fail
  refine TC.out.mono ?_
  rintro e w2 ⟨vt, vb, rfl, Ot, Ob, b2⟩
  have R2 := Lib.hid (R.out.below b2 R.out.lt)
  have B2 := Lib.hid (bnext BB.out b2)
  clear b2 TC Ot Ob R BB
  go_wp2_with (refine arm_storeT infMo (.tmp 2) (.tmp 16) rfl rfl _ _ zM _ rfl rfl R2.out rfl rfl zM_one ?_; intro w9 hb9 hs9)
  refine ret_T3 infMo Tryz.underlying27 rfl rfl _ _ _ _ _ rfl hb9 rfl ?_
  exact ⟨rfl, B2.out.trans (hs9.below (Nat.le_refl _))⟩
/-- The problems as they are handed back. -/
def Pbv (w : World) (u : Value) (b : List Pb) : Prop := ∃ p a c, p.Perm b ∧ pb.WSrt p ∧ u = .slice a (min b.length 32) c ∧ pb.Sl w a (min b.length 32) c (p.take 32)
set_option maxRecDepth 100000 in
theorem slice_32 (a : Option Addr) (n c : Nat) (h : n ≤ c) (W : World) : (Instr.slice 28 (.slice a n c) none (some (.int .i64 (min (n : Int) 32))) none).run Tryz.prog W = .ok (.slice a (min n 32) c) W := by
  have hel : Tryz.prog.elem 28 = 60 := by kernel_rfl
  have h1 := run_slice_h (P := Tryz.prog) (w := W) 28 a n c (by rw [hel]; exact Tryz.underlying28) .i64 (min (n : Int) 32) (by omega) (by omega)
  have e : (min (n : Int) 32).toNat = min n 32 := by omega
  rw [h1, hel, Tryz.sizeOf60, e]
  simp [Result.andThen, sliced]
  intro _
  cases a with
  | none => rfl
  | some x => simp only [Option.map_some, Option.some.injEq]; unfold Addr.add; split <;> simp_all
theorem itmR_len {m m' : Mo} {l r : List Tk} (h : itmR m l = .ok m' r) : m'.ts.length + m'.fs.length = m.ts.length + m.fs.length + 1 := by
  unfold itmR at h
  split at h
  · obtain ⟨t, q, h1, h2⟩ := bind_ok h
    cases h2
    simp
    omega
  · split at h
    · obtain ⟨t, q, h1, h2⟩ := bind_ok h
      cases h2
      simp
      omega
    · cases h
set_option maxRecDepth 100000 in
set_option maxHeartbeats 4000000 in
theorem module_any (a0 : Option Addr) (n0 cap : Nat) (s : ByteArray) (w : World) (hS : Bs w a0 n0 cap s) (T : Tabs w) (he : tokE s = 0) (m9 : Mo) (b9 : List Pb) (hm : modR s = some (m9, b9)) :
    Calls Tryz.prog 12 #[.slice a0 n0 cap] w fun e w' => ∃ v u, e = .returned (.tuple #[v, u, .int .i64 0]) ∧ Mov w.heap.size w' v m9 ∧ Pbv w' u b9 ∧ Below w.heap.size w w' := by
  have bb := balloc (b0 w) (.cells zM 27)
  have R := Lib.hid (Blk.new w 27 zM)
  have TC := Lib.hid (tokens_any a0 n0 cap s _ (hS.keeps bb) (T.stays bb))
  have T0 := Lib.hid T
  have BB := Lib.hid bb
  have HM := Lib.hid hm
  have hz := Lib.hid (tl_tok (tokE_small he))
  clear hS T bb hm
  go_enter Tryz.func12, Tryz.ntmps12
  go_wp2_with fail
  refine TC.out.mono ?_
  rintro e w2 ⟨vt, vb, rfl, Ot, Ob, b2⟩
  have R2 := Lib.hid (R.out.below b2 R.out.lt)
  have B2 := Lib.hid (bnext BB.out b2)
  have hs2 := Lib.hid (show w.heap.size + 1 ≤ w2.heap.size from by have := b2.size; simpa using this)
  rw [show (w.alloc (.cells zM 27)).heap.size = w.heap.size + 1 by simp] at Ot Ob
  obtain ⟨ta, tcap, rfl, St0⟩ := Ot.sl
  replace Ob := Lib.hid Ob
  rw [he]
  have hOt : ∀ b off, ta = some ⟨b, off, none⟩ → w.heap.size + 1 ≤ b ∧ b < w2.heap.size ∧ Tg w2 b 79 := fun b off e => by
    rcases Ot.2 with ⟨h1, _⟩ | ⟨g', cp, cur, h1, hbg, hh, _⟩
    · injection h1 with i1
      rw [i1] at e
      cases e
    · injection h1 with i1
      rw [i1] at e
      cases e
      exact ⟨hbg, heap_lt hh, _, _, hh⟩
  have pc := balloc (balloc (b0 w2) (.cells #[.slice ta (tokL s).length tcap, .int .i64 0] 77)) (.cells #[.pointer (some ⟨w2.heap.size, 0, none⟩)] 75)
  have BP := (Blk.new w2 77 #[.slice ta (tokL s).length tcap, .int .i64 0]).past (.cells #[.pointer (some ⟨w2.heap.size, 0, none⟩)] 75)
  have BQ : Blk ((w2.alloc (.cells #[.slice ta (tokL s).length tcap, .int .i64 0] 77)).alloc (.cells #[.pointer (some ⟨w2.heap.size, 0, none⟩)] 75)) (w2.heap.size + 1) 75 #[.pointer (some ⟨w2.heap.size, 0, none⟩)] := by
    have := Blk.new (w2.alloc (.cells #[.slice ta (tokL s).length tcap, .int .i64 0] 77)) 75 #[.pointer (some ⟨w2.heap.size, 0, none⟩)]
    simpa using this
  have P3 : Ps ((w2.alloc (.cells #[.slice ta (tokL s).length tcap, .int .i64 0] 77)).alloc (.cells #[.pointer (some ⟨w2.heap.size, 0, none⟩)] 75)) w2.heap.size (tokL s) :=
    ⟨⟨ta, (tokL s).length, tcap, tokL s, 0, BP.cell 0, BP.cell 1, BP.free 1, St0.keeps pc, fun b off hb => (hOt b off hb).2.1, rfl⟩, hz.out, ⟨w2, T0.out.stays B2.out, pc, Nat.le_refl _⟩, BP.tg⟩
  have F3 := Lib.hid (show Mf w (w2.heap.size + 2) w2.heap.size w.heap.size ta (tokL s).length tcap ((w2.alloc (.cells #[.slice ta (tokL s).length tcap, .int .i64 0] 77)).alloc (.cells #[.pointer (some ⟨w2.heap.size, 0, none⟩)] 75)) ⟨[], []⟩ (tokL s) from
    ⟨P3, BP.cell 0, fun b off e => by
      obtain ⟨h1, h2, cs, fr, h3⟩ := hOt b off e
      exact ⟨by omega, by omega, cs, fr, (pc.block b h2).trans h3⟩, T0.out, bnext B2.out pc, Nat.le_refl _, by have := hs2.out; omega, by omega, by simp, ⟨.slice none 0 0, .slice none 0 0, [], [], R2.out.below pc R2.out.lt, Rw.nil _ _ _ _, Rw.nil _ _ _ _, Each.nil _ _, Each.nil _ _⟩⟩)
  have O3 := Lib.hid (Ob.out.keeps pc)
  have BQ3 := Lib.hid BQ
  have hlen := Lib.hid (show ([] : List Tb).length + ([] : List Fe).length + (tokL s).length ≤ 1048576 ∧ (tokB s).length + (tokL s).length ≤ 1048608 from by
    have h1 := hz.out.ln
    have h2 : (tokB s).length ≤ 32 := by unfold tokB; split <;> simp [List.length_take]; omega
    exact ⟨by simpa using h1, by omega⟩)
  clear pc BP BQ P3 hOt St0 Ot Ob TC R R2 BB T0
  go_wp2_with fail
  generalize ((w2.alloc (.cells #[.slice ta (tokL s).length tcap, .int .i64 0] 77)).alloc (.cells #[.pointer (some ⟨w2.heap.size, 0, none⟩)] 75)) = w3 at *
  have hmf : ∀ (fn : Fn) (first cap : Array Value) (w : World), (Instr.makeFunc fn first cap).run Tryz.prog w = .ok (.func fn first cap) w := fun _ _ _ _ => rfl
  have F0 := tf0
  go_loopg [3] ((tokL s).length + 1) (fun k v wr => ∃ (m : Mo) (b : List Pb) (l : List Tk), Hid (Mf w (w2.heap.size + 2) w2.heap.size w.heap.size ta (tokL s).length tcap wr m l) ∧ Hid (pb.Own wr (w.heap.size + 1) v b) ∧ Hid (Blk wr (w2.heap.size + 1) 75 #[.pointer (some ⟨w2.heap.size, 0, none⟩)]) ∧ Hid (modL k m b l = some (m9, b9)) ∧ Hid (m.ts.length + m.fs.length + l.length ≤ 1048576 ∧ b.length + l.length ≤ 1048608))
  case atStart => exact ⟨⟨[], []⟩, tokB s, tokL s, F3, O3, BQ3, HM, hlen⟩
  case round =>
    clear F3 O3 BQ3 HM hlen
    obtain ⟨m, b, l, F, O, Q, HM, hlen⟩ := hrel
    rcases gk with _ | gk
    · exact absurd HM.out (by simp [modL])
    have e0 : wr.cell? ⟨w2.heap.size + 1, 0, none⟩ = some (.pointer (some ⟨w2.heap.size, 0, none⟩)) := Q.out.cell 0
    go_wp2_with fail
    refine (now_any w2.heap.size l _ F.out.ps).mono ?_
    rintro e w4 ⟨rfl, b4⟩
    have F4 := Lib.hid (F.out.step (Mv.of b4) (F.out.ps.keeps b4))
    have O4 := Lib.hid (O.out.keeps b4)
    have Q4 := Lib.hid (Q.out.below b4 Q.out.lt)
    clear b4 F O Q e0
    by_cases h6 : (hd l).k = 6
    · have q1 : ((hd l).k != 6) = false := by simp [h6]
      obtain ⟨rfl, rfl⟩ : m = m9 ∧ b = b9 := by simpa [modL, h6] using HM.out
      clear h6 HM
      generalize hd l = x at *
      go_wp2_with fail
      refine (pb.sort_any (w.heap.size + 1) _ b w4 O4.out (by have := hlen.out; omega)).mono ?_
      rintro e w5 ⟨rfl, a5, c5, p, rfl, hp, hs, S5, g5, hT5⟩
      have F5 := F4.out.kp (pb_grow O4.out g5) ((Below.refl w.heap.size w4).grown g5 F4.out.bel.size (fun k hk => by have := (hT5 k hk).2; omega))
      obtain ⟨tv, fv, ct, cf, bM, r1, r2, e1, e2⟩ := F5.mm.ex
      obtain ⟨ra, rc, rfl, RA⟩ := r1.row e1.1 e1.2
      obtain ⟨fa, fc, rfl, FA⟩ := r2.row e2.1 e2.2
      have hne : ∀ x, a5 = some x → x.block ≠ w.heap.size := fun x hx => by
        subst hx
        have := (hT5 x.block rfl).2
        omega
      have sl := slice_32 a5 b.length c5 S5.hcap
      have hbel := Lib.hid F5.bel
      have hbase := Lib.hid (show w.heap.size < w2.heap.size + 2 from by have := hs2.out; omega)
      replace RA := Lib.hid RA
      replace FA := Lib.hid FA
      replace S5 := Lib.hid S5
      replace hne := Lib.hid hne
      clear r1 r2 e1 e2 F5 g5 hT5 F4 O4 Q4
      go_wp2_with fail
      refine wp_region_held_drew (S := fun w' => Blk w' w.heap.size 27 #[.slice ra m.ts.length rc, .slice fa m.fs.length fc]) (by kernel_rfl) bM (fun hH => ?_)
      refine held_take (i := 0) (d := 38) (v := .agg #[.slice ra m.ts.length rc, .slice fa m.fs.length fc]) rfl (by kernel_rfl) (by kernel_rfl) (by kernel_rfl) rfl (fun _ _ _ h => h) rfl hH (fun w' hS => yield_load infMo Tryz.underlying27 rfl (.tmp 2) rfl _ _ _ rfl hS rfl) ?_
      simp only [List.set_cons_zero, List.set_cons_succ]
      refine held_take (i := 1) (d := 39) (v := ?_) rfl (by kernel_rfl) (by kernel_rfl) (by kernel_rfl) rfl (fun _ _ _ h => h) rfl hH (fun w' hS => ?_) ?_
      rotate_left
      · go_simp; first | done | with_reducible rfl
      simp only [List.set_cons_zero, List.set_cons_succ]
      refine held_take (i := 2) (d := 40) (v := ?_) rfl (by kernel_rfl) (by kernel_rfl) (by kernel_rfl) rfl (fun _ _ _ h => h) rfl hH (fun w' hS => ?_) ?_
      rotate_left
      · go_simp; first | done | with_reducible rfl
      simp only [List.set_cons_zero, List.set_cons_succ]
      refine held_take (i := 3) (d := 41) (v := ?_) rfl (by kernel_rfl) (by kernel_rfl) (by kernel_rfl) rfl (fun _ _ _ h => h) rfl hH (fun w' hS => ?_) ?_
      rotate_left
      · go_simp; first | done | with_reducible rfl
      simp only [List.set_cons_zero, List.set_cons_succ]
      refine held_take (i := 4) (d := 42) (v := ?_) rfl (by kernel_rfl) (by kernel_rfl) (by kernel_rfl) rfl (fun _ _ _ h => h) rfl hH (fun w' hS => ?_) ?_
      rotate_left
      · go_simp; first | done | with_reducible rfl
      simp only [List.set_cons_zero, List.set_cons_succ]
      refine held_take (i := 5) (d := 43) (v := ?_) rfl (by kernel_rfl) (by kernel_rfl) (by kernel_rfl) rfl (fun _ _ _ h => h) rfl hH (fun w' hS => ?_) ?_
      rotate_left
      · go_simp; first | done | with_reducible rfl
      simp only [List.set_cons_zero, List.set_cons_succ]
      refine held_only (i := 6) rfl (by kernel_rfl) rfl (fun K hK => ?_)
      refine op_storeT infMo (.tmp 2) (.tmp 38) rfl _ _ _ _ rfl rfl hH rfl rfl (by simp [Value.oneCell']) ?_
      intro w9 hb9 hs9
      refine hK.out _ _ hb9 (fun hH => ?_)
      clear hK K
      simp only [Act.put]
      refine held_take (i := 7) (d := 3) (v := ?_) rfl (by kernel_rfl) (by kernel_rfl) (by kernel_rfl) rfl (fun _ _ _ h => h) rfl hH (fun w' hS => ?_) ?_
      rotate_left
      · go_simp; first | done | with_reducible rfl
      simp only [List.set_cons_zero, List.set_cons_succ]
      refine held_take (i := 8) (d := 4) (v := ?_) rfl (by kernel_rfl) (by kernel_rfl) (by kernel_rfl) rfl (fun _ _ _ h => h) rfl hH (fun w' hS => ?_) ?_
      rotate_left
      · go_simp; first | done | with_reducible rfl
      simp only [List.set_cons_zero, List.set_cons_succ]
      refine wpAnyH_done (by kernel_rfl) ?_ _
      go_wp2_with fail
      have K9 : Kp (w2.heap.size + 2) w5 w9 := hs9.kp hbase.out
      refine ret_T3 infMo Tryz.underlying27 rfl rfl _ _ _ _ _ rfl hb9 rfl ?_
      refine ⟨_, _, rfl, ⟨ra, rc, fa, fc, rfl, (RA.out.kpT trivial K9 fun c x hq => TbQ.kpT trivial trivial hq K9).less (Nat.le_of_lt hbase.out) fun c x hq => hq.less (Nat.le_of_lt hbase.out), (FA.out.kpT trivial K9 fun c x hq => FeQ.kpT trivial trivial hq K9).less (Nat.le_of_lt hbase.out) fun c x hq => hq.less (Nat.le_of_lt hbase.out)⟩, ⟨p, a5, c5, hp, hs, rfl, ?_, ?_, ?_, S5.out.hmax, S5.out.hno⟩, hbel.out.drew.trans (hs9.below (Nat.le_refl _))⟩
      · rcases S5.out.hat with h0 | ⟨bk, off, ea, hC⟩
        · exact .inl (by rw [List.length_take]; omega)
        · refine .inr ⟨bk, off, ea, fun j hj => ?_⟩
          have hbk := hs9.block bk (hne.out _ ea)
          have := hC.take 32 j hj
          exact ⟨(World.cell?_of_block (w := w5.drew) hbk).trans this.1, (World.cell?_of_block (w := w5.drew) hbk).trans this.2⟩
      · rw [List.length_take, S5.out.hn]
        omega
      · have := S5.out.hcap
        omega
    · have q1 : ((hd l).k != 6) = true := by simp [h6]
      have HM2 := HM.out
      rw [modL, if_neg h6] at HM2
      have H6 := Lib.hid h6
      clear h6 HM
      generalize hx : hd l = x at *
      replace hx := Lib.hid hx
      have Bg : Tg w4 w.heap.size 27 := by
        obtain ⟨tv, fv, ct, cf, bM, _⟩ := F4.out.mm.ex
        exact bM.tg
      replace Bg := Lib.hid Bg
      rcases hG : itmR m l with _ | ⟨m', l2⟩ | ⟨a, c, l2⟩
      · exact absurd hG (itmR_ne m l)
      · rw [hG] at HM2
        replace HM2 := Lib.hid HM2
        have h1 := Lib.hid (itmR_lt hG)
        have h2 := Lib.hid (itmR_len hG)
        have GG := Lib.hid hG
        clear hG
        go_wp2_with fail
        refine (att_ok (w2.heap.size + 1) F4.out (by have := hlen.out; omega) (by have := hlen.out; omega) Q4.out GG.out).mono ?_
        rintro e w5 ⟨rfl, F5, Q5⟩
        have O5 := Lib.hid (pb_mq O4.out Q5 F4.out.ps.tag Bg.out)
        have P5 := Lib.hid (show Blk w5 (w2.heap.size + 1) 75 #[.pointer (some ⟨w2.heap.size, 0, none⟩)] from (Q5.block _ _ _ _ Q4.out (by omega) (by have := hs2.out; omega) (by decide) (by decide)).trans Q4.out)
        replace F5 := Lib.hid F5
        clear Q5 F4 O4 Q4 Bg
        go_wp2_with (refine arm_storeT infPr (.tmp 7) (.tmp 26) rfl rfl _ _ _ _ rfl rfl (Blk.new _ _ _) rfl rfl (by simp [Value.oneCell']) ?_; intro w6 L hs; have c1 : w6.cell? ⟨w5.heap.size, 1, none⟩ = some (.int .i64 0) := L.cell 1)
        have bb := (balloc (b0 w5) (.cells #[.int .i64 0, .int .i64 0] 60)).trans (hs.below (Nat.le_refl _))
        go_roundg gk
        case measure => omega
        case rel => exact ⟨m', b, l2, Lib.hid (F5.out.step (Mv.of bb) (F5.out.ps.keeps bb)), Lib.hid (O5.out.keeps bb), Lib.hid (P5.out.below bb P5.out.lt), HM2, Lib.hid (by have := hlen.out; have := h1.out; have := h2.out; omega)⟩
      · rw [hG] at HM2
        replace HM2 := Lib.hid HM2
        have h1 := Lib.hid (lvR_no hG (by rw [hx.out]; exact H6.out))
        have q2 : (c != 0) = true := by simp [itmR_nz hG]
        have GG := Lib.hid hG
        clear hG
        go_wp2_with fail
        refine (att_no (w2.heap.size + 1) F4.out (by have := hlen.out; omega) (by have := hlen.out; omega) Q4.out GG.out).mono ?_
        rintro e w5 ⟨rfl, F5, Q5⟩
        have O5 := Lib.hid (pb_mq O4.out Q5 F4.out.ps.tag Bg.out)
        have P5 := Lib.hid (show Blk w5 (w2.heap.size + 1) 75 #[.pointer (some ⟨w2.heap.size, 0, none⟩)] from (Q5.block _ _ _ _ Q4.out (by omega) (by have := hs2.out; omega) (by decide) (by decide)).trans Q4.out)
        replace F5 := Lib.hid F5
        clear Q5 F4 O4 Q4 Bg
        have hb1 := Lib.hid (show b.length < 8796093022208 from by have := hlen.out; omega)
        have hww := Lib.hid (show w.heap.size + 1 ≤ w5.heap.size from by have := F5.out.h4; have := F5.out.h2; omega)
        go_wp2_with (first | (refine arm_loadT infPr Tryz.underlying60 rfl (.tmp 7) rfl rfl _ _ _ rfl L rfl ?_) | (refine arm_storeT infPr (.tmp 7) (.tmp 26) rfl rfl _ _ _ _ rfl rfl (Blk.new _ _ _) rfl rfl (by simp [Value.oneCell']) ?_; intro w6 L hs; have c1 : w6.cell? ⟨w5.heap.size, 1, none⟩ = some (.int .i64 c) := L.cell 1; have bb := (balloc (b0 w5) (.cells #[.int .i64 0, .int .i64 0] 60)).trans (hs.below (Nat.le_refl _))) | (at_builtin; refine pb.is_app (.tmp 30) (.tmp 32) rfl ?_; refine pb.wpList_push _ rfl (.tmp 30) (.tmp 32) rfl (w.heap.size + 1) _ b rfl (O5.out.keeps (balloc bb _)) w6.heap.size (a, c) rfl (pb.Bw.new _ (a, c) _) hb1.out (by have := hww.out; have := bb.size; simp; omega) ?_; intro v7 w7 O7 b7 g7; have b6 := balloc bb (.cells #[.int .i64 a, .int .i64 c] 60); have K7 := pb_grow (O5.out.keeps b6) g7; have P7 := (K7 _ _ _ _ (Nat.zero_le _) (by decide) (P5.out.below b6 P5.out.lt)).trans (P5.out.below b6 P5.out.lt); have F7 := Lib.hid ((F5.out.step (Mv.of b6) (F5.out.ps.keeps b6)).kp K7 (b7.mono (by omega))); have e7 : w7.cell? ⟨w2.heap.size + 1, 0, none⟩ = some (.pointer (some ⟨w2.heap.size, 0, none⟩)) := Blk.cell P7 0; replace P7 := Lib.hid P7; replace O7 := Lib.hid O7; clear K7 b6 b7 g7))
        refine (leave_any w2.heap.size l2 w7 F7.out.ps).mono ?_
        rintro e w8 ⟨rfl, P8, M8⟩
        have F8 := Lib.hid (F7.out.step M8 P8)
        have Bg : Tg w7 w.heap.size 27 := by
          obtain ⟨tv, fv, ct, cf, bM, _⟩ := F7.out.mm.ex
          exact bM.tg
        have O8 := Lib.hid (pb_mq O7.out (Mq.mv (g := w.heap.size) M8) F7.out.ps.tag Bg)
        have Q8 := Lib.hid (show Blk w8 (w2.heap.size + 1) 75 #[.pointer (some ⟨w2.heap.size, 0, none⟩)] from Blk.mv P7.out M8 (by omega) (Blk.lt P7.out))
        clear P8 M8 F7 O7 P7 Bg e7
        go_wp2_with fail
        go_roundg gk
        case measure => omega
        case rel => exact ⟨m, b ++ [(a, c)], lvR l2, F8, O8, Q8, HM2, Lib.hid (by have := hlen.out; have := h1.out; rw [List.length_append, List.length_singleton]; omega)⟩
end Go.Proofs.YtkgclmikhpjheaaGreatDoor.pa
