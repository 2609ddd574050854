/-
  The parser's methods that read a name or a number; Arms of a walk over variables that hold an expression; the frame of a method of a scope; Steps of a walk through a region of open order, an operation at a time; A factor of a unit; A list of factors.
-/
import Derived.BigRegion
import Derived.WalkKit
import Derived.Deep.RegionHeld3
import Derived.Deep.LoopGhost
import Derived.Test.YtbpijgddfaefkaaGreatDoorProg
import Derived.Test.YtbpijgddfaefkaaGreatDoorU02
import Derived.Test.YtbpijgddfaefkaaGreatDoorU05
import Derived.Test.YtbpijgddfaefkaaGreatDoorU06
namespace Go.Proofs.YtbpijgddfaefkaaGreatDoor.pa
open Go.RowKit dec

theorem bind_okE {α β : Type} (v : α) (l : List Tk) (g : α → List Tk → Rs β) : (Rs.ok v l).bind g = g v l := rfl
/-- A last call. -/
theorem bind_id {α : Type} (x : Rs α) : (x.bind fun v r => .ok v r) = x := by cases x <;> rfl
theorem tak_size {k : Int} {l r : List Tk} {v : ByteArray} (h : Tl l) (hk : tak k l = .ok v r) : v.size ≤ 1048576 := by
  unfold tak at hk
  split at hk
  · cases hk
    exact h.hd
  · cases hk
/-- Nothing may follow. -/
def endR (l : List Tk) : Rs Unit := if (hd l).k = 6 then .ok () l else wrg l
set_option maxRecDepth 100000 in
set_option maxHeartbeats 1000000 in
theorem name_r (B : Nat) (l : List Tk) (w : World) (h : Ps w B l) (r : Rs ByteArray) (hr : nam l = r) (hne : r ≠ .out) :
    Calls Tryz.prog 94 #[.pointer (some ⟨B, 0, none⟩)] w (Pst B Sv r w) := by
  have P := Lib.hid h
  have M := Lib.hid (Mv.refl w.heap.size B w)
  have NE := Lib.hid hne
  unfold nam at hr
  have HR := Lib.hid hr
  clear h hne hr
  have C1 := Lib.hid (now_any B l w P.out)
  have C2 := Lib.hid (fun W => Go.Proofs.YtbpijgddfaefkaaGreatDoor.name_any (hd l).t P.out.tl.hd W)
  have C4 := Lib.hid (fun W => wrong_any B l W)
  have F1 := tf1
  have F2 := mi_prob
  replace HR := HR.out
  cases hn : Go.Proofs.YtbpijgddfaefkaaGreatDoor.name (hd l).t
  · rw [hn] at C2
    rw [hn, if_neg (by decide)] at HR
    unfold wrg at HR
    replace HR := Lib.hid HR
    clear hn
    generalize hd l = x at *
    obtain ⟨xk, xt, xa⟩ := x
    simp only at C1 C2 C4
    go_enter Tryz.func94, Tryz.ntmps94
    go_wp2_with fail
    refine (C1.out).mono ?_
    rintro e w1 ⟨rfl, b⟩
    have mm := Mv.of (B := B) b
    replace M := Lib.hid (M.out.next mm)
    replace P := Lib.hid (P.out.keeps b)
    clear mm b
    go_wp2_with fail
    refine (C2.out w1 P.out.tabs).mono ?_
    rintro e w2 ⟨rfl, b⟩
    have mm := Mv.of (B := B) b
    replace M := Lib.hid (M.out.next mm)
    replace P := Lib.hid (P.out.keeps b)
    clear mm b
    go_wp2_with fail
    refine (C4.out w2 P.out).mono ?_
    rintro e w3 ⟨rfl, b⟩
    have mm := Mv.of (B := B) b
    replace M := Lib.hid (M.out.next mm)
    replace P := Lib.hid (P.out.keeps b)
    clear mm b
    go_wp2_with fail
    exact ⟨rfl, pst_no HR.out.symm P.out M.out⟩
  · rw [hn] at C2
    rw [hn, if_pos rfl, ← bind_id (tak 1 l)] at HR
    replace HR := Lib.hid HR
    clear hn C4
    generalize hd l = x at *
    obtain ⟨xk, xt, xa⟩ := x
    simp only at C1 C2
    go_enter Tryz.func94, Tryz.ntmps94
    go_wp2_with fail
    refine (C1.out).mono ?_
    rintro e w1 ⟨rfl, b⟩
    have mm := Mv.of (B := B) b
    replace M := Lib.hid (M.out.next mm)
    replace P := Lib.hid (P.out.keeps b)
    clear mm b
    go_wp2_with fail
    refine (C2.out w1 P.out.tabs).mono ?_
    rintro e w2 ⟨rfl, b⟩
    have mm := Mv.of (B := B) b
    replace M := Lib.hid (M.out.next mm)
    replace P := Lib.hid (P.out.keeps b)
    clear mm b
    go_wp2_with fail
    refine (take_any B 1 (by decide) l w2 P.out).mono ?_
    rintro e w3 h3
    rcases hG3 : tak 1 l with _ | ⟨v3, l3⟩ | ⟨a3, c3, l3⟩
    · exact absurd (by rw [← HR.out, hG3]; rfl) NE.out
    rotate_left
    · rw [hG3] at h3
      obtain ⟨rfl, pp, mm⟩ := h3
      unfold thr
      have hno := Lib.hid (show r = .no a3 c3 l3 by rw [← HR.out, hG3]; rfl)
      have PP := Lib.hid pp
      have MM := Lib.hid (M.out.next mm)
      clear pp mm hG3
      go_wp2_with fail
      exact ⟨rfl, pst_no hno.out PP.out MM.out⟩
    rw [hG3] at h3
    obtain ⟨u3, rfl, vv, pp, mm⟩ := h3
    replace HR := HR.out
    rw [hG3] at HR
    simp only [bind_okE] at HR
    replace HR := Lib.hid HR
    replace M := Lib.hid (M.out.next mm)
    replace P := Lib.hid pp
    clear pp mm hG3
    obtain rfl : u3 = .string v3 := vv
    go_wp2_with fail
    go_ret
    exact pst_ok (by rw [← HR.out]) rfl P.out M.out
set_option maxRecDepth 100000 in
set_option maxHeartbeats 1000000 in
theorem nameAfter_r (B : Nat) (s : ByteArray) (l : List Tk) (w : World) (h : Ps w B l) (r : Rs ByteArray) (hr : nma s l = r) (hne : r ≠ .out) :
    Calls Tryz.prog 120 #[.pointer (some ⟨B, 0, none⟩), .string s] w (Pst B Sv r w) := by
  have P := Lib.hid h
  have M := Lib.hid (Mv.refl w.heap.size B w)
  have NE := Lib.hid hne
  unfold nma at hr
  conv at hr => lhs; arg 2; ext _ r; rw [← bind_id (nam r)]
  have HR := Lib.hid hr
  clear h hne hr
  go_enter Tryz.func120, Tryz.ntmps120
  go_wp2_with fail
  refine (need_any B s l w P.out).mono ?_
  rintro e w1 h1
  rcases hG1 : need s l with _ | ⟨v1, l1⟩ | ⟨a1, c1, l1⟩
  · exact absurd (by rw [← HR.out, hG1]; rfl) NE.out
  rotate_left
  · rw [hG1] at h1
    obtain ⟨rfl, pp, mm⟩ := h1
    unfold thr
    have hno := Lib.hid (show r = .no a1 c1 l1 by rw [← HR.out, hG1]; rfl)
    have PP := Lib.hid pp
    have MM := Lib.hid (M.out.next mm)
    clear pp mm hG1
    go_wp2_with fail
    exact ⟨rfl, pst_no hno.out PP.out MM.out⟩
  rw [hG1] at h1
  obtain ⟨u1, rfl, vv, pp, mm⟩ := h1
  replace HR := HR.out
  rw [hG1] at HR
  simp only [bind_okE] at HR
  replace HR := Lib.hid HR
  replace M := Lib.hid (M.out.next mm)
  replace P := Lib.hid pp
  clear pp mm hG1
  obtain rfl : u1 = .tuple #[] := vv
  go_wp2_with fail
  refine (name_r B l1 w1 P.out _ rfl (nam_ne _)).mono ?_
  rintro e w2 h2
  rcases hG2 : nam l1 with _ | ⟨v2, l2⟩ | ⟨a2, c2, l2⟩
  · exact absurd (by rw [← HR.out, hG2]; rfl) NE.out
  rotate_left
  · rw [hG2] at h2
    obtain ⟨rfl, pp, mm⟩ := h2
    unfold thr
    have hno := Lib.hid (show r = .no a2 c2 l2 by rw [← HR.out, hG2]; rfl)
    have PP := Lib.hid pp
    have MM := Lib.hid (M.out.next mm)
    clear pp mm hG2
    go_wp2_with fail
    exact ⟨rfl, pst_no hno.out PP.out MM.out⟩
  rw [hG2] at h2
  obtain ⟨u2, rfl, vv, pp, mm⟩ := h2
  replace HR := HR.out
  rw [hG2] at HR
  simp only [bind_okE] at HR
  replace HR := Lib.hid HR
  replace M := Lib.hid (M.out.next mm)
  replace P := Lib.hid pp
  clear pp mm hG2
  obtain rfl : u2 = .string v2 := vv
  go_wp2_with fail
  go_ret
  exact pst_ok (by rw [← HR.out]) rfl P.out M.out
set_option maxRecDepth 100000 in
set_option maxHeartbeats 1000000 in
theorem integer_r (B : Nat) (l : List Tk) (w : World) (h : Ps w B l) (r : Rs Int) (hr : int l = r) (hne : r ≠ .out) :
    Calls Tryz.prog 123 #[.pointer (some ⟨B, 0, none⟩)] w (Pst B Iv r w) := by
  have P := Lib.hid h
  have M := Lib.hid (Mv.refl w.heap.size B w)
  have NE := Lib.hid hne
  unfold int at hr
  have HR := Lib.hid hr
  clear h hne hr
  have SZ := Lib.hid (fun v l1 => tak_size (k := 2) (l := l) (v := v) (r := l1) P.out.tl)
  go_enter Tryz.func123, Tryz.ntmps123
  go_wp2_with fail
  refine (take_any B 2 (by decide) l w P.out).mono ?_
  rintro e w1 h1
  rcases hG1 : tak 2 l with _ | ⟨v1, l1⟩ | ⟨a1, c1, l1⟩
  · exact absurd (by rw [← HR.out, hG1]; rfl) NE.out
  rotate_left
  · rw [hG1] at h1
    obtain ⟨rfl, pp, mm⟩ := h1
    unfold thr
    have hno := Lib.hid (show r = .no a1 c1 l1 by rw [← HR.out, hG1]; rfl)
    have PP := Lib.hid pp
    have MM := Lib.hid (M.out.next mm)
    clear pp mm hG1
    go_wp2_with fail
    exact ⟨rfl, pst_no hno.out PP.out MM.out⟩
  rw [hG1] at h1
  obtain ⟨u1, rfl, vv, pp, mm⟩ := h1
  replace HR := HR.out
  rw [hG1] at HR
  simp only [bind_okE] at HR
  replace HR := Lib.hid HR
  replace M := Lib.hid (M.out.next mm)
  replace P := Lib.hid pp
  clear pp mm
  replace hG1 := Lib.hid hG1
  obtain rfl : u1 = .string v1 := vv
  go_wp2_with fail
  refine (atoi_any v1 (SZ.out v1 l1 hG1.out) w1 P.out.tabs).mono ?_
  rintro e w2 ⟨x, rfl, b⟩
  have mm := Mv.of (B := B) b
  replace M := Lib.hid (M.out.next mm)
  replace P := Lib.hid (P.out.keeps b)
  clear mm b
  go_wp2_with fail
  go_ret
  exact pst_ok (by rw [← HR.out]) rfl P.out M.out
set_option maxRecDepth 100000 in
set_option maxHeartbeats 1000000 in
theorem decimal_r (B : Nat) (l : List Tk) (w : World) (h : Ps w B l) (r : Rs Int) (hr : deci l = r) (hne : r ≠ .out) :
    Calls Tryz.prog 217 #[.pointer (some ⟨B, 0, none⟩)] w (Pst B Iv r w) := by
  have P := Lib.hid h
  have M := Lib.hid (Mv.refl w.heap.size B w)
  have NE := Lib.hid hne
  unfold deci at hr
  have HR := Lib.hid hr
  clear h hne hr
  have SZ := Lib.hid (fun v l1 => tak_size (k := 3) (l := l) (v := v) (r := l1) P.out.tl)
  go_enter Tryz.func217, Tryz.ntmps217
  go_wp2_with fail
  refine (take_any B 3 (by decide) l w P.out).mono ?_
  rintro e w1 h1
  rcases hG1 : tak 3 l with _ | ⟨v1, l1⟩ | ⟨a1, c1, l1⟩
  · exact absurd (by rw [← HR.out, hG1]; rfl) NE.out
  rotate_left
  · rw [hG1] at h1
    obtain ⟨rfl, pp, mm⟩ := h1
    unfold thr
    have hno := Lib.hid (show r = .no a1 c1 l1 by rw [← HR.out, hG1]; rfl)
    have PP := Lib.hid pp
    have MM := Lib.hid (M.out.next mm)
    clear pp mm hG1
    go_wp2_with fail
    exact ⟨rfl, pst_no hno.out PP.out MM.out⟩
  rw [hG1] at h1
  obtain ⟨u1, rfl, vv, pp, mm⟩ := h1
  replace HR := HR.out
  rw [hG1] at HR
  simp only [bind_okE] at HR
  replace HR := Lib.hid HR
  replace M := Lib.hid (M.out.next mm)
  replace P := Lib.hid pp
  clear pp mm
  replace hG1 := Lib.hid hG1
  obtain rfl : u1 = .string v1 := vv
  go_wp2_with fail
  refine (parse_any v1 w1 (by have := SZ.out v1 l1 hG1.out; omega) P.out.tabs.pow).mono ?_
  rintro e w2 ⟨rfl, b⟩
  have mm := Mv.of (B := B) b
  replace M := Lib.hid (M.out.next mm)
  replace P := Lib.hid (P.out.keeps b)
  clear mm b
  go_wp2_with fail
  go_ret
  exact pst_ok (by rw [← HR.out]) rfl P.out M.out
set_option maxRecDepth 100000 in
set_option maxHeartbeats 1000000 in
theorem end_r (B : Nat) (l : List Tk) (w : World) (h : Ps w B l) (r : Rs Unit) (hr : endR l = r) (hne : r ≠ .out) :
    Calls Tryz.prog 88 #[.pointer (some ⟨B, 0, none⟩)] w (Pst B Nv r w) := by
  have P := Lib.hid h
  have M := Lib.hid (Mv.refl w.heap.size B w)
  have NE := Lib.hid hne
  unfold endR wrg at hr
  have HR := Lib.hid hr
  clear h hne hr
  have C1 := Lib.hid (now_any B l w P.out)
  have C4 := Lib.hid (fun W => wrong_any B l W)
  have F1 := tf0
  have F2 := mi_prob
  replace HR := HR.out
  generalize hd l = x at *
  obtain ⟨xk, xt, xa⟩ := x
  simp only at C1 C4 HR
  by_cases hk : xk = 6
  · have q1 : (xk != 6) = false := by simp [hk]
    rw [if_pos hk] at HR
    replace HR := Lib.hid HR
    clear hk
    go_enter Tryz.func88, Tryz.ntmps88
    go_wp2_with fail
    refine (C1.out).mono ?_
    rintro e w1 ⟨rfl, b⟩
    have mm := Mv.of (B := B) b
    replace M := Lib.hid (M.out.next mm)
    replace P := Lib.hid (P.out.keeps b)
    clear mm b
    go_wp2_with fail
    go_end0
    exact pst_ok HR.out.symm rfl P.out M.out
  · have q1 : (xk != 6) = true := by simp [hk]
    rw [if_neg hk] at HR
    replace HR := Lib.hid HR
    clear hk
    go_enter Tryz.func88, Tryz.ntmps88
    go_wp2_with fail
    refine (C1.out).mono ?_
    rintro e w1 ⟨rfl, b⟩
    have mm := Mv.of (B := B) b
    replace M := Lib.hid (M.out.next mm)
    replace P := Lib.hid (P.out.keeps b)
    clear mm b
    go_wp2_with fail
    refine (C4.out w1 P.out).mono ?_
    rintro e w2 ⟨rfl, b⟩
    have mm := Mv.of (B := B) b
    replace M := Lib.hid (M.out.next mm)
    replace P := Lib.hid (P.out.keeps b)
    clear mm b
    go_wp2_with fail
    exact ⟨rfl, pst_no HR.out.symm P.out M.out⟩
end Go.Proofs.YtbpijgddfaefkaaGreatDoor.pa
namespace Go.Proofs.YtbpijgddfaefkaaGreatDoor
open Go.RowKit dec

theorem infX : (Tryz.prog.info? 43).map (·.size) = some 12 := by kernel_rfl
theorem arm_store {ops : Array Oper} {rest : List Oper} {o : Oper} {a : Act} {w : World} {Q : Exit → Act → World → Prop} (x y : Operand) (ho : o.op = .store 43 x y) (hgd : o.guard = none)
    (g : Nat) (T : TypeId) (cells old : Array Value) (hx : a.eval x = .pointer (some ⟨g, 0, none⟩)) (hy : a.eval y = .agg cells) (hB : Blk w g T old) (hs : old.size = 12) (hc : cells.size = 12) (h1 : cells.all (·.oneCell') = true)
    (h : ∀ w', Blk w' g T cells → St g w w' → wpList Tryz.prog ops Q rest (a.put o.dst undef) w') : wpList Tryz.prog ops Q (o :: rest) a w :=
  wpList_store_row hgd 43 x y ho g cells hx hy T old hB (by rw [hc]; exact infX) (by omega) h1 (h _ (setRow_blk hB cells) (setRow_st w g cells))
theorem arm_load {ops : Array Oper} {rest : List Oper} {o : Oper} {a : Act} {w : World} {Q : Exit → Act → World → Prop} (x : Operand) (ho : o.op = .load 43 x) (hgd : o.guard = none)
    (g : Nat) (T : TypeId) (cells : Array Value) (hx : a.eval x = .pointer (some ⟨g, 0, none⟩)) (hB : Blk w g T cells) (hc : cells.size = 12)
    (h : wpList Tryz.prog ops Q rest (a.put o.dst (.agg cells)) w) : wpList Tryz.prog ops Q (o :: rest) a w :=
  wpList_load_row hgd 43 x ho g hx T cells (0, 0) _ hB Tryz.underlying43 rfl (by rw [hc]; exact infX) h
def rowD : TypeDesc → Bool
  | .struct _ => true
  | .array _ _ => true
  | _ => false
theorem arm_storeT {T : TypeId} {n : Nat} (hi : (Tryz.prog.info? T).map (·.size) = some n) {ops : Array Oper} {rest : List Oper} {o : Oper} {a : Act} {w : World} {Q : Exit → Act → World → Prop} (x y : Operand) (ho : o.op = .store T x y) (hgd : o.guard = none)
    (g : Nat) (T' : TypeId) (cells old : Array Value) (hx : a.eval x = .pointer (some ⟨g, 0, none⟩)) (hy : a.eval y = .agg cells) (hB : Blk w g T' old) (hs : old.size = n) (hc : cells.size = n) (h1 : cells.all (·.oneCell') = true)
    (h : ∀ w', Blk w' g T' cells → St g w w' → wpList Tryz.prog ops Q rest (a.put o.dst undef) w') : wpList Tryz.prog ops Q (o :: rest) a w :=
  wpList_store_row hgd T x y ho g cells hx hy T' old hB (by rw [hc]; exact hi) (by omega) h1 (h _ (setRow_blk hB cells) (setRow_st w g cells))
theorem arm_loadT {T : TypeId} {n : Nat} {d : TypeDesc} (hi : (Tryz.prog.info? T).map (·.size) = some n) (hu : Tryz.prog.underlying T = some d) (hd : rowD d = true)
    {ops : Array Oper} {rest : List Oper} {o : Oper} {a : Act} {w : World} {Q : Exit → Act → World → Prop} (x : Operand) (ho : o.op = .load T x) (hgd : o.guard = none)
    (g : Nat) (T' : TypeId) (cells : Array Value) (hx : a.eval x = .pointer (some ⟨g, 0, none⟩)) (hB : Blk w g T' cells) (hc : cells.size = n)
    (h : wpList Tryz.prog ops Q rest (a.put o.dst (.agg cells)) w) : wpList Tryz.prog ops Q (o :: rest) a w :=
  wpList_load_row hgd T x ho g hx T' cells (0, 0) d hB hu (by cases d <;> first | rfl | cases hd) (by rw [hc]; exact hi) h
/-- The end of a function whose result lies in a variable. -/
theorem ret_T {T : TypeId} {n : Nat} {d : TypeDesc} (hi : (Tryz.prog.info? T).map (·.size) = some n) (hu : Tryz.prog.underlying T = some d) (hd : rowD d = true)
    {fn : Func} {R : Ending → World → Prop} {p : Tmp} (h : fn.results = #[.cell p T]) (tmps : Array Value) (w : World) (g : Nat) (T' : TypeId) (cells : Array Value) (hp : tmps.getD p undef = .pointer (some ⟨g, 0, none⟩))
    (hB : Blk w g T' cells) (hc : cells.size = n) (hR : R (.returned (.agg cells)) w) : bodyPost Tryz.prog fn R .ret ⟨tmps, []⟩ w :=
  bodyPost_ret (results_cell_row h tmps w g T' cells (0, 0) d hp hB hu (by cases d <;> first | rfl | cases hd) (by rw [hc]; exact hi)) rfl hR
theorem op_store (x y : Operand) {o : Oper} {a : Act} {w : World} {K : Act → World → Prop} {Q : Exit → Act → World → Prop} (ho : o.op = .store 43 x y)
    (g : Nat) (T' : TypeId) (cells old : Array Value) (hx : a.eval x = .pointer (some ⟨g, 0, none⟩)) (hy : a.eval y = .agg cells) (hB : Blk w g T' old) (hs : old.size = 12) (hc : cells.size = 12) (h1 : cells.all (·.oneCell') = true)
    (h : ∀ w', Blk w' g T' cells → St g w w' → K (a.put o.dst undef) w') : o.wp Tryz.prog a w K Q :=
  wp_store_row 43 x y ho g cells hx hy T' old hB (by rw [hc]; exact infX) (by omega) h1 (h _ (setRow_blk hB cells) (setRow_st w g cells))
theorem op_load (x : Operand) {o : Oper} {a : Act} {w : World} {K : Act → World → Prop} {Q : Exit → Act → World → Prop} (ho : o.op = .load 43 x)
    (g : Nat) (T' : TypeId) (cells : Array Value) (hx : a.eval x = .pointer (some ⟨g, 0, none⟩)) (hB : Blk w g T' cells) (hc : cells.size = 12)
    (h : K (a.put o.dst (.agg cells)) w) : o.wp Tryz.prog a w K Q :=
  wp_load_row 43 x ho g hx T' cells (0, 0) _ hB Tryz.underlying43 rfl (by rw [hc]; exact infX) h
theorem yield_load {T : TypeId} {n : Nat} {d : TypeDesc} (hi : (Tryz.prog.info? T).map (·.size) = some n) (hu : Tryz.prog.underlying T = some d) (hd : rowD d = true) {oi : Oper} {a : Act} {w : World} (x : Operand) (ho : oi.op = .load T x)
    (g : Nat) (T' : TypeId) (cells : Array Value) (hx : a.eval x = .pointer (some ⟨g, 0, none⟩)) (hB : Blk w g T' cells) (hc : cells.size = n) : (execOp a.eval oi).run Tryz.prog w = .ok (.value (.agg cells)) w := by
  unfold execOp
  have := run_loadVar_row (P := Tryz.prog) w g T' T cells (0, 0) d hB hu (by cases d <;> first | rfl | cases hd) (by rw [hc]; exact hi)
  simp only [ho, hx, Instr.loadAt, Instr.sureAddr, Sem.run_bind, Sem.run_pure, Result.andThen_ok, this]
theorem infSc : (Tryz.prog.info? 99).map (·.size) = some 2 := by kernel_rfl
theorem infFa : (Tryz.prog.info? 55).map (·.size) = some 2 := by kernel_rfl
theorem infTy : (Tryz.prog.info? 47).map (·.size) = some 3 := by kernel_rfl
theorem infWi : (Tryz.prog.info? 40).map (·.size) = some 2 := by kernel_rfl
theorem infFi : (Tryz.prog.info? 140).map (·.size) = some 4 := by kernel_rfl
theorem exC_one (x : Ex) (ua : Option Addr) (uc : Nat) (aa : Option Addr) (ac : Nat) : (exC x ua uc aa ac).all (·.oneCell') = true := by simp [exC, Value.oneCell']
/-- The cells of an empty expression. -/
def zE : Array Value := #[.int .i64 0, .string ⟨#[]⟩, .string ⟨#[]⟩, .string ⟨#[]⟩, .int .i64 0, .int .i64 0, .string ⟨#[]⟩, .slice none 0 0, .int .i64 0, .int .i64 0, .int .i64 0, .slice none 0 0]
/-- The end of a function whose result is an expression in a variable. -/
theorem ret_expr {fn : Func} {R : Ending → World → Prop} {p : Tmp} (h : fn.results = #[.cell p 43]) (tmps : Array Value) (w : World) (g : Nat) (T : TypeId) (cells : Array Value) (hp : tmps.getD p undef = .pointer (some ⟨g, 0, none⟩))
    (hB : Blk w g T cells) (hc : cells.size = 12) (hR : R (.returned (.agg cells)) w) : bodyPost Tryz.prog fn R .ret ⟨tmps, []⟩ w :=
  bodyPost_ret (results_cell_row h tmps w g T cells (0, 0) _ hp hB Tryz.underlying43 rfl (by rw [hc]; exact infX)) rfl hR
/-- What stands while a method of a scope runs, that began in w0: its receiver, its result. -/
structure Fr (w0 w : World) (B : Nat) (i : Bool) (res : Array Value) : Prop where
  mv : Mv w0.heap.size B w0 w
  sc : Blk w w0.heap.size 99 #[.pointer (some ⟨B, 0, none⟩), .bool i]
  rz : Blk w (w0.heap.size + 1) 43 res
  hB : B < w0.heap.size
theorem Fr.start {w : World} {B : Nat} (i : Bool) (h : B < w.heap.size) : Fr w ((w.alloc (.cells #[.pointer (some ⟨B, 0, none⟩), .bool i] 99)).alloc (.cells zE 43)) B i zE :=
  ⟨((Mv.refl _ _ _).alloc (Nat.le_refl _) _).alloc (Nat.le_refl _) _, (Blk.new _ _ _).past _, by have := Blk.new (w.alloc (.cells #[.pointer (some ⟨B, 0, none⟩), .bool i] 99)) 43 zE; simpa using this, h⟩
theorem Fr.lt {w0 w : World} {B : Nat} {i : Bool} {res : Array Value} (h : Fr w0 w B i res) : w0.heap.size + 2 ≤ w.heap.size := h.rz.lt
theorem Fr.next {w0 w w' : World} {B : Nat} {i : Bool} {res : Array Value} (h : Fr w0 w B i res) (M : Mv w.heap.size B w w') : Fr w0 w' B i res := by
  have := h.lt
  have := h.hB
  exact ⟨h.mv.up M (by omega), h.sc.mv M (by omega) (by omega), h.rz.mv M (by omega) (by omega), h.hB⟩
theorem Fr.nextB {w0 w w' : World} {B : Nat} {i : Bool} {res : Array Value} (h : Fr w0 w B i res) (M : Below w.heap.size w w') : Fr w0 w' B i res := h.next (.of M)
theorem Fr.alloc {w0 w : World} {B : Nat} {i : Bool} {res : Array Value} (h : Fr w0 w B i res) (o : Obj) : Fr w0 (w.alloc o) B i res := h.next (.of (balloc (b0 w) o))
theorem Fr.st {w0 w w' : World} {B : Nat} {i : Bool} {res : Array Value} {g : Nat} (h : Fr w0 w B i res) (M : St g w w') (hg : w0.heap.size + 2 ≤ g) : Fr w0 w' B i res :=
  ⟨h.mv.trans (M.mv (by omega)), h.sc.st M (by omega), h.rz.st M (by omega), h.hB⟩
theorem Fr.set {w0 w w' : World} {B : Nat} {i : Bool} {res cells : Array Value} (h : Fr w0 w B i res) (M : St (w0.heap.size + 1) w w') (hb : Blk w' (w0.heap.size + 1) 43 cells) : Fr w0 w' B i cells :=
  ⟨h.mv.trans (M.mv (by omega)), h.sc.st M (by omega), hb, h.hB⟩
theorem Fr.c0 {w0 w : World} {B : Nat} {i : Bool} {res : Array Value} (h : Fr w0 w B i res) : w.cell? ⟨w0.heap.size, 0, none⟩ = some (.pointer (some ⟨B, 0, none⟩)) := h.sc.cell 0
theorem Fr.c1 {w0 w : World} {B : Nat} {i : Bool} {res : Array Value} (h : Fr w0 w B i res) : w.cell? ⟨w0.heap.size, 1, none⟩ = some (.bool i) := h.sc.cell 1
end Go.Proofs.YtbpijgddfaefkaaGreatDoor
namespace Go.Proofs.YtbpijgddfaefkaaGreatDoor
open Go.RowKit

section
variable {P : Program} {Q : Exit → Act → World → Prop} {md : Region.Mode} {S : World → Prop}

/-- The operation i yields v in every world of S: it is taken first. -/
theorem held_take {l : List Oper} {i d : Nat} {oi : Oper} {v : Value} {fuel : Nat} {listed : Array Bool} {t : List Value} {ds : List Deferred} {w : World} (hi : l[i]? = some oi)
    (hs : Region.noSelect l.toArray = true) (hf : Region.free md l.toArray listed i = true) (hr : (Region.ready md l.toArray listed).contains i = true) (hd : oi.dst = some d)
    (hQ : ∀ c a w, Q (.panic c) (a.put (some d) v) w → Q (.panic c) a w) (hw : Region.wanted oi (yielded l.toArray t.toArray) = true) (hS : S w)
    (hy : ∀ w, S w → (execOp (Act.mk t.toArray ds).eval oi).run P w = .ok (.value v) w)
    (h : wpAnyH P md l.toArray Q S fuel (listed.setIfInBounds i true) ⟨(t.set d v).toArray, ds⟩ w) : wpAnyH P md l.toArray Q S (fuel + 1) listed ⟨t.toArray, ds⟩ w := by
  refine wpAnyH_take (i := i) (oi := oi) (v := v) (by simpa using hi) hs hf hr (by rw [hd]; exact hQ) (.inl ⟨hw, hy⟩) hS ?_
  rw [hd]
  simpa [Act.put] using h
/-- The operation i is the only one that may come up. -/
theorem held_only {l : List Oper} {i : Nat} {oi : Oper} {fuel : Nat} {listed : Array Bool} {a : Act} {w : World} (hi : l[i]? = some oi)
    (hr : Region.ready md l.toArray listed = [i]) (hw : Region.wanted oi (yielded l.toArray a.tmps) = true)
    (h : ∀ K' : Act → World → Prop, Shut (∀ a w, S w → (S w → wpAnyH P md l.toArray Q S fuel (listed.setIfInBounds i true) a w) → K' a w) → Oper.wp P oi a w K' Q) : wpAnyH P md l.toArray Q S (fuel + 1) listed a w := by
  refine wpAnyH_ready hr (by simp) (AllReadyH.cons (o := oi) (by simpa using hi) (fun K hK => ?_) AllReadyH.nil)
  rw [if_pos hw]
  exact h K hK
/-- Two operations may come up. -/
theorem held_two {l : List Oper} {i j : Nat} {oi oj : Oper} {fuel : Nat} {listed : Array Bool} {a : Act} {w : World} (hi : l[i]? = some oi) (hj : l[j]? = some oj)
    (hr : Region.ready md l.toArray listed = [i, j]) (hw : Region.wanted oi (yielded l.toArray a.tmps) = true) (hw' : Region.wanted oj (yielded l.toArray a.tmps) = true)
    (h : ∀ K' : Act → World → Prop, Shut (∀ a w, S w → (S w → wpAnyH P md l.toArray Q S fuel (listed.setIfInBounds i true) a w) → K' a w) → Oper.wp P oi a w K' Q)
    (h' : ∀ K' : Act → World → Prop, Shut (∀ a w, S w → (S w → wpAnyH P md l.toArray Q S fuel (listed.setIfInBounds j true) a w) → K' a w) → Oper.wp P oj a w K' Q) : wpAnyH P md l.toArray Q S (fuel + 1) listed a w := by
  refine wpAnyH_ready hr (by simp) (AllReadyH.cons (o := oi) (by simpa using hi) (fun K hK => ?_) (AllReadyH.cons (o := oj) (by simpa using hj) (fun K hK => ?_) AllReadyH.nil))
  · rw [if_pos hw]
    exact h K hK
  · rw [if_pos hw']
    exact h' K hK
theorem noPanic_of {Q : Exit → Act → World → Prop} {a : Act} {w : World} (h : Q .normal a w) : NoPanic Q .normal a w := h
end
end Go.Proofs.YtbpijgddfaefkaaGreatDoor
namespace Go.Proofs.YtbpijgddfaefkaaGreatDoor.pa
open Go.RowKit dec

set_option maxRecDepth 100000 in
set_option maxHeartbeats 1000000 in
theorem factor_r (B : Nat) (l : List Tk) (w : World) (h : Ps w B l) (r : Rs un.Fa) (hr : fac l = r) (hne : r ≠ .out) :
    Calls Tryz.prog 150 #[.pointer (some ⟨B, 0, none⟩)] w (Pst B Fv r w) := by
  have b1 := balloc (b0 w) (.cells #[.string ⟨#[]⟩, .int .i64 0] 55)
  have hlt := Lib.hid h.lt
  have P := Lib.hid (h.keeps b1)
  have M := Lib.hid (Mv.of (B := B) b1)
  have R := Lib.hid (Blk.new w 55 #[.string ⟨#[]⟩, .int .i64 0])
  have NE := Lib.hid hne
  unfold fac at hr
  have HR := Lib.hid hr
  clear h hne hr b1
  go_enter Tryz.func150, Tryz.ntmps150
  go_wp2_with fail
  refine (name_r B l _ P.out _ rfl (nam_ne _)).mono ?_
  rintro e w1 h1
  rcases hG1 : nam l with _ | ⟨v1, l1⟩ | ⟨a1, c1, l1⟩
  · exact absurd hG1 (nam_ne _)
  rotate_left
  · rw [hG1] at h1
    obtain ⟨rfl, pp, mm⟩ := h1
    unfold thr
    have hno := Lib.hid (show r = .no a1 c1 l1 by rw [← HR.out, hG1]; rfl)
    have PP := Lib.hid pp
    have MM := Lib.hid (M.out.next mm)
    clear pp mm hG1
    go_wp2_with fail
    exact ⟨rfl, pst_no hno.out PP.out MM.out⟩
  rw [hG1] at h1
  obtain ⟨u1, rfl, vv, pp, mm⟩ := h1
  replace HR := HR.out
  rw [hG1] at HR
  simp only [bind_okE] at HR
  replace HR := Lib.hid HR
  replace R := Lib.hid (R.out.mv mm (by have := hlt.out; omega) (by simp))
  have L := Lib.hid (Blk.new w1 55 #[.string v1, .int .i64 1])
  replace R := Lib.hid (R.out.past (.cells #[.string v1, .int .i64 1] 55))
  have b2 := balloc (b0 w1) (.cells #[.string v1, .int .i64 1] 55)
  replace P := Lib.hid (pp.keeps b2)
  have hw1 := Lib.hid mm.size
  replace M := Lib.hid ((M.out.next mm).nextB b2)
  clear pp mm hG1 b2
  obtain rfl : u1 = .string v1 := vv
  go_wp2_with fail
  have hgw := Lib.hid (show w.heap.size < w1.heap.size from by have := hw1.out; simp at this; omega)
  clear hw1
  generalize w1.alloc (.cells #[.string v1, .int .i64 1] 55) = W at *
  generalize w1.heap.size = g at *
  cases ht : isT ⟨#[94]⟩ l1
  · replace HR := Lib.hid (show Rs.ok (v1, 1) l1 = r by rw [← HR.out, ht]; rfl)
    have HT := Lib.hid ht
    clear ht
    refine (skip_no B ⟨#[94]⟩ l1 _ P.out HT.out).mono ?_
    rintro e w2 ⟨rfl, pp, mm⟩
    replace R := Lib.hid (R.out.mv mm (by have := hlt.out; omega) (R.out.lt))
    replace L := Lib.hid (L.out.mv mm (by have := hlt.out; have := hgw.out; omega) (L.out.lt))
    replace P := Lib.hid pp
    replace M := Lib.hid (M.out.next mm)
    clear pp mm HT
    go_wp2_with (first | (refine arm_loadT infFa Tryz.underlying55 rfl (.tmp 3) rfl rfl _ _ _ rfl L.out rfl ?_) | (refine arm_storeT infFa (.tmp 2) (.tmp 19) rfl rfl _ _ _ _ rfl rfl R.out rfl rfl (by simp [Value.oneCell']) ?_; intro w9 hb9 hs9))
    replace P := Lib.hid (P.out.st hs9 hlt.out)
    replace M := Lib.hid (M.out.trans (hs9.mv (Nat.le_refl _)))
    refine ret_T infFa Tryz.underlying55 rfl rfl _ _ _ _ _ rfl hb9 rfl ?_
    exact pst_ok HR.out.symm rfl P.out M.out
  · cases ht2 : isT ⟨#[45]⟩ l1.tail
    · replace HR := Lib.hid (show ((int l1.tail).bind fun x r => Rs.ok (v1, IntKind.i64.wrap (1 * min x 1099511627776)) r) = r by rw [← HR.out, ht, ht2]; rfl)
      have HT := Lib.hid ht
      have HT2 := Lib.hid ht2
      clear ht ht2
      refine (skip_yes B ⟨#[94]⟩ l1 _ P.out HT.out).mono ?_
      rintro e w2 ⟨rfl, pp, mm⟩
      replace R := Lib.hid (R.out.mv mm (by have := hlt.out; omega) (R.out.lt))
      replace L := Lib.hid (L.out.mv mm (by have := hlt.out; have := hgw.out; omega) (L.out.lt))
      replace P := Lib.hid pp
      replace M := Lib.hid (M.out.next mm)
      clear pp mm HT
      go_wp2_with fail
      refine (skip_no B ⟨#[45]⟩ l1.tail _ P.out HT2.out).mono ?_
      rintro e w3 ⟨rfl, pp, mm⟩
      replace R := Lib.hid (R.out.mv mm (by have := hlt.out; omega) (R.out.lt))
      replace L := Lib.hid (L.out.mv mm (by have := hlt.out; have := hgw.out; omega) (L.out.lt))
      replace P := Lib.hid pp
      replace M := Lib.hid (M.out.next mm)
      clear pp mm HT2
      go_wp2_with fail
      refine wp_region_held_drew (S := fun _ => True) (by kernel_rfl) trivial (fun hH => ?_)
      have P' := Lib.hid (P.out.keeps (b0 _).drew)
      have M' := Lib.hid (M.out.nextB (b0 w3).drew)
      have L' := Lib.hid (show Blk w3.drew g 55 #[.string v1, .int .i64 (1)] from L.out)
      have R' := Lib.hid (show Blk w3.drew w.heap.size 55 #[.string ⟨#[]⟩, .int .i64 0] from R.out)
      refine held_take (i := 0) (d := 12) (v := ?_) rfl (by kernel_rfl) (by kernel_rfl) (by kernel_rfl) rfl (fun _ _ _ h => h) rfl hH (fun w' hS => ?_) ?_
      rotate_left
      · go_simp; first | done | with_reducible rfl
      simp only [List.set_cons_zero, List.set_cons_succ]
      refine held_take (i := 2) (d := 14) (v := ?_) rfl (by kernel_rfl) (by kernel_rfl) (by kernel_rfl) rfl (fun _ _ _ h => h) rfl hH (fun w' hS => ?_) ?_
      rotate_left
      · go_simp; first | done | with_reducible rfl
      simp only [List.set_cons_zero, List.set_cons_succ]
      refine held_two (i := 1) (j := 3) rfl rfl (by kernel_rfl) rfl rfl (fun K hK => ?_) (fun K hK => ?_)
      · have e1 := L'.out.cell 1
        go_simp
        refine hK.out _ _ trivial (fun hH => ?_)
        clear hK K
        clear e1
        refine held_only (i := 3) rfl (by kernel_rfl) rfl (fun K hK => ?_)
        go_simp
        refine (integer_r B l1.tail _ P'.out _ rfl (int_ne _)).mono ?_
        rintro e w4 h4
        rcases hG4 : int l1.tail with _ | ⟨v4, l4⟩ | ⟨a4, c4, l4⟩
        · exact absurd hG4 (int_ne _)
        rotate_left
        · rw [hG4] at h4
          obtain ⟨rfl, pp, mm⟩ := h4
          unfold thr
          exact ⟨rfl, pst_no (by rw [← HR.out, hG4]; rfl) pp (M'.out.next mm)⟩
        rw [hG4] at h4
        obtain ⟨u4, rfl, vv, pp, mm⟩ := h4
        obtain rfl : u4 = .int .i64 v4 := vv
        replace HR := Lib.hid (show Rs.ok (v1, IntKind.i64.wrap (1 * min v4 1099511627776)) l4 = r by rw [← HR.out, hG4]; rfl)
        replace L := Lib.hid (L'.out.mv mm (by have := hlt.out; have := hgw.out; omega) L'.out.lt)
        replace R := Lib.hid (R'.out.mv mm (by have := hlt.out; omega) R'.out.lt)
        replace P := Lib.hid pp
        replace M := Lib.hid (M'.out.next mm)
        clear P' pp mm hG4
        refine hK.out _ _ trivial (fun hH => ?_)
        clear hK K
        refine held_only (i := 4) rfl (by kernel_rfl) rfl (fun K hK => ?_)
        go_simp
        generalize hm : min v4 1099511627776 = m at *
        replace hm := Lib.hid hm
        refine hK.out _ _ trivial (fun hH => ?_)
        clear hK K
        refine held_only (i := 5) rfl (by kernel_rfl) rfl (fun K hK => ?_)
        go_simp
        refine hK.out _ _ trivial (fun hH => ?_)
        clear hK K
        refine held_only (i := 6) rfl (by kernel_rfl) rfl (fun K hK => ?_)
        go_simp
        refine hK.out _ _ trivial (fun hH => ?_)
        clear hK K
        refine held_only (i := 7) rfl (by kernel_rfl) rfl (fun K hK => ?_)
        have e1 := L.out.cell 1
        have z1 := L.out.free 1
        go_simp
        have L2 := L.out.setCell 1 (.int .i64 (IntKind.i64.wrap m))
        have L3 := Lib.hid (show Blk _ g 55 #[.string v1, .int .i64 (IntKind.i64.wrap m)] from L2.1)
        replace P := Lib.hid (P.out.st L2.2 (by have := hlt.out; have := hgw.out; omega))
        replace R := Lib.hid (R.out.st L2.2 (by have := hgw.out; omega))
        replace M := Lib.hid (M.out.trans (L2.2.mv (by have := hgw.out; omega)))
        replace L := L3
        replace HR := Lib.hid (show Rs.ok (v1, (IntKind.i64.wrap m)) l4 = r from by rw [← HR.out]; congr 2; simp)
        clear L2 L3 e1 z1
        refine hK.out _ _ trivial (fun hH => ?_)
        clear hK K
        refine wpAnyH_done (by kernel_rfl) ?_ _
        go_wp2_with (first | (refine arm_loadT infFa Tryz.underlying55 rfl (.tmp 3) rfl rfl _ _ _ rfl L.out rfl ?_) | (refine arm_storeT infFa (.tmp 2) (.tmp 19) rfl rfl _ _ _ _ rfl rfl R.out rfl rfl (by simp [Value.oneCell']) ?_; intro w9 hb9 hs9))
        replace P := Lib.hid (P.out.st hs9 hlt.out)
        replace M := Lib.hid (M.out.trans (hs9.mv (Nat.le_refl _)))
        refine ret_T infFa Tryz.underlying55 rfl rfl _ _ _ _ _ rfl hb9 rfl ?_
        exact pst_ok HR.out.symm rfl P.out M.out
      · go_simp
        refine (integer_r B l1.tail _ P'.out _ rfl (int_ne _)).mono ?_
        rintro e w4 h4
        rcases hG4 : int l1.tail with _ | ⟨v4, l4⟩ | ⟨a4, c4, l4⟩
        · exact absurd hG4 (int_ne _)
        rotate_left
        · rw [hG4] at h4
          obtain ⟨rfl, pp, mm⟩ := h4
          unfold thr
          exact ⟨rfl, pst_no (by rw [← HR.out, hG4]; rfl) pp (M'.out.next mm)⟩
        rw [hG4] at h4
        obtain ⟨u4, rfl, vv, pp, mm⟩ := h4
        obtain rfl : u4 = .int .i64 v4 := vv
        replace HR := Lib.hid (show Rs.ok (v1, IntKind.i64.wrap (1 * min v4 1099511627776)) l4 = r by rw [← HR.out, hG4]; rfl)
        replace L := Lib.hid (L'.out.mv mm (by have := hlt.out; have := hgw.out; omega) L'.out.lt)
        replace R := Lib.hid (R'.out.mv mm (by have := hlt.out; omega) R'.out.lt)
        replace P := Lib.hid pp
        replace M := Lib.hid (M'.out.next mm)
        clear P' pp mm hG4
        refine hK.out _ _ trivial (fun hH => ?_)
        clear hK K
        refine held_two (i := 1) (j := 4) rfl rfl (by kernel_rfl) rfl rfl (fun K hK => ?_) (fun K hK => ?_)
        · have e1 := L.out.cell 1
          go_simp
          refine hK.out _ _ trivial (fun hH => ?_)
          clear hK K
          clear e1
          refine held_only (i := 4) rfl (by kernel_rfl) rfl (fun K hK => ?_)
          go_simp
          generalize hm : min v4 1099511627776 = m at *
          replace hm := Lib.hid hm
          refine hK.out _ _ trivial (fun hH => ?_)
          clear hK K
          refine held_only (i := 5) rfl (by kernel_rfl) rfl (fun K hK => ?_)
          go_simp
          refine hK.out _ _ trivial (fun hH => ?_)
          clear hK K
          refine held_only (i := 6) rfl (by kernel_rfl) rfl (fun K hK => ?_)
          go_simp
          refine hK.out _ _ trivial (fun hH => ?_)
          clear hK K
          refine held_only (i := 7) rfl (by kernel_rfl) rfl (fun K hK => ?_)
          have e1 := L.out.cell 1
          have z1 := L.out.free 1
          go_simp
          have L2 := L.out.setCell 1 (.int .i64 (IntKind.i64.wrap m))
          have L3 := Lib.hid (show Blk _ g 55 #[.string v1, .int .i64 (IntKind.i64.wrap m)] from L2.1)
          replace P := Lib.hid (P.out.st L2.2 (by have := hlt.out; have := hgw.out; omega))
          replace R := Lib.hid (R.out.st L2.2 (by have := hgw.out; omega))
          replace M := Lib.hid (M.out.trans (L2.2.mv (by have := hgw.out; omega)))
          replace L := L3
          replace HR := Lib.hid (show Rs.ok (v1, (IntKind.i64.wrap m)) l4 = r from by rw [← HR.out]; congr 2; simp)
          clear L2 L3 e1 z1
          refine hK.out _ _ trivial (fun hH => ?_)
          clear hK K
          refine wpAnyH_done (by kernel_rfl) ?_ _
          go_wp2_with (first | (refine arm_loadT infFa Tryz.underlying55 rfl (.tmp 3) rfl rfl _ _ _ rfl L.out rfl ?_) | (refine arm_storeT infFa (.tmp 2) (.tmp 19) rfl rfl _ _ _ _ rfl rfl R.out rfl rfl (by simp [Value.oneCell']) ?_; intro w9 hb9 hs9))
          replace P := Lib.hid (P.out.st hs9 hlt.out)
          replace M := Lib.hid (M.out.trans (hs9.mv (Nat.le_refl _)))
          refine ret_T infFa Tryz.underlying55 rfl rfl _ _ _ _ _ rfl hb9 rfl ?_
          exact pst_ok HR.out.symm rfl P.out M.out
        · go_simp
          generalize hm : min v4 1099511627776 = m at *
          replace hm := Lib.hid hm
          refine hK.out _ _ trivial (fun hH => ?_)
          clear hK K
          refine held_only (i := 1) rfl (by kernel_rfl) rfl (fun K hK => ?_)
          have e1 := L.out.cell 1
          go_simp
          refine hK.out _ _ trivial (fun hH => ?_)
          clear hK K
          clear e1
          refine held_only (i := 5) rfl (by kernel_rfl) rfl (fun K hK => ?_)
          go_simp
          refine hK.out _ _ trivial (fun hH => ?_)
          clear hK K
          refine held_only (i := 6) rfl (by kernel_rfl) rfl (fun K hK => ?_)
          go_simp
          refine hK.out _ _ trivial (fun hH => ?_)
          clear hK K
          refine held_only (i := 7) rfl (by kernel_rfl) rfl (fun K hK => ?_)
          have e1 := L.out.cell 1
          have z1 := L.out.free 1
          go_simp
          have L2 := L.out.setCell 1 (.int .i64 (IntKind.i64.wrap m))
          have L3 := Lib.hid (show Blk _ g 55 #[.string v1, .int .i64 (IntKind.i64.wrap m)] from L2.1)
          replace P := Lib.hid (P.out.st L2.2 (by have := hlt.out; have := hgw.out; omega))
          replace R := Lib.hid (R.out.st L2.2 (by have := hgw.out; omega))
          replace M := Lib.hid (M.out.trans (L2.2.mv (by have := hgw.out; omega)))
          replace L := L3
          replace HR := Lib.hid (show Rs.ok (v1, (IntKind.i64.wrap m)) l4 = r from by rw [← HR.out]; congr 2; simp)
          clear L2 L3 e1 z1
          refine hK.out _ _ trivial (fun hH => ?_)
          clear hK K
          refine wpAnyH_done (by kernel_rfl) ?_ _
          go_wp2_with (first | (refine arm_loadT infFa Tryz.underlying55 rfl (.tmp 3) rfl rfl _ _ _ rfl L.out rfl ?_) | (refine arm_storeT infFa (.tmp 2) (.tmp 19) rfl rfl _ _ _ _ rfl rfl R.out rfl rfl (by simp [Value.oneCell']) ?_; intro w9 hb9 hs9))
          replace P := Lib.hid (P.out.st hs9 hlt.out)
          replace M := Lib.hid (M.out.trans (hs9.mv (Nat.le_refl _)))
          refine ret_T infFa Tryz.underlying55 rfl rfl _ _ _ _ _ rfl hb9 rfl ?_
          exact pst_ok HR.out.symm rfl P.out M.out
    · replace HR := Lib.hid (show ((int l1.tail.tail).bind fun x r => Rs.ok (v1, IntKind.i64.wrap (-1 * min x 1099511627776)) r) = r by rw [← HR.out, ht, ht2]; rfl)
      have HT := Lib.hid ht
      have HT2 := Lib.hid ht2
      clear ht ht2
      refine (skip_yes B ⟨#[94]⟩ l1 _ P.out HT.out).mono ?_
      rintro e w2 ⟨rfl, pp, mm⟩
      replace R := Lib.hid (R.out.mv mm (by have := hlt.out; omega) (R.out.lt))
      replace L := Lib.hid (L.out.mv mm (by have := hlt.out; have := hgw.out; omega) (L.out.lt))
      replace P := Lib.hid pp
      replace M := Lib.hid (M.out.next mm)
      clear pp mm HT
      go_wp2_with fail
      refine (skip_yes B ⟨#[45]⟩ l1.tail _ P.out HT2.out).mono ?_
      rintro e w3 ⟨rfl, pp, mm⟩
      replace R := Lib.hid (R.out.mv mm (by have := hlt.out; omega) (R.out.lt))
      replace L := Lib.hid (L.out.mv mm (by have := hlt.out; have := hgw.out; omega) (L.out.lt))
      replace P := Lib.hid pp
      replace M := Lib.hid (M.out.next mm)
      clear pp mm HT2
      have e1 := L.out.cell 1
      have z1 := L.out.free 1
      have L2 := L.out.setCell 1 (.int .i64 (-1))
      have L3 := Lib.hid (show Blk _ g 55 #[.string v1, .int .i64 (-1)] from L2.1)
      replace P := Lib.hid (P.out.st L2.2 (by have := hlt.out; have := hgw.out; omega))
      replace R := Lib.hid (R.out.st L2.2 (by have := hgw.out; omega))
      replace M := Lib.hid (M.out.trans (L2.2.mv (by have := hgw.out; omega)))
      replace L := L3
      clear L2 L3
      go_wp2_with fail
      clear e1 z1
      generalize w3.setCell ⟨g, 1, none⟩ (.int .i64 (-1)) = w5 at *
      refine wp_region_held_drew (S := fun _ => True) (by kernel_rfl) trivial (fun hH => ?_)
      have P' := Lib.hid (P.out.keeps (b0 _).drew)
      have M' := Lib.hid (M.out.nextB (b0 w5).drew)
      have L' := Lib.hid (show Blk w5.drew g 55 #[.string v1, .int .i64 (-1)] from L.out)
      have R' := Lib.hid (show Blk w5.drew w.heap.size 55 #[.string ⟨#[]⟩, .int .i64 0] from R.out)
      refine held_take (i := 0) (d := 12) (v := ?_) rfl (by kernel_rfl) (by kernel_rfl) (by kernel_rfl) rfl (fun _ _ _ h => h) rfl hH (fun w' hS => ?_) ?_
      rotate_left
      · go_simp; first | done | with_reducible rfl
      simp only [List.set_cons_zero, List.set_cons_succ]
      refine held_take (i := 2) (d := 14) (v := ?_) rfl (by kernel_rfl) (by kernel_rfl) (by kernel_rfl) rfl (fun _ _ _ h => h) rfl hH (fun w' hS => ?_) ?_
      rotate_left
      · go_simp; first | done | with_reducible rfl
      simp only [List.set_cons_zero, List.set_cons_succ]
      refine held_two (i := 1) (j := 3) rfl rfl (by kernel_rfl) rfl rfl (fun K hK => ?_) (fun K hK => ?_)
      · have e1 := L'.out.cell 1
        go_simp
        refine hK.out _ _ trivial (fun hH => ?_)
        clear hK K
        clear e1
        refine held_only (i := 3) rfl (by kernel_rfl) rfl (fun K hK => ?_)
        go_simp
        refine (integer_r B l1.tail.tail _ P'.out _ rfl (int_ne _)).mono ?_
        rintro e w4 h4
        rcases hG4 : int l1.tail.tail with _ | ⟨v4, l4⟩ | ⟨a4, c4, l4⟩
        · exact absurd hG4 (int_ne _)
        rotate_left
        · rw [hG4] at h4
          obtain ⟨rfl, pp, mm⟩ := h4
          unfold thr
          exact ⟨rfl, pst_no (by rw [← HR.out, hG4]; rfl) pp (M'.out.next mm)⟩
        rw [hG4] at h4
        obtain ⟨u4, rfl, vv, pp, mm⟩ := h4
        obtain rfl : u4 = .int .i64 v4 := vv
        replace HR := Lib.hid (show Rs.ok (v1, IntKind.i64.wrap (-1 * min v4 1099511627776)) l4 = r by rw [← HR.out, hG4]; rfl)
        replace L := Lib.hid (L'.out.mv mm (by have := hlt.out; have := hgw.out; omega) L'.out.lt)
        replace R := Lib.hid (R'.out.mv mm (by have := hlt.out; omega) R'.out.lt)
        replace P := Lib.hid pp
        replace M := Lib.hid (M'.out.next mm)
        clear P' pp mm hG4
        refine hK.out _ _ trivial (fun hH => ?_)
        clear hK K
        refine held_only (i := 4) rfl (by kernel_rfl) rfl (fun K hK => ?_)
        go_simp
        generalize hm : min v4 1099511627776 = m at *
        replace hm := Lib.hid hm
        refine hK.out _ _ trivial (fun hH => ?_)
        clear hK K
        refine held_only (i := 5) rfl (by kernel_rfl) rfl (fun K hK => ?_)
        go_simp
        refine hK.out _ _ trivial (fun hH => ?_)
        clear hK K
        refine held_only (i := 6) rfl (by kernel_rfl) rfl (fun K hK => ?_)
        go_simp
        refine hK.out _ _ trivial (fun hH => ?_)
        clear hK K
        refine held_only (i := 7) rfl (by kernel_rfl) rfl (fun K hK => ?_)
        have e1 := L.out.cell 1
        have z1 := L.out.free 1
        go_simp
        have L2 := L.out.setCell 1 (.int .i64 (IntKind.i64.wrap (-m)))
        have L3 := Lib.hid (show Blk _ g 55 #[.string v1, .int .i64 (IntKind.i64.wrap (-m))] from L2.1)
        replace P := Lib.hid (P.out.st L2.2 (by have := hlt.out; have := hgw.out; omega))
        replace R := Lib.hid (R.out.st L2.2 (by have := hgw.out; omega))
        replace M := Lib.hid (M.out.trans (L2.2.mv (by have := hgw.out; omega)))
        replace L := L3
        replace HR := Lib.hid (show Rs.ok (v1, (IntKind.i64.wrap (-m))) l4 = r from by rw [← HR.out]; congr 2; simp)
        clear L2 L3 e1 z1
        refine hK.out _ _ trivial (fun hH => ?_)
        clear hK K
        refine wpAnyH_done (by kernel_rfl) ?_ _
        go_wp2_with (first | (refine arm_loadT infFa Tryz.underlying55 rfl (.tmp 3) rfl rfl _ _ _ rfl L.out rfl ?_) | (refine arm_storeT infFa (.tmp 2) (.tmp 19) rfl rfl _ _ _ _ rfl rfl R.out rfl rfl (by simp [Value.oneCell']) ?_; intro w9 hb9 hs9))
        replace P := Lib.hid (P.out.st hs9 hlt.out)
        replace M := Lib.hid (M.out.trans (hs9.mv (Nat.le_refl _)))
        refine ret_T infFa Tryz.underlying55 rfl rfl _ _ _ _ _ rfl hb9 rfl ?_
        exact pst_ok HR.out.symm rfl P.out M.out
      · go_simp
        refine (integer_r B l1.tail.tail _ P'.out _ rfl (int_ne _)).mono ?_
        rintro e w4 h4
        rcases hG4 : int l1.tail.tail with _ | ⟨v4, l4⟩ | ⟨a4, c4, l4⟩
        · exact absurd hG4 (int_ne _)
        rotate_left
        · rw [hG4] at h4
          obtain ⟨rfl, pp, mm⟩ := h4
          unfold thr
          exact ⟨rfl, pst_no (by rw [← HR.out, hG4]; rfl) pp (M'.out.next mm)⟩
        rw [hG4] at h4
        obtain ⟨u4, rfl, vv, pp, mm⟩ := h4
        obtain rfl : u4 = .int .i64 v4 := vv
        replace HR := Lib.hid (show Rs.ok (v1, IntKind.i64.wrap (-1 * min v4 1099511627776)) l4 = r by rw [← HR.out, hG4]; rfl)
        replace L := Lib.hid (L'.out.mv mm (by have := hlt.out; have := hgw.out; omega) L'.out.lt)
        replace R := Lib.hid (R'.out.mv mm (by have := hlt.out; omega) R'.out.lt)
        replace P := Lib.hid pp
        replace M := Lib.hid (M'.out.next mm)
        clear P' pp mm hG4
        refine hK.out _ _ trivial (fun hH => ?_)
        clear hK K
        refine held_two (i := 1) (j := 4) rfl rfl (by kernel_rfl) rfl rfl (fun K hK => ?_) (fun K hK => ?_)
        · have e1 := L.out.cell 1
          go_simp
          refine hK.out _ _ trivial (fun hH => ?_)
          clear hK K
          clear e1
          refine held_only (i := 4) rfl (by kernel_rfl) rfl (fun K hK => ?_)
          go_simp
          generalize hm : min v4 1099511627776 = m at *
          replace hm := Lib.hid hm
          refine hK.out _ _ trivial (fun hH => ?_)
          clear hK K
          refine held_only (i := 5) rfl (by kernel_rfl) rfl (fun K hK => ?_)
          go_simp
          refine hK.out _ _ trivial (fun hH => ?_)
          clear hK K
          refine held_only (i := 6) rfl (by kernel_rfl) rfl (fun K hK => ?_)
          go_simp
          refine hK.out _ _ trivial (fun hH => ?_)
          clear hK K
          refine held_only (i := 7) rfl (by kernel_rfl) rfl (fun K hK => ?_)
          have e1 := L.out.cell 1
          have z1 := L.out.free 1
          go_simp
          have L2 := L.out.setCell 1 (.int .i64 (IntKind.i64.wrap (-m)))
          have L3 := Lib.hid (show Blk _ g 55 #[.string v1, .int .i64 (IntKind.i64.wrap (-m))] from L2.1)
          replace P := Lib.hid (P.out.st L2.2 (by have := hlt.out; have := hgw.out; omega))
          replace R := Lib.hid (R.out.st L2.2 (by have := hgw.out; omega))
          replace M := Lib.hid (M.out.trans (L2.2.mv (by have := hgw.out; omega)))
          replace L := L3
          replace HR := Lib.hid (show Rs.ok (v1, (IntKind.i64.wrap (-m))) l4 = r from by rw [← HR.out]; congr 2; simp)
          clear L2 L3 e1 z1
          refine hK.out _ _ trivial (fun hH => ?_)
          clear hK K
          refine wpAnyH_done (by kernel_rfl) ?_ _
          go_wp2_with (first | (refine arm_loadT infFa Tryz.underlying55 rfl (.tmp 3) rfl rfl _ _ _ rfl L.out rfl ?_) | (refine arm_storeT infFa (.tmp 2) (.tmp 19) rfl rfl _ _ _ _ rfl rfl R.out rfl rfl (by simp [Value.oneCell']) ?_; intro w9 hb9 hs9))
          replace P := Lib.hid (P.out.st hs9 hlt.out)
          replace M := Lib.hid (M.out.trans (hs9.mv (Nat.le_refl _)))
          refine ret_T infFa Tryz.underlying55 rfl rfl _ _ _ _ _ rfl hb9 rfl ?_
          exact pst_ok HR.out.symm rfl P.out M.out
        · go_simp
          generalize hm : min v4 1099511627776 = m at *
          replace hm := Lib.hid hm
          refine hK.out _ _ trivial (fun hH => ?_)
          clear hK K
          refine held_only (i := 1) rfl (by kernel_rfl) rfl (fun K hK => ?_)
          have e1 := L.out.cell 1
          go_simp
          refine hK.out _ _ trivial (fun hH => ?_)
          clear hK K
          clear e1
          refine held_only (i := 5) rfl (by kernel_rfl) rfl (fun K hK => ?_)
          go_simp
          refine hK.out _ _ trivial (fun hH => ?_)
          clear hK K
          refine held_only (i := 6) rfl (by kernel_rfl) rfl (fun K hK => ?_)
          go_simp
          refine hK.out _ _ trivial (fun hH => ?_)
          clear hK K
          refine held_only (i := 7) rfl (by kernel_rfl) rfl (fun K hK => ?_)
          have e1 := L.out.cell 1
          have z1 := L.out.free 1
          go_simp
          have L2 := L.out.setCell 1 (.int .i64 (IntKind.i64.wrap (-m)))
          have L3 := Lib.hid (show Blk _ g 55 #[.string v1, .int .i64 (IntKind.i64.wrap (-m))] from L2.1)
          replace P := Lib.hid (P.out.st L2.2 (by have := hlt.out; have := hgw.out; omega))
          replace R := Lib.hid (R.out.st L2.2 (by have := hgw.out; omega))
          replace M := Lib.hid (M.out.trans (L2.2.mv (by have := hgw.out; omega)))
          replace L := L3
          replace HR := Lib.hid (show Rs.ok (v1, (IntKind.i64.wrap (-m))) l4 = r from by rw [← HR.out]; congr 2; simp)
          clear L2 L3 e1 z1
          refine hK.out _ _ trivial (fun hH => ?_)
          clear hK K
          refine wpAnyH_done (by kernel_rfl) ?_ _
          go_wp2_with (first | (refine arm_loadT infFa Tryz.underlying55 rfl (.tmp 3) rfl rfl _ _ _ rfl L.out rfl ?_) | (refine arm_storeT infFa (.tmp 2) (.tmp 19) rfl rfl _ _ _ _ rfl rfl R.out rfl rfl (by simp [Value.oneCell']) ?_; intro w9 hb9 hs9))
          replace P := Lib.hid (P.out.st hs9 hlt.out)
          replace M := Lib.hid (M.out.trans (hs9.mv (Nat.le_refl _)))
          refine ret_T infFa Tryz.underlying55 rfl rfl _ _ _ _ _ rfl hb9 rfl ?_
          exact pst_ok HR.out.symm rfl P.out M.out
end Go.Proofs.YtbpijgddfaefkaaGreatDoor.pa
namespace Go.Proofs.YtbpijgddfaefkaaGreatDoor.pa
open Go.RowKit dec

theorem own_mv {S B base : Nat} {w w' : World} {v : Value} {l : List un.Fa} (h : un.Own w base v l) (M : Mv S B w w') (hB : B < base) (hS : w.heap.size ≤ S) : un.Own w' base v l := by
  obtain ⟨h1, h2⟩ := h
  refine ⟨h1, ?_⟩
  rcases h2 with h0 | ⟨g, cap, cur, e, hbg, hh, r⟩
  · exact .inl h0
  · refine .inr ⟨g, cap, cur, e, hbg, ?_, r⟩
    have : g < w.heap.size := by
      rcases Nat.lt_or_ge g w.heap.size with h' | h'
      · exact h'
      · rw [Array.getElem?_eq_none h'] at hh; cases hh
    rw [M.block _ (by omega) (by omega)]
    exact hh
set_option maxRecDepth 100000 in
set_option maxHeartbeats 1000000 in
theorem listFa_r (B : Nat) (s : ByteArray) (l : List Tk) (w : World) (h : Ps w B l) (r : Rs (List un.Fa)) (hr : lst fac s l = r) (hne : r ≠ .out) :
    Calls Tryz.prog 149 #[.pointer (some ⟨B, 0, none⟩), .string s, .func (.func 150) #[.pointer (some ⟨B, 0, none⟩)] #[]] w (Pst B (fun C w v l => un.Own w C v l) r w) := by
  have P := Lib.hid h
  have hlt := Lib.hid h.lt
  have HL := Lib.hid h.tl.ln
  have M := Lib.hid (Mv.refl w.heap.size B w)
  have NE := Lib.hid hne
  unfold lst at hr
  have HR := Lib.hid hr
  clear h hne hr
  go_enter Tryz.func149, Tryz.ntmps149
  go_wp2_with fail
  refine (factor_r B l _ P.out _ rfl (fac_ne _)).mono ?_
  rintro e w1 h1
  rcases hG1 : fac l with _ | ⟨v1, l1⟩ | ⟨a1, c1, l1⟩
  · exact absurd hG1 (fac_ne _)
  rotate_left
  · rw [hG1] at h1
    obtain ⟨rfl, pp, mm⟩ := h1
    unfold thr
    have hno := Lib.hid (show r = .no a1 c1 l1 by rw [← HR.out, hG1]; rfl)
    have PP := Lib.hid pp
    have MM := Lib.hid (M.out.next mm)
    clear pp mm hG1
    go_wp2_with fail
    exact ⟨rfl, pst_no hno.out PP.out MM.out⟩
  rw [hG1] at h1
  obtain ⟨u1, rfl, vv, pp, mm⟩ := h1
  replace HR := HR.out
  rw [hG1] at HR
  simp only [bind_okE] at HR
  replace HR := Lib.hid HR
  obtain rfl : u1 = .agg #[.string v1.1, .int .i64 v1.2] := vv
  have M1 := Lib.hid (M.out.next mm)
  have hs1 := Lib.hid (mm.size)
  have P1 := Lib.hid pp
  replace hG1 := Lib.hid hG1
  clear pp mm M P
  have hlen := Lib.hid (show [v1].length + l1.length ≤ 1048576 from by have := fac_lt hG1.out; have := HL.out; simp only [List.length_singleton]; omega)
  go_wp2_with (at_builtin; refine un.is_app (.tmp 7) (.tmp 10) rfl ?_; refine un.wpList_push _ rfl (.tmp 7) (.tmp 10) rfl w.heap.size _ [] rfl (un.Own.nil _ _) w1.heap.size v1.1 v1.2 rfl (un.Bw.new w1 v1 55) (by decide) (by have := hs1.out; simp; omega) ?_; intro v2 w2 O2 b2)
  have b3 := (balloc (b0 w1) (.cells #[.string v1.1, .int .i64 v1.2] 55))
  have P2 := Lib.hid ((P1.out.keeps b3).keep (b2.mono (by have := hlt.out; omega)))
  have M2 := Lib.hid ((M1.out.nextB b3).trans (.of b2))
  replace O2 := Lib.hid O2
  clear b2 b3 P1 M1 hs1 hG1
  go_loopg [6] (l1.length + 1) (fun k v wr => ∃ (x : List un.Fa) (l' : List Tk), Hid (un.Own wr w.heap.size v x) ∧ Hid (Ps wr B l') ∧ Hid (Mv w.heap.size B w wr) ∧ Hid (more fac s k x l' = r) ∧ Hid (x.length + l'.length ≤ 1048576))
  case atStart => exact ⟨[v1], l1, O2, P2, M2, HR, hlen⟩
  case round =>
    clear O2 P2 M2 HR hlen
    obtain ⟨x, l', O, P, M, HR, hlen⟩ := hrel
    rcases gk with _ | gk
    · exact absurd HR.out.symm NE.out
    cases ht : isT s l'
    · have hok := Lib.hid (show Rs.ok x l' = r by rw [← HR.out]; unfold more; rw [ht]; rfl)
      have HT := Lib.hid ht
      clear ht HR
      go_wp2_with fail
      refine (skip_no B s l' _ P.out HT.out).mono ?_
      rintro e w3 ⟨rfl, pp, mm⟩
      have P3 := Lib.hid pp
      have O3 := Lib.hid (own_mv O.out mm hlt.out (Nat.le_refl _))
      have M3 := Lib.hid (M.out.next mm)
      clear pp mm P O M
      go_wp2_with fail
      go_ret
      exact pst_ok hok.out.symm O3.out P3.out M3.out
    · replace HR := HR.out
      unfold more at HR
      rw [ht, if_pos rfl] at HR
      replace HR := Lib.hid HR
      have htl := Lib.hid (tail_lt ht)
      have HT := Lib.hid ht
      clear ht
      go_wp2_with fail
      refine (skip_yes B s l' _ P.out HT.out).mono ?_
      rintro e w3 ⟨rfl, pp, mm⟩
      replace P := Lib.hid pp
      have O3 := Lib.hid (own_mv O.out mm hlt.out (Nat.le_refl _))
      have M3 := Lib.hid (M.out.next mm)
      clear pp mm O M
      go_wp2_with fail
      refine (factor_r B l'.tail _ P.out _ rfl (fac_ne _)).mono ?_
      rintro e w4 h1
      rcases hG1 : fac l'.tail with _ | ⟨v1, l1⟩ | ⟨a1, c1, l1⟩
      · exact absurd hG1 (fac_ne _)
      rotate_left
      · rw [hG1] at h1
        obtain ⟨rfl, pp, mm⟩ := h1
        unfold thr
        have hno := Lib.hid (show r = .no a1 c1 l1 by rw [← HR.out, hG1]; rfl)
        have PP := Lib.hid pp
        have MM := Lib.hid (M3.out.next mm)
        clear pp mm hG1
        go_wp2_with fail
        exact ⟨rfl, pst_no hno.out PP.out MM.out⟩
      rw [hG1] at h1
      obtain ⟨u1, rfl, vv, pp, mm⟩ := h1
      replace HR := HR.out
      rw [hG1] at HR
      simp only [bind_okE] at HR
      replace HR := Lib.hid HR
      obtain rfl : u1 = .agg #[.string v1.1, .int .i64 v1.2] := vv
      have hl2 := Lib.hid (fac_lt hG1)
      have O4 := Lib.hid (own_mv O3.out mm hlt.out (Nat.le_refl _))
      have M4 := Lib.hid (M3.out.next mm)
      have hxl := Lib.hid (show x.length < 5864062014805 from by have := hlen.out; omega)
      have hs1 := Lib.hid M4.out.size
      have P4 := Lib.hid pp
      clear pp mm hG1 M3 O3 P
      go_wp2_with (at_builtin; refine un.is_app (.tmp 15) (.tmp 18) rfl ?_; refine un.wpList_push _ rfl (.tmp 15) (.tmp 18) rfl w.heap.size _ x rfl (O4.out.keeps (balloc (b0 w4) _)) w4.heap.size v1.1 v1.2 rfl (un.Bw.new w4 v1 55) hxl.out (by have := hs1.out; simp; omega) ?_; intro v2 w2 O2 b2)
      have b3 := (balloc (b0 w4) (.cells #[.string v1.1, .int .i64 v1.2] 55))
      have P2 := Lib.hid ((P4.out.keeps b3).keep (b2.mono (by have := hlt.out; omega)))
      have M2 := Lib.hid ((M4.out.nextB b3).trans (.of b2))
      replace O2 := Lib.hid O2
      have hlen2 := Lib.hid (show (x ++ [v1]).length + l1.length ≤ 1048576 from by have := hlen.out; have := hl2.out; have := htl.out; rw [List.length_append, List.length_singleton]; omega)
      clear b2 b3
      go_wp2_with fail
      go_roundg gk
      case measure => omega
      case rel => exact ⟨x ++ [v1], l1, O2, P2, M2, HR, hlen2⟩
end Go.Proofs.YtbpijgddfaefkaaGreatDoor.pa
