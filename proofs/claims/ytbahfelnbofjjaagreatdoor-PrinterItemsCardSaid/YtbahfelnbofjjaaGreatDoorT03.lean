/-
  Expressions, types, tables as plain data: what the checker, the parser and the printer share; Expressions, types, tables and features as plain data; what the checker answers about them; Lists of factors in memory: slices that are read, slices of the call's own; append; one factor in a block; Steps of a walk through a region of open order, an operation at a time; Expressions, types, tables, features and catalogs in memory, as values that are read; Blocks with their cells; arms of a walk that load and store whole values; a round's index; Size and Depth of every expression: the program and the reference; The small functions: letters, digits, ranges, words; the reference's; units.Same, slices.Equal, the reference's Same: whether two lists are equal.
-/
import Derived.Below
import Derived.Lib.QuietBelow
import Derived.Laws.AppendOwn
import Derived.Laws.OwnMore
import Derived.OwnWalk
import Derived.WalkKit
import Derived.Deep.RegionHeld3
import Derived.Laws.Rows
import Derived.Laws.Tables
import Derived.BigRegion
import Derived.BigQuiet
import Derived.Test.YtbahfelnbofjjaaGreatDoorT01
import Derived.Test.YtbahfelnbofjjaaGreatDoorT02
import Derived.Test.YtbahfelnbofjjaaGreatDoorProg
set_option maxRecDepth 100000
set_option maxHeartbeats 16000000
namespace Go.Proofs.YtbahfelnbofjjaaGreatDoor
open Go.RowKit dec
structure Hd where
 k : Int
 op : ByteArray
 nm : ByteArray
 tb : ByteArray
 vk : Int
 vn : Int
 vs : ByteArray
 un : List un.Fa
 pa : Int
 wk : Int
 ws : Int
inductive Fo where
 | nil
 | cons (h : Hd) (ar r : Fo)
def Fo.len : Fo → Nat
 | .nil => 0
 | .cons _ _ r => r.len + 1
structure Ex where
 h : Hd
 ar : Fo
structure Ty where
 k : Int
 un : List un.Fa
 of : ByteArray
structure Fi where
 nm : ByteArray
 ty : Ty
structure Tb where
 nm : ByteArray
 en : ByteArray
 fs : List Fi
 kp : Int
def h0 : Hd := ⟨0, .empty, .empty, .empty, 0, 0, .empty, [], 0, 0, 0⟩
def Fo.nth : Fo → Nat → Ex
 | .nil, _ => ⟨h0, .nil⟩
 | .cons h ar _, 0 => ⟨h, ar⟩
 | .cons _ _ r, j + 1 => r.nth j
def Fo.drop : Fo → Nat → Fo
 | F, 0 => F
 | .nil, _ + 1 => .nil
 | .cons _ _ r, j + 1 => r.drop j
def Fo.sz : Fo → Nat
 | .nil => 0
 | .cons _ ar r => ar.sz + r.sz + 1
theorem nth_sz : ∀ (F : Fo) (j : Nat), j < F.len → (F.nth j).ar.sz < F.sz
 | .nil, _, h => absurd h (Nat.not_lt_zero _)
 | .cons h ar r, 0, _ => by
  simp only [Fo.nth, Fo.sz]
  omega
 | .cons h ar r, j + 1, hj => by
  have := nth_sz r j (by simpa [Fo.len] using hj)
  simp only [Fo.nth, Fo.sz]
  omega
theorem drop_nth : ∀ (F : Fo) (j : Nat), j < F.len → F.drop j = .cons (F.nth j).h (F.nth j).ar (F.drop (j + 1))
 | .nil, _, h => absurd h (Nat.not_lt_zero _)
 | .cons h ar .nil, 0, _ => rfl
 | .cons h ar (.cons a b c), 0, _ => rfl
 | .cons h ar r, j + 1, hj => by
  have := drop_nth r j (by simpa [Fo.len] using hj)
  simpa [Fo.nth, Fo.drop] using this
theorem drop_end : ∀ (F : Fo) (j : Nat), F.len ≤ j → F.drop j = .nil
 | .nil, 0, _ => rfl
 | .nil, _ + 1, _ => rfl
 | .cons h ar r, 0, hj => by simp [Fo.len] at hj
 | .cons h ar r, j + 1, hj => by
  have := drop_end r j (by simpa [Fo.len] using hj)
  simpa [Fo.drop] using this
theorem drop_zero (F : Fo) : F.drop 0 = F := by cases F <;> rfl
end Go.Proofs.YtbahfelnbofjjaaGreatDoor
namespace Go.Proofs.YtbahfelnbofjjaaGreatDoor.ch
open Go.RowKit dec
structure Fe where
 nm : ByteArray
 en : ByteArray
 ty : Ty
 bo : Ex
 vr : Int
def t0 : Ty := ⟨0, [], .empty⟩
def szA : Fo → Int → Int
 | .nil, n => n
 | .cons _ ar r, n => szA r (wrap64 (n + szA ar 1))
def szE (x : Ex) : Int := szA x.ar 1
def dpA : Fo → Int → Int
 | .nil, n => n
 | .cons _ ar r, n => dpA r (max n (wrap64 (dpA ar 0 + 1)))
def dpE (x : Ex) : Int := wrap64 (dpA x.ar 0 + 1)
def okU (u : List un.Fa) : Bool := decide (un.ck u = 0) && u.all fun f => name f.1
def num (t : Ty) : Bool := decide (t.k = 2) || decide (t.k = 3)
def tyE (t : Ty) : Int :=
 if t.k < 1 ∨ 5 < t.k then 3
 else if t.k = 5 ∧ name t.of = false then 3
 else if t.k ≠ 5 ∧ t.of ≠ .empty then 3
 else if num t = false ∧ 0 < t.un.length then 3
 else if okU t.un = true then 0 else 70
def fiE (bef : List Fi) (f : Fi) : Int := if name f.nm = false then 3 else if bef.any (fun g => decide (g.nm = f.nm)) = true then 121 else tyE f.ty
def fsE : List Fi → List Fi → Int
 | _, [] => 0
 | bef, f :: r => if fiE bef f = 0 then fsE (bef ++ [f]) r else fiE bef f
def tbE (t : Tb) : Int :=
 if name t.nm = false then 3 else if name t.en = false then 3 else if t.kp < 0 then 3 else if 1099511627776 < t.kp then 3
 else if 8 < t.fs.length then 2 else fsE [] t.fs
def same (h g : Hd) : Bool :=
 decide (h.op = g.op) && (decide (h.nm = g.nm) && (decide (h.tb = g.tb) && ((decide (h.vk = g.vk) && (decide (h.vn = g.vn) && decide (h.vs = g.vs))) && (decide (h.un = g.un) && (decide (h.pa = g.pa) && (decide (h.wk = g.wk) && decide (h.ws = g.ws)))))))
def litH (h : Hd) : Bool :=
 decide (ck ⟨h.vk, h.vn, h.vs⟩ = 0) && (decide (0 ≤ h.vn) && (decide (tyE ⟨h.vk, h.un, h.nm⟩ = 0) && same h { h0 with nm := h.nm, vk := h.vk, vn := h.vn, vs := h.vs, un := h.un }))
def namH (h : Hd) : Bool := name h.nm && same h { h0 with nm := h.nm }
def parH (op : ByteArray) (p : Int) : Bool :=
 if op = ⟨#[99, 111, 117, 110, 116]⟩ ∨ op = ⟨#[115, 117, 109]⟩ ∨ op = ⟨#[109, 101, 97, 110]⟩ ∨ op = ⟨#[109, 105, 110]⟩ ∨ op = ⟨#[109, 97, 120]⟩ ∨ op = ⟨#[102, 105, 114, 115, 116]⟩ ∨ op = ⟨#[108, 97, 115, 116]⟩ ∨ op = ⟨#[100, 105, 115, 116, 105, 110, 99, 116]⟩ then decide (p = 0)
 else if op = ⟨#[113, 117, 97, 110, 116, 105, 108, 101]⟩ then decide (1 ≤ p) && decide (p ≤ 1000)
 else if op = ⟨#[100, 101, 99, 97, 121]⟩ then decide (1 ≤ p) && decide (p ≤ 1073741824)
 else false
def winH (k n : Int) : Bool :=
 if k = 1 then decide (n = 0) else if k = 2 ∨ k = 3 ∨ k = 4 then decide (1 ≤ n) && decide (n ≤ 1099511627776) else false
def truH (h : Hd) : Bool := decide (h.k = 1) && (decide (h.vk = 1) && (decide (h.vn = 1) && decide (h.vs = .empty)))
def aggH (h : Hd) : Bool := name h.tb && (parH h.op h.pa && (winH h.wk h.ws && same h { h0 with op := h.op, tb := h.tb, pa := h.pa, wk := h.wk, ws := h.ws }))
def unaO (op : ByteArray) : Bool := decide (op = ⟨#[45]⟩) || (decide (op = ⟨#[110, 111, 116]⟩) || decide (op = ⟨#[110, 117, 108, 108]⟩))
def binO (op : ByteArray) : Bool := [(⟨#[43]⟩ : ByteArray), ⟨#[45]⟩, ⟨#[42]⟩, ⟨#[47]⟩, ⟨#[61, 61]⟩, ⟨#[33, 61]⟩, ⟨#[60]⟩, ⟨#[60, 61]⟩, ⟨#[97, 110, 100]⟩, ⟨#[111, 114]⟩].any fun t => decide (op = t)
def nodE (i : Bool) (h : Hd) (n : Nat) (g : Hd) : Bool :=
 if h.k = 1 then litH h && decide (n = 0)
 else if h.k = 2 then i && (namH h && decide (n = 0))
 else if h.k = 3 then !i && (namH h && decide (n = 0))
 else if h.k = 4 then !i && (namH h && decide (n = 1))
 else if h.k = 5 then !i && (aggH h && (decide (n = 2) && (!decide (h.op = ⟨#[99, 111, 117, 110, 116]⟩) || truH g)))
 else if h.k = 6 then unaO h.op && (same h { h0 with op := h.op } && decide (n = 1))
 else if h.k = 7 then binO h.op && (same h { h0 with op := h.op } && decide (n = 2))
 else if h.k = 8 then same h h0 && decide (n = 3)
 else if h.k = 9 then same h h0 && decide (n = 2)
 else false
def fmA (i : Bool) : Fo → Bool
 | .nil => true
 | .cons h ar r => nodE i h ar.len (ar.nth 0).h && (fmA (i || decide (h.k = 5)) ar && fmA i r)
def fmE (i : Bool) (x : Ex) : Bool := nodE i x.h x.ar.len (x.ar.nth 0).h && fmA (i || decide (x.h.k = 5)) x.ar
def shE (x : Ex) : Int := if 64 < szE x ∨ 12 < dpE x then 2 else if fmE false x = true then 0 else 3
end Go.Proofs.YtbahfelnbofjjaaGreatDoor.ch
namespace Go.Proofs.YtbahfelnbofjjaaGreatDoor.un
open Go.RowKit dec
structure Bw (w : World) (b : Nat) (x : Fa) : Prop where
 c0 : w.cell? ⟨b, 0, none⟩ = some (.string x.1)
 c1 : w.cell? ⟨b, 1, none⟩ = some (.int .i64 x.2)
theorem Bw.lt {w : World} {b : Nat} {x : Fa} (h : Bw w b x) : b < w.heap.size := block_lt_of_cell h.c0
theorem Bw.new (w : World) (x : Fa) (T : TypeId) : Bw (w.alloc (.cells #[.string x.1, .int .i64 x.2] T)) w.heap.size x := ⟨by simp [go_sem], by simp [go_sem]⟩
theorem Bw.keeps' {w w1 : World} {B b : Nat} {x : Fa} (h : Bw w b x) (hb : Below B w w1) (hl : b < B) : Bw w1 b x :=
 ⟨(hb.cell hl).trans h.c0, (hb.cell hl).trans h.c1⟩
theorem Bw.keeps {w w1 : World} {b : Nat} {x : Fa} (h : Bw w b x) (hb : Below w.heap.size w w1) : Bw w1 b x := h.keeps' hb h.lt
theorem Bw.past {w : World} {b : Nat} {x : Fa} (h : Bw w b x) (o : Obj) : Bw (w.alloc o) b x := h.keeps (balloc (b0 w) o)
theorem below_of {w w' : World} (h : ∃ p : Regrown, w' = Sort.grow (redrawn w p.d) p.os) : Below w.heap.size w w' := by
 obtain ⟨p, rfl⟩ := h
 exact below_regrown w p.d p.os
theorem ret_bool {a b : Bool} (h : a = b) : Ending.returned (Value.bool a) = .returned (.bool b) := by rw [h]
theorem ret_int {k : IntKind} {a b : Int} (h : a = b) : Ending.returned (.int k a) = .returned (.int k b) := by rw [h]
def cs : List Fa → List Value
 | [] => []
 | x :: l => .string x.1 :: .int .i64 x.2 :: cs l
def gt (l : List Fa) (j : Nat) : Fa := l.getD j (.empty, 0)
theorem gt_mem {l : List Fa} {j : Nat} (h : j < l.length) : gt l j ∈ l := by
 unfold gt
 rw [List.getD_eq_getElem?_getD, List.getElem?_eq_getElem h]
 exact List.getElem_mem h
theorem gt_eq {l : List Fa} {j : Nat} (h : j < l.length) : gt l j = l[j] := by
 unfold gt
 rw [List.getD_eq_getElem?_getD, List.getElem?_eq_getElem h]
 rfl
theorem cs_at : ∀ (l : List Fa) (j : Nat), j < l.length → (cs l)[j * 2]? = some (.string (gt l j).1) ∧ (cs l)[j * 2 + 1]? = some (.int .i64 (gt l j).2)
 | [], j, h => by simp at h
 | x :: l, 0, _ => ⟨rfl, rfl⟩
 | x :: l, j + 1, h => by
  have := cs_at l j (by simpa using h)
  rw [show (j + 1) * 2 = j * 2 + 1 + 1 by omega]
  simp only [cs, List.getElem?_cons_succ]
  exact this
theorem drop_gt {l : List Fa} {j : Nat} (h : j < l.length) : l.drop j = gt l j :: l.drop (j + 1) := by
 rw [gt_eq h]
 exact List.drop_eq_getElem_cons h
theorem take_gt {l : List Fa} {j : Nat} (h : j < l.length) : l.take (j + 1) = l.take j ++ [gt l j] := by
 rw [gt_eq h, List.take_add_one, List.getElem?_eq_getElem h]
 rfl
def Cl (w : World) (b off : Nat) (l : List Fa) : Prop := ∀ j, j < l.length → w.cell? ⟨b, off + j * 2, none⟩ = some (.string (gt l j).1) ∧ w.cell? ⟨b, off + j * 2 + 1, none⟩ = some (.int .i64 (gt l j).2)
theorem Cl.keeps {w w1 : World} {b off : Nat} {l : List Fa} (h : Cl w b off l) (hb : Below w.heap.size w w1) : Cl w1 b off l := fun j hj => ⟨dec.keeps hb (h j hj).1, dec.keeps hb (h j hj).2⟩
def At (w : World) (a : Option Addr) (l : List Fa) : Prop := l.length = 0 ∨ ∃ b off, a = some ⟨b, off, none⟩ ∧ Cl w b off l
theorem At.keeps {w w1 : World} {a : Option Addr} {l : List Fa} (h : At w a l) (hb : Below w.heap.size w w1) : At w1 a l := h.imp id fun ⟨b, off, e, hB⟩ => ⟨b, off, e, hB.keeps hb⟩
theorem At.nil (w : World) (a : Option Addr) : At w a [] := .inl rfl
structure Sl (w : World) (a : Option Addr) (n cap : Nat) (l : List Fa) : Prop where
 hat : At w a l
 hn : l.length = n
 hcap : n ≤ cap
 hmax : cap ≤ 9223372036854775807
 hno : a = none → cap = 0
theorem Sl.keeps {w w1 : World} {a : Option Addr} {n cap : Nat} {l : List Fa} (h : Sl w a n cap l) (hb : Below w.heap.size w w1) : Sl w1 a n cap l := { h with hat := h.hat.keeps hb }
theorem Sl.nil (w : World) : Sl w none 0 0 [] := ⟨.inl rfl, rfl, by omega, by omega, fun _ => rfl⟩
theorem Cl.cut {w : World} {b off : Nat} {l : List Fa} (h : Cl w b off l) (k m : Nat) : Cl w b (off + k * 2) ((l.drop k).take m) := by
 intro j hj
 have hlen : ((l.drop k).take m).length = min m (l.length - k) := by simp
 have := h (k + j) (by omega)
 have e : gt ((l.drop k).take m) j = gt l (k + j) := by
  rw [gt_eq hj, gt_eq (by omega)]
  simp
 rw [e, show off + k * 2 + j * 2 = off + (k + j) * 2 by omega]
 exact this
theorem Cl.take {w : World} {b off : Nat} {l : List Fa} (h : Cl w b off l) (m : Nat) : Cl w b off (l.take m) := by
 have := h.cut 0 m
 simpa using this
def Own (w : World) (base : Nat) (v : Value) (l : List Fa) : Prop := w.ownsRow base 82 2 v l.length (cs l)
theorem Own.nil (w : World) (base : Nat) : Own w base (.slice none 0 0) [] := World.ownsRow_nil _ _ _ _
theorem Own.out {w : World} {base : Nat} {v : Value} {l : List Fa} (h : Own w base v l) : (v = .slice none 0 0 ∧ l = []) ∨ ∃ g cap, v = .slice (some ⟨g, 0, none⟩) l.length cap ∧ base ≤ g ∧ g < w.heap.size ∧ l.length ≤ cap ∧ cap ≤ 9223372036854775807 ∧ Cl w g 0 l ∧ ∀ j, j < l.length → w.frozen? ⟨g, j * 2, none⟩ = false ∧ w.frozen? ⟨g, j * 2 + 1, none⟩ = false := by
 rcases h.2 with ⟨h0, h1⟩ | ⟨g, cap, cur, rfl, hb, hg, hc, hm, hs, ht⟩
 ·exact .inl ⟨h0, List.eq_nil_of_length_eq_zero h1⟩
 ·refine .inr ⟨g, cap, rfl, hb, (h.lt g rfl).2, hc, by unfold maxLen at hm; omega, fun j hj => ?_, fun j _ => ⟨h.frozenAt _, h.frozenAt _⟩⟩
  rw [Nat.zero_add, h.cellAt (j * 2) (by omega), h.cellAt (j * 2 + 1) (by omega)]
  exact cs_at l j hj
theorem Own.keeps {w w1 : World} {base : Nat} {v : Value} {l : List Fa} (h : Own w base v l) (hb : Below w.heap.size w w1) : Own w1 base v l := by
 obtain ⟨h1, h2⟩ := h
 refine ⟨h1, ?_⟩
 rcases h2 with h0 | ⟨g, cap, cur, e, hbg, hh, r⟩
 ·exact .inl h0
 ·refine .inr ⟨g, cap, cur, e, hbg, ?_, r⟩
  have : g < w.heap.size := by
   rcases Nat.lt_or_ge g w.heap.size with h' | h'
   ·exact h'
   ·rw [Array.getElem?_eq_none h'] at hh; cases hh
  rw [hb.block _ this]
  exact hh
end Go.Proofs.YtbahfelnbofjjaaGreatDoor.un
namespace Go.Proofs.YtbahfelnbofjjaaGreatDoor
open Go.RowKit
section
variable {P : Program} {Q : Exit → Act → World → Prop} {md : Region.Mode} {S : World → Prop}
theorem held_take {l : List Oper} {i d : Nat} {oi : Oper} {v : Value} {fuel : Nat} {listed : Array Bool} {t : List Value} {ds : List Deferred} {w : World} (hi : l[i]? = some oi)
  (hs : Region.noSelect l.toArray = true) (hf : Region.free md l.toArray listed i = true) (hr : (Region.ready md l.toArray listed).contains i = true) (hd : oi.dst = some d)
  (hQ : ∀ c a w, Q (.panic c) (a.put (some d) v) w → Q (.panic c) a w) (hw : Region.wanted oi (yielded l.toArray t.toArray) = true) (hS : S w)
  (hy : ∀ w, S w → (execOp (Act.mk t.toArray ds).eval oi).run P w = .ok (.value v) w)
  (h : wpAnyH P md l.toArray Q S fuel (listed.setIfInBounds i true) ⟨(t.set d v).toArray, ds⟩ w) : wpAnyH P md l.toArray Q S (fuel + 1) listed ⟨t.toArray, ds⟩ w := by
 refine wpAnyH_take (i := i) (oi := oi) (v := v) (by simpa using hi) hs hf hr (by rw [hd]; exact hQ) (.inl ⟨hw, hy⟩) hS ?_
 rw [hd]
 simpa [Act.put] using h
theorem held_only {l : List Oper} {i : Nat} {oi : Oper} {fuel : Nat} {listed : Array Bool} {a : Act} {w : World} (hi : l[i]? = some oi)
  (hr : Region.ready md l.toArray listed = [i]) (hw : Region.wanted oi (yielded l.toArray a.tmps) = true)
  (h : ∀ K' : Act → World → Prop, Shut (∀ a w, S w → (S w → wpAnyH P md l.toArray Q S fuel (listed.setIfInBounds i true) a w) → K' a w) → Oper.wp P oi a w K' Q) : wpAnyH P md l.toArray Q S (fuel + 1) listed a w := by
 refine wpAnyH_ready hr (by simp) (AllReadyH.cons (o := oi) (by simpa using hi) (fun K hK => ?_) AllReadyH.nil)
 rw [if_pos hw]
 exact h K hK
theorem held_two {l : List Oper} {i j : Nat} {oi oj : Oper} {fuel : Nat} {listed : Array Bool} {a : Act} {w : World} (hi : l[i]? = some oi) (hj : l[j]? = some oj)
  (hr : Region.ready md l.toArray listed = [i, j]) (hw : Region.wanted oi (yielded l.toArray a.tmps) = true) (hw' : Region.wanted oj (yielded l.toArray a.tmps) = true)
  (h : ∀ K' : Act → World → Prop, Shut (∀ a w, S w → (S w → wpAnyH P md l.toArray Q S fuel (listed.setIfInBounds i true) a w) → K' a w) → Oper.wp P oi a w K' Q)
  (h' : ∀ K' : Act → World → Prop, Shut (∀ a w, S w → (S w → wpAnyH P md l.toArray Q S fuel (listed.setIfInBounds j true) a w) → K' a w) → Oper.wp P oj a w K' Q) : wpAnyH P md l.toArray Q S (fuel + 1) listed a w := by
 refine wpAnyH_ready hr (by simp) (AllReadyH.cons (o := oi) (by simpa using hi) (fun K hK => ?_) (AllReadyH.cons (o := oj) (by simpa using hj) (fun K hK => ?_) AllReadyH.nil))
 ·rw [if_pos hw]
  exact h K hK
 ·rw [if_pos hw']
  exact h' K hK
theorem noPanic_of {Q : Exit → Act → World → Prop} {a : Act} {w : World} (h : Q .normal a w) : NoPanic Q .normal a w := h
end
theorem held_more {P : Program} {Q : Exit → Act → World → Prop} {md : Region.Mode} {ops : Array Oper} {S S' : World → Prop} (hS : ∀ w, S' w → S w) : ∀ (fuel : Nat) (listed : Array Bool) (a : Act) (w : World), wpAnyH P md ops Q S' fuel listed a w → wpAnyH P md ops Q S fuel listed a w
 | 0, _, _, _, h => h
 | fuel + 1, _, _, _, h => ⟨h.1, fun i hi => wpOp_mono (fun a' w' h' => ⟨hS w' h'.1, held_more hS fuel _ a' w' h'.2⟩) (h.2 i hi)⟩
theorem held_and {P : Program} {Q : Exit → Act → World → Prop} {md : Region.Mode} {ops : Array Oper} {S : World → Prop} {fuel : Nat} {listed : Array Bool} {a : Act} {w : World} (T : World → Prop) (hT : T w) (hS : S w)
  (h : (S w ∧ T w) → wpAnyH P md ops Q (fun w' => S w' ∧ T w') fuel listed a w) : wpAnyH P md ops Q S fuel listed a w := held_more (fun _ h => h.1) _ _ _ _ (h ⟨hS, hT⟩)
end Go.Proofs.YtbahfelnbofjjaaGreatDoor
namespace Go.Proofs.YtbahfelnbofjjaaGreatDoor.ch
open Go.RowKit dec
theorem range_keeps {w w' : World} {b o : Nat} {cs : List Value} (h : w.rangeAt b o cs) (hb : Below w.heap.size w w') : w'.rangeAt b o cs := fun j v hv => dec.keeps hb (h j v hv)
theorem yield_loadM {T : TypeId} {n : Nat} {d : TypeDesc} (hi : (Tryz.prog.info? T).map (·.size) = some n) (hu : Tryz.prog.underlying T = some d) (hd : d.isRow = true) {oi : Oper} {a : Act} {w : World} (x : Operand) (ho : oi.op = .load T x)
  (b o : Nat) (cells : Array Value) (hx : a.eval x = .pointer (some ⟨b, o, none⟩)) (hR : w.rangeAt b o cells.toList) (hc : cells.size = n) : (execOp a.eval oi).run Tryz.prog w = .ok (.value (.agg cells)) w := by
 unfold execOp
 have := run_loadVar_mid (P := Tryz.prog) w b o T cells.toList d hR hu hd (by rw [Array.length_toList, hc]; exact hi)
 simp only [ho, hx, Instr.loadAt, Instr.sureAddr, Sem.run_bind, Sem.run_pure, Result.andThen_ok, this, Array.toArray_toList]
structure Rw {α : Type} (sz : Nat) (V : World → Array Value → α → Prop) (w : World) (a : Option Addr) (n cap : Nat) (l : List α) : Prop where
 hat : l.length = 0 ∨ ∃ b off, a = some ⟨b, off, none⟩ ∧ ∀ j (h : j < l.length), ∃ cs : Array Value, cs.size = sz ∧ w.rangeAt b (off + j * sz) cs.toList ∧ V w cs l[j]
 hn : l.length = n
 hcap : n ≤ cap
 hmax : cap ≤ 9223372036854775807
 hno : a = none → cap = 0
theorem Rw.keeps {α : Type} {sz : Nat} {V : World → Array Value → α → Prop} (hV : ∀ (w w' : World) (cs : Array Value) (x : α), V w cs x → Below w.heap.size w w' → V w' cs x) {w w' : World} {a : Option Addr} {n cap : Nat} {l : List α}
  (h : Rw sz V w a n cap l) (hb : Below w.heap.size w w') : Rw sz V w' a n cap l :=
 { h with hat := h.hat.imp id fun ⟨b, off, e, hA⟩ => ⟨b, off, e, fun j hj => by
   obtain ⟨cs, h1, h2, h3⟩ := hA j hj
   exact ⟨cs, h1, range_keeps h2 hb, hV _ _ _ _ h3 hb⟩⟩ }
theorem Rw.nil {α : Type} (sz : Nat) (V : World → Array Value → α → Prop) (w : World) : Rw sz V w none 0 0 [] := ⟨.inl rfl, rfl, Nat.le_refl _, by omega, fun _ => rfl⟩
def tyC (t : Ty) (ua : Option Addr) (uc : Nat) : Array Value := #[.int .i64 t.k, .slice ua t.un.length uc, .string t.of]
def TyV (w : World) (cs : Array Value) (t : Ty) : Prop := ∃ ua uc, cs = tyC t ua uc ∧ un.Sl w ua t.un.length uc t.un
theorem TyV.keeps {w w' : World} {cs : Array Value} {t : Ty} (h : TyV w cs t) (hb : Below w.heap.size w w') : TyV w' cs t := by
 obtain ⟨ua, uc, e, S⟩ := h
 exact ⟨ua, uc, e, S.keeps hb⟩
def fiC (f : Fi) (ua : Option Addr) (uc : Nat) : Array Value := #[.string f.nm, .int .i64 f.ty.k, .slice ua f.ty.un.length uc, .string f.ty.of]
def FiV (w : World) (cs : Array Value) (f : Fi) : Prop := ∃ ua uc, cs = fiC f ua uc ∧ un.Sl w ua f.ty.un.length uc f.ty.un
theorem FiV.keeps {w w' : World} {cs : Array Value} {f : Fi} (h : FiV w cs f) (hb : Below w.heap.size w w') : FiV w' cs f := by
 obtain ⟨ua, uc, e, S⟩ := h
 exact ⟨ua, uc, e, S.keeps hb⟩
abbrev Fis := Rw 4 FiV
def tbC (t : Tb) (a : Option Addr) (c : Nat) : Array Value := #[.string t.nm, .string t.en, .slice a t.fs.length c, .int .i64 t.kp]
def TbV (w : World) (cs : Array Value) (t : Tb) : Prop := ∃ a c, cs = tbC t a c ∧ Fis w a t.fs.length c t.fs
theorem Fis.keeps {w w' : World} {a : Option Addr} {n cap : Nat} {l : List Fi} (h : Fis w a n cap l) (hb : Below w.heap.size w w') : Fis w' a n cap l := Rw.keeps (V := FiV) (fun _ _ _ _ h hb => h.keeps hb) h hb
theorem TbV.keeps {w w' : World} {cs : Array Value} {t : Tb} (h : TbV w cs t) (hb : Below w.heap.size w w') : TbV w' cs t := by
 obtain ⟨a, c, e, S⟩ := h
 exact ⟨a, c, e, Fis.keeps S hb⟩
abbrev Tbs' := Rw 4 TbV
theorem Tbs'.keeps {w w' : World} {a : Option Addr} {n cap : Nat} {l : List Tb} (h : Tbs' w a n cap l) (hb : Below w.heap.size w w') : Tbs' w' a n cap l := Rw.keeps (V := TbV) (fun _ _ _ _ h hb => h.keeps hb) h hb
def exC (h : Hd) (n : Nat) (ua : Option Addr) (uc : Nat) (aa : Option Addr) (ac : Nat) : Array Value :=
 #[.int .i64 h.k, .string h.op, .string h.nm, .string h.tb, .int .i64 h.vk, .int .i64 h.vn, .string h.vs, .slice ua h.un.length uc, .int .i64 h.pa, .int .i64 h.wk, .int .i64 h.ws, .slice aa n ac]
def FoV (w : World) : Fo → Nat → Nat → Prop
 | .nil, _, _ => True
 | .cons h ar r, b, off => (∃ ua uc aa ac, w.rangeAt b off (exC h ar.len ua uc aa ac).toList ∧ un.Sl w ua h.un.length uc h.un ∧ (ar.len ≤ ac ∧ ac ≤ 9223372036854775807 ∧ (aa = none → ac = 0)) ∧ (ar.len = 0 ∨ ∃ b' off', aa = some ⟨b', off', none⟩ ∧ FoV w ar b' off')) ∧ FoV w r b (off + 12)
theorem FoV.keeps {w w' : World} (hb : Below w.heap.size w w') : ∀ (F : Fo) (b off : Nat), FoV w F b off → FoV w' F b off
 | .nil, _, _, _ => trivial
 | .cons h ar r, b, off, hF => by
  obtain ⟨⟨ua, uc, aa, ac, N, U, hc, A⟩, R⟩ := hF
  exact ⟨⟨ua, uc, aa, ac, range_keeps N hb, U.keeps hb, hc, A.imp id fun ⟨b', off', e, hF'⟩ => ⟨b', off', e, FoV.keeps hb ar b' off' hF'⟩⟩, FoV.keeps hb r b (off + 12) R⟩
structure Fs (w : World) (a : Option Addr) (n cap : Nat) (F : Fo) : Prop where
 hat : F.len = 0 ∨ ∃ b off, a = some ⟨b, off, none⟩ ∧ FoV w F b off
 hn : F.len = n
 hcap : n ≤ cap
 hmax : cap ≤ 9223372036854775807
 hno : a = none → cap = 0
theorem Fs.keeps {w w' : World} {a : Option Addr} {n cap : Nat} {F : Fo} (h : Fs w a n cap F) (hb : Below w.heap.size w w') : Fs w' a n cap F :=
 { h with hat := h.hat.imp id fun ⟨b, off, e, hA⟩ => ⟨b, off, e, FoV.keeps hb F b off hA⟩ }
theorem Fs.nil (w : World) : Fs w none 0 0 .nil := ⟨.inl rfl, rfl, Nat.le_refl _, by omega, fun _ => rfl⟩
structure Ec (w : World) (x : Ex) (ua : Option Addr) (uc : Nat) (aa : Option Addr) (ac : Nat) : Prop where
 us : un.Sl w ua x.h.un.length uc x.h.un
 ar : Fs w aa x.ar.len ac x.ar
theorem Ec.keeps {w w' : World} {x : Ex} {ua : Option Addr} {uc : Nat} {aa : Option Addr} {ac : Nat} (h : Ec w x ua uc aa ac) (hb : Below w.heap.size w w') : Ec w' x ua uc aa ac := ⟨h.us.keeps hb, h.ar.keeps hb⟩
def ExV (w : World) (cs : Array Value) (x : Ex) : Prop := ∃ ua uc aa ac, cs = exC x.h x.ar.len ua uc aa ac ∧ Ec w x ua uc aa ac
theorem ExV.keeps {w w' : World} {cs : Array Value} {x : Ex} (h : ExV w cs x) (hb : Below w.heap.size w w') : ExV w' cs x := by
 obtain ⟨ua, uc, aa, ac, e, S⟩ := h
 exact ⟨ua, uc, aa, ac, e, S.keeps hb⟩
theorem fo_at {w : World} : ∀ (F : Fo) (b off j : Nat), FoV w F b off → j < F.len → ∃ ua uc aa ac, w.rangeAt b (off + j * 12) (exC (F.nth j).h (F.nth j).ar.len ua uc aa ac).toList ∧ Ec w (F.nth j) ua uc aa ac
 | .nil, _, _, _, _, h => absurd h (Nat.not_lt_zero _)
 | .cons h ar r, b, off, 0, hF, _ => by
  obtain ⟨⟨ua, uc, aa, ac, N, U, hc, A⟩, R⟩ := hF
  exact ⟨ua, uc, aa, ac, by simpa [Fo.nth] using N, U, ⟨A, rfl, hc.1, hc.2.1, hc.2.2⟩⟩
 | .cons h ar r, b, off, j + 1, hF, hj => by
  have := fo_at r b (off + 12) j hF.2 (by simpa [Fo.len] using hj)
  rw [show off + (j + 1) * 12 = off + 12 + j * 12 by omega]
  exact this
theorem fo_of {w : World} (b : Nat) : ∀ (F : Fo) (off : Nat), (∀ j, j < F.len → ∃ ua uc aa ac, w.rangeAt b (off + j * 12) (exC (F.nth j).h (F.nth j).ar.len ua uc aa ac).toList ∧ Ec w (F.nth j) ua uc aa ac) → FoV w F b off
 | .nil, _, _ => trivial
 | .cons h ar r, off, hF => by
  refine ⟨?_, fo_of b r (off + 12) fun j hj => ?_⟩
  ·obtain ⟨ua, uc, aa, ac, N, E⟩ := hF 0 (by simp [Fo.len])
   exact ⟨ua, uc, aa, ac, by simpa [Fo.nth] using N, E.us, ⟨E.ar.hcap, E.ar.hmax, E.ar.hno⟩, E.ar.hat⟩
  ·have := hF (j + 1) (by simpa [Fo.len] using hj)
   rw [show off + (j + 1) * 12 = off + 12 + j * 12 by omega] at this
   exact this
theorem Fs.at {w : World} {a : Option Addr} {n cap : Nat} {F : Fo} (h : Fs w a n cap F) {j : Nat} (hj : j < F.len) : ∃ b off ua uc aa ac, a = some ⟨b, off, none⟩ ∧ w.rangeAt b (off + j * 12) (exC (F.nth j).h (F.nth j).ar.len ua uc aa ac).toList ∧ Ec w (F.nth j) ua uc aa ac := by
 obtain ⟨b, off, e, hF⟩ := h.hat.resolve_left (by omega)
 obtain ⟨ua, uc, aa, ac, h1, h2⟩ := fo_at F b off j hF hj
 exact ⟨b, off, ua, uc, aa, ac, e, h1, h2⟩
def feC (f : Fe) (ta : Option Addr) (tc : Nat) (ua : Option Addr) (uc : Nat) (aa : Option Addr) (ac : Nat) : Array Value :=
 #[.string f.nm, .string f.en, .int .i64 f.ty.k, .slice ta f.ty.un.length tc, .string f.ty.of,
  .int .i64 f.bo.h.k, .string f.bo.h.op, .string f.bo.h.nm, .string f.bo.h.tb, .int .i64 f.bo.h.vk, .int .i64 f.bo.h.vn, .string f.bo.h.vs, .slice ua f.bo.h.un.length uc, .int .i64 f.bo.h.pa, .int .i64 f.bo.h.wk, .int .i64 f.bo.h.ws, .slice aa f.bo.ar.len ac, .int .i64 f.vr]
def FeV (w : World) (cs : Array Value) (f : Fe) : Prop := ∃ ta tc ua uc aa ac, cs = feC f ta tc ua uc aa ac ∧ un.Sl w ta f.ty.un.length tc f.ty.un ∧ Ec w f.bo ua uc aa ac
theorem FeV.keeps {w w' : World} {cs : Array Value} {f : Fe} (h : FeV w cs f) (hb : Below w.heap.size w w') : FeV w' cs f := by
 obtain ⟨ta, tc, ua, uc, aa, ac, e, S, E⟩ := h
 exact ⟨ta, tc, ua, uc, aa, ac, e, S.keeps hb, E.keeps hb⟩
abbrev Fes := Rw 18 FeV
theorem Fes.keeps {w w' : World} {a : Option Addr} {n cap : Nat} {l : List Fe} (h : Fes w a n cap l) (hb : Below w.heap.size w w') : Fes w' a n cap l := Rw.keeps (V := FeV) (fun _ _ _ _ h hb => h.keeps hb) h hb
structure Ct (w : World) (ta : Option Addr) (tn tc : Nat) (ga : Option Addr) (gn gc : Nat) (ts : List Tb) (gs : List Fe) : Prop where
 t : Tbs' w ta tn tc ts
 g : Fes w ga gn gc gs
theorem Ct.keeps {w w' : World} {ta : Option Addr} {tn tc : Nat} {ga : Option Addr} {gn gc : Nat} {ts : List Tb} {gs : List Fe} (h : Ct w ta tn tc ga gn gc ts gs) (hb : Below w.heap.size w w') : Ct w' ta tn tc ga gn gc ts gs := ⟨Tbs'.keeps h.t hb, Fes.keeps h.g hb⟩
end Go.Proofs.YtbahfelnbofjjaaGreatDoor.ch
namespace Go.Proofs.YtbahfelnbofjjaaGreatDoor.ch
open Go.RowKit dec
structure St (g : Nat) (w w' : World) : Prop where
 os : w'.os = w.os
 tape : w'.tape = w.tape
 output : w'.output = w.output
 size : w'.heap.size = w.heap.size
 block : ∀ k, k ≠ g → w'.heap[k]? = w.heap[k]?
theorem St.below {g S : Nat} {w w' : World} (h : St g w w') (hS : S ≤ g) : Below S w w' := ⟨h.os, h.tape, h.output, Nat.le_of_eq h.size.symm, fun k hk => h.block k (by omega)⟩
def Blk (w : World) (g : Nat) (T : TypeId) (cs : Array Value) : Prop := w.heap[g]? = some (.cells cs T (0, 0))
theorem Blk.lt {w : World} {g : Nat} {T : TypeId} {cs : Array Value} (h : Blk w g T cs) : g < w.heap.size := by
 rcases Nat.lt_or_ge g w.heap.size with h' | h'
 ·exact h'
 ·unfold Blk at h
  rw [Array.getElem?_eq_none h'] at h
  cases h
theorem Blk.new (w : World) (T : TypeId) (cs : Array Value) : Blk (w.alloc (.cells cs T)) w.heap.size T cs := Go.heap_alloc_new w _
theorem Blk.past {w : World} {g : Nat} {T : TypeId} {cs : Array Value} (h : Blk w g T cs) (o : Obj) : Blk (w.alloc o) g T cs := (Go.heap_alloc_old w o h.lt).trans h
theorem Blk.below {S : Nat} {w w' : World} {g : Nat} {T : TypeId} {cs : Array Value} (h : Blk w g T cs) (M : Below S w w') (hS : g < S) : Blk w' g T cs := (M.block g hS).trans h
theorem Blk.st {k g : Nat} {w w' : World} {T : TypeId} {cs : Array Value} (h : Blk w g T cs) (M : St k w w') (hn : g ≠ k) : Blk w' g T cs := (M.block g hn).trans h
theorem Blk.cell {w : World} {g : Nat} {T : TypeId} {cs : Array Value} (h : Blk w g T cs) (j : Nat) : w.cell? ⟨g, j, none⟩ = cs[j]? := cell_of_row w g j cs T (0, 0) h
theorem Blk.free {w : World} {g : Nat} {T : TypeId} {cs : Array Value} (h : Blk w g T cs) (j : Nat) : w.frozen? ⟨g, j, none⟩ = false := by
 unfold Blk at h
 simp [World.frozen?, h]
theorem Blk.setCell {w : World} {g : Nat} {T : TypeId} {cs : Array Value} (h : Blk w g T cs) (j : Nat) (v : Value) : Blk (w.setCell ⟨g, j, none⟩ v) g T (cs.setIfInBounds j v) ∧ St g w (w.setCell ⟨g, j, none⟩ v) := by
 refine ⟨?_, rfl, rfl, rfl, by simp [World.setCell], fun k hk => Below.heap_setCell w ⟨g, j, none⟩ v k hk⟩
 unfold Blk at *
 simp [World.setCell, Array.getElem?_modify, h]
theorem setRow_st (w : World) (g : Nat) (cs : Array Value) : St g w (w.setRow g cs) := by
 refine ⟨rfl, rfl, rfl, by simp [World.setRow], fun k hk => ?_⟩
 simp only [World.setRow, Array.getElem?_modify]
 rw [if_neg (fun e => hk e.symm)]
theorem setRow_blk {w : World} {g : Nat} {T : TypeId} {old : Array Value} (h : Blk w g T old) (cs : Array Value) : Blk (w.setRow g cs) g T cs := by
 unfold Blk at *
 simp [World.setRow, Array.getElem?_modify, h]
def rowD : TypeDesc → Bool
 | .struct _ => true
 | .array _ _ => true
 | _ => false
theorem arm_storeT {T : TypeId} {n : Nat} (hi : (Tryz.prog.info? T).map (·.size) = some n) {ops : Array Oper} {rest : List Oper} {o : Oper} {a : Act} {w : World} {Q : Exit → Act → World → Prop} (x y : Operand) (ho : o.op = .store T x y) (hgd : o.guard = none)
  (g : Nat) (T' : TypeId) (cells old : Array Value) (hx : a.eval x = .pointer (some ⟨g, 0, none⟩)) (hy : a.eval y = .agg cells) (hB : Blk w g T' old) (hs : old.size = n) (hc : cells.size = n) (h1 : cells.all (·.oneCell') = true)
  (h : ∀ w', Blk w' g T' cells → St g w w' → wpList Tryz.prog ops Q rest (a.put o.dst undef) w') : wpList Tryz.prog ops Q (o :: rest) a w :=
 wpList_store_row hgd T x y ho g cells hx hy T' old hB (by rw [hc]; exact hi) (by omega) h1 (h _ (setRow_blk hB cells) (setRow_st w g cells))
theorem arm_loadT {T : TypeId} {n : Nat} {d : TypeDesc} (hi : (Tryz.prog.info? T).map (·.size) = some n) (hu : Tryz.prog.underlying T = some d) (hd : rowD d = true)
  {ops : Array Oper} {rest : List Oper} {o : Oper} {a : Act} {w : World} {Q : Exit → Act → World → Prop} (x : Operand) (ho : o.op = .load T x) (hgd : o.guard = none)
  (g : Nat) (T' : TypeId) (cells : Array Value) (hx : a.eval x = .pointer (some ⟨g, 0, none⟩)) (hB : Blk w g T' cells) (hc : cells.size = n)
  (h : wpList Tryz.prog ops Q rest (a.put o.dst (.agg cells)) w) : wpList Tryz.prog ops Q (o :: rest) a w :=
 wpList_load_row hgd T x ho g hx T' cells (0, 0) d hB hu (by cases d <;> first | rfl | cases hd) (by rw [hc]; exact hi) h
theorem ret_T {T : TypeId} {n : Nat} {d : TypeDesc} (hi : (Tryz.prog.info? T).map (·.size) = some n) (hu : Tryz.prog.underlying T = some d) (hd : rowD d = true)
  {fn : Func} {R : Ending → World → Prop} {p : Tmp} (h : fn.results = #[.cell p T]) (tmps : Array Value) (w : World) (g : Nat) (T' : TypeId) (cells : Array Value) (hp : tmps.getD p undef = .pointer (some ⟨g, 0, none⟩))
  (hB : Blk w g T' cells) (hc : cells.size = n) (hR : R (.returned (.agg cells)) w) : bodyPost Tryz.prog fn R .ret ⟨tmps, []⟩ w :=
 bodyPost_ret (results_cell_row h tmps w g T' cells (0, 0) d hp hB hu (by cases d <;> first | rfl | cases hd) (by rw [hc]; exact hi)) rfl hR
theorem yield_load {T : TypeId} {n : Nat} {d : TypeDesc} (hi : (Tryz.prog.info? T).map (·.size) = some n) (hu : Tryz.prog.underlying T = some d) (hd : rowD d = true) {oi : Oper} {a : Act} {w : World} (x : Operand) (ho : oi.op = .load T x)
  (g : Nat) (T' : TypeId) (cells : Array Value) (hx : a.eval x = .pointer (some ⟨g, 0, none⟩)) (hB : Blk w g T' cells) (hc : cells.size = n) : (execOp a.eval oi).run Tryz.prog w = .ok (.value (.agg cells)) w := by
 unfold execOp
 have := run_loadVar_row (P := Tryz.prog) w g T' T cells (0, 0) d hB hu (by cases d <;> first | rfl | cases hd) (by rw [hc]; exact hi)
 simp only [ho, hx, Instr.loadAt, Instr.sureAddr, Sem.run_bind, Sem.run_pure, Result.andThen_ok, this]
theorem infX : (Tryz.prog.info? 29).map (·.size) = some 12 := by kernel_rfl
theorem infTy : (Tryz.prog.info? 31).map (·.size) = some 3 := by kernel_rfl
theorem infFi : (Tryz.prog.info? 88).map (·.size) = some 4 := by kernel_rfl
theorem infTb : (Tryz.prog.info? 48).map (·.size) = some 4 := by kernel_rfl
theorem infFe : (Tryz.prog.info? 51).map (·.size) = some 18 := by kernel_rfl
theorem infVa : (Tryz.prog.info? 23).map (·.size) = some 3 := by kernel_rfl
theorem infWi : (Tryz.prog.info? 26).map (·.size) = some 2 := by kernel_rfl
theorem Blk.keeps {w w' : World} {g : Nat} {T : TypeId} {cs : Array Value} (h : Blk w g T cs) (b : Below w.heap.size w w') : Blk w' g T cs := h.below b h.lt
theorem Blk.drew {w : World} {g : Nat} {T : TypeId} {cs : Array Value} (h : Blk w g T cs) : Blk w.drew g T cs := h
theorem arm_mid {T : TypeId} {n : Nat} {d : TypeDesc} (hi : (Tryz.prog.info? T).map (·.size) = some n) (hu : Tryz.prog.underlying T = some d) (hd : d.isRow = true) {ops : Array Oper} {rest : List Oper} {o : Oper} {a : Act} {w : World} {Q : Exit → Act → World → Prop} (x : Operand) (ho : o.op = .load T x) (hgd : o.guard = none)
  (b off : Nat) (cells : Array Value) (hx : a.eval x = .pointer (some ⟨b, off, none⟩)) (hR : w.rangeAt b off cells.toList) (hc : cells.size = n)
  (h : wpList Tryz.prog ops Q rest (a.put o.dst (.agg cells)) w) : wpList Tryz.prog ops Q (o :: rest) a w :=
 wpList_load_mid hgd T x ho b off hx cells.toList d hR hu hd (by rw [Array.length_toList, hc]; exact hi) (by rw [Array.toArray_toList]; exact h)
theorem arm_loadG {T : TypeId} {n : Nat} {d : TypeDesc} (hi : (Tryz.prog.info? T).map (·.size) = some n) (hu : Tryz.prog.underlying T = some d) (hd : rowD d = true)
  {ops : Array Oper} {rest : List Oper} {o : Oper} {a : Act} {w : World} {Q : Exit → Act → World → Prop} (x : Operand) (ho : o.op = .load T x) (hgd : Region.wanted o (yielded ops a.tmps) = true)
  (g : Nat) (T' : TypeId) (cells : Array Value) (hx : a.eval x = .pointer (some ⟨g, 0, none⟩)) (hB : Blk w g T' cells) (hc : cells.size = n)
  (h : wpList Tryz.prog ops Q rest (a.put o.dst (.agg cells)) w) : wpList Tryz.prog ops Q (o :: rest) a w := by
 refine wpList_step fun K hK => ?_
 rw [if_pos hgd]
 exact wp_load_row T x ho g hx T' cells (0, 0) d hB hu (by cases d <;> first | rfl | cases hd) (by rw [hc]; exact hi) (hK _ _ h)
theorem arm_midG {T : TypeId} {n : Nat} {d : TypeDesc} (hi : (Tryz.prog.info? T).map (·.size) = some n) (hu : Tryz.prog.underlying T = some d) (hd : d.isRow = true) {ops : Array Oper} {rest : List Oper} {o : Oper} {a : Act} {w : World} {Q : Exit → Act → World → Prop} (x : Operand) (ho : o.op = .load T x) (hgd : Region.wanted o (yielded ops a.tmps) = true)
  (b off : Nat) (cells : Array Value) (hx : a.eval x = .pointer (some ⟨b, off, none⟩)) (hR : w.rangeAt b off cells.toList) (hc : cells.size = n)
  (h : wpList Tryz.prog ops Q rest (a.put o.dst (.agg cells)) w) : wpList Tryz.prog ops Q (o :: rest) a w := by
 refine wpList_step fun K hK => ?_
 rw [if_pos hgd]
 exact wp_load_mid T x ho b off hx cells.toList d hR hu hd (by rw [Array.length_toList, hc]; exact hi) (hK _ _ (by rw [Array.toArray_toList]; exact h))
theorem exC_one (h : Hd) (n : Nat) (ua : Option Addr) (uc : Nat) (aa : Option Addr) (ac : Nat) : (exC h n ua uc aa ac).all (·.oneCell') = true := by simp [exC, Value.oneCell']
end Go.Proofs.YtbahfelnbofjjaaGreatDoor.ch
namespace Go.Proofs.YtbahfelnbofjjaaGreatDoor.ch
open Go.RowKit dec
def Num (n : Int) (w : World) (e : Ending) (w' : World) : Prop := e = .returned (.int .i64 n) ∧ Below w.heap.size w w'
theorem next_at {j : Nat} (h : j < 9223372036854775807) : wrap64 ((j : Int) + 1) = ((j + 1 : Nat) : Int) := by unfold wrap64; omega
theorem less_at {n j : Nat} (h : j < n) {x : Int} (hx : x = ((j + 1 : Nat) : Int)) : n - (intOf (Value.int .i64 x)).toNat < n - (intOf (Value.int .i64 ((j : Nat) : Int))).toNat := by
 subst hx
 simp only [intOf, Int.toNat_natCast]
 omega
theorem szA_at {F : Fo} {j : Nat} (h : j < F.len) (n : Int) : szA (F.drop j) n = szA (F.drop (j + 1)) (wrap64 (n + szE (F.nth j))) := by
 rw [drop_nth F j h]
 rfl
theorem dpA_at {F : Fo} {j : Nat} (h : j < F.len) (n : Int) : dpA (F.drop j) n = dpA (F.drop (j + 1)) (max n (dpE (F.nth j))) := by
 rw [drop_nth F j h]
 rfl
theorem max_ways (x y : Int) : (if x < y then y else x) = max x y := by omega
theorem size_step (n : Nat) (IH : ∀ (x : Ex) (ua aa : Option Addr) (uc ac : Nat) (w : World), x.ar.sz < n → Fs w aa x.ar.len ac x.ar → Calls Tryz.prog 93 #[.agg (exC x.h x.ar.len ua uc aa ac)] w (Num (szE x) w))
  (x : Ex) (ua aa : Option Addr) (uc ac : Nat) (w : World) (hz : x.ar.sz = n) (hA : Fs w aa x.ar.len ac x.ar) : Calls Tryz.prog 93 #[.agg (exC x.h x.ar.len ua uc aa ac)] w (Num (szE x) w) := by
 have A1 := Lib.hid hA
 have IH' := Lib.hid IH
 have HZ := Lib.hid hz
 have hS := Lib.hid (show szE x = szA (x.ar.drop 0) 1 by rw [drop_zero]; rfl)
 have hlen := hA.hcap
 have hmax := hA.hmax
 have hL := Lib.hid (show x.ar.len ≤ 9223372036854775807 by omega)
 clear hA IH hz hlen hmax
 unfold exC
 go_enter Tryz.func93, Tryz.ntmps93
 go_wp2_with fail
 go_loopw [2, 8] (fun vn vi wr => ∃ (j : Nat) (m : Int), vn = .int .i64 m ∧ vi = .int .i64 (j : Nat) ∧ Hid (j ≤ x.ar.len) ∧ Hid (szE x = szA (x.ar.drop j) m) ∧ Hid (Below w.heap.size w wr)) (fun _ vi _ => x.ar.len - (intOf vi).toNat)
 case atStart => exact ⟨0, 1, rfl, rfl, Lib.hid (Nat.zero_le _), hS, Lib.hid (balloc (b0 w) _)⟩
 case round =>
  clear hS
  obtain ⟨j, m, rfl, rfl, hj, hS, hb⟩ := hrel
  by_cases hlt : j < x.ar.len
  ·have q1 : decide ((j : Int) < (x.ar.len : Int)) = true := decide_eq_true (by omega)
   obtain ⟨bk, off, va, vc, wa, wc, rfl, R1, E1⟩ := (A1.out.keeps hb.out).at hlt
   replace hS := Lib.hid (hS.out.trans (szA_at hlt m))
   have f4 := Lib.hid (next_at (j := j) (by have := hL.out; omega))
   have hsz := Lib.hid (nth_sz x.ar j hlt)
   have i1 : (j : Int) < (x.ar.len : Int) := by omega
   replace E1 := Lib.hid E1
   replace R1 := Lib.hid R1
   clear A1 hj
   generalize hy : x.ar.nth j = y at *
   go_wp2_with (first | (refine arm_mid infX Tryz.underlying29 rfl (.tmp 10) rfl rfl bk (off + j * 12) (exC y.h y.ar.len va vc wa wc) rfl R1.out rfl ?_) | (refine arm_storeT infX (.tmp 4) (.tmp 11) rfl rfl _ _ _ _ rfl rfl (Blk.new _ _ _) rfl rfl (exC_one _ _ _ _ _ _) ?_; intro w5 L5 hs5; have bb5 := (balloc (b0 wr) _).trans (hs5.below (Nat.le_refl _))) | (refine arm_loadT infX Tryz.underlying29 rfl (.tmp 4) rfl rfl _ _ _ rfl L5 rfl ?_))
   have B5 := Lib.hid (hb.out.trans (bb5.mono hb.out.size))
   have E5 := Lib.hid (E1.out.keeps bb5)
   clear bb5 hs5 L5 R1 E1
   refine (IH'.out y va wa vc wc w5 (by have := hsz.out; have := HZ.out; omega) E5.out.ar).mono ?_
   rintro e w6 ⟨rfl, b6⟩
   have B6 := Lib.hid (bnext B5.out b6)
   clear b6 B5 E5 hb
   go_wp2_with fail
   exact ⟨⟨j + 1, _, rfl, congrArg (Value.int .i64) f4.out, Lib.hid hlt, hS, B6⟩, less_at hlt f4.out⟩
  ·have q1 : decide ((j : Int) < (x.ar.len : Int)) = false := decide_eq_false (by omega)
   replace hS := Lib.hid (show szE x = m by rw [hS.out, drop_end _ _ (by omega)]; rfl)
   clear A1 hj
   go_wp2_with fail
   go_ret
   exact ⟨by rw [hS.out]; rfl, hb.out⟩
theorem size_any (x : Ex) (ua aa : Option Addr) (uc ac : Nat) (w : World) (hA : Fs w aa x.ar.len ac x.ar) : Calls Tryz.prog 93 #[.agg (exC x.h x.ar.len ua uc aa ac)] w (Num (szE x) w) := by
 have key : ∀ n, ∀ (x : Ex) (ua aa : Option Addr) (uc ac : Nat) (w : World), x.ar.sz < n → Fs w aa x.ar.len ac x.ar → Calls Tryz.prog 93 #[.agg (exC x.h x.ar.len ua uc aa ac)] w (Num (szE x) w) := by
  intro n
  induction n with
  | zero => intro x ua aa uc ac w h; exact absurd h (Nat.not_lt_zero _)
  | succ n ih =>
   intro x ua aa uc ac w h hA
   exact size_step x.ar.sz (fun x' ua' aa' uc' ac' w' h' => ih x' ua' aa' uc' ac' w' (by omega)) x ua aa uc ac w rfl hA
 exact key _ x ua aa uc ac w (Nat.lt_succ_self _) hA
theorem depth_step (n : Nat) (IH : ∀ (x : Ex) (ua aa : Option Addr) (uc ac : Nat) (w : World), x.ar.sz < n → Fs w aa x.ar.len ac x.ar → Calls Tryz.prog 94 #[.agg (exC x.h x.ar.len ua uc aa ac)] w (Num (dpE x) w))
  (x : Ex) (ua aa : Option Addr) (uc ac : Nat) (w : World) (hz : x.ar.sz = n) (hA : Fs w aa x.ar.len ac x.ar) : Calls Tryz.prog 94 #[.agg (exC x.h x.ar.len ua uc aa ac)] w (Num (dpE x) w) := by
 have A1 := Lib.hid hA
 have IH' := Lib.hid IH
 have HZ := Lib.hid hz
 have hS := Lib.hid (show dpA x.ar 0 = dpA (x.ar.drop 0) 0 by rw [drop_zero])
 have hlen := hA.hcap
 have hmax := hA.hmax
 have hL := Lib.hid (show x.ar.len ≤ 9223372036854775807 by omega)
 clear hA IH hz hlen hmax
 unfold exC
 go_enter Tryz.func94, Tryz.ntmps94
 go_wp2_with fail
 go_loopw [2, 8] (fun vn vi wr => ∃ (j : Nat) (m : Int), vn = .int .i64 m ∧ vi = .int .i64 (j : Nat) ∧ Hid (j ≤ x.ar.len) ∧ Hid (dpA x.ar 0 = dpA (x.ar.drop j) m) ∧ Hid (Below w.heap.size w wr)) (fun _ vi _ => x.ar.len - (intOf vi).toNat)
 case atStart => exact ⟨0, 0, rfl, rfl, Lib.hid (Nat.zero_le _), hS, Lib.hid (balloc (b0 w) _)⟩
 case round =>
  clear hS
  obtain ⟨j, m, rfl, rfl, hj, hS, hb⟩ := hrel
  by_cases hlt : j < x.ar.len
  ·have q1 : decide ((j : Int) < (x.ar.len : Int)) = true := decide_eq_true (by omega)
   obtain ⟨bk, off, va, vc, wa, wc, rfl, R1, E1⟩ := (A1.out.keeps hb.out).at hlt
   replace hS := Lib.hid (hS.out.trans (dpA_at hlt m))
   have f4 := Lib.hid (next_at (j := j) (by have := hL.out; omega))
   have hsz := Lib.hid (nth_sz x.ar j hlt)
   have i1 : (j : Int) < (x.ar.len : Int) := by omega
   replace E1 := Lib.hid E1
   replace R1 := Lib.hid R1
   clear A1 hj
   generalize hy : x.ar.nth j = y at *
   go_wp2_with (first | (refine arm_mid infX Tryz.underlying29 rfl (.tmp 10) rfl rfl bk (off + j * 12) (exC y.h y.ar.len va vc wa wc) rfl R1.out rfl ?_) | (refine arm_storeT infX (.tmp 4) (.tmp 11) rfl rfl _ _ _ _ rfl rfl (Blk.new _ _ _) rfl rfl (exC_one _ _ _ _ _ _) ?_; intro w5 L5 hs5; have bb5 := (balloc (b0 wr) _).trans (hs5.below (Nat.le_refl _))) | (refine arm_loadT infX Tryz.underlying29 rfl (.tmp 4) rfl rfl _ _ _ rfl L5 rfl ?_))
   have B5 := Lib.hid (hb.out.trans (bb5.mono hb.out.size))
   have E5 := Lib.hid (E1.out.keeps bb5)
   clear bb5 hs5 L5 R1 E1
   refine (IH'.out y va wa vc wc w5 (by have := hsz.out; have := HZ.out; omega) E5.out.ar).mono ?_
   rintro e w6 ⟨rfl, b6⟩
   have B6 := Lib.hid (bnext B5.out b6)
   have mx := max_ways m (dpE y)
   clear b6 B5 E5 hb
   go_wp2_with fail
   exact ⟨⟨j + 1, _, rfl, congrArg (Value.int .i64) f4.out, Lib.hid hlt, hS, B6⟩, less_at hlt f4.out⟩
  ·have q1 : decide ((j : Int) < (x.ar.len : Int)) = false := decide_eq_false (by omega)
   replace hS := Lib.hid (show dpE x = wrap64 (m + 1) by unfold dpE; rw [hS.out, drop_end _ _ (by omega)]; rfl)
   clear A1 hj
   go_wp2_with fail
   go_ret
   exact ⟨by rw [hS.out]; rfl, hb.out⟩
theorem depth_any (x : Ex) (ua aa : Option Addr) (uc ac : Nat) (w : World) (hA : Fs w aa x.ar.len ac x.ar) : Calls Tryz.prog 94 #[.agg (exC x.h x.ar.len ua uc aa ac)] w (Num (dpE x) w) := by
 have key : ∀ n, ∀ (x : Ex) (ua aa : Option Addr) (uc ac : Nat) (w : World), x.ar.sz < n → Fs w aa x.ar.len ac x.ar → Calls Tryz.prog 94 #[.agg (exC x.h x.ar.len ua uc aa ac)] w (Num (dpE x) w) := by
  intro n
  induction n with
  | zero => intro x ua aa uc ac w h; exact absurd h (Nat.not_lt_zero _)
  | succ n ih =>
   intro x ua aa uc ac w h hA
   exact depth_step x.ar.sz (fun x' ua' aa' uc' ac' w' h' => ih x' ua' aa' uc' ac' w' (by omega)) x ua aa uc ac w rfl hA
 exact key _ x ua aa uc ac w (Nat.lt_succ_self _) hA
theorem rsize_step (n : Nat) (IH : ∀ (x : Ex) (ua aa : Option Addr) (uc ac : Nat) (w : World), x.ar.sz < n → Fs w aa x.ar.len ac x.ar → Calls Tryz.prog 63 #[.agg (exC x.h x.ar.len ua uc aa ac)] w (Num (szE x) w))
  (x : Ex) (ua aa : Option Addr) (uc ac : Nat) (w : World) (hz : x.ar.sz = n) (hA : Fs w aa x.ar.len ac x.ar) : Calls Tryz.prog 63 #[.agg (exC x.h x.ar.len ua uc aa ac)] w (Num (szE x) w) := by
 have A1 := Lib.hid hA
 have IH' := Lib.hid IH
 have HZ := Lib.hid hz
 have hS := Lib.hid (show szE x = szA (x.ar.drop 0) 1 by rw [drop_zero]; rfl)
 have hlen := hA.hcap
 have hmax := hA.hmax
 have hL := Lib.hid (show x.ar.len ≤ 9223372036854775807 by omega)
 clear hA IH hz hlen hmax
 unfold exC
 go_enter Tryz.func63, Tryz.ntmps63
 go_wp2_with fail
 go_loopw [3, 4] (fun vn vi wr => ∃ (j : Nat) (m : Int), vn = .int .i64 m ∧ vi = .int .i64 (j : Nat) ∧ Hid (j ≤ x.ar.len) ∧ Hid (szE x = szA (x.ar.drop j) m) ∧ Hid (Below w.heap.size w wr) ∧ Hid (Blk wr w.heap.size 29 (exC x.h x.ar.len ua uc aa ac))) (fun _ vi _ => x.ar.len - (intOf vi).toNat)
 case atStart => exact ⟨0, 1, rfl, rfl, Lib.hid (Nat.zero_le _), hS, Lib.hid (balloc (b0 w) _), Lib.hid (Blk.new w 29 (exC x.h x.ar.len ua uc aa ac))⟩
 case round =>
  clear hS
  obtain ⟨j, m, rfl, rfl, hj, hS, hb, G⟩ := hrel
  have g11 := G.out.cell 11
  simp only [exC, List.getElem?_toArray, List.getElem?_cons_zero, List.getElem?_cons_succ] at g11
  by_cases hlt : j < x.ar.len
  ·have q1 : decide ((j : Int) < (x.ar.len : Int)) = true := decide_eq_true (by omega)
   obtain ⟨bk, off, va, vc, wa, wc, rfl, R1, E1⟩ := (A1.out.keeps hb.out).at hlt
   replace hS := Lib.hid (hS.out.trans (szA_at hlt m))
   have f4 := Lib.hid (next_at (j := j) (by have := hL.out; omega))
   have hsz := Lib.hid (nth_sz x.ar j hlt)
   have i1 : (j : Int) < (x.ar.len : Int) := by omega
   replace E1 := Lib.hid E1
   replace R1 := Lib.hid R1
   clear A1 hj
   generalize hy : x.ar.nth j = y at *
   go_wp2_with (first | (refine arm_mid infX Tryz.underlying29 rfl (.tmp 16) rfl rfl bk (off + j * 12) (exC y.h y.ar.len va vc wa wc) rfl R1.out rfl ?_))
   have B5 := hb
   have E5 := E1
   clear R1 E1
   refine (IH'.out y va wa vc wc wr (by have := hsz.out; have := HZ.out; omega) E5.out.ar).mono ?_
   rintro e w6 ⟨rfl, b6⟩
   have B6 := Lib.hid (bnext B5.out b6)
   have G6 := Lib.hid (G.out.keeps b6)
   have g11b := G6.out.cell 11
   clear g11b
   clear b6 B5 E5 hb
   go_wp2_with fail
   exact ⟨⟨j + 1, _, rfl, congrArg (Value.int .i64) f4.out, Lib.hid hlt, hS, B6, G6⟩, less_at hlt f4.out⟩
  ·have q1 : decide ((j : Int) < (x.ar.len : Int)) = false := decide_eq_false (by omega)
   replace hS := Lib.hid (show szE x = m by rw [hS.out, drop_end _ _ (by omega)]; rfl)
   clear A1 hj
   go_wp2_with fail
   go_ret
   exact ⟨by rw [hS.out]; rfl, hb.out⟩
theorem rsize_any (x : Ex) (ua aa : Option Addr) (uc ac : Nat) (w : World) (hA : Fs w aa x.ar.len ac x.ar) : Calls Tryz.prog 63 #[.agg (exC x.h x.ar.len ua uc aa ac)] w (Num (szE x) w) := by
 have key : ∀ n, ∀ (x : Ex) (ua aa : Option Addr) (uc ac : Nat) (w : World), x.ar.sz < n → Fs w aa x.ar.len ac x.ar → Calls Tryz.prog 63 #[.agg (exC x.h x.ar.len ua uc aa ac)] w (Num (szE x) w) := by
  intro n
  induction n with
  | zero => intro x ua aa uc ac w h; exact absurd h (Nat.not_lt_zero _)
  | succ n ih =>
   intro x ua aa uc ac w h hA
   exact rsize_step x.ar.sz (fun x' ua' aa' uc' ac' w' h' => ih x' ua' aa' uc' ac' w' (by omega)) x ua aa uc ac w rfl hA
 exact key _ x ua aa uc ac w (Nat.lt_succ_self _) hA
theorem rdepth_step (n : Nat) (IH : ∀ (x : Ex) (ua aa : Option Addr) (uc ac : Nat) (w : World), x.ar.sz < n → Fs w aa x.ar.len ac x.ar → Calls Tryz.prog 64 #[.agg (exC x.h x.ar.len ua uc aa ac)] w (Num (dpE x) w))
  (x : Ex) (ua aa : Option Addr) (uc ac : Nat) (w : World) (hz : x.ar.sz = n) (hA : Fs w aa x.ar.len ac x.ar) : Calls Tryz.prog 64 #[.agg (exC x.h x.ar.len ua uc aa ac)] w (Num (dpE x) w) := by
 have A1 := Lib.hid hA
 have IH' := Lib.hid IH
 have HZ := Lib.hid hz
 have hS := Lib.hid (show dpA x.ar 0 = dpA (x.ar.drop 0) 0 by rw [drop_zero])
 have hlen := hA.hcap
 have hmax := hA.hmax
 have hL := Lib.hid (show x.ar.len ≤ 9223372036854775807 by omega)
 clear hA IH hz hlen hmax
 unfold exC
 go_enter Tryz.func64, Tryz.ntmps64
 go_wp2_with fail
 go_loopw [3, 4] (fun vn vi wr => ∃ (j : Nat) (m : Int), vn = .int .i64 m ∧ vi = .int .i64 (j : Nat) ∧ Hid (j ≤ x.ar.len) ∧ Hid (dpA x.ar 0 = dpA (x.ar.drop j) m) ∧ Hid (Below w.heap.size w wr) ∧ Hid (Blk wr w.heap.size 29 (exC x.h x.ar.len ua uc aa ac))) (fun _ vi _ => x.ar.len - (intOf vi).toNat)
 case atStart => exact ⟨0, 0, rfl, rfl, Lib.hid (Nat.zero_le _), hS, Lib.hid (balloc (b0 w) _), Lib.hid (Blk.new w 29 (exC x.h x.ar.len ua uc aa ac))⟩
 case round =>
  clear hS
  obtain ⟨j, m, rfl, rfl, hj, hS, hb, G⟩ := hrel
  have g11 := G.out.cell 11
  simp only [exC, List.getElem?_toArray, List.getElem?_cons_zero, List.getElem?_cons_succ] at g11
  by_cases hlt : j < x.ar.len
  ·have q1 : decide ((j : Int) < (x.ar.len : Int)) = true := decide_eq_true (by omega)
   obtain ⟨bk, off, va, vc, wa, wc, rfl, R1, E1⟩ := (A1.out.keeps hb.out).at hlt
   replace hS := Lib.hid (hS.out.trans (dpA_at hlt m))
   have f4 := Lib.hid (next_at (j := j) (by have := hL.out; omega))
   have hsz := Lib.hid (nth_sz x.ar j hlt)
   have i1 : (j : Int) < (x.ar.len : Int) := by omega
   replace E1 := Lib.hid E1
   replace R1 := Lib.hid R1
   clear A1 hj
   generalize hy : x.ar.nth j = y at *
   go_wp2_with (first | (refine arm_mid infX Tryz.underlying29 rfl (.tmp 16) rfl rfl bk (off + j * 12) (exC y.h y.ar.len va vc wa wc) rfl R1.out rfl ?_))
   have B5 := hb
   have E5 := E1
   clear R1 E1
   refine (IH'.out y va wa vc wc wr (by have := hsz.out; have := HZ.out; omega) E5.out.ar).mono ?_
   rintro e w6 ⟨rfl, b6⟩
   have B6 := Lib.hid (bnext B5.out b6)
   have G6 := Lib.hid (G.out.keeps b6)
   have g11b := G6.out.cell 11
   clear g11b
   have mx := max_ways m (dpE y)
   clear b6 B5 E5 hb
   go_wp2_with fail
   exact ⟨⟨j + 1, _, rfl, congrArg (Value.int .i64) f4.out, Lib.hid hlt, hS, B6, G6⟩, less_at hlt f4.out⟩
  ·have q1 : decide ((j : Int) < (x.ar.len : Int)) = false := decide_eq_false (by omega)
   replace hS := Lib.hid (show dpE x = wrap64 (m + 1) by unfold dpE; rw [hS.out, drop_end _ _ (by omega)]; rfl)
   clear A1 hj
   go_wp2_with fail
   go_ret
   exact ⟨by rw [hS.out]; rfl, hb.out⟩
theorem rdepth_any (x : Ex) (ua aa : Option Addr) (uc ac : Nat) (w : World) (hA : Fs w aa x.ar.len ac x.ar) : Calls Tryz.prog 64 #[.agg (exC x.h x.ar.len ua uc aa ac)] w (Num (dpE x) w) := by
 have key : ∀ n, ∀ (x : Ex) (ua aa : Option Addr) (uc ac : Nat) (w : World), x.ar.sz < n → Fs w aa x.ar.len ac x.ar → Calls Tryz.prog 64 #[.agg (exC x.h x.ar.len ua uc aa ac)] w (Num (dpE x) w) := by
  intro n
  induction n with
  | zero => intro x ua aa uc ac w h; exact absurd h (Nat.not_lt_zero _)
  | succ n ih =>
   intro x ua aa uc ac w h hA
   exact rdepth_step x.ar.sz (fun x' ua' aa' uc' ac' w' h' => ih x' ua' aa' uc' ac' w' (by omega)) x ua aa uc ac w rfl hA
 exact key _ x ua aa uc ac w (Nat.lt_succ_self _) hA
end Go.Proofs.YtbahfelnbofjjaaGreatDoor.ch
namespace Go.Proofs.YtbahfelnbofjjaaGreatDoor.un
open Go.RowKit dec
theorem letter_any (c : Int) (w : World) : Calls Tryz.prog 266 #[.int .u8 c] w fun e w' => e = .returned (.bool (lett c)) ∧ w = w' := by
 go_enter Tryz.func266, Tryz.ntmps266
 go_wp2_with fail
 all_goals go_ret
 all_goals refine ⟨ret_bool ?_, rfl⟩
 all_goals unfold lett
 all_goals simp_all
 all_goals omega
theorem digit_any (c : Int) (w : World) : Calls Tryz.prog 267 #[.int .u8 c] w fun e w' => e = .returned (.bool (digi c)) ∧ w = w' := by
 go_enter Tryz.func267, Tryz.ntmps267
 go_wp2_with fail
 all_goals go_ret
 all_goals refine ⟨ret_bool ?_, rfl⟩
 all_goals unfold digi
 all_goals simp_all
 all_goals omega
theorem range_any (n : Int) (w : World) : Calls Tryz.prog 218 #[.int .i64 n] w fun e w' => e = .returned (.bool (!far n)) ∧ w = w' := by
 go_enter Tryz.func218, Tryz.ntmps218
 go_wp2_with fail
 all_goals go_ret
 all_goals refine ⟨ret_bool ?_, rfl⟩
 all_goals unfold far
 all_goals rw [Bool.eq_iff_iff]
 all_goals simp
 all_goals omega
theorem far_any (n : Int) (w : World) : Calls Tryz.prog 128 #[.int .i64 n] w fun e w' => e = .returned (.bool (far n)) ∧ w = w' := by
 go_enter Tryz.func128, Tryz.ntmps128
 go_wp2_with fail
 all_goals go_ret
 all_goals refine ⟨ret_bool ?_, rfl⟩
 all_goals unfold far
 all_goals simp_all
theorem wch_at (s : ByteArray) {j : Nat} (hj : j < s.size) : (s.data.toList.drop j).all wch = (wch s[j] && (s.data.toList.drop (j + 1)).all wch) := by
 have h : j < s.data.toList.length := by rw [← Lib.size_eq]; exact hj
 rw [List.drop_eq_getElem_cons h]
 rfl
theorem wch_end (s : ByteArray) {j : Nat} (hj : s.size ≤ j) : (s.data.toList.drop j).all wch = true := by
 rw [List.drop_eq_nil_of_le (by rw [← Lib.size_eq]; exact hj)]
 rfl
theorem word_is (s : ByteArray) (h0 : 0 < s.size) : word s = (decide (s.size ≤ 24) && (lett s[0].toNat && (s.data.toList.drop 0).all wch)) := by
 unfold word wordL
 rw [← Lib.size_eq, List.drop_zero]
 have h : 0 < s.data.toList.length := by rw [← Lib.size_eq]; exact h0
 have e : s.data.toList.headD 0 = s[0] := by
  have := List.drop_eq_getElem_cons h
  rw [List.drop_zero] at this
  rw [this]
  rfl
 rw [e]
 congr 1
 rw [decide_eq_decide]
 omega
theorem word_none (s : ByteArray) (h0 : s.size = 0) : word s = false := by
 unfold word wordL
 rw [← Lib.size_eq, h0]
 rfl
theorem toList_nil (s : ByteArray) : (s.toList == []) = decide (s.size = 0) := by
 have e : s.size = s.toList.length := by rw [ByteArray.toList_eq]; rfl
 rw [e]
 cases s.toList <;> rfl
theorem wch_is (c : UInt8) : wch c = (lett c.toNat || (digi c.toNat || decide ((c.toNat : Int) = 95))) := by
 unfold wch
 congr 2
 rw [Bool.eq_iff_iff]
 simp
 omega
theorem next_at {j : Nat} (h : j < 9223372036854775807) : wrap64 ((j : Int) + 1) = ((j + 1 : Nat) : Int) := by unfold wrap64; omega
theorem less_at {n j : Nat} (h : j < n) (f : wrap64 ((j : Int) + 1) = ((j + 1 : Nat) : Int)) : n - (intOf (Value.int .i64 (wrap64 ((j : Int) + 1)))).toNat < n - (intOf (Value.int .i64 (j : Int))).toNat := by
 rw [f]
 clear f
 show n - (((j + 1 : Nat) : Int)).toNat < n - ((j : Nat) : Int).toNat
 rw [Int.toNat_natCast, Int.toNat_natCast]
 omega
theorem isWord_any (s : ByteArray) (w : World) : Calls Tryz.prog 217 #[.string s] w fun e w' => e = .returned (.bool (word s)) ∧ w = w' := by
 have L := Lib.hid letter_any
 have D := Lib.hid digit_any
 by_cases h0 : s.size = 0
 ·rw [word_none s h0]
  have q1 : (s.toList == []) = true := by rw [toList_nil, h0]; rfl
  clear L D
  go_enter Tryz.func217, Tryz.ntmps217
  go_wp2_with fail
  go_ret
  exact ⟨rfl, rfl⟩
 ·have h0' : 0 < s.size := by omega
  have hw := word_is s h0'
  have q1 : (s.toList == []) = false := by rw [toList_nil]; exact decide_eq_false h0
  by_cases h24 : s.size ≤ 24
  ·have q2 : decide (24 < (s.size : Int)) = false := decide_eq_false (by omega)
   rw [decide_eq_true h24, Bool.true_and] at hw
   have hS := Lib.hid h24
   clear h24
   cases hl : lett s[0].toNat
   ·rw [hl, Bool.false_and] at hw
    rw [hw]
    go_enter Tryz.func217, Tryz.ntmps217
    go_wp2_with fail
    refine (L.out _ _).mono ?_
    rintro e w' ⟨rfl, rfl⟩
    go_wp2_with fail
    go_ret
    exact ⟨rfl, rfl⟩
   ·rw [hl, Bool.true_and] at hw
    have H := Lib.hid hw
    clear hw
    go_enter Tryz.func217, Tryz.ntmps217
    go_wp2_with fail
    refine (L.out _ _).mono ?_
    rintro e w' ⟨rfl, rfl⟩
    go_wp2_with fail
    go_loopw [20] (fun vi wr => ∃ j : Nat, vi = .int .i64 (j : Nat) ∧ j ≤ s.size ∧ Hid (word s = (s.data.toList.drop j).all wch) ∧ w = wr) (fun vi _ => s.size - (intOf vi).toNat)
    case atStart => exact ⟨0, rfl, by omega, H, rfl⟩
    case round =>
     obtain ⟨j, rfl, hj, hd, rfl⟩ := hrel
     clear H
     by_cases hc : j < s.size
     ·have hst := hd.out
      rw [wch_at s hc, wch_is] at hst
      have q3 : decide ((j : Int) < (s.size : Int)) = true := decide_eq_true (by omega)
      have f4 := Lib.hid (next_at (j := j) (by have := hS.out; omega))
      generalize hJ : ((s[j].toNat : Nat) : Int) = c at hst
      clear hd
      cases hlc : lett c
      ·cases hdc : digi c
       ·by_cases h95 : c = 95
        ·rw [hlc, hdc, decide_eq_true h95] at hst
         have q5 : (c == 95) = true := beq_iff_eq.2 h95
         simp only [Bool.false_or, Bool.true_and] at hst
         have H := Lib.hid hst
         clear hst h95
         go_wp2_with fail
         refine (L.out _ _).mono ?_
         rintro e w' ⟨rfl, rfl⟩
         go_wp2_with fail
         refine (D.out _ _).mono ?_
         rintro e w' ⟨rfl, rfl⟩
         go_wp2_with fail
         go_roundw
         case rel => exact ⟨j + 1, congrArg (Value.int .i64) f4.out, hc, H, trivial⟩
         case measure => exact less_at hc f4.out
        ·rw [hlc, hdc, decide_eq_false h95] at hst
         have q5 : (c == 95) = false := beq_eq_false_iff_ne.2 h95
         simp only [Bool.false_or, Bool.false_and] at hst
         have H := Lib.hid hst
         clear hst h95
         go_wp2_with fail
         refine (L.out _ _).mono ?_
         rintro e w' ⟨rfl, rfl⟩
         go_wp2_with fail
         refine (D.out _ _).mono ?_
         rintro e w' ⟨rfl, rfl⟩
         go_wp2_with fail
         go_ret
         exact ⟨ret_bool H.out.symm, rfl⟩
       ·rw [hlc, hdc] at hst
        simp only [Bool.true_or, Bool.false_or, Bool.true_and] at hst
        have H := Lib.hid hst
        clear hst
        go_wp2_with fail
        refine (L.out _ _).mono ?_
        rintro e w' ⟨rfl, rfl⟩
        go_wp2_with fail
        refine (D.out _ _).mono ?_
        rintro e w' ⟨rfl, rfl⟩
        go_wp2_with fail
        go_roundw
        case rel => exact ⟨j + 1, congrArg (Value.int .i64) f4.out, hc, H, trivial⟩
        case measure => exact less_at hc f4.out
      ·rw [hlc] at hst
       simp only [Bool.true_or, Bool.true_and] at hst
       have H := Lib.hid hst
       clear hst
       go_wp2_with fail
       refine (L.out _ _).mono ?_
       rintro e w' ⟨rfl, rfl⟩
       go_wp2_with fail
       go_roundw
       case rel => exact ⟨j + 1, congrArg (Value.int .i64) f4.out, hc, H, trivial⟩
       case measure => exact less_at hc f4.out
     ·have hst := hd.out
      rw [wch_end s (by omega)] at hst
      have H := Lib.hid hst
      clear hst hd
      have q3 : decide ((j : Int) < (s.size : Int)) = false := decide_eq_false (by omega)
      go_wp2_with fail
      go_ret
      exact ⟨ret_bool H.out.symm, rfl⟩
  ·rw [decide_eq_false h24, Bool.false_and] at hw
   have q2 : decide (24 < (s.size : Int)) = true := decide_eq_true (by omega)
   rw [hw]
   go_enter Tryz.func217, Tryz.ntmps217
   go_wp2_with fail
   go_ret
   exact ⟨rfl, rfl⟩
end Go.Proofs.YtbahfelnbofjjaaGreatDoor.un
namespace Go.Proofs.YtbahfelnbofjjaaGreatDoor.un
open Go.RowKit dec
def sameB (l r : List Fa) : Bool := decide (l = r)
theorem same_len {l r : List Fa} (h : l.length ≠ r.length) : sameB l r = false := decide_eq_false fun e => h (by rw [e])
theorem same_end {l r : List Fa} {j : Nat} (h1 : l.length ≤ j) (h2 : r.length ≤ j) (h : l.take j = r.take j) : sameB l r = true := by
 rw [List.take_of_length_le h1, List.take_of_length_le h2] at h
 exact decide_eq_true h
theorem same_next {l r : List Fa} {j : Nat} (h1 : j < l.length) (h2 : j < r.length) (h : l.take j = r.take j) (e1 : (gt l j).1 = (gt r j).1) (e2 : (gt l j).2 = (gt r j).2) : l.take (j + 1) = r.take (j + 1) := by
 rw [take_gt h1, take_gt h2, h, Prod.ext e1 e2]
theorem same_no {l r : List Fa} {j : Nat} (h : gt l j ≠ gt r j) : sameB l r = false := decide_eq_false fun e => h (by rw [e])
theorem bs_eq (a b : ByteArray) : (a.toList == b.toList) = decide (a = b) := by
 by_cases h : a = b
 ·rw [h]; simp
 ·rw [decide_eq_false h]
  exact beq_eq_false_iff_ne.2 fun e => h (toList_inj e)
theorem equal_any (a : Option Addr) (n cap : Nat) (b : Option Addr) (m cap2 : Nat) (l r : List Fa) (w : World) (hA : Sl w a n cap l) (hB : Sl w b m cap2 r) :
  Calls Tryz.prog 312 #[.slice a n cap, .slice b m cap2] w fun e w' => e = .returned (.bool (sameB l r)) ∧ Below w.heap.size w w' := by
 have h1 := Lib.hid hA
 have h2 := Lib.hid hB
 clear hA hB
 by_cases hnm : n = m
 ·subst hnm
  have qn : ((n : Int) != (n : Int)) = false := by simp
  go_enter Tryz.func312, Tryz.ntmps312
  go_wp2_with fail
  go_loopw [13] (fun i wr => ∃ j : Nat, i = .int .i64 (j : Nat) ∧ Hid (j ≤ n) ∧ Hid (l.take j = r.take j) ∧ Below w.heap.size w wr) (fun i _ => n - (intOf i).toNat)
  case atStart => exact ⟨0, rfl, Lib.hid (Nat.zero_le _), Lib.hid rfl, b0 w⟩
  case round =>
   obtain ⟨j, rfl, hj, ht, hb⟩ := hrel
   by_cases hlt : j < n
   ·have q1 : decide ((j : Int) < (n : Int)) = true := decide_eq_true (by omega)
    obtain ⟨A1, hn, hc, hm, _⟩ := h1.out.keeps hb
    obtain ⟨B1, hn2, hc2, hm2, _⟩ := h2.out.keeps hb
    obtain ⟨bk, off, rfl, hC⟩ := A1.resolve_left (by omega)
    obtain ⟨bk2, off2, rfl, hD⟩ := B1.resolve_left (by omega)
    obtain ⟨c0, c1⟩ := hC j (by omega)
    obtain ⟨d0, d1⟩ := hD j (by omega)
    have f4 := Lib.hid (next_at (j := j) (by omega))
    have hN := Lib.hid (fun e1 e2 => same_next (l := l) (r := r) (j := j) (by omega) (by omega) ht.out e1 e2)
    have hX := Lib.hid (fun h => same_no (l := l) (r := r) (j := j) h)
    have hbh := Lib.hid hb
    clear hC hD A1 B1 h1 h2 ht hj hc hm hc2 hm2 hn hn2 hb
    generalize gt l j = x at *
    generalize gt r j = y at *
    by_cases p1 : x.1.toList = y.1.toList
    ·by_cases p2 : x.2 = y.2
     ·have hT := Lib.hid (hN.out (toList_inj p1) p2)
      clear hN hX
      go_wp2_with fail
      go_region
      go_wp2_with fail
      refine ⟨⟨j + 1, congrArg (Value.int .i64) f4.out, Lib.hid hlt, hT, hbh.out.drew⟩, less_at hlt f4.out⟩
     ·have hT := Lib.hid (hX.out fun e => p2 (by rw [e]))
      clear hN hX
      go_wp2_with fail
      go_region
      go_wp2_with fail
      go_ret
      exact ⟨ret_bool hT.out.symm, hbh.out.drew⟩
    ·have hT := Lib.hid (hX.out fun e => p1 (by rw [e]))
     clear hN hX
     go_wp2_with fail
     go_region
     go_wp2_with fail
     go_ret
     exact ⟨ret_bool hT.out.symm, hbh.out.drew⟩
   ·have q1 : decide ((j : Int) < (n : Int)) = false := decide_eq_false (by omega)
    have hr := same_end (by have := h1.out.hn; omega) (by have := h2.out.hn; omega) ht.out
    go_wp2_with fail
    go_ret
    exact ⟨ret_bool hr.symm, hb⟩
 ·have hl := same_len (l := l) (r := r) (by rw [h1.out.hn, h2.out.hn]; exact hnm)
  have qn : ((n : Int) != (m : Int)) = true := by rw [bne_iff_ne]; omega
  clear h1 h2
  rw [hl]
  go_enter Tryz.func312, Tryz.ntmps312
  go_wp2_with fail
  go_ret
  exact ⟨rfl, b0 w⟩
theorem rsame_any (a : Option Addr) (n cap : Nat) (b : Option Addr) (m cap2 : Nat) (l r : List Fa) (w : World) (hA : Sl w a n cap l) (hB : Sl w b m cap2 r) :
  Calls Tryz.prog 75 #[.slice a n cap, .slice b m cap2] w fun e w' => e = .returned (.bool (sameB l r)) ∧ Below w.heap.size w w' := by
 have h1 := Lib.hid hA
 have h2 := Lib.hid hB
 clear hA hB
 by_cases hnm : n = m
 ·subst hnm
  have qn : ((n : Int) != (n : Int)) = false := by simp
  go_enter Tryz.func75, Tryz.ntmps75
  go_wp2_with fail
  go_loopw [5] (fun i wr => ∃ j : Nat, i = .int .i64 (j : Nat) ∧ Hid (j ≤ n) ∧ Hid (l.take j = r.take j) ∧ Below w.heap.size w wr) (fun i _ => n - (intOf i).toNat)
  case atStart => exact ⟨0, rfl, Lib.hid (Nat.zero_le _), Lib.hid rfl, b0 w⟩
  case round =>
   obtain ⟨j, rfl, hj, ht, hb⟩ := hrel
   by_cases hlt : j < n
   ·have q1 : decide ((j : Int) < (n : Int)) = true := decide_eq_true (by omega)
    obtain ⟨A1, hn, hc, hm, _⟩ := h1.out.keeps hb
    obtain ⟨B1, hn2, hc2, hm2, _⟩ := h2.out.keeps hb
    obtain ⟨bk, off, rfl, hC⟩ := A1.resolve_left (by omega)
    obtain ⟨bk2, off2, rfl, hD⟩ := B1.resolve_left (by omega)
    obtain ⟨c0, c1⟩ := hC j (by omega)
    obtain ⟨d0, d1⟩ := hD j (by omega)
    have f4 := Lib.hid (next_at (j := j) (by omega))
    have hN := Lib.hid (fun e1 e2 => same_next (l := l) (r := r) (j := j) (by omega) (by omega) ht.out e1 e2)
    have hX := Lib.hid (fun h => same_no (l := l) (r := r) (j := j) h)
    have hbh := Lib.hid hb
    clear hC hD A1 B1 h1 h2 ht hj hc hm hc2 hm2 hn hn2 hb
    generalize gt l j = x at *
    generalize gt r j = y at *
    by_cases p1 : x.1.toList = y.1.toList
    ·by_cases p2 : x.2 = y.2
     ·have hT := Lib.hid (hN.out (toList_inj p1) p2)
      clear hN hX
      go_wp2_with fail
      go_region
      go_wp2_with fail
      refine ⟨⟨j + 1, congrArg (Value.int .i64) f4.out, Lib.hid hlt, hT, hbh.out.drew⟩, less_at hlt f4.out⟩
     ·have hT := Lib.hid (hX.out fun e => p2 (by rw [e]))
      clear hN hX
      go_wp2_with fail
      go_region
      go_wp2_with fail
      go_ret
      exact ⟨ret_bool hT.out.symm, hbh.out.drew⟩
    ·have hT := Lib.hid (hX.out fun e => p1 (by rw [e]))
     clear hN hX
     go_wp2_with fail
     go_region
     go_wp2_with fail
     go_ret
     exact ⟨ret_bool hT.out.symm, hbh.out.drew⟩
   ·have q1 : decide ((j : Int) < (n : Int)) = false := decide_eq_false (by omega)
    have hr := same_end (by have := h1.out.hn; omega) (by have := h2.out.hn; omega) ht.out
    go_wp2_with fail
    go_ret
    exact ⟨ret_bool hr.symm, hb⟩
 ·have hl := same_len (l := l) (r := r) (by rw [h1.out.hn, h2.out.hn]; exact hnm)
  have qn : ((n : Int) != (m : Int)) = true := by rw [bne_iff_ne]; omega
  clear h1 h2
  rw [hl]
  go_enter Tryz.func75, Tryz.ntmps75
  go_wp2_with fail
  go_ret
  exact ⟨rfl, b0 w⟩
theorem same_any (a : Option Addr) (n cap : Nat) (b : Option Addr) (m cap2 : Nat) (l r : List Fa) (w : World) (hA : Sl w a n cap l) (hB : Sl w b m cap2 r) :
  Calls Tryz.prog 298 #[.slice a n cap, .slice b m cap2] w fun e w' => e = .returned (.bool (sameB l r)) ∧ Below w.heap.size w w' := by
 have C := Lib.hid (equal_any a n cap b m cap2 l r w hA hB)
 clear hA hB
 go_enter Tryz.func298, Tryz.ntmps298
 go_wp2_with fail
 refine C.out.mono ?_
 rintro e w1 ⟨rfl, b1⟩
 go_wp2_with fail
 go_ret
 exact ⟨rfl, b1⟩
end Go.Proofs.YtbahfelnbofjjaaGreatDoor.un
