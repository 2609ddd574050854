/-
  The parser in memory; small readers.
-/
import Derived.Laws.Rows
import Derived.Laws.Tables
import Derived.Deep.MidRow
import Derived.Deep.WholeRow
import Derived.BigRegion
import Derived.Deep.LoopGhost
import Derived.Test.YtkgclmikhpjheaaGreatDoorQ01
import Derived.Test.YtkgclmikhpjheaaGreatDoorQ02
import Derived.Test.YtkgclmikhpjheaaGreatDoorQ03
import Derived.Test.YtkgclmikhpjheaaGreatDoorQ04
namespace Go.Proofs.YtkgclmikhpjheaaGreatDoor
open Go.RowKit dec

/-- What an expression holds besides its arguments. -/
structure Hd where
  k : Int
  op : ByteArray
  nm : ByteArray
  tb : ByteArray
  vk : Int
  vn : Int
  vs : ByteArray
  un : List un.Fa
  pa : Int
  wk : Int
  ws : Int
/-- A row of expressions. -/
inductive Fo where
  | nil
  | cons (h : Hd) (ar r : Fo)
def Fo.len : Fo → Nat
  | .nil => 0
  | .cons _ _ r => r.len + 1
structure Ex where
  h : Hd
  ar : Fo
structure Ty where
  k : Int
  un : List un.Fa
  of : ByteArray
structure Fi where
  nm : ByteArray
  ty : Ty
structure Tb where
  nm : ByteArray
  en : ByteArray
  fs : List Fi
  kp : Int
structure Fe where
  nm : ByteArray
  en : ByteArray
  ty : Ty
  bo : Ex

/-- What a reader does with a list of tokens: not enough steps; a value and what is left; a problem with its offset and code and what is left. -/
inductive Rs (α : Type) where
  | out
  | ok (v : α) (r : List Tk)
  | no (a c : Int) (r : List Tk)
def Rs.bind {α β : Type} (x : Rs α) (g : α → List Tk → Rs β) : Rs β :=
  match x with
  | .out => .out
  | .ok v r => g v r
  | .no a c r => .no a c r

def hd (l : List Tk) : Tk := l.headD ⟨6, .empty, 0⟩
def wrg {α : Type} (l : List Tk) : Rs α := .no (hd l).a 90 l
def isT (s : ByteArray) (l : List Tk) : Bool := (decide ((hd l).k = 1) || decide ((hd l).k = 5)) && decide ((hd l).t = s)
def need (s : ByteArray) (l : List Tk) : Rs Unit := if isT s l = true then .ok () l.tail else wrg l
def tak (k : Int) (l : List Tk) : Rs ByteArray := if (hd l).k = k then .ok (hd l).t l.tail else wrg l
def nam (l : List Tk) : Rs ByteArray := if name (hd l).t = true then tak 1 l else wrg l
def nma (s : ByteArray) (l : List Tk) : Rs ByteArray := (need s l).bind fun _ r => nam r
def int (l : List Tk) : Rs Int := (tak 2 l).bind fun s r => .ok (atoiN s.data.toList) r
def deci (l : List Tk) : Rs Int := (tak 3 l).bind fun s r => .ok (paX s.data.toList) r
/-- What one reads, again and again with a sign in between; x: what has been read. -/
def more {α : Type} (one : List Tk → Rs α) (s : ByteArray) : Nat → List α → List Tk → Rs (List α)
  | 0, _, _ => .out
  | f + 1, x, l => if isT s l = true then (one l.tail).bind fun y r => more one s f (x ++ [y]) r else .ok x l
def lst {α : Type} (one : List Tk → Rs α) (s : ByteArray) (l : List Tk) : Rs (List α) := (one l).bind fun y r => more one s (r.length + 1) [y] r
def fac (l : List Tk) : Rs un.Fa :=
  (nam l).bind fun n r => if isT ⟨#[94]⟩ r = true then
    (if isT ⟨#[45]⟩ r.tail = true then (int r.tail.tail).bind fun x r => .ok (n, IntKind.i64.wrap (-1 * min x 1099511627776)) r else (int r.tail).bind fun x r => .ok (n, IntKind.i64.wrap (1 * min x 1099511627776)) r)
    else .ok (n, 1) r
def uni (l : List Tk) : Rs (List un.Fa) :=
  if isT ⟨#[91]⟩ l = true then (lst fac ⟨#[42]⟩ l.tail).bind fun u r => (need ⟨#[93]⟩ r).bind fun _ r => if un.nE u = 0 then .ok (un.nL u) r else .no (hd l).a (un.nE u) r
  else .ok [] l
def typ (l : List Tk) : Rs Ty :=
  if isT ⟨#[98, 111, 111, 108]⟩ l = true then .ok ⟨1, [], .empty⟩ l.tail
  else if isT ⟨#[116, 101, 120, 116]⟩ l = true then .ok ⟨4, [], .empty⟩ l.tail
  else if isT ⟨#[107, 101, 121]⟩ l = true then (nam l.tail).bind fun n r => .ok ⟨5, [], n⟩ r
  else if isT ⟨#[105, 110, 116]⟩ l = true then (uni l.tail).bind fun u r => .ok ⟨2, u, .empty⟩ r
  else if isT ⟨#[100, 101, 99]⟩ l = true then (uni l.tail).bind fun u r => .ok ⟨3, u, .empty⟩ r
  else wrg l
def win (l : List Tk) : Rs (Int × Int) :=
  if isT ⟨#[97, 108, 108]⟩ l = true then .ok (1, 0) l.tail
  else if isT ⟨#[115, 108, 105, 100, 105, 110, 103]⟩ l = true then (int l.tail).bind fun n r => .ok (2, n) r
  else if isT ⟨#[116, 117, 109, 98, 108, 105, 110, 103]⟩ l = true then (int l.tail).bind fun n r => .ok (3, n) r
  else if isT ⟨#[115, 101, 115, 115, 105, 111, 110]⟩ l = true then (int l.tail).bind fun n r => .ok (4, n) r
  else wrg l
def agg (s : ByteArray) : Bool := [(⟨#[99, 111, 117, 110, 116]⟩ : ByteArray), ⟨#[115, 117, 109]⟩, ⟨#[109, 101, 97, 110]⟩, ⟨#[109, 105, 110]⟩, ⟨#[109, 97, 120]⟩, ⟨#[102, 105, 114, 115, 116]⟩, ⟨#[108, 97, 115, 116]⟩, ⟨#[100, 105, 115, 116, 105, 110, 99, 116]⟩, ⟨#[113, 117, 97, 110, 116, 105, 108, 101]⟩, ⟨#[100, 101, 99, 97, 121]⟩].any fun t => decide (s = t)

def h0 : Hd := ⟨0, .empty, .empty, .empty, 0, 0, .empty, [], 0, 0, 0⟩
def booE (n : Int) : Ex := ⟨{ h0 with k := 1, vk := 1, vn := n }, .nil⟩
def unaE (op : ByteArray) (x : Ex) : Ex := ⟨{ h0 with k := 6, op := op }, .cons x.h x.ar .nil⟩
def binE (op : ByteArray) (x y : Ex) : Ex := if op = ⟨#[100, 101, 102, 97, 117, 108, 116]⟩ then ⟨{ h0 with k := 9 }, .cons x.h x.ar (.cons y.h y.ar .nil)⟩ else ⟨{ h0 with k := 7, op := op }, .cons x.h x.ar (.cons y.h y.ar .nil)⟩
def ifE (x y z : Ex) : Ex := ⟨{ h0 with k := 8 }, .cons x.h x.ar (.cons y.h y.ar (.cons z.h z.ar .nil))⟩
def litE (vk vn : Int) (u : List un.Fa) : Ex := ⟨{ h0 with k := 1, vk := vk, vn := vn, un := u }, .nil⟩
def texE (s : ByteArray) : Ex := ⟨{ h0 with k := 1, vk := 4, vs := s }, .nil⟩
def keyE (n s : ByteArray) : Ex := ⟨{ h0 with k := 1, nm := n, vk := 5, vs := s }, .nil⟩
def fieE (n : ByteArray) : Ex := ⟨{ h0 with k := 2, nm := n }, .nil⟩
def feaE (n : ByteArray) : Ex := ⟨{ h0 with k := 3, nm := n }, .nil⟩
def looE (n : ByteArray) (x : Ex) : Ex := ⟨{ h0 with k := 4, nm := n }, .cons x.h x.ar .nil⟩
def aggE (op t : ByteArray) (p : Int) (w : Int × Int) (x y : Ex) : Ex := ⟨{ h0 with k := 5, op := op, tb := t, pa := p, wk := w.1, ws := w.2 }, .cons x.h x.ar (.cons y.h y.ar .nil)⟩

/-- An operator of a rank; the empty text, if none follows. -/
def opr (n : Nat) (l : List Tk) : ByteArray := ((opL n).find? fun s => isT s l).getD .empty

def key (l : List Tk) : Rs Ex :=
  (nma ⟨#[64]⟩ l).bind fun n r => (tak 4 r).bind fun s r' => if ck ⟨5, 0, s⟩ = 0 then .ok (keyE n s) r' else .no (hd r).a 3 r'
/-- Where a reader of expressions stands. -/
inductive Md where
  | ex | op (least : Nat) | tl (least n : Nat) (x : Ex) | ng | pr | pa | ag | rf
/-- An optional condition. -/
def pz : Nat → Bool → Md → List Tk → Rs Ex
  | 0, _, _, _ => .out
  | f + 1, i, .ex, l =>
    if isT ⟨#[105, 102]⟩ l = true then
      (pz f i .ex l.tail).bind fun x r => (need ⟨#[116, 104, 101, 110]⟩ r).bind fun _ r => (pz f i .ex r).bind fun y r => (need ⟨#[101, 108, 115, 101]⟩ r).bind fun _ r => (pz f i .ex r).bind fun z r => .ok (ifE x y z) r
    else pz f i (.op 0) l
  | f + 1, i, .op least, l =>
    if least ≤ 3 ∧ isT ⟨#[110, 111, 116]⟩ l = true then (pz f i (.op 3) l.tail).bind fun x r => pz f i (.tl least 3 (unaE ⟨#[110, 111, 116]⟩ x)) r
    else (pz f i .ng l).bind fun x r => pz f i (.tl least 6 x) r
  | f + 1, i, .tl least n x, l =>
    if n ≤ least then .ok x l
    else if opr (n - 1) l = .empty then pz f i (.tl least (n - 1) x) l
    else (pz f i (.op n) l.tail).bind fun y r => pz f i (.tl least (if n = 4 then 3 else n) (binE (opr (n - 1) l) x y)) r
  | f + 1, i, .ng, l => if isT ⟨#[45]⟩ l = true then (pz f i .ng l.tail).bind fun x r => .ok (unaE ⟨#[45]⟩ x) r else pz f i .pr l
  | f + 1, i, .pa, l => (need ⟨#[40]⟩ l).bind fun _ r => (pz f i .ex r).bind fun x r => (need ⟨#[41]⟩ r).bind fun _ r => .ok x r
  | f + 1, i, .rf, l => (nam l).bind fun n r => if isT ⟨#[111, 102]⟩ r = true then (pz f i .pa r.tail).bind fun x r => .ok (looE n x) r else .ok (feaE n) r
  | f + 1, _, .ag, l =>
    (tak 1 l).bind fun op r => (need ⟨#[40]⟩ r).bind fun _ r => (nam r).bind fun t r => (need ⟨#[44]⟩ r).bind fun _ r =>
    (if op = ⟨#[99, 111, 117, 110, 116]⟩ then .ok (booE 1) r else (pz f true .ex r).bind fun x r => (need ⟨#[44]⟩ r).bind fun _ r => .ok x r).bind fun x r =>
    (if op = ⟨#[113, 117, 97, 110, 116, 105, 108, 101]⟩ ∨ op = ⟨#[100, 101, 99, 97, 121]⟩ then (int r).bind fun n r => (need ⟨#[44]⟩ r).bind fun _ r => .ok n r else .ok 0 r).bind fun p r =>
    (win r).bind fun w r => (if isT ⟨#[119, 104, 101, 114, 101]⟩ r = true then pz f true .ex r.tail else .ok (booE 1) r).bind fun y r => (need ⟨#[41]⟩ r).bind fun _ r => .ok (aggE op t p w x y) r
  | f + 1, i, .pr, l =>
    if (hd l).k = 2 then (int l).bind fun n r => (uni r).bind fun u r => .ok (litE 2 n u) r
    else if (hd l).k = 3 then (deci l).bind fun n r => (uni r).bind fun u r => .ok (litE 3 n u) r
    else if (hd l).k = 4 then (tak 4 l).bind fun s r => .ok (texE s) r
    else if isT ⟨#[116, 114, 117, 101]⟩ l = true then .ok (booE 1) l.tail
    else if isT ⟨#[102, 97, 108, 115, 101]⟩ l = true then .ok (booE 0) l.tail
    else if isT ⟨#[64]⟩ l = true then key l
    else if isT ⟨#[110, 117, 108, 108]⟩ l = true then (pz f i .pa l.tail).bind fun x r => .ok (unaE ⟨#[110, 117, 108, 108]⟩ x) r
    else if isT ⟨#[40]⟩ l = true then pz f i .pa l
    else if i = true then (nam l).bind fun n r => .ok (fieE n) r
    else if agg (hd l).t = true then pz f i .ag l
    else pz f i .rf l
end Go.Proofs.YtkgclmikhpjheaaGreatDoor
namespace Go.Proofs.YtkgclmikhpjheaaGreatDoor
open Go.RowKit dec

/-- Blocks below S other than B are ar they were. -/
structure Mv (S B : Nat) (w w' : World) : Prop where
  os : w'.os = w.os
  tape : w'.tape = w.tape
  output : w'.output = w.output
  size : w.heap.size ≤ w'.heap.size
  block : ∀ k, k < S → k ≠ B → w'.heap[k]? = w.heap[k]?
  c0 : B < S → w'.cell? ⟨B, 0, none⟩ = w.cell? ⟨B, 0, none⟩
theorem Mv.of {S B : Nat} {w w' : World} (h : Below S w w') : Mv S B w w' := ⟨h.os, h.tape, h.output, h.size, fun k hk _ => h.block k hk, fun hB => h.cell (p := ⟨B, 0, none⟩) hB⟩
theorem Mv.refl (S B : Nat) (w : World) : Mv S B w w := .of (Below.refl _ _)
theorem Mv.trans {S B : Nat} {a b c : World} (h : Mv S B a b) (k : Mv S B b c) : Mv S B a c :=
  ⟨k.os.trans h.os, k.tape.trans h.tape, k.output.trans h.output, Nat.le_trans h.size k.size, fun i hi hn => (k.block i hi hn).trans (h.block i hi hn), fun hB => (k.c0 hB).trans (h.c0 hB)⟩
theorem Mv.mono {S S' B : Nat} {w w' : World} (h : Mv S B w w') (hS : S' ≤ S) : Mv S' B w w' := ⟨h.os, h.tape, h.output, h.size, fun k hk hn => h.block k (Nat.lt_of_lt_of_le hk hS) hn, fun hB => h.c0 (Nat.lt_of_lt_of_le hB hS)⟩
theorem Mv.below {S S' B : Nat} {w w' : World} (h : Mv S B w w') (hB : S' ≤ B) (hS : S' ≤ S) : Below S' w w' := ⟨h.os, h.tape, h.output, h.size, fun k hk => h.block k (by omega) (by omega)⟩
theorem Mv.next {B : Nat} {w a b : World} (h : Mv w.heap.size B w a) (k : Mv a.heap.size B a b) : Mv w.heap.size B w b := h.trans (k.mono h.size)
theorem Mv.nextB {B : Nat} {w a b : World} (h : Mv w.heap.size B w a) (k : Below a.heap.size a b) : Mv w.heap.size B w b := h.next (.of k)
theorem Mv.up {S B : Nat} {w a b : World} (h : Mv S B w a) (k : Mv a.heap.size B a b) (hS : S ≤ w.heap.size) : Mv S B w b := h.trans (k.mono (Nat.le_trans hS h.size))
theorem Mv.alloc {S B : Nat} {w a : World} (h : Mv S B w a) (hS : S ≤ w.heap.size) (o : Obj) : Mv S B w (a.alloc o) := h.trans (.of ((Below.refl _ _).alloc (Nat.le_trans hS h.size) o))
theorem Mv.put {S B : Nat} {w a : World} (h : Mv S B w a) (o : Nat) (v : Value) (ho : o ≠ 0 := by decide) : Mv S B w (a.setCell ⟨B, o, none⟩ v) :=
  h.trans ⟨rfl, rfl, rfl, by simp [World.setCell], fun k _ hn => Below.heap_setCell _ _ _ _ hn, fun _ => World.cell?_setCell_other _ _ _ _ (fun h => by have := congrArg Addr.off h; simp only at this; omega)⟩
theorem Mv.drew {S B : Nat} {w a : World} (h : Mv S B w a) : Mv S B w a.drew := ⟨h.os, h.tape, h.output, h.size, h.block, h.c0⟩
/-- Blocks from C on stay whose cells are of a type that ok allows. -/
def KpT (ok : TypeId → Prop) (C : Nat) (w w' : World) : Prop := ∀ b T cs fr, C ≤ b → ok T → w.heap[b]? = some (.cells cs T fr) → w'.heap[b]? = w.heap[b]?
/-- Blocks from C on stay. -/
def Kp (C : Nat) (w w' : World) : Prop := KpT (fun _ => True) C w w'
/-- The block b has cells of the type T. -/
def Tg (w : World) (b : Nat) (T : TypeId) : Prop := ∃ cs fr, w.heap[b]? = some (.cells cs T fr)
theorem heap_lt {w : World} {b : Nat} {o : Obj} (h : w.heap[b]? = some o) : b < w.heap.size := by
  rcases Nat.lt_or_ge b w.heap.size with h' | h'
  · exact h'
  · rw [Array.getElem?_eq_none h'] at h
    cases h
theorem KpT.tg {ok : TypeId → Prop} {C b : Nat} {w w' : World} {T : TypeId} (k : KpT ok C w w') (hC : C ≤ b) (hok : ok T) (h : Tg w b T) : Tg w' b T := by
  obtain ⟨cs, fr, h⟩ := h
  exact ⟨cs, fr, (k b T cs fr hC hok h).trans h⟩
theorem KpT.cell {ok : TypeId → Prop} {C b o : Nat} {w w' : World} {T : TypeId} {v : Value} (k : KpT ok C w w') (hC : C ≤ b) (hok : ok T) (h : Tg w b T) (hc : w.cell? ⟨b, o, none⟩ = some v) : w'.cell? ⟨b, o, none⟩ = some v := by
  obtain ⟨cs, fr, h⟩ := h
  exact (World.cell?_of_block (w := w) (k b T cs fr hC hok h)).trans hc
theorem Mv.kp {B C : Nat} {w w' : World} (h : Mv w.heap.size B w w') (hC : B < C) : Kp C w w' := fun b _ _ _ hn _ hc => h.block b (heap_lt hc) (by omega)
theorem kp_of {C : Nat} {w w' : World} (h : Below w.heap.size w w') : Kp C w w' := fun b _ _ _ _ _ hc => h.block b (heap_lt hc)
theorem Kp.trans {C : Nat} {a b c : World} (h : Kp C a b) (k : Kp C b c) : Kp C a c := fun x T cs fr hx hT hc => (k x T cs fr hx hT ((h x T cs fr hx hT hc).trans hc)).trans (h x T cs fr hx hT hc)
/-- Nothing but the block g has changed. -/
structure St (g : Nat) (w w' : World) : Prop where
  os : w'.os = w.os
  tape : w'.tape = w.tape
  output : w'.output = w.output
  size : w'.heap.size = w.heap.size
  block : ∀ k, k ≠ g → w'.heap[k]? = w.heap[k]?
theorem St.mv {g S B : Nat} {w w' : World} (h : St g w w') (hS : S ≤ g) : Mv S B w w' := ⟨h.os, h.tape, h.output, Nat.le_of_eq h.size.symm, fun k hk _ => h.block k (by omega), fun hB => World.cell?_of_block (w := w) (h.block B (by omega))⟩
theorem St.below {g S : Nat} {w w' : World} (h : St g w w') (hS : S ≤ g) : Below S w w' := ⟨h.os, h.tape, h.output, Nat.le_of_eq h.size.symm, fun k hk => h.block k (by omega)⟩
theorem St.kp {g C : Nat} {w w' : World} (h : St g w w') (hC : g < C) : Kp C w w' := fun b _ _ _ hn _ _ => h.block b (by omega)
/-- A block with its cells. -/
def Blk (w : World) (g : Nat) (T : TypeId) (cs : Array Value) : Prop := w.heap[g]? = some (.cells cs T (0, 0))
theorem Blk.lt {w : World} {g : Nat} {T : TypeId} {cs : Array Value} (h : Blk w g T cs) : g < w.heap.size := by
  rcases Nat.lt_or_ge g w.heap.size with h' | h'
  · exact h'
  · unfold Blk at h
    rw [Array.getElem?_eq_none h'] at h
    cases h
theorem Blk.new (w : World) (T : TypeId) (cs : Array Value) : Blk (w.alloc (.cells cs T)) w.heap.size T cs := Go.heap_alloc_new w _
theorem Blk.past {w : World} {g : Nat} {T : TypeId} {cs : Array Value} (h : Blk w g T cs) (o : Obj) : Blk (w.alloc o) g T cs := (Go.heap_alloc_old w o h.lt).trans h
theorem Blk.mv {S B : Nat} {w w' : World} {g : Nat} {T : TypeId} {cs : Array Value} (h : Blk w g T cs) (M : Mv S B w w') (hn : g ≠ B) (hS : g < S) : Blk w' g T cs := (M.block g hS hn).trans h
theorem Blk.below {S : Nat} {w w' : World} {g : Nat} {T : TypeId} {cs : Array Value} (h : Blk w g T cs) (M : Below S w w') (hS : g < S) : Blk w' g T cs := (M.block g hS).trans h
theorem Blk.st {k g : Nat} {w w' : World} {T : TypeId} {cs : Array Value} (h : Blk w g T cs) (M : St k w w') (hn : g ≠ k) : Blk w' g T cs := (M.block g hn).trans h
theorem Blk.cell {w : World} {g : Nat} {T : TypeId} {cs : Array Value} (h : Blk w g T cs) (j : Nat) : w.cell? ⟨g, j, none⟩ = cs[j]? := cell_of_row w g j cs T (0, 0) h
theorem Blk.free {w : World} {g : Nat} {T : TypeId} {cs : Array Value} (h : Blk w g T cs) (j : Nat) : w.frozen? ⟨g, j, none⟩ = false := by
  unfold Blk at h
  simp [World.frozen?, h]
theorem Blk.setCell {w : World} {g : Nat} {T : TypeId} {cs : Array Value} (h : Blk w g T cs) (j : Nat) (v : Value) : Blk (w.setCell ⟨g, j, none⟩ v) g T (cs.setIfInBounds j v) ∧ St g w (w.setCell ⟨g, j, none⟩ v) := by
  refine ⟨?_, rfl, rfl, rfl, by simp [World.setCell], fun k hk => Below.heap_setCell w ⟨g, j, none⟩ v k hk⟩
  unfold Blk at *
  simp [World.setCell, Array.getElem?_modify, h]
theorem setRow_st (w : World) (g : Nat) (cs : Array Value) : St g w (w.setRow g cs) := by
  refine ⟨rfl, rfl, rfl, by simp [World.setRow], fun k hk => ?_⟩
  simp only [World.setRow, Array.getElem?_modify]
  rw [if_neg (fun e => hk e.symm)]
theorem setRow_blk {w : World} {g : Nat} {T : TypeId} {old : Array Value} (h : Blk w g T old) (cs : Array Value) : Blk (w.setRow g cs) g T cs := by
  unfold Blk at *
  simp [World.setRow, Array.getElem?_modify, h]

theorem Blk.tg {w : World} {g : Nat} {T : TypeId} {cs : Array Value} (h : Blk w g T cs) : Tg w g T := ⟨cs, _, h⟩
/-- A slice of factors that lies in blocks from C on. -/
def Us (C : Nat) (w : World) (a : Option Addr) (l : List un.Fa) : Prop := l.length = 0 ∨ ∃ b off, a = some ⟨b, off, none⟩ ∧ C ≤ b ∧ un.Cl w b off l ∧ Tg w b 68
theorem Us.kpT {ok : TypeId → Prop} {C : Nat} {w w' : World} {a : Option Addr} {l : List un.Fa} (h : Us C w a l) (hok : ok 68) (k : KpT ok C w w') : Us C w' a l :=
  h.imp id fun ⟨b, off, e, hn, hC, ht⟩ => ⟨b, off, e, hn, fun j hj => ⟨k.cell hn hok ht (hC j hj).1, k.cell hn hok ht (hC j hj).2⟩, k.tg hn hok ht⟩
theorem Us.kp {C : Nat} {w w' : World} {a : Option Addr} {l : List un.Fa} (h : Us C w a l) (k : Kp C w w') : Us C w' a l := h.kpT trivial k
theorem Us.less {C C' : Nat} {w : World} {a : Option Addr} {l : List un.Fa} (h : Us C w a l) (hC : C' ≤ C) : Us C' w a l := h.imp id fun ⟨b, off, e, hn, hC⟩ => ⟨b, off, e, by omega, hC⟩
theorem Us.nil (C : Nat) (w : World) (a : Option Addr) : Us C w a [] := .inl rfl
/-- The cells of an expression. -/
structure Nd (w : World) (b off : Nat) (h : Hd) (ua : Option Addr) (uc : Nat) (aa : Option Addr) (an ac : Nat) : Prop where
  c0 : w.cell? ⟨b, off, none⟩ = some (.int .i64 h.k)
  c1 : w.cell? ⟨b, off + 1, none⟩ = some (.string h.op)
  c2 : w.cell? ⟨b, off + 2, none⟩ = some (.string h.nm)
  c3 : w.cell? ⟨b, off + 3, none⟩ = some (.string h.tb)
  c4 : w.cell? ⟨b, off + 4, none⟩ = some (.int .i64 h.vk)
  c5 : w.cell? ⟨b, off + 5, none⟩ = some (.int .i64 h.vn)
  c6 : w.cell? ⟨b, off + 6, none⟩ = some (.string h.vs)
  c7 : w.cell? ⟨b, off + 7, none⟩ = some (.slice ua h.un.length uc)
  c8 : w.cell? ⟨b, off + 8, none⟩ = some (.int .i64 h.pa)
  c9 : w.cell? ⟨b, off + 9, none⟩ = some (.int .i64 h.wk)
  c10 : w.cell? ⟨b, off + 10, none⟩ = some (.int .i64 h.ws)
  c11 : w.cell? ⟨b, off + 11, none⟩ = some (.slice aa an ac)
theorem Nd.kpT {ok : TypeId → Prop} {C : Nat} {w w' : World} {b off : Nat} {h : Hd} {ua : Option Addr} {uc : Nat} {aa : Option Addr} {an ac : Nat} {T : TypeId} (N : Nd w b off h ua uc aa an ac) (hn : C ≤ b) (hok : ok T) (ht : Tg w b T) (k : KpT ok C w w') : Nd w' b off h ua uc aa an ac :=
  ⟨k.cell hn hok ht N.c0, k.cell hn hok ht N.c1, k.cell hn hok ht N.c2, k.cell hn hok ht N.c3, k.cell hn hok ht N.c4, k.cell hn hok ht N.c5, k.cell hn hok ht N.c6, k.cell hn hok ht N.c7, k.cell hn hok ht N.c8, k.cell hn hok ht N.c9, k.cell hn hok ht N.c10, k.cell hn hok ht N.c11⟩
/-- The cells from an address on are a row of expressions. -/
def Fm (C : Nat) (w : World) : Fo → Nat → Nat → Prop
  | .nil, _, _ => True
  | .cons h ar r, b, off => (∃ ua uc aa ac, Nd w b off h ua uc aa ar.len ac ∧ Us C w ua h.un ∧ (ar.len = 0 ∨ ∃ b' off', aa = some ⟨b', off', none⟩ ∧ C ≤ b' ∧ Tg w b' 43 ∧ Fm C w ar b' off')) ∧ Fm C w r b (off + 12)
theorem Fm.kpT {ok : TypeId → Prop} {C : Nat} {w w' : World} (h1 : ok 68) (h2 : ok 43) (k : KpT ok C w w') : ∀ (F : Fo) (b off : Nat), C ≤ b → Tg w b 43 → Fm C w F b off → Fm C w' F b off
  | .nil, _, _, _, _, _ => trivial
  | .cons h ar r, b, off, hn, ht, hF => by
    obtain ⟨⟨ua, uc, aa, ac, N, U, A⟩, R⟩ := hF
    exact ⟨⟨ua, uc, aa, ac, N.kpT hn h2 ht k, U.kpT h1 k, A.imp id fun ⟨b', off', e, hn', ht', hF'⟩ => ⟨b', off', e, hn', k.tg hn' h2 ht', Fm.kpT h1 h2 k ar b' off' hn' ht' hF'⟩⟩, Fm.kpT h1 h2 k r b (off + 12) hn ht R⟩
theorem Fm.less {C C' : Nat} {w : World} (hC : C' ≤ C) : ∀ (F : Fo) (b off : Nat), Fm C w F b off → Fm C' w F b off
  | .nil, _, _, _ => trivial
  | .cons h ar r, b, off, hF => by
    obtain ⟨⟨ua, uc, aa, ac, N, U, A⟩, R⟩ := hF
    exact ⟨⟨ua, uc, aa, ac, N, U.less hC, A.imp id fun ⟨b', off', e, hn', ht', hF'⟩ => ⟨b', off', e, by omega, ht', Fm.less hC ar b' off' hF'⟩⟩, Fm.less hC r b (off + 12) R⟩
/-- A slice of expressions. -/
def As (C : Nat) (w : World) (a : Option Addr) (F : Fo) : Prop := F.len = 0 ∨ ∃ b off, a = some ⟨b, off, none⟩ ∧ C ≤ b ∧ Tg w b 43 ∧ Fm C w F b off
theorem As.kpT {ok : TypeId → Prop} {C : Nat} {w w' : World} {a : Option Addr} {F : Fo} (h1 : ok 68) (h2 : ok 43) (h : As C w a F) (k : KpT ok C w w') : As C w' a F :=
  h.imp id fun ⟨b, off, e, hn, ht, hF⟩ => ⟨b, off, e, hn, k.tg hn h2 ht, Fm.kpT h1 h2 k F b off hn ht hF⟩
theorem As.kp {C : Nat} {w w' : World} {a : Option Addr} {F : Fo} (h : As C w a F) (k : Kp C w w') : As C w' a F := As.kpT trivial trivial h k
theorem As.less {C C' : Nat} {w : World} {a : Option Addr} {F : Fo} (h : As C w a F) (hC : C' ≤ C) : As C' w a F :=
  h.imp id fun ⟨b, off, e, hn, ht, hF⟩ => ⟨b, off, e, by omega, ht, Fm.less hC F b off hF⟩
theorem As.nil (C : Nat) (w : World) (a : Option Addr) : As C w a .nil := .inl rfl
/-- The cells of the value of an expression. -/
def exC (x : Ex) (ua : Option Addr) (uc : Nat) (aa : Option Addr) (ac : Nat) : Array Value :=
  #[.int .i64 x.h.k, .string x.h.op, .string x.h.nm, .string x.h.tb, .int .i64 x.h.vk, .int .i64 x.h.vn, .string x.h.vs, .slice ua x.h.un.length uc, .int .i64 x.h.pa, .int .i64 x.h.wk, .int .i64 x.h.ws, .slice aa x.ar.len ac]
/-- What an expression's value refers to. -/
structure Ec (C : Nat) (w : World) (x : Ex) (ua : Option Addr) (aa : Option Addr) : Prop where
  us : Us C w ua x.h.un
  ar : As C w aa x.ar
theorem Ec.kp {C : Nat} {w w' : World} {x : Ex} {ua aa : Option Addr} (h : Ec C w x ua aa) (k : Kp C w w') : Ec C w' x ua aa := ⟨h.us.kp k, h.ar.kp k⟩
theorem Ec.kpT {ok : TypeId → Prop} {C : Nat} {w w' : World} {x : Ex} {ua aa : Option Addr} (h1 : ok 68) (h2 : ok 43) (h : Ec C w x ua aa) (k : KpT ok C w w') : Ec C w' x ua aa := ⟨h.us.kpT h1 k, As.kpT h1 h2 h.ar k⟩
theorem Ec.less {C C' : Nat} {w : World} {x : Ex} {ua aa : Option Addr} (h : Ec C w x ua aa) (hC : C' ≤ C) : Ec C' w x ua aa := ⟨h.us.less hC, h.ar.less hC⟩
def Ev (C : Nat) (w : World) (v : Value) (x : Ex) : Prop := ∃ ua uc aa ac, v = .agg (exC x ua uc aa ac) ∧ Ec C w x ua aa
theorem Ev.kp {C : Nat} {w w' : World} {v : Value} {x : Ex} (h : Ev C w v x) (k : Kp C w w') : Ev C w' v x := by
  obtain ⟨ua, uc, aa, ac, e, U⟩ := h
  exact ⟨ua, uc, aa, ac, e, U.kp k⟩
theorem Ev.less {C C' : Nat} {w : World} {v : Value} {x : Ex} (h : Ev C w v x) (hC : C' ≤ C) : Ev C' w v x := by
  obtain ⟨ua, uc, aa, ac, e, U⟩ := h
  exact ⟨ua, uc, aa, ac, e, U.less hC⟩
/-- The value of a type. -/
def Tv (C : Nat) (w : World) (v : Value) (t : Ty) : Prop := ∃ ua uc, v = .agg #[.int .i64 t.k, .slice ua t.un.length uc, .string t.of] ∧ Us C w ua t.un
theorem Tv.kp {C : Nat} {w w' : World} {v : Value} {t : Ty} (h : Tv C w v t) (k : Kp C w w') : Tv C w' v t := by
  obtain ⟨ua, uc, e, U⟩ := h
  exact ⟨ua, uc, e, U.kp k⟩
def Uv (C : Nat) (w : World) (v : Value) (l : List un.Fa) : Prop := ∃ ua uc, v = .slice ua l.length uc ∧ Us C w ua l
theorem Uv.kp {C : Nat} {w w' : World} {v : Value} {l : List un.Fa} (h : Uv C w v l) (k : Kp C w w') : Uv C w' v l := by
  obtain ⟨ua, uc, e, U⟩ := h
  exact ⟨ua, uc, e, U.kp k⟩
def Sv (_ : Nat) (_ : World) (v : Value) (s : ByteArray) : Prop := v = .string s
def Iv (_ : Nat) (_ : World) (v : Value) (n : Int) : Prop := v = .int .i64 n
def Nv (_ : Nat) (_ : World) (v : Value) (_ : Unit) : Prop := v = .tuple #[]
def Wv (_ : Nat) (_ : World) (v : Value) (p : Int × Int) : Prop := v = .agg #[.int .i64 p.1, .int .i64 p.2]
def Fv (_ : Nat) (_ : World) (v : Value) (p : un.Fa) : Prop := v = .agg #[.string p.1, .int .i64 p.2]
def Dv (C : Nat) (w : World) (v : Value) (f : Fi) : Prop := ∃ ua uc, v = .agg #[.string f.nm, .int .i64 f.ty.k, .slice ua f.ty.un.length uc, .string f.ty.of] ∧ Us C w ua f.ty.un

/-- Tokens that a parser may read: texts are short, the last one is the end. -/
structure Tl (l : List Tk) : Prop where
  sz : ∀ x ∈ l, x.t.size ≤ 1048576
  en : ∃ r e, l = r ++ [e] ∧ e.k = 6
  ln : l.length ≤ 1048576
theorem Tl.ne {l : List Tk} (h : Tl l) : l ≠ [] := by
  obtain ⟨r, e, rfl, _⟩ := h.en
  simp
theorem Tl.hd {l : List Tk} (h : Tl l) : (hd l).t.size ≤ 1048576 := by
  have := h.ne
  cases l with
  | nil => exact absurd rfl this
  | cons x r => exact h.sz x (List.mem_cons_self ..)
theorem Tl.tail {l : List Tk} (h : Tl l) (hk : (Go.Proofs.YtkgclmikhpjheaaGreatDoor.hd l).k ≠ 6) : Tl l.tail := by
  obtain ⟨r, e, rfl, he⟩ := h.en
  cases r with
  | nil => exact absurd he hk
  | cons x r => exact ⟨fun y hy => h.sz y (List.mem_cons_of_mem _ hy), ⟨r, e, rfl, he⟩, by have := h.ln; simp at this ⊢; omega⟩
theorem isT_hd {s : ByteArray} {l : List Tk} (h : isT s l = true) : (hd l).k ≠ 6 := by
  unfold isT at h
  simp only [Bool.and_eq_true, Bool.or_eq_true, decide_eq_true_eq] at h
  omega
theorem Tl.of {s : ByteArray} {l : List Tk} (h : Tl l) (hs : isT s l = true) : Tl l.tail := h.tail (isT_hd hs)
theorem Tg.setCell {w : World} {b : Nat} {T : TypeId} (h : Tg w b T) (a : Addr) (v : Value) : Tg (w.setCell a v) b T := by
  obtain ⟨cs, fr, h⟩ := h
  unfold Tg World.setCell
  simp only [Array.getElem?_modify, h]
  split
  · exact ⟨_, _, rfl⟩
  · exact ⟨_, _, rfl⟩
/-- The parser in the block B has the tokens l left. -/
structure Ps (w : World) (B : Nat) (l : List Tk) : Prop where
  mem : ∃ (a : Option Addr) (n cap : Nat) (L : List Tk) (q : Nat), w.cell? ⟨B, 0, none⟩ = some (.slice a n cap) ∧ w.cell? ⟨B, 1, none⟩ = some (.int .i64 (q : Nat)) ∧ w.frozen? ⟨B, 1, none⟩ = false ∧ tk.Sl w a n cap L ∧ (∀ b off, a = some ⟨b, off, none⟩ → b < B) ∧ l = L.drop q
  tl : Tl l
  tb : ∃ w0, Tabs w0 ∧ Below w0.heap.size w0 w ∧ w0.heap.size ≤ B
  tag : Tg w B 77
theorem Ps.lt {w : World} {B : Nat} {l : List Tk} (h : Ps w B l) : B < w.heap.size := by
  obtain ⟨a, n, cap, L, q, c0, _⟩ := h.mem
  exact block_lt_of_cell c0
theorem Ps.tabs {w : World} {B : Nat} {l : List Tk} (h : Ps w B l) : Tabs w := by
  obtain ⟨w0, T, hb, _⟩ := h.tb
  exact T.stays hb
theorem cl_below {B : Nat} {w w' : World} {b off : Nat} {l : List Tk} (h : tk.Cl w b off l) (hb : Below B w w') (hn : b < B) : tk.Cl w' b off l := fun j hj => ⟨(hb.cell hn).trans (h j hj).1, (hb.cell hn).trans (h j hj).2.1, (hb.cell hn).trans (h j hj).2.2⟩
theorem Ps.keep {w w1 : World} {B : Nat} {l : List Tk} (h : Ps w B l) (hb : Below (B + 1) w w1) : Ps w1 B l := by
  obtain ⟨a, n, cap, L, q, c0, c1, z, S, hn, e⟩ := h.mem
  obtain ⟨w0, T, h0, hB⟩ := h.tb
  exact ⟨⟨a, n, cap, L, q, (hb.cell (p := ⟨B, 0, none⟩) (Nat.lt_succ_self _)).trans c0, (hb.cell (p := ⟨B, 1, none⟩) (Nat.lt_succ_self _)).trans c1, by rw [hb.frozen (p := ⟨B, 1, none⟩) (Nat.lt_succ_self _)]; exact z, { S with hat := S.hat.imp id fun ⟨b, off, ea, hC⟩ => ⟨b, off, ea, cl_below hC hb (Nat.lt_succ_of_lt (hn b off ea))⟩ }, hn, e⟩, h.tl, ⟨w0, T, h0.trans (hb.mono (by omega)), hB⟩, by
    obtain ⟨cs, fr, ht⟩ := h.tag
    exact ⟨cs, fr, (hb.block B (Nat.lt_succ_self _)).trans ht⟩⟩
theorem Ps.keeps {w w1 : World} {B : Nat} {l : List Tk} (h : Ps w B l) (hb : Below w.heap.size w w1) : Ps w1 B l := h.keep (hb.mono h.lt)
theorem Ps.st {w w1 : World} {B g : Nat} {l : List Tk} (h : Ps w B l) (hs : St g w w1) (hg : B < g) : Ps w1 B l := h.keep (hs.below hg)
theorem Ps.go {w : World} {B : Nat} {l : List Tk} (h : Ps w B l) (ht : Tl l.tail) : ∃ q : Nat, w.cell? ⟨B, 1, none⟩ = some (.int .i64 (q : Nat)) ∧ w.frozen? ⟨B, 1, none⟩ = false ∧ q < 9223372036854775807 ∧ Ps (w.setCell ⟨B, 1, none⟩ (.int .i64 ((q : Int) + 1))) B l.tail := by
  have hcast : ∀ q : Nat, ((q : Int) + 1) = ((q + 1 : Nat) : Int) := fun _ => rfl
  simp only [hcast]
  obtain ⟨a, n, cap, L, q, c0, c1, z, S, hn, e⟩ := h.mem
  obtain ⟨w0, T, h0, hB⟩ := h.tb
  have hk : Below B w (w.setCell ⟨B, 1, none⟩ (.int .i64 ((q + 1 : Nat) : Int))) := (Below.refl B w).setCell (p := ⟨B, 1, none⟩) (Nat.le_refl _) _
  have hq : q < L.length := by
    have := h.tl.ne
    rw [e] at this
    apply Nat.lt_of_not_le
    intro hle
    exact this (List.drop_eq_nil_of_le hle)
  have h1 := S.hn
  have h2 := S.hcap
  have h3 := S.hmax
  refine ⟨q, c1, z, by omega, ⟨a, n, cap, L, q + 1, ?_, World.cell?_setCell_same _ _ _ c1, by rw [World.frozen?_setCell]; exact z, { S with hat := ?_ }, hn, ?_⟩, ht, ⟨w0, T, ?_, hB⟩, Tg.setCell h.tag _ _⟩
  · rw [World.cell?_setCell_other _ _ _ _ (fun h => by have := congrArg Addr.off h; simp only at this; omega)]
    exact c0
  · exact S.hat.imp id fun ⟨b, off, ea, hC⟩ => ⟨b, off, ea, cl_below hC hk (hn b off ea)⟩
  · rw [e, List.tail_drop]
  · exact h0.setCell (by exact hB) _
theorem Ps.now {w : World} {B : Nat} {l : List Tk} (h : Ps w B l) : ∃ (b off n cap q : Nat), w.cell? ⟨B, 0, none⟩ = some (.slice (some ⟨b, off, none⟩) n cap) ∧ w.cell? ⟨B, 1, none⟩ = some (.int .i64 (q : Nat)) ∧ q < n ∧ n ≤ cap ∧ cap ≤ 9223372036854775807
    ∧ w.cell? ⟨b, off + q * 3, none⟩ = some (.int .i64 (hd l).k) ∧ w.cell? ⟨b, off + q * 3 + 1, none⟩ = some (.string (hd l).t) ∧ w.cell? ⟨b, off + q * 3 + 2, none⟩ = some (.int .i64 (hd l).a) := by
  obtain ⟨a, n, cap, L, q, c0, c1, z, S, hn, e⟩ := h.mem
  have hq : q < L.length := by
    have := h.tl.ne
    rw [e] at this
    apply Nat.lt_of_not_le
    intro hle
    exact this (List.drop_eq_nil_of_le hle)
  have h1 := S.hn
  obtain ⟨b, off, rfl, hC⟩ := S.hat.resolve_left (by omega)
  have hh : hd l = tk.gt L q := by
    rw [e, tk.drop_gt hq]
    rfl
  rw [hh]
  exact ⟨b, off, n, cap, q, c0, c1, by omega, S.hcap, S.hmax, hC q hq⟩

/-- A problem on its way. -/
def thr (a c : Int) : Ending := .panicked [{ v := .iface 60 (.agg #[.int .i64 a, .int .i64 c]), recovered := false }]
/-- What a reading method does. -/
def Pst {α : Type} (B : Nat) (V : Nat → World → Value → α → Prop) (r : Rs α) (w : World) (e : Ending) (w' : World) : Prop :=
  match r with
  | .out => True
  | .ok v l => ∃ u, e = .returned u ∧ V w.heap.size w' u v ∧ Ps w' B l ∧ Mv w.heap.size B w w'
  | .no a c l => e = thr a c ∧ Ps w' B l ∧ Mv w.heap.size B w w'
theorem pst_ok {α : Type} {B : Nat} {V : Nat → World → Value → α → Prop} {r : Rs α} {w w' : World} {v : α} {l : List Tk} {u : Value} (h : r = .ok v l) (hv : V w.heap.size w' u v) (P : Ps w' B l) (M : Mv w.heap.size B w w') : Pst B V r w (.returned u) w' := by
  rw [h]
  exact ⟨u, rfl, hv, P, M⟩
theorem pst_no {α : Type} {B : Nat} {V : Nat → World → Value → α → Prop} {r : Rs α} {w w' : World} {a c : Int} {l : List Tk} (h : r = .no a c l) (P : Ps w' B l) (M : Mv w.heap.size B w w') : Pst B V r w (thr a c) w' := by
  rw [h]
  exact ⟨rfl, P, M⟩
end Go.Proofs.YtkgclmikhpjheaaGreatDoor
namespace Go.Proofs.YtkgclmikhpjheaaGreatDoor.pa
open Go.RowKit dec

set_option maxRecDepth 100000 in
set_option maxHeartbeats 1000000 in
theorem now_any (B : Nat) (l : List Tk) (w : World) (h : Ps w B l) :
    Calls Tryz.prog 31 #[.pointer (some ⟨B, 0, none⟩)] w fun e w' => e = .returned (.agg #[.int .i64 (hd l).k, .string (hd l).t, .int .i64 (hd l).a]) ∧ Below w.heap.size w w' := by
  have B1 := Lib.hid (balloc (b0 w) (.cells #[.int .i64 0, .string ⟨#[]⟩, .int .i64 0] 79))
  obtain ⟨b, off, n, cap, q, c0, c1, hq, hc, hm, d0, d1, d2⟩ := (h.keeps B1.out).now
  clear h B1
  generalize hd l = x at *
  obtain ⟨xk, xt, xa⟩ := x
  simp only at d0 d1 d2
  have q1 : (q : Int) < (n : Int) := by omega
  go_enter Tryz.func31, Tryz.ntmps31
  go_wp2_with fail
  go_region
  all_goals (try go_wp2_with fail)
  simp [bodyPost, results, Tryz.results31, go_sem]
  exact (balloc (b0 w) _).drew
theorem tf0 (k : Int) (t : ByteArray) (a : Int) (W : World) : (Instr.field 79 (.agg #[.int .i64 k, .string t, .int .i64 a]) 0).run Tryz.prog W = .ok (.int .i64 k) W := by kernel_rfl
theorem tf1 (k : Int) (t : ByteArray) (a : Int) (W : World) : (Instr.field 79 (.agg #[.int .i64 k, .string t, .int .i64 a]) 1).run Tryz.prog W = .ok (.string t) W := by kernel_rfl
theorem tf2 (k : Int) (t : ByteArray) (a : Int) (W : World) : (Instr.field 79 (.agg #[.int .i64 k, .string t, .int .i64 a]) 2).run Tryz.prog W = .ok (.int .i64 a) W := by kernel_rfl
/-- What a call does that changes nothing and answers v. -/
def Say (v : Value) (w : World) (e : Ending) (w' : World) : Prop := e = .returned v ∧ Below w.heap.size w w'
set_option maxRecDepth 100000 in
set_option maxHeartbeats 1000000 in
theorem wrong_any (B : Nat) (l : List Tk) (w : World) (h : Ps w B l) :
    Calls Tryz.prog 83 #[.pointer (some ⟨B, 0, none⟩)] w (Say (.agg #[.int .i64 (hd l).a, .int .i64 90]) w) := by
  have B1 := balloc (b0 w) (.cells #[.int .i64 0, .int .i64 0] 60)
  have C1 := Lib.hid (now_any B l _ (h.keeps B1))
  replace B1 := Lib.hid B1
  clear h
  go_enter Tryz.func83, Tryz.ntmps83
  go_wp2_with fail
  refine C1.out.mono ?_
  rintro e w1 ⟨rfl, b1⟩
  have c0 : w1.cell? ⟨w.heap.size, 0, none⟩ = some (.int .i64 0) := by rw [b1.cell (p := ⟨w.heap.size, 0, none⟩) (by simp)]; simp [go_sem]
  have c1 : w1.cell? ⟨w.heap.size, 1, none⟩ = some (.int .i64 0) := by rw [b1.cell (p := ⟨w.heap.size, 1, none⟩) (by simp)]; simp [go_sem]
  have z0 : w1.frozen? ⟨w.heap.size, 0, none⟩ = false := by rw [b1.frozen (p := ⟨w.heap.size, 0, none⟩) (by simp)]; simp [go_sem]
  have z1 : w1.frozen? ⟨w.heap.size, 1, none⟩ = false := by rw [b1.frozen (p := ⟨w.heap.size, 1, none⟩) (by simp)]; simp [go_sem]
  have B2 := Lib.hid (bnext B1.out b1)
  clear b1
  have F := tf2
  go_wp2_with fail
  simp [bodyPost, results, Tryz.results83, go_sem, c0, c1]
  refine ⟨rfl, (B2.out.setCell (p := ⟨w.heap.size, 0, none⟩) (Nat.le_refl _) _).setCell (p := ⟨w.heap.size, 1, none⟩) (Nat.le_refl _) _⟩
set_option maxRecDepth 100000 in
set_option maxHeartbeats 1000000 in
theorem is_any (B : Nat) (s : ByteArray) (l : List Tk) (w : World) (h : Ps w B l) :
    Calls Tryz.prog 132 #[.pointer (some ⟨B, 0, none⟩), .string s] w (Say (.bool (isT s l)) w) := by
  have C1 := Lib.hid (now_any B l w h)
  clear h
  unfold isT
  generalize hd l = x at *
  obtain ⟨xk, xt, xa⟩ := x
  simp only at C1 ⊢
  have q3 : (xt.toList == s.toList) = decide (xt = s) := by
    by_cases hs : xt = s
    · subst hs; simp
    · rw [decide_eq_false hs, beq_eq_false_iff_ne]
      intro e
      apply hs
      rw [ByteArray.toList_eq, ByteArray.toList_eq] at e
      cases xt; cases s
      simp only [ByteArray.mk.injEq]
      exact Array.toList_inj.1 e
  go_enter Tryz.func132, Tryz.ntmps132
  go_wp2_with fail
  refine C1.out.mono ?_
  rintro e w1 ⟨rfl, b1⟩
  have B1 := Lib.hid b1
  clear b1
  go_wp2_with fail
  all_goals go_ret
  all_goals refine ⟨ret_bool (by simp_all), balloc B1.out _⟩
theorem mi_prob (v : Value) (W : World) : (Instr.makeInterface 60 v).run Tryz.prog W = .ok (.iface 60 v) W := by kernel_rfl
set_option maxRecDepth 100000 in
set_option maxHeartbeats 1000000 in
theorem skip_any (B : Nat) (s : ByteArray) (l : List Tk) (w : World) (h : Ps w B l) :
    Calls Tryz.prog 84 #[.pointer (some ⟨B, 0, none⟩), .string s] w fun e w' => e = .returned (.bool (isT s l)) ∧ Ps w' B (if isT s l = true then l.tail else l) ∧ Mv w.heap.size B w w' := by
  have C1 := Lib.hid (is_any B s l w h)
  have P0 := Lib.hid h
  have ht := Lib.hid (fun hs => h.tl.of (s := s) hs)
  clear h
  generalize isT s l = t at *
  go_enter Tryz.func84, Tryz.ntmps84
  go_wp2_with fail
  refine C1.out.mono ?_
  rintro e w1 ⟨rfl, b1⟩
  have P1 := Lib.hid (P0.out.keeps b1)
  have B1 := Lib.hid b1
  clear b1
  cases t
  · go_wp2_with fail
    go_ret
    exact ⟨rfl, P1.out, .of B1.out⟩
  · obtain ⟨q, c1, z, hq, P2⟩ := P1.out.go (ht.out rfl)
    have f := Lib.hid (next_at hq)
    replace P2 := Lib.hid P2
    go_wp2_with fail
    go_ret
    exact ⟨rfl, P2.out, (Mv.of B1.out).put _ _⟩
theorem skip_yes (B : Nat) (s : ByteArray) (l : List Tk) (w : World) (h : Ps w B l) (ht : isT s l = true) :
    Calls Tryz.prog 84 #[.pointer (some ⟨B, 0, none⟩), .string s] w fun e w' => e = .returned (.bool true) ∧ Ps w' B l.tail ∧ Mv w.heap.size B w w' := by
  have := skip_any B s l w h
  rw [ht] at this
  exact this
theorem skip_no (B : Nat) (s : ByteArray) (l : List Tk) (w : World) (h : Ps w B l) (ht : isT s l = false) :
    Calls Tryz.prog 84 #[.pointer (some ⟨B, 0, none⟩), .string s] w fun e w' => e = .returned (.bool false) ∧ Ps w' B l ∧ Mv w.heap.size B w w' := by
  have := skip_any B s l w h
  rw [ht] at this
  exact this
set_option maxRecDepth 100000 in
set_option maxHeartbeats 1000000 in
theorem need_any (B : Nat) (s : ByteArray) (l : List Tk) (w : World) (h : Ps w B l) :
    Calls Tryz.prog 98 #[.pointer (some ⟨B, 0, none⟩), .string s] w (Pst B Nv (need s l) w) := by
  unfold need
  cases ht : isT s l
  · have C1 := Lib.hid (skip_no B s l w h ht)
    clear h ht
    rw [if_neg (by decide)]
    go_enter Tryz.func98, Tryz.ntmps98
    go_wp2_with fail
    refine C1.out.mono ?_
    rintro e w1 ⟨rfl, P1, M1⟩
    have C2 := Lib.hid (wrong_any B l w1 P1)
    replace P1 := Lib.hid P1
    replace M1 := Lib.hid M1
    have F := mi_prob
    go_wp2_with fail
    refine C2.out.mono ?_
    rintro e w2 ⟨rfl, b2⟩
    have P2 := Lib.hid (P1.out.keeps b2)
    have M2 := Lib.hid (M1.out.nextB b2)
    clear b2
    go_wp2_with fail
    exact ⟨rfl, pst_no rfl P2.out M2.out⟩
  · have C1 := Lib.hid (skip_yes B s l w h ht)
    clear h ht
    rw [if_pos rfl]
    go_enter Tryz.func98, Tryz.ntmps98
    go_wp2_with fail
    refine C1.out.mono ?_
    rintro e w1 ⟨rfl, P1, M1⟩
    replace P1 := Lib.hid P1
    replace M1 := Lib.hid M1
    go_wp2_with fail
    go_end0
    exact pst_ok rfl rfl P1.out M1.out
set_option maxRecDepth 100000 in
set_option maxHeartbeats 1000000 in
theorem take_any (B : Nat) (k : Int) (hk : k ≠ 6) (l : List Tk) (w : World) (h : Ps w B l) :
    Calls Tryz.prog 156 #[.pointer (some ⟨B, 0, none⟩), .int .i64 k] w (Pst B Sv (tak k l) w) := by
  have C1 := Lib.hid (now_any B l w h)
  have P0 := Lib.hid h
  have W1 := Lib.hid (fun W => wrong_any B l W)
  have F := mi_prob
  have HT := Lib.hid (fun hq : (hd l).k = k => h.tl.tail (by rw [hq]; exact hk))
  unfold tak wrg
  generalize hd l = x at *
  obtain ⟨xk, xt, xa⟩ := x
  simp only at C1 W1 HT ⊢
  clear h
  by_cases hkk : xk = k
  · have q1 : (xk == k) = true := by simp [hkk]
    have q2 : (xk != k) = false := by simp [hkk]
    rw [if_pos hkk]
    replace HT := Lib.hid (HT.out hkk)
    clear hkk
    go_enter Tryz.func156, Tryz.ntmps156
    go_wp2_with fail
    refine C1.out.mono ?_
    rintro e w1 ⟨rfl, b1⟩
    have b2 := balloc b1 (.cells #[.int .i64 xk, .string xt, .int .i64 xa] 79)
    have P1 := P0.out.keeps b2
    obtain ⟨q, c1, z, hq, P2⟩ := P1.go HT.out
    have M2 := Lib.hid ((Mv.of (B := B) b2).put 1 (.int .i64 ((q : Int) + 1)))
    have hlt := P1.lt
    have hB1 : ¬ B = w1.heap.size := by have := P0.out.lt; have := b1.size; omega
    have hB2 : ¬ w1.heap.size = B := by omega
    have f := Lib.hid (next_at hq)
    replace P2 := Lib.hid P2
    clear b1 b2 hlt
    go_wp2_with fail
    go_ret
    exact pst_ok rfl rfl P2.out M2.out
  · have q1 : (xk == k) = false := by simp [hkk]
    have q2 : (xk != k) = true := by simp [hkk]
    rw [if_neg hkk]
    clear hkk
    go_enter Tryz.func156, Tryz.ntmps156
    go_wp2_with fail
    refine C1.out.mono ?_
    rintro e w1 ⟨rfl, b1⟩
    have b2 := balloc b1 (.cells #[.int .i64 xk, .string xt, .int .i64 xa] 79)
    have P1 := P0.out.keeps b2
    have C2 := Lib.hid (W1.out _ P1)
    have M1 := Lib.hid (Mv.of (B := B) b2)
    replace P1 := Lib.hid P1
    clear b1 b2
    go_wp2_with fail
    refine C2.out.mono ?_
    rintro e w2 ⟨rfl, b2⟩
    have P2 := Lib.hid (P1.out.keeps b2)
    have M2 := Lib.hid (M1.out.nextB b2)
    clear b2
    go_wp2_with fail
    exact ⟨rfl, pst_no rfl P2.out M2.out⟩
end Go.Proofs.YtkgclmikhpjheaaGreatDoor.pa
namespace Go.Proofs.YtkgclmikhpjheaaGreatDoor
open Go.RowKit dec

theorem bind_ok {α β : Type} {x : Rs α} {g : α → List Tk → Rs β} {v : β} {r : List Tk} (h : x.bind g = .ok v r) : ∃ u s, x = .ok u s ∧ g u s = .ok v r := by
  cases x with
  | out => cases h
  | ok u s => exact ⟨u, s, rfl, h⟩
  | no a c s => cases h
theorem bind_ne {α β : Type} {x : Rs α} {g : α → List Tk → Rs β} (h1 : x ≠ .out) (h2 : ∀ u s, x = .ok u s → g u s ≠ .out) : x.bind g ≠ .out := by
  cases x with
  | out => exact absurd rfl h1
  | ok u s => exact h2 u s rfl
  | no a c s => exact fun h => by cases h
theorem ne_left {α β : Type} {x : Rs α} {g : α → List Tk → Rs β} (h : x.bind g ≠ .out) : x ≠ .out := by
  rintro rfl
  exact h rfl
theorem isT_ne {s : ByteArray} {l : List Tk} (h : isT s l = true) : l ≠ [] := by
  rintro rfl
  unfold isT hd at h
  simp at h
theorem tail_lt {s : ByteArray} {l : List Tk} (h : isT s l = true) : l.tail.length < l.length := by
  cases l with
  | nil => exact absurd rfl (isT_ne h)
  | cons x r => simp
theorem need_ok {s : ByteArray} {l r : List Tk} {u : Unit} (h : need s l = .ok u r) : isT s l = true ∧ r = l.tail := by
  unfold need at h
  split at h
  · rename_i hT
    cases h
    exact ⟨hT, rfl⟩
  · cases h
theorem need_lt {s : ByteArray} {l r : List Tk} {u : Unit} (h : need s l = .ok u r) : r.length < l.length := by
  obtain ⟨h1, rfl⟩ := need_ok h
  exact tail_lt h1
theorem need_ne (s : ByteArray) (l : List Tk) : need s l ≠ .out := by
  unfold need wrg
  split <;> exact fun h => by cases h
theorem tak_lt {k : Int} (hk : k ≠ 6) {l r : List Tk} {v : ByteArray} (h : tak k l = .ok v r) : r.length < l.length := by
  unfold tak at h
  split at h
  · rename_i hT
    cases h
    cases l with
    | nil => exact absurd hT.symm hk
    | cons x r => simp
  · cases h
theorem tak_ne (k : Int) (l : List Tk) : tak k l ≠ .out := by
  unfold tak wrg
  split <;> exact fun h => by cases h
theorem nam_lt {l r : List Tk} {v : ByteArray} (h : nam l = .ok v r) : r.length < l.length := by
  unfold nam at h
  split at h
  · exact tak_lt (by decide) h
  · cases h
theorem nam_ne (l : List Tk) : nam l ≠ .out := by
  unfold nam
  split
  · exact tak_ne _ _
  · exact fun h => by cases h
theorem nma_lt {s : ByteArray} {l r : List Tk} {v : ByteArray} (h : nma s l = .ok v r) : r.length < l.length := by
  obtain ⟨_, q, h1, h2⟩ := bind_ok h
  exact Nat.lt_trans (nam_lt h2) (need_lt h1)
theorem nma_ne (s : ByteArray) (l : List Tk) : nma s l ≠ .out := bind_ne (need_ne _ _) fun _ _ _ => nam_ne _
theorem int_lt {l r : List Tk} {v : Int} (h : int l = .ok v r) : r.length < l.length := by
  obtain ⟨_, q, h1, h2⟩ := bind_ok h
  cases h2
  exact tak_lt (by decide) h1
theorem int_ne (l : List Tk) : int l ≠ .out := bind_ne (tak_ne _ _) fun _ _ _ h => by cases h
theorem deci_lt {l r : List Tk} {v : Int} (h : deci l = .ok v r) : r.length < l.length := by
  obtain ⟨_, q, h1, h2⟩ := bind_ok h
  cases h2
  exact tak_lt (by decide) h1
theorem deci_ne (l : List Tk) : deci l ≠ .out := bind_ne (tak_ne _ _) fun _ _ _ h => by cases h
theorem fac_lt {l r : List Tk} {v : un.Fa} (h : fac l = .ok v r) : r.length < l.length := by
  obtain ⟨_, q, h1, h2⟩ := bind_ok h
  have g1 := nam_lt h1
  split at h2
  · rename_i t1
    have g2 := tail_lt t1
    split at h2
    · rename_i t2
      have g3 := tail_lt t2
      obtain ⟨_, q', h3, h4⟩ := bind_ok h2
      cases h4
      have := int_lt h3
      omega
    · obtain ⟨_, q', h3, h4⟩ := bind_ok h2
      cases h4
      have := int_lt h3
      omega
  · cases h2
    exact g1
theorem fac_ne (l : List Tk) : fac l ≠ .out := by
  refine bind_ne (nam_ne _) fun n r _ => ?_
  split
  · split
    · exact bind_ne (int_ne _) fun _ _ _ h => by cases h
    · exact bind_ne (int_ne _) fun _ _ _ h => by cases h
  · exact fun h => by cases h
theorem more_lt {α : Type} {one : List Tk → Rs α} {s : ByteArray} (h1 : ∀ l v r, one l = .ok v r → r.length < l.length) : ∀ (f : Nat) (x : List α) (l : List Tk) (v : List α) (r : List Tk), more one s f x l = .ok v r → r.length ≤ l.length
  | 0, _, _, _, _, h => by cases h
  | f + 1, x, l, v, r, h => by
    unfold more at h
    split at h
    · rename_i t
      obtain ⟨y, q, h2, h3⟩ := bind_ok h
      have := more_lt h1 f _ _ _ _ h3
      have := h1 _ _ _ h2
      have := tail_lt t
      omega
    · cases h
      exact Nat.le_refl _
theorem more_ne {α : Type} {one : List Tk → Rs α} {s : ByteArray} (h1 : ∀ l v r, one l = .ok v r → r.length < l.length) (h2 : ∀ l, one l ≠ .out) : ∀ (f : Nat) (x : List α) (l : List Tk), l.length < f → more one s f x l ≠ .out
  | 0, _, _, h => by omega
  | f + 1, x, l, h => by
    unfold more
    split
    · rename_i t
      refine bind_ne (h2 _) fun y q h3 => more_ne h1 h2 f _ _ ?_
      have := h1 _ _ _ h3
      have := tail_lt t
      omega
    · exact fun h => by cases h
theorem lst_lt {α : Type} {one : List Tk → Rs α} {s : ByteArray} (h1 : ∀ l v r, one l = .ok v r → r.length < l.length) {l : List Tk} {v : List α} {r : List Tk} (h : lst one s l = .ok v r) : r.length < l.length := by
  obtain ⟨y, q, h2, h3⟩ := bind_ok h
  have := more_lt h1 _ _ _ _ _ h3
  have := h1 _ _ _ h2
  omega
theorem lst_ne {α : Type} {one : List Tk → Rs α} {s : ByteArray} (h1 : ∀ l v r, one l = .ok v r → r.length < l.length) (h2 : ∀ l, one l ≠ .out) (l : List Tk) : lst one s l ≠ .out :=
  bind_ne (h2 _) fun _ _ _ => more_ne h1 h2 _ _ _ (Nat.lt_succ_self _)
theorem uni_le {l r : List Tk} {v : List un.Fa} (h : uni l = .ok v r) : r.length ≤ l.length := by
  unfold uni at h
  split at h
  · rename_i t
    obtain ⟨u, q, h1, h2⟩ := bind_ok h
    obtain ⟨_, q', h3, h4⟩ := bind_ok h2
    have := tail_lt t
    have := lst_lt (fun _ _ _ => fac_lt) h1
    have := need_lt h3
    split at h4
    · cases h4
      omega
    · cases h4
  · cases h
    exact Nat.le_refl _
theorem uni_ne (l : List Tk) : uni l ≠ .out := by
  unfold uni
  split
  · refine bind_ne (lst_ne (fun _ _ _ => fac_lt) fac_ne _) fun u r _ => bind_ne (need_ne _ _) fun _ r' _ => ?_
    split <;> exact fun h => by cases h
  · exact fun h => by cases h
theorem typ_lt {l r : List Tk} {v : Ty} (h : typ l = .ok v r) : r.length < l.length := by
  unfold typ at h
  split at h
  · rename_i t; cases h; exact tail_lt t
  split at h
  · rename_i t; cases h; exact tail_lt t
  split at h
  · rename_i t
    obtain ⟨u, q, h1, h2⟩ := bind_ok h
    cases h2
    exact Nat.lt_trans (nam_lt h1) (tail_lt t)
  split at h
  · rename_i t
    obtain ⟨u, q, h1, h2⟩ := bind_ok h
    cases h2
    exact Nat.lt_of_le_of_lt (uni_le h1) (tail_lt t)
  split at h
  · rename_i t
    obtain ⟨u, q, h1, h2⟩ := bind_ok h
    cases h2
    exact Nat.lt_of_le_of_lt (uni_le h1) (tail_lt t)
  · cases h
theorem typ_ne (l : List Tk) : typ l ≠ .out := by
  unfold typ
  split
  · exact fun h => by cases h
  split
  · exact fun h => by cases h
  split
  · exact bind_ne (nam_ne _) fun _ _ _ h => by cases h
  split
  · exact bind_ne (uni_ne _) fun _ _ _ h => by cases h
  split
  · exact bind_ne (uni_ne _) fun _ _ _ h => by cases h
  · exact fun h => by cases h
theorem win_lt {l r : List Tk} {v : Int × Int} (h : win l = .ok v r) : r.length < l.length := by
  unfold win at h
  split at h
  · rename_i t; cases h; exact tail_lt t
  iterate 3
    split at h
    · rename_i t
      obtain ⟨u, q, h1, h2⟩ := bind_ok h
      cases h2
      exact Nat.lt_trans (int_lt h1) (tail_lt t)
  · cases h
theorem win_ne (l : List Tk) : win l ≠ .out := by
  unfold win
  split
  · exact fun h => by cases h
  iterate 3
    split
    · exact bind_ne (int_ne _) fun _ _ _ h => by cases h
  · exact fun h => by cases h
theorem key_lt {l r : List Tk} {v : Ex} (h : key l = .ok v r) : r.length < l.length := by
  obtain ⟨n, q, h1, h2⟩ := bind_ok h
  obtain ⟨s, q', h3, h4⟩ := bind_ok h2
  have := nma_lt h1
  have := tak_lt (by decide) h3
  split at h4
  · cases h4
    omega
  · cases h4
theorem key_ne (l : List Tk) : key l ≠ .out := by
  refine bind_ne (nma_ne _ _) fun n r _ => bind_ne (tak_ne _ _) fun s r' _ => ?_
  split <;> exact fun h => by cases h
/-- How many tokens a reader takes at least. -/
def Md.le : Md → Nat
  | .tl _ _ _ => 0
  | _ => 1
theorem opr_ne {n : Nat} {l : List Tk} (h : opr n l ≠ .empty) : isT (opr n l) l = true := by
  unfold opr at h ⊢
  cases hf : (opL n).find? fun s => isT s l with
  | none => rw [hf] at h; exact absurd rfl h
  | some s => exact (List.find?_eq_some_iff_append.1 hf).1
theorem pz_len : ∀ (f : Nat) (i : Bool) (m : Md) (l : List Tk) (x : Ex) (r : List Tk), pz f i m l = .ok x r → r.length + m.le ≤ l.length := by
  intro f
  induction f with
  | zero => intro i m l x r h; cases h
  | succ f ih =>
    intro i m l x r h
    cases m with
    | ex =>
      simp only [pz] at h
      split at h
      · rename_i t
        obtain ⟨a, q1, h1, h⟩ := bind_ok h
        obtain ⟨_, q2, h2, h⟩ := bind_ok h
        obtain ⟨b, q3, h3, h⟩ := bind_ok h
        obtain ⟨_, q4, h4, h⟩ := bind_ok h
        obtain ⟨c, q5, h5, h⟩ := bind_ok h
        cases h
        have := ih _ _ _ _ _ h1
        have := ih _ _ _ _ _ h3
        have := ih _ _ _ _ _ h5
        have := need_lt h2
        have := need_lt h4
        have := tail_lt t
        simp only [Md.le] at *
        omega
      · (have := ih _ _ _ _ _ h; simp only [Md.le] at *; omega)
    | op least =>
      simp only [pz] at h
      split at h
      · rename_i t
        obtain ⟨a, q1, h1, h⟩ := bind_ok h
        have := ih _ _ _ _ _ h1
        have := ih _ _ _ _ _ h
        have := tail_lt t.2
        simp only [Md.le] at *
        omega
      · obtain ⟨a, q1, h1, h⟩ := bind_ok h
        have := ih _ _ _ _ _ h1
        have := ih _ _ _ _ _ h
        simp only [Md.le] at *
        omega
    | tl least n y =>
      simp only [pz] at h
      split at h
      · cases h
        exact Nat.le_refl _
      · split at h
        · (have := ih _ _ _ _ _ h; simp only [Md.le] at *; omega)
        · rename_i t
          obtain ⟨a, q1, h1, h⟩ := bind_ok h
          have := ih _ _ _ _ _ h1
          have := ih _ _ _ _ _ h
          have := tail_lt (opr_ne t)
          simp only [Md.le] at *
          omega
    | ng =>
      simp only [pz] at h
      split at h
      · rename_i t
        obtain ⟨a, q1, h1, h⟩ := bind_ok h
        cases h
        have := ih _ _ _ _ _ h1
        have := tail_lt t
        simp only [Md.le] at *
        omega
      · (have := ih _ _ _ _ _ h; simp only [Md.le] at *; omega)
    | pa =>
      simp only [pz] at h
      obtain ⟨_, q1, h1, h⟩ := bind_ok h
      obtain ⟨a, q2, h2, h⟩ := bind_ok h
      obtain ⟨_, q3, h3, h⟩ := bind_ok h
      cases h
      have := need_lt h1
      have := ih _ _ _ _ _ h2
      have := need_lt h3
      simp only [Md.le] at *
      omega
    | rf =>
      simp only [pz] at h
      obtain ⟨n, q1, h1, h⟩ := bind_ok h
      have := nam_lt h1
      split at h
      · rename_i t
        obtain ⟨a, q2, h2, h⟩ := bind_ok h
        cases h
        have := ih _ _ _ _ _ h2
        have := tail_lt t
        simp only [Md.le] at *
        omega
      · cases h
        simp only [Md.le]
        omega
    | ag =>
      simp only [pz] at h
      obtain ⟨op, q1, h1, h⟩ := bind_ok h
      have g1 := tak_lt (by decide) h1
      obtain ⟨_, q2, h2, h⟩ := bind_ok h
      have g2 := need_lt h2
      obtain ⟨t, q3, h3, h⟩ := bind_ok h
      have g3 := nam_lt h3
      obtain ⟨_, q4, h4, h⟩ := bind_ok h
      have g4 := need_lt h4
      obtain ⟨a, q5, h5, h⟩ := bind_ok h
      have g5 : q5.length ≤ q4.length := by
        split at h5
        · cases h5; exact Nat.le_refl _
        · obtain ⟨_, p1, k1, h5⟩ := bind_ok h5
          obtain ⟨_, p2, k2, h5⟩ := bind_ok h5
          cases h5
          have := ih _ _ _ _ _ k1
          have := need_lt k2
          omega
      obtain ⟨n, q6, h6, h⟩ := bind_ok h
      have g6 : q6.length ≤ q5.length := by
        split at h6
        · obtain ⟨_, p1, k1, h6⟩ := bind_ok h6
          obtain ⟨_, p2, k2, h6⟩ := bind_ok h6
          cases h6
          have := int_lt k1
          have := need_lt k2
          omega
        · cases h6; exact Nat.le_refl _
      obtain ⟨w, q7, h7, h⟩ := bind_ok h
      have g7 := win_lt h7
      obtain ⟨b, q8, h8, h⟩ := bind_ok h
      have g8 : q8.length ≤ q7.length := by
        split at h8
        · rename_i t
          have := ih _ _ _ _ _ h8
          have := tail_lt t
          omega
        · cases h8; exact Nat.le_refl _
      obtain ⟨_, q9, h9, h⟩ := bind_ok h
      have g9 := need_lt h9
      cases h
      simp only [Md.le]
      omega
    | pr =>
      simp only [pz] at h
      split at h
      · obtain ⟨n, q1, h1, h⟩ := bind_ok h
        obtain ⟨u, q2, h2, h⟩ := bind_ok h
        cases h
        have := int_lt h1
        have := uni_le h2
        simp only [Md.le]
        omega
      split at h
      · obtain ⟨n, q1, h1, h⟩ := bind_ok h
        obtain ⟨u, q2, h2, h⟩ := bind_ok h
        cases h
        have := deci_lt h1
        have := uni_le h2
        simp only [Md.le]
        omega
      split at h
      · obtain ⟨n, q1, h1, h⟩ := bind_ok h
        cases h
        have := tak_lt (by decide) h1
        simp only [Md.le]
        omega
      split at h
      · rename_i t; cases h; exact tail_lt t
      split at h
      · rename_i t; cases h; exact tail_lt t
      split at h
      · exact key_lt h
      split at h
      · rename_i t
        obtain ⟨n, q1, h1, h⟩ := bind_ok h
        cases h
        have := ih _ _ _ _ _ h1
        have := tail_lt t
        simp only [Md.le] at *
        omega
      split at h
      · (have := ih _ _ _ _ _ h; simp only [Md.le] at *; omega)
      split at h
      · obtain ⟨n, q1, h1, h⟩ := bind_ok h
        cases h
        exact nam_lt h1
      split at h
      · (have := ih _ _ _ _ _ h; simp only [Md.le] at *; omega)
      · (have := ih _ _ _ _ _ h; simp only [Md.le] at *; omega)
def Md.rk : Md → Nat
  | .tl _ n _ => n
  | .pa => 0
  | .ag => 0
  | .rf => 0
  | .pr => 1
  | .ng => 2
  | .op _ => 3
  | .ex => 4
def Md.good : Md → Prop
  | .tl _ n _ => n ≤ 6
  | .op n => n ≤ 6
  | _ => True
theorem pz_ne : ∀ (f : Nat) (i : Bool) (m : Md) (l : List Tk), m.good → 8 * l.length + m.rk < f → pz f i m l ≠ .out := by
  intro f
  induction f with
  | zero => intro i m l _ h; omega
  | succ f ih =>
    intro i m l hg h
    cases m with
    | ex =>
      simp only [Md.rk] at h
      simp only [pz]
      split
      · rename_i t
        have g0 := tail_lt t
        refine bind_ne (ih _ _ _ trivial (by simp only [Md.rk]; omega)) fun a q1 h1 => ?_
        have g1 := pz_len _ _ _ _ _ _ h1
        refine bind_ne (need_ne _ _) fun _ q2 h2 => ?_
        have g2 := need_lt h2
        refine bind_ne (ih _ _ _ trivial (by simp only [Md.rk]; omega)) fun a q3 h3 => ?_
        have g3 := pz_len _ _ _ _ _ _ h3
        refine bind_ne (need_ne _ _) fun _ q4 h4 => ?_
        have g4 := need_lt h4
        refine bind_ne (ih _ _ _ trivial (by simp only [Md.rk]; omega)) fun a q5 h5 => fun h => by cases h
      · exact ih _ _ _ (Nat.zero_le _) (by simp only [Md.rk]; omega)
    | op least =>
      simp only [Md.rk] at h
      simp only [pz]
      split
      · rename_i t
        have g0 := tail_lt t.2
        refine bind_ne (ih _ _ _ (show 3 ≤ 6 by omega) (by simp only [Md.rk]; omega)) fun a q1 h1 => ?_
        have g1 := pz_len _ _ _ _ _ _ h1
        exact ih _ _ _ (show 3 ≤ 6 by omega) (by simp only [Md.rk]; omega)
      · refine bind_ne (ih _ _ _ trivial (by simp only [Md.rk]; omega)) fun a q1 h1 => ?_
        have g1 := pz_len _ _ _ _ _ _ h1
        simp only [Md.le] at g1
        exact ih _ _ _ (show 6 ≤ 6 by omega) (by simp only [Md.rk]; omega)
    | tl least n y =>
      simp only [Md.rk] at h
      have hg : n ≤ 6 := hg
      simp only [pz]
      split
      · exact fun h => by cases h
      · split
        · exact ih _ _ _ (show n - 1 ≤ 6 by omega) (by simp only [Md.rk]; omega)
        · rename_i t
          have g0 := tail_lt (opr_ne t)
          refine bind_ne (ih _ _ _ hg (by simp only [Md.rk]; omega)) fun a q1 h1 => ?_
          have g1 := pz_len _ _ _ _ _ _ h1
          refine ih _ _ _ ?_ ?_
          · show (if n = 4 then 3 else n) ≤ 6
            split <;> omega
          · simp only [Md.rk]
            split <;> omega
    | ng =>
      simp only [Md.rk] at h
      simp only [pz]
      split
      · rename_i t
        have g0 := tail_lt t
        exact bind_ne (ih _ _ _ trivial (by simp only [Md.rk]; omega)) fun a q1 h1 => fun h => by cases h
      · exact ih _ _ _ trivial (by simp only [Md.rk]; omega)
    | pa =>
      simp only [Md.rk] at h
      simp only [pz]
      refine bind_ne (need_ne _ _) fun _ q1 h1 => ?_
      have g1 := need_lt h1
      exact bind_ne (ih _ _ _ trivial (by simp only [Md.rk]; omega)) fun a q2 h2 => bind_ne (need_ne _ _) fun _ q1 h1 => fun h => by cases h
    | rf =>
      simp only [Md.rk] at h
      simp only [pz]
      refine bind_ne (nam_ne _) fun n q1 h1 => ?_
      have g1 := nam_lt h1
      split
      · rename_i t
        have g0 := tail_lt t
        exact bind_ne (ih _ _ _ trivial (by simp only [Md.rk]; omega)) fun a q1 h1 => fun h => by cases h
      · exact fun h => by cases h
    | ag =>
      simp only [Md.rk] at h
      simp only [pz]
      refine bind_ne (tak_ne _ _) fun op q1 h1 => ?_
      have g1 := tak_lt (by decide) h1
      refine bind_ne (need_ne _ _) fun _ q2 h2 => ?_
      have g2 := need_lt h2
      refine bind_ne (nam_ne _) fun t q3 h3 => ?_
      have g3 := nam_lt h3
      refine bind_ne (need_ne _ _) fun _ q4 h4 => ?_
      have g4 := need_lt h4
      refine bind_ne ?_ fun a q5 h5 => ?_
      · split
        · exact fun h => by cases h
        · exact bind_ne (ih _ _ _ trivial (by simp only [Md.rk]; omega)) fun a p1 k1 => bind_ne (need_ne _ _) fun _ p2 k2 => fun h => by cases h
      have g5 : q5.length ≤ q4.length := by
        split at h5
        · cases h5; exact Nat.le_refl _
        · obtain ⟨_, p1, k1, h5⟩ := bind_ok h5
          obtain ⟨_, p2, k2, h5⟩ := bind_ok h5
          cases h5
          have := pz_len _ _ _ _ _ _ k1
          have := need_lt k2
          omega
      refine bind_ne ?_ fun n q6 h6 => ?_
      · split
        · exact bind_ne (int_ne _) fun a p1 k1 => bind_ne (need_ne _ _) fun _ p2 k2 => fun h => by cases h
        · exact fun h => by cases h
      have g6 : q6.length ≤ q5.length := by
        split at h6
        · obtain ⟨_, p1, k1, h6⟩ := bind_ok h6
          obtain ⟨_, p2, k2, h6⟩ := bind_ok h6
          cases h6
          have := int_lt k1
          have := need_lt k2
          omega
        · cases h6; exact Nat.le_refl _
      refine bind_ne (win_ne _) fun w q7 h7 => ?_
      have g7 := win_lt h7
      refine bind_ne ?_ fun b q8 h8 => bind_ne (need_ne _ _) fun _ q9 h9 => fun h => by cases h
      split
      · rename_i t
        have g0 := tail_lt t
        exact ih _ _ _ trivial (by simp only [Md.rk]; omega)
      · exact fun h => by cases h
    | pr =>
      simp only [Md.rk] at h
      simp only [pz]
      split
      · exact bind_ne (int_ne _) fun _ _ _ => bind_ne (uni_ne _) fun _ _ _ h => by cases h
      split
      · exact bind_ne (deci_ne _) fun _ _ _ => bind_ne (uni_ne _) fun _ _ _ h => by cases h
      split
      · exact bind_ne (tak_ne _ _) fun _ _ _ h => by cases h
      split
      · exact fun h => by cases h
      split
      · exact fun h => by cases h
      split
      · exact key_ne _
      split
      · rename_i t
        have g0 := tail_lt t
        exact bind_ne (ih _ _ _ trivial (by simp only [Md.rk]; omega)) fun a q1 h1 => fun h => by cases h
      split
      · exact ih _ _ _ trivial (by simp only [Md.rk]; omega)
      split
      · exact bind_ne (nam_ne _) fun _ _ _ h => by cases h
      split
      · exact ih _ _ _ trivial (by simp only [Md.rk]; omega)
      · exact ih _ _ _ trivial (by simp only [Md.rk]; omega)
end Go.Proofs.YtkgclmikhpjheaaGreatDoor
namespace Go.Proofs.YtkgclmikhpjheaaGreatDoor.pa
open Go.RowKit dec

theorem bind_okE {α β : Type} (v : α) (l : List Tk) (g : α → List Tk → Rs β) : (Rs.ok v l).bind g = g v l := rfl
theorem bind_noE {α β : Type} (a c : Int) (l : List Tk) (g : α → List Tk → Rs β) : (Rs.no a c l : Rs α).bind g = .no a c l := rfl
/-- A last call. -/
theorem bind_id {α : Type} (x : Rs α) : (x.bind fun v r => .ok v r) = x := by cases x <;> rfl
theorem tak_size {k : Int} {l r : List Tk} {v : ByteArray} (h : Tl l) (hk : tak k l = .ok v r) : v.size ≤ 1048576 := by
  unfold tak at hk
  split at hk
  · cases hk
    exact h.hd
  · cases hk
/-- Nothing may follow. -/
def endR (l : List Tk) : Rs Unit := if (hd l).k = 6 then .ok () l else wrg l
set_option maxRecDepth 100000 in
set_option maxHeartbeats 1000000 in
theorem name_r (B : Nat) (l : List Tk) (w : World) (h : Ps w B l) (r : Rs ByteArray) (hr : nam l = r) (hne : r ≠ .out) :
    Calls Tryz.prog 102 #[.pointer (some ⟨B, 0, none⟩)] w (Pst B Sv r w) := by
  have P := Lib.hid h
  have M := Lib.hid (Mv.refl w.heap.size B w)
  have NE := Lib.hid hne
  unfold nam at hr
  have HR := Lib.hid hr
  clear h hne hr
  have C1 := Lib.hid (now_any B l w P.out)
  have C2 := Lib.hid (fun W => Go.Proofs.YtkgclmikhpjheaaGreatDoor.name_any (hd l).t P.out.tl.hd W)
  have C4 := Lib.hid (fun W => wrong_any B l W)
  have F1 := tf1
  have F2 := mi_prob
  replace HR := HR.out
  cases hn : Go.Proofs.YtkgclmikhpjheaaGreatDoor.name (hd l).t
  · rw [hn] at C2
    rw [hn, if_neg (by decide)] at HR
    unfold wrg at HR
    replace HR := Lib.hid HR
    clear hn
    generalize hd l = x at *
    obtain ⟨xk, xt, xa⟩ := x
    simp only at C1 C2 C4
    go_enter Tryz.func102, Tryz.ntmps102
    go_wp2_with fail
    refine (C1.out).mono ?_
    rintro e w1 ⟨rfl, b⟩
    have mm := Mv.of (B := B) b
    replace M := Lib.hid (M.out.next mm)
    replace P := Lib.hid (P.out.keeps b)
    clear mm b
    go_wp2_with fail
    refine (C2.out w1 P.out.tabs).mono ?_
    rintro e w2 ⟨rfl, b⟩
    have mm := Mv.of (B := B) b
    replace M := Lib.hid (M.out.next mm)
    replace P := Lib.hid (P.out.keeps b)
    clear mm b
    go_wp2_with fail
    refine (C4.out w2 P.out).mono ?_
    rintro e w3 ⟨rfl, b⟩
    have mm := Mv.of (B := B) b
    replace M := Lib.hid (M.out.next mm)
    replace P := Lib.hid (P.out.keeps b)
    clear mm b
    go_wp2_with fail
    exact ⟨rfl, pst_no HR.out.symm P.out M.out⟩
  · rw [hn] at C2
    rw [hn, if_pos rfl, ← bind_id (tak 1 l)] at HR
    replace HR := Lib.hid HR
    clear hn C4
    generalize hd l = x at *
    obtain ⟨xk, xt, xa⟩ := x
    simp only at C1 C2
    go_enter Tryz.func102, Tryz.ntmps102
    go_wp2_with fail
    refine (C1.out).mono ?_
    rintro e w1 ⟨rfl, b⟩
    have mm := Mv.of (B := B) b
    replace M := Lib.hid (M.out.next mm)
    replace P := Lib.hid (P.out.keeps b)
    clear mm b
    go_wp2_with fail
    refine (C2.out w1 P.out.tabs).mono ?_
    rintro e w2 ⟨rfl, b⟩
    have mm := Mv.of (B := B) b
    replace M := Lib.hid (M.out.next mm)
    replace P := Lib.hid (P.out.keeps b)
    clear mm b
    go_wp2_with fail
    refine (take_any B 1 (by decide) l w2 P.out).mono ?_
    rintro e w3 h3
    rcases hG3 : tak 1 l with _ | ⟨v3, l3⟩ | ⟨a3, c3, l3⟩
    · exact absurd (by rw [← HR.out, hG3]; rfl) NE.out
    rotate_left
    · rw [hG3] at h3
      obtain ⟨rfl, pp, mm⟩ := h3
      unfold thr
      have hno := Lib.hid (show r = .no a3 c3 l3 by rw [← HR.out, hG3]; rfl)
      have PP := Lib.hid pp
      have MM := Lib.hid (M.out.next mm)
      clear pp mm hG3
      go_wp2_with fail
      exact ⟨rfl, pst_no hno.out PP.out MM.out⟩
    rw [hG3] at h3
    obtain ⟨u3, rfl, vv, pp, mm⟩ := h3
    replace HR := HR.out
    rw [hG3] at HR
    simp only [bind_okE] at HR
    replace HR := Lib.hid HR
    replace M := Lib.hid (M.out.next mm)
    replace P := Lib.hid pp
    clear pp mm hG3
    obtain rfl : u3 = .string v3 := vv
    go_wp2_with fail
    go_ret
    exact pst_ok (by rw [← HR.out]) rfl P.out M.out
set_option maxRecDepth 100000 in
set_option maxHeartbeats 1000000 in
theorem nameAfter_r (B : Nat) (s : ByteArray) (l : List Tk) (w : World) (h : Ps w B l) (r : Rs ByteArray) (hr : nma s l = r) (hne : r ≠ .out) :
    Calls Tryz.prog 128 #[.pointer (some ⟨B, 0, none⟩), .string s] w (Pst B Sv r w) := by
  have P := Lib.hid h
  have M := Lib.hid (Mv.refl w.heap.size B w)
  have NE := Lib.hid hne
  unfold nma at hr
  conv at hr => lhs; arg 2; ext _ r; rw [← bind_id (nam r)]
  have HR := Lib.hid hr
  clear h hne hr
  go_enter Tryz.func128, Tryz.ntmps128
  go_wp2_with fail
  refine (need_any B s l w P.out).mono ?_
  rintro e w1 h1
  rcases hG1 : need s l with _ | ⟨v1, l1⟩ | ⟨a1, c1, l1⟩
  · exact absurd (by rw [← HR.out, hG1]; rfl) NE.out
  rotate_left
  · rw [hG1] at h1
    obtain ⟨rfl, pp, mm⟩ := h1
    unfold thr
    have hno := Lib.hid (show r = .no a1 c1 l1 by rw [← HR.out, hG1]; rfl)
    have PP := Lib.hid pp
    have MM := Lib.hid (M.out.next mm)
    clear pp mm hG1
    go_wp2_with fail
    exact ⟨rfl, pst_no hno.out PP.out MM.out⟩
  rw [hG1] at h1
  obtain ⟨u1, rfl, vv, pp, mm⟩ := h1
  replace HR := HR.out
  rw [hG1] at HR
  simp only [bind_okE] at HR
  replace HR := Lib.hid HR
  replace M := Lib.hid (M.out.next mm)
  replace P := Lib.hid pp
  clear pp mm hG1
  obtain rfl : u1 = .tuple #[] := vv
  go_wp2_with fail
  refine (name_r B l1 w1 P.out _ rfl (nam_ne _)).mono ?_
  rintro e w2 h2
  rcases hG2 : nam l1 with _ | ⟨v2, l2⟩ | ⟨a2, c2, l2⟩
  · exact absurd (by rw [← HR.out, hG2]; rfl) NE.out
  rotate_left
  · rw [hG2] at h2
    obtain ⟨rfl, pp, mm⟩ := h2
    unfold thr
    have hno := Lib.hid (show r = .no a2 c2 l2 by rw [← HR.out, hG2]; rfl)
    have PP := Lib.hid pp
    have MM := Lib.hid (M.out.next mm)
    clear pp mm hG2
    go_wp2_with fail
    exact ⟨rfl, pst_no hno.out PP.out MM.out⟩
  rw [hG2] at h2
  obtain ⟨u2, rfl, vv, pp, mm⟩ := h2
  replace HR := HR.out
  rw [hG2] at HR
  simp only [bind_okE] at HR
  replace HR := Lib.hid HR
  replace M := Lib.hid (M.out.next mm)
  replace P := Lib.hid pp
  clear pp mm hG2
  obtain rfl : u2 = .string v2 := vv
  go_wp2_with fail
  go_ret
  exact pst_ok (by rw [← HR.out]) rfl P.out M.out
set_option maxRecDepth 100000 in
set_option maxHeartbeats 1000000 in
theorem integer_r (B : Nat) (l : List Tk) (w : World) (h : Ps w B l) (r : Rs Int) (hr : int l = r) (hne : r ≠ .out) :
    Calls Tryz.prog 131 #[.pointer (some ⟨B, 0, none⟩)] w (Pst B Iv r w) := by
  have P := Lib.hid h
  have M := Lib.hid (Mv.refl w.heap.size B w)
  have NE := Lib.hid hne
  unfold int at hr
  have HR := Lib.hid hr
  clear h hne hr
  have SZ := Lib.hid (fun v l1 => tak_size (k := 2) (l := l) (v := v) (r := l1) P.out.tl)
  go_enter Tryz.func131, Tryz.ntmps131
  go_wp2_with fail
  refine (take_any B 2 (by decide) l w P.out).mono ?_
  rintro e w1 h1
  rcases hG1 : tak 2 l with _ | ⟨v1, l1⟩ | ⟨a1, c1, l1⟩
  · exact absurd (by rw [← HR.out, hG1]; rfl) NE.out
  rotate_left
  · rw [hG1] at h1
    obtain ⟨rfl, pp, mm⟩ := h1
    unfold thr
    have hno := Lib.hid (show r = .no a1 c1 l1 by rw [← HR.out, hG1]; rfl)
    have PP := Lib.hid pp
    have MM := Lib.hid (M.out.next mm)
    clear pp mm hG1
    go_wp2_with fail
    exact ⟨rfl, pst_no hno.out PP.out MM.out⟩
  rw [hG1] at h1
  obtain ⟨u1, rfl, vv, pp, mm⟩ := h1
  replace HR := HR.out
  rw [hG1] at HR
  simp only [bind_okE] at HR
  replace HR := Lib.hid HR
  replace M := Lib.hid (M.out.next mm)
  replace P := Lib.hid pp
  clear pp mm
  replace hG1 := Lib.hid hG1
  obtain rfl : u1 = .string v1 := vv
  go_wp2_with fail
  refine (atoi_any v1 (SZ.out v1 l1 hG1.out) w1 P.out.tabs).mono ?_
  rintro e w2 ⟨x, rfl, b⟩
  have mm := Mv.of (B := B) b
  replace M := Lib.hid (M.out.next mm)
  replace P := Lib.hid (P.out.keeps b)
  clear mm b
  go_wp2_with fail
  go_ret
  exact pst_ok (by rw [← HR.out]) rfl P.out M.out
set_option maxRecDepth 100000 in
set_option maxHeartbeats 1000000 in
theorem decimal_r (B : Nat) (l : List Tk) (w : World) (h : Ps w B l) (r : Rs Int) (hr : deci l = r) (hne : r ≠ .out) :
    Calls Tryz.prog 225 #[.pointer (some ⟨B, 0, none⟩)] w (Pst B Iv r w) := by
  have P := Lib.hid h
  have M := Lib.hid (Mv.refl w.heap.size B w)
  have NE := Lib.hid hne
  unfold deci at hr
  have HR := Lib.hid hr
  clear h hne hr
  have SZ := Lib.hid (fun v l1 => tak_size (k := 3) (l := l) (v := v) (r := l1) P.out.tl)
  go_enter Tryz.func225, Tryz.ntmps225
  go_wp2_with fail
  refine (take_any B 3 (by decide) l w P.out).mono ?_
  rintro e w1 h1
  rcases hG1 : tak 3 l with _ | ⟨v1, l1⟩ | ⟨a1, c1, l1⟩
  · exact absurd (by rw [← HR.out, hG1]; rfl) NE.out
  rotate_left
  · rw [hG1] at h1
    obtain ⟨rfl, pp, mm⟩ := h1
    unfold thr
    have hno := Lib.hid (show r = .no a1 c1 l1 by rw [← HR.out, hG1]; rfl)
    have PP := Lib.hid pp
    have MM := Lib.hid (M.out.next mm)
    clear pp mm hG1
    go_wp2_with fail
    exact ⟨rfl, pst_no hno.out PP.out MM.out⟩
  rw [hG1] at h1
  obtain ⟨u1, rfl, vv, pp, mm⟩ := h1
  replace HR := HR.out
  rw [hG1] at HR
  simp only [bind_okE] at HR
  replace HR := Lib.hid HR
  replace M := Lib.hid (M.out.next mm)
  replace P := Lib.hid pp
  clear pp mm
  replace hG1 := Lib.hid hG1
  obtain rfl : u1 = .string v1 := vv
  go_wp2_with fail
  refine (parse_any v1 w1 (by have := SZ.out v1 l1 hG1.out; omega) P.out.tabs.pow).mono ?_
  rintro e w2 ⟨rfl, b⟩
  have mm := Mv.of (B := B) b
  replace M := Lib.hid (M.out.next mm)
  replace P := Lib.hid (P.out.keeps b)
  clear mm b
  go_wp2_with fail
  go_ret
  exact pst_ok (by rw [← HR.out]) rfl P.out M.out
set_option maxRecDepth 100000 in
set_option maxHeartbeats 1000000 in
theorem end_r (B : Nat) (l : List Tk) (w : World) (h : Ps w B l) (r : Rs Unit) (hr : endR l = r) (hne : r ≠ .out) :
    Calls Tryz.prog 96 #[.pointer (some ⟨B, 0, none⟩)] w (Pst B Nv r w) := by
  have P := Lib.hid h
  have M := Lib.hid (Mv.refl w.heap.size B w)
  have NE := Lib.hid hne
  unfold endR wrg at hr
  have HR := Lib.hid hr
  clear h hne hr
  have C1 := Lib.hid (now_any B l w P.out)
  have C4 := Lib.hid (fun W => wrong_any B l W)
  have F1 := tf0
  have F2 := mi_prob
  replace HR := HR.out
  generalize hd l = x at *
  obtain ⟨xk, xt, xa⟩ := x
  simp only at C1 C4 HR
  by_cases hk : xk = 6
  · have q1 : (xk != 6) = false := by simp [hk]
    rw [if_pos hk] at HR
    replace HR := Lib.hid HR
    clear hk
    go_enter Tryz.func96, Tryz.ntmps96
    go_wp2_with fail
    refine (C1.out).mono ?_
    rintro e w1 ⟨rfl, b⟩
    have mm := Mv.of (B := B) b
    replace M := Lib.hid (M.out.next mm)
    replace P := Lib.hid (P.out.keeps b)
    clear mm b
    go_wp2_with fail
    go_end0
    exact pst_ok HR.out.symm rfl P.out M.out
  · have q1 : (xk != 6) = true := by simp [hk]
    rw [if_neg hk] at HR
    replace HR := Lib.hid HR
    clear hk
    go_enter Tryz.func96, Tryz.ntmps96
    go_wp2_with fail
    refine (C1.out).mono ?_
    rintro e w1 ⟨rfl, b⟩
    have mm := Mv.of (B := B) b
    replace M := Lib.hid (M.out.next mm)
    replace P := Lib.hid (P.out.keeps b)
    clear mm b
    go_wp2_with fail
    refine (C4.out w1 P.out).mono ?_
    rintro e w2 ⟨rfl, b⟩
    have mm := Mv.of (B := B) b
    replace M := Lib.hid (M.out.next mm)
    replace P := Lib.hid (P.out.keeps b)
    clear mm b
    go_wp2_with fail
    exact ⟨rfl, pst_no HR.out.symm P.out M.out⟩
end Go.Proofs.YtkgclmikhpjheaaGreatDoor.pa
namespace Go.Proofs.YtkgclmikhpjheaaGreatDoor
open Go.RowKit dec

theorem infX : (Tryz.prog.info? 43).map (·.size) = some 12 := by kernel_rfl
theorem arm_store {ops : Array Oper} {rest : List Oper} {o : Oper} {a : Act} {w : World} {Q : Exit → Act → World → Prop} (x y : Operand) (ho : o.op = .store 43 x y) (hgd : o.guard = none)
    (g : Nat) (T : TypeId) (cells old : Array Value) (hx : a.eval x = .pointer (some ⟨g, 0, none⟩)) (hy : a.eval y = .agg cells) (hB : Blk w g T old) (hs : old.size = 12) (hc : cells.size = 12) (h1 : cells.all (·.oneCell') = true)
    (h : ∀ w', Blk w' g T cells → St g w w' → wpList Tryz.prog ops Q rest (a.put o.dst undef) w') : wpList Tryz.prog ops Q (o :: rest) a w :=
  wpList_store_row hgd 43 x y ho g cells hx hy T old hB (by rw [hc]; exact infX) (by omega) h1 (h _ (setRow_blk hB cells) (setRow_st w g cells))
theorem arm_load {ops : Array Oper} {rest : List Oper} {o : Oper} {a : Act} {w : World} {Q : Exit → Act → World → Prop} (x : Operand) (ho : o.op = .load 43 x) (hgd : o.guard = none)
    (g : Nat) (T : TypeId) (cells : Array Value) (hx : a.eval x = .pointer (some ⟨g, 0, none⟩)) (hB : Blk w g T cells) (hc : cells.size = 12)
    (h : wpList Tryz.prog ops Q rest (a.put o.dst (.agg cells)) w) : wpList Tryz.prog ops Q (o :: rest) a w :=
  wpList_load_row hgd 43 x ho g hx T cells (0, 0) _ hB Tryz.underlying43 rfl (by rw [hc]; exact infX) h
def rowD : TypeDesc → Bool
  | .struct _ => true
  | .array _ _ => true
  | _ => false
theorem arm_storeT {T : TypeId} {n : Nat} (hi : (Tryz.prog.info? T).map (·.size) = some n) {ops : Array Oper} {rest : List Oper} {o : Oper} {a : Act} {w : World} {Q : Exit → Act → World → Prop} (x y : Operand) (ho : o.op = .store T x y) (hgd : o.guard = none)
    (g : Nat) (T' : TypeId) (cells old : Array Value) (hx : a.eval x = .pointer (some ⟨g, 0, none⟩)) (hy : a.eval y = .agg cells) (hB : Blk w g T' old) (hs : old.size = n) (hc : cells.size = n) (h1 : cells.all (·.oneCell') = true)
    (h : ∀ w', Blk w' g T' cells → St g w w' → wpList Tryz.prog ops Q rest (a.put o.dst undef) w') : wpList Tryz.prog ops Q (o :: rest) a w :=
  wpList_store_row hgd T x y ho g cells hx hy T' old hB (by rw [hc]; exact hi) (by omega) h1 (h _ (setRow_blk hB cells) (setRow_st w g cells))
theorem arm_loadT {T : TypeId} {n : Nat} {d : TypeDesc} (hi : (Tryz.prog.info? T).map (·.size) = some n) (hu : Tryz.prog.underlying T = some d) (hd : rowD d = true)
    {ops : Array Oper} {rest : List Oper} {o : Oper} {a : Act} {w : World} {Q : Exit → Act → World → Prop} (x : Operand) (ho : o.op = .load T x) (hgd : o.guard = none)
    (g : Nat) (T' : TypeId) (cells : Array Value) (hx : a.eval x = .pointer (some ⟨g, 0, none⟩)) (hB : Blk w g T' cells) (hc : cells.size = n)
    (h : wpList Tryz.prog ops Q rest (a.put o.dst (.agg cells)) w) : wpList Tryz.prog ops Q (o :: rest) a w :=
  wpList_load_row hgd T x ho g hx T' cells (0, 0) d hB hu (by cases d <;> first | rfl | cases hd) (by rw [hc]; exact hi) h
/-- The end of a function whose result lies in a variable. -/
theorem ret_T {T : TypeId} {n : Nat} {d : TypeDesc} (hi : (Tryz.prog.info? T).map (·.size) = some n) (hu : Tryz.prog.underlying T = some d) (hd : rowD d = true)
    {fn : Func} {R : Ending → World → Prop} {p : Tmp} (h : fn.results = #[.cell p T]) (tmps : Array Value) (w : World) (g : Nat) (T' : TypeId) (cells : Array Value) (hp : tmps.getD p undef = .pointer (some ⟨g, 0, none⟩))
    (hB : Blk w g T' cells) (hc : cells.size = n) (hR : R (.returned (.agg cells)) w) : bodyPost Tryz.prog fn R .ret ⟨tmps, []⟩ w :=
  bodyPost_ret (results_cell_row h tmps w g T' cells (0, 0) d hp hB hu (by cases d <;> first | rfl | cases hd) (by rw [hc]; exact hi)) rfl hR
theorem op_store (x y : Operand) {o : Oper} {a : Act} {w : World} {K : Act → World → Prop} {Q : Exit → Act → World → Prop} (ho : o.op = .store 43 x y)
    (g : Nat) (T' : TypeId) (cells old : Array Value) (hx : a.eval x = .pointer (some ⟨g, 0, none⟩)) (hy : a.eval y = .agg cells) (hB : Blk w g T' old) (hs : old.size = 12) (hc : cells.size = 12) (h1 : cells.all (·.oneCell') = true)
    (h : ∀ w', Blk w' g T' cells → St g w w' → K (a.put o.dst undef) w') : o.wp Tryz.prog a w K Q :=
  wp_store_row 43 x y ho g cells hx hy T' old hB (by rw [hc]; exact infX) (by omega) h1 (h _ (setRow_blk hB cells) (setRow_st w g cells))
theorem op_load (x : Operand) {o : Oper} {a : Act} {w : World} {K : Act → World → Prop} {Q : Exit → Act → World → Prop} (ho : o.op = .load 43 x)
    (g : Nat) (T' : TypeId) (cells : Array Value) (hx : a.eval x = .pointer (some ⟨g, 0, none⟩)) (hB : Blk w g T' cells) (hc : cells.size = 12)
    (h : K (a.put o.dst (.agg cells)) w) : o.wp Tryz.prog a w K Q :=
  wp_load_row 43 x ho g hx T' cells (0, 0) _ hB Tryz.underlying43 rfl (by rw [hc]; exact infX) h
theorem yield_load {T : TypeId} {n : Nat} {d : TypeDesc} (hi : (Tryz.prog.info? T).map (·.size) = some n) (hu : Tryz.prog.underlying T = some d) (hd : rowD d = true) {oi : Oper} {a : Act} {w : World} (x : Operand) (ho : oi.op = .load T x)
    (g : Nat) (T' : TypeId) (cells : Array Value) (hx : a.eval x = .pointer (some ⟨g, 0, none⟩)) (hB : Blk w g T' cells) (hc : cells.size = n) : (execOp a.eval oi).run Tryz.prog w = .ok (.value (.agg cells)) w := by
  unfold execOp
  have := run_loadVar_row (P := Tryz.prog) w g T' T cells (0, 0) d hB hu (by cases d <;> first | rfl | cases hd) (by rw [hc]; exact hi)
  simp only [ho, hx, Instr.loadAt, Instr.sureAddr, Sem.run_bind, Sem.run_pure, Result.andThen_ok, this]
theorem infSc : (Tryz.prog.info? 107).map (·.size) = some 2 := by kernel_rfl
theorem infFa : (Tryz.prog.info? 68).map (·.size) = some 2 := by kernel_rfl
theorem infTy : (Tryz.prog.info? 47).map (·.size) = some 3 := by kernel_rfl
theorem infWi : (Tryz.prog.info? 40).map (·.size) = some 2 := by kernel_rfl
theorem infFi : (Tryz.prog.info? 149).map (·.size) = some 4 := by kernel_rfl
theorem exC_size (x : Ex) (ua : Option Addr) (uc : Nat) (aa : Option Addr) (ac : Nat) : (exC x ua uc aa ac).size = 12 := rfl
theorem exC_one (x : Ex) (ua : Option Addr) (uc : Nat) (aa : Option Addr) (ac : Nat) : (exC x ua uc aa ac).all (·.oneCell') = true := by simp [exC, Value.oneCell']
/-- The cells of an empty expression. -/
def zE : Array Value := #[.int .i64 0, .string ⟨#[]⟩, .string ⟨#[]⟩, .string ⟨#[]⟩, .int .i64 0, .int .i64 0, .string ⟨#[]⟩, .slice none 0 0, .int .i64 0, .int .i64 0, .int .i64 0, .slice none 0 0]
/-- The end of a function whose result is an expression in a variable. -/
theorem ret_expr {fn : Func} {R : Ending → World → Prop} {p : Tmp} (h : fn.results = #[.cell p 43]) (tmps : Array Value) (w : World) (g : Nat) (T : TypeId) (cells : Array Value) (hp : tmps.getD p undef = .pointer (some ⟨g, 0, none⟩))
    (hB : Blk w g T cells) (hc : cells.size = 12) (hR : R (.returned (.agg cells)) w) : bodyPost Tryz.prog fn R .ret ⟨tmps, []⟩ w :=
  bodyPost_ret (results_cell_row h tmps w g T cells (0, 0) _ hp hB Tryz.underlying43 rfl (by rw [hc]; exact infX)) rfl hR
/-- What stands while a method of a scope runs, that began in w0: its receiver, its result. -/
structure Fr (w0 w : World) (B : Nat) (i : Bool) (res : Array Value) : Prop where
  mv : Mv w0.heap.size B w0 w
  sc : Blk w w0.heap.size 107 #[.pointer (some ⟨B, 0, none⟩), .bool i]
  rz : Blk w (w0.heap.size + 1) 43 res
  hB : B < w0.heap.size
theorem Fr.start {w : World} {B : Nat} (i : Bool) (h : B < w.heap.size) : Fr w ((w.alloc (.cells #[.pointer (some ⟨B, 0, none⟩), .bool i] 107)).alloc (.cells zE 43)) B i zE :=
  ⟨((Mv.refl _ _ _).alloc (Nat.le_refl _) _).alloc (Nat.le_refl _) _, (Blk.new _ _ _).past _, by have := Blk.new (w.alloc (.cells #[.pointer (some ⟨B, 0, none⟩), .bool i] 107)) 43 zE; simpa using this, h⟩
theorem Fr.lt {w0 w : World} {B : Nat} {i : Bool} {res : Array Value} (h : Fr w0 w B i res) : w0.heap.size + 2 ≤ w.heap.size := h.rz.lt
theorem Fr.next {w0 w w' : World} {B : Nat} {i : Bool} {res : Array Value} (h : Fr w0 w B i res) (M : Mv w.heap.size B w w') : Fr w0 w' B i res := by
  have := h.lt
  have := h.hB
  exact ⟨h.mv.up M (by omega), h.sc.mv M (by omega) (by omega), h.rz.mv M (by omega) (by omega), h.hB⟩
theorem Fr.nextB {w0 w w' : World} {B : Nat} {i : Bool} {res : Array Value} (h : Fr w0 w B i res) (M : Below w.heap.size w w') : Fr w0 w' B i res := h.next (.of M)
theorem Fr.alloc {w0 w : World} {B : Nat} {i : Bool} {res : Array Value} (h : Fr w0 w B i res) (o : Obj) : Fr w0 (w.alloc o) B i res := h.next (.of (balloc (b0 w) o))
theorem Fr.st {w0 w w' : World} {B : Nat} {i : Bool} {res : Array Value} {g : Nat} (h : Fr w0 w B i res) (M : St g w w') (hg : w0.heap.size + 2 ≤ g) : Fr w0 w' B i res :=
  ⟨h.mv.trans (M.mv (by omega)), h.sc.st M (by omega), h.rz.st M (by omega), h.hB⟩
theorem Fr.set {w0 w w' : World} {B : Nat} {i : Bool} {res cells : Array Value} (h : Fr w0 w B i res) (M : St (w0.heap.size + 1) w w') (hb : Blk w' (w0.heap.size + 1) 43 cells) : Fr w0 w' B i cells :=
  ⟨h.mv.trans (M.mv (by omega)), h.sc.st M (by omega), hb, h.hB⟩
theorem Fr.c0 {w0 w : World} {B : Nat} {i : Bool} {res : Array Value} (h : Fr w0 w B i res) : w.cell? ⟨w0.heap.size, 0, none⟩ = some (.pointer (some ⟨B, 0, none⟩)) := h.sc.cell 0
theorem Fr.c1 {w0 w : World} {B : Nat} {i : Bool} {res : Array Value} (h : Fr w0 w B i res) : w.cell? ⟨w0.heap.size, 1, none⟩ = some (.bool i) := h.sc.cell 1
end Go.Proofs.YtkgclmikhpjheaaGreatDoor
namespace Go.Proofs.YtkgclmikhpjheaaGreatDoor.pa
open Go.RowKit dec

set_option maxRecDepth 100000 in
set_option maxHeartbeats 1000000 in
theorem factor_r (B : Nat) (l : List Tk) (w : World) (h : Ps w B l) (r : Rs un.Fa) (hr : fac l = r) (hne : r ≠ .out) :
    Calls Tryz.prog 158 #[.pointer (some ⟨B, 0, none⟩)] w (Pst B Fv r w) := by
  have b1 := balloc (b0 w) (.cells #[.string ⟨#[]⟩, .int .i64 0] 68)
  have hlt := Lib.hid h.lt
  have P := Lib.hid (h.keeps b1)
  have M := Lib.hid (Mv.of (B := B) b1)
  have R := Lib.hid (Blk.new w 68 #[.string ⟨#[]⟩, .int .i64 0])
  have NE := Lib.hid hne
  unfold fac at hr
  have HR := Lib.hid hr
  clear h hne hr b1
  go_enter Tryz.func158, Tryz.ntmps158
  go_wp2_with fail
  refine (name_r B l _ P.out _ rfl (nam_ne _)).mono ?_
  rintro e w1 h1
  rcases hG1 : nam l with _ | ⟨v1, l1⟩ | ⟨a1, c1, l1⟩
  · exact absurd hG1 (nam_ne _)
  rotate_left
  · rw [hG1] at h1
    obtain ⟨rfl, pp, mm⟩ := h1
    unfold thr
    have hno := Lib.hid (show r = .no a1 c1 l1 by rw [← HR.out, hG1]; rfl)
    have PP := Lib.hid pp
    have MM := Lib.hid (M.out.next mm)
    clear pp mm hG1
    go_wp2_with fail
    exact ⟨rfl, pst_no hno.out PP.out MM.out⟩
  rw [hG1] at h1
  obtain ⟨u1, rfl, vv, pp, mm⟩ := h1
  replace HR := HR.out
  rw [hG1] at HR
  simp only [bind_okE] at HR
  replace HR := Lib.hid HR
  replace R := Lib.hid (R.out.mv mm (by have := hlt.out; omega) (by simp))
  have L := Lib.hid (Blk.new w1 68 #[.string v1, .int .i64 1])
  replace R := Lib.hid (R.out.past (.cells #[.string v1, .int .i64 1] 68))
  have b2 := balloc (b0 w1) (.cells #[.string v1, .int .i64 1] 68)
  replace P := Lib.hid (pp.keeps b2)
  have hw1 := Lib.hid mm.size
  replace M := Lib.hid ((M.out.next mm).nextB b2)
  clear pp mm hG1 b2
  obtain rfl : u1 = .string v1 := vv
  go_wp2_with fail
  have hgw := Lib.hid (show w.heap.size < w1.heap.size from by have := hw1.out; simp at this; omega)
  clear hw1
  generalize w1.alloc (.cells #[.string v1, .int .i64 1] 68) = W at *
  generalize w1.heap.size = g at *
  cases ht : isT ⟨#[94]⟩ l1
  · replace HR := Lib.hid (show Rs.ok (v1, 1) l1 = r by rw [← HR.out, ht]; rfl)
    have HT := Lib.hid ht
    clear ht
    refine (skip_no B ⟨#[94]⟩ l1 _ P.out HT.out).mono ?_
    rintro e w2 ⟨rfl, pp, mm⟩
    replace R := Lib.hid (R.out.mv mm (by have := hlt.out; omega) (R.out.lt))
    replace L := Lib.hid (L.out.mv mm (by have := hlt.out; have := hgw.out; omega) (L.out.lt))
    replace P := Lib.hid pp
    replace M := Lib.hid (M.out.next mm)
    clear pp mm HT
    go_wp2_with (first | (refine arm_loadT infFa Tryz.underlying68 rfl (.tmp 3) rfl rfl _ _ _ rfl L.out rfl ?_) | (refine arm_storeT infFa (.tmp 2) (.tmp 19) rfl rfl _ _ _ _ rfl rfl R.out rfl rfl (by simp [Value.oneCell']) ?_; intro w9 hb9 hs9))
    replace P := Lib.hid (P.out.st hs9 hlt.out)
    replace M := Lib.hid (M.out.trans (hs9.mv (Nat.le_refl _)))
    refine ret_T infFa Tryz.underlying68 rfl rfl _ _ _ _ _ rfl hb9 rfl ?_
    exact pst_ok HR.out.symm rfl P.out M.out
  · cases ht2 : isT ⟨#[45]⟩ l1.tail
    · replace HR := Lib.hid (show ((int l1.tail).bind fun x r => Rs.ok (v1, IntKind.i64.wrap (1 * min x 1099511627776)) r) = r by rw [← HR.out, ht, ht2]; rfl)
      have HT := Lib.hid ht
      have HT2 := Lib.hid ht2
      clear ht ht2
      refine (skip_yes B ⟨#[94]⟩ l1 _ P.out HT.out).mono ?_
      rintro e w2 ⟨rfl, pp, mm⟩
      replace R := Lib.hid (R.out.mv mm (by have := hlt.out; omega) (R.out.lt))
      replace L := Lib.hid (L.out.mv mm (by have := hlt.out; have := hgw.out; omega) (L.out.lt))
      replace P := Lib.hid pp
      replace M := Lib.hid (M.out.next mm)
      clear pp mm HT
      go_wp2_with fail
      refine (skip_no B ⟨#[45]⟩ l1.tail _ P.out HT2.out).mono ?_
      rintro e w3 ⟨rfl, pp, mm⟩
      replace R := Lib.hid (R.out.mv mm (by have := hlt.out; omega) (R.out.lt))
      replace L := Lib.hid (L.out.mv mm (by have := hlt.out; have := hgw.out; omega) (L.out.lt))
      replace P := Lib.hid pp
      replace M := Lib.hid (M.out.next mm)
      clear pp mm HT2
      go_wp2_with fail
      refine wp_region_held_drew (S := fun _ => True) (by kernel_rfl) trivial (fun hH => ?_)
      have P' := Lib.hid (P.out.keeps (b0 _).drew)
      have M' := Lib.hid (M.out.nextB (b0 w3).drew)
      have L' := Lib.hid (show Blk w3.drew g 68 #[.string v1, .int .i64 (1)] from L.out)
      have R' := Lib.hid (show Blk w3.drew w.heap.size 68 #[.string ⟨#[]⟩, .int .i64 0] from R.out)
      refine held_take (i := 0) (d := 12) (v := ?_) rfl (by kernel_rfl) (by kernel_rfl) (by kernel_rfl) rfl (fun _ _ _ h => h) rfl hH (fun w' hS => ?_) ?_
      rotate_left
      · go_simp; first | done | with_reducible rfl
      simp only [List.set_cons_zero, List.set_cons_succ]
      refine held_take (i := 2) (d := 14) (v := ?_) rfl (by kernel_rfl) (by kernel_rfl) (by kernel_rfl) rfl (fun _ _ _ h => h) rfl hH (fun w' hS => ?_) ?_
      rotate_left
      · go_simp; first | done | with_reducible rfl
      simp only [List.set_cons_zero, List.set_cons_succ]
      refine held_two (i := 1) (j := 3) rfl rfl (by kernel_rfl) rfl rfl (fun K hK => ?_) (fun K hK => ?_)
      · have e1 := L'.out.cell 1
        go_simp
        refine hK.out _ _ trivial (fun hH => ?_)
        clear hK K
        clear e1
        refine held_only (i := 3) rfl (by kernel_rfl) rfl (fun K hK => ?_)
        go_simp
        refine (integer_r B l1.tail _ P'.out _ rfl (int_ne _)).mono ?_
        rintro e w4 h4
        rcases hG4 : int l1.tail with _ | ⟨v4, l4⟩ | ⟨a4, c4, l4⟩
        · exact absurd hG4 (int_ne _)
        rotate_left
        · rw [hG4] at h4
          obtain ⟨rfl, pp, mm⟩ := h4
          unfold thr
          exact ⟨rfl, pst_no (by rw [← HR.out, hG4]; rfl) pp (M'.out.next mm)⟩
        rw [hG4] at h4
        obtain ⟨u4, rfl, vv, pp, mm⟩ := h4
        obtain rfl : u4 = .int .i64 v4 := vv
        replace HR := Lib.hid (show Rs.ok (v1, IntKind.i64.wrap (1 * min v4 1099511627776)) l4 = r by rw [← HR.out, hG4]; rfl)
        replace L := Lib.hid (L'.out.mv mm (by have := hlt.out; have := hgw.out; omega) L'.out.lt)
        replace R := Lib.hid (R'.out.mv mm (by have := hlt.out; omega) R'.out.lt)
        replace P := Lib.hid pp
        replace M := Lib.hid (M'.out.next mm)
        clear P' pp mm hG4
        refine hK.out _ _ trivial (fun hH => ?_)
        clear hK K
        refine held_only (i := 4) rfl (by kernel_rfl) rfl (fun K hK => ?_)
        go_simp
        generalize hm : min v4 1099511627776 = m at *
        replace hm := Lib.hid hm
        refine hK.out _ _ trivial (fun hH => ?_)
        clear hK K
        refine held_only (i := 5) rfl (by kernel_rfl) rfl (fun K hK => ?_)
        go_simp
        refine hK.out _ _ trivial (fun hH => ?_)
        clear hK K
        refine held_only (i := 6) rfl (by kernel_rfl) rfl (fun K hK => ?_)
        go_simp
        refine hK.out _ _ trivial (fun hH => ?_)
        clear hK K
        refine held_only (i := 7) rfl (by kernel_rfl) rfl (fun K hK => ?_)
        have e1 := L.out.cell 1
        have z1 := L.out.free 1
        go_simp
        have L2 := L.out.setCell 1 (.int .i64 (IntKind.i64.wrap m))
        have L3 := Lib.hid (show Blk _ g 68 #[.string v1, .int .i64 (IntKind.i64.wrap m)] from L2.1)
        replace P := Lib.hid (P.out.st L2.2 (by have := hlt.out; have := hgw.out; omega))
        replace R := Lib.hid (R.out.st L2.2 (by have := hgw.out; omega))
        replace M := Lib.hid (M.out.trans (L2.2.mv (by have := hgw.out; omega)))
        replace L := L3
        replace HR := Lib.hid (show Rs.ok (v1, (IntKind.i64.wrap m)) l4 = r from by rw [← HR.out]; congr 2; simp)
        clear L2 L3 e1 z1
        refine hK.out _ _ trivial (fun hH => ?_)
        clear hK K
        refine wpAnyH_done (by kernel_rfl) ?_ _
        go_wp2_with (first | (refine arm_loadT infFa Tryz.underlying68 rfl (.tmp 3) rfl rfl _ _ _ rfl L.out rfl ?_) | (refine arm_storeT infFa (.tmp 2) (.tmp 19) rfl rfl _ _ _ _ rfl rfl R.out rfl rfl (by simp [Value.oneCell']) ?_; intro w9 hb9 hs9))
        replace P := Lib.hid (P.out.st hs9 hlt.out)
        replace M := Lib.hid (M.out.trans (hs9.mv (Nat.le_refl _)))
        refine ret_T infFa Tryz.underlying68 rfl rfl _ _ _ _ _ rfl hb9 rfl ?_
        exact pst_ok HR.out.symm rfl P.out M.out
      · go_simp
        refine (integer_r B l1.tail _ P'.out _ rfl (int_ne _)).mono ?_
        rintro e w4 h4
        rcases hG4 : int l1.tail with _ | ⟨v4, l4⟩ | ⟨a4, c4, l4⟩
        · exact absurd hG4 (int_ne _)
        rotate_left
        · rw [hG4] at h4
          obtain ⟨rfl, pp, mm⟩ := h4
          unfold thr
          exact ⟨rfl, pst_no (by rw [← HR.out, hG4]; rfl) pp (M'.out.next mm)⟩
        rw [hG4] at h4
        obtain ⟨u4, rfl, vv, pp, mm⟩ := h4
        obtain rfl : u4 = .int .i64 v4 := vv
        replace HR := Lib.hid (show Rs.ok (v1, IntKind.i64.wrap (1 * min v4 1099511627776)) l4 = r by rw [← HR.out, hG4]; rfl)
        replace L := Lib.hid (L'.out.mv mm (by have := hlt.out; have := hgw.out; omega) L'.out.lt)
        replace R := Lib.hid (R'.out.mv mm (by have := hlt.out; omega) R'.out.lt)
        replace P := Lib.hid pp
        replace M := Lib.hid (M'.out.next mm)
        clear P' pp mm hG4
        refine hK.out _ _ trivial (fun hH => ?_)
        clear hK K
        refine held_two (i := 1) (j := 4) rfl rfl (by kernel_rfl) rfl rfl (fun K hK => ?_) (fun K hK => ?_)
        · have e1 := L.out.cell 1
          go_simp
          refine hK.out _ _ trivial (fun hH => ?_)
          clear hK K
          clear e1
          refine held_only (i := 4) rfl (by kernel_rfl) rfl (fun K hK => ?_)
          go_simp
          generalize hm : min v4 1099511627776 = m at *
          replace hm := Lib.hid hm
          refine hK.out _ _ trivial (fun hH => ?_)
          clear hK K
          refine held_only (i := 5) rfl (by kernel_rfl) rfl (fun K hK => ?_)
          go_simp
          refine hK.out _ _ trivial (fun hH => ?_)
          clear hK K
          refine held_only (i := 6) rfl (by kernel_rfl) rfl (fun K hK => ?_)
          go_simp
          refine hK.out _ _ trivial (fun hH => ?_)
          clear hK K
          refine held_only (i := 7) rfl (by kernel_rfl) rfl (fun K hK => ?_)
          have e1 := L.out.cell 1
          have z1 := L.out.free 1
          go_simp
          have L2 := L.out.setCell 1 (.int .i64 (IntKind.i64.wrap m))
          have L3 := Lib.hid (show Blk _ g 68 #[.string v1, .int .i64 (IntKind.i64.wrap m)] from L2.1)
          replace P := Lib.hid (P.out.st L2.2 (by have := hlt.out; have := hgw.out; omega))
          replace R := Lib.hid (R.out.st L2.2 (by have := hgw.out; omega))
          replace M := Lib.hid (M.out.trans (L2.2.mv (by have := hgw.out; omega)))
          replace L := L3
          replace HR := Lib.hid (show Rs.ok (v1, (IntKind.i64.wrap m)) l4 = r from by rw [← HR.out]; congr 2; simp)
          clear L2 L3 e1 z1
          refine hK.out _ _ trivial (fun hH => ?_)
          clear hK K
          refine wpAnyH_done (by kernel_rfl) ?_ _
          go_wp2_with (first | (refine arm_loadT infFa Tryz.underlying68 rfl (.tmp 3) rfl rfl _ _ _ rfl L.out rfl ?_) | (refine arm_storeT infFa (.tmp 2) (.tmp 19) rfl rfl _ _ _ _ rfl rfl R.out rfl rfl (by simp [Value.oneCell']) ?_; intro w9 hb9 hs9))
          replace P := Lib.hid (P.out.st hs9 hlt.out)
          replace M := Lib.hid (M.out.trans (hs9.mv (Nat.le_refl _)))
          refine ret_T infFa Tryz.underlying68 rfl rfl _ _ _ _ _ rfl hb9 rfl ?_
          exact pst_ok HR.out.symm rfl P.out M.out
        · go_simp
          generalize hm : min v4 1099511627776 = m at *
          replace hm := Lib.hid hm
          refine hK.out _ _ trivial (fun hH => ?_)
          clear hK K
          refine held_only (i := 1) rfl (by kernel_rfl) rfl (fun K hK => ?_)
          have e1 := L.out.cell 1
          go_simp
          refine hK.out _ _ trivial (fun hH => ?_)
          clear hK K
          clear e1
          refine held_only (i := 5) rfl (by kernel_rfl) rfl (fun K hK => ?_)
          go_simp
          refine hK.out _ _ trivial (fun hH => ?_)
          clear hK K
          refine held_only (i := 6) rfl (by kernel_rfl) rfl (fun K hK => ?_)
          go_simp
          refine hK.out _ _ trivial (fun hH => ?_)
          clear hK K
          refine held_only (i := 7) rfl (by kernel_rfl) rfl (fun K hK => ?_)
          have e1 := L.out.cell 1
          have z1 := L.out.free 1
          go_simp
          have L2 := L.out.setCell 1 (.int .i64 (IntKind.i64.wrap m))
          have L3 := Lib.hid (show Blk _ g 68 #[.string v1, .int .i64 (IntKind.i64.wrap m)] from L2.1)
          replace P := Lib.hid (P.out.st L2.2 (by have := hlt.out; have := hgw.out; omega))
          replace R := Lib.hid (R.out.st L2.2 (by have := hgw.out; omega))
          replace M := Lib.hid (M.out.trans (L2.2.mv (by have := hgw.out; omega)))
          replace L := L3
          replace HR := Lib.hid (show Rs.ok (v1, (IntKind.i64.wrap m)) l4 = r from by rw [← HR.out]; congr 2; simp)
          clear L2 L3 e1 z1
          refine hK.out _ _ trivial (fun hH => ?_)
          clear hK K
          refine wpAnyH_done (by kernel_rfl) ?_ _
          go_wp2_with (first | (refine arm_loadT infFa Tryz.underlying68 rfl (.tmp 3) rfl rfl _ _ _ rfl L.out rfl ?_) | (refine arm_storeT infFa (.tmp 2) (.tmp 19) rfl rfl _ _ _ _ rfl rfl R.out rfl rfl (by simp [Value.oneCell']) ?_; intro w9 hb9 hs9))
          replace P := Lib.hid (P.out.st hs9 hlt.out)
          replace M := Lib.hid (M.out.trans (hs9.mv (Nat.le_refl _)))
          refine ret_T infFa Tryz.underlying68 rfl rfl _ _ _ _ _ rfl hb9 rfl ?_
          exact pst_ok HR.out.symm rfl P.out M.out
    · replace HR := Lib.hid (show ((int l1.tail.tail).bind fun x r => Rs.ok (v1, IntKind.i64.wrap (-1 * min x 1099511627776)) r) = r by rw [← HR.out, ht, ht2]; rfl)
      have HT := Lib.hid ht
      have HT2 := Lib.hid ht2
      clear ht ht2
      refine (skip_yes B ⟨#[94]⟩ l1 _ P.out HT.out).mono ?_
      rintro e w2 ⟨rfl, pp, mm⟩
      replace R := Lib.hid (R.out.mv mm (by have := hlt.out; omega) (R.out.lt))
      replace L := Lib.hid (L.out.mv mm (by have := hlt.out; have := hgw.out; omega) (L.out.lt))
      replace P := Lib.hid pp
      replace M := Lib.hid (M.out.next mm)
      clear pp mm HT
      go_wp2_with fail
      refine (skip_yes B ⟨#[45]⟩ l1.tail _ P.out HT2.out).mono ?_
      rintro e w3 ⟨rfl, pp, mm⟩
      replace R := Lib.hid (R.out.mv mm (by have := hlt.out; omega) (R.out.lt))
      replace L := Lib.hid (L.out.mv mm (by have := hlt.out; have := hgw.out; omega) (L.out.lt))
      replace P := Lib.hid pp
      replace M := Lib.hid (M.out.next mm)
      clear pp mm HT2
      have e1 := L.out.cell 1
      have z1 := L.out.free 1
      have L2 := L.out.setCell 1 (.int .i64 (-1))
      have L3 := Lib.hid (show Blk _ g 68 #[.string v1, .int .i64 (-1)] from L2.1)
      replace P := Lib.hid (P.out.st L2.2 (by have := hlt.out; have := hgw.out; omega))
      replace R := Lib.hid (R.out.st L2.2 (by have := hgw.out; omega))
      replace M := Lib.hid (M.out.trans (L2.2.mv (by have := hgw.out; omega)))
      replace L := L3
      clear L2 L3
      go_wp2_with fail
      clear e1 z1
      generalize w3.setCell ⟨g, 1, none⟩ (.int .i64 (-1)) = w5 at *
      refine wp_region_held_drew (S := fun _ => True) (by kernel_rfl) trivial (fun hH => ?_)
      have P' := Lib.hid (P.out.keeps (b0 _).drew)
      have M' := Lib.hid (M.out.nextB (b0 w5).drew)
      have L' := Lib.hid (show Blk w5.drew g 68 #[.string v1, .int .i64 (-1)] from L.out)
      have R' := Lib.hid (show Blk w5.drew w.heap.size 68 #[.string ⟨#[]⟩, .int .i64 0] from R.out)
      refine held_take (i := 0) (d := 12) (v := ?_) rfl (by kernel_rfl) (by kernel_rfl) (by kernel_rfl) rfl (fun _ _ _ h => h) rfl hH (fun w' hS => ?_) ?_
      rotate_left
      · go_simp; first | done | with_reducible rfl
      simp only [List.set_cons_zero, List.set_cons_succ]
      refine held_take (i := 2) (d := 14) (v := ?_) rfl (by kernel_rfl) (by kernel_rfl) (by kernel_rfl) rfl (fun _ _ _ h => h) rfl hH (fun w' hS => ?_) ?_
      rotate_left
      · go_simp; first | done | with_reducible rfl
      simp only [List.set_cons_zero, List.set_cons_succ]
      refine held_two (i := 1) (j := 3) rfl rfl (by kernel_rfl) rfl rfl (fun K hK => ?_) (fun K hK => ?_)
      · have e1 := L'.out.cell 1
        go_simp
        refine hK.out _ _ trivial (fun hH => ?_)
        clear hK K
        clear e1
        refine held_only (i := 3) rfl (by kernel_rfl) rfl (fun K hK => ?_)
        go_simp
        refine (integer_r B l1.tail.tail _ P'.out _ rfl (int_ne _)).mono ?_
        rintro e w4 h4
        rcases hG4 : int l1.tail.tail with _ | ⟨v4, l4⟩ | ⟨a4, c4, l4⟩
        · exact absurd hG4 (int_ne _)
        rotate_left
        · rw [hG4] at h4
          obtain ⟨rfl, pp, mm⟩ := h4
          unfold thr
          exact ⟨rfl, pst_no (by rw [← HR.out, hG4]; rfl) pp (M'.out.next mm)⟩
        rw [hG4] at h4
        obtain ⟨u4, rfl, vv, pp, mm⟩ := h4
        obtain rfl : u4 = .int .i64 v4 := vv
        replace HR := Lib.hid (show Rs.ok (v1, IntKind.i64.wrap (-1 * min v4 1099511627776)) l4 = r by rw [← HR.out, hG4]; rfl)
        replace L := Lib.hid (L'.out.mv mm (by have := hlt.out; have := hgw.out; omega) L'.out.lt)
        replace R := Lib.hid (R'.out.mv mm (by have := hlt.out; omega) R'.out.lt)
        replace P := Lib.hid pp
        replace M := Lib.hid (M'.out.next mm)
        clear P' pp mm hG4
        refine hK.out _ _ trivial (fun hH => ?_)
        clear hK K
        refine held_only (i := 4) rfl (by kernel_rfl) rfl (fun K hK => ?_)
        go_simp
        generalize hm : min v4 1099511627776 = m at *
        replace hm := Lib.hid hm
        refine hK.out _ _ trivial (fun hH => ?_)
        clear hK K
        refine held_only (i := 5) rfl (by kernel_rfl) rfl (fun K hK => ?_)
        go_simp
        refine hK.out _ _ trivial (fun hH => ?_)
        clear hK K
        refine held_only (i := 6) rfl (by kernel_rfl) rfl (fun K hK => ?_)
        go_simp
        refine hK.out _ _ trivial (fun hH => ?_)
        clear hK K
        refine held_only (i := 7) rfl (by kernel_rfl) rfl (fun K hK => ?_)
        have e1 := L.out.cell 1
        have z1 := L.out.free 1
        go_simp
        have L2 := L.out.setCell 1 (.int .i64 (IntKind.i64.wrap (-m)))
        have L3 := Lib.hid (show Blk _ g 68 #[.string v1, .int .i64 (IntKind.i64.wrap (-m))] from L2.1)
        replace P := Lib.hid (P.out.st L2.2 (by have := hlt.out; have := hgw.out; omega))
        replace R := Lib.hid (R.out.st L2.2 (by have := hgw.out; omega))
        replace M := Lib.hid (M.out.trans (L2.2.mv (by have := hgw.out; omega)))
        replace L := L3
        replace HR := Lib.hid (show Rs.ok (v1, (IntKind.i64.wrap (-m))) l4 = r from by rw [← HR.out]; congr 2; simp)
        clear L2 L3 e1 z1
        refine hK.out _ _ trivial (fun hH => ?_)
        clear hK K
        refine wpAnyH_done (by kernel_rfl) ?_ _
        go_wp2_with (first | (refine arm_loadT infFa Tryz.underlying68 rfl (.tmp 3) rfl rfl _ _ _ rfl L.out rfl ?_) | (refine arm_storeT infFa (.tmp 2) (.tmp 19) rfl rfl _ _ _ _ rfl rfl R.out rfl rfl (by simp [Value.oneCell']) ?_; intro w9 hb9 hs9))
        replace P := Lib.hid (P.out.st hs9 hlt.out)
        replace M := Lib.hid (M.out.trans (hs9.mv (Nat.le_refl _)))
        refine ret_T infFa Tryz.underlying68 rfl rfl _ _ _ _ _ rfl hb9 rfl ?_
        exact pst_ok HR.out.symm rfl P.out M.out
      · go_simp
        refine (integer_r B l1.tail.tail _ P'.out _ rfl (int_ne _)).mono ?_
        rintro e w4 h4
        rcases hG4 : int l1.tail.tail with _ | ⟨v4, l4⟩ | ⟨a4, c4, l4⟩
        · exact absurd hG4 (int_ne _)
        rotate_left
        · rw [hG4] at h4
          obtain ⟨rfl, pp, mm⟩ := h4
          unfold thr
          exact ⟨rfl, pst_no (by rw [← HR.out, hG4]; rfl) pp (M'.out.next mm)⟩
        rw [hG4] at h4
        obtain ⟨u4, rfl, vv, pp, mm⟩ := h4
        obtain rfl : u4 = .int .i64 v4 := vv
        replace HR := Lib.hid (show Rs.ok (v1, IntKind.i64.wrap (-1 * min v4 1099511627776)) l4 = r by rw [← HR.out, hG4]; rfl)
        replace L := Lib.hid (L'.out.mv mm (by have := hlt.out; have := hgw.out; omega) L'.out.lt)
        replace R := Lib.hid (R'.out.mv mm (by have := hlt.out; omega) R'.out.lt)
        replace P := Lib.hid pp
        replace M := Lib.hid (M'.out.next mm)
        clear P' pp mm hG4
        refine hK.out _ _ trivial (fun hH => ?_)
        clear hK K
        refine held_two (i := 1) (j := 4) rfl rfl (by kernel_rfl) rfl rfl (fun K hK => ?_) (fun K hK => ?_)
        · have e1 := L.out.cell 1
          go_simp
          refine hK.out _ _ trivial (fun hH => ?_)
          clear hK K
          clear e1
          refine held_only (i := 4) rfl (by kernel_rfl) rfl (fun K hK => ?_)
          go_simp
          generalize hm : min v4 1099511627776 = m at *
          replace hm := Lib.hid hm
          refine hK.out _ _ trivial (fun hH => ?_)
          clear hK K
          refine held_only (i := 5) rfl (by kernel_rfl) rfl (fun K hK => ?_)
          go_simp
          refine hK.out _ _ trivial (fun hH => ?_)
          clear hK K
          refine held_only (i := 6) rfl (by kernel_rfl) rfl (fun K hK => ?_)
          go_simp
          refine hK.out _ _ trivial (fun hH => ?_)
          clear hK K
          refine held_only (i := 7) rfl (by kernel_rfl) rfl (fun K hK => ?_)
          have e1 := L.out.cell 1
          have z1 := L.out.free 1
          go_simp
          have L2 := L.out.setCell 1 (.int .i64 (IntKind.i64.wrap (-m)))
          have L3 := Lib.hid (show Blk _ g 68 #[.string v1, .int .i64 (IntKind.i64.wrap (-m))] from L2.1)
          replace P := Lib.hid (P.out.st L2.2 (by have := hlt.out; have := hgw.out; omega))
          replace R := Lib.hid (R.out.st L2.2 (by have := hgw.out; omega))
          replace M := Lib.hid (M.out.trans (L2.2.mv (by have := hgw.out; omega)))
          replace L := L3
          replace HR := Lib.hid (show Rs.ok (v1, (IntKind.i64.wrap (-m))) l4 = r from by rw [← HR.out]; congr 2; simp)
          clear L2 L3 e1 z1
          refine hK.out _ _ trivial (fun hH => ?_)
          clear hK K
          refine wpAnyH_done (by kernel_rfl) ?_ _
          go_wp2_with (first | (refine arm_loadT infFa Tryz.underlying68 rfl (.tmp 3) rfl rfl _ _ _ rfl L.out rfl ?_) | (refine arm_storeT infFa (.tmp 2) (.tmp 19) rfl rfl _ _ _ _ rfl rfl R.out rfl rfl (by simp [Value.oneCell']) ?_; intro w9 hb9 hs9))
          replace P := Lib.hid (P.out.st hs9 hlt.out)
          replace M := Lib.hid (M.out.trans (hs9.mv (Nat.le_refl _)))
          refine ret_T infFa Tryz.underlying68 rfl rfl _ _ _ _ _ rfl hb9 rfl ?_
          exact pst_ok HR.out.symm rfl P.out M.out
        · go_simp
          generalize hm : min v4 1099511627776 = m at *
          replace hm := Lib.hid hm
          refine hK.out _ _ trivial (fun hH => ?_)
          clear hK K
          refine held_only (i := 1) rfl (by kernel_rfl) rfl (fun K hK => ?_)
          have e1 := L.out.cell 1
          go_simp
          refine hK.out _ _ trivial (fun hH => ?_)
          clear hK K
          clear e1
          refine held_only (i := 5) rfl (by kernel_rfl) rfl (fun K hK => ?_)
          go_simp
          refine hK.out _ _ trivial (fun hH => ?_)
          clear hK K
          refine held_only (i := 6) rfl (by kernel_rfl) rfl (fun K hK => ?_)
          go_simp
          refine hK.out _ _ trivial (fun hH => ?_)
          clear hK K
          refine held_only (i := 7) rfl (by kernel_rfl) rfl (fun K hK => ?_)
          have e1 := L.out.cell 1
          have z1 := L.out.free 1
          go_simp
          have L2 := L.out.setCell 1 (.int .i64 (IntKind.i64.wrap (-m)))
          have L3 := Lib.hid (show Blk _ g 68 #[.string v1, .int .i64 (IntKind.i64.wrap (-m))] from L2.1)
          replace P := Lib.hid (P.out.st L2.2 (by have := hlt.out; have := hgw.out; omega))
          replace R := Lib.hid (R.out.st L2.2 (by have := hgw.out; omega))
          replace M := Lib.hid (M.out.trans (L2.2.mv (by have := hgw.out; omega)))
          replace L := L3
          replace HR := Lib.hid (show Rs.ok (v1, (IntKind.i64.wrap (-m))) l4 = r from by rw [← HR.out]; congr 2; simp)
          clear L2 L3 e1 z1
          refine hK.out _ _ trivial (fun hH => ?_)
          clear hK K
          refine wpAnyH_done (by kernel_rfl) ?_ _
          go_wp2_with (first | (refine arm_loadT infFa Tryz.underlying68 rfl (.tmp 3) rfl rfl _ _ _ rfl L.out rfl ?_) | (refine arm_storeT infFa (.tmp 2) (.tmp 19) rfl rfl _ _ _ _ rfl rfl R.out rfl rfl (by simp [Value.oneCell']) ?_; intro w9 hb9 hs9))
          replace P := Lib.hid (P.out.st hs9 hlt.out)
          replace M := Lib.hid (M.out.trans (hs9.mv (Nat.le_refl _)))
          refine ret_T infFa Tryz.underlying68 rfl rfl _ _ _ _ _ rfl hb9 rfl ?_
          exact pst_ok HR.out.symm rfl P.out M.out
end Go.Proofs.YtkgclmikhpjheaaGreatDoor.pa
namespace Go.Proofs.YtkgclmikhpjheaaGreatDoor.pa
open Go.RowKit dec

theorem own_mv {S B base : Nat} {w w' : World} {v : Value} {l : List un.Fa} (h : un.Own w base v l) (M : Mv S B w w') (hB : B < base) (hS : w.heap.size ≤ S) : un.Own w' base v l := by
  obtain ⟨h1, h2⟩ := h
  refine ⟨h1, ?_⟩
  rcases h2 with h0 | ⟨g, cap, cur, e, hbg, hh, r⟩
  · exact .inl h0
  · refine .inr ⟨g, cap, cur, e, hbg, ?_, r⟩
    have : g < w.heap.size := by
      rcases Nat.lt_or_ge g w.heap.size with h' | h'
      · exact h'
      · rw [Array.getElem?_eq_none h'] at hh; cases hh
    rw [M.block _ (by omega) (by omega)]
    exact hh
set_option maxRecDepth 100000 in
set_option maxHeartbeats 1000000 in
theorem listFa_r (B : Nat) (s : ByteArray) (l : List Tk) (w : World) (h : Ps w B l) (r : Rs (List un.Fa)) (hr : lst fac s l = r) (hne : r ≠ .out) :
    Calls Tryz.prog 157 #[.pointer (some ⟨B, 0, none⟩), .string s, .func (.func 158) #[.pointer (some ⟨B, 0, none⟩)] #[]] w (Pst B (fun C w v l => un.Own w C v l) r w) := by
  have P := Lib.hid h
  have hlt := Lib.hid h.lt
  have HL := Lib.hid h.tl.ln
  have M := Lib.hid (Mv.refl w.heap.size B w)
  have NE := Lib.hid hne
  unfold lst at hr
  have HR := Lib.hid hr
  clear h hne hr
  go_enter Tryz.func157, Tryz.ntmps157
  go_wp2_with fail
  refine (factor_r B l _ P.out _ rfl (fac_ne _)).mono ?_
  rintro e w1 h1
  rcases hG1 : fac l with _ | ⟨v1, l1⟩ | ⟨a1, c1, l1⟩
  · exact absurd hG1 (fac_ne _)
  rotate_left
  · rw [hG1] at h1
    obtain ⟨rfl, pp, mm⟩ := h1
    unfold thr
    have hno := Lib.hid (show r = .no a1 c1 l1 by rw [← HR.out, hG1]; rfl)
    have PP := Lib.hid pp
    have MM := Lib.hid (M.out.next mm)
    clear pp mm hG1
    go_wp2_with fail
    exact ⟨rfl, pst_no hno.out PP.out MM.out⟩
  rw [hG1] at h1
  obtain ⟨u1, rfl, vv, pp, mm⟩ := h1
  replace HR := HR.out
  rw [hG1] at HR
  simp only [bind_okE] at HR
  replace HR := Lib.hid HR
  obtain rfl : u1 = .agg #[.string v1.1, .int .i64 v1.2] := vv
  have M1 := Lib.hid (M.out.next mm)
  have hs1 := Lib.hid (mm.size)
  have P1 := Lib.hid pp
  replace hG1 := Lib.hid hG1
  clear pp mm M P
  have hlen := Lib.hid (show [v1].length + l1.length ≤ 1048576 from by have := fac_lt hG1.out; have := HL.out; simp only [List.length_singleton]; omega)
  go_wp2_with (at_builtin; refine un.is_app (.tmp 7) (.tmp 10) rfl ?_; refine un.wpList_push _ rfl (.tmp 7) (.tmp 10) rfl w.heap.size _ [] rfl (un.Own.nil _ _) w1.heap.size v1.1 v1.2 rfl (un.Bw.new w1 v1 68) (by decide) (by have := hs1.out; simp; omega) ?_; intro v2 w2 O2 b2)
  have b3 := (balloc (b0 w1) (.cells #[.string v1.1, .int .i64 v1.2] 68))
  have P2 := Lib.hid ((P1.out.keeps b3).keep (b2.mono (by have := hlt.out; omega)))
  have M2 := Lib.hid ((M1.out.nextB b3).trans (.of b2))
  replace O2 := Lib.hid O2
  clear b2 b3 P1 M1 hs1 hG1
  go_loopg [6] (l1.length + 1) (fun k v wr => ∃ (x : List un.Fa) (l' : List Tk), Hid (un.Own wr w.heap.size v x) ∧ Hid (Ps wr B l') ∧ Hid (Mv w.heap.size B w wr) ∧ Hid (more fac s k x l' = r) ∧ Hid (x.length + l'.length ≤ 1048576))
  case atStart => exact ⟨[v1], l1, O2, P2, M2, HR, hlen⟩
  case round =>
    clear O2 P2 M2 HR hlen
    obtain ⟨x, l', O, P, M, HR, hlen⟩ := hrel
    rcases gk with _ | gk
    · exact absurd HR.out.symm NE.out
    cases ht : isT s l'
    · have hok := Lib.hid (show Rs.ok x l' = r by rw [← HR.out]; unfold more; rw [ht]; rfl)
      have HT := Lib.hid ht
      clear ht HR
      go_wp2_with fail
      refine (skip_no B s l' _ P.out HT.out).mono ?_
      rintro e w3 ⟨rfl, pp, mm⟩
      have P3 := Lib.hid pp
      have O3 := Lib.hid (own_mv O.out mm hlt.out (Nat.le_refl _))
      have M3 := Lib.hid (M.out.next mm)
      clear pp mm P O M
      go_wp2_with fail
      go_ret
      exact pst_ok hok.out.symm O3.out P3.out M3.out
    · replace HR := HR.out
      unfold more at HR
      rw [ht, if_pos rfl] at HR
      replace HR := Lib.hid HR
      have htl := Lib.hid (tail_lt ht)
      have HT := Lib.hid ht
      clear ht
      go_wp2_with fail
      refine (skip_yes B s l' _ P.out HT.out).mono ?_
      rintro e w3 ⟨rfl, pp, mm⟩
      replace P := Lib.hid pp
      have O3 := Lib.hid (own_mv O.out mm hlt.out (Nat.le_refl _))
      have M3 := Lib.hid (M.out.next mm)
      clear pp mm O M
      go_wp2_with fail
      refine (factor_r B l'.tail _ P.out _ rfl (fac_ne _)).mono ?_
      rintro e w4 h1
      rcases hG1 : fac l'.tail with _ | ⟨v1, l1⟩ | ⟨a1, c1, l1⟩
      · exact absurd hG1 (fac_ne _)
      rotate_left
      · rw [hG1] at h1
        obtain ⟨rfl, pp, mm⟩ := h1
        unfold thr
        have hno := Lib.hid (show r = .no a1 c1 l1 by rw [← HR.out, hG1]; rfl)
        have PP := Lib.hid pp
        have MM := Lib.hid (M3.out.next mm)
        clear pp mm hG1
        go_wp2_with fail
        exact ⟨rfl, pst_no hno.out PP.out MM.out⟩
      rw [hG1] at h1
      obtain ⟨u1, rfl, vv, pp, mm⟩ := h1
      replace HR := HR.out
      rw [hG1] at HR
      simp only [bind_okE] at HR
      replace HR := Lib.hid HR
      obtain rfl : u1 = .agg #[.string v1.1, .int .i64 v1.2] := vv
      have hl2 := Lib.hid (fac_lt hG1)
      have O4 := Lib.hid (own_mv O3.out mm hlt.out (Nat.le_refl _))
      have M4 := Lib.hid (M3.out.next mm)
      have hxl := Lib.hid (show x.length < 5864062014805 from by have := hlen.out; omega)
      have hs1 := Lib.hid M4.out.size
      have P4 := Lib.hid pp
      clear pp mm hG1 M3 O3 P
      go_wp2_with (at_builtin; refine un.is_app (.tmp 15) (.tmp 18) rfl ?_; refine un.wpList_push _ rfl (.tmp 15) (.tmp 18) rfl w.heap.size _ x rfl (O4.out.keeps (balloc (b0 w4) _)) w4.heap.size v1.1 v1.2 rfl (un.Bw.new w4 v1 68) hxl.out (by have := hs1.out; simp; omega) ?_; intro v2 w2 O2 b2)
      have b3 := (balloc (b0 w4) (.cells #[.string v1.1, .int .i64 v1.2] 68))
      have P2 := Lib.hid ((P4.out.keeps b3).keep (b2.mono (by have := hlt.out; omega)))
      have M2 := Lib.hid ((M4.out.nextB b3).trans (.of b2))
      replace O2 := Lib.hid O2
      have hlen2 := Lib.hid (show (x ++ [v1]).length + l1.length ≤ 1048576 from by have := hlen.out; have := hl2.out; have := htl.out; rw [List.length_append, List.length_singleton]; omega)
      clear b2 b3
      go_wp2_with fail
      go_roundg gk
      case measure => omega
      case rel => exact ⟨x ++ [v1], l1, O2, P2, M2, HR, hlen2⟩
end Go.Proofs.YtkgclmikhpjheaaGreatDoor.pa
namespace Go.Proofs.YtkgclmikhpjheaaGreatDoor.pa
open Go.RowKit dec

theorem wrap_in (n : Int) : -9223372036854775808 ≤ IntKind.i64.wrap n ∧ IntKind.i64.wrap n ≤ 9223372036854775807 := by
  rw [IntKind.wrap_i64]
  omega
def Inx (x : un.Fa) : Prop := -9223372036854775808 ≤ x.2 ∧ x.2 ≤ 9223372036854775807
theorem fac_in {l r : List Tk} {v : un.Fa} (h : fac l = .ok v r) : Inx v := by
  obtain ⟨_, q, h1, h2⟩ := bind_ok h
  split at h2
  · split at h2
    · obtain ⟨_, q', h3, h4⟩ := bind_ok h2
      cases h4
      exact wrap_in _
    · obtain ⟨_, q', h3, h4⟩ := bind_ok h2
      cases h4
      exact wrap_in _
  · cases h2
    exact ⟨by show (-9223372036854775808 : Int) ≤ 1; decide, by show (1 : Int) ≤ 9223372036854775807; decide⟩
theorem more_in {α : Type} {one : List Tk → Rs α} {p : α → Prop} {s : ByteArray} (h1 : ∀ l v r, one l = .ok v r → p v ∧ r.length < l.length) : ∀ (f : Nat) (x : List α) (l : List Tk) (v : List α) (r : List Tk), (∀ y ∈ x, p y) → more one s f x l = .ok v r → (∀ y ∈ v, p y) ∧ v.length + r.length ≤ x.length + l.length
  | 0, _, _, _, _, _, h => by cases h
  | f + 1, x, l, v, r, hx, h => by
    unfold more at h
    split at h
    · rename_i t
      obtain ⟨y, q, h2, h3⟩ := bind_ok h
      obtain ⟨h4, h5⟩ := h1 _ _ _ h2
      have h6 := more_in h1 f _ _ _ _ (by intro z hz; rw [List.mem_append, List.mem_singleton] at hz; rcases hz with hz | rfl <;> first | exact hx _ hz | exact h4) h3
      have := tail_lt t
      refine ⟨h6.1, ?_⟩
      have h7 := h6.2
      rw [List.length_append, List.length_singleton] at h7
      omega
    · cases h
      exact ⟨hx, Nat.le_refl _⟩
theorem lst_in {l r : List Tk} {s : ByteArray} {v : List un.Fa} (h : lst fac s l = .ok v r) : (∀ y ∈ v, Inx y) ∧ v.length + r.length ≤ l.length := by
  obtain ⟨y, q, h2, h3⟩ := bind_ok h
  have := more_in (p := Inx) (fun l v r h => ⟨fac_in h, fac_lt h⟩) _ _ _ _ _ (by intro z hz; rw [List.mem_singleton] at hz; subst hz; exact fac_in h2) h3
  refine ⟨this.1, ?_⟩
  have h4 := this.2
  have := fac_lt h2
  rw [List.length_singleton] at h4
  omega
theorem us_of {base : Nat} {w : World} {v : Value} {l : List un.Fa} (h : un.Out base w v l) : Uv base w v l := by
  obtain ⟨a, cap, rfl, S, hf⟩ := h
  refine ⟨a, cap, rfl, ?_⟩
  rcases S.hat with h0 | ⟨b, off, rfl, hC⟩
  · exact .inl h0
  · exact .inr ⟨b, off, rfl, (hf _ rfl).1, hC, (hf _ rfl).2⟩
theorem Us.more {C C' : Nat} {w : World} {a : Option Addr} {l : List un.Fa} (h : Us C w a l) (hC : C' ≤ C) : Us C' w a l := h.less hC
theorem Uv.less {C C' : Nat} {w : World} {v : Value} {l : List un.Fa} (h : Uv C w v l) (hC : C' ≤ C) : Uv C' w v l := by
  obtain ⟨ua, uc, e, U⟩ := h
  exact ⟨ua, uc, e, U.less hC⟩
theorem mv_cell {B : Nat} {w w' : World} (M : Mv w.heap.size B w w') {b o : Nat} {v : Value} (hb : b ≠ B) (hc : w.cell? ⟨b, o, none⟩ = some v) : w'.cell? ⟨b, o, none⟩ = some v := (World.cell?_of_block (w := w) (M.block b (block_lt_of_cell hc) hb)).trans hc
theorem sl_kp {B : Nat} {w w' : World} {a : Option Addr} {n cap : Nat} {l : List un.Fa} {base : Nat} (h : un.Sl w a n cap l) (M : Mv w.heap.size B w w') (hB : B < base) (hf : ∀ x, a = some x → base ≤ x.block) : un.Sl w' a n cap l :=
  { h with hat := h.hat.imp id fun ⟨b, off, e, hC⟩ => ⟨b, off, e, fun j hj => ⟨mv_cell M (by have := hf _ e; simp only at this; omega) (hC j hj).1, mv_cell M (by have := hf _ e; simp only at this; omega) (hC j hj).2⟩⟩ }
theorem own_from {base : Nat} {w : World} {v : Value} {l : List un.Fa} (h : un.Own w base v l) : ∀ a n cap, v = .slice a n cap → ∀ x, a = some x → base ≤ x.block := by
  intro a n cap hv x hx
  rcases h.out with ⟨rfl, _⟩ | ⟨g, c, rfl, hb, _⟩
  · cases hv
    cases hx
  · cases hv
    cases hx
    exact hb
set_option maxRecDepth 100000 in
set_option maxHeartbeats 1000000 in
theorem unit_r (B : Nat) (l : List Tk) (w : World) (h : Ps w B l) (r : Rs (List un.Fa)) (hr : uni l = r) (hne : r ≠ .out) :
    Calls Tryz.prog 103 #[.pointer (some ⟨B, 0, none⟩)] w (Pst B Uv r w) := by
  have P := Lib.hid h
  have M := Lib.hid (Mv.refl w.heap.size B w)
  have NE := Lib.hid hne
  unfold uni at hr
  have HR := Lib.hid hr
  clear h hne hr
  have C1 := Lib.hid (now_any B l w P.out)
  have F1 := tf2
  have F2 := mi_prob
  cases ht : isT ⟨#[91]⟩ l
  · replace HR := HR.out
    rw [ht, if_neg (by decide)] at HR
    replace HR := Lib.hid HR
    have HT := Lib.hid ht
    clear ht
    go_enter Tryz.func103, Tryz.ntmps103
    go_wp2_with fail
    refine (C1.out).mono ?_
    rintro e w1 ⟨rfl, b⟩
    have mm := Mv.of (B := B) b
    replace M := Lib.hid (M.out.next mm)
    replace P := Lib.hid (P.out.keeps b)
    clear mm b
    go_wp2_with fail
    refine (skip_no B ⟨#[91]⟩ l w1 P.out HT.out).mono ?_
    rintro e w2 ⟨rfl, pp, mm⟩
    replace M := Lib.hid (M.out.next mm)
    replace P := Lib.hid pp
    clear pp mm
    go_wp2_with fail
    go_ret
    exact pst_ok HR.out.symm ⟨none, 0, rfl, Us.nil _ _ _⟩ P.out M.out
  · replace HR := HR.out
    rw [ht, if_pos rfl] at HR
    replace HR := Lib.hid HR
    have HT := Lib.hid ht
    clear ht
    generalize (hd l).k = xk at *
    generalize (hd l).t = xt at *
    generalize (hd l).a = xa at *
    go_enter Tryz.func103, Tryz.ntmps103
    go_wp2_with fail
    refine (C1.out).mono ?_
    rintro e w1 ⟨rfl, b⟩
    have mm := Mv.of (B := B) b
    replace M := Lib.hid (M.out.next mm)
    replace P := Lib.hid (P.out.keeps b)
    clear mm b
    go_wp2_with fail
    refine (skip_yes B ⟨#[91]⟩ l w1 P.out HT.out).mono ?_
    rintro e w2 ⟨rfl, pp, mm⟩
    replace M := Lib.hid (M.out.next mm)
    replace P := Lib.hid pp
    clear pp mm
    have HL := Lib.hid P.out.tl.ln
    have hlt2 := Lib.hid P.out.lt
    go_wp2_with fail
    refine (listFa_r B ⟨#[42]⟩ l.tail _ P.out _ rfl (lst_ne (fun _ _ _ => fac_lt) fac_ne _)).mono ?_
    rintro e w3 h3
    rcases hG3 : lst fac ⟨#[42]⟩ l.tail with _ | ⟨v3, l3⟩ | ⟨a3, c3, l3⟩
    · exact absurd (by rw [← HR.out, hG3]; rfl) NE.out
    rotate_left
    · rw [hG3] at h3
      obtain ⟨rfl, pp, mm⟩ := h3
      unfold thr
      have hno := Lib.hid (show r = .no a3 c3 l3 by rw [← HR.out, hG3]; rfl)
      have PP := Lib.hid pp
      have MM := Lib.hid (M.out.next mm)
      clear pp mm hG3
      go_wp2_with fail
      exact ⟨rfl, pst_no hno.out PP.out MM.out⟩
    rw [hG3] at h3
    obtain ⟨u3, rfl, vv, pp, mm⟩ := h3
    replace HR := HR.out
    rw [hG3] at HR
    simp only [bind_okE] at HR
    replace HR := Lib.hid HR
    replace M := Lib.hid (M.out.next mm)
    replace P := Lib.hid pp
    clear pp mm
    have hin := Lib.hid (lst_in hG3)
    clear hG3
    have V3 := Lib.hid vv
    clear vv
    have hlt3 := Lib.hid (show B < w2.heap.size from hlt2.out)
    have hfr0 := own_from V3.out
    obtain ⟨ua, uc, rfl, S3⟩ := V3.out.sl
    have hfr := Lib.hid (fun x hx => hfr0 ua _ uc rfl x hx)
    clear hfr0
    replace V3 := Lib.hid S3
    clear S3
    go_wp2_with fail
    refine (need_any B ⟨#[93]⟩ l3 _ P.out).mono ?_
    rintro e w4 h4
    rcases hG4 : need ⟨#[93]⟩ l3 with _ | ⟨v4, l4⟩ | ⟨a4, c4, l4⟩
    · exact absurd (by rw [← HR.out, hG4]; rfl) NE.out
    rotate_left
    · rw [hG4] at h4
      obtain ⟨rfl, pp, mm⟩ := h4
      unfold thr
      have hno := Lib.hid (show r = .no a4 c4 l4 by rw [← HR.out, hG4]; rfl)
      have PP := Lib.hid pp
      have MM := Lib.hid (M.out.next mm)
      clear pp mm hG4
      go_wp2_with fail
      exact ⟨rfl, pst_no hno.out PP.out MM.out⟩
    rw [hG4] at h4
    obtain ⟨u4, rfl, vv, pp, mm⟩ := h4
    replace HR := HR.out
    rw [hG4] at HR
    simp only [bind_okE] at HR
    replace HR := Lib.hid HR
    replace M := Lib.hid (M.out.next mm)
    replace V3 := Lib.hid (sl_kp V3.out mm hlt3.out hfr.out)
    replace P := Lib.hid pp
    clear pp mm hG4
    obtain rfl : u4 = .tuple #[] := vv
    go_wp2_with fail
    refine (un.normal_any ua v3.length uc v3 w4 V3.out (fun x hx => hin.out.1 x hx) (by have := hin.out.2; have := HL.out; omega)).mono ?_
    have HR' := HR.out
    rintro e w5 ⟨u5, rfl, U5, b5⟩
    have P5 := Lib.hid (P.out.keeps b5)
    have hsz := Lib.hid (M.out.size)
    have M5 := Lib.hid (M.out.nextB b5)
    have U6 := Lib.hid (Uv.less (us_of U5) hsz.out)
    clear b5 U5
    by_cases hz : un.nE v3 = 0
    · have q1 : (un.nE v3 != 0) = false := by simp [hz]
      rw [if_pos hz] at HR'
      have HR2 := Lib.hid HR'
      clear HR' hz
      generalize un.nE v3 = ne at *
      go_wp2_with fail
      go_ret
      exact pst_ok HR2.out.symm U6.out P5.out M5.out
    · have q1 : (un.nE v3 != 0) = true := by simp [hz]
      rw [if_neg hz] at HR'
      have HR2 := Lib.hid HR'
      clear HR' hz
      generalize un.nE v3 = ne at *
      go_wp2_with fail
      exact ⟨rfl, pst_no HR2.out.symm P5.out M5.out⟩
end Go.Proofs.YtkgclmikhpjheaaGreatDoor.pa
