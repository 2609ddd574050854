/-
  Expressions as plain data and in memory; sizes; equal types.
-/
import Derived.Laws.Rows
import Derived.Laws.Tables
import Derived.BigRegion
import Derived.BigQuiet
import Derived.Test.YtbkpjhffmaldmaaGreatDoorQ01
import Derived.Test.YtbkpjhffmaldmaaGreatDoorQ02
import Derived.Test.YtbkpjhffmaldmaaGreatDoorQ03
namespace Go.Proofs.YtbkpjhffmaldmaaGreatDoor.ch
open Go.RowKit dec

/-- What an expression holds besides its arguments. -/
structure Hd where
  k : Int
  op : ByteArray
  nm : ByteArray
  tb : ByteArray
  vk : Int
  vn : Int
  vs : ByteArray
  un : List un.Fa
  pa : Int
  wk : Int
  ws : Int
/-- A row of expressions. -/
inductive Fo where
  | nil
  | cons (h : Hd) (ar r : Fo)
def Fo.len : Fo → Nat
  | .nil => 0
  | .cons _ _ r => r.len + 1
structure Ex where
  h : Hd
  ar : Fo
structure Ty where
  k : Int
  un : List un.Fa
  of : ByteArray
structure Fi where
  nm : ByteArray
  ty : Ty
structure Tb where
  nm : ByteArray
  en : ByteArray
  fs : List Fi
  kp : Int
structure Fe where
  nm : ByteArray
  en : ByteArray
  ty : Ty
  bo : Ex
  vr : Int
def h0 : Hd := ⟨0, .empty, .empty, .empty, 0, 0, .empty, [], 0, 0, 0⟩
def t0 : Ty := ⟨0, [], .empty⟩
def Fo.nth : Fo → Nat → Ex
  | .nil, _ => ⟨h0, .nil⟩
  | .cons h ar _, 0 => ⟨h, ar⟩
  | .cons _ _ r, j + 1 => r.nth j
def Fo.drop : Fo → Nat → Fo
  | F, 0 => F
  | .nil, _ + 1 => .nil
  | .cons _ _ r, j + 1 => r.drop j
def Fo.sz : Fo → Nat
  | .nil => 0
  | .cons _ ar r => ar.sz + r.sz + 1
theorem nth_sz : ∀ (F : Fo) (j : Nat), j < F.len → (F.nth j).ar.sz < F.sz
  | .nil, _, h => absurd h (Nat.not_lt_zero _)
  | .cons h ar r, 0, _ => by
    simp only [Fo.nth, Fo.sz]
    omega
  | .cons h ar r, j + 1, hj => by
    have := nth_sz r j (by simpa [Fo.len] using hj)
    simp only [Fo.nth, Fo.sz]
    omega
theorem drop_nth : ∀ (F : Fo) (j : Nat), j < F.len → F.drop j = .cons (F.nth j).h (F.nth j).ar (F.drop (j + 1))
  | .nil, _, h => absurd h (Nat.not_lt_zero _)
  | .cons h ar .nil, 0, _ => rfl
  | .cons h ar (.cons a b c), 0, _ => rfl
  | .cons h ar r, j + 1, hj => by
    have := drop_nth r j (by simpa [Fo.len] using hj)
    simpa [Fo.nth, Fo.drop] using this
theorem drop_end : ∀ (F : Fo) (j : Nat), F.len ≤ j → F.drop j = .nil
  | .nil, 0, _ => rfl
  | .nil, _ + 1, _ => rfl
  | .cons h ar r, 0, hj => by simp [Fo.len] at hj
  | .cons h ar r, j + 1, hj => by
    have := drop_end r j (by simpa [Fo.len] using hj)
    simpa [Fo.drop] using this
theorem drop_zero (F : Fo) : F.drop 0 = F := by cases F <;> rfl

/-! Sizes. -/
def szA : Fo → Int → Int
  | .nil, n => n
  | .cons _ ar r, n => szA r (wrap64 (n + szA ar 1))
def szE (x : Ex) : Int := szA x.ar 1
def dpA : Fo → Int → Int
  | .nil, n => n
  | .cons _ ar r, n => dpA r (max n (wrap64 (dpA ar 0 + 1)))
def dpE (x : Ex) : Int := wrap64 (dpA x.ar 0 + 1)

/-! Types and tables. -/
def okU (u : List un.Fa) : Bool := decide (un.ck u = 0) && u.all fun f => name f.1
def num (t : Ty) : Bool := decide (t.k = 2) || decide (t.k = 3)
def tyE (t : Ty) : Int :=
  if t.k < 1 ∨ 5 < t.k then 3
  else if t.k = 5 ∧ name t.of = false then 3
  else if t.k ≠ 5 ∧ t.of ≠ .empty then 3
  else if num t = false ∧ 0 < t.un.length then 3
  else if okU t.un = true then 0 else 70
def fiE (bef : List Fi) (f : Fi) : Int := if name f.nm = false then 3 else if bef.any (fun g => decide (g.nm = f.nm)) = true then 121 else tyE f.ty
def fsE : List Fi → List Fi → Int
  | _, [] => 0
  | bef, f :: r => if fiE bef f = 0 then fsE (bef ++ [f]) r else fiE bef f
def tbE (t : Tb) : Int :=
  if name t.nm = false then 3 else if name t.en = false then 3 else if t.kp < 0 then 3 else if 1099511627776 < t.kp then 3
  else if 8 < t.fs.length then 2 else fsE [] t.fs

/-! Proper form. -/
def same (h g : Hd) : Bool :=
  decide (h.op = g.op) && (decide (h.nm = g.nm) && (decide (h.tb = g.tb) && ((decide (h.vk = g.vk) && (decide (h.vn = g.vn) && decide (h.vs = g.vs))) && (decide (h.un = g.un) && (decide (h.pa = g.pa) && (decide (h.wk = g.wk) && decide (h.ws = g.ws)))))))
def litH (h : Hd) : Bool :=
  decide (ck ⟨h.vk, h.vn, h.vs⟩ = 0) && (decide (0 ≤ h.vn) && (decide (tyE ⟨h.vk, h.un, h.nm⟩ = 0) && same h { h0 with nm := h.nm, vk := h.vk, vn := h.vn, vs := h.vs, un := h.un }))
def namH (h : Hd) : Bool := name h.nm && same h { h0 with nm := h.nm }
def parH (op : ByteArray) (p : Int) : Bool :=
  if op = ⟨#[99, 111, 117, 110, 116]⟩ ∨ op = ⟨#[115, 117, 109]⟩ ∨ op = ⟨#[109, 101, 97, 110]⟩ ∨ op = ⟨#[109, 105, 110]⟩ ∨ op = ⟨#[109, 97, 120]⟩ ∨ op = ⟨#[102, 105, 114, 115, 116]⟩ ∨ op = ⟨#[108, 97, 115, 116]⟩ ∨ op = ⟨#[100, 105, 115, 116, 105, 110, 99, 116]⟩ then decide (p = 0)
  else if op = ⟨#[113, 117, 97, 110, 116, 105, 108, 101]⟩ then decide (1 ≤ p) && decide (p ≤ 1000)
  else if op = ⟨#[100, 101, 99, 97, 121]⟩ then decide (1 ≤ p) && decide (p ≤ 1073741824)
  else false
def winH (k n : Int) : Bool :=
  if k = 1 then decide (n = 0) else if k = 2 ∨ k = 3 ∨ k = 4 then decide (1 ≤ n) && decide (n ≤ 1099511627776) else false
def truH (h : Hd) : Bool := decide (h.k = 1) && (decide (h.vk = 1) && (decide (h.vn = 1) && decide (h.vs = .empty)))
def aggH (h : Hd) : Bool := name h.tb && (parH h.op h.pa && (winH h.wk h.ws && same h { h0 with op := h.op, tb := h.tb, pa := h.pa, wk := h.wk, ws := h.ws }))
def unaO (op : ByteArray) : Bool := decide (op = ⟨#[45]⟩) || (decide (op = ⟨#[110, 111, 116]⟩) || decide (op = ⟨#[110, 117, 108, 108]⟩))
def binO (op : ByteArray) : Bool := [(⟨#[43]⟩ : ByteArray), ⟨#[45]⟩, ⟨#[42]⟩, ⟨#[47]⟩, ⟨#[61, 61]⟩, ⟨#[33, 61]⟩, ⟨#[60]⟩, ⟨#[60, 61]⟩, ⟨#[97, 110, 100]⟩, ⟨#[111, 114]⟩].any fun t => decide (op = t)
/-- An expression's own rule, in its place; n: the number of its arguments; g: the first of them. -/
def nodE (i : Bool) (h : Hd) (n : Nat) (g : Hd) : Bool :=
  if h.k = 1 then litH h && decide (n = 0)
  else if h.k = 2 then i && (namH h && decide (n = 0))
  else if h.k = 3 then !i && (namH h && decide (n = 0))
  else if h.k = 4 then !i && (namH h && decide (n = 1))
  else if h.k = 5 then !i && (aggH h && (decide (n = 2) && (!decide (h.op = ⟨#[99, 111, 117, 110, 116]⟩) || truH g)))
  else if h.k = 6 then unaO h.op && (same h { h0 with op := h.op } && decide (n = 1))
  else if h.k = 7 then binO h.op && (same h { h0 with op := h.op } && decide (n = 2))
  else if h.k = 8 then same h h0 && decide (n = 3)
  else if h.k = 9 then same h h0 && decide (n = 2)
  else false
def fmA (i : Bool) : Fo → Bool
  | .nil => true
  | .cons h ar r => nodE i h ar.len (ar.nth 0).h && (fmA (i || decide (h.k = 5)) ar && fmA i r)
def fmE (i : Bool) (x : Ex) : Bool := nodE i x.h x.ar.len (x.ar.nth 0).h && fmA (i || decide (x.h.k = 5)) x.ar
def shE (x : Ex) : Int := if 64 < szE x ∨ 12 < dpE x then 2 else if fmE false x = true then 0 else 3

/-! Types of expressions. -/
def sameT (a b : Ty) : Bool := decide (a.k = b.k) && (decide (a.un = b.un) && decide (a.of = b.of))
def difT (a b : Ty) : Int := if a.k ≠ b.k then 5 else if a.of ≠ b.of then 5 else if a.un = b.un then 0 else 70
def tyR (t : Ty) : Int × Ty := (0, t)
def noR (e : Int) : Int × Ty := (e, t0)
def ifR (b : Bool) (e : Int) (t : Ty) : Int × Ty := if b = true then (0, t) else (e, t0)
def boolT : Ty := ⟨1, [], .empty⟩
def fldT (fs : List Fi) (n : ByteArray) : Int × Ty :=
  match fs.find? fun f => decide (f.nm = n) with
  | none => noR 4
  | some f => tyR f.ty
def feaT (gs : List Fe) (en n : ByteArray) : Int × Ty :=
  match gs.find? fun f => decide (f.nm = n) with
  | none => noR 4
  | some f => if f.en = en then tyR f.ty else noR 5
def aggO (op : ByteArray) (t : Ty) : Bool :=
  if op = ⟨#[115, 117, 109]⟩ ∨ op = ⟨#[109, 101, 97, 110]⟩ ∨ op = ⟨#[113, 117, 97, 110, 116, 105, 108, 101]⟩ ∨ op = ⟨#[100, 101, 99, 97, 121]⟩ then num t
  else if op = ⟨#[109, 105, 110]⟩ ∨ op = ⟨#[109, 97, 120]⟩ then num t || decide (t.k = 4) else true
def aggT (op : ByteArray) (a c : Ty) : Int × Ty :=
  if c.k ≠ 1 then noR 5 else if aggO op a = false then noR 5
  else if op = ⟨#[99, 111, 117, 110, 116]⟩ ∨ op = ⟨#[100, 105, 115, 116, 105, 110, 99, 116]⟩ then tyR ⟨2, [], .empty⟩
  else if op = ⟨#[109, 101, 97, 110]⟩ ∨ op = ⟨#[100, 101, 99, 97, 121]⟩ then tyR ⟨3, a.un, .empty⟩
  else tyR a
def unaT (op : ByteArray) (a : Ty) : Int × Ty :=
  if op = ⟨#[45]⟩ ∧ num a = false then noR 5 else if op = ⟨#[110, 111, 116]⟩ ∧ a.k ≠ 1 then noR 5 else if op = ⟨#[45]⟩ then tyR a else tyR boolT
def calU (op : ByteArray) (a b : List un.Fa) : Int × List un.Fa :=
  if op = ⟨#[42]⟩ then (un.cE 1 a b, un.cL 1 a b) else if op = ⟨#[47]⟩ then (un.cE (-1) a b, un.cL (-1) a b) else if a = b then (0, a) else (70, [])
def calT (op : ByteArray) (a b : Ty) : Int × Ty :=
  if num a = false then noR 5 else if num b = false then noR 5
  else if (calU op a.un b.un).1 ≠ 0 then noR 70
  else if op ≠ ⟨#[47]⟩ ∧ a.k = 2 ∧ b.k = 2 then tyR ⟨2, (calU op a.un b.un).2, .empty⟩ else tyR ⟨3, (calU op a.un b.un).2, .empty⟩
def cmpT (op : ByteArray) (a b : Ty) : Int :=
  if op = ⟨#[97, 110, 100]⟩ ∨ op = ⟨#[111, 114]⟩ then (if a.k = 1 ∧ b.k = 1 then 0 else 5)
  else if num a = true ∧ num b = true then (if a.un = b.un then 0 else 70)
  else if op = ⟨#[60]⟩ ∨ op = ⟨#[60, 61]⟩ then (if a.k = 4 ∧ b.k = 4 then 0 else 5)
  else if difT a b = 0 then 0 else 5
def binT (op : ByteArray) (a b : Ty) : Int × Ty :=
  if op = ⟨#[43]⟩ ∨ op = ⟨#[45]⟩ ∨ op = ⟨#[42]⟩ ∨ op = ⟨#[47]⟩ then calT op a b
  else if cmpT op a b = 0 then tyR boolT else noR (cmpT op a b)
def comT (a b : Ty) : Int × Ty := if difT a b = 0 then tyR a else noR (difT a b)
/-- The rule of an expression whose arguments have types. -/
def rulT (gs : List Fe) (en : ByteArray) (fl : List Fi) (h : Hd) (l : List Ty) : Int × Ty :=
  if h.k = 1 then tyR ⟨h.vk, h.un, h.nm⟩
  else if h.k = 2 then fldT fl h.nm
  else if h.k = 3 then feaT gs en h.nm
  else if h.k = 4 then (if (l.getD 0 t0).k = 5 then feaT gs (l.getD 0 t0).of h.nm else noR 5)
  else if h.k = 5 then aggT h.op (l.getD 0 t0) (l.getD 1 t0)
  else if h.k = 6 then unaT h.op (l.getD 0 t0)
  else if h.k = 7 then binT h.op (l.getD 0 t0) (l.getD 1 t0)
  else if h.k = 8 then (if (l.getD 0 t0).k = 1 then comT (l.getD 1 t0) (l.getD 2 t0) else noR 5)
  else comT (l.getD 0 t0) (l.getD 1 t0)
/-- The table of an aggregate. -/
def inT (ts : List Tb) (en n : ByteArray) : Int × List Fi :=
  match ts.find? fun t => decide (t.nm = n) with
  | none => (4, [])
  | some t => if t.en = en then (0, t.fs) else (5, [])
/-- The types of a row of expressions, up to the first error. -/
def infL (ts : List Tb) (gs : List Fe) (en : ByteArray) : Fo → List Fi → Int × List Ty
  | .nil, _ => (0, [])
  | .cons h ar r, fl =>
    let f := if h.k = 5 then inT ts en h.tb else (0, fl)
    let a := if f.1 = 0 then infL ts gs en ar f.2 else (f.1, [])
    let t := if a.1 = 0 then rulT gs en fl h a.2 else noR a.1
    if t.1 = 0 then ((infL ts gs en r fl).1, if (infL ts gs en r fl).1 = 0 then t.2 :: (infL ts gs en r fl).2 else []) else (t.1, [])
/-- The type of an expression of proper form. -/
def infE (ts : List Tb) (gs : List Fe) (en : ByteArray) (fl : List Fi) (x : Ex) : Int × Ty :=
  let f := if x.h.k = 5 then inT ts en x.h.tb else (0, fl)
  let a := if f.1 = 0 then infL ts gs en x.ar f.2 else (f.1, [])
  if a.1 = 0 then rulT gs en fl x.h a.2 else noR a.1
theorem infL_cons (ts : List Tb) (gs : List Fe) (en : ByteArray) (h : Hd) (ar r : Fo) (fl : List Fi) :
    infL ts gs en (.cons h ar r) fl = if (infE ts gs en fl ⟨h, ar⟩).1 = 0 then ((infL ts gs en r fl).1, if (infL ts gs en r fl).1 = 0 then (infE ts gs en fl ⟨h, ar⟩).2 :: (infL ts gs en r fl).2 else []) else ((infE ts gs en fl ⟨h, ar⟩).1, []) := rfl
/-- checker.Infer -/
def inf (ts : List Tb) (gs : List Fe) (en : ByteArray) (x : Ex) : Int × Ty := if shE x = 0 then infE ts gs en [] x else noR (shE x)
/-- checker.Feature -/
def feE (ts : List Tb) (gs : List Fe) (f : Fe) : Int :=
  if name f.nm = false then 3 else if name f.en = false then 3 else if f.vr < 0 then 3
  else if tyE f.ty ≠ 0 then tyE f.ty
  else if (inf ts gs f.en f.bo).1 ≠ 0 then (inf ts gs f.en f.bo).1 else difT (inf ts gs f.en f.bo).2 f.ty
end Go.Proofs.YtbkpjhffmaldmaaGreatDoor.ch
namespace Go.Proofs.YtbkpjhffmaldmaaGreatDoor.ch
open Go.RowKit dec

theorem range_keeps {w w' : World} {b o : Nat} {cs : List Value} (h : w.rangeAt b o cs) (hb : Below w.heap.size w w') : w'.rangeAt b o cs := fun j v hv => dec.keeps hb (h j v hv)
theorem yield_loadM {T : TypeId} {n : Nat} {d : TypeDesc} (hi : (Tryz.prog.info? T).map (·.size) = some n) (hu : Tryz.prog.underlying T = some d) (hd : d.isRow = true) {oi : Oper} {a : Act} {w : World} (x : Operand) (ho : oi.op = .load T x)
    (b o : Nat) (cells : Array Value) (hx : a.eval x = .pointer (some ⟨b, o, none⟩)) (hR : w.rangeAt b o cells.toList) (hc : cells.size = n) : (execOp a.eval oi).run Tryz.prog w = .ok (.value (.agg cells)) w := by
  unfold execOp
  have := run_loadVar_mid (P := Tryz.prog) w b o T cells.toList d hR hu hd (by rw [Array.length_toList, hc]; exact hi)
  simp only [ho, hx, Instr.loadAt, Instr.sureAddr, Sem.run_bind, Sem.run_pure, Result.andThen_ok, this, Array.toArray_toList]

/-! A slice of rows that is read. -/
structure Rw {α : Type} (sz : Nat) (V : World → Array Value → α → Prop) (w : World) (a : Option Addr) (n cap : Nat) (l : List α) : Prop where
  hat : l.length = 0 ∨ ∃ b off, a = some ⟨b, off, none⟩ ∧ ∀ j (h : j < l.length), ∃ cs : Array Value, cs.size = sz ∧ w.rangeAt b (off + j * sz) cs.toList ∧ V w cs l[j]
  hn : l.length = n
  hcap : n ≤ cap
  hmax : cap ≤ 9223372036854775807
  hno : a = none → cap = 0
theorem Rw.keeps {α : Type} {sz : Nat} {V : World → Array Value → α → Prop} (hV : ∀ (w w' : World) (cs : Array Value) (x : α), V w cs x → Below w.heap.size w w' → V w' cs x) {w w' : World} {a : Option Addr} {n cap : Nat} {l : List α}
    (h : Rw sz V w a n cap l) (hb : Below w.heap.size w w') : Rw sz V w' a n cap l :=
  { h with hat := h.hat.imp id fun ⟨b, off, e, hA⟩ => ⟨b, off, e, fun j hj => by
      obtain ⟨cs, h1, h2, h3⟩ := hA j hj
      exact ⟨cs, h1, range_keeps h2 hb, hV _ _ _ _ h3 hb⟩⟩ }
theorem Rw.nil {α : Type} (sz : Nat) (V : World → Array Value → α → Prop) (w : World) : Rw sz V w none 0 0 [] := ⟨.inl rfl, rfl, Nat.le_refl _, by omega, fun _ => rfl⟩

/-! The cells of values. -/
def tyC (t : Ty) (ua : Option Addr) (uc : Nat) : Array Value := #[.int .i64 t.k, .slice ua t.un.length uc, .string t.of]
def TyV (w : World) (cs : Array Value) (t : Ty) : Prop := ∃ ua uc, cs = tyC t ua uc ∧ un.Sl w ua t.un.length uc t.un
theorem TyV.keeps {w w' : World} {cs : Array Value} {t : Ty} (h : TyV w cs t) (hb : Below w.heap.size w w') : TyV w' cs t := by
  obtain ⟨ua, uc, e, S⟩ := h
  exact ⟨ua, uc, e, S.keeps hb⟩
def fiC (f : Fi) (ua : Option Addr) (uc : Nat) : Array Value := #[.string f.nm, .int .i64 f.ty.k, .slice ua f.ty.un.length uc, .string f.ty.of]
def FiV (w : World) (cs : Array Value) (f : Fi) : Prop := ∃ ua uc, cs = fiC f ua uc ∧ un.Sl w ua f.ty.un.length uc f.ty.un
theorem FiV.keeps {w w' : World} {cs : Array Value} {f : Fi} (h : FiV w cs f) (hb : Below w.heap.size w w') : FiV w' cs f := by
  obtain ⟨ua, uc, e, S⟩ := h
  exact ⟨ua, uc, e, S.keeps hb⟩
abbrev Fis := Rw 4 FiV
def tbC (t : Tb) (a : Option Addr) (c : Nat) : Array Value := #[.string t.nm, .string t.en, .slice a t.fs.length c, .int .i64 t.kp]
def TbV (w : World) (cs : Array Value) (t : Tb) : Prop := ∃ a c, cs = tbC t a c ∧ Fis w a t.fs.length c t.fs
theorem Fis.keeps {w w' : World} {a : Option Addr} {n cap : Nat} {l : List Fi} (h : Fis w a n cap l) (hb : Below w.heap.size w w') : Fis w' a n cap l := Rw.keeps (V := FiV) (fun _ _ _ _ h hb => h.keeps hb) h hb
theorem TbV.keeps {w w' : World} {cs : Array Value} {t : Tb} (h : TbV w cs t) (hb : Below w.heap.size w w') : TbV w' cs t := by
  obtain ⟨a, c, e, S⟩ := h
  exact ⟨a, c, e, Fis.keeps S hb⟩
abbrev Tbs' := Rw 4 TbV
theorem Tbs'.keeps {w w' : World} {a : Option Addr} {n cap : Nat} {l : List Tb} (h : Tbs' w a n cap l) (hb : Below w.heap.size w w') : Tbs' w' a n cap l := Rw.keeps (V := TbV) (fun _ _ _ _ h hb => h.keeps hb) h hb

/-! Expressions. -/
def exC (h : Hd) (n : Nat) (ua : Option Addr) (uc : Nat) (aa : Option Addr) (ac : Nat) : Array Value :=
  #[.int .i64 h.k, .string h.op, .string h.nm, .string h.tb, .int .i64 h.vk, .int .i64 h.vn, .string h.vs, .slice ua h.un.length uc, .int .i64 h.pa, .int .i64 h.wk, .int .i64 h.ws, .slice aa n ac]
/-- The cells from an address on are a row of expressions. -/
def FoV (w : World) : Fo → Nat → Nat → Prop
  | .nil, _, _ => True
  | .cons h ar r, b, off => (∃ ua uc aa ac, w.rangeAt b off (exC h ar.len ua uc aa ac).toList ∧ un.Sl w ua h.un.length uc h.un ∧ (ar.len ≤ ac ∧ ac ≤ 9223372036854775807 ∧ (aa = none → ac = 0)) ∧ (ar.len = 0 ∨ ∃ b' off', aa = some ⟨b', off', none⟩ ∧ FoV w ar b' off')) ∧ FoV w r b (off + 12)
theorem FoV.keeps {w w' : World} (hb : Below w.heap.size w w') : ∀ (F : Fo) (b off : Nat), FoV w F b off → FoV w' F b off
  | .nil, _, _, _ => trivial
  | .cons h ar r, b, off, hF => by
    obtain ⟨⟨ua, uc, aa, ac, N, U, hc, A⟩, R⟩ := hF
    exact ⟨⟨ua, uc, aa, ac, range_keeps N hb, U.keeps hb, hc, A.imp id fun ⟨b', off', e, hF'⟩ => ⟨b', off', e, FoV.keeps hb ar b' off' hF'⟩⟩, FoV.keeps hb r b (off + 12) R⟩
/-- A slice of expressions. -/
structure Fs (w : World) (a : Option Addr) (n cap : Nat) (F : Fo) : Prop where
  hat : F.len = 0 ∨ ∃ b off, a = some ⟨b, off, none⟩ ∧ FoV w F b off
  hn : F.len = n
  hcap : n ≤ cap
  hmax : cap ≤ 9223372036854775807
  hno : a = none → cap = 0
theorem Fs.keeps {w w' : World} {a : Option Addr} {n cap : Nat} {F : Fo} (h : Fs w a n cap F) (hb : Below w.heap.size w w') : Fs w' a n cap F :=
  { h with hat := h.hat.imp id fun ⟨b, off, e, hA⟩ => ⟨b, off, e, FoV.keeps hb F b off hA⟩ }
theorem Fs.nil (w : World) : Fs w none 0 0 .nil := ⟨.inl rfl, rfl, Nat.le_refl _, by omega, fun _ => rfl⟩
/-- What an expression's value refers to. -/
structure Ec (w : World) (x : Ex) (ua : Option Addr) (uc : Nat) (aa : Option Addr) (ac : Nat) : Prop where
  us : un.Sl w ua x.h.un.length uc x.h.un
  ar : Fs w aa x.ar.len ac x.ar
theorem Ec.keeps {w w' : World} {x : Ex} {ua : Option Addr} {uc : Nat} {aa : Option Addr} {ac : Nat} (h : Ec w x ua uc aa ac) (hb : Below w.heap.size w w') : Ec w' x ua uc aa ac := ⟨h.us.keeps hb, h.ar.keeps hb⟩
def ExV (w : World) (cs : Array Value) (x : Ex) : Prop := ∃ ua uc aa ac, cs = exC x.h x.ar.len ua uc aa ac ∧ Ec w x ua uc aa ac
theorem ExV.keeps {w w' : World} {cs : Array Value} {x : Ex} (h : ExV w cs x) (hb : Below w.heap.size w w') : ExV w' cs x := by
  obtain ⟨ua, uc, aa, ac, e, S⟩ := h
  exact ⟨ua, uc, aa, ac, e, S.keeps hb⟩
theorem fo_at {w : World} : ∀ (F : Fo) (b off j : Nat), FoV w F b off → j < F.len → ∃ ua uc aa ac, w.rangeAt b (off + j * 12) (exC (F.nth j).h (F.nth j).ar.len ua uc aa ac).toList ∧ Ec w (F.nth j) ua uc aa ac
  | .nil, _, _, _, _, h => absurd h (Nat.not_lt_zero _)
  | .cons h ar r, b, off, 0, hF, _ => by
    obtain ⟨⟨ua, uc, aa, ac, N, U, hc, A⟩, R⟩ := hF
    exact ⟨ua, uc, aa, ac, by simpa [Fo.nth] using N, U, ⟨A, rfl, hc.1, hc.2.1, hc.2.2⟩⟩
  | .cons h ar r, b, off, j + 1, hF, hj => by
    have := fo_at r b (off + 12) j hF.2 (by simpa [Fo.len] using hj)
    rw [show off + (j + 1) * 12 = off + 12 + j * 12 by omega]
    exact this
theorem fo_of {w : World} (b : Nat) : ∀ (F : Fo) (off : Nat), (∀ j, j < F.len → ∃ ua uc aa ac, w.rangeAt b (off + j * 12) (exC (F.nth j).h (F.nth j).ar.len ua uc aa ac).toList ∧ Ec w (F.nth j) ua uc aa ac) → FoV w F b off
  | .nil, _, _ => trivial
  | .cons h ar r, off, hF => by
    refine ⟨?_, fo_of b r (off + 12) fun j hj => ?_⟩
    · obtain ⟨ua, uc, aa, ac, N, E⟩ := hF 0 (by simp [Fo.len])
      exact ⟨ua, uc, aa, ac, by simpa [Fo.nth] using N, E.us, ⟨E.ar.hcap, E.ar.hmax, E.ar.hno⟩, E.ar.hat⟩
    · have := hF (j + 1) (by simpa [Fo.len] using hj)
      rw [show off + (j + 1) * 12 = off + 12 + j * 12 by omega] at this
      exact this
/-- The element of a slice of expressions. -/
theorem Fs.at {w : World} {a : Option Addr} {n cap : Nat} {F : Fo} (h : Fs w a n cap F) {j : Nat} (hj : j < F.len) : ∃ b off ua uc aa ac, a = some ⟨b, off, none⟩ ∧ w.rangeAt b (off + j * 12) (exC (F.nth j).h (F.nth j).ar.len ua uc aa ac).toList ∧ Ec w (F.nth j) ua uc aa ac := by
  obtain ⟨b, off, e, hF⟩ := h.hat.resolve_left (by omega)
  obtain ⟨ua, uc, aa, ac, h1, h2⟩ := fo_at F b off j hF hj
  exact ⟨b, off, ua, uc, aa, ac, e, h1, h2⟩

/-! Features and catalogs. -/
def feC (f : Fe) (ta : Option Addr) (tc : Nat) (ua : Option Addr) (uc : Nat) (aa : Option Addr) (ac : Nat) : Array Value :=
  #[.string f.nm, .string f.en, .int .i64 f.ty.k, .slice ta f.ty.un.length tc, .string f.ty.of,
    .int .i64 f.bo.h.k, .string f.bo.h.op, .string f.bo.h.nm, .string f.bo.h.tb, .int .i64 f.bo.h.vk, .int .i64 f.bo.h.vn, .string f.bo.h.vs, .slice ua f.bo.h.un.length uc, .int .i64 f.bo.h.pa, .int .i64 f.bo.h.wk, .int .i64 f.bo.h.ws, .slice aa f.bo.ar.len ac, .int .i64 f.vr]
def FeV (w : World) (cs : Array Value) (f : Fe) : Prop := ∃ ta tc ua uc aa ac, cs = feC f ta tc ua uc aa ac ∧ un.Sl w ta f.ty.un.length tc f.ty.un ∧ Ec w f.bo ua uc aa ac
theorem FeV.keeps {w w' : World} {cs : Array Value} {f : Fe} (h : FeV w cs f) (hb : Below w.heap.size w w') : FeV w' cs f := by
  obtain ⟨ta, tc, ua, uc, aa, ac, e, S, E⟩ := h
  exact ⟨ta, tc, ua, uc, aa, ac, e, S.keeps hb, E.keeps hb⟩
abbrev Fes := Rw 18 FeV
theorem Fes.keeps {w w' : World} {a : Option Addr} {n cap : Nat} {l : List Fe} (h : Fes w a n cap l) (hb : Below w.heap.size w w') : Fes w' a n cap l := Rw.keeps (V := FeV) (fun _ _ _ _ h hb => h.keeps hb) h hb
/-- The value of a catalog; d, p: its drafts and past, which nobody reads. -/
def caC (ta : Option Addr) (tn tc : Nat) (ga : Option Addr) (gn gc : Nat) (d p : Value) : Array Value := #[.slice ta tn tc, .slice ga gn gc, d, p]
structure Ct (w : World) (ta : Option Addr) (tn tc : Nat) (ga : Option Addr) (gn gc : Nat) (ts : List Tb) (gs : List Fe) : Prop where
  t : Tbs' w ta tn tc ts
  g : Fes w ga gn gc gs
theorem Ct.keeps {w w' : World} {ta : Option Addr} {tn tc : Nat} {ga : Option Addr} {gn gc : Nat} {ts : List Tb} {gs : List Fe} (h : Ct w ta tn tc ga gn gc ts gs) (hb : Below w.heap.size w w') : Ct w' ta tn tc ga gn gc ts gs := ⟨Tbs'.keeps h.t hb, Fes.keeps h.g hb⟩
end Go.Proofs.YtbkpjhffmaldmaaGreatDoor.ch
namespace Go.Proofs.YtbkpjhffmaldmaaGreatDoor.ch
open Go.RowKit dec

/-- Nothing but the block g has changed. -/
structure St (g : Nat) (w w' : World) : Prop where
  os : w'.os = w.os
  tape : w'.tape = w.tape
  output : w'.output = w.output
  size : w'.heap.size = w.heap.size
  block : ∀ k, k ≠ g → w'.heap[k]? = w.heap[k]?
theorem St.below {g S : Nat} {w w' : World} (h : St g w w') (hS : S ≤ g) : Below S w w' := ⟨h.os, h.tape, h.output, Nat.le_of_eq h.size.symm, fun k hk => h.block k (by omega)⟩
/-- A block with its cells. -/
def Blk (w : World) (g : Nat) (T : TypeId) (cs : Array Value) : Prop := w.heap[g]? = some (.cells cs T (0, 0))
theorem Blk.lt {w : World} {g : Nat} {T : TypeId} {cs : Array Value} (h : Blk w g T cs) : g < w.heap.size := by
  rcases Nat.lt_or_ge g w.heap.size with h' | h'
  · exact h'
  · unfold Blk at h
    rw [Array.getElem?_eq_none h'] at h
    cases h
theorem Blk.new (w : World) (T : TypeId) (cs : Array Value) : Blk (w.alloc (.cells cs T)) w.heap.size T cs := Go.heap_alloc_new w _
theorem Blk.past {w : World} {g : Nat} {T : TypeId} {cs : Array Value} (h : Blk w g T cs) (o : Obj) : Blk (w.alloc o) g T cs := (Go.heap_alloc_old w o h.lt).trans h
theorem Blk.below {S : Nat} {w w' : World} {g : Nat} {T : TypeId} {cs : Array Value} (h : Blk w g T cs) (M : Below S w w') (hS : g < S) : Blk w' g T cs := (M.block g hS).trans h
theorem Blk.st {k g : Nat} {w w' : World} {T : TypeId} {cs : Array Value} (h : Blk w g T cs) (M : St k w w') (hn : g ≠ k) : Blk w' g T cs := (M.block g hn).trans h
theorem Blk.cell {w : World} {g : Nat} {T : TypeId} {cs : Array Value} (h : Blk w g T cs) (j : Nat) : w.cell? ⟨g, j, none⟩ = cs[j]? := cell_of_row w g j cs T (0, 0) h
theorem Blk.free {w : World} {g : Nat} {T : TypeId} {cs : Array Value} (h : Blk w g T cs) (j : Nat) : w.frozen? ⟨g, j, none⟩ = false := by
  unfold Blk at h
  simp [World.frozen?, h]
theorem Blk.setCell {w : World} {g : Nat} {T : TypeId} {cs : Array Value} (h : Blk w g T cs) (j : Nat) (v : Value) : Blk (w.setCell ⟨g, j, none⟩ v) g T (cs.setIfInBounds j v) ∧ St g w (w.setCell ⟨g, j, none⟩ v) := by
  refine ⟨?_, rfl, rfl, rfl, by simp [World.setCell], fun k hk => Below.heap_setCell w ⟨g, j, none⟩ v k hk⟩
  unfold Blk at *
  simp [World.setCell, Array.getElem?_modify, h]
theorem setRow_st (w : World) (g : Nat) (cs : Array Value) : St g w (w.setRow g cs) := by
  refine ⟨rfl, rfl, rfl, by simp [World.setRow], fun k hk => ?_⟩
  simp only [World.setRow, Array.getElem?_modify]
  rw [if_neg (fun e => hk e.symm)]
theorem setRow_blk {w : World} {g : Nat} {T : TypeId} {old : Array Value} (h : Blk w g T old) (cs : Array Value) : Blk (w.setRow g cs) g T cs := by
  unfold Blk at *
  simp [World.setRow, Array.getElem?_modify, h]

def rowD : TypeDesc → Bool
  | .struct _ => true
  | .array _ _ => true
  | _ => false
theorem arm_storeT {T : TypeId} {n : Nat} (hi : (Tryz.prog.info? T).map (·.size) = some n) {ops : Array Oper} {rest : List Oper} {o : Oper} {a : Act} {w : World} {Q : Exit → Act → World → Prop} (x y : Operand) (ho : o.op = .store T x y) (hgd : o.guard = none)
    (g : Nat) (T' : TypeId) (cells old : Array Value) (hx : a.eval x = .pointer (some ⟨g, 0, none⟩)) (hy : a.eval y = .agg cells) (hB : Blk w g T' old) (hs : old.size = n) (hc : cells.size = n) (h1 : cells.all (·.oneCell') = true)
    (h : ∀ w', Blk w' g T' cells → St g w w' → wpList Tryz.prog ops Q rest (a.put o.dst undef) w') : wpList Tryz.prog ops Q (o :: rest) a w :=
  wpList_store_row hgd T x y ho g cells hx hy T' old hB (by rw [hc]; exact hi) (by omega) h1 (h _ (setRow_blk hB cells) (setRow_st w g cells))
theorem arm_loadT {T : TypeId} {n : Nat} {d : TypeDesc} (hi : (Tryz.prog.info? T).map (·.size) = some n) (hu : Tryz.prog.underlying T = some d) (hd : rowD d = true)
    {ops : Array Oper} {rest : List Oper} {o : Oper} {a : Act} {w : World} {Q : Exit → Act → World → Prop} (x : Operand) (ho : o.op = .load T x) (hgd : o.guard = none)
    (g : Nat) (T' : TypeId) (cells : Array Value) (hx : a.eval x = .pointer (some ⟨g, 0, none⟩)) (hB : Blk w g T' cells) (hc : cells.size = n)
    (h : wpList Tryz.prog ops Q rest (a.put o.dst (.agg cells)) w) : wpList Tryz.prog ops Q (o :: rest) a w :=
  wpList_load_row hgd T x ho g hx T' cells (0, 0) d hB hu (by cases d <;> first | rfl | cases hd) (by rw [hc]; exact hi) h
/-- The end of a function whose result lies in a variable. -/
theorem ret_T {T : TypeId} {n : Nat} {d : TypeDesc} (hi : (Tryz.prog.info? T).map (·.size) = some n) (hu : Tryz.prog.underlying T = some d) (hd : rowD d = true)
    {fn : Func} {R : Ending → World → Prop} {p : Tmp} (h : fn.results = #[.cell p T]) (tmps : Array Value) (w : World) (g : Nat) (T' : TypeId) (cells : Array Value) (hp : tmps.getD p undef = .pointer (some ⟨g, 0, none⟩))
    (hB : Blk w g T' cells) (hc : cells.size = n) (hR : R (.returned (.agg cells)) w) : bodyPost Tryz.prog fn R .ret ⟨tmps, []⟩ w :=
  bodyPost_ret (results_cell_row h tmps w g T' cells (0, 0) d hp hB hu (by cases d <;> first | rfl | cases hd) (by rw [hc]; exact hi)) rfl hR
theorem yield_load {T : TypeId} {n : Nat} {d : TypeDesc} (hi : (Tryz.prog.info? T).map (·.size) = some n) (hu : Tryz.prog.underlying T = some d) (hd : rowD d = true) {oi : Oper} {a : Act} {w : World} (x : Operand) (ho : oi.op = .load T x)
    (g : Nat) (T' : TypeId) (cells : Array Value) (hx : a.eval x = .pointer (some ⟨g, 0, none⟩)) (hB : Blk w g T' cells) (hc : cells.size = n) : (execOp a.eval oi).run Tryz.prog w = .ok (.value (.agg cells)) w := by
  unfold execOp
  have := run_loadVar_row (P := Tryz.prog) w g T' T cells (0, 0) d hB hu (by cases d <;> first | rfl | cases hd) (by rw [hc]; exact hi)
  simp only [ho, hx, Instr.loadAt, Instr.sureAddr, Sem.run_bind, Sem.run_pure, Result.andThen_ok, this]
theorem ret_T2 {T : TypeId} {n : Nat} {d : TypeDesc} (hi : (Tryz.prog.info? T).map (·.size) = some n) (hu : Tryz.prog.underlying T = some d) (hd : rowD d = true)
    {fn : Func} {R : Ending → World → Prop} {p t : Tmp} (h : fn.results = #[.cell p T, .tmp t]) (tmps : Array Value) (w : World) (g : Nat) (T' : TypeId) (cells : Array Value) (hp : tmps.getD p undef = .pointer (some ⟨g, 0, none⟩))
    (hB : Blk w g T' cells) (hc : cells.size = n) (hR : R (.returned (.tuple #[.agg cells, tmps.getD t undef])) w) : bodyPost Tryz.prog fn R .ret ⟨tmps, []⟩ w := by
  refine bodyPost_ret ?_ rfl hR
  have hp' : tmps[p]?.getD undef = .pointer (some ⟨g, 0, none⟩) := by simpa using hp
  have hL := run_loadVar_row (P := Tryz.prog) w g T' T cells (0, 0) d hB hu (by cases d <;> first | rfl | cases hd) (by rw [hc]; exact hi)
  simp [results, h, hp', asAddr, hL]
theorem infX : (Tryz.prog.info? 29).map (·.size) = some 12 := by kernel_rfl
theorem infTy : (Tryz.prog.info? 36).map (·.size) = some 3 := by kernel_rfl
theorem infFi : (Tryz.prog.info? 79).map (·.size) = some 4 := by kernel_rfl
theorem infTb : (Tryz.prog.info? 39).map (·.size) = some 4 := by kernel_rfl
theorem infFe : (Tryz.prog.info? 54).map (·.size) = some 18 := by kernel_rfl
theorem infCa : (Tryz.prog.info? 46).map (·.size) = some 4 := by kernel_rfl
theorem infFa : (Tryz.prog.info? 66).map (·.size) = some 2 := by kernel_rfl
theorem infVa : (Tryz.prog.info? 23).map (·.size) = some 3 := by kernel_rfl
theorem infWi : (Tryz.prog.info? 26).map (·.size) = some 2 := by kernel_rfl
theorem Blk.keeps {w w' : World} {g : Nat} {T : TypeId} {cs : Array Value} (h : Blk w g T cs) (b : Below w.heap.size w w') : Blk w' g T cs := h.below b h.lt
theorem Blk.drew {w : World} {g : Nat} {T : TypeId} {cs : Array Value} (h : Blk w g T cs) : Blk w.drew g T cs := h
/-- The load of a value out of the midst of a row. -/
theorem arm_mid {T : TypeId} {n : Nat} {d : TypeDesc} (hi : (Tryz.prog.info? T).map (·.size) = some n) (hu : Tryz.prog.underlying T = some d) (hd : d.isRow = true) {ops : Array Oper} {rest : List Oper} {o : Oper} {a : Act} {w : World} {Q : Exit → Act → World → Prop} (x : Operand) (ho : o.op = .load T x) (hgd : o.guard = none)
    (b off : Nat) (cells : Array Value) (hx : a.eval x = .pointer (some ⟨b, off, none⟩)) (hR : w.rangeAt b off cells.toList) (hc : cells.size = n)
    (h : wpList Tryz.prog ops Q rest (a.put o.dst (.agg cells)) w) : wpList Tryz.prog ops Q (o :: rest) a w :=
  wpList_load_mid hgd T x ho b off hx cells.toList d hR hu hd (by rw [Array.length_toList, hc]; exact hi) (by rw [Array.toArray_toList]; exact h)
theorem arm_loadG {T : TypeId} {n : Nat} {d : TypeDesc} (hi : (Tryz.prog.info? T).map (·.size) = some n) (hu : Tryz.prog.underlying T = some d) (hd : rowD d = true)
    {ops : Array Oper} {rest : List Oper} {o : Oper} {a : Act} {w : World} {Q : Exit → Act → World → Prop} (x : Operand) (ho : o.op = .load T x) (hgd : Region.wanted o (yielded ops a.tmps) = true)
    (g : Nat) (T' : TypeId) (cells : Array Value) (hx : a.eval x = .pointer (some ⟨g, 0, none⟩)) (hB : Blk w g T' cells) (hc : cells.size = n)
    (h : wpList Tryz.prog ops Q rest (a.put o.dst (.agg cells)) w) : wpList Tryz.prog ops Q (o :: rest) a w := by
  refine wpList_step fun K hK => ?_
  rw [if_pos hgd]
  exact wp_load_row T x ho g hx T' cells (0, 0) d hB hu (by cases d <;> first | rfl | cases hd) (by rw [hc]; exact hi) (hK _ _ h)
theorem arm_midG {T : TypeId} {n : Nat} {d : TypeDesc} (hi : (Tryz.prog.info? T).map (·.size) = some n) (hu : Tryz.prog.underlying T = some d) (hd : d.isRow = true) {ops : Array Oper} {rest : List Oper} {o : Oper} {a : Act} {w : World} {Q : Exit → Act → World → Prop} (x : Operand) (ho : o.op = .load T x) (hgd : Region.wanted o (yielded ops a.tmps) = true)
    (b off : Nat) (cells : Array Value) (hx : a.eval x = .pointer (some ⟨b, off, none⟩)) (hR : w.rangeAt b off cells.toList) (hc : cells.size = n)
    (h : wpList Tryz.prog ops Q rest (a.put o.dst (.agg cells)) w) : wpList Tryz.prog ops Q (o :: rest) a w := by
  refine wpList_step fun K hK => ?_
  rw [if_pos hgd]
  exact wp_load_mid T x ho b off hx cells.toList d hR hu hd (by rw [Array.length_toList, hc]; exact hi) (hK _ _ (by rw [Array.toArray_toList]; exact h))
theorem exC_size (h : Hd) (n : Nat) (ua : Option Addr) (uc : Nat) (aa : Option Addr) (ac : Nat) : (exC h n ua uc aa ac).size = 12 := rfl
theorem exC_one (h : Hd) (n : Nat) (ua : Option Addr) (uc : Nat) (aa : Option Addr) (ac : Nat) : (exC h n ua uc aa ac).all (·.oneCell') = true := by simp [exC, Value.oneCell']
end Go.Proofs.YtbkpjhffmaldmaaGreatDoor.ch
namespace Go.Proofs.YtbkpjhffmaldmaaGreatDoor.ch
open Go.RowKit dec

/-- What a function that returns a number does. -/
def Num (n : Int) (w : World) (e : Ending) (w' : World) : Prop := e = .returned (.int .i64 n) ∧ Below w.heap.size w w'
theorem next_at {j : Nat} (h : j < 9223372036854775807) : wrap64 ((j : Int) + 1) = ((j + 1 : Nat) : Int) := by unfold wrap64; omega
theorem less_at {n j : Nat} (h : j < n) {x : Int} (hx : x = ((j + 1 : Nat) : Int)) : n - (intOf (Value.int .i64 x)).toNat < n - (intOf (Value.int .i64 ((j : Nat) : Int))).toNat := by
  subst hx
  simp only [intOf, Int.toNat_natCast]
  omega
theorem szA_at {F : Fo} {j : Nat} (h : j < F.len) (n : Int) : szA (F.drop j) n = szA (F.drop (j + 1)) (wrap64 (n + szE (F.nth j))) := by
  rw [drop_nth F j h]
  rfl
theorem dpA_at {F : Fo} {j : Nat} (h : j < F.len) (n : Int) : dpA (F.drop j) n = dpA (F.drop (j + 1)) (max n (dpE (F.nth j))) := by
  rw [drop_nth F j h]
  rfl
theorem max_ways (x y : Int) : (if x < y then y else x) = max x y := by omega
set_option maxRecDepth 100000 in
set_option maxHeartbeats 4000000 in
theorem size_step (n : Nat) (IH : ∀ (x : Ex) (ua aa : Option Addr) (uc ac : Nat) (w : World), x.ar.sz < n → Fs w aa x.ar.len ac x.ar → Calls Tryz.prog 14 #[.agg (exC x.h x.ar.len ua uc aa ac)] w (Num (szE x) w))
    (x : Ex) (ua aa : Option Addr) (uc ac : Nat) (w : World) (hz : x.ar.sz = n) (hA : Fs w aa x.ar.len ac x.ar) : Calls Tryz.prog 14 #[.agg (exC x.h x.ar.len ua uc aa ac)] w (Num (szE x) w) := by
  have A1 := Lib.hid hA
  have IH' := Lib.hid IH
  have HZ := Lib.hid hz
  have hS := Lib.hid (show szE x = szA (x.ar.drop 0) 1 by rw [drop_zero]; rfl)
  have hlen := hA.hcap
  have hmax := hA.hmax
  have hL := Lib.hid (show x.ar.len ≤ 9223372036854775807 by omega)
  clear hA IH hz hlen hmax
  unfold exC
  go_enter Tryz.func14, Tryz.ntmps14
  go_wp2_with fail
  go_loopw [2, 8] (fun vn vi wr => ∃ (j : Nat) (m : Int), vn = .int .i64 m ∧ vi = .int .i64 (j : Nat) ∧ Hid (j ≤ x.ar.len) ∧ Hid (szE x = szA (x.ar.drop j) m) ∧ Hid (Below w.heap.size w wr)) (fun _ vi _ => x.ar.len - (intOf vi).toNat)
  case atStart => exact ⟨0, 1, rfl, rfl, Lib.hid (Nat.zero_le _), hS, Lib.hid (balloc (b0 w) _)⟩
  case round =>
    clear hS
    obtain ⟨j, m, rfl, rfl, hj, hS, hb⟩ := hrel
    by_cases hlt : j < x.ar.len
    · have q1 : decide ((j : Int) < (x.ar.len : Int)) = true := decide_eq_true (by omega)
      obtain ⟨bk, off, va, vc, wa, wc, rfl, R1, E1⟩ := (A1.out.keeps hb.out).at hlt
      replace hS := Lib.hid (hS.out.trans (szA_at hlt m))
      have f4 := Lib.hid (next_at (j := j) (by have := hL.out; omega))
      have hsz := Lib.hid (nth_sz x.ar j hlt)
      have i1 : (j : Int) < (x.ar.len : Int) := by omega
      replace E1 := Lib.hid E1
      replace R1 := Lib.hid R1
      clear A1 hj
      generalize hy : x.ar.nth j = y at *
      go_wp2_with (first | (refine arm_mid infX Tryz.underlying29 rfl (.tmp 10) rfl rfl bk (off + j * 12) (exC y.h y.ar.len va vc wa wc) rfl R1.out rfl ?_) | (refine arm_storeT infX (.tmp 4) (.tmp 11) rfl rfl _ _ _ _ rfl rfl (Blk.new _ _ _) rfl rfl (exC_one _ _ _ _ _ _) ?_; intro w5 L5 hs5; have bb5 := (balloc (b0 wr) _).trans (hs5.below (Nat.le_refl _))) | (refine arm_loadT infX Tryz.underlying29 rfl (.tmp 4) rfl rfl _ _ _ rfl L5 rfl ?_))
      have B5 := Lib.hid (hb.out.trans (bb5.mono hb.out.size))
      have E5 := Lib.hid (E1.out.keeps bb5)
      clear bb5 hs5 L5 R1 E1
      refine (IH'.out y va wa vc wc w5 (by have := hsz.out; have := HZ.out; omega) E5.out.ar).mono ?_
      rintro e w6 ⟨rfl, b6⟩
      have B6 := Lib.hid (bnext B5.out b6)
      clear b6 B5 E5 hb
      go_wp2_with fail
      exact ⟨⟨j + 1, _, rfl, congrArg (Value.int .i64) f4.out, Lib.hid hlt, hS, B6⟩, less_at hlt f4.out⟩
    · have q1 : decide ((j : Int) < (x.ar.len : Int)) = false := decide_eq_false (by omega)
      replace hS := Lib.hid (show szE x = m by rw [hS.out, drop_end _ _ (by omega)]; rfl)
      clear A1 hj
      go_wp2_with fail
      go_ret
      exact ⟨by rw [hS.out]; rfl, hb.out⟩
theorem size_any (x : Ex) (ua aa : Option Addr) (uc ac : Nat) (w : World) (hA : Fs w aa x.ar.len ac x.ar) : Calls Tryz.prog 14 #[.agg (exC x.h x.ar.len ua uc aa ac)] w (Num (szE x) w) := by
  have key : ∀ n, ∀ (x : Ex) (ua aa : Option Addr) (uc ac : Nat) (w : World), x.ar.sz < n → Fs w aa x.ar.len ac x.ar → Calls Tryz.prog 14 #[.agg (exC x.h x.ar.len ua uc aa ac)] w (Num (szE x) w) := by
    intro n
    induction n with
    | zero => intro x ua aa uc ac w h; exact absurd h (Nat.not_lt_zero _)
    | succ n ih =>
      intro x ua aa uc ac w h hA
      exact size_step x.ar.sz (fun x' ua' aa' uc' ac' w' h' => ih x' ua' aa' uc' ac' w' (by omega)) x ua aa uc ac w rfl hA
  exact key _ x ua aa uc ac w (Nat.lt_succ_self _) hA
set_option maxRecDepth 100000 in
set_option maxHeartbeats 4000000 in
theorem depth_step (n : Nat) (IH : ∀ (x : Ex) (ua aa : Option Addr) (uc ac : Nat) (w : World), x.ar.sz < n → Fs w aa x.ar.len ac x.ar → Calls Tryz.prog 16 #[.agg (exC x.h x.ar.len ua uc aa ac)] w (Num (dpE x) w))
    (x : Ex) (ua aa : Option Addr) (uc ac : Nat) (w : World) (hz : x.ar.sz = n) (hA : Fs w aa x.ar.len ac x.ar) : Calls Tryz.prog 16 #[.agg (exC x.h x.ar.len ua uc aa ac)] w (Num (dpE x) w) := by
  have A1 := Lib.hid hA
  have IH' := Lib.hid IH
  have HZ := Lib.hid hz
  have hS := Lib.hid (show dpA x.ar 0 = dpA (x.ar.drop 0) 0 by rw [drop_zero])
  have hlen := hA.hcap
  have hmax := hA.hmax
  have hL := Lib.hid (show x.ar.len ≤ 9223372036854775807 by omega)
  clear hA IH hz hlen hmax
  unfold exC
  go_enter Tryz.func16, Tryz.ntmps16
  go_wp2_with fail
  go_loopw [2, 8] (fun vn vi wr => ∃ (j : Nat) (m : Int), vn = .int .i64 m ∧ vi = .int .i64 (j : Nat) ∧ Hid (j ≤ x.ar.len) ∧ Hid (dpA x.ar 0 = dpA (x.ar.drop j) m) ∧ Hid (Below w.heap.size w wr)) (fun _ vi _ => x.ar.len - (intOf vi).toNat)
  case atStart => exact ⟨0, 0, rfl, rfl, Lib.hid (Nat.zero_le _), hS, Lib.hid (balloc (b0 w) _)⟩
  case round =>
    clear hS
    obtain ⟨j, m, rfl, rfl, hj, hS, hb⟩ := hrel
    by_cases hlt : j < x.ar.len
    · have q1 : decide ((j : Int) < (x.ar.len : Int)) = true := decide_eq_true (by omega)
      obtain ⟨bk, off, va, vc, wa, wc, rfl, R1, E1⟩ := (A1.out.keeps hb.out).at hlt
      replace hS := Lib.hid (hS.out.trans (dpA_at hlt m))
      have f4 := Lib.hid (next_at (j := j) (by have := hL.out; omega))
      have hsz := Lib.hid (nth_sz x.ar j hlt)
      have i1 : (j : Int) < (x.ar.len : Int) := by omega
      replace E1 := Lib.hid E1
      replace R1 := Lib.hid R1
      clear A1 hj
      generalize hy : x.ar.nth j = y at *
      go_wp2_with (first | (refine arm_mid infX Tryz.underlying29 rfl (.tmp 10) rfl rfl bk (off + j * 12) (exC y.h y.ar.len va vc wa wc) rfl R1.out rfl ?_) | (refine arm_storeT infX (.tmp 4) (.tmp 11) rfl rfl _ _ _ _ rfl rfl (Blk.new _ _ _) rfl rfl (exC_one _ _ _ _ _ _) ?_; intro w5 L5 hs5; have bb5 := (balloc (b0 wr) _).trans (hs5.below (Nat.le_refl _))) | (refine arm_loadT infX Tryz.underlying29 rfl (.tmp 4) rfl rfl _ _ _ rfl L5 rfl ?_))
      have B5 := Lib.hid (hb.out.trans (bb5.mono hb.out.size))
      have E5 := Lib.hid (E1.out.keeps bb5)
      clear bb5 hs5 L5 R1 E1
      refine (IH'.out y va wa vc wc w5 (by have := hsz.out; have := HZ.out; omega) E5.out.ar).mono ?_
      rintro e w6 ⟨rfl, b6⟩
      have B6 := Lib.hid (bnext B5.out b6)
      have mx := max_ways m (dpE y)
      clear b6 B5 E5 hb
      go_wp2_with fail
      exact ⟨⟨j + 1, _, rfl, congrArg (Value.int .i64) f4.out, Lib.hid hlt, hS, B6⟩, less_at hlt f4.out⟩
    · have q1 : decide ((j : Int) < (x.ar.len : Int)) = false := decide_eq_false (by omega)
      replace hS := Lib.hid (show dpE x = wrap64 (m + 1) by unfold dpE; rw [hS.out, drop_end _ _ (by omega)]; rfl)
      clear A1 hj
      go_wp2_with fail
      go_ret
      exact ⟨by rw [hS.out]; rfl, hb.out⟩
theorem depth_any (x : Ex) (ua aa : Option Addr) (uc ac : Nat) (w : World) (hA : Fs w aa x.ar.len ac x.ar) : Calls Tryz.prog 16 #[.agg (exC x.h x.ar.len ua uc aa ac)] w (Num (dpE x) w) := by
  have key : ∀ n, ∀ (x : Ex) (ua aa : Option Addr) (uc ac : Nat) (w : World), x.ar.sz < n → Fs w aa x.ar.len ac x.ar → Calls Tryz.prog 16 #[.agg (exC x.h x.ar.len ua uc aa ac)] w (Num (dpE x) w) := by
    intro n
    induction n with
    | zero => intro x ua aa uc ac w h; exact absurd h (Nat.not_lt_zero _)
    | succ n ih =>
      intro x ua aa uc ac w h hA
      exact depth_step x.ar.sz (fun x' ua' aa' uc' ac' w' h' => ih x' ua' aa' uc' ac' w' (by omega)) x ua aa uc ac w rfl hA
  exact key _ x ua aa uc ac w (Nat.lt_succ_self _) hA
set_option maxRecDepth 100000 in
set_option maxHeartbeats 4000000 in
theorem rsize_step (n : Nat) (IH : ∀ (x : Ex) (ua aa : Option Addr) (uc ac : Nat) (w : World), x.ar.sz < n → Fs w aa x.ar.len ac x.ar → Calls Tryz.prog 15 #[.agg (exC x.h x.ar.len ua uc aa ac)] w (Num (szE x) w))
    (x : Ex) (ua aa : Option Addr) (uc ac : Nat) (w : World) (hz : x.ar.sz = n) (hA : Fs w aa x.ar.len ac x.ar) : Calls Tryz.prog 15 #[.agg (exC x.h x.ar.len ua uc aa ac)] w (Num (szE x) w) := by
  have A1 := Lib.hid hA
  have IH' := Lib.hid IH
  have HZ := Lib.hid hz
  have hS := Lib.hid (show szE x = szA (x.ar.drop 0) 1 by rw [drop_zero]; rfl)
  have hlen := hA.hcap
  have hmax := hA.hmax
  have hL := Lib.hid (show x.ar.len ≤ 9223372036854775807 by omega)
  clear hA IH hz hlen hmax
  unfold exC
  go_enter Tryz.func15, Tryz.ntmps15
  go_wp2_with fail
  go_loopw [3, 4] (fun vn vi wr => ∃ (j : Nat) (m : Int), vn = .int .i64 m ∧ vi = .int .i64 (j : Nat) ∧ Hid (j ≤ x.ar.len) ∧ Hid (szE x = szA (x.ar.drop j) m) ∧ Hid (Below w.heap.size w wr) ∧ Hid (Blk wr w.heap.size 29 (exC x.h x.ar.len ua uc aa ac))) (fun _ vi _ => x.ar.len - (intOf vi).toNat)
  case atStart => exact ⟨0, 1, rfl, rfl, Lib.hid (Nat.zero_le _), hS, Lib.hid (balloc (b0 w) _), Lib.hid (Blk.new w 29 (exC x.h x.ar.len ua uc aa ac))⟩
  case round =>
    clear hS
    obtain ⟨j, m, rfl, rfl, hj, hS, hb, G⟩ := hrel
    have g11 := G.out.cell 11
    simp only [exC, List.getElem?_toArray, List.getElem?_cons_zero, List.getElem?_cons_succ] at g11
    by_cases hlt : j < x.ar.len
    · have q1 : decide ((j : Int) < (x.ar.len : Int)) = true := decide_eq_true (by omega)
      obtain ⟨bk, off, va, vc, wa, wc, rfl, R1, E1⟩ := (A1.out.keeps hb.out).at hlt
      replace hS := Lib.hid (hS.out.trans (szA_at hlt m))
      have f4 := Lib.hid (next_at (j := j) (by have := hL.out; omega))
      have hsz := Lib.hid (nth_sz x.ar j hlt)
      have i1 : (j : Int) < (x.ar.len : Int) := by omega
      replace E1 := Lib.hid E1
      replace R1 := Lib.hid R1
      clear A1 hj
      generalize hy : x.ar.nth j = y at *
      go_wp2_with (first | (refine arm_mid infX Tryz.underlying29 rfl (.tmp 16) rfl rfl bk (off + j * 12) (exC y.h y.ar.len va vc wa wc) rfl R1.out rfl ?_))
      have B5 := hb
      have E5 := E1
      clear R1 E1
      refine (IH'.out y va wa vc wc wr (by have := hsz.out; have := HZ.out; omega) E5.out.ar).mono ?_
      rintro e w6 ⟨rfl, b6⟩
      have B6 := Lib.hid (bnext B5.out b6)
      have G6 := Lib.hid (G.out.keeps b6)
      have g11b := G6.out.cell 11
      clear g11b
      clear b6 B5 E5 hb
      go_wp2_with fail
      exact ⟨⟨j + 1, _, rfl, congrArg (Value.int .i64) f4.out, Lib.hid hlt, hS, B6, G6⟩, less_at hlt f4.out⟩
    · have q1 : decide ((j : Int) < (x.ar.len : Int)) = false := decide_eq_false (by omega)
      replace hS := Lib.hid (show szE x = m by rw [hS.out, drop_end _ _ (by omega)]; rfl)
      clear A1 hj
      go_wp2_with fail
      go_ret
      exact ⟨by rw [hS.out]; rfl, hb.out⟩
theorem rsize_any (x : Ex) (ua aa : Option Addr) (uc ac : Nat) (w : World) (hA : Fs w aa x.ar.len ac x.ar) : Calls Tryz.prog 15 #[.agg (exC x.h x.ar.len ua uc aa ac)] w (Num (szE x) w) := by
  have key : ∀ n, ∀ (x : Ex) (ua aa : Option Addr) (uc ac : Nat) (w : World), x.ar.sz < n → Fs w aa x.ar.len ac x.ar → Calls Tryz.prog 15 #[.agg (exC x.h x.ar.len ua uc aa ac)] w (Num (szE x) w) := by
    intro n
    induction n with
    | zero => intro x ua aa uc ac w h; exact absurd h (Nat.not_lt_zero _)
    | succ n ih =>
      intro x ua aa uc ac w h hA
      exact rsize_step x.ar.sz (fun x' ua' aa' uc' ac' w' h' => ih x' ua' aa' uc' ac' w' (by omega)) x ua aa uc ac w rfl hA
  exact key _ x ua aa uc ac w (Nat.lt_succ_self _) hA
set_option maxRecDepth 100000 in
set_option maxHeartbeats 4000000 in
theorem rdepth_step (n : Nat) (IH : ∀ (x : Ex) (ua aa : Option Addr) (uc ac : Nat) (w : World), x.ar.sz < n → Fs w aa x.ar.len ac x.ar → Calls Tryz.prog 17 #[.agg (exC x.h x.ar.len ua uc aa ac)] w (Num (dpE x) w))
    (x : Ex) (ua aa : Option Addr) (uc ac : Nat) (w : World) (hz : x.ar.sz = n) (hA : Fs w aa x.ar.len ac x.ar) : Calls Tryz.prog 17 #[.agg (exC x.h x.ar.len ua uc aa ac)] w (Num (dpE x) w) := by
  have A1 := Lib.hid hA
  have IH' := Lib.hid IH
  have HZ := Lib.hid hz
  have hS := Lib.hid (show dpA x.ar 0 = dpA (x.ar.drop 0) 0 by rw [drop_zero])
  have hlen := hA.hcap
  have hmax := hA.hmax
  have hL := Lib.hid (show x.ar.len ≤ 9223372036854775807 by omega)
  clear hA IH hz hlen hmax
  unfold exC
  go_enter Tryz.func17, Tryz.ntmps17
  go_wp2_with fail
  go_loopw [3, 4] (fun vn vi wr => ∃ (j : Nat) (m : Int), vn = .int .i64 m ∧ vi = .int .i64 (j : Nat) ∧ Hid (j ≤ x.ar.len) ∧ Hid (dpA x.ar 0 = dpA (x.ar.drop j) m) ∧ Hid (Below w.heap.size w wr) ∧ Hid (Blk wr w.heap.size 29 (exC x.h x.ar.len ua uc aa ac))) (fun _ vi _ => x.ar.len - (intOf vi).toNat)
  case atStart => exact ⟨0, 0, rfl, rfl, Lib.hid (Nat.zero_le _), hS, Lib.hid (balloc (b0 w) _), Lib.hid (Blk.new w 29 (exC x.h x.ar.len ua uc aa ac))⟩
  case round =>
    clear hS
    obtain ⟨j, m, rfl, rfl, hj, hS, hb, G⟩ := hrel
    have g11 := G.out.cell 11
    simp only [exC, List.getElem?_toArray, List.getElem?_cons_zero, List.getElem?_cons_succ] at g11
    by_cases hlt : j < x.ar.len
    · have q1 : decide ((j : Int) < (x.ar.len : Int)) = true := decide_eq_true (by omega)
      obtain ⟨bk, off, va, vc, wa, wc, rfl, R1, E1⟩ := (A1.out.keeps hb.out).at hlt
      replace hS := Lib.hid (hS.out.trans (dpA_at hlt m))
      have f4 := Lib.hid (next_at (j := j) (by have := hL.out; omega))
      have hsz := Lib.hid (nth_sz x.ar j hlt)
      have i1 : (j : Int) < (x.ar.len : Int) := by omega
      replace E1 := Lib.hid E1
      replace R1 := Lib.hid R1
      clear A1 hj
      generalize hy : x.ar.nth j = y at *
      go_wp2_with (first | (refine arm_mid infX Tryz.underlying29 rfl (.tmp 16) rfl rfl bk (off + j * 12) (exC y.h y.ar.len va vc wa wc) rfl R1.out rfl ?_))
      have B5 := hb
      have E5 := E1
      clear R1 E1
      refine (IH'.out y va wa vc wc wr (by have := hsz.out; have := HZ.out; omega) E5.out.ar).mono ?_
      rintro e w6 ⟨rfl, b6⟩
      have B6 := Lib.hid (bnext B5.out b6)
      have G6 := Lib.hid (G.out.keeps b6)
      have g11b := G6.out.cell 11
      clear g11b
      have mx := max_ways m (dpE y)
      clear b6 B5 E5 hb
      go_wp2_with fail
      exact ⟨⟨j + 1, _, rfl, congrArg (Value.int .i64) f4.out, Lib.hid hlt, hS, B6, G6⟩, less_at hlt f4.out⟩
    · have q1 : decide ((j : Int) < (x.ar.len : Int)) = false := decide_eq_false (by omega)
      replace hS := Lib.hid (show dpE x = wrap64 (m + 1) by unfold dpE; rw [hS.out, drop_end _ _ (by omega)]; rfl)
      clear A1 hj
      go_wp2_with fail
      go_ret
      exact ⟨by rw [hS.out]; rfl, hb.out⟩
theorem rdepth_any (x : Ex) (ua aa : Option Addr) (uc ac : Nat) (w : World) (hA : Fs w aa x.ar.len ac x.ar) : Calls Tryz.prog 17 #[.agg (exC x.h x.ar.len ua uc aa ac)] w (Num (dpE x) w) := by
  have key : ∀ n, ∀ (x : Ex) (ua aa : Option Addr) (uc ac : Nat) (w : World), x.ar.sz < n → Fs w aa x.ar.len ac x.ar → Calls Tryz.prog 17 #[.agg (exC x.h x.ar.len ua uc aa ac)] w (Num (dpE x) w) := by
    intro n
    induction n with
    | zero => intro x ua aa uc ac w h; exact absurd h (Nat.not_lt_zero _)
    | succ n ih =>
      intro x ua aa uc ac w h hA
      exact rdepth_step x.ar.sz (fun x' ua' aa' uc' ac' w' h' => ih x' ua' aa' uc' ac' w' (by omega)) x ua aa uc ac w rfl hA
  exact key _ x ua aa uc ac w (Nat.lt_succ_self _) hA
end Go.Proofs.YtbkpjhffmaldmaaGreatDoor.ch
namespace Go.Proofs.YtbkpjhffmaldmaaGreatDoor.ch
open Go.RowKit dec

/-- What a function that returns a bool does. -/
def Bl (b : Bool) (w : World) (e : Ending) (w' : World) : Prop := e = .returned (.bool b) ∧ Below w.heap.size w w'
theorem bl_of {b c : Bool} {w w' : World} (h : b = c) (hb : Below w.heap.size w w') : Bl c w (.returned (.bool b)) w' := ⟨by rw [h], hb⟩
theorem nu_of {b c : Int} {w w' : World} (h : b = c) (hb : Below w.heap.size w w') : Num c w (.returned (.int .i64 b)) w' := ⟨by rw [h], hb⟩
theorem eqL (s : ByteArray) (l : List UInt8) : (s.toList == l) = decide (s = ⟨l.toArray⟩) := by
  rw [← un.bs_eq]
  congr 1
  rw [ByteArray.toList_eq]
theorem eqI (x y : Int) : (x == y) = decide (x = y) := by by_cases h : x = y <;> simp [h]
theorem eqE (s : ByteArray) : s.toList.isEmpty = decide (s = .empty) := by
  have := eqL s []
  rw [show (s.toList == []) = s.toList.isEmpty by cases s.toList <;> rfl] at this
  exact this
theorem bw_two (w : World) (c d : Array Value) (T U : TypeId) : Blk ((w.alloc (.cells c T)).alloc (.cells d U)) w.heap.size T c ∧ Blk ((w.alloc (.cells c T)).alloc (.cells d U)) (w.heap.size + 1) U d := by
  refine ⟨(Blk.new w T c).past _, ?_⟩
  have := Blk.new (w.alloc (.cells c T)) U d
  simpa using this
theorem below_two (w : World) (c d : Obj) : Below w.heap.size w ((w.alloc c).alloc d) := balloc (balloc (b0 w) _) _
set_option maxRecDepth 100000 in
theorem isNumber_any (t : Ty) (ua : Option Addr) (uc : Nat) (w : World) : Calls Tryz.prog 41 #[.agg (tyC t ua uc)] w (Bl (num t) w) := by
  unfold tyC
  go_enter Tryz.func41, Tryz.ntmps41
  go_wp2
  all_goals go_ret
  all_goals exact bl_of (by simp only [num, eqI] at * <;> simp_all) (balloc (b0 w) _)
set_option maxRecDepth 100000 in
theorem rNumber_any (t : Ty) (ua : Option Addr) (uc : Nat) (w : World) : Calls Tryz.prog 25 #[.agg (tyC t ua uc)] w (Bl (num t) w) := by
  unfold tyC
  go_enter Tryz.func25, Tryz.ntmps25
  go_wp2
  all_goals go_ret
  all_goals exact bl_of (by simp only [num, eqI] at * <;> simp_all) (balloc (b0 w) _)
set_option maxRecDepth 100000 in
set_option maxHeartbeats 1000000 in
theorem difference_any (a b : Ty) (ua ub : Option Addr) (uc ud : Nat) (w : World) (hA : un.Sl w ua a.un.length uc a.un) (hB : un.Sl w ub b.un.length ud b.un) :
    Calls Tryz.prog 50 #[.agg (tyC a ua uc), .agg (tyC b ub ud)] w (Num (difT a b) w) := by
  have bb := below_two w (.cells (tyC a ua uc) 36) (.cells (tyC b ub ud) 36)
  have C := Lib.hid (un.same_any _ _ _ _ _ _ _ _ _ (hA.keeps bb) (hB.keeps bb))
  have BB := Lib.hid bb
  clear hA hB bb
  unfold tyC at *
  have hd := Lib.hid (show difT a b = if a.k ≠ b.k then 5 else if a.of ≠ b.of then 5 else if un.sameB a.un b.un = true then 0 else 70 by unfold difT un.sameB; simp)
  generalize un.sameB a.un b.un = s at *
  by_cases h1 : a.k = b.k
  · have q1 : (a.k != b.k) = false := by simp [h1]
    have q1' : (a.k == b.k) = true := by simp [h1]
    by_cases h2 : a.of = b.of
    · have q2 : (!a.of.toList == b.of.toList) = false := by simp [h2]
      have q2' : (a.of.toList == b.of.toList) = true := by simp [h2]
      rw [if_neg (by simp [h1]), if_neg (by simp [h2])] at hd
      clear h1 h2
      go_enter Tryz.func50, Tryz.ntmps50
      go_wp2_with fail
      refine C.out.mono ?_
      rintro e w1 ⟨rfl, b1⟩
      have B1 := Lib.hid (bnext BB.out b1)
      clear b1 C
      cases s
      · go_wp2_with fail
        go_ret
        exact nu_of hd.out.symm B1.out
      · go_wp2_with fail
        go_ret
        exact nu_of hd.out.symm B1.out
    · have q2 : (!a.of.toList == b.of.toList) = true := by simp [un.bs_eq, h2]
      have q2' : (a.of.toList == b.of.toList) = false := by simp [un.bs_eq, h2]
      rw [if_neg (by simp [h1]), if_pos h2] at hd
      clear h1 h2 C
      go_enter Tryz.func50, Tryz.ntmps50
      go_wp2_with fail
      go_ret
      exact nu_of hd.out.symm BB.out
  · have q1 : (a.k != b.k) = true := by simp [h1]
    have q1' : (a.k == b.k) = false := by simp [h1]
    rw [if_pos h1] at hd
    clear h1 C
    go_enter Tryz.func50, Tryz.ntmps50
    go_wp2_with fail
    go_ret
    exact nu_of hd.out.symm BB.out
theorem ref_below {f : FuncId} {args : Array Value} {b : Bool} {w : World} (h : Calls Tryz.prog f args w fun e w' => e = .returned (.bool b) ∧ Below w.heap.size w w') : Calls Tryz.prog f args w (Bl b w) := h
set_option maxRecDepth 100000 in
set_option maxHeartbeats 1000000 in
theorem sameType_any (a b : Ty) (ua ub : Option Addr) (uc ud : Nat) (w : World) (hA : un.Sl w ua a.un.length uc a.un) (hB : un.Sl w ub b.un.length ud b.un) :
    Calls Tryz.prog 23 #[.agg (tyC a ua uc), .agg (tyC b ub ud)] w (Bl (sameT a b) w) := by
  have bb := below_two w (.cells (tyC a ua uc) 36) (.cells (tyC b ub ud) 36)
  have C := Lib.hid (un.rsame_any _ _ _ _ _ _ _ _ _ (hA.keeps bb) (hB.keeps bb))
  have G := bw_two w (tyC a ua uc) (tyC b ub ud) 36 36
  have G1 := Lib.hid G.1
  have G2 := Lib.hid G.2
  have BB := Lib.hid bb
  clear hA hB bb G
  unfold tyC at *
  have hd := Lib.hid (show sameT a b = (decide (a.k = b.k) && (un.sameB a.un b.un && decide (a.of = b.of))) from rfl)
  generalize un.sameB a.un b.un = s at *
  by_cases h1 : a.k = b.k
  · have q1 : (a.k == b.k) = true := by simp [h1]
    rw [decide_eq_true h1, Bool.true_and] at hd
    clear h1
    go_enter Tryz.func23, Tryz.ntmps23
    go_wp2_with fail
    refine C.out.mono ?_
    rintro e w1 ⟨rfl, b1⟩
    have B1 := Lib.hid (bnext BB.out b1)
    have g1 := (G1.out.keeps b1).cell 2
    have g2 := (G2.out.keeps b1).cell 2
    simp only [List.getElem?_toArray, List.getElem?_cons_zero, List.getElem?_cons_succ] at g1 g2
    clear b1 C G1 G2 BB
    cases s
    · go_wp2_with fail
      go_ret
      exact bl_of hd.out.symm B1.out
    · go_wp2_with fail
      go_ret
      exact bl_of (by rw [hd.out, un.bs_eq]; rfl) B1.out
  · have q1 : (a.k == b.k) = false := by simp [h1]
    rw [decide_eq_false h1, Bool.false_and] at hd
    clear h1 C
    go_enter Tryz.func23, Tryz.ntmps23
    go_wp2_with fail
    go_ret
    exact bl_of hd.out.symm BB.out

/-! Units whose names are names. -/
theorem unitName_any (f : un.Fa) (hs : f.1.size ≤ 140737488355328) (w : World) (T : Tabs w) : Calls Tryz.prog 66 #[.agg #[.string f.1, .int .i64 f.2]] w (Bl (!name f.1) w) := by
  have C := Lib.hid (nameW_any f.1 hs (w.alloc (.cells #[.string f.1, .int .i64 f.2] 66)) (T.stays (balloc (b0 w) _)))
  go_enter Tryz.func66, Tryz.ntmps66
  go_wp2_with fail
  refine C.out.mono ?_
  rintro e w1 ⟨rfl, b1⟩
  have B1 := Lib.hid (bnext (balloc (b0 w) _) b1)
  clear b1 C
  go_wp2_with fail
  go_ret
  exact bl_of rfl B1.out
/-- The place of the first element that p picks. -/
def ixA {α : Type} (p : α → Bool) : List α → Nat → Int
  | [], _ => -1
  | x :: r, n => if p x = true then (n : Nat) else ixA p r (n + 1)
theorem ixA_any {α : Type} (p : α → Bool) : ∀ (l : List α) (n : Nat), decide (0 ≤ ixA p l n) = l.any p
  | [], _ => rfl
  | x :: r, n => by
    unfold ixA
    cases h : p x
    · simp [h, ixA_any p r (n + 1)]
    · simp [h]
theorem ixA_at {α : Type} (p : α → Bool) {l : List α} {j : Nat} (h : j < l.length) : ixA p (l.drop j) j = if p l[j] = true then (j : Int) else ixA p (l.drop (j + 1)) (j + 1) := by
  rw [List.drop_eq_getElem_cons h]
  rfl
theorem ixA_end {α : Type} (p : α → Bool) {l : List α} {j : Nat} (h : l.length ≤ j) : ixA p (l.drop j) j = -1 := by
  rw [List.drop_eq_nil_of_le h]
  rfl
set_option maxRecDepth 100000 in
set_option maxHeartbeats 1000000 in
theorem indexFa_any (a : Option Addr) (n cap : Nat) (l : List un.Fa) (w : World) (hA : un.Sl w a n cap l) (hs : ∀ f ∈ l, f.1.size ≤ 140737488355328) (T : Tabs w) :
    Calls Tryz.prog 107 #[.slice a n cap, .func (.func 66) #[] #[]] w (Num (ixA (fun f => !name f.1) l 0) w) := by
  have A1 := Lib.hid hA
  have hS := Lib.hid hs
  have T0 := Lib.hid T
  have hI := Lib.hid (show ixA (fun f : un.Fa => !name f.1) l 0 = ixA (fun f => !name f.1) (l.drop 0) 0 by rw [List.drop_zero])
  have hn := hA.hn
  subst hn
  have hL := Lib.hid (show l.length ≤ 9223372036854775807 by have := hA.hcap; have := hA.hmax; omega)
  clear hA hs T
  go_enter Tryz.func107, Tryz.ntmps107
  go_wp2_with fail
  go_loopw [8] (fun vi wr => ∃ (j : Nat), vi = .int .i64 (j : Nat) ∧ Hid (j ≤ l.length) ∧ Hid (ixA (fun f : un.Fa => !name f.1) l 0 = ixA (fun f => !name f.1) (l.drop j) j) ∧ Hid (Below w.heap.size w wr)) (fun vi _ => l.length - (intOf vi).toNat)
  case atStart => exact ⟨0, rfl, Lib.hid (Nat.zero_le _), hI, Lib.hid (b0 w)⟩
  case round =>
    clear hI
    obtain ⟨j, rfl, hj, hI, hb⟩ := hrel
    by_cases hlt : j < l.length
    · have q1 : decide ((j : Int) < (l.length : Int)) = true := decide_eq_true (by omega)
      obtain ⟨bk, off, rfl, hC⟩ := (A1.out.keeps hb.out).hat.resolve_left (by omega)
      obtain ⟨c0, c1⟩ := hC j hlt
      have f4 := Lib.hid (next_at (j := j) (by have := hL.out; omega))
      have i1 : (j : Int) < (l.length : Int) := by omega
      replace hI := hI.out.trans (ixA_at _ hlt)
      have C := Lib.hid (unitName_any (un.gt l j) (hS.out _ (un.gt_mem hlt)) wr (T0.out.stays hb.out))
      rw [show l[j] = un.gt l j from (un.gt_eq hlt).symm] at hI
      clear hC A1 hS T0 hj
      generalize un.gt l j = x at *
      go_wp2_with fail
      refine C.out.mono ?_
      rintro e w1 ⟨rfl, b1⟩
      have B1 := Lib.hid (bnext hb.out b1)
      clear b1 C c0 c1 hb
      generalize hq : (!name x.1) = q at *
      cases q
      · rw [if_neg (by decide)] at hI
        have hI := Lib.hid hI
        go_wp2_with fail
        exact ⟨⟨j + 1, congrArg (Value.int .i64) f4.out, Lib.hid hlt, hI, B1⟩, less_at hlt f4.out⟩
      · rw [if_pos rfl] at hI
        have hI := Lib.hid hI
        go_wp2_with fail
        go_ret
        exact nu_of hI.out.symm B1.out
    · have q1 : decide ((j : Int) < (l.length : Int)) = false := decide_eq_false (by omega)
      have hI := Lib.hid (hI.out.trans (ixA_end _ (by omega)))
      clear A1 hS T0 hj
      go_wp2_with fail
      go_ret
      exact nu_of hI.out.symm hb.out
set_option maxRecDepth 100000 in
theorem containsFa_any (a : Option Addr) (n cap : Nat) (l : List un.Fa) (w : World) (hA : un.Sl w a n cap l) (hs : ∀ f ∈ l, f.1.size ≤ 140737488355328) (T : Tabs w) :
    Calls Tryz.prog 67 #[.slice a n cap, .func (.func 66) #[] #[]] w (Bl (l.any fun f => !name f.1) w) := by
  have C := Lib.hid (indexFa_any a n cap l w hA hs T)
  have hq := Lib.hid (ixA_any (fun f : un.Fa => !name f.1) l 0)
  clear hA hs T
  generalize ixA (fun f : un.Fa => !name f.1) l 0 = i at *
  go_enter Tryz.func67, Tryz.ntmps67
  go_wp2_with fail
  refine C.out.mono ?_
  rintro e w1 ⟨rfl, b1⟩
  have B1 := Lib.hid b1
  clear b1 C
  go_wp2_with fail
  go_ret
  exact bl_of hq.out B1.out
theorem word_sz {s : ByteArray} (h : un.word s = true) : s.size ≤ 24 := (un.word_size h).2
set_option maxRecDepth 100000 in
theorem unitOfNames_any (a : Option Addr) (n cap : Nat) (l : List un.Fa) (w : World) (hA : un.Sl w a n cap l) (T : Tabs w) :
    Calls Tryz.prog 42 #[.slice a n cap] w (Bl (okU l) w) := by
  have C := Lib.hid (un.check_any a n cap l w hA)
  by_cases h : un.ck l = 0
  · have hs : ∀ f ∈ l, f.1.size ≤ 140737488355328 := fun f hf => by have := word_sz (((un.ck_iff l).1 h).good f hf).1; omega
    have q1 : (un.ck l == 0) = true := by simp [h]
    have D := Lib.hid (fun W hS T => containsFa_any a n cap l W hS hs T)
    have hq := Lib.hid (show okU l = !l.any fun f => !name f.1 by unfold okU; rw [decide_eq_true h, Bool.true_and]; simp [List.all_eq_not_any_not])
    have A1 := Lib.hid hA
    have T0 := Lib.hid T
    clear hA T hs h
    generalize un.ck l = c at *
    generalize (l.any fun f => !name f.1) = d at *
    go_enter Tryz.func42, Tryz.ntmps42
    go_wp2_with fail
    refine C.out.mono ?_
    rintro e w1 ⟨rfl, b1⟩
    have B1 := Lib.hid b1
    clear b1 C
    go_wp2_with fail
    refine (D.out w1 (A1.out.keeps B1.out) (T0.out.stays B1.out)).mono ?_
    rintro e w2 ⟨rfl, b2⟩
    have B2 := Lib.hid (bnext B1.out b2)
    clear b2 D A1 T0
    go_wp2_with fail
    go_ret
    exact bl_of hq.out.symm B2.out
  · have q1 : (un.ck l == 0) = false := by simp [h]
    have hq := Lib.hid (show okU l = false by unfold okU; rw [decide_eq_false h, Bool.false_and])
    clear hA T h
    generalize un.ck l = c at *
    go_enter Tryz.func42, Tryz.ntmps42
    go_wp2_with fail
    refine C.out.mono ?_
    rintro e w1 ⟨rfl, b1⟩
    have B1 := Lib.hid b1
    clear b1 C
    go_wp2_with fail
    go_ret
    exact bl_of hq.out.symm B1.out
end Go.Proofs.YtbkpjhffmaldmaaGreatDoor.ch
