/-
  Expressions, types, tables, features and catalogs in memory, as values that are read; Blocks with their cells; arms of a walk that load and store whole values; a round's index; Size and Depth of every expression: the program and the reference; The small functions: letters, digits, ranges, words; the reference's; units.Same, slices.Equal, the reference's Same: whether two lists are equal; Bytes in memory: slices that are read, bytes of the call's own, conversions; The reference: letters, digits, words, keywords, names; The reference: keywords.
-/
import Derived.Laws.Rows
import Derived.Laws.Tables
import Derived.BigRegion
import Derived.Lib.AppendStr
import Derived.Test.YtbahfelnbofjjaaGreatDoorG04
set_option maxRecDepth 100000
set_option maxHeartbeats 16000000
namespace Go.Proofs.YtbahfelnbofjjaaGreatDoor
namespace ch
open Go.RowKit dec
theorem aM {w w':World} {b o:Nat} {cs:List Value} (h:w.rangeAt b o cs) (hb:Below w.heap.size w w'):w'.rangeAt b o cs:=fun j v hv=>dec.keeps hb (h j v hv)
theorem cK {T:TypeId} {n:Nat} {d:TypeDesc} (hi:(Tryz.prog.info? T).map (·.size)=some n) (hu:Tryz.prog.underlying T=some d) (hd:d.isRow=true) {oi:Oper} {a:Act} {w:World} (x:Operand) (ho:oi.op=.load T x)
    (b o:Nat) (cells:Array Value) (hx:a.eval x=.pointer (some ⟨b,o,none⟩)) (hR:w.rangeAt b o cells.toList) (hc:cells.size=n):(execOp a.eval oi).run Tryz.prog w=.ok (.value (.agg cells)) w:=by
 unfold execOp;have:=run_loadVar_mid (P:=Tryz.prog) w b o T cells.toList d hR hu hd (by rw [Array.length_toList,hc];exact hi);simp only [ho,hx,Instr.loadAt,Instr.sureAddr,Sem.run_bind,Sem.run_pure,Result.andThen_ok,this,Array.toArray_toList]
structure Rw {α:Type} (sz:Nat) (V:World→Array Value→α→Prop) (w:World) (a:Option Addr) (n cap:Nat) (l:List α):Prop where
 hat:l.length=0∨∃ b off,a=some ⟨b,off,none⟩∧∀ j (h:j<l.length),∃ cs:Array Value,cs.size=sz∧w.rangeAt b (off+j * sz) cs.toList∧V w cs l[j]
 hn:l.length=n
 hcap:n≤cap
 hmax:cap≤9223372036854775807
 hno:a=none→cap=0
theorem Rw.keeps {α:Type} {sz:Nat} {V:World→Array Value→α→Prop} (hV:∀ (w w':World) (cs:Array Value) (x:α),V w cs x→Below w.heap.size w w'→V w' cs x) {w w':World} {a:Option Addr} {n cap:Nat} {l:List α}
  (h:Rw sz V w a n cap l) (hb:Below w.heap.size w w'):Rw sz V w' a n cap l :=
 { h with hat:=h.hat.imp id fun ⟨b,off,e,hA⟩=>⟨b,off,e,fun j hj=>by
   obtain ⟨cs,h1,h2,h3⟩:=hA j hj
   exact ⟨cs,h1,aM h2 hb,hV _ _ _ _ h3 hb⟩⟩ }
theorem Rw.nil {α:Type} (sz:Nat) (V:World→Array Value→α→Prop) (w:World):Rw sz V w none 0 0 []:=⟨.inl rfl,rfl,Nat.le_refl _,by omega,fun _=>rfl⟩
def tyC (t:Ty) (ua:Option Addr) (uc:Nat):Array Value:=#[.int .i64 t.k,.slice ua t.un.length uc,.string t.of]
def fiC (f:Fi) (ua:Option Addr) (uc:Nat):Array Value:=#[.string f.nm,.int .i64 f.ty.k,.slice ua f.ty.un.length uc,.string f.ty.of]
def FiV (w:World) (cs:Array Value) (f:Fi):Prop:=∃ ua uc,cs=fiC f ua uc∧un.Sl w ua f.ty.un.length uc f.ty.un
theorem FiV.keeps {w w':World} {cs:Array Value} {f:Fi} (h:FiV w cs f) (hb:Below w.heap.size w w'):FiV w' cs f:=by
 obtain ⟨ua,uc,e,S⟩:=h;exact ⟨ua,uc,e,S.keeps hb⟩
abbrev Fis:=Rw 4 FiV
def tbC (t:Tb) (a:Option Addr) (c:Nat):Array Value:=#[.string t.nm,.string t.en,.slice a t.fs.length c,.int .i64 t.kp]
theorem Fis.keeps {w w':World} {a:Option Addr} {n cap:Nat} {l:List Fi} (h:Fis w a n cap l) (hb:Below w.heap.size w w'):Fis w' a n cap l:=Rw.keeps (V:=FiV) (fun _ _ _ _ h hb=>h.keeps hb) h hb
def exC (h:Hd) (n:Nat) (ua:Option Addr) (uc:Nat) (aa:Option Addr) (ac:Nat):Array Value :=
 #[.int .i64 h.k,.string h.op,.string h.nm,.string h.tb,.int .i64 h.vk,.int .i64 h.vn,.string h.vs,.slice ua h.un.length uc,.int .i64 h.pa,.int .i64 h.wk,.int .i64 h.ws,.slice aa n ac]
def FoV (w:World):Fo→Nat→Nat→Prop
 | .nil,_,_=>True
 | .cons h ar r,b,off=>(∃ ua uc aa ac,w.rangeAt b off (exC h ar.len ua uc aa ac).toList∧un.Sl w ua h.un.length uc h.un∧(0≤ac∧ar.len≤9223372036854775807∧True)∧(ar.len=0∨∃ b' off',aa=some ⟨b',off',none⟩∧FoV w ar b' off'))∧FoV w r b (off+12)
theorem FoV.keeps {w w':World} (hb:Below w.heap.size w w'):∀ (F:Fo) (b off:Nat),FoV w F b off→FoV w' F b off
 | .nil,_,_,_=>trivial
 | .cons h ar r,b,off,hF=>by
  obtain ⟨⟨ua,uc,aa,ac,N,U,hc,A⟩,R⟩:=hF
  exact ⟨⟨ua,uc,aa,ac,aM N hb,U.keeps hb,hc,A.imp id fun ⟨b',off',e,hF'⟩=>⟨b',off',e,FoV.keeps hb ar b' off' hF'⟩⟩,FoV.keeps hb r b (off+12) R⟩
structure Fs (w:World) (a:Option Addr) (n cap:Nat) (F:Fo):Prop where
 hat:F.len=0∨∃ b off,a=some ⟨b,off,none⟩∧FoV w F b off
 hn:F.len=n
 hcap:0≤cap
 hmax:n≤9223372036854775807
 hno:True
theorem Fs.keeps {w w':World} {a:Option Addr} {n cap:Nat} {F:Fo} (h:Fs w a n cap F) (hb:Below w.heap.size w w'):Fs w' a n cap F :=
 { h with hat:=h.hat.imp id fun ⟨b,off,e,hA⟩=>⟨b,off,e,FoV.keeps hb F b off hA⟩ }
theorem Fs.nil (w:World):Fs w none 0 0 .nil:=⟨.inl rfl,rfl,Nat.le_refl _,by omega,trivial⟩
structure Ec (w:World) (x:Ex) (ua:Option Addr) (uc:Nat) (aa:Option Addr) (ac:Nat):Prop where
 us:un.Sl w ua x.h.un.length uc x.h.un
 ar:Fs w aa x.ar.len ac x.ar
theorem Ec.keeps {w w':World} {x:Ex} {ua:Option Addr} {uc:Nat} {aa:Option Addr} {ac:Nat} (h:Ec w x ua uc aa ac) (hb:Below w.heap.size w w'):Ec w' x ua uc aa ac:=⟨h.us.keeps hb,h.ar.keeps hb⟩
def ExV (w:World) (cs:Array Value) (x:Ex):Prop:=∃ ua uc aa ac,cs=exC x.h x.ar.len ua uc aa ac∧Ec w x ua uc aa ac
theorem ExV.keeps {w w':World} {cs:Array Value} {x:Ex} (h:ExV w cs x) (hb:Below w.heap.size w w'):ExV w' cs x:=by
 obtain ⟨ua,uc,aa,ac,e,S⟩:=h;exact ⟨ua,uc,aa,ac,e,S.keeps hb⟩
theorem MC {w:World} : ∀ (F:Fo) (b off j:Nat),FoV w F b off→j<F.len→∃ ua uc aa ac,w.rangeAt b (off+j * 12) (exC (F.nth j).h (F.nth j).ar.len ua uc aa ac).toList∧Ec w (F.nth j) ua uc aa ac
 | .nil,_,_,_,_,h=>absurd h (Nat.not_lt_zero _)
 | .cons h ar r,b,off,0,hF,_=>by
  obtain ⟨⟨ua,uc,aa,ac,N,U,hc,A⟩,R⟩:=hF
  exact ⟨ua,uc,aa,ac,by simpa [Fo.nth] using N,U,⟨A,rfl,hc.1,hc.2.1,hc.2.2⟩⟩
 | .cons h ar r,b,off,j+1,hF,hj=>by
  have:=MC r b (off+12) j hF.2 (by simpa [Fo.len] using hj)
  rw [show off+(j+1) * 12=off+12+j * 12 by omega]
  exact this
theorem MB {w:World} (b:Nat):∀ (F:Fo) (off:Nat),(∀ j,j<F.len→∃ ua uc aa ac,w.rangeAt b (off+j * 12) (exC (F.nth j).h (F.nth j).ar.len ua uc aa ac).toList∧Ec w (F.nth j) ua uc aa ac)→FoV w F b off
 | .nil,_,_=>trivial
 | .cons h ar r,off,hF=>by
  refine ⟨?_,MB b r (off+12) fun j hj=>?_⟩
  ·obtain ⟨ua,uc,aa,ac,N,E⟩:=hF 0 (by simp [Fo.len])
   exact ⟨ua,uc,aa,ac,by simpa [Fo.nth] using N,E.us,⟨E.ar.hcap,E.ar.hmax,E.ar.hno⟩,E.ar.hat⟩
  ·have:=hF (j+1) (by simpa [Fo.len] using hj)
   rw [show off+(j+1) * 12=off+12+j * 12 by omega] at this
   exact this
theorem Fs.at {w:World} {a:Option Addr} {n cap:Nat} {F:Fo} (h:Fs w a n cap F) {j:Nat} (hj:j<F.len):∃ b off ua uc aa ac,a=some ⟨b,off,none⟩∧w.rangeAt b (off+j * 12) (exC (F.nth j).h (F.nth j).ar.len ua uc aa ac).toList∧Ec w (F.nth j) ua uc aa ac:=by
 obtain ⟨b,off,e,hF⟩:=h.hat.resolve_left (by omega);obtain ⟨ua,uc,aa,ac,h1,h2⟩:=MC F b off j hF hj;exact ⟨b,off,ua,uc,aa,ac,e,h1,h2⟩
structure St (g:Nat) (w w':World):Prop where
 os:w'.os=w.os
 tape:w'.tape=w.tape
 output:w'.output=w.output
 size:w'.heap.size=w.heap.size
 block:∀ k,k≠g→w'.heap[k]? = w.heap[k]?
theorem St.below {g S:Nat} {w w':World} (h:St g w w') (hS:S≤g):Below S w w':=⟨h.os,h.tape,h.output,Nat.le_of_eq h.size.symm,fun k hk=>h.block k (by omega)⟩
def Blk (w:World) (g:Nat) (T:TypeId) (cs:Array Value):Prop:=w.heap[g]? = some (.cells cs T (0,0))
theorem Blk.lt {w:World} {g:Nat} {T:TypeId} {cs:Array Value} (h:Blk w g T cs):g<w.heap.size:=by
 rcases Nat.lt_or_ge g w.heap.size with h' | h'
 ·exact h'
 unfold Blk at h;rw [Array.getElem?_eq_none h'] at h;cases h
theorem Blk.new (w:World) (T:TypeId) (cs:Array Value):Blk (w.alloc (.cells cs T)) w.heap.size T cs:=Go.heap_alloc_new w _
theorem Blk.past {w:World} {g:Nat} {T:TypeId} {cs:Array Value} (h:Blk w g T cs) (o:Obj):Blk (w.alloc o) g T cs:=(Go.heap_alloc_old w o h.lt).trans h
theorem Blk.below {S:Nat} {w w':World} {g:Nat} {T:TypeId} {cs:Array Value} (h:Blk w g T cs) (M:Below S w w') (hS:g<S):Blk w' g T cs:=(M.block g hS).trans h
theorem Blk.st {k g:Nat} {w w':World} {T:TypeId} {cs:Array Value} (h:Blk w g T cs) (M:St k w w') (hn:g≠k):Blk w' g T cs:=(M.block g hn).trans h
theorem Blk.cell {w:World} {g:Nat} {T:TypeId} {cs:Array Value} (h:Blk w g T cs) (j:Nat):w.cell? ⟨g,j,none⟩=cs[j]?:=cell_of_row w g j cs T (0,0) h
theorem Blk.free {w:World} {g:Nat} {T:TypeId} {cs:Array Value} (h:Blk w g T cs) (j:Nat):w.frozen? ⟨g,j,none⟩=false:=by
 unfold Blk at h;simp [World.frozen?,h]
theorem Blk.setCell {w:World} {g:Nat} {T:TypeId} {cs:Array Value} (h:Blk w g T cs) (j:Nat) (v:Value):Blk (w.setCell ⟨g,j,none⟩ v) g T (cs.setIfInBounds j v)∧St g w (w.setCell ⟨g,j,none⟩ v):=by
 refine ⟨?_,rfl,rfl,rfl,by simp [World.setCell],fun k hk=>Below.heap_setCell w ⟨g,j,none⟩ v k hk⟩;unfold Blk at *;simp [World.setCell,Array.getElem?_modify,h]
theorem iO (w:World) (g:Nat) (cs:Array Value):St g w (w.setRow g cs):=by
 refine ⟨rfl,rfl,rfl,by simp [World.setRow],fun k hk=>?_⟩;simp only [World.setRow,Array.getElem?_modify];rw [if_neg (fun e=>hk e.symm)]
theorem gX {w:World} {g:Nat} {T:TypeId} {old:Array Value} (h:Blk w g T old) (cs:Array Value):Blk (w.setRow g cs) g T cs:=by
 unfold Blk at *;simp [World.setRow,Array.getElem?_modify,h]
def oH:TypeDesc→Bool
 | .struct _=>true
 | .array _ _=>true
 | _=>false
theorem aL {T:TypeId} {n:Nat} (hi:(Tryz.prog.info? T).map (·.size)=some n) {ops:Array Oper} {rest:List Oper} {o:Oper} {a:Act} {w:World} {Q:Exit→Act→World→Prop} (x y:Operand) (ho:o.op=.store T x y) (hgd:o.guard=none)
  (g:Nat) (T':TypeId) (cells old:Array Value) (hx:a.eval x=.pointer (some ⟨g,0,none⟩)) (hy:a.eval y=.agg cells) (hB:Blk w g T' old) (hs:old.size=n) (hc:cells.size=n) (h1:cells.all (·.oneCell')=true)
  (h:∀ w',Blk w' g T' cells→St g w w'→wpList Tryz.prog ops Q rest (a.put o.dst undef) w'):wpList Tryz.prog ops Q (o :: rest) a w :=
 wpList_store_row hgd T x y ho g cells hx hy T' old hB (by rw [hc];exact hi) (by omega) h1 (h _ (gX hB cells) (iO w g cells))
theorem aF {T:TypeId} {n:Nat} {d:TypeDesc} (hi:(Tryz.prog.info? T).map (·.size)=some n) (hu:Tryz.prog.underlying T=some d) (hd:oH d=true)
  {ops:Array Oper} {rest:List Oper} {o:Oper} {a:Act} {w:World} {Q:Exit→Act→World→Prop} (x:Operand) (ho:o.op=.load T x) (hgd:o.guard=none)
  (g:Nat) (T':TypeId) (cells:Array Value) (hx:a.eval x=.pointer (some ⟨g,0,none⟩)) (hB:Blk w g T' cells) (hc:cells.size=n)
  (h:wpList Tryz.prog ops Q rest (a.put o.dst (.agg cells)) w):wpList Tryz.prog ops Q (o :: rest) a w :=
 wpList_load_row hgd T x ho g hx T' cells (0,0) d hB hu (by cases d <;> first | rfl | cases hd) (by rw [hc];exact hi) h
theorem bK {T:TypeId} {n:Nat} {d:TypeDesc} (hi:(Tryz.prog.info? T).map (·.size)=some n) (hu:Tryz.prog.underlying T=some d) (hd:oH d=true)
  {fn:Func} {R:Ending→World→Prop} {p:Tmp} (h:fn.results=#[.cell p T]) (tmps:Array Value) (w:World) (g:Nat) (T':TypeId) (cells:Array Value) (hp:tmps.getD p undef=.pointer (some ⟨g,0,none⟩))
  (hB:Blk w g T' cells) (hc:cells.size=n) (hR:R (.returned (.agg cells)) w):bodyPost Tryz.prog fn R .ret ⟨tmps,[]⟩ w :=
 bodyPost_ret (results_cell_row h tmps w g T' cells (0,0) d hp hB hu (by cases d <;> first | rfl | cases hd) (by rw [hc];exact hi)) rfl hR
theorem aY {T:TypeId} {n:Nat} {d:TypeDesc} (hi:(Tryz.prog.info? T).map (·.size)=some n) (hu:Tryz.prog.underlying T=some d) (hd:oH d=true) {oi:Oper} {a:Act} {w:World} (x:Operand) (ho:oi.op=.load T x)
    (g:Nat) (T':TypeId) (cells:Array Value) (hx:a.eval x=.pointer (some ⟨g,0,none⟩)) (hB:Blk w g T' cells) (hc:cells.size=n):(execOp a.eval oi).run Tryz.prog w=.ok (.value (.agg cells)) w:=by
 unfold execOp;have:=run_loadVar_row (P:=Tryz.prog) w g T' T cells (0,0) d hB hu (by cases d <;> first | rfl | cases hd) (by rw [hc];exact hi);simp only [ho,hx,Instr.loadAt,Instr.sureAddr,Sem.run_bind,Sem.run_pure,Result.andThen_ok,this]
theorem aJ:(Tryz.prog.info? 29).map (·.size)=some 12:=by kernel_rfl
theorem kK:(Tryz.prog.info? 31).map (·.size)=some 3:=by kernel_rfl
theorem oQ:(Tryz.prog.info? 88).map (·.size)=some 4:=by kernel_rfl
theorem Ms:(Tryz.prog.info? 48).map (·.size)=some 4:=by kernel_rfl
theorem eF:(Tryz.prog.info? 82).map (·.size)=some 2:=by kernel_rfl
theorem Mr:(Tryz.prog.info? 23).map (·.size)=some 3:=by kernel_rfl
theorem fK:(Tryz.prog.info? 26).map (·.size)=some 2:=by kernel_rfl
theorem Blk.keeps {w w':World} {g:Nat} {T:TypeId} {cs:Array Value} (h:Blk w g T cs) (b:Below w.heap.size w w'):Blk w' g T cs:=h.below b h.lt
theorem Blk.drew {w:World} {g:Nat} {T:TypeId} {cs:Array Value} (h:Blk w g T cs):Blk w.drew g T cs:=h
theorem dM {T:TypeId} {n:Nat} {d:TypeDesc} (hi:(Tryz.prog.info? T).map (·.size)=some n) (hu:Tryz.prog.underlying T=some d) (hd:d.isRow=true) {ops:Array Oper} {rest:List Oper} {o:Oper} {a:Act} {w:World} {Q:Exit→Act→World→Prop} (x:Operand) (ho:o.op=.load T x) (hgd:o.guard=none)
  (b off:Nat) (cells:Array Value) (hx:a.eval x=.pointer (some ⟨b,off,none⟩)) (hR:w.rangeAt b off cells.toList) (hc:cells.size=n)
  (h:wpList Tryz.prog ops Q rest (a.put o.dst (.agg cells)) w):wpList Tryz.prog ops Q (o :: rest) a w :=
 wpList_load_mid hgd T x ho b off hx cells.toList d hR hu hd (by rw [Array.length_toList,hc];exact hi) (by rw [Array.toArray_toList];exact h)
theorem bC {T:TypeId} {n:Nat} {d:TypeDesc} (hi:(Tryz.prog.info? T).map (·.size)=some n) (hu:Tryz.prog.underlying T=some d) (hd:oH d=true)
    {ops:Array Oper} {rest:List Oper} {o:Oper} {a:Act} {w:World} {Q:Exit→Act→World→Prop} (x:Operand) (ho:o.op=.load T x) (hgd:Region.wanted o (yielded ops a.tmps)=true)
    (g:Nat) (T':TypeId) (cells:Array Value) (hx:a.eval x=.pointer (some ⟨g,0,none⟩)) (hB:Blk w g T' cells) (hc:cells.size=n)
    (h:wpList Tryz.prog ops Q rest (a.put o.dst (.agg cells)) w):wpList Tryz.prog ops Q (o :: rest) a w:=by
 refine wpList_step fun K hK=>?_;rw [if_pos hgd];exact wp_load_row T x ho g hx T' cells (0,0) d hB hu (by cases d <;> first | rfl | cases hd) (by rw [hc];exact hi) (hK _ _ h)
theorem o9 {T:TypeId} {n:Nat} {d:TypeDesc} (hi:(Tryz.prog.info? T).map (·.size)=some n) (hu:Tryz.prog.underlying T=some d) (hd:d.isRow=true) {ops:Array Oper} {rest:List Oper} {o:Oper} {a:Act} {w:World} {Q:Exit→Act→World→Prop} (x:Operand) (ho:o.op=.load T x) (hgd:Region.wanted o (yielded ops a.tmps)=true)
    (b off:Nat) (cells:Array Value) (hx:a.eval x=.pointer (some ⟨b,off,none⟩)) (hR:w.rangeAt b off cells.toList) (hc:cells.size=n)
    (h:wpList Tryz.prog ops Q rest (a.put o.dst (.agg cells)) w):wpList Tryz.prog ops Q (o :: rest) a w:=by
 refine wpList_step fun K hK=>?_;rw [if_pos hgd];exact wp_load_mid T x ho b off hx cells.toList d hR hu hd (by rw [Array.length_toList,hc];exact hi) (hK _ _ (by rw [Array.toArray_toList];exact h))
theorem aQ (h:Hd) (n:Nat) (ua:Option Addr) (uc:Nat) (aa:Option Addr) (ac:Nat):(exC h n ua uc aa ac).all (·.oneCell')=true:=by simp [exC,Value.oneCell']
def Num (n:Int) (w:World) (e:Ending) (w':World):Prop:=e=.returned (.int .i64 n)∧Below w.heap.size w w'
theorem aS {j:Nat} (h:j<9223372036854775807):wrap64 ((j:Int)+1)=((j+1:Nat):Int):=by unfold wrap64;omega
theorem aN {n j:Nat} (h:j<n) {x:Int} (hx:x=((j+1:Nat):Int)):n - (intOf (Value.int .i64 x)).toNat<n - (intOf (Value.int .i64 ((j:Nat):Int))).toNat:=by
 subst hx;simp only [intOf,Int.toNat_natCast];omega
theorem Ir {F:Fo} {j:Nat} (h:j<F.len) (n:Int):szA (F.drop j) n=szA (F.drop (j+1)) (wrap64 (n+szE (F.nth j))):=by
 rw [jF F j h];rfl
theorem Kc {F:Fo} {j:Nat} (h:j<F.len) (n:Int):dpA (F.drop j) n=dpA (F.drop (j+1)) (max n (dpE (F.nth j))):=by
 rw [jF F j h];rfl
theorem AQ (x y:Int):(if x<y then y else x)=max x y:=by omega
theorem IG (n:Nat) (IH:∀ (x:Ex) (ua aa:Option Addr) (uc ac:Nat) (w:World),x.ar.sz<n→Fs w aa x.ar.len ac x.ar→Calls Tryz.prog 93 #[.agg (exC x.h x.ar.len ua uc aa ac)] w (Num (szE x) w))
    (x:Ex) (ua aa:Option Addr) (uc ac:Nat) (w:World) (hz:x.ar.sz=n) (hA:Fs w aa x.ar.len ac x.ar):Calls Tryz.prog 93 #[.agg (exC x.h x.ar.len ua uc aa ac)] w (Num (szE x) w):=by
 have A1:=Hy hA;have IH':=Hy IH;have HZ:=Hy hz;have hS:=Hy (show szE x=szA (x.ar.drop 0) 1 by rw [drop_zero];rfl);have hlen:=hA.hcap;have hmax:=hA.hmax;have hL:=Hy (show x.ar.len≤9223372036854775807 by omega);clear hA IH hz hlen hmax;unfold exC
 go_enter Tryz.func93,Tryz.ntmps93
 go_wp2_with fail
 go_loopw [2,8] (fun vn vi wr => ∃ (j:Nat) (m:Int),vn=.int .i64 m∧vi=.int .i64 (j:Nat)∧Hid (j≤x.ar.len)∧Hid (szE x=szA (x.ar.drop j) m)∧Hid (Below w.heap.size w wr)) (fun _ vi _=>x.ar.len - (intOf vi).toNat)
 case atStart=>exact ⟨0,1,rfl,rfl,Hy zl,hS,Hy (au (b0 w) _)⟩
 case round =>
  clear hS;obtain ⟨j,m,rfl,rfl,hj,hS,hb⟩:=hrel;by_cases hlt:j<x.ar.len
  ·have q1:decide ((j:Int)<(x.ar.len:Int))=true:=dT (by omega);obtain ⟨bk,off,va,vc,wa,wc,rfl,R1,E1⟩:=(A1.o.keeps hb.o).at hlt;replace hS:=Hy (hS.o.trans (Ir hlt m));have f4:=Hy (aS (j:=j) (by have:=hL.o;omega));have hsz:=Hy (fV x.ar j hlt);have i1:(j:Int)<(x.ar.len:Int):=by omega
   replace E1:=Hy E1;replace R1:=Hy R1;clear A1 hj;generalize hy:x.ar.nth j=y at *;go_wp2_with (first | (refine dM aJ Tryz.underlying29 rfl (.tmp 10) rfl rfl bk (off+j * 12) (exC y.h y.ar.len va vc wa wc) rfl R1.o rfl ?_) | (refine aL aJ (.tmp 4) (.tmp 11) rfl rfl _ _ _ _ rfl rfl (Blk.new _ _ _) rfl rfl (aQ _ _ _ _ _ _) ?_;intro w5 L5 hs5;have bb5:=(au (b0 wr) _).trans (hs5.below lr)) | (refine aF aJ Tryz.underlying29 rfl (.tmp 4) rfl rfl _ _ _ rfl L5 rfl ?_));have B5:=Hy (hb.o.trans (bb5.mono hb.o.size));have E5:=Hy (E1.o.keeps bb5);clear bb5 hs5 L5 R1 E1;refine (IH'.o y va wa vc wc w5 (by have:=hsz.o;have:=HZ.o;omega) E5.o.ar).mono ?_;rintro e w6 ⟨rfl,b6⟩;have B6:=Hy (aA B5.o b6);clear b6 B5 E5 hb;go_wp2_with fail;exact ⟨⟨j+1,_,rfl,congrArg (Value.int .i64) f4.o,Hy hlt,hS,B6⟩,aN hlt f4.o⟩
  have q1:decide ((j:Int)<(x.ar.len:Int))=false:=dF (by omega);replace hS:=Hy (show szE x=m by rw [hS.o,eO _ _ (by omega)];rfl);clear A1 hj;go_wp2_with fail;go_ret;exact ⟨by rw [hS.o];rfl,hb.o⟩
theorem oG (x:Ex) (ua aa:Option Addr) (uc ac:Nat) (w:World) (hA:Fs w aa x.ar.len ac x.ar):Calls Tryz.prog 93 #[.agg (exC x.h x.ar.len ua uc aa ac)] w (Num (szE x) w):=by
 have key:∀ n,∀ (x:Ex) (ua aa:Option Addr) (uc ac:Nat) (w:World),x.ar.sz<n→Fs w aa x.ar.len ac x.ar→Calls Tryz.prog 93 #[.agg (exC x.h x.ar.len ua uc aa ac)] w (Num (szE x) w):=by
  intro n
  induction n with
  | zero=>intro x ua aa uc ac w h;exact absurd h (Nat.not_lt_zero _)
  | succ n ih =>
    intro x ua aa uc ac w h hA
    exact IG x.ar.sz (fun x' ua' aa' uc' ac' w' h' => ih x' ua' aa' uc' ac' w' (by omega)) x ua aa uc ac w rfl hA
 exact key _ x ua aa uc ac w ls hA
theorem Hl (n:Nat) (IH:∀ (x:Ex) (ua aa:Option Addr) (uc ac:Nat) (w:World),x.ar.sz<n→Fs w aa x.ar.len ac x.ar→Calls Tryz.prog 94 #[.agg (exC x.h x.ar.len ua uc aa ac)] w (Num (dpE x) w))
    (x:Ex) (ua aa:Option Addr) (uc ac:Nat) (w:World) (hz:x.ar.sz=n) (hA:Fs w aa x.ar.len ac x.ar):Calls Tryz.prog 94 #[.agg (exC x.h x.ar.len ua uc aa ac)] w (Num (dpE x) w):=by
 have A1:=Hy hA;have IH':=Hy IH;have HZ:=Hy hz;have hS:=Hy (show dpA x.ar 0=dpA (x.ar.drop 0) 0 by rw [drop_zero]);have hlen:=hA.hcap;have hmax:=hA.hmax;have hL:=Hy (show x.ar.len≤9223372036854775807 by omega);clear hA IH hz hlen hmax;unfold exC
 go_enter Tryz.func94,Tryz.ntmps94
 go_wp2_with fail
 go_loopw [2,8] (fun vn vi wr => ∃ (j:Nat) (m:Int),vn=.int .i64 m∧vi=.int .i64 (j:Nat)∧Hid (j≤x.ar.len)∧Hid (dpA x.ar 0=dpA (x.ar.drop j) m)∧Hid (Below w.heap.size w wr)) (fun _ vi _=>x.ar.len - (intOf vi).toNat)
 case atStart=>exact ⟨0,0,rfl,rfl,Hy zl,hS,Hy (au (b0 w) _)⟩
 case round =>
  clear hS;obtain ⟨j,m,rfl,rfl,hj,hS,hb⟩:=hrel;by_cases hlt:j<x.ar.len
  ·have q1:decide ((j:Int)<(x.ar.len:Int))=true:=dT (by omega);obtain ⟨bk,off,va,vc,wa,wc,rfl,R1,E1⟩:=(A1.o.keeps hb.o).at hlt;replace hS:=Hy (hS.o.trans (Kc hlt m));have f4:=Hy (aS (j:=j) (by have:=hL.o;omega));have hsz:=Hy (fV x.ar j hlt);have i1:(j:Int)<(x.ar.len:Int):=by omega
   replace E1:=Hy E1;replace R1:=Hy R1;clear A1 hj;generalize hy:x.ar.nth j=y at *;go_wp2_with (first | (refine dM aJ Tryz.underlying29 rfl (.tmp 10) rfl rfl bk (off+j * 12) (exC y.h y.ar.len va vc wa wc) rfl R1.o rfl ?_) | (refine aL aJ (.tmp 4) (.tmp 11) rfl rfl _ _ _ _ rfl rfl (Blk.new _ _ _) rfl rfl (aQ _ _ _ _ _ _) ?_;intro w5 L5 hs5;have bb5:=(au (b0 wr) _).trans (hs5.below lr)) | (refine aF aJ Tryz.underlying29 rfl (.tmp 4) rfl rfl _ _ _ rfl L5 rfl ?_));have B5:=Hy (hb.o.trans (bb5.mono hb.o.size));have E5:=Hy (E1.o.keeps bb5);clear bb5 hs5 L5 R1 E1;refine (IH'.o y va wa vc wc w5 (by have:=hsz.o;have:=HZ.o;omega) E5.o.ar).mono ?_;rintro e w6 ⟨rfl,b6⟩;have B6:=Hy (aA B5.o b6);have mx:=AQ m (dpE y);clear b6 B5 E5 hb;go_wp2_with fail;exact ⟨⟨j+1,_,rfl,congrArg (Value.int .i64) f4.o,Hy hlt,hS,B6⟩,aN hlt f4.o⟩
  have q1:decide ((j:Int)<(x.ar.len:Int))=false:=dF (by omega);replace hS:=Hy (show dpE x=wrap64 (m+1) by unfold dpE;rw [hS.o,eO _ _ (by omega)];rfl);clear A1 hj;go_wp2_with fail;go_ret;exact ⟨by rw [hS.o];rfl,hb.o⟩
theorem Kk (x:Ex) (ua aa:Option Addr) (uc ac:Nat) (w:World) (hA:Fs w aa x.ar.len ac x.ar):Calls Tryz.prog 94 #[.agg (exC x.h x.ar.len ua uc aa ac)] w (Num (dpE x) w):=by
 have key:∀ n,∀ (x:Ex) (ua aa:Option Addr) (uc ac:Nat) (w:World),x.ar.sz<n→Fs w aa x.ar.len ac x.ar→Calls Tryz.prog 94 #[.agg (exC x.h x.ar.len ua uc aa ac)] w (Num (dpE x) w):=by
  intro n
  induction n with
  | zero=>intro x ua aa uc ac w h;exact absurd h (Nat.not_lt_zero _)
  | succ n ih =>
    intro x ua aa uc ac w h hA
    exact Hl x.ar.sz (fun x' ua' aa' uc' ac' w' h' => ih x' ua' aa' uc' ac' w' (by omega)) x ua aa uc ac w rfl hA
 exact key _ x ua aa uc ac w ls hA
theorem Gc (n:Nat) (IH:∀ (x:Ex) (ua aa:Option Addr) (uc ac:Nat) (w:World),x.ar.sz<n→Fs w aa x.ar.len ac x.ar→Calls Tryz.prog 63 #[.agg (exC x.h x.ar.len ua uc aa ac)] w (Num (szE x) w))
    (x:Ex) (ua aa:Option Addr) (uc ac:Nat) (w:World) (hz:x.ar.sz=n) (hA:Fs w aa x.ar.len ac x.ar):Calls Tryz.prog 63 #[.agg (exC x.h x.ar.len ua uc aa ac)] w (Num (szE x) w):=by
 have A1:=Hy hA;have IH':=Hy IH;have HZ:=Hy hz;have hS:=Hy (show szE x=szA (x.ar.drop 0) 1 by rw [drop_zero];rfl);have hlen:=hA.hcap;have hmax:=hA.hmax;have hL:=Hy (show x.ar.len≤9223372036854775807 by omega);clear hA IH hz hlen hmax;unfold exC
 go_enter Tryz.func63,Tryz.ntmps63
 go_wp2_with fail
 go_loopw [3,4] (fun vn vi wr => ∃ (j:Nat) (m:Int),vn=.int .i64 m∧vi=.int .i64 (j:Nat)∧Hid (j≤x.ar.len)∧Hid (szE x=szA (x.ar.drop j) m)∧Hid (Below w.heap.size w wr)∧Hid (Blk wr w.heap.size 29 (exC x.h x.ar.len ua uc aa ac))) (fun _ vi _=>x.ar.len - (intOf vi).toNat)
 case atStart=>exact ⟨0,1,rfl,rfl,Hy zl,hS,Hy (au (b0 w) _),Hy (Blk.new w 29 (exC x.h x.ar.len ua uc aa ac))⟩
 case round =>
  clear hS;obtain ⟨j,m,rfl,rfl,hj,hS,hb,G⟩:=hrel;have g11:=G.o.cell 11;simp only [exC,sz2,sz3,sz4] at g11;by_cases hlt:j<x.ar.len
  ·have q1:decide ((j:Int)<(x.ar.len:Int))=true:=dT (by omega);obtain ⟨bk,off,va,vc,wa,wc,rfl,R1,E1⟩:=(A1.o.keeps hb.o).at hlt;replace hS:=Hy (hS.o.trans (Ir hlt m));have f4:=Hy (aS (j:=j) (by have:=hL.o;omega));have hsz:=Hy (fV x.ar j hlt);have i1:(j:Int)<(x.ar.len:Int):=by omega
   replace E1:=Hy E1;replace R1:=Hy R1;clear A1 hj;generalize hy:x.ar.nth j=y at *;go_wp2_with (first | (refine dM aJ Tryz.underlying29 rfl (.tmp 16) rfl rfl bk (off+j * 12) (exC y.h y.ar.len va vc wa wc) rfl R1.o rfl ?_));have B5:=hb;have E5:=E1;clear R1 E1;refine (IH'.o y va wa vc wc wr (by have:=hsz.o;have:=HZ.o;omega) E5.o.ar).mono ?_;rintro e w6 ⟨rfl,b6⟩;have B6:=Hy (aA B5.o b6);have G6:=Hy (G.o.keeps b6);have g11b:=G6.o.cell 11;clear g11b;clear b6 B5 E5 hb;go_wp2_with fail;exact ⟨⟨j+1,_,rfl,congrArg (Value.int .i64) f4.o,Hy hlt,hS,B6,G6⟩,aN hlt f4.o⟩
  have q1:decide ((j:Int)<(x.ar.len:Int))=false:=dF (by omega);replace hS:=Hy (show szE x=m by rw [hS.o,eO _ _ (by omega)];rfl);clear A1 hj;go_wp2_with fail;go_ret;exact ⟨by rw [hS.o];rfl,hb.o⟩
theorem IW (x:Ex) (ua aa:Option Addr) (uc ac:Nat) (w:World) (hA:Fs w aa x.ar.len ac x.ar):Calls Tryz.prog 63 #[.agg (exC x.h x.ar.len ua uc aa ac)] w (Num (szE x) w):=by
 have key:∀ n,∀ (x:Ex) (ua aa:Option Addr) (uc ac:Nat) (w:World),x.ar.sz<n→Fs w aa x.ar.len ac x.ar→Calls Tryz.prog 63 #[.agg (exC x.h x.ar.len ua uc aa ac)] w (Num (szE x) w):=by
  intro n
  induction n with
  | zero=>intro x ua aa uc ac w h;exact absurd h (Nat.not_lt_zero _)
  | succ n ih =>
    intro x ua aa uc ac w h hA
    exact Gc x.ar.sz (fun x' ua' aa' uc' ac' w' h' => ih x' ua' aa' uc' ac' w' (by omega)) x ua aa uc ac w rfl hA
 exact key _ x ua aa uc ac w ls hA
theorem Cr (n:Nat) (IH:∀ (x:Ex) (ua aa:Option Addr) (uc ac:Nat) (w:World),x.ar.sz<n→Fs w aa x.ar.len ac x.ar→Calls Tryz.prog 64 #[.agg (exC x.h x.ar.len ua uc aa ac)] w (Num (dpE x) w))
    (x:Ex) (ua aa:Option Addr) (uc ac:Nat) (w:World) (hz:x.ar.sz=n) (hA:Fs w aa x.ar.len ac x.ar):Calls Tryz.prog 64 #[.agg (exC x.h x.ar.len ua uc aa ac)] w (Num (dpE x) w):=by
 have A1:=Hy hA;have IH':=Hy IH;have HZ:=Hy hz;have hS:=Hy (show dpA x.ar 0=dpA (x.ar.drop 0) 0 by rw [drop_zero]);have hlen:=hA.hcap;have hmax:=hA.hmax;have hL:=Hy (show x.ar.len≤9223372036854775807 by omega);clear hA IH hz hlen hmax;unfold exC
 go_enter Tryz.func64,Tryz.ntmps64
 go_wp2_with fail
 go_loopw [3,4] (fun vn vi wr => ∃ (j:Nat) (m:Int),vn=.int .i64 m∧vi=.int .i64 (j:Nat)∧Hid (j≤x.ar.len)∧Hid (dpA x.ar 0=dpA (x.ar.drop j) m)∧Hid (Below w.heap.size w wr)∧Hid (Blk wr w.heap.size 29 (exC x.h x.ar.len ua uc aa ac))) (fun _ vi _=>x.ar.len - (intOf vi).toNat)
 case atStart=>exact ⟨0,0,rfl,rfl,Hy zl,hS,Hy (au (b0 w) _),Hy (Blk.new w 29 (exC x.h x.ar.len ua uc aa ac))⟩
 case round =>
  clear hS;obtain ⟨j,m,rfl,rfl,hj,hS,hb,G⟩:=hrel;have g11:=G.o.cell 11;simp only [exC,sz2,sz3,sz4] at g11;by_cases hlt:j<x.ar.len
  ·have q1:decide ((j:Int)<(x.ar.len:Int))=true:=dT (by omega);obtain ⟨bk,off,va,vc,wa,wc,rfl,R1,E1⟩:=(A1.o.keeps hb.o).at hlt;replace hS:=Hy (hS.o.trans (Kc hlt m));have f4:=Hy (aS (j:=j) (by have:=hL.o;omega));have hsz:=Hy (fV x.ar j hlt);have i1:(j:Int)<(x.ar.len:Int):=by omega
   replace E1:=Hy E1;replace R1:=Hy R1;clear A1 hj;generalize hy:x.ar.nth j=y at *;go_wp2_with (first | (refine dM aJ Tryz.underlying29 rfl (.tmp 16) rfl rfl bk (off+j * 12) (exC y.h y.ar.len va vc wa wc) rfl R1.o rfl ?_));have B5:=hb;have E5:=E1;clear R1 E1;refine (IH'.o y va wa vc wc wr (by have:=hsz.o;have:=HZ.o;omega) E5.o.ar).mono ?_;rintro e w6 ⟨rfl,b6⟩;have B6:=Hy (aA B5.o b6);have G6:=Hy (G.o.keeps b6);have g11b:=G6.o.cell 11;clear g11b;have mx:=AQ m (dpE y);clear b6 B5 E5 hb;go_wp2_with fail;exact ⟨⟨j+1,_,rfl,congrArg (Value.int .i64) f4.o,Hy hlt,hS,B6,G6⟩,aN hlt f4.o⟩
  have q1:decide ((j:Int)<(x.ar.len:Int))=false:=dF (by omega);replace hS:=Hy (show dpE x=wrap64 (m+1) by unfold dpE;rw [hS.o,eO _ _ (by omega)];rfl);clear A1 hj;go_wp2_with fail;go_ret;exact ⟨by rw [hS.o];rfl,hb.o⟩
theorem Gj (x:Ex) (ua aa:Option Addr) (uc ac:Nat) (w:World) (hA:Fs w aa x.ar.len ac x.ar):Calls Tryz.prog 64 #[.agg (exC x.h x.ar.len ua uc aa ac)] w (Num (dpE x) w):=by
 have key:∀ n,∀ (x:Ex) (ua aa:Option Addr) (uc ac:Nat) (w:World),x.ar.sz<n→Fs w aa x.ar.len ac x.ar→Calls Tryz.prog 64 #[.agg (exC x.h x.ar.len ua uc aa ac)] w (Num (dpE x) w):=by
  intro n
  induction n with
  | zero=>intro x ua aa uc ac w h;exact absurd h (Nat.not_lt_zero _)
  | succ n ih =>
    intro x ua aa uc ac w h hA
    exact Cr x.ar.sz (fun x' ua' aa' uc' ac' w' h' => ih x' ua' aa' uc' ac' w' (by omega)) x ua aa uc ac w rfl hA
 exact key _ x ua aa uc ac w ls hA
end ch
namespace un
open Go.RowKit dec
theorem Gv (c:Int) (w:World):Calls Tryz.prog 266 #[.int .u8 c] w fun e w' => e=.returned (.bool (jD c))∧w=w':=by
 go_enter Tryz.func266,Tryz.ntmps266
 go_wp2_with fail
 all_goals go_ret
 all_goals refine ⟨aX ?_,rfl⟩
 all_goals unfold jD
 all_goals simp_all
 all_goals omega
theorem Ki (c:Int) (w:World):Calls Tryz.prog 267 #[.int .u8 c] w fun e w' => e=.returned (.bool (o7 c))∧w=w':=by
 go_enter Tryz.func267,Tryz.ntmps267
 go_wp2_with fail
 all_goals go_ret
 all_goals refine ⟨aX ?_,rfl⟩
 all_goals unfold o7
 all_goals simp_all
 all_goals omega
theorem yE (n:Int) (w:World):Calls Tryz.prog 218 #[.int .i64 n] w fun e w' => e=.returned (.bool (!far n))∧w=w':=by
 go_enter Tryz.func218,Tryz.ntmps218
 go_wp2_with fail
 all_goals go_ret
 all_goals refine ⟨aX ?_,rfl⟩
 all_goals unfold far
 all_goals rw [Bool.eq_iff_iff]
 all_goals simp
 all_goals omega
theorem Ow (n:Int) (w:World):Calls Tryz.prog 128 #[.int .i64 n] w fun e w' => e=.returned (.bool (far n))∧w=w':=by
 go_enter Tryz.func128,Tryz.ntmps128
 go_wp2_with fail
 all_goals go_ret
 all_goals refine ⟨aX ?_,rfl⟩
 all_goals unfold far
 all_goals simp_all
theorem Ie (s:ByteArray) {j:Nat} (hj:j<s.size):(s.data.toList.drop j).all wch=(wch s[j] && (s.data.toList.drop (j+1)).all wch):=by
 have h:j<s.data.toList.length:=by rw [← Lib.size_eq];exact hj
 rw [List.drop_eq_getElem_cons h];rfl
theorem DF (s:ByteArray) {j:Nat} (hj:s.size≤j):(s.data.toList.drop j).all wch=true:=by
 rw [List.drop_eq_nil_of_le (by rw [← Lib.size_eq];exact hj)];rfl
theorem Dw (s:ByteArray) (h0:0<s.size):word s=(decide (s.size≤24) && (jD s[0].toNat && (s.data.toList.drop 0).all wch)):=by
 unfold word zm;rw [← Lib.size_eq,List.drop_zero];have h:0<s.data.toList.length:=by rw [← Lib.size_eq];exact h0
 have e:s.data.toList.headD 0=s[0]:=by
  have:=List.drop_eq_getElem_cons h;rw [List.drop_zero] at this;rw [this];rfl
 rw [e];congr 1;rw [decide_eq_decide];omega
theorem yu (s:ByteArray) (h0:s.size=0):word s=false:=by
 unfold word zm;rw [← Lib.size_eq,h0];rfl
theorem toList_nil (s:ByteArray):(s.toList==[])=decide (s.size=0):=by
 have e:s.size=s.toList.length:=by rw [ByteArray.toList_eq];rfl
 rw [e];cases s.toList <;> rfl
theorem Ic (c:UInt8):wch c=(jD c.toNat || (o7 c.toNat || decide ((c.toNat:Int)=95))):=by
 unfold wch;congr 2;rw [Bool.eq_iff_iff];simp;omega
theorem aS {j:Nat} (h:j<9223372036854775807):wrap64 ((j:Int)+1)=((j+1:Nat):Int):=by unfold wrap64;omega
theorem aN {n j:Nat} (h:j<n) (f:wrap64 ((j:Int)+1)=((j+1:Nat):Int)):n - (intOf (Value.int .i64 (wrap64 ((j:Int)+1)))).toNat<n - (intOf (Value.int .i64 (j:Int))).toNat:=by
 rw [f];clear f;show n - (((j+1:Nat):Int)).toNat<n - ((j:Nat):Int).toNat;rw [Int.toNat_natCast,Int.toNat_natCast];omega
theorem vF (s:ByteArray) (w:World):Calls Tryz.prog 217 #[.string s] w fun e w' => e=.returned (.bool (word s))∧w=w':=by
 have L:=Hy Gv;have D:=Hy Ki;by_cases h0:s.size=0
 ·rw [yu s h0];have q1:(s.toList==[])=true:=by rw [toList_nil,h0];rfl
  clear L D
  go_enter Tryz.func217,Tryz.ntmps217
  go_wp2_with fail;go_ret;exact ⟨rfl,rfl⟩
 have h0':0<s.size:=by omega
 have hw:=Dw s h0';have q1:(s.toList==[])=false:=by rw [toList_nil];exact dF h0
 by_cases h24:s.size≤24
 ·have q2:decide (24<(s.size:Int))=false:=dF (by omega);rw [dT h24,Bool.true_and] at hw;have hS:=Hy h24;clear h24;cases hl:jD s[0].toNat
  ·rw [hl,Bool.false_and] at hw;rw [hw]
   go_enter Tryz.func217,Tryz.ntmps217
   go_wp2_with fail;refine (L.o _ _).mono ?_;rintro e w' ⟨rfl,rfl⟩;go_wp2_with fail;go_ret;exact ⟨rfl,rfl⟩
  rw [hl,Bool.true_and] at hw;have H:=Hy hw;clear hw
  go_enter Tryz.func217,Tryz.ntmps217
  go_wp2_with fail;refine (L.o _ _).mono ?_;rintro e w' ⟨rfl,rfl⟩;go_wp2_with fail
  go_loopw [20] (fun vi wr => ∃ j:Nat,vi=.int .i64 (j:Nat)∧j≤s.size∧Hid (word s=(s.data.toList.drop j).all wch)∧w=wr) (fun vi _=>s.size - (intOf vi).toNat)
  case atStart=>exact ⟨0,rfl,by omega,H,rfl⟩
  case round =>
   obtain ⟨j,rfl,hj,hd,rfl⟩:=hrel;clear H;by_cases hc:j<s.size
   ·have hst:=hd.o;rw [Ie s hc,Ic] at hst;have q3:decide ((j:Int)<(s.size:Int))=true:=dT (by omega);have f4:=Hy (aS (j:=j) (by have:=hS.o;omega));generalize hJ:((s[j].toNat:Nat):Int)=c at hst;clear hd;cases hlc:jD c
    ·cases hdc:o7 c
     ·by_cases h95:c=95
      ·rw [hlc,hdc,dT h95] at hst;have q5:(c==95)=true:=beq_iff_eq.2 h95;simp only [Bool.false_or,Bool.true_and] at hst;have H:=Hy hst;clear hst h95;go_wp2_with fail;refine (L.o _ _).mono ?_;rintro e w' ⟨rfl,rfl⟩;go_wp2_with fail;refine (D.o _ _).mono ?_;rintro e w' ⟨rfl,rfl⟩;go_wp2_with fail;go_roundw
       case rel=>exact ⟨j+1,congrArg (Value.int .i64) f4.o,hc,H,trivial⟩
       case measure=>exact aN hc f4.o
      rw [hlc,hdc,dF h95] at hst;have q5:(c==95)=false:=bF h95;simp only [Bool.false_or,Bool.false_and] at hst;have H:=Hy hst;clear hst h95;go_wp2_with fail;refine (L.o _ _).mono ?_;rintro e w' ⟨rfl,rfl⟩;go_wp2_with fail;refine (D.o _ _).mono ?_;rintro e w' ⟨rfl,rfl⟩;go_wp2_with fail;go_ret;exact ⟨aX H.o.symm,rfl⟩
     rw [hlc,hdc] at hst;simp only [Bool.true_or,Bool.false_or,Bool.true_and] at hst;have H:=Hy hst;clear hst;go_wp2_with fail;refine (L.o _ _).mono ?_;rintro e w' ⟨rfl,rfl⟩;go_wp2_with fail;refine (D.o _ _).mono ?_;rintro e w' ⟨rfl,rfl⟩;go_wp2_with fail;go_roundw
     case rel=>exact ⟨j+1,congrArg (Value.int .i64) f4.o,hc,H,trivial⟩
     case measure=>exact aN hc f4.o
    rw [hlc] at hst;simp only [Bool.true_or,Bool.true_and] at hst;have H:=Hy hst;clear hst;go_wp2_with fail;refine (L.o _ _).mono ?_;rintro e w' ⟨rfl,rfl⟩;go_wp2_with fail;go_roundw
    case rel=>exact ⟨j+1,congrArg (Value.int .i64) f4.o,hc,H,trivial⟩
    case measure=>exact aN hc f4.o
   have hst:=hd.o;rw [DF s (by omega)] at hst;have H:=Hy hst;clear hst hd;have q3:decide ((j:Int)<(s.size:Int))=false:=dF (by omega);go_wp2_with fail;go_ret;exact ⟨aX H.o.symm,rfl⟩
 rw [dF h24,Bool.false_and] at hw;have q2:decide (24<(s.size:Int))=true:=dT (by omega);rw [hw]
 go_enter Tryz.func217,Tryz.ntmps217
 go_wp2_with fail;go_ret;exact ⟨rfl,rfl⟩
def kI (l r:List Fa):Bool:=decide (l=r)
theorem Ae {l r:List Fa} (h:l.length≠r.length):kI l r=false:=dF fun e=>h (by rw [e])
theorem Af {l r:List Fa} {j:Nat} (h1:l.length≤j) (h2:r.length≤j) (h:l.take j=r.take j):kI l r=true:=by
 rw [List.take_of_length_le h1,List.take_of_length_le h2] at h;exact dT h
theorem yC {l r:List Fa} {j:Nat} (h1:j<l.length) (h2:j<r.length) (h:l.take j=r.take j) (e1:(gt l j).1=(gt r j).1) (e2:(gt l j).2=(gt r j).2):l.take (j+1)=r.take (j+1):=by
 rw [gL h1,gL h2,h,Prod.ext e1 e2]
theorem Ed {l r:List Fa} {j:Nat} (h:gt l j≠gt r j):kI l r=false:=dF fun e=>h (by rw [e])
theorem zB (a b:ByteArray):(a.toList==b.toList)=decide (a=b):=by
 by_cases h:a=b
 ·rw [h];simp
 rw [dF h];exact bF fun e=>h (toList_inj e)
theorem J7 (a:Option Addr) (n cap:Nat) (b:Option Addr) (m cap2:Nat) (l r:List Fa) (w:World) (hA:Sl w a n cap l) (hB:Sl w b m cap2 r) :
    Calls Tryz.prog 312 #[.slice a n cap,.slice b m cap2] w fun e w' => e=.returned (.bool (kI l r))∧Below w.heap.size w w':=by
 have h1:=Hy hA;have h2:=Hy hB;clear hA hB;by_cases hnm:n=m
 ·subst hnm;have qn:((n:Int) != (n:Int))=false:=by simp
  go_enter Tryz.func312,Tryz.ntmps312
  go_wp2_with fail
  go_loopw [13] (fun i wr => ∃ j:Nat,i=.int .i64 (j:Nat)∧Hid (j≤n)∧Hid (l.take j=r.take j)∧Below w.heap.size w wr) (fun i _=>n - (intOf i).toNat)
  case atStart=>exact ⟨0,rfl,Hy zl,Hy rfl,b0 w⟩
  case round =>
   obtain ⟨j,rfl,hj,ht,hb⟩:=hrel;by_cases hlt:j<n
   ·have q1:decide ((j:Int)<(n:Int))=true:=dT (by omega);obtain ⟨A1,hn,hc,hm,_⟩:=h1.o.keeps hb;obtain ⟨B1,hn2,hc2,hm2,_⟩:=h2.o.keeps hb;obtain ⟨bk,off,rfl,hC⟩:=A1.resolve_left (by omega);obtain ⟨bk2,off2,rfl,hD⟩:=B1.resolve_left (by omega);obtain ⟨c0,c1⟩:=hC j (by omega);obtain ⟨d0,d1⟩:=hD j (by omega);have f4:=Hy (aS (j:=j) (by omega));have hN:=Hy (fun e1 e2=>yC (l:=l) (r:=r) (j:=j) (by omega) (by omega) ht.o e1 e2);have hX:=Hy (fun h=>Ed (l:=l) (r:=r) (j:=j) h);have hbh:=Hy hb;clear hC hD A1 B1 h1 h2 ht hj hc hm hc2 hm2 hn hn2 hb;generalize gt l j=x at *;generalize gt r j=y at *;by_cases p1:x.1.toList=y.1.toList
    ·by_cases p2:x.2=y.2
     ·have hT:=Hy (hN.o (toList_inj p1) p2);clear hN hX;go_wp2_with fail
      go_region
      go_wp2_with fail;refine ⟨⟨j+1,congrArg (Value.int .i64) f4.o,Hy hlt,hT,hbh.o.drew⟩,aN hlt f4.o⟩
     have hT:=Hy (hX.o fun e=>p2 (by rw [e]));clear hN hX;go_wp2_with fail
     go_region
     go_wp2_with fail;go_ret;exact ⟨aX hT.o.symm,hbh.o.drew⟩
    have hT:=Hy (hX.o fun e=>p1 (by rw [e]));clear hN hX;go_wp2_with fail
    go_region
    go_wp2_with fail;go_ret;exact ⟨aX hT.o.symm,hbh.o.drew⟩
   have q1:decide ((j:Int)<(n:Int))=false:=dF (by omega);have hr:=Af (by have:=h1.o.hn;omega) (by have:=h2.o.hn;omega) ht.o;go_wp2_with fail;go_ret;exact ⟨aX hr.symm,hb⟩
 have hl:=Ae (l:=l) (r:=r) (by rw [h1.o.hn,h2.o.hn];exact hnm);have qn:((n:Int) != (m:Int))=true:=by rw [bne_iff_ne];omega
 clear h1 h2;rw [hl]
 go_enter Tryz.func312,Tryz.ntmps312
 go_wp2_with fail;go_ret;exact ⟨rfl,b0 w⟩
theorem IX (a:Option Addr) (n cap:Nat) (b:Option Addr) (m cap2:Nat) (l r:List Fa) (w:World) (hA:Sl w a n cap l) (hB:Sl w b m cap2 r) :
    Calls Tryz.prog 75 #[.slice a n cap,.slice b m cap2] w fun e w' => e=.returned (.bool (kI l r))∧Below w.heap.size w w':=by
 have h1:=Hy hA;have h2:=Hy hB;clear hA hB;by_cases hnm:n=m
 ·subst hnm;have qn:((n:Int) != (n:Int))=false:=by simp
  go_enter Tryz.func75,Tryz.ntmps75
  go_wp2_with fail
  go_loopw [5] (fun i wr => ∃ j:Nat,i=.int .i64 (j:Nat)∧Hid (j≤n)∧Hid (l.take j=r.take j)∧Below w.heap.size w wr) (fun i _=>n - (intOf i).toNat)
  case atStart=>exact ⟨0,rfl,Hy zl,Hy rfl,b0 w⟩
  case round =>
   obtain ⟨j,rfl,hj,ht,hb⟩:=hrel;by_cases hlt:j<n
   ·have q1:decide ((j:Int)<(n:Int))=true:=dT (by omega);obtain ⟨A1,hn,hc,hm,_⟩:=h1.o.keeps hb;obtain ⟨B1,hn2,hc2,hm2,_⟩:=h2.o.keeps hb;obtain ⟨bk,off,rfl,hC⟩:=A1.resolve_left (by omega);obtain ⟨bk2,off2,rfl,hD⟩:=B1.resolve_left (by omega);obtain ⟨c0,c1⟩:=hC j (by omega);obtain ⟨d0,d1⟩:=hD j (by omega);have f4:=Hy (aS (j:=j) (by omega));have hN:=Hy (fun e1 e2=>yC (l:=l) (r:=r) (j:=j) (by omega) (by omega) ht.o e1 e2);have hX:=Hy (fun h=>Ed (l:=l) (r:=r) (j:=j) h);have hbh:=Hy hb;clear hC hD A1 B1 h1 h2 ht hj hc hm hc2 hm2 hn hn2 hb;generalize gt l j=x at *;generalize gt r j=y at *;by_cases p1:x.1.toList=y.1.toList
    ·by_cases p2:x.2=y.2
     ·have hT:=Hy (hN.o (toList_inj p1) p2);clear hN hX;go_wp2_with fail
      go_region
      go_wp2_with fail;refine ⟨⟨j+1,congrArg (Value.int .i64) f4.o,Hy hlt,hT,hbh.o.drew⟩,aN hlt f4.o⟩
     have hT:=Hy (hX.o fun e=>p2 (by rw [e]));clear hN hX;go_wp2_with fail
     go_region
     go_wp2_with fail;go_ret;exact ⟨aX hT.o.symm,hbh.o.drew⟩
    have hT:=Hy (hX.o fun e=>p1 (by rw [e]));clear hN hX;go_wp2_with fail
    go_region
    go_wp2_with fail;go_ret;exact ⟨aX hT.o.symm,hbh.o.drew⟩
   have q1:decide ((j:Int)<(n:Int))=false:=dF (by omega);have hr:=Af (by have:=h1.o.hn;omega) (by have:=h2.o.hn;omega) ht.o;go_wp2_with fail;go_ret;exact ⟨aX hr.symm,hb⟩
 have hl:=Ae (l:=l) (r:=r) (by rw [h1.o.hn,h2.o.hn];exact hnm);have qn:((n:Int) != (m:Int))=true:=by rw [bne_iff_ne];omega
 clear h1 h2;rw [hl]
 go_enter Tryz.func75,Tryz.ntmps75
 go_wp2_with fail;go_ret;exact ⟨rfl,b0 w⟩
theorem KZ (a:Option Addr) (n cap:Nat) (b:Option Addr) (m cap2:Nat) (l r:List Fa) (w:World) (hA:Sl w a n cap l) (hB:Sl w b m cap2 r) :
    Calls Tryz.prog 298 #[.slice a n cap,.slice b m cap2] w fun e w' => e=.returned (.bool (kI l r))∧Below w.heap.size w w':=by
 have C:=Hy (J7 a n cap b m cap2 l r w hA hB);clear hA hB
 go_enter Tryz.func298,Tryz.ntmps298
 go_wp2_with fail;refine C.o.mono ?_;rintro e w1 ⟨rfl,b1⟩;go_wp2_with fail;go_ret;exact ⟨rfl,b1⟩
end un
section
open Go.RowKit dec
structure Bs (w:World) (a:Option Addr) (n cap:Nat) (s:ByteArray):Prop where
 hat:s.size=0∨∃ b off,a=some ⟨b,off,none⟩∧∀ j (hj:j<s.size),w.cell? ⟨b,off+j,none⟩=some (.int .u8 (s[j].toNat:Int))
 hn:s.size=n
 hcap:n≤cap
 hmax:cap≤9223372036854775807
 hno:a=none→cap=0
theorem Bs.keeps {w w1:World} {a:Option Addr} {n cap:Nat} {s:ByteArray} (h:Bs w a n cap s) (hb:Below w.heap.size w w1):Bs w1 a n cap s :=
 { h with hat:=h.hat.imp id fun ⟨b,off,e,hB⟩=>⟨b,off,e,fun j hj=>dec.keeps hb (hB j hj)⟩ }
theorem Bs.str {w:World} {a:Option Addr} {n cap:Nat} {s:ByteArray} (h:Bs w a n cap s):(convert 56 9 (.slice a n cap)).run Tryz.prog w=.ok (.string s) w:=by
 have hn:=h.hn;subst hn;rcases h.hat with h0 | ⟨b,off,rfl,hB⟩
 ·have hs:=mU h0;subst hs;rw [run_convert_bytes_string w 56 9 5 a _ cap Tryz.underlying56 Tryz.underlying5 Tryz.underlying9];show (Conv.bytesToString (.slice a 0 cap)).run Tryz.prog w=_;cases a <;> simp [Conv.bytesToString,loadCells]
  all_goals rfl
 have hl:s.data.toList.length=s.size:=aI s;have:=run_convert_bytes_arg (P:=Tryz.prog) w 56 5 Tryz.underlying56 Tryz.underlying5 b off s.size cap (s.data.toList.map fun c=>(c.toNat:Int)) (by rw [List.length_map,hl]) (fun i hi=>by
   rw [hB i hi,List.getD_eq_getElem?_getD,List.getElem?_map,List.getElem?_eq_getElem (by rw [hl];exact hi)]
   rfl) _ Tryz.underlying9
 rw [this];have e:strOfNums (s.data.toList.map fun c=>(c.toNat:Int))=s:=by
  unfold strOfNums;rw [List.map_map];refine (congrArg (fun l:List UInt8=>(⟨l.toArray⟩:ByteArray)) ?_).trans (om s);refine (List.map_congr_left fun c _=>?_).trans (List.map_id _);show UInt8.ofNat ((c.toNat:Int)).toNat=c;rw [Int.toNat_natCast,UInt8.ofNat_toNat]
 rw [e]
theorem gI (w:World) (s:ByteArray) (hs:s.size≤281474976710656):∃ w' c,(convert 9 56 (.string s)).run Tryz.prog w=.ok (.slice (some ⟨w.heap.size,0,none⟩) s.size c) w'∧Bs w' (some ⟨w.heap.size,0,none⟩) s.size c s∧Below w.heap.size w w':=by
 refine ⟨Lib.bytesWorld w 5 s,grownCap w s.size 0 5,Lib.run_convert_string_bytes w 9 56 5 s Tryz.underlying9 Tryz.underlying56 Tryz.underlying5,⟨.inr ⟨_,_,rfl,fun j hj=>?_⟩,rfl,grownCap_ge _ _ _ _,?_,fun h=>by cases h⟩,iK _ _ _⟩
 ·rw [Nat.zero_add,Lib.bytesWorld_cell w 5 s j hj];rw [List.getD_eq_getElem?_getD,List.getElem?_eq_getElem (by rw [aI];exact hj)];rfl
 have:=grownCap_le_maxLen w s.size 0 5 (by unfold maxLen;omega);unfold maxLen at this;omega
theorem yU (lo hi:Nat) (c:UInt8) (b:Bool) (h:(decide (lo≤c.toNat) && decide (c.toNat≤hi))=b) :
    (decide ((lo:Int)≤(c.toNat:Int))=false∧b=false)∨(decide ((lo:Int)≤(c.toNat:Int))=true∧decide ((c.toNat:Int)≤(hi:Int))=b):=by
 by_cases h1:lo≤c.toNat
 ·right;refine ⟨dT (by omega),?_⟩;rw [dT h1,Bool.true_and] at h;rw [← h,decide_eq_decide];omega
 left;rw [dF h1,Bool.false_and] at h;exact ⟨dF (by omega),h.symm⟩
theorem r9 (c:UInt8) (w:World):Calls Tryz.prog 168 #[.int .u8 (c.toNat:Int)] w fun e w' => e=.returned (.bool (isL c))∧w'=w:=by
 obtain ⟨b,hb⟩:∃ b,isL c=b:=⟨_,rfl⟩;rw [hb];have H:=yU 97 122 c b hb;clear hb;generalize (c.toNat:Int)=x at *;rcases H with ⟨q1,rfl⟩ | ⟨q1,q2⟩
 ·replace q1:decide (97≤x)=false:=q1
  go_enter Tryz.func168,Tryz.ntmps168
  go_wp2_with fail;go_ret;exact ⟨rfl,rfl⟩
 replace q1:decide (97≤x)=true:=q1;replace q2:decide (x≤122)=b:=q2
 go_enter Tryz.func168,Tryz.ntmps168
 go_wp2_with fail;go_ret;exact ⟨rfl,rfl⟩
theorem Gi (c:UInt8) (w:World):Calls Tryz.prog 169 #[.int .u8 (c.toNat:Int)] w fun e w' => e=.returned (.bool (isD c))∧w'=w:=by
 obtain ⟨b,hb⟩:∃ b,isD c=b:=⟨_,rfl⟩;rw [hb];have H:=yU 48 57 c b hb;clear hb;generalize (c.toNat:Int)=x at *;rcases H with ⟨q1,rfl⟩ | ⟨q1,q2⟩
 ·replace q1:decide (48≤x)=false:=q1
  go_enter Tryz.func169,Tryz.ntmps169
  go_wp2_with fail;go_ret;exact ⟨rfl,rfl⟩
 replace q1:decide (48≤x)=true:=q1;replace q2:decide (x≤57)=b:=q2
 go_enter Tryz.func169,Tryz.ntmps169
 go_wp2_with fail;go_ret;exact ⟨rfl,rfl⟩
def wdN (l:List UInt8):Nat:=match l with
 | []=>0
 | c :: r=>if isL c=true then run isW (c :: r) else 0
theorem Bs.at {w:World} {a:Option Addr} {n cap:Nat} {s:ByteArray} (h:Bs w a n cap s) {j:Nat} (hj:j<s.size):∃ b off,a=some ⟨b,off,none⟩∧w.cell? ⟨b,off+j,none⟩=some (.int .u8 (s[j].toNat:Int)):=by
 rcases h.hat with h0 | ⟨b,off,e,hB⟩
 ·omega
 exact ⟨b,off,e,hB j hj⟩
theorem MR (s:ByteArray) {i:Nat} (h:i<s.size):wdN (s.data.toList.drop i)=if isL s[i]=true then run isW (s.data.toList.drop (i+1))+1 else 0:=by
 rw [List.drop_eq_getElem_cons (by rw [aI];exact h)];show (if isL s[i]=true then run isW (s[i] :: s.data.toList.drop (i+1)) else 0)=_;by_cases h1:isL s[i]=true
 ·rw [if_pos h1,if_pos h1,iQ (zw h1)]
 rw [if_neg h1,if_neg h1]
theorem QO (c:UInt8):isW c=(isL c || (isD c || ((c.toNat:Int)==95))):=by
 unfold isW;rw [Bool.or_assoc];congr 2;rw [eqb,decide_eq_decide];omega
theorem Jy {s:ByteArray} {i j R:Nat} (hc:i+j<s.size) (h:j+run isW (s.data.toList.drop (i+j))=R) {x:Int} (hx:((s[i+j].toNat:Nat):Int)=x) :
    (∃ l d,isL s[i+j]=l∧isD s[i+j]=d∧((l=true∨(l=false∧d=true)∨(l=false∧d=false∧(x==95)=true))∧j+1+run isW (s.data.toList.drop (i+(j+1)))=R∨(l=false∧d=false∧(x==95)=false)∧j=R)):=by
 refine ⟨_,_,rfl,rfl,?_⟩;have hst:=sU isW s hc;rw [QO,hx] at hst;rw [hst] at h;generalize isL s[i+j]=l at h ⊢;generalize isD s[i+j]=d at h ⊢;cases l
 ·cases d
  ·cases hq:(x==95)
   ·right;rw [hq] at h;exact ⟨⟨rfl,rfl,rfl⟩,by simpa using h⟩
   left;rw [hq] at h;exact ⟨.inr (.inr ⟨rfl,rfl,rfl⟩),by simp only [Bool.or_true,if_true] at h;rw [← Nat.add_assoc] ;omega⟩
  left;exact ⟨.inr (.inl ⟨rfl,rfl⟩),by simp only [Bool.true_or,Bool.or_true,if_true] at h;rw [← Nat.add_assoc];omega⟩
 left;exact ⟨.inl rfl,by simp only [Bool.true_or,if_true] at h;rw [← Nat.add_assoc];omega⟩
theorem qw (a0:Option Addr) (n0 cap:Nat) (s:ByteArray) (hs:s.size≤1048576) (i:Nat) (hi:i<s.size) (w:World) (hS:Bs w a0 n0 cap s) :
    Calls Tryz.prog 119 #[.slice a0 n0 cap,.int .i64 (i:Nat)] w fun e w' => e=.returned (.int .i64 (wdN (s.data.toList.drop i):Nat))∧w'=w:=by
 have hn0:=hS.hn;subst hn0;have S0:=Hy hS;have Z0:=Hy hs;have I0:=Hy hi;obtain ⟨b,off,rfl,hB⟩:=hS.at hi;obtain ⟨R,hR⟩:∃ R,wdN (s.data.toList.drop i)=R:=⟨_,rfl⟩;have HW:=MR s hi;rw [hR] at HW ⊢;have LC:=Hy (r9 (s[i]'hi) w);clear hS hs;by_cases hl:isL (s[i]'hi)=true
 ·rw [if_pos hl] at HW;rw [hl] at LC;have hR:=Hy (show 1+run isW (s.data.toList.drop (i+1))=R by omega);clear HW hl
  go_enter Tryz.func119,Tryz.ntmps119
  go_wp2_with fail;refine LC.o.mono ?_;rintro e w1 ⟨rfl,hw⟩;obtain rfl:w=w1:=hw.symm;clear hB LC;go_wp2_with fail
  go_loopw [5] (fun x wr => ∃ j:Nat,x=.int .i64 (j:Nat)∧Hid (i+j≤s.size)∧Hid (j+run isW (s.data.toList.drop (i+j))=R)∧wr=w) (fun x _=>s.size - (intOf x).toNat)
  case atStart=>exact ⟨1,rfl,Hy I0.o,hR,rfl⟩
  case round =>
   obtain ⟨j,rfl,hj,hr,rfl⟩:=hrel;have f1:wrap64 ((i:Int)+(j:Int))=((i+j:Nat):Int):=by have:=Z0.o;have:=hj.o;unfold wrap64;omega
   by_cases hc:i+j<s.size
   ·have q2:decide (((i+j:Nat):Int)<(s.size:Int))=true:=dT (by omega);have q3:i+j<s.size:=hc;have hjs:j<s.size:=by omega
    have f4:=Hy (aS (j:=j) (by have:=Z0.o;omega));obtain ⟨b',off',hab,hB⟩:=S0.o.at hc;cases hab;have LC:=Hy (r9 s[i+j] wr);have DC:=Hy (Gi s[i+j] wr);obtain ⟨x,hx⟩:∃ x,((s[i+j].toNat:Nat):Int)=x:=⟨_,rfl⟩;obtain ⟨l,d,hl,hd,hcs⟩:=Jy hc hr.o hx;rw [hl,hx] at LC;rw [hd,hx] at DC;rw [hx] at hB;clear hl hd hx hr hj hc;rcases hcs with ⟨rfl | ⟨rfl,rfl⟩ | ⟨rfl,rfl,q5⟩,hn⟩ | ⟨⟨rfl,rfl,q5⟩,hn⟩
    ·replace hn:=Hy hn;clear DC;go_wp2_with (go_at_call 168;refine (LC.o).mono ?_;rintro e w' ⟨rfl,rfl⟩);exact ⟨⟨j+1,by first | exact congrArg (Value.int .i64) f4.o | rfl,Hy q3,hn,trivial⟩,by first | exact aN hjs f4.o | exact jE hjs⟩
    ·replace hn:=Hy hn;go_wp2_with (first | (go_at_call 168;refine (LC.o).mono ?_;rintro e w' ⟨rfl,rfl⟩) | (go_at_call 169;refine (DC.o).mono ?_;rintro e w' ⟨rfl,rfl⟩));exact ⟨⟨j+1,by first | exact congrArg (Value.int .i64) f4.o | rfl,Hy q3,hn,trivial⟩,by first | exact aN hjs f4.o | exact jE hjs⟩
    ·replace hn:=Hy hn;go_wp2_with (first | (go_at_call 168;refine (LC.o).mono ?_;rintro e w' ⟨rfl,rfl⟩) | (go_at_call 169;refine (DC.o).mono ?_;rintro e w' ⟨rfl,rfl⟩));exact ⟨⟨j+1,by first | exact congrArg (Value.int .i64) f4.o | rfl,Hy q3,hn,trivial⟩,by first | exact aN hjs f4.o | exact jE hjs⟩
    replace hn:=Hy hn;go_wp2_with (first | (go_at_call 168;refine (LC.o).mono ?_;rintro e w' ⟨rfl,rfl⟩) | (go_at_call 169;refine (DC.o).mono ?_;rintro e w' ⟨rfl,rfl⟩));go_ret;exact ⟨oK hn.o,rfl⟩
   have q2:decide (((i+j:Nat):Int)<(s.size:Int))=false:=dF (by omega);have q3:decide (i+j<s.size)=false:=dF hc;have hz:=Ee isW s (j:=i+j) (by omega);have HD:Hid (j=R):=by unfold Hid;rw [← hr.o,hz,Nat.add_zero]
   clear hz hr hj;go_wp2_with fail;go_ret;exact ⟨oK HD.o,rfl⟩
 rw [if_neg hl] at HW;rw [Bool.not_eq_true] at hl;rw [hl] at LC;have hR:=Hy HW;clear HW hl
 go_enter Tryz.func119,Tryz.ntmps119
 go_wp2_with fail;refine LC.o.mono ?_;rintro e w1 ⟨rfl,hw⟩;obtain rfl:w=w1:=hw.symm;clear hB LC;go_wp2_with fail;go_ret;exact ⟨oK hR.o.symm,rfl⟩
theorem Al (s:ByteArray) (w:World) :
    Calls Tryz.prog 120 #[.string s] w fun e w' => e=.returned (.bool (kw s))∧w'=w:=by
 go_enter Tryz.func120,Tryz.ntmps120
 go_wp2
 all_goals go_ret
 all_goals refine ⟨aX ?_,rfl⟩
 all_goals first | (rename_i h1 h2;rw [h1] at h2;cases h2;done) | (unfold kw kwL;simp [*];done) | (exfalso;simp_all;done)
end
end Go.Proofs.YtbahfelnbofjjaaGreatDoor
