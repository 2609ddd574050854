/- Expressions, types, tables, features and. -/
import Derived.Laws.Rows
import Derived.Laws.Tables
import Derived.BigRegion
import Derived.Lib.AppendStr
import Derived.Test.YtbahfelnbofjjaaGreatDoorH04
set_option maxRecDepth 100000
set_option maxHeartbeats 16000000
namespace Go.Proofs.YtbahfelnbofjjaaGreatDoor
namespace ch
open Go.RowKit dec
theorem aJ {w w':World} {b o:Nat} {cs:List Value} (h:w.rangeAt b o cs) (hb:Below w.heap.size w w'):w'.rangeAt b o cs:=fun j v hv=>dec.keeps hb (h j v hv)
theorem dn {T:TypeId} {n:Nat} {d:TypeDesc} (hi:(Tryz.prog.info? T).map (·.size)=some n) (hu:Tryz.prog.underlying T=some d) (hd:d.isRow=true) {oi:Oper} {a:Act} {w:World} (x:Operand) (ho:oi.op=.load T x)
    (b o:Nat) (cells:Array Value) (hx:a.eval x=.pointer (some ⟨b,o,none⟩)) (hR:w.rangeAt b o cells.toList) (hc:cells.size=n):(execOp a.eval oi).run Tryz.prog w=.ok (.value (.agg cells)) w:=by
 unfold execOp;have:=run_loadVar_mid (P:=Tryz.prog) w b o T cells.toList d hR hu hd (by rw [Array.length_toList,hc];exact hi);simp only [ho,hx,Instr.loadAt,Instr.sureAddr,Sem.run_bind,Sem.run_pure,Result.andThen_ok,this,Array.toArray_toList]
structure Rw {α:Type} (sz:Nat) (V:World→Array Value→α→Prop) (w:World) (a:Option Addr) (n cap:Nat) (l:List α):Prop where
 hat:l.length=0∨∃ b off,a=some ⟨b,off,none⟩∧∀ j (h:j<l.length),∃ cs:Array Value,cs.size=sz∧w.rangeAt b (off+j * sz) cs.toList∧V w cs l[j]
 hn:l.length=n
 hcap:n≤cap
 hmax:cap≤9223372036854775807
 hno:a=none→cap=0
theorem Rw.keeps {α:Type} {sz:Nat} {V:World→Array Value→α→Prop} (hV:∀ (w w':World) (cs:Array Value) (x:α),V w cs x→Below w.heap.size w w'→V w' cs x) {w w':World} {a:Option Addr} {n cap:Nat} {l:List α}
  (h:Rw sz V w a n cap l) (hb:Below w.heap.size w w'):Rw sz V w' a n cap l :=
 { h with hat:=h.hat.imp id fun ⟨b,off,e,hA⟩=>⟨b,off,e,fun j hj=>by
   obtain ⟨cs,h1,h2,h3⟩:=hA j hj
   exact ⟨cs,h1,aJ h2 hb,hV _ _ _ _ h3 hb⟩⟩ }
theorem Rw.nil {α:Type} (sz:Nat) (V:World→Array Value→α→Prop) (w:World):Rw sz V w none 0 0 []:=⟨.inl rfl,rfl,Nat.le_refl _,by omega,fun _=>rfl⟩
def tyC (t:Ty) (ua:Option Addr) (uc:Nat):Array Value:=#[.int .i64 t.k,.slice ua t.un.length uc,.string t.of]
def TyV (w:World) (cs:Array Value) (t:Ty):Prop:=∃ ua uc,cs=tyC t ua uc∧un.Sl w ua t.un.length uc t.un
def fiC (f:Fi) (ua:Option Addr) (uc:Nat):Array Value:=#[.string f.nm,.int .i64 f.ty.k,.slice ua f.ty.un.length uc,.string f.ty.of]
def FiV (w:World) (cs:Array Value) (f:Fi):Prop:=∃ ua uc,cs=fiC f ua uc∧un.Sl w ua f.ty.un.length uc f.ty.un
theorem FiV.keeps {w w':World} {cs:Array Value} {f:Fi} (h:FiV w cs f) (hb:Below w.heap.size w w'):FiV w' cs f:=by
 obtain ⟨ua,uc,e,S⟩:=h;exact ⟨ua,uc,e,S.keeps hb⟩
abbrev Fis:=Rw 4 FiV
def tbC (t:Tb) (a:Option Addr) (c:Nat):Array Value:=#[.string t.nm,.string t.en,.slice a t.fs.length c,.int .i64 t.kp]
def TbV (w:World) (cs:Array Value) (t:Tb):Prop:=∃ a c,cs=tbC t a c∧Fis w a t.fs.length c t.fs
theorem Fis.keeps {w w':World} {a:Option Addr} {n cap:Nat} {l:List Fi} (h:Fis w a n cap l) (hb:Below w.heap.size w w'):Fis w' a n cap l:=Rw.keeps (V:=FiV) (fun _ _ _ _ h hb=>h.keeps hb) h hb
theorem TbV.keeps {w w':World} {cs:Array Value} {t:Tb} (h:TbV w cs t) (hb:Below w.heap.size w w'):TbV w' cs t:=by
 obtain ⟨a,c,e,S⟩:=h;exact ⟨a,c,e,Fis.keeps S hb⟩
abbrev Tbs':=Rw 4 TbV
theorem Tbs'.keeps {w w':World} {a:Option Addr} {n cap:Nat} {l:List Tb} (h:Tbs' w a n cap l) (hb:Below w.heap.size w w'):Tbs' w' a n cap l:=Rw.keeps (V:=TbV) (fun _ _ _ _ h hb=>h.keeps hb) h hb
def exC (h:Hd) (n:Nat) (ua:Option Addr) (uc:Nat) (aa:Option Addr) (ac:Nat):Array Value :=
 #[.int .i64 h.k,.string h.op,.string h.nm,.string h.tb,.int .i64 h.vk,.int .i64 h.vn,.string h.vs,.slice ua h.un.length uc,.int .i64 h.pa,.int .i64 h.wk,.int .i64 h.ws,.slice aa n ac]
def FoV (w:World):Fo→Nat→Nat→Prop
 | .nil,_,_=>True
 | .cons h ar r,b,off=>(∃ ua uc aa ac,w.rangeAt b off (exC h ar.len ua uc aa ac).toList∧un.Sl w ua h.un.length uc h.un∧(0≤ac∧ar.len≤9223372036854775807∧True)∧(ar.len=0∨∃ b' off',aa=some ⟨b',off',none⟩∧FoV w ar b' off'))∧FoV w r b (off+12)
theorem FoV.keeps {w w':World} (hb:Below w.heap.size w w'):∀ (F:Fo) (b off:Nat),FoV w F b off→FoV w' F b off
 | .nil,_,_,_=>trivial
 | .cons h ar r,b,off,hF=>by
  obtain ⟨⟨ua,uc,aa,ac,N,U,hc,A⟩,R⟩:=hF
  exact ⟨⟨ua,uc,aa,ac,aJ N hb,U.keeps hb,hc,A.imp id fun ⟨b',off',e,hF'⟩=>⟨b',off',e,FoV.keeps hb ar b' off' hF'⟩⟩,FoV.keeps hb r b (off+12) R⟩
structure Fs (w:World) (a:Option Addr) (n cap:Nat) (F:Fo):Prop where
 hat:F.len=0∨∃ b off,a=some ⟨b,off,none⟩∧FoV w F b off
 hn:F.len=n
 hcap:0≤cap
 hmax:n≤9223372036854775807
 hno:True
theorem Fs.keeps {w w':World} {a:Option Addr} {n cap:Nat} {F:Fo} (h:Fs w a n cap F) (hb:Below w.heap.size w w'):Fs w' a n cap F :=
 { h with hat:=h.hat.imp id fun ⟨b,off,e,hA⟩=>⟨b,off,e,FoV.keeps hb F b off hA⟩ }
theorem Fs.nil (w:World):Fs w none 0 0 .nil:=⟨.inl rfl,rfl,Nat.le_refl _,by omega,trivial⟩
structure Ec (w:World) (x:Ex) (ua:Option Addr) (uc:Nat) (aa:Option Addr) (ac:Nat):Prop where
 us:un.Sl w ua x.h.un.length uc x.h.un
 ar:Fs w aa x.ar.len ac x.ar
theorem Ec.keeps {w w':World} {x:Ex} {ua:Option Addr} {uc:Nat} {aa:Option Addr} {ac:Nat} (h:Ec w x ua uc aa ac) (hb:Below w.heap.size w w'):Ec w' x ua uc aa ac:=⟨h.us.keeps hb,h.ar.keeps hb⟩
def ExV (w:World) (cs:Array Value) (x:Ex):Prop:=∃ ua uc aa ac,cs=exC x.h x.ar.len ua uc aa ac∧Ec w x ua uc aa ac
theorem ExV.keeps {w w':World} {cs:Array Value} {x:Ex} (h:ExV w cs x) (hb:Below w.heap.size w w'):ExV w' cs x:=by
 obtain ⟨ua,uc,aa,ac,e,S⟩:=h;exact ⟨ua,uc,aa,ac,e,S.keeps hb⟩
theorem Ol {w:World} : ∀ (F:Fo) (b off j:Nat),FoV w F b off→j<F.len→∃ ua uc aa ac,w.rangeAt b (off+j * 12) (exC (F.nth j).h (F.nth j).ar.len ua uc aa ac).toList∧Ec w (F.nth j) ua uc aa ac
 | .nil,_,_,_,_,h=>absurd h (Nat.not_lt_zero _)
 | .cons h ar r,b,off,0,hF,_=>by
  obtain ⟨⟨ua,uc,aa,ac,N,U,hc,A⟩,R⟩:=hF
  exact ⟨ua,uc,aa,ac,by simpa [Fo.nth] using N,U,⟨A,rfl,hc.1,hc.2.1,hc.2.2⟩⟩
 | .cons h ar r,b,off,j+1,hF,hj=>by
  have:=Ol r b (off+12) j hF.2 (by simpa [Fo.len] using hj)
  rw [show off+(j+1) * 12=off+12+j * 12 by omega]
  exact this
theorem Oj {w:World} (b:Nat):∀ (F:Fo) (off:Nat),(∀ j,j<F.len→∃ ua uc aa ac,w.rangeAt b (off+j * 12) (exC (F.nth j).h (F.nth j).ar.len ua uc aa ac).toList∧Ec w (F.nth j) ua uc aa ac)→FoV w F b off
 | .nil,_,_=>trivial
 | .cons h ar r,off,hF=>by
  refine ⟨?_,Oj b r (off+12) fun j hj=>?_⟩
  ·obtain ⟨ua,uc,aa,ac,N,E⟩:=hF 0 (by simp [Fo.len])
   exact ⟨ua,uc,aa,ac,by simpa [Fo.nth] using N,E.us,⟨E.ar.hcap,E.ar.hmax,E.ar.hno⟩,E.ar.hat⟩
  ·have:=hF (j+1) (by simpa [Fo.len] using hj)
   rw [show off+(j+1) * 12=off+12+j * 12 by omega] at this
   exact this
theorem Fs.at {w:World} {a:Option Addr} {n cap:Nat} {F:Fo} (h:Fs w a n cap F) {j:Nat} (hj:j<F.len):∃ b off ua uc aa ac,a=some ⟨b,off,none⟩∧w.rangeAt b (off+j * 12) (exC (F.nth j).h (F.nth j).ar.len ua uc aa ac).toList∧Ec w (F.nth j) ua uc aa ac:=by
 obtain ⟨b,off,e,hF⟩:=h.hat.resolve_left (by omega);obtain ⟨ua,uc,aa,ac,h1,h2⟩:=Ol F b off j hF hj;exact ⟨b,off,ua,uc,aa,ac,e,h1,h2⟩
def feC (f:Fe) (ta:Option Addr) (tc:Nat) (ua:Option Addr) (uc:Nat) (aa:Option Addr) (ac:Nat):Array Value :=
 #[.string f.nm,.string f.en,.int .i64 f.ty.k,.slice ta f.ty.un.length tc,.string f.ty.of,
  .int .i64 f.bo.h.k,.string f.bo.h.op,.string f.bo.h.nm,.string f.bo.h.tb,.int .i64 f.bo.h.vk,.int .i64 f.bo.h.vn,.string f.bo.h.vs,.slice ua f.bo.h.un.length uc,.int .i64 f.bo.h.pa,.int .i64 f.bo.h.wk,.int .i64 f.bo.h.ws,.slice aa f.bo.ar.len ac,.int .i64 f.vr]
def FeV (w:World) (cs:Array Value) (f:Fe):Prop:=∃ ta tc ua uc aa ac,cs=feC f ta tc ua uc aa ac∧un.Sl w ta f.ty.un.length tc f.ty.un∧Ec w f.bo ua uc aa ac
theorem FeV.keeps {w w':World} {cs:Array Value} {f:Fe} (h:FeV w cs f) (hb:Below w.heap.size w w'):FeV w' cs f:=by
 obtain ⟨ta,tc,ua,uc,aa,ac,e,S,E⟩:=h;exact ⟨ta,tc,ua,uc,aa,ac,e,S.keeps hb,E.keeps hb⟩
abbrev Fes:=Rw 18 FeV
theorem Fes.keeps {w w':World} {a:Option Addr} {n cap:Nat} {l:List Fe} (h:Fes w a n cap l) (hb:Below w.heap.size w w'):Fes w' a n cap l:=Rw.keeps (V:=FeV) (fun _ _ _ _ h hb=>h.keeps hb) h hb
structure St (g:Nat) (w w':World):Prop where
 os:w'.os=w.os
 tape:w'.tape=w.tape
 output:w'.output=w.output
 size:w'.heap.size=w.heap.size
 block:∀ k,k≠g→w'.heap[k]? = w.heap[k]?
theorem St.below {g S:Nat} {w w':World} (h:St g w w') (hS:S≤g):Below S w w':=⟨h.os,h.tape,h.output,Nat.le_of_eq h.size.symm,fun k hk=>h.block k (by omega)⟩
def Blk (w:World) (g:Nat) (T:TypeId) (cs:Array Value):Prop:=w.heap[g]? = some (.cells cs T (0,0))
theorem Blk.lt {w:World} {g:Nat} {T:TypeId} {cs:Array Value} (h:Blk w g T cs):g<w.heap.size:=by
 rcases Nat.lt_or_ge g w.heap.size with h' | h'
 ·exact h'
 unfold Blk at h;rw [Array.getElem?_eq_none h'] at h;cases h
theorem Blk.new (w:World) (T:TypeId) (cs:Array Value):Blk (w.alloc (.cells cs T)) w.heap.size T cs:=Go.heap_alloc_new w _
theorem Blk.past {w:World} {g:Nat} {T:TypeId} {cs:Array Value} (h:Blk w g T cs) (o:Obj):Blk (w.alloc o) g T cs:=(Go.heap_alloc_old w o h.lt).trans h
theorem Blk.below {S:Nat} {w w':World} {g:Nat} {T:TypeId} {cs:Array Value} (h:Blk w g T cs) (M:Below S w w') (hS:g<S):Blk w' g T cs:=(M.block g hS).trans h
theorem Blk.st {k g:Nat} {w w':World} {T:TypeId} {cs:Array Value} (h:Blk w g T cs) (M:St k w w') (hn:g≠k):Blk w' g T cs:=(M.block g hn).trans h
theorem Blk.cell {w:World} {g:Nat} {T:TypeId} {cs:Array Value} (h:Blk w g T cs) (j:Nat):w.cell? ⟨g,j,none⟩=cs[j]?:=cell_of_row w g j cs T (0,0) h
theorem Blk.free {w:World} {g:Nat} {T:TypeId} {cs:Array Value} (h:Blk w g T cs) (j:Nat):w.frozen? ⟨g,j,none⟩=false:=by
 unfold Blk at h;simp [World.frozen?,h]
theorem Blk.setCell {w:World} {g:Nat} {T:TypeId} {cs:Array Value} (h:Blk w g T cs) (j:Nat) (v:Value):Blk (w.setCell ⟨g,j,none⟩ v) g T (cs.setIfInBounds j v)∧St g w (w.setCell ⟨g,j,none⟩ v):=by
 refine ⟨?_,rfl,rfl,rfl,by simp [World.setCell],fun k hk=>Below.heap_setCell w ⟨g,j,none⟩ v k hk⟩;unfold Blk at *;simp [World.setCell,Array.getElem?_modify,h]
theorem jg (w:World) (g:Nat) (cs:Array Value):St g w (w.setRow g cs):=by
 refine ⟨rfl,rfl,rfl,by simp [World.setRow],fun k hk=>?_⟩;simp only [World.setRow,Array.getElem?_modify];rw [if_neg (fun e=>hk e.symm)]
theorem iE {w:World} {g:Nat} {T:TypeId} {old:Array Value} (h:Blk w g T old) (cs:Array Value):Blk (w.setRow g cs) g T cs:=by
 unfold Blk at *;simp [World.setRow,Array.getElem?_modify,h]
def nU:TypeDesc→Bool
 | .struct _=>true
 | .array _ _=>true
 | _=>false
theorem aF {T:TypeId} {n:Nat} (hi:(Tryz.prog.info? T).map (·.size)=some n) {ops:Array Oper} {rest:List Oper} {o:Oper} {a:Act} {w:World} {Q:Exit→Act→World→Prop} (x y:Operand) (ho:o.op=.store T x y) (hgd:o.guard=none)
  (g:Nat) (T':TypeId) (cells old:Array Value) (hx:a.eval x=.pointer (some ⟨g,0,none⟩)) (hy:a.eval y=.agg cells) (hB:Blk w g T' old) (hs:old.size=n) (hc:cells.size=n) (h1:cells.all (·.oneCell')=true)
  (h:∀ w',Blk w' g T' cells→St g w w'→wpList Tryz.prog ops Q rest (a.put o.dst undef) w'):wpList Tryz.prog ops Q (o :: rest) a w :=
 wpList_store_row hgd T x y ho g cells hx hy T' old hB (by rw [hc];exact hi) (by omega) h1 (h _ (iE hB cells) (jg w g cells))
theorem aG {T:TypeId} {n:Nat} {d:TypeDesc} (hi:(Tryz.prog.info? T).map (·.size)=some n) (hu:Tryz.prog.underlying T=some d) (hd:nU d=true)
  {ops:Array Oper} {rest:List Oper} {o:Oper} {a:Act} {w:World} {Q:Exit→Act→World→Prop} (x:Operand) (ho:o.op=.load T x) (hgd:o.guard=none)
  (g:Nat) (T':TypeId) (cells:Array Value) (hx:a.eval x=.pointer (some ⟨g,0,none⟩)) (hB:Blk w g T' cells) (hc:cells.size=n)
  (h:wpList Tryz.prog ops Q rest (a.put o.dst (.agg cells)) w):wpList Tryz.prog ops Q (o :: rest) a w :=
 wpList_load_row hgd T x ho g hx T' cells (0,0) d hB hu (by cases d <;> first | rfl | cases hd) (by rw [hc];exact hi) h
theorem bn {T:TypeId} {n:Nat} {d:TypeDesc} (hi:(Tryz.prog.info? T).map (·.size)=some n) (hu:Tryz.prog.underlying T=some d) (hd:nU d=true)
  {fn:Func} {R:Ending→World→Prop} {p:Tmp} (h:fn.results=#[.cell p T]) (tmps:Array Value) (w:World) (g:Nat) (T':TypeId) (cells:Array Value) (hp:tmps.getD p undef=.pointer (some ⟨g,0,none⟩))
  (hB:Blk w g T' cells) (hc:cells.size=n) (hR:R (.returned (.agg cells)) w):bodyPost Tryz.prog fn R .ret ⟨tmps,[]⟩ w :=
 bodyPost_ret (results_cell_row h tmps w g T' cells (0,0) d hp hB hu (by cases d <;> first | rfl | cases hd) (by rw [hc];exact hi)) rfl hR
theorem aY {T:TypeId} {n:Nat} {d:TypeDesc} (hi:(Tryz.prog.info? T).map (·.size)=some n) (hu:Tryz.prog.underlying T=some d) (hd:nU d=true) {oi:Oper} {a:Act} {w:World} (x:Operand) (ho:oi.op=.load T x)
    (g:Nat) (T':TypeId) (cells:Array Value) (hx:a.eval x=.pointer (some ⟨g,0,none⟩)) (hB:Blk w g T' cells) (hc:cells.size=n):(execOp a.eval oi).run Tryz.prog w=.ok (.value (.agg cells)) w:=by
 unfold execOp;have:=run_loadVar_row (P:=Tryz.prog) w g T' T cells (0,0) d hB hu (by cases d <;> first | rfl | cases hd) (by rw [hc];exact hi);simp only [ho,hx,Instr.loadAt,Instr.sureAddr,Sem.run_bind,Sem.run_pure,Result.andThen_ok,this]
theorem aN:(Tryz.prog.info? 29).map (·.size)=some 12:=by kernel_rfl
theorem dx:(Tryz.prog.info? 31).map (·.size)=some 3:=by kernel_rfl
theorem lV:(Tryz.prog.info? 88).map (·.size)=some 4:=by kernel_rfl
theorem gF:(Tryz.prog.info? 48).map (·.size)=some 4:=by kernel_rfl
theorem iL:(Tryz.prog.info? 51).map (·.size)=some 18:=by kernel_rfl
theorem fB:(Tryz.prog.info? 82).map (·.size)=some 2:=by kernel_rfl
theorem Oe:(Tryz.prog.info? 23).map (·.size)=some 3:=by kernel_rfl
theorem jM:(Tryz.prog.info? 26).map (·.size)=some 2:=by kernel_rfl
theorem Blk.keeps {w w':World} {g:Nat} {T:TypeId} {cs:Array Value} (h:Blk w g T cs) (b:Below w.heap.size w w'):Blk w' g T cs:=h.below b h.lt
theorem Blk.drew {w:World} {g:Nat} {T:TypeId} {cs:Array Value} (h:Blk w g T cs):Blk w.drew g T cs:=h
theorem bS {T:TypeId} {n:Nat} {d:TypeDesc} (hi:(Tryz.prog.info? T).map (·.size)=some n) (hu:Tryz.prog.underlying T=some d) (hd:d.isRow=true) {ops:Array Oper} {rest:List Oper} {o:Oper} {a:Act} {w:World} {Q:Exit→Act→World→Prop} (x:Operand) (ho:o.op=.load T x) (hgd:o.guard=none)
  (b off:Nat) (cells:Array Value) (hx:a.eval x=.pointer (some ⟨b,off,none⟩)) (hR:w.rangeAt b off cells.toList) (hc:cells.size=n)
  (h:wpList Tryz.prog ops Q rest (a.put o.dst (.agg cells)) w):wpList Tryz.prog ops Q (o :: rest) a w :=
 wpList_load_mid hgd T x ho b off hx cells.toList d hR hu hd (by rw [Array.length_toList,hc];exact hi) (by rw [Array.toArray_toList];exact h)
theorem eO {T:TypeId} {n:Nat} {d:TypeDesc} (hi:(Tryz.prog.info? T).map (·.size)=some n) (hu:Tryz.prog.underlying T=some d) (hd:nU d=true)
    {ops:Array Oper} {rest:List Oper} {o:Oper} {a:Act} {w:World} {Q:Exit→Act→World→Prop} (x:Operand) (ho:o.op=.load T x) (hgd:Region.wanted o (yielded ops a.tmps)=true)
    (g:Nat) (T':TypeId) (cells:Array Value) (hx:a.eval x=.pointer (some ⟨g,0,none⟩)) (hB:Blk w g T' cells) (hc:cells.size=n)
    (h:wpList Tryz.prog ops Q rest (a.put o.dst (.agg cells)) w):wpList Tryz.prog ops Q (o :: rest) a w:=by
 refine wpList_step fun K hK=>?_;rw [if_pos hgd];exact wp_load_row T x ho g hx T' cells (0,0) d hB hu (by cases d <;> first | rfl | cases hd) (by rw [hc];exact hi) (hK _ _ h)
theorem eG {T:TypeId} {n:Nat} {d:TypeDesc} (hi:(Tryz.prog.info? T).map (·.size)=some n) (hu:Tryz.prog.underlying T=some d) (hd:d.isRow=true) {ops:Array Oper} {rest:List Oper} {o:Oper} {a:Act} {w:World} {Q:Exit→Act→World→Prop} (x:Operand) (ho:o.op=.load T x) (hgd:Region.wanted o (yielded ops a.tmps)=true)
    (b off:Nat) (cells:Array Value) (hx:a.eval x=.pointer (some ⟨b,off,none⟩)) (hR:w.rangeAt b off cells.toList) (hc:cells.size=n)
    (h:wpList Tryz.prog ops Q rest (a.put o.dst (.agg cells)) w):wpList Tryz.prog ops Q (o :: rest) a w:=by
 refine wpList_step fun K hK=>?_;rw [if_pos hgd];exact wp_load_mid T x ho b off hx cells.toList d hR hu hd (by rw [Array.length_toList,hc];exact hi) (hK _ _ (by rw [Array.toArray_toList];exact h))
theorem aR (h:Hd) (n:Nat) (ua:Option Addr) (uc:Nat) (aa:Option Addr) (ac:Nat):(exC h n ua uc aa ac).all (·.oneCell')=true:=by simp [exC,Value.oneCell']
def Num (n:Int) (w:World) (e:Ending) (w':World):Prop:=e=.returned (.int .i64 n)∧Below w.heap.size w w'
theorem aP {j:Nat} (h:j<9223372036854775807):wrap64 ((j:Int)+1)=((j+1:Nat):Int):=by unfold wrap64;omega
theorem aU {n j:Nat} (h:j<n) {x:Int} (hx:x=((j+1:Nat):Int)):n - (intOf (Value.int .i64 x)).toNat<n - (intOf (Value.int .i64 ((j:Nat):Int))).toNat:=by
 subst hx;simp only [intOf,Int.toNat_natCast];omega
theorem Sk {F:Fo} {j:Nat} (h:j<F.len) (n:Int):szA (F.drop j) n=szA (F.drop (j+1)) (wrap64 (n+szE (F.nth j))):=by
 rw [jS F j h];rfl
theorem UM {F:Fo} {j:Nat} (h:j<F.len) (n:Int):dpA (F.drop j) n=dpA (F.drop (j+1)) (max n (dpE (F.nth j))):=by
 rw [jS F j h];rfl
theorem Mw (x y:Int):(if x<y then y else x)=max x y:=by omega
theorem Jd (n:Nat) (IH:∀ (x:Ex) (ua aa:Option Addr) (uc ac:Nat) (w:World),x.ar.sz<n→Fs w aa x.ar.len ac x.ar→Calls Tryz.prog 93 #[.agg (exC x.h x.ar.len ua uc aa ac)] w (Num (szE x) w))
    (x:Ex) (ua aa:Option Addr) (uc ac:Nat) (w:World) (hz:x.ar.sz=n) (hA:Fs w aa x.ar.len ac x.ar):Calls Tryz.prog 93 #[.agg (exC x.h x.ar.len ua uc aa ac)] w (Num (szE x) w):=by
 have A1:=Hy hA;have IH':=Hy IH;have HZ:=Hy hz;have hS:=Hy (show szE x=szA (x.ar.drop 0) 1 by rw [drop_zero];rfl);have hlen:=hA.hcap;have hmax:=hA.hmax;have hL:=Hy (show x.ar.len≤9223372036854775807 by omega);clear hA IH hz hlen hmax;unfold exC
 go_enter Tryz.func93,Tryz.ntmps93
 go_wp2_with fail
 go_loopw [2,8] (fun vn vi wr => ∃ (j:Nat) (m:Int),vn=.int .i64 m∧vi=.int .i64 (j:Nat)∧Hid (j≤x.ar.len)∧Hid (szE x=szA (x.ar.drop j) m)∧Hid (Below w.heap.size w wr)) (fun _ vi _=>x.ar.len - (intOf vi).toNat)
 case atStart=>exact ⟨0,1,rfl,rfl,Hy zl,hS,Hy (aj (b0 w) _)⟩
 case round =>
  clear hS;obtain ⟨j,m,rfl,rfl,hj,hS,hb⟩:=hrel;by_cases hlt:j<x.ar.len
  ·have q1:decide ((j:Int)<(x.ar.len:Int))=true:=dT (by omega);obtain ⟨bk,off,va,vc,wa,wc,rfl,R1,E1⟩:=(A1.o.keeps hb.o).at hlt;replace hS:=Hy (hS.o.trans (Sk hlt m));have f4:=Hy (aP (j:=j) (by have:=hL.o;omega));have hsz:=Hy (kE x.ar j hlt);have i1:(j:Int)<(x.ar.len:Int):=by omega
   replace E1:=Hy E1;replace R1:=Hy R1;clear A1 hj;generalize hy:x.ar.nth j=y at *;go_wp2_with (first | (refine bS aN uy29 rfl (.tmp 10) rfl rfl bk (off+j * 12) (exC y.h y.ar.len va vc wa wc) rfl R1.o rfl ?_) | (refine aF aN (.tmp 4) (.tmp 11) rfl rfl _ _ _ _ rfl rfl (Blk.new _ _ _) rfl rfl (aR _ _ _ _ _ _) ?_;intro w5 L5 hs5;have bb5:=(aj (b0 wr) _).trans (hs5.below lr)) | (refine aG aN uy29 rfl (.tmp 4) rfl rfl _ _ _ rfl L5 rfl ?_));have B5:=Hy (hb.o.trans (bb5.mono hb.o.size));have E5:=Hy (E1.o.keeps bb5);clear bb5 hs5 L5 R1 E1;refine (IH'.o y va wa vc wc w5 (by have:=hsz.o;have:=HZ.o;omega) E5.o.ar).mono ?_;rintro e w6 ⟨rfl,b6⟩;have B6:=Hy (ak B5.o b6);clear b6 B5 E5 hb;go_wp2_with fail;exact ⟨⟨j+1,_,rfl,congrArg (Value.int .i64) f4.o,Hy hlt,hS,B6⟩,aU hlt f4.o⟩
  have q1:decide ((j:Int)<(x.ar.len:Int))=false:=dF (by omega);replace hS:=Hy (show szE x=m by rw [hS.o,jo _ _ (by omega)];rfl);clear A1 hj;go_wp2_with fail;go_ret;exact ⟨by rw [hS.o];rfl,hb.o⟩
theorem pW (x:Ex) (ua aa:Option Addr) (uc ac:Nat) (w:World) (hA:Fs w aa x.ar.len ac x.ar):Calls Tryz.prog 93 #[.agg (exC x.h x.ar.len ua uc aa ac)] w (Num (szE x) w):=by
 have key:∀ n,∀ (x:Ex) (ua aa:Option Addr) (uc ac:Nat) (w:World),x.ar.sz<n→Fs w aa x.ar.len ac x.ar→Calls Tryz.prog 93 #[.agg (exC x.h x.ar.len ua uc aa ac)] w (Num (szE x) w):=by
  intro n
  induction n with
  | zero=>intro x ua aa uc ac w h;exact absurd h (Nat.not_lt_zero _)
  | succ n ih =>
    intro x ua aa uc ac w h hA
    exact Jd x.ar.sz (fun x' ua' aa' uc' ac' w' h' => ih x' ua' aa' uc' ac' w' (by omega)) x ua aa uc ac w rfl hA
 exact key _ x ua aa uc ac w ls hA
theorem Ir (n:Nat) (IH:∀ (x:Ex) (ua aa:Option Addr) (uc ac:Nat) (w:World),x.ar.sz<n→Fs w aa x.ar.len ac x.ar→Calls Tryz.prog 94 #[.agg (exC x.h x.ar.len ua uc aa ac)] w (Num (dpE x) w))
    (x:Ex) (ua aa:Option Addr) (uc ac:Nat) (w:World) (hz:x.ar.sz=n) (hA:Fs w aa x.ar.len ac x.ar):Calls Tryz.prog 94 #[.agg (exC x.h x.ar.len ua uc aa ac)] w (Num (dpE x) w):=by
 have A1:=Hy hA;have IH':=Hy IH;have HZ:=Hy hz;have hS:=Hy (show dpA x.ar 0=dpA (x.ar.drop 0) 0 by rw [drop_zero]);have hlen:=hA.hcap;have hmax:=hA.hmax;have hL:=Hy (show x.ar.len≤9223372036854775807 by omega);clear hA IH hz hlen hmax;unfold exC
 go_enter Tryz.func94,Tryz.ntmps94
 go_wp2_with fail
 go_loopw [2,8] (fun vn vi wr => ∃ (j:Nat) (m:Int),vn=.int .i64 m∧vi=.int .i64 (j:Nat)∧Hid (j≤x.ar.len)∧Hid (dpA x.ar 0=dpA (x.ar.drop j) m)∧Hid (Below w.heap.size w wr)) (fun _ vi _=>x.ar.len - (intOf vi).toNat)
 case atStart=>exact ⟨0,0,rfl,rfl,Hy zl,hS,Hy (aj (b0 w) _)⟩
 case round =>
  clear hS;obtain ⟨j,m,rfl,rfl,hj,hS,hb⟩:=hrel;by_cases hlt:j<x.ar.len
  ·have q1:decide ((j:Int)<(x.ar.len:Int))=true:=dT (by omega);obtain ⟨bk,off,va,vc,wa,wc,rfl,R1,E1⟩:=(A1.o.keeps hb.o).at hlt;replace hS:=Hy (hS.o.trans (UM hlt m));have f4:=Hy (aP (j:=j) (by have:=hL.o;omega));have hsz:=Hy (kE x.ar j hlt);have i1:(j:Int)<(x.ar.len:Int):=by omega
   replace E1:=Hy E1;replace R1:=Hy R1;clear A1 hj;generalize hy:x.ar.nth j=y at *;go_wp2_with (first | (refine bS aN uy29 rfl (.tmp 10) rfl rfl bk (off+j * 12) (exC y.h y.ar.len va vc wa wc) rfl R1.o rfl ?_) | (refine aF aN (.tmp 4) (.tmp 11) rfl rfl _ _ _ _ rfl rfl (Blk.new _ _ _) rfl rfl (aR _ _ _ _ _ _) ?_;intro w5 L5 hs5;have bb5:=(aj (b0 wr) _).trans (hs5.below lr)) | (refine aG aN uy29 rfl (.tmp 4) rfl rfl _ _ _ rfl L5 rfl ?_));have B5:=Hy (hb.o.trans (bb5.mono hb.o.size));have E5:=Hy (E1.o.keeps bb5);clear bb5 hs5 L5 R1 E1;refine (IH'.o y va wa vc wc w5 (by have:=hsz.o;have:=HZ.o;omega) E5.o.ar).mono ?_;rintro e w6 ⟨rfl,b6⟩;have B6:=Hy (ak B5.o b6);have mx:=Mw m (dpE y);clear b6 B5 E5 hb;go_wp2_with fail;exact ⟨⟨j+1,_,rfl,congrArg (Value.int .i64) f4.o,Hy hlt,hS,B6⟩,aU hlt f4.o⟩
  have q1:decide ((j:Int)<(x.ar.len:Int))=false:=dF (by omega);replace hS:=Hy (show dpE x=wrap64 (m+1) by unfold dpE;rw [hS.o,jo _ _ (by omega)];rfl);clear A1 hj;go_wp2_with fail;go_ret;exact ⟨by rw [hS.o];rfl,hb.o⟩
theorem KX (x:Ex) (ua aa:Option Addr) (uc ac:Nat) (w:World) (hA:Fs w aa x.ar.len ac x.ar):Calls Tryz.prog 94 #[.agg (exC x.h x.ar.len ua uc aa ac)] w (Num (dpE x) w):=by
 have key:∀ n,∀ (x:Ex) (ua aa:Option Addr) (uc ac:Nat) (w:World),x.ar.sz<n→Fs w aa x.ar.len ac x.ar→Calls Tryz.prog 94 #[.agg (exC x.h x.ar.len ua uc aa ac)] w (Num (dpE x) w):=by
  intro n
  induction n with
  | zero=>intro x ua aa uc ac w h;exact absurd h (Nat.not_lt_zero _)
  | succ n ih =>
    intro x ua aa uc ac w h hA
    exact Ir x.ar.sz (fun x' ua' aa' uc' ac' w' h' => ih x' ua' aa' uc' ac' w' (by omega)) x ua aa uc ac w rfl hA
 exact key _ x ua aa uc ac w ls hA
end ch
namespace un
open Go.RowKit dec
theorem Hz (c:Int) (w:World):Calls Tryz.prog 266 #[.int .u8 c] w fun e w' => e=.returned (.bool (rF c))∧w=w':=by
 go_enter Tryz.func266,Tryz.ntmps266
 go_wp2_with fail
 all_goals go_ret
 all_goals refine ⟨bA ?_,rfl⟩
 all_goals unfold rF
 all_goals simp_all
 all_goals omega
theorem KV (c:Int) (w:World):Calls Tryz.prog 267 #[.int .u8 c] w fun e w' => e=.returned (.bool (Ct c))∧w=w':=by
 go_enter Tryz.func267,Tryz.ntmps267
 go_wp2_with fail
 all_goals go_ret
 all_goals refine ⟨bA ?_,rfl⟩
 all_goals unfold Ct
 all_goals simp_all
 all_goals omega
theorem zf (n:Int) (w:World):Calls Tryz.prog 218 #[.int .i64 n] w fun e w' => e=.returned (.bool (!far n))∧w=w':=by
 go_enter Tryz.func218,Tryz.ntmps218
 go_wp2_with fail
 all_goals go_ret
 all_goals refine ⟨bA ?_,rfl⟩
 all_goals unfold far
 all_goals rw [Bool.eq_iff_iff]
 all_goals simp
 all_goals omega
theorem RL (s:ByteArray) {j:Nat} (hj:j<s.size):(s.data.toList.drop j).all wch=(wch s[j] && (s.data.toList.drop (j+1)).all wch):=by
 have h:j<s.data.toList.length:=by rw [← Lib.size_eq];exact hj
 rw [List.drop_eq_getElem_cons h];rfl
theorem OG (s:ByteArray) {j:Nat} (hj:s.size≤j):(s.data.toList.drop j).all wch=true:=by
 rw [List.drop_eq_nil_of_le (by rw [← Lib.size_eq];exact hj)];rfl
theorem OB (s:ByteArray) (h0:0<s.size):word s=(decide (s.size≤24) && (rF s[0].toNat && (s.data.toList.drop 0).all wch)):=by
 unfold word zS;rw [← Lib.size_eq,List.drop_zero];have h:0<s.data.toList.length:=by rw [← Lib.size_eq];exact h0
 have e:s.data.toList.headD 0=s[0]:=by
  have:=List.drop_eq_getElem_cons h;rw [List.drop_zero] at this;rw [this];rfl
 rw [e];congr 1;rw [decide_eq_decide];omega
theorem IJ (s:ByteArray) (h0:s.size=0):word s=false:=by
 unfold word zS;rw [← Lib.size_eq,h0];rfl
theorem toList_nil (s:ByteArray):(s.toList==[])=decide (s.size=0):=by
 have e:s.size=s.toList.length:=by rw [ByteArray.toList_eq];rfl
 rw [e];cases s.toList <;> rfl
theorem RJ (c:UInt8):wch c=(rF c.toNat || (Ct c.toNat || decide ((c.toNat:Int)=95))):=by
 unfold wch;congr 2;rw [Bool.eq_iff_iff];simp;omega
theorem aP {j:Nat} (h:j<9223372036854775807):wrap64 ((j:Int)+1)=((j+1:Nat):Int):=by unfold wrap64;omega
theorem aU {n j:Nat} (h:j<n) (f:wrap64 ((j:Int)+1)=((j+1:Nat):Int)):n - (intOf (Value.int .i64 (wrap64 ((j:Int)+1)))).toNat<n - (intOf (Value.int .i64 (j:Int))).toNat:=by
 rw [f];clear f;show n - (((j+1:Nat):Int)).toNat<n - ((j:Nat):Int).toNat;rw [Int.toNat_natCast,Int.toNat_natCast];omega
theorem wh (s:ByteArray) (w:World):Calls Tryz.prog 217 #[.string s] w fun e w' => e=.returned (.bool (word s))∧w=w':=by
 have L:=Hy Hz;have D:=Hy KV;by_cases h0:s.size=0
 ·rw [IJ s h0];have q1:(s.toList==[])=true:=by rw [toList_nil,h0];rfl
  clear L D
  go_enter Tryz.func217,Tryz.ntmps217
  go_wp2_with fail;go_ret;exact ⟨rfl,rfl⟩
 have h0':0<s.size:=by omega
 have hw:=OB s h0';have q1:(s.toList==[])=false:=by rw [toList_nil];exact dF h0
 by_cases h24:s.size≤24
 ·have q2:decide (24<(s.size:Int))=false:=dF (by omega);rw [dT h24,L_l] at hw;have hS:=Hy h24;clear h24;cases hl:rF s[0].toNat
  ·rw [hl,L_k] at hw;rw [hw]
   go_enter Tryz.func217,Tryz.ntmps217
   go_wp2_with fail;refine (L.o _ _).mono ?_;rintro e w' ⟨rfl,rfl⟩;go_wp2_with fail;go_ret;exact ⟨rfl,rfl⟩
  rw [hl,L_l] at hw;have H:=Hy hw;clear hw
  go_enter Tryz.func217,Tryz.ntmps217
  go_wp2_with fail;refine (L.o _ _).mono ?_;rintro e w' ⟨rfl,rfl⟩;go_wp2_with fail
  go_loopw [20] (fun vi wr => ∃ j:Nat,vi=.int .i64 (j:Nat)∧j≤s.size∧Hid (word s=(s.data.toList.drop j).all wch)∧w=wr) (fun vi _=>s.size - (intOf vi).toNat)
  case atStart=>exact ⟨0,rfl,by omega,H,rfl⟩
  case round =>
   obtain ⟨j,rfl,hj,hd,rfl⟩:=hrel;clear H;by_cases hc:j<s.size
   ·have hst:=hd.o;rw [RL s hc,RJ] at hst;have q3:decide ((j:Int)<(s.size:Int))=true:=dT (by omega);have f4:=Hy (aP (j:=j) (by have:=hS.o;omega));generalize hJ:((s[j].toNat:Nat):Int)=c at hst;clear hd;cases hlc:rF c
    ·cases hdc:Ct c
     ·by_cases h95:c=95
      ·rw [hlc,hdc,dT h95] at hst;have q5:(c==95)=true:=beq_iff_eq.2 h95;simp only [Bool.false_or,L_l] at hst;have H:=Hy hst;clear hst h95;go_wp2_with fail;refine (L.o _ _).mono ?_;rintro e w' ⟨rfl,rfl⟩;go_wp2_with fail;refine (D.o _ _).mono ?_;rintro e w' ⟨rfl,rfl⟩;go_wp2_with fail;go_roundw
       case rel=>exact ⟨j+1,congrArg (Value.int .i64) f4.o,hc,H,trivial⟩
       case measure=>exact aU hc f4.o
      rw [hlc,hdc,dF h95] at hst;have q5:(c==95)=false:=bF h95;simp only [Bool.false_or,L_k] at hst;have H:=Hy hst;clear hst h95;go_wp2_with fail;refine (L.o _ _).mono ?_;rintro e w' ⟨rfl,rfl⟩;go_wp2_with fail;refine (D.o _ _).mono ?_;rintro e w' ⟨rfl,rfl⟩;go_wp2_with fail;go_ret;exact ⟨bA H.o.symm,rfl⟩
     rw [hlc,hdc] at hst;simp only [Bool.true_or,Bool.false_or,L_l] at hst;have H:=Hy hst;clear hst;go_wp2_with fail;refine (L.o _ _).mono ?_;rintro e w' ⟨rfl,rfl⟩;go_wp2_with fail;refine (D.o _ _).mono ?_;rintro e w' ⟨rfl,rfl⟩;go_wp2_with fail;go_roundw
     case rel=>exact ⟨j+1,congrArg (Value.int .i64) f4.o,hc,H,trivial⟩
     case measure=>exact aU hc f4.o
    rw [hlc] at hst;simp only [Bool.true_or,L_l] at hst;have H:=Hy hst;clear hst;go_wp2_with fail;refine (L.o _ _).mono ?_;rintro e w' ⟨rfl,rfl⟩;go_wp2_with fail;go_roundw
    case rel=>exact ⟨j+1,congrArg (Value.int .i64) f4.o,hc,H,trivial⟩
    case measure=>exact aU hc f4.o
   have hst:=hd.o;rw [OG s (by omega)] at hst;have H:=Hy hst;clear hst hd;have q3:decide ((j:Int)<(s.size:Int))=false:=dF (by omega);go_wp2_with fail;go_ret;exact ⟨bA H.o.symm,rfl⟩
 rw [dF h24,L_k] at hw;have q2:decide (24<(s.size:Int))=true:=dT (by omega);rw [hw]
 go_enter Tryz.func217,Tryz.ntmps217
 go_wp2_with fail;go_ret;exact ⟨rfl,rfl⟩
def jK (l r:List Fa):Bool:=decide (l=r)
theorem AQ {l r:List Fa} (h:l.length≠r.length):jK l r=false:=dF fun e=>h (by rw [e])
theorem AU {l r:List Fa} {j:Nat} (h1:l.length≤j) (h2:r.length≤j) (h:l.take j=r.take j):jK l r=true:=by
 rw [L_q h1,L_q h2] at h;exact dT h
theorem yZ {l r:List Fa} {j:Nat} (h1:j<l.length) (h2:j<r.length) (h:l.take j=r.take j) (e1:(gt l j).1=(gt r j).1) (e2:(gt l j).2=(gt r j).2):l.take (j+1)=r.take (j+1):=by
 rw [gY h1,gY h2,h,Prod.ext e1 e2]
theorem EF {l r:List Fa} {j:Nat} (h:gt l j≠gt r j):jK l r=false:=dF fun e=>h (by rw [e])
theorem xC (a b:ByteArray):(a.toList==b.toList)=decide (a=b):=by
 by_cases h:a=b
 ·rw [h];simp
 rw [dF h];exact bF fun e=>h (toList_inj e)
theorem KP (a:Option Addr) (n cap:Nat) (b:Option Addr) (m cap2:Nat) (l r:List Fa) (w:World) (hA:Sl w a n cap l) (hB:Sl w b m cap2 r) :
    Calls Tryz.prog 312 #[.slice a n cap,.slice b m cap2] w fun e w' => e=.returned (.bool (jK l r))∧Below w.heap.size w w':=by
 have h1:=Hy hA;have h2:=Hy hB;clear hA hB;by_cases hnm:n=m
 ·subst hnm;have qn:((n:Int) != (n:Int))=false:=by simp
  go_enter Tryz.func312,Tryz.ntmps312
  go_wp2_with fail
  go_loopw [13] (fun i wr => ∃ j:Nat,i=.int .i64 (j:Nat)∧Hid (j≤n)∧Hid (l.take j=r.take j)∧Below w.heap.size w wr) (fun i _=>n - (intOf i).toNat)
  case atStart=>exact ⟨0,rfl,Hy zl,Hy rfl,b0 w⟩
  case round =>
   obtain ⟨j,rfl,hj,ht,hb⟩:=hrel;by_cases hlt:j<n
   ·have q1:decide ((j:Int)<(n:Int))=true:=dT (by omega);obtain ⟨A1,hn,hc,hm,_⟩:=h1.o.keeps hb;obtain ⟨B1,hn2,hc2,hm2,_⟩:=h2.o.keeps hb;obtain ⟨bk,off,rfl,hC⟩:=A1.resolve_left (by omega);obtain ⟨bk2,off2,rfl,hD⟩:=B1.resolve_left (by omega);obtain ⟨c0,c1⟩:=hC j (by omega);obtain ⟨d0,d1⟩:=hD j (by omega);have f4:=Hy (aP (j:=j) (by omega));have hN:=Hy (fun e1 e2=>yZ (l:=l) (r:=r) (j:=j) (by omega) (by omega) ht.o e1 e2);have hX:=Hy (fun h=>EF (l:=l) (r:=r) (j:=j) h);have hbh:=Hy hb;clear hC hD A1 B1 h1 h2 ht hj hc hm hc2 hm2 hn hn2 hb;generalize gt l j=x at *;generalize gt r j=y at *;by_cases p1:x.1.toList=y.1.toList
    ·by_cases p2:x.2=y.2
     ·have hT:=Hy (hN.o (toList_inj p1) p2);clear hN hX;go_wp2_with fail
      go_region
      go_wp2_with fail;refine ⟨⟨j+1,congrArg (Value.int .i64) f4.o,Hy hlt,hT,hbh.o.drew⟩,aU hlt f4.o⟩
     have hT:=Hy (hX.o fun e=>p2 (by rw [e]));clear hN hX;go_wp2_with fail
     go_region
     go_wp2_with fail;go_ret;exact ⟨bA hT.o.symm,hbh.o.drew⟩
    have hT:=Hy (hX.o fun e=>p1 (by rw [e]));clear hN hX;go_wp2_with fail
    go_region
    go_wp2_with fail;go_ret;exact ⟨bA hT.o.symm,hbh.o.drew⟩
   have q1:decide ((j:Int)<(n:Int))=false:=dF (by omega);have hr:=AU (by have:=h1.o.hn;omega) (by have:=h2.o.hn;omega) ht.o;go_wp2_with fail;go_ret;exact ⟨bA hr.symm,hb⟩
 have hl:=AQ (l:=l) (r:=r) (by rw [h1.o.hn,h2.o.hn];exact hnm);have qn:((n:Int) != (m:Int))=true:=by rw [bne_iff_ne];omega
 clear h1 h2;rw [hl]
 go_enter Tryz.func312,Tryz.ntmps312
 go_wp2_with fail;go_ret;exact ⟨rfl,b0 w⟩
theorem ze (a:Option Addr) (n cap:Nat) (b:Option Addr) (m cap2:Nat) (l r:List Fa) (w:World) (hA:Sl w a n cap l) (hB:Sl w b m cap2 r) :
    Calls Tryz.prog 75 #[.slice a n cap,.slice b m cap2] w fun e w' => e=.returned (.bool (jK l r))∧Below w.heap.size w w':=by
 have h1:=Hy hA;have h2:=Hy hB;clear hA hB;by_cases hnm:n=m
 ·subst hnm;have qn:((n:Int) != (n:Int))=false:=by simp
  go_enter Tryz.func75,Tryz.ntmps75
  go_wp2_with fail
  go_loopw [5] (fun i wr => ∃ j:Nat,i=.int .i64 (j:Nat)∧Hid (j≤n)∧Hid (l.take j=r.take j)∧Below w.heap.size w wr) (fun i _=>n - (intOf i).toNat)
  case atStart=>exact ⟨0,rfl,Hy zl,Hy rfl,b0 w⟩
  case round =>
   obtain ⟨j,rfl,hj,ht,hb⟩:=hrel;by_cases hlt:j<n
   ·have q1:decide ((j:Int)<(n:Int))=true:=dT (by omega);obtain ⟨A1,hn,hc,hm,_⟩:=h1.o.keeps hb;obtain ⟨B1,hn2,hc2,hm2,_⟩:=h2.o.keeps hb;obtain ⟨bk,off,rfl,hC⟩:=A1.resolve_left (by omega);obtain ⟨bk2,off2,rfl,hD⟩:=B1.resolve_left (by omega);obtain ⟨c0,c1⟩:=hC j (by omega);obtain ⟨d0,d1⟩:=hD j (by omega);have f4:=Hy (aP (j:=j) (by omega));have hN:=Hy (fun e1 e2=>yZ (l:=l) (r:=r) (j:=j) (by omega) (by omega) ht.o e1 e2);have hX:=Hy (fun h=>EF (l:=l) (r:=r) (j:=j) h);have hbh:=Hy hb;clear hC hD A1 B1 h1 h2 ht hj hc hm hc2 hm2 hn hn2 hb;generalize gt l j=x at *;generalize gt r j=y at *;by_cases p1:x.1.toList=y.1.toList
    ·by_cases p2:x.2=y.2
     ·have hT:=Hy (hN.o (toList_inj p1) p2);clear hN hX;go_wp2_with fail
      go_region
      go_wp2_with fail;refine ⟨⟨j+1,congrArg (Value.int .i64) f4.o,Hy hlt,hT,hbh.o.drew⟩,aU hlt f4.o⟩
     have hT:=Hy (hX.o fun e=>p2 (by rw [e]));clear hN hX;go_wp2_with fail
     go_region
     go_wp2_with fail;go_ret;exact ⟨bA hT.o.symm,hbh.o.drew⟩
    have hT:=Hy (hX.o fun e=>p1 (by rw [e]));clear hN hX;go_wp2_with fail
    go_region
    go_wp2_with fail;go_ret;exact ⟨bA hT.o.symm,hbh.o.drew⟩
   have q1:decide ((j:Int)<(n:Int))=false:=dF (by omega);have hr:=AU (by have:=h1.o.hn;omega) (by have:=h2.o.hn;omega) ht.o;go_wp2_with fail;go_ret;exact ⟨bA hr.symm,hb⟩
 have hl:=AQ (l:=l) (r:=r) (by rw [h1.o.hn,h2.o.hn];exact hnm);have qn:((n:Int) != (m:Int))=true:=by rw [bne_iff_ne];omega
 clear h1 h2;rw [hl]
 go_enter Tryz.func75,Tryz.ntmps75
 go_wp2_with fail;go_ret;exact ⟨rfl,b0 w⟩
theorem LJ (a:Option Addr) (n cap:Nat) (b:Option Addr) (m cap2:Nat) (l r:List Fa) (w:World) (hA:Sl w a n cap l) (hB:Sl w b m cap2 r) :
    Calls Tryz.prog 298 #[.slice a n cap,.slice b m cap2] w fun e w' => e=.returned (.bool (jK l r))∧Below w.heap.size w w':=by
 have C:=Hy (KP a n cap b m cap2 l r w hA hB);clear hA hB
 go_enter Tryz.func298,Tryz.ntmps298
 go_wp2_with fail;refine C.o.mono ?_;rintro e w1 ⟨rfl,b1⟩;go_wp2_with fail;go_ret;exact ⟨rfl,b1⟩
end un
section
open Go.RowKit dec
theorem Oc:(Tryz.prog.info? 5).map (fun i=>(i.zero,i.size,i.bytes))=some (some (.int .u8 0),1,1):=by kernel_rfl
def bv (l:List UInt8):List Value:=l.map fun c=>Value.int .u8 (c.toNat:Int)
theorem K8 (l:List UInt8):(bv l).length=l.length:=by unfold bv;rw [List.length_map]
theorem zD (l r:List UInt8):bv (l++r)=bv l++bv r:=by unfold bv;rw [List.map_append]
theorem tC (s:ByteArray):Lib.strCells s=bv s.data.toList:=by
 unfold Lib.strCells bv;simp
structure Bs (w:World) (a:Option Addr) (n cap:Nat) (s:ByteArray):Prop where
 hat:s.size=0∨∃ b off,a=some ⟨b,off,none⟩∧∀ j (hj:j<s.size),w.cell? ⟨b,off+j,none⟩=some (.int .u8 (s[j].toNat:Int))
 hn:s.size=n
 hcap:n≤cap
 hmax:cap≤9223372036854775807
 hno:a=none→cap=0
theorem Bs.keeps {w w1:World} {a:Option Addr} {n cap:Nat} {s:ByteArray} (h:Bs w a n cap s) (hb:Below w.heap.size w w1):Bs w1 a n cap s :=
 { h with hat:=h.hat.imp id fun ⟨b,off,e,hB⟩=>⟨b,off,e,fun j hj=>dec.keeps hb (hB j hj)⟩ }
theorem Bs.str {w:World} {a:Option Addr} {n cap:Nat} {s:ByteArray} (h:Bs w a n cap s):(convert 56 9 (.slice a n cap)).run Tryz.prog w=.ok (.string s) w:=by
 have hn:=h.hn;subst hn;rcases h.hat with h0 | ⟨b,off,rfl,hB⟩
 ·have hs:=nN h0;subst hs;rw [run_convert_bytes_string w 56 9 5 a _ cap uy56 uy5 uy9];show (Conv.bytesToString (.slice a 0 cap)).run Tryz.prog w=_;cases a <;> simp [Conv.bytesToString,loadCells]
  all_goals rfl
 have hl:s.data.toList.length=s.size:=aI s;have:=run_convert_bytes_arg (P:=Tryz.prog) w 56 5 uy56 uy5 b off s.size cap (s.data.toList.map fun c=>(c.toNat:Int)) (by rw [List.length_map,hl]) (fun i hi=>by
   rw [hB i hi,List.getD_eq_getElem?_getD,List.getElem?_map,List.getElem?_eq_getElem (by rw [hl];exact hi)]
   rfl) _ uy9
 rw [this];have e:strOfNums (s.data.toList.map fun c=>(c.toNat:Int))=s:=by
  unfold strOfNums;rw [List.map_map];refine (congrArg (fun l:List UInt8=>(⟨l.toArray⟩:ByteArray)) ?_).trans (yR s);refine (List.map_congr_left fun c _=>?_).trans (List.map_id _);show UInt8.ofNat ((c.toNat:Int)).toNat=c;rw [Int.toNat_natCast,UInt8.ofNat_toNat]
 rw [e]
theorem gV (w:World) (s:ByteArray) (hs:s.size≤281474976710656):∃ w' c,(convert 9 56 (.string s)).run Tryz.prog w=.ok (.slice (some ⟨w.heap.size,0,none⟩) s.size c) w'∧Bs w' (some ⟨w.heap.size,0,none⟩) s.size c s∧Below w.heap.size w w':=by
 refine ⟨Lib.bytesWorld w 5 s,grownCap w s.size 0 5,Lib.run_convert_string_bytes w 9 56 5 s uy9 uy56 uy5,⟨.inr ⟨_,_,rfl,fun j hj=>?_⟩,rfl,grownCap_ge _ _ _ _,?_,fun h=>by cases h⟩,iW _ _ _⟩
 ·rw [Nat.zero_add,Lib.bytesWorld_cell w 5 s j hj];rw [List.getD_eq_getElem?_getD,List.getElem?_eq_getElem (by rw [aI];exact hj)];rfl
 have:=grownCap_le_maxLen w s.size 0 5 (by unfold maxLen;omega);unfold maxLen at this;omega
end
namespace un
open Go.RowKit dec
theorem Wu (a b:ByteArray):(Op.bytesLess a.toList b.toList || a.toList==b.toList) = !Op.bytesLess b.toList a.toList:=by
 cases h:Op.bytesLess b.toList a.toList
 ·by_cases e:a.toList=b.toList
  ·rw [e];simp
  rw [nk b.toList a.toList h fun e' => e e'.symm];rfl
 have h1:=JX (a:=b) (b:=a) h;have h2:=rE (a:=b) (b:=a) h;unfold ltS at h1;rw [h1,Bool.false_or];exact bF fun e=>h2 (toList_inj e.symm)
theorem Rl {l:List Fa} {j:Nat} (h:j<l.length) (b:ByteArray):iR b (l.drop j)=if ck1 b (gt l j)=0 then iR (gt l j).1 (l.drop (j+1)) else ck1 b (gt l j):=by
 rw [sQ h];rfl
theorem UY {l:List Fa} {j:Nat} (h:l.length≤j) (b:ByteArray):iR b (l.drop j)=0:=by
 rw [List.drop_eq_nil_of_le h];rfl
theorem fA (a:Option Addr) (n cap:Nat) (l:List Fa) (w:World) (hS:Sl w a n cap l) :
    Calls Tryz.prog 153 #[.slice a n cap] w fun e w' => e=.returned (.int .i64 (ck l))∧Below w.heap.size w w':=by
 have W1:=Hy wh;have R1:=Hy zf;have hck:ck l=if 4<n then 2 else iR .empty (l.drop 0):=by rw [List.drop_zero,← hS.hn];rfl
 have S0:=Hy hS;clear hS;by_cases h4:4<n
 ·rw [hck,if_pos h4];have q1:decide (4<(n:Int))=true:=dT (by omega);clear W1 R1 S0 hck
  go_enter Tryz.func153,Tryz.ntmps153
  go_wp2_with fail;go_ret;exact ⟨rfl,b0 w⟩
 rw [if_neg h4] at hck;rw [hck];have hn:=Hy (Nat.le_of_not_lt h4);have q1:decide (4<(n:Int))=false:=dF (by omega);clear h4 hck
 go_enter Tryz.func153,Tryz.ntmps153
 go_wp2_with fail
 go_loopw [3,11] (fun vb vi wr => ∃ (j:Nat) (b:ByteArray),vb=.string b∧vi=.int .i64 (j:Nat)∧Hid (j≤n)∧Hid (iR .empty (l.drop 0)=iR b (l.drop j))∧Below w.heap.size w wr) (fun _ vi _=>n - (intOf vi).toNat)
 case atStart=>exact ⟨0,.empty,rfl,rfl,Hy (by omega),rfl,b0 w⟩
 case round =>
  obtain ⟨j,b,rfl,rfl,hj,hd,hb⟩:=hrel;by_cases hc:j<n
  ·have hlen:=S0.o.hn;have hst:=hd.o;rw [Rl (by have:=S0.o.hn;omega) b] at hst;obtain ⟨bk,off,rfl,hC⟩:=(S0.o.keeps hb).hat.resolve_left (by omega);obtain ⟨c0,c1⟩:=hC j (by have:=S0.o.hn;omega);have q2:decide ((j:Int)<(n:Int))=true:=dT (by omega);have f4:=Hy (aP (j:=j) (by have:=hn.o;have:=hc;omega));have q3:j<n:=hc;generalize (gt l j)=x at *;have H:=Hy hst;have hbh:=Hy hb;clear hd hst hlen hC hb;cases hw:word x.1
   ·have hk:ck1 b x=1:=by unfold ck1;rw [if_pos hw]
    go_wp2_with fail;refine (W1.o _ _).mono ?_;rintro e w' ⟨rfl,rfl⟩;go_wp2_with fail;go_ret;exact ⟨fq (by rw [H.o,if_neg (by rw [hk];decide),hk]),aj hbh.o _⟩
   by_cases h0:x.2=0
   ·have hk:ck1 b x=70:=by unfold ck1;rw [hw,if_neg (by decide),if_pos (.inl h0)]
    have q4:(x.2==0)=true:=beq_iff_eq.2 h0;replace hk:=Hy hk;replace h0:=Hy h0;go_wp2_with fail;refine (W1.o _ _).mono ?_;rintro e w' ⟨rfl,rfl⟩;go_wp2_with fail;replace hk:=hk.o;go_ret;exact ⟨fq (by rw [H.o,if_neg (by rw [hk];decide),hk]),aj hbh.o _⟩
   have q4:(x.2==0)=false:=bF h0;cases hf:far x.2
   ·have q8:=Wu x.1 b;cases hl:Op.bytesLess b.toList x.1.toList
    ·have hk:ck1 b x=3:=by unfold ck1 ltS;rw [hw,hf,hl,if_neg (by decide),if_neg (by simp [h0]),if_neg (by decide)]
     replace h0:=Hy h0;rw [hl,Bool.not_false] at q8;go_wp2_with fail;refine (W1.o _ _).mono ?_;rintro e w' ⟨rfl,rfl⟩;go_wp2_with fail;refine (R1.o _ _).mono ?_;rintro e w' ⟨rfl,rfl⟩;go_wp2_with fail;go_ret;exact ⟨fq (by rw [H.o,if_neg (by rw [hk];decide),hk]),aj hbh.o _⟩
    have hk:ck1 b x=0:=by unfold ck1 ltS;rw [hw,hf,hl,if_neg (by decide),if_neg (by simp [h0]),if_pos rfl]
    replace h0:=Hy h0;rw [hl,Bool.not_true] at q8;go_wp2_with fail;refine (W1.o _ _).mono ?_;rintro e w' ⟨rfl,rfl⟩;go_wp2_with fail;refine (R1.o _ _).mono ?_;rintro e w' ⟨rfl,rfl⟩;go_wp2_with fail;go_roundw
    case rel=>exact ⟨j+1,x.1,rfl,congrArg (Value.int .i64) f4.o,Hy hc,Hy (H.o.trans (if_pos hk)),aj hbh.o _⟩
    case measure=>exact aU hc f4.o
   have hk:ck1 b x=70:=by unfold ck1;rw [hw,hf,if_neg (by decide),if_pos (.inr rfl)]
   replace h0:=Hy h0;go_wp2_with fail;refine (W1.o _ _).mono ?_;rintro e w' ⟨rfl,rfl⟩;go_wp2_with fail;refine (R1.o _ _).mono ?_;rintro e w' ⟨rfl,rfl⟩;go_wp2_with fail;go_ret;exact ⟨fq (by rw [H.o,if_neg (by rw [hk];decide),hk]),aj hbh.o _⟩
  have hst:=UY (l:=l) (j:=j) (by have:=S0.o.hn;omega) b;have H:=Hy hst;have hd2:=Hy hd.o;clear hst hd;have q3:decide ((j:Int)<(n:Int))=false:=dF (by omega);have hbh:=Hy hb;clear hb;go_wp2_with fail;go_ret;exact ⟨fq (hd2.o.trans H.o).symm,hbh.o⟩
end un
namespace ch
open Go.RowKit dec
def Bl (b:Bool) (w:World) (e:Ending) (w':World):Prop:=e=.returned (.bool b)∧Below w.heap.size w w'
theorem aL {b c:Bool} {w w':World} (h:b=c) (hb:Below w.heap.size w w'):Bl c w (.returned (.bool b)) w':=⟨by rw [h],hb⟩
theorem bK {b c:Int} {w w':World} (h:b=c) (hb:Below w.heap.size w w'):Num c w (.returned (.int .i64 b)) w':=⟨by rw [h],hb⟩
theorem eqL (s:ByteArray) (l:List UInt8):(s.toList==l)=decide (s=⟨l.toArray⟩):=by
 rw [← un.xC];congr 1;rw [ByteArray.toList_eq]
theorem eqI (x y:Int):(x==y)=decide (x=y):=by by_cases h:x=y <;> simp [h]
theorem eqE (s:ByteArray):s.toList.isEmpty=decide (s=.empty):=by
 have:=eqL s [];rw [show (s.toList==[])=s.toList.isEmpty by cases s.toList <;> rfl] at this;exact this
theorem eH (w:World) (c d:Array Value) (T U:TypeId):Blk ((w.alloc (.cells c T)).alloc (.cells d U)) w.heap.size T c∧Blk ((w.alloc (.cells c T)).alloc (.cells d U)) (w.heap.size+1) U d:=by
 refine ⟨(Blk.new w T c).past _,?_⟩;have:=Blk.new (w.alloc (.cells c T)) U d;simpa using this
theorem bB (w:World) (c d:Obj):Below w.heap.size w ((w.alloc c).alloc d):=aj (aj (b0 w) _) _
theorem BM (t:Ty) (ua:Option Addr) (uc:Nat) (w:World):Calls Tryz.prog 97 #[.agg (tyC t ua uc)] w (Bl (num t) w):=by
 unfold tyC
 go_enter Tryz.func97,Tryz.ntmps97
 go_wp2
 all_goals go_ret
 all_goals exact aL (by simp only [num,eqI] at * <;> simp_all) (aj (b0 w) _)
theorem qP (a b:Ty) (ua ub:Option Addr) (uc ud:Nat) (w:World) (hA:un.Sl w ua a.un.length uc a.un) (hB:un.Sl w ub b.un.length ud b.un) :
    Calls Tryz.prog 31 #[.agg (tyC a ua uc),.agg (tyC b ub ud)] w (Bl (zU a b) w):=by
 have bb:=bB w (.cells (tyC a ua uc) 31) (.cells (tyC b ub ud) 31);have C:=Hy (un.ze _ _ _ _ _ _ _ _ _ (hA.keeps bb) (hB.keeps bb));have G:=eH w (tyC a ua uc) (tyC b ub ud) 31 31;have G1:=Hy G.1;have G2:=Hy G.2;have BB:=Hy bb;clear hA hB bb G;unfold tyC at *;have hd:=Hy (show zU a b=(decide (a.k=b.k) && (un.jK a.un b.un && decide (a.of=b.of))) from rfl);generalize un.jK a.un b.un=s at *;by_cases h1:a.k=b.k
 ·have q1:(a.k==b.k)=true:=by simp [h1]
  rw [dT h1,L_l] at hd;clear h1
  go_enter Tryz.func31,Tryz.ntmps31
  go_wp2_with fail;refine C.o.mono ?_;rintro e w1 ⟨rfl,b1⟩;have B1:=Hy (ak BB.o b1);have g1:=(G1.o.keeps b1).cell 2;have g2:=(G2.o.keeps b1).cell 2;simp only [sz2,sz3,sz4] at g1 g2;clear b1 C G1 G2 BB;cases s
  ·go_wp2_with fail;go_ret;exact aL hd.o.symm B1.o
  go_wp2_with fail;go_ret;exact aL (by rw [hd.o,un.xC];rfl) B1.o
 have q1:(a.k==b.k)=false:=by simp [h1]
 rw [dF h1,L_k] at hd;clear h1 C
 go_enter Tryz.func31,Tryz.ntmps31
 go_wp2_with fail;go_ret;exact aL hd.o.symm BB.o
theorem Aj (f:un.Fa) (hs:f.1.size≤140737488355328) (w:World) (T:Tabs w):Calls Tryz.prog 152 #[.agg #[.string f.1,.int .i64 f.2]] w (Bl (!name f.1) w):=by
 have C:=Hy (gI f.1 hs (w.alloc (.cells #[.string f.1,.int .i64 f.2] 82)) (T.stays (aj (b0 w) _)))
 go_enter Tryz.func152,Tryz.ntmps152
 go_wp2_with fail;refine C.o.mono ?_;rintro e w1 ⟨rfl,b1⟩;have B1:=Hy (ak (aj (b0 w) _) b1);clear b1 C;go_wp2_with fail;go_ret;exact aL rfl B1.o
def ixA {α:Type} (p:α→Bool):List α→Nat→Int
 | [],_ => -1
 | x :: r,n=>if p x=true then (n:Nat) else ixA p r (n+1)
theorem yC {α:Type} (p:α→Bool):∀ (l:List α) (n:Nat),decide (0≤ixA p l n)=l.any p
 | [],_=>rfl
 | x :: r,n=>by
  unfold ixA
  cases h:p x
  ·simp [h,yC p r (n+1)]
  ·simp [h]
theorem J9 {α:Type} (p:α→Bool) {l:List α} {j:Nat} (h:j<l.length):ixA p (l.drop j) j=if p l[j]=true then (j:Int) else ixA p (l.drop (j+1)) (j+1):=by
 rw [List.drop_eq_getElem_cons h];rfl
theorem FE {α:Type} (p:α→Bool) {l:List α} {j:Nat} (h:l.length≤j):ixA p (l.drop j) j = -1:=by
 rw [List.drop_eq_nil_of_le h];rfl
theorem DI (a:Option Addr) (n cap:Nat) (l:List un.Fa) (w:World) (hA:un.Sl w a n cap l) (hs:∀ f ∈ l,f.1.size≤140737488355328) (T:Tabs w) :
    Calls Tryz.prog 219 #[.slice a n cap,.func (.func 152) #[] #[]] w (Num (ixA (fun f => !name f.1) l 0) w):=by
 have A1:=Hy hA;have hS:=Hy hs;have T0:=Hy T;have hI:=Hy (show ixA (fun f:un.Fa => !name f.1) l 0=ixA (fun f => !name f.1) (l.drop 0) 0 by rw [List.drop_zero]);have hn:=hA.hn;subst hn;have hL:=Hy (show l.length≤9223372036854775807 by have:=hA.hcap;have:=hA.hmax;omega);clear hA hs T
 go_enter Tryz.func219,Tryz.ntmps219
 go_wp2_with fail
 go_loopw [8] (fun vi wr => ∃ (j:Nat),vi=.int .i64 (j:Nat)∧Hid (j≤l.length)∧Hid (ixA (fun f:un.Fa => !name f.1) l 0=ixA (fun f => !name f.1) (l.drop j) j)∧Hid (Below w.heap.size w wr)) (fun vi _=>l.length - (intOf vi).toNat)
 case atStart=>exact ⟨0,rfl,Hy zl,hI,Hy (b0 w)⟩
 case round =>
  clear hI;obtain ⟨j,rfl,hj,hI,hb⟩:=hrel;by_cases hlt:j<l.length
  ·have q1:decide ((j:Int)<(l.length:Int))=true:=dT (by omega);obtain ⟨bk,off,rfl,hC⟩:=(A1.o.keeps hb.o).hat.resolve_left (by omega);obtain ⟨c0,c1⟩:=hC j hlt;have f4:=Hy (aP (j:=j) (by have:=hL.o;omega));have i1:(j:Int)<(l.length:Int):=by omega
   replace hI:=hI.o.trans (J9 _ hlt);have C:=Hy (Aj (un.gt l j) (hS.o _ (un.jH hlt)) wr (T0.o.stays hb.o));rw [show l[j]=un.gt l j from (un.fJ hlt).symm] at hI;clear hC A1 hS T0 hj;generalize un.gt l j=x at *;go_wp2_with fail;refine C.o.mono ?_;rintro e w1 ⟨rfl,b1⟩;have B1:=Hy (ak hb.o b1);clear b1 C c0 c1 hb;generalize hq:(!name x.1)=q at *;cases q
   ·rw [if_neg (by decide)] at hI;have hI:=Hy hI;go_wp2_with fail;exact ⟨⟨j+1,congrArg (Value.int .i64) f4.o,Hy hlt,hI,B1⟩,aU hlt f4.o⟩
   rw [if_pos rfl] at hI;have hI:=Hy hI;go_wp2_with fail;go_ret;exact bK hI.o.symm B1.o
  have q1:decide ((j:Int)<(l.length:Int))=false:=dF (by omega);have hI:=Hy (hI.o.trans (FE _ (by omega)));clear A1 hS T0 hj;go_wp2_with fail;go_ret;exact bK hI.o.symm hb.o
theorem yO (a:Option Addr) (n cap:Nat) (l:List un.Fa) (w:World) (hA:un.Sl w a n cap l) (hs:∀ f ∈ l,f.1.size≤140737488355328) (T:Tabs w) :
    Calls Tryz.prog 154 #[.slice a n cap,.func (.func 152) #[] #[]] w (Bl (l.any fun f => !name f.1) w):=by
 have C:=Hy (DI a n cap l w hA hs T);have hq:=Hy (yC (fun f:un.Fa => !name f.1) l 0);clear hA hs T;generalize ixA (fun f:un.Fa => !name f.1) l 0=i at *
 go_enter Tryz.func154,Tryz.ntmps154
 go_wp2_with fail;refine C.o.mono ?_;rintro e w1 ⟨rfl,b1⟩;have B1:=Hy b1;clear b1 C;go_wp2_with fail;go_ret;exact aL hq.o B1.o
theorem OA {s:ByteArray} (h:un.word s=true):s.size≤24:=(un.nK h).2
theorem vC (a:Option Addr) (n cap:Nat) (l:List un.Fa) (w:World) (hA:un.Sl w a n cap l) (T:Tabs w) :
    Calls Tryz.prog 98 #[.slice a n cap] w (Bl (okU l) w):=by
 have C:=Hy (un.fA a n cap l w hA);by_cases h:un.ck l=0
 ·have hs:∀ f ∈ l,f.1.size≤140737488355328:=fun f hf=>by have:=OA (((un.K5 l).1 h).good f hf).1;omega
  have q1:(un.ck l==0)=true:=by simp [h]
  have D:=Hy (fun W hS T=>yO a n cap l W hS hs T);have hq:=Hy (show okU l = !l.any fun f => !name f.1 by unfold okU;rw [dT h,L_l];simp [List.all_eq_not_any_not]);have A1:=Hy hA;have T0:=Hy T;clear hA T hs h;generalize un.ck l=c at *;generalize (l.any fun f => !name f.1)=d at *
  go_enter Tryz.func98,Tryz.ntmps98
  go_wp2_with fail;refine C.o.mono ?_;rintro e w1 ⟨rfl,b1⟩;have B1:=Hy b1;clear b1 C;go_wp2_with fail;refine (D.o w1 (A1.o.keeps B1.o) (T0.o.stays B1.o)).mono ?_;rintro e w2 ⟨rfl,b2⟩;have B2:=Hy (ak B1.o b2);clear b2 D A1 T0;go_wp2_with fail;go_ret;exact aL hq.o.symm B2.o
 have q1:(un.ck l==0)=false:=by simp [h]
 have hq:=Hy (show okU l=false by unfold okU;rw [dF h,L_k]);clear hA T h;generalize un.ck l=c at *
 go_enter Tryz.func98,Tryz.ntmps98
 go_wp2_with fail;refine C.o.mono ?_;rintro e w1 ⟨rfl,b1⟩;have B1:=Hy b1;clear b1 C;go_wp2_with fail;go_ret;exact aL hq.o.symm B1.o
end ch
end Go.Proofs.YtbahfelnbofjjaaGreatDoor
