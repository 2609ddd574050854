/-
  Blocks with their cells; arms of a walk that load and store whole values; a round's index; Size and Depth of every expression: the program and the reference; The small functions: letters, digits, ranges, words; the reference's; units.Same, slices.Equal, the reference's Same: whether two lists are equal; Bytes in memory: slices that are read, bytes of the call's own, conversions; The reference: letters, digits, words, keywords, names; units.Check; Number types; equal types; units whose names are names; Texts of units as plain data: printing, cutting, reading back; What the printer prints, as plain data: the texts of units, types, windows, literals, expressions, tables, features.
-/
import Derived.BigRegion
import Derived.Lib.AppendStr
import Derived.Test.YtbahfelnbofjjaaGreatDoorX04
set_option maxRecDepth 100000
set_option maxHeartbeats 16000000
namespace Go.Proofs.YtbahfelnbofjjaaGreatDoor
namespace ch
open Go.RowKit dec
structure St (g:Nat) (w w':World):Prop where
 os:w'.os=w.os
 tape:w'.tape=w.tape
 output:w'.output=w.output
 size:w'.heap.size=w.heap.size
 block:∀ k,k≠g→w'.heap[k]? = w.heap[k]?
theorem St.below {g S:Nat} {w w':World} (h:St g w w') (hS:S≤g):Below S w w':=⟨h.os,h.tape,h.output,Nat.le_of_eq h.size.symm,fun k hk=>h.block k (by omega)⟩
def Blk (w:World) (g:Nat) (T:TypeId) (cs:Array Value):Prop:=w.heap[g]? = some (.cells cs T (0,0))
theorem Blk.lt {w:World} {g:Nat} {T:TypeId} {cs:Array Value} (h:Blk w g T cs):g<w.heap.size:=by
 rcases Nat.lt_or_ge g w.heap.size with h' | h'
 ·exact h'
 unfold Blk at h;rw [Array.getElem?_eq_none h'] at h;cases h
theorem Blk.new (w:World) (T:TypeId) (cs:Array Value):Blk (w.alloc (.cells cs T)) w.heap.size T cs:=Go.heap_alloc_new w _
theorem Blk.past {w:World} {g:Nat} {T:TypeId} {cs:Array Value} (h:Blk w g T cs) (o:Obj):Blk (w.alloc o) g T cs:=(Go.heap_alloc_old w o h.lt).trans h
theorem Blk.below {S:Nat} {w w':World} {g:Nat} {T:TypeId} {cs:Array Value} (h:Blk w g T cs) (M:Below S w w') (hS:g<S):Blk w' g T cs:=(M.block g hS).trans h
theorem Blk.st {k g:Nat} {w w':World} {T:TypeId} {cs:Array Value} (h:Blk w g T cs) (M:St k w w') (hn:g≠k):Blk w' g T cs:=(M.block g hn).trans h
theorem Blk.cell {w:World} {g:Nat} {T:TypeId} {cs:Array Value} (h:Blk w g T cs) (j:Nat):w.cell? ⟨g,j,none⟩=cs[j]?:=cell_of_row w g j cs T (0,0) h
theorem Blk.free {w:World} {g:Nat} {T:TypeId} {cs:Array Value} (h:Blk w g T cs) (j:Nat):w.frozen? ⟨g,j,none⟩=false:=by
 unfold Blk at h;simp [World.frozen?,h]
theorem Blk.setCell {w:World} {g:Nat} {T:TypeId} {cs:Array Value} (h:Blk w g T cs) (j:Nat) (v:Value):Blk (w.setCell ⟨g,j,none⟩ v) g T (cs.setIfInBounds j v)∧St g w (w.setCell ⟨g,j,none⟩ v):=by
 refine ⟨?_,rfl,rfl,rfl,by simp [World.setCell],fun k hk=>Below.heap_setCell w ⟨g,j,none⟩ v k hk⟩;unfold Blk at *;simp [World.setCell,Array.getElem?_modify,h]
theorem iq (w:World) (g:Nat) (cs:Array Value):St g w (w.setRow g cs):=by
 refine ⟨rfl,rfl,rfl,by simp [World.setRow],fun k hk=>?_⟩;simp only [World.setRow,Array.getElem?_modify];rw [if_neg (fun e=>hk e.symm)]
theorem gB {w:World} {g:Nat} {T:TypeId} {old:Array Value} (h:Blk w g T old) (cs:Array Value):Blk (w.setRow g cs) g T cs:=by
 unfold Blk at *;simp [World.setRow,Array.getElem?_modify,h]
def nu:TypeDesc→Bool
 | .struct _=>true
 | .array _ _=>true
 | _=>false
theorem aB {T:TypeId} {n:Nat} (hi:(Tryz.prog.info? T).map (·.size)=some n) {ops:Array Oper} {rest:List Oper} {o:Oper} {a:Act} {w:World} {Q:Exit→Act→World→Prop} (x y:Operand) (ho:o.op=.store T x y) (hgd:o.guard=none)
  (g:Nat) (T':TypeId) (cells old:Array Value) (hx:a.eval x=.pointer (some ⟨g,0,none⟩)) (hy:a.eval y=.agg cells) (hB:Blk w g T' old) (hs:old.size=n) (hc:cells.size=n) (h1:cells.all (·.oneCell')=true)
  (h:∀ w',Blk w' g T' cells→St g w w'→wpList Tryz.prog ops Q rest (a.put o.dst undef) w'):wpList Tryz.prog ops Q (o :: rest) a w :=
 wpList_store_row hgd T x y ho g cells hx hy T' old hB (by rw [hc];exact hi) (by omega) h1 (h _ (gB hB cells) (iq w g cells))
theorem aH {T:TypeId} {n:Nat} {d:TypeDesc} (hi:(Tryz.prog.info? T).map (·.size)=some n) (hu:Tryz.prog.underlying T=some d) (hd:nu d=true)
  {ops:Array Oper} {rest:List Oper} {o:Oper} {a:Act} {w:World} {Q:Exit→Act→World→Prop} (x:Operand) (ho:o.op=.load T x) (hgd:o.guard=none)
  (g:Nat) (T':TypeId) (cells:Array Value) (hx:a.eval x=.pointer (some ⟨g,0,none⟩)) (hB:Blk w g T' cells) (hc:cells.size=n)
  (h:wpList Tryz.prog ops Q rest (a.put o.dst (.agg cells)) w):wpList Tryz.prog ops Q (o :: rest) a w :=
 wpList_load_row hgd T x ho g hx T' cells (0,0) d hB hu (by cases d <;> first | rfl | cases hd) (by rw [hc];exact hi) h
theorem bG {T:TypeId} {n:Nat} {d:TypeDesc} (hi:(Tryz.prog.info? T).map (·.size)=some n) (hu:Tryz.prog.underlying T=some d) (hd:nu d=true)
  {fn:Func} {R:Ending→World→Prop} {p:Tmp} (h:fn.results=#[.cell p T]) (tmps:Array Value) (w:World) (g:Nat) (T':TypeId) (cells:Array Value) (hp:tmps.getD p undef=.pointer (some ⟨g,0,none⟩))
  (hB:Blk w g T' cells) (hc:cells.size=n) (hR:R (.returned (.agg cells)) w):bodyPost Tryz.prog fn R .ret ⟨tmps,[]⟩ w :=
 bodyPost_ret (results_cell_row h tmps w g T' cells (0,0) d hp hB hu (by cases d <;> first | rfl | cases hd) (by rw [hc];exact hi)) rfl hR
theorem aR {T:TypeId} {n:Nat} {d:TypeDesc} (hi:(Tryz.prog.info? T).map (·.size)=some n) (hu:Tryz.prog.underlying T=some d) (hd:nu d=true) {oi:Oper} {a:Act} {w:World} (x:Operand) (ho:oi.op=.load T x)
    (g:Nat) (T':TypeId) (cells:Array Value) (hx:a.eval x=.pointer (some ⟨g,0,none⟩)) (hB:Blk w g T' cells) (hc:cells.size=n):(execOp a.eval oi).run Tryz.prog w=.ok (.value (.agg cells)) w:=by
 unfold execOp;have:=run_loadVar_row (P:=Tryz.prog) w g T' T cells (0,0) d hB hu (by cases d <;> first | rfl | cases hd) (by rw [hc];exact hi);simp only [ho,hx,Instr.loadAt,Instr.sureAddr,Sem.run_bind,Sem.run_pure,Result.andThen_ok,this]
theorem aF:(Tryz.prog.info? 29).map (·.size)=some 12:=by kernel_rfl
theorem pQ:(Tryz.prog.info? 31).map (·.size)=some 3:=by kernel_rfl
theorem nH:(Tryz.prog.info? 88).map (·.size)=some 4:=by kernel_rfl
theorem Qy:(Tryz.prog.info? 48).map (·.size)=some 4:=by kernel_rfl
theorem dY:(Tryz.prog.info? 82).map (·.size)=some 2:=by kernel_rfl
theorem J4:(Tryz.prog.info? 23).map (·.size)=some 3:=by kernel_rfl
theorem iQ:(Tryz.prog.info? 26).map (·.size)=some 2:=by kernel_rfl
theorem Blk.keeps {w w':World} {g:Nat} {T:TypeId} {cs:Array Value} (h:Blk w g T cs) (b:Below w.heap.size w w'):Blk w' g T cs:=h.below b h.lt
theorem Blk.drew {w:World} {g:Nat} {T:TypeId} {cs:Array Value} (h:Blk w g T cs):Blk w.drew g T cs:=h
theorem dh {T:TypeId} {n:Nat} {d:TypeDesc} (hi:(Tryz.prog.info? T).map (·.size)=some n) (hu:Tryz.prog.underlying T=some d) (hd:d.isRow=true) {ops:Array Oper} {rest:List Oper} {o:Oper} {a:Act} {w:World} {Q:Exit→Act→World→Prop} (x:Operand) (ho:o.op=.load T x) (hgd:o.guard=none)
  (b off:Nat) (cells:Array Value) (hx:a.eval x=.pointer (some ⟨b,off,none⟩)) (hR:w.rangeAt b off cells.toList) (hc:cells.size=n)
  (h:wpList Tryz.prog ops Q rest (a.put o.dst (.agg cells)) w):wpList Tryz.prog ops Q (o :: rest) a w :=
 wpList_load_mid hgd T x ho b off hx cells.toList d hR hu hd (by rw [Array.length_toList,hc];exact hi) (by rw [Array.toArray_toList];exact h)
theorem bg {T:TypeId} {n:Nat} {d:TypeDesc} (hi:(Tryz.prog.info? T).map (·.size)=some n) (hu:Tryz.prog.underlying T=some d) (hd:nu d=true)
    {ops:Array Oper} {rest:List Oper} {o:Oper} {a:Act} {w:World} {Q:Exit→Act→World→Prop} (x:Operand) (ho:o.op=.load T x) (hgd:Region.wanted o (yielded ops a.tmps)=true)
    (g:Nat) (T':TypeId) (cells:Array Value) (hx:a.eval x=.pointer (some ⟨g,0,none⟩)) (hB:Blk w g T' cells) (hc:cells.size=n)
    (h:wpList Tryz.prog ops Q rest (a.put o.dst (.agg cells)) w):wpList Tryz.prog ops Q (o :: rest) a w:=by
 refine wpList_step fun K hK=>?_;rw [if_pos hgd];exact wp_load_row T x ho g hx T' cells (0,0) d hB hu (by cases d <;> first | rfl | cases hd) (by rw [hc];exact hi) (hK _ _ h)
theorem nQ {T:TypeId} {n:Nat} {d:TypeDesc} (hi:(Tryz.prog.info? T).map (·.size)=some n) (hu:Tryz.prog.underlying T=some d) (hd:d.isRow=true) {ops:Array Oper} {rest:List Oper} {o:Oper} {a:Act} {w:World} {Q:Exit→Act→World→Prop} (x:Operand) (ho:o.op=.load T x) (hgd:Region.wanted o (yielded ops a.tmps)=true)
    (b off:Nat) (cells:Array Value) (hx:a.eval x=.pointer (some ⟨b,off,none⟩)) (hR:w.rangeAt b off cells.toList) (hc:cells.size=n)
    (h:wpList Tryz.prog ops Q rest (a.put o.dst (.agg cells)) w):wpList Tryz.prog ops Q (o :: rest) a w:=by
 refine wpList_step fun K hK=>?_;rw [if_pos hgd];exact wp_load_mid T x ho b off hx cells.toList d hR hu hd (by rw [Array.length_toList,hc];exact hi) (hK _ _ (by rw [Array.toArray_toList];exact h))
theorem aJ (h:Hd) (n:Nat) (ua:Option Addr) (uc:Nat) (aa:Option Addr) (ac:Nat):(exC h n ua uc aa ac).all (·.oneCell')=true:=by simp [exC,Value.oneCell']
def Num (n:Int) (w:World) (e:Ending) (w':World):Prop:=e=.returned (.int .i64 n)∧Below w.heap.size w w'
theorem aV {j:Nat} (h:j<9223372036854775807):wrap64 ((j:Int)+1)=((j+1:Nat):Int):=by unfold wrap64;omega
theorem aX {n j:Nat} (h:j<n) {x:Int} (hx:x=((j+1:Nat):Int)):n - (intOf (Value.int .i64 x)).toNat<n - (intOf (Value.int .i64 ((j:Nat):Int))).toNat:=by
 subst hx;simp only [intOf,Int.toNat_natCast];omega
theorem Nc {F:Fo} {j:Nat} (h:j<F.len) (n:Int):szA (F.drop j) n=szA (F.drop (j+1)) (wrap64 (n+szE (F.nth j))):=by
 rw [jT F j h];rfl
theorem OW {F:Fo} {j:Nat} (h:j<F.len) (n:Int):dpA (F.drop j) n=dpA (F.drop (j+1)) (max n (dpE (F.nth j))):=by
 rw [jT F j h];rfl
theorem Jc (x y:Int):(if x<y then y else x)=max x y:=by omega
theorem Ew (n:Nat) (IH:∀ (x:Ex) (ua aa:Option Addr) (uc ac:Nat) (w:World),x.ar.sz<n→Fs w aa x.ar.len ac x.ar→Calls Tryz.prog 93 #[.agg (exC x.h x.ar.len ua uc aa ac)] w (Num (szE x) w))
    (x:Ex) (ua aa:Option Addr) (uc ac:Nat) (w:World) (hz:x.ar.sz=n) (hA:Fs w aa x.ar.len ac x.ar):Calls Tryz.prog 93 #[.agg (exC x.h x.ar.len ua uc aa ac)] w (Num (szE x) w):=by
 have A1:=Hy hA;have IH':=Hy IH;have HZ:=Hy hz;have hS:=Hy (show szE x=szA (x.ar.drop 0) 1 by rw [drop_zero];rfl);have hlen:=hA.hcap;have hmax:=hA.hmax;have hL:=Hy (show x.ar.len≤9223372036854775807 by omega);clear hA IH hz hlen hmax;unfold exC
 go_enter Tryz.func93,Tryz.ntmps93
 go_wp2_with fail
 go_loopw [2,8] (fun vn vi wr => ∃ (j:Nat) (m:Int),vn=.int .i64 m∧vi=.int .i64 (j:Nat)∧Hid (j≤x.ar.len)∧Hid (szE x=szA (x.ar.drop j) m)∧Hid (Below w.heap.size w wr)) (fun _ vi _=>x.ar.len - (intOf vi).toNat)
 case atStart=>exact ⟨0,1,rfl,rfl,Hy zl,hS,Hy (aj (b0 w) _)⟩
 case round =>
  clear hS;obtain ⟨j,m,rfl,rfl,hj,hS,hb⟩:=hrel;by_cases hlt:j<x.ar.len
  ·have q1:decide ((j:Int)<(x.ar.len:Int))=true:=dT (by omega);obtain ⟨bk,off,va,vc,wa,wc,rfl,R1,E1⟩:=(A1.o.keeps hb.o).at hlt;replace hS:=Hy (hS.o.trans (Nc hlt m));have f4:=Hy (aV (j:=j) (by have:=hL.o;omega));have hsz:=Hy (fA x.ar j hlt);have i1:(j:Int)<(x.ar.len:Int):=by omega
   replace E1:=Hy E1;replace R1:=Hy R1;clear A1 hj;generalize hy:x.ar.nth j=y at *;go_wp2_with (first | (refine dh aF Tryz.underlying29 rfl (.tmp 10) rfl rfl bk (off+j * 12) (exC y.h y.ar.len va vc wa wc) rfl R1.o rfl ?_) | (refine aB aF (.tmp 4) (.tmp 11) rfl rfl _ _ _ _ rfl rfl (Blk.new _ _ _) rfl rfl (aJ _ _ _ _ _ _) ?_;intro w5 L5 hs5;have bb5:=(aj (b0 wr) _).trans (hs5.below lr)) | (refine aH aF Tryz.underlying29 rfl (.tmp 4) rfl rfl _ _ _ rfl L5 rfl ?_));have B5:=Hy (hb.o.trans (bb5.mono hb.o.size));have E5:=Hy (E1.o.keeps bb5);clear bb5 hs5 L5 R1 E1;refine (IH'.o y va wa vc wc w5 (by have:=hsz.o;have:=HZ.o;omega) E5.o.ar).mono ?_;rintro e w6 ⟨rfl,b6⟩;have B6:=Hy (au B5.o b6);clear b6 B5 E5 hb;go_wp2_with fail;exact ⟨⟨j+1,_,rfl,congrArg (Value.int .i64) f4.o,Hy hlt,hS,B6⟩,aX hlt f4.o⟩
  have q1:decide ((j:Int)<(x.ar.len:Int))=false:=dF (by omega);replace hS:=Hy (show szE x=m by rw [hS.o,dR _ _ (by omega)];rfl);clear A1 hj;go_wp2_with fail;go_ret;exact ⟨by rw [hS.o];rfl,hb.o⟩
theorem ni (x:Ex) (ua aa:Option Addr) (uc ac:Nat) (w:World) (hA:Fs w aa x.ar.len ac x.ar):Calls Tryz.prog 93 #[.agg (exC x.h x.ar.len ua uc aa ac)] w (Num (szE x) w):=by
 have key:∀ n,∀ (x:Ex) (ua aa:Option Addr) (uc ac:Nat) (w:World),x.ar.sz<n→Fs w aa x.ar.len ac x.ar→Calls Tryz.prog 93 #[.agg (exC x.h x.ar.len ua uc aa ac)] w (Num (szE x) w):=by
  intro n
  induction n with
  | zero=>intro x ua aa uc ac w h;exact absurd h (Nat.not_lt_zero _)
  | succ n ih =>
    intro x ua aa uc ac w h hA
    exact Ew x.ar.sz (fun x' ua' aa' uc' ac' w' h' => ih x' ua' aa' uc' ac' w' (by omega)) x ua aa uc ac w rfl hA
 exact key _ x ua aa uc ac w ls hA
theorem DU (n:Nat) (IH:∀ (x:Ex) (ua aa:Option Addr) (uc ac:Nat) (w:World),x.ar.sz<n→Fs w aa x.ar.len ac x.ar→Calls Tryz.prog 94 #[.agg (exC x.h x.ar.len ua uc aa ac)] w (Num (dpE x) w))
    (x:Ex) (ua aa:Option Addr) (uc ac:Nat) (w:World) (hz:x.ar.sz=n) (hA:Fs w aa x.ar.len ac x.ar):Calls Tryz.prog 94 #[.agg (exC x.h x.ar.len ua uc aa ac)] w (Num (dpE x) w):=by
 have A1:=Hy hA;have IH':=Hy IH;have HZ:=Hy hz;have hS:=Hy (show dpA x.ar 0=dpA (x.ar.drop 0) 0 by rw [drop_zero]);have hlen:=hA.hcap;have hmax:=hA.hmax;have hL:=Hy (show x.ar.len≤9223372036854775807 by omega);clear hA IH hz hlen hmax;unfold exC
 go_enter Tryz.func94,Tryz.ntmps94
 go_wp2_with fail
 go_loopw [2,8] (fun vn vi wr => ∃ (j:Nat) (m:Int),vn=.int .i64 m∧vi=.int .i64 (j:Nat)∧Hid (j≤x.ar.len)∧Hid (dpA x.ar 0=dpA (x.ar.drop j) m)∧Hid (Below w.heap.size w wr)) (fun _ vi _=>x.ar.len - (intOf vi).toNat)
 case atStart=>exact ⟨0,0,rfl,rfl,Hy zl,hS,Hy (aj (b0 w) _)⟩
 case round =>
  clear hS;obtain ⟨j,m,rfl,rfl,hj,hS,hb⟩:=hrel;by_cases hlt:j<x.ar.len
  ·have q1:decide ((j:Int)<(x.ar.len:Int))=true:=dT (by omega);obtain ⟨bk,off,va,vc,wa,wc,rfl,R1,E1⟩:=(A1.o.keeps hb.o).at hlt;replace hS:=Hy (hS.o.trans (OW hlt m));have f4:=Hy (aV (j:=j) (by have:=hL.o;omega));have hsz:=Hy (fA x.ar j hlt);have i1:(j:Int)<(x.ar.len:Int):=by omega
   replace E1:=Hy E1;replace R1:=Hy R1;clear A1 hj;generalize hy:x.ar.nth j=y at *;go_wp2_with (first | (refine dh aF Tryz.underlying29 rfl (.tmp 10) rfl rfl bk (off+j * 12) (exC y.h y.ar.len va vc wa wc) rfl R1.o rfl ?_) | (refine aB aF (.tmp 4) (.tmp 11) rfl rfl _ _ _ _ rfl rfl (Blk.new _ _ _) rfl rfl (aJ _ _ _ _ _ _) ?_;intro w5 L5 hs5;have bb5:=(aj (b0 wr) _).trans (hs5.below lr)) | (refine aH aF Tryz.underlying29 rfl (.tmp 4) rfl rfl _ _ _ rfl L5 rfl ?_));have B5:=Hy (hb.o.trans (bb5.mono hb.o.size));have E5:=Hy (E1.o.keeps bb5);clear bb5 hs5 L5 R1 E1;refine (IH'.o y va wa vc wc w5 (by have:=hsz.o;have:=HZ.o;omega) E5.o.ar).mono ?_;rintro e w6 ⟨rfl,b6⟩;have B6:=Hy (au B5.o b6);have mx:=Jc m (dpE y);clear b6 B5 E5 hb;go_wp2_with fail;exact ⟨⟨j+1,_,rfl,congrArg (Value.int .i64) f4.o,Hy hlt,hS,B6⟩,aX hlt f4.o⟩
  have q1:decide ((j:Int)<(x.ar.len:Int))=false:=dF (by omega);replace hS:=Hy (show dpE x=wrap64 (m+1) by unfold dpE;rw [hS.o,dR _ _ (by omega)];rfl);clear A1 hj;go_wp2_with fail;go_ret;exact ⟨by rw [hS.o];rfl,hb.o⟩
theorem Ht (x:Ex) (ua aa:Option Addr) (uc ac:Nat) (w:World) (hA:Fs w aa x.ar.len ac x.ar):Calls Tryz.prog 94 #[.agg (exC x.h x.ar.len ua uc aa ac)] w (Num (dpE x) w):=by
 have key:∀ n,∀ (x:Ex) (ua aa:Option Addr) (uc ac:Nat) (w:World),x.ar.sz<n→Fs w aa x.ar.len ac x.ar→Calls Tryz.prog 94 #[.agg (exC x.h x.ar.len ua uc aa ac)] w (Num (dpE x) w):=by
  intro n
  induction n with
  | zero=>intro x ua aa uc ac w h;exact absurd h (Nat.not_lt_zero _)
  | succ n ih =>
    intro x ua aa uc ac w h hA
    exact DU x.ar.sz (fun x' ua' aa' uc' ac' w' h' => ih x' ua' aa' uc' ac' w' (by omega)) x ua aa uc ac w rfl hA
 exact key _ x ua aa uc ac w ls hA
end ch
namespace un
open Go.RowKit dec
theorem Dq (c:Int) (w:World):Calls Tryz.prog 266 #[.int .u8 c] w fun e w' => e=.returned (.bool (oL c))∧w=w':=by
 go_enter Tryz.func266,Tryz.ntmps266
 go_wp2_with fail
 all_goals go_ret
 all_goals refine ⟨bn ?_,rfl⟩
 all_goals unfold oL
 all_goals simp_all
 all_goals omega
theorem Hq (c:Int) (w:World):Calls Tryz.prog 267 #[.int .u8 c] w fun e w' => e=.returned (.bool (zD c))∧w=w':=by
 go_enter Tryz.func267,Tryz.ntmps267
 go_wp2_with fail
 all_goals go_ret
 all_goals refine ⟨bn ?_,rfl⟩
 all_goals unfold zD
 all_goals simp_all
 all_goals omega
theorem vH (n:Int) (w:World):Calls Tryz.prog 218 #[.int .i64 n] w fun e w' => e=.returned (.bool (!far n))∧w=w':=by
 go_enter Tryz.func218,Tryz.ntmps218
 go_wp2_with fail
 all_goals go_ret
 all_goals refine ⟨bn ?_,rfl⟩
 all_goals unfold far
 all_goals rw [Bool.eq_iff_iff]
 all_goals simp
 all_goals omega
theorem MP (s:ByteArray) {j:Nat} (hj:j<s.size):(s.data.toList.drop j).all wch=(wch s[j] && (s.data.toList.drop (j+1)).all wch):=by
 have h:j<s.data.toList.length:=by rw [← Lib.size_eq];exact hj
 rw [List.drop_eq_getElem_cons h];rfl
theorem Km (s:ByteArray) {j:Nat} (hj:s.size≤j):(s.data.toList.drop j).all wch=true:=by
 rw [List.drop_eq_nil_of_le (by rw [← Lib.size_eq];exact hj)];rfl
theorem Ki (s:ByteArray) (h0:0<s.size):word s=(decide (s.size≤24) && (oL s[0].toNat && (s.data.toList.drop 0).all wch)):=by
 unfold word wS;rw [← Lib.size_eq,List.drop_zero];have h:0<s.data.toList.length:=by rw [← Lib.size_eq];exact h0
 have e:s.data.toList.headD 0=s[0]:=by
  have:=List.drop_eq_getElem_cons h;rw [List.drop_zero] at this;rw [this];rfl
 rw [e];congr 1;rw [decide_eq_decide];omega
theorem Eb (s:ByteArray) (h0:s.size=0):word s=false:=by
 unfold word wS;rw [← Lib.size_eq,h0];rfl
theorem toList_nil (s:ByteArray):(s.toList==[])=decide (s.size=0):=by
 have e:s.size=s.toList.length:=by rw [ByteArray.toList_eq];rfl
 rw [e];cases s.toList <;> rfl
theorem MO (c:UInt8):wch c=(oL c.toNat || (zD c.toNat || decide ((c.toNat:Int)=95))):=by
 unfold wch;congr 2;rw [Bool.eq_iff_iff];simp;omega
theorem aV {j:Nat} (h:j<9223372036854775807):wrap64 ((j:Int)+1)=((j+1:Nat):Int):=by unfold wrap64;omega
theorem aX {n j:Nat} (h:j<n) (f:wrap64 ((j:Int)+1)=((j+1:Nat):Int)):n - (intOf (Value.int .i64 (wrap64 ((j:Int)+1)))).toNat<n - (intOf (Value.int .i64 (j:Int))).toNat:=by
 rw [f];clear f;show n - (((j+1:Nat):Int)).toNat<n - ((j:Nat):Int).toNat;rw [Int.toNat_natCast,Int.toNat_natCast];omega
theorem sJ (s:ByteArray) (w:World):Calls Tryz.prog 217 #[.string s] w fun e w' => e=.returned (.bool (word s))∧w=w':=by
 have L:=Hy Dq;have D:=Hy Hq;by_cases h0:s.size=0
 ·rw [Eb s h0];have q1:(s.toList==[])=true:=by rw [toList_nil,h0];rfl
  clear L D
  go_enter Tryz.func217,Tryz.ntmps217
  go_wp2_with fail;go_ret;exact ⟨rfl,rfl⟩
 have h0':0<s.size:=by omega
 have hw:=Ki s h0';have q1:(s.toList==[])=false:=by rw [toList_nil];exact dF h0
 by_cases h24:s.size≤24
 ·have q2:decide (24<(s.size:Int))=false:=dF (by omega);rw [dT h24,Bool.true_and] at hw;have hS:=Hy h24;clear h24;cases hl:oL s[0].toNat
  ·rw [hl,Bool.false_and] at hw;rw [hw]
   go_enter Tryz.func217,Tryz.ntmps217
   go_wp2_with fail;refine (L.o _ _).mono ?_;rintro e w' ⟨rfl,rfl⟩;go_wp2_with fail;go_ret;exact ⟨rfl,rfl⟩
  rw [hl,Bool.true_and] at hw;have H:=Hy hw;clear hw
  go_enter Tryz.func217,Tryz.ntmps217
  go_wp2_with fail;refine (L.o _ _).mono ?_;rintro e w' ⟨rfl,rfl⟩;go_wp2_with fail
  go_loopw [20] (fun vi wr => ∃ j:Nat,vi=.int .i64 (j:Nat)∧j≤s.size∧Hid (word s=(s.data.toList.drop j).all wch)∧w=wr) (fun vi _=>s.size - (intOf vi).toNat)
  case atStart=>exact ⟨0,rfl,by omega,H,rfl⟩
  case round =>
   obtain ⟨j,rfl,hj,hd,rfl⟩:=hrel;clear H;by_cases hc:j<s.size
   ·have hst:=hd.o;rw [MP s hc,MO] at hst;have q3:decide ((j:Int)<(s.size:Int))=true:=dT (by omega);have f4:=Hy (aV (j:=j) (by have:=hS.o;omega));generalize hJ:((s[j].toNat:Nat):Int)=c at hst;clear hd;cases hlc:oL c
    ·cases hdc:zD c
     ·by_cases h95:c=95
      ·rw [hlc,hdc,dT h95] at hst;have q5:(c==95)=true:=beq_iff_eq.2 h95;simp only [Bool.false_or,Bool.true_and] at hst;have H:=Hy hst;clear hst h95;go_wp2_with fail;refine (L.o _ _).mono ?_;rintro e w' ⟨rfl,rfl⟩;go_wp2_with fail;refine (D.o _ _).mono ?_;rintro e w' ⟨rfl,rfl⟩;go_wp2_with fail;go_roundw
       case rel=>exact ⟨j+1,congrArg (Value.int .i64) f4.o,hc,H,trivial⟩
       case measure=>exact aX hc f4.o
      rw [hlc,hdc,dF h95] at hst;have q5:(c==95)=false:=bF h95;simp only [Bool.false_or,Bool.false_and] at hst;have H:=Hy hst;clear hst h95;go_wp2_with fail;refine (L.o _ _).mono ?_;rintro e w' ⟨rfl,rfl⟩;go_wp2_with fail;refine (D.o _ _).mono ?_;rintro e w' ⟨rfl,rfl⟩;go_wp2_with fail;go_ret;exact ⟨bn H.o.symm,rfl⟩
     rw [hlc,hdc] at hst;simp only [Bool.true_or,Bool.false_or,Bool.true_and] at hst;have H:=Hy hst;clear hst;go_wp2_with fail;refine (L.o _ _).mono ?_;rintro e w' ⟨rfl,rfl⟩;go_wp2_with fail;refine (D.o _ _).mono ?_;rintro e w' ⟨rfl,rfl⟩;go_wp2_with fail;go_roundw
     case rel=>exact ⟨j+1,congrArg (Value.int .i64) f4.o,hc,H,trivial⟩
     case measure=>exact aX hc f4.o
    rw [hlc] at hst;simp only [Bool.true_or,Bool.true_and] at hst;have H:=Hy hst;clear hst;go_wp2_with fail;refine (L.o _ _).mono ?_;rintro e w' ⟨rfl,rfl⟩;go_wp2_with fail;go_roundw
    case rel=>exact ⟨j+1,congrArg (Value.int .i64) f4.o,hc,H,trivial⟩
    case measure=>exact aX hc f4.o
   have hst:=hd.o;rw [Km s (by omega)] at hst;have H:=Hy hst;clear hst hd;have q3:decide ((j:Int)<(s.size:Int))=false:=dF (by omega);go_wp2_with fail;go_ret;exact ⟨bn H.o.symm,rfl⟩
 rw [dF h24,Bool.false_and] at hw;have q2:decide (24<(s.size:Int))=true:=dT (by omega);rw [hw]
 go_enter Tryz.func217,Tryz.ntmps217
 go_wp2_with fail;go_ret;exact ⟨rfl,rfl⟩
def jW (l r:List Fa):Bool:=decide (l=r)
theorem yt {l r:List Fa} (h:l.length≠r.length):jW l r=false:=dF fun e=>h (by rw [e])
theorem yu {l r:List Fa} {j:Nat} (h1:l.length≤j) (h2:r.length≤j) (h:l.take j=r.take j):jW l r=true:=by
 rw [List.take_of_length_le h1,List.take_of_length_le h2] at h;exact dT h
theorem vF {l r:List Fa} {j:Nat} (h1:j<l.length) (h2:j<r.length) (h:l.take j=r.take j) (e1:(gt l j).1=(gt r j).1) (e2:(gt l j).2=(gt r j).2):l.take (j+1)=r.take (j+1):=by
 rw [jM h1,jM h2,h,Prod.ext e1 e2]
theorem Bh {l r:List Fa} {j:Nat} (h:gt l j≠gt r j):jW l r=false:=dF fun e=>h (by rw [e])
theorem xw (a b:ByteArray):(a.toList==b.toList)=decide (a=b):=by
 by_cases h:a=b
 ·rw [h];simp
 rw [dF h];exact bF fun e=>h (toList_inj e)
theorem GV (a:Option Addr) (n cap:Nat) (b:Option Addr) (m cap2:Nat) (l r:List Fa) (w:World) (hA:Sl w a n cap l) (hB:Sl w b m cap2 r) :
    Calls Tryz.prog 312 #[.slice a n cap,.slice b m cap2] w fun e w' => e=.returned (.bool (jW l r))∧Below w.heap.size w w':=by
 have h1:=Hy hA;have h2:=Hy hB;clear hA hB;by_cases hnm:n=m
 ·subst hnm;have qn:((n:Int) != (n:Int))=false:=by simp
  go_enter Tryz.func312,Tryz.ntmps312
  go_wp2_with fail
  go_loopw [13] (fun i wr => ∃ j:Nat,i=.int .i64 (j:Nat)∧Hid (j≤n)∧Hid (l.take j=r.take j)∧Below w.heap.size w wr) (fun i _=>n - (intOf i).toNat)
  case atStart=>exact ⟨0,rfl,Hy zl,Hy rfl,b0 w⟩
  case round =>
   obtain ⟨j,rfl,hj,ht,hb⟩:=hrel;by_cases hlt:j<n
   ·have q1:decide ((j:Int)<(n:Int))=true:=dT (by omega);obtain ⟨A1,hn,hc,hm,_⟩:=h1.o.keeps hb;obtain ⟨B1,hn2,hc2,hm2,_⟩:=h2.o.keeps hb;obtain ⟨bk,off,rfl,hC⟩:=A1.resolve_left (by omega);obtain ⟨bk2,off2,rfl,hD⟩:=B1.resolve_left (by omega);obtain ⟨c0,c1⟩:=hC j (by omega);obtain ⟨d0,d1⟩:=hD j (by omega);have f4:=Hy (aV (j:=j) (by omega));have hN:=Hy (fun e1 e2=>vF (l:=l) (r:=r) (j:=j) (by omega) (by omega) ht.o e1 e2);have hX:=Hy (fun h=>Bh (l:=l) (r:=r) (j:=j) h);have hbh:=Hy hb;clear hC hD A1 B1 h1 h2 ht hj hc hm hc2 hm2 hn hn2 hb;generalize gt l j=x at *;generalize gt r j=y at *;by_cases p1:x.1.toList=y.1.toList
    ·by_cases p2:x.2=y.2
     ·have hT:=Hy (hN.o (toList_inj p1) p2);clear hN hX;go_wp2_with fail
      go_region
      go_wp2_with fail;refine ⟨⟨j+1,congrArg (Value.int .i64) f4.o,Hy hlt,hT,hbh.o.drew⟩,aX hlt f4.o⟩
     have hT:=Hy (hX.o fun e=>p2 (by rw [e]));clear hN hX;go_wp2_with fail
     go_region
     go_wp2_with fail;go_ret;exact ⟨bn hT.o.symm,hbh.o.drew⟩
    have hT:=Hy (hX.o fun e=>p1 (by rw [e]));clear hN hX;go_wp2_with fail
    go_region
    go_wp2_with fail;go_ret;exact ⟨bn hT.o.symm,hbh.o.drew⟩
   have q1:decide ((j:Int)<(n:Int))=false:=dF (by omega);have hr:=yu (by have:=h1.o.hn;omega) (by have:=h2.o.hn;omega) ht.o;go_wp2_with fail;go_ret;exact ⟨bn hr.symm,hb⟩
 have hl:=yt (l:=l) (r:=r) (by rw [h1.o.hn,h2.o.hn];exact hnm);have qn:((n:Int) != (m:Int))=true:=by rw [bne_iff_ne];omega
 clear h1 h2;rw [hl]
 go_enter Tryz.func312,Tryz.ntmps312
 go_wp2_with fail;go_ret;exact ⟨rfl,b0 w⟩
theorem EL (a:Option Addr) (n cap:Nat) (b:Option Addr) (m cap2:Nat) (l r:List Fa) (w:World) (hA:Sl w a n cap l) (hB:Sl w b m cap2 r) :
    Calls Tryz.prog 75 #[.slice a n cap,.slice b m cap2] w fun e w' => e=.returned (.bool (jW l r))∧Below w.heap.size w w':=by
 have h1:=Hy hA;have h2:=Hy hB;clear hA hB;by_cases hnm:n=m
 ·subst hnm;have qn:((n:Int) != (n:Int))=false:=by simp
  go_enter Tryz.func75,Tryz.ntmps75
  go_wp2_with fail
  go_loopw [5] (fun i wr => ∃ j:Nat,i=.int .i64 (j:Nat)∧Hid (j≤n)∧Hid (l.take j=r.take j)∧Below w.heap.size w wr) (fun i _=>n - (intOf i).toNat)
  case atStart=>exact ⟨0,rfl,Hy zl,Hy rfl,b0 w⟩
  case round =>
   obtain ⟨j,rfl,hj,ht,hb⟩:=hrel;by_cases hlt:j<n
   ·have q1:decide ((j:Int)<(n:Int))=true:=dT (by omega);obtain ⟨A1,hn,hc,hm,_⟩:=h1.o.keeps hb;obtain ⟨B1,hn2,hc2,hm2,_⟩:=h2.o.keeps hb;obtain ⟨bk,off,rfl,hC⟩:=A1.resolve_left (by omega);obtain ⟨bk2,off2,rfl,hD⟩:=B1.resolve_left (by omega);obtain ⟨c0,c1⟩:=hC j (by omega);obtain ⟨d0,d1⟩:=hD j (by omega);have f4:=Hy (aV (j:=j) (by omega));have hN:=Hy (fun e1 e2=>vF (l:=l) (r:=r) (j:=j) (by omega) (by omega) ht.o e1 e2);have hX:=Hy (fun h=>Bh (l:=l) (r:=r) (j:=j) h);have hbh:=Hy hb;clear hC hD A1 B1 h1 h2 ht hj hc hm hc2 hm2 hn hn2 hb;generalize gt l j=x at *;generalize gt r j=y at *;by_cases p1:x.1.toList=y.1.toList
    ·by_cases p2:x.2=y.2
     ·have hT:=Hy (hN.o (toList_inj p1) p2);clear hN hX;go_wp2_with fail
      go_region
      go_wp2_with fail;refine ⟨⟨j+1,congrArg (Value.int .i64) f4.o,Hy hlt,hT,hbh.o.drew⟩,aX hlt f4.o⟩
     have hT:=Hy (hX.o fun e=>p2 (by rw [e]));clear hN hX;go_wp2_with fail
     go_region
     go_wp2_with fail;go_ret;exact ⟨bn hT.o.symm,hbh.o.drew⟩
    have hT:=Hy (hX.o fun e=>p1 (by rw [e]));clear hN hX;go_wp2_with fail
    go_region
    go_wp2_with fail;go_ret;exact ⟨bn hT.o.symm,hbh.o.drew⟩
   have q1:decide ((j:Int)<(n:Int))=false:=dF (by omega);have hr:=yu (by have:=h1.o.hn;omega) (by have:=h2.o.hn;omega) ht.o;go_wp2_with fail;go_ret;exact ⟨bn hr.symm,hb⟩
 have hl:=yt (l:=l) (r:=r) (by rw [h1.o.hn,h2.o.hn];exact hnm);have qn:((n:Int) != (m:Int))=true:=by rw [bne_iff_ne];omega
 clear h1 h2;rw [hl]
 go_enter Tryz.func75,Tryz.ntmps75
 go_wp2_with fail;go_ret;exact ⟨rfl,b0 w⟩
theorem Iz (a:Option Addr) (n cap:Nat) (b:Option Addr) (m cap2:Nat) (l r:List Fa) (w:World) (hA:Sl w a n cap l) (hB:Sl w b m cap2 r) :
    Calls Tryz.prog 298 #[.slice a n cap,.slice b m cap2] w fun e w' => e=.returned (.bool (jW l r))∧Below w.heap.size w w':=by
 have C:=Hy (GV a n cap b m cap2 l r w hA hB);clear hA hB
 go_enter Tryz.func298,Tryz.ntmps298
 go_wp2_with fail;refine C.o.mono ?_;rintro e w1 ⟨rfl,b1⟩;go_wp2_with fail;go_ret;exact ⟨rfl,b1⟩
end un
section
open Go.RowKit dec
structure Bs (w:World) (a:Option Addr) (n cap:Nat) (s:ByteArray):Prop where
 hat:s.size=0∨∃ b off,a=some ⟨b,off,none⟩∧∀ j (hj:j<s.size),w.cell? ⟨b,off+j,none⟩=some (.int .u8 (s[j].toNat:Int))
 hn:s.size=n
 hcap:n≤cap
 hmax:cap≤9223372036854775807
 hno:a=none→cap=0
theorem Bs.keeps {w w1:World} {a:Option Addr} {n cap:Nat} {s:ByteArray} (h:Bs w a n cap s) (hb:Below w.heap.size w w1):Bs w1 a n cap s :=
 { h with hat:=h.hat.imp id fun ⟨b,off,e,hB⟩=>⟨b,off,e,fun j hj=>dec.keeps hb (hB j hj)⟩ }
theorem Bs.str {w:World} {a:Option Addr} {n cap:Nat} {s:ByteArray} (h:Bs w a n cap s):(convert 56 9 (.slice a n cap)).run Tryz.prog w=.ok (.string s) w:=by
 have hn:=h.hn;subst hn;rcases h.hat with h0 | ⟨b,off,rfl,hB⟩
 ·have hs:=om h0;subst hs;rw [run_convert_bytes_string w 56 9 5 a _ cap Tryz.underlying56 Tryz.underlying5 Tryz.underlying9];show (Conv.bytesToString (.slice a 0 cap)).run Tryz.prog w=_;cases a <;> simp [Conv.bytesToString,loadCells]
  all_goals rfl
 have hl:s.data.toList.length=s.size:=aI s;have:=run_convert_bytes_arg (P:=Tryz.prog) w 56 5 Tryz.underlying56 Tryz.underlying5 b off s.size cap (s.data.toList.map fun c=>(c.toNat:Int)) (by rw [List.length_map,hl]) (fun i hi=>by
   rw [hB i hi,List.getD_eq_getElem?_getD,List.getElem?_map,List.getElem?_eq_getElem (by rw [hl];exact hi)]
   rfl) _ Tryz.underlying9
 rw [this];have e:strOfNums (s.data.toList.map fun c=>(c.toNat:Int))=s:=by
  unfold strOfNums;rw [List.map_map];refine (congrArg (fun l:List UInt8=>(⟨l.toArray⟩:ByteArray)) ?_).trans (uZ s);refine (List.map_congr_left fun c _=>?_).trans (List.map_id _);show UInt8.ofNat ((c.toNat:Int)).toNat=c;rw [Int.toNat_natCast,UInt8.ofNat_toNat]
 rw [e]
theorem JG (w:World) (s:ByteArray) (hs:s.size≤281474976710656):∃ w' c,(convert 9 56 (.string s)).run Tryz.prog w=.ok (.slice (some ⟨w.heap.size,0,none⟩) s.size c) w'∧Bs w' (some ⟨w.heap.size,0,none⟩) s.size c s∧Below w.heap.size w w':=by
 refine ⟨Lib.bytesWorld w 5 s,grownCap w s.size 0 5,Lib.run_convert_string_bytes w 9 56 5 s Tryz.underlying9 Tryz.underlying56 Tryz.underlying5,⟨.inr ⟨_,_,rfl,fun j hj=>?_⟩,rfl,grownCap_ge _ _ _ _,?_,fun h=>by cases h⟩,gX _ _ _⟩
 ·rw [Nat.zero_add,Lib.bytesWorld_cell w 5 s j hj];rw [List.getD_eq_getElem?_getD,List.getElem?_eq_getElem (by rw [aI];exact hj)];rfl
 have:=grownCap_le_maxLen w s.size 0 5 (by unfold maxLen;omega);unfold maxLen at this;omega
end
namespace un
open Go.RowKit dec
theorem Qu (a b:ByteArray):(Op.bytesLess a.toList b.toList || a.toList==b.toList) = !Op.bytesLess b.toList a.toList:=by
 cases h:Op.bytesLess b.toList a.toList
 ·by_cases e:a.toList=b.toList
  ·rw [e];simp
  rw [kZ b.toList a.toList h fun e' => e e'.symm];rfl
 have h1:=FM (a:=b) (b:=a) h;have h2:=oJ (a:=b) (b:=a) h;unfold ltS at h1;rw [h1,Bool.false_or];exact bF fun e=>h2 (toList_inj e.symm)
theorem Mj {l:List Fa} {j:Nat} (h:j<l.length) (b:ByteArray):gM b (l.drop j)=if ck1 b (gt l j)=0 then gM (gt l j).1 (l.drop (j+1)) else ck1 b (gt l j):=by
 rw [pV h];rfl
theorem O1 {l:List Fa} {j:Nat} (h:l.length≤j) (b:ByteArray):gM b (l.drop j)=0:=by
 rw [List.drop_eq_nil_of_le h];rfl
theorem dX (a:Option Addr) (n cap:Nat) (l:List Fa) (w:World) (hS:Sl w a n cap l) :
    Calls Tryz.prog 153 #[.slice a n cap] w fun e w' => e=.returned (.int .i64 (ck l))∧Below w.heap.size w w':=by
 have W1:=Hy sJ;have R1:=Hy vH;have hck:ck l=if 4<n then 2 else gM .empty (l.drop 0):=by rw [List.drop_zero,← hS.hn];rfl
 have S0:=Hy hS;clear hS;by_cases h4:4<n
 ·rw [hck,if_pos h4];have q1:decide (4<(n:Int))=true:=dT (by omega);clear W1 R1 S0 hck
  go_enter Tryz.func153,Tryz.ntmps153
  go_wp2_with fail;go_ret;exact ⟨rfl,b0 w⟩
 rw [if_neg h4] at hck;rw [hck];have hn:=Hy (Nat.le_of_not_lt h4);have q1:decide (4<(n:Int))=false:=dF (by omega);clear h4 hck
 go_enter Tryz.func153,Tryz.ntmps153
 go_wp2_with fail
 go_loopw [3,11] (fun vb vi wr => ∃ (j:Nat) (b:ByteArray),vb=.string b∧vi=.int .i64 (j:Nat)∧Hid (j≤n)∧Hid (gM .empty (l.drop 0)=gM b (l.drop j))∧Below w.heap.size w wr) (fun _ vi _=>n - (intOf vi).toNat)
 case atStart=>exact ⟨0,.empty,rfl,rfl,Hy (by omega),rfl,b0 w⟩
 case round =>
  obtain ⟨j,b,rfl,rfl,hj,hd,hb⟩:=hrel;by_cases hc:j<n
  ·have hlen:=S0.o.hn;have hst:=hd.o;rw [Mj (by have:=S0.o.hn;omega) b] at hst;obtain ⟨bk,off,rfl,hC⟩:=(S0.o.keeps hb).hat.resolve_left (by omega);obtain ⟨c0,c1⟩:=hC j (by have:=S0.o.hn;omega);have q2:decide ((j:Int)<(n:Int))=true:=dT (by omega);have f4:=Hy (aV (j:=j) (by have:=hn.o;have:=hc;omega));have q3:j<n:=hc;generalize (gt l j)=x at *;have H:=Hy hst;have hbh:=Hy hb;clear hd hst hlen hC hb;cases hw:word x.1
   ·have hk:ck1 b x=1:=by unfold ck1;rw [if_pos hw]
    go_wp2_with fail;refine (W1.o _ _).mono ?_;rintro e w' ⟨rfl,rfl⟩;go_wp2_with fail;go_ret;exact ⟨dV (by rw [H.o,if_neg (by rw [hk];decide),hk]),aj hbh.o _⟩
   by_cases h0:x.2=0
   ·have hk:ck1 b x=70:=by unfold ck1;rw [hw,if_neg (by decide),if_pos (.inl h0)]
    have q4:(x.2==0)=true:=beq_iff_eq.2 h0;replace hk:=Hy hk;replace h0:=Hy h0;go_wp2_with fail;refine (W1.o _ _).mono ?_;rintro e w' ⟨rfl,rfl⟩;go_wp2_with fail;replace hk:=hk.o;go_ret;exact ⟨dV (by rw [H.o,if_neg (by rw [hk];decide),hk]),aj hbh.o _⟩
   have q4:(x.2==0)=false:=bF h0;cases hf:far x.2
   ·have q8:=Qu x.1 b;cases hl:Op.bytesLess b.toList x.1.toList
    ·have hk:ck1 b x=3:=by unfold ck1 ltS;rw [hw,hf,hl,if_neg (by decide),if_neg (by simp [h0]),if_neg (by decide)]
     replace h0:=Hy h0;rw [hl,Bool.not_false] at q8;go_wp2_with fail;refine (W1.o _ _).mono ?_;rintro e w' ⟨rfl,rfl⟩;go_wp2_with fail;refine (R1.o _ _).mono ?_;rintro e w' ⟨rfl,rfl⟩;go_wp2_with fail;go_ret;exact ⟨dV (by rw [H.o,if_neg (by rw [hk];decide),hk]),aj hbh.o _⟩
    have hk:ck1 b x=0:=by unfold ck1 ltS;rw [hw,hf,hl,if_neg (by decide),if_neg (by simp [h0]),if_pos rfl]
    replace h0:=Hy h0;rw [hl,Bool.not_true] at q8;go_wp2_with fail;refine (W1.o _ _).mono ?_;rintro e w' ⟨rfl,rfl⟩;go_wp2_with fail;refine (R1.o _ _).mono ?_;rintro e w' ⟨rfl,rfl⟩;go_wp2_with fail;go_roundw
    case rel=>exact ⟨j+1,x.1,rfl,congrArg (Value.int .i64) f4.o,Hy hc,Hy (H.o.trans (if_pos hk)),aj hbh.o _⟩
    case measure=>exact aX hc f4.o
   have hk:ck1 b x=70:=by unfold ck1;rw [hw,hf,if_neg (by decide),if_pos (.inr rfl)]
   replace h0:=Hy h0;go_wp2_with fail;refine (W1.o _ _).mono ?_;rintro e w' ⟨rfl,rfl⟩;go_wp2_with fail;refine (R1.o _ _).mono ?_;rintro e w' ⟨rfl,rfl⟩;go_wp2_with fail;go_ret;exact ⟨dV (by rw [H.o,if_neg (by rw [hk];decide),hk]),aj hbh.o _⟩
  have hst:=O1 (l:=l) (j:=j) (by have:=S0.o.hn;omega) b;have H:=Hy hst;have hd2:=Hy hd.o;clear hst hd;have q3:decide ((j:Int)<(n:Int))=false:=dF (by omega);have hbh:=Hy hb;clear hb;go_wp2_with fail;go_ret;exact ⟨dV (hd2.o.trans H.o).symm,hbh.o⟩
end un
namespace ch
open Go.RowKit dec
def Bl (b:Bool) (w:World) (e:Ending) (w':World):Prop:=e=.returned (.bool b)∧Below w.heap.size w w'
theorem aG {b c:Bool} {w w':World} (h:b=c) (hb:Below w.heap.size w w'):Bl c w (.returned (.bool b)) w':=⟨by rw [h],hb⟩
theorem bB {b c:Int} {w w':World} (h:b=c) (hb:Below w.heap.size w w'):Num c w (.returned (.int .i64 b)) w':=⟨by rw [h],hb⟩
theorem eqL (s:ByteArray) (l:List UInt8):(s.toList==l)=decide (s=⟨l.toArray⟩):=by
 rw [← un.xw];congr 1;rw [ByteArray.toList_eq]
theorem eqI (x y:Int):(x==y)=decide (x=y):=by by_cases h:x=y <;> simp [h]
theorem eqE (s:ByteArray):s.toList.isEmpty=decide (s=.empty):=by
 have:=eqL s [];rw [show (s.toList==[])=s.toList.isEmpty by cases s.toList <;> rfl] at this;exact this
theorem eO (w:World) (c d:Array Value) (T U:TypeId):Blk ((w.alloc (.cells c T)).alloc (.cells d U)) w.heap.size T c∧Blk ((w.alloc (.cells c T)).alloc (.cells d U)) (w.heap.size+1) U d:=by
 refine ⟨(Blk.new w T c).past _,?_⟩;have:=Blk.new (w.alloc (.cells c T)) U d;simpa using this
theorem bX (w:World) (c d:Obj):Below w.heap.size w ((w.alloc c).alloc d):=aj (aj (b0 w) _) _
theorem yY (t:Ty) (ua:Option Addr) (uc:Nat) (w:World):Calls Tryz.prog 97 #[.agg (tyC t ua uc)] w (Bl (num t) w):=by
 unfold tyC
 go_enter Tryz.func97,Tryz.ntmps97
 go_wp2
 all_goals go_ret
 all_goals exact aG (by simp only [num,eqI] at * <;> simp_all) (aj (b0 w) _)
theorem xJ (f:un.Fa) (hs:f.1.size≤140737488355328) (w:World) (T:Tabs w):Calls Tryz.prog 152 #[.agg #[.string f.1,.int .i64 f.2]] w (Bl (!name f.1) w):=by
 have C:=Hy (iD f.1 hs (w.alloc (.cells #[.string f.1,.int .i64 f.2] 82)) (T.stays (aj (b0 w) _)))
 go_enter Tryz.func152,Tryz.ntmps152
 go_wp2_with fail;refine C.o.mono ?_;rintro e w1 ⟨rfl,b1⟩;have B1:=Hy (au (aj (b0 w) _) b1);clear b1 C;go_wp2_with fail;go_ret;exact aG rfl B1.o
def ixA {α:Type} (p:α→Bool):List α→Nat→Int
 | [],_ => -1
 | x :: r,n=>if p x=true then (n:Nat) else ixA p r (n+1)
theorem uH {α:Type} (p:α→Bool):∀ (l:List α) (n:Nat),decide (0≤ixA p l n)=l.any p
 | [],_=>rfl
 | x :: r,n=>by
  unfold ixA
  cases h:p x
  ·simp [h,uH p r (n+1)]
  ·simp [h]
theorem FX {α:Type} (p:α→Bool) {l:List α} {j:Nat} (h:j<l.length):ixA p (l.drop j) j=if p l[j]=true then (j:Int) else ixA p (l.drop (j+1)) (j+1):=by
 rw [List.drop_eq_getElem_cons h];rfl
theorem BL {α:Type} (p:α→Bool) {l:List α} {j:Nat} (h:l.length≤j):ixA p (l.drop j) j = -1:=by
 rw [List.drop_eq_nil_of_le h];rfl
theorem Ai (a:Option Addr) (n cap:Nat) (l:List un.Fa) (w:World) (hA:un.Sl w a n cap l) (hs:∀ f ∈ l,f.1.size≤140737488355328) (T:Tabs w) :
    Calls Tryz.prog 219 #[.slice a n cap,.func (.func 152) #[] #[]] w (Num (ixA (fun f => !name f.1) l 0) w):=by
 have A1:=Hy hA;have hS:=Hy hs;have T0:=Hy T;have hI:=Hy (show ixA (fun f:un.Fa => !name f.1) l 0=ixA (fun f => !name f.1) (l.drop 0) 0 by rw [List.drop_zero]);have hn:=hA.hn;subst hn;have hL:=Hy (show l.length≤9223372036854775807 by have:=hA.hcap;have:=hA.hmax;omega);clear hA hs T
 go_enter Tryz.func219,Tryz.ntmps219
 go_wp2_with fail
 go_loopw [8] (fun vi wr => ∃ (j:Nat),vi=.int .i64 (j:Nat)∧Hid (j≤l.length)∧Hid (ixA (fun f:un.Fa => !name f.1) l 0=ixA (fun f => !name f.1) (l.drop j) j)∧Hid (Below w.heap.size w wr)) (fun vi _=>l.length - (intOf vi).toNat)
 case atStart=>exact ⟨0,rfl,Hy zl,hI,Hy (b0 w)⟩
 case round =>
  clear hI;obtain ⟨j,rfl,hj,hI,hb⟩:=hrel;by_cases hlt:j<l.length
  ·have q1:decide ((j:Int)<(l.length:Int))=true:=dT (by omega);obtain ⟨bk,off,rfl,hC⟩:=(A1.o.keeps hb.o).hat.resolve_left (by omega);obtain ⟨c0,c1⟩:=hC j hlt;have f4:=Hy (aV (j:=j) (by have:=hL.o;omega));have i1:(j:Int)<(l.length:Int):=by omega
   replace hI:=hI.o.trans (FX _ hlt);have C:=Hy (xJ (un.gt l j) (hS.o _ (un.mP hlt)) wr (T0.o.stays hb.o));rw [show l[j]=un.gt l j from (un.jF hlt).symm] at hI;clear hC A1 hS T0 hj;generalize un.gt l j=x at *;go_wp2_with fail;refine C.o.mono ?_;rintro e w1 ⟨rfl,b1⟩;have B1:=Hy (au hb.o b1);clear b1 C c0 c1 hb;generalize hq:(!name x.1)=q at *;cases q
   ·rw [if_neg (by decide)] at hI;have hI:=Hy hI;go_wp2_with fail;exact ⟨⟨j+1,congrArg (Value.int .i64) f4.o,Hy hlt,hI,B1⟩,aX hlt f4.o⟩
   rw [if_pos rfl] at hI;have hI:=Hy hI;go_wp2_with fail;go_ret;exact bB hI.o.symm B1.o
  have q1:decide ((j:Int)<(l.length:Int))=false:=dF (by omega);have hI:=Hy (hI.o.trans (BL _ (by omega)));clear A1 hS T0 hj;go_wp2_with fail;go_ret;exact bB hI.o.symm hb.o
theorem uW (a:Option Addr) (n cap:Nat) (l:List un.Fa) (w:World) (hA:un.Sl w a n cap l) (hs:∀ f ∈ l,f.1.size≤140737488355328) (T:Tabs w) :
    Calls Tryz.prog 154 #[.slice a n cap,.func (.func 152) #[] #[]] w (Bl (l.any fun f => !name f.1) w):=by
 have C:=Hy (Ai a n cap l w hA hs T);have hq:=Hy (uH (fun f:un.Fa => !name f.1) l 0);clear hA hs T;generalize ixA (fun f:un.Fa => !name f.1) l 0=i at *
 go_enter Tryz.func154,Tryz.ntmps154
 go_wp2_with fail;refine C.o.mono ?_;rintro e w1 ⟨rfl,b1⟩;have B1:=Hy b1;clear b1 C;go_wp2_with fail;go_ret;exact aG hq.o B1.o
theorem Kh {s:ByteArray} (h:un.word s=true):s.size≤24:=(un.lF h).2
theorem rH (a:Option Addr) (n cap:Nat) (l:List un.Fa) (w:World) (hA:un.Sl w a n cap l) (T:Tabs w) :
    Calls Tryz.prog 98 #[.slice a n cap] w (Bl (okU l) w):=by
 have C:=Hy (un.dX a n cap l w hA);by_cases h:un.ck l=0
 ·have hs:∀ f ∈ l,f.1.size≤140737488355328:=fun f hf=>by have:=Kh (((un.Hw l).1 h).good f hf).1;omega
  have q1:(un.ck l==0)=true:=by simp [h]
  have D:=Hy (fun W hS T=>uW a n cap l W hS hs T);have hq:=Hy (show okU l = !l.any fun f => !name f.1 by unfold okU;rw [dT h,Bool.true_and];simp [List.all_eq_not_any_not]);have A1:=Hy hA;have T0:=Hy T;clear hA T hs h;generalize un.ck l=c at *;generalize (l.any fun f => !name f.1)=d at *
  go_enter Tryz.func98,Tryz.ntmps98
  go_wp2_with fail;refine C.o.mono ?_;rintro e w1 ⟨rfl,b1⟩;have B1:=Hy b1;clear b1 C;go_wp2_with fail;refine (D.o w1 (A1.o.keeps B1.o) (T0.o.stays B1.o)).mono ?_;rintro e w2 ⟨rfl,b2⟩;have B2:=Hy (au B1.o b2);clear b2 D A1 T0;go_wp2_with fail;go_ret;exact aG hq.o.symm B2.o
 have q1:(un.ck l==0)=false:=by simp [h]
 have hq:=Hy (show okU l=false by unfold okU;rw [dF h,Bool.false_and]);clear hA T h;generalize un.ck l=c at *
 go_enter Tryz.func98,Tryz.ntmps98
 go_wp2_with fail;refine C.o.mono ?_;rintro e w1 ⟨rfl,b1⟩;have B1:=Hy b1;clear b1 C;go_wp2_with fail;go_ret;exact aG hq.o.symm B1.o
end ch
namespace un
def jJ (l:List UInt8):Int :=
 match Lib.atoiAll l with
 | .ok v=>v
 | Lib.NumEnd.syntax=>0
 | .range=>Lib.atoiSat l
def f1 (x:Fa):List UInt8:=if x.2=1 then x.1.data.toList else x.1.data.toList++94 :: Lib.itoa x.2
def fT (l:List Fa):List UInt8:=Lib.join (l.map f1) [42]
def fac (l:List UInt8):Fa:=if Lib.indexByte l 94 = -1 then (⟨l.toArray⟩,1) else (⟨(l.take (Lib.indexByte l 94).toNat).toArray⟩,jJ (l.drop ((Lib.indexByte l 94).toNat+1)))
theorem vR {u:Nat} (h:u<10):Lib.decDigits u=[UInt8.ofNat (48+u)]:=by
 rw [Lib.decDigits,dif_pos h]
theorem GU {n:Int} (h:far n=false):n = -8∨n = -7∨n = -6∨n = -5∨n = -4∨n = -3∨n = -2∨n = -1∨n=0∨n=1∨n=2∨n=3∨n=4∨n=5∨n=6∨n=7∨n=8:=by
 unfold far at h;rw [decide_eq_false_iff_not] at h;omega
theorem Jm {n:Int} (h:far n=false):(42:UInt8) ∉ Lib.itoa n∧jJ (Lib.itoa n)=n∧(Lib.itoa n).length≤2:=by
 rcases GU h with rfl | rfl | rfl | rfl | rfl | rfl | rfl | rfl | rfl | rfl | rfl | rfl | rfl | rfl | rfl | rfl | rfl
 all_goals unfold Lib.itoa
 all_goals first
   | rw [if_pos (by decide),vR (by decide)]
   | rw [if_neg (by decide),vR (by decide)]
 all_goals decide
theorem OU {x:Fa} (h1:word x.1=true) (h2:far x.2=false):1≤(f1 x).length∧(f1 x).length≤27:=by
 have hs:=lF h1;rw [Lib.size_eq] at hs;have:=(Jm h2).2.2;unfold f1;split
 ·omega
 rw [List.length_append,List.length_cons];omega
theorem GK {u:List Fa} (h:Ok u):(fT u).length≤200:=by
 have hg:∀ (l:List Fa),(∀ x ∈ l,word x.1=true∧far x.2=false)→(fT l).length≤28 * l.length:=by
  intro l
  induction l with
  | nil=>intro _;exact Nat.le_refl _
  | cons x l ih =>
    intro hl
    have hx:=hl x (List.mem_cons_self ..)
    have h1:=(OU hx.1 hx.2).2
    have h2:=ih fun y hy=>hl y (List.mem_cons_of_mem _ hy)
    cases l with
    | nil =>
      unfold fT
      rw [List.map_cons,List.map_nil,Lib.join_one]
      simp;omega
    | cons y l =>
      have e:fT (x :: y :: l)=f1 x++42 :: fT (y :: l):=by
        unfold fT
        rw [List.map_cons,List.map_cons,Lib.join_cons,Lib.join_cons]
        simp [Lib.joinTail]
      rw [e,List.length_append,List.length_cons]
      simp only [List.length_cons] at *
      omega
 have:=hg u fun x hx=>⟨(h.good x hx).1,(h.good x hx).2.2⟩;have:=h.le;omega
end un
namespace ch
open Go.RowKit dec
def uT (u:List un.Fa):List UInt8:=if u=[] then [] else 32 :: 91 :: (un.fT u++[93])
def tyT (t:Ty):List UInt8 :=
 if t.k=1 then [98,111,111,108] else if t.k=4 then [116,101,120,116] else if t.k=5 then [107,101,121,32]++t.of.data.toList else if t.k=2 then [105,110,116]++uT t.un else [100,101,99]++uT t.un
def wiT (k n:Int):List UInt8 :=
 if k=2 then [115,108,105,100,105,110,103,32]++Lib.itoa n else if k=3 then [116,117,109,98,108,105,110,103,32]++Lib.itoa n else if k=4 then [115,101,115,115,105,111,110,32]++Lib.itoa n else [97,108,108]
def liT (h:Hd):List UInt8:=if h.vk=5 then 64 :: (h.nm.data.toList++32 :: 34 :: (h.vs.data.toList++[34])) else fm ⟨h.vk,h.vn,h.vs⟩++uT h.un
def rkO (op:ByteArray):Int:=if op=⟨#[111,114]⟩ then 2 else if op=⟨#[97,110,100]⟩ then 3 else if op=⟨#[43]⟩∨op=⟨#[45]⟩ then 6 else if op=⟨#[42]⟩∨op=⟨#[47]⟩ then 7 else 5
def rk (h:Hd):Int :=
 if h.k=8 then 0 else if h.k=9 then 1 else if h.k=7 then rkO h.op else if h.k=6 then (if h.op=⟨#[110,111,116]⟩ then 4 else if h.op=⟨#[45]⟩ then 8 else 9) else 9
def lef (r:Int):Int:=if r=5 then 6 else r
def par (r q:Int) (t:List UInt8):List UInt8:=if r<q then 40 :: (t++[41]) else t
abbrev Od:=List UInt8 × Hd
def od (l:List Od) (j:Nat):Od:=l.getD j ([],h0)
def odT (l:List Od) (j:Nat):List UInt8:=(od l j).1
def odP (l:List Od) (j:Nat) (q:Int):List UInt8:=par (rk (od l j).2) q (od l j).1
def agT (h:Hd) (l:List Od):List UInt8 :=
 h.op.data.toList++40 :: (h.tb.data.toList++((if h.op=⟨#[99,111,117,110,116]⟩ then [] else 44 :: 32 :: odT l 0)++((if h.op=⟨#[113,117,97,110,116,105,108,101]⟩∨h.op=⟨#[100,101,99,97,121]⟩ then 44 :: 32 :: Lib.itoa h.pa else []) ++
  (44 :: 32 :: wiT h.wk h.ws++((if bU (od l 1).2=true then [] else [32,119,104,101,114,101,32]++odT l 1)++[41])))))
def dH (h:Hd) (l:List Od):List UInt8 :=
 if h.k=1 then liT h
 else if h.k=4 then h.nm.data.toList++([32,111,102,32,40]++(odT l 0++[41]))
 else if h.k=5 then agT h l
 else if h.k=6 then (if h.op=⟨#[45]⟩ then 45 :: odP l 0 8 else if h.op=⟨#[110,111,116]⟩ then [110,111,116,32]++odP l 0 4 else [110,117,108,108,40]++(odT l 0++[41]))
 else if h.k=7 then odP l 0 (lef (rkO h.op))++(32 :: (h.op.data.toList++32 :: odP l 1 (rkO h.op+1)))
 else if h.k=8 then [105,102,32]++(odT l 0++([32,116,104,101,110,32]++(odT l 1++([32,101,108,115,101,32]++odT l 2))))
 else if h.k=9 then odP l 0 1++([32,100,101,102,97,117,108,116,32]++odP l 1 2)
 else h.nm.data.toList
def txF:Fo→List Od
 | .nil=>[]
 | .cons h ar r=>(dH h (txF ar),h) :: txF r
def txE (x:Ex):List UInt8:=dH x.h (txF x.ar)
theorem jL:∀ F:Fo,(txF F).length=F.len
 | .nil=>rfl
 | .cons h ar r=>by simp only [txF,List.length_cons,Fo.len,jL r]
theorem Eh:∀ (F:Fo) (j:Nat),j<F.len→od (txF F) j=(txE (F.nth j),(F.nth j).h)
 | .nil,_,h=>absurd h (Nat.not_lt_zero _)
 | .cons h ar r,0,_=>rfl
 | .cons h ar r,j+1,hj=>by
  have:=Eh r j (by simpa [Fo.len] using hj)
  simpa [txF,od,Fo.nth] using this
def fiT (f:Fi):List UInt8:=f.nm.data.toList++58 :: 32 :: tyT f.ty
def fsT:List Fi→List UInt8
 | []=>[]
 | f :: r=>32 :: (fiT f++(r.map fun g=>44 :: 32 :: fiT g).flatten)
def tbT (t:Tb):List UInt8 :=
 [116,97,98,108,101,32]++(t.nm.data.toList++([32,111,102,32]++(t.en.data.toList++([32,123]++(fsT t.fs++([32,125]++((if t.kp=0 then [] else [32,107,101,101,112,32]++Lib.itoa t.kp)++[59])))))))
theorem gV (n:Int) (h0:0≤n) (h1:n≤1152921504606846976):(Lib.itoa n).length≤20:=by
 have hd:∀ (k u:Nat),u<10 ^ (k+1)→(Lib.decDigits u).length≤k+1:=by
  intro k
  induction k with
  | zero=>intro u hu;rw [Lib.decDigits_one (by simpa using hu)];simp
  | succ k ih =>
    intro u hu
    by_cases h:u<10
    · rw [Lib.decDigits_one h];simp
    · rw [Lib.decDigits,dif_neg h,List.length_append]
      have:=ih (u / 10) (by rw [Nat.pow_succ] at hu;omega)
      simp only [List.length_singleton]
      omega
 unfold Lib.itoa;rw [if_neg (by omega)];exact hd 19 n.toNat (by omega)
end ch
end Go.Proofs.YtbahfelnbofjjaaGreatDoor
