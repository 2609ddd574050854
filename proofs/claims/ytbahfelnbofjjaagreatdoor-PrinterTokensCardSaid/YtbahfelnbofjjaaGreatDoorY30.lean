/-
  A whole source as an expression or a type; A module as plain data: items, what is left out; what is read is the head of the tokens; Tokens that differ in their offsets alone are read alike; More steps change no answer; what is read depends on the tokens that are read and on the one behind them; What the parser reads from the pieces of an expression of proper form: this expression.
-/
import Derived.Test.YtbahfelnbofjjaaGreatDoorY28
import Derived.Test.YtbahfelnbofjjaaGreatDoorY29
set_option maxRecDepth 100000
set_option maxHeartbeats 16000000
namespace Go.Proofs.YtbahfelnbofjjaaGreatDoor
namespace pa
open Go.RowKit dec
structure Off (B g:Nat) (w w':World):Prop where
 os:w'.os=w.os
 tape:w'.tape=w.tape
 output:w'.output=w.output
 size:w.heap.size≤w'.heap.size
 block:∀ k,k<w.heap.size→k≠B→k≠g→w'.heap[k]? = w.heap[k]?
theorem Off.mv {B g:Nat} {w w':World} (h:Mv w.heap.size B w w'):Off B g w w':=⟨h.os,h.tape,h.output,h.size,fun k hk hn _=>h.block k hk hn⟩
theorem Off.st {B g:Nat} {w a b:World} (h:Off B g w a) (k:St g a b):Off B g w b :=
 ⟨k.os.trans h.os,k.tape.trans h.tape,k.output.trans h.output,by rw [k.size];exact h.size,fun i hi hn hg=>(k.block i hg).trans (h.block i hi hn hg)⟩
theorem Off.blk {B g k:Nat} {w w':World} {T:TypeId} {cs:Array Value} (h:Off B g w w') (b:Blk w k T cs) (h1:k≠B) (h2:k≠g):Blk w' k T cs:=(h.block k b.lt h1 h2).trans b
theorem Off.below {B g S:Nat} {w w':World} (h:Off B g w w') (h1:S≤B) (h2:S≤g) (h3:S≤w.heap.size):Below S w w':=⟨h.os,h.tape,h.output,h.size,fun k hk=>h.block k (by omega) (by omega) (by omega)⟩
def tyC (t:Ty) (ua:Option Addr) (uc:Nat):Array Value:=#[.int .i64 t.k,.slice ua t.un.length uc,.string t.of]
theorem Cc (B:Nat) (w:World):Calls Tryz.prog 68 #[.pointer (some ⟨B,0,none⟩)] w fun e w' => e=.returned (.agg #[.pointer (some ⟨B,0,none⟩),.bool false])∧Below w.heap.size w w':=by
 go_enter Tryz.func68,Tryz.ntmps68
 go_wp2_with fail;refine bS uV Tryz.underlying108 rfl rfl _ _ w.heap.size _ _ rfl (Blk.new w _ _) rfl ?_;exact ⟨rfl,au (b0 w) _⟩
theorem JY (B:Nat) (l:List Tk) (w:World) (h:Ps w B l):Calls Tryz.prog 67 #[.pointer (some ⟨B,0,none⟩)] w (Pst B Ev (exR l) w):=by
 have P:=Hy (h.keeps (au (b0 w) (.cells zE 29)));have R:=Hy (Blk.new w 29 zE);have hlt:=Hy h.lt;have OC:=Hy (fun W=>Cc B W);clear h
 go_enter Tryz.func67,Tryz.ntmps67
 go_wp2_with fail;refine (OC.o _).mono ?_;rintro e w1 ⟨rfl,b1⟩;replace P:=Hy (P.o.keeps b1);replace R:=Hy (R.o.below b1 R.o.lt);have M:=Hy (Mv.of (B:=B) (av (au (b0 w) (.cells zE 29)) b1));clear b1;go_wp2_with fail;refine (RB B l w1 P.o).mono ?_;rintro e w2 h2;have hw:=Hy R.o.lt;rcases hG:exR l with _ | ⟨x,l2⟩ | ⟨a,c,l2⟩
 ·exact absurd hG (qB l)
 ·rw [hG] at h2;obtain ⟨u,rfl,⟨ua,uc,aa,ac,rfl,E⟩,pp,mm⟩:=h2;replace R:=Hy (R.o.mv mm (by have:=hlt.o;omega) R.o.lt);replace M:=Hy (M.o.next mm);replace P:=Hy pp;replace E:=Hy E;have hGG:=Hy hG;clear pp mm hG;go_wp2_with (refine aN (.tmp 2) (.tmp 5) rfl rfl _ _ _ _ rfl rfl R.o rfl rfl (aM _ _ _ _ _) ?_;intro w9 hb9 hs9);refine aV rfl _ _ _ _ _ rfl hb9 rfl ?_
  first | exact aR hGG.o ⟨ua,uc,aa,ac,rfl,(E.o.kp (hs9.kp hw.o)).less (Nat.le_of_lt hw.o)⟩ (P.o.st hs9 hlt.o) (M.o.trans (hs9.mv lr)) | exact aR rfl ⟨ua,uc,aa,ac,rfl,(E.o.kp (hs9.kp hw.o)).less (Nat.le_of_lt hw.o)⟩ (P.o.st hs9 hlt.o) (M.o.trans (hs9.mv lr))
 rw [hG] at h2;obtain ⟨rfl,pp,mm⟩:=h2;replace M:=Hy (M.o.next mm);replace P:=Hy pp;have hGG:=Hy hG;unfold thr;clear pp mm hG;go_wp2_with fail
 first | exact ⟨rfl,aJ hGG.o P.o M.o⟩ | exact ⟨rfl,aJ rfl P.o M.o⟩
def jT {α:Type} (one:List Tk→Rs α) (l:List Tk):Rs α:=(one l).bind fun x r=>(oP r).bind fun _ r=>.ok x r
theorem xA (l:List Tk):oP l≠.out:=by
 unfold oP wrg;split <;> exact fun h=>by cases h
theorem Pp {α:Type} {one:List Tk→Rs α} (h:∀ l,one l≠.out) (l:List Tk):jT one l≠.out:=aQ (h l) fun _ _ _=>aQ (xA _) fun _ _ _ h=>by cases h
def InE (C g:Nat) (w':World) (x:Ex):Prop:=∃ (ua:Option Addr) (uc:Nat) (aa:Option Addr) (ac:Nat),Blk w' g 29 (exC x ua uc aa ac)∧Ec C w' x ua aa
def ClE (B g:Nat) (r:Rs Ex) (w:World) (e:Ending) (w':World):Prop :=
 match r with
 | .out=>True
 | .ok x _=>e=.returned (.tuple #[])∧InE w.heap.size g w' x∧Off B g w w'
 | .no a c _=>e=thr a c∧Blk w' g 29 zE∧Off B g w w'
theorem OY (B bf bp g:Nat) (l:List Tk) (w:World) (h:Ps w B l) (hf:Blk w bf 110 #[.func (.func 67) #[] #[]]) (hp:Blk w bp 106 #[.pointer (some ⟨B,0,none⟩)]) (hv:Blk w g 29 zE) (_h1:bf≠B) (h2:bp≠B) (h3:g≠B) :
    Calls Tryz.prog 122 #[.pointer (some ⟨bf,0,none⟩),.pointer (some ⟨bp,0,none⟩),.pointer (some ⟨g,0,none⟩)] w (ClE B g (jT exR l) w):=by
 have P:=Hy h;have R:=Hy hv;have HP:=Hy hp;have e0:w.cell? ⟨bf,0,none⟩=some (.func (.func 67) #[] #[]):=hf.cell 0;have e1:w.cell? ⟨bp,0,none⟩=some (.pointer (some ⟨B,0,none⟩)):=hp.cell 0;have N2:=Hy h2;have N3:=Hy h3;have hgl:=Hy hv.lt;have HBW:=Hy h.lt;clear h hf hv hp _h1 h2 h3
 go_enter Tryz.func122,Tryz.ntmps122
 go_wp2_with fail;refine (JY B l w P.o).mono ?_;rintro e w1 k1;rcases hG:exR l with _ | ⟨x,l1⟩ | ⟨a,c,l1⟩
 ·exact absurd hG (qB l)
 ·rw [hG] at k1;obtain ⟨u,rfl,⟨ua,uc,aa,ac,rfl,E⟩,pp,mm⟩:=k1;have hal:=Hy (show jT exR l=(oP l1).bind fun _ r=>.ok x r by unfold jT;rw [hG];rfl);have R1:=Hy (R.o.mv mm N3.o R.o.lt);have HP1:=Hy (HP.o.mv mm N2.o HP.o.lt);have M1:=Hy mm;have P1:=Hy pp;have E1:=Hy E;have hs1:=Hy mm.size;clear pp mm hG E e0 e1 P R HP;go_wp2_with (refine aK aF (.tmp 3) (.tmp 6) rfl rfl _ _ _ _ rfl rfl (Blk.new _ _ _) rfl rfl (aM _ _ _ _ _) ?_;intro w2 L3 hs;have bb:=(au (b0 w1) _).trans (hs.below lr);replace L3:=Hy L3;have R2:=Hy (R1.o.below bb R1.o.lt);have HP2:=Hy (HP1.o.below bb HP1.o.lt);have P2:=Hy (P1.o.keeps bb);have M2:=Hy (M1.o.cK bb);have E2:=Hy (E1.o.kp (dI bb));clear bb hs P1 R1 HP1 M1 E1;have e1:=HP2.o.cell 0);refine (TY B l1 w2 P2.o _ rfl (xA _)).mono ?_;rintro e w3 k3;rcases hG:oP l1 with _ | ⟨y,l2⟩ | ⟨a,c,l2⟩
  ·exact absurd hG (xA _)
  ·rw [hG] at k3;obtain ⟨u,rfl,vv,pp,mm⟩:=k3;obtain rfl:u=.tuple #[]:=vv;have hfin:=Hy (show jT exR l=.ok x l2 by rw [hal.o,hG];rfl);have hB2:=Hy P2.o.lt;have R3:=Hy (R2.o.mv mm N3.o R2.o.lt);have L4:=Hy (L3.o.mv mm (by have:=hs1.o;have:=HBW.o;omega) L3.o.lt);have M3:=Hy (M2.o.next mm);have E3:=Hy (E2.o.kp (mm.kp HBW.o));clear pp mm hG e1;go_wp2_with (first | (refine aC aF Tryz.underlying29 rfl (.tmp 3) rfl rfl _ _ _ rfl L4.o rfl ?_) | (refine aK aF (.tmp 2) (.tmp 9) rfl rfl _ _ _ _ rfl rfl R3.o rfl rfl (aM _ _ _ _ _) ?_;intro w9 hb9 hs9));go_end0;rw [hfin.o];exact ⟨rfl,⟨ua,uc,aa,ac,hb9,E3.o.kp (hs9.kp hgl.o)⟩,(Off.mv M3.o).st hs9⟩
  rw [hG] at k3;obtain ⟨rfl,pp,mm⟩:=k3;have hfin:=Hy (show jT exR l=.no a c l2 by rw [hal.o,hG];rfl);have R3:=Hy (R2.o.mv mm N3.o R2.o.lt);have M3:=Hy (M2.o.next mm);unfold thr;clear pp mm hG e1;go_wp2_with fail;refine ⟨rfl,?_⟩;rw [hfin.o];exact ⟨rfl,R3.o,Off.mv M3.o⟩
 rw [hG] at k1;obtain ⟨rfl,pp,mm⟩:=k1;have hfin:=Hy (show jT exR l=.no a c l1 by unfold jT;rw [hG];rfl);have R3:=Hy (R.o.mv mm N3.o R.o.lt);have M3:=Hy mm;unfold thr;clear pp mm hG e0 e1;go_wp2_with fail;refine ⟨rfl,?_⟩;rw [hfin.o];exact ⟨rfl,R3.o,Off.mv M3.o⟩
theorem lJ {x:Tk} : x.t.size≤(so x).length:=by
 unfold so;split
 ·simp only [List.length_cons,List.length_append,Array.length_toList];show x.t.data.size≤_;omega
 simp only [Array.length_toList];exact Nat.le_refl _
theorem qL:∀ (l:List Tk),(∀ x ∈ l,pr x=true)→l.length≤(l.map fun x=>(so x).length).sum∧∀ x ∈ l,x.t.size≤(l.map fun x=>(so x).length).sum
 | [],_=>⟨Nat.zero_le _,fun x h=>by cases h⟩
 | y :: l,h=>by
  have h1:=qL l fun x hx=>h x (List.mem_cons_of_mem _ hx)
  have h2:=uG (h y (List.mem_cons_self ..))
  rw [List.map_cons,List.sum_cons,List.length_cons]
  refine ⟨by have:=h1.1;omega,fun x hx=>?_⟩
  rcases List.mem_cons.1 hx with rfl | hx
  ·have:=lJ (x:=x)
   omega
  ·have:=h1.2 x hx
   omega
theorem zy {s:ByteArray} (h:¬ 16384<s.size):Tl (cu s):=by
 have hl:cu s=(lxs 0 false s.data.toList).1++[kg s]:=by unfold cu;rw [if_neg h]
 have h1:=qL _ (uO 0 false s.data.toList);have h2:=nG s.data.toList _ 0 zl (qU s.data.toList 0 false s.data.toList rfl zl).1;have h3:s.data.toList.length=s.size:=aI s;rw [hl];refine ⟨fun x hx=>?_,⟨_,_,rfl,rfl⟩,?_⟩
 ·rcases List.mem_append.1 hx with hx | hx
  ·have:=h1.2 x hx;omega
  rw [List.mem_singleton] at hx;subst hx;exact Nat.zero_le _
 rw [List.length_append,List.length_singleton];have:=h1.1;omega
theorem Fg {s:ByteArray} (h:fF s=0):¬ 16384<s.size:=by
 unfold fF at h;split at h
 ·cases h
 assumption
def dR {α:Type} (z:α) (one:List Tk→Rs α) (s:ByteArray):α × Int × Int :=
 if fF s=0 then
  match iJ s with
  | q :: _=>(z,q.1,q.2)
  | [] =>
   match jT one (cu s) with
   | .ok x _=>(x,0,0)
   | .no a c _=>(z,a,c)
   | .out=>(z,0,0)
 else (z,0,fF s)
theorem Hu {α:Type} {z:α} {one:List Tk→Rs α} {s:ByteArray} {q:Pb} {qs:List Pb} (h:fF s=0) (hb:iJ s=q :: qs):dR z one s=(z,q.1,q.2):=by
 unfold dR;rw [if_pos h,hb]
theorem Dk {α:Type} {z:α} {one:List Tk→Rs α} {s:ByteArray} {x:α} {l:List Tk} (h:fF s=0) (hb:iJ s=[]) (ha:jT one (cu s)=.ok x l):dR z one s=(x,0,0):=by
 unfold dR;rw [if_pos h,hb];simp only [ha]
theorem MX {α:Type} {z:α} {one:List Tk→Rs α} {s:ByteArray} {a c:Int} {l:List Tk} (h:fF s=0) (hb:iJ s=[]) (ha:jT one (cu s)=.no a c l):dR z one s=(z,a,c):=by
 unfold dR;rw [if_pos h,hb];simp only [ha]
theorem pY {T:TypeId} {n:Nat} {d:TypeDesc} (hi:(Tryz.prog.info? T).map (·.size)=some n) (hu:Tryz.prog.underlying T=some d) (hd:oC d=true)
    {fn:Func} {R:Ending→World→Prop} {p t u:Tmp} (h:fn.results=#[.cell p T,.tmp t,.tmp u]) (tmps:Array Value) (w:World) (g:Nat) (T':TypeId) (cells:Array Value) (hp:tmps.getD p undef=.pointer (some ⟨g,0,none⟩))
    (hB:Blk w g T' cells) (hc:cells.size=n) (hR:R (.returned (.tuple #[.agg cells,tmps.getD t undef,tmps.getD u undef])) w):bodyPost Tryz.prog fn R .ret ⟨tmps,[]⟩ w:=by
 refine bodyPost_ret ?_ rfl hR;have hp':tmps[p]?.getD undef=.pointer (some ⟨g,0,none⟩):=by simpa using hp
 have hL:=run_loadVar_row (P:=Tryz.prog) w g T' T cells (0,0) d hB hu (by cases d <;> first | rfl | cases hd) (by rw [hc];exact hi);simp [results,h,hp',asAddr,hL]
theorem Kw (a0:Option Addr) (n0 cap:Nat) (s:ByteArray) (w:World) (hS:Bs w a0 n0 cap s) (T:Tabo w) (tr:Ex × Int × Int) (hTT:dR (α:=Ex) ⟨h0,.nil⟩ exR s=tr) :
    Calls Tryz.prog 66 #[.slice a0 n0 cap,.func (.func 67) #[] #[]] w fun e w' => ∃ v,e=.returned (.tuple #[v,.int .i64 tr.2.1,.int .i64 tr.2.2])∧Ev w.heap.size w' v tr.1∧Below w.heap.size w w':=by
 replace hTT:=Hy hTT;have bb:=au (au (b0 w) (.cells #[.func (.func 67) #[] #[]] 110)) (.cells zE 29);have HF:=Hy ((Blk.new w 110 #[.func (.func 67) #[] #[]]).past (.cells zE 29));have R:=Hy (by have:=Blk.new (w.alloc (.cells #[.func (.func 67) #[] #[]] 110)) 29 zE;simpa using this:Blk ((w.alloc (.cells #[.func (.func 67) #[] #[]] 110)).alloc (.cells zE 29)) (w.heap.size+1) 29 zE);have TC:=Hy (uo a0 n0 cap s _ (hS.keeps bb) (T.stays bb).t);have T0:=Hy (T.stays bb);have B0:=Hy bb;have hsz:=Hy (by simp:((w.alloc (.cells #[.func (.func 67) #[] #[]] 110)).alloc (.cells zE 29)).heap.size=w.heap.size+2);clear hS T bb
 go_enter Tryz.func66,Tryz.ntmps66
 go_wp2_with fail;refine TC.o.mono ?_;rintro e w2 ⟨vt,vb,rfl,Ot,Ob,b2⟩;have B2:=Hy (av B0.o b2);have HF2:=Hy (HF.o.below b2 HF.o.lt);have R2:=Hy (R.o.below b2 R.o.lt);have T2:=Hy (T0.o.stays b2);have hs2:=Hy (show w.heap.size+2≤w2.heap.size from by have:=b2.size;have:=hsz.o;omega);replace Ot:=Hy Ot;replace Ob:=Hy Ob;clear b2 TC T0 B0 HF R hsz;by_cases ht0:fF s=0
 ·have hz:=Hy (Fg ht0);have hE0:=Hy ht0;rw [ht0];clear ht0;rcases hB:iJ s with _ | ⟨q,qs⟩
  ·have hBB:=Hy hB;rw [hB] at Ob;clear hB;obtain ⟨va,vcap,rfl,_⟩:=Ob.o.sl;obtain ⟨ta,tcap,rfl,St0⟩:=Ot.o.sl;have Sx:=Hy St0;have q0:decide (0<([]:List Pb).length)=false:=rfl;simp only [List.length_nil];have pc:=au (au (b0 w2) (.cells #[.slice ta (cu s).length tcap,.int .i64 0] 117)) (.cells #[.pointer (some ⟨w2.heap.size,0,none⟩)] 106);have BP:=(Blk.new w2 117 #[.slice ta (cu s).length tcap,.int .i64 0]).past (.cells #[.pointer (some ⟨w2.heap.size,0,none⟩)] 106);have BQ:Blk ((w2.alloc (.cells #[.slice ta (cu s).length tcap,.int .i64 0] 117)).alloc (.cells #[.pointer (some ⟨w2.heap.size,0,none⟩)] 106)) (w2.heap.size+1) 106 #[.pointer (some ⟨w2.heap.size,0,none⟩)]:=by
    have:=Blk.new (w2.alloc (.cells #[.slice ta (cu s).length tcap,.int .i64 0] 117)) 106 #[.pointer (some ⟨w2.heap.size,0,none⟩)];simpa using this
   have P3:Hid (Ps ((w2.alloc (.cells #[.slice ta (cu s).length tcap,.int .i64 0] 117)).alloc (.cells #[.pointer (some ⟨w2.heap.size,0,none⟩)] 106)) w2.heap.size (cu s)):=Hy ⟨⟨ta,(cu s).length,tcap,cu s,0,BP.cell 0,BP.cell 1,BP.free 1,St0.keeps pc,fun b off hb=>by
     rcases St0.hat with hn | ⟨b',off',e',hC⟩
     · exact absurd (List.eq_nil_of_length_eq_zero hn) (zy hz.o).ne
     · rw [hb] at e'
       cases e'
       have:=(hC 0 (by have:=(zy hz.o).ne;cases hq:cu s with | nil=>exact absurd hq this | cons x r=>simp)).1
       exact block_lt_of_cell this,rfl⟩,zy hz.o,⟨w2,T2.o,pc,Nat.le_refl _⟩,BP.tg⟩
   have HF3:=Hy (HF2.o.below pc HF2.o.lt);have R3:=Hy (R2.o.below pc R2.o.lt);have BQ3:=Hy BQ;have B3:=Hy (av B2.o pc);have hs3:=Hy (by simp:((w2.alloc (.cells #[.slice ta (cu s).length tcap,.int .i64 0] 117)).alloc (.cells #[.pointer (some ⟨w2.heap.size,0,none⟩)] 106)).heap.size=w2.heap.size+2);have hmf:∀ (fn:Fn) (first cap:Array Value) (w:World),(Instr.makeFunc fn first cap).run Tryz.prog w=.ok (.func fn first cap) w:=fun _ _ _ _=>rfl;clear pc BP BQ St0 Sx Ob Ot HF2 R2 B2 T2;go_wp2_with fail;generalize ((w2.alloc (.cells #[.slice ta (cu s).length tcap,.int .i64 0] 117)).alloc (.cells #[.pointer (some ⟨w2.heap.size,0,none⟩)] 106))=w3 at *;have hgn:=Hy (show w.heap.size+1≠w2.heap.size from by have:=hs2.o;omega);have CA:=Hy (OY w2.heap.size w.heap.size (w2.heap.size+1) (w.heap.size+1) (cu s) (w3.alloc (.cells #[.int .i64 0,.int .i64 0] 122)) (P3.o.keeps (au (b0 w3) _)) (HF3.o.past _) (BQ3.o.past _) (R3.o.past _) (by have:=hs2.o;omega) (by omega) hgn.o);have hYY:∀ w',Off w2.heap.size (w.heap.size+1) (w3.alloc (.cells #[.int .i64 0,.int .i64 0] 122)) w'→Blk w' w3.heap.size 122 #[.int .i64 0,.int .i64 0]:=fun w' O=>O.blk (Blk.new w3 _ _) (by have:=hs3.o;omega) (by have:=hs2.o;have:=hs3.o;omega);rcases hA:jT exR (cu s) with _ | ⟨x,l1⟩ | ⟨a,c,l1⟩
   ·exact absurd hA (Pp (qB) _)
   ·have hT:=Hy (show tr=(x,0,0) from by rw [← hTT.o];exact Dk hE0.o hBB.o hA);rw [hA] at CA;clear hA;refine (GJ 122 #[.pointer (some ⟨w.heap.size,0,none⟩),.pointer (some ⟨w2.heap.size+1,0,none⟩),.pointer (some ⟨w.heap.size+1,0,none⟩)] w3 (fun w' => InE (w3.alloc (.cells #[.int .i64 0,.int .i64 0] 122)).heap.size (w.heap.size+1) w' x∧Off w2.heap.size (w.heap.size+1) (w3.alloc (.cells #[.int .i64 0,.int .i64 0] 122)) w') (fun w' h=>hYY w' h.2) CA.o (fun _=>rfl)).mono ?_;rintro e w5 ⟨w4,⟨⟨ua,uc,aa,ac,I4,E4⟩,O4⟩,S5,rfl⟩;have I5:=Hy (I4.st S5 (by have:=hs2.o;have:=hs3.o;omega));have E5:=Hy ((E4.kp (S5.kp (by simp))).less (show w.heap.size+2≤_ by simp;have:=hs2.o;have:=hs3.o;omega));have B5:=Hy (B3.o.trans ((((Below.refl w.heap.size w3).alloc (by have:=hs2.o;have:=hs3.o;omega) (.cells #[.int .i64 0,.int .i64 0] 122)).trans (O4.below (by have:=hs2.o;omega) (by omega) (by simp;have:=hs2.o;have:=hs3.o;omega))).trans (S5.below (by have:=hs2.o;have:=hs3.o;omega))));have hs5:=Hy (show w.heap.size+2≤w5.heap.size from by have:=S5.size;have:=O4.size;simp at this;have:=hs2.o;have:=hs3.o;omega);clear CA hYY I4 O4 S5 E4 P3 HF3 R3 BQ3 B3;go_wp2_with fail;have bb:=au (b0 w5) (.cells #[.int .i64 0,.int .i64 0] 122);have SS:=Hy (show Blk (w5.alloc (.cells #[.int .i64 0,.int .i64 0] 122)).drew (w.heap.size+1) 29 (exC x ua uc aa ac)∧Blk (w5.alloc (.cells #[.int .i64 0,.int .i64 0] 122)).drew w5.heap.size 122 #[.int .i64 0,.int .i64 0] from ⟨I5.o.past _,Blk.new w5 _ _⟩);refine wp_region_held_drew (S:=fun w' => Blk w' (w.heap.size+1) 29 (exC x ua uc aa ac)∧Blk w' w5.heap.size 122 #[.int .i64 0,.int .i64 0]) (by kernel_rfl) SS.o (fun hH=>?_);refine ak 0 40 (.agg (exC x ua uc aa ac)) rfl (by kernel_rfl) rfl (fun _ _ _ h=>h) rfl hH (fun w' hS=>aZ aF Tryz.underlying29 rfl (.tmp 4) rfl _ _ _ rfl hS.1 rfl) ?_;simp only [sz0,sz1];refine ak 1 41 ?_ rfl (by kernel_rfl) rfl (fun _ _ _ h=>h) rfl hH (fun w' hS=>?_) ?_;rotate_left
    ·go_simp;try with_reducible rfl
    simp only [sz0,sz1];refine ak 2 42 ?_ rfl (by kernel_rfl) rfl (fun _ _ _ h=>h) rfl hH (fun w' hS=>?_) ?_;rotate_left
    ·have e1:=hS.2.cell 0;go_simp;try with_reducible rfl
    simp only [sz0,sz1];refine ak 3 43 ?_ rfl (by kernel_rfl) rfl (fun _ _ _ h=>h) rfl hH (fun w' hS=>?_) ?_;rotate_left
    ·go_simp;try with_reducible rfl
    simp only [sz0,sz1];refine ak 4 44 ?_ rfl (by kernel_rfl) rfl (fun _ _ _ h=>h) rfl hH (fun w' hS=>?_) ?_;rotate_left
    ·have e1:=hS.2.cell 1;go_simp;try with_reducible rfl
    simp only [sz0,sz1];refine aA (i:=5) rfl (by kernel_rfl) rfl (fun K hK=>?_);refine qg aF (.tmp 4) (.tmp 40) rfl _ _ _ _ rfl rfl hH.1 rfl rfl (aM _ _ _ _ _) ?_;intro w9 hb9 hs9;refine hK.o _ _ ⟨hb9,hH.2.st hs9 (by have:=hs5.o;omega)⟩ (fun hH=>?_);clear hK K;have E7:=Hy ((E5.o.kp (dI bb)).kp (hs9.kp (by omega)));have B9:=Hy (((B5.o.trans (bb.mono (by have:=hs5.o;omega))).drew).trans (hs9.below (Nat.le_succ _)));replace hb9:=Hy hb9;clear hs9 SS bb;simp only [Act.put];refine ak 6 5 ?_ rfl (by kernel_rfl) rfl (fun _ _ _ h=>h) rfl hH (fun w' hS=>?_) ?_;rotate_left
    ·go_simp;try with_reducible rfl
    simp only [sz0,sz1];refine ak 7 6 ?_ rfl (by kernel_rfl) rfl (fun _ _ _ h=>h) rfl hH (fun w' hS=>?_) ?_;rotate_left
    ·go_simp;try with_reducible rfl
    simp only [sz0,sz1];clear hH;refine wpAnyH_done (by kernel_rfl) ?_ _;go_wp2_with fail;refine pY aF Tryz.underlying29 rfl rfl _ _ _ _ _ rfl hb9.o rfl ?_;rw [hT.o];exact ⟨_,rfl,⟨ua,uc,aa,ac,rfl,E7.o.less (by omega)⟩,B9.o⟩
   have hT:=Hy (show tr=(⟨h0,.nil⟩,a,c) from by rw [← hTT.o];exact MX hE0.o hBB.o hA);rw [hA] at CA;clear hA;refine (GK 122 #[.pointer (some ⟨w.heap.size,0,none⟩),.pointer (some ⟨w2.heap.size+1,0,none⟩),.pointer (some ⟨w.heap.size+1,0,none⟩)] w3 a c (fun w' => Blk w' (w.heap.size+1) 29 zE∧Off w2.heap.size (w.heap.size+1) (w3.alloc (.cells #[.int .i64 0,.int .i64 0] 122)) w') (fun w' h=>hYY w' h.2) CA.o (fun _=>rfl)).mono ?_;rintro e w5 ⟨w4,⟨I4,O4⟩,S5,rfl⟩;have I5:=Hy (I4.st S5 (by have:=hs2.o;have:=hs3.o;omega));have B5:=Hy (B3.o.trans ((((Below.refl w.heap.size w3).alloc (by have:=hs2.o;have:=hs3.o;omega) (.cells #[.int .i64 0,.int .i64 0] 122)).trans (O4.below (by have:=hs2.o;omega) (by omega) (by simp;have:=hs2.o;have:=hs3.o;omega))).trans (S5.below (by have:=hs2.o;have:=hs3.o;omega))));have hs5:=Hy (show w.heap.size+2≤w5.heap.size from by have:=S5.size;have:=O4.size;simp at this;have:=hs2.o;have:=hs3.o;omega);clear CA hYY I4 O4 S5 P3 HF3 R3 BQ3 B3;go_wp2_with fail;have bb:=au (b0 w5) (.cells #[.int .i64 a,.int .i64 c] 122);have SS:=Hy (show Blk (w5.alloc (.cells #[.int .i64 a,.int .i64 c] 122)).drew (w.heap.size+1) 29 (zE)∧Blk (w5.alloc (.cells #[.int .i64 a,.int .i64 c] 122)).drew w5.heap.size 122 #[.int .i64 a,.int .i64 c] from ⟨I5.o.past _,Blk.new w5 _ _⟩);refine wp_region_held_drew (S:=fun w' => Blk w' (w.heap.size+1) 29 (zE)∧Blk w' w5.heap.size 122 #[.int .i64 a,.int .i64 c]) (by kernel_rfl) SS.o (fun hH=>?_);refine ak 0 40 (.agg (zE)) rfl (by kernel_rfl) rfl (fun _ _ _ h=>h) rfl hH (fun w' hS=>aZ aF Tryz.underlying29 rfl (.tmp 4) rfl _ _ _ rfl hS.1 rfl) ?_;simp only [sz0,sz1];refine ak 1 41 ?_ rfl (by kernel_rfl) rfl (fun _ _ _ h=>h) rfl hH (fun w' hS=>?_) ?_;rotate_left
   ·go_simp;try with_reducible rfl
   simp only [sz0,sz1];refine ak 2 42 ?_ rfl (by kernel_rfl) rfl (fun _ _ _ h=>h) rfl hH (fun w' hS=>?_) ?_;rotate_left
   ·have e1:=hS.2.cell 0;go_simp;try with_reducible rfl
   simp only [sz0,sz1];refine ak 3 43 ?_ rfl (by kernel_rfl) rfl (fun _ _ _ h=>h) rfl hH (fun w' hS=>?_) ?_;rotate_left
   ·go_simp;try with_reducible rfl
   simp only [sz0,sz1];refine ak 4 44 ?_ rfl (by kernel_rfl) rfl (fun _ _ _ h=>h) rfl hH (fun w' hS=>?_) ?_;rotate_left
   ·have e1:=hS.2.cell 1;go_simp;try with_reducible rfl
   simp only [sz0,sz1];refine aA (i:=5) rfl (by kernel_rfl) rfl (fun K hK=>?_);refine qg aF (.tmp 4) (.tmp 40) rfl _ _ _ _ rfl rfl hH.1 rfl rfl (by simp [zE,Value.oneCell']) ?_;intro w9 hb9 hs9;refine hK.o _ _ ⟨hb9,hH.2.st hs9 (by have:=hs5.o;omega)⟩ (fun hH=>?_);clear hK K;have B9:=Hy (((B5.o.trans (bb.mono (by have:=hs5.o;omega))).drew).trans (hs9.below (Nat.le_succ _)));replace hb9:=Hy hb9;clear hs9 SS bb;simp only [Act.put];refine ak 6 5 ?_ rfl (by kernel_rfl) rfl (fun _ _ _ h=>h) rfl hH (fun w' hS=>?_) ?_;rotate_left
   ·go_simp;try with_reducible rfl
   simp only [sz0,sz1];refine ak 7 6 ?_ rfl (by kernel_rfl) rfl (fun _ _ _ h=>h) rfl hH (fun w' hS=>?_) ?_;rotate_left
   ·go_simp;try with_reducible rfl
   simp only [sz0,sz1];clear hH;refine wpAnyH_done (by kernel_rfl) ?_ _;go_wp2_with fail;refine pY aF Tryz.underlying29 rfl rfl _ _ _ _ _ rfl hb9.o rfl ?_;rw [hT.o];exact ⟨_,rfl,⟨none,0,none,0,rfl,⟨.inl rfl,.inl rfl⟩⟩,B9.o⟩
  have hT:=Hy (show tr=(⟨h0,.nil⟩,q.1,q.2) from by rw [← hTT.o];exact Hu hE0.o hB);rw [hB] at Ob;clear hB;rcases Ob.o.o with ⟨_,hnil⟩ | ⟨g,vcap,rfl,hbg,hg,hlc,hcm,hC⟩
  ·cases hnil
  have c0:w2.cell? ⟨g,0,none⟩=some (.int .i64 q.1):=(hC 0 (by simp)).1;have c1:w2.cell? ⟨g,1,none⟩=some (.int .i64 q.2):=(hC 0 (by simp)).2;have hgn:=Hy (show g≠w.heap.size+1 from by simp at hbg;omega);obtain ⟨N,hN⟩:∃ N,(q :: qs).length=N:=⟨_,rfl⟩;have hN0:0<N:=by rw [← hN];simp
  rw [hN];have q0:decide ((0:Int)<(N:Int))=true:=dT (by omega);have q1:(0:Int)<(N:Int):=by omega
  clear hN hC hlc hcm hbg Ob Ot;go_wp2_with fail;have SS:=Hy (show Blk w2.drew (w.heap.size+1) 29 (zE)∧w2.drew.cell? ⟨g,0,none⟩=some (.int .i64 q.1)∧w2.drew.cell? ⟨g,1,none⟩=some (.int .i64 q.2) from ⟨R2.o,c0,c1⟩);clear c0 c1;refine wp_region_held_drew (S:=fun w' => Blk w' (w.heap.size+1) 29 (zE)∧w'.cell? ⟨g,0,none⟩=some (.int .i64 q.1)∧w'.cell? ⟨g,1,none⟩=some (.int .i64 q.2)) (by kernel_rfl) SS.o (fun hH=>?_);refine ak 0 26 (.agg (zE)) rfl (by kernel_rfl) rfl (fun _ _ _ h=>h) rfl hH (fun w' hS=>aZ aF Tryz.underlying29 rfl (.tmp 4) rfl _ _ _ rfl hS.1 rfl) ?_;simp only [sz0,sz1];refine ak 1 27 ?_ rfl (by kernel_rfl) rfl (fun _ _ _ h=>h) rfl hH (fun w' hS=>?_) ?_;rotate_left
  ·go_simp;try with_reducible rfl
  simp only [sz0,sz1];refine ak 2 28 ?_ rfl (by kernel_rfl) rfl (fun _ _ _ h=>h) rfl hH (fun w' hS=>?_) ?_;rotate_left
  ·go_simp;try with_reducible rfl
  simp only [sz0,sz1];refine ak 3 29 ?_ rfl (by kernel_rfl) rfl (fun _ _ _ h=>h) rfl hH (fun w' hS=>?_) ?_;rotate_left
  ·go_simp;try with_reducible rfl
  simp only [sz0,sz1];refine ak 4 30 ?_ rfl (by kernel_rfl) rfl (fun _ _ _ h=>h) rfl hH (fun w' hS=>?_) ?_;rotate_left
  ·have e1:=hS.2.1;go_simp;try with_reducible rfl
  simp only [sz0,sz1];refine ak 5 31 ?_ rfl (by kernel_rfl) rfl (fun _ _ _ h=>h) rfl hH (fun w' hS=>?_) ?_;rotate_left
  ·go_simp;try with_reducible rfl
  simp only [sz0,sz1];refine ak 6 32 ?_ rfl (by kernel_rfl) rfl (fun _ _ _ h=>h) rfl hH (fun w' hS=>?_) ?_;rotate_left
  ·go_simp;try with_reducible rfl
  simp only [sz0,sz1];refine ak 7 33 ?_ rfl (by kernel_rfl) rfl (fun _ _ _ h=>h) rfl hH (fun w' hS=>?_) ?_;rotate_left
  ·go_simp;try with_reducible rfl
  simp only [sz0,sz1];refine ak 8 34 ?_ rfl (by kernel_rfl) rfl (fun _ _ _ h=>h) rfl hH (fun w' hS=>?_) ?_;rotate_left
  ·have e1:=hS.2.2;go_simp;try with_reducible rfl
  simp only [sz0,sz1];refine aA (i:=9) rfl (by kernel_rfl) rfl (fun K hK=>?_);refine qg aF (.tmp 4) (.tmp 26) rfl _ _ _ _ rfl rfl hH.1 rfl rfl (by simp [zE,Value.oneCell']) ?_;intro w9 hb9 hs9;refine hK.o _ _ ⟨hb9,(World.cell?_of_block (w:=w2.drew) (hs9.block g hgn.o)).trans hH.2.1,(World.cell?_of_block (w:=w2.drew) (hs9.block g hgn.o)).trans hH.2.2⟩ (fun hH=>?_);clear hK K;have B9:=Hy (B2.o.drew.trans (hs9.below (Nat.le_succ _)));replace hb9:=Hy hb9;clear hs9 SS;simp only [Act.put];refine ak 10 5 ?_ rfl (by kernel_rfl) rfl (fun _ _ _ h=>h) rfl hH (fun w' hS=>?_) ?_;rotate_left
  ·go_simp;try with_reducible rfl
  simp only [sz0,sz1];refine ak 11 6 ?_ rfl (by kernel_rfl) rfl (fun _ _ _ h=>h) rfl hH (fun w' hS=>?_) ?_;rotate_left
  ·go_simp;try with_reducible rfl
  simp only [sz0,sz1];clear hH;refine wpAnyH_done (by kernel_rfl) ?_ _;go_wp2_with fail;refine pY aF Tryz.underlying29 rfl rfl _ _ _ _ _ rfl hb9.o rfl ?_;rw [hT.o];exact ⟨_,rfl,⟨none,0,none,0,rfl,⟨.inl rfl,.inl rfl⟩⟩,B9.o⟩
 have q1:(fF s != 0)=true:=by simp [ht0]
 have hT:=Hy (show tr=(⟨h0,.nil⟩,0,fF s) from by rw [← hTT.o];unfold dR;rw [if_neg ht0]);clear ht0 hTT;generalize fF s=te at *;go_wp2_with (first | (refine aC aF Tryz.underlying29 rfl (.tmp 4) rfl rfl _ _ _ rfl R2.o rfl ?_) | (refine aK aF (.tmp 4) (.tmp 20) rfl rfl _ _ _ _ rfl rfl R2.o rfl rfl (by simp [zE,Value.oneCell']) ?_;intro w9 hb9 hs9));refine pY aF Tryz.underlying29 rfl rfl _ _ _ _ _ rfl hb9 rfl ?_;rw [hT.o];exact ⟨_,rfl,⟨none,0,none,0,rfl,⟨.inl rfl,.inl rfl⟩⟩,B2.o.trans (hs9.below (Nat.le_succ _))⟩
theorem KF (a0:Option Addr) (n0 cap:Nat) (s:ByteArray) (w:World) (hS:Bs w a0 n0 cap s) (T:Tabo w) (tr:Ex × Int × Int) (hTT:dR (α:=Ex) ⟨h0,.nil⟩ exR s=tr) :
    Calls Tryz.prog 27 #[.slice a0 n0 cap] w fun e w' => ∃ v,e=.returned (.tuple #[v,.int .i64 tr.2.1,.int .i64 tr.2.2])∧Ev w.heap.size w' v tr.1∧Below w.heap.size w w':=by
 have bb:=au (b0 w) (.cells zE 29);have WC:=Hy (Kw a0 n0 cap s _ (hS.keeps bb) (T.stays bb) tr hTT);have R:=Hy (Blk.new w 29 zE);have BB:=Hy bb;clear hS T hTT bb
 go_enter Tryz.func27,Tryz.ntmps27
 go_wp2_with fail;refine WC.o.mono ?_;rintro e w1 ⟨v,rfl,V,b1⟩;have R1:=Hy (R.o.below b1 R.o.lt);have B1:=Hy (av BB.o b1);have hsz:=Hy (by simp:(w.alloc (.cells zE 29)).heap.size=w.heap.size+1);obtain ⟨ua,uc,aa,ac,rfl,E⟩:=V;have E9:=Hy (hsz.o ▸ E);clear b1 E WC R BB;go_wp2_with (refine aK aF (.tmp 2) (.tmp 7) rfl rfl _ _ _ _ rfl rfl R1.o rfl rfl (aM _ _ _ _ _) ?_;intro w9 hb9 hs9);refine pY aF Tryz.underlying29 rfl rfl _ _ _ _ _ rfl hb9 rfl ?_;exact ⟨_,rfl,⟨ua,uc,aa,ac,rfl,(E9.o.kp (hs9.kp ls)).less (Nat.le_succ _)⟩,B1.o.trans (hs9.below lr)⟩
def Sx {α:Type} (x:Rs α) (l:List Tk):Prop :=
 match x with
 | .out=>True
 | .ok _ r=>r <:+ l
 | .no _ c r=>c≠0∧r <:+ l
inductive SimR (R:Int→Int→Prop):List Tk→List Tk→Prop where
 | last {x y:Tk} (hk:x.k=6) (hy:y.k=x.k) (ht:y.t=x.t) (ha:R x.a y.a):SimR R [x] [y]
 | cons {x y:Tk} {l r:List Tk} (hk:y.k=x.k) (ht:y.t=x.t) (ha:R x.a y.a) (h:SimR R l r):SimR R (x :: l) (y :: r)
theorem SimR.hk {R:Int→Int→Prop} {l r:List Tk} (h:SimR R l r):(hd r).k=(hd l).k:=by
 cases h with
 | last hk hy ht ha=>exact hy
 | cons hk ht ha h=>exact hk
theorem SimR.ht {R:Int→Int→Prop} {l r:List Tk} (h:SimR R l r):(hd r).t=(hd l).t:=by
 cases h with
 | last hk hy ht ha=>exact ht
 | cons hk ht ha h=>exact ht
theorem SimR.ha {R:Int→Int→Prop} {l r:List Tk} (h:SimR R l r):R (hd l).a (hd r).a:=by
 cases h with
 | last hk hy ht ha=>exact ha
 | cons hk ht ha h=>exact ha
theorem SimR.len {R:Int→Int→Prop} {l r:List Tk} (h:SimR R l r):r.length=l.length:=by
 induction h with
 | last hk hy ht ha=>rfl
 | cons hk ht ha h ih=>simp only [List.length_cons,ih]
theorem SimR.tail {R:Int→Int→Prop} {l r:List Tk} (h:SimR R l r) (h6:(hd l).k≠6):SimR R l.tail r.tail:=by
 cases h with
 | last hk hy ht ha=>exact absurd hk h6
 | cons hk ht ha h=>exact h
theorem SimR.sT {R:Int→Int→Prop} {l r:List Tk} (h:SimR R l r) (s:ByteArray):isT s r=isT s l:=by
 unfold Go.Proofs.YtbahfelnbofjjaaGreatDoor.isT;rw [h.hk,h.ht]
theorem SimR.of {R:Int→Int→Prop} {l r:List Tk} (h:SimR R l r) {s:ByteArray} (hs:isT s l=true):SimR R l.tail r.tail:=h.tail (Jr hs)
inductive RSim {α:Type} (R:Int→Int→Prop):Rs α→Rs α→Prop where
 | out:RSim R .out .out
 | ok (v:α) {l r:List Tk} (h:SimR R l r):RSim R (.ok v l) (.ok v r)
 | no {a b:Int} (c:Int) {l r:List Tk} (ha:R a b) (h:SimR R l r):RSim R (.no a c l) (.no b c r)
theorem RSim.bind {α β:Type} {R:Int→Int→Prop} {x y:Rs α} {g k:α→List Tk→Rs β} (h:RSim R x y) (hg:∀ v l r,SimR R l r→RSim R (g v l) (k v r)):RSim R (x.bind g) (y.bind k):=by
 cases h with
 | out=>exact .out
 | ok v h=>exact hg v _ _ h
 | no c ha h=>exact .no c ha h
section
variable {R:Int→Int→Prop}
theorem qI {α:Type} {l r:List Tk} (h:SimR R l r):RSim R (wrg l:Rs α) (wrg r):=.no 90 h.ha h
theorem fI {s:ByteArray} {l r:List Tk} (h:SimR R l r):RSim R (need s l) (need s r):=by
 unfold need;rw [h.sT];split
 ·rename_i t;exact .ok () (h.of t)
 exact qI h
theorem lH {k:Int} (hk:k≠6) {l r:List Tk} (h:SimR R l r):RSim R (tak k l) (tak k r):=by
 unfold tak;rw [h.hk,h.ht];split
 ·rename_i t;exact .ok _ (h.tail (by rw [t];exact hk))
 exact qI h
theorem nR {l r:List Tk} (h:SimR R l r):RSim R (nam l) (nam r):=by
 unfold nam;rw [h.ht];split
 ·exact lH (by decide) h
 exact qI h
theorem N8 {s:ByteArray} {l r:List Tk} (h:SimR R l r):RSim R (nma s l) (nma s r):=(fI h).bind fun _ _ _ h=>nR h
theorem nT {l r:List Tk} (h:SimR R l r):RSim R (int l) (int r):=(lH (by decide) h).bind fun _ _ _ h=>.ok _ h
theorem LJ {l r:List Tk} (h:SimR R l r):RSim R (mY l) (mY r):=(lH (by decide) h).bind fun _ _ _ h=>.ok _ h
theorem OP {l r:List Tk} (h:SimR R l r):RSim R (fac l) (fac r):=by
 refine (nR h).bind fun n l r h=>?_;rw [h.sT];split
 ·rename_i t;have h1:=h.of t;rw [h1.sT];split
  ·rename_i t1;exact (nT (h1.of t1)).bind fun _ _ _ h=>.ok _ h
  exact (nT h1).bind fun _ _ _ h=>.ok _ h
 exact .ok _ h
theorem Ah {α:Type} {one:List Tk→Rs α} {s:ByteArray} (h1:∀ {l r:List Tk},SimR R l r→RSim R (one l) (one r)):∀ (f:Nat) (x:List α) {l r:List Tk},SimR R l r→RSim R (more one s f x l) (more one s f x r)
 | 0,_,_,_,_=>.out
 | f+1,x,l,r,h=>by
  unfold more
  rw [h.sT]
  split
  ·rename_i t
   exact (h1 (h.of t)).bind fun y l r h=>Ah h1 f _ h
  ·exact .ok _ h
theorem Ol {α:Type} {one:List Tk→Rs α} {s:ByteArray} (h1:∀ {l r:List Tk},SimR R l r→RSim R (one l) (one r)) {l r:List Tk} (h:SimR R l r):RSim R (lst one s l) (lst one s r) :=
 (h1 h).bind fun y l r h=>by rw [h.len];exact Ah h1 _ _ h
theorem Df {l r:List Tk} (h:SimR R l r):RSim R (uni l) (uni r):=by
 unfold uni;rw [h.sT];split
 ·rename_i t;refine (Ol OP (h.of t)).bind fun u l' r' h' => (fI h').bind fun _ l' r' h' => ?_;split
  ·exact .ok _ h'
  exact .no _ h.ha h'
 exact .ok _ h
theorem MO {l r:List Tk} (h:SimR R l r):RSim R (win l) (win r):=by
 unfold win;simp only [h.sT];split
 ·rename_i t;exact .ok _ (h.of t)
 iterate 3
   split
   · rename_i t;exact (nT (h.of t)).bind fun _ _ _ h=>.ok _ h
 exact qI h
theorem OA {l r:List Tk} (h:SimR R l r):RSim R (key l) (key r):=by
 refine (N8 h).bind fun n l r h=>(lH (by decide) h).bind fun s l' r' h' => ?_;split
 ·exact .ok _ h'
 exact .no _ h.ha h'
theorem NQ {n:Nat} {l r:List Tk} (h:SimR R l r):opr n r=opr n l:=by
 unfold opr;rw [show (fun s=>isT s r)=fun s=>isT s l from funext fun s=>h.sT s]
theorem Qs:∀ (f:Nat) (i:Bool) (m:Md) {l r:List Tk},SimR R l r→RSim R (pz f i m l) (pz f i m r):=by
 intro f
 induction f with
 | zero=>intro i m l r _;exact .out
 | succ f ih =>
   intro i m l r h
   cases m with
   | ex =>
     simp only [pz,h.sT]
     split
     · rename_i t
       exact (ih _ _ (h.of t)).bind fun _ _ _ h=>(fI h).bind fun _ _ _ h=>(ih _ _ h).bind fun _ _ _ h=>(fI h).bind fun _ _ _ h=>(ih _ _ h).bind fun _ _ _ h=>.ok _ h
     · exact ih _ _ h
   | op least =>
     simp only [pz,h.sT]
     split
     · rename_i t
       exact (ih _ _ (h.of t.2)).bind fun _ _ _ h=>ih _ _ h
     · exact (ih _ _ h).bind fun _ _ _ h=>ih _ _ h
   | tl least n y =>
     simp only [pz,NQ h]
     split
     · exact .ok _ h
     · split
       · exact ih _ _ h
       · rename_i t
         exact (ih _ _ (h.of (Aa t))).bind fun _ _ _ h=>ih _ _ h
   | ng =>
     simp only [pz,h.sT]
     split
     · rename_i t
       exact (ih _ _ (h.of t)).bind fun _ _ _ h=>.ok _ h
     · exact ih _ _ h
   | pa =>
     simp only [pz]
     exact (fI h).bind fun _ _ _ h=>(ih _ _ h).bind fun _ _ _ h=>(fI h).bind fun _ _ _ h=>.ok _ h
   | rf =>
     simp only [pz]
     refine (nR h).bind fun n l r h=>?_
     rw [h.sT]
     split
     · rename_i t
       exact (ih _ _ (h.of t)).bind fun _ _ _ h=>.ok _ h
     · exact .ok _ h
   | ag =>
     simp only [pz]
     refine (lH (by decide) h).bind fun op _ _ h=>(fI h).bind fun _ _ _ h=>(nR h).bind fun t _ _ h=>(fI h).bind fun _ l r h=>RSim.bind (x:=if op=⟨#[99,111,117,110,116]⟩ then .ok (bZ 1) l else _) (y:=if op=⟨#[99,111,117,110,116]⟩ then .ok (bZ 1) r else _) ?_ fun x l r h=>RSim.bind (x:=if op=⟨#[113,117,97,110,116,105,108,101]⟩∨op=⟨#[100,101,99,97,121]⟩ then _ else .ok 0 l) (y:=if op=⟨#[113,117,97,110,116,105,108,101]⟩∨op=⟨#[100,101,99,97,121]⟩ then _ else .ok 0 r) ?_ fun p l r h=>(MO h).bind fun w l r h=>RSim.bind (x:=if isT ⟨#[119,104,101,114,101]⟩ l=true then _ else _) (y:=if isT ⟨#[119,104,101,114,101]⟩ r=true then _ else _) ?_ fun y l r h=>(fI h).bind fun _ _ _ h=>.ok _ h
     · split
       · exact .ok _ h
       · exact (ih _ _ h).bind fun _ _ _ h=>(fI h).bind fun _ _ _ h=>.ok _ h
     · split
       · exact (nT h).bind fun _ _ _ h=>(fI h).bind fun _ _ _ h=>.ok _ h
       · exact .ok _ h
     · rw [h.sT]
       split
       · rename_i t;exact ih _ _ (h.of t)
       · exact .ok _ h
   | pr =>
     simp only [pz,h.sT,h.hk,h.ht]
     split
     · exact (nT h).bind fun _ _ _ h=>(Df h).bind fun _ _ _ h=>.ok _ h
     split
     · exact (LJ h).bind fun _ _ _ h=>(Df h).bind fun _ _ _ h=>.ok _ h
     split
     · exact (lH (by decide) h).bind fun _ _ _ h=>.ok _ h
     split
     · rename_i t;exact .ok _ (h.of t)
     split
     · rename_i t;exact .ok _ (h.of t)
     split
     · exact OA h
     split
     · rename_i t;exact (ih _ _ (h.of t)).bind fun _ _ _ h=>.ok _ h
     split
     · exact ih _ _ h
     split
     · exact (nR h).bind fun _ _ _ h=>.ok _ h
     split
     · exact ih _ _ h
     · exact ih _ _ h
theorem OU {l r:List Tk} (h:SimR R l r):RSim R (exR l) (exR r):=by
 unfold exR;rw [h.len];exact Qs _ _ _ h
end
def RM {α:Type} (x y:Rs α):Prop:=x≠.out→y=x
theorem RM.refl {α:Type} (x:Rs α):RM x x:=fun _=>rfl
theorem RM.bind {α β:Type} {x y:Rs α} {g k:α→List Tk→Rs β} (h:RM x y) (hg:∀ v q,RM (g v q) (k v q)):RM (x.bind g) (y.bind k):=by
 intro hn;rw [h (bG hn)]
 cases x with
 | out=>exact absurd rfl hn
 | ok v q=>exact hg v q hn
 | no a c q=>rfl
theorem Nu {f g:Nat} (ih:∀ i m l,RM (pz f i m l) (pz g i m l)) (i:Bool) (m:Md) (l:List Tk):RM (pz (f+1) i m l) (pz (g+1) i m l):=by
 cases m with
 | ex =>
   simp only [pz]
   split
   · exact (ih _ _ _).bind fun _ _=>(RM.refl _).bind fun _ _=>(ih _ _ _).bind fun _ _=>(RM.refl _).bind fun _ _=>(ih _ _ _).bind fun _ _=>RM.refl _
   · exact ih _ _ _
 | op least =>
   simp only [pz]
   split
   · exact (ih _ _ _).bind fun _ _=>ih _ _ _
   · exact (ih _ _ _).bind fun _ _=>ih _ _ _
 | tl least n y =>
   simp only [pz]
   split
   · exact RM.refl _
   · split
     · exact ih _ _ _
     · exact (ih _ _ _).bind fun _ _=>ih _ _ _
 | ng =>
   simp only [pz]
   split
   · exact (ih _ _ _).bind fun _ _=>RM.refl _
   · exact ih _ _ _
 | pa =>
   simp only [pz]
   exact (RM.refl _).bind fun _ _=>(ih _ _ _).bind fun _ _=>(RM.refl _).bind fun _ _=>RM.refl _
 | rf =>
   simp only [pz]
   refine (RM.refl _).bind fun n r=>?_
   split
   · exact (ih _ _ _).bind fun _ _=>RM.refl _
   · exact RM.refl _
 | ag =>
   simp only [pz]
   refine (RM.refl _).bind fun op _=>(RM.refl _).bind fun _ _=>(RM.refl _).bind fun t _=>(RM.refl _).bind fun _ l=>RM.bind ?_ fun x l=>(RM.refl _).bind fun p l=>(RM.refl _).bind fun w l=>RM.bind ?_ fun y l=>RM.refl _
   · split
     · exact RM.refl _
     · exact (ih _ _ _).bind fun _ _=>RM.refl _
   · split
     · exact ih _ _ _
     · exact RM.refl _
 | pr =>
   simp only [pz]
   split
   · exact RM.refl _
   split
   · exact RM.refl _
   split
   · exact RM.refl _
   split
   · exact RM.refl _
   split
   · exact RM.refl _
   split
   · exact RM.refl _
   split
   · exact (ih _ _ _).bind fun _ _=>RM.refl _
   split
   · exact ih _ _ _
   split
   · exact RM.refl _
   split
   · exact ih _ _ _
   · exact ih _ _ _
theorem FN:∀ (f g:Nat),f≤g→∀ i m l,RM (pz f i m l) (pz g i m l)
 | 0,_,_,_,_,_=>fun h=>absurd rfl h
 | f+1,0,h,_,_,_=>by omega
 | f+1,g+1,h,i,m,l=>Nu (FN f g (by omega)) i m l
theorem Qr {f g:Nat} {i:Bool} {m:Md} {l:List Tk} (h1:pz f i m l≠.out) (h2:pz g i m l≠.out):pz f i m l=pz g i m l:=by
 rcases Nat.le_total f g with h | h
 ·exact (FN f g h i m l h1).symm
 exact FN g f h i m l h2
def Stp (l:List Tk):Prop:=((hd l).k=6∧(hd l).t=.empty)∨((hd l).k=5∧(hd l).t=⟨#[41]⟩)∨((hd l).k=5∧(hd l).t=⟨#[59]⟩)
section
variable {t1 t2:List Tk}
end
end pa
namespace ch
open Go.RowKit dec
def tkl (K:List Pc):List Tk:=K.map tk0
theorem gI (a b:List Pc):tkl (a++b)=tkl a++tkl b:=List.map_append ..
theorem dG (p:Pc) (b:List Pc):tkl (p :: b)=tk0 p :: tkl b:=rfl
theorem kJ (K:List Pc):tkl (sp K)=tkl K:=by cases K <;> rfl
theorem lC (s t:ByteArray) (a:Int) (r:List Tk):isT s (⟨1,t,a⟩ :: r)=decide (t=s):=by unfold isT hd;simp
theorem oL (s t:ByteArray) (a:Int) (r:List Tk):isT s (⟨5,t,a⟩ :: r)=decide (t=s):=by unfold isT hd;simp
theorem TI {k:Int} (h1:k≠1) (h5:k≠5) (s t:ByteArray) (a:Int) (r:List Tk):isT s (⟨k,t,a⟩ :: r)=false:=by unfold isT hd;simp [h1,h5]
theorem nt {b:Bool} (h:b=false):¬ b=true:=by rw [h];decide
theorem lI (k:Int) (t:ByteArray) (a:Int) (r:List Tk):tak k (⟨k,t,a⟩ :: r)=.ok t r:=by unfold tak hd;simp
theorem lQ {m:ByteArray} (h:name m=true) (a:Int) (r:List Tk):nam (⟨1,m,a⟩ :: r)=.ok m r:=by
 unfold nam;rw [if_pos (show name (hd (⟨1,m,a⟩ :: r)).t=true from h)];exact lI ..
theorem fJ {s:ByteArray} {l:List Tk} (h:isT s l=true):need s l=.ok () l.tail:=by unfold need;rw [if_pos h]
theorem j5 {n:Int} (h1:0≤n) (h2:n≤1152921504606846976) (a:Int) (r:List Tk):int (⟨2,⟨(Lib.itoa n).toArray⟩,a⟩ :: r)=.ok n r:=by
 unfold int;rw [lI];show Rs.ok (jR (Lib.itoa n).toArray.toList) r=_;rw [show (Lib.itoa n).toArray.toList=Lib.itoa n from rfl,Ko (by omega) (by omega)]
theorem LK {n:Int} (h1:0≤n) (h2:n≤1152921504606846976) (a:Int) (r:List Tk):mY (⟨3,⟨(foX n).toArray⟩,a⟩ :: r)=.ok n r:=by
 unfold mY;rw [lI];show Rs.ok (paX (foX n).toArray.toList) r=_;rw [show (foX n).toArray.toList=foX n from rfl,(Mf (by omega) (by omega)).1]
theorem Pz {n:Int} (h1 : -8≤n) (h2:n≤8):IntKind.i64.wrap n=n:=by rw [IntKind.wrap_i64];omega
theorem Er {x:un.Fa} (hn:name x.1=true) (h1 : -8≤x.2) (h2:x.2≤8) {r:List Tk} (hr:isT ⟨#[94]⟩ r=false):fac (tkl (faK x)++r)=.ok x r:=by
 obtain ⟨m,e⟩:=x;unfold fac;have e0:tkl (faK (m,e))++r=⟨1,m,0⟩ :: (tkl (if e=1 then [] else sg ⟨#[94]⟩ :: ((if e<0 then [sg ⟨#[45]⟩] else [])++[(false,2,⟨(Lib.decDigits e.natAbs).toArray⟩)]))++r):=rfl;rw [e0,lQ hn];by_cases q1:e=1
 ·subst q1;rw [if_pos rfl];show (if isT ⟨#[94]⟩ r=true then _ else Rs.ok (m,1) r)=_;rw [if_neg (nt hr)]
 rw [if_neg q1];have hd:Lib.decDigits e.natAbs=Lib.itoa (e.natAbs:Nat):=by unfold Lib.itoa;rw [if_neg (by omega)];rfl
 rw [hd];by_cases q2:e<0
 ·rw [if_pos q2];show (int (⟨2,⟨(Lib.itoa (e.natAbs:Nat)).toArray⟩,0⟩ :: r)).bind (fun x r=>(Rs.ok (m,IntKind.i64.wrap (-1 * min x 1099511627776)) r:Rs un.Fa))=Rs.ok (m,e) r;rw [j5 (by omega) (by omega)];show Rs.ok (m,IntKind.i64.wrap (-1 * min ((e.natAbs:Nat):Int) 1099511627776)) r=_;rw [show -1 * min ((e.natAbs:Nat):Int) 1099511627776=e by omega,Pz h1 h2]
 rw [if_neg q2];show (int (⟨2,⟨(Lib.itoa (e.natAbs:Nat)).toArray⟩,0⟩ :: r)).bind (fun x r=>(Rs.ok (m,IntKind.i64.wrap (1 * min x 1099511627776)) r:Rs un.Fa))=Rs.ok (m,e) r;rw [j5 (by omega) (by omega)];show Rs.ok (m,IntKind.i64.wrap (1 * min ((e.natAbs:Nat):Int) 1099511627776)) r=_;rw [show 1 * min ((e.natAbs:Nat):Int) 1099511627776=e by omega,Pz h1 h2]
theorem Ep:∀ (us:List un.Fa) (acc:List un.Fa) (f:Nat) (r:List Tk),(∀ x ∈ us,name x.1=true∧-8≤x.2∧x.2≤8)→us.length<f→isT ⟨#[42]⟩ r=false→isT ⟨#[94]⟩ r=false →
  more fac ⟨#[42]⟩ f acc (tkl (us.map fun y=>sg ⟨#[42]⟩ :: faK y).flatten++r)=.ok (acc++us) r
 | [],acc,f+1,r,_,_,hr,_=>by
  show (if isT ⟨#[42]⟩ r=true then _ else Rs.ok acc r)=_
  rw [if_neg (nt hr),List.append_nil]
 | x :: us,acc,f+1,r,h,hf,hr,hr2=>by
  obtain ⟨a1,a2,a3⟩:=h x (List.mem_cons_self ..)
  have e0:tkl ((x :: us).map fun y=>sg ⟨#[42]⟩ :: faK y).flatten++r=⟨5,⟨#[42]⟩,0⟩ :: (tkl (faK x)++(tkl (us.map fun y=>sg ⟨#[42]⟩ :: faK y).flatten++r)):=by
   rw [List.map_cons,List.flatten_cons,gI,dG,List.cons_append,List.cons_append,List.append_assoc]
   rfl
  rw [e0]
  show (if isT ⟨#[42]⟩ (⟨5,⟨#[42]⟩,0⟩ :: _)=true then (fac (tkl (faK x)++(tkl (us.map fun y=>sg ⟨#[42]⟩ :: faK y).flatten++r))).bind fun y r=>more fac ⟨#[42]⟩ f (acc++[y]) r else _)=_
  have hh:isT ⟨#[94]⟩ (tkl (us.map fun y=>sg ⟨#[42]⟩ :: faK y).flatten++r)=false:=by
   cases us with
   | nil=>exact hr2
   | cons y us=>rfl
  rw [oL,if_pos (by decide),Er a1 a2 a3 hh]
  show more fac ⟨#[42]⟩ f (acc++[x]) _=_
  rw [Ep us _ f r (fun y hy=>h y (List.mem_cons_of_mem _ hy)) (by simp at hf;omega) hr hr2,List.append_assoc]
  rfl
theorem OJ (us:List un.Fa) (r:List Tk):us.length≤(tkl (us.map fun y=>sg ⟨#[42]⟩ :: faK y).flatten++r).length:=by
 induction us with
 | nil=>simp
 | cons x us ih =>
   rw [List.map_cons,List.flatten_cons,gI,List.append_assoc,List.length_append]
   have:1≤(tkl (sg ⟨#[42]⟩ :: faK x)).length:=by rw [dG];simp
   simp only [List.length_cons] at *
   omega
theorem Dh {u:List un.Fa} (h:Un u) {r:List Tk} (hr:isT ⟨#[91]⟩ r=false):uni (tkl (unK u)++r)=.ok u r:=by
 cases u with
 | nil =>
   show (if isT ⟨#[91]⟩ r=true then _ else Rs.ok [] r)=_
   rw [if_neg (nt hr)]
 | cons x us =>
   have hf:∀ y ∈ x :: us,name y.1=true∧-8≤y.2∧y.2≤8:=fun y hy=>⟨h.n y hy,(nX h hy).1,(nX h hy).2.1⟩
   obtain ⟨a1,a2,a3⟩:=hf x (List.mem_cons_self ..)
   have e0:tkl (unK (x :: us))++r=⟨5,⟨#[91]⟩,0⟩ :: (tkl (faK x)++(tkl (us.map fun y=>sg ⟨#[42]⟩ :: faK y).flatten++(⟨5,⟨#[93]⟩,0⟩ :: r))):=by
     unfold unK
     rw [dG,gI,gI,List.cons_append,List.append_assoc,List.append_assoc]
     rfl
   rw [e0]
   generalize ht:(tkl (us.map fun y=>sg ⟨#[42]⟩ :: faK y).flatten++(⟨5,⟨#[93]⟩,0⟩ :: r))=t
   have hh:isT ⟨#[94]⟩ t=false:=by
     rw [← ht]
     cases us with
     | nil=>rfl
     | cons y us=>rfl
   have hl:us.length<t.length+1:=by have:=OJ us (⟨5,⟨#[93]⟩,0⟩ :: r);rw [ht] at this;omega
   have hm:more fac ⟨#[42]⟩ (t.length+1) [x] t=.ok (x :: us) (⟨5,⟨#[93]⟩,0⟩ :: r):=by
     have:=Ep us [x] (t.length+1) (⟨5,⟨#[93]⟩,0⟩ :: r) (fun y hy=>hf y (List.mem_cons_of_mem _ hy)) hl rfl rfl
     rw [ht] at this
     exact this
   show (if isT ⟨#[91]⟩ (⟨5,⟨#[91]⟩,0⟩ :: (tkl (faK x)++t))=true then (lst fac ⟨#[42]⟩ (tkl (faK x)++t)).bind fun u r=>(need ⟨#[93]⟩ r).bind fun _ r=>if un.nE u=0 then .ok (un.nL u) r else .no (hd (⟨5,⟨#[91]⟩,0⟩ :: (tkl (faK x)++t))).a (un.nE u) r else _)=_
   rw [oL,if_pos (by decide)]
   unfold lst
   rw [Er a1 a2 a3 hh]
   show ((more fac ⟨#[42]⟩ (t.length+1) [x] t).bind fun u r=>(need ⟨#[93]⟩ r).bind fun _ r=>if un.nE u=0 then .ok (un.nL u) r else _)=_
   rw [hm]
   show ((need ⟨#[93]⟩ (⟨5,⟨#[93]⟩,0⟩ :: r)).bind fun _ r=>if un.nE (x :: us)=0 then .ok (un.nL (x :: us)) r else _)=_
   rw [fJ (by rw [oL];decide)]
   show (if un.nE (x :: us)=0 then Rs.ok (un.nL (x :: us)) r else _)=_
   rw [if_pos (un.QV h.o).1,(un.QV h.o).2]
theorem jL {m w:ByteArray} (h:name m=true) (hw:name w=false) (a:Int) (r:List Tk):isT w (⟨1,m,a⟩ :: r)=false:=by
 rw [lC,dF];rintro rfl;rw [h] at hw;cases hw
theorem MP {k n:Int} (h:fC k n=true) (r:List Tk):win (tkl (wiK k n)++r)=.ok (k,n) r:=by
 rcases lq h with ⟨rfl,rfl⟩ | ⟨h1,h2,h3⟩
 ·rfl
 rcases h1 with rfl | rfl | rfl
 ·show (int (⟨2,⟨(Lib.itoa n).toArray⟩,0⟩ :: r)).bind (fun n r=>Rs.ok ((2:Int),n) r)=_;rw [j5 (by omega) (by omega)];rfl
 ·show (int (⟨2,⟨(Lib.itoa n).toArray⟩,0⟩ :: r)).bind (fun n r=>Rs.ok ((3:Int),n) r)=_;rw [j5 (by omega) (by omega)];rfl
 show (int (⟨2,⟨(Lib.itoa n).toArray⟩,0⟩ :: r)).bind (fun n r=>Rs.ok ((4:Int),n) r)=_;rw [j5 (by omega) (by omega)];rfl
end ch
end Go.Proofs.YtbahfelnbofjjaaGreatDoor
