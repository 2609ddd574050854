/- What the parser has built, as what the. -/
import Derived.Test.YtbahfelnbofjjaaGreatDoorH18
import Derived.Test.YtbahfelnbofjjaaGreatDoorH28
set_option maxRecDepth 100000
set_option maxHeartbeats 16000000
namespace Go.Proofs.YtbahfelnbofjjaaGreatDoor
namespace ch
open Go.RowKit dec
theorem rX {C:Nat} {w:World} {a:Option Addr} {l:List un.Fa} (h:Us C w a l) (hl:l.length≤1048576) (c:Nat):un.Sl w a l.length c l :=
 ⟨h.imp id fun ⟨b,off,e,_,hC,_⟩=>⟨b,off,e,hC⟩,rfl,Nat.zero_le _,by omega,trivial⟩
theorem Mj {w:World} {b off:Nat} {h:Hd} {ua:Option Addr} {uc:Nat} {aa:Option Addr} {an ac:Nat} (N:Nd w b off h ua uc aa an ac):w.rangeAt b off (exC h an ua uc aa ac).toList:=by
 obtain ⟨n0,n1,n2,n3,n4,n5,n6,n7,n8,n9,n10,n11⟩:=N;intro j v hv;simp only [exC] at hv
 match j,hv with
 | 0,hv=>cases hv;exact n0
 | 1,hv=>cases hv;exact n1
 | 2,hv=>cases hv;exact n2
 | 3,hv=>cases hv;exact n3
 | 4,hv=>cases hv;exact n4
 | 5,hv=>cases hv;exact n5
 | 6,hv=>cases hv;exact n6
 | 7,hv=>cases hv;exact n7
 | 8,hv=>cases hv;exact n8
 | 9,hv=>cases hv;exact n9
 | 10,hv=>cases hv;exact n10
 | 11,hv=>cases hv;exact n11
 | j+12,hv=>simp at hv
theorem yF {C:Nat} {w:World} : ∀ (F:Fo) (b off:Nat),Fm C w F b off→F.sm→FoV w F b off
 | .nil,_,_,_,_=>trivial
 | .cons h ar r,b,off,hF,hs=>by
  obtain ⟨⟨ua,uc,aa,ac,N,U,A⟩,R⟩:=hF
  obtain ⟨s1,s2,s3,s4⟩:=hs
  exact ⟨⟨ua,uc,aa,ac,Mj N,rX U s1 uc,⟨Nat.zero_le _,by omega,trivial⟩,A.imp id fun ⟨b',off',e,_,_,hF'⟩=>⟨b',off',e,yF ar b' off' hF' s3⟩⟩,yF r b (off+12) R s4⟩
theorem Rq {C:Nat} {w:World} {a:Option Addr} {F:Fo} (h:As C w a F) (hl:F.len≤1048576) (hs:F.sm) (c:Nat):Fs w a F.len c F :=
 ⟨h.imp id fun ⟨b,off,e,_,_,hF⟩=>⟨b,off,e,yF F b off hF hs⟩,rfl,Nat.zero_le _,by omega,trivial⟩
theorem Rh {C:Nat} {w:World} {x:Ex} {ua aa:Option Addr} (h:Go.Proofs.YtbahfelnbofjjaaGreatDoor.Ec C w x ua aa) (hs:x.sm) (uc ac:Nat):Ec w x ua uc aa ac :=
 ⟨rX h.us hs.1 uc,Rq h.ar hs.2.1 hs.2.2 ac⟩
theorem LB {x:Ex} (hx:fmE false x=true):x.sm:=by
 obtain ⟨f,e⟩:=(EJ hx).ex _ (Rf .empty 0);exact VL _ _ .ex _ _ _ trivial (e f lr)
theorem Gj (l:List UInt8):(B8 l).data.toList=l:=rfl
theorem I8 {u:List un.Fa} (h:un.Srt u):(u.map (·.1)).Pairwise fun a b=>a≠b:=by
 rw [List.pairwise_map];exact h.imp fun h e=>un.rE h e
end ch
section
open Go.RowKit dec
theorem CG {w w':World} (h:∃ p:Regrown,w'=Sort.grow (redrawn w p.d) p.os):Below w.heap.size w w':=by
 obtain ⟨p,rfl⟩:=h;exact below_regrown w p.d p.os
end
namespace tk
open Go.RowKit dec
end tk
namespace pb
open Go.RowKit dec
end pb
section
open Go.RowKit dec
theorem wo:(Tryz.prog.info? 9).map (fun i=>(i.zero,i.size,i.bytes))=some (some (.string ByteArray.empty),1,16):=by kernel_rfl
def OS (w:World) (base:Nat) (v:Value) (l:List ByteArray):Prop:=w.ownsRow base 9 1 v l.length (l.map Value.string)
theorem OS.nil (w:World) (base:Nat):OS w base (.slice none 0 0) []:=World.ownsRow_nil _ _ _ _
theorem OS.keeps {w w1:World} {base:Nat} {v:Value} {l:List ByteArray} (h:OS w base v l) (hb:Below w.heap.size w w1):OS w1 base v l:=by
 obtain ⟨h1,h2⟩:=h;refine ⟨h1,?_⟩;rcases h2 with h0 | ⟨g,cap,cur,e,hbg,hh,r⟩
 ·exact .inl h0
 refine .inr ⟨g,cap,cur,e,hbg,?_,r⟩;have:g<w.heap.size:=by
  rcases Nat.lt_or_ge g w.heap.size with h' | h'
  ·exact h'
  rw [Array.getElem?_eq_none h'] at hh;cases hh
 rw [hb.block _ this];exact hh
theorem fC (w:World) {ops:Array Oper} {rest:List Oper} {o:Oper} {a:Act} {Q:Exit→Act→World→Prop} (hgd:o.guard=none) (s x:Operand)
    (ho:o.op=.call { callee:=.builtin .append,args:=#[s,x],argTypes:=#[97,97] })
    (base:Nat) (v:Value) (l:List ByteArray) (hs:a.eval s=v) (hown:OS w base v l) (b:Nat) (t:ByteArray) (hx:a.eval x=.slice (some ⟨b,0,none⟩) 1 1) (hB:w.cell? ⟨b,0,none⟩=some (.string t))
    (hn:l.length<5864062014805) (hbase:base≤w.heap.size)
    (h:∀ v' w',OS w' base v' (l++[t])→Below base w w'→wpList Tryz.prog ops Q rest (a.put o.dst v') w'):wpList Tryz.prog ops Q (o :: rest) a w:=by
 refine wpList_plain hgd fun _ hK=>?_;obtain ⟨i,hi,hz0,hz1,hz2⟩:=info_parts wo
 refine wp_append_own w s x 97 ho base 9 i (.string ByteArray.empty) 1 16 dec.uy97 hi hz0 hz1 hz2 rfl (by decide) v l.length (l.map Value.string) hs hown ⟨b,0,none⟩ 1 1 [.string t] hx rfl ?_ (fun u hu=>by simp at hu;subst hu;rfl)
   (by unfold maxLen;omega) (by omega) hbase fun v' w' h1 h2 _=>hK _ _ (h v' w' (by unfold OS;rw [List.map_append,L_a];exact h1) ((Below.refl base w).grown h2 hbase fun k hk=>(hown.lt k hk).1))
 intro j u hu
 match j,hu with
 | 0,hu=>simp at hu;subst hu;exact hB
 | j+1,hu=>simp at hu
theorem jX {w:World} {ops:Array Oper} {rest:List Oper} {o:Oper} {a:Act} {Q:Exit→Act→World→Prop} (s x:Operand) (_:o.op=.call { callee:=.builtin .append,args:=#[s,x],argTypes:=#[97,97] })
  (k:wpList Tryz.prog ops Q (o :: rest) a w):wpList Tryz.prog ops Q (o :: rest) a w:=k
theorem kV (v:Value) (l:List ByteArray) (base:Nat) (w:World) (hO:OS w base v l) (hn:l.length<5864062014805) (hl:(Lib.join (l.map (·.data.toList)) [32]).length≤140737488355328) :
    Calls Tryz.prog 57 #[v,.string ⟨#[32]⟩] w fun e w' => e=.returned (.string ⟨(Lib.join (l.map (·.data.toList)) [32]).toArray⟩)∧Below w.heap.size w w':=by
 obtain ⟨h1,h2⟩:=id hO;rcases h2 with ⟨rfl,h0⟩ | ⟨g,cap,cur,rfl,hbg,hh,hc,hm,hs,ht⟩
 ·have hz:l=[]:=List.eq_nil_of_length_eq_zero h0;subst hz;refine (Tryz.strings_Join_none none 0 ⟨#[32]⟩ w).mono ?_;rintro e w' ⟨rfl,rfl⟩;exact ⟨rfl,b0 _⟩
 refine (Tryz.strings_Join g 0 cap l ⟨#[32]⟩ w (fun j x hx=>?_) (hO.lt g rfl).2 (by omega) hc hl).mono ?_
 ·have hj:j<l.length:=(List.getElem?_eq_some_iff.1 hx).1;rw [Nat.zero_add,World.ownsRow.cellAt hO j (by simpa using hj),List.getElem?_map,hx];rfl
 rintro e w' ⟨rfl,hb⟩;exact ⟨rfl,hb⟩
def jC (l:List Tk):List Tk:=if l≠[]∧(tk.gt l (l.length - 1)).k=6∧(tk.gt l (l.length - 1)).t.size=0 then l.take (l.length - 1) else l
def iX (l:List Tk):Bool:=l.all pr
def joinL (l:List Tk):List UInt8:=Lib.join ((jC l).map so) [32]
def gD (l:List Tk):Int:=if iX (jC l)=true then (if 16384<(joinL l).length then 2 else 0) else 3
def gW (l:List Tk):List UInt8:=if gD l=0 then joinL l else []
def JR (w w':World) (e:Ending) (l:List Tk):Prop:=∃ (s:ByteArray) (a:Option Addr) (cap:Nat),s.data.toList=gW l∧e=.returned (.tuple #[.slice a s.size cap,.int .i64 (gD l)])∧Bs w' a s.size cap s∧Below w.heap.size w w'
def nY (l:List Tk):Prop:=(∀ x ∈ l,x.t.size≤1000000)∧l.length≤100000
theorem mo (x:Tk):(so x).length≤x.t.size+2:=by
 unfold so;split
 ·simp only [L_b,L_a,L_j,aI];omega
 rw [aI];omega
theorem I9:∀ l:List Tk,(∀ x ∈ l,x.t.size≤1000000)→(l.map fun x=>(so x).length).sum≤1000002 * l.length
 | [],_=>Nat.zero_le _
 | x :: l,h=>by
  have h1:=I9 l fun y hy=>h y (L_h _ hy)
  have h2:=mo x
  have h3:=h x (L_e ..)
  rw [L_p,List.sum_cons,L_b]
  omega
theorem lD (l:List Tk):(l.map fun x=>(⟨(so x).toArray⟩:ByteArray)).map (·.data.toList)=l.map so:=by
 rw [List.map_map];rfl
theorem Ni {l:List Tk} (h:nY l) (j:Nat):nY (l.take j):=⟨fun x hx=>h.1 x (List.mem_of_mem_take hx),by have:=h.2;rw [List.length_take];omega⟩
theorem nQ {l:List Tk} (h:nY l):nY (jC l):=by
 unfold jC;split
 ·exact Ni h _
 exact h
theorem jl {l:List Tk} (h:nY l):(Lib.join (l.map so) [32]).length≤140737488355328:=by
 have h1:=join_le l;have h2:=I9 l h.1;have h3:=h.2;omega
theorem Bb (x:Tk):prB x.k ⟨(so x).toArray⟩=pr x:=Jw x rfl
theorem vg {l:List Tk} {j:Nat} (h:j<l.length) (h1:iX (l.take j)=true):iX (l.take (j+1))=pr (tk.gt l j):=by
 unfold iX at *;rw [tk.gY h,List.all_append,h1,L_l];simp
theorem C8 {l:List Tk} {j:Nat} (h:j<l.length) (h1:pr (tk.gt l j)=false):iX l=false:=by
 unfold iX;cases hh:l.all pr
 ·rfl
 have:=List.all_eq_true.1 hh _ (tk.jH h);rw [h1] at this;cases this
theorem Pj {w:World} {a:Option Addr} {n cap:Nat} {l:List Tk} (h:tk.Sl w a n cap l) {m:Nat} (hm:m≤n):tk.Sl w a m cap (l.take m):=by
 refine ⟨?_,by rw [List.length_take,h.hn];omega,by have:=h.hcap;omega,h.hmax,h.hno⟩;rcases h.hat with h0 | ⟨b,off,e,hC⟩
 ·exact .inl (by rw [List.length_take];omega)
 exact .inr ⟨b,off,e,hC.take m⟩
theorem mH (a:Option Addr) (n cap:Nat) (l:List Tk) (w:World) (hS:tk.Sl w a n cap l) (hF:nY l) (T:Tabs w) :
    Calls Tryz.prog 35 #[.slice a n cap] w fun e w' => JR w w' e l:=by
 have T0:=Hy T;have hn:=hS.hn;by_cases h0:n=0
 ·have hl0:l=[]:=List.eq_nil_of_length_eq_zero (by omega);obtain ⟨L,hLq⟩:∃ L,L=l:=⟨_,rfl⟩;have hL:jC l=L:=by rw [hLq,hl0];rfl
  have hJ:=Hy (show Lib.join (L.map so) [32]=joinL l by unfold joinL;rw [hL]);have EY:=Hy (show iX L=true→gD l=if 16384<(joinL l).length then 2 else 0 by intro h;unfold gD;rw [hL,if_pos h]);have EN:=Hy (show iX L=false→gD l=3 by intro h;unfold gD;rw [hL,if_neg (by rw [h];decide)]);have FW:=Hy (show nY L by rw [← hL];exact nQ hF);obtain ⟨m,hmq⟩:∃ m,m=n:=⟨_,rfl⟩;have S0:=Hy (show tk.Sl w a m cap L by rw [hLq,hmq];exact hS);rw [← hmq] at h0 ⊢;have q0:¬ (0:Int)≤(m:Int) - 1:=by omega
  clear hS hn hl0 hLq hL T hF hmq;replace h0:=Hy h0
  go_enter Tryz.func35,Tryz.ntmps35
  go_wp2_with fail
  go_loopw [5,35] (fun vs vi wr => ∃ j:Nat,vi=.int .i64 (j:Nat)∧Hid (j≤m)∧Hid (OS wr w.heap.size vs ((L.take j).map fun x=>(⟨(so x).toArray⟩:ByteArray)))∧Hid (iX (L.take j)=true)∧Hid (Below w.heap.size w wr)) (fun _ vi _=>m - (intOf vi).toNat)
  case atStart=>exact ⟨0,rfl,Hy zl,Hy (OS.nil _ _),Hy rfl,Hy (b0 w)⟩
  case round =>
   obtain ⟨j,rfl,hj,hO,hA,hb⟩:=hrel;by_cases hc:j<m
   ·exact absurd hc (by have:=h0.o;omega)
   have q2:decide ((j:Int)<(m:Int))=false:=dF (by omega);rw [show L.take j=L from L_q (by have:=S0.o.hn;omega)] at hO hA;have EA:=EY.o hA.o;have JC:=Hy (kV _ (L.map fun x=>(⟨(so x).toArray⟩:ByteArray)) w.heap.size wr hO.o (by rw [List.length_map];have:=FW.o.2;omega) (by rw [lD];exact jl FW.o));rw [lD,hJ.o] at JC;have hJz:=Hy (show (joinL l).length≤140737488355328 by rw [← hJ.o];exact jl FW.o);obtain ⟨s1,hs1⟩:∃ s1:ByteArray,s1=⟨(joinL l).toArray⟩:=⟨_,rfl⟩;have hsd:s1.data.toList=joinL l:=by rw [hs1]
   have hsz:s1.size=(joinL l).length:=by rw [← aI,hsd]
   rw [← hs1] at JC;rw [← hsz] at EA hJz;clear hO hA;by_cases hbig:16384<s1.size
   ·rw [if_pos hbig] at EA;replace EA:=Hy EA;have qb:decide (16384<(s1.size:Int))=true:=dT (by omega);clear hs1 hsz hsd;go_wp2_with fail;refine JC.o.mono ?_;rintro e w2 ⟨rfl,b2⟩;have B2:=Hy (ak hb.o b2);obtain ⟨w3,c,hcv,hB,b3⟩:=gV w2 s1 (by have:=hJz.o;omega);have B3:=Hy (ak B2.o b3);clear b2 b3 hB;go_wp2_with fail
    go_ret2
    exact ⟨.empty,none,0,by unfold gW;rw [EA.o];rfl,by rw [EA.o];rfl,⟨.inl rfl,rfl,by decide,by decide,fun _=>rfl⟩,B3.o⟩
   rw [if_neg hbig] at EA;replace EA:=Hy EA;have hjb:=Hy (show s1.data.toList=gW l by unfold gW;rw [EA.o,if_pos rfl,hsd]);have qb:decide (16384<(s1.size:Int))=false:=dF (by omega);clear hs1 hsz hsd;go_wp2_with fail;refine JC.o.mono ?_;rintro e w2 ⟨rfl,b2⟩;have B2:=Hy (ak hb.o b2);obtain ⟨w3,c,hcv,hB,b3⟩:=gV w2 s1 (by have:=hJz.o;omega);have B3:=Hy (ak B2.o b3);have BS:=Hy hB;clear b2 b3 hB;go_wp2_with fail
   go_ret2
   exact ⟨s1,_,c,hjb.o,by rw [EA.o];rfl,BS.o,B3.o⟩
 obtain ⟨p,rfl⟩:∃ p,n=p+1:=⟨n - 1,by omega⟩;obtain ⟨bk0,off0,rfl,hC0⟩:=hS.hat.resolve_left (by omega);obtain ⟨k0,k1,k2⟩:=hC0 p (by omega);have hp1:l.length - 1=p:=by omega
 have hlast:jC l=if (tk.gt l p).k=6∧(tk.gt l p).t.size=0 then l.take p else l:=by
  unfold jC;rw [hp1];have:l≠[]:=fun e=>by rw [e] at hn;cases hn
  simp only [this,ne_eq,not_false_eq_true,true_and]
 have hcap:=hS.hcap;have hpz:p≤100000:=by have:=hF.2;omega
 have q0:(0:Int)≤(p:Int):=by omega
 clear hC0 h0 hp1;generalize tk.gt l p=x at *;obtain ⟨xk,xt,xa⟩:=x;simp only at k0 k1 k2 hlast;by_cases h6:xk=6
 ·by_cases ht:xt.size=0
  ·have e1:(xk==6)=true:=by rw [h6];rfl
   have e2:(xt.toList==[])=true:=by rw [toList_nil];exact dT ht
   rw [if_pos ⟨h6,ht⟩] at hlast;obtain ⟨L,hLq⟩:∃ L,L=l.take p:=⟨_,rfl⟩;have hL:jC l=L:=by rw [hlast,hLq]
   have hJ:=Hy (show Lib.join (L.map so) [32]=joinL l by unfold joinL;rw [hL]);have EY:=Hy (show iX L=true→gD l=if 16384<(joinL l).length then 2 else 0 by intro h;unfold gD;rw [hL,if_pos h]);have EN:=Hy (show iX L=false→gD l=3 by intro h;unfold gD;rw [hL,if_neg (by rw [h];decide)]);have FW:=Hy (show nY L by rw [← hL];exact nQ hF);obtain ⟨m,hmq⟩:∃ m,m=p:=⟨_,rfl⟩;have S0:=Hy (show tk.Sl w (some ⟨bk0,off0,none⟩) m cap L by rw [hLq,hmq];exact Pj hS (by omega));rw [← hmq] at k0 k1 k2 hcap hpz q0 ⊢;clear hS hn hLq hL T hF hmq hlast h6 ht
   go_enter Tryz.func35,Tryz.ntmps35
   go_wp2_with fail;clear k0 k1 k2
   go_loopw [5,35] (fun vs vi wr => ∃ j:Nat,vi=.int .i64 (j:Nat)∧Hid (j≤m)∧Hid (OS wr w.heap.size vs ((L.take j).map fun x=>(⟨(so x).toArray⟩:ByteArray)))∧Hid (iX (L.take j)=true)∧Hid (Below w.heap.size w wr)) (fun _ vi _=>m - (intOf vi).toNat)
   case atStart=>exact ⟨0,rfl,Hy zl,Hy (OS.nil _ _),Hy rfl,Hy (b0 w)⟩
   case round =>
    obtain ⟨j,rfl,hj,hO,hA,hb⟩:=hrel;by_cases hc:j<m
    ·have hln:=Hy (show j<L.length by have:=S0.o.hn;omega);obtain ⟨bk,off,hab,hC⟩:=(S0.o.keeps hb.o).hat.resolve_left (by have:=hln.o;omega);cases hab;obtain ⟨c0,c1,c2⟩:=hC j hln.o;have q2:decide ((j:Int)<(m:Int))=true:=dT (by omega);have q3:j<m:=hc;have f4:=Hy (aP (j:=j) (by have:=FW.o.2;have:=hln.o;omega));have hmem:=tk.jH hln.o;have hxz:=FW.o.1 _ hmem;have hzs:(⟨(so (tk.gt L j)).toArray⟩:ByteArray).size≤1048576:=by
      have h1:=mo (tk.gt L j);have h2:=aI ⟨(so (tk.gt L j)).toArray⟩;have h3:(⟨(so (tk.gt L j)).toArray⟩:ByteArray).data.toList.length=(so (tk.gt L j)).length:=rfl;omega
     have SC:=Hy (fun W=>pV (tk.gt L j) hxz W);have IC:=Hy (fun W T=>kY (tk.gt L j).k ⟨(so (tk.gt L j)).toArray⟩ hzs W T);rw [Bb] at IC;have hnx:=Hy (vg hln.o hA.o);have hno:=Hy (fun h=>EN.o (C8 hln.o h));have htk:=Hy (tk.gY hln.o);have hl8:=Hy (show ((L.take j).map fun x=>(⟨(so x).toArray⟩:ByteArray)).length<5864062014805 by have:=FW.o.2;rw [List.length_map,List.length_take];omega);clear hC hmem hxz hzs;generalize tk.gt L j=x at *;obtain ⟨xk,xt,xa⟩:=x;simp only at c0 c1 c2 SC IC;have BB:=Hy (tk.Bw.new wr ⟨xk,xt,xa⟩ 119);have BW:=Hy (aj hb.o (.cells #[.int .i64 xk,.string xt,.int .i64 xa] 119));have O1:=Hy (hO.o.keeps (aj (b0 wr) (.cells #[.int .i64 xk,.string xt,.int .i64 xa] 119)));generalize hs1:(⟨(so ⟨xk,xt,xa⟩).toArray⟩:ByteArray)=s1 at *;replace hs1:=Hy hs1;cases hp:pr ⟨xk,xt,xa⟩
     ·rw [hp] at IC;have hE:=Hy (hno.o hp);clear hp hno hnx;go_wp2_with fail;refine (SC.o _).mono ?_;rintro e w2 ⟨rfl,b2⟩;have B2:=Hy (ak BW.o b2);have BB2:=BB.o.keeps b2;obtain ⟨d0,d1,d2⟩:=BB2;simp only at d0 d1 d2;clear b2;go_wp2_with fail;refine (IC.o _ (T0.o.stays B2.o)).mono ?_;rintro e w3 ⟨rfl,b3⟩;have B3:=Hy (ak B2.o b3);clear b3 d0 d1 d2;go_wp2_with fail
      go_ret2
      exact ⟨.empty,none,0,by unfold gW;rw [hE.o];rfl,by rw [hE.o];rfl,⟨.inl rfl,rfl,by decide,by decide,fun _=>rfl⟩,B3.o⟩
     rw [hp] at IC hnx;clear hp hno;go_wp2_with fail;refine (SC.o _).mono ?_;rintro e w2 ⟨rfl,b2⟩;have B2:=Hy (ak BW.o b2);have O2:=Hy (O1.o.keeps b2);have BB2:=BB.o.keeps b2;obtain ⟨d0,d1,d2⟩:=BB2;simp only at d0 d1 d2;clear b2;go_wp2_with fail;refine (IC.o _ (T0.o.stays B2.o)).mono ?_;rintro e w3 ⟨rfl,b3⟩;have B3:=Hy (ak B2.o b3);have O3:=Hy (O2.o.keeps b3);clear b3 d0 d1 d2;go_wp2_with (at_builtin;refine jX (.tmp 46) (.tmp 48) rfl ?_;refine fC _ rfl (.tmp 46) (.tmp 48) rfl w.heap.size _ _ rfl (O3.o.keeps (aj (b0 w3) _)) w3.heap.size s1 rfl (by simp [go_sem]) hl8.o (by have:=B3.o.size;simp;omega) ?_;intro v2 w6 O6 b6);have B6:=Hy ((aj B3.o (.cells #[.string s1] 9)).trans b6);have O7:=Hy (show OS w6 w.heap.size v2 ((L.take (j+1)).map fun x=>(⟨(so x).toArray⟩:ByteArray)) by rw [htk.o,List.map_append,List.map_singleton,hs1.o];exact O6);clear b6 O6;go_wp2_with fail;exact ⟨⟨j+1,by first | exact congrArg (Value.int .i64) f4.o | rfl,Hy hc,O7,hnx,B6⟩,by first | exact aU hc f4.o | exact nu hc⟩
    have q2:decide ((j:Int)<(m:Int))=false:=dF (by omega);rw [show L.take j=L from L_q (by have:=S0.o.hn;omega)] at hO hA;have EA:=EY.o hA.o;have JC:=Hy (kV _ (L.map fun x=>(⟨(so x).toArray⟩:ByteArray)) w.heap.size wr hO.o (by rw [List.length_map];have:=FW.o.2;omega) (by rw [lD];exact jl FW.o));rw [lD,hJ.o] at JC;have hJz:=Hy (show (joinL l).length≤140737488355328 by rw [← hJ.o];exact jl FW.o);obtain ⟨s1,hs1⟩:∃ s1:ByteArray,s1=⟨(joinL l).toArray⟩:=⟨_,rfl⟩;have hsd:s1.data.toList=joinL l:=by rw [hs1]
    have hsz:s1.size=(joinL l).length:=by rw [← aI,hsd]
    rw [← hs1] at JC;rw [← hsz] at EA hJz;clear hO hA;by_cases hbig:16384<s1.size
    ·rw [if_pos hbig] at EA;replace EA:=Hy EA;have qb:decide (16384<(s1.size:Int))=true:=dT (by omega);clear hs1 hsz hsd;go_wp2_with fail;refine JC.o.mono ?_;rintro e w2 ⟨rfl,b2⟩;have B2:=Hy (ak hb.o b2);obtain ⟨w3,c,hcv,hB,b3⟩:=gV w2 s1 (by have:=hJz.o;omega);have B3:=Hy (ak B2.o b3);clear b2 b3 hB;go_wp2_with fail
     go_ret2
     exact ⟨.empty,none,0,by unfold gW;rw [EA.o];rfl,by rw [EA.o];rfl,⟨.inl rfl,rfl,by decide,by decide,fun _=>rfl⟩,B3.o⟩
    rw [if_neg hbig] at EA;replace EA:=Hy EA;have hjb:=Hy (show s1.data.toList=gW l by unfold gW;rw [EA.o,if_pos rfl,hsd]);have qb:decide (16384<(s1.size:Int))=false:=dF (by omega);clear hs1 hsz hsd;go_wp2_with fail;refine JC.o.mono ?_;rintro e w2 ⟨rfl,b2⟩;have B2:=Hy (ak hb.o b2);obtain ⟨w3,c,hcv,hB,b3⟩:=gV w2 s1 (by have:=hJz.o;omega);have B3:=Hy (ak B2.o b3);have BS:=Hy hB;clear b2 b3 hB;go_wp2_with fail
    go_ret2
    exact ⟨s1,_,c,hjb.o,by rw [EA.o];rfl,BS.o,B3.o⟩
  have e1:(xk==6)=true:=by rw [h6];rfl
  have e2:(xt.toList==[])=false:=by rw [toList_nil];exact dF ht
  rw [if_neg (fun h=>ht h.2)] at hlast;obtain ⟨L,hLq⟩:∃ L,L=l:=⟨_,rfl⟩;have hL:jC l=L:=by rw [hlast,hLq]
  have hJ:=Hy (show Lib.join (L.map so) [32]=joinL l by unfold joinL;rw [hL]);have EY:=Hy (show iX L=true→gD l=if 16384<(joinL l).length then 2 else 0 by intro h;unfold gD;rw [hL,if_pos h]);have EN:=Hy (show iX L=false→gD l=3 by intro h;unfold gD;rw [hL,if_neg (by rw [h];decide)]);have FW:=Hy (show nY L by rw [← hL];exact nQ hF);have S0:=Hy (show tk.Sl w (some ⟨bk0,off0,none⟩) (p+1) cap L by rw [hLq];exact hS);clear hS hn hLq hL T hF hlast
  go_enter Tryz.func35,Tryz.ntmps35
  go_wp2_with fail;clear k0 k1 k2
  go_loopw [5,35] (fun vs vi wr => ∃ j:Nat,vi=.int .i64 (j:Nat)∧Hid (j≤p+1)∧Hid (OS wr w.heap.size vs ((L.take j).map fun x=>(⟨(so x).toArray⟩:ByteArray)))∧Hid (iX (L.take j)=true)∧Hid (Below w.heap.size w wr)) (fun _ vi _=>p+1 - (intOf vi).toNat)
  case atStart=>exact ⟨0,rfl,Hy zl,Hy (OS.nil _ _),Hy rfl,Hy (b0 w)⟩
  case round =>
   obtain ⟨j,rfl,hj,hO,hA,hb⟩:=hrel;by_cases hc:j<p+1
   ·have hln:=Hy (show j<L.length by have:=S0.o.hn;omega);obtain ⟨bk,off,hab,hC⟩:=(S0.o.keeps hb.o).hat.resolve_left (by have:=hln.o;omega);cases hab;obtain ⟨c0,c1,c2⟩:=hC j hln.o;have q2:decide ((j:Int)<(p:Int)+1)=true:=dT (by omega);have q3:j<p+1:=hc;have f4:=Hy (aP (j:=j) (by have:=FW.o.2;have:=hln.o;omega));have hmem:=tk.jH hln.o;have hxz:=FW.o.1 _ hmem;have hzs:(⟨(so (tk.gt L j)).toArray⟩:ByteArray).size≤1048576:=by
     have h1:=mo (tk.gt L j);have h2:=aI ⟨(so (tk.gt L j)).toArray⟩;have h3:(⟨(so (tk.gt L j)).toArray⟩:ByteArray).data.toList.length=(so (tk.gt L j)).length:=rfl;omega
    have SC:=Hy (fun W=>pV (tk.gt L j) hxz W);have IC:=Hy (fun W T=>kY (tk.gt L j).k ⟨(so (tk.gt L j)).toArray⟩ hzs W T);rw [Bb] at IC;have hnx:=Hy (vg hln.o hA.o);have hno:=Hy (fun h=>EN.o (C8 hln.o h));have htk:=Hy (tk.gY hln.o);have hl8:=Hy (show ((L.take j).map fun x=>(⟨(so x).toArray⟩:ByteArray)).length<5864062014805 by have:=FW.o.2;rw [List.length_map,List.length_take];omega);clear hC hmem hxz hzs;generalize tk.gt L j=x at *;obtain ⟨xk,xt,xa⟩:=x;simp only at c0 c1 c2 SC IC;have BB:=Hy (tk.Bw.new wr ⟨xk,xt,xa⟩ 119);have BW:=Hy (aj hb.o (.cells #[.int .i64 xk,.string xt,.int .i64 xa] 119));have O1:=Hy (hO.o.keeps (aj (b0 wr) (.cells #[.int .i64 xk,.string xt,.int .i64 xa] 119)));generalize hs1:(⟨(so ⟨xk,xt,xa⟩).toArray⟩:ByteArray)=s1 at *;replace hs1:=Hy hs1;cases hp:pr ⟨xk,xt,xa⟩
    ·rw [hp] at IC;have hE:=Hy (hno.o hp);clear hp hno hnx;go_wp2_with fail;refine (SC.o _).mono ?_;rintro e w2 ⟨rfl,b2⟩;have B2:=Hy (ak BW.o b2);have BB2:=BB.o.keeps b2;obtain ⟨d0,d1,d2⟩:=BB2;simp only at d0 d1 d2;clear b2;go_wp2_with fail;refine (IC.o _ (T0.o.stays B2.o)).mono ?_;rintro e w3 ⟨rfl,b3⟩;have B3:=Hy (ak B2.o b3);clear b3 d0 d1 d2;go_wp2_with fail
     go_ret2
     exact ⟨.empty,none,0,by unfold gW;rw [hE.o];rfl,by rw [hE.o];rfl,⟨.inl rfl,rfl,by decide,by decide,fun _=>rfl⟩,B3.o⟩
    rw [hp] at IC hnx;clear hp hno;go_wp2_with fail;refine (SC.o _).mono ?_;rintro e w2 ⟨rfl,b2⟩;have B2:=Hy (ak BW.o b2);have O2:=Hy (O1.o.keeps b2);have BB2:=BB.o.keeps b2;obtain ⟨d0,d1,d2⟩:=BB2;simp only at d0 d1 d2;clear b2;go_wp2_with fail;refine (IC.o _ (T0.o.stays B2.o)).mono ?_;rintro e w3 ⟨rfl,b3⟩;have B3:=Hy (ak B2.o b3);have O3:=Hy (O2.o.keeps b3);clear b3 d0 d1 d2;go_wp2_with (at_builtin;refine jX (.tmp 46) (.tmp 48) rfl ?_;refine fC _ rfl (.tmp 46) (.tmp 48) rfl w.heap.size _ _ rfl (O3.o.keeps (aj (b0 w3) _)) w3.heap.size s1 rfl (by simp [go_sem]) hl8.o (by have:=B3.o.size;simp;omega) ?_;intro v2 w6 O6 b6);have B6:=Hy ((aj B3.o (.cells #[.string s1] 9)).trans b6);have O7:=Hy (show OS w6 w.heap.size v2 ((L.take (j+1)).map fun x=>(⟨(so x).toArray⟩:ByteArray)) by rw [htk.o,List.map_append,List.map_singleton,hs1.o];exact O6);clear b6 O6;go_wp2_with fail;exact ⟨⟨j+1,by first | exact congrArg (Value.int .i64) f4.o | rfl,Hy hc,O7,hnx,B6⟩,by first | exact aU hc f4.o | exact nu hc⟩
   have q2:decide ((j:Int)<(p:Int)+1)=false:=dF (by omega);rw [show L.take j=L from L_q (by have:=S0.o.hn;omega)] at hO hA;have EA:=EY.o hA.o;have JC:=Hy (kV _ (L.map fun x=>(⟨(so x).toArray⟩:ByteArray)) w.heap.size wr hO.o (by rw [List.length_map];have:=FW.o.2;omega) (by rw [lD];exact jl FW.o));rw [lD,hJ.o] at JC;have hJz:=Hy (show (joinL l).length≤140737488355328 by rw [← hJ.o];exact jl FW.o);obtain ⟨s1,hs1⟩:∃ s1:ByteArray,s1=⟨(joinL l).toArray⟩:=⟨_,rfl⟩;have hsd:s1.data.toList=joinL l:=by rw [hs1]
   have hsz:s1.size=(joinL l).length:=by rw [← aI,hsd]
   rw [← hs1] at JC;rw [← hsz] at EA hJz;clear hO hA;by_cases hbig:16384<s1.size
   ·rw [if_pos hbig] at EA;replace EA:=Hy EA;have qb:decide (16384<(s1.size:Int))=true:=dT (by omega);clear hs1 hsz hsd;go_wp2_with fail;refine JC.o.mono ?_;rintro e w2 ⟨rfl,b2⟩;have B2:=Hy (ak hb.o b2);obtain ⟨w3,c,hcv,hB,b3⟩:=gV w2 s1 (by have:=hJz.o;omega);have B3:=Hy (ak B2.o b3);clear b2 b3 hB;go_wp2_with fail
    go_ret2
    exact ⟨.empty,none,0,by unfold gW;rw [EA.o];rfl,by rw [EA.o];rfl,⟨.inl rfl,rfl,by decide,by decide,fun _=>rfl⟩,B3.o⟩
   rw [if_neg hbig] at EA;replace EA:=Hy EA;have hjb:=Hy (show s1.data.toList=gW l by unfold gW;rw [EA.o,if_pos rfl,hsd]);have qb:decide (16384<(s1.size:Int))=false:=dF (by omega);clear hs1 hsz hsd;go_wp2_with fail;refine JC.o.mono ?_;rintro e w2 ⟨rfl,b2⟩;have B2:=Hy (ak hb.o b2);obtain ⟨w3,c,hcv,hB,b3⟩:=gV w2 s1 (by have:=hJz.o;omega);have B3:=Hy (ak B2.o b3);have BS:=Hy hB;clear b2 b3 hB;go_wp2_with fail
   go_ret2
   exact ⟨s1,_,c,hjb.o,by rw [EA.o];rfl,BS.o,B3.o⟩
 have e1:(xk==6)=false:=by rw [L_m];exact h6
 rw [if_neg (fun h=>h6 h.1)] at hlast;obtain ⟨L,hLq⟩:∃ L,L=l:=⟨_,rfl⟩;have hL:jC l=L:=by rw [hlast,hLq]
 have hJ:=Hy (show Lib.join (L.map so) [32]=joinL l by unfold joinL;rw [hL]);have EY:=Hy (show iX L=true→gD l=if 16384<(joinL l).length then 2 else 0 by intro h;unfold gD;rw [hL,if_pos h]);have EN:=Hy (show iX L=false→gD l=3 by intro h;unfold gD;rw [hL,if_neg (by rw [h];decide)]);have FW:=Hy (show nY L by rw [← hL];exact nQ hF);have S0:=Hy (show tk.Sl w (some ⟨bk0,off0,none⟩) (p+1) cap L by rw [hLq];exact hS);clear hS hn hLq hL T hF hlast
 go_enter Tryz.func35,Tryz.ntmps35
 go_wp2_with fail;clear k0 k1 k2
 go_loopw [5,35] (fun vs vi wr => ∃ j:Nat,vi=.int .i64 (j:Nat)∧Hid (j≤p+1)∧Hid (OS wr w.heap.size vs ((L.take j).map fun x=>(⟨(so x).toArray⟩:ByteArray)))∧Hid (iX (L.take j)=true)∧Hid (Below w.heap.size w wr)) (fun _ vi _=>p+1 - (intOf vi).toNat)
 case atStart=>exact ⟨0,rfl,Hy zl,Hy (OS.nil _ _),Hy rfl,Hy (b0 w)⟩
 case round =>
  obtain ⟨j,rfl,hj,hO,hA,hb⟩:=hrel;by_cases hc:j<p+1
  ·have hln:=Hy (show j<L.length by have:=S0.o.hn;omega);obtain ⟨bk,off,hab,hC⟩:=(S0.o.keeps hb.o).hat.resolve_left (by have:=hln.o;omega);cases hab;obtain ⟨c0,c1,c2⟩:=hC j hln.o;have q2:decide ((j:Int)<(p:Int)+1)=true:=dT (by omega);have q3:j<p+1:=hc;have f4:=Hy (aP (j:=j) (by have:=FW.o.2;have:=hln.o;omega));have hmem:=tk.jH hln.o;have hxz:=FW.o.1 _ hmem;have hzs:(⟨(so (tk.gt L j)).toArray⟩:ByteArray).size≤1048576:=by
    have h1:=mo (tk.gt L j);have h2:=aI ⟨(so (tk.gt L j)).toArray⟩;have h3:(⟨(so (tk.gt L j)).toArray⟩:ByteArray).data.toList.length=(so (tk.gt L j)).length:=rfl;omega
   have SC:=Hy (fun W=>pV (tk.gt L j) hxz W);have IC:=Hy (fun W T=>kY (tk.gt L j).k ⟨(so (tk.gt L j)).toArray⟩ hzs W T);rw [Bb] at IC;have hnx:=Hy (vg hln.o hA.o);have hno:=Hy (fun h=>EN.o (C8 hln.o h));have htk:=Hy (tk.gY hln.o);have hl8:=Hy (show ((L.take j).map fun x=>(⟨(so x).toArray⟩:ByteArray)).length<5864062014805 by have:=FW.o.2;rw [List.length_map,List.length_take];omega);clear hC hmem hxz hzs;generalize tk.gt L j=x at *;obtain ⟨xk,xt,xa⟩:=x;simp only at c0 c1 c2 SC IC;have BB:=Hy (tk.Bw.new wr ⟨xk,xt,xa⟩ 119);have BW:=Hy (aj hb.o (.cells #[.int .i64 xk,.string xt,.int .i64 xa] 119));have O1:=Hy (hO.o.keeps (aj (b0 wr) (.cells #[.int .i64 xk,.string xt,.int .i64 xa] 119)));generalize hs1:(⟨(so ⟨xk,xt,xa⟩).toArray⟩:ByteArray)=s1 at *;replace hs1:=Hy hs1;cases hp:pr ⟨xk,xt,xa⟩
   ·rw [hp] at IC;have hE:=Hy (hno.o hp);clear hp hno hnx;go_wp2_with fail;refine (SC.o _).mono ?_;rintro e w2 ⟨rfl,b2⟩;have B2:=Hy (ak BW.o b2);have BB2:=BB.o.keeps b2;obtain ⟨d0,d1,d2⟩:=BB2;simp only at d0 d1 d2;clear b2;go_wp2_with fail;refine (IC.o _ (T0.o.stays B2.o)).mono ?_;rintro e w3 ⟨rfl,b3⟩;have B3:=Hy (ak B2.o b3);clear b3 d0 d1 d2;go_wp2_with fail
    go_ret2
    exact ⟨.empty,none,0,by unfold gW;rw [hE.o];rfl,by rw [hE.o];rfl,⟨.inl rfl,rfl,by decide,by decide,fun _=>rfl⟩,B3.o⟩
   rw [hp] at IC hnx;clear hp hno;go_wp2_with fail;refine (SC.o _).mono ?_;rintro e w2 ⟨rfl,b2⟩;have B2:=Hy (ak BW.o b2);have O2:=Hy (O1.o.keeps b2);have BB2:=BB.o.keeps b2;obtain ⟨d0,d1,d2⟩:=BB2;simp only at d0 d1 d2;clear b2;go_wp2_with fail;refine (IC.o _ (T0.o.stays B2.o)).mono ?_;rintro e w3 ⟨rfl,b3⟩;have B3:=Hy (ak B2.o b3);have O3:=Hy (O2.o.keeps b3);clear b3 d0 d1 d2;go_wp2_with (at_builtin;refine jX (.tmp 46) (.tmp 48) rfl ?_;refine fC _ rfl (.tmp 46) (.tmp 48) rfl w.heap.size _ _ rfl (O3.o.keeps (aj (b0 w3) _)) w3.heap.size s1 rfl (by simp [go_sem]) hl8.o (by have:=B3.o.size;simp;omega) ?_;intro v2 w6 O6 b6);have B6:=Hy ((aj B3.o (.cells #[.string s1] 9)).trans b6);have O7:=Hy (show OS w6 w.heap.size v2 ((L.take (j+1)).map fun x=>(⟨(so x).toArray⟩:ByteArray)) by rw [htk.o,List.map_append,List.map_singleton,hs1.o];exact O6);clear b6 O6;go_wp2_with fail;exact ⟨⟨j+1,by first | exact congrArg (Value.int .i64) f4.o | rfl,Hy hc,O7,hnx,B6⟩,by first | exact aU hc f4.o | exact nu hc⟩
  have q2:decide ((j:Int)<(p:Int)+1)=false:=dF (by omega);rw [show L.take j=L from L_q (by have:=S0.o.hn;omega)] at hO hA;have EA:=EY.o hA.o;have JC:=Hy (kV _ (L.map fun x=>(⟨(so x).toArray⟩:ByteArray)) w.heap.size wr hO.o (by rw [List.length_map];have:=FW.o.2;omega) (by rw [lD];exact jl FW.o));rw [lD,hJ.o] at JC;have hJz:=Hy (show (joinL l).length≤140737488355328 by rw [← hJ.o];exact jl FW.o);obtain ⟨s1,hs1⟩:∃ s1:ByteArray,s1=⟨(joinL l).toArray⟩:=⟨_,rfl⟩;have hsd:s1.data.toList=joinL l:=by rw [hs1]
  have hsz:s1.size=(joinL l).length:=by rw [← aI,hsd]
  rw [← hs1] at JC;rw [← hsz] at EA hJz;clear hO hA;by_cases hbig:16384<s1.size
  ·rw [if_pos hbig] at EA;replace EA:=Hy EA;have qb:decide (16384<(s1.size:Int))=true:=dT (by omega);clear hs1 hsz hsd;go_wp2_with fail;refine JC.o.mono ?_;rintro e w2 ⟨rfl,b2⟩;have B2:=Hy (ak hb.o b2);obtain ⟨w3,c,hcv,hB,b3⟩:=gV w2 s1 (by have:=hJz.o;omega);have B3:=Hy (ak B2.o b3);clear b2 b3 hB;go_wp2_with fail
   go_ret2
   exact ⟨.empty,none,0,by unfold gW;rw [EA.o];rfl,by rw [EA.o];rfl,⟨.inl rfl,rfl,by decide,by decide,fun _=>rfl⟩,B3.o⟩
  rw [if_neg hbig] at EA;replace EA:=Hy EA;have hjb:=Hy (show s1.data.toList=gW l by unfold gW;rw [EA.o,if_pos rfl,hsd]);have qb:decide (16384<(s1.size:Int))=false:=dF (by omega);clear hs1 hsz hsd;go_wp2_with fail;refine JC.o.mono ?_;rintro e w2 ⟨rfl,b2⟩;have B2:=Hy (ak hb.o b2);obtain ⟨w3,c,hcv,hB,b3⟩:=gV w2 s1 (by have:=hJz.o;omega);have B3:=Hy (ak B2.o b3);have BS:=Hy hB;clear b2 b3 hB;go_wp2_with fail
  go_ret2
  exact ⟨s1,_,c,hjb.o,by rw [EA.o];rfl,BS.o,B3.o⟩
end
namespace ch
open Go.RowKit dec
theorem Ll {s:ByteArray} (hs:¬ 16384<s.size):dP s=(lxs 0 false s.data.toList).1++[uS s]:=by
 unfold dP;rw [if_neg hs]
theorem Vt (s:ByteArray) (hE:lQ s=0) (hB:jA s=[]) (n:Nat) (hn:(dP s).length=n) (a:Option Addr) (m c:Nat) (W:World) (hS:Bs W a m c s) (T:Tabs W) :
  Calls Tryz.prog 33 #[.slice a m c] W fun e w' => ∃ al cl ap cp,e=.returned (.tuple #[.slice al n cl,.slice ap 0 cp,.int .i64 0])∧tk.Sl w' al n cl (dP s)∧Below W.heap.size W w' :=
 (vI a m c s W hS T).mono fun e w' ⟨v,u,he,o,p,b⟩=>by
  obtain ⟨al,cl,hv,sl⟩:=o.sl
  obtain ⟨ap,cp,hu,sp⟩:=p.sl
  subst hv hu hn
  rw [hE,hB] at he
  exact ⟨al,cl,ap,cp,he,sl,b⟩
def fiK (f:Fi):List Pc:=wd f.nm :: sg ⟨#[58]⟩ :: sp (tyK f.ty)
def fsR (l:List Fi):List Pc:=(l.map fun g=>sg ⟨#[44]⟩ :: sp (fiK g)).flatten
def fsK:List Fi→List Pc
 | []=>[]
 | f :: r=>sp (fiK f)++fsR r
def kpK (k:Int):List Pc:=if k=0 then [] else [bw ⟨#[107,101,101,112]⟩,nuK k]
def tbK (t:Tb):List Pc:=wd ⟨#[116,97,98,108,101]⟩ :: bw t.nm :: bw ⟨#[111,102]⟩ :: bw t.en :: bs ⟨#[123]⟩ :: (fsK t.fs++bs ⟨#[125]⟩ :: (kpK t.kp++[sg ⟨#[59]⟩]))
def feK (f:Fe):List Pc:=wd ⟨#[102,101,97,116,117,114,101]⟩ :: bw f.nm :: bw ⟨#[111,102]⟩ :: bw f.en :: sg ⟨#[58]⟩ :: (sp (tyK f.ty)++bs ⟨#[61]⟩ :: (sp (xkE f.bo)++[sg ⟨#[59]⟩]))
def FiO (f:Fi):Prop:=name f.nm=true∧tyE f.ty=0
theorem FL:∀ (l bef:List Fi),fsE bef l=0→∀ f ∈ l,FiO f
 | [],_,_,f,hf=>by cases hf
 | g :: l,bef,h,f,hf=>by
  unfold fsE at h
  split at h
  ·rename_i h1
   rcases List.mem_cons.1 hf with rfl | hf
   ·unfold fiE at h1
    split at h1
    ·cases h1
    ·rename_i hn
     split at h1
     ·cases h1
     ·exact ⟨by simpa using hn,h1⟩
   ·exact FL l _ h f hf
  ·rename_i h1
   exact absurd h h1
structure TbO (t:Tb):Prop where
 nm:name t.nm=true
 en:name t.en=true
 k0:0≤t.kp
 k1:t.kp≤1099511627776
 fs:∀ f ∈ t.fs,FiO f
theorem xL {t:Tb} (h:tbE t=0):TbO t:=by
 unfold tbE at h;split at h
 ·cases h
 rename_i h1;split at h
 ·cases h
 rename_i h2;split at h
 ·cases h
 rename_i h3;split at h
 ·cases h
 rename_i h4;split at h
 ·cases h
 exact ⟨by simpa using h1,by simpa using h2,by omega,by omega,FL _ _ h⟩
theorem Om {f:Fi} (h:FiO f):wf true (fiK f)=true:=aT (.inr (.inl rfl)) (iq h.1) (aT (.inr (.inr (by decide))) (by decide) (rW (iO h.2).w))
theorem Oq {f:Fi} (h:FiO f):pcB (fiK f)=fiT f:=by
 unfold fiK fiT;rw [fP,fU,mY (iO h.2).f,(iO h.2).b];rfl
theorem Oo (f:Fi):Hf (fiK f):=⟨_,_,rfl⟩
theorem Oh:∀ (l:List Fi) (K:List Pc),(∀ f ∈ l,FiO f)→wf false K=true→wf false (fsR l++K)=true
 | [],_,_,h=>h
 | f :: l,K,h,hK=>by
  have ih:=Oh l K (fun g hg=>h g (L_h _ hg)) hK
  have e:fsR (f :: l)++K=sg ⟨#[44]⟩ :: (sp (fiK f)++(fsR l++K)):=by
   unfold fsR
   rw [L_p,List.flatten_cons,L_g,L_g,L_i]
  rw [e]
  exact aT (.inr (.inr (by decide))) (by decide) (iD (Om (h f (L_e ..))) ih)
theorem WG {l:List Fi} {K:List Pc} (h:∀ f ∈ l,FiO f) (hK:wf false K=true):wf false (fsK l++K)=true:=by
 cases l with
 | nil=>exact hK
 | cons f l =>
   unfold fsK
   rw [L_i]
   exact iD (Om (h f (L_e ..))) (Oh l K (fun g hg=>h g (L_h _ hg)) hK)
theorem Oi:∀ (l:List Fi) (K:List Pc),(∀ f ∈ l,FiO f)→pcB (fsR l++K)=(l.map fun g=>44 :: 32 :: fiT g).flatten++pcB K
 | [],_,_=>rfl
 | f :: l,K,h=>by
  have ih:=Oi l K (fun g hg=>h g (L_h _ hg))
  have e:fsR (f :: l)++K=sg ⟨#[44]⟩ :: (sp (fiK f)++(fsR l++K)):=by
   unfold fsR
   rw [L_p,List.flatten_cons,L_g,L_g,L_i]
  rw [e,fU,gG,mY (Oo f),Oq (h f (L_e ..)),ih,L_p,List.flatten_cons]
  simp
theorem WH {l:List Fi} {K:List Pc} (h:∀ f ∈ l,FiO f):pcB (fsK l++K)=fsT l++pcB K:=by
 cases l with
 | nil=>rfl
 | cons f l =>
   unfold fsK fsT
   rw [L_i,gG,mY (Oo f),Oq (h f (L_e ..)),Oi l K (fun g hg=>h g (L_h _ hg))]
   simp
theorem Wx {k:Int} (h0:0≤k) (h1:k≤1099511627776):wf false (kpK k++[sg ⟨#[59]⟩])=true:=by
 have e:wf false [sg ⟨#[59]⟩]=true:=ow ⟨#[59]⟩ (by decide) (by decide);unfold kpK;split
 ·exact e
 exact aT (.inl rfl) (by decide) (aT (.inl rfl) (sK h0 (by omega)) e)
theorem Sg {t:Tb} (h:TbO t):Gd (tbK t) (tbT t):=by
 refine ⟨?_,aT (.inr (.inl rfl)) (by decide) (aT (.inl rfl) (iq h.nm) (aT (.inl rfl) (by decide) (aT (.inl rfl) (iq h.en) (aT (.inl rfl) (by decide) (WG h.fs (aT (.inl rfl) (by decide) (Wx h.k0 h.k1))))))),⟨_,_,rfl⟩⟩;unfold tbK tbT;rw [fP,ig,ig,ig,qX,WH h.fs,qX];have e:pcB (kpK t.kp++[sg ⟨#[59]⟩])=(if t.kp=0 then [] else [32,107,101,101,112,32]++Lib.itoa t.kp)++[59]:=by
  unfold kpK;split
  ·rfl
  show pcB [bw ⟨#[107,101,101,112]⟩,nuK t.kp,sg ⟨#[59]⟩]=_;rw [ig,qW,fU,mq];simp
 rw [e];simp
theorem xZ {f:Fe} (h:pfE f=0):name f.nm=true∧name f.en=true∧tyE f.ty=0∧shE f.bo=0:=by
 unfold pfE at h;split at h
 ·cases h
 rename_i h1;split at h
 ·cases h
 rename_i h2;split at h
 ·rename_i h3;exact absurd h h3
 rename_i h3;exact ⟨by simpa using h1,by simpa using h2,by simpa using h3,h⟩
theorem UJ {f:Fe} (h:pfE f=0):Gd (feK f) (feT f):=by
 obtain ⟨h1,h2,h3,h4⟩:=xZ h;have g:=Vm (kR h4);have e:wf false [sg ⟨#[59]⟩]=true:=ow ⟨#[59]⟩ (by decide) (by decide);refine ⟨?_,aT (.inr (.inl rfl)) (by decide) (aT (.inl rfl) (iq h1) (aT (.inl rfl) (by decide) (aT (.inl rfl) (iq h2) (aT (.inr (.inr (by decide))) (by decide) (iD (iO h3).w (aT (.inl rfl) (by decide) (iD g.w e))))))),⟨_,_,rfl⟩⟩;unfold feK feT;rw [fP,ig,ig,ig,fU,gG,mY (iO h3).f,(iO h3).b,qX,gG,mY g.f,g.b,fU,mq];simp
theorem sF {s m:ByteArray} (hm:name m=true) {l r:List Tk} (h1:isT s l=true) (h2:l.tail=⟨1,m,0⟩ :: r):nma s l=.ok m r:=by
 unfold nma;rw [dA h1,okb,h2,jr hm]
theorem FY {f:Fi} (h:FiO f) {r:List Tk} (hr:isT ⟨#[91]⟩ r=false):pa.fie (tkl (fiK f)++r)=.ok f r:=by
 have e0:tkl (fiK f)++r=⟨1,f.nm,0⟩ :: ⟨5,⟨#[58]⟩,0⟩ :: (tkl (tyK f.ty)++r):=by
  unfold fiK;rw [bT,bT,iP];rfl
 unfold pa.fie;rw [e0,jr h.1,okb,dA (by rw [gJ];decide),okb,List.tail_cons,Eb h.2 hr];rfl
theorem QN (l:List Fi) (r:List Tk):l.length≤(tkl (fsR l)++r).length:=by
 induction l with
 | nil=>simp
 | cons f l ih =>
   have e:fsR (f :: l)=sg ⟨#[44]⟩ :: (sp (fiK f)++fsR l):=by unfold fsR;rw [L_p,List.flatten_cons,L_g]
   rw [e,bT,dU,L_g,L_i,L_b,L_b,L_a]
   omega
theorem FK:∀ (l acc:List Fi) (n:Nat) (r:List Tk),(∀ f ∈ l,FiO f)→l.length<n→isT ⟨#[44]⟩ r=false→isT ⟨#[91]⟩ r=false →
  more pa.fie ⟨#[44]⟩ n acc (tkl (fsR l)++r)=.ok (acc++l) r
 | [],acc,n+1,r,_,_,hr,_=>by
  show (if isT ⟨#[44]⟩ r=true then _ else Rs.ok acc r)=_
  rw [if_neg (nt hr),L_n]
 | f :: l,acc,n+1,r,h,hn,hr,hr2=>by
  have e0:tkl (fsR (f :: l))++r=⟨5,⟨#[44]⟩,0⟩ :: (tkl (fiK f)++(tkl (fsR l)++r)):=by
   have e:fsR (f :: l)=sg ⟨#[44]⟩ :: (sp (fiK f)++fsR l):=by unfold fsR;rw [L_p,List.flatten_cons,L_g]
   rw [e,bT,dU,iP,L_g,L_i]
   rfl
  rw [e0]
  show (if isT ⟨#[44]⟩ (⟨5,⟨#[44]⟩,0⟩ :: _)=true then (pa.fie (tkl (fiK f)++(tkl (fsR l)++r))).bind fun y r=>more pa.fie ⟨#[44]⟩ n (acc++[y]) r else _)=_
  have hh:isT ⟨#[91]⟩ (tkl (fsR l)++r)=false:=by
   cases l with
   | nil=>exact hr2
   | cons y l=>rfl
  rw [gJ,if_pos (by decide),FY (h f (L_e ..)) hh,okb,FK l _ n r (fun y hy=>h y (L_h _ hy)) (by simp at hn;omega) hr hr2,L_i]
  rfl
theorem Lx {l:List Fi} (h:∀ f ∈ l,FiO f) (r:List Tk):pa.jP (tkl (fsK l)++(⟨5,⟨#[125]⟩,0⟩ :: r))=.ok l r:=by
 cases l with
 | nil =>
   show (if isT ⟨#[125]⟩ (⟨5,⟨#[125]⟩,0⟩ :: r)=true then Rs.ok [] r else _)=_
   rw [gJ,if_pos (by decide)]
 | cons f l =>
   have e0:tkl (fsK (f :: l))++(⟨5,⟨#[125]⟩,0⟩ :: r)=tkl (fiK f)++(tkl (fsR l)++(⟨5,⟨#[125]⟩,0⟩ :: r)):=by
     unfold fsK
     rw [dU,iP,L_i]
   rw [e0]
   generalize ht:(tkl (fsR l)++(⟨5,⟨#[125]⟩,0⟩ :: r))=t
   have hh:isT ⟨#[91]⟩ t=false:=by
     rw [← ht]
     cases l with
     | nil=>rfl
     | cons y l=>rfl
   have hn:isT ⟨#[125]⟩ (tkl (fiK f)++t)=false:=jL (h f (L_e ..)).1 (by kernel_rfl) 0 _
   have hl:l.length<t.length+1:=by have:=QN l (⟨5,⟨#[125]⟩,0⟩ :: r);rw [ht] at this;omega
   have hm:=FK l [f] (t.length+1) (⟨5,⟨#[125]⟩,0⟩ :: r) (fun y hy=>h y (L_h _ hy)) hl rfl rfl
   rw [ht] at hm
   unfold pa.jP
   rw [if_neg (nt hn)]
   unfold lst
   rw [FY (h f (L_e ..)) hh,okb,hm,okb,dA (by rw [gJ];decide)]
   rfl
theorem MJ {k:Int} (h0:0≤k) (h1:k≤1099511627776) (r:List Tk):pa.iK (tkl (kpK k)++(⟨5,⟨#[59]⟩,0⟩ :: r))=.ok k (⟨5,⟨#[59]⟩,0⟩ :: r):=by
 by_cases hk:k=0
 ·subst hk;rfl
 have e:tkl (kpK k)++(⟨5,⟨#[59]⟩,0⟩ :: r)=⟨1,⟨#[107,101,101,112]⟩,0⟩ :: ⟨2,⟨(Lib.itoa k).toArray⟩,0⟩ :: ⟨5,⟨#[59]⟩,0⟩ :: r:=by
  unfold kpK;rw [if_neg hk];rfl
 unfold pa.iK;rw [e,iZ,if_pos (by decide),List.tail_cons,jY h0 (by omega)]
theorem OP {t:Tb} (h:TbO t) (r:List Tk):pa.mQ (tkl (tbK t)++r)=.ok t r:=by
 have e0:tkl (tbK t)++r=⟨1,⟨#[116,97,98,108,101]⟩,0⟩ :: ⟨1,t.nm,0⟩ :: ⟨1,⟨#[111,102]⟩,0⟩ :: ⟨1,t.en,0⟩ :: ⟨5,⟨#[123]⟩,0⟩ :: (tkl (fsK t.fs)++(⟨5,⟨#[125]⟩,0⟩ :: (tkl (kpK t.kp)++(⟨5,⟨#[59]⟩,0⟩ :: r)))):=by
  unfold tbK;simp only [bT,dU,L_g,L_i];rfl
 unfold pa.mQ;rw [e0,sF h.nm (by rw [iZ];decide) rfl,okb,sF h.en (by rw [iZ];decide) rfl,okb,dA (by rw [gJ];decide),okb,List.tail_cons,Lx h.fs,okb,MJ h.k0 h.k1,okb,dA (by rw [gJ];decide)];rfl
def pfe (f:Fe):Go.Proofs.YtbahfelnbofjjaaGreatDoor.Fe:=⟨f.nm,f.en,f.ty,f.bo⟩
theorem Rc {x:Ex} (h:shE x=0) {r:List Tk} (hr:Fin' r):pa.exR (tkl (xkE x)++r)=.ok x r:=by
 obtain ⟨f,e⟩:=(EJ (kR h)).ex r hr;have e0:=e f lr;exact (pa.Ta (pa.Cq (tkl (xkE x)++r)) (show pz f false .ex (tkl (xkE x)++r)≠.out by rw [e0];exact fun h=>by cases h)).trans e0
theorem QX {f:Fe} (h:pfE f=0) (r:List Tk):pa.nD (tkl (feK f)++r)=.ok (pfe f) r:=by
 obtain ⟨h1,h2,h3,h4⟩:=xZ h;have e0:tkl (feK f)++r=⟨1,⟨#[102,101,97,116,117,114,101]⟩,0⟩ :: ⟨1,f.nm,0⟩ :: ⟨1,⟨#[111,102]⟩,0⟩ :: ⟨1,f.en,0⟩ :: ⟨5,⟨#[58]⟩,0⟩ :: (tkl (tyK f.ty)++(⟨5,⟨#[61]⟩,0⟩ :: (tkl (xkE f.bo)++(⟨5,⟨#[59]⟩,0⟩ :: r)))):=by
  unfold feK;simp only [bT,dU,iP,L_g,L_i];rfl
 unfold pa.nD;rw [e0,sF h1 (by rw [iZ];decide) rfl,okb,sF h2 (by rw [iZ];decide) rfl,okb,dA (by rw [gJ];decide),okb,List.tail_cons,Eb h3 (by rw [gJ];decide),okb,dA (by rw [gJ];decide),okb,List.tail_cons,Rc h4 (Ng r),okb,dA (by rw [gJ];decide)];rfl
def tsL (ts:List Tb):List Pc:=(ts.map tbK).flatten
def gsL (gs:List Fe):List Pc:=(gs.map feK).flatten
theorem JN:∀ (ts:List Tb) (n:Nat) (m:pa.Mo) (b:List Pb) (r:List Tk),(∀ t ∈ ts,TbO t)→pa.fH (ts.length+n) m b (tkl (tsL ts)++r)=pa.fH n ⟨m.ts++ts,m.fs⟩ b r
 | [],n,m,b,r,_=>by
  rw [L_j,Nat.zero_add,L_n]
  rfl
 | t :: ts,n,m,b,r,h=>by
  have e0:tkl (tsL (t :: ts))++r=tkl (tbK t)++(tkl (tsL ts)++r):=by
   unfold tsL
   rw [L_p,List.flatten_cons,dU,L_i]
  have hd1:hd (tkl (tbK t)++(tkl (tsL ts)++r))=⟨1,⟨#[116,97,98,108,101]⟩,0⟩:=rfl
  have hi:pa.dD m (tkl (tbK t)++(tkl (tsL ts)++r))=.ok ⟨m.ts++[t],m.fs⟩ (tkl (tsL ts)++r):=by
   unfold pa.dD
   rw [hd1,if_pos rfl,OP (h t (L_e ..))]
   rfl
  rw [e0,L_b,show ts.length+1+n=(ts.length+n)+1 by omega]
  show (if (hd (tkl (tbK t)++(tkl (tsL ts)++r))).k=6 then _ else match pa.dD m (tkl (tbK t)++(tkl (tsL ts)++r)) with | .out=>none | .ok m' r=>pa.fH (ts.length+n) m' b r | .no a c r=>_)=_
  rw [hd1,if_neg (by decide),hi]
  simp only
  rw [JN ts n _ b r (fun y hy=>h y (L_h _ hy))]
  simp
theorem JO:∀ (gs:List Fe) (n:Nat) (m:pa.Mo) (b:List Pb) (r:List Tk),(∀ f ∈ gs,pfE f=0)→pa.fH (gs.length+n) m b (tkl (gsL gs)++r)=pa.fH n ⟨m.ts,m.fs++gs.map pfe⟩ b r
 | [],n,m,b,r,_=>by
  rw [L_j,Nat.zero_add,List.map_nil,L_n]
  rfl
 | t :: gs,n,m,b,r,h=>by
  have e0:tkl (gsL (t :: gs))++r=tkl (feK t)++(tkl (gsL gs)++r):=by
   unfold gsL
   rw [L_p,List.flatten_cons,dU,L_i]
  have hd1:hd (tkl (feK t)++(tkl (gsL gs)++r))=⟨1,⟨#[102,101,97,116,117,114,101]⟩,0⟩:=rfl
  have hi:pa.dD m (tkl (feK t)++(tkl (gsL gs)++r))=.ok ⟨m.ts,m.fs++[pfe t]⟩ (tkl (gsL gs)++r):=by
   unfold pa.dD
   rw [hd1,if_neg (by decide),if_pos rfl,QX (h t (L_e ..))]
   rfl
  rw [e0,L_b,show gs.length+1+n=(gs.length+n)+1 by omega]
  show (if (hd (tkl (feK t)++(tkl (gsL gs)++r))).k=6 then _ else match pa.dD m (tkl (feK t)++(tkl (gsL gs)++r)) with | .out=>none | .ok m' r=>pa.fH (gs.length+n) m' b r | .no a c r=>_)=_
  rw [hd1,if_neg (by decide),hi]
  simp only
  rw [JO gs n _ b r (fun y hy=>h y (L_h _ hy))]
  simp
end ch
end Go.Proofs.YtbahfelnbofjjaaGreatDoor
