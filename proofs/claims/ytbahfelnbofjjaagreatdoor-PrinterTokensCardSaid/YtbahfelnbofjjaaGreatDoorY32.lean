/-
  Lists of strings of the call's own; lexer.Join; lexer.Join; What is parsed is no greater than its tokens: nodes; What is parsed is no greater than its tokens: strings; what is left is an end of what was there; parser.Expr over any short source: what it hands back is small; The tokens of a printed text, joined, are a source that is read as the same; The tokens of what is printed, joined, are read as the same: the walk.
-/
import Derived.Test.YtbahfelnbofjjaaGreatDoorY31
set_option maxRecDepth 100000
set_option maxHeartbeats 16000000
namespace Go.Proofs.YtbahfelnbofjjaaGreatDoor
section
open Go.RowKit dec
theorem uS:(Tryz.prog.info? 9).map (fun i=>(i.zero,i.size,i.bytes))=some (some (.string ByteArray.empty),1,16):=by kernel_rfl
def OS (w:World) (base:Nat) (v:Value) (l:List ByteArray):Prop:=w.ownsRow base 9 1 v l.length (l.map Value.string)
theorem OS.nil (w:World) (base:Nat):OS w base (.slice none 0 0) []:=World.ownsRow_nil _ _ _ _
theorem OS.keeps {w w1:World} {base:Nat} {v:Value} {l:List ByteArray} (h:OS w base v l) (hb:Below w.heap.size w w1):OS w1 base v l:=by
 obtain ⟨h1,h2⟩:=h;refine ⟨h1,?_⟩;rcases h2 with h0 | ⟨g,cap,cur,e,hbg,hh,r⟩
 ·exact .inl h0
 refine .inr ⟨g,cap,cur,e,hbg,?_,r⟩;have:g<w.heap.size:=by
  rcases Nat.lt_or_ge g w.heap.size with h' | h'
  ·exact h'
  rw [Array.getElem?_eq_none h'] at hh;cases hh
 rw [hb.block _ this];exact hh
theorem eG (w:World) {ops:Array Oper} {rest:List Oper} {o:Oper} {a:Act} {Q:Exit→Act→World→Prop} (hgd:o.guard=none) (s x:Operand)
    (ho:o.op=.call { callee:=.builtin .append,args:=#[s,x],argTypes:=#[97,97] })
    (base:Nat) (v:Value) (l:List ByteArray) (hs:a.eval s=v) (hown:OS w base v l) (b:Nat) (t:ByteArray) (hx:a.eval x=.slice (some ⟨b,0,none⟩) 1 1) (hB:w.cell? ⟨b,0,none⟩=some (.string t))
    (hn:l.length<5864062014805) (hbase:base≤w.heap.size)
    (h:∀ v' w',OS w' base v' (l++[t])→Below base w w'→wpList Tryz.prog ops Q rest (a.put o.dst v') w'):wpList Tryz.prog ops Q (o :: rest) a w:=by
 refine wpList_plain hgd fun _ hK=>?_;obtain ⟨i,hi,hz0,hz1,hz2⟩:=info_parts uS
 refine wp_append_own w s x 97 ho base 9 i (.string ByteArray.empty) 1 16 Tryz.underlying97 hi hz0 hz1 hz2 rfl (by decide) v l.length (l.map Value.string) hs hown ⟨b,0,none⟩ 1 1 [.string t] hx rfl ?_ (fun u hu=>by simp at hu;subst hu;rfl)
   (by unfold maxLen;omega) (by omega) hbase fun v' w' h1 h2 _=>hK _ _ (h v' w' (by unfold OS;rw [List.map_append,List.length_append];exact h1) ((Below.refl base w).grown h2 hbase fun k hk=>(hown.lt k hk).1))
 intro j u hu
 match j,hu with
 | 0,hu=>simp at hu;subst hu;exact hB
 | j+1,hu=>simp at hu
theorem jA {w:World} {ops:Array Oper} {rest:List Oper} {o:Oper} {a:Act} {Q:Exit→Act→World→Prop} (s x:Operand) (_:o.op=.call { callee:=.builtin .append,args:=#[s,x],argTypes:=#[97,97] })
  (k:wpList Tryz.prog ops Q (o :: rest) a w):wpList Tryz.prog ops Q (o :: rest) a w:=k
theorem j4 (v:Value) (l:List ByteArray) (base:Nat) (w:World) (hO:OS w base v l) (hn:l.length<5864062014805) (hl:(Lib.join (l.map (·.data.toList)) [32]).length≤140737488355328) :
    Calls Tryz.prog 57 #[v,.string ⟨#[32]⟩] w fun e w' => e=.returned (.string ⟨(Lib.join (l.map (·.data.toList)) [32]).toArray⟩)∧Below w.heap.size w w':=by
 obtain ⟨h1,h2⟩:=id hO;rcases h2 with ⟨rfl,h0⟩ | ⟨g,cap,cur,rfl,hbg,hh,hc,hm,hs,ht⟩
 ·have hz:l=[]:=List.eq_nil_of_length_eq_zero h0;subst hz;refine (Tryz.strings_Join_none none 0 ⟨#[32]⟩ w).mono ?_;rintro e w' ⟨rfl,rfl⟩;exact ⟨rfl,b0 _⟩
 refine (Tryz.strings_Join g 0 cap l ⟨#[32]⟩ w (fun j x hx=>?_) (hO.lt g rfl).2 (by omega) hc hl).mono ?_
 ·have hj:j<l.length:=(List.getElem?_eq_some_iff.1 hx).1;rw [Nat.zero_add,World.ownsRow.cellAt hO j (by simpa using hj),List.getElem?_map,hx];rfl
 rintro e w' ⟨rfl,hb⟩;exact ⟨rfl,hb⟩
def iq (l:List Tk):List Tk:=if l≠[]∧(tk.gt l (l.length - 1)).k=6∧(tk.gt l (l.length - 1)).t.size=0 then l.take (l.length - 1) else l
def ig (l:List Tk):Bool:=l.all pr
def joinL (l:List Tk):List UInt8:=Lib.join ((iq l).map so) [32]
def dZ (l:List Tk):Int:=if ig (iq l)=true then (if 16384<(joinL l).length then 2 else 0) else 3
def eZ (l:List Tk):List UInt8:=if dZ l=0 then joinL l else []
def JR (w w':World) (e:Ending) (l:List Tk):Prop:=∃ (s:ByteArray) (a:Option Addr) (cap:Nat),s.data.toList=eZ l∧e=.returned (.tuple #[.slice a s.size cap,.int .i64 (dZ l)])∧Bs w' a s.size cap s∧Below w.heap.size w w'
def kY (l:List Tk):Prop:=(∀ x ∈ l,x.t.size≤1000000)∧l.length≤100000
theorem lJ (x:Tk):(so x).length≤x.t.size+2:=by
 unfold so;split
 ·simp only [List.length_cons,List.length_append,List.length_nil,aI];omega
 rw [aI];omega
theorem Ie:∀ l:List Tk,(∀ x ∈ l,x.t.size≤1000000)→(l.map fun x=>(so x).length).sum≤1000002 * l.length
 | [],_=>Nat.zero_le _
 | x :: l,h=>by
  have h1:=Ie l fun y hy=>h y (List.mem_cons_of_mem _ hy)
  have h2:=lJ x
  have h3:=h x (List.mem_cons_self ..)
  rw [List.map_cons,List.sum_cons,List.length_cons]
  omega
theorem kK (l:List Tk):(l.map fun x=>(⟨(so x).toArray⟩:ByteArray)).map (·.data.toList)=l.map so:=by
 rw [List.map_map];rfl
theorem LG {l:List Tk} (h:kY l) (j:Nat):kY (l.take j):=⟨fun x hx=>h.1 x (List.mem_of_mem_take hx),by have:=h.2;rw [List.length_take];omega⟩
theorem mO {l:List Tk} (h:kY l):kY (iq l):=by
 unfold iq;split
 ·exact LG h _
 exact h
theorem iT {l:List Tk} (h:kY l):(Lib.join (l.map so) [32]).length≤140737488355328:=by
 have h1:=join_le l;have h2:=Ie l h.1;have h3:=h.2;omega
theorem zT (x:Tk):prB x.k ⟨(so x).toArray⟩=pr x:=zU x rfl
theorem tO {l:List Tk} {j:Nat} (h:j<l.length) (h1:ig (l.take j)=true):ig (l.take (j+1))=pr (tk.gt l j):=by
 unfold ig at *;rw [tk.gJ h,List.all_append,h1,Bool.true_and];simp
theorem Br {l:List Tk} {j:Nat} (h:j<l.length) (h1:pr (tk.gt l j)=false):ig l=false:=by
 unfold ig;cases hh:l.all pr
 ·rfl
 have:=List.all_eq_true.1 hh _ (tk.jd h);rw [h1] at this;cases this
theorem Nh {w:World} {a:Option Addr} {n cap:Nat} {l:List Tk} (h:tk.Sl w a n cap l) {m:Nat} (hm:m≤n):tk.Sl w a m cap (l.take m):=by
 refine ⟨?_,by rw [List.length_take,h.hn];omega,by have:=h.hcap;omega,h.hmax,h.hno⟩;rcases h.hat with h0 | ⟨b,off,e,hC⟩
 ·exact .inl (by rw [List.length_take];omega)
 exact .inr ⟨b,off,e,hC.take m⟩
theorem j3 (a:Option Addr) (n cap:Nat) (l:List Tk) (w:World) (hS:tk.Sl w a n cap l) (hF:kY l) (T:Tabs w) :
    Calls Tryz.prog 35 #[.slice a n cap] w fun e w' => JR w w' e l:=by
 have T0:=Hy T;have hn:=hS.hn;by_cases h0:n=0
 ·have hl0:l=[]:=List.eq_nil_of_length_eq_zero (by omega);obtain ⟨L,hLq⟩:∃ L,L=l:=⟨_,rfl⟩;have hL:iq l=L:=by rw [hLq,hl0];rfl
  have hJ:=Hy (show Lib.join (L.map so) [32]=joinL l by unfold joinL;rw [hL]);have EY:=Hy (show ig L=true→dZ l=if 16384<(joinL l).length then 2 else 0 by intro h;unfold dZ;rw [hL,if_pos h]);have EN:=Hy (show ig L=false→dZ l=3 by intro h;unfold dZ;rw [hL,if_neg (by rw [h];decide)]);have FW:=Hy (show kY L by rw [← hL];exact mO hF);obtain ⟨m,hmq⟩:∃ m,m=n:=⟨_,rfl⟩;have S0:=Hy (show tk.Sl w a m cap L by rw [hLq,hmq];exact hS);rw [← hmq] at h0 ⊢;have q0:¬ (0:Int)≤(m:Int) - 1:=by omega
  clear hS hn hl0 hLq hL T hF hmq;replace h0:=Hy h0
  go_enter Tryz.func35,Tryz.ntmps35
  go_wp2_with fail
  go_loopw [5,35] (fun vs vi wr => ∃ j:Nat,vi=.int .i64 (j:Nat)∧Hid (j≤m)∧Hid (OS wr w.heap.size vs ((L.take j).map fun x=>(⟨(so x).toArray⟩:ByteArray)))∧Hid (ig (L.take j)=true)∧Hid (Below w.heap.size w wr)) (fun _ vi _=>m - (intOf vi).toNat)
  case atStart=>exact ⟨0,rfl,Hy zl,Hy (OS.nil _ _),Hy rfl,Hy (b0 w)⟩
  case round =>
   obtain ⟨j,rfl,hj,hO,hA,hb⟩:=hrel;by_cases hc:j<m
   ·exact absurd hc (by have:=h0.o;omega)
   have q2:decide ((j:Int)<(m:Int))=false:=dF (by omega);rw [show L.take j=L from List.take_of_length_le (by have:=S0.o.hn;omega)] at hO hA;have EA:=EY.o hA.o;have JC:=Hy (j4 _ (L.map fun x=>(⟨(so x).toArray⟩:ByteArray)) w.heap.size wr hO.o (by rw [List.length_map];have:=FW.o.2;omega) (by rw [kK];exact iT FW.o));rw [kK,hJ.o] at JC;have hJz:=Hy (show (joinL l).length≤140737488355328 by rw [← hJ.o];exact iT FW.o);obtain ⟨s1,hs1⟩:∃ s1:ByteArray,s1=⟨(joinL l).toArray⟩:=⟨_,rfl⟩;have hsd:s1.data.toList=joinL l:=by rw [hs1]
   have hsz:s1.size=(joinL l).length:=by rw [← aI,hsd]
   rw [← hs1] at JC;rw [← hsz] at EA hJz;clear hO hA;by_cases hbig:16384<s1.size
   ·rw [if_pos hbig] at EA;replace EA:=Hy EA;have qb:decide (16384<(s1.size:Int))=true:=dT (by omega);clear hs1 hsz hsd;go_wp2_with fail;refine JC.o.mono ?_;rintro e w2 ⟨rfl,b2⟩;have B2:=Hy (av hb.o b2);obtain ⟨w3,c,hcv,hB,b3⟩:=gG w2 s1 (by have:=hJz.o;omega);have B3:=Hy (av B2.o b3);clear b2 b3 hB;go_wp2_with fail
    go_ret2
    exact ⟨.empty,none,0,by unfold eZ;rw [EA.o];rfl,by rw [EA.o];rfl,⟨.inl rfl,rfl,by decide,by decide,fun _=>rfl⟩,B3.o⟩
   rw [if_neg hbig] at EA;replace EA:=Hy EA;have hjb:=Hy (show s1.data.toList=eZ l by unfold eZ;rw [EA.o,if_pos rfl,hsd]);have qb:decide (16384<(s1.size:Int))=false:=dF (by omega);clear hs1 hsz hsd;go_wp2_with fail;refine JC.o.mono ?_;rintro e w2 ⟨rfl,b2⟩;have B2:=Hy (av hb.o b2);obtain ⟨w3,c,hcv,hB,b3⟩:=gG w2 s1 (by have:=hJz.o;omega);have B3:=Hy (av B2.o b3);have BS:=Hy hB;clear b2 b3 hB;go_wp2_with fail
   go_ret2
   exact ⟨s1,_,c,hjb.o,by rw [EA.o];rfl,BS.o,B3.o⟩
 obtain ⟨p,rfl⟩:∃ p,n=p+1:=⟨n - 1,by omega⟩;obtain ⟨bk0,off0,rfl,hC0⟩:=hS.hat.resolve_left (by omega);obtain ⟨k0,k1,k2⟩:=hC0 p (by omega);have hp1:l.length - 1=p:=by omega
 have hlast:iq l=if (tk.gt l p).k=6∧(tk.gt l p).t.size=0 then l.take p else l:=by
  unfold iq;rw [hp1];have:l≠[]:=fun e=>by rw [e] at hn;cases hn
  simp only [this,ne_eq,not_false_eq_true,true_and]
 have hcap:=hS.hcap;have hpz:p≤100000:=by have:=hF.2;omega
 have q0:(0:Int)≤(p:Int):=by omega
 clear hC0 h0 hp1;generalize tk.gt l p=x at *;obtain ⟨xk,xt,xa⟩:=x;simp only at k0 k1 k2 hlast;by_cases h6:xk=6
 ·by_cases ht:xt.size=0
  ·have e1:(xk==6)=true:=by rw [h6];rfl
   have e2:(xt.toList==[])=true:=by rw [toList_nil];exact dT ht
   rw [if_pos ⟨h6,ht⟩] at hlast;obtain ⟨L,hLq⟩:∃ L,L=l.take p:=⟨_,rfl⟩;have hL:iq l=L:=by rw [hlast,hLq]
   have hJ:=Hy (show Lib.join (L.map so) [32]=joinL l by unfold joinL;rw [hL]);have EY:=Hy (show ig L=true→dZ l=if 16384<(joinL l).length then 2 else 0 by intro h;unfold dZ;rw [hL,if_pos h]);have EN:=Hy (show ig L=false→dZ l=3 by intro h;unfold dZ;rw [hL,if_neg (by rw [h];decide)]);have FW:=Hy (show kY L by rw [← hL];exact mO hF);obtain ⟨m,hmq⟩:∃ m,m=p:=⟨_,rfl⟩;have S0:=Hy (show tk.Sl w (some ⟨bk0,off0,none⟩) m cap L by rw [hLq,hmq];exact Nh hS (by omega));rw [← hmq] at k0 k1 k2 hcap hpz q0 ⊢;clear hS hn hLq hL T hF hmq hlast h6 ht
   go_enter Tryz.func35,Tryz.ntmps35
   go_wp2_with fail;clear k0 k1 k2
   go_loopw [5,35] (fun vs vi wr => ∃ j:Nat,vi=.int .i64 (j:Nat)∧Hid (j≤m)∧Hid (OS wr w.heap.size vs ((L.take j).map fun x=>(⟨(so x).toArray⟩:ByteArray)))∧Hid (ig (L.take j)=true)∧Hid (Below w.heap.size w wr)) (fun _ vi _=>m - (intOf vi).toNat)
   case atStart=>exact ⟨0,rfl,Hy zl,Hy (OS.nil _ _),Hy rfl,Hy (b0 w)⟩
   case round =>
    obtain ⟨j,rfl,hj,hO,hA,hb⟩:=hrel;by_cases hc:j<m
    ·have hln:=Hy (show j<L.length by have:=S0.o.hn;omega);obtain ⟨bk,off,hab,hC⟩:=(S0.o.keeps hb.o).hat.resolve_left (by have:=hln.o;omega);cases hab;obtain ⟨c0,c1,c2⟩:=hC j hln.o;have q2:decide ((j:Int)<(m:Int))=true:=dT (by omega);have q3:j<m:=hc;have f4:=Hy (aP (j:=j) (by have:=FW.o.2;have:=hln.o;omega));have hmem:=tk.jd hln.o;have hxz:=FW.o.1 _ hmem;have hzs:(⟨(so (tk.gt L j)).toArray⟩:ByteArray).size≤1048576:=by
      have h1:=lJ (tk.gt L j);have h2:=aI ⟨(so (tk.gt L j)).toArray⟩;have h3:(⟨(so (tk.gt L j)).toArray⟩:ByteArray).data.toList.length=(so (tk.gt L j)).length:=rfl;omega
     have SC:=Hy (fun W=>ow (tk.gt L j) hxz W);have IC:=Hy (fun W T=>kC (tk.gt L j).k ⟨(so (tk.gt L j)).toArray⟩ hzs W T);rw [zT] at IC;have hnx:=Hy (tO hln.o hA.o);have hno:=Hy (fun h=>EN.o (Br hln.o h));have htk:=Hy (tk.gJ hln.o);have hl8:=Hy (show ((L.take j).map fun x=>(⟨(so x).toArray⟩:ByteArray)).length<5864062014805 by have:=FW.o.2;rw [List.length_map,List.length_take];omega);clear hC hmem hxz hzs;generalize tk.gt L j=x at *;obtain ⟨xk,xt,xa⟩:=x;simp only at c0 c1 c2 SC IC;have BB:=Hy (tk.Bw.new wr ⟨xk,xt,xa⟩ 119);have BW:=Hy (au hb.o (.cells #[.int .i64 xk,.string xt,.int .i64 xa] 119));have O1:=Hy (hO.o.keeps (au (b0 wr) (.cells #[.int .i64 xk,.string xt,.int .i64 xa] 119)));generalize hs1:(⟨(so ⟨xk,xt,xa⟩).toArray⟩:ByteArray)=s1 at *;replace hs1:=Hy hs1;cases hp:pr ⟨xk,xt,xa⟩
     ·rw [hp] at IC;have hE:=Hy (hno.o hp);clear hp hno hnx;go_wp2_with fail;refine (SC.o _).mono ?_;rintro e w2 ⟨rfl,b2⟩;have B2:=Hy (av BW.o b2);have BB2:=BB.o.keeps b2;obtain ⟨d0,d1,d2⟩:=BB2;simp only at d0 d1 d2;clear b2;go_wp2_with fail;refine (IC.o _ (T0.o.stays B2.o)).mono ?_;rintro e w3 ⟨rfl,b3⟩;have B3:=Hy (av B2.o b3);clear b3 d0 d1 d2;go_wp2_with fail
      go_ret2
      exact ⟨.empty,none,0,by unfold eZ;rw [hE.o];rfl,by rw [hE.o];rfl,⟨.inl rfl,rfl,by decide,by decide,fun _=>rfl⟩,B3.o⟩
     rw [hp] at IC hnx;clear hp hno;go_wp2_with fail;refine (SC.o _).mono ?_;rintro e w2 ⟨rfl,b2⟩;have B2:=Hy (av BW.o b2);have O2:=Hy (O1.o.keeps b2);have BB2:=BB.o.keeps b2;obtain ⟨d0,d1,d2⟩:=BB2;simp only at d0 d1 d2;clear b2;go_wp2_with fail;refine (IC.o _ (T0.o.stays B2.o)).mono ?_;rintro e w3 ⟨rfl,b3⟩;have B3:=Hy (av B2.o b3);have O3:=Hy (O2.o.keeps b3);clear b3 d0 d1 d2;go_wp2_with (at_builtin;refine jA (.tmp 46) (.tmp 48) rfl ?_;refine eG _ rfl (.tmp 46) (.tmp 48) rfl w.heap.size _ _ rfl (O3.o.keeps (au (b0 w3) _)) w3.heap.size s1 rfl (by simp [go_sem]) hl8.o (by have:=B3.o.size;simp;omega) ?_;intro v2 w6 O6 b6);have B6:=Hy ((au B3.o (.cells #[.string s1] 9)).trans b6);have O7:=Hy (show OS w6 w.heap.size v2 ((L.take (j+1)).map fun x=>(⟨(so x).toArray⟩:ByteArray)) by rw [htk.o,List.map_append,List.map_singleton,hs1.o];exact O6);clear b6 O6;go_wp2_with fail;exact ⟨⟨j+1,by first | exact congrArg (Value.int .i64) f4.o | rfl,Hy hc,O7,hnx,B6⟩,by first | exact aO hc f4.o | exact jm hc⟩
    have q2:decide ((j:Int)<(m:Int))=false:=dF (by omega);rw [show L.take j=L from List.take_of_length_le (by have:=S0.o.hn;omega)] at hO hA;have EA:=EY.o hA.o;have JC:=Hy (j4 _ (L.map fun x=>(⟨(so x).toArray⟩:ByteArray)) w.heap.size wr hO.o (by rw [List.length_map];have:=FW.o.2;omega) (by rw [kK];exact iT FW.o));rw [kK,hJ.o] at JC;have hJz:=Hy (show (joinL l).length≤140737488355328 by rw [← hJ.o];exact iT FW.o);obtain ⟨s1,hs1⟩:∃ s1:ByteArray,s1=⟨(joinL l).toArray⟩:=⟨_,rfl⟩;have hsd:s1.data.toList=joinL l:=by rw [hs1]
    have hsz:s1.size=(joinL l).length:=by rw [← aI,hsd]
    rw [← hs1] at JC;rw [← hsz] at EA hJz;clear hO hA;by_cases hbig:16384<s1.size
    ·rw [if_pos hbig] at EA;replace EA:=Hy EA;have qb:decide (16384<(s1.size:Int))=true:=dT (by omega);clear hs1 hsz hsd;go_wp2_with fail;refine JC.o.mono ?_;rintro e w2 ⟨rfl,b2⟩;have B2:=Hy (av hb.o b2);obtain ⟨w3,c,hcv,hB,b3⟩:=gG w2 s1 (by have:=hJz.o;omega);have B3:=Hy (av B2.o b3);clear b2 b3 hB;go_wp2_with fail
     go_ret2
     exact ⟨.empty,none,0,by unfold eZ;rw [EA.o];rfl,by rw [EA.o];rfl,⟨.inl rfl,rfl,by decide,by decide,fun _=>rfl⟩,B3.o⟩
    rw [if_neg hbig] at EA;replace EA:=Hy EA;have hjb:=Hy (show s1.data.toList=eZ l by unfold eZ;rw [EA.o,if_pos rfl,hsd]);have qb:decide (16384<(s1.size:Int))=false:=dF (by omega);clear hs1 hsz hsd;go_wp2_with fail;refine JC.o.mono ?_;rintro e w2 ⟨rfl,b2⟩;have B2:=Hy (av hb.o b2);obtain ⟨w3,c,hcv,hB,b3⟩:=gG w2 s1 (by have:=hJz.o;omega);have B3:=Hy (av B2.o b3);have BS:=Hy hB;clear b2 b3 hB;go_wp2_with fail
    go_ret2
    exact ⟨s1,_,c,hjb.o,by rw [EA.o];rfl,BS.o,B3.o⟩
  have e1:(xk==6)=true:=by rw [h6];rfl
  have e2:(xt.toList==[])=false:=by rw [toList_nil];exact dF ht
  rw [if_neg (fun h=>ht h.2)] at hlast;obtain ⟨L,hLq⟩:∃ L,L=l:=⟨_,rfl⟩;have hL:iq l=L:=by rw [hlast,hLq]
  have hJ:=Hy (show Lib.join (L.map so) [32]=joinL l by unfold joinL;rw [hL]);have EY:=Hy (show ig L=true→dZ l=if 16384<(joinL l).length then 2 else 0 by intro h;unfold dZ;rw [hL,if_pos h]);have EN:=Hy (show ig L=false→dZ l=3 by intro h;unfold dZ;rw [hL,if_neg (by rw [h];decide)]);have FW:=Hy (show kY L by rw [← hL];exact mO hF);have S0:=Hy (show tk.Sl w (some ⟨bk0,off0,none⟩) (p+1) cap L by rw [hLq];exact hS);clear hS hn hLq hL T hF hlast
  go_enter Tryz.func35,Tryz.ntmps35
  go_wp2_with fail;clear k0 k1 k2
  go_loopw [5,35] (fun vs vi wr => ∃ j:Nat,vi=.int .i64 (j:Nat)∧Hid (j≤p+1)∧Hid (OS wr w.heap.size vs ((L.take j).map fun x=>(⟨(so x).toArray⟩:ByteArray)))∧Hid (ig (L.take j)=true)∧Hid (Below w.heap.size w wr)) (fun _ vi _=>p+1 - (intOf vi).toNat)
  case atStart=>exact ⟨0,rfl,Hy zl,Hy (OS.nil _ _),Hy rfl,Hy (b0 w)⟩
  case round =>
   obtain ⟨j,rfl,hj,hO,hA,hb⟩:=hrel;by_cases hc:j<p+1
   ·have hln:=Hy (show j<L.length by have:=S0.o.hn;omega);obtain ⟨bk,off,hab,hC⟩:=(S0.o.keeps hb.o).hat.resolve_left (by have:=hln.o;omega);cases hab;obtain ⟨c0,c1,c2⟩:=hC j hln.o;have q2:decide ((j:Int)<(p:Int)+1)=true:=dT (by omega);have q3:j<p+1:=hc;have f4:=Hy (aP (j:=j) (by have:=FW.o.2;have:=hln.o;omega));have hmem:=tk.jd hln.o;have hxz:=FW.o.1 _ hmem;have hzs:(⟨(so (tk.gt L j)).toArray⟩:ByteArray).size≤1048576:=by
     have h1:=lJ (tk.gt L j);have h2:=aI ⟨(so (tk.gt L j)).toArray⟩;have h3:(⟨(so (tk.gt L j)).toArray⟩:ByteArray).data.toList.length=(so (tk.gt L j)).length:=rfl;omega
    have SC:=Hy (fun W=>ow (tk.gt L j) hxz W);have IC:=Hy (fun W T=>kC (tk.gt L j).k ⟨(so (tk.gt L j)).toArray⟩ hzs W T);rw [zT] at IC;have hnx:=Hy (tO hln.o hA.o);have hno:=Hy (fun h=>EN.o (Br hln.o h));have htk:=Hy (tk.gJ hln.o);have hl8:=Hy (show ((L.take j).map fun x=>(⟨(so x).toArray⟩:ByteArray)).length<5864062014805 by have:=FW.o.2;rw [List.length_map,List.length_take];omega);clear hC hmem hxz hzs;generalize tk.gt L j=x at *;obtain ⟨xk,xt,xa⟩:=x;simp only at c0 c1 c2 SC IC;have BB:=Hy (tk.Bw.new wr ⟨xk,xt,xa⟩ 119);have BW:=Hy (au hb.o (.cells #[.int .i64 xk,.string xt,.int .i64 xa] 119));have O1:=Hy (hO.o.keeps (au (b0 wr) (.cells #[.int .i64 xk,.string xt,.int .i64 xa] 119)));generalize hs1:(⟨(so ⟨xk,xt,xa⟩).toArray⟩:ByteArray)=s1 at *;replace hs1:=Hy hs1;cases hp:pr ⟨xk,xt,xa⟩
    ·rw [hp] at IC;have hE:=Hy (hno.o hp);clear hp hno hnx;go_wp2_with fail;refine (SC.o _).mono ?_;rintro e w2 ⟨rfl,b2⟩;have B2:=Hy (av BW.o b2);have BB2:=BB.o.keeps b2;obtain ⟨d0,d1,d2⟩:=BB2;simp only at d0 d1 d2;clear b2;go_wp2_with fail;refine (IC.o _ (T0.o.stays B2.o)).mono ?_;rintro e w3 ⟨rfl,b3⟩;have B3:=Hy (av B2.o b3);clear b3 d0 d1 d2;go_wp2_with fail
     go_ret2
     exact ⟨.empty,none,0,by unfold eZ;rw [hE.o];rfl,by rw [hE.o];rfl,⟨.inl rfl,rfl,by decide,by decide,fun _=>rfl⟩,B3.o⟩
    rw [hp] at IC hnx;clear hp hno;go_wp2_with fail;refine (SC.o _).mono ?_;rintro e w2 ⟨rfl,b2⟩;have B2:=Hy (av BW.o b2);have O2:=Hy (O1.o.keeps b2);have BB2:=BB.o.keeps b2;obtain ⟨d0,d1,d2⟩:=BB2;simp only at d0 d1 d2;clear b2;go_wp2_with fail;refine (IC.o _ (T0.o.stays B2.o)).mono ?_;rintro e w3 ⟨rfl,b3⟩;have B3:=Hy (av B2.o b3);have O3:=Hy (O2.o.keeps b3);clear b3 d0 d1 d2;go_wp2_with (at_builtin;refine jA (.tmp 46) (.tmp 48) rfl ?_;refine eG _ rfl (.tmp 46) (.tmp 48) rfl w.heap.size _ _ rfl (O3.o.keeps (au (b0 w3) _)) w3.heap.size s1 rfl (by simp [go_sem]) hl8.o (by have:=B3.o.size;simp;omega) ?_;intro v2 w6 O6 b6);have B6:=Hy ((au B3.o (.cells #[.string s1] 9)).trans b6);have O7:=Hy (show OS w6 w.heap.size v2 ((L.take (j+1)).map fun x=>(⟨(so x).toArray⟩:ByteArray)) by rw [htk.o,List.map_append,List.map_singleton,hs1.o];exact O6);clear b6 O6;go_wp2_with fail;exact ⟨⟨j+1,by first | exact congrArg (Value.int .i64) f4.o | rfl,Hy hc,O7,hnx,B6⟩,by first | exact aO hc f4.o | exact jm hc⟩
   have q2:decide ((j:Int)<(p:Int)+1)=false:=dF (by omega);rw [show L.take j=L from List.take_of_length_le (by have:=S0.o.hn;omega)] at hO hA;have EA:=EY.o hA.o;have JC:=Hy (j4 _ (L.map fun x=>(⟨(so x).toArray⟩:ByteArray)) w.heap.size wr hO.o (by rw [List.length_map];have:=FW.o.2;omega) (by rw [kK];exact iT FW.o));rw [kK,hJ.o] at JC;have hJz:=Hy (show (joinL l).length≤140737488355328 by rw [← hJ.o];exact iT FW.o);obtain ⟨s1,hs1⟩:∃ s1:ByteArray,s1=⟨(joinL l).toArray⟩:=⟨_,rfl⟩;have hsd:s1.data.toList=joinL l:=by rw [hs1]
   have hsz:s1.size=(joinL l).length:=by rw [← aI,hsd]
   rw [← hs1] at JC;rw [← hsz] at EA hJz;clear hO hA;by_cases hbig:16384<s1.size
   ·rw [if_pos hbig] at EA;replace EA:=Hy EA;have qb:decide (16384<(s1.size:Int))=true:=dT (by omega);clear hs1 hsz hsd;go_wp2_with fail;refine JC.o.mono ?_;rintro e w2 ⟨rfl,b2⟩;have B2:=Hy (av hb.o b2);obtain ⟨w3,c,hcv,hB,b3⟩:=gG w2 s1 (by have:=hJz.o;omega);have B3:=Hy (av B2.o b3);clear b2 b3 hB;go_wp2_with fail
    go_ret2
    exact ⟨.empty,none,0,by unfold eZ;rw [EA.o];rfl,by rw [EA.o];rfl,⟨.inl rfl,rfl,by decide,by decide,fun _=>rfl⟩,B3.o⟩
   rw [if_neg hbig] at EA;replace EA:=Hy EA;have hjb:=Hy (show s1.data.toList=eZ l by unfold eZ;rw [EA.o,if_pos rfl,hsd]);have qb:decide (16384<(s1.size:Int))=false:=dF (by omega);clear hs1 hsz hsd;go_wp2_with fail;refine JC.o.mono ?_;rintro e w2 ⟨rfl,b2⟩;have B2:=Hy (av hb.o b2);obtain ⟨w3,c,hcv,hB,b3⟩:=gG w2 s1 (by have:=hJz.o;omega);have B3:=Hy (av B2.o b3);have BS:=Hy hB;clear b2 b3 hB;go_wp2_with fail
   go_ret2
   exact ⟨s1,_,c,hjb.o,by rw [EA.o];rfl,BS.o,B3.o⟩
 have e1:(xk==6)=false:=by rw [beq_eq_false_iff_ne];exact h6
 rw [if_neg (fun h=>h6 h.1)] at hlast;obtain ⟨L,hLq⟩:∃ L,L=l:=⟨_,rfl⟩;have hL:iq l=L:=by rw [hlast,hLq]
 have hJ:=Hy (show Lib.join (L.map so) [32]=joinL l by unfold joinL;rw [hL]);have EY:=Hy (show ig L=true→dZ l=if 16384<(joinL l).length then 2 else 0 by intro h;unfold dZ;rw [hL,if_pos h]);have EN:=Hy (show ig L=false→dZ l=3 by intro h;unfold dZ;rw [hL,if_neg (by rw [h];decide)]);have FW:=Hy (show kY L by rw [← hL];exact mO hF);have S0:=Hy (show tk.Sl w (some ⟨bk0,off0,none⟩) (p+1) cap L by rw [hLq];exact hS);clear hS hn hLq hL T hF hlast
 go_enter Tryz.func35,Tryz.ntmps35
 go_wp2_with fail;clear k0 k1 k2
 go_loopw [5,35] (fun vs vi wr => ∃ j:Nat,vi=.int .i64 (j:Nat)∧Hid (j≤p+1)∧Hid (OS wr w.heap.size vs ((L.take j).map fun x=>(⟨(so x).toArray⟩:ByteArray)))∧Hid (ig (L.take j)=true)∧Hid (Below w.heap.size w wr)) (fun _ vi _=>p+1 - (intOf vi).toNat)
 case atStart=>exact ⟨0,rfl,Hy zl,Hy (OS.nil _ _),Hy rfl,Hy (b0 w)⟩
 case round =>
  obtain ⟨j,rfl,hj,hO,hA,hb⟩:=hrel;by_cases hc:j<p+1
  ·have hln:=Hy (show j<L.length by have:=S0.o.hn;omega);obtain ⟨bk,off,hab,hC⟩:=(S0.o.keeps hb.o).hat.resolve_left (by have:=hln.o;omega);cases hab;obtain ⟨c0,c1,c2⟩:=hC j hln.o;have q2:decide ((j:Int)<(p:Int)+1)=true:=dT (by omega);have q3:j<p+1:=hc;have f4:=Hy (aP (j:=j) (by have:=FW.o.2;have:=hln.o;omega));have hmem:=tk.jd hln.o;have hxz:=FW.o.1 _ hmem;have hzs:(⟨(so (tk.gt L j)).toArray⟩:ByteArray).size≤1048576:=by
    have h1:=lJ (tk.gt L j);have h2:=aI ⟨(so (tk.gt L j)).toArray⟩;have h3:(⟨(so (tk.gt L j)).toArray⟩:ByteArray).data.toList.length=(so (tk.gt L j)).length:=rfl;omega
   have SC:=Hy (fun W=>ow (tk.gt L j) hxz W);have IC:=Hy (fun W T=>kC (tk.gt L j).k ⟨(so (tk.gt L j)).toArray⟩ hzs W T);rw [zT] at IC;have hnx:=Hy (tO hln.o hA.o);have hno:=Hy (fun h=>EN.o (Br hln.o h));have htk:=Hy (tk.gJ hln.o);have hl8:=Hy (show ((L.take j).map fun x=>(⟨(so x).toArray⟩:ByteArray)).length<5864062014805 by have:=FW.o.2;rw [List.length_map,List.length_take];omega);clear hC hmem hxz hzs;generalize tk.gt L j=x at *;obtain ⟨xk,xt,xa⟩:=x;simp only at c0 c1 c2 SC IC;have BB:=Hy (tk.Bw.new wr ⟨xk,xt,xa⟩ 119);have BW:=Hy (au hb.o (.cells #[.int .i64 xk,.string xt,.int .i64 xa] 119));have O1:=Hy (hO.o.keeps (au (b0 wr) (.cells #[.int .i64 xk,.string xt,.int .i64 xa] 119)));generalize hs1:(⟨(so ⟨xk,xt,xa⟩).toArray⟩:ByteArray)=s1 at *;replace hs1:=Hy hs1;cases hp:pr ⟨xk,xt,xa⟩
   ·rw [hp] at IC;have hE:=Hy (hno.o hp);clear hp hno hnx;go_wp2_with fail;refine (SC.o _).mono ?_;rintro e w2 ⟨rfl,b2⟩;have B2:=Hy (av BW.o b2);have BB2:=BB.o.keeps b2;obtain ⟨d0,d1,d2⟩:=BB2;simp only at d0 d1 d2;clear b2;go_wp2_with fail;refine (IC.o _ (T0.o.stays B2.o)).mono ?_;rintro e w3 ⟨rfl,b3⟩;have B3:=Hy (av B2.o b3);clear b3 d0 d1 d2;go_wp2_with fail
    go_ret2
    exact ⟨.empty,none,0,by unfold eZ;rw [hE.o];rfl,by rw [hE.o];rfl,⟨.inl rfl,rfl,by decide,by decide,fun _=>rfl⟩,B3.o⟩
   rw [hp] at IC hnx;clear hp hno;go_wp2_with fail;refine (SC.o _).mono ?_;rintro e w2 ⟨rfl,b2⟩;have B2:=Hy (av BW.o b2);have O2:=Hy (O1.o.keeps b2);have BB2:=BB.o.keeps b2;obtain ⟨d0,d1,d2⟩:=BB2;simp only at d0 d1 d2;clear b2;go_wp2_with fail;refine (IC.o _ (T0.o.stays B2.o)).mono ?_;rintro e w3 ⟨rfl,b3⟩;have B3:=Hy (av B2.o b3);have O3:=Hy (O2.o.keeps b3);clear b3 d0 d1 d2;go_wp2_with (at_builtin;refine jA (.tmp 46) (.tmp 48) rfl ?_;refine eG _ rfl (.tmp 46) (.tmp 48) rfl w.heap.size _ _ rfl (O3.o.keeps (au (b0 w3) _)) w3.heap.size s1 rfl (by simp [go_sem]) hl8.o (by have:=B3.o.size;simp;omega) ?_;intro v2 w6 O6 b6);have B6:=Hy ((au B3.o (.cells #[.string s1] 9)).trans b6);have O7:=Hy (show OS w6 w.heap.size v2 ((L.take (j+1)).map fun x=>(⟨(so x).toArray⟩:ByteArray)) by rw [htk.o,List.map_append,List.map_singleton,hs1.o];exact O6);clear b6 O6;go_wp2_with fail;exact ⟨⟨j+1,by first | exact congrArg (Value.int .i64) f4.o | rfl,Hy hc,O7,hnx,B6⟩,by first | exact aO hc f4.o | exact jm hc⟩
  have q2:decide ((j:Int)<(p:Int)+1)=false:=dF (by omega);rw [show L.take j=L from List.take_of_length_le (by have:=S0.o.hn;omega)] at hO hA;have EA:=EY.o hA.o;have JC:=Hy (j4 _ (L.map fun x=>(⟨(so x).toArray⟩:ByteArray)) w.heap.size wr hO.o (by rw [List.length_map];have:=FW.o.2;omega) (by rw [kK];exact iT FW.o));rw [kK,hJ.o] at JC;have hJz:=Hy (show (joinL l).length≤140737488355328 by rw [← hJ.o];exact iT FW.o);obtain ⟨s1,hs1⟩:∃ s1:ByteArray,s1=⟨(joinL l).toArray⟩:=⟨_,rfl⟩;have hsd:s1.data.toList=joinL l:=by rw [hs1]
  have hsz:s1.size=(joinL l).length:=by rw [← aI,hsd]
  rw [← hs1] at JC;rw [← hsz] at EA hJz;clear hO hA;by_cases hbig:16384<s1.size
  ·rw [if_pos hbig] at EA;replace EA:=Hy EA;have qb:decide (16384<(s1.size:Int))=true:=dT (by omega);clear hs1 hsz hsd;go_wp2_with fail;refine JC.o.mono ?_;rintro e w2 ⟨rfl,b2⟩;have B2:=Hy (av hb.o b2);obtain ⟨w3,c,hcv,hB,b3⟩:=gG w2 s1 (by have:=hJz.o;omega);have B3:=Hy (av B2.o b3);clear b2 b3 hB;go_wp2_with fail
   go_ret2
   exact ⟨.empty,none,0,by unfold eZ;rw [EA.o];rfl,by rw [EA.o];rfl,⟨.inl rfl,rfl,by decide,by decide,fun _=>rfl⟩,B3.o⟩
  rw [if_neg hbig] at EA;replace EA:=Hy EA;have hjb:=Hy (show s1.data.toList=eZ l by unfold eZ;rw [EA.o,if_pos rfl,hsd]);have qb:decide (16384<(s1.size:Int))=false:=dF (by omega);clear hs1 hsz hsd;go_wp2_with fail;refine JC.o.mono ?_;rintro e w2 ⟨rfl,b2⟩;have B2:=Hy (av hb.o b2);obtain ⟨w3,c,hcv,hB,b3⟩:=gG w2 s1 (by have:=hJz.o;omega);have B3:=Hy (av B2.o b3);have BS:=Hy hB;clear b2 b3 hB;go_wp2_with fail
  go_ret2
  exact ⟨s1,_,c,hjb.o,by rw [EA.o];rfl,BS.o,B3.o⟩
end
namespace ch
open Go.RowKit dec
def Ts (l:List Tk):Prop:=∀ t ∈ l,t.t.size≤1048576
theorem T9:ByteArray.empty.size≤1048576:=by decide
theorem rV {s:ByteArray} (hs:¬ 16384<s.size):cu s=(lxs 0 false s.data.toList).1++[kg s]:=by
 unfold cu;rw [if_neg hs]
theorem Fb {s:ByteArray} (h:s.size≤16384):(cu s).length≤s.size+1∧Ts (cu s):=by
 have h1:=nG s.data.toList _ 0 zl (qU s.data.toList 0 false s.data.toList rfl zl).1;have h2:=pa.qL _ (uO 0 false s.data.toList);have h3:s.data.toList.length=s.size:=aI s;rw [rV (by omega)];refine ⟨by rw [List.length_append,List.length_singleton];omega,fun t ht=>?_⟩;rcases List.mem_append.1 ht with ht | ht
 ·have:=h2.2 t ht;omega
 rw [List.mem_singleton] at ht;subst ht;exact T9
theorem uw (l:List Tk) (s:ByteArray):iq (l++[kg s])=l:=by
 have h1:(l++[kg s]).length - 1=l.length:=by rw [List.length_append,List.length_singleton];omega
 have h2:tk.gt (l++[kg s]) l.length=kg s:=by
  rw [tk.fq (by rw [List.length_append,List.length_singleton];omega)];simp
 unfold iq;rw [h1,h2,if_pos ⟨by simp,rfl,rfl⟩,List.take_left]
theorem PY {α:Type} {z:α} {one:List Tk→Rs α} (h1:∀ {l r:List Tk},pa.SimR (fun _ _=>True) l r→pa.RSim (fun _ _=>True) (one l) (one r)) {l0:List Tk} {s:ByteArray} (hE:fF s=0) (hB:iJ s=[]) (S:pa.SimR (fun _ _=>True) (l0++[⟨6,.empty,0⟩]) (cu s)) {x:α}
    (h:one (l0++[⟨6,.empty,0⟩])=.ok x [⟨6,.empty,0⟩]):pa.dR z one s=(x,0,0):=by
 have q:=h1 S;rw [h] at q;generalize hy:one (cu s)=y at q
 cases q with
 | ok v hr =>
   rename_i r
   have hk:(hd r).k=6:=hr.hk
   have hA:pa.jT one (cu s)=.ok x r:=by
     unfold pa.jT
     rw [hy]
     show (pa.oP r).bind _=_
     unfold pa.oP
     rw [if_pos hk]
     rfl
   exact pa.Dk hE hB hA
theorem Jo {x:Ex} (h:shE x=0) (hz:x.ar.sz≤3000) {s:ByteArray} (hs:s.data.toList=txE x) :
    fF s=0∧iJ s=[]∧kY (cu s)∧dZ (cu s)=0∧∃ b:ByteArray,eZ (cu s)=b.data.toList∧pa.dR (α:=Ex) ⟨h0,.nil⟩ pa.exR b=(x,0,0):=by
 have hw:=BK h hz;have g:=RY (jh h);obtain ⟨hE,hB,S⟩:=Hz g hs (by omega);obtain ⟨L,e1,e2⟩:=wN g.w;rw [g.b,← hs] at e1;have hsz:s.size=(txE x).length:=by rw [← hs];exact (aI s).symm
 have hL:cu s=L++[kg s]:=by rw [rV (by omega),e1]
 have hn:L.length=(xkE x).length:=by
  have:=congrArg List.length e2;simpa using this
 have hp:∀ y ∈ L,pr y=true:=by
  have:=uO 0 false s.data.toList;rw [e1] at this;exact this
 have c1:=nG s.data.toList _ 0 zl (qU s.data.toList 0 false s.data.toList rfl zl).1;rw [e1] at c1;have c2:s.data.toList.length=s.size:=aI s;have c3:=join_le L;obtain ⟨k1,k2⟩:=Fb (s:=s) (by omega);obtain ⟨b,hb⟩:∃ b:ByteArray,b=⟨(Lib.join (L.map so) [32]).toArray⟩:=⟨_,rfl⟩;have hd:b.data.toList=Lib.join (L.map so) [32]:=by rw [hb]
 have hbz:b.size=(Lib.join (L.map so) [32]).length:=by rw [← aI,hd]
 have hj:=Al L 0 false hp;rw [← hd] at hj;have h4:joinL (cu s)=Lib.join (L.map so) [32]:=by unfold joinL;rw [hL,uw]
 simp only at c1;have h5:dZ (cu s)=0:=by
  unfold dZ;rw [h4,hL,uw,if_pos (show ig L=true from List.all_eq_true.2 hp),if_neg (by omega)]
 refine ⟨hE,hB,⟨fun t ht=>?_,by omega⟩,h5,b,by unfold eZ;rw [if_pos h5,h4,hd],?_⟩
 ·rw [hL] at ht;have c4:=pa.qL L hp;rcases List.mem_append.1 ht with ht | ht
  ·have:=c4.2 t ht;omega
  rw [List.mem_singleton] at ht;subst ht;show ByteArray.empty.size≤_;decide
 have bz:¬ 16384<b.size:=by omega
 have hEb:fF b=0:=by unfold fF;rw [if_neg bz]
 have hBb:iJ b=[]:=by unfold iJ;rw [if_neg bz,hj.2];rfl
 have Sb:pa.SimR (fun _ _=>True) (tkl (xkE x)++[⟨6,.empty,0⟩]) (cu b):=by
  rw [rV bz];exact vL (e:=⟨6,.empty,0⟩) (e':=kg b) rfl rfl rfl ((Hw _).trans (e2.symm.trans hj.1.symm))
 obtain ⟨f,e⟩:=(Dz (jh h)).ex _ (Eu .empty 0);refine PY (fun h=>pa.OU h) hEb hBb Sb ?_;have e0:=e f lr;exact (pa.Qr (pa.qB (tkl (xkE x)++[⟨6,.empty,0⟩])) (show pz f false .ex (tkl (xkE x)++[⟨6,.empty,0⟩])≠.out by rw [e0];exact fun h=>by cases h)).trans e0
theorem ba_eq {s t:ByteArray} (h:s.data.toList=t.data.toList):s=t:=by rw [← oh s,← oh t,h]
theorem SI (x:Ex) (b:ByteArray) (h:shE x=0) (ht:pa.dR (α:=Ex) ⟨h0,.nil⟩ pa.exR b=(x,0,0)) (a:Option Addr) (n c:Nat) (W:World) (hS:Bs W a n c b) (T:Tabo W) :
  Calls Tryz.prog 27 #[.slice a n c] W fun e w' => ∃ ua uc aa ac,e=.returned (.tuple #[.agg (exC x.h x.ar.len ua uc aa ac),.int .i64 0,.int .i64 0])∧Ec w' x ua uc aa ac∧Below W.heap.size W w' :=
 (pa.KF a n c _ W hS T _ ht).mono fun e w' ⟨v,he,V,b⟩=>by
  obtain ⟨ua,uc,aa,ac,hv,E⟩:=OV V (KM (jh h))
  subst hv
  exact ⟨ua,uc,aa,ac,he,E,b⟩
theorem Sj (s:ByteArray) (hE:fF s=0) (hB:iJ s=[]) (n:Nat) (hn:(cu s).length=n) (a:Option Addr) (m c:Nat) (W:World) (hS:Bs W a m c s) (T:Tabs W) :
  Calls Tryz.prog 33 #[.slice a m c] W fun e w' => ∃ al cl ap cp,e=.returned (.tuple #[.slice al n cl,.slice ap 0 cp,.int .i64 0])∧tk.Sl w' al n cl (cu s)∧Below W.heap.size W w' :=
 (uo a m c s W hS T).mono fun e w' ⟨v,u,he,o,p,b⟩=>by
  obtain ⟨al,cl,hv,sl⟩:=o.sl
  obtain ⟨ap,cp,hu,sp⟩:=p.sl
  subst hv hu hn
  rw [hE,hB] at he
  exact ⟨al,cl,ap,cp,he,sl,b⟩
theorem TH (l:List Tk) (b:ByteArray) (hF:kY l) (hJ:dZ l=0) (hb:eZ l=b.data.toList) (a:Option Addr) (m c:Nat) (W:World) (hS:tk.Sl W a m c l) (T:Tabs W) :
  Calls Tryz.prog 35 #[.slice a m c] W fun e w' => ∃ a' k c',e=.returned (.tuple #[.slice a' k c',.int .i64 0])∧Bs w' a' k c' b∧Below W.heap.size W w' :=
 (Go.Proofs.YtbahfelnbofjjaaGreatDoor.j3 a m c l W hS hF T).mono fun e w' ⟨s,a',c',hs,he,hB,bb⟩=>by
  obtain rfl:s=b:=ba_eq (hs.trans hb)
  rw [hJ] at he
  exact ⟨a',_,c',he,hB,bb⟩
theorem BJ (x:Ex) (ua aa:Option Addr) (uc ac:Nat) (w:World) (hx:x.szs) (hA:Ec w x ua uc aa ac) (T:Tabq w) (O:Opt w):Calls Tryz.prog 7 #[.agg (exC x.h x.ar.len ua uc aa ac)] w (Bl true w):=by
 have bb:=au (b0 w) (.cells (exC x.h x.ar.len ua uc aa ac) 29);have B:=Hy bb;have G1:=Hy (Blk.new w 29 (exC x.h x.ar.len ua uc aa ac));have CE:=Hy (fun (W:World) (b:Below w.heap.size w W)=>Cv W (T.stays b));have Fx:=Hy (fun (W:World) (b:Below w.heap.size w W)=>OI x 100 ua aa uc ac W hx (by decide) (by decide) (hA.keeps b));have Sx:=Hy (fun (W:World) (b:Below w.heap.size w W)=>FE x ua aa uc ac W hx (hA.keeps b));have Px:=Hy (fun (hz:x.ar.sz≤3000) (W:World) (b:Below w.heap.size w W)=>p9 x ua aa uc ac W hx hz (hA.keeps b) (T.stays b));have hs1:sxE x x=true:=Nc.2 rfl;have XE:=Hy (fun (va wa:Option Addr) (vc wc:Nat) (W:World) (b:Below w.heap.size w W) (hE:Ec W x va vc wa wc)=>Ip x x ua aa va wa uc ac vc wc W (hA.keeps b) hE);rw [hs1] at XE;have TT:=Hy (fun (W:World) (b:Below w.heap.size w W)=>(T.stays b).t);have TO:=Hy (fun (W:World) (b:Below w.heap.size w W)=>(⟨(T.stays b).t,O.keeps b⟩:Tabo W));clear bb hx hA T O hs1;unfold exC at *
 go_enter Tryz.func7,Tryz.ntmps7
 go_upto_region 1 with fail
 generalize hw0:(w.alloc (.cells #[.int .i64 x.h.k,.string x.h.op,.string x.h.nm,.string x.h.tb,.int .i64 x.h.vk,.int .i64 x.h.vn,.string x.h.vs,.slice ua x.h.un.length uc,.int .i64 x.h.pa,.int .i64 x.h.wk,.int .i64 x.h.ws,.slice aa x.ar.len ac] 29))=w0 at *;clear hw0;go_wp2_with fail;refine (CE.o _ B.o).mono ?_;rintro e w1 ⟨rfl,b1⟩;replace B:=Hy (av B.o b1);replace G1:=Hy (G1.o.keeps b1);clear b1;clear CE
 go_upto_region 3 with fail
 go_cut [22] from 15 (fun v wx=>(v=.bool true∨(v=.bool false∧x.ar.sz≤3000∧shE x=0))∧Hid (Below w1.heap.size w1 wx))
 case first =>
  have R:=Hy (b0 w1);go_wp2_with (refine aC aF Tryz.underlying29 rfl (.tmp 1) rfl rfl _ _ _ rfl G1.o rfl ?_);refine (Fx.o _ B.o).mono ?_;rintro e w2 ⟨r1,rfl,-,hz1,b2⟩;replace B:=Hy (av B.o b2);replace R:=Hy (av R.o b2);replace G1:=Hy (G1.o.keeps b2);clear b2;by_cases hr1:r1<0
  ·have q1:=dT hr1;go_wp2_with fail
   go_meet
   case rel=>exact ⟨.inl rfl,Hy R.o⟩
  have q1:=dF hr1;have HZ1:=Hy (show x.ar.sz≤3000 from by have:=hz1 (by omega);omega);clear hz1;go_wp2_with (refine aY aF Tryz.underlying29 rfl (.tmp 1) rfl rfl _ _ _ rfl G1.o rfl ?_);refine (Sx.o _ B.o).mono ?_;rintro e w3 ⟨rfl,b3⟩;replace B:=Hy (av B.o b3);replace R:=Hy (av R.o b3);replace G1:=Hy (G1.o.keeps b3);clear b3;generalize he1:shE x=e1 at *;clear he1;by_cases h1:e1=0
  ·subst h1;go_wp2_with fail
   go_meet
   case rel=>exact ⟨.inr ⟨rfl,HZ1.o,by trivial⟩,Hy R.o⟩
  have q3:(e1 != 0)=true:=by simp [h1]
  replace h1:=Hy h1;go_wp2_with fail
  go_meet
  case rel=>exact ⟨.inl rfl,Hy R.o⟩
 case rest =>
  obtain ⟨hv,BW⟩:=hcut;replace B:=Hy (av B.o BW.o);replace G1:=Hy (G1.o.keeps BW.o);clear BW Fx Sx;generalize wc=w3 at *;rcases hv with rfl | ⟨rfl,z1,h1⟩
  ·go_wp2_with fail;go_ret;exact ⟨rfl,B.o⟩
  obtain ⟨hE,hB,hF,hJ,y,hy,ht⟩:=Jo h1 z1 (EG (txE x));obtain ⟨nl,hnl⟩:∃ k,(cu (B8 (txE x))).length=k:=⟨_,rfl⟩;have CT:=Hy (Sj _ hE hB nl hnl);have CJ:=Hy (TH _ y hF hJ hy);have CR:=Hy (SI x y h1 ht);have zz:(B8 (txE x)).size≤281474976710656:=by have k:=Hr h1 z1;have e:=aI (B8 (txE x));rw [EG] at e;omega
  replace Px:=Hy (Px.o z1);rw [h1] at Px;simp only [txO,if_true] at Px;clear z1 h1 hE hB hF hJ hy ht hnl;generalize cu (B8 (txE x))=tl at *;generalize B8 (txE x)=s1 at *;unfold exC at *;go_wp2_with (refine aC aF Tryz.underlying29 rfl (.tmp 1) rfl rfl _ _ _ rfl G1.o rfl ?_);refine (Px.o _ B.o).mono ?_;rintro e w4 ⟨rfl,b4⟩;replace B:=Hy (av B.o b4);replace G1:=Hy (G1.o.keeps b4);clear b4;obtain ⟨w5,c5,hcv,hB,b5⟩:=gG w4 s1 zz;have BS:=Hy hB;replace B:=Hy (av B.o b5);replace G1:=Hy (G1.o.keeps b5);clear hB b5;go_wp2_with fail;refine (CT.o _ _ _ _ BS.o (TT.o _ B.o)).mono ?_;rintro e w6 ⟨al,cl,ap,cp,rfl,sl,b6⟩;replace B:=Hy (av B.o b6);replace G1:=Hy (G1.o.keeps b6);have SL:=Hy sl;clear sl;clear b6;go_wp2_with fail;refine (CJ.o _ _ _ _ SL.o (TT.o _ B.o)).mono ?_;rintro e w7 ⟨aj,kj,cj,rfl,sj,b7⟩;replace B:=Hy (av B.o b7);replace G1:=Hy (G1.o.keeps b7);have SJ:=Hy sj;clear sj;clear b7;go_wp2_with fail;refine (CR.o _ _ _ _ SJ.o (TO.o _ B.o)).mono ?_;rintro e w8 ⟨va,vc,wa,wc,rfl,E,b8⟩;replace B:=Hy (av B.o b8);replace G1:=Hy (G1.o.keeps b8);have EY:=Hy E;clear E;clear b8;clear BS SL SJ CT CJ CR Px;unfold exC at *;go_wp2_with (first | (refine aK aF (.tmp 10) (.tmp 43) rfl rfl _ _ _ _ rfl rfl (Blk.new _ _ _) rfl rfl (aM _ _ _ _ _ _) ?_;intro w9 L s3;have b:=(au (b0 w8) _).trans (s3.below lr);have L1:=Hy L;replace B:=Hy (av B.o b);replace G1:=Hy (G1.o.keeps b);replace EY:=Hy (EY.o.keeps b);clear L s3 b) | (refine aY aF Tryz.underlying29 rfl (.tmp 1) rfl rfl _ _ _ rfl G1.o rfl ?_) | (refine aY aF Tryz.underlying29 rfl (.tmp 10) rfl rfl _ _ _ rfl L1.o rfl ?_));refine (XE.o _ _ _ _ _ B.o EY.o).mono ?_;rintro e w10 ⟨rfl,b10⟩;replace B:=Hy (av B.o b10);clear b10;go_wp2_with fail;go_ret;exact ⟨rfl,B.o⟩
end ch
end Go.Proofs.YtbahfelnbofjjaaGreatDoor
