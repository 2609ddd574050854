/-
  lexer.Join; What is parsed is no greater than its tokens: nodes; What is parsed is no greater than its tokens: strings; what is left is an end of what was there; parser.Expr over any short source: what it hands back is small; The tokens of a printed text, joined, are a source that is read as the same; The tokens of what is printed, joined, are read as the same: the walk; The parentheses of a text are balanced; Rows of elements of several cells: rows of the call's own, append; rows that are read; A module in memory while it is read; A table; a feature; An item: a table or a feature, by a map of methods; SortFunc over problems, by offset; Module; A source between parentheses is read as the source.
-/
import Derived.Great.BuildSlice
import Derived.Maps.OwnSet
import Derived.Test.YtbahfelnbofjjaaGreatDoorG30
set_option maxRecDepth 100000
set_option maxHeartbeats 16000000
namespace Go.Proofs.YtbahfelnbofjjaaGreatDoor
section
open Go.RowKit dec
theorem wS {w:World} {a:Option Addr} {n cap:Nat} {l:List Tk} (h:tk.Sl w a n cap l) {m:Nat} (hm:m≤n):tk.Sl w a m cap (l.take m):=by
 refine ⟨?_,by rw [List.length_take,h.hn];omega,by have:=h.hcap;omega,h.hmax,h.hno⟩;rcases h.hat with h0 | ⟨b,off,e,hC⟩
 ·exact .inl (by rw [List.length_take];omega)
 exact .inr ⟨b,off,e,hC.take m⟩
theorem kD (a:Option Addr) (n cap:Nat) (l:List Tk) (w:World) (hS:tk.Sl w a n cap l) (hF:kG l) (T:Tabs w) :
    Calls Tryz.prog 35 #[.slice a n cap] w fun e w' => JR w w' e l:=by
 have T0:=Hy T;have hn:=hS.hn;by_cases h0:n=0
 ·have hl0:l=[]:=List.eq_nil_of_length_eq_zero (by omega);obtain ⟨L,hLq⟩:∃ L,L=l:=⟨_,rfl⟩;have hL:gN l=L:=by rw [hLq,hl0];rfl
  have hJ:=Hy (show Lib.join (L.map so) [32]=joinL l by unfold joinL;rw [hL]);have EY:=Hy (show iB L=true→eB l=if 16384<(joinL l).length then 2 else 0 by intro h;unfold eB;rw [hL,if_pos h]);have EN:=Hy (show iB L=false→eB l=3 by intro h;unfold eB;rw [hL,if_neg (by rw [h];decide)]);have FW:=Hy (show kG L by rw [← hL];exact mW hF);obtain ⟨m,hmq⟩:∃ m,m=n:=⟨_,rfl⟩;have S0:=Hy (show tk.Sl w a m cap L by rw [hLq,hmq];exact hS);rw [← hmq] at h0 ⊢;have q0:¬ (0:Int)≤(m:Int) - 1:=by omega
  clear hS hn hl0 hLq hL T hF hmq;replace h0:=Hy h0
  go_enter Tryz.func35,Tryz.ntmps35
  go_wp2_with fail
  go_loopw [5,35] (fun vs vi wr => ∃ j:Nat,vi=.int .i64 (j:Nat)∧Hid (j≤m)∧Hid (OS wr w.heap.size vs ((L.take j).map fun x=>(⟨(so x).toArray⟩:ByteArray)))∧Hid (iB (L.take j)=true)∧Hid (Below w.heap.size w wr)) (fun _ vi _=>m - (intOf vi).toNat)
  case atStart=>exact ⟨0,rfl,Hy zl,Hy (OS.nil _ _),Hy rfl,Hy (b0 w)⟩
  case round =>
   obtain ⟨j,rfl,hj,hO,hA,hb⟩:=hrel;by_cases hc:j<m
   ·exact absurd hc (by have:=h0.o;omega)
   have q2:decide ((j:Int)<(m:Int))=false:=dF (by omega);rw [show L.take j=L from List.take_of_length_le (by have:=S0.o.hn;omega)] at hO hA;have EA:=EY.o hA.o;have JC:=Hy (kE _ (L.map fun x=>(⟨(so x).toArray⟩:ByteArray)) w.heap.size wr hO.o (by rw [List.length_map];have:=FW.o.2;omega) (by rw [kR];exact iW FW.o));rw [kR,hJ.o] at JC;have hJz:=Hy (show (joinL l).length≤140737488355328 by rw [← hJ.o];exact iW FW.o);obtain ⟨s1,hs1⟩:∃ s1:ByteArray,s1=⟨(joinL l).toArray⟩:=⟨_,rfl⟩;have hsd:s1.data.toList=joinL l:=by rw [hs1]
   have hsz:s1.size=(joinL l).length:=by rw [← aI,hsd]
   rw [← hs1] at JC;rw [← hsz] at EA hJz;clear hO hA;by_cases hbig:16384<s1.size
   ·rw [if_pos hbig] at EA;replace EA:=Hy EA;have qb:decide (16384<(s1.size:Int))=true:=dT (by omega);clear hs1 hsz hsd;go_wp2_with fail;refine JC.o.mono ?_;rintro e w2 ⟨rfl,b2⟩;have B2:=Hy (aA hb.o b2);obtain ⟨w3,c,hcv,hB,b3⟩:=gI w2 s1 (by have:=hJz.o;omega);have B3:=Hy (aA B2.o b3);clear b2 b3 hB;go_wp2_with fail
    go_ret2
    exact ⟨.empty,none,0,by unfold eT;rw [EA.o];rfl,by rw [EA.o];rfl,⟨.inl rfl,rfl,by decide,by decide,fun _=>rfl⟩,B3.o⟩
   rw [if_neg hbig] at EA;replace EA:=Hy EA;have hjb:=Hy (show s1.data.toList=eT l by unfold eT;rw [EA.o,if_pos rfl,hsd]);have qb:decide (16384<(s1.size:Int))=false:=dF (by omega);clear hs1 hsz hsd;go_wp2_with fail;refine JC.o.mono ?_;rintro e w2 ⟨rfl,b2⟩;have B2:=Hy (aA hb.o b2);obtain ⟨w3,c,hcv,hB,b3⟩:=gI w2 s1 (by have:=hJz.o;omega);have B3:=Hy (aA B2.o b3);have BS:=Hy hB;clear b2 b3 hB;go_wp2_with fail
   go_ret2
   exact ⟨s1,_,c,hjb.o,by rw [EA.o];rfl,BS.o,B3.o⟩
 obtain ⟨p,rfl⟩:∃ p,n=p+1:=⟨n - 1,by omega⟩;obtain ⟨bk0,off0,rfl,hC0⟩:=hS.hat.resolve_left (by omega);obtain ⟨k0,k1,k2⟩:=hC0 p (by omega);have hp1:l.length - 1=p:=by omega
 have hlast:gN l=if (tk.gt l p).k=6∧(tk.gt l p).t.size=0 then l.take p else l:=by
  unfold gN;rw [hp1];have:l≠[]:=fun e=>by rw [e] at hn;cases hn
  simp only [this,ne_eq,not_false_eq_true,true_and]
 have hcap:=hS.hcap;have hpz:p≤100000:=by have:=hF.2;omega
 have q0:(0:Int)≤(p:Int):=by omega
 clear hC0 h0 hp1;generalize tk.gt l p=x at *;obtain ⟨xk,xt,xa⟩:=x;simp only at k0 k1 k2 hlast;by_cases h6:xk=6
 ·by_cases ht:xt.size=0
  ·have e1:(xk==6)=true:=by rw [h6];rfl
   have e2:(xt.toList==[])=true:=by rw [toList_nil];exact dT ht
   rw [if_pos ⟨h6,ht⟩] at hlast;obtain ⟨L,hLq⟩:∃ L,L=l.take p:=⟨_,rfl⟩;have hL:gN l=L:=by rw [hlast,hLq]
   have hJ:=Hy (show Lib.join (L.map so) [32]=joinL l by unfold joinL;rw [hL]);have EY:=Hy (show iB L=true→eB l=if 16384<(joinL l).length then 2 else 0 by intro h;unfold eB;rw [hL,if_pos h]);have EN:=Hy (show iB L=false→eB l=3 by intro h;unfold eB;rw [hL,if_neg (by rw [h];decide)]);have FW:=Hy (show kG L by rw [← hL];exact mW hF);obtain ⟨m,hmq⟩:∃ m,m=p:=⟨_,rfl⟩;have S0:=Hy (show tk.Sl w (some ⟨bk0,off0,none⟩) m cap L by rw [hLq,hmq];exact wS hS (by omega));rw [← hmq] at k0 k1 k2 hcap hpz q0 ⊢;clear hS hn hLq hL T hF hmq hlast h6 ht
   go_enter Tryz.func35,Tryz.ntmps35
   go_wp2_with fail;clear k0 k1 k2
   go_loopw [5,35] (fun vs vi wr => ∃ j:Nat,vi=.int .i64 (j:Nat)∧Hid (j≤m)∧Hid (OS wr w.heap.size vs ((L.take j).map fun x=>(⟨(so x).toArray⟩:ByteArray)))∧Hid (iB (L.take j)=true)∧Hid (Below w.heap.size w wr)) (fun _ vi _=>m - (intOf vi).toNat)
   case atStart=>exact ⟨0,rfl,Hy zl,Hy (OS.nil _ _),Hy rfl,Hy (b0 w)⟩
   case round =>
    obtain ⟨j,rfl,hj,hO,hA,hb⟩:=hrel;by_cases hc:j<m
    ·have hln:=Hy (show j<L.length by have:=S0.o.hn;omega);obtain ⟨bk,off,hab,hC⟩:=(S0.o.keeps hb.o).hat.resolve_left (by have:=hln.o;omega);cases hab;obtain ⟨c0,c1,c2⟩:=hC j hln.o;have q2:decide ((j:Int)<(m:Int))=true:=dT (by omega);have q3:j<m:=hc;have f4:=Hy (aS (j:=j) (by have:=FW.o.2;have:=hln.o;omega));have hmem:=tk.jl hln.o;have hxz:=FW.o.1 _ hmem;have hzs:(⟨(so (tk.gt L j)).toArray⟩:ByteArray).size≤1048576:=by
      have h1:=lM (tk.gt L j);have h2:=aI ⟨(so (tk.gt L j)).toArray⟩;have h3:(⟨(so (tk.gt L j)).toArray⟩:ByteArray).data.toList.length=(so (tk.gt L j)).length:=rfl;omega
     have SC:=Hy (fun W=>oF (tk.gt L j) hxz W);have IC:=Hy (fun W T=>kJ (tk.gt L j).k ⟨(so (tk.gt L j)).toArray⟩ hzs W T);rw [Ao] at IC;have hnx:=Hy (um hln.o hA.o);have hno:=Hy (fun h=>EN.o (Ce hln.o h));have htk:=Hy (tk.gL hln.o);have hl8:=Hy (show ((L.take j).map fun x=>(⟨(so x).toArray⟩:ByteArray)).length<5864062014805 by have:=FW.o.2;rw [List.length_map,List.length_take];omega);clear hC hmem hxz hzs;generalize tk.gt L j=x at *;obtain ⟨xk,xt,xa⟩:=x;simp only at c0 c1 c2 SC IC;have BB:=Hy (tk.Bw.new wr ⟨xk,xt,xa⟩ 119);have BW:=Hy (au hb.o (.cells #[.int .i64 xk,.string xt,.int .i64 xa] 119));have O1:=Hy (hO.o.keeps (au (b0 wr) (.cells #[.int .i64 xk,.string xt,.int .i64 xa] 119)));generalize hs1:(⟨(so ⟨xk,xt,xa⟩).toArray⟩:ByteArray)=s1 at *;replace hs1:=Hy hs1;cases hp:pr ⟨xk,xt,xa⟩
     ·rw [hp] at IC;have hE:=Hy (hno.o hp);clear hp hno hnx;go_wp2_with fail;refine (SC.o _).mono ?_;rintro e w2 ⟨rfl,b2⟩;have B2:=Hy (aA BW.o b2);have BB2:=BB.o.keeps b2;obtain ⟨d0,d1,d2⟩:=BB2;simp only at d0 d1 d2;clear b2;go_wp2_with fail;refine (IC.o _ (T0.o.stays B2.o)).mono ?_;rintro e w3 ⟨rfl,b3⟩;have B3:=Hy (aA B2.o b3);clear b3 d0 d1 d2;go_wp2_with fail
      go_ret2
      exact ⟨.empty,none,0,by unfold eT;rw [hE.o];rfl,by rw [hE.o];rfl,⟨.inl rfl,rfl,by decide,by decide,fun _=>rfl⟩,B3.o⟩
     rw [hp] at IC hnx;clear hp hno;go_wp2_with fail;refine (SC.o _).mono ?_;rintro e w2 ⟨rfl,b2⟩;have B2:=Hy (aA BW.o b2);have O2:=Hy (O1.o.keeps b2);have BB2:=BB.o.keeps b2;obtain ⟨d0,d1,d2⟩:=BB2;simp only at d0 d1 d2;clear b2;go_wp2_with fail;refine (IC.o _ (T0.o.stays B2.o)).mono ?_;rintro e w3 ⟨rfl,b3⟩;have B3:=Hy (aA B2.o b3);have O3:=Hy (O2.o.keeps b3);clear b3 d0 d1 d2;go_wp2_with (at_builtin;refine jK (.tmp 46) (.tmp 48) rfl ?_;refine eU _ rfl (.tmp 46) (.tmp 48) rfl w.heap.size _ _ rfl (O3.o.keeps (au (b0 w3) _)) w3.heap.size s1 rfl (by simp [go_sem]) hl8.o (by have:=B3.o.size;simp;omega) ?_;intro v2 w6 O6 b6);have B6:=Hy ((au B3.o (.cells #[.string s1] 9)).trans b6);have O7:=Hy (show OS w6 w.heap.size v2 ((L.take (j+1)).map fun x=>(⟨(so x).toArray⟩:ByteArray)) by rw [htk.o,List.map_append,List.map_singleton,hs1.o];exact O6);clear b6 O6;go_wp2_with fail;exact ⟨⟨j+1,by first | exact congrArg (Value.int .i64) f4.o | rfl,Hy hc,O7,hnx,B6⟩,by first | exact aN hc f4.o | exact jE hc⟩
    have q2:decide ((j:Int)<(m:Int))=false:=dF (by omega);rw [show L.take j=L from List.take_of_length_le (by have:=S0.o.hn;omega)] at hO hA;have EA:=EY.o hA.o;have JC:=Hy (kE _ (L.map fun x=>(⟨(so x).toArray⟩:ByteArray)) w.heap.size wr hO.o (by rw [List.length_map];have:=FW.o.2;omega) (by rw [kR];exact iW FW.o));rw [kR,hJ.o] at JC;have hJz:=Hy (show (joinL l).length≤140737488355328 by rw [← hJ.o];exact iW FW.o);obtain ⟨s1,hs1⟩:∃ s1:ByteArray,s1=⟨(joinL l).toArray⟩:=⟨_,rfl⟩;have hsd:s1.data.toList=joinL l:=by rw [hs1]
    have hsz:s1.size=(joinL l).length:=by rw [← aI,hsd]
    rw [← hs1] at JC;rw [← hsz] at EA hJz;clear hO hA;by_cases hbig:16384<s1.size
    ·rw [if_pos hbig] at EA;replace EA:=Hy EA;have qb:decide (16384<(s1.size:Int))=true:=dT (by omega);clear hs1 hsz hsd;go_wp2_with fail;refine JC.o.mono ?_;rintro e w2 ⟨rfl,b2⟩;have B2:=Hy (aA hb.o b2);obtain ⟨w3,c,hcv,hB,b3⟩:=gI w2 s1 (by have:=hJz.o;omega);have B3:=Hy (aA B2.o b3);clear b2 b3 hB;go_wp2_with fail
     go_ret2
     exact ⟨.empty,none,0,by unfold eT;rw [EA.o];rfl,by rw [EA.o];rfl,⟨.inl rfl,rfl,by decide,by decide,fun _=>rfl⟩,B3.o⟩
    rw [if_neg hbig] at EA;replace EA:=Hy EA;have hjb:=Hy (show s1.data.toList=eT l by unfold eT;rw [EA.o,if_pos rfl,hsd]);have qb:decide (16384<(s1.size:Int))=false:=dF (by omega);clear hs1 hsz hsd;go_wp2_with fail;refine JC.o.mono ?_;rintro e w2 ⟨rfl,b2⟩;have B2:=Hy (aA hb.o b2);obtain ⟨w3,c,hcv,hB,b3⟩:=gI w2 s1 (by have:=hJz.o;omega);have B3:=Hy (aA B2.o b3);have BS:=Hy hB;clear b2 b3 hB;go_wp2_with fail
    go_ret2
    exact ⟨s1,_,c,hjb.o,by rw [EA.o];rfl,BS.o,B3.o⟩
  have e1:(xk==6)=true:=by rw [h6];rfl
  have e2:(xt.toList==[])=false:=by rw [toList_nil];exact dF ht
  rw [if_neg (fun h=>ht h.2)] at hlast;obtain ⟨L,hLq⟩:∃ L,L=l:=⟨_,rfl⟩;have hL:gN l=L:=by rw [hlast,hLq]
  have hJ:=Hy (show Lib.join (L.map so) [32]=joinL l by unfold joinL;rw [hL]);have EY:=Hy (show iB L=true→eB l=if 16384<(joinL l).length then 2 else 0 by intro h;unfold eB;rw [hL,if_pos h]);have EN:=Hy (show iB L=false→eB l=3 by intro h;unfold eB;rw [hL,if_neg (by rw [h];decide)]);have FW:=Hy (show kG L by rw [← hL];exact mW hF);have S0:=Hy (show tk.Sl w (some ⟨bk0,off0,none⟩) (p+1) cap L by rw [hLq];exact hS);clear hS hn hLq hL T hF hlast
  go_enter Tryz.func35,Tryz.ntmps35
  go_wp2_with fail;clear k0 k1 k2
  go_loopw [5,35] (fun vs vi wr => ∃ j:Nat,vi=.int .i64 (j:Nat)∧Hid (j≤p+1)∧Hid (OS wr w.heap.size vs ((L.take j).map fun x=>(⟨(so x).toArray⟩:ByteArray)))∧Hid (iB (L.take j)=true)∧Hid (Below w.heap.size w wr)) (fun _ vi _=>p+1 - (intOf vi).toNat)
  case atStart=>exact ⟨0,rfl,Hy zl,Hy (OS.nil _ _),Hy rfl,Hy (b0 w)⟩
  case round =>
   obtain ⟨j,rfl,hj,hO,hA,hb⟩:=hrel;by_cases hc:j<p+1
   ·have hln:=Hy (show j<L.length by have:=S0.o.hn;omega);obtain ⟨bk,off,hab,hC⟩:=(S0.o.keeps hb.o).hat.resolve_left (by have:=hln.o;omega);cases hab;obtain ⟨c0,c1,c2⟩:=hC j hln.o;have q2:decide ((j:Int)<(p:Int)+1)=true:=dT (by omega);have q3:j<p+1:=hc;have f4:=Hy (aS (j:=j) (by have:=FW.o.2;have:=hln.o;omega));have hmem:=tk.jl hln.o;have hxz:=FW.o.1 _ hmem;have hzs:(⟨(so (tk.gt L j)).toArray⟩:ByteArray).size≤1048576:=by
     have h1:=lM (tk.gt L j);have h2:=aI ⟨(so (tk.gt L j)).toArray⟩;have h3:(⟨(so (tk.gt L j)).toArray⟩:ByteArray).data.toList.length=(so (tk.gt L j)).length:=rfl;omega
    have SC:=Hy (fun W=>oF (tk.gt L j) hxz W);have IC:=Hy (fun W T=>kJ (tk.gt L j).k ⟨(so (tk.gt L j)).toArray⟩ hzs W T);rw [Ao] at IC;have hnx:=Hy (um hln.o hA.o);have hno:=Hy (fun h=>EN.o (Ce hln.o h));have htk:=Hy (tk.gL hln.o);have hl8:=Hy (show ((L.take j).map fun x=>(⟨(so x).toArray⟩:ByteArray)).length<5864062014805 by have:=FW.o.2;rw [List.length_map,List.length_take];omega);clear hC hmem hxz hzs;generalize tk.gt L j=x at *;obtain ⟨xk,xt,xa⟩:=x;simp only at c0 c1 c2 SC IC;have BB:=Hy (tk.Bw.new wr ⟨xk,xt,xa⟩ 119);have BW:=Hy (au hb.o (.cells #[.int .i64 xk,.string xt,.int .i64 xa] 119));have O1:=Hy (hO.o.keeps (au (b0 wr) (.cells #[.int .i64 xk,.string xt,.int .i64 xa] 119)));generalize hs1:(⟨(so ⟨xk,xt,xa⟩).toArray⟩:ByteArray)=s1 at *;replace hs1:=Hy hs1;cases hp:pr ⟨xk,xt,xa⟩
    ·rw [hp] at IC;have hE:=Hy (hno.o hp);clear hp hno hnx;go_wp2_with fail;refine (SC.o _).mono ?_;rintro e w2 ⟨rfl,b2⟩;have B2:=Hy (aA BW.o b2);have BB2:=BB.o.keeps b2;obtain ⟨d0,d1,d2⟩:=BB2;simp only at d0 d1 d2;clear b2;go_wp2_with fail;refine (IC.o _ (T0.o.stays B2.o)).mono ?_;rintro e w3 ⟨rfl,b3⟩;have B3:=Hy (aA B2.o b3);clear b3 d0 d1 d2;go_wp2_with fail
     go_ret2
     exact ⟨.empty,none,0,by unfold eT;rw [hE.o];rfl,by rw [hE.o];rfl,⟨.inl rfl,rfl,by decide,by decide,fun _=>rfl⟩,B3.o⟩
    rw [hp] at IC hnx;clear hp hno;go_wp2_with fail;refine (SC.o _).mono ?_;rintro e w2 ⟨rfl,b2⟩;have B2:=Hy (aA BW.o b2);have O2:=Hy (O1.o.keeps b2);have BB2:=BB.o.keeps b2;obtain ⟨d0,d1,d2⟩:=BB2;simp only at d0 d1 d2;clear b2;go_wp2_with fail;refine (IC.o _ (T0.o.stays B2.o)).mono ?_;rintro e w3 ⟨rfl,b3⟩;have B3:=Hy (aA B2.o b3);have O3:=Hy (O2.o.keeps b3);clear b3 d0 d1 d2;go_wp2_with (at_builtin;refine jK (.tmp 46) (.tmp 48) rfl ?_;refine eU _ rfl (.tmp 46) (.tmp 48) rfl w.heap.size _ _ rfl (O3.o.keeps (au (b0 w3) _)) w3.heap.size s1 rfl (by simp [go_sem]) hl8.o (by have:=B3.o.size;simp;omega) ?_;intro v2 w6 O6 b6);have B6:=Hy ((au B3.o (.cells #[.string s1] 9)).trans b6);have O7:=Hy (show OS w6 w.heap.size v2 ((L.take (j+1)).map fun x=>(⟨(so x).toArray⟩:ByteArray)) by rw [htk.o,List.map_append,List.map_singleton,hs1.o];exact O6);clear b6 O6;go_wp2_with fail;exact ⟨⟨j+1,by first | exact congrArg (Value.int .i64) f4.o | rfl,Hy hc,O7,hnx,B6⟩,by first | exact aN hc f4.o | exact jE hc⟩
   have q2:decide ((j:Int)<(p:Int)+1)=false:=dF (by omega);rw [show L.take j=L from List.take_of_length_le (by have:=S0.o.hn;omega)] at hO hA;have EA:=EY.o hA.o;have JC:=Hy (kE _ (L.map fun x=>(⟨(so x).toArray⟩:ByteArray)) w.heap.size wr hO.o (by rw [List.length_map];have:=FW.o.2;omega) (by rw [kR];exact iW FW.o));rw [kR,hJ.o] at JC;have hJz:=Hy (show (joinL l).length≤140737488355328 by rw [← hJ.o];exact iW FW.o);obtain ⟨s1,hs1⟩:∃ s1:ByteArray,s1=⟨(joinL l).toArray⟩:=⟨_,rfl⟩;have hsd:s1.data.toList=joinL l:=by rw [hs1]
   have hsz:s1.size=(joinL l).length:=by rw [← aI,hsd]
   rw [← hs1] at JC;rw [← hsz] at EA hJz;clear hO hA;by_cases hbig:16384<s1.size
   ·rw [if_pos hbig] at EA;replace EA:=Hy EA;have qb:decide (16384<(s1.size:Int))=true:=dT (by omega);clear hs1 hsz hsd;go_wp2_with fail;refine JC.o.mono ?_;rintro e w2 ⟨rfl,b2⟩;have B2:=Hy (aA hb.o b2);obtain ⟨w3,c,hcv,hB,b3⟩:=gI w2 s1 (by have:=hJz.o;omega);have B3:=Hy (aA B2.o b3);clear b2 b3 hB;go_wp2_with fail
    go_ret2
    exact ⟨.empty,none,0,by unfold eT;rw [EA.o];rfl,by rw [EA.o];rfl,⟨.inl rfl,rfl,by decide,by decide,fun _=>rfl⟩,B3.o⟩
   rw [if_neg hbig] at EA;replace EA:=Hy EA;have hjb:=Hy (show s1.data.toList=eT l by unfold eT;rw [EA.o,if_pos rfl,hsd]);have qb:decide (16384<(s1.size:Int))=false:=dF (by omega);clear hs1 hsz hsd;go_wp2_with fail;refine JC.o.mono ?_;rintro e w2 ⟨rfl,b2⟩;have B2:=Hy (aA hb.o b2);obtain ⟨w3,c,hcv,hB,b3⟩:=gI w2 s1 (by have:=hJz.o;omega);have B3:=Hy (aA B2.o b3);have BS:=Hy hB;clear b2 b3 hB;go_wp2_with fail
   go_ret2
   exact ⟨s1,_,c,hjb.o,by rw [EA.o];rfl,BS.o,B3.o⟩
 have e1:(xk==6)=false:=by rw [beq_eq_false_iff_ne];exact h6
 rw [if_neg (fun h=>h6 h.1)] at hlast;obtain ⟨L,hLq⟩:∃ L,L=l:=⟨_,rfl⟩;have hL:gN l=L:=by rw [hlast,hLq]
 have hJ:=Hy (show Lib.join (L.map so) [32]=joinL l by unfold joinL;rw [hL]);have EY:=Hy (show iB L=true→eB l=if 16384<(joinL l).length then 2 else 0 by intro h;unfold eB;rw [hL,if_pos h]);have EN:=Hy (show iB L=false→eB l=3 by intro h;unfold eB;rw [hL,if_neg (by rw [h];decide)]);have FW:=Hy (show kG L by rw [← hL];exact mW hF);have S0:=Hy (show tk.Sl w (some ⟨bk0,off0,none⟩) (p+1) cap L by rw [hLq];exact hS);clear hS hn hLq hL T hF hlast
 go_enter Tryz.func35,Tryz.ntmps35
 go_wp2_with fail;clear k0 k1 k2
 go_loopw [5,35] (fun vs vi wr => ∃ j:Nat,vi=.int .i64 (j:Nat)∧Hid (j≤p+1)∧Hid (OS wr w.heap.size vs ((L.take j).map fun x=>(⟨(so x).toArray⟩:ByteArray)))∧Hid (iB (L.take j)=true)∧Hid (Below w.heap.size w wr)) (fun _ vi _=>p+1 - (intOf vi).toNat)
 case atStart=>exact ⟨0,rfl,Hy zl,Hy (OS.nil _ _),Hy rfl,Hy (b0 w)⟩
 case round =>
  obtain ⟨j,rfl,hj,hO,hA,hb⟩:=hrel;by_cases hc:j<p+1
  ·have hln:=Hy (show j<L.length by have:=S0.o.hn;omega);obtain ⟨bk,off,hab,hC⟩:=(S0.o.keeps hb.o).hat.resolve_left (by have:=hln.o;omega);cases hab;obtain ⟨c0,c1,c2⟩:=hC j hln.o;have q2:decide ((j:Int)<(p:Int)+1)=true:=dT (by omega);have q3:j<p+1:=hc;have f4:=Hy (aS (j:=j) (by have:=FW.o.2;have:=hln.o;omega));have hmem:=tk.jl hln.o;have hxz:=FW.o.1 _ hmem;have hzs:(⟨(so (tk.gt L j)).toArray⟩:ByteArray).size≤1048576:=by
    have h1:=lM (tk.gt L j);have h2:=aI ⟨(so (tk.gt L j)).toArray⟩;have h3:(⟨(so (tk.gt L j)).toArray⟩:ByteArray).data.toList.length=(so (tk.gt L j)).length:=rfl;omega
   have SC:=Hy (fun W=>oF (tk.gt L j) hxz W);have IC:=Hy (fun W T=>kJ (tk.gt L j).k ⟨(so (tk.gt L j)).toArray⟩ hzs W T);rw [Ao] at IC;have hnx:=Hy (um hln.o hA.o);have hno:=Hy (fun h=>EN.o (Ce hln.o h));have htk:=Hy (tk.gL hln.o);have hl8:=Hy (show ((L.take j).map fun x=>(⟨(so x).toArray⟩:ByteArray)).length<5864062014805 by have:=FW.o.2;rw [List.length_map,List.length_take];omega);clear hC hmem hxz hzs;generalize tk.gt L j=x at *;obtain ⟨xk,xt,xa⟩:=x;simp only at c0 c1 c2 SC IC;have BB:=Hy (tk.Bw.new wr ⟨xk,xt,xa⟩ 119);have BW:=Hy (au hb.o (.cells #[.int .i64 xk,.string xt,.int .i64 xa] 119));have O1:=Hy (hO.o.keeps (au (b0 wr) (.cells #[.int .i64 xk,.string xt,.int .i64 xa] 119)));generalize hs1:(⟨(so ⟨xk,xt,xa⟩).toArray⟩:ByteArray)=s1 at *;replace hs1:=Hy hs1;cases hp:pr ⟨xk,xt,xa⟩
   ·rw [hp] at IC;have hE:=Hy (hno.o hp);clear hp hno hnx;go_wp2_with fail;refine (SC.o _).mono ?_;rintro e w2 ⟨rfl,b2⟩;have B2:=Hy (aA BW.o b2);have BB2:=BB.o.keeps b2;obtain ⟨d0,d1,d2⟩:=BB2;simp only at d0 d1 d2;clear b2;go_wp2_with fail;refine (IC.o _ (T0.o.stays B2.o)).mono ?_;rintro e w3 ⟨rfl,b3⟩;have B3:=Hy (aA B2.o b3);clear b3 d0 d1 d2;go_wp2_with fail
    go_ret2
    exact ⟨.empty,none,0,by unfold eT;rw [hE.o];rfl,by rw [hE.o];rfl,⟨.inl rfl,rfl,by decide,by decide,fun _=>rfl⟩,B3.o⟩
   rw [hp] at IC hnx;clear hp hno;go_wp2_with fail;refine (SC.o _).mono ?_;rintro e w2 ⟨rfl,b2⟩;have B2:=Hy (aA BW.o b2);have O2:=Hy (O1.o.keeps b2);have BB2:=BB.o.keeps b2;obtain ⟨d0,d1,d2⟩:=BB2;simp only at d0 d1 d2;clear b2;go_wp2_with fail;refine (IC.o _ (T0.o.stays B2.o)).mono ?_;rintro e w3 ⟨rfl,b3⟩;have B3:=Hy (aA B2.o b3);have O3:=Hy (O2.o.keeps b3);clear b3 d0 d1 d2;go_wp2_with (at_builtin;refine jK (.tmp 46) (.tmp 48) rfl ?_;refine eU _ rfl (.tmp 46) (.tmp 48) rfl w.heap.size _ _ rfl (O3.o.keeps (au (b0 w3) _)) w3.heap.size s1 rfl (by simp [go_sem]) hl8.o (by have:=B3.o.size;simp;omega) ?_;intro v2 w6 O6 b6);have B6:=Hy ((au B3.o (.cells #[.string s1] 9)).trans b6);have O7:=Hy (show OS w6 w.heap.size v2 ((L.take (j+1)).map fun x=>(⟨(so x).toArray⟩:ByteArray)) by rw [htk.o,List.map_append,List.map_singleton,hs1.o];exact O6);clear b6 O6;go_wp2_with fail;exact ⟨⟨j+1,by first | exact congrArg (Value.int .i64) f4.o | rfl,Hy hc,O7,hnx,B6⟩,by first | exact aN hc f4.o | exact jE hc⟩
  have q2:decide ((j:Int)<(p:Int)+1)=false:=dF (by omega);rw [show L.take j=L from List.take_of_length_le (by have:=S0.o.hn;omega)] at hO hA;have EA:=EY.o hA.o;have JC:=Hy (kE _ (L.map fun x=>(⟨(so x).toArray⟩:ByteArray)) w.heap.size wr hO.o (by rw [List.length_map];have:=FW.o.2;omega) (by rw [kR];exact iW FW.o));rw [kR,hJ.o] at JC;have hJz:=Hy (show (joinL l).length≤140737488355328 by rw [← hJ.o];exact iW FW.o);obtain ⟨s1,hs1⟩:∃ s1:ByteArray,s1=⟨(joinL l).toArray⟩:=⟨_,rfl⟩;have hsd:s1.data.toList=joinL l:=by rw [hs1]
  have hsz:s1.size=(joinL l).length:=by rw [← aI,hsd]
  rw [← hs1] at JC;rw [← hsz] at EA hJz;clear hO hA;by_cases hbig:16384<s1.size
  ·rw [if_pos hbig] at EA;replace EA:=Hy EA;have qb:decide (16384<(s1.size:Int))=true:=dT (by omega);clear hs1 hsz hsd;go_wp2_with fail;refine JC.o.mono ?_;rintro e w2 ⟨rfl,b2⟩;have B2:=Hy (aA hb.o b2);obtain ⟨w3,c,hcv,hB,b3⟩:=gI w2 s1 (by have:=hJz.o;omega);have B3:=Hy (aA B2.o b3);clear b2 b3 hB;go_wp2_with fail
   go_ret2
   exact ⟨.empty,none,0,by unfold eT;rw [EA.o];rfl,by rw [EA.o];rfl,⟨.inl rfl,rfl,by decide,by decide,fun _=>rfl⟩,B3.o⟩
  rw [if_neg hbig] at EA;replace EA:=Hy EA;have hjb:=Hy (show s1.data.toList=eT l by unfold eT;rw [EA.o,if_pos rfl,hsd]);have qb:decide (16384<(s1.size:Int))=false:=dF (by omega);clear hs1 hsz hsd;go_wp2_with fail;refine JC.o.mono ?_;rintro e w2 ⟨rfl,b2⟩;have B2:=Hy (aA hb.o b2);obtain ⟨w3,c,hcv,hB,b3⟩:=gI w2 s1 (by have:=hJz.o;omega);have B3:=Hy (aA B2.o b3);have BS:=Hy hB;clear b2 b3 hB;go_wp2_with fail
  go_ret2
  exact ⟨s1,_,c,hjb.o,by rw [EA.o];rfl,BS.o,B3.o⟩
end
namespace ch
open Go.RowKit dec
theorem zT {s:ByteArray} (hs:¬ 16384<s.size):cO s=(lxs 0 false s.data.toList).1++[iZ s]:=by
 unfold cO;rw [if_neg hs]
structure Got (x:Ex):Prop where
 sm:x.sm
 szs:x.szs
 sz:x.ar.sz≤3000
theorem oU:Got ⟨h0,.nil⟩:=⟨sm0 (by decide),⟨Mw,trivial⟩,Nat.zero_le _⟩
theorem FP (l:List Tk) (s:ByteArray):gN (l++[iZ s])=l:=by
 have h1:(l++[iZ s]).length - 1=l.length:=by rw [List.length_append,List.length_singleton];omega
 have h2:tk.gt (l++[iZ s]) l.length=iZ s:=by
  rw [tk.dY (by rw [List.length_append,List.length_singleton];omega)];simp
 unfold gN;rw [h1,h2,if_pos ⟨by simp,rfl,rfl⟩,List.take_left]
theorem ba_eq {s t:ByteArray} (h:s.data.toList=t.data.toList):s=t:=by rw [← om s,← om t,h]
theorem RX (s:ByteArray) (hE:gB s=0) (hB:jw s=[]) (n:Nat) (hn:(cO s).length=n) (a:Option Addr) (m c:Nat) (W:World) (hS:Bs W a m c s) (T:Tabs W) :
  Calls Tryz.prog 33 #[.slice a m c] W fun e w' => ∃ al cl ap cp,e=.returned (.tuple #[.slice al n cl,.slice ap 0 cp,.int .i64 0])∧tk.Sl w' al n cl (cO s)∧Below W.heap.size W w' :=
 (uK a m c s W hS T).mono fun e w' ⟨v,u,he,o,p,b⟩=>by
  obtain ⟨al,cl,hv,sl⟩:=o.sl
  obtain ⟨ap,cp,hu,sp⟩:=p.sl
  subst hv hu hn
  rw [hE,hB] at he
  exact ⟨al,cl,ap,cp,he,sl,b⟩
theorem Tv (l:List Tk) (b:ByteArray) (hF:kG l) (hJ:eB l=0) (hb:eT l=b.data.toList) (a:Option Addr) (m c:Nat) (W:World) (hS:tk.Sl W a m c l) (T:Tabs W) :
  Calls Tryz.prog 35 #[.slice a m c] W fun e w' => ∃ a' k c',e=.returned (.tuple #[.slice a' k c',.int .i64 0])∧Bs w' a' k c' b∧Below W.heap.size W w' :=
 (Go.Proofs.YtbahfelnbofjjaaGreatDoor.kD a m c l W hS hF T).mono fun e w' ⟨s,a',c',hs,he,hB,bb⟩=>by
  obtain rfl:s=b:=ba_eq (hs.trans hb)
  rw [hJ] at he
  exact ⟨a',_,c',he,hB,bb⟩
def pv (q:Int × ByteArray):Int:=if q.1=5 then (if q.2=⟨#[40]⟩ then 1 else if q.2=⟨#[41]⟩ then -1 else 0) else 0
def Bn (L:List Int):Prop:=L.sum=0∧∀ k,(L.drop k).sum≤0
theorem Ry:Bn []:=⟨rfl,fun k=>by simp⟩
theorem Rz {a b:List Int} (ha:Bn a) (hb:Bn b):Bn (a++b):=by
 refine ⟨by rw [List.sum_append,ha.1,hb.1];rfl,fun k=>?_⟩;rw [List.drop_append,List.sum_append];have:=ha.2 k;have:=hb.2 (k - a.length);omega
theorem OL:Bn [0]:=⟨rfl,fun k=>by
 match k with
 | 0=>decide
 | k+1=>simp⟩
theorem Rx {a:List Int} (ha:Bn a):Bn (1 :: (a++[-1])):=by
 have h1:([-1]:List Int).sum = -1:=rfl;refine ⟨by rw [List.sum_cons,List.sum_append,ha.1,h1];rfl,fun k=>?_⟩
 match k with
 | 0=>rw [List.drop_zero,List.sum_cons,List.sum_append,ha.1,h1];decide
 | k+1 =>
   rw [List.drop_succ_cons,List.drop_append,List.sum_append]
   have:=ha.2 k
   have:(([-1]:List Int).drop (k - a.length)).sum≤0:=by
     match k - a.length with
     | 0=>decide
     | m+1=>simp
   omega
def Bp (K:List Pc):Prop:=Bn (K.map fun p=>pv p.2)
theorem mO:Bp []:=Ry
theorem iF {a b:List Pc} (ha:Bp a) (hb:Bp b):Bp (a++b):=by
 unfold Bp;rw [List.map_append];exact Rz ha hb
theorem iE {p:Pc} (h:pv p.2=0):Bp [p]:=by
 unfold Bp;show Bn [pv p.2];rw [h];exact OL
theorem dn {p:Pc} {K:List Pc} (h:pv p.2=0) (hK:Bp K):Bp (p :: K):=iF (a:=[p]) (iE h) hK
theorem lJ {K:List Pc} (h:Bp K):Bp (sp K):=by cases K <;> exact h
theorem vP {p q:Pc} {K:List Pc} (hp:p.2=(5,⟨#[40]⟩)) (hq:q.2=(5,⟨#[41]⟩)) (h:Bp K):Bp (p :: (K++[q])):=by
 have e:(p :: (K++[q])).map (fun p=>pv p.2)=1 :: (K.map (fun p=>pv p.2)++[-1]):=by
  rw [List.map_cons,List.map_append,hp];show _ :: (_++[pv q.2])=_;rw [hq];rfl
 unfold Bp;rw [e];exact Rx h
theorem oN {k:Int} (h:k≠5) (s:ByteArray):pv (k,s)=0:=if_neg h
theorem jg (s:ByteArray):pv (wd s).2=0:=oN (k:=1) (by decide) s
theorem vQ (s:ByteArray):pv (bw s).2=0:=oN (k:=1) (by decide) s
theorem OJ {K:List Pc} (r q:Int) (h:Bp K):Bp (jB r q K):=by
 unfold jB;split
 ·exact vP rfl rfl h
 exact h
theorem MJ (x:un.Fa):Bp (faK x):=by
 unfold faK;refine dn (jg _) ?_;split
 ·exact mO
 refine dn (by decide) (iF ?_ (iE (oN (k:=2) (by decide) _)));split
 ·exact iE (by decide)
 exact mO
theorem Ku:∀ r:List un.Fa,Bp (r.map fun y=>sg ⟨#[42]⟩ :: faK y).flatten
 | []=>mO
 | x :: r=>by
  rw [List.map_cons,List.flatten_cons]
  exact iF (dn (by decide) (MJ x)) (Ku r)
theorem TM (u:List un.Fa):Bp (unK u):=by
 cases u with
 | nil=>exact mO
 | cons x r=>exact dn (by decide) (iF (MJ x) (iF (Ku r) (iE (by decide))))
theorem TL (k n:Int):Bp (wiK k n):=by
 unfold wiK
 repeat (first | exact dn (jg _) (iE (oN (k:=2) (by decide) _)) | exact iE (jg _) | split)
theorem AJ {i:Bool} {h:Hd} {n:Nat} {g:Hd} (N:Nod i g h n) {K:List Ok'} (hK:∀ j,j<n→Bp (okK K j)):Bp (mq h K):=by
 have hP:∀ j q,j<n→Bp (okP K j q):=fun j q hj=>OJ _ _ (hK j hj)
 cases N with
 | boo n e=>exact iE (jg _)
 | num k n u hk h0 h1 hu =>
   show Bp (liK _)
   unfold liK
   rw [if_neg (by show ¬ k=5;omega)]
   refine dn ?_ (TM u)
   rcases hk with rfl | rfl
   · exact oN (k:=2) (by decide) _
   · exact oN (k:=3) (by decide) _
 | tex s h1 h2=>exact iE (oN (k:=4) (by decide) _)
 | key m s hm h0 h1 h2=>exact dn (by decide) (dn (jg _) (iE (oN (k:=4) (by decide) _)))
 | fie m hi hm=>exact iE (jg _)
 | fea m hi hm=>exact iE (jg _)
 | loo m hi hm=>exact dn (jg _) (dn (vQ _) (vP rfl rfl (hK 0 (by omega))))
 | agg op t p wk ws hi ht hp hw hc =>
   show Bp (agK { h0 with k:=5,op:=op,tb:=t,pa:=p,wk:=wk,ws:=ws } K)
   unfold agK
   have e:∀ (A P C V:List Pc) (q:Pc),wd op :: sg ⟨#[40]⟩ :: wd t :: (A++(P++(C++(V++[q]))))=wd op :: (sg ⟨#[40]⟩ :: ((wd t :: (A++(P++(C++V))))++[q])):=fun A P C V q=>by simp
   refine (e _ _ _ _ _).symm ▸ dn (jg _) (vP rfl rfl (dn (jg _) (iF ?_ (iF ?_ (iF (dn (by decide) (lJ (TL _ _))) ?_)))))
   · split
     · exact mO
     · exact dn (by decide) (lJ (hK 0 (by omega)))
   · split
     · exact dn (by decide) (iE (oN (k:=2) (by decide) _))
     · exact mO
   · split
     · exact mO
     · exact dn (vQ _) (lJ (hK 1 (by omega)))
 | una op ho =>
   rcases ho with rfl | rfl | rfl
   · exact dn (by decide) (hP 0 8 (by omega))
   · exact dn (jg _) (lJ (hP 0 4 (by omega)))
   · exact dn (jg _) (vP rfl rfl (hK 0 (by omega)))
 | bin op ho =>
   refine iF (hP 0 _ (by omega)) (dn ?_ (lJ (hP 1 _ (by omega))))
   rcases ho with rfl | rfl | rfl | rfl | rfl | rfl | rfl | rfl | rfl | rfl <;> decide
 | iff=>exact dn (jg _) (iF (lJ (hK 0 (by omega))) (dn (vQ _) (iF (lJ (hK 1 (by omega))) (dn (vQ _) (lJ (hK 2 (by omega)))))))
 | dfl=>exact iF (hP 0 _ (by omega)) (dn (vQ _) (lJ (hP 1 _ (by omega))))
theorem vV:∀ (F:Fo) (i:Bool),fmA i F=true→∀ j,j<F.len→Bp (okK (xkF F) j)
 | .nil,_,_,_,hj=>absurd hj (Nat.not_lt_zero _)
 | .cons h ar r,i,e,0,_=>by
  obtain ⟨e1,e2,_⟩:=lU e
  exact AJ (gQ e1) (vV ar _ e2)
 | .cons h ar r,i,e,j+1,hj=>by
  obtain ⟨_,_,e3⟩:=lU e
  exact vV r i e3 j (by simpa [Fo.len] using hj)
theorem MO {i:Bool} {x:Ex} (e:fmE i x=true):Bp (xkE x):=by
 have e':(bU i x.h x.ar.len (x.ar.nth 0).h && fmA (i || decide (x.h.k=5)) x.ar)=true:=e;rw [Bool.and_eq_true] at e';exact AJ (gQ e'.1) (vV x.ar _ e'.2)
end ch
namespace pa
open Go.RowKit dec
structure Rw (T:TypeId) (k:Nat) (w:World) (base:Nat) (v:Value) (cs:List (List Value)):Prop where
 own:w.ownsRow base T k v cs.length cs.flatten
 len:∀ c ∈ cs,c.length=k
 one:∀ c ∈ cs,∀ u ∈ c,u.oneCell'=true
theorem Rw.nil (T:TypeId) (k:Nat) (w:World) (base:Nat):Rw T k w base (.slice none 0 0) []:=⟨World.ownsRow_nil _ _ _ _,fun _ h=>(by cases h),fun _ h=>(by cases h)⟩
theorem Rw.keeps {T:TypeId} {k base:Nat} {w w':World} {v:Value} {cs:List (List Value)} (h:Rw T k w base v cs) (hb:Below w.heap.size w w'):Rw T k w' base v cs:=by
 refine ⟨?_,h.len,h.one⟩;obtain ⟨h1,h2⟩:=h.own;refine ⟨h1,?_⟩;rcases h2 with h0 | ⟨g,cap,cur,e,hbg,hh,r⟩
 ·exact .inl h0
 refine .inr ⟨g,cap,cur,e,hbg,?_,r⟩;have:g<w.heap.size:=by
  rcases Nat.lt_or_ge g w.heap.size with h' | h'
  ·exact h'
  rw [Array.getElem?_eq_none h'] at hh;cases hh
 rw [hb.block _ this];exact hh
theorem Oj {ST:TypeId} {w:World} {ops:Array Oper} {rest:List Oper} {o:Oper} {a:Act} {Q:Exit→Act→World→Prop} (s x:Operand) (_:o.op=.call { callee:=.builtin .append,args:=#[s,x],argTypes:=#[ST,ST] })
  (k:wpList Tryz.prog ops Q (o :: rest) a w):wpList Tryz.prog ops Q (o :: rest) a w:=k
def Each {α:Type} (Q:World→List Value→α→Prop) (w:World) (cs:List (List Value)) (l:List α):Prop:=cs.length=l.length∧∀ j (h1:j<cs.length) (h2:j<l.length),Q w cs[j] l[j]
theorem Ms:(Tryz.prog.info? 48).map (·.size)=some 4:=by kernel_rfl
def spl (cs:Array Value):Nat→List Value→Array Value
 | _,[]=>cs
 | o,v :: r=>spl (cs.setIfInBounds o v) (o+1) r
theorem Blk.setCells {g:Nat} {T:TypeId} : ∀ (vs:List Value) (o:Nat) (w:World) (cs:Array Value),Blk w g T cs→Blk (w.setCells g o vs) g T (spl cs o vs)∧St g w (w.setCells g o vs)
 | [],_,_,_,h=>⟨h,rfl,rfl,rfl,rfl,fun _ _=>rfl⟩
 | v :: r,o,w,cs,h=>by
  have h1:=h.setCell o v
  have h2:=Blk.setCells r (o+1) _ _ h1.1
  exact ⟨h2.1,St.trans h1.2 h2.2⟩
def dL:List Value→Nat→List Value→List Value
 | cs,_,[]=>cs
 | [],_,_=>[]
 | _ :: cs,0,v :: vs=>v :: dL cs 0 vs
 | c :: cs,o+1,v :: vs=>c :: dL cs o (v :: vs)
theorem fH (cs:List Value) (o:Nat):dL cs o []=cs:=by cases cs <;> rfl
theorem iN:∀ (cs:List Value) (o:Nat) (v:Value) (r:List Value),dL cs o (v :: r)=dL (cs.set o v) (o+1) r
 | [],o,v,r=>by cases r <;> rfl
 | c :: cs,0,v,[]=>by simp [dL,fH]
 | c :: cs,0,v,u :: r=>by simp [dL]
 | c :: cs,o+1,v,[]=>by
  have:=iN cs o v []
  rw [fH] at this
  simp [dL,fH,this]
 | c :: cs,o+1,v,u :: r=>by
  have:=iN cs o v (u :: r)
  simp [dL,this]
theorem oD:∀ (vs:List Value) (cs:Array Value) (o:Nat),spl cs o vs=(dL cs.toList o vs).toArray
 | [],cs,o=>by simp [spl,fH]
 | v :: r,cs,o=>by
  unfold spl
  rw [oD r,iN]
  simp
theorem Tt:Tryz.prog.underlying 166=some (.map 9 124):=by kernel_rfl
def fnT (B:Nat):Value:=.func (.func 134) #[.pointer (some ⟨B,0,none⟩)] #[]
def fnF (B:Nat):Value:=.func (.func 135) #[.pointer (some ⟨B,0,none⟩)] #[]
def dI (n:Int):DataW Unit:=.lit (.int .i64 n)
open Classical in
noncomputable def fnE (B:Nat) (v:Value):Option (DataW Unit × List MemPlace) :=
 if v=.nilFunc then some (dI 0,[]) else if v=fnT B then some (dI 1,[]) else if v=fnF B then some (dI 2,[]) else none
theorem aG {B b n:Nat} {D:DataW Unit} {w:World} {ops:Array Oper} {rest:List Oper} {o:Oper} {a:Act} {Q:Exit→Act→World→Prop} (hg:o.guard=none) (m x v:Operand) (hop:o.op=.insert 166 m x v)
    (hm:a.eval m=.map (some b)) (h:w.ownsMap Tryz.prog 9 (fnE B) b n D) (hn:n<maxLen) (s:ByteArray) (val:Value) (hx:a.eval x=.string s) (hs:s.size≤maxLen) (hv:a.eval v=val) (d:DataW Unit) (hval:fnE B val=some (d,[]))
    (hK:∀ w',w'.ownsMap Tryz.prog 9 (fnE B) b (n+1) (D.put (un.kS s) d)→w.grownBy w' (some b)→wpList Tryz.prog ops Q rest (a.put o.dst undef) w'):wpList Tryz.prog ops Q (o :: rest) a w:=by
 refine wpList_plain hg fun K' hK' => ?_;obtain ⟨w',hrun,r1,r2⟩:=h.update un.K9 Tt hn (un.vE hs) hval;unfold Oper.wp;simp [execOp,hop,hm,hx,hv,hrun,Result.andThen];exact hK' _ _ (hK w' r1 r2)
end pa
namespace pb
open Go.RowKit Go.Sort Go.Lib dec
def cP (a b:Pb):Int:=Lib.compareInt a.1 b.1
theorem LP (x y:Pb) (W:World) :
    Calls Tryz.prog 82 #[.agg #[.int .i64 x.1,.int .i64 x.2],.agg #[.int .i64 y.1,.int .i64 y.2]] W fun e w' => e=.returned (.int .i64 (cP x y))∧∃ q os',w'=grow (W.drewN q) os':=by
 have hcon:=Hy (fun W' => Tryz.cmp_Compare_int x.1 y.1 W');have hW:=un.Mx W (.cells #[.int .i64 x.1,.int .i64 x.2] 122) (.cells #[.int .i64 y.1,.int .i64 y.2] 122);unfold cP;generalize Lib.compareInt x.1 y.1=r at hcon ⊢
 go_enter Tryz.func82,Tryz.ntmps82
 go_wp2_with fail;refine (hcon.o _).mono ?_;rintro e w' ⟨rfl,rfl⟩;go_wp2_with fail;go_ret;obtain ⟨os,ho⟩:=hW;exact ⟨rfl,0,os,ho⟩
def enP (x:Pb):List Value:=[.int .i64 x.1,.int .i64 x.2]
theorem vg (x y:Pb):ltOf cP x y=decide (x.1<y.1):=by
 show decide (cP x y<0)=_;unfold cP Lib.compareInt;by_cases h:x.1<y.1
 ·simp [h]
 by_cases h2:y.1<x.1 <;> simp [h,h2]
theorem Ni:SWO (ltOf cP) where
 irrefl x:=by rw [vg];simp
 trans x y z h1 h2:=by rw [vg] at *;simp at *;omega
 ntrans x y z h1 h2:=by rw [vg] at *;simp at *;omega
def pE (l:List Pb):Prop:=l.Pairwise fun x y=>x.1≤y.1
theorem nC (blk off size:Nat) (w:World):CmpLays Tryz.prog 82 #[] enP 2 cP blk off size w:=by
 intro m os dk _ x y;exact LP x y _
theorem mH {w:World} {g:Nat} {l:List Pb} (h:Cl w g 0 l) (hf:∀ j,w.frozen? ⟨g,j,none⟩=false):HoldsK enP 2 w g 0 l.toArray:=by
 intro j hj;have hj':j<l.length * 2:=by simpa using hj
 have hd:j / 2<l.length:=by omega
 obtain ⟨c0,c1⟩:=h (j / 2) hd;rw [get_flatK enP 2 _ _ (by simpa using hj')];have e1:l.toArray[j / 2]! = gt l (j / 2):=by
  rw [dY hd];simp [hd]
 rw [e1];rcases Nat.mod_two_eq_zero_or_one j with hm | hm
 ·have:0+j / 2 * 2=0+j:=by omega
  rw [this] at c0;rw [hm];exact ⟨c0,hf _⟩
 have:0+j / 2 * 2+1=0+j:=by omega
 rw [this] at c1;rw [hm];exact ⟨c1,hf _⟩
theorem ug {w:World} {g:Nat} {d:Array Pb} (h:HoldsK enP 2 w g 0 d):Cl w g 0 d.toList:=by
 intro j hj;have hj':j<d.size:=by simpa using hj
 have e1:d[j]! = gt d.toList j:=by
  rw [dY hj];simp [hj']
 have h0:=(h.cell (c:=0) hj' (by decide)).1;have h1:=(h.cell (c:=1) hj' (by decide)).1;rw [e1] at h0 h1;exact ⟨h0,h1⟩
theorem zZ (base:Nat) (v:Value) (l:List Pb) (w:World) (hO:Own w base v l) (hn:l.length<5864062014805) :
    Calls Tryz.prog 81 #[v,.func (.func 82) #[] #[]] w fun e w' => e=.returned (.tuple #[])∧∃ a cap s,v=.slice a l.length cap∧s.Perm l∧pE s∧Sl w' a l.length cap s∧w.grownBy w' v.ownBlock∧(∀ x,v.ownBlock=some x→Tg w x 122∧base≤x):=by
 rcases hO.2 with ⟨rfl,h0⟩ | ⟨g,cap,cur,rfl,hbg,hh,hc,hm,hsz0,_⟩
 ·obtain rfl:l=[]:=List.eq_nil_of_length_eq_zero h0;have hS:=AnyF.slices_SortFunc_none (P:=Tryz.prog) (ρ:=Tryz.sortPr_ren) { Tryz.sortPr with } none 0 (.func (.func 82) #[] #[]) w;refine (show Calls Tryz.prog 81 _ _ _ from hS).mono ?_;rintro e w' ⟨rfl,rfl⟩;exact ⟨rfl,none,0,[],rfl,List.Perm.refl _,by simp [pE],.nil _,⟨rfl,rfl,rfl,Nat.le_refl _,fun _ _ _=>rfl⟩,fun x h=>by cases h⟩
 have eg:∀ args w,(callFunc 82 args).run Tryz.prog w=.ok (.enter 82 args) w:=enters_of Tryz.func82 (by kernel_rfl) rfl;have hg:g<w.heap.size:=xO hh;have hF:∀ j,w.frozen? ⟨g,j,none⟩=false:=fun j=>by simp [World.frozen?,hh]
 have hC:Cl w g 0 l:=fun j hj=>by
  rw [Nat.zero_add,hO.cellAt (j * 2) (by omega),hO.cellAt (j * 2+1) (by omega)];exact jq l j hj
 have hcon:=AnyQ.slices_SortFunc Tryz.sortPr 2 Tryz.isAgg122 Tryz.sizeOf122 enP (fun _=>rfl) (fun x v hv=>by simp [enP] at hv;rcases hv with rfl | rfl <;> rfl) cP Ni 82 #[] g 0 cap l.toArray w eg (nC g 0 _ w) (mH hC hF) hg (by simp;omega);simp only [List.size_toArray] at hcon;refine (show Calls Tryz.prog 81 _ _ _ from hcon).mono ?_;rintro e w' ⟨rfl,d',n,os,hp,hs,rfl⟩;have hsz:d'.size=l.length:=by have:=hp.1;simpa using this
 have hpl:d'.toList.Perm l:=by
  have:=hp.2.2;simp only [← hsz,Array.extract_size] at this;simpa [hsz] using this
 have hH:HoldsK enP 2 (sortWorldK enP 2 w g 0 n d' os) g 0 d':=holdsK_grow enP 2 _ os g 0 d' (by unfold putRowK;simpa using hg) (holdsK_putRowK enP 2 (Sort.ahead w n) g 0 l.toArray d' (holdsK_ahead enP 2 w n g 0 _ (mH hC hF)) (by simpa using hsz));refine ⟨rfl,_,cap,d'.toList,rfl,hpl,?_,⟨.inr ⟨g,0,rfl,ug hH⟩,by simpa using hsz,hc,by unfold maxLen at hm;omega,fun h=>by cases h⟩,un.sF _,fun x h=>by cases h;exact ⟨⟨_,_,hh⟩,hbg⟩⟩;unfold pE;rw [List.pairwise_iff_getElem];intro i j hi hj hij;have h1:=hs i j zl hij (by rw [← hsz];simpa using hj);rw [vg] at h1;simp at hi hj;simp [hi,hj] at h1;simpa using h1
end pb
namespace pa
open Go.RowKit dec
theorem Rj {l r:List Tk} {a c:Int} (h:exR l=.no a c r):c≠0:=by
 have hs:=PW l;rw [h] at hs;exact hs.1
theorem OA {l r:List Tk} {a c:Int} (h:ny l=.no a c r):c≠0:=by
 unfold ny at h;split at h
 ·cases h
 cases h;decide
theorem RF {α:Type} {one:List Tk→Rs α} (h1:∀ {l r a c},one l=.no a c r→c≠0) {l r:List Tk} {a c:Int} (h:jh one l=.no a c r):c≠0:=by
 unfold jh at h
 cases h2:one l with
 | out=>rw [h2] at h;cases h
 | ok v q =>
   rw [h2] at h
   cases h3:ny q with
   | out=>exact absurd h3 (rU q)
   | ok u q2 =>
     simp only [Rs.bind,h3] at h
     cases h
   | no a' c' q2 =>
     simp only [Rs.bind,h3] at h
     cases h
     exact OA h3
 | no a' c' q =>
   rw [h2] at h
   cases h
   exact h1 h2
end pa
end Go.Proofs.YtbahfelnbofjjaaGreatDoor
