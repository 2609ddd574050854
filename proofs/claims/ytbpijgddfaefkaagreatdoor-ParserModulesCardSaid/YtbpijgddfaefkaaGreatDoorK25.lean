/-
  The reference: what begins at an offset; The reference's Tokens; The reference's reader: where it starts; The reference: keywords; The reference: names; LexerWords: the walk; The reference's reader: sees, fail, found, need, take; The reference's reader: need, name, number, factors.
-/
import Derived.Test.YtbpijgddfaefkaaGreatDoorK24
set_option maxRecDepth 100000
set_option maxHeartbeats 16000000
namespace Go.Proofs.YtbpijgddfaefkaaGreatDoor
section
open Go.RowKit dec
theorem GH (s:ByteArray) {i:Nat} (hi:i<s.size) (h1:isL s[i]=false) (h2:isD s[i]=false) (h3:s[i].toNat≠34):shp (s.data.toList.drop i)=sgn (s.data.toList.drop i):=by
 rw [cO s hi,bA,h1,h2];simp only [Bool.false_eq_true,if_false];rw [if_neg fun h=>h3 h.1]
theorem xK (l:List UInt8) (h:l≠[]):sgn l=(0,1)∨sgn l=(5,1)∨sgn l=(5,2):=by
 cases l with
 | nil=>exact absurd rfl h
 | cons c r =>
   rw [dJ]
   split
   · simp
   · split <;> simp
theorem Br (s:ByteArray) {i:Nat} (hi:i<s.size):s.data.toList.drop i≠[]:=by
 rw [cO s hi];simp
theorem BO (s:ByteArray) {i:Nat} (hi:i<s.size) (h:isL s[i]=true):∃ n,wdN (s.data.toList.drop i)=n∧1≤n∧i+n≤s.size∧shp (s.data.toList.drop i)=(1,n):=by
 refine ⟨_,rfl,?_⟩;have h1:wdN (s.data.toList.drop i)=run isW (s.data.toList.drop i):=by
  rw [tO s hi,if_pos h,gU isW s hi,if_pos (pY h)]
 have h2:shp (s.data.toList.drop i)=(1,run isW (s.data.toList.drop i)):=by
  conv=>lhs;rw [cO s hi,bA,h]
  simp only [if_true];rw [← cO s hi]
 rw [h1];exact ⟨by rw [gU isW s hi,if_pos (pY h)];omega,eB isW s (Nat.le_of_lt hi),h2⟩
theorem Cn (a0:Option Addr) (n0 cap:Nat) (s:ByteArray) (hs:s.size≤1048576) (i:Nat) (hi:i<s.size) (w:World) (hS:Bs w a0 n0 cap s) :
    Calls Tryz.prog 81 #[.slice a0 n0 cap,.int .i64 (i:Nat)] w fun e w' => TkA w w' e (s.data.toList.drop i) i:=by
 have hn0:=hS.hn;subst hn0;have Z0:=Hy hs;obtain ⟨b,off,rfl,_⟩:=hS.at hi;have B0:=Hy (aj (b0 w) (.cells #[.int .i64 0,.string ⟨#[]⟩,.int .i64 0] 69));have S0:=Hy (hS.keeps B0.o);have V0:=tk.Ww.new w ⟨0,⟨#[]⟩,0⟩ 69;obtain ⟨⟨c0,c1,c2⟩,g0,g1,g2⟩:=id V0;replace V0:=Hy V0;have WC:=lF (some ⟨b,off,none⟩) s.size cap s hs i hi _ S0.o;clear hS;by_cases hl:isL s[i]=true
 ·obtain ⟨n,hw,n1,n2,hsh⟩:=BO s hi hl;rw [hw] at WC;replace WC:=Hy WC;have hlen:((s.data.toList.drop i).take n).length=n:=by rw [List.length_take,List.length_drop,aM];omega
  have hfl:=uJ ((s.data.toList.drop i).take n);rw [hlen] at hfl;replace hsh:=Hy hsh;clear hw hl hlen;by_cases h24:24<n
  ·have q1:decide (24<(n:Int))=true:=dT (by omega);have q1':decide (24<n)=true:=dT h24;rw [if_pos h24] at hfl;replace hfl:=Hy hfl;clear h24 V0
   go_enter Tryz.func81,Tryz.ntmps81
   go_wp2_with fail;refine WC.o.mono ?_;rintro e w1 ⟨rfl,rfl⟩;go_wp2_with fail;simp [bodyPost,results,Tryz.results81,go_sem];exact TkA.mk (m:=n) hsh.o (by rw [if_neg (by decide)]) hfl.o ⟨0,⟨#[]⟩,0⟩ rfl (fun h=>by cases h) (aj (b0 w) _)
  have q1:decide (24<(n:Int))=false:=dF (by omega);have q1':decide (24<n)=false:=dF h24;have q2:decide (0<(n:Int))=true:=dT (by omega);have q2':decide (0<n)=true:=dT (by omega);rw [if_neg h24] at hfl;replace hfl:=Hy hfl;obtain ⟨a2,c3,SL0,hcut⟩:=S0.o.cut (i:=i) (m:=n) n2;have het:=eU s i n;have SL:∀ W,(Instr.slice 22 (.slice (some ⟨b,off,none⟩) s.size cap) (some (.int .i64 (i:Nat))) (some (.int .i64 ((i:Int)+(n:Int)))) none).run Tryz.prog W=.ok (.slice a2 n c3) W:=SL0;have CV:=hcut.str;obtain ⟨t,ht⟩:∃ t,s.extract i (i+n)=t:=⟨_,rfl⟩;rw [ht] at CV het;have hcx:=Hy (show (⟨(cont 1 ((s.data.toList.drop i).take n)).toArray⟩:ByteArray)=t by rw [lN (by decide),← het]);have f1:wrap64 ((i:Int)+(n:Int))=(i:Int)+(n:Int):=by have:=Z0.o;unfold wrap64;omega
  clear h24 V0 SL0 het hcut ht
  go_enter Tryz.func81,Tryz.ntmps81
  go_wp2_with fail;refine WC.o.mono ?_;rintro e w1 ⟨rfl,rfl⟩;go_wp2_with fail;simp [bodyPost,results,Tryz.results81,go_sem];exact TkA.mk (m:=n) hsh.o (by rw [if_neg (by decide)]) hfl.o ⟨1,t,(i:Nat)⟩ rfl (fun _=>by rw [hcx.o]) (aj (b0 w) _)
 rw [Bool.not_eq_true] at hl;have hw:wdN (s.data.toList.drop i)=0:=by rw [tO s hi,hl];rfl
 rw [hw] at WC;replace WC:Hid (Calls Tryz.prog 136 #[.slice (some ⟨b,off,none⟩) s.size cap,.int .i64 (i:Nat)] (w.alloc (.cells #[.int .i64 0,.string ⟨#[]⟩,.int .i64 0] 69)) (fun e w' => e=.returned (.int .i64 0)∧w'=w.alloc (.cells #[.int .i64 0,.string ⟨#[]⟩,.int .i64 0] 69))):=Hy WC;obtain ⟨b',off',hab,hB⟩:=S0.o.at hi;cases hab;have DC:=Hy (nD s[i] (w.alloc (.cells #[.int .i64 0,.string ⟨#[]⟩,.int .i64 0] 69)));clear hw;by_cases hd:isD s[i]=true
 ·have NC:=zk (some ⟨b,off,none⟩) s.size cap s hs i hi hd _ S0.o;rw [hd] at DC;unfold TkA at NC ⊢;replace NC:=Hy NC;generalize ((if (shp (s.data.toList.drop i)).1=0 then 0 else (shp (s.data.toList.drop i)).2:Nat):Int)=N at *;generalize flt (shp (s.data.toList.drop i)).1 ((s.data.toList.drop i).take (shp (s.data.toList.drop i)).2)=c at *;clear hl hd;generalize ((s[i].toNat:Nat):Int)=y at *
  go_enter Tryz.func81,Tryz.ntmps81
  go_wp2_with fail;refine WC.o.mono ?_;rintro e w1 ⟨rfl,rfl⟩;go_wp2_with fail;refine DC.o.mono ?_;rintro e w1 ⟨rfl,rfl⟩;go_wp2_with fail;refine NC.o.mono ?_;rintro e w1 ⟨x,rfl,hx,hb⟩;have V1:=V0.o.keeps hb;have B1:=Hy (aD B0.o hb);clear c0 c1 c2 g0 g1 g2 hb V0 hB;obtain ⟨⟨c0,c1,c2⟩,g0,g1,g2⟩:=id V1;go_wp2_with fail;obtain ⟨r0,r1,r2⟩:=V1.val.put x;simp [bodyPost,results,Tryz.results81,go_sem,r0,r1,r2];exact ⟨x,⟨rfl,rfl,rfl⟩,hx,tk.vC B1.o lr _ _ _⟩
 rw [Bool.not_eq_true] at hd;rw [hd] at DC;by_cases h34:s[i].toNat=34
 ·have NC:=zf (some ⟨b,off,none⟩) s.size cap s hs i hi h34 _ S0.o;rw [h34] at DC hB;unfold TkA at NC ⊢;replace NC:=Hy NC;generalize ((if (shp (s.data.toList.drop i)).1=0 then 0 else (shp (s.data.toList.drop i)).2:Nat):Int)=N at *;generalize flt (shp (s.data.toList.drop i)).1 ((s.data.toList.drop i).take (shp (s.data.toList.drop i)).2)=c at *;clear hl hd h34
  go_enter Tryz.func81,Tryz.ntmps81
  go_wp2_with fail;refine WC.o.mono ?_;rintro e w1 ⟨rfl,rfl⟩;go_wp2_with fail;refine DC.o.mono ?_;rintro e w1 ⟨rfl,rfl⟩;go_wp2_with fail;refine NC.o.mono ?_;rintro e w1 ⟨x,rfl,hx,hb⟩;have V1:=V0.o.keeps hb;have B1:=Hy (aD B0.o hb);clear c0 c1 c2 g0 g1 g2 hb V0 hB;obtain ⟨⟨c0,c1,c2⟩,g0,g1,g2⟩:=id V1;go_wp2_with fail;obtain ⟨r0,r1,r2⟩:=V1.val.put x;simp [bodyPost,results,Tryz.results81,go_sem,r0,r1,r2];exact ⟨x,⟨rfl,rfl,rfl⟩,hx,tk.vC B1.o lr _ _ _⟩
 have hsh:=GH s hi hl hd h34;have SC:=Ew (some ⟨b,off,none⟩) s.size cap s hs i hi _ S0.o;have e34:(((s[i].toNat:Nat):Int)==34)=false:=by rw [beq_eq_false_iff_ne];omega
 have hle:=Ej (s.data.toList.drop i);rw [List.length_drop,aM] at hle;clear hl hd h34 V0;generalize ((s[i].toNat:Nat):Int)=y at *;unfold sgN at SC;rcases xK _ (Br s hi) with h | h
 ·rw [h] at hsh SC;replace SC:Hid (Calls Tryz.prog 140 #[.slice (some ⟨b,off,none⟩) s.size cap,.int .i64 (i:Nat)] (w.alloc (.cells #[.int .i64 0,.string ⟨#[]⟩,.int .i64 0] 69)) (fun e w' => e=.returned (.int .i64 0)∧w'=w.alloc (.cells #[.int .i64 0,.string ⟨#[]⟩,.int .i64 0] 69))):=Hy SC;replace hsh:=Hy hsh;clear h hle
  go_enter Tryz.func81,Tryz.ntmps81
  go_wp2_with fail;refine WC.o.mono ?_;rintro e w1 ⟨rfl,rfl⟩;go_wp2_with fail;refine DC.o.mono ?_;rintro e w1 ⟨rfl,rfl⟩;go_wp2_with fail;refine SC.o.mono ?_;rintro e w1 ⟨rfl,rfl⟩;go_wp2_with fail;simp [bodyPost,results,Tryz.results81,go_sem];exact TkA.mk (m:=0) hsh.o (by rw [if_pos rfl]) (lg _) ⟨0,⟨#[]⟩,0⟩ rfl (fun h=>by cases h) (aj (b0 w) _)
 obtain ⟨n,hn,h1⟩:∃ n:Nat,(n=1∨n=2)∧sgn (s.data.toList.drop i)=(5,n):=by
  rcases h with h | h
  ·exact ⟨1,.inl rfl,h⟩
  exact ⟨2,.inr rfl,h⟩
 rw [h1] at hsh SC hle;replace SC:Hid (Calls Tryz.prog 140 #[.slice (some ⟨b,off,none⟩) s.size cap,.int .i64 (i:Nat)] (w.alloc (.cells #[.int .i64 0,.string ⟨#[]⟩,.int .i64 0] 69)) (fun e w' => e=.returned (.int .i64 (n:Nat))∧w'=w.alloc (.cells #[.int .i64 0,.string ⟨#[]⟩,.int .i64 0] 69))):=Hy SC;replace hsh:=Hy hsh;obtain ⟨a2,c3,SL0,hcut⟩:=S0.o.cut (i:=i) (m:=n) (by simp only at hle;omega);have het:=eU s i n;have SL:∀ W,(Instr.slice 22 (.slice (some ⟨b,off,none⟩) s.size cap) (some (.int .i64 (i:Nat))) (some (.int .i64 ((i:Int)+(n:Int)))) none).run Tryz.prog W=.ok (.slice a2 n c3) W:=SL0;have CV:=hcut.str;obtain ⟨t,ht⟩:∃ t,s.extract i (i+n)=t:=⟨_,rfl⟩;rw [ht] at CV het;have hcx:=Hy (show (⟨(cont 5 ((s.data.toList.drop i).take n)).toArray⟩:ByteArray)=t by rw [lN (by decide),← het]);have f1:wrap64 ((i:Int)+(n:Int))=(i:Int)+(n:Int):=by have:=Z0.o;unfold wrap64;omega
 have q1:((n:Int)==0)=false:=by rw [beq_eq_false_iff_ne];clear f1;omega
 clear SL0 het hcut ht h h1 hn hle
 go_enter Tryz.func81,Tryz.ntmps81
 go_wp2_with fail;refine WC.o.mono ?_;rintro e w1 ⟨rfl,rfl⟩;go_wp2_with fail;refine DC.o.mono ?_;rintro e w1 ⟨rfl,rfl⟩;go_wp2_with fail;refine SC.o.mono ?_;rintro e w1 ⟨rfl,rfl⟩;go_wp2_with fail;simp [bodyPost,results,Tryz.results81,go_sem];exact TkA.mk (m:=n) hsh.o (by rw [if_neg (by decide)]) (Iq _) ⟨5,t,(i:Nat)⟩ rfl (fun _=>by rw [hcx.o]) (aj (b0 w) _)
theorem Qj {x n:Nat} (t:Nat) (h:1≤n):x<x+n+t:=by omega
theorem wrap_add {x n m:Nat} (h:x+n≤m) (hm:m≤1048576):wrap64 ((x:Int)+(n:Int))=(x:Int)+(n:Int):=by unfold wrap64;omega
theorem H8 {N n:Nat} {k:Int} (hN:N=if k=0 then 0 else n) (hn:1≤n) (hk:k=0→n=1):max N 1=n∧(if (N:Int)<1 then (1:Int) else (N:Int))=(n:Int)∧(if (1:Int)<(N:Int) then (N:Int) else (1:Int))=(n:Int)∧max (N:Int) 1=(n:Int)∧max 1 (N:Int)=(n:Int):=by
 by_cases h:k=0
 ·rw [if_pos h] at hN;rw [hN,hk h];decide
 rw [if_neg h] at hN;subst hN;refine ⟨by omega,?_,?_,by omega,by omega⟩ <;> split <;> omega
theorem LI.low {s:ByteArray} {a:Nat} {fe:Int} {ts:List Tk} {bs:List Pb} (h:LI s a fe ts bs):fe≤(a:Int):=by
 obtain ⟨p,f,h1,_,h3,_⟩:=h;omega
theorem GJ {l:List UInt8} (h:(sgn l).1=0) (h0:l≠[]):(sgn l).2=1:=by
 rcases xK l h0 with e | e | e
 ·rw [e]
 ·rw [e] at h;cases h
 rw [e] at h;cases h
theorem GA {l:List UInt8} {n:Nat} (h:shp l=(0,n)) (h0:l≠[]):n=1:=by
 cases l with
 | nil=>exact absurd rfl h0
 | cons c r =>
   rw [bA] at h
   split at h
   · cases h
   · split at h
     · split at h <;> cases h
     · split at h
       · cases h
       · have:=GJ (l:=c :: r) (by rw [h]) h0
         rw [h] at this
         exact this
theorem LI.bad {s:ByteArray} {a y:Nat} {fe:Int} {ts:List Tk} {bs:List Pb} {k:Int} {n m N:Nat} {c:Int} (hc:c≠0) (hN:N=if k=0 then 0 else n) (hn:1≤n)
    (s2:c≠0→k=0→(a:Int)=fe→LI s y ((a+n:Nat):Int) ts bs)
    (s3:c≠0→¬ (k=0∧(a:Int)=fe)→m<32→LI s y (if k=0 then ((a+n:Nat):Int) else fe) ts (bs++[(((a:Nat):Int),c)]))
    (s4:c≠0→¬ (k=0∧(a:Int)=fe)→¬ m<32→LI s y (if k=0 then ((a+n:Nat):Int) else fe) ts bs)
    {b1 b2 f:Bool} (h1:decide (0<N)=b1) (h2:decide (m<32)=b2) (hf:f=decide ((a:Int)=fe)) :
    LI s y (if k=0 then ((a+n:Nat):Int) else fe) ts (if ((b1 || !f) && b2)=true then bs++[(((a:Nat):Int),c)] else bs):=by
 by_cases hk:k=0
 ·rw [if_pos hk] at hN;subst hN;by_cases hx:(a:Int)=fe
  ·have h0:((b1 || !f) && b2)=false:=by rw [← h1,hf,dT hx];rfl
   rw [h0,if_pos hk];exact s2 hc hk hx
  have h0:((b1 || !f) && b2)=b2:=by rw [← h1,hf,dF hx];rfl
  rw [h0,← h2];by_cases hb:m<32
  ·rw [dT hb,if_pos rfl];exact s3 hc (fun h=>hx h.2) (by omega)
  rw [dF hb,if_neg (show ¬ (false=true) by decide)];exact s4 hc (fun h=>hx h.2) (by omega)
 rw [if_neg hk] at hN;have h0:((b1 || !f) && b2)=b2:=by rw [← h1,dT (by omega)];rfl
 rw [h0,← h2];by_cases hb:m<32
 ·rw [dT hb,if_pos rfl];exact s3 hc (fun h=>hk h.1) (by omega)
 rw [dF hb,if_neg (show ¬ (false=true) by decide)];exact s4 hc (fun h=>hk h.1) (by omega)
theorem yJ {x y:Nat} {fe k:Int} {n N:Nat} (hlow:fe≤(x:Int)) (hN:N=if k=0 then 0 else n) (hn:1≤n) (hy:x<y):(((N:Int)==0) && ((y:Int)==(x:Int)+(n:Int)))=decide ((y:Int)=if k=0 then ((x+n:Nat):Int) else fe):=by
 rw [eqb,eqb];by_cases hk:k=0
 ·rw [if_pos hk] at hN;rw [if_pos hk,hN,Int.natCast_add];simp
 rw [if_neg hk] at hN;rw [if_neg hk,dF (show ¬ (N:Int)=0 by omega),dF (show ¬ (y:Int)=fe by omega)];rfl
theorem Qe (w:World) (o:Obj) (x:Tk) (T:TypeId):tk.Bw ((w.alloc o).alloc (.cells #[.int .i64 x.k,.string x.t,.int .i64 x.a] T)) (w.heap.size+1) x:=⟨by simp [go_sem],by simp [go_sem],by simp [go_sem]⟩
theorem Jg (w:World) (o:Obj) (x:Pb) (T:TypeId):pb.Bw ((w.alloc o).alloc (.cells #[.int .i64 x.1,.int .i64 x.2] T)) (w.heap.size+1) x:=⟨by simp [go_sem],by simp [go_sem]⟩
theorem za (a0:Option Addr) (n0 cap:Nat) (s:ByteArray) (w:World) (hS:Bs w a0 n0 cap s) :
    Calls Tryz.prog 32 #[.slice a0 n0 cap] w fun e w' => TR w w' e s:=by
 have hn0:=hS.hn;subst hn0;by_cases hbig:16384<s.size
 ·have q1:decide (16384<(s.size:Int))=true:=dT (by omega);have q1':decide (16384<s.size)=true:=dT hbig;have hE:=Hy (show dR s=2∧aW s=[]∧dn s=[] by unfold dR aW dn;rw [if_pos (by omega),if_pos (by omega),if_pos (by omega)];exact ⟨rfl,rfl,rfl⟩);clear hS
  go_enter Tryz.func32,Tryz.ntmps32
  go_wp2_with fail;go_ret3;exact ⟨.slice none 0 0,.slice none 0 0,by rw [hE.o.1];rfl,by rw [hE.o.2.1];exact tk.Own.nil _ _,by rw [hE.o.2.2];exact pb.Own.nil _ _,b0 w⟩
 have q1:decide (16384<(s.size:Int))=false:=dF (by omega);have q1':decide (16384<s.size)=false:=dF hbig;have hE:=Hy (show dR s=0∧aW s=(lxs 0 false s.data.toList).1++[lS s]∧dn s=(lxs 0 false s.data.toList).2.take 32 by unfold dR aW dn;rw [if_neg (by omega),if_neg (by omega),if_neg (by omega)];exact ⟨rfl,rfl,rfl⟩);have hz:s.size≤16384:=by omega
 have SK:=Hy (fun i hi W hS=>Es a0 s.size cap s (by omega) i hi W hS);have TK:=Hy (fun i hi W hS=>Cn a0 s.size cap s (by omega) i hi W hS);have LS:=Hy (LI.start s);have Z0:=Hy hz;have S0:=Hy hS;clear hS hz
 go_enter Tryz.func32,Tryz.ntmps32
 go_wp2_with fail;refine (SK.o 0 zl _ S0.o).mono ?_;rintro e w1 ⟨rfl,rfl⟩;generalize 0+sk false (s.data.toList.drop 0)=x0 at *;go_wp2_with fail
 go_loopw [5,6,7,8] (fun vl vb va vf wr => ∃ (x:Nat) (fe:Int) (f:Bool) (ts:List Tk) (bs:List Pb),va=.int .i64 (x:Nat)∧vf=.bool f∧Hid (f=decide ((x:Int)=fe))∧Hid (LI s x fe ts bs)∧Hid (tk.Own wr w1.heap.size vl ts)∧Hid (pb.Own wr w1.heap.size vb bs)∧Hid (Below w1.heap.size w1 wr)) (fun _ _ va _ _=>s.size - (intOf va).toNat)
 case atStart=>exact ⟨x0,-1,false,[],[],rfl,rfl,Hy (by rw [dF (by omega)]),LS,Hy (tk.Own.nil _ _),Hy (pb.Own.nil _ _),Hy (b0 _)⟩
 case round =>
  obtain ⟨x,fe,f,ts,bs,rfl,rfl,hf,hI,hO,hP,hb⟩:=hrel;have hfew:=hI.o.few;have hl8:=Hy (show ts.length<4398046511104 by have:=hfew.2.2;omega);have hb8:=Hy (show bs.length<8796093022208 by have:=hfew.2.1;omega);by_cases hc:x<s.size
  ·have q2:decide ((x:Int)<(s.size:Int))=true:=dT (by omega);have q2':decide (x<s.size)=true:=dT hc;obtain ⟨q,hq⟩:∃ q,shp (s.data.toList.drop x)=q:=⟨_,rfl⟩;obtain ⟨k,n⟩:=q;obtain ⟨c,hcd⟩:∃ c,flt k ((s.data.toList.drop x).take n)=c:=⟨_,rfl⟩;obtain ⟨⟨hn1,hn2⟩,s1,s2,s3,s4⟩:=hI.o.step hc hq hcd;have hk1:k=0→n=1:=fun h=>GA (by rw [← h];exact hq) (Br s hc);have hlow:=hI.o.low;have TC:=Hy (fun W hS=>TK.o x hc W hS);unfold TkA at TC;rw [hq] at TC;simp only [hcd] at TC;obtain ⟨N,hN⟩:∃ N:Nat,N=if k=0 then 0 else n:=⟨_,rfl⟩
   rw [← hN] at TC;have SK1:=Hy (fun W hS=>(SK.o (x+n) hn2 W hS:Calls Tryz.prog 80 #[.slice a0 s.size cap,.int .i64 ((x:Int)+(n:Int))] W fun e w' => e=.returned (.int .i64 ((x+n+sk false (s.data.toList.drop (x+n)):Nat):Int))∧w'=W));have hge:=Hy (Qj (x:=x) (sk false (s.data.toList.drop (x+n))) hn1);generalize x+n+sk false (s.data.toList.drop (x+n))=y at *;generalize (⟨(cont k ((s.data.toList.drop x).take n)).toArray⟩:ByteArray)=ct at *;have hnx:=Hy (yJ hlow hN hn1 hge.o);have f1:wrap64 ((x:Int)+(n:Int))=(x:Int)+(n:Int):=wrap_add hn2 (by have:=Z0.o;omega);obtain ⟨b1,hb1⟩:∃ b,decide (0<N)=b:=⟨_,rfl⟩;have hb1':decide ((0:Int)<(N:Int))=b1:=by rw [← hb1,decide_eq_decide];omega
   obtain ⟨z1,hz1⟩:∃ b,((N:Int)==0)=b:=⟨_,rfl⟩;have hzb:z1 = !b1:=by rw [← hz1,← hb1,eqb];by_cases h:N=0 <;> simp [h] <;> omega
   obtain ⟨z2,hz2⟩:∃ b,((y:Int)==(x:Int)+(n:Int))=b:=⟨_,rfl⟩;rw [hz1,hz2] at hnx;obtain ⟨mx,mx1,mx2,mx3,mx4⟩:=H8 hN hn1 hk1;obtain ⟨ab,cb,rfl,hsb⟩:=hP.o.sl;generalize hm:bs.length=m at *;by_cases hc0:c=0
   ·subst hc0;obtain ⟨hk0,hI2⟩:=s1 rfl;rw [if_neg hk0] at hnx;clear hzb;obtain rfl:z1=false:=by rw [← hz1,beq_eq_false_iff_ne,hN,if_neg hk0];omega
    replace hI2:=Hy hI2;replace hc:=Hy hc;clear s1 s2 s3 s4 hsb hk1 hlow hN hb1 hb1' hfew hI hf;go_wp2_with fail;refine (TC.o _ (S0.o.keeps hb.o)).mono ?_;rintro e w2 ⟨x',rfl,hx',b2⟩;obtain rfl:=hx' trivial;have B2:=Hy (aD hb.o b2);have O2:=Hy (hO.o.keeps b2);have P2:=Hy (hP.o.keeps b2);clear b2 hO hP hb hx';have BB:=Hy (aj (aj (b0 w2) (.cells #[.int .i64 k,.string ct,.int .i64 (x:Nat)] 69)) (.cells #[.int .i64 k,.string ct,.int .i64 (x:Nat)] 69));go_wp2_with (at_builtin;refine tk.dD (.tmp 52) (.tmp 54) rfl ?_;refine tk.bL _ rfl (.tmp 52) (.tmp 54) rfl w1.heap.size _ _ rfl (O2.o.keeps BB.o) (w2.heap.size+1) ⟨k,ct,(x:Nat)⟩ rfl (Qe w2 _ ⟨k,ct,(x:Nat)⟩ 69) hl8.o (by have:=B2.o.size;simp;omega) ?_;intro v2 w6 O6 b6 g6);have P6:=Hy (nH (O2.o.keeps BB.o) (P2.o.keeps BB.o) g6);have B6:=Hy ((aj (aj B2.o (.cells #[.int .i64 k,.string ct,.int .i64 (x:Nat)] 69)) (.cells #[.int .i64 k,.string ct,.int .i64 (x:Nat)] 69)).trans b6);have O7:=Hy O6;clear b6 O6 g6 BB;go_wp2_with fail;refine (SK1.o _ (S0.o.keeps B6.o)).mono ?_;rintro e w7 ⟨rfl,rfl⟩;go_wp2_with fail;exact ⟨⟨y,fe,_,_,bs,rfl,rfl,hnx,hI2,O7,P6,B6⟩,fG hc.o hge.o⟩
   have hI2:=LI.bad hc0 hN hn1 s2 s3 s4 hb1 rfl hf.o;have qc:(c != 0)=true:=by rw [bne_iff_ne];exact hc0
   have qc':(c==0)=false:=by rw [beq_eq_false_iff_ne];exact hc0
   obtain ⟨b2,hb2⟩:∃ b,decide (m<32)=b:=⟨_,rfl⟩;have hb2':decide ((m:Int)<32)=b2:=by rw [← hb2,decide_eq_decide];omega
   rw [hb2] at hI2;replace hc:=Hy hc;replace hm:=Hy hm;by_cases hk0:k=0
   ·obtain rfl:N=0:=by rw [hN,if_pos hk0]
    obtain rfl:n=1:=hk1 hk0;obtain rfl:b1=false:=hb1.symm;obtain rfl:z1=true:=hz1.symm;rw [if_pos hk0] at hI2 hnx;clear s1 s2 s3 s4 hsb hk1 hlow hN hfew hI hf hc0 hb1 hb1' hz1 hzb mx mx1 mx2 mx3 mx4 hq hcd hk0 hn1 hn2 hb2;replace hI2:=Hy hI2;replace TC:Hid (∀ W (hS:Bs W a0 s.size cap s),Calls Tryz.prog 81 #[.slice a0 s.size cap,.int .i64 (x:Nat)] W fun e w' => ∃ x':Tk,e=.returned (.tuple #[.agg #[.int .i64 x'.k,.string x'.t,.int .i64 x'.a],.int .i64 0,.int .i64 c])∧(c=0→x'=⟨k,ct,(x:Nat)⟩)∧Below W.heap.size W w'):=TC;have mx5:max (0:Int) 1=1:=rfl;replace f1:wrap64 ((x:Int)+1)=(x:Int)+1:=f1;replace hz2:((y:Int)==(x:Int)+1)=z2:=hz2;replace SK1:Hid (∀ W (hS:Bs W a0 s.size cap s),Calls Tryz.prog 80 #[.slice a0 s.size cap,.int .i64 ((x:Int)+1)] W fun e w' => e=.returned (.int .i64 (y:Nat))∧w'=W):=SK1;cases f
    ·cases b2
     ·replace hI2:Hid (LI s y ((x+1:Nat):Int) ts bs):=hI2;go_wp2_with fail;refine (TC.o _ (S0.o.keeps hb.o)).mono ?_;rintro e w2 ⟨x',rfl,_,b2⟩;have B2:=Hy (aD hb.o b2);have O2:=Hy (hO.o.keeps b2);have P2:=Hy (hP.o.keeps b2);clear b2 hO hP hb;have BB:=Hy (aj (b0 w2) (.cells #[.int .i64 x'.k,.string x'.t,.int .i64 x'.a] 69));have B6:=Hy (aj B2.o (.cells #[.int .i64 x'.k,.string x'.t,.int .i64 x'.a] 69));have O6:=Hy (O2.o.keeps BB.o);have P6:=Hy (P2.o.keeps BB.o);go_wp2_with fail;refine (SK1.o _ (S0.o.keeps B6.o)).mono ?_;rintro e w7 ⟨rfl,rfl⟩;go_wp2_with fail;exact ⟨⟨y,_,_,ts,bs,rfl,rfl,hnx,hI2,O6,P6,B6⟩,fG hc.o hge.o⟩
     replace hI2:Hid (LI s y ((x+1:Nat):Int) ts (bs++[(((x:Nat):Int),c)])):=hI2;go_wp2_with fail;refine (TC.o _ (S0.o.keeps hb.o)).mono ?_;rintro e w2 ⟨x',rfl,_,b2⟩;have B2:=Hy (aD hb.o b2);have O2:=Hy (hO.o.keeps b2);have P2:=Hy (hP.o.keeps b2);clear b2 hO hP hb;have BB:=Hy (aj (aj (b0 w2) (.cells #[.int .i64 x'.k,.string x'.t,.int .i64 x'.a] 69)) (.cells #[.int .i64 (x:Nat),.int .i64 c] 72));go_wp2_with (at_builtin;refine pb.dD (.tmp 44) (.tmp 48) rfl ?_;refine pb.bL _ rfl (.tmp 44) (.tmp 48) rfl w1.heap.size _ _ rfl (P2.o.keeps BB.o) (w2.heap.size+1) ((x:Nat),c) rfl (Jg w2 _ ((x:Nat),c) 72) (by rw [hm.o];exact hb8.o) (by have:=B2.o.size;simp;omega) ?_;intro v2 w6 P6 b6 g6);have O6:=Hy (mZ (P2.o.keeps BB.o) (O2.o.keeps BB.o) g6);have B6:=Hy ((aj (aj B2.o (.cells #[.int .i64 x'.k,.string x'.t,.int .i64 x'.a] 69)) (.cells #[.int .i64 (x:Nat),.int .i64 c] 72)).trans b6);have P7:=Hy P6;clear b6 P6 g6 BB;go_wp2_with fail;refine (SK1.o _ (S0.o.keeps B6.o)).mono ?_;rintro e w7 ⟨rfl,rfl⟩;go_wp2_with fail;exact ⟨⟨y,_,_,ts,_,rfl,rfl,hnx,hI2,O6,P7,B6⟩,fG hc.o hge.o⟩
    replace hI2:Hid (LI s y ((x+1:Nat):Int) ts bs):=hI2;go_wp2_with fail;refine (TC.o _ (S0.o.keeps hb.o)).mono ?_;rintro e w2 ⟨x',rfl,_,b2⟩;have B2:=Hy (aD hb.o b2);have O2:=Hy (hO.o.keeps b2);have P2:=Hy (hP.o.keeps b2);clear b2 hO hP hb;have BB:=Hy (aj (b0 w2) (.cells #[.int .i64 x'.k,.string x'.t,.int .i64 x'.a] 69));have B6:=Hy (aj B2.o (.cells #[.int .i64 x'.k,.string x'.t,.int .i64 x'.a] 69));have O6:=Hy (O2.o.keeps BB.o);have P6:=Hy (P2.o.keeps BB.o);go_wp2_with fail;refine (SK1.o _ (S0.o.keeps B6.o)).mono ?_;rintro e w7 ⟨rfl,rfl⟩;go_wp2_with fail;exact ⟨⟨y,_,_,ts,bs,rfl,rfl,hnx,hI2,O6,P6,B6⟩,fG hc.o hge.o⟩
   obtain rfl:N=n:=by rw [hN,if_neg hk0]
   obtain rfl:b1=true:=by rw [← hb1,dT (by omega)]
   obtain rfl:z1=false:=by rw [← hz1,beq_eq_false_iff_ne];omega
   rw [if_neg hk0] at hI2 hnx;clear s1 s2 s3 s4 hsb hk1 hlow hN hfew hI hf hc0 hb1 hzb mx hq hcd hk0 hn1 hn2 hb2;replace hI2:=Hy hI2;cases b2
   ·replace hI2:Hid (LI s y fe ts bs):=hI2;go_wp2_with fail;refine (TC.o _ (S0.o.keeps hb.o)).mono ?_;rintro e w2 ⟨x',rfl,_,b2⟩;have B2:=Hy (aD hb.o b2);have O2:=Hy (hO.o.keeps b2);have P2:=Hy (hP.o.keeps b2);clear b2 hO hP hb;have BB:=Hy (aj (b0 w2) (.cells #[.int .i64 x'.k,.string x'.t,.int .i64 x'.a] 69));have B6:=Hy (aj B2.o (.cells #[.int .i64 x'.k,.string x'.t,.int .i64 x'.a] 69));have O6:=Hy (O2.o.keeps BB.o);have P6:=Hy (P2.o.keeps BB.o);go_wp2_with fail;refine (SK1.o _ (S0.o.keeps B6.o)).mono ?_;rintro e w7 ⟨rfl,rfl⟩;go_wp2_with fail;exact ⟨⟨y,_,_,ts,bs,rfl,rfl,hnx,hI2,O6,P6,B6⟩,fG hc.o hge.o⟩
   replace hI2:Hid (LI s y fe ts (bs++[(((x:Nat):Int),c)])):=hI2;go_wp2_with fail;refine (TC.o _ (S0.o.keeps hb.o)).mono ?_;rintro e w2 ⟨x',rfl,_,b2⟩;have B2:=Hy (aD hb.o b2);have O2:=Hy (hO.o.keeps b2);have P2:=Hy (hP.o.keeps b2);clear b2 hO hP hb;have BB:=Hy (aj (aj (b0 w2) (.cells #[.int .i64 x'.k,.string x'.t,.int .i64 x'.a] 69)) (.cells #[.int .i64 (x:Nat),.int .i64 c] 72));go_wp2_with (at_builtin;refine pb.dD (.tmp 44) (.tmp 48) rfl ?_;refine pb.bL _ rfl (.tmp 44) (.tmp 48) rfl w1.heap.size _ _ rfl (P2.o.keeps BB.o) (w2.heap.size+1) ((x:Nat),c) rfl (Jg w2 _ ((x:Nat),c) 72) (by rw [hm.o];exact hb8.o) (by have:=B2.o.size;simp;omega) ?_;intro v2 w6 P6 b6 g6);have O6:=Hy (mZ (P2.o.keeps BB.o) (O2.o.keeps BB.o) g6);have B6:=Hy ((aj (aj B2.o (.cells #[.int .i64 x'.k,.string x'.t,.int .i64 x'.a] 69)) (.cells #[.int .i64 (x:Nat),.int .i64 c] 72)).trans b6);have P7:=Hy P6;clear b6 P6 g6 BB;go_wp2_with fail;refine (SK1.o _ (S0.o.keeps B6.o)).mono ?_;rintro e w7 ⟨rfl,rfl⟩;go_wp2_with fail;exact ⟨⟨y,_,_,ts,_,rfl,rfl,hnx,hI2,O6,P7,B6⟩,fG hc.o hge.o⟩
  have q2:decide ((x:Int)<(s.size:Int))=false:=dF (by omega);have q2':decide (x<s.size)=false:=dF hc;have hov:=hI.o.over hc;clear hI;rw [hov.1,hov.2] at hE;clear hov;go_wp2_with (at_builtin;refine tk.dD (.tmp 70) (.tmp 74) rfl ?_;refine tk.bL _ rfl (.tmp 70) (.tmp 74) rfl w1.heap.size _ _ rfl (hO.o.keeps (aj (b0 wr) _)) wr.heap.size (lS s) rfl (tk.Bw.new wr (lS s) 69) hl8.o (by have:=hb.o.size;simp;omega) ?_;intro v2 w6 O6 b6 g6);have P6:=Hy (nH (hO.o.keeps (aj (b0 wr) _)) (hP.o.keeps (aj (b0 wr) _)) g6);have B6:=Hy ((aj hb.o (.cells #[.int .i64 6,.string .empty,.int .i64 (s.size:Nat)] 69)).trans b6);go_ret3;exact ⟨_,_,by rw [hE.o.1];rfl,by rw [hE.o.2.1];exact O6,by rw [hE.o.2.2];exact P6.o,B6.o⟩
end
namespace rr
open Go.RowKit dec pa
theorem NV {s:ByteArray} (h:¬ 16384<s.size):Prl (aW s):=by
 intro x hx;unfold aW at hx;rw [if_neg h] at hx;rcases List.mem_append.1 hx with hx | hx
 ·exact .inr (yE _ _ _ x hx)
 rw [List.mem_singleton] at hx;subst hx;exact .inl ⟨rfl,rfl⟩
end rr
section
open Go.RowKit dec
theorem xU (s:ByteArray) (w:World) :
    Calls Tryz.prog 182 #[.string s] w fun e w' => e=.returned (.bool (kw s))∧w'=w:=by
 go_enter Tryz.func182,Tryz.ntmps182
 go_wp2
 all_goals go_ret
 all_goals refine ⟨bB ?_,rfl⟩
 all_goals first | (rename_i h1 h2;rw [h1] at h2;cases h2;done) | (unfold kw kwL;simp [*];done) | (exfalso;simp_all;done)
theorem Hf (s:ByteArray):prB 1 s=wd1 s:=NT ⟨1,s,0⟩ (by unfold so;rw [if_neg (show ¬ (1:Int)=4 by decide)])
theorem yR (l:List UInt8):(l==[])=l.isEmpty:=by cases l <;> rfl
theorem ER (s:ByteArray):name s=(qY s.data.toList && !kw s):=by unfold name;rw [Hf,MP]
theorem wN {s:ByteArray} (h:s.size=0∨24<s.size):qY s.data.toList=false:=by
 have hl:=aM s
 cases hd:s.data.toList with
 | nil=>rfl
 | cons c r =>
   rw [hd] at hl
   rw [List.length_cons] at hl
   show (isL c && decide (run isW (c :: r)=(c :: r).length) && decide ((c :: r).length≤24))=false
   rw [dF (p:=(c :: r).length≤24) (by rw [List.length_cons];omega),Bool.and_false]
theorem Gm {s:ByteArray} (h0:s.size≠0) (h:s.size≤24):qY s.data.toList=((wdN (s.data.toList.drop 0):Int)==(s.size:Int)):=by
 have hl:=aM s;rw [List.drop_zero,eqb]
 cases hd:s.data.toList with
 | nil=>rw [hd] at hl;exact absurd hl.symm h0
 | cons c r =>
   rw [hd] at hl
   show (isL c && decide (run isW (c :: r)=(c :: r).length) && decide ((c :: r).length≤24))=decide (((if isL c=true then run isW (c :: r) else 0:Nat):Int)=(s.size:Int))
   rw [dT (p:=(c :: r).length≤24) (by omega),Bool.and_true,hl]
   cases isL c
   · rw [Bool.false_and]
     symm
     rw [decide_eq_false_iff_not]
     simp
     omega
   · rw [Bool.true_and,if_pos rfl,decide_eq_decide]
     omega
theorem EA (s:ByteArray) (w:World):Calls Tryz.prog 141 #[.string s] w fun e w' => e=.returned (.bool (name s))∧Below w.heap.size w w':=by
 have hn:=ER s;have KC:=Hy (fun W=>xU s W);have HE:=toList_nil s;by_cases h0:s.size=0
 ·have hr:=Hy (show name s=false by rw [hn,wN (.inl h0)];rfl);have q1:s.toList.isEmpty=true:=by rw [← yR,HE,dT h0]
  clear hn HE KC h0
  go_enter Tryz.func141,Tryz.ntmps141
  go_wp2_with fail;go_ret;exact ⟨bB hr.o.symm,b0 w⟩
 have q1:s.toList.isEmpty=false:=by rw [← yR,HE,dF h0]
 by_cases h24:24<s.size
 ·have hr:=Hy (show name s=false by rw [hn,wN (.inr h24)];rfl);have q2:decide ((s.size:Int)≤24)=false:=dF (by omega);have q2':decide (s.size≤24)=false:=dF (by omega);clear hn HE KC h0 h24
  go_enter Tryz.func141,Tryz.ntmps141
  go_wp2_with fail;go_ret;exact ⟨bB hr.o.symm,b0 w⟩
 have q2:decide ((s.size:Int)≤24)=true:=dT (by omega);have q2':decide (s.size≤24)=true:=dT (by omega);rw [Gm h0 (by omega)] at hn;obtain ⟨w1,cv,hcv,hB,b1⟩:=IK w s (by omega);have WC:=Hy (lF _ _ _ s (by omega) 0 (by omega) w1 hB);rw [show ((0:Nat):Int)=0 from rfl] at WC;have B1:=Hy b1;replace hn:=Hy hn;clear HE h0 h24 b1 hB;generalize ((wdN (s.data.toList.drop 0):Nat):Int)=x at *;cases hx:(x==(s.size:Int))
 ·have hr:=Hy (show name s=false by rw [hn.o,hx];rfl)
  go_enter Tryz.func141,Tryz.ntmps141
  go_wp2_with fail;refine WC.o.mono ?_;rintro e w2 ⟨rfl,rfl⟩;go_wp2_with fail;go_ret;exact ⟨bB hr.o.symm,B1.o⟩
 have hr:=Hy (show name s = !kw s by rw [hn.o,hx];rfl)
 go_enter Tryz.func141,Tryz.ntmps141
 go_wp2_with fail;refine WC.o.mono ?_;rintro e w2 ⟨rfl,rfl⟩;go_wp2_with fail;refine (KC.o _).mono ?_;rintro e w3 ⟨rfl,rfl⟩;go_wp2_with fail;go_ret;exact ⟨bB hr.o.symm,B1.o⟩
end
namespace rr
open Go.RowKit dec pa
theorem eqS (x s:ByteArray):(x.toList==s.toList)=decide (x=s):=by
 by_cases hs:x=s
 ·subst hs;simp
 rw [dF hs,beq_eq_false_iff_ne];intro e;apply hs;rw [ByteArray.toList_eq,ByteArray.toList_eq] at e;cases x;cases s;simp only [ByteArray.mk.injEq];exact Array.toList_inj.1 e
def see (k:Int) (s:ByteArray) (l:List Tk) (c:Int):Bool:=decide (c=0) && (decide ((hd l).k=k) && decide ((hd l).t=s))
theorem xL (B:Nat) (l:List Tk) (i:Bool) (a c:Int) (k:Int) (s:ByteArray) (w:World) (h:Rp w B l i a c) :
    Calls Tryz.prog 82 #[.pointer (some ⟨B,0,none⟩),.int .i64 k,.string s] w (Say (.bool (see k s l c)) w):=by
 obtain ⟨b,off,n,cap,hb,hn1,hnc,hmx,hnl,k0,k1,k2,hbB,hC⟩:=h.now;have c0:=hb.cell 0;have c3:=hb.cell 3;simp only [sz2,sz3,sz4] at c0 c3;have i1:(0:Int)<(n:Int):=by omega
 have i2:0<n:=by omega
 unfold see;generalize hd l=x at *;obtain ⟨xk,xt,xa⟩:=x;simp only at k0 k1 k2 ⊢;have q3:=eqS xt s;clear h hb hC
 go_enter Tryz.func82,Tryz.ntmps82
 go_wp2_with fail
 all_goals go_ret
 all_goals exact ⟨bB (by simp_all),b0 w⟩
theorem jJ (B:Nat) (l:List Tk) (i:Bool) (a c:Int) (b d:Int) (w:World) (h:Rp w B l i a c) :
    Calls Tryz.prog 92 #[.pointer (some ⟨B,0,none⟩),.int .i64 b,.int .i64 d] w fun e w' => e=.returned (.tuple #[])∧Rp w' B l i (if c=0 then b else a) (if c=0 then d else c)∧Mx w.heap.size B w w':=by
 obtain ⟨bk,off,n,cap,hb,hn1,hnc,hmx,hnl,k0,k1,k2,hbB,hC⟩:=h.now;have HB:=Hy hb;have P:=Hy h;have HC:=Hy hC;have c3:=hb.cell 3;simp only [sz2,sz3,sz4] at c3;clear h hb hC;by_cases hc:c=0
 ·subst hc
  go_enter Tryz.func92,Tryz.ntmps92
  go_wp2_with (refine bZ sO (.tmp 17) (.tmp 15) rfl rfl B 2 _ _ _ rfl rfl HB.o (by simp) rfl (by simp [Value.oneCell']) ?_;intro w9 hb9 hs9);go_end0;exact ⟨rfl,P.o.put HB.o hs9 hb9 hbB HC.o hnl hnc hmx P.o.tl P.o.pl,.st hs9 (.inl rfl)⟩
 have q1:(c==0)=false:=bF hc
 go_enter Tryz.func92,Tryz.ntmps92
 go_wp2_with fail;go_end0;exact ⟨rfl,P.o,.refl _ _ _⟩
theorem pU (b off n cap:Nat) (h:2≤n) (hc:n≤cap) (W:World):(Instr.slice 62 (.slice (some ⟨b,off,none⟩) n cap) (some (.int .i64 1)) none none).run Tryz.prog W=.ok (.slice (some ⟨b,off+3,none⟩) (n - 1) (cap - 1)) W:=by
 have hel:Tryz.prog.elem 62=69:=by kernel_rfl
 have h1:=run_slice_l (P:=Tryz.prog) W 62 (some ⟨b,off,none⟩) n cap (by rw [hel];exact Tryz.underlying62) .i64 1 (by omega) (by omega);rw [h1,hel,Tryz.sizeOf69];simp only [Result.andThen];unfold sliced;simp only [show Int.toNat 1=1 from rfl];rw [if_neg (by omega)];simp [Addr.add]
theorem Rp.pop {w:World} {B:Nat} {l:List Tk} {i:Bool} {a c:Int} (h:Rp w B l i a c) (ht:Tl l.tail):∃ b off n cap:Nat,w.cell? ⟨B,0,none⟩=some (.slice (some ⟨b,off,none⟩) n cap)∧w.frozen? ⟨B,0,none⟩=false∧2≤n∧n≤cap
    ∧ Rp (w.setCell ⟨B,0,none⟩ (.slice (some ⟨b,off+3,none⟩) (n - 1) (cap - 1))) B l.tail i a c∧St B w (w.setCell ⟨B,0,none⟩ (.slice (some ⟨b,off+3,none⟩) (n - 1) (cap - 1))):=by
 obtain ⟨b,off,n,cap,hb,hn1,hnc,hmx,hnl,k0,k1,k2,hbB,hC⟩:=h.now;have hne:=ht.ne;have hn:2≤n:=by
  cases l with
  | nil=>exact absurd rfl hne
  | cons x r =>
    cases r with
    | nil=>exact absurd rfl hne
    | cons y q=>rw [hnl];simp
 have hs:=hb.setCell 0 (.slice (some ⟨b,off+3,none⟩) (n - 1) (cap - 1));refine ⟨b,off,n,cap,hb.cell 0,hb.free 0,hn,hnc,h.put (off':=off+3) (n':=n - 1) (cap':=cap - 1) hb hs.2 hs.1 hbB ?_ ?_ (by omega) (by omega) ht h.pl.tail,hs.2⟩
 ·have:=hC.cut 1 (l.length - 1);have e:(l.drop 1).take (l.length - 1)=l.tail:=by
   rw [List.drop_one,List.take_of_length_le (by rw [List.length_tail];exact Nat.le_refl _)]
  rw [e] at this;exact this
 rw [hnl,List.length_tail]
theorem El {k:Int} {s:ByteArray} {l:List Tk} {c:Int} (h:see k s l c=true) (hk:k≠6) (T:Tl l):Tl l.tail:=by
 unfold see at h;simp only [Bool.and_eq_true,decide_eq_true_eq] at h;exact T.tail (by omega)
theorem vL (B:Nat) (l:List Tk) (i:Bool) (a c:Int) (k:Int) (hk:k≠6) (s:ByteArray) (w:World) (h:Rp w B l i a c) :
    Calls Tryz.prog 33 #[.pointer (some ⟨B,0,none⟩),.int .i64 k,.string s] w fun e w' => e=.returned (.bool (see k s l c))∧Rp w' B (if see k s l c=true then l.tail else l) i a c∧Mx w.heap.size B w w':=by
 have C1:=Hy (xL B l i a c k s w h);have P:=Hy h;have HT:=Hy (fun hs=>El (k:=k) (s:=s) (l:=l) (c:=c) hs hk h.tl);clear h hk;generalize see k s l c=t at *
 go_enter Tryz.func33,Tryz.ntmps33
 go_wp2_with fail;refine C1.o.mono ?_;rintro e w1 ⟨rfl,b1⟩;replace P:=Hy (P.o.keeps b1);have M1:=Hy (Mx.of (B:=B) b1);clear b1;cases t
 ·go_wp2_with fail;go_ret;exact ⟨rfl,P.o,M1.o⟩
 obtain ⟨b,off,n,cap,c0,z0,hn,hc,P2,S2⟩:=P.o.pop (HT.o rfl);have sl:=fun W=>pU b off n cap hn hc W;replace P2:=Hy P2;have M2:=Hy (M1.o.trans (.st S2 (.inl rfl)));clear S2;go_wp2_with fail;go_ret;exact ⟨rfl,P2.o,M2.o⟩
def Kv (_:Nat) (_:World) (v:Value) (x:Tk):Prop:=v=.agg #[.int .i64 x.k,.string x.t,.int .i64 x.a]∧x.t.size≤1048576
def z6:Tk:=⟨0,⟨#[]⟩,0⟩
def tkk (k:Int) (l:List Tk):Rs Tk:=if (hd l).k=k then .ok (hd l) (if k=6 then l else l.tail) else wrg l
theorem jN (B:Nat) (l:List Tk) (i:Bool) (a c:Int) (k:Int) (w:World) (h:Rp w B l i a c) :
    Calls Tryz.prog 49 #[.pointer (some ⟨B,0,none⟩),.int .i64 k] w (Qst B Kv (tkk k l) l i a c w):=by
 have hlt:=h.lt;have bb:=aj (aj (b0 w) (.cells #[.int .i64 0,.string ⟨#[]⟩,.int .i64 0] 69)) (.cells #[.int .i64 (hd l).k,.string (hd l).t,.int .i64 (hd l).a] 69);have P:=Hy (h.keeps (aj (b0 w) (.cells #[.int .i64 0,.string ⟨#[]⟩,.int .i64 0] 69)));have P2:=Hy (h.keeps bb);have M2:=Hy (Mx.of (B:=B) bb);have L4:=Hy ((Blk.new w 69 #[.int .i64 0,.string ⟨#[]⟩,.int .i64 0]).past (.cells #[.int .i64 (hd l).k,.string (hd l).t,.int .i64 (hd l).a] 69));have L5:=Hy (by have:=Blk.new (w.alloc (.cells #[.int .i64 0,.string ⟨#[]⟩,.int .i64 0] 69)) 69 #[.int .i64 (hd l).k,.string (hd l).t,.int .i64 (hd l).a];simpa using this:Blk ((w.alloc (.cells #[.int .i64 0,.string ⟨#[]⟩,.int .i64 0] 69)).alloc (.cells #[.int .i64 (hd l).k,.string (hd l).t,.int .i64 (hd l).a] 69)) (w.heap.size+1) 69 #[.int .i64 (hd l).k,.string (hd l).t,.int .i64 (hd l).a]);obtain ⟨b,off,n,cap,hb,hn1,hnc,hmx,hnl,k0,k1,k2,hbB,hC⟩:=P.o.now;have c0:=hb.cell 0;have c3:=(hb.past (.cells #[.int .i64 (hd l).k,.string (hd l).t,.int .i64 (hd l).a] 69)).cell 3;simp only [sz2,sz3,sz4] at c0 c3;have i1:(0:Int)<(n:Int):=by omega
 have i2:0<n:=by omega
 have gB:=Hy hlt;have TL:=Hy h.tl;obtain ⟨x,hx⟩:∃ x,hd l=x:=⟨_,rfl⟩;have HD:=Hy hx;rw [hx] at k0 k1 k2 L4 L5 P2 M2 c3;obtain ⟨xk,xt,xa⟩:=x;simp only at k0 k1 k2 L4 L5 P2 M2 c3;clear hb hC h bb hlt hx P;by_cases hk:xk=k
 ·subst hk;have q1:(xk != xk)=false:=by simp
  by_cases hc:c=0
  ·subst hc;by_cases h6:xk=6
   ·subst h6
    go_enter Tryz.func49,Tryz.ntmps49
    go_wp2_with (refine aA gZ (.tmp 4) (.tmp 37) rfl rfl _ _ _ _ rfl rfl L4.o rfl rfl (by simp [Value.oneCell']) ?_;intro w9 hb9 hs9);refine bO gZ Tryz.underlying69 rfl rfl _ _ _ _ _ rfl hb9 rfl ?_;refine ⟨_,⟨6,xt,xa⟩,l,a,0,rfl,⟨rfl,by have:=TL.o.hd;rw [HD.o] at this;exact this⟩,P2.o.st hs9 gB.o,M2.o.trans (.st hs9 (.inr lr)),?_⟩;unfold Aft tkk;rw [HD.o];exact ⟨rfl,rfl,rfl,rfl⟩
   have q6:(xk != 6)=true:=bne_iff_ne.2 h6;have HT:=Hy (TL.o.tail (by rw [HD.o];exact h6));obtain ⟨b2,off2,n2,cap2,e0,z0,hn2,hc2,P3,S3⟩:=P2.o.pop HT.o;have sl:=fun W=>pU b2 off2 n2 cap2 hn2 hc2 W;have L4':=Hy (L4.o.st S3 (by have:=gB.o;omega));have L5':=Hy (L5.o.st S3 (by have:=gB.o;omega));have M3:=Hy (M2.o.trans (.st S3 (.inl rfl)));replace P3:=Hy P3;clear S3 L4 L5 P2 M2
   go_enter Tryz.func49,Tryz.ntmps49
   go_wp2_with (first | (refine aH gZ Tryz.underlying69 rfl (.tmp 5) rfl rfl _ _ _ rfl L5'.o rfl ?_) | (refine aA gZ (.tmp 4) (.tmp 37) rfl rfl _ _ _ _ rfl rfl L4'.o rfl rfl (by simp [Value.oneCell']) ?_;intro w9 hb9 hs9));refine bO gZ Tryz.underlying69 rfl rfl _ _ _ _ _ rfl hb9 rfl ?_;refine ⟨_,⟨xk,xt,xa⟩,l.tail,a,0,rfl,⟨rfl,by have:=TL.o.hd;rw [HD.o] at this;exact this⟩,P3.o.st hs9 gB.o,M3.o.trans (.st hs9 (.inr lr)),?_⟩;unfold Aft tkk;rw [HD.o];simp only [if_true,if_neg h6];exact ⟨trivial,trivial,trivial,trivial⟩
  have q2:(c != 0)=true:=bne_iff_ne.2 hc
  go_enter Tryz.func49,Tryz.ntmps49
  go_wp2_with (refine aA gZ (.tmp 4) (.tmp 26) rfl rfl _ _ _ _ rfl rfl L4.o rfl rfl (by simp [Value.oneCell']) ?_;intro w9 hb9 hs9);refine bO gZ Tryz.underlying69 rfl rfl _ _ _ _ _ rfl hb9 rfl ?_;exact ⟨_,z6,l,a,c,rfl,⟨rfl,Nat.zero_le _⟩,P2.o.st hs9 gB.o,M2.o.trans (.st hs9 (.inr lr)),.still _ _ _ hc _⟩
 have q1:(xk != k)=true:=bne_iff_ne.2 hk;have FC:=Hy (jJ B l i a c xa 90 _ P2.o);clear P2 c3
 go_enter Tryz.func49,Tryz.ntmps49
 go_wp2_with fail;refine FC.o.mono ?_;rintro e w1 ⟨rfl,pp,mm⟩;have L4':=Hy (gG L4.o mm (by have:=gB.o;omega) L4.o.lt);have M3:=Hy (M2.o.next mm (by simp));have P3:=Hy pp;obtain ⟨b2,off2,n2,cap2,hb2,_⟩:=pp.now;have c3:=hb2.cell 3;simp only [sz2,sz3,sz4] at c3;have q2:((if c=0 then (90:Int) else c) != 0)=true:=by rw [bne_iff_ne];split <;> omega
 have AF:=Hy (show Aft (tkk k l) l a c z6 l (if c=0 then xa else a) (if c=0 then 90 else c) from by
   unfold Aft tkk
   by_cases hc:c=0
   · rw [if_pos hc,HD.o,if_neg hk,if_pos hc,if_pos hc]
     unfold wrg
     rw [HD.o]
     exact ⟨rfl,rfl,by decide⟩
   · rw [if_neg hc,if_neg hc,if_neg hc]
     exact ⟨rfl,rfl,rfl⟩)
 clear mm pp L4 M2 FC hb2 L5;generalize (if c=0 then xa else a)=a1 at *;generalize (if c=0 then (90:Int) else c)=c1 at *;go_wp2_with (refine aA gZ (.tmp 4) (.tmp 26) rfl rfl _ _ _ _ rfl rfl L4'.o rfl rfl (by simp [Value.oneCell']) ?_;intro w9 hb9 hs9);refine bO gZ Tryz.underlying69 rfl rfl _ _ _ _ _ rfl hb9 rfl ?_;exact ⟨_,z6,l,a1,c1,rfl,⟨rfl,Nat.zero_le _⟩,P3.o.st hs9 gB.o,M3.o.trans (.st hs9 (.inr lr)),AF.o⟩
theorem tY {k:Int} {s:ByteArray} (hs:pr ⟨k,s,0⟩=true) (hk:k=1∨k=5) {w:World} {B:Nat} {l:List Tk} {i:Bool} {a c:Int} (h:Rp w B l i a c):see k s l c=fnd s l c:=by
 unfold see fnd;rw [qL hs hk h.pl h.tl]
theorem bD (B:Nat) (l:List Tk) (i:Bool) (a c:Int) (k:Int) (s:ByteArray) (hs:pr ⟨k,s,0⟩=true) (hk:k=1∨k=5) (w:World) (h:Rp w B l i a c) (hf:fnd s l c=false) :
    Calls Tryz.prog 33 #[.pointer (some ⟨B,0,none⟩),.int .i64 k,.string s] w fun e w' => e=.returned (.bool false)∧Rp w' B l i a c∧Mx w.heap.size B w w':=by
 have:=vL B l i a c k (by omega) s w h;rw [tY hs hk h,hf] at this;exact this
theorem bC (B:Nat) (l:List Tk) (i:Bool) (a c:Int) (k:Int) (s:ByteArray) (hs:pr ⟨k,s,0⟩=true) (hk:k=1∨k=5) (w:World) (h:Rp w B l i a c) (hf:fnd s l c=true) :
    Calls Tryz.prog 33 #[.pointer (some ⟨B,0,none⟩),.int .i64 k,.string s] w fun e w' => e=.returned (.bool true)∧Rp w' B l.tail i a c∧Mx w.heap.size B w w':=by
 have:=vL B l i a c k (by omega) s w h;rw [tY hs hk h,hf] at this;exact this
theorem BN {α:Type} {l:List Tk} {a c:Int} (x:α):Aft (wrg l) l a c x l (if c=0 then (hd l).a else a) (if c=0 then 90 else c):=by
 unfold Aft wrg;by_cases hc:c=0
 ·rw [if_pos hc,if_pos hc,if_pos hc];exact ⟨rfl,rfl,by decide⟩
 rw [if_neg hc,if_neg hc,if_neg hc];exact ⟨rfl,rfl,rfl⟩
theorem bn (B:Nat) (k:Int) (s:ByteArray) (hs:pr ⟨k,s,0⟩=true) (hk:k=1∨k=5) (l:List Tk) (i:Bool) (a c:Int) (w:World) (h:Rp w B l i a c) :
    Calls Tryz.prog 84 #[.pointer (some ⟨B,0,none⟩),.int .i64 k,.string s] w (Qst B Nv (need s l) l i a c w):=by
 have C1:=Hy (xL B l i a c k s w h);have P:=Hy h;have HT:=Hy (fun hf=>El (k:=k) (s:=s) (l:=l) (c:=c) hf (by omega) h.tl);have hsf:=tY hs hk h;rw [hsf] at C1 HT;have HF:=Hy (show fnd s l c=(decide (c=0) && isT s l) from rfl);clear h hk hs hsf;cases hf:fnd s l c
 ·rw [hf] at C1 HF;clear HT hf
  go_enter Tryz.func84,Tryz.ntmps84
  go_wp2_with fail;refine C1.o.mono ?_;rintro e w1 ⟨rfl,b1⟩;replace P:=Hy (P.o.keeps b1);have M:=Hy (Mx.of (B:=B) b1);clear b1;obtain ⟨b,off,n,cap,hb,hn1,hnc,hmx,hnl,k0,k1,k2,hbB,hC⟩:=P.o.now;have c0:=hb.cell 0;simp only [sz2,sz3] at c0;have i1:(0:Int)<(n:Int):=by omega
  have i2:0<n:=by omega
  have AW:=Hy (BN (l:=l) (a:=a) (c:=c) ());have FC:=Hy (jJ B l i a c (hd l).a 90 _ P.o);clear hb hC k0 k1;generalize (if c=0 then (hd l).a else a)=a1 at *;generalize (if c=0 then (90:Int) else c)=c1 at *;generalize (hd l).a=xa at *;go_wp2_with fail;refine FC.o.mono ?_;rintro e w2 ⟨rfl,pp,mm⟩;replace M:=Hy (M.o.nx mm);replace P:=Hy pp;clear pp mm;go_wp2_with fail;go_end0;refine ⟨_,(),l,a1,c1,rfl,rfl,P.o,M.o,?_⟩;have h1:=HF.o;by_cases hc:c=0
  ·rw [dT hc,Bool.true_and] at h1;unfold need;rw [if_neg (by rw [← h1];decide)];exact AW.o
  exact AW.o.bad hc
 rw [hf] at C1 HT HF;have hy:=bg hf;obtain ⟨hc,ht⟩:=hy;subst hc;clear hf HF
 go_enter Tryz.func84,Tryz.ntmps84
 go_wp2_with fail;refine C1.o.mono ?_;rintro e w1 ⟨rfl,b1⟩;replace P:=Hy (P.o.keeps b1);have M1:=Hy (Mx.of (B:=B) b1);clear b1;have HN:=Hy (show Aft (need s l) l a 0 () l.tail a 0 from by unfold Aft need;rw [if_pos rfl,if_pos ht];exact ⟨rfl,rfl,rfl,rfl⟩);obtain ⟨b,off,n,cap,c0,z0,hn,hc,P2,S2⟩:=P.o.pop (HT.o (by trivial));have sl:=fun W=>pU b off n cap hn hc W;replace P2:=Hy P2;have M2:=Hy (M1.o.trans (.st S2 (.inl rfl)));clear S2 ht;go_wp2_with fail;go_end0;exact ⟨_,(),l.tail,a,0,rfl,rfl,P2.o,M2.o,HN.o⟩
theorem oN (l:List Tk):nam l=if (hd l).k=1∧name (hd l).t=false then wrg l else (tkk 1 l).bind fun x r=>.ok x.t r:=by
 unfold nam tak tkk;by_cases hk:(hd l).k=1 <;> by_cases hn:name (hd l).t=true <;> simp [hk,hn,wrg,Rs.bind]
theorem gF (B:Nat) (l:List Tk) (i:Bool) (a c:Int) (w:World) (h:Rp w B l i a c) :
    Calls Tryz.prog 83 #[.pointer (some ⟨B,0,none⟩)] w (Qst B Sv (nam l) l i a c w):=by
 have P:=Hy h;have T0:=tf1;obtain ⟨b,off,n,cap,hb,hn1,hnc,hmx,hnl,k0,k1,k2,hbB,hC⟩:=h.now;have c0:=hb.cell 0;simp only [sz2,sz3] at c0;have i1:(0:Int)<(n:Int):=by omega
 have i2:0<n:=by omega
 have NQ:=Hy (oN l);clear hb hC h;obtain ⟨x,hx⟩:∃ x,hd l=x:=⟨_,rfl⟩;have HD:=Hy hx;rw [hx] at k0 k1 k2 NQ;obtain ⟨xk,xt,xa⟩:=x;simp only at k0 k1 k2 NQ;clear hx;by_cases hk:xk=1
 ·subst hk;have NC:=Hy (fun W=>EA xt W);cases hn:name xt
  ·rw [hn] at NC;have NW:=Hy (NQ.o.trans (if_pos ⟨rfl,hn⟩));clear NQ hn
   go_enter Tryz.func83,Tryz.ntmps83
   go_wp2_with fail;refine (NC.o _).mono ?_;rintro e w1 ⟨rfl,b1⟩;replace c0:=dec.keeps b1 c0;replace k2:=dec.keeps b1 k2;replace P:=Hy (P.o.keeps b1);have M:=Hy (Mx.of (B:=B) b1);have FC:=Hy (jJ B l i a c xa 90 _ P.o);have AW:=Hy (show Aft (nam l) l a c xt l (if c=0 then xa else a) (if c=0 then 90 else c) from by have:=BN (l:=l) (a:=a) (c:=c) xt;rw [HD.o] at this;rw [NW.o];exact this);have c90:=Hy (show (if c=0 then (90:Int) else c)≠0 from by split <;> omega);clear b1 k0 k1;generalize (if c=0 then xa else a)=a1 at *;generalize (if c=0 then (90:Int) else c)=c1 at *;go_wp2_with fail;refine FC.o.mono ?_;rintro e w2 ⟨rfl,pp,mm⟩;replace M:=Hy (M.o.nx mm);replace P:=Hy pp;clear pp mm c0 k2 FC;go_wp2_with fail;refine (jN B l i a1 c1 1 _ P.o).mono ?_;rintro e w3 ⟨u3,x3,l3,a3,c3,rfl,v3,pp,mm,af3⟩;have AF3:=Hy af3;clear af3;replace M:=Hy (M.o.nx mm);replace P:=Hy pp;clear pp mm;obtain ⟨rfl,zs3⟩:=v3;have ZS3:=Hy zs3;clear zs3;go_wp2_with fail;go_ret;refine ⟨_,x3.t,l3,a3,c3,rfl,rfl,P.o,M.o,?_⟩;have h3:=AF3.o;unfold Aft at h3;rw [if_neg c90.o] at h3;obtain ⟨rfl,rfl,rfl⟩:=h3;have h4:=AW.o;unfold Aft at h4 ⊢;rw [NW.o] at h4 ⊢;split
   ·rename_i hc;rw [if_pos hc] at h4;exact h4
   rename_i hc;rw [if_neg hc] at h4;exact h4
  rw [hn] at NC;have NW:=Hy (NQ.o.trans (if_neg (by rw [hn];exact fun h=>absurd h.2 (by decide))));clear NQ hn k2
  go_enter Tryz.func83,Tryz.ntmps83
  go_wp2_with fail;refine (NC.o _).mono ?_;rintro e w1 ⟨rfl,b1⟩;replace P:=Hy (P.o.keeps b1);have M:=Hy (Mx.of (B:=B) b1);clear b1 k0 k1 c0;go_wp2_with fail;refine (jN B l i a c 1 _ P.o).mono ?_;rintro e w3 ⟨u3,x3,l3,a3,c3,rfl,v3,pp,mm,af3⟩;have AF3:=Hy af3;clear af3;replace M:=Hy (M.o.nx mm);replace P:=Hy pp;clear pp mm;obtain ⟨rfl,zs3⟩:=v3;have ZS3:=Hy zs3;clear zs3;go_wp2_with fail;go_ret;exact ⟨_,x3.t,l3,a3,c3,rfl,rfl,P.o,M.o,by rw [NW.o];exact AF3.o.bind (.pure _ _ _ _)⟩
 have q1:(xk==1)=false:=bF hk;have NW:=Hy (NQ.o.trans (if_neg fun h=>hk h.1));have M:=Hy (Mx.refl w.heap.size B w);clear NQ k1 k2 hk
 go_enter Tryz.func83,Tryz.ntmps83
 go_wp2_with fail;refine (jN B l i a c 1 _ P.o).mono ?_;rintro e w3 ⟨u3,x3,l3,a3,c3,rfl,v3,pp,mm,af3⟩;have AF3:=Hy af3;clear af3;replace M:=Hy (M.o.nx mm);replace P:=Hy pp;clear pp mm;obtain ⟨rfl,zs3⟩:=v3;have ZS3:=Hy zs3;clear zs3;go_wp2_with fail;go_ret;exact ⟨_,x3.t,l3,a3,c3,rfl,rfl,P.o,M.o,by rw [NW.o];exact AF3.o.bind (.pure _ _ _ _)⟩
end rr
end Go.Proofs.YtbpijgddfaefkaaGreatDoor
