/-
  ParserModules: for all sources, of which the first 2000 bytes count, Module of package parser answers what the reference answers, and the examples are as written.
-/
import Derived.Test.YtbpijgddfaefkaaGreatDoorK35
set_option maxRecDepth 100000
set_option maxHeartbeats 16000000
namespace Go.Proofs.YtbpijgddfaefkaaGreatDoor
namespace rr
open Go.RowKit dec pa
theorem Qg {base g:Nat} {w w':World} {m:Mo} (h:Mm base g w m) (hb:Below w.heap.size w w'):Mm base g w' m:=by
 obtain ⟨tv,fv,ct,cf,b,r1,r2,e1,e2⟩:=h.ex;exact ⟨tv,fv,ct,cf,b.below hb b.lt,r1.keeps hb,r2.keeps hb,e1.map fun c x hq=>TbQ.kpT (ok:=fun _=>True) trivial trivial hq (aG hb),e2.map fun c x hq=>FeQ.kpT (ok:=fun _=>True) trivial trivial hq (aG hb)⟩
theorem Jd {ok:TypeId→Prop} {w w':World} {base:Nat} {v:Value} {l:List Pb} (hO:pb.Own w base v l) (K:KpT ok 0 w w') (h:ok 72):pb.Own w' base v l :=
 ⟨hO.1,hO.2.imp id fun ⟨k,cap,cur,e,hbg,hh,r⟩=>⟨k,cap,cur,e,hbg,(K k _ cur (0,0) zl h hh).trans hh,r⟩⟩
theorem wh {ok:TypeId→Prop} {w w':World} {ad:Option Addr} {n cap:Nat} {l:List Tk} (S:tk.Sl w ad n cap l) (hT:∀ b off,ad=some ⟨b,off,none⟩→Tg w b 69) (K:KpT ok 0 w w') (h:ok 69):tk.Sl w' ad n cap l :=
 { S with hat:=S.hat.imp id fun ⟨b,off,e,hC⟩=>⟨b,off,e,fun j hj=>⟨K.cell zl h (hT b off e) (hC j hj).1,K.cell zl h (hT b off e) (hC j hj).2.1,K.cell zl h (hT b off e) (hC j hj).2.2⟩⟩ }
theorem JA {C:Nat} {w:World} {c:List Value} {t:Tb} (h:TbQ C w c t):c.length=4∧∀ u ∈ c,u.oneCell'=true:=by
 obtain ⟨a,cap,rfl,_⟩:=h;simp [Value.oneCell']
theorem Mh {C:Nat} {w:World} {c:List Value} {t:Fe} (h:FeQ C w c t):c.length=18∧∀ u ∈ c,u.oneCell'=true:=by
 obtain ⟨ua,uc,ub,ud,aa,ac,rfl,_⟩:=h;simp [feC,Value.oneCell']
theorem ql {c:List Value} (h:∀ u ∈ c,u.oneCell'=true):c.toArray.all (·.oneCell')=true:=by
 simpa using h
structure Rf (w0:World) (base g:Nat) (w:World) (m:Mo):Prop where
 bel:Below w0.heap.size w0 w
 h1:w0.heap.size≤g
 h2:g<base
 h4:base≤w.heap.size
 mm:Mm base g w m
theorem Rf.keep {w0:World} {base g:Nat} {w w':World} {m:Mo} (h:Rf w0 base g w m) (hb:Below w.heap.size w w'):Rf w0 base g w' m:=⟨h.bel.trans (hb.mono h.bel.size),h.h1,h.h2,Nat.le_trans h.h4 hb.size,Qg h.mm hb⟩
def Kx (T:TypeId):TypeId→Prop:=fun U=>U≠T∧U≠27
theorem AX {T:TypeId} {k base g j:Nat} {w w1 w2:World} {v v':Value} {cs:List (List Value)} {mc:Array Value} (b1:Below w.heap.size w w1) (hb:Blk w g 27 mc) (hg:g<base) (h4:base≤w.heap.size) (r1:Rw T k w base v cs) (g2:w1.grownBy w2 v.ownBlock) :
    KpT (Kx T) 0 w (w2.setCell ⟨g,j,none⟩ v')∧Below base w1 w2∧Blk (w2.setCell ⟨g,j,none⟩ v') g 27 (mc.setIfInBounds j v')∧St g w2 (w2.setCell ⟨g,j,none⟩ v'):=by
 have s1:=b1.size;have K:KpT (fun U=>U≠T) 0 w1 w2:=Rw.grow (r1.keeps b1) g2 (by simp) 0;have B2:Below base w1 w2:=nA (r1.keeps b1) g2 (by omega);have bk:=((hb.below b1 hb.lt).below B2 hg).setCell j v';refine ⟨fun b U cs fr hC hT hcell=>?_,B2,bk⟩;have a1:=b1.block b (bR hcell);have a2:=K b U cs fr zl hT.1 (a1.trans hcell);refine (bk.2.block b ?_).trans (a2.trans a1);rintro rfl;rw [show w.heap[b]? = _ from hb] at hcell;cases hcell;exact hT.2 rfl
theorem Rf.pR {w0:World} {base g:Nat} {w w1 w2:World} {m:Mo} (h:Rf w0 base g w m) (b1:Below w.heap.size w w1) {tv fv v':Value} {ct cf:List (List Value)} (hb:Blk w g 27 #[tv,fv]) (r1:Rw 85 4 w base tv ct) (r2:Rw 88 18 w base fv cf)
    (e1:Each (TbQ base) w ct m.ts) (e2:Each (FeQ base) w cf m.fs) (g2:w1.grownBy w2 tv.ownBlock) {c:List Value} {x:Tb} (O2:Rw 85 4 w2 base v' (ct++[c])) (hc:TbQ base w c x) :
    Rf w0 base g (w2.setCell ⟨g,0,none⟩ v') { m with ts:=m.ts++[x] }∧KpT (Kx 85) 0 w (w2.setCell ⟨g,0,none⟩ v')∧Mx base g w (w2.setCell ⟨g,0,none⟩ v'):=by
 have h1:=h.h1;have h2:=h.h2;have h4:=h.h4;have s1:=b1.size;obtain ⟨KK,B2,hB,hs⟩:=AX (j:=0) (v':=v') b1 hb h2 h4 r1 g2;have s2:=B2.size;have s3:=hs.size;have K':∀ {ok:TypeId→Prop},(∀ T,ok T→Kx 85 T)→KpT ok base w (w2.setCell ⟨g,0,none⟩ v'):=fun hok=>KpT.mono KK hok zl;refine ⟨⟨(h.bel.trans (b1.mono h.bel.size)).trans ((B2.mono (by omega)).trans (hs.below h1)),h1,h2,by omega,⟨v',fv,ct++[c],cf,hB,O2.st hs h2,?_,?_,?_⟩⟩,KK,((Mx.of (b1.mono h4)).trans (.of B2)).trans (.st hs (.inl rfl))⟩
 ·exact Rw.kpT (ok:=fun T=>T=88) r2 (K' (by rintro T rfl;unfold Kx;decide)) rfl lr
 ·exact (e1.map fun c y hq=>TbQ.kpT (ok:=fun T=>T=55∨T=140) (.inl rfl) (.inr rfl) hq (K' (by rintro T (rfl | rfl) <;> unfold Kx <;> decide))).push (TbQ.kpT (ok:=fun T=>T=55∨T=140) (.inl rfl) (.inr rfl) hc (K' (by rintro T (rfl | rfl) <;> unfold Kx <;> decide)))
 exact e2.map fun c y hq=>FeQ.kpT (ok:=fun T=>T=55∨T=43) (.inl rfl) (.inr rfl) hq (K' (by rintro T (rfl | rfl) <;> unfold Kx <;> decide))
theorem Rf.Cz {w0:World} {base g:Nat} {w w1 w2:World} {m:Mo} (h:Rf w0 base g w m) (b1:Below w.heap.size w w1) {tv fv v':Value} {ct cf:List (List Value)} (hb:Blk w g 27 #[tv,fv]) (r1:Rw 85 4 w base tv ct) (r2:Rw 88 18 w base fv cf)
    (e1:Each (TbQ base) w ct m.ts) (e2:Each (FeQ base) w cf m.fs) (g2:w1.grownBy w2 fv.ownBlock) {c:List Value} {x:Fe} (O2:Rw 88 18 w2 base v' (cf++[c])) (hc:FeQ base w c x) :
    Rf w0 base g (w2.setCell ⟨g,1,none⟩ v') { m with fs:=m.fs++[x] }∧KpT (Kx 88) 0 w (w2.setCell ⟨g,1,none⟩ v')∧Mx base g w (w2.setCell ⟨g,1,none⟩ v'):=by
 have h1:=h.h1;have h2:=h.h2;have h4:=h.h4;have s1:=b1.size;obtain ⟨KK,B2,hB,hs⟩:=AX (j:=1) (v':=v') b1 hb h2 h4 r2 g2;have s2:=B2.size;have s3:=hs.size;have K':∀ {ok:TypeId→Prop},(∀ T,ok T→Kx 88 T)→KpT ok base w (w2.setCell ⟨g,1,none⟩ v'):=fun hok=>KpT.mono KK hok zl;refine ⟨⟨(h.bel.trans (b1.mono h.bel.size)).trans ((B2.mono (by omega)).trans (hs.below h1)),h1,h2,by omega,⟨tv,v',ct,cf++[c],hB,?_,O2.st hs h2,?_,?_⟩⟩,KK,((Mx.of (b1.mono h4)).trans (.of B2)).trans (.st hs (.inl rfl))⟩
 ·exact Rw.kpT (ok:=fun T=>T=85) r1 (K' (by rintro T rfl;unfold Kx;decide)) rfl lr
 ·exact e1.map fun c y hq=>TbQ.kpT (ok:=fun T=>T=55∨T=140) (.inl rfl) (.inr rfl) hq (K' (by rintro T (rfl | rfl) <;> unfold Kx <;> decide))
 exact (e2.map fun c y hq=>FeQ.kpT (ok:=fun T=>T=55∨T=43) (.inl rfl) (.inr rfl) hq (K' (by rintro T (rfl | rfl) <;> unfold Kx <;> decide))).push (FeQ.kpT (ok:=fun T=>T=55∨T=43) (.inl rfl) (.inr rfl) hc (K' (by rintro T (rfl | rfl) <;> unfold Kx <;> decide)))
theorem tJ {T ST:TypeId} {k bytes:Nat} {z:Value} (I:Inf T ST k bytes z) {ops:Array Oper} {rest:List Oper} {o:Oper} {a:Act} {w:World} {Q:Exit→Act→World→Prop} (x:Operand) (ho:o.op=.buildSlice ST 1 #[(0,x)]) (hgd:o.guard=none)
  (cells:Array Value) (hx:a.eval x=.agg cells) (hc:cells.size=k) (hk:k≤1024)
  (h:wpList Tryz.prog ops Q rest (a.put o.dst (.slice (some ⟨w.heap.size,0,none⟩) 1 1)) (w.alloc (.cells cells T))):wpList Tryz.prog ops Q (o :: rest) a w :=
 wpList_plain hgd fun _ hK=>bN I x ho cells hx hc hk (hK _ _ h)
theorem vP {T ST:TypeId} {k bytes:Nat} {z:Value} (I:Inf T ST k bytes z) (w:World) {ops:Array Oper} {rest:List Oper} {o:Oper} {a:Act} {Q:Exit→Act→World→Prop} (s x:Operand)
  (ho:o.op=.call { callee:=.builtin .append,args:=#[s,x],argTypes:=#[ST,ST] }) (hgd:o.guard=none)
  (base:Nat) (v:Value) (cs:List (List Value)) (hs:a.eval s=v) (hown:Rw T k w base v cs) (b:Nat) (T':TypeId) (ys:List Value) (hx:a.eval x=.slice (some ⟨b,0,none⟩) 1 1) (hB:Blk w b T' ys.toArray) (hy:ys.length=k) (h1:∀ u ∈ ys,u.oneCell'=true)
  (hn:cs.length<1048577) (hbase:base≤w.heap.size)
  (h:∀ v' w',Rw T k w' base v' (cs++[ys])→Below base w w'→w.grownBy w' v.ownBlock→wpList Tryz.prog ops Q rest (a.put o.dst v') w'):wpList Tryz.prog ops Q (o :: rest) a w :=
 wpList_plain hgd fun _ hK=>fV I w s x ho base v cs hs hown b T' ys hx hB hy h1 hn hbase fun v' w' h2 h3 h4=>hK _ _ (h v' w' h2 h3 h4)
theorem Aft.ill {α:Type} {r:Rs α} {l l':List Tk} {a a' c':Int} {x:α} (h:Aft r l a 0 x l' a' c') (hr:r≠.out) (hc:c'≠0):∃ q,r=.no a' c' q:=by
 unfold Aft at h;rw [if_pos rfl] at h
 cases r with
 | out=>exact absurd rfl hr
 | ok v q=>exact absurd h.2.2.2 hc
 | no b d q =>
   obtain ⟨rfl,rfl,_⟩:=h
   exact ⟨q,rfl⟩
theorem LM {m:Mo} {l l1:List Tk} {x:Tb} {a1 c1:Int} (ht:isT ⟨#[116,97,98,108,101]⟩ l=true) (af:Aft (ni l.tail) l.tail 0 0 x l1 a1 c1):(c1=0→bU m l=.ok { m with ts:=m.ts++[x] } l1)∧(c1≠0→∃ q,bU m l=.no a1 c1 q):=by
 have e:=Ji (m:=m) (l:=l);rw [if_pos ht] at e;have hne:ni l.tail≠.out:=fun h=>jI m l (by rw [e,h];rfl);refine ⟨fun hc=>?_,fun hc=>?_⟩
 ·subst hc;rw [e,(af.fine hne).2.1];rfl
 obtain ⟨q,hq⟩:=af.ill hne hc;exact ⟨q,by rw [e,hq];rfl⟩
theorem LP {m:Mo} {l l1:List Tk} {x:Fe} {a1 c1:Int} (ht:¬ isT ⟨#[116,97,98,108,101]⟩ l=true) (af:Aft (gu l) l 0 0 x l1 a1 c1):(c1=0→bU m l=.ok { m with fs:=m.fs++[x] } l1)∧(c1≠0→∃ q,bU m l=.no a1 c1 q):=by
 have e:=Ji (m:=m) (l:=l);rw [if_neg ht] at e;have hne:gu l≠.out:=fun h=>jI m l (by rw [e,h];rfl);refine ⟨fun hc=>?_,fun hc=>?_⟩
 ·subst hc;rw [e,(af.fine hne).2.1];rfl
 obtain ⟨q,hq⟩:=af.ill hne hc;exact ⟨q,by rw [e,hq];rfl⟩
structure Tq (l:List Tk):Prop where
 tl:Tl l
 pl:Prl l
 pw:l.Pairwise fun x y=>x.a<y.a
theorem MS {s:ByteArray} (hs:¬ 16384<s.size):Tq (aW s):=by
 refine ⟨iI hs,NV hs,?_⟩;rw [zR hs];obtain ⟨d1,d2,d3,d4,d5⟩:=uG 0 false s.data.toList;rw [aM,Nat.zero_add] at d3;refine List.pairwise_append.2 ⟨d1,List.pairwise_singleton _ _,fun t ht e he=>?_⟩;rw [List.mem_singleton.1 he];exact (d3 t ht).2
theorem JX {s:ByteArray} (hs:¬ 16384<s.size):pb.fE (dn s):=by
 obtain ⟨d1,d2,d3,d4,d5⟩:=uG 0 false s.data.toList;unfold dn pb.fE;rw [if_neg hs];exact (d2.sublist (List.take_sublist _ _)).imp fun h=>by omega
theorem Je {w:World} {B:Nat} {x:Value} {i:Bool} {a c:Int} (h:Blk w B 81 #[x,.bool i,.int .i64 a,.int .i64 c]):w.rangeAt B 2 [.int .i64 a,.int .i64 c]:=by
 intro j v hv
 match j,hv with
 | 0,hv=>rw [← hv];exact h.cell 2
 | 1,hv=>rw [← hv];exact h.cell 3
theorem zn (a0:Option Addr) (n0 cap:Nat) (s:ByteArray) (w:World) (hS:Bs w a0 n0 cap s) (he:dR s=0) (m9:Mo) (b9:List Pb) (hm:oO s=some (m9,b9)) :
    Calls Tryz.prog 8 #[.slice a0 n0 cap] w fun e w' => ∃ v u,e=.returned (.tuple #[v,u,.int .i64 0])∧Mov w.heap.size w' v m9∧Pbv w' u b9∧Below w.heap.size w w':=by
 have bb:=aj (b0 w) (.cells zM 27);have R:=Hy (Blk.new w 27 zM);have TC:=Hy (za a0 n0 cap s _ (hS.keeps bb));have BB:=Hy bb;have HM:=Hy hm;have hz:=Hy (jX he);clear hS bb hm
 go_enter Tryz.func8,Tryz.ntmps8
 go_wp2_with fail;refine TC.o.mono ?_;rintro e w2 ⟨vt,vb,rfl,Ot,Ob,b2⟩;have R2:=Hy (R.o.below b2 R.o.lt);have B2:=Hy (aD BB.o b2);have hs2:=Hy (show w.heap.size+1≤w2.heap.size from by have:=b2.size;simpa using this);obtain ⟨ta,tcap,rfl,St0⟩:=Ot.sl;have hT0:=Hy (N7 Ot);have pc:=aj (b0 w2) (.cells #[.slice none 0 0,.slice none 0 0] 27)
 have F3:=Hy (show Rf w (w2.heap.size+1) w2.heap.size (w2.alloc (.cells #[.slice none 0 0,.slice none 0 0] 27)) ⟨[],[]⟩ from
   ⟨aD B2.o pc,by have:=hs2.o;omega,Nat.lt_succ_self _,by simp,⟨.slice none 0 0,.slice none 0 0,[],[],Blk.new w2 _ _,Rw.nil _ _ _ _,Rw.nil _ _ _ _,Each.nil _ _,Each.nil _ _⟩⟩)
 have S3:=Hy (St0.keeps pc);have T3:=Hy (show ∀ b off,ta=some ⟨b,off,none⟩→Tg (w2.alloc (.cells #[.slice none 0 0,.slice none 0 0] 27)) b 69 from fun b off e=>by
   obtain ⟨cs,fr,ht⟩:=(hT0.o b off none e).2.2
   exact ⟨cs,fr,(pc.block b (bR ht)).trans ht⟩)
 have O3:=Hy ((Ob.keeps pc).less zl);have R3:=Hy (R2.o.below pc R2.o.lt);have Q3:=Hy (MS hz.o);have P3:=Hy (show (dn s).Perm (dn s)∧pb.fE (dn s) from ⟨.refl _,JX hz.o⟩);have hlen:=Hy (show ([]:List Tb).length+([]:List Fe).length+(aW s).length≤1048576∧(dn s).length+(aW s).length≤1048608 from by
   have h1:=(iI hz.o).ln
   have h2:(dn s).length≤32:=by unfold dn;split <;> simp [List.length_take];omega
   exact ⟨by simpa using h1,by omega⟩)
 rw [he];clear pc Ot Ob St0 TC R R2 BB hT0 b2;go_wp2_with fail;generalize w2.alloc (.cells #[.slice none 0 0,.slice none 0 0] 27)=w3 at *
 go_loopg [5,6] ((aW s).length+1) (fun k v5 v6 wr => ∃ (m:Mo) (b p:List Pb) (l:List Tk) (ad:Option Addr) (n c:Nat),v5=.slice ad n c∧Hid (Rf w (w2.heap.size+1) w2.heap.size wr m)∧Hid (tk.Sl wr ad n c l)∧Hid (∀ b off,ad=some ⟨b,off,none⟩→Tg wr b 69)∧Hid (Tq l)∧Hid (pb.Own wr 0 v6 p)∧Hid (p.Perm b∧pb.fE p)∧Hid (Blk wr w.heap.size 27 zM)∧Hid (eT k m b l=some (m9,b9))∧Hid (m.ts.length+m.fs.length+l.length≤1048576∧b.length+l.length≤1048608))
 case atStart=>exact ⟨⟨[],[]⟩,dn s,dn s,aW s,ta,_,tcap,rfl,F3,S3,T3,Q3,O3,P3,R3,HM,hlen⟩
 case round =>
  clear F3 S3 T3 Q3 O3 P3 R3 HM hlen;obtain ⟨m,b,p,l,ad,n,c,rfl,F,S,T,Q,O,P,R,HM,hlen⟩:=hrel;rcases gk with _ | gk
  ·exact absurd HM.o (by simp [eT])
  obtain ⟨tb,toff,rfl,n1,n2,n3,k0,k1,k2,_⟩:=xC S.o Q.o.tl;have i1:(0:Int)<(n:Int):=by omega
  have i2:0<n:=by omega
  clear k1 k2 n1 n2 n3;by_cases h6:(hd l).k=6
  ·have q1:((hd l).k != 6)=false:=by simp [h6]
   obtain ⟨rfl,rfl⟩:m=m9∧b=b9:=by simpa [eT,h6] using HM.o
   clear h6 HM;generalize (hd l).k=kk at *;obtain ⟨pa6,pc6,rfl,S6⟩:=O.o.sl;have hpl:=Hy P.o.1.length_eq;have hcap:=Hy S6.hcap;replace S6:=Hy S6;obtain ⟨tv,fv,ct,cf,bM,r1,r2,e1,e2⟩:=F.o.mm.ex;obtain ⟨ra,rc,rfl,RA⟩:=r1.row e1.1 e1.2;obtain ⟨fa,fc,rfl,FA⟩:=r2.row e2.1 e2.2;have hbel:=Hy F.o.bel;have hbase:=Hy (show w.heap.size<w2.heap.size+1 from by have:=hs2.o;omega);have hng:=Hy (show w.heap.size≠w2.heap.size from by have:=hs2.o;omega);have hne:=Hy (show ∀ x,pa6=some x→p.length≠0→x.block≠w.heap.size from fun x hx hp=>by
     rcases O.o.o with ⟨h1,h2⟩ | ⟨g,cp,h1,_⟩
     · rw [h2] at hp
       exact absurd rfl hp
     · injection h1 with h1 _ _
       rw [hx] at h1
       injection h1 with h1
       rw [h1]
       rintro rfl
       rcases O.o.2 with ⟨h3,_⟩ | ⟨g',_,_,h3,_,hh,_⟩
       · injection h3 with h3
         rw [hx] at h3
         cases h3
       · injection h3 with h3
         rw [hx,h1] at h3
         injection h3 with h3
         injection h3 with h3
         rw [← h3,show _=_ from R.o] at hh
         cases hh)
   replace RA:=Hy RA;replace FA:=Hy FA;have bM2:=Hy bM;clear r1 r2 e1 e2 F O S T Q bM;rcases (show (decide ((32:Int)<(p.length:Int))=false∧p.length≤32)∨(decide ((32:Int)<(p.length:Int))=true∧32<p.length) from by
     rcases Nat.lt_or_ge 32 p.length with h | h
     · exact .inr ⟨dT (by omega),h⟩
     · exact .inl ⟨dF (by omega),h⟩) with ⟨q2,h32⟩ | ⟨q2,h32⟩
   all_goals
    have HP:=Hy h32;have sl:32≤p.length→∀ W,(Instr.slice 28 (.slice pa6 p.length pc6) none (some (.int .i64 32)) none).run Tryz.prog W=.ok (.slice pa6 32 pc6) W:=fun h W=>oG pa6 p.length pc6 32 h hcap.o W
    first
    | have sl2:=sl (Nat.le_of_lt h32)
    | skip
    clear h32 sl;go_wp2_with (first | (refine aH jr Tryz.underlying27 rfl (.tmp 8) rfl rfl _ _ _ rfl bM2.o rfl ?_) | (refine aA jr (.tmp 2) (.tmp 88) rfl rfl _ _ _ _ rfl rfl R.o rfl rfl (by simp [Value.oneCell']) ?_;intro w9 hb9 hs9));have K9:Kp (w2.heap.size+1) wr w9:=hs9.kp hbase.o;refine gD jr Tryz.underlying27 rfl rfl _ _ _ _ _ rfl hb9 rfl ?_;refine ⟨_,_,rfl,⟨ra,rc,fa,fc,rfl,(RA.o.kpT trivial K9 fun c x hq=>TbQ.kpT trivial trivial hq K9).less (Nat.le_of_lt hbase.o) fun c x hq=>hq.less (Nat.le_of_lt hbase.o),(FA.o.kpT trivial K9 fun c x hq=>FeQ.kpT trivial trivial hq K9).less (Nat.le_of_lt hbase.o) fun c x hq=>hq.less (Nat.le_of_lt hbase.o)⟩,⟨p,pa6,pc6,P.o.1,P.o.2,?_,?_,?_,?_,S6.o.hmax,S6.o.hno⟩,hbel.o.trans (hs9.below lr)⟩
    ·have:=hpl.o;have:=HP.o
     first
     | exact congrArg (fun k=>Value.slice pa6 k pc6) (show p.length=min b.length 32 by omega)
     | exact congrArg (fun k=>Value.slice pa6 k pc6) (show 32=min b.length 32 by omega)
    ·rcases S6.o.hat with h0 | ⟨bk,off,ea,hC⟩
     ·exact .inl (by rw [List.length_take];omega)
     by_cases hp0:p.length=0
     ·exact .inl (by rw [List.length_take];omega)
     refine .inr ⟨bk,off,ea,fun j hj=>?_⟩;have hbk:=hs9.block bk (hne.o _ ea hp0);have:=hC.take 32 j hj;exact ⟨(World.cell?_of_block (w:=wr) hbk).trans this.1,(World.cell?_of_block (w:=wr) hbk).trans this.2⟩
    ·rw [List.length_take,hpl.o];omega
    have:=hcap.o;have:=hpl.o;omega
  have q1:((hd l).k != 6)=true:=by simp [h6]
  have HM2:=HM.o;rw [eT,if_neg h6] at HM2;replace HM2:=Hy HM2;have H6:=Hy h6;obtain ⟨hwd,hwa⟩:∃ x,(hd l).k=x:=⟨_,rfl⟩;rw [hwa] at k0 q1;clear h6 HM hwa;have pc:=aj (b0 wr) (.cells #[.slice (some ⟨tb,toff,none⟩) n c,.bool false,.int .i64 0,.int .i64 0] 81)
  have PR:=Hy (show Rp (wr.alloc (.cells #[.slice (some ⟨tb,toff,none⟩) n c,.bool false,.int .i64 0,.int .i64 0] 81)) wr.heap.size l false 0 0 from
    ⟨⟨some ⟨tb,toff,none⟩,n,c,Blk.new wr _ _,S.o.keeps pc,fun b off s e=>by
      cases e
      obtain ⟨cs,fr,ht⟩:=T.o tb toff rfl
      exact ⟨bR ht,cs,fr,(pc.block tb (bR ht)).trans ht⟩⟩,Q.o.tl,Q.o.pl⟩)
  have BR:=Hy pc;clear pc;cases hf:fnd ⟨#[116,97,98,108,101]⟩ l 0
  ·have hT:=Hy (fun h=>bS hf ⟨rfl,h⟩);go_wp2_with fail;generalize wr.alloc (.cells #[.slice (some ⟨tb,toff,none⟩) n c,.bool false,.int .i64 0,.int .i64 0] 81)=w1 at *;refine (bD wr.heap.size l false 0 0 1 ⟨#[116,97,98,108,101]⟩ pw35 (by decide) _ PR.o hf).mono ?_;rintro e w4 ⟨rfl,pp,mm⟩;clear hf;replace BR:=Hy (BR.o.trans (mm.below lr BR.o.size));replace PR:=Hy pp;have hsz:=Hy (Nat.le_trans F.o.h4 BR.o.size);clear pp mm;go_wp2_with fail;refine (FL wr.heap.size l false 0 0 _ PR.o rfl).mono ?_;rintro e w5 ⟨u,x,l1,a1,c1,rfl,⟨cs,rfl,hq⟩,pp,mm,af⟩;have IT:=Hy (LP (m:=m) hT.o af);replace BR:=Hy (BR.o.trans (mm.below lr BR.o.size));replace PR:=Hy pp;have hrow:=Hy (Mh hq);have HQ:=Hy (hq.less hsz.o);clear pp mm af hq hT hsz;have FF:=Hy (F.o.keep BR.o);have SK:=Hy (S.o.keeps BR.o);have TK:=Hy (show ∀ b off,(some ⟨tb,toff,none⟩:Option Addr)=some ⟨b,off,none⟩→Tg w5 b 69 from fun b off e=>by
     obtain ⟨cs,fr,ht⟩:=T.o b off e
     exact ⟨cs,fr,(BR.o.block b (bR ht)).trans ht⟩)
   replace O:=Hy (O.o.keeps BR.o);replace R:=Hy (R.o.below BR.o R.o.lt);have hbr:=Hy (show wr.heap.size<w5.heap.size from PR.o.lt);clear F S T i1 i2 BR;by_cases hc1:c1=0
   ·subst hc1;have GI:=Hy (IT.o.1 rfl);have HM3:=Hy (show eT gk { m with fs:=m.fs++[x] } b l1=some (m9,b9) from by have:=HM2.o;rw [GI.o] at this;exact this);have h1:=Hy (mK GI.o);have h2:=Hy (qJ GI.o);have Q1:=Hy (show Tq l1 from ⟨PR.o.tl,PR.o.pl,Q.o.pw.sublist (by have:=jE m l;rw [GI.o] at this;exact this.sublist)⟩);obtain ⟨tv,fv,ct,cf,hb,r1,r2,e1,e2⟩:=FF.o.mm.ex;have hn:=Hy (show cf.length<1048577 from by rw [e2.1];have:=hlen.o;omega);replace hb:=Hy hb;replace r1:=Hy r1;replace r2:=Hy r2;replace e1:=Hy e1;replace e2:=Hy e2;clear IT HM2 GI Q SK TK;go_wp2_with (first | (refine aA gQ (.tmp 11) (.tmp 47) rfl rfl _ _ _ _ rfl rfl (Blk.new _ _ _) rfl (by simpa using hrow.o.1) (ql hrow.o.2) ?_;intro w6 LB hs;have b4:=(aj (b0 w5) _).trans (hs.below lr);replace LB:=Hy LB;replace PR:=Hy (PR.o.keeps b4);obtain ⟨ad1,n1,cap1,HB,S1,hn1⟩:=PR.o.mem;have e3:w6.cell? ⟨wr.heap.size,3,none⟩=some (.int .i64 0):=HB.cell 3;replace HB:=Hy HB;replace S1:=Hy S1;replace hn1:=Hy hn1;replace O:=Hy (O.o.keeps b4);replace R:=Hy (R.o.below b4 R.o.lt);replace FF:=Hy (FF.o.keep b4);replace hb:=Hy (hb.o.below b4 hb.o.lt);replace r1:=Hy (r1.o.keeps b4);replace r2:=Hy (r2.o.keeps b4);replace e1:=Hy (e1.o.map fun c x hq=>TbQ.kpT (ok:=fun _=>True) trivial trivial hq (aG b4));replace e2:=Hy (e2.o.map fun c x hq=>FeQ.kpT (ok:=fun _=>True) trivial trivial hq (aG b4));replace HQ:=Hy (FeQ.kpT (ok:=fun _=>True) trivial trivial HQ.o (aG b4));have k0:w6.cell? ⟨w2.heap.size,1,none⟩=some fv:=hb.o.cell 1;clear b4 hs) | (refine aH gQ Tryz.underlying88 rfl (.tmp 11) rfl rfl _ _ _ rfl LB.o (by simpa using hrow.o.1) ?_) | (refine tJ gM (.tmp 56) rfl rfl cs.toArray rfl (by simpa using hrow.o.1) (by decide) ?_) | (at_builtin;refine vP gM _ (.tmp 55) (.tmp 57) rfl rfl (w2.heap.size+1) fv cf rfl (r2.o.keeps (aj (b0 w6) _)) w6.heap.size 88 cs rfl (Blk.new _ _ _) hrow.o.1 hrow.o.2 hn.o (by have:=FF.o.h4;simp;omega) ?_;intro v' w9 O9 b9 g9;obtain ⟨av,nv,cv,rfl⟩:=O9.val;have pf:=Hy (FF.o.Cz (aj (b0 w6) _) hb.o r1.o r2.o e1.o e2.o g9 O9 HQ.o);have hB9:Blk w9 w2.heap.size 27 #[tv,fv]:=(hb.o.below (aj (b0 w6) _) hb.o.lt).below b9 ls;have k9:w9.cell? ⟨w2.heap.size,1,none⟩=some fv:=hB9.cell 1;have z9:=hB9.free 1;replace O:=Hy (Jd O.o pf.o.2.1 (by unfold Kx;decide));replace R:=Hy (gG R.o pf.o.2.2 (by have:=hs2.o;omega) (by have:=hs2.o;omega));replace HB:=Hy (show Blk _ wr.heap.size 81 _ from (pf.o.2.1 _ _ _ _ zl (by unfold Kx;decide) HB.o).trans HB.o);replace S1:=Hy (wh S1.o (fun b off e=>(hn1.o b off none e).2) pf.o.2.1 (by unfold Kx;decide));have TK1:=Hy (show ∀ b off,ad1=some ⟨b,off,none⟩→Tg _ b 69 from fun b off e=>pf.o.2.1.tg zl (by unfold Kx;decide) (hn1.o b off none e).2);have F9:=Hy pf.o.1;have e3':(w9.setCell ⟨w2.heap.size,1,none⟩ (.slice av nv cv)).cell? ⟨wr.heap.size,3,none⟩=some (.int .i64 0):=HB.o.cell 3;have e0:(w9.setCell ⟨w2.heap.size,1,none⟩ (.slice av nv cv)).cell? ⟨wr.heap.size,0,none⟩=some (.slice ad1 n1 cap1):=HB.o.cell 0;clear hB9 b9 g9 pf k0 e3));go_roundg gk
    case measure=>omega
    case rel=>exact ⟨{ m with fs:=m.fs++[x] },b,p,l1,ad1,n1,cap1,rfl,F9,S1,TK1,Q1,O,P,R,HM3,Hy (by have:=hlen.o;have:=h1.o;have h3:=h2.o;simp only [List.length_append,List.length_singleton] at h3 ⊢;omega)⟩
   have q2:(c1==0)=false:=bF hc1;obtain ⟨qq,GQ⟩:=IT.o.2 hc1;have GI:=Hy GQ;have HM3:=Hy (show eT gk m (b++[(a1,c1)]) (lvR qq)=some (m9,b9) from by have:=HM2.o;rw [GQ] at this;exact this);have h1:=Hy (oP GQ H6.o);have hbh:=Hy (Jp Q.o.pl Q.o.pw GQ);have hsx:=Hy (show lvR qq <:+ l from by have:=jE m l;rw [GQ] at this;exact (pV qq).trans this.2);clear IT HM2 GQ hc1 HQ;obtain ⟨pa6,pc6,rfl,S6⟩:=O.o.sl;replace S6:=Hy S6;have hpl:=Hy P.o.1.length_eq;go_wp2_with (first | (refine aA gQ (.tmp 11) (.tmp 47) rfl rfl _ _ _ _ rfl rfl (Blk.new _ _ _) rfl (by simpa using hrow.o.1) (ql hrow.o.2) ?_;intro w6 LB hs;have b4:=(aj (b0 w5) _).trans (hs.below lr);have B4:=Hy b4;replace PR:=Hy (PR.o.keeps b4);clear b4 hs LB;obtain ⟨ad1,n1,cap1,HB,_,_⟩:=PR.o.mem;have e3:w6.cell? ⟨wr.heap.size,3,none⟩=some (.int .i64 c1):=HB.cell 3;have e2:w6.cell? ⟨wr.heap.size,2,none⟩=some (.int .i64 a1):=HB.cell 2;replace HB:=Hy HB) | (refine wpList_load_mid rfl 72 (.tmp 73) rfl wr.heap.size 2 rfl [.int .i64 a1,.int .i64 c1] _ (Je HB.o) Tryz.underlying72 rfl sO ?_));refine (wO pa6 p.length pc6 p (a1,c1) _ (S6.o.keeps B4.o) (by have:=hpl.o;have:=hlen.o;omega)).mono ?_;rintro e w7 ⟨v7,j,rfl,PT,O7,b7⟩;have B7:=Hy (B4.o.trans (b7.mono B4.o.size));have O8:=Hy (O7.less zl);have P8:=Hy (show (p.take j++[(a1,c1)]++p.drop j).Perm (b++[(a1,c1)])∧pb.fE (p.take j++[(a1,c1)]++p.drop j) from ⟨xV.trans (P.o.1.append_right _),Am PT P.o.2⟩);have e2':w7.cell? ⟨wr.heap.size,2,none⟩=some (.int .i64 a1):=dec.keeps b7 e2;clear PT O7 b7 e2 e3;go_wp2_with fail;refine (tF _ n c l a1 _ (SK.o.keeps B7.o) Q.o.tl).mono ?_;rintro e w8 ⟨ad8,n8,cap8,rfl,rfl,S8,TL8,hE8⟩;rw [hbh.o] at S8 TL8;have S9:=Hy S8;have Q9:=Hy (show Tq (lvR qq) from ⟨TL8,fun x hx=>Q.o.pl x (hsx.o.subset hx),Q.o.pw.sublist hsx.o.sublist⟩);have T9:=Hy (show ∀ b off,ad8=some ⟨b,off,none⟩→Tg w8 b 69 from fun b off e=>by
     obtain ⟨o,eo⟩:=hE8 b off e
     obtain ⟨cs,fr,ht⟩:=TK.o b o eo
     exact ⟨cs,fr,(B7.o.block b (bR ht)).trans ht⟩)
   have F9:=Hy (FF.o.keep B7.o);replace R:=Hy (R.o.below B7.o R.o.lt);clear S8 TL8 hE8 e2';go_wp2_with fail;go_roundg gk
   case measure=>omega
   case rel=>exact ⟨m,b++[(a1,c1)],_,lvR qq,ad8,n8,cap8,rfl,F9,S9,T9,Q9,O8,P8,R,HM3,Hy (by have:=hlen.o;have:=h1.o;rw [List.length_append,List.length_singleton];omega)⟩
  have hT:=Hy ((bg hf).2);go_wp2_with fail;generalize wr.alloc (.cells #[.slice (some ⟨tb,toff,none⟩) n c,.bool false,.int .i64 0,.int .i64 0] 81)=w1 at *;refine (bC wr.heap.size l false 0 0 1 ⟨#[116,97,98,108,101]⟩ pw35 (by decide) _ PR.o hf).mono ?_;rintro e w4 ⟨rfl,pp,mm⟩;clear hf;replace BR:=Hy (BR.o.trans (mm.below lr BR.o.size));replace PR:=Hy pp;have hsz:=Hy (Nat.le_trans F.o.h4 BR.o.size);clear pp mm;go_wp2_with fail;refine (JC wr.heap.size l.tail false 0 0 _ PR.o).mono ?_;rintro e w5 ⟨u,x,l1,a1,c1,rfl,⟨cs,rfl,hq⟩,pp,mm,af⟩;have IT:=Hy (LM (m:=m) hT.o af);replace BR:=Hy (BR.o.trans (mm.below lr BR.o.size));replace PR:=Hy pp;have hrow:=Hy (JA hq);have HQ:=Hy (hq.less hsz.o);clear pp mm af hq hT hsz;have FF:=Hy (F.o.keep BR.o);have SK:=Hy (S.o.keeps BR.o);have TK:=Hy (show ∀ b off,(some ⟨tb,toff,none⟩:Option Addr)=some ⟨b,off,none⟩→Tg w5 b 69 from fun b off e=>by
    obtain ⟨cs,fr,ht⟩:=T.o b off e
    exact ⟨cs,fr,(BR.o.block b (bR ht)).trans ht⟩)
  replace O:=Hy (O.o.keeps BR.o);replace R:=Hy (R.o.below BR.o R.o.lt);have hbr:=Hy (show wr.heap.size<w5.heap.size from PR.o.lt);clear F S T i1 i2 BR;by_cases hc1:c1=0
  ·subst hc1;have GI:=Hy (IT.o.1 rfl);have HM3:=Hy (show eT gk { m with ts:=m.ts++[x] } b l1=some (m9,b9) from by have:=HM2.o;rw [GI.o] at this;exact this);have h1:=Hy (mK GI.o);have h2:=Hy (qJ GI.o);have Q1:=Hy (show Tq l1 from ⟨PR.o.tl,PR.o.pl,Q.o.pw.sublist (by have:=jE m l;rw [GI.o] at this;exact this.sublist)⟩);obtain ⟨tv,fv,ct,cf,hb,r1,r2,e1,e2⟩:=FF.o.mm.ex;have hn:=Hy (show ct.length<1048577 from by rw [e1.1];have:=hlen.o;omega);replace hb:=Hy hb;replace r1:=Hy r1;replace r2:=Hy r2;replace e1:=Hy e1;replace e2:=Hy e2;clear IT HM2 GI Q SK TK;go_wp2_with (first | (refine aA dx (.tmp 10) (.tmp 33) rfl rfl _ _ _ _ rfl rfl (Blk.new _ _ _) rfl (by simpa using hrow.o.1) (ql hrow.o.2) ?_;intro w6 LB hs;have b4:=(aj (b0 w5) _).trans (hs.below lr);replace LB:=Hy LB;replace PR:=Hy (PR.o.keeps b4);obtain ⟨ad1,n1,cap1,HB,S1,hn1⟩:=PR.o.mem;have e3:w6.cell? ⟨wr.heap.size,3,none⟩=some (.int .i64 0):=HB.cell 3;replace HB:=Hy HB;replace S1:=Hy S1;replace hn1:=Hy hn1;replace O:=Hy (O.o.keeps b4);replace R:=Hy (R.o.below b4 R.o.lt);replace FF:=Hy (FF.o.keep b4);replace hb:=Hy (hb.o.below b4 hb.o.lt);replace r1:=Hy (r1.o.keeps b4);replace r2:=Hy (r2.o.keeps b4);replace e1:=Hy (e1.o.map fun c x hq=>TbQ.kpT (ok:=fun _=>True) trivial trivial hq (aG b4));replace e2:=Hy (e2.o.map fun c x hq=>FeQ.kpT (ok:=fun _=>True) trivial trivial hq (aG b4));replace HQ:=Hy (TbQ.kpT (ok:=fun _=>True) trivial trivial HQ.o (aG b4));have k0:w6.cell? ⟨w2.heap.size,0,none⟩=some tv:=hb.o.cell 0;clear b4 hs) | (refine aH dx Tryz.underlying85 rfl (.tmp 10) rfl rfl _ _ _ rfl LB.o (by simpa using hrow.o.1) ?_) | (refine tJ bV (.tmp 42) rfl rfl cs.toArray rfl (by simpa using hrow.o.1) (by decide) ?_) | (at_builtin;refine vP bV _ (.tmp 41) (.tmp 43) rfl rfl (w2.heap.size+1) tv ct rfl (r1.o.keeps (aj (b0 w6) _)) w6.heap.size 85 cs rfl (Blk.new _ _ _) hrow.o.1 hrow.o.2 hn.o (by have:=FF.o.h4;simp;omega) ?_;intro v' w9 O9 b9 g9;obtain ⟨av,nv,cv,rfl⟩:=O9.val;have pf:=Hy (FF.o.pR (aj (b0 w6) _) hb.o r1.o r2.o e1.o e2.o g9 O9 HQ.o);have hB9:Blk w9 w2.heap.size 27 #[tv,fv]:=(hb.o.below (aj (b0 w6) _) hb.o.lt).below b9 ls;have k9:w9.cell? ⟨w2.heap.size,0,none⟩=some tv:=hB9.cell 0;have z9:=hB9.free 0;replace O:=Hy (Jd O.o pf.o.2.1 (by unfold Kx;decide));replace R:=Hy (gG R.o pf.o.2.2 (by have:=hs2.o;omega) (by have:=hs2.o;omega));replace HB:=Hy (show Blk _ wr.heap.size 81 _ from (pf.o.2.1 _ _ _ _ zl (by unfold Kx;decide) HB.o).trans HB.o);replace S1:=Hy (wh S1.o (fun b off e=>(hn1.o b off none e).2) pf.o.2.1 (by unfold Kx;decide));have TK1:=Hy (show ∀ b off,ad1=some ⟨b,off,none⟩→Tg _ b 69 from fun b off e=>pf.o.2.1.tg zl (by unfold Kx;decide) (hn1.o b off none e).2);have F9:=Hy pf.o.1;have e3':(w9.setCell ⟨w2.heap.size,0,none⟩ (.slice av nv cv)).cell? ⟨wr.heap.size,3,none⟩=some (.int .i64 0):=HB.o.cell 3;have e0:(w9.setCell ⟨w2.heap.size,0,none⟩ (.slice av nv cv)).cell? ⟨wr.heap.size,0,none⟩=some (.slice ad1 n1 cap1):=HB.o.cell 0;clear hB9 b9 g9 pf k0 e3));go_roundg gk
   case measure=>omega
   case rel=>exact ⟨{ m with ts:=m.ts++[x] },b,p,l1,ad1,n1,cap1,rfl,F9,S1,TK1,Q1,O,P,R,HM3,Hy (by have:=hlen.o;have:=h1.o;have h3:=h2.o;simp only [List.length_append,List.length_singleton] at h3 ⊢;omega)⟩
  have q2:(c1==0)=false:=bF hc1;obtain ⟨qq,GQ⟩:=IT.o.2 hc1;have GI:=Hy GQ;have HM3:=Hy (show eT gk m (b++[(a1,c1)]) (lvR qq)=some (m9,b9) from by have:=HM2.o;rw [GQ] at this;exact this);have h1:=Hy (oP GQ H6.o);have hbh:=Hy (Jp Q.o.pl Q.o.pw GQ);have hsx:=Hy (show lvR qq <:+ l from by have:=jE m l;rw [GQ] at this;exact (pV qq).trans this.2);clear IT HM2 GQ hc1 HQ;obtain ⟨pa6,pc6,rfl,S6⟩:=O.o.sl;replace S6:=Hy S6;have hpl:=Hy P.o.1.length_eq;go_wp2_with (first | (refine aA dx (.tmp 10) (.tmp 33) rfl rfl _ _ _ _ rfl rfl (Blk.new _ _ _) rfl (by simpa using hrow.o.1) (ql hrow.o.2) ?_;intro w6 LB hs;have b4:=(aj (b0 w5) _).trans (hs.below lr);have B4:=Hy b4;replace PR:=Hy (PR.o.keeps b4);clear b4 hs LB;obtain ⟨ad1,n1,cap1,HB,_,_⟩:=PR.o.mem;have e3:w6.cell? ⟨wr.heap.size,3,none⟩=some (.int .i64 c1):=HB.cell 3;have e2:w6.cell? ⟨wr.heap.size,2,none⟩=some (.int .i64 a1):=HB.cell 2;replace HB:=Hy HB) | (refine wpList_load_mid rfl 72 (.tmp 73) rfl wr.heap.size 2 rfl [.int .i64 a1,.int .i64 c1] _ (Je HB.o) Tryz.underlying72 rfl sO ?_));refine (wO pa6 p.length pc6 p (a1,c1) _ (S6.o.keeps B4.o) (by have:=hpl.o;have:=hlen.o;omega)).mono ?_;rintro e w7 ⟨v7,j,rfl,PT,O7,b7⟩;have B7:=Hy (B4.o.trans (b7.mono B4.o.size));have O8:=Hy (O7.less zl);have P8:=Hy (show (p.take j++[(a1,c1)]++p.drop j).Perm (b++[(a1,c1)])∧pb.fE (p.take j++[(a1,c1)]++p.drop j) from ⟨xV.trans (P.o.1.append_right _),Am PT P.o.2⟩);have e2':w7.cell? ⟨wr.heap.size,2,none⟩=some (.int .i64 a1):=dec.keeps b7 e2;clear PT O7 b7 e2 e3;go_wp2_with fail;refine (tF _ n c l a1 _ (SK.o.keeps B7.o) Q.o.tl).mono ?_;rintro e w8 ⟨ad8,n8,cap8,rfl,rfl,S8,TL8,hE8⟩;rw [hbh.o] at S8 TL8;have S9:=Hy S8;have Q9:=Hy (show Tq (lvR qq) from ⟨TL8,fun x hx=>Q.o.pl x (hsx.o.subset hx),Q.o.pw.sublist hsx.o.sublist⟩);have T9:=Hy (show ∀ b off,ad8=some ⟨b,off,none⟩→Tg w8 b 69 from fun b off e=>by
    obtain ⟨o,eo⟩:=hE8 b off e
    obtain ⟨cs,fr,ht⟩:=TK.o b o eo
    exact ⟨cs,fr,(B7.o.block b (bR ht)).trans ht⟩)
  have F9:=Hy (FF.o.keep B7.o);replace R:=Hy (R.o.below B7.o R.o.lt);clear S8 TL8 hE8 e2';go_wp2_with fail;go_roundg gk
  case measure=>omega
  case rel=>exact ⟨m,b++[(a1,c1)],_,lvR qq,ad8,n8,cap8,rfl,F9,S9,T9,Q9,O8,P8,R,HM3,Hy (by have:=hlen.o;have:=h1.o;rw [List.length_append,List.length_singleton];omega)⟩
end rr
namespace pa
open Go.RowKit dec
theorem EZ (s:ByteArray):∃ m b,oO s=some (m,b):=by
 cases h:oO s with
 | none=>exact absurd h (uz _ _ _ _ ls)
 | some x=>exact ⟨x.1,x.2,rfl⟩
theorem rH {C:Nat} {w w':World} {a:Option Addr} {l:List Tb} (h:RowAt 85 4 C (TbQ C) w a l) (b:Below w.heap.size w w'):RowAt 85 4 C (TbQ C) w' a l:=h.kpT (ok:=fun _=>True) trivial (aG b) fun _ _ hq=>TbQ.kpT (ok:=fun _=>True) trivial trivial hq (aG b)
theorem sQ {C:Nat} {w w':World} {a:Option Addr} {l:List Fe} (h:RowAt 88 18 C (FeQ C) w a l) (b:Below w.heap.size w w'):RowAt 88 18 C (FeQ C) w' a l:=h.kpT (ok:=fun _=>True) trivial (aG b) fun _ _ hq=>FeQ.kpT (ok:=fun _=>True) trivial trivial hq (aG b)
theorem wS (a0:Option Addr) (n0 c0:Nat) (s0:ByteArray) (w:World) (hS0:Bs w a0 n0 c0 s0) (T:Tabs w) (EXA:ExA) :
    Calls Tryz.prog 3 #[.slice a0 n0 c0] w fun e w' => e=.returned (.bool true)∧Below w.heap.size w w':=by
 have T0:=Hy T;have EX:=Hy EXA;have FW:=Hy (Mg a0 n0 c0 2000 s0 w hS0);have X0:=Hy (OW hS0 2000);have hz:(nP 2000 s0).size≤2000:=FJ _ _;obtain ⟨x,hx⟩:∃ x,nP 2000 s0=x:=⟨_,rfl⟩;rw [hx] at FW X0 hz;have hs:¬ 16384<x.size:=by omega
 have he:=Hy (show dR x=0 from if_neg hs);obtain ⟨m9,b9,hm⟩:=EZ x;have SM:=Hy (Lj hs hm);have DD:=Hy (He hs hm);have HM:=Hy hm;clear T EXA hS0 hx hz hs hm
 go_enter Tryz.func3,Tryz.ntmps3
 go_wp2_with fail;refine FW.o.mono ?_;rintro e w0 ⟨rfl,hw0⟩;subst w0;clear FW;go_wp2_with fail;refine (rZ _ _ _ x _ X0.o T0.o he.o m9 b9 HM.o).mono ?_;rintro e w1 ⟨v,u,rfl,⟨ta1,tc1,fa1,fc1,rfl,RA,FA⟩,⟨p1,pa1,pc1,hp1,hs1,rfl,S1⟩,b⟩;have RA1:=Hy RA;have FA1:=Hy FA;replace S1:=Hy S1;have H1:=Hy (And.intro hp1 hs1);have B1:=Hy b;clear b RA FA hp1 hs1;go_wp2_with (refine aA jr (.tmp 4) (.tmp 15) rfl rfl _ _ _ _ rfl rfl (Blk.new _ _ _) rfl rfl (by simp [Value.oneCell']) ?_;intro w2 L s3;have b:=(aj (b0 w1) _).trans (s3.below lr);have L4:=Hy L;replace B1:=Hy (aD B1.o b);replace RA1:=Hy (rH RA1.o b);replace FA1:=Hy (sQ FA1.o b);replace S1:=Hy (S1.o.keeps b);clear L s3 b);refine (rr.zn _ _ _ x _ (X0.o.keeps B1.o) he.o m9 b9 HM.o).mono ?_;rintro e w3 ⟨v,u,rfl,⟨ta2,tc2,fa2,fc2,rfl,RA,FA⟩,⟨p2,pa2,pc2,hp2,hs2,rfl,S2⟩,b⟩;obtain rfl:p2=p1:=Nl hp2 H1.o.1 hs2 H1.o.2 DD.o;have RA2:=Hy RA;have FA2:=Hy FA;replace S2:=Hy S2;replace B1:=Hy (aD B1.o b);replace L4:=Hy (L4.o.below b L4.o.lt);replace RA1:=Hy (rH RA1.o b);replace FA1:=Hy (sQ FA1.o b);replace S1:=Hy (S1.o.keeps b);clear b RA FA hp2 hs2 H1;generalize min b9.length 32=k at *;have hk:=Hy (show k≤1048576 from by have:=S1.o.hn;rw [List.length_take] at this;omega);go_wp2_with (first | (refine aA jr (.tmp 7) (.tmp 21) rfl rfl _ _ _ _ rfl rfl (Blk.new _ _ _) rfl rfl (by simp [Value.oneCell']) ?_;intro w4 L s3;have b:=(aj (b0 w3) _).trans (s3.below lr);have L7:=Hy L;replace B1:=Hy (aD B1.o b);replace L4:=Hy (L4.o.below b L4.o.lt);replace RA1:=Hy (rH RA1.o b);replace FA1:=Hy (sQ FA1.o b);replace S1:=Hy (S1.o.keeps b);replace RA2:=Hy (rH RA2.o b);replace FA2:=Hy (sQ FA2.o b);replace S2:=Hy (S2.o.keeps b);clear L s3 b) | (refine vQ jr Tryz.underlying27 rfl (.tmp 4) rfl (by first | rfl | decide | kernel_rfl) _ _ _ rfl L4.o rfl ?_) | (refine vQ jr Tryz.underlying27 rfl (.tmp 7) rfl (by first | rfl | decide | kernel_rfl) _ _ _ rfl L7.o rfl ?_));refine (Er _ _ m9 ta1 ta2 fa1 fa2 tc1 tc2 fc1 fc2 _ RA1.o RA2.o FA1.o FA2.o SM.o).mono ?_;rintro e w5 ⟨rfl,b⟩;replace B1:=Hy (aD B1.o b);replace S1:=Hy (S1.o.keeps b);replace S2:=Hy (S2.o.keeps b);clear b;go_wp2_with fail;refine (Ep _ pa1 pa2 k pc1 pc2 _ S1.o S2.o hk.o).mono ?_;rintro e w6 ⟨rfl,b⟩;replace B1:=Hy (aD B1.o b);clear b;go_wp2_with fail;refine (EX.o _ (T0.o.stays B1.o)).mono ?_;rintro e w7 ⟨rfl,b⟩;replace B1:=Hy (aD B1.o b);clear b;go_wp2_with fail;go_ret;exact ⟨rfl,B1.o⟩
end pa
namespace parserModules
open Go.ChangeShapes Go.WideShapes Go.ChangeAt Go.RowKit Go.Joins
open Go.ChangeMaps (open_string shut_string)
theorem lifted (os:Os) (started:os.Started) (H:Type) (enc:TypeId × Value→H) :
    ReturnsInHanded {} Tryz.checked os 3 .any (fun w args=>(Rows.parserModulesSpec.pre enc Tryz.prog Tryz.f3 [] false w args∧laidMetH Tryz.prog sG w)∧sizedMet enc Tryz.prog Tryz.f3 (OpenSpec.ofChange Rows.parserModulesSpec) false w args)
      (Rows.parserModulesSpec.post enc Tryz.prog Tryz.f3 false true false false):=by
 refine returnsInHanded_of_change_and (C:=Tryz.checked) (X:=fun w _=>laidMetH Tryz.prog sG w) (fun _ _ _ hh h=>h.of_heap hh) own started (by kernel_rfl) Tryz.func3
   (ChangeSpec.witness_shaped (enc:=enc) (C:=Tryz.checked) (os:=os) (X:=fun w _=>laidMetH Tryz.prog sG w) false (World.doorLaid Tryz.prog 93 os) #[.slice none 0 0] 8 rfl (World.shaped_of_RefB (by kernel_rfl) (by kernel_rfl)) (by kernel_rfl) (by kernel_rfl) (by kernel_rfl) (Iy os _)) ?_
 intro Z base args ds gs before hval0 hW hcnd hsz hL _;have hval:∀ (j:Nat) t v,Tryz.f3.params[j]? = some t→args[j]? = some v→Value.okWide Tryz.prog Z .any base t v:=hval0;have hW':=hW;obtain ⟨p,q,hA0,hV,rfl,hfz,hnd⟩:=hW;have hA:DataW.TrodAll enc Tryz.prog Z 0 (fun _=>true) true Tryz.f3.params.toList args.toList ds p:=hA0;rw [Tryz.params3] at hA hval hsz;obtain ⟨v0,vs0,d0,ds0,p0,q0,hargs,rfl,rfl,h0,r0⟩:=trodAll_cons hA;obtain ⟨rfl,rfl,rfl⟩:=trodAll_nil r0;obtain rfl:args=#[v0]:=by cases args;simp_all
 obtain ⟨rfl,rfl⟩:=trodVars_none hV;obtain ⟨a0,len0,cap0,rfl⟩:=okWide_slice Tryz.underlying22 (hval 0 22 v0 rfl rfl);have k0:=h0;have lt0:∀ x ∈ p0,x.block<Z.heap.size:=by obtain ⟨m,hm⟩:=k0;exact DataW.trod_lt m _ _ _ hm
 have hL0:∃ s,Bs Z a0 len0 cap0 s:=by
  obtain ⟨fuel,hf⟩:=h0;refine Qx (by simpa [Value.cells] using hf) (fun elems spare he=>?_);subst he;exact sized_slice hsz (j:=0) (t:=22) rfl rfl Tryz.underlying22
 obtain ⟨s0,hL0⟩:=hL0;clear hA0 hval0;simp only [List.append_nil] at hW';refine (pa.wS _ _ _ _ Z hL0 (xq hL) pa.zG).mono fun e Z' ⟨he,bel⟩=>?_;subst he;exact ⟨_,rfl,_,_,_,[],_,[],hW',trodAll_mk1 (shut_bool Tryz.underlying4 _),(trodAll_cons_mk (Below.trod laidOut (by kernel_rfl) (of_decide_eq_true (by kernel_rfl)) k0 bel lt0) trodAll_mk0),rfl,bel.frame _,fun h=>by cases h⟩
theorem over:Rows.ParserModulesSaid :=
 OpenClaim.holds_of_wide 3 Tryz.f3 rfl rfl rfl rfl rfl rfl rfl ⟨rfl,rfl,rfl,rfl,rfl⟩ rfl rfl rfl rfl rfl (by kernel_rfl) Tryz.func3 (by kernel_rfl)
  (of_decide_eq_true (by kernel_rfl)) (by unfold Func.isWrapper;first | (rw [if_pos (by decide +kernel)];kernel_rfl) | (rw [if_neg (by decide +kernel)];exact ⟨rfl,rfl⟩))
  (fun os started H enc _=>lifted os started H enc)
theorem proved:Rows.ParserModulesCardSaid :=
 Claim7.holds_tied_plain_at .later [] [.data,.data,.data,.sentinel,.sentinel,.data,.data,.data] true _ true
  over (fun _ h=>by cases h) (by kernel_rfl) (fun _ h=>by cases h) parserModules_row_tie rfl ⟨rfl,rfl⟩ (by kernel_rfl) rfl
  (fun f fn hf hfn=>by
   obtain rfl:f=3:=Option.some.inj ((show Tryz.prog.funcNamed "asof/asoflaw09.ParserModules" = some 3 by kernel_rfl).symm.trans hf) |>.symm
   obtain rfl:fn=Tryz.f3:=(Option.some.inj (Tryz.func3.symm.trans hfn)).symm
   exact ⟨by kernel_rfl,fun j t ht=>by
    rw [Tryz.params3] at ht
    have hm:t ∈ [22]:=by simpa using Array.mem_of_getElem? ht
    have hall:([22].all fun u => !Tryz.prog.wantsStandIn u)=true:=by kernel_rfl
    exact (show Tryz.prog.wantsStandIn t=false by simpa using List.all_eq_true.1 hall t hm)⟩)
  (by kernel_rfl)
#print axioms proved
end parserModules
end Go.Proofs.YtbpijgddfaefkaaGreatDoor
