/- The pieces of an expression of proper form. -/
import Derived.ChangeMaps5
import Derived.MapKept
import Derived.Carry
import Derived.Test.YtbahfelnbofjjaaGreatDoorH06
set_option maxRecDepth 100000
set_option maxHeartbeats 16000000
namespace Go.Proofs.YtbahfelnbofjjaaGreatDoor
namespace ch
open Go.RowKit dec
theorem Pt {h g:Hd} (e:same h g=true):h.op=g.op∧h.nm=g.nm∧h.tb=g.tb∧h.vk=g.vk∧h.vn=g.vn∧h.vs=g.vs∧h.un=g.un∧h.pa=g.pa∧h.wk=g.wk∧h.ws=g.ws:=by
 unfold same at e;simp only [L_d,L_c] at e;obtain ⟨a1,a2,a3,⟨a4,a5,a6⟩,a7,a8,a9,a10⟩:=e;exact ⟨a1,a2,a3,a4,a5,a6,a7,a8,a9,a10⟩
inductive Nod (i:Bool) (g:Hd):Hd→Nat→Prop where
 | boo (n:Int):n=0∨n=1→Nod i g { h0 with k:=1,vk:=1,vn:=n } 0
 | num (k n:Int) (u:List un.Fa):k=2∨k=3→0≤n→n≤1152921504606846976→Un u→Nod i g { h0 with k:=1,vk:=k,vn:=n,un:=u } 0
 | tex (s:ByteArray):s.size≤64→pB 32 s.data.toList=true→Nod i g { h0 with k:=1,vk:=4,vs:=s } 0
 | key (m s:ByteArray):name m=true→1≤s.size→s.size≤32→pB 33 s.data.toList=true→Nod i g { h0 with k:=1,nm:=m,vk:=5,vs:=s } 0
 | fie (m:ByteArray):i=true→name m=true→Nod i g { h0 with k:=2,nm:=m } 0
 | fea (m:ByteArray):i=false→name m=true→Nod i g { h0 with k:=3,nm:=m } 0
 | loo (m:ByteArray):i=false→name m=true→Nod i g { h0 with k:=4,nm:=m } 1
 | agg (op t:ByteArray) (p wk ws:Int):i=false→name t=true→iG op p=true→jd wk ws=true→(op=⟨#[99,111,117,110,116]⟩→bY g=true)→Nod i g { h0 with k:=5,op:=op,tb:=t,pa:=p,wk:=wk,ws:=ws } 2
 | una (op:ByteArray):op=⟨#[45]⟩∨op=⟨#[110,111,116]⟩∨op=⟨#[110,117,108,108]⟩→Nod i g { h0 with k:=6,op:=op } 1
 | bin (op:ByteArray):op=⟨#[43]⟩∨op=⟨#[45]⟩∨op=⟨#[42]⟩∨op=⟨#[47]⟩∨op=⟨#[61,61]⟩∨op=⟨#[33,61]⟩∨op=⟨#[60]⟩∨op=⟨#[60,61]⟩∨op=⟨#[97,110,100]⟩∨op=⟨#[111,114]⟩→Nod i g { h0 with k:=7,op:=op } 2
 | iff:Nod i g { h0 with k:=8 } 3
 | dfl:Nod i g { h0 with k:=9 } 2
theorem kZ {h g:Hd} (hk:h.k=g.k) (e:same h g=true):h=g:=by
 obtain ⟨a1,a2,a3,a4,a5,a6,a7,a8,a9,a10⟩:=Pt e;cases h;cases g;simp only at *;subst hk a1 a2 a3 a4 a5 a6 a7 a8 a9 a10;rfl
theorem kF {i:Bool} {h:Hd} {n:Nat} {g:Hd} (e:cO i h n g=true):Nod i g h n:=by
 unfold cO at e;by_cases k1:h.k=1
 ·rw [if_pos k1,L_d,L_c] at e;obtain ⟨e,rfl⟩:=e;unfold MC at e;simp only [L_d,L_c] at e;obtain ⟨c1,c2,c3,c4⟩:=e;have hh:=kZ (g:={ h0 with k:=1,nm:=h.nm,vk:=h.vk,vn:=h.vn,vs:=h.vs,un:=h.un }) k1 (by rw [← c4];rfl);have ho:ok ⟨h.vk,h.vn,h.vs⟩=true:=dT c1;generalize h.nm=m at *;generalize h.vk=vk at *;generalize h.vn=vn at *;generalize h.vs=vs at *;generalize h.un=u at *;subst hh;rcases Bo ho with e | e | e | ⟨x,e,h1,h2⟩ | ⟨x,e,h1,h2⟩ | ⟨s,e,h1,h2⟩ | ⟨s,e,h0,h1,h2⟩
  ·obtain ⟨rfl,rfl,rfl⟩:=Va.mk.inj e;exact absurd c3 (by unfold tyE;simp)
  ·obtain ⟨rfl,rfl,rfl⟩:=Va.mk.inj e;rcases fF c3 with (e2 | e2) | ⟨s,e2,hs⟩ | ⟨u',e2 | e2,hu⟩
   ·obtain ⟨_,rfl,rfl⟩:=Ty.mk.inj e2;exact .boo 0 (.inl rfl)
   all_goals exact absurd (Ty.mk.inj e2).1 (by decide)
  ·obtain ⟨rfl,rfl,rfl⟩:=Va.mk.inj e;rcases fF c3 with (e2 | e2) | ⟨s,e2,hs⟩ | ⟨u',e2 | e2,hu⟩
   ·obtain ⟨_,rfl,rfl⟩:=Ty.mk.inj e2;exact .boo 1 (.inr rfl)
   all_goals exact absurd (Ty.mk.inj e2).1 (by decide)
  ·obtain ⟨rfl,rfl,rfl⟩:=Va.mk.inj e;rcases fF c3 with (e2 | e2) | ⟨s,e2,hs⟩ | ⟨u',e2 | e2,hu⟩
   iterate 3 exact absurd (Ty.mk.inj e2).1 (by decide)
   ·obtain ⟨_,rfl,rfl⟩:=Ty.mk.inj e2;exact .num 2 vn u (.inl rfl) c2 h2 hu
   exact absurd (Ty.mk.inj e2).1 (by decide)
  ·obtain ⟨rfl,rfl,rfl⟩:=Va.mk.inj e;rcases fF c3 with (e2 | e2) | ⟨s,e2,hs⟩ | ⟨u',e2 | e2,hu⟩
   iterate 4 exact absurd (Ty.mk.inj e2).1 (by decide)
   obtain ⟨_,rfl,rfl⟩:=Ty.mk.inj e2;exact .num 3 vn u (.inr rfl) c2 h2 hu
  ·obtain ⟨rfl,rfl,rfl⟩:=Va.mk.inj e;rcases fF c3 with (e2 | e2) | ⟨s',e2,hs⟩ | ⟨u',e2 | e2,hu⟩
   ·exact absurd (Ty.mk.inj e2).1 (by decide)
   ·obtain ⟨_,rfl,rfl⟩:=Ty.mk.inj e2;exact .tex vs h1 h2
   all_goals exact absurd (Ty.mk.inj e2).1 (by decide)
  obtain ⟨rfl,rfl,rfl⟩:=Va.mk.inj e;rcases fF c3 with (e2 | e2) | ⟨s',e2,hs⟩ | ⟨u',e2 | e2,hu⟩
  iterate 2 exact absurd (Ty.mk.inj e2).1 (by decide)
  ·obtain ⟨_,rfl,rfl⟩:=Ty.mk.inj e2;exact .key m vs hs h0 h1 h2
  all_goals exact absurd (Ty.mk.inj e2).1 (by decide)
 rw [if_neg k1] at e;by_cases k2:h.k=2
 ·rw [if_pos k2] at e;unfold p9 at e;simp only [L_d,L_c] at e;obtain ⟨hi,⟨hn,hs⟩,rfl⟩:=e;have hh:=kZ (g:={ h0 with k:=2,nm:=h.nm }) k2 (by rw [← hs];rfl);rw [hh];exact .fie h.nm hi hn
 rw [if_neg k2] at e;by_cases k3:h.k=3
 ·rw [if_pos k3] at e;unfold p9 at e;simp only [L_d,L_c,Bool.not_eq_true'] at e;obtain ⟨hi,⟨hn,hs⟩,rfl⟩:=e;have hh:=kZ (g:={ h0 with k:=3,nm:=h.nm }) k3 (by rw [← hs];rfl);rw [hh];exact .fea h.nm hi hn
 rw [if_neg k3] at e;by_cases k4:h.k=4
 ·rw [if_pos k4] at e;unfold p9 at e;simp only [L_d,L_c,Bool.not_eq_true'] at e;obtain ⟨hi,⟨hn,hs⟩,rfl⟩:=e;have hh:=kZ (g:={ h0 with k:=4,nm:=h.nm }) k4 (by rw [← hs];rfl);rw [hh];exact .loo h.nm hi hn
 rw [if_neg k4] at e;by_cases k5:h.k=5
 ·rw [if_pos k5] at e;unfold ND at e;simp only [L_d,L_c,Bool.not_eq_true',Bool.or_eq_true,decide_eq_false_iff_not] at e;obtain ⟨hi,⟨hn,hp,hw,hs⟩,rfl,hc⟩:=e;have hh:=kZ (g:={ h0 with k:=5,op:=h.op,tb:=h.tb,pa:=h.pa,wk:=h.wk,ws:=h.ws }) k5 (by rw [← hs];rfl);rw [hh];exact .agg h.op h.tb h.pa h.wk h.ws hi hn hp hw fun e=>hc.resolve_left fun h=>h e
 rw [if_neg k5] at e;by_cases k6:h.k=6
 ·rw [if_pos k6] at e;unfold pR at e;simp only [L_d,L_c,Bool.or_eq_true] at e;obtain ⟨ho,hs,rfl⟩:=e;have hh:=kZ (g:={ h0 with k:=6,op:=h.op }) k6 (by rw [← hs];rfl);rw [hh];exact .una h.op ho
 rw [if_neg k6] at e;by_cases k7:h.k=7
 ·rw [if_pos k7] at e;unfold qy at e;simp only [L_d,L_c,Bool.or_eq_true,List.any_cons,List.any_nil,Bool.or_false] at e;obtain ⟨ho,hs,rfl⟩:=e;have hh:=kZ (g:={ h0 with k:=7,op:=h.op }) k7 (by rw [← hs];rfl);rw [hh];exact .bin h.op ho
 rw [if_neg k7] at e;by_cases k8:h.k=8
 ·rw [if_pos k8] at e;simp only [L_d,L_c] at e;obtain ⟨hs,rfl⟩:=e;have hh:=kZ (g:={ h0 with k:=8 }) k8 (by rw [← hs];rfl);rw [hh];exact .iff
 rw [if_neg k8] at e;by_cases k9:h.k=9
 ·rw [if_pos k9] at e;simp only [L_d,L_c] at e;obtain ⟨hs,rfl⟩:=e;have hh:=kZ (g:={ h0 with k:=9 }) k9 (by rw [← hs];rfl);rw [hh];exact .dfl
 rw [if_neg k9] at e;cases e
theorem Ui {s:ByteArray} (h1:s.size≤32) (h2:pB 33 s.data.toList=true):pr ⟨4,s,0⟩=true:=by
 refine Jv ?_ 0;unfold Go.Proofs.YtbahfelnbofjjaaGreatDoor.txE;rw [if_neg (by rw [aI];omega),if_pos ?_];unfold pB at h2 ⊢;rw [List.all_eq_true] at h2 ⊢;intro c hc;have:=h2 c hc;unfold okB at this ⊢;simp only [L_d,L_c] at this ⊢;exact ⟨⟨⟨by omega,this.1.1.2⟩,this.1.2⟩,this.2⟩
theorem RZ {s:ByteArray} (h1:s.size≤64) (h2:pB 32 s.data.toList=true):pr ⟨4,s,0⟩=true:=by
 refine Jv ?_ 0;unfold Go.Proofs.YtbahfelnbofjjaaGreatDoor.txE;rw [if_neg (by rw [aI];omega),if_pos h2]
theorem WI {n:Int} (h0:0≤n) (h1:n≤1152921504606846976):pr ⟨3,⟨(foX n).toArray⟩,0⟩=true:=by
 have hfo:foX n=bod n.natAbs:=by
  rw [zZ,if_neg (by omega)];rfl
 have hpa:=NS (x:=n) (by omega) (by omega);rw [hfo] at hpa ⊢;refine GV (ds:=Lib.decDigits (n.natAbs / 1000000)) (fs:=iM n.natAbs) rfl ?_ (by unfold iM;simp) (kW _) (Ce n.natAbs) hpa.2 0;obtain ⟨c,r,e⟩:=jT (n.natAbs / 1000000);rw [e];simp
theorem xg {k n:Int} (hk:k=2∨k=3) (h0:0≤n) (h1:n≤1152921504606846976):fm ⟨k,n,.empty⟩=if k=2 then Lib.itoa n else foX n:=by
 rcases hk with rfl | rfl
 ·rw [iN (ok_int (by omega) h1)];rfl
 rw [iN (Tz (by omega) h1)];rfl
theorem kC {op:ByteArray} {p:Int} (h:iG op p=true):(op=⟨#[99,111,117,110,116]⟩∨op=⟨#[115,117,109]⟩∨op=⟨#[109,101,97,110]⟩∨op=⟨#[109,105,110]⟩∨op=⟨#[109,97,120]⟩∨op=⟨#[102,105,114,115,116]⟩∨op=⟨#[108,97,115,116]⟩∨op=⟨#[100,105,115,116,105,110,99,116]⟩)∧p=0∨(op=⟨#[113,117,97,110,116,105,108,101]⟩∨op=⟨#[100,101,99,97,121]⟩)∧1≤p∧p≤1073741824:=by
 unfold iG at h;by_cases h1:op=⟨#[99,111,117,110,116]⟩∨op=⟨#[115,117,109]⟩∨op=⟨#[109,101,97,110]⟩∨op=⟨#[109,105,110]⟩∨op=⟨#[109,97,120]⟩∨op=⟨#[102,105,114,115,116]⟩∨op=⟨#[108,97,115,116]⟩∨op=⟨#[100,105,115,116,105,110,99,116]⟩
 ·rw [if_pos h1,L_c] at h;exact .inl ⟨h1,h⟩
 rw [if_neg h1] at h;by_cases h2:op=⟨#[113,117,97,110,116,105,108,101]⟩
 ·rw [if_pos h2,L_d,L_c,L_c] at h;exact .inr ⟨.inl h2,h.1,by omega⟩
 rw [if_neg h2] at h;by_cases h3:op=⟨#[100,101,99,97,121]⟩
 ·rw [if_pos h3,L_d,L_c,L_c] at h;exact .inr ⟨.inr h3,h⟩
 rw [if_neg h3] at h;cases h
theorem WW {op:ByteArray} {p:Int} (h:iG op p=true):pr ⟨1,op,0⟩=true:=by
 rcases kC h with ⟨h,_⟩ | ⟨h,_⟩
 ·rcases h with rfl | rfl | rfl | rfl | rfl | rfl | rfl | rfl <;> decide
 rcases h with rfl | rfl <;> decide
def Gds (K:List Ok') (T:List Od):Prop:=∀ j,j<T.length→Gd (okK K j) (odT T j)∧(ok' K j).2=(od T j).2
theorem Gds.p {K:List Ok'} {T:List Od} (h:Gds K T) {j:Nat} (hj:j<T.length) (q:Int):Gd (okP K j q) (odP T j q):=by
 obtain ⟨h1,h2⟩:=h j hj;unfold okP odP;rw [h2];exact Tm h1 _ _
theorem Cb {K:List Pc} {T:List UInt8} (h:Gd K T) (l:List Pc):pcB (K++sg ⟨#[41]⟩ :: l)=T++41 :: pcB l:=by rw [gG,h.b,fU];rfl
theorem wW {K:List Pc} {T:List UInt8} (h:Gd K T) (l:List Pc):pcB (sp K++l)=32 :: (T++pcB l):=by rw [gG,mY h.f,h.b];rfl
theorem wV {K:List Pc} {T:List UInt8} (h:Gd K T):pcB (sp K)=32 :: T:=by rw [mY h.f,h.b]
theorem DZ {p:Pc} (h2:pr (tk0 p)=true) (hp:opn p=true) {K:List Pc} {T:List UInt8} (h:Gd K T) {l:List Pc} (hl:wf false l=true) {o:Bool} (h1:p.1=true∨o=true∨clo p=true):wf o (p :: (K++l))=true:=lT h1 h2 hp (rV h.w hl)
theorem oU {i:Bool} {h:Hd} {n:Nat} {g:Hd} (N:Nod i g h n) {K:List Ok'} {T:List Od} (G:Gds K T) (hn:T.length=n):Gd (qZ h K) (eF h T):=by
 cases N with
 | boo n e =>
   rcases e with rfl | rfl
   · have e2:qZ { h0 with k:=1,vk:=1,vn:=0 } K=[wd ⟨#[102,97,108,115,101]⟩]:=rfl
     have e1:eF { h0 with k:=1,vk:=1,vn:=0 } T=fm ⟨1,0,.empty⟩++[]:=rfl
     rw [e1,e2,iN (by decide)]
     exact ⟨by decide,by decide,⟨_,_,rfl⟩⟩
   · have e2:qZ { h0 with k:=1,vk:=1,vn:=1 } K=[wd ⟨#[116,114,117,101]⟩]:=rfl
     have e1:eF { h0 with k:=1,vk:=1,vn:=1 } T=fm ⟨1,1,.empty⟩++[]:=rfl
     rw [e1,e2,iN (by decide)]
     exact ⟨by decide,by decide,⟨_,_,rfl⟩⟩
 | num k n u hk h0 h1 hu =>
   have e1:eF { Go.Proofs.YtbahfelnbofjjaaGreatDoor.h0 with k:=1,vk:=k,vn:=n,un:=u } T=fm ⟨k,n,.empty⟩++uT u:=by
     show liT _=_
     unfold liT
     rw [if_neg (by show ¬ k=5;omega)]
     rfl
   rw [e1,xg hk h0 h1]
   rcases hk with rfl | rfl
   · have e2:qZ { Go.Proofs.YtbahfelnbofjjaaGreatDoor.h0 with k:=1,vk:=2,vn:=n,un:=u } K=(false,2,⟨(Lib.itoa n).toArray⟩) :: unK u:=rfl
     rw [e2]
     refine ⟨?_,aT (.inr (.inl rfl)) (sK h0 h1) (vE hu),⟨_,_,rfl⟩⟩
     rw [gN,vF]
     rfl
   · have e2:qZ { Go.Proofs.YtbahfelnbofjjaaGreatDoor.h0 with k:=1,vk:=3,vn:=n,un:=u } K=(false,3,⟨(foX n).toArray⟩) :: unK u:=rfl
     rw [e2]
     refine ⟨?_,aT (.inr (.inl rfl)) (WI h0 h1) (vE hu),⟨_,_,rfl⟩⟩
     rw [gN,vF]
     rfl
 | tex s h1 h2 =>
   have e1:eF { h0 with k:=1,vk:=4,vs:=s } T=fm ⟨4,0,s⟩++[]:=rfl
   rw [e1,iN (yg h1 h2),L_n]
   refine ⟨?_,aT (p:=(false,4,s)) (.inr (.inl rfl)) (RZ h1 h2) rfl,⟨_,_,rfl⟩⟩
   show []++((34 :: (s.data.toList++[34]))++[])=_
   rw [L_n]
   rfl
 | key m s hm h0 h1 h2 =>
   refine ⟨?_,lT (p:=sg ⟨#[64]⟩) (.inr (.inl rfl)) (by decide) (by decide) (aT (p:=wd m) (.inr (.inl rfl)) (iq hm) (aT (p:=(true,4,s)) (.inl rfl) (Ui h1 h2) rfl)),⟨_,_,rfl⟩⟩
   show [64]++(m.data.toList++(32 :: ((34 :: (s.data.toList++[34]))++[])))=64 :: (m.data.toList++32 :: 34 :: (s.data.toList++[34]))
   rw [L_n]
   rfl
 | fie m hi hm =>
   refine ⟨?_,aT (p:=wd m) (.inr (.inl rfl)) (iq hm) rfl,⟨_,_,rfl⟩⟩
   show m.data.toList++[]=m.data.toList
   rw [L_n]
 | fea m hi hm =>
   refine ⟨?_,aT (p:=wd m) (.inr (.inl rfl)) (iq hm) rfl,⟨_,_,rfl⟩⟩
   show m.data.toList++[]=m.data.toList
   rw [L_n]
 | loo m hi hm =>
   have g0:=(G 0 (by omega)).1
   refine ⟨?_,aT (p:=wd m) (.inr (.inl rfl)) (iq hm) (aT (p:=bw ⟨#[111,102]⟩) (.inl rfl) (by decide) (DZ (p:=bs ⟨#[40]⟩) (by decide) (by decide) g0 (ow ⟨#[41]⟩ (by decide) (by decide)) (.inl rfl))),⟨_,_,rfl⟩⟩
   show pcB (wd m :: bw ⟨#[111,102]⟩ :: bs ⟨#[40]⟩ :: (okK K 0++[sg ⟨#[41]⟩]))=m.data.toList++([32,111,102,32,40]++(odT T 0++[41]))
   rw [fP,ig,qX,Cb g0]
   rfl
 | agg op t p wk ws hi ht hp hw hc =>
   have g0:=(G 0 (by omega)).1
   have g1:=(G 1 (by omega)).1
   have e1:=(G 1 (by omega)).2
   have gw:=RH hw
   have w9:wf false ((if bY (ok' K 1).2=true then [] else bw ⟨#[119,104,101,114,101]⟩ :: sp (okK K 1))++[sg ⟨#[41]⟩])=true:=by
     by_cases hq:bY (ok' K 1).2=true
     · rw [if_pos hq];decide
     · rw [if_neg hq]
       exact aT (p:=bw ⟨#[119,104,101,114,101]⟩) (.inl rfl) (by decide) (iD g1.w (ow ⟨#[41]⟩ (by decide) (by decide)))
   have w8:wf false (sg ⟨#[44]⟩ :: sp (wiK wk ws)++((if bY (ok' K 1).2=true then [] else bw ⟨#[119,104,101,114,101]⟩ :: sp (okK K 1))++[sg ⟨#[41]⟩]))=true :=
     aT (p:=sg ⟨#[44]⟩) (.inr (.inr (by decide))) (by decide) (iD gw.w w9)
   have w7:wf false ((if op=⟨#[113,117,97,110,116,105,108,101]⟩∨op=⟨#[100,101,99,97,121]⟩ then [sg ⟨#[44]⟩,nuK p] else [])++(sg ⟨#[44]⟩ :: sp (wiK wk ws)++((if bY (ok' K 1).2=true then [] else bw ⟨#[119,104,101,114,101]⟩ :: sp (okK K 1))++[sg ⟨#[41]⟩])))=true:=by
     by_cases hq:op=⟨#[113,117,97,110,116,105,108,101]⟩∨op=⟨#[100,101,99,97,121]⟩
     · rw [if_pos hq]
       have hp2:1≤p∧p≤1073741824:=by
         rcases kC hp with ⟨h,_⟩ | h
         · exfalso
           rcases hq with rfl | rfl <;> exact absurd h (by decide)
         · exact h.2
       exact aT (p:=sg ⟨#[44]⟩) (.inr (.inr (by decide))) (by decide) (aT (p:=nuK p) (.inl rfl) (sK (by omega) (by omega)) w8)
     · rw [if_neg hq];exact w8
   refine ⟨?_,?_,⟨_,_,rfl⟩⟩
   · show pcB (agK { h0 with k:=5,op:=op,tb:=t,pa:=p,wk:=wk,ws:=ws } K)=agT { h0 with k:=5,op:=op,tb:=t,pa:=p,wk:=wk,ws:=ws } T
     have k9:pcB ((if bY (ok' K 1).2=true then [] else bw ⟨#[119,104,101,114,101]⟩ :: sp (okK K 1))++[sg ⟨#[41]⟩])=(if bY (od T 1).2=true then [] else [32,119,104,101,114,101,32]++odT T 1)++[41]:=by
       rw [e1]
       by_cases hq:bY (od T 1).2=true
       · rw [if_pos hq,if_pos hq];rfl
       · rw [if_neg hq,if_neg hq,L_g,ig,wW g1]
         show 32 :: (([119,104,101,114,101]:List UInt8)++32 :: (odT T 1++[41]))=_
         simp
     have k8:pcB (sg ⟨#[44]⟩ :: sp (wiK wk ws)++((if bY (ok' K 1).2=true then [] else bw ⟨#[119,104,101,114,101]⟩ :: sp (okK K 1))++[sg ⟨#[41]⟩]))=44 :: 32 :: wiT wk ws++((if bY (od T 1).2=true then [] else [32,119,104,101,114,101,32]++odT T 1)++[41]):=by
       rw [L_g,fU,wW gw,k9]
       rfl
     have k7:pcB ((if op=⟨#[113,117,97,110,116,105,108,101]⟩∨op=⟨#[100,101,99,97,121]⟩ then [sg ⟨#[44]⟩,nuK p] else [])++(sg ⟨#[44]⟩ :: sp (wiK wk ws)++((if bY (ok' K 1).2=true then [] else bw ⟨#[119,104,101,114,101]⟩ :: sp (okK K 1))++[sg ⟨#[41]⟩]))) =
         (if op=⟨#[113,117,97,110,116,105,108,101]⟩∨op=⟨#[100,101,99,97,121]⟩ then 44 :: 32 :: Lib.itoa p else [])++(44 :: 32 :: wiT wk ws++((if bY (od T 1).2=true then [] else [32,119,104,101,114,101,32]++odT T 1)++[41])):=by
       by_cases hq:op=⟨#[113,117,97,110,116,105,108,101]⟩∨op=⟨#[100,101,99,97,121]⟩
       · rw [if_pos hq,if_pos hq,L_g,L_g,List.nil_append,fU,qW,k8]
         rfl
       · rw [if_neg hq,if_neg hq,List.nil_append,List.nil_append,k8]
     have k6:pcB ((if op=⟨#[99,111,117,110,116]⟩ then [] else sg ⟨#[44]⟩ :: sp (okK K 0))++((if op=⟨#[113,117,97,110,116,105,108,101]⟩∨op=⟨#[100,101,99,97,121]⟩ then [sg ⟨#[44]⟩,nuK p] else [])++(sg ⟨#[44]⟩ :: sp (wiK wk ws)++((if bY (ok' K 1).2=true then [] else bw ⟨#[119,104,101,114,101]⟩ :: sp (okK K 1))++[sg ⟨#[41]⟩])))) =
         (if op=⟨#[99,111,117,110,116]⟩ then [] else 44 :: 32 :: odT T 0)++((if op=⟨#[113,117,97,110,116,105,108,101]⟩∨op=⟨#[100,101,99,97,121]⟩ then 44 :: 32 :: Lib.itoa p else [])++(44 :: 32 :: wiT wk ws++((if bY (od T 1).2=true then [] else [32,119,104,101,114,101,32]++odT T 1)++[41]))):=by
       by_cases hq:op=⟨#[99,111,117,110,116]⟩
       · rw [if_pos hq,if_pos hq,List.nil_append,List.nil_append,k7]
       · rw [if_neg hq,if_neg hq,L_g,fU,wW g0,k7]
         rfl
     unfold agK agT
     rw [fP,fU,fP,k6]
     rfl
   · show wf true (agK { h0 with k:=5,op:=op,tb:=t,pa:=p,wk:=wk,ws:=ws } K)=true
     unfold agK
     refine aT (p:=wd op) (.inr (.inl rfl)) (WW hp) (lT (p:=sg ⟨#[40]⟩) (.inr (.inr (by decide))) (by decide) (by decide) (aT (p:=wd t) (.inr (.inl rfl)) (iq ht) ?_))
     show wf false ((if op=⟨#[99,111,117,110,116]⟩ then [] else sg ⟨#[44]⟩ :: sp (okK K 0))++_)=true
     by_cases hq:op=⟨#[99,111,117,110,116]⟩
     · rw [if_pos hq];exact w7
     · rw [if_neg hq]
       exact aT (p:=sg ⟨#[44]⟩) (.inr (.inr (by decide))) (by decide) (iD g0.w w7)
 | una op ho =>
   rcases ho with rfl | rfl | rfl
   · have g0:=G.p (j:=0) (by omega) 8
     refine ⟨?_,lT (p:=sg ⟨#[45]⟩) (.inr (.inl rfl)) (by decide) (by decide) g0.w,⟨_,_,rfl⟩⟩
     show pcB (sg ⟨#[45]⟩ :: okP K 0 8)=45 :: odP T 0 8
     rw [fU,g0.b];rfl
   · have g0:=G.p (j:=0) (by omega) 4
     refine ⟨?_,aT (p:=wd ⟨#[110,111,116]⟩) (.inr (.inl rfl)) (by decide) (rW g0.w),⟨_,_,rfl⟩⟩
     show pcB (wd ⟨#[110,111,116]⟩ :: sp (okP K 0 4))=[110,111,116,32]++odP T 0 4
     rw [fP,wV g0];rfl
   · have g0:=(G 0 (by omega)).1
     refine ⟨?_,aT (p:=wd ⟨#[110,117,108,108]⟩) (.inr (.inl rfl)) (by decide) (DZ (p:=sg ⟨#[40]⟩) (by decide) (by decide) g0 (ow ⟨#[41]⟩ (by decide) (by decide)) (.inr (.inr (by decide)))),⟨_,_,rfl⟩⟩
     show pcB (wd ⟨#[110,117,108,108]⟩ :: sg ⟨#[40]⟩ :: (okK K 0++[sg ⟨#[41]⟩]))=[110,117,108,108,40]++(odT T 0++[41])
     rw [fP,fU,Cb g0];rfl
 | bin op ho =>
   have g0:=G.p (j:=0) (by omega) (lef (rkO op))
   have g1:=G.p (j:=1) (by omega) (rkO op+1)
   have hop:pcB (opK op :: sp (okP K 1 (rkO op+1)))=32 :: (op.data.toList++32 :: odP T 1 (rkO op+1)):=by
     rw [gN,wV g1]
     unfold opK
     by_cases hq:op=⟨#[111,114]⟩∨op=⟨#[97,110,100]⟩
     · rw [if_pos hq];rfl
     · rw [if_neg hq];rfl
   have hw:wf false (opK op :: sp (okP K 1 (rkO op+1)))=true:=by
     refine aT (.inl ?_) ?_ (rW g1.w)
     · unfold opK
       split <;> rfl
     · rcases ho with rfl | rfl | rfl | rfl | rfl | rfl | rfl | rfl | rfl | rfl <;> decide
   obtain ⟨q,t,hf⟩:=g0.f
   refine ⟨?_,rV g0.w hw,⟨q,t++(opK op :: sp (okP K 1 (rkO op+1))),?_⟩⟩
   · show pcB (okP K 0 (lef (rkO op))++(opK op :: sp (okP K 1 (rkO op+1))))=odP T 0 (lef (rkO op))++(32 :: (op.data.toList++32 :: odP T 1 (rkO op+1)))
     rw [gG,g0.b,hop]
   · show okP K 0 (lef (rkO op))++_=_
     rw [hf];rfl
 | iff =>
   have g0:=(G 0 (by omega)).1
   have g1:=(G 1 (by omega)).1
   have g2:=(G 2 (by omega)).1
   refine ⟨?_,aT (p:=wd ⟨#[105,102]⟩) (.inr (.inl rfl)) (by decide) (iD g0.w (aT (p:=bw ⟨#[116,104,101,110]⟩) (.inl rfl) (by decide) (iD g1.w (aT (p:=bw ⟨#[101,108,115,101]⟩) (.inl rfl) (by decide) (rW g2.w))))),⟨_,_,rfl⟩⟩
   show pcB (wd ⟨#[105,102]⟩ :: (sp (okK K 0)++(bw ⟨#[116,104,101,110]⟩ :: (sp (okK K 1)++(bw ⟨#[101,108,115,101]⟩ :: sp (okK K 2))))))=[105,102,32]++(odT T 0++([32,116,104,101,110,32]++(odT T 1++([32,101,108,115,101,32]++odT T 2))))
   rw [fP,wW g0,ig,wW g1,ig,wV g2]
   rfl
 | dfl =>
   have g0:=G.p (j:=0) (by omega) 1
   have g1:=G.p (j:=1) (by omega) 2
   have hw:wf false (bw ⟨#[100,101,102,97,117,108,116]⟩ :: sp (okP K 1 2))=true:=aT (.inl rfl) (by decide) (rW g1.w)
   obtain ⟨q,t,hf⟩:=g0.f
   refine ⟨?_,rV g0.w hw,⟨q,t++(bw ⟨#[100,101,102,97,117,108,116]⟩ :: sp (okP K 1 2)),?_⟩⟩
   · show pcB (okP K 0 1++(bw ⟨#[100,101,102,97,117,108,116]⟩ :: sp (okP K 1 2)))=odP T 0 1++([32,100,101,102,97,117,108,116,32]++odP T 1 2)
     rw [gG,g0.b,ig,wV g1];rfl
   · show okP K 0 1++_=_
     rw [hf];rfl
theorem yH {i:Bool} {h:Hd} {ar r:Fo} (e:fmA i (.cons h ar r)=true):cO i h ar.len (ar.nth 0).h=true∧fmA (i || decide (h.k=5)) ar=true∧fmA i r=true:=by
 have e':(cO i h ar.len (ar.nth 0).h && (fmA (i || decide (h.k=5)) ar && fmA i r))=true:=e;rw [L_d,L_d] at e';exact e'
theorem o8:∀ (F:Fo) (i:Bool),fmA i F=true→Gds (xkF F) (txF F)
 | .nil,_,_=>fun j hj=>absurd hj (Nat.not_lt_zero _)
 | .cons h ar r,i,e=>by
  obtain ⟨e1,e2,e3⟩:=yH e
  have g:=oU (kF e1) (o8 ar _ e2) (kP ar)
  have gr:=o8 r i e3
  intro j hj
  cases j with
  | zero=>exact ⟨g,rfl⟩
  | succ j =>
   have:=gr j (by simpa [txF] using hj)
   exact ⟨by simpa [okK,odT,ok',od,xkF,txF] using this.1,by simpa [ok',od,xkF,txF] using this.2⟩
theorem Vm {i:Bool} {x:Ex} (e:fmE i x=true):Gd (xkE x) (txE x):=by
 have e':(cO i x.h x.ar.len (x.ar.nth 0).h && fmA (i || decide (x.h.k=5)) x.ar)=true:=e;rw [L_d] at e';exact oU (kF e'.1) (o8 x.ar _ e'.2) (kP _)
theorem OJ {K:List Pc} {T:List UInt8} (G:Gd K T) (h:T=[116,114,117,101]):K.map (·.2)=[(1,⟨#[116,114,117,101]⟩)]:=by
 obtain ⟨L,e,k⟩:=QI G.w;rw [G.b,h] at e;have e2:lxs 0 false ([116,114,117,101]:List UInt8)=([⟨1,⟨#[116,114,117,101]⟩,0⟩],[]):=J5 (x:=⟨1,⟨#[116,114,117,101]⟩,0⟩) (by decide) 0 false;rw [e2] at e;rw [← k,← (Prod.mk.inj e).1];rfl
theorem uD:name ⟨#[116,114,117,101]⟩=false:=by kernel_rfl
theorem Mi {i:Bool} {h:Hd} {n:Nat} {g:Hd} (N:Nod i g h n) {K:List Ok'} {T:List Od} (G:Gds K T) (hn:T.length=n):eF h T=[116,114,117,101]↔bY h=true:=by
 have GG:=oU N G hn;constructor
 ·intro e;have hk:=OJ GG e
  cases N with
  | boo n ee =>
    rcases ee with rfl | rfl
    · exact absurd (congrArg (fun l=>(l.headD (0,.empty)).2) hk) (by show (⟨#[102,97,108,115,101]⟩:ByteArray)≠⟨#[116,114,117,101]⟩;decide)
    · rfl
  | num k n u hk' h0 h1 hu =>
    exfalso
    have e3:=congrArg (fun l=>(l.headD (0,.empty)).1) hk
    rcases hk' with rfl | rfl
    · exact absurd e3 (by show (2:Int)≠1;decide)
    · exact absurd e3 (by show (3:Int)≠1;decide)
  | tex s h1 h2=>exact absurd (congrArg (fun l=>(l.headD (0,.empty)).1) hk) (by show (4:Int)≠1;decide)
  | key m s hm h0 h1 h2=>exact absurd (congrArg (fun l=>(l.headD (0,.empty)).1) hk) (by show (5:Int)≠1;decide)
  | fie m hi hm =>
    have e3:m=⟨#[116,114,117,101]⟩:=congrArg (fun l=>(l.headD (0,.empty)).2) hk
    rw [e3,uD] at hm;cases hm
  | fea m hi hm =>
    have e3:m=⟨#[116,114,117,101]⟩:=congrArg (fun l=>(l.headD (0,.empty)).2) hk
    rw [e3,uD] at hm;cases hm
  | loo m hi hm=>exact absurd (congrArg List.length hk) (by show ¬ (_+1+1+1=1);omega)
  | agg op t p wk ws hi ht hp hw hc=>exact absurd (congrArg List.length hk) (by show ¬ (_+1+1+1=1);omega)
  | una op ho =>
    rcases ho with rfl | rfl | rfl
    · exact absurd (congrArg (fun l=>(l.headD (0,.empty)).1) hk) (by show (5:Int)≠1;decide)
    · exact absurd (congrArg (fun l=>(l.headD (0,.empty)).2) hk) (by show (⟨#[110,111,116]⟩:ByteArray)≠⟨#[116,114,117,101]⟩;decide)
    · exact absurd (congrArg (fun l=>(l.headD (0,.empty)).2) hk) (by show (⟨#[110,117,108,108]⟩:ByteArray)≠⟨#[116,114,117,101]⟩;decide)
  | bin op ho =>
    exfalso
    have g0:=(G.p (j:=0) (by omega) (lef (rkO op))).f
    obtain ⟨q,t,hq⟩:=g0
    have e3:(okP K 0 (lef (rkO op))++(opK op :: sp (okP K 1 (rkO op+1)))).map (·.2)=[(1,⟨#[116,114,117,101]⟩)]:=hk
    rw [hq] at e3
    have:=congrArg List.length e3
    simp at this
  | iff=>exact absurd (congrArg (fun l=>(l.headD (0,.empty)).2) hk) (by show (⟨#[105,102]⟩:ByteArray)≠⟨#[116,114,117,101]⟩;decide)
  | dfl =>
    exfalso
    have g0:=(G.p (j:=0) (by omega) 1).f
    obtain ⟨q,t,hq⟩:=g0
    have e3:(okP K 0 1++(bw ⟨#[100,101,102,97,117,108,116]⟩ :: sp (okP K 1 2))).map (·.2)=[(1,⟨#[116,114,117,101]⟩)]:=hk
    rw [hq] at e3
    have:=congrArg List.length e3
    simp at this
 intro e;unfold bY at e;simp only [L_d,L_c] at e;obtain ⟨e1,e2,e3,e4⟩:=e;have h9:fm ⟨1,1,.empty⟩=[116,114,117,101]:=by rw [iN (by decide)];rfl
 cases N with
 | boo n e =>
   have e3:n=1:=e3
   subst e3
   show fm ⟨1,1,.empty⟩++[]=_
   rw [h9];rfl
 | num k n u hk' h0 h1 hu=>exfalso;have:k=1:=e2;omega
 | tex s h1 h2=>exact absurd e2 (by show ¬ (4:Int)=1;decide)
 | key m s hm h0 h1 h2=>exact absurd e2 (by show ¬ (5:Int)=1;decide)
 | fie m hi hm=>exact absurd e1 (by show ¬ (2:Int)=1;decide)
 | fea m hi hm=>exact absurd e1 (by show ¬ (3:Int)=1;decide)
 | loo m hi hm=>exact absurd e1 (by show ¬ (4:Int)=1;decide)
 | agg op t p wk ws hi ht hp hw hc=>exact absurd e1 (by show ¬ (5:Int)=1;decide)
 | una op ho=>exact absurd e1 (by show ¬ (6:Int)=1;decide)
 | bin op ho=>exact absurd e1 (by show ¬ (7:Int)=1;decide)
 | iff=>exact absurd e1 (by show ¬ (8:Int)=1;decide)
 | dfl=>exact absurd e1 (by show ¬ (9:Int)=1;decide)
theorem Lj {i:Bool} {x:Ex} (e:fmE i x=true):txE x=[116,114,117,101]↔bY x.h=true:=by
 have e':(cO i x.h x.ar.len (x.ar.nth 0).h && fmA (i || decide (x.h.k=5)) x.ar)=true:=e;rw [L_d] at e';exact Mi (kF e'.1) (o8 x.ar _ e'.2) (kP _)
def qK (l:List Od):Nat:=(l.map fun t=>t.1.length+2).sum
theorem JH (l:List Od) (h1:l.length=1):qK l=(odT l 0).length+2:=by
 match l,h1 with
 | [a],_=>rfl
theorem yh (l:List Od) (h1:l.length=2):qK l=(odT l 0).length+2+((odT l 1).length+2):=by
 match l,h1 with
 | [a,b],_=>rfl
theorem Qh (l:List Od) (h1:l.length=3):qK l=(odT l 0).length+2+((odT l 1).length+2)+((odT l 2).length+2):=by
 match l,h1 with
 | [a,b,c],_=>simp [qK,odT,od];omega
theorem oQ (r q:Int) (t:List UInt8):(par r q t).length≤t.length+2:=by
 unfold par;split
 ·simp
 omega
theorem mF (l:List Od) (j:Nat) (q:Int):(odP l j q).length≤(odT l j).length+2:=oQ _ _ _
theorem dM {s:ByteArray} (h:name s=true):s.data.toList.length≤24:=by
 have h1:=((jh _).1 (iq h)).2;have h2:flt 1 s.data.toList=0:=h1;rw [yI] at h2;split at h2
 ·cases h2
 omega
theorem Kz {n:Int} (h0:0≤n) (h1:n≤1152921504606846976):(foX n).length≤27:=by
 have hfo:foX n=bod n.natAbs:=by
  rw [zZ,if_neg (by omega)];rfl
 rw [hfo];unfold bod;rw [L_a,L_b,uM];have:=iV ((n.natAbs / 1000000:Nat):Int) (by omega) (by omega);unfold Lib.itoa at this;rw [if_neg (by omega),Int.toNat_natCast] at this;omega
theorem vG {u:List un.Fa} (h:Un u):(uT u).length≤203:=by
 unfold uT;split
 ·simp
 have:=un.KM h.o;simp;omega
theorem xK {t:Ty} (h:tyE t=0):(tyT t).length≤210:=by
 rcases fF h with (rfl | rfl) | ⟨s,rfl,hs⟩ | ⟨u,rfl | rfl,hu⟩
 ·decide
 ·decide
 ·have:=dM hs;show ([107,101,121,32]++s.data.toList).length≤210;simp;rw [aI] at this;omega
 ·have:=vG hu;show ([105,110,116]++uT u).length≤210;simp;omega
 have:=vG hu;show ([100,101,99]++uT u).length≤210;simp;omega
theorem xJ {k n:Int} (h:jd k n=true):(wiT k n).length≤30:=by
 rcases lS h with ⟨rfl,rfl⟩ | ⟨h1,h2,h3⟩
 ·decide
 have:=iV n (by omega) (by omega);rcases h1 with rfl | rfl | rfl
 ·show ([115,108,105,100,105,110,103,32]++Lib.itoa n).length≤30;simp;omega
 ·show ([116,117,109,98,108,105,110,103,32]++Lib.itoa n).length≤30;simp;omega
 show ([115,101,115,115,105,111,110,32]++Lib.itoa n).length≤30;simp;omega
theorem Da {op:ByteArray} {p:Int} (h:iG op p=true):op.data.toList.length≤8:=by
 rcases kC h with ⟨h,_⟩ | ⟨h,_⟩
 ·rcases h with rfl | rfl | rfl | rfl | rfl | rfl | rfl | rfl <;> decide
 rcases h with rfl | rfl <;> decide
theorem ES {i:Bool} {h:Hd} {n:Nat} {g:Hd} (N:Nod i g h n) {T:List Od} (hn:T.length=n):(eF h T).length+2≤250+qK T:=by
 cases N with
 | boo n e =>
   have e1:eF { h0 with k:=1,vk:=1,vn:=n } T=fm ⟨1,n,.empty⟩++[]:=rfl
   rw [e1]
   rcases e with rfl | rfl
   · rw [iN (by decide)];show 5+2≤_;omega
   · rw [iN (by decide)];show 4+2≤_;omega
 | num k n u hk h0 h1 hu =>
   have e1:eF { Go.Proofs.YtbahfelnbofjjaaGreatDoor.h0 with k:=1,vk:=k,vn:=n,un:=u } T=fm ⟨k,n,.empty⟩++uT u:=by
     show liT _=_
     unfold liT
     rw [if_neg (by show ¬ k=5;omega)]
     rfl
   rw [e1,xg hk h0 h1,L_a]
   have a1:=vG hu
   have a2:=iV n h0 h1
   have a3:=Kz h0 h1
   split <;> omega
 | tex s h1 h2 =>
   have e1:eF { h0 with k:=1,vk:=4,vs:=s } T=fm ⟨4,0,s⟩++[]:=rfl
   rw [e1,iN (yg h1 h2),L_n]
   show (34 :: (s.data.toList++[34])).length+2≤_
   simp;omega
 | key m s hm h0 h1 h2 =>
   have a1:=dM hm
   show (64 :: (m.data.toList++32 :: 34 :: (s.data.toList++[34]))).length+2≤_
   rw [aI] at a1
   simp;omega
 | fie m hi hm=>have a1:=dM hm;show m.data.toList.length+2≤_;omega
 | fea m hi hm=>have a1:=dM hm;show m.data.toList.length+2≤_;omega
 | loo m hi hm =>
   have a1:=dM hm
   rw [JH T hn]
   show (m.data.toList++([32,111,102,32,40]++(odT T 0++[41]))).length+2≤_
   rw [aI] at a1
   simp;omega
 | agg op t p wk ws hi ht hp hw hc =>
   have a1:=dM ht
   have a2:=Da hp
   have a3:=xJ hw
   have a4:(Lib.itoa p).length≤20:=by
     rcases kC hp with h | h
     · exact iV p (by omega) (by omega)
     · exact iV p (by omega) (by omega)
   rw [yh T hn]
   show (agT { h0 with k:=5,op:=op,tb:=t,pa:=p,wk:=wk,ws:=ws } T).length+2≤_
   unfold agT
   rw [aI] at a1 a2
   have b1:(if op=⟨#[99,111,117,110,116]⟩ then [] else 44 :: 32 :: odT T 0:List UInt8).length≤(odT T 0).length+2:=by split <;> simp
   have b2:(if op=⟨#[113,117,97,110,116,105,108,101]⟩∨op=⟨#[100,101,99,97,121]⟩ then 44 :: 32 :: Lib.itoa p else []:List UInt8).length≤22:=by split <;> simp;omega
   have b3:(if bY (od T 1).2=true then [] else [32,119,104,101,114,101,32]++odT T 1:List UInt8).length≤(odT T 1).length+7:=by split <;> simp
   simp only [L_a,L_b,L_j,aI] at *
   omega
 | una op ho =>
   rw [JH T hn]
   rcases ho with rfl | rfl | rfl
   · have:=mF T 0 8
     show (45 :: odP T 0 8).length+2≤_
     simp;omega
   · have:=mF T 0 4
     show ([110,111,116,32]++odP T 0 4).length+2≤_
     simp;omega
   · show ([110,117,108,108,40]++(odT T 0++[41])).length+2≤_
     simp;omega
 | bin op ho =>
   rw [yh T hn]
   have a1:=mF T 0 (lef (rkO op))
   have a2:=mF T 1 (rkO op+1)
   have a3:op.data.toList.length≤3:=by rcases ho with rfl | rfl | rfl | rfl | rfl | rfl | rfl | rfl | rfl | rfl <;> decide
   show (odP T 0 (lef (rkO op))++(32 :: (op.data.toList++32 :: odP T 1 (rkO op+1)))).length+2≤_
   rw [aI] at a3
   simp only [L_a,L_b,aI]
   omega
 | iff =>
   rw [Qh T hn]
   show ([105,102,32]++(odT T 0++([32,116,104,101,110,32]++(odT T 1++([32,101,108,115,101,32]++odT T 2))))).length+2≤_
   simp;omega
 | dfl =>
   rw [yh T hn]
   have a1:=mF T 0 1
   have a2:=mF T 1 2
   show (odP T 0 1++([32,100,101,102,97,117,108,116,32]++odP T 1 2)).length+2≤_
   simp only [L_a]
   simp;omega
theorem xP:∀ (F:Fo) (i:Bool),fmA i F=true→qK (txF F)≤250 * F.sz
 | .nil,_,_=>Nat.le_refl 0
 | .cons h ar r,i,e=>by
  obtain ⟨e1,e2,e3⟩:=yH e
  have a1:=ES (kF e1) (kP ar)
  have a2:=xP ar _ e2
  have a3:=xP r i e3
  have:qK (txF (.cons h ar r))=(eF h (txF ar)).length+2+qK (txF r):=rfl
  rw [this]
  simp only [Fo.sz]
  omega
theorem Ed {i:Bool} {x:Ex} (e:fmE i x=true):(txE x).length+2≤250 * (x.ar.sz+1):=by
 have e':(cO i x.h x.ar.len (x.ar.nth 0).h && fmA (i || decide (x.h.k=5)) x.ar)=true:=e;rw [L_d] at e';have a1:=ES (kF e'.1) (kP x.ar);have a2:=xP x.ar _ e'.2;show (eF x.h (txF x.ar)).length+2≤_;omega
end ch
section
open Go.RowKit dec
theorem qg (n:Int) (h0 : -9223372036854775808≤n) (h1:n≤9223372036854775807) (w:World) (T:Tabs w) :
    Calls Tryz.prog 56 #[.int .i64 n] w fun e w' => e=.returned (.string ⟨(Lib.itoa n).toArray⟩)∧Below w.heap.size w w':=by
 refine (Tryz.strconv_Itoa n h0 h1 w T.ten).mono ?_;rintro e w' ⟨rfl,k,os,rfl⟩;exact ⟨rfl,below_regrown w (w.drewN k).drawn os⟩
theorem VQ (k n:Int) (s:ByteArray) (w:World):Calls Tryz.prog 220 #[.agg #[.int .i64 k,.int .i64 n,.string s]] w fun e w' => e=.returned (.string ⟨[110,117,108,108].toArray⟩)∧Below w.heap.size w w':=by
 go_enter Tryz.func220,Tryz.ntmps220
 go_wp2;go_ret;exact ⟨rfl,by first | exact aj (b0 w) _ | exact b0 w⟩
theorem VR (n:Int) (s:ByteArray) (k:Int) (w:World):Calls Tryz.prog 221 #[.agg #[.int .i64 k,.int .i64 n,.string s]] w fun e w' => e=.returned (.string ⟨(Lib.formatBool (n==1)).toArray⟩)∧Below w.heap.size w w':=by
 go_enter Tryz.func221,Tryz.ntmps221
 go_wp2_with (go_at_call 268;refine (Tryz.strconv_FormatBool _ _).mono ?_;rintro e w' ⟨rfl,rfl⟩);go_ret;exact ⟨rfl,by first | exact aj (b0 w) _ | exact b0 w⟩
theorem Xk (k n:Int) (s:ByteArray) (h0 : -9223372036854775808≤n) (h1:n≤9223372036854775807) (w:World) (T:Tabs w):Calls Tryz.prog 222 #[.agg #[.int .i64 k,.int .i64 n,.string s]] w fun e w' => e=.returned (.string ⟨(Lib.itoa n).toArray⟩)∧Below w.heap.size w w':=by
 have C:=Hy (fun w' (b:Below w.heap.size w w')=>qg n h0 h1 w' (T.stays b));clear T
 go_enter Tryz.func222,Tryz.ntmps222
 go_wp2_with fail;refine (C.o _ (aj (b0 w) _)).mono ?_;rintro e w1 ⟨rfl,b1⟩;replace b1:=ak (aj (b0 w) _) b1;go_wp2_with fail;go_ret;exact ⟨rfl,b1⟩
theorem Xl (k n:Int) (s:ByteArray) (h0 : -9223372036854775808≤n) (h1:n≤9223372036854775807) (w:World) (T:Tabs w):Calls Tryz.prog 223 #[.agg #[.int .i64 k,.int .i64 n,.string s]] w fun e w' => e=.returned (.string ⟨(foX n).toArray⟩)∧Below w.heap.size w w':=by
 have C:=Hy (fun w' (b:Below w.heap.size w w')=>qh n h0 h1 w' (T.stays b).ten);clear T
 go_enter Tryz.func223,Tryz.ntmps223
 go_wp2_with fail;refine (C.o _ (aj (b0 w) _)).mono ?_;rintro e w1 ⟨rfl,b1⟩;replace b1:=ak (aj (b0 w) _) b1;go_wp2_with fail;go_ret;exact ⟨rfl,b1⟩
theorem vo (x y:List UInt8) (hx:x.length≤1048576) (hy:y.length≤1048576) (W:World):(Op.stringOp .add ⟨x.toArray⟩ ⟨y.toArray⟩).run Tryz.prog W=.ok (.string ⟨(x++y).toArray⟩) W:=run_string_add_lists W x y (by omega) (by omega)
theorem Xj (k n:Int) (s:ByteArray) (hs:s.size≤1000) (w:World):Calls Tryz.prog 225 #[.agg #[.int .i64 k,.int .i64 n,.string s]] w fun e w' => e=.returned (.string ⟨(64 :: s.data.toList).toArray⟩)∧Below w.heap.size w w':=by
 have A:=vo [64] s.data.toList (by decide) (by rw [← Lib.size_eq];omega);replace A:∀ W,(Op.stringOp .add ⟨#[64]⟩ s).run Tryz.prog W=.ok (.string ⟨(64 :: s.data.toList).toArray⟩) W:=A;generalize 64 :: s.data.toList=l at *
 go_enter Tryz.func225,Tryz.ntmps225
 go_wp2;go_ret;exact ⟨rfl,aj (b0 w) _⟩
theorem VP (k n:Int) (s:ByteArray) (hs:s.size≤1000) (w:World):Calls Tryz.prog 224 #[.agg #[.int .i64 k,.int .i64 n,.string s]] w fun e w' => e=.returned (.string ⟨(34 :: (s.data.toList++[34])).toArray⟩)∧Below w.heap.size w w':=by
 have A:=vo [34] s.data.toList (by decide) (by rw [← Lib.size_eq];omega);replace A:∀ W,(Op.stringOp .add ⟨#[34]⟩ s).run Tryz.prog W=.ok (.string ⟨(34 :: s.data.toList).toArray⟩) W:=A;have B:=vo (34 :: s.data.toList) [34] (by rw [L_b,← Lib.size_eq];omega) (by decide);replace B:∀ W,(Op.stringOp .add ⟨(34 :: s.data.toList).toArray⟩ ⟨#[34]⟩).run Tryz.prog W=.ok (.string ⟨(34 :: (s.data.toList++[34])).toArray⟩) W:=B;generalize 34 :: (s.data.toList++[34])=m at *;generalize 34 :: s.data.toList=l at *
 go_enter Tryz.func224,Tryz.ntmps224
 go_wp2;go_ret;exact ⟨rfl,aj (b0 w) _⟩
end
section
open Go.RowKit Go.ChangeMaps
theorem yB:Tryz.prog.underlying 230=some (.map 3 157):=by kernel_rfl
def ents (vs:List Value):List MapEntry:=vs.zipIdx.map fun p=>⟨.int .i64 (p.2:Nat),p.1,p.2⟩
theorem nZ (vs:List Value) (v:Value):ents (vs++[v])=ents vs++[⟨.int .i64 (vs.length:Nat),v,vs.length⟩]:=by
 unfold ents;rw [List.zipIdx_append,List.map_append];simp
theorem j3 (c:Int):∀ (l:List MapEntry) (i:Nat),(∀ e ∈ l,∃ d,e.key=.int .i64 d∧d≠c)→Instr.findNow (.int .i64) (.int .i64 c) l i=some none
 | [],_,_=>rfl
 | e :: l,i,h=>by
  obtain ⟨d,hd,hne⟩:=h e (L_e ..)
  have e1:(c==d)=false:=by rw [L_m];exact fun h=>hne h.symm
  unfold Instr.findNow
  rw [hd]
  simp only [Instr.sameNow,if_true,e1]
  exact j3 c l (i+1) (fun x hx=>h x (L_h _ hx))
theorem jZ:∀ (vs:List Value) (o i j:Nat) (v:Value),vs[j]? = some v→Instr.findNow (.int .i64) (.int .i64 ((o+j:Nat):Int)) ((vs.zipIdx o).map fun p=>⟨.int .i64 (p.2:Nat),p.1,p.2⟩) i=some (some (i+j,v))
 | [],_,_,_,_,h=>by cases h
 | x :: vs,o,i,0,v,h=>by
  obtain rfl:x=v:=by simpa using h
  rw [List.zipIdx_cons,L_p]
  unfold Instr.findNow
  simp [Instr.sameNow]
 | x :: vs,o,i,j+1,v,h=>by
  have e1:(((o+(j+1):Nat):Int)==((o:Nat):Int))=false:=by rw [L_m];omega
  rw [List.zipIdx_cons,L_p]
  unfold Instr.findNow
  simp only [Instr.sameNow,if_true,e1]
  have:=jZ vs (o+1) (i+1) j v (by simpa using h)
  rw [show o+1+j=o+(j+1) by omega,show i+1+j=i+(j+1) by omega] at this
  exact this
theorem qj (vs:List Value):∀ e ∈ ents vs,∃ j:Nat,j<vs.length∧e.key=.int .i64 (j:Nat):=by
 intro e he;simp only [ents,List.mem_map] at he;obtain ⟨⟨v,j⟩,hj,rfl⟩:=he;have:=List.mem_zipIdx hj;exact ⟨j,by omega,rfl⟩
def Mp (w:World) (b:Nat) (vs:List Value):Prop:=w.heap[b]? = some (.map (ents vs).toArray vs.length)
theorem Mp.made (w:World):Mp (w.alloc (.map #[] 0)) w.heap.size []:=(MapKept.heap_alloc w _).1
theorem Mp.lt {w:World} {b:Nat} {vs:List Value} (h:Mp w b vs):b<w.heap.size:=(Array.getElem?_eq_some_iff.1 h).1
theorem xS {w:World} {b:Nat} {vs:List Value} (h:Mp w b vs) (c:Int) (hc:c=(vs.length:Nat)) (v:Value) :
    ∃ w',(Instr.mapUpdate 230 (.map (some b)) (.int .i64 c) v).run Tryz.prog w=.ok () w'∧Mp w' b (vs++[v])∧Below b w w':=by
 subst hc;have hn:Instr.findNow (.int .i64) (.int .i64 (vs.length:Nat)) (ents vs) 0=some none:=j3 _ _ _ fun e he=>by
  obtain ⟨j,hj,hk⟩:=qj vs e he;exact ⟨_,hk,by omega⟩
 refine ⟨setBlock w b (.map ((ents vs).toArray.push ⟨.int .i64 (vs.length:Nat),v,vs.length⟩) (vs.length+1)),?_,?_,⟨rfl,rfl,rfl,by simp [setBlock],fun i hi=>heap_setBlock_other h _ (by omega)⟩⟩
 ·have hch:=MapKept.run_checkKey (P:=Tryz.prog) (w:=w) (k:=.int .i64 (vs.length:Nat)) dec.uy3 (show MapKept.IsKey (.int .i64) (.int .i64 (vs.length:Nat)) from rfl) false 9999;simp [Instr.mapUpdate,Instr.findKey,run_underlying yB,run_underlying dec.uy3,MapKept.run_getObj_map h,hch,hn,MapKept.run_setObj_map _ h,Result.andThen,setBlock]
 unfold Mp;rw [heap_setBlock_same h,nZ];simp
theorem dY {w:World} {b:Nat} {vs:List Value} (h:Mp w b vs) (c:Int) (j:Nat) (hc:c=(j:Nat)) (v:Value) (hv:vs[j]? = some v) :
    (Instr.lookup 230 (.map (some b)) (.int .i64 c) false).run Tryz.prog w=.ok v w:=by
 subst hc;have hf:=jZ vs 0 0 j v hv;rw [Nat.zero_add] at hf;replace hf:Instr.findNow (.int .i64) (.int .i64 (j:Nat)) (ents vs) 0=some (some (j,v)):=hf;have hch:=MapKept.run_checkKey (P:=Tryz.prog) (w:=w) (k:=.int .i64 (j:Nat)) dec.uy3 (show MapKept.IsKey (.int .i64) (.int .i64 (j:Nat)) from rfl) (ents vs).isEmpty 9999;simp [Instr.lookup,Instr.findKey,run_underlying yB,run_underlying dec.uy3,MapKept.run_getObj_map h,hch,hf,Result.andThen]
theorem aC (w:World) {ops:Array Oper} {rest:List Oper} {o:Oper} {a:Act} {Q:Exit→Act→World→Prop}
    (hg:o.guard=none) (m x v:Operand) (hop:o.op=Op.insert 230 m x v) (b:Nat) (vs:List Value) (hm:a.eval m=.map (some b)) (hown:Mp w b vs)
    (c:Int) (hx:a.eval x=.int .i64 c) (hc:c=(vs.length:Nat)) (val:Value) (hv:a.eval v=val)
    (hK:∀ w',Mp w' b (vs++[val])→Below b w w'→wpList Tryz.prog ops Q rest (a.put o.dst undef) w') :
    wpList Tryz.prog ops Q (o :: rest) a w:=by
 refine wpList_plain hg fun K' hK' => ?_;obtain ⟨w',hrun,r1,r2⟩:=xS hown c hc val;unfold Oper.wp;simp [execOp,hop,hm,hx,hv,hrun,Result.andThen];exact hK' _ _ (hK w' r1 r2)
end
end Go.Proofs.YtbahfelnbofjjaaGreatDoor
