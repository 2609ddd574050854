/- printer. -/
import Derived.Test.YtbahfelnbofjjaaGreatDoorH12
set_option maxRecDepth 100000
set_option maxHeartbeats 16000000
namespace Go.Proofs.YtbahfelnbofjjaaGreatDoor
namespace ch
open Go.RowKit dec
theorem JJ {i:Bool} {h:Hd} {n:Nat} {g:Hd} (N:Nod i g h n):(h.k=1∧n=0)∨((h.k=2∨h.k=3)∧n=0∧name h.nm=true)∨(h.k=4∧n=1∧name h.nm=true) ∨
    (h.k=5∧n=2∧name h.tb=true∧iG h.op h.pa=true∧jd h.wk h.ws=true)∨(h.k=6∧n=1) ∨
    (h.k=7∧n=2∧h.op≠.empty∧h.op.size≤100∧h.op≠⟨#[100,101,102,97,117,108,116]⟩)∨(h.k=8∧n=3)∨(h.k=9∧n=2):=by
 cases N with
 | boo n e=>exact .inl ⟨rfl,rfl⟩
 | num k n u hk h0 h1 hu=>exact .inl ⟨rfl,rfl⟩
 | tex s h1 h2=>exact .inl ⟨rfl,rfl⟩
 | key m s hm h0 h1 h2=>exact .inl ⟨rfl,rfl⟩
 | fie m hi hm=>exact .inr (.inl ⟨.inl rfl,rfl,hm⟩)
 | fea m hi hm=>exact .inr (.inl ⟨.inr rfl,rfl,hm⟩)
 | loo m hi hm=>exact .inr (.inr (.inl ⟨rfl,rfl,hm⟩))
 | agg op t p wk ws hi ht hp hw hc=>exact .inr (.inr (.inr (.inl ⟨rfl,rfl,ht,hp,hw⟩)))
 | una op ho=>exact .inr (.inr (.inr (.inr (.inl ⟨rfl,rfl⟩))))
 | bin op ho =>
   refine .inr (.inr (.inr (.inr (.inr (.inl ⟨rfl,rfl,?_,?_,?_⟩)))))
   · show op≠.empty
     rcases ho with rfl | rfl | rfl | rfl | rfl | rfl | rfl | rfl | rfl | rfl <;> exact fun e=>absurd (congrArg (fun b:ByteArray=>b.size) e) (by decide)
   · show op.size≤100
     rcases ho with rfl | rfl | rfl | rfl | rfl | rfl | rfl | rfl | rfl | rfl <;> decide
   · show op≠⟨#[100,101,102,97,117,108,116]⟩
     rcases ho with rfl | rfl | rfl | rfl | rfl | rfl | rfl | rfl | rfl | rfl <;> decide
 | iff=>exact .inr (.inr (.inr (.inr (.inr (.inr (.inl ⟨rfl,rfl⟩))))))
 | dfl=>exact .inr (.inr (.inr (.inr (.inr (.inr (.inr ⟨rfl,rfl⟩))))))
theorem TF {i:Bool} {h:Hd} {n:Nat} {g:Hd} (N:Nod i g h n) {K:List Ok'} {T:List Od} (G:Gds K T) (hn:T.length=n):eF h T≠[]:=by
 obtain ⟨q,t,e⟩:=(oU N G hn).f;have hb:=(oU N G hn).b;have hw:=(oU N G hn).w;intro h0;rw [h0,e,gN] at hb;rw [e] at hw;obtain ⟨_,h2,_⟩:=gX.1 hw;have:=qR h2;have h3:=congrArg List.length hb;simp only [L_a,L_j] at h3;omega
theorem IX {i:Bool} {x:Ex} (e:fmE i x=true):txE x≠[]:=by
 have e':(cO i x.h x.ar.len (x.ar.nth 0).h && fmA (i || decide (x.h.k=5)) x.ar)=true:=e;rw [L_d] at e';exact TF (kF e'.1) (o8 x.ar _ e'.2) (kP _)
theorem Qk:∀ (F:Fo) (j:Nat),j<F.len→(F.nth j).ar.sz+1≤F.sz:=fun F j h=>kE F j h
theorem jk (F:Fo) (j:Nat) (h:j<F.len):odT (txF F) j=txE (F.nth j)∧(od (txF F) j).2=(F.nth j).h:=by
 unfold odT;rw [IW F j h];exact ⟨rfl,rfl⟩
theorem JG {w:World} {g:Nat} {t:ByteArray} {r:Int} (h0:w.rangeAt g (0 * 2) [.string t,.int .i64 r]):un.Cl w g 0 [(t,r)]:=by
 intro j hj;obtain rfl:j=0:=by simpa using hj
 exact ⟨by simpa [un.gt] using h0 0 (.string t) rfl,by simpa [un.gt] using h0 1 (.int .i64 r) rfl⟩
theorem Am {w:World} {g:Nat} {t s:ByteArray} {r q:Int} (h0:w.rangeAt g (0 * 2) [.string t,.int .i64 r]) (h1:w.rangeAt g (1 * 2) [.string s,.int .i64 q]):un.Cl w g 0 [(t,r),(s,q)]:=by
 intro j hj
 match j,hj with
 | 0,_=>exact ⟨by simpa [un.gt] using h0 0 (.string t) rfl,by simpa [un.gt] using h0 1 (.int .i64 r) rfl⟩
 | 1,_=>exact ⟨by simpa [un.gt] using h1 0 (.string s) rfl,by simpa [un.gt] using h1 1 (.int .i64 q) rfl⟩
 | j+2,hj=>exact absurd hj (by simp only [L_b,L_j];omega)
theorem Lp {w:World} {g:Nat} {t s u:ByteArray} {r q p:Int} (h0:w.rangeAt g (0 * 2) [.string t,.int .i64 r]) (h1:w.rangeAt g (1 * 2) [.string s,.int .i64 q]) (h2:w.rangeAt g (2 * 2) [.string u,.int .i64 p]):un.Cl w g 0 [(t,r),(s,q),(u,p)]:=by
 intro j hj
 match j,hj with
 | 0,_=>exact ⟨by simpa [un.gt] using h0 0 (.string t) rfl,by simpa [un.gt] using h0 1 (.int .i64 r) rfl⟩
 | 1,_=>exact ⟨by simpa [un.gt] using h1 0 (.string s) rfl,by simpa [un.gt] using h1 1 (.int .i64 q) rfl⟩
 | 2,_=>exact ⟨by simpa [un.gt] using h2 0 (.string u) rfl,by simpa [un.gt] using h2 1 (.int .i64 p) rfl⟩
 | j+3,hj=>exact absurd hj (by simp only [L_b,L_j];omega)
theorem GK {h:Hd} (hk:h.k=1∨h.k=2∨h.k=3∨h.k=4∨h.k=5):rk h=9:=by
 unfold rk;rw [if_neg (by omega),if_neg (by omega),if_neg (by omega),if_neg (by omega)]
theorem JK {h:Hd} (hk:h.k=2∨h.k=3) (T:List Od):eF h T=h.nm.data.toList∧rk h=9:=by
 refine ⟨?_,GK (by omega)⟩;unfold eF;rw [if_neg (by omega),if_neg (by omega),if_neg (by omega),if_neg (by omega),if_neg (by omega),if_neg (by omega),if_neg (by omega)]
theorem TM {h:Hd} (hk:h.k=1) (T:List Od):eF h T=liT h∧rk h=9:=by
 refine ⟨?_,GK (by omega)⟩;unfold eF;rw [if_pos hk]
theorem TL {h:Hd} (hk:h.k=4) (T:List Od):eF h T=h.nm.data.toList++([32,111,102,32,40]++(odT T 0++[41]))∧rk h=9:=by
 refine ⟨?_,GK (by omega)⟩;unfold eF;rw [if_neg (by omega),if_pos hk]
theorem TK {h:Hd} (hk:h.k=5) (T:List Od):eF h T=agT h T∧rk h=9:=by
 refine ⟨?_,GK (by omega)⟩;unfold eF;rw [if_neg (by omega),if_neg (by omega),if_pos hk]
theorem TJ {h:Hd} (hk:h.k=6) (T:List Od):eF h T=(if h.op=⟨#[45]⟩ then 45 :: odP T 0 8 else if h.op=⟨#[110,111,116]⟩ then [110,111,116,32]++odP T 0 4 else [110,117,108,108,40]++(odT T 0++[41]))∧rk h=(if h.op=⟨#[45]⟩ then 8 else if h.op=⟨#[110,111,116]⟩ then 4 else 9):=by
 refine ⟨?_,?_⟩
 ·unfold eF;rw [if_neg (by omega),if_neg (by omega),if_neg (by omega),if_pos hk]
 unfold rk;rw [if_neg (by omega),if_neg (by omega),if_neg (by omega),if_pos hk];by_cases h1:h.op=⟨#[45]⟩
 ·rw [h1];rfl
 rw [if_neg h1,if_neg h1]
theorem TI {h:Hd} (hk:h.k=7) (hd:h.op≠⟨#[100,101,102,97,117,108,116]⟩) (T:List Od):eF h T=odP T 0 (lef (rkP h.op))++(32 :: (h.op.data.toList++32 :: odP T 1 (rkP h.op+1)))∧rk h=rkP h.op:=by
 have hr:rkP h.op=rkO h.op:=by unfold rkP;rw [if_neg hd]
 rw [hr];refine ⟨?_,?_⟩
 ·unfold eF;rw [if_neg (by omega),if_neg (by omega),if_neg (by omega),if_neg (by omega),if_pos hk]
 unfold rk;rw [if_neg (by omega),if_neg (by omega),if_pos hk]
theorem TH {h:Hd} (hk:h.k=8) (T:List Od):eF h T=[105,102,32]++(odT T 0++([32,116,104,101,110,32]++(odT T 1++([32,101,108,115,101,32]++odT T 2))))∧rk h=0:=by
 refine ⟨?_,?_⟩
 ·unfold eF;rw [if_neg (by omega),if_neg (by omega),if_neg (by omega),if_neg (by omega),if_neg (by omega),if_pos hk]
 unfold rk;rw [if_pos hk]
theorem TG {h:Hd} (hk:h.k=9) (T:List Od):eF h T=odP T 0 (lef (rkP ⟨#[100,101,102,97,117,108,116]⟩))++(32 :: ((⟨#[100,101,102,97,117,108,116]⟩:ByteArray).data.toList++32 :: odP T 1 (rkP ⟨#[100,101,102,97,117,108,116]⟩+1)))∧rk h=rkP ⟨#[100,101,102,97,117,108,116]⟩:=by
 refine ⟨?_,?_⟩
 ·unfold eF;rw [if_neg (by omega),if_neg (by omega),if_neg (by omega),if_neg (by omega),if_neg (by omega),if_neg (by omega),if_pos hk];rfl
 unfold rk;rw [if_neg (by omega),if_pos hk];rfl
theorem Ry {h:Hd} {T:List Od} (hp:iG h.op h.pa=true) (ht:odT T 1=[116,114,117,101]↔bY (od T 1).2=true):agT h T=agX h.op h.tb h.pa (wiT h.wk h.ws) (odT T 0) (odT T 1):=by
 unfold agT agX;have e1:(if h.op=⟨#[113,117,97,110,116,105,108,101]⟩∨h.op=⟨#[100,101,99,97,121]⟩ then 44 :: 32 :: Lib.itoa h.pa else []:List UInt8)=(if h.pa=0 then [] else 44 :: 32 :: Lib.itoa h.pa):=by
  rcases kC hp with ⟨h1,h2⟩ | ⟨h1,h2,h3⟩
  ·rw [if_neg (by
     rintro (e | e)
     · rw [e] at h1;exact absurd h1 (by decide)
     · rw [e] at h1;exact absurd h1 (by decide)),if_pos h2]
  rw [if_pos h1,if_neg (by omega)]
 rw [e1];by_cases h1:odT T 1=[116,114,117,101]
 ·rw [if_pos h1,if_pos (ht.1 h1)];simp
 rw [if_neg h1,if_neg (fun e=>h1 (ht.2 e))];simp
theorem Dr (n:Nat) (IH:∀ (i:Bool) (x:Ex) (ua aa:Option Addr) (uc ac b:Nat) (w:World),x.ar.sz<n→fmE i x=true→x.ar.sz≤3000→Ec w x ua uc aa ac→Mp w b prL→Tabq w→Calls Tryz.prog 51 #[.map (some b),.agg (exC x.h x.ar.len ua uc aa ac)] w (Pr (B8 (txE x)) (rk x.h) w))
    (i:Bool) (x:Ex) (ua aa:Option Addr) (uc ac b:Nat) (w:World) (hz:x.ar.sz=n) (hf:fmE i x=true) (hs:x.ar.sz≤3000) (hE:Ec w x ua uc aa ac) (hM:Mp w b prL) (T:Tabq w):Calls Tryz.prog 51 #[.map (some b),.agg (exC x.h x.ar.len ua uc aa ac)] w (Pr (B8 (txE x)) (rk x.h) w):=by
 have bb:=bB w (.cells (exC x.h x.ar.len ua uc aa ac) 29) (.cells #[.string ⟨#[]⟩,.int .i64 0] 90);have BP:=Hy bb;have GG:=eH w (exC x.h x.ar.len ua uc aa ac) #[.string ⟨#[]⟩,.int .i64 0] 29 90;have GX:=Hy GG.1;have G4:=Hy GG.2;have HA:=Hy (hE.ar.keeps bb);have HU:=Hy (hE.us.keeps bb);have TQ:=Hy (T.stays bb);have MM:=Hy (hM.keeps bb);have hf0:=hf;rw [xq,L_d] at hf;have N0:=kF hf.1;have hkd:=JJ N0;have hn3:=Hy (show x.ar.len≤3 by rcases hkd with h | h | h | h | h | h | h | h <;> omega);have HF:=Hy hf.2;have NN:=Hy N0;have HK:=Hy hkd;have IH':=Hy IH;have HZ:=Hy hz;have HB:=Hy hs;have HM0:=Hy hM.lt;clear hE T hM hf hf0 N0 hkd IH hz hs bb GG;unfold exC at *
 go_enter Tryz.func51,Tryz.ntmps51
 go_upto_region 1 with fail
 generalize hwp:((w.alloc (.cells #[.int .i64 x.h.k,.string x.h.op,.string x.h.nm,.string x.h.tb,.int .i64 x.h.vk,.int .i64 x.h.vn,.string x.h.vs,.slice ua x.h.un.length uc,.int .i64 x.h.pa,.int .i64 x.h.wk,.int .i64 x.h.ws,.slice aa x.ar.len ac] 29)).alloc (.cells #[.string ⟨#[]⟩,.int .i64 0] 90))=wp at *;clear hwp;have hg3:=Hy (show w.heap.size+1<wp.heap.size from G4.o.lt);have gx11:=GX.o.cell 11;simp only [sz2,sz3,sz4] at gx11;go_wp2_with (first | (refine Ld _ rfl (.tmp 10) (.tmp 10) rfl x.ar.len (by have:=hn3.o;omega) rfl rfl ?_;intro wm cur G0 hc0 bm;have gy11:=(GX.o.keeps bm).cell 11;simp only [sz2,sz3,sz4] at gy11));have hgw:=Hy BP.o.size;replace bm:=Hy bm;replace G0:=Hy (⟨G0,hc0⟩:Blk wm wp.heap.size 90 cur∧cur.size=x.ar.len * 2);clear hc0;generalize hgO:wp.heap.size=gO at *;replace hgO:=Hy hgO;clear gx11 gy11
 go_loopw [15] (fun vi wr => ∃ (j:Nat) (cur:Array Value),vi=.int .i64 (j:Nat)∧Hid (j≤x.ar.len)∧Hid (Below gO wp wr)∧Hid (Blk wr gO 90 cur∧cur.size=x.ar.len * 2)∧Hid (∀ i,i<j→wr.rangeAt gO (i * 2) [.string (B8 (txE (x.ar.nth i))),.int .i64 (rk (x.ar.nth i).h)])) (fun vi _=>x.ar.len - (intOf vi).toNat)
 case atStart=>exact ⟨0,cur,rfl,Hy zl,Hy (hgO.o ▸ bm.o),G0,Hy fun i h=>absurd h (Nat.not_lt_zero _)⟩
 case round =>
  clear G0 bm;obtain ⟨j,cur,rfl,hj,hb,hG,hT⟩:=hrel;have hbw:=Hy (hgO.o ▸ hb.o:Below wp.heap.size wp wr);by_cases hlt:j<x.ar.len
  ·have q1:decide ((j:Int)<(x.ar.len:Int))=true:=dT (by omega);obtain ⟨bk,off,va,vc,wa,wc,rfl,R1,E1⟩:=(HA.o.keeps hbw.o).at hlt;have f4:=Hy (aP (j:=j) (by have:=hn3.o;omega));have i1:(j:Int)<(x.ar.len:Int):=by omega
   have i2:j<x.ar.len:=hlt;have hsz:=Hy (kE x.ar j hlt);have hfj:=Hy (yG x.ar _ j HF.o hlt);have hyj:=Hy (rfl:x.ar.nth j=x.ar.nth j);replace E1:=Hy E1;replace R1:=Hy R1;clear hj hyj;obtain ⟨y,hy⟩:∃ y,y=x.ar.nth j:=⟨_,rfl⟩;rw [← hy] at R1 E1 hsz hfj;replace hy:=Hy hy;go_wp2_with (first | (refine bS aN dec.uy29 rfl (.tmp 18) rfl rfl bk (off+j * 12) (exC y.h y.ar.len va vc wa wc) rfl R1.o rfl ?_) | (refine aF aN (.tmp 7) (.tmp 19) rfl rfl _ _ _ _ rfl rfl (Blk.new _ _ _) rfl rfl (aR _ _ _ _ _ _) ?_;intro w5 L5 hs5;have bb5:=(aj (b0 wr) _).trans (hs5.below lr)) | (refine aG aN dec.uy29 rfl (.tmp 7) rfl rfl _ _ _ rfl L5 rfl ?_));have BG5:=Hy (hb.o.trans (bb5.mono (by have:=hb.o.size;have:=hgO.o;omega)));have hG5:=Hy (hG.o.1.keeps bb5);have E5:=Hy (E1.o.keeps bb5);have hT5:=Hy (fun i (h:i<j)=>(aJ (hT.o i h) bb5));have BW5:=Hy (hgO.o ▸ BG5.o:Below wp.heap.size wp w5);clear bb5 hs5 L5 R1 hT E1;refine (IH'.o _ y va wa vc wc b w5 (by have:=hsz.o;have:=HZ.o;omega) hfj.o (by have:=hsz.o;have:=HB.o;omega) E5.o (MM.o.keeps BW5.o) (TQ.o.stays BW5.o)).mono ?_;rintro e w6 ⟨rfl,b6⟩;have BG6:=Hy (BG5.o.trans (b6.mono (by have:=BG5.o.size;have:=hgO.o;omega)));have hG6:=Hy (hG5.o.keeps b6);have hT6:=Hy (fun i (h:i<j)=>(aJ (hT5.o i h) b6));clear b6 hG5 hT5 E5 BW5;go_wp2_with (first | (refine Rt aQ (.tmp 25) (.tmp 24) rfl rfl gO (j * 2) _ #[.string (B8 (txE y)),.int .i64 (rk y.h)] _ rfl rfl hG6.o (by have:=hG.o.2;omega) rfl (by simp [Value.oneCell']) ?_;intro w8 new L8 hz8 R8 hk8 hs8));have BG8:=Hy (BG6.o.trans (hs8.below lr));have hT8:∀ k,k<j+1→w8.rangeAt gO (k * 2) [.string (B8 (txE (x.ar.nth k))),.int .i64 (rk (x.ar.nth k).h)]:=fun k h=>by
    by_cases hk:k<j
    ·exact Jo hG6.o L8 hk8 (hT6.o k hk) (by simp;omega)
    obtain rfl:k=j:=by omega
    rw [← hy.o];exact R8
   exact ⟨⟨j+1,new,congrArg (Value.int .i64) f4.o,Hy hlt,BG8,Hy ⟨L8,hz8.trans hG.o.2⟩,Hy hT8⟩,aU hlt f4.o⟩
  have q1:decide ((j:Int)<(x.ar.len:Int))=false:=dF (by omega);have hje:j=x.ar.len:=by have:=hj.o;omega
  have GX9:=Hy (GX.o.keeps hbw.o);have G9:=Hy (G4.o.keeps hbw.o);have BW9:=Hy (BP.o.trans (hbw.o.mono BP.o.size));have GX9:=Hy (GX.o.keeps hbw.o);have G9:=Hy (G4.o.keeps hbw.o);have hf9:=Hy (fun k (h:k<x.ar.len)=>yG x.ar _ k HF.o h);have TR:=Hy (TQ.o.stays hbw.o);have UR:=Hy (HU.o.keeps hbw.o);clear GX G4 TQ HU BP;have hT':=fun k (h:k<x.ar.len)=>hT.o k (by omega);have hLE:=Hy (fun k (h:k<x.ar.len)=>(show (txE (x.ar.nth k)).length≤1000000 by have:=Ed (hf9.o k h);have:=Qk x.ar k h;have:=HB.o;omega));have hNE:=Hy (fun k (h:k<x.ar.len)=>IX (hf9.o k h));skip;rcases HK.o with ⟨hk,hn⟩ | ⟨hk,hn,hnm⟩ | ⟨hk,hn,hnm⟩ | ⟨hk,hn,htb,hp,hw⟩ | ⟨hk,hn⟩ | ⟨hk,hn,ho,hol,hod⟩ | ⟨hk,hn⟩ | ⟨hk,hn⟩
  ·skip;have hl:=dY kPr (MM.o.keeps hbw.o) x.h.k 0 (by rw [hk];rfl) (prF 100) rfl;unfold prF at hl;have NN':=NN.o;rw [hn] at NN';have hR:=TM hk (txF x.ar);have hRX:=Hy (show txE x=_∧rk x.h=_ from hR);have CC:=Hy (fun (W:World) (bw:Below wr.heap.size wr W)=>(show Calls Tryz.prog 100 #[.agg #[.int .i64 x.h.k,.string x.h.op,.string x.h.nm,.string x.h.tb,.int .i64 x.h.vk,.int .i64 x.h.vn,.string x.h.vs,.slice ua x.h.un.length uc,.int .i64 x.h.pa,.int .i64 x.h.wk,.int .i64 x.h.ws,.slice aa x.ar.len ac],.slice (some ⟨gO,0,none⟩) x.ar.len x.ar.len] W (Pr (B8 (txE x)) (rk x.h) W) from by rw [hn,hRX.o.1,hRX.o.2];exact Ad x.h 0 ua aa uc ac W NN' hk _ _ _ (UR.o.keeps bw) (TR.o.stays bw)));clear NN';clear hT' hLE hNE;have hm:x.ar.len=0:=hn;have gx0:=GX9.o.cell 0;simp only [sz2,sz3] at gx0;replace hk:=Hy hk;clear hn3 HK NN hR hn HF IH' HZ HB HA hG hT HM0 hf9 hj hlt hb MM;clear hRX;generalize B8 (txE x)=tx at *;generalize rk x.h=rx at *;generalize x.ar.len=m at *;subst hm;go_wp2_with (first | (refine aG aN dec.uy29 rfl (.tmp 3) rfl rfl _ _ _ rfl GX9.o rfl ?_));refine (CC.o _ (b0 wr)).mono ?_;rintro e w7 ⟨rfl,b7⟩;have B7:=Hy (ak BW9.o b7);have H9:=Hy (G9.o.keeps b7);clear b7 CC hl gx0;go_wp2_with (refine aF aQ (.tmp 4) (.tmp 33) rfl rfl _ _ _ _ rfl rfl H9.o rfl rfl (by simp [Value.oneCell']) ?_;intro w9 hb9 hs9);refine bn aQ dec.uy90 rfl rfl _ _ _ _ _ rfl hb9 rfl ?_;exact ⟨rfl,B7.o.trans (hs9.below (Nat.le_succ _))⟩
  ·rcases hk with hk | hk
   ·skip;have hl:=dY kPr (MM.o.keeps hbw.o) x.h.k 1 (by rw [hk];rfl) (prF 101) rfl;unfold prF at hl;have hR:=JK (.inl hk) (txF x.ar);have hRX:=Hy (show txE x=_∧rk x.h=_ from hR);have CC:=Hy (fun (W:World) (bw:Below wr.heap.size wr W)=>(show Calls Tryz.prog 101 #[.agg #[.int .i64 x.h.k,.string x.h.op,.string x.h.nm,.string x.h.tb,.int .i64 x.h.vk,.int .i64 x.h.vn,.string x.h.vs,.slice ua x.h.un.length uc,.int .i64 x.h.pa,.int .i64 x.h.wk,.int .i64 x.h.ws,.slice aa x.ar.len ac],.slice (some ⟨gO,0,none⟩) x.ar.len x.ar.len] W (Pr (B8 (txE x)) (rk x.h) W) from by rw [hn,hRX.o.1,hRX.o.2];exact yT x.h 0 ua aa uc ac _ _ _ hnm W));clear hT' hLE hNE hnm;have hm:x.ar.len=0:=hn;have gx0:=GX9.o.cell 0;simp only [sz2,sz3] at gx0;replace hk:=Hy hk;clear hn3 HK NN hR hn HF IH' HZ HB HA hG hT HM0 hf9 hj hlt hb MM;clear hRX;generalize B8 (txE x)=tx at *;generalize rk x.h=rx at *;generalize x.ar.len=m at *;subst hm;go_wp2_with (first | (refine aG aN dec.uy29 rfl (.tmp 3) rfl rfl _ _ _ rfl GX9.o rfl ?_));refine (CC.o _ (b0 wr)).mono ?_;rintro e w7 ⟨rfl,b7⟩;have B7:=Hy (ak BW9.o b7);have H9:=Hy (G9.o.keeps b7);clear b7 CC hl gx0;go_wp2_with (refine aF aQ (.tmp 4) (.tmp 33) rfl rfl _ _ _ _ rfl rfl H9.o rfl rfl (by simp [Value.oneCell']) ?_;intro w9 hb9 hs9);refine bn aQ dec.uy90 rfl rfl _ _ _ _ _ rfl hb9 rfl ?_;exact ⟨rfl,B7.o.trans (hs9.below (Nat.le_succ _))⟩
   skip;have hl:=dY kPr (MM.o.keeps hbw.o) x.h.k 2 (by rw [hk];rfl) (prF 101) rfl;unfold prF at hl;have hR:=JK (.inr hk) (txF x.ar);have hRX:=Hy (show txE x=_∧rk x.h=_ from hR);have CC:=Hy (fun (W:World) (bw:Below wr.heap.size wr W)=>(show Calls Tryz.prog 101 #[.agg #[.int .i64 x.h.k,.string x.h.op,.string x.h.nm,.string x.h.tb,.int .i64 x.h.vk,.int .i64 x.h.vn,.string x.h.vs,.slice ua x.h.un.length uc,.int .i64 x.h.pa,.int .i64 x.h.wk,.int .i64 x.h.ws,.slice aa x.ar.len ac],.slice (some ⟨gO,0,none⟩) x.ar.len x.ar.len] W (Pr (B8 (txE x)) (rk x.h) W) from by rw [hn,hRX.o.1,hRX.o.2];exact yT x.h 0 ua aa uc ac _ _ _ hnm W));clear hT' hLE hNE hnm;have hm:x.ar.len=0:=hn;have gx0:=GX9.o.cell 0;simp only [sz2,sz3] at gx0;replace hk:=Hy hk;clear hn3 HK NN hR hn HF IH' HZ HB HA hG hT HM0 hf9 hj hlt hb MM;clear hRX;generalize B8 (txE x)=tx at *;generalize rk x.h=rx at *;generalize x.ar.len=m at *;subst hm;go_wp2_with (first | (refine aG aN dec.uy29 rfl (.tmp 3) rfl rfl _ _ _ rfl GX9.o rfl ?_));refine (CC.o _ (b0 wr)).mono ?_;rintro e w7 ⟨rfl,b7⟩;have B7:=Hy (ak BW9.o b7);have H9:=Hy (G9.o.keeps b7);clear b7 CC hl gx0;go_wp2_with (refine aF aQ (.tmp 4) (.tmp 33) rfl rfl _ _ _ _ rfl rfl H9.o rfl rfl (by simp [Value.oneCell']) ?_;intro w9 hb9 hs9);refine bn aQ dec.uy90 rfl rfl _ _ _ _ _ rfl hb9 rfl ?_;exact ⟨rfl,B7.o.trans (hs9.below (Nat.le_succ _))⟩
  ·skip;have hl:=dY kPr (MM.o.keeps hbw.o) x.h.k 3 (by rw [hk];rfl) (prF 102) rfl;unfold prF at hl;have hR:=TL hk (txF x.ar);have h0':=hT' 0 (by omega);have a0:=jk x.ar 0 (by omega);have l0:=hLE.o 0 (by omega);have n0:=hNE.o 0 (by omega);have hcl:=JG h0';rw [a0.1] at hR;have hRX:=Hy (show txE x=_∧rk x.h=_ from hR);have CC:=Hy (fun (W:World) (bw:Below wr.heap.size wr W)=>(show Calls Tryz.prog 102 #[.agg #[.int .i64 x.h.k,.string x.h.op,.string x.h.nm,.string x.h.tb,.int .i64 x.h.vk,.int .i64 x.h.vn,.string x.h.vs,.slice ua x.h.un.length uc,.int .i64 x.h.pa,.int .i64 x.h.wk,.int .i64 x.h.ws,.slice aa x.ar.len ac],.slice (some ⟨gO,0,none⟩) x.ar.len x.ar.len] W (Pr (B8 (txE x)) (rk x.h) W) from by rw [hn,hRX.o.1,hRX.o.2];exact Di x.h 1 ua aa uc ac W gO 0 1 _ _ (fun q hq=>⟨dec.keeps bw (hcl q hq).1,dec.keeps bw (hcl q hq).2⟩) l0 hnm));clear hT' hLE hNE h0' a0 l0 n0 hcl hnm;have hm:x.ar.len=1:=hn;have gx0:=GX9.o.cell 0;simp only [sz2,sz3] at gx0;replace hk:=Hy hk;clear hn3 HK NN hR hn HF IH' HZ HB HA hG hT HM0 hf9 hj hlt hb MM;clear hRX;generalize B8 (txE x)=tx at *;generalize rk x.h=rx at *;generalize x.ar.len=m at *;subst hm;go_wp2_with (first | (refine aG aN dec.uy29 rfl (.tmp 3) rfl rfl _ _ _ rfl GX9.o rfl ?_));refine (CC.o _ (b0 wr)).mono ?_;rintro e w7 ⟨rfl,b7⟩;have B7:=Hy (ak BW9.o b7);have H9:=Hy (G9.o.keeps b7);clear b7 CC hl gx0;go_wp2_with (refine aF aQ (.tmp 4) (.tmp 33) rfl rfl _ _ _ _ rfl rfl H9.o rfl rfl (by simp [Value.oneCell']) ?_;intro w9 hb9 hs9);refine bn aQ dec.uy90 rfl rfl _ _ _ _ _ rfl hb9 rfl ?_;exact ⟨rfl,B7.o.trans (hs9.below (Nat.le_succ _))⟩
  ·skip;have hl:=dY kPr (MM.o.keeps hbw.o) x.h.k 4 (by rw [hk];rfl) (prF 103) rfl;unfold prF at hl;have hR:=TK hk (txF x.ar);have h0':=hT' 0 (by omega);have h1':=hT' 1 (by omega);have a0:=jk x.ar 0 (by omega);have a1:=jk x.ar 1 (by omega);have l0:=hLE.o 0 (by omega);have l1:=hLE.o 1 (by omega);have n0:=hNE.o 0 (by omega);have n1:=hNE.o 1 (by omega);have htr:odT (txF x.ar) 1=[116,114,117,101]↔bY (od (txF x.ar) 1).2=true:=by rw [a1.1,a1.2];exact Lj (hf9.o 1 (by omega))
   rw [Ry hp htr,a0.1,a1.1] at hR;have hcl:=Am h0' h1';have hRX:=Hy (show txE x=_∧rk x.h=_ from hR);have CC:=Hy (fun (W:World) (bw:Below wr.heap.size wr W)=>(show Calls Tryz.prog 103 #[.agg #[.int .i64 x.h.k,.string x.h.op,.string x.h.nm,.string x.h.tb,.int .i64 x.h.vk,.int .i64 x.h.vn,.string x.h.vs,.slice ua x.h.un.length uc,.int .i64 x.h.pa,.int .i64 x.h.wk,.int .i64 x.h.ws,.slice aa x.ar.len ac],.slice (some ⟨gO,0,none⟩) x.ar.len x.ar.len] W (Pr (B8 (txE x)) (rk x.h) W) from by rw [hn,hRX.o.1,hRX.o.2];exact xH x.h 2 ua aa uc ac W gO 0 2 _ _ _ _ (fun q hq=>⟨dec.keeps bw (hcl q hq).1,dec.keeps bw (hcl q hq).2⟩) l0 l1 n0 n1 htb hp hw (TR.o.stays bw)));clear hT' hLE hNE h0' a0 l0 n0 h1' a1 l1 n1 hcl htb hp hw htr;have hm:x.ar.len=2:=hn;have gx0:=GX9.o.cell 0;simp only [sz2,sz3] at gx0;replace hk:=Hy hk;clear hn3 HK NN hR hn HF IH' HZ HB HA hG hT HM0 hf9 hj hlt hb MM;clear hRX;generalize B8 (txE x)=tx at *;generalize rk x.h=rx at *;generalize x.ar.len=m at *;subst hm;go_wp2_with (first | (refine aG aN dec.uy29 rfl (.tmp 3) rfl rfl _ _ _ rfl GX9.o rfl ?_));refine (CC.o _ (b0 wr)).mono ?_;rintro e w7 ⟨rfl,b7⟩;have B7:=Hy (ak BW9.o b7);have H9:=Hy (G9.o.keeps b7);clear b7 CC hl gx0;go_wp2_with (refine aF aQ (.tmp 4) (.tmp 33) rfl rfl _ _ _ _ rfl rfl H9.o rfl rfl (by simp [Value.oneCell']) ?_;intro w9 hb9 hs9);refine bn aQ dec.uy90 rfl rfl _ _ _ _ _ rfl hb9 rfl ?_;exact ⟨rfl,B7.o.trans (hs9.below (Nat.le_succ _))⟩
  ·skip;have hl:=dY kPr (MM.o.keeps hbw.o) x.h.k 5 (by rw [hk];rfl) (prF 104) rfl;unfold prF at hl;have hR:=TJ hk (txF x.ar);have h0':=hT' 0 (by omega);have a0:=jk x.ar 0 (by omega);have l0:=hLE.o 0 (by omega);have n0:=hNE.o 0 (by omega);have hcl:=JG h0';unfold odP at hR;rw [show (od (txF x.ar) 0).1=txE (x.ar.nth 0) from a0.1,a0.1,a0.2] at hR;have hRX:=Hy (show txE x=_∧rk x.h=_ from hR);have CC:=Hy (fun (W:World) (bw:Below wr.heap.size wr W)=>(show Calls Tryz.prog 104 #[.agg #[.int .i64 x.h.k,.string x.h.op,.string x.h.nm,.string x.h.tb,.int .i64 x.h.vk,.int .i64 x.h.vn,.string x.h.vs,.slice ua x.h.un.length uc,.int .i64 x.h.pa,.int .i64 x.h.wk,.int .i64 x.h.ws,.slice aa x.ar.len ac],.slice (some ⟨gO,0,none⟩) x.ar.len x.ar.len] W (Pr (B8 (txE x)) (rk x.h) W) from by rw [hn,hRX.o.1,hRX.o.2];exact Gn x.h 1 ua aa uc ac W gO 0 1 _ _ (fun q hq=>⟨dec.keeps bw (hcl q hq).1,dec.keeps bw (hcl q hq).2⟩) l0 n0));clear hT' hLE hNE h0' a0 l0 n0 hcl;have hm:x.ar.len=1:=hn;have gx0:=GX9.o.cell 0;simp only [sz2,sz3] at gx0;replace hk:=Hy hk;clear hn3 HK NN hR hn HF IH' HZ HB HA hG hT HM0 hf9 hj hlt hb MM;clear hRX;generalize B8 (txE x)=tx at *;generalize rk x.h=rx at *;generalize x.ar.len=m at *;subst hm;go_wp2_with (first | (refine aG aN dec.uy29 rfl (.tmp 3) rfl rfl _ _ _ rfl GX9.o rfl ?_));refine (CC.o _ (b0 wr)).mono ?_;rintro e w7 ⟨rfl,b7⟩;have B7:=Hy (ak BW9.o b7);have H9:=Hy (G9.o.keeps b7);clear b7 CC hl gx0;go_wp2_with (refine aF aQ (.tmp 4) (.tmp 33) rfl rfl _ _ _ _ rfl rfl H9.o rfl rfl (by simp [Value.oneCell']) ?_;intro w9 hb9 hs9);refine bn aQ dec.uy90 rfl rfl _ _ _ _ _ rfl hb9 rfl ?_;exact ⟨rfl,B7.o.trans (hs9.below (Nat.le_succ _))⟩
  ·skip;have hl:=dY kPr (MM.o.keeps hbw.o) x.h.k 6 (by rw [hk];rfl) (prF 105) rfl;unfold prF at hl;have hR:=TI hk hod (txF x.ar);have h0':=hT' 0 (by omega);have h1':=hT' 1 (by omega);have a0:=jk x.ar 0 (by omega);have a1:=jk x.ar 1 (by omega);have l0:=hLE.o 0 (by omega);have l1:=hLE.o 1 (by omega);have n0:=hNE.o 0 (by omega);have n1:=hNE.o 1 (by omega);have hcl:=Am h0' h1';unfold odP at hR;rw [show (od (txF x.ar) 0).1=txE (x.ar.nth 0) from a0.1,show (od (txF x.ar) 1).1=txE (x.ar.nth 1) from a1.1,a0.2,a1.2] at hR;have hRX:=Hy (show txE x=_∧rk x.h=_ from hR);have CC:=Hy (fun (W:World) (bw:Below wr.heap.size wr W)=>(show Calls Tryz.prog 105 #[.agg #[.int .i64 x.h.k,.string x.h.op,.string x.h.nm,.string x.h.tb,.int .i64 x.h.vk,.int .i64 x.h.vn,.string x.h.vs,.slice ua x.h.un.length uc,.int .i64 x.h.pa,.int .i64 x.h.wk,.int .i64 x.h.ws,.slice aa x.ar.len ac],.slice (some ⟨gO,0,none⟩) x.ar.len x.ar.len] W (Pr (B8 (txE x)) (rk x.h) W) from by rw [hn,hRX.o.1,hRX.o.2];exact Dk x.h 2 ua aa uc ac W gO 0 2 _ _ _ _ (fun q hq=>⟨dec.keeps bw (hcl q hq).1,dec.keeps bw (hcl q hq).2⟩) l0 l1 n0 n1 ho hol));clear hT' hLE hNE h0' a0 l0 n0 h1' a1 l1 n1 hcl ho hol hod;have hm:x.ar.len=2:=hn;have gx0:=GX9.o.cell 0;simp only [sz2,sz3] at gx0;replace hk:=Hy hk;clear hn3 HK NN hR hn HF IH' HZ HB HA hG hT HM0 hf9 hj hlt hb MM;clear hRX;generalize B8 (txE x)=tx at *;generalize rk x.h=rx at *;generalize x.ar.len=m at *;subst hm;go_wp2_with (first | (refine aG aN dec.uy29 rfl (.tmp 3) rfl rfl _ _ _ rfl GX9.o rfl ?_));refine (CC.o _ (b0 wr)).mono ?_;rintro e w7 ⟨rfl,b7⟩;have B7:=Hy (ak BW9.o b7);have H9:=Hy (G9.o.keeps b7);clear b7 CC hl gx0;go_wp2_with (refine aF aQ (.tmp 4) (.tmp 33) rfl rfl _ _ _ _ rfl rfl H9.o rfl rfl (by simp [Value.oneCell']) ?_;intro w9 hb9 hs9);refine bn aQ dec.uy90 rfl rfl _ _ _ _ _ rfl hb9 rfl ?_;exact ⟨rfl,B7.o.trans (hs9.below (Nat.le_succ _))⟩
  ·skip;have hl:=dY kPr (MM.o.keeps hbw.o) x.h.k 7 (by rw [hk];rfl) (prF 106) rfl;unfold prF at hl;have hR:=TH hk (txF x.ar);have h0':=hT' 0 (by omega);have h1':=hT' 1 (by omega);have h2':=hT' 2 (by omega);have a0:=jk x.ar 0 (by omega);have a1:=jk x.ar 1 (by omega);have a2:=jk x.ar 2 (by omega);have l0:=hLE.o 0 (by omega);have l1:=hLE.o 1 (by omega);have l2:=hLE.o 2 (by omega);have n0:=hNE.o 0 (by omega);have n1:=hNE.o 1 (by omega);have n2:=hNE.o 2 (by omega);have hcl:=Lp h0' h1' h2';rw [a0.1,a1.1,a2.1] at hR;have hRX:=Hy (show txE x=_∧rk x.h=_ from hR);have CC:=Hy (fun (W:World) (bw:Below wr.heap.size wr W)=>(show Calls Tryz.prog 106 #[.agg #[.int .i64 x.h.k,.string x.h.op,.string x.h.nm,.string x.h.tb,.int .i64 x.h.vk,.int .i64 x.h.vn,.string x.h.vs,.slice ua x.h.un.length uc,.int .i64 x.h.pa,.int .i64 x.h.wk,.int .i64 x.h.ws,.slice aa x.ar.len ac],.slice (some ⟨gO,0,none⟩) x.ar.len x.ar.len] W (Pr (B8 (txE x)) (rk x.h) W) from by rw [hn,hRX.o.1,hRX.o.2];exact Dj x.h 3 ua aa uc ac W gO 0 3 _ _ _ _ _ _ (fun q hq=>⟨dec.keeps bw (hcl q hq).1,dec.keeps bw (hcl q hq).2⟩) l0 l1 l2 n0 n1 n2));clear hT' hLE hNE h0' a0 l0 n0 h1' a1 l1 n1 h2' a2 l2 n2 hcl;have hm:x.ar.len=3:=hn;have gx0:=GX9.o.cell 0;simp only [sz2,sz3] at gx0;replace hk:=Hy hk;clear hn3 HK NN hR hn HF IH' HZ HB HA hG hT HM0 hf9 hj hlt hb MM;clear hRX;generalize B8 (txE x)=tx at *;generalize rk x.h=rx at *;generalize x.ar.len=m at *;subst hm;go_wp2_with (first | (refine aG aN dec.uy29 rfl (.tmp 3) rfl rfl _ _ _ rfl GX9.o rfl ?_));refine (CC.o _ (b0 wr)).mono ?_;rintro e w7 ⟨rfl,b7⟩;have B7:=Hy (ak BW9.o b7);have H9:=Hy (G9.o.keeps b7);clear b7 CC hl gx0;go_wp2_with (refine aF aQ (.tmp 4) (.tmp 33) rfl rfl _ _ _ _ rfl rfl H9.o rfl rfl (by simp [Value.oneCell']) ?_;intro w9 hb9 hs9);refine bn aQ dec.uy90 rfl rfl _ _ _ _ _ rfl hb9 rfl ?_;exact ⟨rfl,B7.o.trans (hs9.below (Nat.le_succ _))⟩
  skip;have hl:=dY kPr (MM.o.keeps hbw.o) x.h.k 8 (by rw [hk];rfl) (prF 107) rfl;unfold prF at hl;have hR:=TG hk (txF x.ar);have h0':=hT' 0 (by omega);have h1':=hT' 1 (by omega);have a0:=jk x.ar 0 (by omega);have a1:=jk x.ar 1 (by omega);have l0:=hLE.o 0 (by omega);have l1:=hLE.o 1 (by omega);have n0:=hNE.o 0 (by omega);have n1:=hNE.o 1 (by omega);have hcl:=Am h0' h1';unfold odP at hR;rw [show (od (txF x.ar) 0).1=txE (x.ar.nth 0) from a0.1,show (od (txF x.ar) 1).1=txE (x.ar.nth 1) from a1.1,a0.2,a1.2] at hR;have hRX:=Hy (show txE x=_∧rk x.h=_ from hR);have CC:=Hy (fun (W:World) (bw:Below wr.heap.size wr W)=>(show Calls Tryz.prog 107 #[.agg #[.int .i64 x.h.k,.string x.h.op,.string x.h.nm,.string x.h.tb,.int .i64 x.h.vk,.int .i64 x.h.vn,.string x.h.vs,.slice ua x.h.un.length uc,.int .i64 x.h.pa,.int .i64 x.h.wk,.int .i64 x.h.ws,.slice aa x.ar.len ac],.slice (some ⟨gO,0,none⟩) x.ar.len x.ar.len] W (Pr (B8 (txE x)) (rk x.h) W) from by rw [hn,hRX.o.1,hRX.o.2];exact zJ x.h 2 ua aa uc ac W gO 0 2 _ _ _ _ (fun q hq=>⟨dec.keeps bw (hcl q hq).1,dec.keeps bw (hcl q hq).2⟩) l0 l1 n0 n1));clear hT' hLE hNE h0' a0 l0 n0 h1' a1 l1 n1 hcl;have hm:x.ar.len=2:=hn;have gx0:=GX9.o.cell 0;simp only [sz2,sz3] at gx0;replace hk:=Hy hk;clear hn3 HK NN hR hn HF IH' HZ HB HA hG hT HM0 hf9 hj hlt hb MM;clear hRX;generalize B8 (txE x)=tx at *;generalize rk x.h=rx at *;generalize x.ar.len=m at *;subst hm;go_wp2_with (first | (refine aG aN dec.uy29 rfl (.tmp 3) rfl rfl _ _ _ rfl GX9.o rfl ?_));refine (CC.o _ (b0 wr)).mono ?_;rintro e w7 ⟨rfl,b7⟩;have B7:=Hy (ak BW9.o b7);have H9:=Hy (G9.o.keeps b7);clear b7 CC hl gx0;go_wp2_with (refine aF aQ (.tmp 4) (.tmp 33) rfl rfl _ _ _ _ rfl rfl H9.o rfl rfl (by simp [Value.oneCell']) ?_;intro w9 hb9 hs9);refine bn aQ dec.uy90 rfl rfl _ _ _ _ _ rfl hb9 rfl ?_;exact ⟨rfl,B7.o.trans (hs9.below (Nat.le_succ _))⟩
theorem G8 (i:Bool) (x:Ex) (ua aa:Option Addr) (uc ac b:Nat) (w:World) (hf:fmE i x=true) (hs:x.ar.sz≤3000) (hE:Ec w x ua uc aa ac) (hM:Mp w b prL) (T:Tabq w):Calls Tryz.prog 51 #[.map (some b),.agg (exC x.h x.ar.len ua uc aa ac)] w (Pr (B8 (txE x)) (rk x.h) w):=by
 have key:∀ n,∀ (i:Bool) (x:Ex) (ua aa:Option Addr) (uc ac b:Nat) (w:World),x.ar.sz<n→fmE i x=true→x.ar.sz≤3000→Ec w x ua uc aa ac→Mp w b prL→Tabq w→Calls Tryz.prog 51 #[.map (some b),.agg (exC x.h x.ar.len ua uc aa ac)] w (Pr (B8 (txE x)) (rk x.h) w):=by
  intro n
  induction n with
  | zero=>intro i x ua aa uc ac b w h;exact absurd h (Nat.not_lt_zero _)
  | succ n ih =>
    intro i x ua aa uc ac b w h hf hs hE hM T
    exact Dr x.ar.sz (fun i' x' ua' aa' uc' ac' b' w' h' => ih i' x' ua' aa' uc' ac' b' w' (by omega)) i x ua aa uc ac b w rfl hf hs hE hM T
 exact key _ i x ua aa uc ac b w ls hf hs hE hM T
def Tx (s:ByteArray) (e:Int) (w:World) (en:Ending) (w':World):Prop:=en=.returned (.tuple #[.string s,.int .i64 e])∧Below w.heap.size w w'
theorem fK {s t:ByteArray} {c d:Int} {w w':World} (h:s=t) (h2:c=d) (hb:Below w.heap.size w w'):Tx t d w (.returned (.tuple #[.string s,.int .i64 c])) w':=⟨by rw [h,h2],hb⟩
def txO (e:Int) (t:List UInt8):ByteArray:=if e=0 then B8 t else .empty
theorem UD (t:ByteArray) (r:Int) (w:World):(Instr.field 90 (.agg #[.string t,.int .i64 r]) 0).run Tryz.prog w=.ok (.string t) w:=by kernel_rfl
theorem kR {x:Ex} (h:shE x=0):fmE false x=true:=by
 unfold shE at h;split at h
 ·cases h
 split at h
 ·assumption
 cases h
theorem Jq (t:Ty) (ua:Option Addr) (uc:Nat) (w:World) (hU:un.Sl w ua t.un.length uc t.un) (hs:t.of.size≤140737488355328) (T:Tabq w):Calls Tryz.prog 17 #[.agg (tyC t ua uc)] w (Tx (txO (tyE t) (tyT t)) (tyE t) w):=by
 have bb:=aj (b0 w) (.cells (tyC t ua uc) 31);have BB:=Hy bb;have G:=Hy (Blk.new w 31 (tyC t ua uc));have C1:=Hy (show Calls Tryz.prog 42 #[.agg (tyC t ua uc)] _ (Num (tyE t) _) from tQ t ua uc _ (hU.keeps bb) hs (T.stays bb).t);have C2:=Hy (fun (h:tyE t=0) (W:World) (b:Below w.heap.size w W)=>qH t ua uc W h (hU.keeps b) (T.stays b));have HO:txO (tyE t) (tyT t)=txO (tyE t) (tyT t):=rfl
 conv at HO=>rhs;unfold txO
 replace HO:=Hy HO;clear bb hU T hs;generalize B8 (tyT t)=s1 at *;generalize txO (tyE t) (tyT t)=s2 at *;generalize tyE t=c at *;unfold tyC at *
 go_enter Tryz.func17,Tryz.ntmps17
 go_wp2_with (refine aG dx dec.uy31 rfl (.tmp 1) rfl rfl _ _ _ rfl G.o rfl ?_);refine C1.o.mono ?_;rintro e w1 ⟨rfl,b1⟩;have B1:=Hy (ak BB.o b1);replace G:=Hy (G.o.keeps b1);clear b1 C1;by_cases h0:c=0
 ·have q:(c != 0)=false:=by rw [bne,dG h0];rfl
  have HS:=Hy (HO.o.trans (if_pos h0));have C3:=Hy (C2.o h0);replace h0:=Hy h0;clear C2;go_wp2_with (refine aG dx dec.uy31 rfl (.tmp 1) rfl rfl _ _ _ rfl G.o rfl ?_);refine (C3.o _ B1.o).mono ?_;rintro e w2 ⟨rfl,b2⟩;have B2:=Hy (ak B1.o b2);clear b2 C3;go_wp2_with (refine aG dx dec.uy31 rfl (.tmp 1) rfl rfl _ _ _ rfl G.o rfl ?_)
  go_ret2
  exact fK HS.o.symm h0.o.symm B2.o
 have q:(c != 0)=true:=by rw [bne,dB h0];rfl
 have HS:=Hy (HO.o.trans (if_neg h0));replace h0:=Hy h0;go_wp2_with (refine aG dx dec.uy31 rfl (.tmp 1) rfl rfl _ _ _ rfl G.o rfl ?_)
 go_ret2
 exact fK HS.o.symm rfl B1.o
theorem qV (x:Ex) (ua aa:Option Addr) (uc ac:Nat) (w:World) (hs:x.szs) (hz:x.ar.sz≤3000) (hE:Ec w x ua uc aa ac) (T:Tabq w):Calls Tryz.prog 15 #[.agg (exC x.h x.ar.len ua uc aa ac)] w (Tx (txO (shE x) (txE x)) (shE x) w):=by
 have bb:=aj (b0 w) (.cells (exC x.h x.ar.len ua uc aa ac) 29);have BB:=Hy bb;have G:=Hy (Blk.new w 29 (exC x.h x.ar.len ua uc aa ac));have C1:=Hy (Gz x ua aa uc ac _ hs (hE.keeps bb) (T.stays bb).t);have C0:=Hy (fun (W:World)=>Ba W);have C2:=Hy (fun (h:shE x=0) (W:World) (g:Nat) (b:Below w.heap.size w W) (M:Mp W g prL)=>G8 false x ua aa uc ac g W (kR h) hz (hE.keeps b) M (T.stays b));have HO:txO (shE x) (txE x)=txO (shE x) (txE x):=rfl
 conv at HO=>rhs;unfold txO
 replace HO:=Hy HO;clear bb hE T hs hz;generalize B8 (txE x)=s1 at *;generalize txO (shE x) (txE x)=s2 at *;generalize shE x=c at *;unfold exC at *
 go_enter Tryz.func15,Tryz.ntmps15
 go_wp2_with (refine aG aN dec.uy29 rfl (.tmp 1) rfl rfl _ _ _ rfl G.o rfl ?_);refine C1.o.mono ?_;rintro e w1 ⟨rfl,b1⟩;have B1:=Hy (ak BB.o b1);replace G:=Hy (G.o.keeps b1);clear b1 C1;by_cases h0:c=0
 ·have q:(c != 0)=false:=by rw [bne,dG h0];rfl
  have HS:=Hy (HO.o.trans (if_pos h0));have C3:=Hy (C2.o h0);replace h0:=Hy h0;clear C2;go_wp2_with (refine aG aN dec.uy29 rfl (.tmp 1) rfl rfl _ _ _ rfl G.o rfl ?_);have hfd:=fun W=>UD s1 (rk x.h) W;refine wp_region_held_drew (S:=fun w' => Blk w' w.heap.size 29 #[.int .i64 x.h.k,.string x.h.op,.string x.h.nm,.string x.h.tb,.int .i64 x.h.vk,.int .i64 x.h.vn,.string x.h.vs,.slice ua x.h.un.length uc,.int .i64 x.h.pa,.int .i64 x.h.wk,.int .i64 x.h.ws,.slice aa x.ar.len ac]∧Below w.heap.size w w') (by kernel_rfl) ⟨G.o.drew,B1.o.drew⟩ (fun hH=>?_);refine bg 1 10 (.agg #[.int .i64 x.h.k,.string x.h.op,.string x.h.nm,.string x.h.tb,.int .i64 x.h.vk,.int .i64 x.h.vn,.string x.h.vs,.slice ua x.h.un.length uc,.int .i64 x.h.pa,.int .i64 x.h.wk,.int .i64 x.h.ws,.slice aa x.ar.len ac]) rfl (by kernel_rfl) rfl (fun _ _ _ h=>h) rfl hH (fun w' hS=>aY aN dec.uy29 rfl (.tmp 1) rfl _ _ _ rfl hS.1 rfl) ?_;simp only [sz];refine aA 0 (fun K hK=>?_);go_simp;refine (C0.o _).mono ?_;rintro e w6 ⟨b,rfl,hbb,m,b6⟩;refine hK.o _ _ ⟨hH.1.keeps b6,ak hH.2 b6⟩ (fun hH=>?_);clear hK K;refine BZ (fun w' => Mp w' b prL) m hH (fun hH=>?_);clear m b6 hbb;refine aA 2 (fun K hK=>?_);go_simp;refine (C3.o _ b hH.1.2 hH.2).mono ?_;rintro e w7 ⟨rfl,b7⟩;refine hK.o _ _ ⟨⟨hH.1.1.keeps b7,ak hH.1.2 b7⟩,hH.2.keeps b7⟩ (fun hH=>?_);clear hK K b7;refine au 3 12 ?_ hH (fun w' hS=>?_) ?_;rotate_left;(·go_simp;try rfl);simp only [sz];refine au 4 2 ?_ hH (fun w' hS=>?_) ?_;rotate_left;(·go_simp;try rfl);simp only [sz];refine au 5 3 ?_ hH (fun w' hS=>?_) ?_;rotate_left;(·go_simp;try rfl);simp only [sz];refine wpAnyH_done (by kernel_rfl) ?_ _;have B9:=Hy hH.1.2;clear hH C3 C0;go_wp2_with fail
  go_ret2
  exact fK HS.o.symm h0.o.symm B9.o
 have q:(c != 0)=true:=by rw [bne,dB h0];rfl
 have HS:=Hy (HO.o.trans (if_neg h0));replace h0:=Hy h0;go_wp2_with (refine aG aN dec.uy29 rfl (.tmp 1) rfl rfl _ _ _ rfl G.o rfl ?_)
 go_ret2
 exact fK HS.o.symm rfl B1.o
end ch
end Go.Proofs.YtbahfelnbofjjaaGreatDoor
