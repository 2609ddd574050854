/-
  The printers of literals, look-ups, choices, operations; The printers of unary operations and of aggregates.
-/
import Derived.Test.YtbahfelnbofjjaaGreatDoorG10
set_option maxRecDepth 100000
set_option maxHeartbeats 16000000
namespace Go.Proofs.YtbahfelnbofjjaaGreatDoor
namespace ch
open Go.RowKit dec
theorem Oe {i:Bool} {g h:Hd} (N:Nod i g h 0) (hk:h.k=1):(h.vk=5∧name h.nm=true∧h.vs.size≤32)∨(h.vk≠5∧h.vs.size≤64∧Un h.un∧fm ⟨h.vk,h.vn,h.vs⟩≠[]∧(fm ⟨h.vk,h.vn,h.vs⟩).length≤100):=by
 cases N with
 | boo n e =>
   refine .inr ⟨by show ¬ (1:Int)=5;decide,by show ByteArray.empty.size≤64;decide,⟨un.Ok.nil,fun x hx=>by cases hx⟩,?_,?_⟩
   · show fm ⟨1,n,.empty⟩≠[]
     rcases e with rfl | rfl
     · rw [fM (by decide)];decide
     · rw [fM (by decide)];decide
   · show (fm ⟨1,n,.empty⟩).length≤100
     rcases e with rfl | rfl
     · rw [fM (by decide)];decide
     · rw [fM (by decide)];decide
 | num k n u hk' h0 h1 hu =>
   refine .inr ⟨by show ¬ k=5;omega,by show ByteArray.empty.size≤64;decide,hu,?_,?_⟩
   · show fm ⟨k,n,.empty⟩≠[]
     rw [qJ hk' h0 h1]
     split
     · exact xM n
     · obtain ⟨c,r,e,_⟩:=Om n
       rw [e];exact List.cons_ne_nil _ _
   · show (fm ⟨k,n,.empty⟩).length≤100
     rw [qJ hk' h0 h1]
     have a2:=fG n h0 h1
     have a3:=Bu h0 h1
     split <;> omega
 | tex s h1 h2 =>
   have e:fm ⟨4,0,s⟩=34 :: (s.data.toList++[34]):=by rw [fM (rH h1 h2)];rfl
   refine .inr ⟨by show ¬ (4:Int)=5;decide,h1,⟨un.Ok.nil,fun x hx=>by cases hx⟩,?_,?_⟩
   · show fm ⟨4,0,s⟩≠[]
     rw [e];exact List.cons_ne_nil _ _
   · show (fm ⟨4,0,s⟩).length≤100
     rw [e];simp;omega
 | key m s hm h0 h1 h2=>exact .inl ⟨rfl,hm,h1⟩
 | fie m hi hm=>exact absurd hk (by show ¬ (2:Int)=1;decide)
 | fea m hi hm=>exact absurd hk (by show ¬ (3:Int)=1;decide)
theorem MS (u:List un.Fa):Lib.joinTail [32] ((nel [B8 (uB u)]).map (·.data.toList))=uT u:=by
 by_cases hu:u=[]
 ·have e0:B8 (uB u)=.empty:=by rw [hu];rfl
  rw [e0,gV _ _ rfl,hu];rfl
 have hne:uB u≠[]:=by unfold uB;rw [if_neg hu];exact List.cons_ne_nil _ _
 rw [tail_cons _ _ (eG hne),tail_nil,List.append_nil,dB];unfold uB uT;rw [if_neg hu,if_neg hu]
theorem nk (w:World):w.heap.size≠w.heap.size+1:=by omega
theorem zD (h:Hd) (n:Nat) (ua aa:Option Addr) (uc ac:Nat) (w:World) {i:Bool} {g:Hd} (N0:Nod i g h 0) (hk:h.k=1) (a:Option Addr) (m c:Nat) (hU:un.Sl w ua h.un.length uc h.un) (T:Tabq w):Calls Tryz.prog 100 #[.agg (exC h n ua uc aa ac),.slice a m c] w (Pr (B8 (liT h)) 9 w):=by
 rcases Oe N0 hk with hc | hc
 ·obtain ⟨hv,hn,hsz⟩:=hc;have hnl:=dx hn;have q:=bB hv;have A1:=fB [64] h.nm.data.toList (by decide) (by omega);have A2:=fB [34] h.vs.data.toList (by decide) (by rw [aI];omega);have A3:=fB (34 :: h.vs.data.toList) [34] (by rw [List.length_cons,aI];omega) (by decide);replace A1:∀ W,(Op.stringOp .add ⟨#[64]⟩ h.nm).run Tryz.prog W=.ok (.string (B8 (64 :: h.nm.data.toList))) W:=A1;replace A2:∀ W,(Op.stringOp .add ⟨#[34]⟩ h.vs).run Tryz.prog W=.ok (.string (B8 (34 :: h.vs.data.toList))) W:=A2;replace A3:∀ W,(Op.stringOp .add (B8 (34 :: h.vs.data.toList)) ⟨#[34]⟩).run Tryz.prog W=.ok (.string (B8 (34 :: (h.vs.data.toList++[34])))) W:=A3;have hW:wrd [B8 (64 :: h.nm.data.toList),B8 (34 :: (h.vs.data.toList++[34]))]=liT h:=by
   rw [dA _ (eG (List.cons_ne_nil _ _)),tail_cons _ _ (eG (List.cons_ne_nil _ _)),tail_nil,List.append_nil,dB,dB];unfold liT;rw [if_pos hv];simp
  have hlt:(liT h).length≤1000:=by
   unfold liT;rw [if_pos hv];rw [aI] at hnl;simp;omega
  have bb:=bY w (.cells (exC h n ua uc aa ac) 144) (.cells #[.string ⟨#[]⟩,.int .i64 0] 90);have GG:=fA w (exC h n ua uc aa ac) #[.string ⟨#[]⟩,.int .i64 0] 144 90;have hle:=Hy (iM w);have B0:=Hy bb;have G:=Hy GG.1;have H:=Hy GG.2;have hne:=Hy (nk w);have hz:(wrd [B8 (64 :: h.nm.data.toList),B8 (34 :: (h.vs.data.toList++[34]))]).length≤100000000:=by rw [hW];omega
  have CP:=Hy (fun (W:World) (a:Option Addr) (h:Ss W a 2 2 [B8 (64 :: h.nm.data.toList),B8 (34 :: (h.vs.data.toList++[34]))])=>iG a 2 2 _ W h (by decide) hz);rw [hW] at CP;have N:=Hy (fun (W:World)=>Ss.new W [B8 (64 :: h.nm.data.toList),B8 (34 :: (h.vs.data.toList++[34]))] 2 #[.string (B8 (64 :: h.nm.data.toList)),.string (B8 (34 :: (h.vs.data.toList++[34])))] rfl rfl (by decide) 9);clear hz hW;clear hnl hlt;generalize B8 (liT h)=s4 at *;generalize B8 (64 :: h.nm.data.toList)=s1 at *;generalize B8 (34 :: (h.vs.data.toList++[34]))=s3 at *;generalize B8 (34 :: h.vs.data.toList)=s2 at *;replace hv:=Hy hv;clear bb GG hn hsz T hU N0 hk;unfold exC at *
  go_enter Tryz.func100,Tryz.ntmps100
  go_upto_region 1 with fail
  generalize hw0:((w.alloc (.cells #[.int .i64 h.k,.string h.op,.string h.nm,.string h.tb,.int .i64 h.vk,.int .i64 h.vn,.string h.vs,.slice ua h.un.length uc,.int .i64 h.pa,.int .i64 h.wk,.int .i64 h.ws,.slice aa n ac] 144)).alloc (.cells #[.string ⟨#[]⟩,.int .i64 0] 90))=w0 at *;clear hw0;generalize hg3:w.heap.size+1=g3 at H hle hne ⊢;generalize hg2:w.heap.size=g2 at G hne ⊢;clear hg2 hg3;have c2:=G.o.cell 2;simp only [sz2,sz3,sz4] at c2;have c4:=G.o.cell 4;simp only [sz2,sz3,sz4] at c4;have c6:=G.o.cell 6;simp only [sz2,sz3,sz4] at c6;go_wp2_with fail;refine (CP.o _ _ (N.o _)).mono ?_;rintro e w1 ⟨rfl,b1⟩;have B1:=Hy (aA (au B0.o _) b1);replace H:=Hy ((H.o.keeps (au (b0 _) _)).keeps b1);clear b1 CP N c2 c4 c6;go_wp2_with (refine aL aU (.tmp 4) (.tmp 18) rfl rfl _ _ _ _ rfl rfl H.o rfl rfl (by simp [Value.oneCell']) ?_;intro w9 hb9 hs9);refine bK aU Tryz.underlying90 rfl rfl _ _ _ _ _ rfl hb9 rfl ?_;exact ⟨rfl,B1.o.trans (hs9.below hle.o)⟩
 obtain ⟨hv,hsz,hu,hf,hfl⟩:=hc;have q:=bg hv;have hul:=pU hu;have hW:wrd [B8 (fm ⟨h.vk,h.vn,h.vs⟩),B8 (uB h.un)]=liT h:=by
  rw [dA _ (eG hf),MS,dB];unfold liT;rw [if_neg hv]
 have hlt:(liT h).length≤1000:=by
  unfold liT;rw [if_neg hv,List.length_append];omega
 have bb:=bY w (.cells (exC h n ua uc aa ac) 144) (.cells #[.string ⟨#[]⟩,.int .i64 0] 90);have GG:=fA w (exC h n ua uc aa ac) #[.string ⟨#[]⟩,.int .i64 0] 144 90;have hle:=Hy (iM w);have B0:=Hy bb;have G:=Hy GG.1;have H:=Hy GG.2;have hne:=Hy (nk w);have hz:(wrd [B8 (fm ⟨h.vk,h.vn,h.vs⟩),B8 (uB h.un)]).length≤100000000:=by rw [hW];omega
 have CP:=Hy (fun (W:World) (a:Option Addr) (h:Ss W a 2 2 [B8 (fm ⟨h.vk,h.vn,h.vs⟩),B8 (uB h.un)])=>iG a 2 2 _ W h (by decide) hz);rw [hW] at CP;have N:=Hy (fun (W:World)=>Ss.new W [B8 (fm ⟨h.vk,h.vn,h.vs⟩),B8 (uB h.un)] 2 #[.string (B8 (fm ⟨h.vk,h.vn,h.vs⟩)),.string (B8 (uB h.un))] rfl rfl (by decide) 9);clear hz hW;have CF:∀ (W:World),Below w.heap.size w W→Calls Tryz.prog 156 #[.agg #[.int .i64 h.vk,.int .i64 h.vn,.string h.vs]] W (Sr (B8 (fm ⟨h.vk,h.vn,h.vs⟩)) W):=fun W b=>(Dh h.vk h.vn h.vs (by omega) W (T.t.stays b)).mono fun _ _ h=>h;replace CF:=Hy CF;have CU:=Hy (fun (W:World) (b:Below w.heap.size w W)=>pR h.un hu ua h.un.length uc W (hU.keeps b) (T.t.stays b));clear hlt hul hf hfl;generalize B8 (liT h)=s4 at *;generalize B8 (fm ⟨h.vk,h.vn,h.vs⟩)=s1 at *;generalize B8 (uB h.un)=s2 at *;replace hv:=Hy hv;clear bb GG hu hsz T hU N0 hk;unfold exC at *
 go_enter Tryz.func100,Tryz.ntmps100
 go_upto_region 1 with fail
 generalize hw0:((w.alloc (.cells #[.int .i64 h.k,.string h.op,.string h.nm,.string h.tb,.int .i64 h.vk,.int .i64 h.vn,.string h.vs,.slice ua h.un.length uc,.int .i64 h.pa,.int .i64 h.wk,.int .i64 h.ws,.slice aa n ac] 144)).alloc (.cells #[.string ⟨#[]⟩,.int .i64 0] 90))=w0 at *;clear hw0;generalize hg3:w.heap.size+1=g3 at H hle hne ⊢;generalize hg2:w.heap.size=g2 at G hne ⊢;clear hg2 hg3;have c4:=G.o.cell 4;simp only [sz2,sz3,sz4] at c4;go_wp2_with fail;clear c4;refine wp_region_held_drew (S:=fun w' => (∃ cs:Array Value,cs.size=2∧Blk w' g3 90 cs)∧Blk w' g2 144 #[.int .i64 h.k,.string h.op,.string h.nm,.string h.tb,.int .i64 h.vk,.int .i64 h.vn,.string h.vs,.slice ua h.un.length uc,.int .i64 h.pa,.int .i64 h.wk,.int .i64 h.ws,.slice aa n ac]∧Below w.heap.size w w') (by kernel_rfl) ⟨⟨_,rfl,H.o.drew⟩,G.o.drew,B0.o.drew⟩ (fun hH=>?_);generalize w0.drew=y0 at *;refine ak 0 19 ?_ hH (fun w' hS=>?_) ?_;rotate_left
 ·go_simp;try with_reducible rfl
 simp only [sz0,sz1];refine aZ 1 20 (.agg #[.int .i64 h.vk,.int .i64 h.vn,.string h.vs]) rfl (by kernel_rfl) rfl (fun _ _ _ h=>h) rfl hH (fun w' hS=>cK Mr Tryz.underlying23 rfl (.tmp 19) rfl _ _ _ rfl (su (hS.2.1.cell 4) (hS.2.1.cell 5) (hS.2.1.cell 6)) rfl) ?_;simp only [sz0,sz1];refine ak 3 22 ?_ hH (fun w' hS=>?_) ?_;rotate_left
 ·go_simp;try with_reducible rfl
 simp only [sz0,sz1];refine ak 4 23 ?_ hH (fun w' hS=>?_) ?_;rotate_left
 ·have e1:=hS.2.1.cell 7;simp only [sz2,sz3,sz4] at e1;go_simp;try with_reducible rfl
 simp only [sz0,sz1];refine aC 2 (fun K hK=>?_);go_simp;refine (CF.o _ hH.2.2).mono ?_;rintro e v1 ⟨rfl,c1⟩;refine hK.o _ _ ⟨bT hH.1 c1,hH.2.1.keeps c1,aA hH.2.2 c1⟩ (fun hH=>?_);clear hK K c1;refine aC 5 (fun K hK=>?_);go_simp;refine (CU.o _ hH.2.2).mono ?_;rintro e v2 ⟨rfl,c2⟩;refine hK.o _ _ ⟨bT hH.1 c2,hH.2.1.keeps c2,aA hH.2.2 c2⟩ (fun hH=>?_);clear hK K c2;refine aC 6 (fun K hK=>?_);go_simp;have hNN:=N.o v2;refine hK.o _ _ ⟨bT hH.1 (au (b0 _) _),hH.2.1.keeps (au (b0 _) _),au hH.2.2 _⟩ (fun hH=>?_);clear hK K;refine aC 7 (fun K hK=>?_);go_simp;refine (CP.o _ _ hNN).mono ?_;rintro e v3 ⟨rfl,c3⟩;refine hK.o _ _ ⟨bT hH.1 c3,hH.2.1.keeps c3,aA hH.2.2 c3⟩ (fun hH=>?_);clear hK K c3;obtain ⟨pcs,hps,hPB⟩:=hH.1;refine aC 8 (fun K hK=>?_);refine jJ aU (.tmp 4) (.tmp 26) rfl _ _ _ _ rfl rfl hPB hps rfl (by simp [Value.oneCell']) ?_;intro w9 hb9 hs9;have hq9:=Hy hb9;have B9:=Hy (hH.2.2.trans (hs9.below (hle.o)));refine hK.o _ _ ⟨⟨_,rfl,hb9⟩,hH.2.1.st hs9 hne.o,B9.o⟩ (fun _=>?_);clear hK K hPB hps hb9 hs9 hH;refine wpAnyH_done (by kernel_rfl) ?_ _;go_wp2_with fail;refine bK aU Tryz.underlying90 rfl rfl _ _ _ _ _ rfl hq9.o rfl ?_;exact ⟨rfl,B9.o⟩
theorem rV {w w':World} {g b o:Nat} {v:Value} (h:w.cell? ⟨b,o,none⟩=some v) (s:St g w w') (hn:b≠g):w'.cell? ⟨b,o,none⟩=some v:=(World.cell?_of_block (w:=w) (s.block b hn)).trans h
theorem Ck (h:Hd) (n:Nat) (ua aa:Option Addr) (uc ac:Nat) (w:World) (b off c:Nat) (t0:List UInt8) (r0:Int) (hC:un.Cl w b off [(B8 t0,r0)]) (l0:t0.length≤1000000) (hn:name h.nm=true):Calls Tryz.prog 102 #[.agg (exC h n ua uc aa ac),.slice (some ⟨b,off,none⟩) 1 c] w (Pr (B8 (h.nm.data.toList++([32,111,102,32,40]++(t0++[41])))) 9 w):=by
 have k0:=(cl1 hC).1;have hlb:=Hy (show b<w.heap.size from block_lt_of_cell k0);have hnl:=dx hn;have A1:=fB [40] t0 (by decide) (by omega);have A2:=fB (40 :: t0) [41] (by rw [List.length_cons];omega) (by decide);replace A1:∀ W,(Op.stringOp .add ⟨#[40]⟩ (B8 t0)).run Tryz.prog W=.ok (.string (B8 (40 :: t0))) W:=A1;replace A2:∀ W,(Op.stringOp .add (B8 (40 :: t0)) ⟨#[41]⟩).run Tryz.prog W=.ok (.string (B8 (40 :: (t0++[41])))) W:=A2;have hW:wrd [h.nm,⟨#[111,102]⟩,B8 (40 :: (t0++[41]))]=h.nm.data.toList++([32,111,102,32,40]++(t0++[41])):=by
  rw [dA _ (rJ hn),tail_cons _ _ (fun e=>absurd (congrArg (fun b:ByteArray=>b.size) e) (by decide)),tail_cons _ _ (eG (List.cons_ne_nil _ _)),tail_nil,List.append_nil,dB];rfl
 have hlt:(h.nm.data.toList++([32,111,102,32,40]++(t0++[41]))).length≤2000000:=by
  rw [aI] at hnl;simp;omega
 have bb:=bY w (.cells (exC h n ua uc aa ac) 144) (.cells #[.string ⟨#[]⟩,.int .i64 0] 90);have GG:=fA w (exC h n ua uc aa ac) #[.string ⟨#[]⟩,.int .i64 0] 144 90;have hle:=Hy (iM w);have B0:=Hy bb;have G:=Hy GG.1;have H:=Hy GG.2;have hne:=Hy (nk w);have K0:=Hy (dec.keeps bb k0);have hz:(wrd [h.nm,⟨#[111,102]⟩,B8 (40 :: (t0++[41]))]).length≤100000000:=by rw [hW];omega
 have CP:=Hy (fun (W:World) (a:Option Addr) (h:Ss W a 3 3 [h.nm,⟨#[111,102]⟩,B8 (40 :: (t0++[41]))])=>iG a 3 3 _ W h (by decide) hz);rw [hW] at CP;have N:=Hy (fun (W:World)=>Ss.new W [h.nm,⟨#[111,102]⟩,B8 (40 :: (t0++[41]))] 3 #[.string h.nm,.string ⟨#[111,102]⟩,.string (B8 (40 :: (t0++[41])))] rfl rfl (by decide) 9);clear hz hW;clear hnl hlt;generalize B8 (h.nm.data.toList++([32,111,102,32,40]++(t0++[41])))=s4 at *;generalize B8 (40 :: (t0++[41]))=s3 at *;generalize B8 (40 :: t0)=s2 at *;generalize B8 t0=s1 at *;have hbg:=Hy (show b≠w.heap.size+1 by have:=hlb.o;omega);clear bb GG hn hC l0 k0;unfold exC at *
 go_enter Tryz.func102,Tryz.ntmps102
 go_upto_region 1 with fail
 generalize hw0:((w.alloc (.cells #[.int .i64 h.k,.string h.op,.string h.nm,.string h.tb,.int .i64 h.vk,.int .i64 h.vn,.string h.vs,.slice ua h.un.length uc,.int .i64 h.pa,.int .i64 h.wk,.int .i64 h.ws,.slice aa n ac] 144)).alloc (.cells #[.string ⟨#[]⟩,.int .i64 0] 90))=w0 at *;clear hw0;generalize hg3:w.heap.size+1=g3 at H hle hne hbg ⊢;generalize hg2:w.heap.size=g2 at G hne ⊢;clear hg2 hg3;refine wp_region_held_drew (S:=fun w' => (∃ cs:Array Value,cs.size=2∧Blk w' g3 90 cs)∧(Blk w' g2 144 #[.int .i64 h.k,.string h.op,.string h.nm,.string h.tb,.int .i64 h.vk,.int .i64 h.vn,.string h.vs,.slice ua h.un.length uc,.int .i64 h.pa,.int .i64 h.wk,.int .i64 h.ws,.slice aa n ac]∧w'.cell? ⟨b,off,none⟩=some (.string s1))∧Below w.heap.size w w') (by kernel_rfl) ⟨⟨_,rfl,H.o.drew⟩,⟨G.o.drew,K0.o⟩,B0.o.drew⟩ (fun hH=>?_);generalize w0.drew=y0 at *;refine ak 0 5 ?_ hH (fun w' hS=>?_) ?_;rotate_left
 ·go_simp;try with_reducible rfl
 simp only [sz0,sz1];refine ak 1 6 ?_ hH (fun w' hS=>?_) ?_;rotate_left
 ·have e1:=hS.2.1.1.cell 2;simp only [sz2,sz3,sz4] at e1;go_simp;try with_reducible rfl
 simp only [sz0,sz1];refine ak 2 7 ?_ hH (fun w' hS=>?_) ?_;rotate_left
 ·go_simp;try with_reducible rfl
 simp only [sz0,sz1];refine ak 3 8 ?_ hH (fun w' hS=>?_) ?_;rotate_left
 ·go_simp;try with_reducible rfl
 simp only [sz0,sz1];refine ak 4 9 ?_ hH (fun w' hS=>?_) ?_;rotate_left
 ·go_simp;try with_reducible rfl
 simp only [sz0,sz1];refine ak 5 10 ?_ hH (fun w' hS=>?_) ?_;rotate_left
 ·have e1:=hS.2.1.2;go_simp;try with_reducible rfl
 simp only [sz0,sz1];refine ak 6 11 ?_ hH (fun w' hS=>?_) ?_;rotate_left
 ·go_simp;try with_reducible rfl
 simp only [sz0,sz1];refine ak 7 12 ?_ hH (fun w' hS=>?_) ?_;rotate_left
 ·go_simp;try with_reducible rfl
 simp only [sz0,sz1];refine aC 8 (fun K hK=>?_);go_simp;have hNN:=N.o y0;refine hK.o _ _ ⟨bT hH.1 (au (b0 _) _),⟨hH.2.1.1.keeps (au (b0 _) _),dec.keeps (au (b0 _) _) hH.2.1.2⟩,au hH.2.2 _⟩ (fun hH=>?_);clear hK K;refine aC 9 (fun K hK=>?_);go_simp;refine (CP.o _ _ hNN).mono ?_;rintro e v1 ⟨rfl,c1⟩;refine hK.o _ _ ⟨bT hH.1 c1,⟨hH.2.1.1.keeps c1,dec.keeps c1 hH.2.1.2⟩,aA hH.2.2 c1⟩ (fun hH=>?_);clear hK K c1;obtain ⟨pcs,hps,hPB⟩:=hH.1;refine aC 10 (fun K hK=>?_);refine jJ aU (.tmp 4) (.tmp 14) rfl _ _ _ _ rfl rfl hPB hps rfl (by simp [Value.oneCell']) ?_;intro w9 hb9 hs9;have hq9:=Hy hb9;have B9:=Hy (hH.2.2.trans (hs9.below (hle.o)));refine hK.o _ _ ⟨⟨_,rfl,hb9⟩,⟨hH.2.1.1.st hs9 hne.o,rV hH.2.1.2 hs9 hbg.o⟩,B9.o⟩ (fun _=>?_);clear hK K hPB hps hb9 hs9 hH;refine wpAnyH_done (by kernel_rfl) ?_ _;go_wp2_with fail;refine bK aU Tryz.underlying90 rfl rfl _ _ _ _ _ rfl hq9.o rfl ?_;exact ⟨rfl,B9.o⟩
theorem Cm (h:Hd) (n:Nat) (ua aa:Option Addr) (uc ac:Nat) (w:World) (b off c:Nat) (t0:List UInt8) (r0:Int) (t1:List UInt8) (r1:Int) (t2:List UInt8) (r2:Int) (hC:un.Cl w b off [(B8 t0,r0),(B8 t1,r1),(B8 t2,r2)]) (l0:t0.length≤1000000) (l1:t1.length≤1000000) (l2:t2.length≤1000000) (n0:t0≠[]) (n1:t1≠[]) (n2:t2≠[]):Calls Tryz.prog 106 #[.agg (exC h n ua uc aa ac),.slice (some ⟨b,off,none⟩) 3 c] w (Pr (B8 ([105,102,32]++(t0++([32,116,104,101,110,32]++(t1++([32,101,108,115,101,32]++t2)))))) 0 w):=by
 obtain ⟨k0,k1,k2⟩:=cl3 hC;have hlb:=Hy (show b<w.heap.size from block_lt_of_cell k0);have hd:∀ s:ByteArray,s.size≠0→s≠.empty:=fun s h e=>h (by rw [e];rfl);have hW:wrd [⟨#[105,102]⟩,B8 t0,⟨#[116,104,101,110]⟩,B8 t1,⟨#[101,108,115,101]⟩,B8 t2]=[105,102,32]++(t0++([32,116,104,101,110,32]++(t1++([32,101,108,115,101,32]++t2)))):=by
  rw [dA _ (hd _ (by decide)),tail_cons _ _ (eG n0),tail_cons _ _ (hd _ (by decide)),tail_cons _ _ (eG n1),tail_cons _ _ (hd _ (by decide)),tail_cons _ _ (eG n2),tail_nil];simp [dB]
 have hlt:([105,102,32]++(t0++([32,116,104,101,110,32]++(t1++([32,101,108,115,101,32]++t2))))).length≤4000000:=by
  simp;omega
 have bb:=bY w (.cells (exC h n ua uc aa ac) 144) (.cells #[.string ⟨#[]⟩,.int .i64 0] 90);have GG:=fA w (exC h n ua uc aa ac) #[.string ⟨#[]⟩,.int .i64 0] 144 90;have hle:=Hy (iM w);have B0:=Hy bb;have G:=Hy GG.1;have H:=Hy GG.2;have hne:=Hy (nk w);have K0:=Hy (dec.keeps bb k0);have K1:=Hy (dec.keeps bb k1);have K2:=Hy (dec.keeps bb k2);have hz:(wrd [⟨#[105,102]⟩,B8 t0,⟨#[116,104,101,110]⟩,B8 t1,⟨#[101,108,115,101]⟩,B8 t2]).length≤100000000:=by rw [hW];omega
 have CP:=Hy (fun (W:World) (a:Option Addr) (h:Ss W a 6 6 [⟨#[105,102]⟩,B8 t0,⟨#[116,104,101,110]⟩,B8 t1,⟨#[101,108,115,101]⟩,B8 t2])=>fE a 6 6 _ W h (by decide) hz);rw [hW] at CP;have N:=Hy (fun (W:World)=>Ss.new W [⟨#[105,102]⟩,B8 t0,⟨#[116,104,101,110]⟩,B8 t1,⟨#[101,108,115,101]⟩,B8 t2] 6 #[.string ⟨#[105,102]⟩,.string (B8 t0),.string ⟨#[116,104,101,110]⟩,.string (B8 t1),.string ⟨#[101,108,115,101]⟩,.string (B8 t2)] rfl rfl (by decide) 9);clear hz hW;clear hlt hd;generalize B8 ([105,102,32]++(t0++([32,116,104,101,110,32]++(t1++([32,101,108,115,101,32]++t2)))))=s4 at *;generalize B8 t0=s1 at *;generalize B8 t1=s2 at *;generalize B8 t2=s3 at *;have hbg:=Hy (show b≠w.heap.size+1 by have:=hlb.o;omega);clear bb GG hC l0 l1 l2 n0 n1 n2 k0 k1 k2;unfold exC at *
 go_enter Tryz.func106,Tryz.ntmps106
 go_upto_region 1 with fail
 generalize hw0:((w.alloc (.cells #[.int .i64 h.k,.string h.op,.string h.nm,.string h.tb,.int .i64 h.vk,.int .i64 h.vn,.string h.vs,.slice ua h.un.length uc,.int .i64 h.pa,.int .i64 h.wk,.int .i64 h.ws,.slice aa n ac] 144)).alloc (.cells #[.string ⟨#[]⟩,.int .i64 0] 90))=w0 at *;clear hw0;generalize hg3:w.heap.size+1=g3 at H hle hne hbg ⊢;generalize hg2:w.heap.size=g2 at G hne ⊢;clear hg2 hg3;refine wp_region_held_drew (S:=fun w' => (∃ cs:Array Value,cs.size=2∧Blk w' g3 90 cs)∧(w'.cell? ⟨b,off,none⟩=some (.string s1)∧w'.cell? ⟨b,off+2,none⟩=some (.string s2)∧w'.cell? ⟨b,off+4,none⟩=some (.string s3))∧Below w.heap.size w w') (by kernel_rfl) ⟨⟨_,rfl,H.o.drew⟩,⟨K0.o,K1.o,K2.o⟩,B0.o.drew⟩ (fun hH=>?_);generalize w0.drew=y0 at *;refine ak 0 5 ?_ hH (fun w' hS=>?_) ?_;rotate_left
 ·go_simp;try with_reducible rfl
 simp only [sz0,sz1];refine ak 1 6 ?_ hH (fun w' hS=>?_) ?_;rotate_left
 ·go_simp;try with_reducible rfl
 simp only [sz0,sz1];refine ak 2 7 ?_ hH (fun w' hS=>?_) ?_;rotate_left
 ·go_simp;try with_reducible rfl
 simp only [sz0,sz1];refine ak 3 8 ?_ hH (fun w' hS=>?_) ?_;rotate_left
 ·have e1:=hS.2.1.1;go_simp;try with_reducible rfl
 simp only [sz0,sz1];refine ak 4 9 ?_ hH (fun w' hS=>?_) ?_;rotate_left
 ·go_simp;try with_reducible rfl
 simp only [sz0,sz1];refine ak 5 10 ?_ hH (fun w' hS=>?_) ?_;rotate_left
 ·go_simp;try with_reducible rfl
 simp only [sz0,sz1];refine ak 6 11 ?_ hH (fun w' hS=>?_) ?_;rotate_left
 ·go_simp;try with_reducible rfl
 simp only [sz0,sz1];refine ak 7 12 ?_ hH (fun w' hS=>?_) ?_;rotate_left
 ·have e1:=hS.2.1.2.1;go_simp;try with_reducible rfl
 simp only [sz0,sz1];refine ak 8 13 ?_ hH (fun w' hS=>?_) ?_;rotate_left
 ·go_simp;try with_reducible rfl
 simp only [sz0,sz1];refine ak 9 14 ?_ hH (fun w' hS=>?_) ?_;rotate_left
 ·go_simp;try with_reducible rfl
 simp only [sz0,sz1];refine ak 10 15 ?_ hH (fun w' hS=>?_) ?_;rotate_left
 ·go_simp;try with_reducible rfl
 simp only [sz0,sz1];refine ak 11 16 ?_ hH (fun w' hS=>?_) ?_;rotate_left
 ·have e1:=hS.2.1.2.2;go_simp;try with_reducible rfl
 simp only [sz0,sz1];refine aC 12 (fun K hK=>?_);go_simp;have hNN:=N.o y0;refine hK.o _ _ ⟨bT hH.1 (au (b0 _) _),⟨dec.keeps (au (b0 _) _) hH.2.1.1,dec.keeps (au (b0 _) _) hH.2.1.2.1,dec.keeps (au (b0 _) _) hH.2.1.2.2⟩,au hH.2.2 _⟩ (fun hH=>?_);clear hK K;refine aC 13 (fun K hK=>?_);go_simp;refine (CP.o _ _ hNN).mono ?_;rintro e v1 ⟨rfl,c1⟩;refine hK.o _ _ ⟨bT hH.1 c1,⟨dec.keeps c1 hH.2.1.1,dec.keeps c1 hH.2.1.2.1,dec.keeps c1 hH.2.1.2.2⟩,aA hH.2.2 c1⟩ (fun hH=>?_);clear hK K c1;refine ak 14 19 ?_ hH (fun w' hS=>?_) ?_;rotate_left
 ·go_simp;try with_reducible rfl
 simp only [sz0,sz1];obtain ⟨pcs,hps,hPB⟩:=hH.1;refine aC 15 (fun K hK=>?_);refine jJ aU (.tmp 4) (.tmp 19) rfl _ _ _ _ rfl rfl hPB hps rfl (by simp [Value.oneCell']) ?_;intro w9 hb9 hs9;have hq9:=Hy hb9;have B9:=Hy (hH.2.2.trans (hs9.below (hle.o)));refine hK.o _ _ ⟨⟨_,rfl,hb9⟩,⟨rV hH.2.1.1 hs9 hbg.o,rV hH.2.1.2.1 hs9 hbg.o,rV hH.2.1.2.2 hs9 hbg.o⟩,B9.o⟩ (fun _=>?_);clear hK K hPB hps hb9 hs9 hH;refine wpAnyH_done (by kernel_rfl) ?_ _;go_wp2_with fail;refine bK aU Tryz.underlying90 rfl rfl _ _ _ _ _ rfl hq9.o rfl ?_;exact ⟨rfl,B9.o⟩
theorem Cn (h:Hd) (n:Nat) (ua aa:Option Addr) (uc ac:Nat) (w:World) (b off c:Nat) (t0:List UInt8) (r0:Int) (t1:List UInt8) (r1:Int) (hC:un.Cl w b off [(B8 t0,r0),(B8 t1,r1)]) (l0:t0.length≤1000000) (l1:t1.length≤1000000) (n0:t0≠[]) (n1:t1≠[]) (ho:h.op≠.empty) (lo:h.op.size≤100):Calls Tryz.prog 105 #[.agg (exC h n ua uc aa ac),.slice (some ⟨b,off,none⟩) 2 c] w (Pr (B8 (par r0 (lef (rkP h.op)) t0++32 :: ((h.op:ByteArray).data.toList++32 :: par r1 (rkP h.op+1) t1))) (rkP h.op) w):=by
 have CO:=Hy (fun (W:World) (bw:Below w.heap.size w W)=>pI h.op t0 t1 r0 r1 b off c W (fun j hj=>⟨dec.keeps bw (hC j hj).1,dec.keeps bw (hC j hj).2⟩) ho n0 n1 l0 l1 (by omega));have bb:=bY w (.cells (exC h n ua uc aa ac) 144) (.cells #[.string ⟨#[]⟩,.int .i64 0] 90);have GG:=fA w (exC h n ua uc aa ac) #[.string ⟨#[]⟩,.int .i64 0] 144 90;have hle:=Hy (iM w);have B0:=Hy bb;have G:=Hy GG.1;have H:=Hy GG.2;have hne:=Hy (nk w);generalize B8 (par r0 (lef (rkP h.op)) t0++32 :: ((h.op:ByteArray).data.toList++32 :: par r1 (rkP h.op+1) t1))=s4 at *;generalize rkP h.op=r4 at *;clear bb GG hC l0 l1 n0 n1 ho lo;unfold exC at *
 go_enter Tryz.func105,Tryz.ntmps105
 go_upto_region 1 with fail
 generalize hw0:((w.alloc (.cells #[.int .i64 h.k,.string h.op,.string h.nm,.string h.tb,.int .i64 h.vk,.int .i64 h.vn,.string h.vs,.slice ua h.un.length uc,.int .i64 h.pa,.int .i64 h.wk,.int .i64 h.ws,.slice aa n ac] 144)).alloc (.cells #[.string ⟨#[]⟩,.int .i64 0] 90))=w0 at *;clear hw0;generalize hg3:w.heap.size+1=g3 at H hle hne ⊢;generalize hg2:w.heap.size=g2 at G hne ⊢;clear hg2 hg3;have c1:=G.o.cell 1;simp only [sz2,sz3,sz4] at c1;go_wp2_with fail;refine (CO.o _ B0.o).mono ?_;rintro e w1 ⟨rfl,b1⟩;have B1:=Hy (aA B0.o b1);replace H:=Hy (H.o.keeps b1);clear b1 CO c1;go_wp2_with (refine aL aU (.tmp 4) (.tmp 8) rfl rfl _ _ _ _ rfl rfl H.o rfl rfl (by simp [Value.oneCell']) ?_;intro w9 hb9 hs9);refine bK aU Tryz.underlying90 rfl rfl _ _ _ _ _ rfl hb9 rfl ?_;exact ⟨rfl,B1.o.trans (hs9.below hle.o)⟩
theorem yY (h:Hd) (n:Nat) (ua aa:Option Addr) (uc ac:Nat) (w:World) (b off c:Nat) (t0:List UInt8) (r0:Int) (t1:List UInt8) (r1:Int) (hC:un.Cl w b off [(B8 t0,r0),(B8 t1,r1)]) (l0:t0.length≤1000000) (l1:t1.length≤1000000) (n0:t0≠[]) (n1:t1≠[]):Calls Tryz.prog 107 #[.agg (exC h n ua uc aa ac),.slice (some ⟨b,off,none⟩) 2 c] w (Pr (B8 (par r0 (lef (rkP ⟨#[100,101,102,97,117,108,116]⟩)) t0++32 :: ((⟨#[100,101,102,97,117,108,116]⟩:ByteArray).data.toList++32 :: par r1 (rkP ⟨#[100,101,102,97,117,108,116]⟩+1) t1))) (rkP ⟨#[100,101,102,97,117,108,116]⟩) w):=by
 have CO:=Hy (fun (W:World) (bw:Below w.heap.size w W)=>pI ⟨#[100,101,102,97,117,108,116]⟩ t0 t1 r0 r1 b off c W (fun j hj=>⟨dec.keeps bw (hC j hj).1,dec.keeps bw (hC j hj).2⟩) (fun e=>absurd (congrArg (fun b:ByteArray=>b.size) e) (by decide)) n0 n1 l0 l1 (by decide));have bb:=bY w (.cells (exC h n ua uc aa ac) 144) (.cells #[.string ⟨#[]⟩,.int .i64 0] 90);have GG:=fA w (exC h n ua uc aa ac) #[.string ⟨#[]⟩,.int .i64 0] 144 90;have hle:=Hy (iM w);have B0:=Hy bb;have G:=Hy GG.1;have H:=Hy GG.2;have hne:=Hy (nk w);generalize B8 (par r0 (lef (rkP ⟨#[100,101,102,97,117,108,116]⟩)) t0++32 :: ((⟨#[100,101,102,97,117,108,116]⟩:ByteArray).data.toList++32 :: par r1 (rkP ⟨#[100,101,102,97,117,108,116]⟩+1) t1))=s4 at *;generalize rkP ⟨#[100,101,102,97,117,108,116]⟩=r4 at *;clear bb GG hC l0 l1 n0 n1;unfold exC at *
 go_enter Tryz.func107,Tryz.ntmps107
 go_upto_region 1 with fail
 generalize hw0:((w.alloc (.cells #[.int .i64 h.k,.string h.op,.string h.nm,.string h.tb,.int .i64 h.vk,.int .i64 h.vn,.string h.vs,.slice ua h.un.length uc,.int .i64 h.pa,.int .i64 h.wk,.int .i64 h.ws,.slice aa n ac] 144)).alloc (.cells #[.string ⟨#[]⟩,.int .i64 0] 90))=w0 at *;clear hw0;generalize hg3:w.heap.size+1=g3 at H hle hne ⊢;generalize hg2:w.heap.size=g2 at G hne ⊢;clear hg2 hg3;go_wp2_with fail;refine (CO.o _ B0.o).mono ?_;rintro e w1 ⟨rfl,b1⟩;have B1:=Hy (aA B0.o b1);replace H:=Hy (H.o.keeps b1);clear b1 CO;go_wp2_with (refine aL aU (.tmp 4) (.tmp 6) rfl rfl _ _ _ _ rfl rfl H.o rfl rfl (by simp [Value.oneCell']) ?_;intro w9 hb9 hs9);refine bK aU Tryz.underlying90 rfl rfl _ _ _ _ _ rfl hb9 rfl ?_;exact ⟨rfl,B1.o.trans (hs9.below hle.o)⟩
theorem tJ {w w':World} {g:Nat} {T:TypeId} {cs:Array Value} (b:Below w.heap.size w w') (h:Blk w g T cs):Blk w' g T cs:=h.keeps b
theorem FE (h:Hd) (n:Nat) (ua aa:Option Addr) (uc ac:Nat) (w:World) (b off c:Nat) (t0:List UInt8) (r0:Int) (hC:un.Cl w b off [(B8 t0,r0)]) (l0:t0.length≤1000000) (n0:t0≠[]):Calls Tryz.prog 104 #[.agg (exC h n ua uc aa ac),.slice (some ⟨b,off,none⟩) 1 c] w (Pr (B8 (if h.op=⟨#[45]⟩ then 45 :: par r0 8 t0 else if h.op=⟨#[110,111,116]⟩ then [110,111,116,32]++par r0 4 t0 else [110,117,108,108,40]++(t0++[41]))) (if h.op=⟨#[45]⟩ then 8 else if h.op=⟨#[110,111,116]⟩ then 4 else 9) w):=by
 obtain ⟨k0,k1⟩:=cl1 hC;have e1:=eqL h.op [45];have e2:=eqL h.op [110,111,116];by_cases h1:h.op=⟨#[45]⟩
 ·rw [dT h1] at e1;rw [if_pos h1,if_pos h1];have lp:=nT r0 8 t0;have CA:=Hy (fun (W:World)=>vT t0 r0 8 W (by omega));have A1:=fB [45] (par r0 8 t0) (by decide) (by omega);replace A1:∀ W,(Op.stringOp .add ⟨#[45]⟩ (B8 (par r0 8 t0))).run Tryz.prog W=.ok (.string (B8 (45 :: par r0 8 t0))) W:=A1;replace h1:=Hy h1;have q1:=Hy e1;clear e1 e2 lp;have bb:=bY w (.cells (exC h n ua uc aa ac) 144) (.cells #[.string ⟨#[]⟩,.int .i64 0] 90);have GG:=fA w (exC h n ua uc aa ac) #[.string ⟨#[]⟩,.int .i64 0] 144 90;have hle:=Hy (iM w);have B0:=Hy bb;have G:=Hy GG.1;have H:=Hy GG.2;have hne:=Hy (nk w);have R0:=Hy (jH (dec.keeps bb k0) (dec.keeps bb k1));have e9:=q1.o;clear q1;generalize B8 (45 :: par r0 8 t0)=s4 at *;generalize B8 (par r0 8 t0)=s3 at *;generalize B8 t0=s0 at *;clear bb GG hC l0 n0 k0 k1;unfold exC at *
  go_enter Tryz.func104,Tryz.ntmps104
  go_upto_region 1 with fail
  generalize hw0:((w.alloc (.cells #[.int .i64 h.k,.string h.op,.string h.nm,.string h.tb,.int .i64 h.vk,.int .i64 h.vn,.string h.vs,.slice ua h.un.length uc,.int .i64 h.pa,.int .i64 h.wk,.int .i64 h.ws,.slice aa n ac] 144)).alloc (.cells #[.string ⟨#[]⟩,.int .i64 0] 90))=w0 at *;clear hw0;generalize hg3:w.heap.size+1=g3 at H hle hne ⊢;generalize hg2:w.heap.size=g2 at G hne ⊢;clear hg2 hg3;go_wp2_with (first | (refine dM aU Tryz.underlying90 rfl (.tmp 7) rfl rfl b off #[.string s0,.int .i64 r0] rfl R0.o rfl ?_) | (refine aL aU (.tmp 5) (.tmp 8) rfl rfl _ _ _ _ rfl rfl (Blk.new _ _ _) rfl rfl (by simp [Value.oneCell']) ?_;intro w5 L5 hs5;have bb5:=(au (b0 w0) _).trans (hs5.below lr);have H5:=Hy ((H.o.past (.cells #[.string ⟨#[]⟩,.int .i64 0] 90)).st hs5 (Nat.ne_of_lt H.o.lt));have e1:=(tJ bb5 G.o).cell 1;simp only [sz2,sz3,sz4] at e1;have B5:=Hy (B0.o.trans (bb5.mono B0.o.size));have M5:=Hy L5;have e5:=L5.cell 0;simp only [sz2,sz3] at e5;clear hs5 bb5) | (refine aF aU Tryz.underlying90 rfl (.tmp 5) rfl rfl _ _ _ rfl M5.o rfl ?_));refine (CA.o _).mono ?_;rintro e w6 ⟨rfl,b6⟩;have B6:=Hy (aA B5.o b6);replace H:=Hy (H5.o.keeps b6);clear b6 CA e1 e5;go_wp2_with (refine aL aU (.tmp 4) (.tmp 16) rfl rfl _ _ _ _ rfl rfl H.o rfl rfl (by simp [Value.oneCell']) ?_;intro w9 hb9 hs9);refine bK aU Tryz.underlying90 rfl rfl _ _ _ _ _ rfl hb9 rfl ?_;exact ⟨rfl,B6.o.trans (hs9.below hle.o)⟩
 rw [dF h1] at e1;rw [if_neg h1,if_neg h1];by_cases h2:h.op=⟨#[110,111,116]⟩
 ·rw [dT h2] at e2;rw [if_pos h2,if_pos h2];have lp:=nT r0 4 t0;have CA:=Hy (fun (W:World)=>vT t0 r0 4 W (by omega));have hpn:=Av r0 4 n0;have hW:wrd [⟨#[110,111,116]⟩,B8 (par r0 4 t0)]=[110,111,116,32]++par r0 4 t0:=by
   rw [dA _ (fun e=>absurd (congrArg (fun b:ByteArray=>b.size) e) (by decide)),tail_cons _ _ (eG hpn),tail_nil,List.append_nil,dB];rfl
  have hlt:([110,111,116,32]++par r0 4 t0:List UInt8).length≤2000000:=by
   simp;omega
  have hz:(wrd [⟨#[110,111,116]⟩,B8 (par r0 4 t0)]).length≤100000000:=by rw [hW];omega
  have CP:=Hy (fun (W:World) (a:Option Addr) (h:Ss W a 2 2 [⟨#[110,111,116]⟩,B8 (par r0 4 t0)])=>fE a 2 2 _ W h (by decide) hz);rw [hW] at CP;have N:=Hy (fun (W:World)=>Ss.new W [⟨#[110,111,116]⟩,B8 (par r0 4 t0)] 2 #[.string ⟨#[110,111,116]⟩,.string (B8 (par r0 4 t0))] rfl rfl (by decide) 9);clear hz hW;replace h1:=Hy h1;replace h2:=Hy h2;have q1:=Hy e1;have q2:=Hy e2;clear e1 e2 lp hlt hpn;have bb:=bY w (.cells (exC h n ua uc aa ac) 144) (.cells #[.string ⟨#[]⟩,.int .i64 0] 90);have GG:=fA w (exC h n ua uc aa ac) #[.string ⟨#[]⟩,.int .i64 0] 144 90;have hle:=Hy (iM w);have B0:=Hy bb;have G:=Hy GG.1;have H:=Hy GG.2;have hne:=Hy (nk w);have R0:=Hy (jH (dec.keeps bb k0) (dec.keeps bb k1));have e9:=q1.o;have e8:=q2.o;clear q1 q2;generalize B8 ([110,111,116,32]++par r0 4 t0)=s4 at *;generalize B8 (par r0 4 t0)=s3 at *;generalize B8 t0=s0 at *;clear bb GG hC l0 n0 k0 k1;unfold exC at *
  go_enter Tryz.func104,Tryz.ntmps104
  go_upto_region 1 with fail
  generalize hw0:((w.alloc (.cells #[.int .i64 h.k,.string h.op,.string h.nm,.string h.tb,.int .i64 h.vk,.int .i64 h.vn,.string h.vs,.slice ua h.un.length uc,.int .i64 h.pa,.int .i64 h.wk,.int .i64 h.ws,.slice aa n ac] 144)).alloc (.cells #[.string ⟨#[]⟩,.int .i64 0] 90))=w0 at *;clear hw0;generalize hg3:w.heap.size+1=g3 at H hle hne ⊢;generalize hg2:w.heap.size=g2 at G hne ⊢;clear hg2 hg3;go_wp2_with (first | (refine dM aU Tryz.underlying90 rfl (.tmp 7) rfl rfl b off #[.string s0,.int .i64 r0] rfl R0.o rfl ?_) | (refine aL aU (.tmp 5) (.tmp 8) rfl rfl _ _ _ _ rfl rfl (Blk.new _ _ _) rfl rfl (by simp [Value.oneCell']) ?_;intro w5 L5 hs5;have bb5:=(au (b0 w0) _).trans (hs5.below lr);have H5:=Hy ((H.o.past (.cells #[.string ⟨#[]⟩,.int .i64 0] 90)).st hs5 (Nat.ne_of_lt H.o.lt));have e1:=(tJ bb5 G.o).cell 1;simp only [sz2,sz3,sz4] at e1;have B5:=Hy (B0.o.trans (bb5.mono B0.o.size));have M5:=Hy L5;have e5:=L5.cell 0;simp only [sz2,sz3] at e5;clear hs5 bb5) | (refine aF aU Tryz.underlying90 rfl (.tmp 5) rfl rfl _ _ _ rfl M5.o rfl ?_));refine (CA.o _).mono ?_;rintro e w6 ⟨rfl,b6⟩;have B6:=Hy (aA B5.o b6);replace H:=Hy (H5.o.keeps b6);clear b6 CA e1 e5;go_wp2_with fail;refine (CP.o _ _ (N.o _)).mono ?_;rintro e w7 ⟨rfl,b7⟩;have B7:=Hy (aA (au B6.o _) b7);replace H:=Hy ((H.o.keeps (au (b0 _) _)).keeps b7);clear b7 CP N;go_wp2_with (refine aL aU (.tmp 4) (.tmp 23) rfl rfl _ _ _ _ rfl rfl H.o rfl rfl (by simp [Value.oneCell']) ?_;intro w9 hb9 hs9);refine bK aU Tryz.underlying90 rfl rfl _ _ _ _ _ rfl hb9 rfl ?_;exact ⟨rfl,B7.o.trans (hs9.below hle.o)⟩
 rw [dF h2] at e2;rw [if_neg h2,if_neg h2];have A1:=fB [110,117,108,108,40] t0 (by decide) (by omega);have A2:=fB ([110,117,108,108,40]++t0) [41] (by simp;omega) (by decide);replace A1:∀ W,(Op.stringOp .add ⟨#[110,117,108,108,40]⟩ (B8 t0)).run Tryz.prog W=.ok (.string (B8 ([110,117,108,108,40]++t0))) W:=A1;replace A2:∀ W,(Op.stringOp .add (B8 ([110,117,108,108,40]++t0)) ⟨#[41]⟩).run Tryz.prog W=.ok (.string (B8 ([110,117,108,108,40]++(t0++[41])))) W:=by
  intro W;have:=A2 W;rw [List.append_assoc] at this;exact this
 have hW:wrd [B8 ([110,117,108,108,40]++(t0++[41]))]=[110,117,108,108,40]++(t0++[41]):=by
  have hx:([110,117,108,108,40]++(t0++[41]):List UInt8)≠[]:=fun e=>absurd (congrArg List.length e) (by simp);rw [dA _ (eG hx),tail_nil,List.append_nil,dB]
 have hlt:([110,117,108,108,40]++(t0++[41]):List UInt8).length≤2000000:=by
  simp;omega
 have hz:(wrd [B8 ([110,117,108,108,40]++(t0++[41]))]).length≤100000000:=by rw [hW];omega
 have CP:=Hy (fun (W:World) (a:Option Addr) (h:Ss W a 1 1 [B8 ([110,117,108,108,40]++(t0++[41]))])=>iG a 1 1 _ W h (by decide) hz);rw [hW] at CP;have N:=Hy (fun (W:World)=>Ss.new W [B8 ([110,117,108,108,40]++(t0++[41]))] 1 #[.string (B8 ([110,117,108,108,40]++(t0++[41])))] rfl rfl (by decide) 9);clear hz hW;replace h1:=Hy h1;replace h2:=Hy h2;have q1:=Hy e1;have q2:=Hy e2;clear e1 e2 hlt;have bb:=bY w (.cells (exC h n ua uc aa ac) 144) (.cells #[.string ⟨#[]⟩,.int .i64 0] 90);have GG:=fA w (exC h n ua uc aa ac) #[.string ⟨#[]⟩,.int .i64 0] 144 90;have hle:=Hy (iM w);have B0:=Hy bb;have G:=Hy GG.1;have H:=Hy GG.2;have hne:=Hy (nk w);have R0:=Hy (jH (dec.keeps bb k0) (dec.keeps bb k1));have e9:=q1.o;have e8:=q2.o;clear q1 q2;generalize B8 ([110,117,108,108,40]++(t0++[41]))=s4 at *;generalize B8 ([110,117,108,108,40]++t0)=s3 at *;generalize B8 t0=s0 at *;clear bb GG hC l0 n0 k0 k1;unfold exC at *
 go_enter Tryz.func104,Tryz.ntmps104
 go_upto_region 1 with fail
 generalize hw0:((w.alloc (.cells #[.int .i64 h.k,.string h.op,.string h.nm,.string h.tb,.int .i64 h.vk,.int .i64 h.vn,.string h.vs,.slice ua h.un.length uc,.int .i64 h.pa,.int .i64 h.wk,.int .i64 h.ws,.slice aa n ac] 144)).alloc (.cells #[.string ⟨#[]⟩,.int .i64 0] 90))=w0 at *;clear hw0;generalize hg3:w.heap.size+1=g3 at H hle hne ⊢;generalize hg2:w.heap.size=g2 at G hne ⊢;clear hg2 hg3;go_wp2_with (first | (refine dM aU Tryz.underlying90 rfl (.tmp 7) rfl rfl b off #[.string s0,.int .i64 r0] rfl R0.o rfl ?_) | (refine aL aU (.tmp 5) (.tmp 8) rfl rfl _ _ _ _ rfl rfl (Blk.new _ _ _) rfl rfl (by simp [Value.oneCell']) ?_;intro w5 L5 hs5;have bb5:=(au (b0 w0) _).trans (hs5.below lr);have H5:=Hy ((H.o.past (.cells #[.string ⟨#[]⟩,.int .i64 0] 90)).st hs5 (Nat.ne_of_lt H.o.lt));have e1:=(tJ bb5 G.o).cell 1;simp only [sz2,sz3,sz4] at e1;have B5:=Hy (B0.o.trans (bb5.mono B0.o.size));have M5:=Hy L5;have e5:=L5.cell 0;simp only [sz2,sz3] at e5;clear hs5 bb5) | (refine aF aU Tryz.underlying90 rfl (.tmp 5) rfl rfl _ _ _ rfl M5.o rfl ?_));refine (CP.o _ _ (N.o _)).mono ?_;rintro e w7 ⟨rfl,b7⟩;have B7:=Hy (aA (au B5.o _) b7);replace H:=Hy ((H5.o.keeps (au (b0 _) _)).keeps b7);clear b7 CP N e1 e5;go_wp2_with (refine aL aU (.tmp 4) (.tmp 29) rfl rfl _ _ _ _ rfl rfl H.o rfl rfl (by simp [Value.oneCell']) ?_;intro w9 hb9 hs9);refine bK aU Tryz.underlying90 rfl rfl _ _ _ _ _ rfl hb9 rfl ?_;exact ⟨rfl,B7.o.trans (hs9.below hle.o)⟩
end ch
end Go.Proofs.YtbahfelnbofjjaaGreatDoor
