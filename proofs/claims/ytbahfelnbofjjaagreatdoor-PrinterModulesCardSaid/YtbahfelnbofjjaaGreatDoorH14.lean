/- printer. -/
import Derived.Test.YtbahfelnbofjjaaGreatDoorH13
set_option maxRecDepth 100000
set_option maxHeartbeats 16000000
namespace Go.Proofs.YtbahfelnbofjjaaGreatDoor
namespace ch
open Go.RowKit dec
theorem Cc:∀ (l bef:List Fi),fsE bef l=0→∀ f ∈ l,name f.nm=true∧tyE f.ty=0
 | [],_,_,_,hf=>by cases hf
 | g :: l,bef,h,f,hf=>by
  have h':(if fiE bef g=0 then fsE (bef++[g]) l else fiE bef g)=0:=h
  by_cases h0:fiE bef g=0
  ·rw [if_pos h0] at h'
   rcases List.mem_cons.1 hf with rfl | hf
   ·unfold fiE at h0
    by_cases h1:name f.nm=false
    ·rw [if_pos h1] at h0;cases h0
    ·rw [if_neg h1] at h0
     split at h0
     ·cases h0
     ·exact ⟨by simpa using h1,h0⟩
   ·exact Cc l _ h' f hf
  ·rw [if_neg h0] at h'
   exact absurd h' h0
theorem tT {t:Tb} (h:tbE t=0):name t.nm=true∧name t.en=true∧0≤t.kp∧t.kp≤1099511627776∧t.fs.length≤8∧∀ f ∈ t.fs,name f.nm=true∧tyE f.ty=0:=by
 unfold tbE at h;by_cases h1:name t.nm=false
 ·rw [if_pos h1] at h;cases h
 rw [if_neg h1] at h;by_cases h2:name t.en=false
 ·rw [if_pos h2] at h;cases h
 rw [if_neg h2] at h;by_cases h3:t.kp<0
 ·rw [if_pos h3] at h;cases h
 rw [if_neg h3] at h;by_cases h4:1099511627776<t.kp
 ·rw [if_pos h4] at h;cases h
 rw [if_neg h4] at h;by_cases h5:8<t.fs.length
 ·rw [if_pos h5] at h;cases h
 rw [if_neg h5] at h;exact ⟨by simpa using h1,by simpa using h2,by omega,by omega,by omega,Cc t.fs [] h⟩
theorem sN {f:Fi} (h1:name f.nm=true) (h2:tyE f.ty=0):(fiT f).length≤300∧fiT f≠[]:=by
 have a:=dM h1;have b:=xK h2;unfold fiT;rw [aI] at a;refine ⟨by simp;omega,by simp⟩
theorem UF {f:Fi} (_h1:name f.nm=true) (h2:tyE f.ty=0):wrd [B8 (f.nm.data.toList++[58]),B8 (tyT f.ty)]=fiT f:=by
 obtain ⟨_,t,hf⟩:=(iO h2).f;have hne:tyT f.ty≠[]:=by
  have hb:=(iO h2).b;have hw:=(iO h2).w;intro h0;rw [h0,hf,gN] at hb;rw [hf] at hw;have:=qR (gX.1 hw).2.1;have h3:=congrArg List.length hb;simp only [L_a,L_j] at h3;omega
 rw [cu _ (eB (by simp)),tail_cons _ _ (eB hne),tail_nil,bZ,bZ];unfold fiT;simp
theorem FJ:∀ (l:List Fi),Lib.join (l.map fiT) [44,32]=(fsT l).drop 1∧(l≠[]→fsT l=32 :: Lib.join (l.map fiT) [44,32])
 | []=>⟨rfl,fun h=>absurd rfl h⟩
 | f :: r=>by
  have e:Lib.join ((f :: r).map fiT) [44,32]=fiT f++(r.map fun g=>44 :: 32 :: fiT g).flatten:=by
   rw [L_p,Lib.join_cons]
   unfold Lib.joinTail
   rw [List.map_map]
   rfl
  rw [e]
  exact ⟨rfl,fun _=>rfl⟩
def kpT (n:Int):List UInt8:=if n=0 then [] else [107,101,101,112,32]++Lib.itoa n
theorem Sc {t:Tb} (h:tbE t=0):wrd [⟨#[116,97,98,108,101]⟩,t.nm,⟨#[111,102]⟩,t.en,⟨#[123]⟩,B8 (Lib.join (t.fs.map fiT) [44,32]),⟨#[125]⟩,B8 (kpT t.kp)]++[59]=tbT t:=by
 obtain ⟨h1,h2,h3,h4,h5,h6⟩:=tT h;have hd:∀ s:ByteArray,s.size≠0→s≠.empty:=fun s h e=>h (by rw [e];rfl);have hk:Lib.joinTail [32] ((nel [B8 (kpT t.kp)]).map (·.data.toList))=(if t.kp=0 then [] else [32,107,101,101,112,32]++Lib.itoa t.kp):=by
  by_cases h0:t.kp=0
  ·have e0:B8 (kpT t.kp)=.empty:=by unfold kpT;rw [if_pos h0];rfl
   rw [e0,iy _ _ rfl,if_pos h0];rfl
  have hx:kpT t.kp≠[]:=by unfold kpT;rw [if_neg h0];simp
  rw [tail_cons _ _ (eB hx),tail_nil,bZ,if_neg h0];unfold kpT;rw [if_neg h0];simp
 have hf:Lib.joinTail [32] ((nel [B8 (Lib.join (t.fs.map fiT) [44,32]),⟨#[125]⟩,B8 (kpT t.kp)]).map (·.data.toList))=fsT t.fs++([32,125]++(if t.kp=0 then [] else [32,107,101,101,112,32]++Lib.itoa t.kp)):=by
  by_cases h0:t.fs=[]
  ·have e0:B8 (Lib.join (t.fs.map fiT) [44,32])=.empty:=by rw [h0];rfl
   rw [e0,iy _ _ rfl,tail_cons _ _ (hd _ (by decide)),hk,h0];rfl
  have hj:=(FJ t.fs).2 h0;have hx:Lib.join (t.fs.map fiT) [44,32]≠[]:=by
   cases hfs:t.fs with
   | nil=>exact absurd hfs h0
   | cons f r =>
     rw [L_p,Lib.join_cons]
     have:=(sN (h6 f (by rw [hfs];exact L_e ..)).1 (h6 f (by rw [hfs];exact L_e ..)).2).2
     intro e
     exact this (List.append_eq_nil_iff.1 e).1
  rw [tail_cons _ _ (eB hx),tail_cons _ _ (hd _ (by decide)),hk,hj,bZ]
 rw [cu _ (hd _ (by decide)),tail_cons _ _ (oW h1),tail_cons _ _ (hd _ (by decide)),tail_cons _ _ (oW h2),tail_cons _ _ (hd _ (by decide)),hf];unfold tbT;simp
theorem BI (k:Nat):∀ l:List (List UInt8),(∀ x ∈ l,x.length≤k)→(Lib.joinTail [44,32] l).length≤(k+2) * l.length
 | [],_=>Nat.zero_le _
 | x :: l,h=>by
  have h1:=h x (L_e ..)
  have h2:=BI k l fun y hy=>h y (L_h _ hy)
  unfold Lib.joinTail at h2 ⊢
  rw [L_p,List.flatten_cons,L_a,L_a]
  simp only [L_b,L_j,Nat.mul_add,Nat.mul_one]
  omega
theorem Kk (l:List Fi) (h5:l.length≤8) (h6:∀ f ∈ l,name f.nm=true∧tyE f.ty=0):(Lib.join (l.map fiT) [44,32]).length≤3000:=by
 cases l with
 | nil=>exact Nat.zero_le _
 | cons f r =>
   have h1:=(sN (h6 f (L_e ..)).1 (h6 f (L_e ..)).2).1
   have h2:=BI 300 (r.map fiT) fun x hx=>by
     obtain ⟨g,hg,rfl⟩:=List.mem_map.1 hx
     exact (sN (h6 g (L_h _ hg)).1 (h6 g (L_h _ hg)).2).1
   rw [L_p,Lib.join_cons,L_a]
   rw [List.length_map] at h2
   simp only [L_b] at h5
   omega
theorem oG {t:Tb} (h:tbE t=0):(tbT t).length≤4000:=by
 obtain ⟨h1,h2,h3,h4,h5,h6⟩:=tT h;have a1:=dM h1;have a2:=dM h2;have a3:=iV t.kp h3 (by omega);have a4:=Kk t.fs h5 h6;have a5:(fsT t.fs).length≤(Lib.join (t.fs.map fiT) [44,32]).length+1:=by
  by_cases h0:t.fs=[]
  ·rw [h0];decide
  rw [(FJ t.fs).2 h0];simp
 have a6:(if t.kp=0 then [] else [32,107,101,101,112,32]++Lib.itoa t.kp:List UInt8).length≤30:=by split <;> simp;omega
 unfold tbT;rw [aI] at a1 a2;simp only [L_a,L_b,L_j,aI] at *;omega
theorem JF {o:Oper} {a:Act} {w:World} {K:Act→World→Prop} {Q:Exit→Act→World→Prop} (s x:Operand)
    (ho:o.op=.call { callee:=.builtin .append,args:=#[s,x],argTypes:=#[97,97] })
    (base:Nat) (v:Value) (l:List ByteArray) (hs:a.eval s=v) (hown:un.OS w base v l) (b:Nat) (t:ByteArray) (hx:a.eval x=.slice (some ⟨b,0,none⟩) 1 1) (hB:w.cell? ⟨b,0,none⟩=some (.string t))
    (hn:l.length<5864062014805) (hbase:base≤w.heap.size)
    (h:∀ v' w',un.OS w' base v' (l++[t])→Below base w w'→w.grownBy w' v.ownBlock→K (a.put o.dst v') w'):o.wp Tryz.prog a w K Q:=by
 obtain ⟨i,hi,hz0,hz1,hz2⟩:=info_parts un.wo
 refine wp_append_own w s x 97 ho base 9 i (.string ByteArray.empty) 1 16 dec.uy97 hi hz0 hz1 hz2 rfl (by decide) v l.length (l.map Value.string) hs hown ⟨b,0,none⟩ 1 1 [.string t] hx rfl ?_ (fun u hu=>by simp at hu;subst hu;rfl)
   (by unfold maxLen;omega) (by omega) hbase fun v' w' h1 h2 _=>h v' w' (by unfold un.OS;rw [List.map_append,L_a];exact h1) ((Below.refl base w).grown h2 hbase fun k hk=>(hown.lt k hk).1) h2
 intro j u hu
 match j,hu with
 | 0,hu=>simp at hu;subst hu;exact hB
 | j+1,hu=>simp at hu
theorem Jp {w w':World} {v:Value} {b o:Nat} {cs:List Value} (h:w.rangeAt b o cs) (hg:w.grownBy w' v.ownBlock) (hne:v.ownBlock≠some b):w'.rangeAt b o cs:=fun j u hu=>hg.cell (h j u hu) (fun e=>hne e.symm)
theorem Tp {w:World} {base:Nat} {v:Value} {l:List ByteArray} (h:un.OS w base v l):v.ownBlock≠some w.heap.size:=fun e=>by
 have:=(h.lt _ e).2
 omega
theorem Rn {w:World} {g:Nat} {T:TypeId} {cs:Array Value} (h:Blk w g T cs):w.rangeAt g 0 cs.toList:=fun j v hv=>by
 rw [Nat.zero_add,h.cell j]
 rw [Array.getElem?_toList] at hv
 exact hv
theorem lU (t:Tb) (a:Option Addr) (c:Nat) (w:World) (hs:t.sz) (hA:Fis w a t.fs.length c t.fs) (T:Tabq w):Calls Tryz.prog 20 #[.agg (tbC t a c)] w (Tx (txO (tbE t) (tbT t)) (tbE t) w):=by
 have bb:=aj (b0 w) (.cells (tbC t a c) 48);have B0:=Hy bb;have G:=Hy (Blk.new w 48 (tbC t a c));have C1:=Hy (I4 t a c _ hs (hA.keeps bb) (T.stays bb).t);have HA:=Hy (hA.keeps bb);have TQ:=Hy (T.stays bb);have HO:txO (tbE t) (tbT t)=txO (tbE t) (tbT t):=rfl
 conv at HO=>rhs;unfold txO
 replace HO:=Hy HO;have HZ:=Hy (fun (h:tbE t=0)=>tT h);have HW:=Hy (fun (h:tbE t=0)=>(Sc h).symm);have HL:=Hy (fun (h:tbE t=0)=>oG h);clear bb hA T hs;generalize txO (tbE t) (tbT t)=s9 at *;generalize tbE t=ce at *;unfold tbC at *
 go_enter Tryz.func20,Tryz.ntmps20
 go_upto_region 1 with fail
 generalize hw0:(w.alloc (.cells #[.string t.nm,.string t.en,.slice a t.fs.length c,.int .i64 t.kp] 48))=w0 at *;clear hw0;have hgl:=Hy G.o.lt;go_wp2_with (refine aG gF dec.uy48 rfl (.tmp 1) rfl rfl _ _ _ rfl G.o rfl ?_);refine C1.o.mono ?_;rintro e w1 ⟨rfl,b1⟩;have B1:=Hy b1;clear b1 C1;by_cases h0:ce=0
 ·have q:(ce != 0)=false:=by rw [bne,dG h0];rfl
  have HS:=Hy (HO.o.trans (if_pos h0));obtain ⟨z1,z2,z3,z4,z5,z6⟩:=HZ.o h0;have HE:=Hy (HW.o h0);have hll:=Hy (HL.o h0);replace h0:=Hy h0;have N1:=Hy z1;have N2:=Hy z2;have N3:=Hy z3;have N4:=Hy z4;have N5:=Hy z5;have N6:=Hy z6;clear z1 z2 z3 z4 z5 z6 HZ HW HL;have g2:=(G.o.keeps B1.o).cell 2;simp only [sz2,sz3,sz4] at g2;go_wp2_with fail;clear g2
  go_loopw [4,16] (fun vu vi wr => ∃ j:Nat,vi=.int .i64 (j:Nat)∧Hid (j≤t.fs.length)∧Hid (un.OS wr w0.heap.size vu ((t.fs.take j).map fun f=>B8 (fiT f)))∧Hid (Below w0.heap.size w0 wr)) (fun _ vi _=>t.fs.length - (intOf vi).toNat)
  case atStart=>exact ⟨0,rfl,Hy zl,Hy (un.OS.nil _ _),B1⟩
  case round =>
   clear B1;obtain ⟨j,rfl,hj,hO,hb⟩:=hrel;by_cases hlt:j<t.fs.length
   ·have q1:decide ((j:Int)<(t.fs.length:Int))=true:=dT (by omega);have hov0:=Tp hO.o;obtain ⟨bk,off,rfl,hC⟩:=HA.o.hat.resolve_left (by omega);obtain ⟨cs,hcs,R1,ua,uc,rfl,U1⟩:=hC j hlt;have hm:=List.getElem_mem hlt;have f4:=Hy (aP (j:=j) (by have:=N5.o;omega));have i1:(j:Int)<(t.fs.length:Int):=by omega
    have i2:j<t.fs.length:=hlt;have hfn:=Hy (N6.o _ hm);have htk:=Hy (show (t.fs.take (j+1)).map (fun f=>B8 (fiT f))=(t.fs.take j).map (fun f=>B8 (fiT f))++[B8 (fiT t.fs[j])] by rw [List.take_succ_eq_append_getElem hlt,List.map_append];rfl);have hl8:=Hy (show ((t.fs.take j).map fun f=>B8 (fiT f)).length<5864062014805 by have:=N5.o;simp;omega);clear hC hm hcs hj;replace R1:=Hy (aJ R1 hb.o);replace U1:=Hy U1;generalize t.fs[j]=f at *;obtain ⟨m1,m2⟩:=hfn.o;have hz:=sN m1 m2;have hW:=UF m1 m2;have A1:=dz f.nm.data.toList [58] (by have:=dM m1;omega) (by decide);replace A1:∀ W,(Op.stringOp .add f.nm ⟨#[58]⟩).run Tryz.prog W=.ok (.string (B8 (f.nm.data.toList++[58]))) W:=A1;have CT:=Hy (fun (W:World) (b:Below w0.heap.size w0 W)=>qH f.ty ua uc W m2 (U1.o.keeps b) (TQ.o.stays b));have hzW:(wrd [B8 (f.nm.data.toList++[58]),B8 (tyT f.ty)]).length≤100000000:=by rw [hW];omega
    have CW:=Hy (fun (W:World) (a:Option Addr) (h:Ss W a 2 2 [B8 (f.nm.data.toList++[58]),B8 (tyT f.ty)])=>fE a 2 2 _ W h (by decide) hzW);rw [hW] at CW;have N:=Hy (fun (W:World)=>Ss.new W [B8 (f.nm.data.toList++[58]),B8 (tyT f.ty)] 2 #[.string (B8 (f.nm.data.toList++[58])),.string (B8 (tyT f.ty))] rfl rfl (by decide) 9);clear hz hW hzW hfn m1 m2;generalize B8 (fiT f)=s3 at *;generalize B8 (f.nm.data.toList++[58])=s1 at *;generalize B8 (tyT f.ty)=s2 at *;unfold fiC tyC at *;go_wp2_with (first | (refine bS lV dec.uy88 rfl (.tmp 18) rfl rfl bk (off+j * 4) #[.string f.nm,.int .i64 f.ty.k,.slice ua f.ty.un.length uc,.string f.ty.of] rfl R1.o rfl ?_) | (refine aF lV (.tmp 6) (.tmp 19) rfl rfl _ _ _ _ rfl rfl (Blk.new _ _ _) rfl rfl (by simp [Value.oneCell']) ?_;intro w5 L5 hs5;have bb5:=(aj (b0 wr) _).trans (hs5.below lr)));have b5:=Hy bb5;have L6:=Hy L5;have O5:=Hy (hO.o.keeps bb5);have D5:=Hy (hb.o.trans (bb5.mono hb.o.size));clear bb5 hs5 L5 hO R1;have hov:=Hy hov0;clear hov0;refine wp_region_held_drew (S:=fun w' => w'.rangeAt wr.heap.size 0 #[.string f.nm,.int .i64 f.ty.k,.slice ua f.ty.un.length uc,.string f.ty.of].toList∧Below w0.heap.size w0 w') (by kernel_rfl) ⟨Rn L6.o.drew,D5.o.drew⟩ (fun hH=>?_);replace O5:=Hy (os_drew O5.o);have hsz:=Hy (show wr.heap.size<w5.drew.heap.size from L6.o.lt);clear D5 b5;generalize w5.drew=y5 at *;refine au 0 20 ?_ hH (fun w' hS=>?_) ?_;rotate_left;(·go_simp;try rfl);simp only [sz];refine au 1 21 ?_ hH (fun w' hS=>?_) ?_;rotate_left;(·go_simp;try rfl);simp only [sz];refine au 2 22 ?_ hH (fun w' hS=>?_) ?_;rotate_left;(·have e1:=(show w'.cell? ⟨wr.heap.size,0,none⟩=some (.string f.nm) from hS.1 0 _ rfl);go_simp;try rfl);simp only [sz];refine au 3 23 ?_ hH (fun w' hS=>?_) ?_;rotate_left;(·go_simp;try rfl);simp only [sz];refine au 4 24 ?_ hH (fun w' hS=>?_) ?_;rotate_left;(·go_simp;try rfl);simp only [sz];refine bg 5 25 (.agg #[.int .i64 f.ty.k,.slice ua f.ty.un.length uc,.string f.ty.of]) rfl (by kernel_rfl) rfl (fun _ _ _ h=>h) rfl hH (fun w' hS=>dn dx dec.uy31 rfl (.tmp 24) rfl _ _ _ rfl (tF (hS.1 1 _ rfl) (hS.1 2 _ rfl) (hS.1 3 _ rfl)) rfl) ?_;simp only [sz];refine aA 6 (fun K hK=>?_);go_simp;refine (CT.o _ hH.2).mono ?_;rintro e v1 ⟨rfl,c1⟩;refine hK.o _ _ ⟨aJ hH.1 c1,ak hH.2 c1⟩ (fun hH=>?_);clear hK K;replace O5:=Hy (O5.o.keeps c1);replace hsz:=Hy (Nat.lt_of_lt_of_le hsz.o c1.size);clear c1;refine aA 7 (fun K hK=>?_);go_simp;have hNN:=N.o v1;refine hK.o _ _ ⟨aJ hH.1 (aj (b0 _) _),aj hH.2 _⟩ (fun hH=>?_);clear hK K;replace O5:=Hy (O5.o.keeps (aj (b0 _) (.cells #[.string s1,.string s2] 9)));replace hsz:=Hy (Nat.lt_of_lt_of_le hsz.o (aj (b0 v1) (.cells #[.string s1,.string s2] 9)).size);refine aA 8 (fun K hK=>?_);go_simp;refine (CW.o _ _ hNN).mono ?_;rintro e v2 ⟨rfl,c2⟩;refine hK.o _ _ ⟨aJ hH.1 c2,ak hH.2 c2⟩ (fun hH=>?_);clear hK K;replace O5:=Hy (O5.o.keeps c2);clear c2 hNN N CW CT hsz;refine aA 9 (fun K hK=>?_);go_simp;refine hK.o _ _ ⟨aJ hH.1 (aj (b0 _) _),aj hH.2 _⟩ (fun hH=>?_);clear hK K;replace O5:=Hy (O5.o.keeps (aj (b0 _) (.cells #[.string s3] 9)));refine aA 10 (fun K hK=>?_);refine JF (.tmp 20) (.tmp 29) rfl w0.heap.size _ _ rfl O5.o v2.heap.size s3 rfl (by simp [go_sem]) hl8.o hH.2.size ?_;intro v8 w8 O9 b9 g9;have O10:=Hy (show un.OS w8 w0.heap.size v8 ((t.fs.take (j+1)).map fun f=>B8 (fiT f)) by rw [htk.o];exact O9);have D10:=Hy (hH.2.trans b9);refine hK.o _ _ ⟨Jp hH.1 g9 hov.o,D10.o⟩ (fun hH=>?_);clear hK K O9 b9 g9;refine au 11 4 ?_ hH (fun w' hS=>?_) ?_;rotate_left;(·go_simp;try rfl);simp only [sz];clear hH;refine wpAnyH_done (by kernel_rfl) ?_ _;go_wp2_with fail;exact ⟨⟨j+1,congrArg (Value.int .i64) f4.o,Hy hlt,O10,D10⟩,aU hlt f4.o⟩
   have q1:decide ((j:Int)<(t.fs.length:Int))=false:=dF (by omega);have hO2:=hO.o;rw [show t.fs.take j=t.fs from L_q (by omega)] at hO2;have OO:=Hy hO2;have GG:=Hy (G.o.keeps hb.o);have TR:=Hy (TQ.o.stays hb.o).t;have BW:=Hy (ak B0.o hb.o);clear hO hO2 hj G TQ HA;have hil:=iV t.kp N3.o (by have:=N4.o;omega);have hmap:((t.fs.map fun f=>B8 (fiT f)).map (·.data.toList))=t.fs.map fiT:=by rw [List.map_map];rfl
   have hfl:=Kk t.fs N5.o N6.o;have CJ:=Hy (fun (v:Value) (base:Nat) (W:World) (h:un.OS W base v (t.fs.map fun f=>B8 (fiT f)))=>uK ⟨#[44,32]⟩ v _ base W h (by have:=N5.o;simp;omega) (by rw [hmap];exact L_f hfl (by omega)));rw [hmap] at CJ;rw [show (Lib.join (t.fs.map fiT) (⟨#[44,32]⟩:ByteArray).data.toList)=Lib.join (t.fs.map fiT) [44,32] from rfl] at CJ;have CI:=Hy (fun (W:World) (T:Tabs W)=>rM t.kp N3.o (by have:=N4.o;omega) W T);have hWK:wrd [⟨#[107,101,101,112]⟩,B8 (Lib.itoa t.kp)]=[107,101,101,112,32]++Lib.itoa t.kp:=by rw [cu _ (fun e=>absurd (congrArg (fun b:ByteArray=>b.size) e) (by decide)),tail_cons _ _ (eB (yD _)),tail_nil,L_n,bZ];rfl
   have hzK:(wrd [⟨#[107,101,101,112]⟩,B8 (Lib.itoa t.kp)]).length≤100000000:=by rw [hWK];simp;omega
   have CK:=Hy (fun (W:World) (a:Option Addr) (h:Ss W a 2 2 [⟨#[107,101,101,112]⟩,B8 (Lib.itoa t.kp)])=>fE a 2 2 _ W h (by decide) hzK);rw [hWK] at CK;have NK:=Hy (fun (W:World)=>Ss.new W [⟨#[107,101,101,112]⟩,B8 (Lib.itoa t.kp)] 2 #[.string ⟨#[107,101,101,112]⟩,.string (B8 (Lib.itoa t.kp))] rfl rfl (by decide) 9);obtain ⟨WL,hWL⟩:∃ WL,WL=[⟨#[116,97,98,108,101]⟩,t.nm,⟨#[111,102]⟩,t.en,⟨#[123]⟩,B8 (Lib.join (t.fs.map fiT) [44,32]),⟨#[125]⟩,B8 (kpT t.kp)]:=⟨_,rfl⟩;have hE:=HE.o;rw [← hWL] at hE;have hwl:(wrd WL).length≤4000:=by have:=hll.o;rw [hE,L_a] at this;omega
   have CW:=Hy (fun (W:World) (a:Option Addr) (h:Ss W a 8 8 WL)=>fE a 8 8 _ W h (by decide) (by omega));have NW:=Hy (fun (W:World)=>Ss.new W [⟨#[116,97,98,108,101]⟩,t.nm,⟨#[111,102]⟩,t.en,⟨#[123]⟩,B8 (Lib.join (t.fs.map fiT) [44,32]),⟨#[125]⟩,B8 (kpT t.kp)] 8 #[.string ⟨#[116,97,98,108,101]⟩,.string t.nm,.string ⟨#[111,102]⟩,.string t.en,.string ⟨#[123]⟩,.string (B8 (Lib.join (t.fs.map fiT) [44,32])),.string ⟨#[125]⟩,.string (B8 (kpT t.kp))] rfl rfl (by decide) 9);rw [← hWL] at NW;have A9:=dz (wrd WL) [59] (by omega) (by decide);rw [← hE] at A9;replace A9:∀ W,(Op.stringOp .add (B8 (wrd WL)) ⟨#[59]⟩).run Tryz.prog W=.ok (.string (B8 (tbT t))) W:=A9;have hkp:=Hy (show B8 (kpT t.kp)=if t.kp=0 then .empty else B8 ([107,101,101,112,32]++Lib.itoa t.kp) by unfold kpT;split <;> rfl);clear hil hmap hfl hWK hzK hWL hE hwl HE hll N1 N2 N3 N4 N5 N6;generalize B8 (Lib.join (t.fs.map fiT) [44,32])=sj at *;generalize B8 (kpT t.kp)=sk at *;generalize B8 (Lib.itoa t.kp)=si at *;generalize B8 ([107,101,101,112,32]++Lib.itoa t.kp)=sx at *;generalize B8 (wrd WL)=sw at *;generalize B8 (tbT t)=st at *;have g3:=GG.o.cell 3;simp only [sz2,sz3,sz4] at g3;obtain ⟨bq,hbq⟩:∃ bq:Bool,bq = !decide (t.kp=0):=⟨_,rfl⟩;have q2:(t.kp != 0)=bq:=by rw [hbq,bne,eqI]
   replace hbq:=Hy hbq
   go_upto_if 34 with fail
   clear g3
   go_cut [7] from 35 to 39 (fun v wx=>v=.string sk∧Hid (Below wr.heap.size wr wx))
   case first =>
    cases bq
    ·have h2:t.kp=0:=by have:=hbq.o;simpa using this
     have hc:=Hy (hkp.o.trans (if_pos h2));clear hbq;replace h2:=Hy h2;go_wp2_with fail
     go_meet
     case rel=>exact ⟨by rw [hc.o];rfl,Hy (b0 wr)⟩
    have h2:t.kp≠0:=by have:=hbq.o;simpa using this
    have hc:=Hy (hkp.o.trans (if_neg h2));clear hbq;replace h2:=Hy h2;have g3:=GG.o.cell 3;simp only [sz2,sz3,sz4] at g3;go_wp2_with fail;refine (CI.o _ TR.o).mono ?_;rintro e w3 ⟨rfl,b3⟩;have B3:=Hy b3;clear b3 g3;go_wp2_with fail;refine (CK.o _ _ (NK.o _)).mono ?_;rintro e w4 ⟨rfl,b4⟩;have B4:=Hy (ak (aj B3.o _) b4);clear b4;go_wp2_with fail
    go_meet
    case rel=>exact ⟨by rw [hc.o],B4⟩
   case rest =>
    obtain ⟨rfl,b5⟩:=hcut;have B5:=Hy (ak BW.o b5.o);have G5:=Hy (GG.o.keeps b5.o);have O5:=Hy (OO.o.keeps b5.o);clear b5 GG OO BW CI CK NK TR hkp hbq
    go_upto_region 13 with fail
    refine wp_region_held_drew (S:=fun w' => Blk w' w.heap.size 48 #[.string t.nm,.string t.en,.slice a t.fs.length c,.int .i64 t.kp]∧Below w.heap.size w w') (by kernel_rfl) ⟨G5.o.drew,B5.o.drew⟩ (fun hH=>?_);replace O5:=Hy (os_drew O5.o);clear G5 B5;generalize World.drew _=y5 at *;refine au 0 40 ?_ hH (fun w' hS=>?_) ?_;rotate_left;(·go_simp;try rfl);simp only [sz];refine au 1 41 ?_ hH (fun w' hS=>?_) ?_;rotate_left;(·have e1:=hS.1.cell 0;simp only [sz2,sz3] at e1;go_simp;try rfl);simp only [sz];refine au 2 42 ?_ hH (fun w' hS=>?_) ?_;rotate_left;(·go_simp;try rfl);simp only [sz];refine au 3 43 ?_ hH (fun w' hS=>?_) ?_;rotate_left;(·have e1:=hS.1.cell 1;simp only [sz2,sz3,sz4] at e1;go_simp;try rfl);simp only [sz];refine au 4 44 ?_ hH (fun w' hS=>?_) ?_;rotate_left;(·go_simp;try rfl);simp only [sz];refine au 6 46 ?_ hH (fun w' hS=>?_) ?_;rotate_left;(·go_simp;try rfl);simp only [sz];refine aA 5 (fun K hK=>?_);go_simp;refine (CJ.o _ _ _ O5.o).mono ?_;rintro e v1 ⟨rfl,c1⟩;refine hK.o _ _ ⟨hH.1.keeps c1,ak hH.2 c1⟩ (fun hH=>?_);clear hK K c1 O5 CJ;refine aA 7 (fun K hK=>?_);go_simp;have hNN:=NW.o v1;refine hK.o _ _ ⟨hH.1.keeps (aj (b0 _) _),aj hH.2 _⟩ (fun hH=>?_);clear hK K;refine aA 8 (fun K hK=>?_);go_simp;refine (CW.o _ _ hNN).mono ?_;rintro e v2 ⟨rfl,c2⟩;refine hK.o _ _ ⟨hH.1.keeps c2,ak hH.2 c2⟩ (fun hH=>?_);clear hK K c2 hNN NW CW;refine au 9 49 ?_ hH (fun w' hS=>?_) ?_;rotate_left;(·go_simp;try rfl);simp only [sz];refine au 10 2 ?_ hH (fun w' hS=>?_) ?_;rotate_left;(·go_simp;try rfl);simp only [sz];refine au 11 3 ?_ hH (fun w' hS=>?_) ?_;rotate_left;(·go_simp;try rfl);simp only [sz];have B9:=Hy hH.2;clear hH;refine wpAnyH_done (by kernel_rfl) ?_ _;go_wp2_with fail
    go_ret2
    exact fK HS.o.symm h0.o.symm B9.o
 have q:(ce != 0)=true:=by rw [bne,dB h0];rfl
 have HS:=Hy (HO.o.trans (if_neg h0));replace h0:=Hy h0;go_wp2_with fail
 go_ret2
 exact fK HS.o.symm rfl (ak B0.o B1.o)
def Fw (n:Int) (x:Ex) (w:World) (e:Ending) (w':World):Prop:=∃ r:Int,e=.returned (.int .i64 r)∧(-1≤r∧r≤1000)∧(0≤r→(x.ar.sz:Int)+1+r≤n)∧Below w.heap.size w w'
theorem wX {n:Int} {x:Ex} {w w':World} (hb:Below w.heap.size w w'):Fw n x w (.returned (.int .i64 (-1))) w':=⟨-1,rfl,by omega,by omega,hb⟩
theorem OU {F:Fo} {j:Nat} (h:j<F.len):(F.drop j).sz=(F.nth j).ar.sz+1+(F.drop (j+1)).sz:=by
 rw [jS F j h];simp only [Fo.sz];omega
theorem Nj (k:Nat) (IH:∀ (x:Ex) (n:Int) (ua aa:Option Addr) (uc ac:Nat) (w:World),x.ar.sz<k→x.szs→-1≤n→n≤1000→Ec w x ua uc aa ac→Calls Tryz.prog 13 #[.agg (exC x.h x.ar.len ua uc aa ac),.int .i64 n] w (Fw n x w))
    (x:Ex) (n:Int) (ua aa:Option Addr) (uc ac:Nat) (w:World) (hz:x.ar.sz=k) (hs:x.szs) (hn1 : -1≤n) (hn2:n≤1000) (hE:Ec w x ua uc aa ac):Calls Tryz.prog 13 #[.agg (exC x.h x.ar.len ua uc aa ac),.int .i64 n] w (Fw n x w):=by
 have bb:=aj (b0 w) (.cells (exC x.h x.ar.len ua uc aa ac) 29);have B0:=Hy bb;have G0:=Hy (Blk.new w 29 (exC x.h x.ar.len ua uc aa ac));have HA:=Hy hE.ar;have HU:=Hy hE.us;have IH':=Hy IH;have HZ:=Hy hz;have HX:=Hy hs;have hN:=Hy (⟨hn1,hn2⟩ : -1≤n∧n≤1000);have z1:=hs.h.op;have z2:=hs.h.nm;have z3:=hs.h.tb;have z4:=hs.h.vs;have z5:=hE.us.hcap;have z6:=hE.us.hmax;have z7:=hE.ar.hcap;have z8:=hE.ar.hmax;clear hE IH hz hs bb;unfold exC at *;by_cases h1:n<1
 ·have q1:decide (n<1)=true:=dT h1
  go_enter Tryz.func13,Tryz.ntmps13
  go_wp2_with fail;go_ret;exact wX B0.o
 have q1:decide (n<1)=false:=dF h1;by_cases h2:300<((x.h.op.size:Int)+x.h.nm.size+x.h.tb.size+x.h.vs.size)
 ·have q2:decide (300<((x.h.op.size:Int)+x.h.nm.size+x.h.tb.size+x.h.vs.size))=true:=dT h2
  go_enter Tryz.func13,Tryz.ntmps13
  go_wp2_with fail;go_ret;exact wX B0.o
 have q2:decide (300<((x.h.op.size:Int)+x.h.nm.size+x.h.tb.size+x.h.vs.size))=false:=dF h2;by_cases h3:10<x.h.un.length
 ·have q3:decide (10<(x.h.un.length:Int))=true:=dT (by omega)
  go_enter Tryz.func13,Tryz.ntmps13
  go_wp2_with fail;go_ret;exact wX B0.o
 have q3:decide (10<(x.h.un.length:Int))=false:=dF (by omega);by_cases h4:10<x.ar.len
 ·have q4:decide (10<(x.ar.len:Int))=true:=dT (by omega)
  go_enter Tryz.func13,Tryz.ntmps13
  go_wp2_with fail;go_ret;exact wX B0.o
 have q4:decide (10<(x.ar.len:Int))=false:=dF (by omega)
 go_enter Tryz.func13,Tryz.ntmps13
 clear z1 z2 z3 z4;go_wp2_with fail;have BL:=Hy h3;have AL:=Hy h4;have N1:=Hy h1;clear q1 q2 q3 q4 h1 h2 h3 h4
 go_loopw [5] (fun vi wr => ∃ j:Nat,vi=.int .i64 (j:Nat)∧Hid (j≤x.h.un.length)∧Hid (Blk wr w.heap.size 29 #[.int .i64 x.h.k,.string x.h.op,.string x.h.nm,.string x.h.tb,.int .i64 x.h.vk,.int .i64 x.h.vn,.string x.h.vs,.slice ua x.h.un.length uc,.int .i64 x.h.pa,.int .i64 x.h.wk,.int .i64 x.h.ws,.slice aa x.ar.len ac])∧Hid (Below w.heap.size w wr)) (fun vi _=>x.h.un.length - (intOf vi).toNat)
 case atStart=>exact ⟨0,rfl,Hy zl,G0,B0⟩
 case round =>
  obtain ⟨j,rfl,hj,hG,hb⟩:=hrel;clear G0;have g7:=hG.o.cell 7;simp only [sz2,sz3,sz4] at g7;by_cases hlt:j<x.h.un.length
  ·have q1:decide ((j:Int)<(x.h.un.length:Int))=true:=dT (by omega);obtain ⟨bk,off,rfl,hC⟩:=(HU.o.keeps hb.o).hat.resolve_left (by omega);have c0:=((hC j hlt).1);have f4:=Hy (aP (j:=j) (by have:=BL.o;omega));have i1:(j:Int)<(x.h.un.length:Int):=by omega
   have i2:j<x.h.un.length:=hlt;clear hC hj;generalize (un.gt x.h.un j).1=nm at *;by_cases h5:100<nm.size
   ·have q2:decide (100<(nm.size:Int))=true:=dT (by omega);go_wp2_with fail;go_ret;exact wX hb.o
   have q2:decide (100<(nm.size:Int))=false:=dF (by omega);go_wp2_with fail;exact ⟨⟨j+1,congrArg (Value.int .i64) (by omega),Hy hlt,hG,hb⟩,aU hlt (by omega)⟩
  have q1:decide ((j:Int)<(x.h.un.length:Int))=false:=dF (by omega);have m1:(1:Int)≤n:=by have:=N1.o;omega
  have m2:n≤1000:=hN.o.2;go_wp2_with fail;clear q1 g7 hj m1 m2
  go_loopw [1,6] (fun vm vi wv => ∃ (i:Nat) (m:Int),vm=.int .i64 m∧vi=.int .i64 (i:Nat)∧Hid (i≤x.ar.len)∧Hid (-1≤m∧m≤1000)∧Hid (0≤m→(x.ar.sz:Int)+1+m≤n+((x.ar.drop i).sz:Int))∧Hid (Blk wv w.heap.size 29 #[.int .i64 x.h.k,.string x.h.op,.string x.h.nm,.string x.h.tb,.int .i64 x.h.vk,.int .i64 x.h.vn,.string x.h.vs,.slice ua x.h.un.length uc,.int .i64 x.h.pa,.int .i64 x.h.wk,.int .i64 x.h.ws,.slice aa x.ar.len ac])∧Hid (Below w.heap.size w wv)) (fun _ vi _=>x.ar.len - (intOf vi).toNat)
  case atStart=>exact ⟨0,n - 1,rfl,rfl,Hy zl,Hy (by have:=N1.o;have:=hN.o;omega),Hy (by intro;rw [drop_zero];omega),hG,hb⟩
  case round =>
   clear hG hb;obtain ⟨i,m,rfl,rfl,hi,hm,hR,hG,hb⟩:=hrel;have g11:=hG.o.cell 11;simp only [sz2,sz3,sz4] at g11;by_cases hl2:i<x.ar.len
   ·have q1:decide ((i:Int)<(x.ar.len:Int))=true:=dT (by omega);by_cases h6:0≤m
    ·have q2:decide (0≤m)=true:=dT h6;obtain ⟨bk,off,va,vc,wa,wc,rfl,R1,E1⟩:=(HA.o.keeps hb.o).at hl2;have f4:=Hy (aP (j:=i) (by have:=AL.o;omega));have i1:(i:Int)<(x.ar.len:Int):=by omega
     have i2:i<x.ar.len:=hl2;have hsz:=Hy (kE x.ar i hl2);have hsd:=Hy (OU hl2);have hxs:=Hy (sD x.ar i HX.o.ar);replace E1:=Hy E1;replace R1:=Hy R1;clear hi;generalize x.ar.nth i=y at *;go_wp2_with (first | (refine bS aN dec.uy29 rfl (.tmp 71) rfl rfl bk (off+i * 12) (exC y.h y.ar.len va vc wa wc) rfl R1.o rfl ?_));refine (IH'.o y m va wa vc wc _ (by have:=hsz.o;have:=HZ.o;omega) hxs.o hm.o.1 hm.o.2 E1.o).mono ?_;rintro e w6 ⟨r,rfl,hr1,hr2,b6⟩;have B6:=Hy (ak hb.o b6);have G6:=Hy (hG.o.keeps b6);replace hr1:=Hy hr1;replace hr2:=Hy hr2;clear b6 E1 R1 hG hb g11 h6 q2;go_wp2_with fail;exact ⟨⟨i+1,r,rfl,congrArg (Value.int .i64) (by omega),Hy hl2,hr1,Hy (by intro h0;have a1:=hr2.o h0;have a2:=hR.o (by have:=hsz.o;omega);have a3:=hsd.o;omega),G6,B6⟩,aU hl2 (by omega)⟩
    have q2:decide (0≤m)=false:=dF h6;go_wp2_with fail;go_ret;exact ⟨m,rfl,hm.o,fun h=>absurd h (by omega),hb.o⟩
   have q1:decide ((i:Int)<(x.ar.len:Int))=false:=dF (by omega);have hd:=Hy (jo x.ar i (by omega));go_wp2_with fail;go_ret;exact ⟨m,rfl,hm.o,fun h=>by have:=hR.o h;rw [hd.o] at this;simpa [Fo.sz] using this,hb.o⟩
theorem FZ (x:Ex) (n:Int) (ua aa:Option Addr) (uc ac:Nat) (w:World) (hs:x.szs) (hn1 : -1≤n) (hn2:n≤1000) (hE:Ec w x ua uc aa ac):Calls Tryz.prog 13 #[.agg (exC x.h x.ar.len ua uc aa ac),.int .i64 n] w (Fw n x w):=by
 have key:∀ k,∀ (x:Ex) (n:Int) (ua aa:Option Addr) (uc ac:Nat) (w:World),x.ar.sz<k→x.szs→-1≤n→n≤1000→Ec w x ua uc aa ac→Calls Tryz.prog 13 #[.agg (exC x.h x.ar.len ua uc aa ac),.int .i64 n] w (Fw n x w):=by
  intro k
  induction k with
  | zero=>intro x n ua aa uc ac w h;exact absurd h (Nat.not_lt_zero _)
  | succ k ih =>
    intro x n ua aa uc ac w h hs h1 h2 hE
    exact Nj x.ar.sz (fun x' n' ua' aa' uc' ac' w' h' => ih x' n' ua' aa' uc' ac' w' (by omega)) x n ua aa uc ac w rfl hs h1 h2 hE
 exact key _ x n ua aa uc ac w ls hs hn1 hn2 hE
structure Fe.sz (f:Fe):Prop where
 nm:f.nm.size≤140737488355328
 en:f.en.size≤140737488355328
 of:f.ty.of.size≤140737488355328
 bo:f.bo.szs
 few:f.bo.ar.sz≤3000
theorem RQ {t:Ty} (h:tyE t=0):tyT t≠[]:=by
 obtain ⟨_,u,hf⟩:=(iO h).f;have hb:=(iO h).b;have hw:=(iO h).w;intro h0;rw [h0,hf,gN] at hb;rw [hf] at hw;have:=qR (gX.1 hw).2.1;have h3:=congrArg List.length hb;simp only [L_a,L_j] at h3;omega
theorem Tj {f:Fe} (h1:name f.nm=true) (h3:tyE f.ty=0) (h4:shE f.bo=0):wrd [⟨#[102,101,97,116,117,114,101]⟩,f.nm,⟨#[111,102]⟩,B8 (f.en.data.toList++[58]),B8 (tyT f.ty),⟨#[61]⟩,B8 (txE f.bo)]++[59]=feT f:=by
 have hd:∀ s:ByteArray,s.size≠0→s≠.empty:=fun s h e=>h (by rw [e];rfl);rw [cu _ (hd _ (by decide)),tail_cons _ _ (oW h1),tail_cons _ _ (hd _ (by decide)),tail_cons _ _ (eB (by simp)),tail_cons _ _ (eB (RQ h3)),tail_cons _ _ (hd _ (by decide)),tail_cons _ _ (eB (IX (kR h4))),tail_nil];unfold feT;simp [bZ]
theorem pE {f:Fe} (h1:name f.nm=true) (h2:name f.en=true) (h3:tyE f.ty=0) (h4:shE f.bo=0) (hz:f.bo.ar.sz≤3000):(feT f).length≤1000000:=by
 have a1:=dM h1;have a2:=dM h2;have a3:=xK h3;have a4:=Ed (kR h4);unfold feT;rw [aI] at a1 a2;simp only [L_a,L_b,L_j,aI];omega
theorem qU (f:Fe) (xa ua aa:Option Addr) (xc uc ac:Nat) (w:World) (hs:f.sz) (hU:un.Sl w xa f.ty.un.length xc f.ty.un) (hE:Ec w f.bo ua uc aa ac) (T:Tabq w):Calls Tryz.prog 22 #[.agg (feC f xa xc ua uc aa ac)] w (Tx (txO (pfE f) (feT f)) (pfE f) w):=by
 have bb:=aj (b0 w) (.cells (feC f xa xc ua uc aa ac) 51);have B0:=Hy bb;have G:=Hy (Blk.new w 51 (feC f xa xc ua uc aa ac));have C1:=Hy (fun (W:World) (b:Below w.heap.size w W)=>gI f.nm hs.nm W (T.stays b).t);have C2:=Hy (fun (W:World) (b:Below w.heap.size w W)=>gI f.en hs.en W (T.stays b).t);have C3:=Hy (fun (W:World) (b:Below w.heap.size w W)=>Jq f.ty xa xc W (hU.keeps b) hs.of (T.stays b));have C4:=Hy (fun (W:World) (b:Below w.heap.size w W)=>qV f.bo ua aa uc ac W hs.bo hs.few (hE.keeps b) (T.stays b));have hI:pfE f=pfE f:=rfl
 conv at hI=>rhs;unfold pfE
 replace hI:=Hy hI;have HO:=Hy (rfl:txO (pfE f) (feT f)=txO (pfE f) (feT f));have HY:=Hy (fun (h1:name f.nm=true) (h2:name f.en=true) (h3:tyE f.ty=0) (h4:shE f.bo=0)=>(⟨Tj h1 h3 h4,pE h1 h2 h3 h4 hs.few,dM h2⟩:wrd [⟨#[102,101,97,116,117,114,101]⟩,f.nm,⟨#[111,102]⟩,B8 (f.en.data.toList++[58]),B8 (tyT f.ty),⟨#[61]⟩,B8 (txE f.bo)]++[59]=feT f∧(feT f).length≤1000000∧f.en.data.toList.length≤24));clear bb hU hE T hs;unfold feC tyC exC at *;have hn1:name f.nm=name f.nm:=rfl;obtain ⟨n1,hn1⟩:∃ n1,n1=name f.nm:=⟨_,rfl⟩;obtain ⟨n2,hn2⟩:∃ n2,n2=name f.en:=⟨_,rfl⟩;rw [← hn1] at C1 hI;rw [← hn2] at C2 hI;replace hn1:=Hy hn1;replace hn2:=Hy hn2;obtain ⟨te,hte⟩:∃ te,te=tyE f.ty:=⟨_,rfl⟩;obtain ⟨se,hse⟩:∃ se,se=shE f.bo:=⟨_,rfl⟩;rw [← hte] at C3 hI;rw [← hse] at C4 hI;replace hte:=Hy hte;replace hse:=Hy hse;generalize hpe:pfE f=pe at *;generalize hts:txO pe (feT f)=ts at *;replace HO:=Hy hts;clear hts hpe
 go_enter Tryz.func22,Tryz.ntmps22
 go_upto_region 1 with fail
 generalize hw0:(w.alloc (.cells #[.string f.nm,.string f.en,.int .i64 f.ty.k,.slice xa f.ty.un.length xc,.string f.ty.of,.int .i64 f.bo.h.k,.string f.bo.h.op,.string f.bo.h.nm,.string f.bo.h.tb,.int .i64 f.bo.h.vk,.int .i64 f.bo.h.vn,.string f.bo.h.vs,.slice ua f.bo.h.un.length uc,.int .i64 f.bo.h.pa,.int .i64 f.bo.h.wk,.int .i64 f.bo.h.ws,.slice aa f.bo.ar.len ac,.int .i64 f.vr] 51))=w0 at *;clear hw0;have a0:=G.o.cell 0;simp only [sz2,sz3] at a0;go_wp2_with fail;refine (C1.o _ B0.o).mono ?_;rintro e w1 ⟨rfl,b1⟩;have B1:=Hy (ak B0.o b1);replace G:=Hy (G.o.keeps b1);clear b1 C1 a0;cases n1
 ·replace hI:=Hy (hI.o.trans (if_pos rfl));go_wp2_with fail
  go_ret2
  exact fK (by rw [← HO.o,hI.o];rfl) hI.o.symm B1.o
 replace hI:=Hy (hI.o.trans (if_neg (by decide)));have a1:=G.o.cell 1;simp only [sz2,sz3,sz4] at a1;go_wp2_with fail;refine (C2.o _ B1.o).mono ?_;rintro e w2 ⟨rfl,b2⟩;have B2:=Hy (ak B1.o b2);replace G:=Hy (G.o.keeps b2);clear b2 C2 a1;cases n2
 ·replace hI:=Hy (hI.o.trans (if_pos rfl));go_wp2_with fail
  go_ret2
  exact fK (by rw [← HO.o,hI.o];rfl) hI.o.symm B2.o
 replace hI:=Hy (hI.o.trans (if_neg (by decide)));go_wp2_with (first | (refine bS dx dec.uy31 rfl (.tmp 17) rfl rfl w.heap.size 2 #[.int .i64 f.ty.k,.slice xa f.ty.un.length xc,.string f.ty.of] rfl (bV G.o 2 _ rfl) rfl ?_) | (refine bS aN dec.uy29 rfl (.tmp 26) rfl rfl w.heap.size 5 #[.int .i64 f.bo.h.k,.string f.bo.h.op,.string f.bo.h.nm,.string f.bo.h.tb,.int .i64 f.bo.h.vk,.int .i64 f.bo.h.vn,.string f.bo.h.vs,.slice ua f.bo.h.un.length uc,.int .i64 f.bo.h.pa,.int .i64 f.bo.h.wk,.int .i64 f.bo.h.ws,.slice aa f.bo.ar.len ac] rfl (bV G.o 5 _ rfl) rfl ?_));refine (C3.o _ B2.o).mono ?_;rintro e w3 ⟨rfl,b3⟩;have B3:=Hy (ak B2.o b3);replace G:=Hy (G.o.keeps b3);clear b3 C3;by_cases h3:te=0
 ·have q:(te != 0)=false:=by rw [bne,dG h3];rfl
  replace hI:=Hy (hI.o.trans (if_neg (fun h=>h h3)));have ht:=Hy (show txO te (tyT f.ty)=B8 (tyT f.ty) from if_pos h3);rw [ht.o];replace h3:=Hy h3;go_wp2_with (first | (refine bS dx dec.uy31 rfl (.tmp 17) rfl rfl w.heap.size 2 #[.int .i64 f.ty.k,.slice xa f.ty.un.length xc,.string f.ty.of] rfl (bV G.o 2 _ rfl) rfl ?_) | (refine bS aN dec.uy29 rfl (.tmp 26) rfl rfl w.heap.size 5 #[.int .i64 f.bo.h.k,.string f.bo.h.op,.string f.bo.h.nm,.string f.bo.h.tb,.int .i64 f.bo.h.vk,.int .i64 f.bo.h.vn,.string f.bo.h.vs,.slice ua f.bo.h.un.length uc,.int .i64 f.bo.h.pa,.int .i64 f.bo.h.wk,.int .i64 f.bo.h.ws,.slice aa f.bo.ar.len ac] rfl (bV G.o 5 _ rfl) rfl ?_));refine (C4.o _ B3.o).mono ?_;rintro e w4 ⟨rfl,b4⟩;have B4:=Hy (ak B3.o b4);replace G:=Hy (G.o.keeps b4);clear b4 C4;by_cases h4:se=0
  ·have q5:(se != 0)=false:=by rw [bne,dG h4];rfl
   have hx:=Hy (show txO se (txE f.bo)=B8 (txE f.bo) from if_pos h4);rw [hx.o];obtain ⟨hW,hL,hnl⟩:=HY.o hn1.o.symm hn2.o.symm (hte.o.symm.trans h3.o) (hse.o.symm.trans h4);have HO2:=Hy (show ts=B8 (feT f) by rw [← HO.o,hI.o];exact if_pos h4);replace h4:=Hy h4;obtain ⟨WL,hWL⟩:∃ WL,WL=[⟨#[102,101,97,116,117,114,101]⟩,f.nm,⟨#[111,102]⟩,B8 (f.en.data.toList++[58]),B8 (tyT f.ty),⟨#[61]⟩,B8 (txE f.bo)]:=⟨_,rfl⟩;rw [← hWL] at hW;have hwl:(wrd WL).length≤1000000:=by rw [← hW,L_a] at hL;omega
   have CW:=Hy (fun (W:World) (a:Option Addr) (h:Ss W a 7 7 WL)=>fE a 7 7 _ W h (by decide) (by omega));have NW:=Hy (fun (W:World)=>Ss.new W [⟨#[102,101,97,116,117,114,101]⟩,f.nm,⟨#[111,102]⟩,B8 (f.en.data.toList++[58]),B8 (tyT f.ty),⟨#[61]⟩,B8 (txE f.bo)] 7 #[.string ⟨#[102,101,97,116,117,114,101]⟩,.string f.nm,.string ⟨#[111,102]⟩,.string (B8 (f.en.data.toList++[58])),.string (B8 (tyT f.ty)),.string ⟨#[61]⟩,.string (B8 (txE f.bo))] rfl rfl (by decide) 9);rw [← hWL] at NW;have A9:=dz (wrd WL) [59] (by omega) (by decide);rw [hW] at A9;replace A9:∀ W,(Op.stringOp .add (B8 (wrd WL)) ⟨#[59]⟩).run Tryz.prog W=.ok (.string (B8 (feT f))) W:=A9;have A1:=dz f.en.data.toList [58] (by omega) (by decide);replace A1:∀ W,(Op.stringOp .add f.en ⟨#[58]⟩).run Tryz.prog W=.ok (.string (B8 (f.en.data.toList++[58]))) W:=A1;clear hW hL hnl hWL hwl HY hn1 hn2 hte hse ht hx HO;generalize B8 (f.en.data.toList++[58])=s1 at *;generalize B8 (tyT f.ty)=s2 at *;generalize B8 (txE f.bo)=s3 at *;generalize B8 (wrd WL)=sw at *;generalize B8 (feT f)=st at *;have a0:=G.o.cell 0;simp only [sz2,sz3] at a0;have a1:=G.o.cell 1;simp only [sz2,sz3,sz4] at a1;go_wp2_with fail;refine (CW.o _ _ (NW.o _)).mono ?_;rintro e w5 ⟨rfl,b5⟩;have B5:=Hy (ak (aj B4.o _) b5);clear b5 CW NW a0 a1;go_wp2_with fail
   go_ret2
   exact fK HO2.o.symm (hI.o.trans h4.o).symm B5.o
  have q5:(se != 0)=true:=by rw [bne,dB h4];rfl
  have HO2:=Hy (show ts=.empty by rw [← HO.o,hI.o];exact if_neg h4);replace h4:=Hy h4;go_wp2_with fail
  go_ret2
  exact fK HO2.o.symm hI.o.symm B4.o
 have q:(te != 0)=true:=by rw [bne,dB h3];rfl
 replace hI:=Hy (hI.o.trans (if_pos h3));have hne:=h3;have HO2:=Hy (show ts=.empty by rw [← HO.o,hI.o];exact if_neg h3);clear hne;replace h3:=Hy h3;go_wp2_with (first | (refine bS dx dec.uy31 rfl (.tmp 17) rfl rfl w.heap.size 2 #[.int .i64 f.ty.k,.slice xa f.ty.un.length xc,.string f.ty.of] rfl (bV G.o 2 _ rfl) rfl ?_) | (refine bS aN dec.uy29 rfl (.tmp 26) rfl rfl w.heap.size 5 #[.int .i64 f.bo.h.k,.string f.bo.h.op,.string f.bo.h.nm,.string f.bo.h.tb,.int .i64 f.bo.h.vk,.int .i64 f.bo.h.vn,.string f.bo.h.vs,.slice ua f.bo.h.un.length uc,.int .i64 f.bo.h.pa,.int .i64 f.bo.h.wk,.int .i64 f.bo.h.ws,.slice aa f.bo.ar.len ac] rfl (bV G.o 5 _ rfl) rfl ?_))
 go_ret2
 exact fK HO2.o.symm hI.o.symm B3.o
def Bx (P:Prop) (w:World) (e:Ending) (w':World):Prop:=∃ b:Bool,e=.returned (.bool b)∧(b=true→P)∧Below w.heap.size w w'
theorem lX {P:Prop} {w w':World} (b:Bool) (h:b=true→P) (hb:Below w.heap.size w w'):Bx P w (.returned (.bool b)) w':=⟨b,rfl,h,hb⟩
def RP (t:Ty):Ex:=⟨{ h0 with nm:=t.of,un:=t.un },.nil⟩
theorem tL (t:Ty) (ua:Option Addr) (uc:Nat) (w:World) (hU:un.Sl w ua t.un.length uc t.un) (hs:t.of.size≤140737488355328):Calls Tryz.prog 14 #[.agg (tyC t ua uc)] w (Bx True w):=by
 have bb:=aj (b0 w) (.cells (tyC t ua uc) 31);have BB:=Hy bb;have G:=Hy (Blk.new w 31 (tyC t ua uc));have C:=Hy (fun (W:World) (b:Below w.heap.size w W)=>FZ (RP t) 1 ua none uc 0 W ⟨⟨Nat.zero_le _,hs,Nat.zero_le _,Nat.zero_le _⟩,trivial⟩ (by decide) (by decide) ⟨hU.keeps b,Fs.nil W⟩);unfold RP exC at C;clear bb hU hs;unfold tyC at *;have a1:=G.o.cell 1;have a2:=G.o.cell 2;simp only [sz2,sz3,sz4] at a1 a2
 go_enter Tryz.func14,Tryz.ntmps14
 go_wp2_with fail;refine (C.o _ BB.o).mono ?_;rintro e w1 ⟨r,rfl,hr,hx,b1⟩;have B1:=Hy (ak BB.o b1);clear b1 hx hr a1 a2 C;obtain ⟨bq,hbq⟩:∃ bq:Bool,bq=decide (0≤r):=⟨_,rfl⟩;have q:=hbq.symm;clear hbq;go_wp2_with fail;go_ret;exact lX _ (fun _=>trivial) B1.o
theorem pq (f:Fe) (xa ua aa:Option Addr) (xc uc ac:Nat) (w:World) (h1:f.nm.size≤140737488355328) (h2:f.en.size≤140737488355328) (h3:f.ty.of.size≤140737488355328) (h4:f.bo.szs) (hU:un.Sl w xa f.ty.un.length xc f.ty.un) (hE:Ec w f.bo ua uc aa ac):Calls Tryz.prog 40 #[.agg (feC f xa xc ua uc aa ac)] w (Bx (f.bo.ar.sz+1≤80) w):=by
 have bb:=aj (b0 w) (.cells (feC f xa xc ua uc aa ac) 51);have BB:=Hy bb;have G:=Hy (Blk.new w 51 (feC f xa xc ua uc aa ac));have C1:=Hy (fun (W:World) (b:Below w.heap.size w W)=>tL f.ty xa xc W (hU.keeps b) h3);have C2:=Hy (fun (W:World) (b:Below w.heap.size w W)=>FZ f.bo 80 ua aa uc ac W h4 (by decide) (by decide) (hE.keeps b));clear bb hU hE h3 h4;unfold feC tyC exC at *;have a0:=G.o.cell 0;have a1:=G.o.cell 1;simp only [sz2,sz3,sz4] at a0 a1;have z1:=h1;have z2:=h2;clear h1 h2;by_cases h5:(f.nm.size:Int)+f.en.size≤200
 ·have q1:decide ((f.nm.size:Int)+f.en.size≤200)=true:=dT h5
  go_enter Tryz.func40,Tryz.ntmps40
  go_wp2_with (first | (refine eG dx dec.uy31 rfl (.tmp 12) rfl rfl w.heap.size 2 #[.int .i64 f.ty.k,.slice xa f.ty.un.length xc,.string f.ty.of] rfl (bV G.o 2 _ rfl) rfl ?_) | (refine eG aN dec.uy29 rfl (.tmp 17) rfl rfl w.heap.size 5 #[.int .i64 f.bo.h.k,.string f.bo.h.op,.string f.bo.h.nm,.string f.bo.h.tb,.int .i64 f.bo.h.vk,.int .i64 f.bo.h.vn,.string f.bo.h.vs,.slice ua f.bo.h.un.length uc,.int .i64 f.bo.h.pa,.int .i64 f.bo.h.wk,.int .i64 f.bo.h.ws,.slice aa f.bo.ar.len ac] rfl (bV G.o 5 _ rfl) rfl ?_));refine (C1.o _ BB.o).mono ?_;rintro e w1 ⟨b,rfl,hx,b1⟩;have B1:=Hy (ak BB.o b1);replace G:=Hy (G.o.keeps b1);clear b1 C1 a0 a1 hx;cases b
  ·go_wp2_with (first | (refine eG dx dec.uy31 rfl (.tmp 12) rfl rfl w.heap.size 2 #[.int .i64 f.ty.k,.slice xa f.ty.un.length xc,.string f.ty.of] rfl (bV G.o 2 _ rfl) rfl ?_) | (refine eG aN dec.uy29 rfl (.tmp 17) rfl rfl w.heap.size 5 #[.int .i64 f.bo.h.k,.string f.bo.h.op,.string f.bo.h.nm,.string f.bo.h.tb,.int .i64 f.bo.h.vk,.int .i64 f.bo.h.vn,.string f.bo.h.vs,.slice ua f.bo.h.un.length uc,.int .i64 f.bo.h.pa,.int .i64 f.bo.h.wk,.int .i64 f.bo.h.ws,.slice aa f.bo.ar.len ac] rfl (bV G.o 5 _ rfl) rfl ?_));go_ret;exact lX _ (fun h=>by cases h) B1.o
  go_wp2_with (first | (refine eG dx dec.uy31 rfl (.tmp 12) rfl rfl w.heap.size 2 #[.int .i64 f.ty.k,.slice xa f.ty.un.length xc,.string f.ty.of] rfl (bV G.o 2 _ rfl) rfl ?_) | (refine eG aN dec.uy29 rfl (.tmp 17) rfl rfl w.heap.size 5 #[.int .i64 f.bo.h.k,.string f.bo.h.op,.string f.bo.h.nm,.string f.bo.h.tb,.int .i64 f.bo.h.vk,.int .i64 f.bo.h.vn,.string f.bo.h.vs,.slice ua f.bo.h.un.length uc,.int .i64 f.bo.h.pa,.int .i64 f.bo.h.wk,.int .i64 f.bo.h.ws,.slice aa f.bo.ar.len ac] rfl (bV G.o 5 _ rfl) rfl ?_));refine (C2.o _ B1.o).mono ?_;rintro e w2 ⟨r,rfl,hr,hx,b2⟩;have B2:=Hy (ak B1.o b2);replace hx:=Hy hx;clear b2 C2 hr;by_cases h6:0≤r
  ·have q6:decide (0≤r)=true:=dT h6;go_wp2_with fail;go_ret;exact lX _ (fun _=>by have:=hx.o h6;omega) B2.o
  have q6:decide (0≤r)=false:=dF h6;go_wp2_with fail;go_ret;exact lX _ (fun h=>by cases h) B2.o
 have q1:decide ((f.nm.size:Int)+f.en.size≤200)=false:=dF h5
 go_enter Tryz.func40,Tryz.ntmps40
 go_wp2_with fail;go_ret;exact lX _ (fun h=>by cases h) BB.o
theorem Jm {w:World} {b o:Nat} {cs ds:List Value} (h:w.rangeAt b o cs) (i n:Nat) (hd:(cs.drop i).take n=ds:=by rfl):w.rangeAt b (o+i) ds:=fun j v hv=>by
 have hj:j<ds.length:=(List.getElem?_eq_some_iff.1 hv).1
 rw [← hd,List.getElem?_take] at hv
 split at hv
 ·rw [List.getElem?_drop] at hv
  rw [Nat.add_assoc]
  exact h (i+j) v hv
 ·cases hv
theorem Ck (t:Tb) (a:Option Addr) (c:Nat) (w:World) (hs:t.sz) (hA:Fis w a t.fs.length c t.fs):Calls Tryz.prog 39 #[.agg (tbC t a c)] w (Bx True w):=by
 have bb:=aj (b0 w) (.cells (tbC t a c) 48);have BB:=Hy bb;have G:=Hy (Blk.new w 48 (tbC t a c));have HA:=Hy hA;have HS:=Hy hs;have z1:=hs.nm;have z2:=hs.en;have z3:=hA.hcap;have z4:=hA.hmax;clear bb hA hs;unfold tbC at *
 go_enter Tryz.func39,Tryz.ntmps39
 go_wp2_with fail
 go_loopw [3] (fun vi wr => ∃ j:Nat,vi=.int .i64 (j:Nat)∧Hid (j≤t.fs.length)∧Hid (Blk wr w.heap.size 48 #[.string t.nm,.string t.en,.slice a t.fs.length c,.int .i64 t.kp])∧Hid (Below w.heap.size w wr)) (fun vi _=>t.fs.length - (intOf vi).toNat)
 case atStart=>exact ⟨0,rfl,Hy zl,G,BB⟩
 case round =>
  obtain ⟨j,rfl,hj,hG,hb⟩:=hrel;clear G BB;have g2:=hG.o.cell 2;simp only [sz2,sz3,sz4] at g2;by_cases hlt:j<t.fs.length
  ·have q1:decide ((j:Int)<(t.fs.length:Int))=true:=dT (by omega);obtain ⟨bk,off,rfl,hC⟩:=(HA.o.keeps hb.o).hat.resolve_left (by omega);obtain ⟨cs,hcs,R1,ua,uc,rfl,U1⟩:=hC j hlt;have hm:=List.getElem_mem hlt;have i1:(j:Int)<(t.fs.length:Int):=by omega
   have i2:j<t.fs.length:=hlt;have hfz:=Hy (HS.o.fs _ hm);have f4:=Hy (aP (j:=j) (by omega));clear hC hm hcs hj;replace R1:=Hy R1;replace U1:=Hy U1;generalize t.fs[j]=f at *;unfold fiC at *;have c0:=R1.o 0 _ rfl;simp only [Nat.add_zero] at c0;have C1:=Hy (fun (W:World) (b:Below wr.heap.size wr W)=>tL f.ty ua uc W (U1.o.keeps b) hfz.o.of);unfold tyC at C1;by_cases h5:100<f.nm.size
   ·have q2:decide (100<(f.nm.size:Int))=true:=dT (by omega);go_wp2_with fail;go_ret;exact lX _ (fun _=>trivial) hb.o
   have q2:decide (100<(f.nm.size:Int))=false:=dF (by omega);go_wp2_with (refine eG dx dec.uy31 rfl (.tmp 24) rfl rfl bk (off+j * 4+1) #[.int .i64 f.ty.k,.slice ua f.ty.un.length uc,.string f.ty.of] rfl (Jm R1.o 1 3) rfl ?_);refine (C1.o _ (b0 _)).mono ?_;rintro e w1 ⟨b,rfl,hx,b1⟩;have B1:=Hy (ak hb.o b1);have G1:=Hy (hG.o.keeps b1);clear b1 C1 hx c0 g2;cases b
   ·go_wp2_with fail;go_ret;exact lX _ (fun _=>trivial) B1.o
   go_wp2_with fail;exact ⟨⟨j+1,congrArg (Value.int .i64) (by omega),Hy hlt,G1,B1⟩,aU hlt (by omega)⟩
  have q1:decide ((j:Int)<(t.fs.length:Int))=false:=dF (by omega);have g0:=hG.o.cell 0;have g1:=hG.o.cell 1;simp only [sz2,sz3,sz4] at g0 g1;obtain ⟨bq,hbq⟩:∃ bq:Bool,bq=decide ((t.nm.size:Int)+t.en.size≤200):=⟨_,rfl⟩;have q5:=hbq.symm;clear hbq;by_cases h7:t.fs.length≤12
  ·have q2:decide ((t.fs.length:Int)≤12)=true:=dT (by omega);go_wp2_with fail;go_ret;exact lX _ (fun _=>trivial) hb.o
  have q2:decide ((t.fs.length:Int)≤12)=false:=dF (by omega);go_wp2_with fail;go_ret;exact lX _ (fun _=>trivial) hb.o
end ch
end Go.Proofs.YtbahfelnbofjjaaGreatDoor
