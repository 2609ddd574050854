/-
  printer.Table; printer.Feature; The reference's FewType, FewTable, FewFeature; What example builds and asks: names, operations, prints; The expressions and tables of example, and what their texts are; Parts of example.
-/
import Derived.Test.YtbahfelnbofjjaaGreatDoorX14
set_option maxRecDepth 100000
set_option maxHeartbeats 16000000
namespace Go.Proofs.YtbahfelnbofjjaaGreatDoor
namespace ch
open Go.RowKit dec
theorem zm:∀ (l bef:List Fi),fsE bef l=0→∀ f ∈ l,name f.nm=true∧tyE f.ty=0
 | [],_,_,_,hf=>by cases hf
 | g :: l,bef,h,f,hf=>by
  have h':(if fiE bef g=0 then fsE (bef++[g]) l else fiE bef g)=0:=h
  by_cases h0:fiE bef g=0
  ·rw [if_pos h0] at h'
   rcases List.mem_cons.1 hf with rfl | hf
   ·unfold fiE at h0
    by_cases h1:name f.nm=false
    ·rw [if_pos h1] at h0;cases h0
    ·rw [if_neg h1] at h0
     split at h0
     ·cases h0
     ·exact ⟨by simpa using h1,h0⟩
   ·exact zm l _ h' f hf
  ·rw [if_neg h0] at h'
   exact absurd h' h0
theorem qw {t:Tb} (h:tbE t=0):name t.nm=true∧name t.en=true∧0≤t.kp∧t.kp≤1099511627776∧t.fs.length≤8∧∀ f ∈ t.fs,name f.nm=true∧tyE f.ty=0:=by
 unfold tbE at h;by_cases h1:name t.nm=false
 ·rw [if_pos h1] at h;cases h
 rw [if_neg h1] at h;by_cases h2:name t.en=false
 ·rw [if_pos h2] at h;cases h
 rw [if_neg h2] at h;by_cases h3:t.kp<0
 ·rw [if_pos h3] at h;cases h
 rw [if_neg h3] at h;by_cases h4:1099511627776<t.kp
 ·rw [if_pos h4] at h;cases h
 rw [if_neg h4] at h;by_cases h5:8<t.fs.length
 ·rw [if_pos h5] at h;cases h
 rw [if_neg h5] at h;exact ⟨by simpa using h1,by simpa using h2,by omega,by omega,by omega,zm t.fs [] h⟩
theorem pR {f:Fi} (h1:name f.nm=true) (h2:tyE f.ty=0):(fiT f).length≤300∧fiT f≠[]:=by
 have a:=dI h1;have b:=AQ h2;unfold fiT;rw [aI] at a;refine ⟨by simp;omega,by simp⟩
theorem OT {f:Fi} (_h1:name f.nm=true) (h2:tyE f.ty=0):wrd [B8 (f.nm.data.toList++[58]),B8 (tyT f.ty)]=fiT f:=by
 obtain ⟨_,t,hf⟩:=(xO h2).f;have hne:tyT f.ty≠[]:=by
  have hb:=(xO h2).b;have hw:=(xO h2).w;intro h0;rw [h0,hf,gF] at hb;rw [hf] at hw;have:=rY (gN.1 hw).2.1;have h3:=congrArg List.length hb;simp only [List.length_append,List.length_nil] at h3;omega
 rw [cK _ (dZ (by simp)),tail_cons _ _ (dZ hne),tail_nil,cO,cO];unfold fiT;simp
theorem BR:∀ (l:List Fi),Lib.join (l.map fiT) [44,32]=(fsT l).drop 1∧(l≠[]→fsT l=32 :: Lib.join (l.map fiT) [44,32])
 | []=>⟨rfl,fun h=>absurd rfl h⟩
 | f :: r=>by
  have e:Lib.join ((f :: r).map fiT) [44,32]=fiT f++(r.map fun g=>44 :: 32 :: fiT g).flatten:=by
   rw [List.map_cons,Lib.join_cons]
   unfold Lib.joinTail
   rw [List.map_map]
   rfl
  rw [e]
  exact ⟨rfl,fun _=>rfl⟩
def kpT (n:Int):List UInt8:=if n=0 then [] else [107,101,101,112,32]++Lib.itoa n
theorem MZ {t:Tb} (h:tbE t=0):wrd [⟨#[116,97,98,108,101]⟩,t.nm,⟨#[111,102]⟩,t.en,⟨#[123]⟩,B8 (Lib.join (t.fs.map fiT) [44,32]),⟨#[125]⟩,B8 (kpT t.kp)]++[59]=tbT t:=by
 obtain ⟨h1,h2,h3,h4,h5,h6⟩:=qw h;have hd:∀ s:ByteArray,s.size≠0→s≠.empty:=fun s h e=>h (by rw [e];rfl);have hk:Lib.joinTail [32] ((nel [B8 (kpT t.kp)]).map (·.data.toList))=(if t.kp=0 then [] else [32,107,101,101,112,32]++Lib.itoa t.kp):=by
  by_cases h0:t.kp=0
  ·have e0:B8 (kpT t.kp)=.empty:=by unfold kpT;rw [if_pos h0];rfl
   rw [e0,fU _ _ rfl,if_pos h0];rfl
  have hx:kpT t.kp≠[]:=by unfold kpT;rw [if_neg h0];simp
  rw [tail_cons _ _ (dZ hx),tail_nil,cO,if_neg h0];unfold kpT;rw [if_neg h0];simp
 have hf:Lib.joinTail [32] ((nel [B8 (Lib.join (t.fs.map fiT) [44,32]),⟨#[125]⟩,B8 (kpT t.kp)]).map (·.data.toList))=fsT t.fs++([32,125]++(if t.kp=0 then [] else [32,107,101,101,112,32]++Lib.itoa t.kp)):=by
  by_cases h0:t.fs=[]
  ·have e0:B8 (Lib.join (t.fs.map fiT) [44,32])=.empty:=by rw [h0];rfl
   rw [e0,fU _ _ rfl,tail_cons _ _ (hd _ (by decide)),hk,h0];rfl
  have hj:=(BR t.fs).2 h0;have hx:Lib.join (t.fs.map fiT) [44,32]≠[]:=by
   cases hfs:t.fs with
   | nil=>exact absurd hfs h0
   | cons f r =>
     rw [List.map_cons,Lib.join_cons]
     have:=(pR (h6 f (by rw [hfs];exact List.mem_cons_self ..)).1 (h6 f (by rw [hfs];exact List.mem_cons_self ..)).2).2
     intro e
     exact this (List.append_eq_nil_iff.1 e).1
  rw [tail_cons _ _ (dZ hx),tail_cons _ _ (hd _ (by decide)),hk,hj,cO]
 rw [cK _ (hd _ (by decide)),tail_cons _ _ (pI h1),tail_cons _ _ (hd _ (by decide)),tail_cons _ _ (pI h2),tail_cons _ _ (hd _ (by decide)),hf];unfold tbT;simp
theorem yU (k:Nat):∀ l:List (List UInt8),(∀ x ∈ l,x.length≤k)→(Lib.joinTail [44,32] l).length≤(k+2) * l.length
 | [],_=>Nat.zero_le _
 | x :: l,h=>by
  have h1:=h x (List.mem_cons_self ..)
  have h2:=yU k l fun y hy=>h y (List.mem_cons_of_mem _ hy)
  unfold Lib.joinTail at h2 ⊢
  rw [List.map_cons,List.flatten_cons,List.length_append,List.length_append]
  simp only [List.length_cons,List.length_nil,Nat.mul_add,Nat.mul_one]
  omega
theorem Gh (l:List Fi) (h5:l.length≤8) (h6:∀ f ∈ l,name f.nm=true∧tyE f.ty=0):(Lib.join (l.map fiT) [44,32]).length≤3000:=by
 cases l with
 | nil=>exact Nat.zero_le _
 | cons f r =>
   have h1:=(pR (h6 f (List.mem_cons_self ..)).1 (h6 f (List.mem_cons_self ..)).2).1
   have h2:=yU 300 (r.map fiT) fun x hx=>by
     obtain ⟨g,hg,rfl⟩:=List.mem_map.1 hx
     exact (pR (h6 g (List.mem_cons_of_mem _ hg)).1 (h6 g (List.mem_cons_of_mem _ hg)).2).1
   rw [List.map_cons,Lib.join_cons,List.length_append]
   rw [List.length_map] at h2
   simp only [List.length_cons] at h5
   omega
theorem Ku {t:Tb} (h:tbE t=0):(tbT t).length≤4000:=by
 obtain ⟨h1,h2,h3,h4,h5,h6⟩:=qw h;have a1:=dI h1;have a2:=dI h2;have a3:=gV t.kp h3 (by omega);have a4:=Gh t.fs h5 h6;have a5:(fsT t.fs).length≤(Lib.join (t.fs.map fiT) [44,32]).length+1:=by
  by_cases h0:t.fs=[]
  ·rw [h0];decide
  rw [(BR t.fs).2 h0];simp
 have a6:(if t.kp=0 then [] else [32,107,101,101,112,32]++Lib.itoa t.kp:List UInt8).length≤30:=by split <;> simp;omega
 unfold tbT;rw [aI] at a1 a2;simp only [List.length_append,List.length_cons,List.length_nil,aI] at *;omega
theorem Fw {o:Oper} {a:Act} {w:World} {K:Act→World→Prop} {Q:Exit→Act→World→Prop} (s x:Operand)
    (ho:o.op=.call { callee:=.builtin .append,args:=#[s,x],argTypes:=#[97,97] })
    (base:Nat) (v:Value) (l:List ByteArray) (hs:a.eval s=v) (hown:un.OS w base v l) (b:Nat) (t:ByteArray) (hx:a.eval x=.slice (some ⟨b,0,none⟩) 1 1) (hB:w.cell? ⟨b,0,none⟩=some (.string t))
    (hn:l.length<5864062014805) (hbase:base≤w.heap.size)
    (h:∀ v' w',un.OS w' base v' (l++[t])→Below base w w'→w.grownBy w' v.ownBlock→K (a.put o.dst v') w'):o.wp Tryz.prog a w K Q:=by
 obtain ⟨i,hi,hz0,hz1,hz2⟩:=info_parts un.Dx
 refine wp_append_own w s x 97 ho base 9 i (.string ByteArray.empty) 1 16 Tryz.underlying97 hi hz0 hz1 hz2 rfl (by decide) v l.length (l.map Value.string) hs hown ⟨b,0,none⟩ 1 1 [.string t] hx rfl ?_ (fun u hu=>by simp at hu;subst hu;rfl)
   (by unfold maxLen;omega) (by omega) hbase fun v' w' h1 h2 _=>h v' w' (by unfold un.OS;rw [List.map_append,List.length_append];exact h1) ((Below.refl base w).grown h2 hbase fun k hk=>(hown.lt k hk).1) h2
 intro j u hu
 match j,hu with
 | 0,hu=>simp at hu;subst hu;exact hB
 | j+1,hu=>simp at hu
theorem ER {w w':World} {v:Value} {b o:Nat} {cs:List Value} (h:w.rangeAt b o cs) (hg:w.grownBy w' v.ownBlock) (hne:v.ownBlock≠some b):w'.rangeAt b o cs:=fun j u hu=>hg.cell (h j u hu) (fun e=>hne e.symm)
theorem NI {w:World} {base:Nat} {v:Value} {l:List ByteArray} (h:un.OS w base v l):v.ownBlock≠some w.heap.size:=fun e=>by
 have:=(h.lt _ e).2
 omega
theorem Ml {w:World} {g:Nat} {T:TypeId} {cs:Array Value} (h:Blk w g T cs):w.rangeAt g 0 cs.toList:=fun j v hv=>by
 rw [Nat.zero_add,h.cell j]
 rw [Array.getElem?_toList] at hv
 exact hv
theorem rX (t:Tb) (a:Option Addr) (c:Nat) (w:World) (hs:t.sz) (hA:Fis w a t.fs.length c t.fs) (T:Tabq w):Calls Tryz.prog 20 #[.agg (tbC t a c)] w (Tx (txO (tbE t) (tbT t)) (tbE t) w):=by
 have bb:=aj (b0 w) (.cells (tbC t a c) 48);have B0:=Hy bb;have G:=Hy (Blk.new w 48 (tbC t a c));have C1:=Hy (En t a c _ hs (hA.keeps bb) (T.stays bb).t);have HA:=Hy (hA.keeps bb);have TQ:=Hy (T.stays bb);have HO:txO (tbE t) (tbT t)=txO (tbE t) (tbT t):=rfl
 conv at HO=>rhs;unfold txO
 replace HO:=Hy HO;have HZ:=Hy (fun (h:tbE t=0)=>qw h);have HW:=Hy (fun (h:tbE t=0)=>(MZ h).symm);have HL:=Hy (fun (h:tbE t=0)=>Ku h);clear bb hA T hs;generalize txO (tbE t) (tbT t)=s9 at *;generalize tbE t=ce at *;unfold tbC at *
 go_enter Tryz.func20,Tryz.ntmps20
 go_upto_region 1 with fail
 generalize hw0:(w.alloc (.cells #[.string t.nm,.string t.en,.slice a t.fs.length c,.int .i64 t.kp] 48))=w0 at *;clear hw0;have hgl:=Hy G.o.lt;go_wp2_with (refine aH Qy Tryz.underlying48 rfl (.tmp 1) rfl rfl _ _ _ rfl G.o rfl ?_);refine C1.o.mono ?_;rintro e w1 ⟨rfl,b1⟩;have B1:=Hy b1;clear b1 C1;by_cases h0:ce=0
 ·have q:(ce != 0)=false:=by rw [bne,dx h0];rfl
  have HS:=Hy (HO.o.trans (if_pos h0));obtain ⟨z1,z2,z3,z4,z5,z6⟩:=HZ.o h0;have HE:=Hy (HW.o h0);have hll:=Hy (HL.o h0);replace h0:=Hy h0;have N1:=Hy z1;have N2:=Hy z2;have N3:=Hy z3;have N4:=Hy z4;have N5:=Hy z5;have N6:=Hy z6;clear z1 z2 z3 z4 z5 z6 HZ HW HL;have g2:=(G.o.keeps B1.o).cell 2;simp only [sz2,sz3,sz4] at g2;go_wp2_with fail;clear g2
  go_loopw [4,16] (fun vu vi wr => ∃ j:Nat,vi=.int .i64 (j:Nat)∧Hid (j≤t.fs.length)∧Hid (un.OS wr w0.heap.size vu ((t.fs.take j).map fun f=>B8 (fiT f)))∧Hid (Below w0.heap.size w0 wr)) (fun _ vi _=>t.fs.length - (intOf vi).toNat)
  case atStart=>exact ⟨0,rfl,Hy zl,Hy (un.OS.nil _ _),B1⟩
  case round =>
   clear B1;obtain ⟨j,rfl,hj,hO,hb⟩:=hrel;by_cases hlt:j<t.fs.length
   ·have q1:decide ((j:Int)<(t.fs.length:Int))=true:=dT (by omega);have hov0:=NI hO.o;obtain ⟨bk,off,rfl,hC⟩:=HA.o.hat.resolve_left (by omega);obtain ⟨cs,hcs,R1,ua,uc,rfl,U1⟩:=hC j hlt;have hm:=List.getElem_mem hlt;have f4:=Hy (aV (j:=j) (by have:=N5.o;omega));have i1:(j:Int)<(t.fs.length:Int):=by omega
    have i2:j<t.fs.length:=hlt;have hfn:=Hy (N6.o _ hm);have htk:=Hy (show (t.fs.take (j+1)).map (fun f=>B8 (fiT f))=(t.fs.take j).map (fun f=>B8 (fiT f))++[B8 (fiT t.fs[j])] by rw [List.take_succ_eq_append_getElem hlt,List.map_append];rfl);have hl8:=Hy (show ((t.fs.take j).map fun f=>B8 (fiT f)).length<5864062014805 by have:=N5.o;simp;omega);clear hC hm hcs hj;replace R1:=Hy (aL R1 hb.o);replace U1:=Hy U1;generalize t.fs[j]=f at *;obtain ⟨m1,m2⟩:=hfn.o;have hz:=pR m1 m2;have hW:=OT m1 m2;have A1:=eG f.nm.data.toList [58] (by have:=dI m1;omega) (by decide);replace A1:∀ W,(Op.stringOp .add f.nm ⟨#[58]⟩).run Tryz.prog W=.ok (.string (B8 (f.nm.data.toList++[58]))) W:=A1;have CT:=Hy (fun (W:World) (b:Below w0.heap.size w0 W)=>xM f.ty ua uc W m2 (U1.o.keeps b) (TQ.o.stays b));have hzW:(wrd [B8 (f.nm.data.toList++[58]),B8 (tyT f.ty)]).length≤100000000:=by rw [hW];omega
    have CW:=Hy (fun (W:World) (a:Option Addr) (h:Ss W a 2 2 [B8 (f.nm.data.toList++[58]),B8 (tyT f.ty)])=>eZ a 2 2 _ W h (by decide) hzW);rw [hW] at CW;have N:=Hy (fun (W:World)=>Ss.new W [B8 (f.nm.data.toList++[58]),B8 (tyT f.ty)] 2 #[.string (B8 (f.nm.data.toList++[58])),.string (B8 (tyT f.ty))] rfl rfl (by decide) 9);clear hz hW hzW hfn m1 m2;generalize B8 (fiT f)=s3 at *;generalize B8 (f.nm.data.toList++[58])=s1 at *;generalize B8 (tyT f.ty)=s2 at *;unfold fiC tyC at *;go_wp2_with (first | (refine dh nH Tryz.underlying88 rfl (.tmp 18) rfl rfl bk (off+j * 4) #[.string f.nm,.int .i64 f.ty.k,.slice ua f.ty.un.length uc,.string f.ty.of] rfl R1.o rfl ?_) | (refine aB nH (.tmp 6) (.tmp 19) rfl rfl _ _ _ _ rfl rfl (Blk.new _ _ _) rfl rfl (by simp [Value.oneCell']) ?_;intro w5 L5 hs5;have bb5:=(aj (b0 wr) _).trans (hs5.below lr)));have b5:=Hy bb5;have L6:=Hy L5;have O5:=Hy (hO.o.keeps bb5);have D5:=Hy (hb.o.trans (bb5.mono hb.o.size));clear bb5 hs5 L5 hO R1;have hov:=Hy hov0;clear hov0;refine wp_region_held_drew (S:=fun w' => w'.rangeAt wr.heap.size 0 #[.string f.nm,.int .i64 f.ty.k,.slice ua f.ty.un.length uc,.string f.ty.of].toList∧Below w0.heap.size w0 w') (by kernel_rfl) ⟨Ml L6.o.drew,D5.o.drew⟩ (fun hH=>?_);replace O5:=Hy (os_drew O5.o);have hsz:=Hy (show wr.heap.size<w5.drew.heap.size from L6.o.lt);clear D5 b5;generalize w5.drew=y5 at *;refine ak 0 20 ?_ rfl (by kernel_rfl) rfl (fun _ _ _ h=>h) rfl hH (fun w' hS=>?_) ?_;rotate_left
    ·go_simp;try with_reducible rfl
    simp only [sz0,sz1];refine ak 1 21 ?_ rfl (by kernel_rfl) rfl (fun _ _ _ h=>h) rfl hH (fun w' hS=>?_) ?_;rotate_left
    ·go_simp;try with_reducible rfl
    simp only [sz0,sz1];refine ak 2 22 ?_ rfl (by kernel_rfl) rfl (fun _ _ _ h=>h) rfl hH (fun w' hS=>?_) ?_;rotate_left
    ·have e1:=(show w'.cell? ⟨wr.heap.size,0,none⟩=some (.string f.nm) from hS.1 0 _ rfl);go_simp;try with_reducible rfl
    simp only [sz0,sz1];refine ak 3 23 ?_ rfl (by kernel_rfl) rfl (fun _ _ _ h=>h) rfl hH (fun w' hS=>?_) ?_;rotate_left
    ·go_simp;try with_reducible rfl
    simp only [sz0,sz1];refine ak 4 24 ?_ rfl (by kernel_rfl) rfl (fun _ _ _ h=>h) rfl hH (fun w' hS=>?_) ?_;rotate_left
    ·go_simp;try with_reducible rfl
    simp only [sz0,sz1];refine ak 5 25 (.agg #[.int .i64 f.ty.k,.slice ua f.ty.un.length uc,.string f.ty.of]) rfl (by kernel_rfl) rfl (fun _ _ _ h=>h) rfl hH (fun w' hS=>eU pQ Tryz.underlying31 rfl (.tmp 24) rfl _ _ _ rfl (qg (hS.1 1 _ rfl) (hS.1 2 _ rfl) (hS.1 3 _ rfl)) rfl) ?_;simp only [sz0,sz1];refine av (i:=6) rfl (by kernel_rfl) rfl (fun K hK=>?_);go_simp;refine (CT.o _ hH.2).mono ?_;rintro e v1 ⟨rfl,c1⟩;refine hK.o _ _ ⟨aL hH.1 c1,au hH.2 c1⟩ (fun hH=>?_);clear hK K;replace O5:=Hy (O5.o.keeps c1);replace hsz:=Hy (Nat.lt_of_lt_of_le hsz.o c1.size);clear c1;refine av (i:=7) rfl (by kernel_rfl) rfl (fun K hK=>?_);go_simp;have hNN:=N.o v1;refine hK.o _ _ ⟨aL hH.1 (aj (b0 _) _),aj hH.2 _⟩ (fun hH=>?_);clear hK K;replace O5:=Hy (O5.o.keeps (aj (b0 _) (.cells #[.string s1,.string s2] 9)));replace hsz:=Hy (Nat.lt_of_lt_of_le hsz.o (aj (b0 v1) (.cells #[.string s1,.string s2] 9)).size);refine av (i:=8) rfl (by kernel_rfl) rfl (fun K hK=>?_);go_simp;refine (CW.o _ _ hNN).mono ?_;rintro e v2 ⟨rfl,c2⟩;refine hK.o _ _ ⟨aL hH.1 c2,au hH.2 c2⟩ (fun hH=>?_);clear hK K;replace O5:=Hy (O5.o.keeps c2);clear c2 hNN N CW CT hsz;refine av (i:=9) rfl (by kernel_rfl) rfl (fun K hK=>?_);go_simp;refine hK.o _ _ ⟨aL hH.1 (aj (b0 _) _),aj hH.2 _⟩ (fun hH=>?_);clear hK K;replace O5:=Hy (O5.o.keeps (aj (b0 _) (.cells #[.string s3] 9)));refine av (i:=10) rfl (by kernel_rfl) rfl (fun K hK=>?_);refine Fw (.tmp 20) (.tmp 29) rfl w0.heap.size _ _ rfl O5.o v2.heap.size s3 rfl (by simp [go_sem]) hl8.o hH.2.size ?_;intro v8 w8 O9 b9 g9;have O10:=Hy (show un.OS w8 w0.heap.size v8 ((t.fs.take (j+1)).map fun f=>B8 (fiT f)) by rw [htk.o];exact O9);have D10:=Hy (hH.2.trans b9);refine hK.o _ _ ⟨ER hH.1 g9 hov.o,D10.o⟩ (fun hH=>?_);clear hK K O9 b9 g9;refine ak 11 4 ?_ rfl (by kernel_rfl) rfl (fun _ _ _ h=>h) rfl hH (fun w' hS=>?_) ?_;rotate_left
    ·go_simp;try with_reducible rfl
    simp only [sz0,sz1];clear hH;refine wpAnyH_done (by kernel_rfl) ?_ _;go_wp2_with fail;exact ⟨⟨j+1,congrArg (Value.int .i64) f4.o,Hy hlt,O10,D10⟩,aX hlt f4.o⟩
   have q1:decide ((j:Int)<(t.fs.length:Int))=false:=dF (by omega);have hO2:=hO.o;rw [show t.fs.take j=t.fs from List.take_of_length_le (by omega)] at hO2;have OO:=Hy hO2;have GG:=Hy (G.o.keeps hb.o);have TR:=Hy (TQ.o.stays hb.o).t;have BW:=Hy (au B0.o hb.o);clear hO hO2 hj G TQ HA;have hil:=gV t.kp N3.o (by have:=N4.o;omega);have hmap:((t.fs.map fun f=>B8 (fiT f)).map (·.data.toList))=t.fs.map fiT:=by rw [List.map_map];rfl
   have hfl:=Gh t.fs N5.o N6.o;have CJ:=Hy (fun (v:Value) (base:Nat) (W:World) (h:un.OS W base v (t.fs.map fun f=>B8 (fiT f)))=>qK ⟨#[44,32]⟩ v _ base W h (by have:=N5.o;simp;omega) (by rw [hmap];exact Nat.le_trans hfl (by omega)));rw [hmap] at CJ;rw [show (Lib.join (t.fs.map fiT) (⟨#[44,32]⟩:ByteArray).data.toList)=Lib.join (t.fs.map fiT) [44,32] from rfl] at CJ;have CI:=Hy (fun (W:World) (T:Tabs W)=>oO t.kp N3.o (by have:=N4.o;omega) W T);have hWK:wrd [⟨#[107,101,101,112]⟩,B8 (Lib.itoa t.kp)]=[107,101,101,112,32]++Lib.itoa t.kp:=by rw [cK _ (fun e=>absurd (congrArg (fun b:ByteArray=>b.size) e) (by decide)),tail_cons _ _ (dZ (uJ _)),tail_nil,List.append_nil,cO];rfl
   have hzK:(wrd [⟨#[107,101,101,112]⟩,B8 (Lib.itoa t.kp)]).length≤100000000:=by rw [hWK];simp;omega
   have CK:=Hy (fun (W:World) (a:Option Addr) (h:Ss W a 2 2 [⟨#[107,101,101,112]⟩,B8 (Lib.itoa t.kp)])=>eZ a 2 2 _ W h (by decide) hzK);rw [hWK] at CK;have NK:=Hy (fun (W:World)=>Ss.new W [⟨#[107,101,101,112]⟩,B8 (Lib.itoa t.kp)] 2 #[.string ⟨#[107,101,101,112]⟩,.string (B8 (Lib.itoa t.kp))] rfl rfl (by decide) 9);obtain ⟨WL,hWL⟩:∃ WL,WL=[⟨#[116,97,98,108,101]⟩,t.nm,⟨#[111,102]⟩,t.en,⟨#[123]⟩,B8 (Lib.join (t.fs.map fiT) [44,32]),⟨#[125]⟩,B8 (kpT t.kp)]:=⟨_,rfl⟩;have hE:=HE.o;rw [← hWL] at hE;have hwl:(wrd WL).length≤4000:=by have:=hll.o;rw [hE,List.length_append] at this;omega
   have CW:=Hy (fun (W:World) (a:Option Addr) (h:Ss W a 8 8 WL)=>eZ a 8 8 _ W h (by decide) (by omega));have NW:=Hy (fun (W:World)=>Ss.new W [⟨#[116,97,98,108,101]⟩,t.nm,⟨#[111,102]⟩,t.en,⟨#[123]⟩,B8 (Lib.join (t.fs.map fiT) [44,32]),⟨#[125]⟩,B8 (kpT t.kp)] 8 #[.string ⟨#[116,97,98,108,101]⟩,.string t.nm,.string ⟨#[111,102]⟩,.string t.en,.string ⟨#[123]⟩,.string (B8 (Lib.join (t.fs.map fiT) [44,32])),.string ⟨#[125]⟩,.string (B8 (kpT t.kp))] rfl rfl (by decide) 9);rw [← hWL] at NW;have A9:=eG (wrd WL) [59] (by omega) (by decide);rw [← hE] at A9;replace A9:∀ W,(Op.stringOp .add (B8 (wrd WL)) ⟨#[59]⟩).run Tryz.prog W=.ok (.string (B8 (tbT t))) W:=A9;have hkp:=Hy (show B8 (kpT t.kp)=if t.kp=0 then .empty else B8 ([107,101,101,112,32]++Lib.itoa t.kp) by unfold kpT;split <;> rfl);clear hil hmap hfl hWK hzK hWL hE hwl HE hll N1 N2 N3 N4 N5 N6;generalize B8 (Lib.join (t.fs.map fiT) [44,32])=sj at *;generalize B8 (kpT t.kp)=sk at *;generalize B8 (Lib.itoa t.kp)=si at *;generalize B8 ([107,101,101,112,32]++Lib.itoa t.kp)=sx at *;generalize B8 (wrd WL)=sw at *;generalize B8 (tbT t)=st at *;have g3:=GG.o.cell 3;simp only [sz2,sz3,sz4] at g3;obtain ⟨bq,hbq⟩:∃ bq:Bool,bq = !decide (t.kp=0):=⟨_,rfl⟩;have q2:(t.kp != 0)=bq:=by rw [hbq,bne,eqI]
   replace hbq:=Hy hbq
   go_upto_if 34 with fail
   clear g3
   go_cut [7] from 35 to 39 (fun v wx=>v=.string sk∧Hid (Below wr.heap.size wr wx))
   case first =>
    cases bq
    ·have h2:t.kp=0:=by have:=hbq.o;simpa using this
     have hc:=Hy (hkp.o.trans (if_pos h2));clear hbq;replace h2:=Hy h2;go_wp2_with fail
     go_meet
     case rel=>exact ⟨by rw [hc.o];rfl,Hy (b0 wr)⟩
    have h2:t.kp≠0:=by have:=hbq.o;simpa using this
    have hc:=Hy (hkp.o.trans (if_neg h2));clear hbq;replace h2:=Hy h2;have g3:=GG.o.cell 3;simp only [sz2,sz3,sz4] at g3;go_wp2_with fail;refine (CI.o _ TR.o).mono ?_;rintro e w3 ⟨rfl,b3⟩;have B3:=Hy b3;clear b3 g3;go_wp2_with fail;refine (CK.o _ _ (NK.o _)).mono ?_;rintro e w4 ⟨rfl,b4⟩;have B4:=Hy (au (aj B3.o _) b4);clear b4;go_wp2_with fail
    go_meet
    case rel=>exact ⟨by rw [hc.o],B4⟩
   case rest =>
    obtain ⟨rfl,b5⟩:=hcut;have B5:=Hy (au BW.o b5.o);have G5:=Hy (GG.o.keeps b5.o);have O5:=Hy (OO.o.keeps b5.o);clear b5 GG OO BW CI CK NK TR hkp hbq
    go_upto_region 13 with fail
    refine wp_region_held_drew (S:=fun w' => Blk w' w.heap.size 48 #[.string t.nm,.string t.en,.slice a t.fs.length c,.int .i64 t.kp]∧Below w.heap.size w w') (by kernel_rfl) ⟨G5.o.drew,B5.o.drew⟩ (fun hH=>?_);replace O5:=Hy (os_drew O5.o);clear G5 B5;generalize World.drew _=y5 at *;refine ak 0 40 ?_ rfl (by kernel_rfl) rfl (fun _ _ _ h=>h) rfl hH (fun w' hS=>?_) ?_;rotate_left
    ·go_simp;try with_reducible rfl
    simp only [sz0,sz1];refine ak 1 41 ?_ rfl (by kernel_rfl) rfl (fun _ _ _ h=>h) rfl hH (fun w' hS=>?_) ?_;rotate_left
    ·have e1:=hS.1.cell 0;simp only [sz2,sz3] at e1;go_simp;try with_reducible rfl
    simp only [sz0,sz1];refine ak 2 42 ?_ rfl (by kernel_rfl) rfl (fun _ _ _ h=>h) rfl hH (fun w' hS=>?_) ?_;rotate_left
    ·go_simp;try with_reducible rfl
    simp only [sz0,sz1];refine ak 3 43 ?_ rfl (by kernel_rfl) rfl (fun _ _ _ h=>h) rfl hH (fun w' hS=>?_) ?_;rotate_left
    ·have e1:=hS.1.cell 1;simp only [sz2,sz3,sz4] at e1;go_simp;try with_reducible rfl
    simp only [sz0,sz1];refine ak 4 44 ?_ rfl (by kernel_rfl) rfl (fun _ _ _ h=>h) rfl hH (fun w' hS=>?_) ?_;rotate_left
    ·go_simp;try with_reducible rfl
    simp only [sz0,sz1];refine ak 6 46 ?_ rfl (by kernel_rfl) rfl (fun _ _ _ h=>h) rfl hH (fun w' hS=>?_) ?_;rotate_left
    ·go_simp;try with_reducible rfl
    simp only [sz0,sz1];refine av (i:=5) rfl (by kernel_rfl) rfl (fun K hK=>?_);go_simp;refine (CJ.o _ _ _ O5.o).mono ?_;rintro e v1 ⟨rfl,c1⟩;refine hK.o _ _ ⟨hH.1.keeps c1,au hH.2 c1⟩ (fun hH=>?_);clear hK K c1 O5 CJ;refine av (i:=7) rfl (by kernel_rfl) rfl (fun K hK=>?_);go_simp;have hNN:=NW.o v1;refine hK.o _ _ ⟨hH.1.keeps (aj (b0 _) _),aj hH.2 _⟩ (fun hH=>?_);clear hK K;refine av (i:=8) rfl (by kernel_rfl) rfl (fun K hK=>?_);go_simp;refine (CW.o _ _ hNN).mono ?_;rintro e v2 ⟨rfl,c2⟩;refine hK.o _ _ ⟨hH.1.keeps c2,au hH.2 c2⟩ (fun hH=>?_);clear hK K c2 hNN NW CW;refine ak 9 49 ?_ rfl (by kernel_rfl) rfl (fun _ _ _ h=>h) rfl hH (fun w' hS=>?_) ?_;rotate_left
    ·go_simp;try with_reducible rfl
    simp only [sz0,sz1];refine ak 10 2 ?_ rfl (by kernel_rfl) rfl (fun _ _ _ h=>h) rfl hH (fun w' hS=>?_) ?_;rotate_left
    ·go_simp;try with_reducible rfl
    simp only [sz0,sz1];refine ak 11 3 ?_ rfl (by kernel_rfl) rfl (fun _ _ _ h=>h) rfl hH (fun w' hS=>?_) ?_;rotate_left
    ·go_simp;try with_reducible rfl
    simp only [sz0,sz1];have B9:=Hy hH.2;clear hH;refine wpAnyH_done (by kernel_rfl) ?_ _;go_wp2_with fail
    go_ret2
    exact wT HS.o.symm h0.o.symm B9.o
 have q:(ce != 0)=true:=by rw [bne,bW h0];rfl
 have HS:=Hy (HO.o.trans (if_neg h0));replace h0:=Hy h0;go_wp2_with fail
 go_ret2
 exact wT HS.o.symm rfl (au B0.o B1.o)
def Bx (P:Prop) (w:World) (e:Ending) (w':World):Prop:=∃ b:Bool,e=.returned (.bool b)∧(b=true→P)∧Below w.heap.size w w'
def ExR (x:Ex) (w:World) (e:Ending) (w':World):Prop:=∃ cs,e=.returned (.agg cs)∧ExV w' cs x∧Below w.heap.size w w'
theorem rW {fn:Func} {R:Ending→World→Prop} {p:Tmp} (h:fn.results=#[.cell p 29]) (tmps:Array Value) (w:World) (g:Nat) (T':TypeId) (cells:Array Value) (hp:tmps.getD p undef=.pointer (some ⟨g,0,none⟩))
  (hB:Blk w g T' cells) (hc:cells.size=12) (hR:R (.returned (.agg cells)) w):bodyPost Tryz.prog fn R .ret ⟨tmps,[]⟩ w:=bG aF Tryz.underlying29 rfl h tmps w g T' cells hp hB hc hR
def cu (n:ByteArray):Ex:=⟨{ h0 with k:=3,nm:=n },.nil⟩
def jI (op:ByteArray) (x y:Ex):Ex:=⟨{ h0 with k:=7,op:=op },.cons x.h x.ar (.cons y.h y.ar .nil)⟩
def fJ (n:ByteArray):Ex:=⟨{ h0 with k:=2,nm:=n },.nil⟩
def qH (op:ByteArray) (x:Ex):Ex:=⟨{ h0 with k:=6,op:=op },.cons x.h x.ar .nil⟩
def iK:Ex:=⟨{ h0 with k:=1,vk:=1,vn:=1 },.nil⟩
def DR (k:Int):List un.Fa:=[(⟨#[101,117,114]⟩,k)]
theorem qQ (w:World) (h:Hd) (hu:h.un=[]):ExV w (exC h 0 none 0 none 0) ⟨h,.nil⟩:=⟨none,0,none,0,by simp [exC,hu,Fo.len],by rw [hu];exact .nil _,Fs.nil _⟩
theorem j6 {w:World} {g:Nat} {T:TypeId} {cs:Array Value} {L:List Value} (h:Blk w g T cs) (hc:cs.toList=L) (o:Nat) (l:List Value) (hl:(L.drop o).take l.length=l):w.rangeAt g o l:=kE h o l (by rw [hc];exact hl)
theorem sP {w:World} {g:Nat} {T:TypeId} {cs:Array Value} {x y:Ex} {ua aa ub ab:Option Addr} {uc ac ud ad:Nat} (hx:Ec w x ua uc aa ac) (hy:Ec w y ub ud ab ad) (hB:Blk w g T cs) (hc:cs.toList=(exC x.h x.ar.len ua uc aa ac).toList++(exC y.h y.ar.len ub ud ab ad).toList) :
    Fs w (some ⟨g,0,none⟩) 2 2 (.cons x.h x.ar (.cons y.h y.ar .nil)):=by
 have h1:w.rangeAt g 0 (exC x.h x.ar.len ua uc aa ac).toList:=j6 hB hc 0 _ (by rw [List.drop_zero];exact List.take_left);have h2:w.rangeAt g (0+12) (exC y.h y.ar.len ub ud ab ad).toList:=j6 hB hc 12 _ (by rw [show (12:Nat)=(exC x.h x.ar.len ua uc aa ac).toList.length from rfl,List.drop_left,List.take_length]);refine ⟨.inr ⟨g,0,rfl,?_⟩,rfl,Nat.zero_le _,by decide,trivial⟩;unfold FoV;refine ⟨⟨ua,uc,aa,ac,h1,hx.us,⟨hx.ar.hcap,hx.ar.hmax,hx.ar.hno⟩,hx.ar.hat⟩,?_⟩;unfold FoV;refine ⟨⟨ub,ud,ab,ad,h2,hy.us,⟨hy.ar.hcap,hy.ar.hmax,hy.ar.hno⟩,hy.ar.hat⟩,?_⟩;unfold FoV;trivial
theorem Gg {w:World} {g:Nat} {T:TypeId} {cs:Array Value} {x:Ex} {ua aa:Option Addr} {uc ac:Nat} (hx:Ec w x ua uc aa ac) (hB:Blk w g T cs) (hc:cs.toList=(exC x.h x.ar.len ua uc aa ac).toList) :
    Fs w (some ⟨g,0,none⟩) 1 1 (.cons x.h x.ar .nil):=by
 have h1:w.rangeAt g 0 (exC x.h x.ar.len ua uc aa ac).toList:=j6 hB hc 0 _ (by rw [List.drop_zero];exact List.take_length);refine ⟨.inr ⟨g,0,rfl,?_⟩,rfl,Nat.zero_le _,by decide,trivial⟩;unfold FoV;refine ⟨⟨ua,uc,aa,ac,h1,hx.us,⟨hx.ar.hcap,hx.ar.hmax,hx.ar.hno⟩,hx.ar.hat⟩,?_⟩;unfold FoV;trivial
theorem Jq {w:World} {g:Nat} {T:TypeId} {cs:Array Value} {x y z:Ex} {ua aa ub ab ue ae:Option Addr} {uc ac ud ad uf af:Nat} (hx:Ec w x ua uc aa ac) (hy:Ec w y ub ud ab ad) (hz:Ec w z ue uf ae af) (hB:Blk w g T cs) (hc:cs.toList=(exC x.h x.ar.len ua uc aa ac).toList++((exC y.h y.ar.len ub ud ab ad).toList++(exC z.h z.ar.len ue uf ae af).toList)) :
    Fs w (some ⟨g,0,none⟩) 3 3 (.cons x.h x.ar (.cons y.h y.ar (.cons z.h z.ar .nil))):=by
 have h1:w.rangeAt g 0 (exC x.h x.ar.len ua uc aa ac).toList:=j6 hB hc 0 _ (by rw [List.drop_zero];exact List.take_left);have h2:w.rangeAt g (0+12) (exC y.h y.ar.len ub ud ab ad).toList:=j6 hB hc 12 _ (by rw [show (12:Nat)=(exC x.h x.ar.len ua uc aa ac).toList.length from rfl,List.drop_left];exact List.take_left);have h3:w.rangeAt g (0+12+12) (exC z.h z.ar.len ue uf ae af).toList:=j6 hB hc 24 _ (by rw [← List.append_assoc,show (24:Nat)=((exC x.h x.ar.len ua uc aa ac).toList++(exC y.h y.ar.len ub ud ab ad).toList).length from rfl,List.drop_left,List.take_length]);refine ⟨.inr ⟨g,0,rfl,?_⟩,rfl,Nat.zero_le _,by decide,trivial⟩;unfold FoV;refine ⟨⟨ua,uc,aa,ac,h1,hx.us,⟨hx.ar.hcap,hx.ar.hmax,hx.ar.hno⟩,hx.ar.hat⟩,?_⟩;unfold FoV;refine ⟨⟨ub,ud,ab,ad,h2,hy.us,⟨hy.ar.hcap,hy.ar.hmax,hy.ar.hno⟩,hy.ar.hat⟩,?_⟩;unfold FoV;refine ⟨⟨ue,uf,ae,af,h3,hz.us,⟨hz.ar.hcap,hz.ar.hmax,hz.ar.hno⟩,hz.ar.hat⟩,?_⟩;unfold FoV;trivial
theorem Et {w:World} {g:Nat} {T:TypeId} {n:ByteArray} {k:Int} (hB:Blk w g T #[.string n,.int .i64 k]):un.Sl w (some ⟨g,0,none⟩) 1 1 [(n,k)] :=
 ⟨.inr ⟨g,0,rfl,fun j hj=>by
  have:j=0:=by simpa using hj
  subst this
  exact ⟨hB.cell 0,hB.cell 1⟩⟩,rfl,Nat.zero_le _,by decide,trivial⟩
theorem Nn {α:Type} {sz:Nat} {V:World→Array Value→α→Prop} {w:World} {g:Nat} {T:TypeId} {cs c1 c2:Array Value} {x y:α} (hB:Blk w g T cs) (hc:cs.toList=c1.toList++c2.toList) (h1:c1.size=sz) (h2:c2.size=sz) (V1:V w c1 x) (V2:V w c2 y):Rw sz V w (some ⟨g,0,none⟩) 2 2 [x,y] :=
 ⟨.inr ⟨g,0,rfl,fun j hj=>by
  have hl:c1.toList.length=sz:=by rw [Array.length_toList,h1]
  have hj2:j<2:=hj
  rcases Nat.lt_or_ge j 1 with h | h
  ·obtain rfl:j=0:=by omega
   exact ⟨c1,h1,by rw [Nat.zero_mul];exact j6 hB hc 0 _ (by rw [List.drop_zero];exact List.take_left),V1⟩
  ·obtain rfl:j=1:=by omega
   exact ⟨c2,h2,by rw [Nat.one_mul,Nat.zero_add];exact j6 hB hc sz _ (by rw [← hl,List.drop_left,List.take_length]),V2⟩⟩,rfl,Nat.le_refl _,by decide,fun e=>by cases e⟩
theorem jH (w:World) (T:TypeId) (cs:Array Value) (g:Nat) (h:g=w.heap.size):Blk (w.alloc (.cells cs T)) g T cs:=h ▸ Blk.new w T cs
theorem gY (w:World) (o:Obj):(w.alloc o).heap.size=w.heap.size+1:=by simp
theorem Oe (n:ByteArray) (w:World):Calls Tryz.prog 44 #[.string n] w (ExR (cu n) w):=by
 go_enter Tryz.func44,Tryz.ntmps44
 go_wp2_with fail;exact rW Tryz.results44 _ _ _ _ (exC (cu n).h 0 none 0 none 0) rfl (Blk.new _ _ _) rfl ⟨_,rfl,qQ _ _ rfl,aj (b0 w) _⟩
theorem LY (n:ByteArray) (w:World):Calls Tryz.prog 49 #[.string n] w (ExR (fJ n) w):=by
 go_enter Tryz.func49,Tryz.ntmps49
 go_wp2_with fail;exact rW Tryz.results49 _ _ _ _ (exC (fJ n).h 0 none 0 none 0) rfl (Blk.new _ _ _) rfl ⟨_,rfl,qQ _ _ rfl,aj (b0 w) _⟩
theorem MU (w:World):Calls Tryz.prog 48 #[] w (ExR iK w):=by
 go_enter Tryz.func48,Tryz.ntmps48
 go_wp2_with fail;exact rW Tryz.results48 _ _ _ _ (exC iK.h 0 none 0 none 0) rfl (Blk.new _ _ _) rfl ⟨_,rfl,qQ _ _ rfl,aj (b0 w) _⟩
theorem PD (op:ByteArray) (x y:Ex) (cs ds:Array Value) (w:World) (hx:ExV w cs x) (hy:ExV w ds y):Calls Tryz.prog 46 #[.string op,.agg cs,.agg ds] w (ExR (jI op x y) w):=by
 obtain ⟨ua,uc,aa,ac,rfl,E1⟩:=hx;obtain ⟨ub,ud,ab,ad,rfl,E2⟩:=hy;have HE1:=Hy E1;have HE2:=Hy E2;clear E1 E2;unfold exC
 go_enter Tryz.func46,Tryz.ntmps46
 go_wp2_with fail;have X1:=HE1.o;have X2:=HE2.o;have hb:=aj (aj (aj (aj (b0 w) (.cells (exC x.h x.ar.len ua uc aa ac) 29)) (.cells (exC y.h y.ar.len ub ud ab ad) 29)) (.cells (exC (jI op x y).h 2 none 0 (some ⟨w.heap.size+1+1+1,0,none⟩) 2) 29)) (.cells ((exC x.h x.ar.len ua uc aa ac)++(exC y.h y.ar.len ub ud ab ad)) 29);refine rW Tryz.results46 _ _ (w.heap.size+1+1) _ (exC (jI op x y).h 2 none 0 (some ⟨w.heap.size+1+1+1,0,none⟩) 2) rfl ((jH _ _ _ _ (by rw [gY,gY])).past _) rfl ⟨_,rfl,⟨none,0,some ⟨w.heap.size+1+1+1,0,none⟩,2,rfl,.nil _,?_⟩,hb⟩;exact sP (X1.keeps hb) (X2.keeps hb) (jH _ _ _ _ (by rw [gY,gY,gY])) rfl
theorem Qe (op:ByteArray) (x:Ex) (cs:Array Value) (w:World) (hx:ExV w cs x):Calls Tryz.prog 47 #[.string op,.agg cs] w (ExR (qH op x) w):=by
 obtain ⟨ua,uc,aa,ac,rfl,E1⟩:=hx;have HE1:=Hy E1;clear E1;unfold exC
 go_enter Tryz.func47,Tryz.ntmps47
 go_wp2_with fail;have X1:=HE1.o;have hb:=aj (aj (aj (b0 w) (.cells (exC x.h x.ar.len ua uc aa ac) 29)) (.cells (exC (qH op x).h 1 none 0 (some ⟨w.heap.size+1+1,0,none⟩) 1) 29)) (.cells (exC x.h x.ar.len ua uc aa ac) 29);refine rW Tryz.results47 _ _ (w.heap.size+1) _ (exC (qH op x).h 1 none 0 (some ⟨w.heap.size+1+1,0,none⟩) 1) rfl ((jH _ _ _ _ (by rw [gY])).past _) rfl ⟨_,rfl,⟨none,0,some ⟨w.heap.size+1+1,0,none⟩,1,rfl,.nil _,?_⟩,hb⟩;exact Gg (X1.keeps hb) (jH _ _ _ _ (by rw [gY,gY])) rfl
theorem gD (x:Ex) (t:ByteArray) (cs:Array Value) (w:World) (hE:ExV w cs x) (hs:x.szs) (hz:x.ar.sz≤3000) (h0:shE x=0) (ht:B8 (txE x)=t) (T:Tabq w):Calls Tryz.prog 45 #[.agg cs,.string t] w (Bl true w):=by
 obtain ⟨ua,uc,aa,ac,rfl,E1⟩:=hE;have bb:=aj (b0 w) (.cells (exC x.h x.ar.len ua uc aa ac) 29);have BB:=Hy bb;have G:=Hy (Blk.new w 29 (exC x.h x.ar.len ua uc aa ac));have C:=oD x ua aa uc ac _ hs hz (E1.keeps bb) (T.stays bb);rw [h0,txO,if_pos rfl,ht] at C;replace C:=Hy C;clear bb E1 T ht;unfold exC at *
 go_enter Tryz.func45,Tryz.ntmps45
 go_wp2_with (refine aH aF Tryz.underlying29 rfl (.tmp 2) rfl rfl _ _ _ rfl G.o rfl ?_);refine C.o.mono ?_;rintro e w1 ⟨rfl,b1⟩;have B1:=Hy (au BB.o b1);clear b1 C;go_wp2_with fail;go_ret;exact ⟨rfl,B1.o⟩
def nO:Ex:=⟨{ h0 with k:=1,vk:=2,vn:=2,un:=DR 1 },.nil⟩
def oZ:Ex:=⟨{ h0 with k:=8 },.cons (cu ⟨#[97]⟩).h .nil (.cons (cu ⟨#[98]⟩).h .nil (.cons (cu ⟨#[99]⟩).h .nil .nil))⟩
def xA:Ex:=⟨{ h0 with k:=1,vk:=2 },.nil⟩
def oM:Ex:=⟨{ h0 with k:=1,nm:=⟨#[115,104,111,112]⟩,vk:=5,vs:=⟨#[115,49]⟩ },.nil⟩
def qW:Ex:=⟨{ h0 with k:=9 },.cons oZ.h oZ.ar (.cons xA.h .nil .nil)⟩
def qJ:Ex:=⟨{ h0 with k:=4,nm:=⟨#[114,97,110,107]⟩ },.cons oM.h .nil .nil⟩
def lU:Ex:=⟨{ h0 with k:=5,op:=⟨#[99,111,117,110,116]⟩,tb:=⟨#[99,108,105,99,107,115]⟩,wk:=1 },.cons iK.h .nil (.cons iK.h .nil .nil)⟩
def lN:Ex:=⟨{ h0 with k:=5,op:=⟨#[113,117,97,110,116,105,108,101]⟩,tb:=⟨#[99,97,108,108,115]⟩,pa:=950,wk:=2,ws:=60 },.cons (fJ ⟨#[109,115]⟩).h .nil (.cons (fJ ⟨#[111,107]⟩).h .nil .nil)⟩
def t1X:Tb:=⟨⟨#[116]⟩,⟨#[117,115,101,114]⟩,[⟨⟨#[120]⟩,⟨3,DR 1,.empty⟩⟩,⟨⟨#[121]⟩,⟨1,[],.empty⟩⟩],9⟩
def t2X:Tb:=⟨⟨#[116]⟩,⟨#[117,115,101,114]⟩,[],0⟩
def p1X:Ex:=jI ⟨#[43]⟩ (cu ⟨#[97]⟩) (jI ⟨#[42]⟩ (cu ⟨#[98]⟩) nO)
def p2X:Ex:=jI ⟨#[42]⟩ (jI ⟨#[43]⟩ (cu ⟨#[97]⟩) (cu ⟨#[98]⟩)) (cu ⟨#[99]⟩)
def p3X:Ex:=qH ⟨#[45]⟩ (qH ⟨#[45]⟩ (cu ⟨#[97]⟩))
def p4X:Ex:=jI ⟨#[45]⟩ (cu ⟨#[97]⟩) (jI ⟨#[45]⟩ (cu ⟨#[98]⟩) (cu ⟨#[99]⟩))
def p5X:Ex:=qH ⟨#[110,111,116]⟩ (jI ⟨#[61,61]⟩ (cu ⟨#[97]⟩) (cu ⟨#[98]⟩))
theorem e1:shE p1X=0:=by kernel_rfl
theorem e2:shE p2X=0:=by kernel_rfl
theorem e3:shE p3X=0:=by kernel_rfl
theorem e4:shE p4X=0:=by kernel_rfl
theorem e5:shE p5X=0:=by kernel_rfl
theorem e6:shE qW=0:=by kernel_rfl
theorem e7:shE qJ=0:=by kernel_rfl
theorem e8:shE lU=0:=by kernel_rfl
theorem e9:shE lN=0:=by kernel_rfl
theorem e10:tbE t1X=0:=by kernel_rfl
theorem e11:tbE t2X=0:=by kernel_rfl
theorem e12:shE (fJ ⟨#[120]⟩)=3:=by kernel_rfl
theorem x1:B8 (txE p1X)=⟨#[97,32,43,32,98,32,42,32,50,32,91,101,117,114,93]⟩:=by kernel_rfl
theorem x2:B8 (txE p2X)=⟨#[40,97,32,43,32,98,41,32,42,32,99]⟩:=by kernel_rfl
theorem x3:B8 (txE p3X)=⟨#[45,45,97]⟩:=by kernel_rfl
theorem x4:B8 (txE p4X)=⟨#[97,32,45,32,40,98,32,45,32,99,41]⟩:=by kernel_rfl
theorem x5:B8 (txE p5X)=⟨#[110,111,116,32,97,32,61,61,32,98]⟩:=by kernel_rfl
theorem x6:B8 (txE qW)=⟨#[40,105,102,32,97,32,116,104,101,110,32,98,32,101,108,115,101,32,99,41,32,100,101,102,97,117,108,116,32,48]⟩:=by kernel_rfl
theorem x7:B8 (txE qJ)=⟨#[114,97,110,107,32,111,102,32,40,64,115,104,111,112,32,34,115,49,34,41]⟩:=by kernel_rfl
theorem x8:B8 (txE lU)=⟨#[99,111,117,110,116,40,99,108,105,99,107,115,44,32,97,108,108,41]⟩:=by kernel_rfl
theorem x9:B8 (txE lN)=⟨#[113,117,97,110,116,105,108,101,40,99,97,108,108,115,44,32,109,115,44,32,57,53,48,44,32,115,108,105,100,105,110,103,32,54,48,32,119,104,101,114,101,32,111,107,41]⟩:=by kernel_rfl
theorem x10:B8 (tbT t1X)=⟨#[116,97,98,108,101,32,116,32,111,102,32,117,115,101,114,32,123,32,120,58,32,100,101,99,32,91,101,117,114,93,44,32,121,58,32,98,111,111,108,32,125,32,107,101,101,112,32,57,59]⟩:=by kernel_rfl
theorem x11:B8 (tbT t2X)=⟨#[116,97,98,108,101,32,116,32,111,102,32,117,115,101,114,32,123,32,125,59]⟩:=by kernel_rfl
def hdB (h:Hd):Bool:=decide (h.op.size≤140737488355328) && decide (h.nm.size≤140737488355328) && decide (h.tb.size≤140737488355328) && decide (h.vs.size≤140737488355328)
def foB:Fo→Bool
 | .nil=>true
 | .cons h ar r=>hdB h && (foB ar && foB r)
def exB (x:Ex):Bool:=hdB x.h && foB x.ar
theorem Gc {h:Hd} (e:hdB h=true):h.sz:=by
 unfold hdB at e;simp only [Bool.and_eq_true,decide_eq_true_eq] at e;exact ⟨e.1.1.1,e.1.1.2,e.1.2,e.2⟩
theorem zo:∀ (F:Fo),foB F=true→F.szs
 | .nil,_=>trivial
 | .cons h ar r,e=>by
  unfold foB at e
  rw [Bool.and_eq_true,Bool.and_eq_true] at e
  have a:=Gc e.1
  have b:=zo ar e.2.1
  have c:=zo r e.2.2
  exact ⟨a,b,c⟩
theorem iO {x:Ex} (e:exB x=true):x.szs:=by
 unfold exB at e;rw [Bool.and_eq_true] at e;have a:=Gc e.1;have b:=zo x.ar e.2;exact ⟨a,b⟩
theorem s1:p1X.szs:=iO (by kernel_rfl)
theorem s2:p2X.szs:=iO (by kernel_rfl)
theorem s3:p3X.szs:=iO (by kernel_rfl)
theorem s4:p4X.szs:=iO (by kernel_rfl)
theorem s5:p5X.szs:=iO (by kernel_rfl)
theorem s6:qW.szs:=iO (by kernel_rfl)
theorem s7:qJ.szs:=iO (by kernel_rfl)
theorem s8:lU.szs:=iO (by kernel_rfl)
theorem s9:lN.szs:=iO (by kernel_rfl)
theorem s10:(fJ ⟨#[120]⟩).szs:=iO (by kernel_rfl)
theorem z1:p1X.ar.sz≤3000:=by decide
theorem z2:p2X.ar.sz≤3000:=by decide
theorem z3:p3X.ar.sz≤3000:=by decide
theorem z4:p4X.ar.sz≤3000:=by decide
theorem z5:p5X.ar.sz≤3000:=by decide
theorem z6:qW.ar.sz≤3000:=by decide
theorem z7:qJ.ar.sz≤3000:=by decide
theorem z8:lU.ar.sz≤3000:=by decide
theorem z9:lN.ar.sz≤3000:=by decide
theorem z10:(fJ ⟨#[120]⟩).ar.sz≤3000:=by decide
theorem ExV.size {w:World} {cs:Array Value} {x:Ex} (h:ExV w cs x):cs.size=12:=by
 obtain ⟨_,_,_,_,rfl,_⟩:=h;rfl
theorem kI {ops:Array Oper} {rest:List Oper} {o:Oper} {a:Act} {w v:World} {Q:Exit→Act→World→Prop} (x y:Operand) (ho:o.op=.store 29 x y) (hgd:o.guard=none)
    (g:Nat) (T':TypeId) (cells old:Array Value) (X:Ex) (hx:a.eval x=.pointer (some ⟨g,0,none⟩)) (hy:a.eval y=.agg cells) (hE:ExV v cells X) (hB:Blk w g T' old) (hs:old.size=12)
    (h:∀ w',Blk w' g T' cells→St g w w'→wpList Tryz.prog ops Q rest (a.put o.dst undef) w'):wpList Tryz.prog ops Q (o :: rest) a w:=by
 obtain ⟨_,_,_,_,rfl,_⟩:=hE;exact aB aF x y ho hgd g T' _ old hx hy hB hs rfl (by simp [exC,Value.oneCell']) h
theorem iT {P:Program} {c:Code} {Q:Exit→Act→World→Prop} {a:Act} {w:World} (W:World) (h:W=w) (k:c.wp P Q a W):c.wp P Q a w:=h ▸ k
def c3 (ua aa ub ab ue ae:Option Addr) (uc ac ud ad uf af:Nat):Array Value:=((exC (cu ⟨#[97]⟩).h 0 ua uc aa ac).toList++((exC (cu ⟨#[98]⟩).h 0 ub ud ab ad).toList++(exC (cu ⟨#[99]⟩).h 0 ue uf ae af).toList)).toArray
theorem Pg {w:World} {g:Nat} {T:TypeId} {ua aa ub ab ue ae:Option Addr} {uc ac ud ad uf af:Nat} (hx:Ec w (cu ⟨#[97]⟩) ua uc aa ac) (hy:Ec w (cu ⟨#[98]⟩) ub ud ab ad) (hz:Ec w (cu ⟨#[99]⟩) ue uf ae af) (hB:Blk w g T (c3 ua aa ub ab ue ae uc ac ud ad uf af)) :
  Ec w oZ none 0 (some ⟨g,0,none⟩) 3:=⟨.nil _,Jq hx hy hz hB rfl⟩
def d2 (gi:Nat):Array Value:=((exC oZ.h 3 none 0 (some ⟨gi,0,none⟩) 3).toList++(exC xA.h 0 none 0 none 0).toList).toArray
theorem OY {w:World} {g gi:Nat} {T:TypeId} (H:Ec w oZ none 0 (some ⟨gi,0,none⟩) 3) (hB:Blk w g T (d2 gi)):ExV w (exC qW.h 2 none 0 (some ⟨g,0,none⟩) 2) qW :=
 ⟨none,0,_,2,rfl,.nil _,sP H ⟨.nil _,Fs.nil _⟩ hB rfl⟩
theorem Om {w:World} {g:Nat} {T:TypeId} (hB:Blk w g T (exC oM.h 0 none 0 none 0)):ExV w (exC qJ.h 1 none 0 (some ⟨g,0,none⟩) 1) qJ :=
 ⟨none,0,_,1,rfl,.nil _,Gg (x:=oM) ⟨.nil _,Fs.nil _⟩ hB rfl⟩
def p2 (x y:Ex) (ua aa ub ab:Option Addr) (uc ac ud ad:Nat):Array Value:=((exC x.h x.ar.len ua uc aa ac).toList++(exC y.h y.ar.len ub ud ab ad).toList).toArray
theorem OZ {w:World} {g:Nat} {T:TypeId} {ua aa ub ab:Option Addr} {uc ac ud ad:Nat} (hx:Ec w iK ua uc aa ac) (hy:Ec w iK ub ud ab ad) (hB:Blk w g T (p2 iK iK ua aa ub ab uc ac ud ad)):ExV w (exC lU.h 2 none 0 (some ⟨g,0,none⟩) 2) lU :=
 ⟨none,0,_,2,rfl,.nil _,sP hx hy hB rfl⟩
theorem Ns {w:World} {g:Nat} {T:TypeId} {ua aa ub ab:Option Addr} {uc ac ud ad:Nat} (hx:Ec w (fJ ⟨#[109,115]⟩) ua uc aa ac) (hy:Ec w (fJ ⟨#[111,107]⟩) ub ud ab ad) (hB:Blk w g T (p2 (fJ ⟨#[109,115]⟩) (fJ ⟨#[111,107]⟩) ua aa ub ab uc ac ud ad)):ExV w (exC lN.h 2 none 0 (some ⟨g,0,none⟩) 2) lN :=
 ⟨none,0,_,2,rfl,.nil _,sP hx hy hB rfl⟩
def f2 (gu:Nat):Array Value:=((fiC ⟨⟨#[120]⟩,⟨3,DR 1,.empty⟩⟩ (some ⟨gu,0,none⟩) 1).toList++(fiC ⟨⟨#[121]⟩,⟨1,[],.empty⟩⟩ none 0).toList).toArray
theorem OQ {w:World} {g gu:Nat} {T:TypeId} (hU:un.Sl w (some ⟨gu,0,none⟩) 1 1 (DR 1)) (hB:Blk w g T (f2 gu)):Fis w (some ⟨g,0,none⟩) 2 2 t1X.fs :=
 Nn hB rfl rfl rfl ⟨_,_,rfl,hU⟩ ⟨none,0,rfl,.nil _⟩
theorem Nb {w:World} {g:Nat} (hA:Fis w (some ⟨g,0,none⟩) 2 2 t1X.fs) (T:Tabq w):Calls Tryz.prog 20 #[.agg (tbC t1X (some ⟨g,0,none⟩) 2)] w (Tx ⟨#[116,97,98,108,101,32,116,32,111,102,32,117,115,101,114,32,123,32,120,58,32,100,101,99,32,91,101,117,114,93,44,32,121,58,32,98,111,111,108,32,125,32,107,101,101,112,32,57,59]⟩ 0 w):=by
 have h:=rX t1X _ 2 w ⟨by decide,by decide,fun f hf=>by
   rcases List.mem_cons.1 hf with h | h
   · subst h;exact ⟨by decide,by decide⟩
   · rcases List.mem_cons.1 h with h | h
     · subst h;exact ⟨by decide,by decide⟩
     · cases h⟩ hA T
 rwa [e10,txO,if_pos rfl,x10] at h
theorem Na {w:World} (T:Tabq w):Calls Tryz.prog 20 #[.agg (tbC t2X none 0)] w (Tx ⟨#[116,97,98,108,101,32,116,32,111,102,32,117,115,101,114,32,123,32,125,59]⟩ 0 w):=by
 have h:=rX t2X none 0 w ⟨by decide,by decide,fun f hf=>by cases hf⟩ (Rw.nil 4 FiV w) T
 rwa [e11,txO,if_pos rfl,x11] at h
theorem QI {w:World} {cs:Array Value} (hE:ExV w cs (fJ ⟨#[120]⟩)) (T:Tabq w):Calls Tryz.prog 15 #[.agg cs] w (Tx .empty 3 w):=by
 obtain ⟨ua,uc,aa,ac,rfl,E⟩:=hE;have h:=oD (fJ ⟨#[120]⟩) ua aa uc ac w s10 z10 E T
 rwa [e12,txO,if_neg (by decide)] at h
end ch
end Go.Proofs.YtbahfelnbofjjaaGreatDoor
