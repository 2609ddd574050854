/-
  printer.Table; The reference's Few: an expression that is few has few nodes; printer.Feature; The reference's FewType, FewTable, FewFeature; What example builds and asks: names, operations, prints; The expressions and tables of example, and what their texts are; Parts of example.
-/
import Derived.Test.YtbahfelnbofjjaaGreatDoorG13
set_option maxRecDepth 100000
set_option maxHeartbeats 16000000
namespace Go.Proofs.YtbahfelnbofjjaaGreatDoor
namespace ch
open Go.RowKit dec
theorem Br:∀ (l bef:List Fi),fsE bef l=0→∀ f ∈ l,name f.nm=true∧tyE f.ty=0
 | [],_,_,_,hf=>by cases hf
 | g :: l,bef,h,f,hf=>by
  have h':(if fiE bef g=0 then fsE (bef++[g]) l else fiE bef g)=0:=h
  by_cases h0:fiE bef g=0
  ·rw [if_pos h0] at h'
   rcases List.mem_cons.1 hf with rfl | hf
   ·unfold fiE at h0
    by_cases h1:name f.nm=false
    ·rw [if_pos h1] at h0;cases h0
    ·rw [if_neg h1] at h0
     split at h0
     ·cases h0
     ·exact ⟨by simpa using h1,h0⟩
   ·exact Br l _ h' f hf
  ·rw [if_neg h0] at h'
   exact absurd h' h0
theorem sI {t:Tb} (h:tbE t=0):name t.nm=true∧name t.en=true∧0≤t.kp∧t.kp≤1099511627776∧t.fs.length≤8∧∀ f ∈ t.fs,name f.nm=true∧tyE f.ty=0:=by
 unfold tbE at h;by_cases h1:name t.nm=false
 ·rw [if_pos h1] at h;cases h
 rw [if_neg h1] at h;by_cases h2:name t.en=false
 ·rw [if_pos h2] at h;cases h
 rw [if_neg h2] at h;by_cases h3:t.kp<0
 ·rw [if_pos h3] at h;cases h
 rw [if_neg h3] at h;by_cases h4:1099511627776<t.kp
 ·rw [if_pos h4] at h;cases h
 rw [if_neg h4] at h;by_cases h5:8<t.fs.length
 ·rw [if_pos h5] at h;cases h
 rw [if_neg h5] at h;exact ⟨by simpa using h1,by simpa using h2,by omega,by omega,by omega,Br t.fs [] h⟩
theorem rR {f:Fi} (h1:name f.nm=true) (h2:tyE f.ty=0):(fiT f).length≤300∧fiT f≠[]:=by
 have a:=dx h1;have b:=DK h2;unfold fiT;rw [aI] at a;refine ⟨by simp;omega,by simp⟩
theorem Ra {f:Fi} (_h1:name f.nm=true) (h2:tyE f.ty=0):wrd [B8 (f.nm.data.toList++[58]),B8 (tyT f.ty)]=fiT f:=by
 obtain ⟨_,t,hf⟩:=(zQ h2).f;have hne:tyT f.ty≠[]:=by
  have hb:=(zQ h2).b;have hw:=(zQ h2).w;intro h0;rw [h0,hf,gZ] at hb;rw [hf] at hw;have:=uU (gK.1 hw).2.1;have h3:=congrArg List.length hb;simp only [List.length_append,List.length_nil] at h3;omega
 rw [dA _ (eG (by simp)),tail_cons _ _ (eG hne),tail_nil,dB,dB];unfold fiT;simp
theorem EK:∀ (l:List Fi),Lib.join (l.map fiT) [44,32]=(fsT l).drop 1∧(l≠[]→fsT l=32 :: Lib.join (l.map fiT) [44,32])
 | []=>⟨rfl,fun h=>absurd rfl h⟩
 | f :: r=>by
  have e:Lib.join ((f :: r).map fiT) [44,32]=fiT f++(r.map fun g=>44 :: 32 :: fiT g).flatten:=by
   rw [List.map_cons,Lib.join_cons]
   unfold Lib.joinTail
   rw [List.map_map]
   rfl
  rw [e]
  exact ⟨rfl,fun _=>rfl⟩
def kpT (n:Int):List UInt8:=if n=0 then [] else [107,101,101,112,32]++Lib.itoa n
theorem PI {t:Tb} (h:tbE t=0):wrd [⟨#[116,97,98,108,101]⟩,t.nm,⟨#[111,102]⟩,t.en,⟨#[123]⟩,B8 (Lib.join (t.fs.map fiT) [44,32]),⟨#[125]⟩,B8 (kpT t.kp)]++[59]=tbT t:=by
 obtain ⟨h1,h2,h3,h4,h5,h6⟩:=sI h;have hd:∀ s:ByteArray,s.size≠0→s≠.empty:=fun s h e=>h (by rw [e];rfl);have hk:Lib.joinTail [32] ((nel [B8 (kpT t.kp)]).map (·.data.toList))=(if t.kp=0 then [] else [32,107,101,101,112,32]++Lib.itoa t.kp):=by
  by_cases h0:t.kp=0
  ·have e0:B8 (kpT t.kp)=.empty:=by unfold kpT;rw [if_pos h0];rfl
   rw [e0,gV _ _ rfl,if_pos h0];rfl
  have hx:kpT t.kp≠[]:=by unfold kpT;rw [if_neg h0];simp
  rw [tail_cons _ _ (eG hx),tail_nil,dB,if_neg h0];unfold kpT;rw [if_neg h0];simp
 have hf:Lib.joinTail [32] ((nel [B8 (Lib.join (t.fs.map fiT) [44,32]),⟨#[125]⟩,B8 (kpT t.kp)]).map (·.data.toList))=fsT t.fs++([32,125]++(if t.kp=0 then [] else [32,107,101,101,112,32]++Lib.itoa t.kp)):=by
  by_cases h0:t.fs=[]
  ·have e0:B8 (Lib.join (t.fs.map fiT) [44,32])=.empty:=by rw [h0];rfl
   rw [e0,gV _ _ rfl,tail_cons _ _ (hd _ (by decide)),hk,h0];rfl
  have hj:=(EK t.fs).2 h0;have hx:Lib.join (t.fs.map fiT) [44,32]≠[]:=by
   cases hfs:t.fs with
   | nil=>exact absurd hfs h0
   | cons f r =>
     rw [List.map_cons,Lib.join_cons]
     have:=(rR (h6 f (by rw [hfs];exact List.mem_cons_self ..)).1 (h6 f (by rw [hfs];exact List.mem_cons_self ..)).2).2
     intro e
     exact this (List.append_eq_nil_iff.1 e).1
  rw [tail_cons _ _ (eG hx),tail_cons _ _ (hd _ (by decide)),hk,hj,dB]
 rw [dA _ (hd _ (by decide)),tail_cons _ _ (rJ h1),tail_cons _ _ (hd _ (by decide)),tail_cons _ _ (rJ h2),tail_cons _ _ (hd _ (by decide)),hf];unfold tbT;simp
theorem Ba (k:Nat):∀ l:List (List UInt8),(∀ x ∈ l,x.length≤k)→(Lib.joinTail [44,32] l).length≤(k+2) * l.length
 | [],_=>Nat.zero_le _
 | x :: l,h=>by
  have h1:=h x (List.mem_cons_self ..)
  have h2:=Ba k l fun y hy=>h y (List.mem_cons_of_mem _ hy)
  unfold Lib.joinTail at h2 ⊢
  rw [List.map_cons,List.flatten_cons,List.length_append,List.length_append]
  simp only [List.length_cons,List.length_nil,Nat.mul_add,Nat.mul_one]
  omega
theorem JH (l:List Fi) (h5:l.length≤8) (h6:∀ f ∈ l,name f.nm=true∧tyE f.ty=0):(Lib.join (l.map fiT) [44,32]).length≤3000:=by
 cases l with
 | nil=>exact Nat.zero_le _
 | cons f r =>
   have h1:=(rR (h6 f (List.mem_cons_self ..)).1 (h6 f (List.mem_cons_self ..)).2).1
   have h2:=Ba 300 (r.map fiT) fun x hx=>by
     obtain ⟨g,hg,rfl⟩:=List.mem_map.1 hx
     exact (rR (h6 g (List.mem_cons_of_mem _ hg)).1 (h6 g (List.mem_cons_of_mem _ hg)).2).1
   rw [List.map_cons,Lib.join_cons,List.length_append]
   rw [List.length_map] at h2
   simp only [List.length_cons] at h5
   omega
theorem Nb {t:Tb} (h:tbE t=0):(tbT t).length≤4000:=by
 obtain ⟨h1,h2,h3,h4,h5,h6⟩:=sI h;have a1:=dx h1;have a2:=dx h2;have a3:=fG t.kp h3 (by omega);have a4:=JH t.fs h5 h6;have a5:(fsT t.fs).length≤(Lib.join (t.fs.map fiT) [44,32]).length+1:=by
  by_cases h0:t.fs=[]
  ·rw [h0];decide
  rw [(EK t.fs).2 h0];simp
 have a6:(if t.kp=0 then [] else [32,107,101,101,112,32]++Lib.itoa t.kp:List UInt8).length≤30:=by split <;> simp;omega
 unfold tbT;rw [aI] at a1 a2;simp only [List.length_append,List.length_cons,List.length_nil,aI] at *;omega
theorem Ji {o:Oper} {a:Act} {w:World} {K:Act→World→Prop} {Q:Exit→Act→World→Prop} (s x:Operand)
    (ho:o.op=.call { callee:=.builtin .append,args:=#[s,x],argTypes:=#[97,97] })
    (base:Nat) (v:Value) (l:List ByteArray) (hs:a.eval s=v) (hown:un.OS w base v l) (b:Nat) (t:ByteArray) (hx:a.eval x=.slice (some ⟨b,0,none⟩) 1 1) (hB:w.cell? ⟨b,0,none⟩=some (.string t))
    (hn:l.length<5864062014805) (hbase:base≤w.heap.size)
    (h:∀ v' w',un.OS w' base v' (l++[t])→Below base w w'→w.grownBy w' v.ownBlock→K (a.put o.dst v') w'):o.wp Tryz.prog a w K Q:=by
 obtain ⟨i,hi,hz0,hz1,hz2⟩:=info_parts un.vG
 refine wp_append_own w s x 97 ho base 9 i (.string ByteArray.empty) 1 16 Tryz.underlying97 hi hz0 hz1 hz2 rfl (by decide) v l.length (l.map Value.string) hs hown ⟨b,0,none⟩ 1 1 [.string t] hx rfl ?_ (fun u hu=>by simp at hu;subst hu;rfl)
   (by unfold maxLen;omega) (by omega) hbase fun v' w' h1 h2 _=>h v' w' (by unfold un.OS;rw [List.map_append,List.length_append];exact h1) ((Below.refl base w).grown h2 hbase fun k hk=>(hown.lt k hk).1) h2
 intro j u hu
 match j,hu with
 | 0,hu=>simp at hu;subst hu;exact hB
 | j+1,hu=>simp at hu
theorem I8 {w w':World} {v:Value} {b o:Nat} {cs:List Value} (h:w.rangeAt b o cs) (hg:w.grownBy w' v.ownBlock) (hne:v.ownBlock≠some b):w'.rangeAt b o cs:=fun j u hu=>hg.cell (h j u hu) (fun e=>hne e.symm)
theorem Qp {w:World} {base:Nat} {v:Value} {l:List ByteArray} (h:un.OS w base v l):v.ownBlock≠some w.heap.size:=fun e=>by
 have:=(h.lt _ e).2
 omega
theorem OM {w:World} {g:Nat} {T:TypeId} {cs:Array Value} (h:Blk w g T cs):w.rangeAt g 0 cs.toList:=fun j v hv=>by
 rw [Nat.zero_add,h.cell j]
 rw [Array.getElem?_toList] at hv
 exact hv
theorem uS (t:Tb) (a:Option Addr) (c:Nat) (w:World) (hs:t.sz) (hA:Fis w a t.fs.length c t.fs) (T:Tabq w):Calls Tryz.prog 20 #[.agg (tbC t a c)] w (Tx (txO (tbE t) (tbT t)) (tbE t) w):=by
 have bb:=au (b0 w) (.cells (tbC t a c) 48);have B0:=Hy bb;have G:=Hy (Blk.new w 48 (tbC t a c));have C1:=Hy (Ip t a c _ hs (hA.keeps bb) (T.stays bb).t);have HA:=Hy (hA.keeps bb);have TQ:=Hy (T.stays bb);have HO:txO (tbE t) (tbT t)=txO (tbE t) (tbT t):=rfl
 conv at HO=>rhs;unfold txO
 replace HO:=Hy HO;have HZ:=Hy (fun (h:tbE t=0)=>sI h);have HW:=Hy (fun (h:tbE t=0)=>(PI h).symm);have HL:=Hy (fun (h:tbE t=0)=>Nb h);clear bb hA T hs;generalize txO (tbE t) (tbT t)=s9 at *;generalize tbE t=ce at *;unfold tbC at *
 go_enter Tryz.func20,Tryz.ntmps20
 go_upto_region 1 with fail
 generalize hw0:(w.alloc (.cells #[.string t.nm,.string t.en,.slice a t.fs.length c,.int .i64 t.kp] 48))=w0 at *;clear hw0;have hgl:=Hy G.o.lt;go_wp2_with (refine aF Ms Tryz.underlying48 rfl (.tmp 1) rfl rfl _ _ _ rfl G.o rfl ?_);refine C1.o.mono ?_;rintro e w1 ⟨rfl,b1⟩;have B1:=Hy b1;clear b1 C1;by_cases h0:ce=0
 ·have q:(ce != 0)=false:=by rw [bne,bB h0];rfl
  have HS:=Hy (HO.o.trans (if_pos h0));obtain ⟨z1,z2,z3,z4,z5,z6⟩:=HZ.o h0;have HE:=Hy (HW.o h0);have hll:=Hy (HL.o h0);replace h0:=Hy h0;have N1:=Hy z1;have N2:=Hy z2;have N3:=Hy z3;have N4:=Hy z4;have N5:=Hy z5;have N6:=Hy z6;clear z1 z2 z3 z4 z5 z6 HZ HW HL;have g2:=(G.o.keeps B1.o).cell 2;simp only [sz2,sz3,sz4] at g2;go_wp2_with fail;clear g2
  go_loopw [4,16] (fun vu vi wr => ∃ j:Nat,vi=.int .i64 (j:Nat)∧Hid (j≤t.fs.length)∧Hid (un.OS wr w0.heap.size vu ((t.fs.take j).map fun f=>B8 (fiT f)))∧Hid (Below w0.heap.size w0 wr)) (fun _ vi _=>t.fs.length - (intOf vi).toNat)
  case atStart=>exact ⟨0,rfl,Hy zl,Hy (un.OS.nil _ _),B1⟩
  case round =>
   clear B1;obtain ⟨j,rfl,hj,hO,hb⟩:=hrel;by_cases hlt:j<t.fs.length
   ·have q1:decide ((j:Int)<(t.fs.length:Int))=true:=dT (by omega);have hov0:=Qp hO.o;obtain ⟨bk,off,rfl,hC⟩:=HA.o.hat.resolve_left (by omega);obtain ⟨cs,hcs,R1,ua,uc,rfl,U1⟩:=hC j hlt;have hm:=List.getElem_mem hlt;have f4:=Hy (aS (j:=j) (by have:=N5.o;omega));have i1:(j:Int)<(t.fs.length:Int):=by omega
    have i2:j<t.fs.length:=hlt;have hfn:=Hy (N6.o _ hm);have htk:=Hy (show (t.fs.take (j+1)).map (fun f=>B8 (fiT f))=(t.fs.take j).map (fun f=>B8 (fiT f))++[B8 (fiT t.fs[j])] by rw [List.take_succ_eq_append_getElem hlt,List.map_append];rfl);have hl8:=Hy (show ((t.fs.take j).map fun f=>B8 (fiT f)).length<5864062014805 by have:=N5.o;simp;omega);clear hC hm hcs hj;replace R1:=Hy (aM R1 hb.o);replace U1:=Hy U1;generalize t.fs[j]=f at *;obtain ⟨m1,m2⟩:=hfn.o;have hz:=rR m1 m2;have hW:=Ra m1 m2;have A1:=fB f.nm.data.toList [58] (by have:=dx m1;omega) (by decide);replace A1:∀ W,(Op.stringOp .add f.nm ⟨#[58]⟩).run Tryz.prog W=.ok (.string (B8 (f.nm.data.toList++[58]))) W:=A1;have CT:=Hy (fun (W:World) (b:Below w0.heap.size w0 W)=>zP f.ty ua uc W m2 (U1.o.keeps b) (TQ.o.stays b));have hzW:(wrd [B8 (f.nm.data.toList++[58]),B8 (tyT f.ty)]).length≤100000000:=by rw [hW];omega
    have CW:=Hy (fun (W:World) (a:Option Addr) (h:Ss W a 2 2 [B8 (f.nm.data.toList++[58]),B8 (tyT f.ty)])=>fE a 2 2 _ W h (by decide) hzW);rw [hW] at CW;have N:=Hy (fun (W:World)=>Ss.new W [B8 (f.nm.data.toList++[58]),B8 (tyT f.ty)] 2 #[.string (B8 (f.nm.data.toList++[58])),.string (B8 (tyT f.ty))] rfl rfl (by decide) 9);clear hz hW hzW hfn m1 m2;generalize B8 (fiT f)=s3 at *;generalize B8 (f.nm.data.toList++[58])=s1 at *;generalize B8 (tyT f.ty)=s2 at *;unfold fiC tyC at *;go_wp2_with (first | (refine dM oQ Tryz.underlying88 rfl (.tmp 18) rfl rfl bk (off+j * 4) #[.string f.nm,.int .i64 f.ty.k,.slice ua f.ty.un.length uc,.string f.ty.of] rfl R1.o rfl ?_) | (refine aL oQ (.tmp 6) (.tmp 19) rfl rfl _ _ _ _ rfl rfl (Blk.new _ _ _) rfl rfl (by simp [Value.oneCell']) ?_;intro w5 L5 hs5;have bb5:=(au (b0 wr) _).trans (hs5.below lr)));have b5:=Hy bb5;have L6:=Hy L5;have O5:=Hy (hO.o.keeps bb5);have D5:=Hy (hb.o.trans (bb5.mono hb.o.size));clear bb5 hs5 L5 hO R1;have hov:=Hy hov0;clear hov0;refine wp_region_held_drew (S:=fun w' => w'.rangeAt wr.heap.size 0 #[.string f.nm,.int .i64 f.ty.k,.slice ua f.ty.un.length uc,.string f.ty.of].toList∧Below w0.heap.size w0 w') (by kernel_rfl) ⟨OM L6.o.drew,D5.o.drew⟩ (fun hH=>?_);replace O5:=Hy (os_drew O5.o);have hsz:=Hy (show wr.heap.size<w5.drew.heap.size from L6.o.lt);clear D5 b5;generalize w5.drew=y5 at *;refine ak 0 20 ?_ hH (fun w' hS=>?_) ?_;rotate_left
    ·go_simp;try with_reducible rfl
    simp only [sz0,sz1];refine ak 1 21 ?_ hH (fun w' hS=>?_) ?_;rotate_left
    ·go_simp;try with_reducible rfl
    simp only [sz0,sz1];refine ak 2 22 ?_ hH (fun w' hS=>?_) ?_;rotate_left
    ·have e1:=(show w'.cell? ⟨wr.heap.size,0,none⟩=some (.string f.nm) from hS.1 0 _ rfl);go_simp;try with_reducible rfl
    simp only [sz0,sz1];refine ak 3 23 ?_ hH (fun w' hS=>?_) ?_;rotate_left
    ·go_simp;try with_reducible rfl
    simp only [sz0,sz1];refine ak 4 24 ?_ hH (fun w' hS=>?_) ?_;rotate_left
    ·go_simp;try with_reducible rfl
    simp only [sz0,sz1];refine aZ 5 25 (.agg #[.int .i64 f.ty.k,.slice ua f.ty.un.length uc,.string f.ty.of]) rfl (by kernel_rfl) rfl (fun _ _ _ h=>h) rfl hH (fun w' hS=>cK kK Tryz.underlying31 rfl (.tmp 24) rfl _ _ _ rfl (su (hS.1 1 _ rfl) (hS.1 2 _ rfl) (hS.1 3 _ rfl)) rfl) ?_;simp only [sz0,sz1];refine aC 6 (fun K hK=>?_);go_simp;refine (CT.o _ hH.2).mono ?_;rintro e v1 ⟨rfl,c1⟩;refine hK.o _ _ ⟨aM hH.1 c1,aA hH.2 c1⟩ (fun hH=>?_);clear hK K;replace O5:=Hy (O5.o.keeps c1);replace hsz:=Hy (Nat.lt_of_lt_of_le hsz.o c1.size);clear c1;refine aC 7 (fun K hK=>?_);go_simp;have hNN:=N.o v1;refine hK.o _ _ ⟨aM hH.1 (au (b0 _) _),au hH.2 _⟩ (fun hH=>?_);clear hK K;replace O5:=Hy (O5.o.keeps (au (b0 _) (.cells #[.string s1,.string s2] 9)));replace hsz:=Hy (Nat.lt_of_lt_of_le hsz.o (au (b0 v1) (.cells #[.string s1,.string s2] 9)).size);refine aC 8 (fun K hK=>?_);go_simp;refine (CW.o _ _ hNN).mono ?_;rintro e v2 ⟨rfl,c2⟩;refine hK.o _ _ ⟨aM hH.1 c2,aA hH.2 c2⟩ (fun hH=>?_);clear hK K;replace O5:=Hy (O5.o.keeps c2);clear c2 hNN N CW CT hsz;refine aC 9 (fun K hK=>?_);go_simp;refine hK.o _ _ ⟨aM hH.1 (au (b0 _) _),au hH.2 _⟩ (fun hH=>?_);clear hK K;replace O5:=Hy (O5.o.keeps (au (b0 _) (.cells #[.string s3] 9)));refine aC 10 (fun K hK=>?_);refine Ji (.tmp 20) (.tmp 29) rfl w0.heap.size _ _ rfl O5.o v2.heap.size s3 rfl (by simp [go_sem]) hl8.o hH.2.size ?_;intro v8 w8 O9 b9 g9;have O10:=Hy (show un.OS w8 w0.heap.size v8 ((t.fs.take (j+1)).map fun f=>B8 (fiT f)) by rw [htk.o];exact O9);have D10:=Hy (hH.2.trans b9);refine hK.o _ _ ⟨I8 hH.1 g9 hov.o,D10.o⟩ (fun hH=>?_);clear hK K O9 b9 g9;refine ak 11 4 ?_ hH (fun w' hS=>?_) ?_;rotate_left
    ·go_simp;try with_reducible rfl
    simp only [sz0,sz1];clear hH;refine wpAnyH_done (by kernel_rfl) ?_ _;go_wp2_with fail;exact ⟨⟨j+1,congrArg (Value.int .i64) f4.o,Hy hlt,O10,D10⟩,aN hlt f4.o⟩
   have q1:decide ((j:Int)<(t.fs.length:Int))=false:=dF (by omega);have hO2:=hO.o;rw [show t.fs.take j=t.fs from List.take_of_length_le (by omega)] at hO2;have OO:=Hy hO2;have GG:=Hy (G.o.keeps hb.o);have TR:=Hy (TQ.o.stays hb.o).t;have BW:=Hy (aA B0.o hb.o);clear hO hO2 hj G TQ HA;have hil:=fG t.kp N3.o (by have:=N4.o;omega);have hmap:((t.fs.map fun f=>B8 (fiT f)).map (·.data.toList))=t.fs.map fiT:=by rw [List.map_map];rfl
   have hfl:=JH t.fs N5.o N6.o;have CJ:=Hy (fun (v:Value) (base:Nat) (W:World) (h:un.OS W base v (t.fs.map fun f=>B8 (fiT f)))=>tH ⟨#[44,32]⟩ v _ base W h (by have:=N5.o;simp;omega) (by rw [hmap];exact Nat.le_trans hfl (by omega)));rw [hmap] at CJ;rw [show (Lib.join (t.fs.map fiT) (⟨#[44,32]⟩:ByteArray).data.toList)=Lib.join (t.fs.map fiT) [44,32] from rfl] at CJ;have CI:=Hy (fun (W:World) (T:Tabs W)=>qH t.kp N3.o (by have:=N4.o;omega) W T);have hWK:wrd [⟨#[107,101,101,112]⟩,B8 (Lib.itoa t.kp)]=[107,101,101,112,32]++Lib.itoa t.kp:=by rw [dA _ (fun e=>absurd (congrArg (fun b:ByteArray=>b.size) e) (by decide)),tail_cons _ _ (eG (xM _)),tail_nil,List.append_nil,dB];rfl
   have hzK:(wrd [⟨#[107,101,101,112]⟩,B8 (Lib.itoa t.kp)]).length≤100000000:=by rw [hWK];simp;omega
   have CK:=Hy (fun (W:World) (a:Option Addr) (h:Ss W a 2 2 [⟨#[107,101,101,112]⟩,B8 (Lib.itoa t.kp)])=>fE a 2 2 _ W h (by decide) hzK);rw [hWK] at CK;have NK:=Hy (fun (W:World)=>Ss.new W [⟨#[107,101,101,112]⟩,B8 (Lib.itoa t.kp)] 2 #[.string ⟨#[107,101,101,112]⟩,.string (B8 (Lib.itoa t.kp))] rfl rfl (by decide) 9);obtain ⟨WL,hWL⟩:∃ WL,WL=[⟨#[116,97,98,108,101]⟩,t.nm,⟨#[111,102]⟩,t.en,⟨#[123]⟩,B8 (Lib.join (t.fs.map fiT) [44,32]),⟨#[125]⟩,B8 (kpT t.kp)]:=⟨_,rfl⟩;have hE:=HE.o;rw [← hWL] at hE;have hwl:(wrd WL).length≤4000:=by have:=hll.o;rw [hE,List.length_append] at this;omega
   have CW:=Hy (fun (W:World) (a:Option Addr) (h:Ss W a 8 8 WL)=>fE a 8 8 _ W h (by decide) (by omega));have NW:=Hy (fun (W:World)=>Ss.new W [⟨#[116,97,98,108,101]⟩,t.nm,⟨#[111,102]⟩,t.en,⟨#[123]⟩,B8 (Lib.join (t.fs.map fiT) [44,32]),⟨#[125]⟩,B8 (kpT t.kp)] 8 #[.string ⟨#[116,97,98,108,101]⟩,.string t.nm,.string ⟨#[111,102]⟩,.string t.en,.string ⟨#[123]⟩,.string (B8 (Lib.join (t.fs.map fiT) [44,32])),.string ⟨#[125]⟩,.string (B8 (kpT t.kp))] rfl rfl (by decide) 9);rw [← hWL] at NW;have A9:=fB (wrd WL) [59] (by omega) (by decide);rw [← hE] at A9;replace A9:∀ W,(Op.stringOp .add (B8 (wrd WL)) ⟨#[59]⟩).run Tryz.prog W=.ok (.string (B8 (tbT t))) W:=A9;have hkp:=Hy (show B8 (kpT t.kp)=if t.kp=0 then .empty else B8 ([107,101,101,112,32]++Lib.itoa t.kp) by unfold kpT;split <;> rfl);clear hil hmap hfl hWK hzK hWL hE hwl HE hll N1 N2 N3 N4 N5 N6;generalize B8 (Lib.join (t.fs.map fiT) [44,32])=sj at *;generalize B8 (kpT t.kp)=sk at *;generalize B8 (Lib.itoa t.kp)=si at *;generalize B8 ([107,101,101,112,32]++Lib.itoa t.kp)=sx at *;generalize B8 (wrd WL)=sw at *;generalize B8 (tbT t)=st at *;have g3:=GG.o.cell 3;simp only [sz2,sz3,sz4] at g3;obtain ⟨bq,hbq⟩:∃ bq:Bool,bq = !decide (t.kp=0):=⟨_,rfl⟩;have q2:(t.kp != 0)=bq:=by rw [hbq,bne,eqI]
   replace hbq:=Hy hbq
   go_upto_if 34 with fail
   clear g3
   go_cut [7] from 35 to 39 (fun v wx=>v=.string sk∧Hid (Below wr.heap.size wr wx))
   case first =>
    cases bq
    ·have h2:t.kp=0:=by have:=hbq.o;simpa using this
     have hc:=Hy (hkp.o.trans (if_pos h2));clear hbq;replace h2:=Hy h2;go_wp2_with fail
     go_meet
     case rel=>exact ⟨by rw [hc.o];rfl,Hy (b0 wr)⟩
    have h2:t.kp≠0:=by have:=hbq.o;simpa using this
    have hc:=Hy (hkp.o.trans (if_neg h2));clear hbq;replace h2:=Hy h2;have g3:=GG.o.cell 3;simp only [sz2,sz3,sz4] at g3;go_wp2_with fail;refine (CI.o _ TR.o).mono ?_;rintro e w3 ⟨rfl,b3⟩;have B3:=Hy b3;clear b3 g3;go_wp2_with fail;refine (CK.o _ _ (NK.o _)).mono ?_;rintro e w4 ⟨rfl,b4⟩;have B4:=Hy (aA (au B3.o _) b4);clear b4;go_wp2_with fail
    go_meet
    case rel=>exact ⟨by rw [hc.o],B4⟩
   case rest =>
    obtain ⟨rfl,b5⟩:=hcut;have B5:=Hy (aA BW.o b5.o);have G5:=Hy (GG.o.keeps b5.o);have O5:=Hy (OO.o.keeps b5.o);clear b5 GG OO BW CI CK NK TR hkp hbq
    go_upto_region 13 with fail
    refine wp_region_held_drew (S:=fun w' => Blk w' w.heap.size 48 #[.string t.nm,.string t.en,.slice a t.fs.length c,.int .i64 t.kp]∧Below w.heap.size w w') (by kernel_rfl) ⟨G5.o.drew,B5.o.drew⟩ (fun hH=>?_);replace O5:=Hy (os_drew O5.o);clear G5 B5;generalize World.drew _=y5 at *;refine ak 0 40 ?_ hH (fun w' hS=>?_) ?_;rotate_left
    ·go_simp;try with_reducible rfl
    simp only [sz0,sz1];refine ak 1 41 ?_ hH (fun w' hS=>?_) ?_;rotate_left
    ·have e1:=hS.1.cell 0;simp only [sz2,sz3] at e1;go_simp;try with_reducible rfl
    simp only [sz0,sz1];refine ak 2 42 ?_ hH (fun w' hS=>?_) ?_;rotate_left
    ·go_simp;try with_reducible rfl
    simp only [sz0,sz1];refine ak 3 43 ?_ hH (fun w' hS=>?_) ?_;rotate_left
    ·have e1:=hS.1.cell 1;simp only [sz2,sz3,sz4] at e1;go_simp;try with_reducible rfl
    simp only [sz0,sz1];refine ak 4 44 ?_ hH (fun w' hS=>?_) ?_;rotate_left
    ·go_simp;try with_reducible rfl
    simp only [sz0,sz1];refine ak 6 46 ?_ hH (fun w' hS=>?_) ?_;rotate_left
    ·go_simp;try with_reducible rfl
    simp only [sz0,sz1];refine aC 5 (fun K hK=>?_);go_simp;refine (CJ.o _ _ _ O5.o).mono ?_;rintro e v1 ⟨rfl,c1⟩;refine hK.o _ _ ⟨hH.1.keeps c1,aA hH.2 c1⟩ (fun hH=>?_);clear hK K c1 O5 CJ;refine aC 7 (fun K hK=>?_);go_simp;have hNN:=NW.o v1;refine hK.o _ _ ⟨hH.1.keeps (au (b0 _) _),au hH.2 _⟩ (fun hH=>?_);clear hK K;refine aC 8 (fun K hK=>?_);go_simp;refine (CW.o _ _ hNN).mono ?_;rintro e v2 ⟨rfl,c2⟩;refine hK.o _ _ ⟨hH.1.keeps c2,aA hH.2 c2⟩ (fun hH=>?_);clear hK K c2 hNN NW CW;refine ak 9 49 ?_ hH (fun w' hS=>?_) ?_;rotate_left
    ·go_simp;try with_reducible rfl
    simp only [sz0,sz1];refine ak 10 2 ?_ hH (fun w' hS=>?_) ?_;rotate_left
    ·go_simp;try with_reducible rfl
    simp only [sz0,sz1];refine ak 11 3 ?_ hH (fun w' hS=>?_) ?_;rotate_left
    ·go_simp;try with_reducible rfl
    simp only [sz0,sz1];have B9:=Hy hH.2;clear hH;refine wpAnyH_done (by kernel_rfl) ?_ _;go_wp2_with fail
    go_ret2
    exact zn HS.o.symm h0.o.symm B9.o
 have q:(ce != 0)=true:=by rw [bne,bg h0];rfl
 have HS:=Hy (HO.o.trans (if_neg h0));replace h0:=Hy h0;go_wp2_with fail
 go_ret2
 exact zn HS.o.symm rfl (aA B0.o B1.o)
def Fw (n:Int) (x:Ex) (w:World) (e:Ending) (w':World):Prop:=∃ r:Int,e=.returned (.int .i64 r)∧(-1≤r∧r≤1000)∧(0≤r→(x.ar.sz:Int)+1+r≤n)∧Below w.heap.size w w'
theorem vK {n:Int} {x:Ex} {w w':World} (hb:Below w.heap.size w w'):Fw n x w (.returned (.int .i64 (-1))) w':=⟨-1,rfl,by omega,by omega,hb⟩
theorem Nf {F:Fo} {j:Nat} (h:j<F.len):(F.drop j).sz=(F.nth j).ar.sz+1+(F.drop (j+1)).sz:=by
 rw [jF F j h];simp only [Fo.sz];omega
theorem LK (k:Nat) (IH:∀ (x:Ex) (n:Int) (ua aa:Option Addr) (uc ac:Nat) (w:World),x.ar.sz<k→x.szs→-1≤n→n≤1000→Ec w x ua uc aa ac→Calls Tryz.prog 13 #[.agg (exC x.h x.ar.len ua uc aa ac),.int .i64 n] w (Fw n x w))
    (x:Ex) (n:Int) (ua aa:Option Addr) (uc ac:Nat) (w:World) (hz:x.ar.sz=k) (hs:x.szs) (hn1 : -1≤n) (hn2:n≤1000) (hE:Ec w x ua uc aa ac):Calls Tryz.prog 13 #[.agg (exC x.h x.ar.len ua uc aa ac),.int .i64 n] w (Fw n x w):=by
 have bb:=au (b0 w) (.cells (exC x.h x.ar.len ua uc aa ac) 29);have B0:=Hy bb;have G0:=Hy (Blk.new w 29 (exC x.h x.ar.len ua uc aa ac));have HA:=Hy hE.ar;have HU:=Hy hE.us;have IH':=Hy IH;have HZ:=Hy hz;have HX:=Hy hs;have hN:=Hy (⟨hn1,hn2⟩ : -1≤n∧n≤1000);have z1:=hs.h.op;have z2:=hs.h.nm;have z3:=hs.h.tb;have z4:=hs.h.vs;have z5:=hE.us.hcap;have z6:=hE.us.hmax;have z7:=hE.ar.hcap;have z8:=hE.ar.hmax;clear hE IH hz hs bb;unfold exC at *;by_cases h1:n<1
 ·have q1:decide (n<1)=true:=dT h1
  go_enter Tryz.func13,Tryz.ntmps13
  go_wp2_with fail;go_ret;exact vK B0.o
 have q1:decide (n<1)=false:=dF h1;by_cases h2:300<((x.h.op.size:Int)+x.h.nm.size+x.h.tb.size+x.h.vs.size)
 ·have q2:decide (300<((x.h.op.size:Int)+x.h.nm.size+x.h.tb.size+x.h.vs.size))=true:=dT h2
  go_enter Tryz.func13,Tryz.ntmps13
  go_wp2_with fail;go_ret;exact vK B0.o
 have q2:decide (300<((x.h.op.size:Int)+x.h.nm.size+x.h.tb.size+x.h.vs.size))=false:=dF h2;by_cases h3:10<x.h.un.length
 ·have q3:decide (10<(x.h.un.length:Int))=true:=dT (by omega)
  go_enter Tryz.func13,Tryz.ntmps13
  go_wp2_with fail;go_ret;exact vK B0.o
 have q3:decide (10<(x.h.un.length:Int))=false:=dF (by omega);by_cases h4:10<x.ar.len
 ·have q4:decide (10<(x.ar.len:Int))=true:=dT (by omega)
  go_enter Tryz.func13,Tryz.ntmps13
  go_wp2_with fail;go_ret;exact vK B0.o
 have q4:decide (10<(x.ar.len:Int))=false:=dF (by omega)
 go_enter Tryz.func13,Tryz.ntmps13
 clear z1 z2 z3 z4;go_wp2_with fail;have BL:=Hy h3;have AL:=Hy h4;have N1:=Hy h1;clear q1 q2 q3 q4 h1 h2 h3 h4
 go_loopw [5] (fun vi wr => ∃ j:Nat,vi=.int .i64 (j:Nat)∧Hid (j≤x.h.un.length)∧Hid (Blk wr w.heap.size 29 #[.int .i64 x.h.k,.string x.h.op,.string x.h.nm,.string x.h.tb,.int .i64 x.h.vk,.int .i64 x.h.vn,.string x.h.vs,.slice ua x.h.un.length uc,.int .i64 x.h.pa,.int .i64 x.h.wk,.int .i64 x.h.ws,.slice aa x.ar.len ac])∧Hid (Below w.heap.size w wr)) (fun vi _=>x.h.un.length - (intOf vi).toNat)
 case atStart=>exact ⟨0,rfl,Hy zl,G0,B0⟩
 case round =>
  obtain ⟨j,rfl,hj,hG,hb⟩:=hrel;clear G0;have g7:=hG.o.cell 7;simp only [sz2,sz3,sz4] at g7;by_cases hlt:j<x.h.un.length
  ·have q1:decide ((j:Int)<(x.h.un.length:Int))=true:=dT (by omega);obtain ⟨bk,off,rfl,hC⟩:=(HU.o.keeps hb.o).hat.resolve_left (by omega);have c0:=((hC j hlt).1);have f4:=Hy (aS (j:=j) (by have:=BL.o;omega));have i1:(j:Int)<(x.h.un.length:Int):=by omega
   have i2:j<x.h.un.length:=hlt;clear hC hj;generalize (un.gt x.h.un j).1=nm at *;by_cases h5:100<nm.size
   ·have q2:decide (100<(nm.size:Int))=true:=dT (by omega);go_wp2_with fail;go_ret;exact vK hb.o
   have q2:decide (100<(nm.size:Int))=false:=dF (by omega);go_wp2_with fail;exact ⟨⟨j+1,congrArg (Value.int .i64) (by omega),Hy hlt,hG,hb⟩,aN hlt (by omega)⟩
  have q1:decide ((j:Int)<(x.h.un.length:Int))=false:=dF (by omega);have m1:(1:Int)≤n:=by have:=N1.o;omega
  have m2:n≤1000:=hN.o.2;go_wp2_with fail;clear q1 g7 hj m1 m2
  go_loopw [1,6] (fun vm vi wv => ∃ (i:Nat) (m:Int),vm=.int .i64 m∧vi=.int .i64 (i:Nat)∧Hid (i≤x.ar.len)∧Hid (-1≤m∧m≤1000)∧Hid (0≤m→(x.ar.sz:Int)+1+m≤n+((x.ar.drop i).sz:Int))∧Hid (Blk wv w.heap.size 29 #[.int .i64 x.h.k,.string x.h.op,.string x.h.nm,.string x.h.tb,.int .i64 x.h.vk,.int .i64 x.h.vn,.string x.h.vs,.slice ua x.h.un.length uc,.int .i64 x.h.pa,.int .i64 x.h.wk,.int .i64 x.h.ws,.slice aa x.ar.len ac])∧Hid (Below w.heap.size w wv)) (fun _ vi _=>x.ar.len - (intOf vi).toNat)
  case atStart=>exact ⟨0,n - 1,rfl,rfl,Hy zl,Hy (by have:=N1.o;have:=hN.o;omega),Hy (by intro;rw [drop_zero];omega),hG,hb⟩
  case round =>
   clear hG hb;obtain ⟨i,m,rfl,rfl,hi,hm,hR,hG,hb⟩:=hrel;have g11:=hG.o.cell 11;simp only [sz2,sz3,sz4] at g11;by_cases hl2:i<x.ar.len
   ·have q1:decide ((i:Int)<(x.ar.len:Int))=true:=dT (by omega);by_cases h6:0≤m
    ·have q2:decide (0≤m)=true:=dT h6;obtain ⟨bk,off,va,vc,wa,wc,rfl,R1,E1⟩:=(HA.o.keeps hb.o).at hl2;have f4:=Hy (aS (j:=i) (by have:=AL.o;omega));have i1:(i:Int)<(x.ar.len:Int):=by omega
     have i2:i<x.ar.len:=hl2;have hsz:=Hy (fV x.ar i hl2);have hsd:=Hy (Nf hl2);have hxs:=Hy (ko x.ar i HX.o.ar);replace E1:=Hy E1;replace R1:=Hy R1;clear hi;generalize x.ar.nth i=y at *;go_wp2_with (first | (refine dM aJ Tryz.underlying29 rfl (.tmp 71) rfl rfl bk (off+i * 12) (exC y.h y.ar.len va vc wa wc) rfl R1.o rfl ?_));refine (IH'.o y m va wa vc wc _ (by have:=hsz.o;have:=HZ.o;omega) hxs.o hm.o.1 hm.o.2 E1.o).mono ?_;rintro e w6 ⟨r,rfl,hr1,hr2,b6⟩;have B6:=Hy (aA hb.o b6);have G6:=Hy (hG.o.keeps b6);replace hr1:=Hy hr1;replace hr2:=Hy hr2;clear b6 E1 R1 hG hb g11 h6 q2;go_wp2_with fail;exact ⟨⟨i+1,r,rfl,congrArg (Value.int .i64) (by omega),Hy hl2,hr1,Hy (by intro h0;have a1:=hr2.o h0;have a2:=hR.o (by have:=hsz.o;omega);have a3:=hsd.o;omega),G6,B6⟩,aN hl2 (by omega)⟩
    have q2:decide (0≤m)=false:=dF h6;go_wp2_with fail;go_ret;exact ⟨m,rfl,hm.o,fun h=>absurd h (by omega),hb.o⟩
   have q1:decide ((i:Int)<(x.ar.len:Int))=false:=dF (by omega);have hd:=Hy (eO x.ar i (by omega));go_wp2_with fail;go_ret;exact ⟨m,rfl,hm.o,fun h=>by have:=hR.o h;rw [hd.o] at this;simpa [Fo.sz] using this,hb.o⟩
theorem Ou (x:Ex) (n:Int) (ua aa:Option Addr) (uc ac:Nat) (w:World) (hs:x.szs) (hn1 : -1≤n) (hn2:n≤1000) (hE:Ec w x ua uc aa ac):Calls Tryz.prog 13 #[.agg (exC x.h x.ar.len ua uc aa ac),.int .i64 n] w (Fw n x w):=by
 have key:∀ k,∀ (x:Ex) (n:Int) (ua aa:Option Addr) (uc ac:Nat) (w:World),x.ar.sz<k→x.szs→-1≤n→n≤1000→Ec w x ua uc aa ac→Calls Tryz.prog 13 #[.agg (exC x.h x.ar.len ua uc aa ac),.int .i64 n] w (Fw n x w):=by
  intro k
  induction k with
  | zero=>intro x n ua aa uc ac w h;exact absurd h (Nat.not_lt_zero _)
  | succ k ih =>
    intro x n ua aa uc ac w h hs h1 h2 hE
    exact LK x.ar.sz (fun x' n' ua' aa' uc' ac' w' h' => ih x' n' ua' aa' uc' ac' w' (by omega)) x n ua aa uc ac w rfl hs h1 h2 hE
 exact key _ x n ua aa uc ac w ls hs hn1 hn2 hE
def Bx (P:Prop) (w:World) (e:Ending) (w':World):Prop:=∃ b:Bool,e=.returned (.bool b)∧(b=true→P)∧Below w.heap.size w w'
def ExR (x:Ex) (w:World) (e:Ending) (w':World):Prop:=∃ cs,e=.returned (.agg cs)∧ExV w' cs x∧Below w.heap.size w w'
theorem rC {fn:Func} {R:Ending→World→Prop} {p:Tmp} (h:fn.results=#[.cell p 29]) (tmps:Array Value) (w:World) (g:Nat) (T':TypeId) (cells:Array Value) (hp:tmps.getD p undef=.pointer (some ⟨g,0,none⟩))
  (hB:Blk w g T' cells) (hc:cells.size=12) (hR:R (.returned (.agg cells)) w):bodyPost Tryz.prog fn R .ret ⟨tmps,[]⟩ w:=bK aJ Tryz.underlying29 rfl h tmps w g T' cells hp hB hc hR
def dz (n:ByteArray):Ex:=⟨{ h0 with k:=3,nm:=n },.nil⟩
def j5 (op:ByteArray) (x y:Ex):Ex:=⟨{ h0 with k:=7,op:=op },.cons x.h x.ar (.cons y.h y.ar .nil)⟩
def gH (n:ByteArray):Ex:=⟨{ h0 with k:=2,nm:=n },.nil⟩
def tC (op:ByteArray) (x:Ex):Ex:=⟨{ h0 with k:=6,op:=op },.cons x.h x.ar .nil⟩
def dU:Ex:=⟨{ h0 with k:=1,vk:=1,vn:=1 },.nil⟩
def He (k:Int):List un.Fa:=[(⟨#[101,117,114]⟩,k)]
theorem tO (w:World) (h:Hd) (hu:h.un=[]):ExV w (exC h 0 none 0 none 0) ⟨h,.nil⟩:=⟨none,0,none,0,by simp [exC,hu,Fo.len],by rw [hu];exact .nil _,Fs.nil _⟩
theorem kU {w:World} {g:Nat} {T:TypeId} {cs:Array Value} {L:List Value} (h:Blk w g T cs) (hc:cs.toList=L) (o:Nat) (l:List Value) (hl:(L.drop o).take l.length=l):w.rangeAt g o l:=eu h o l (by rw [hc];exact hl)
theorem vL {w:World} {g:Nat} {T:TypeId} {cs:Array Value} {x y:Ex} {ua aa ub ab:Option Addr} {uc ac ud ad:Nat} (hx:Ec w x ua uc aa ac) (hy:Ec w y ub ud ab ad) (hB:Blk w g T cs) (hc:cs.toList=(exC x.h x.ar.len ua uc aa ac).toList++(exC y.h y.ar.len ub ud ab ad).toList) :
    Fs w (some ⟨g,0,none⟩) 2 2 (.cons x.h x.ar (.cons y.h y.ar .nil)):=by
 have h1:w.rangeAt g 0 (exC x.h x.ar.len ua uc aa ac).toList:=kU hB hc 0 _ (by rw [List.drop_zero];exact List.take_left);have h2:w.rangeAt g (0+12) (exC y.h y.ar.len ub ud ab ad).toList:=kU hB hc 12 _ (by rw [show (12:Nat)=(exC x.h x.ar.len ua uc aa ac).toList.length from rfl,List.drop_left,List.take_length]);refine ⟨.inr ⟨g,0,rfl,?_⟩,rfl,Nat.zero_le _,by decide,trivial⟩;unfold FoV;refine ⟨⟨ua,uc,aa,ac,h1,hx.us,⟨hx.ar.hcap,hx.ar.hmax,hx.ar.hno⟩,hx.ar.hat⟩,?_⟩;unfold FoV;refine ⟨⟨ub,ud,ab,ad,h2,hy.us,⟨hy.ar.hcap,hy.ar.hmax,hy.ar.hno⟩,hy.ar.hat⟩,?_⟩;unfold FoV;trivial
theorem JG {w:World} {g:Nat} {T:TypeId} {cs:Array Value} {x:Ex} {ua aa:Option Addr} {uc ac:Nat} (hx:Ec w x ua uc aa ac) (hB:Blk w g T cs) (hc:cs.toList=(exC x.h x.ar.len ua uc aa ac).toList) :
    Fs w (some ⟨g,0,none⟩) 1 1 (.cons x.h x.ar .nil):=by
 have h1:w.rangeAt g 0 (exC x.h x.ar.len ua uc aa ac).toList:=kU hB hc 0 _ (by rw [List.drop_zero];exact List.take_length);refine ⟨.inr ⟨g,0,rfl,?_⟩,rfl,Nat.zero_le _,by decide,trivial⟩;unfold FoV;refine ⟨⟨ua,uc,aa,ac,h1,hx.us,⟨hx.ar.hcap,hx.ar.hmax,hx.ar.hno⟩,hx.ar.hat⟩,?_⟩;unfold FoV;trivial
theorem LA {w:World} {g:Nat} {T:TypeId} {cs:Array Value} {x y z:Ex} {ua aa ub ab ue ae:Option Addr} {uc ac ud ad uf af:Nat} (hx:Ec w x ua uc aa ac) (hy:Ec w y ub ud ab ad) (hz:Ec w z ue uf ae af) (hB:Blk w g T cs) (hc:cs.toList=(exC x.h x.ar.len ua uc aa ac).toList++((exC y.h y.ar.len ub ud ab ad).toList++(exC z.h z.ar.len ue uf ae af).toList)) :
    Fs w (some ⟨g,0,none⟩) 3 3 (.cons x.h x.ar (.cons y.h y.ar (.cons z.h z.ar .nil))):=by
 have h1:w.rangeAt g 0 (exC x.h x.ar.len ua uc aa ac).toList:=kU hB hc 0 _ (by rw [List.drop_zero];exact List.take_left);have h2:w.rangeAt g (0+12) (exC y.h y.ar.len ub ud ab ad).toList:=kU hB hc 12 _ (by rw [show (12:Nat)=(exC x.h x.ar.len ua uc aa ac).toList.length from rfl,List.drop_left];exact List.take_left);have h3:w.rangeAt g (0+12+12) (exC z.h z.ar.len ue uf ae af).toList:=kU hB hc 24 _ (by rw [← List.append_assoc,show (24:Nat)=((exC x.h x.ar.len ua uc aa ac).toList++(exC y.h y.ar.len ub ud ab ad).toList).length from rfl,List.drop_left,List.take_length]);refine ⟨.inr ⟨g,0,rfl,?_⟩,rfl,Nat.zero_le _,by decide,trivial⟩;unfold FoV;refine ⟨⟨ua,uc,aa,ac,h1,hx.us,⟨hx.ar.hcap,hx.ar.hmax,hx.ar.hno⟩,hx.ar.hat⟩,?_⟩;unfold FoV;refine ⟨⟨ub,ud,ab,ad,h2,hy.us,⟨hy.ar.hcap,hy.ar.hmax,hy.ar.hno⟩,hy.ar.hat⟩,?_⟩;unfold FoV;refine ⟨⟨ue,uf,ae,af,h3,hz.us,⟨hz.ar.hcap,hz.ar.hmax,hz.ar.hno⟩,hz.ar.hat⟩,?_⟩;unfold FoV;trivial
theorem IB {w:World} {g:Nat} {T:TypeId} {n:ByteArray} {k:Int} (hB:Blk w g T #[.string n,.int .i64 k]):un.Sl w (some ⟨g,0,none⟩) 1 1 [(n,k)] :=
 ⟨.inr ⟨g,0,rfl,fun j hj=>by
  have:j=0:=by simpa using hj
  subst this
  exact ⟨hB.cell 0,hB.cell 1⟩⟩,rfl,Nat.zero_le _,by decide,trivial⟩
theorem Qd {α:Type} {sz:Nat} {V:World→Array Value→α→Prop} {w:World} {g:Nat} {T:TypeId} {cs c1 c2:Array Value} {x y:α} (hB:Blk w g T cs) (hc:cs.toList=c1.toList++c2.toList) (h1:c1.size=sz) (h2:c2.size=sz) (V1:V w c1 x) (V2:V w c2 y):Rw sz V w (some ⟨g,0,none⟩) 2 2 [x,y] :=
 ⟨.inr ⟨g,0,rfl,fun j hj=>by
  have hl:c1.toList.length=sz:=by rw [Array.length_toList,h1]
  have hj2:j<2:=hj
  rcases Nat.lt_or_ge j 1 with h | h
  ·obtain rfl:j=0:=by omega
   exact ⟨c1,h1,by rw [Nat.zero_mul];exact kU hB hc 0 _ (by rw [List.drop_zero];exact List.take_left),V1⟩
  ·obtain rfl:j=1:=by omega
   exact ⟨c2,h2,by rw [Nat.one_mul,Nat.zero_add];exact kU hB hc sz _ (by rw [← hl,List.drop_left,List.take_length]),V2⟩⟩,rfl,Nat.le_refl _,by decide,fun e=>by cases e⟩
theorem j4 (w:World) (T:TypeId) (cs:Array Value) (g:Nat) (h:g=w.heap.size):Blk (w.alloc (.cells cs T)) g T cs:=h ▸ Blk.new w T cs
theorem iL (w:World) (o:Obj):(w.alloc o).heap.size=w.heap.size+1:=by simp
theorem QG (n:ByteArray) (w:World):Calls Tryz.prog 44 #[.string n] w (ExR (dz n) w):=by
 go_enter Tryz.func44,Tryz.ntmps44
 go_wp2_with fail;exact rC Tryz.results44 _ _ _ _ (exC (dz n).h 0 none 0 none 0) rfl (Blk.new _ _ _) rfl ⟨_,rfl,tO _ _ rfl,au (b0 w) _⟩
theorem Oq (n:ByteArray) (w:World):Calls Tryz.prog 49 #[.string n] w (ExR (gH n) w):=by
 go_enter Tryz.func49,Tryz.ntmps49
 go_wp2_with fail;exact rC Tryz.results49 _ _ _ _ (exC (gH n).h 0 none 0 none 0) rfl (Blk.new _ _ _) rfl ⟨_,rfl,tO _ _ rfl,au (b0 w) _⟩
theorem Pv (w:World):Calls Tryz.prog 48 #[] w (ExR dU w):=by
 go_enter Tryz.func48,Tryz.ntmps48
 go_wp2_with fail;exact rC Tryz.results48 _ _ _ _ (exC dU.h 0 none 0 none 0) rfl (Blk.new _ _ _) rfl ⟨_,rfl,tO _ _ rfl,au (b0 w) _⟩
theorem RU (op:ByteArray) (x y:Ex) (cs ds:Array Value) (w:World) (hx:ExV w cs x) (hy:ExV w ds y):Calls Tryz.prog 46 #[.string op,.agg cs,.agg ds] w (ExR (j5 op x y) w):=by
 obtain ⟨ua,uc,aa,ac,rfl,E1⟩:=hx;obtain ⟨ub,ud,ab,ad,rfl,E2⟩:=hy;have HE1:=Hy E1;have HE2:=Hy E2;clear E1 E2;unfold exC
 go_enter Tryz.func46,Tryz.ntmps46
 go_wp2_with fail;have X1:=HE1.o;have X2:=HE2.o;have hb:=au (au (au (au (b0 w) (.cells (exC x.h x.ar.len ua uc aa ac) 29)) (.cells (exC y.h y.ar.len ub ud ab ad) 29)) (.cells (exC (j5 op x y).h 2 none 0 (some ⟨w.heap.size+1+1+1,0,none⟩) 2) 29)) (.cells ((exC x.h x.ar.len ua uc aa ac)++(exC y.h y.ar.len ub ud ab ad)) 29);refine rC Tryz.results46 _ _ (w.heap.size+1+1) _ (exC (j5 op x y).h 2 none 0 (some ⟨w.heap.size+1+1+1,0,none⟩) 2) rfl ((j4 _ _ _ _ (by rw [iL,iL])).past _) rfl ⟨_,rfl,⟨none,0,some ⟨w.heap.size+1+1+1,0,none⟩,2,rfl,.nil _,?_⟩,hb⟩;exact vL (X1.keeps hb) (X2.keeps hb) (j4 _ _ _ _ (by rw [iL,iL,iL])) rfl
theorem SN (op:ByteArray) (x:Ex) (cs:Array Value) (w:World) (hx:ExV w cs x):Calls Tryz.prog 47 #[.string op,.agg cs] w (ExR (tC op x) w):=by
 obtain ⟨ua,uc,aa,ac,rfl,E1⟩:=hx;have HE1:=Hy E1;clear E1;unfold exC
 go_enter Tryz.func47,Tryz.ntmps47
 go_wp2_with fail;have X1:=HE1.o;have hb:=au (au (au (b0 w) (.cells (exC x.h x.ar.len ua uc aa ac) 29)) (.cells (exC (tC op x).h 1 none 0 (some ⟨w.heap.size+1+1,0,none⟩) 1) 29)) (.cells (exC x.h x.ar.len ua uc aa ac) 29);refine rC Tryz.results47 _ _ (w.heap.size+1) _ (exC (tC op x).h 1 none 0 (some ⟨w.heap.size+1+1,0,none⟩) 1) rfl ((j4 _ _ _ _ (by rw [iL])).past _) rfl ⟨_,rfl,⟨none,0,some ⟨w.heap.size+1+1,0,none⟩,1,rfl,.nil _,?_⟩,hb⟩;exact JG (X1.keeps hb) (j4 _ _ _ _ (by rw [iL,iL])) rfl
theorem gY (x:Ex) (t:ByteArray) (cs:Array Value) (w:World) (hE:ExV w cs x) (hs:x.szs) (hz:x.ar.sz≤3000) (h0:shE x=0) (ht:B8 (txE x)=t) (T:Tabq w):Calls Tryz.prog 45 #[.agg cs,.string t] w (Bl true w):=by
 obtain ⟨ua,uc,aa,ac,rfl,E1⟩:=hE;have bb:=au (b0 w) (.cells (exC x.h x.ar.len ua uc aa ac) 29);have BB:=Hy bb;have G:=Hy (Blk.new w 29 (exC x.h x.ar.len ua uc aa ac));have C:=qA x ua aa uc ac _ hs hz (E1.keeps bb) (T.stays bb);rw [h0,txO,if_pos rfl,ht] at C;replace C:=Hy C;clear bb E1 T ht;unfold exC at *
 go_enter Tryz.func45,Tryz.ntmps45
 go_wp2_with (refine aF aJ Tryz.underlying29 rfl (.tmp 2) rfl rfl _ _ _ rfl G.o rfl ?_);refine C.o.mono ?_;rintro e w1 ⟨rfl,b1⟩;have B1:=Hy (aA BB.o b1);clear b1 C;go_wp2_with fail;go_ret;exact ⟨rfl,B1.o⟩
def o8:Ex:=⟨{ h0 with k:=1,vk:=2,vn:=2,un:=He 1 },.nil⟩
def qR:Ex:=⟨{ h0 with k:=8 },.cons (dz ⟨#[97]⟩).h .nil (.cons (dz ⟨#[98]⟩).h .nil (.cons (dz ⟨#[99]⟩).h .nil .nil))⟩
def zC:Ex:=⟨{ h0 with k:=1,vk:=2 },.nil⟩
def qF:Ex:=⟨{ h0 with k:=1,nm:=⟨#[115,104,111,112]⟩,vk:=5,vs:=⟨#[115,49]⟩ },.nil⟩
def tX:Ex:=⟨{ h0 with k:=9 },.cons qR.h qR.ar (.cons zC.h .nil .nil)⟩
def tF:Ex:=⟨{ h0 with k:=4,nm:=⟨#[114,97,110,107]⟩ },.cons qF.h .nil .nil⟩
def nA:Ex:=⟨{ h0 with k:=5,op:=⟨#[99,111,117,110,116]⟩,tb:=⟨#[99,108,105,99,107,115]⟩,wk:=1 },.cons dU.h .nil (.cons dU.h .nil .nil)⟩
def mZ:Ex:=⟨{ h0 with k:=5,op:=⟨#[113,117,97,110,116,105,108,101]⟩,tb:=⟨#[99,97,108,108,115]⟩,pa:=950,wk:=2,ws:=60 },.cons (gH ⟨#[109,115]⟩).h .nil (.cons (gH ⟨#[111,107]⟩).h .nil .nil)⟩
def t1X:Tb:=⟨⟨#[116]⟩,⟨#[117,115,101,114]⟩,[⟨⟨#[120]⟩,⟨3,He 1,.empty⟩⟩,⟨⟨#[121]⟩,⟨1,[],.empty⟩⟩],9⟩
def t2X:Tb:=⟨⟨#[116]⟩,⟨#[117,115,101,114]⟩,[],0⟩
def p1X:Ex:=j5 ⟨#[43]⟩ (dz ⟨#[97]⟩) (j5 ⟨#[42]⟩ (dz ⟨#[98]⟩) o8)
def p2X:Ex:=j5 ⟨#[42]⟩ (j5 ⟨#[43]⟩ (dz ⟨#[97]⟩) (dz ⟨#[98]⟩)) (dz ⟨#[99]⟩)
def p3X:Ex:=tC ⟨#[45]⟩ (tC ⟨#[45]⟩ (dz ⟨#[97]⟩))
def p4X:Ex:=j5 ⟨#[45]⟩ (dz ⟨#[97]⟩) (j5 ⟨#[45]⟩ (dz ⟨#[98]⟩) (dz ⟨#[99]⟩))
def p5X:Ex:=tC ⟨#[110,111,116]⟩ (j5 ⟨#[61,61]⟩ (dz ⟨#[97]⟩) (dz ⟨#[98]⟩))
theorem e1:shE p1X=0:=by kernel_rfl
theorem e2:shE p2X=0:=by kernel_rfl
theorem e3:shE p3X=0:=by kernel_rfl
theorem e4:shE p4X=0:=by kernel_rfl
theorem e5:shE p5X=0:=by kernel_rfl
theorem e6:shE tX=0:=by kernel_rfl
theorem e7:shE tF=0:=by kernel_rfl
theorem e8:shE nA=0:=by kernel_rfl
theorem e9:shE mZ=0:=by kernel_rfl
theorem e10:tbE t1X=0:=by kernel_rfl
theorem e11:tbE t2X=0:=by kernel_rfl
theorem e12:shE (gH ⟨#[120]⟩)=3:=by kernel_rfl
theorem x1:B8 (txE p1X)=⟨#[97,32,43,32,98,32,42,32,50,32,91,101,117,114,93]⟩:=by kernel_rfl
theorem x2:B8 (txE p2X)=⟨#[40,97,32,43,32,98,41,32,42,32,99]⟩:=by kernel_rfl
theorem x3:B8 (txE p3X)=⟨#[45,45,97]⟩:=by kernel_rfl
theorem x4:B8 (txE p4X)=⟨#[97,32,45,32,40,98,32,45,32,99,41]⟩:=by kernel_rfl
theorem x5:B8 (txE p5X)=⟨#[110,111,116,32,97,32,61,61,32,98]⟩:=by kernel_rfl
theorem x6:B8 (txE tX)=⟨#[40,105,102,32,97,32,116,104,101,110,32,98,32,101,108,115,101,32,99,41,32,100,101,102,97,117,108,116,32,48]⟩:=by kernel_rfl
theorem x7:B8 (txE tF)=⟨#[114,97,110,107,32,111,102,32,40,64,115,104,111,112,32,34,115,49,34,41]⟩:=by kernel_rfl
theorem x8:B8 (txE nA)=⟨#[99,111,117,110,116,40,99,108,105,99,107,115,44,32,97,108,108,41]⟩:=by kernel_rfl
theorem x9:B8 (txE mZ)=⟨#[113,117,97,110,116,105,108,101,40,99,97,108,108,115,44,32,109,115,44,32,57,53,48,44,32,115,108,105,100,105,110,103,32,54,48,32,119,104,101,114,101,32,111,107,41]⟩:=by kernel_rfl
theorem x10:B8 (tbT t1X)=⟨#[116,97,98,108,101,32,116,32,111,102,32,117,115,101,114,32,123,32,120,58,32,100,101,99,32,91,101,117,114,93,44,32,121,58,32,98,111,111,108,32,125,32,107,101,101,112,32,57,59]⟩:=by kernel_rfl
theorem x11:B8 (tbT t2X)=⟨#[116,97,98,108,101,32,116,32,111,102,32,117,115,101,114,32,123,32,125,59]⟩:=by kernel_rfl
def hdB (h:Hd):Bool:=decide (h.op.size≤140737488355328) && decide (h.nm.size≤140737488355328) && decide (h.tb.size≤140737488355328) && decide (h.vs.size≤140737488355328)
def foB:Fo→Bool
 | .nil=>true
 | .cons h ar r=>hdB h && (foB ar && foB r)
def exB (x:Ex):Bool:=hdB x.h && foB x.ar
theorem JD {h:Hd} (e:hdB h=true):h.sz:=by
 unfold hdB at e;simp only [Bool.and_eq_true,decide_eq_true_eq] at e;exact ⟨e.1.1.1,e.1.1.2,e.1.2,e.2⟩
theorem Bv:∀ (F:Fo),foB F=true→F.szs
 | .nil,_=>trivial
 | .cons h ar r,e=>by
  unfold foB at e
  rw [Bool.and_eq_true,Bool.and_eq_true] at e
  have a:=JD e.1
  have b:=Bv ar e.2.1
  have c:=Bv r e.2.2
  exact ⟨a,b,c⟩
theorem jm {x:Ex} (e:exB x=true):x.szs:=by
 unfold exB at e;rw [Bool.and_eq_true] at e;have a:=JD e.1;have b:=Bv x.ar e.2;exact ⟨a,b⟩
theorem s1:p1X.szs:=jm (by kernel_rfl)
theorem s2:p2X.szs:=jm (by kernel_rfl)
theorem s3:p3X.szs:=jm (by kernel_rfl)
theorem s4:p4X.szs:=jm (by kernel_rfl)
theorem s5:p5X.szs:=jm (by kernel_rfl)
theorem s6:tX.szs:=jm (by kernel_rfl)
theorem s7:tF.szs:=jm (by kernel_rfl)
theorem s8:nA.szs:=jm (by kernel_rfl)
theorem s9:mZ.szs:=jm (by kernel_rfl)
theorem s10:(gH ⟨#[120]⟩).szs:=jm (by kernel_rfl)
theorem z1:p1X.ar.sz≤3000:=by decide
theorem z2:p2X.ar.sz≤3000:=by decide
theorem z3:p3X.ar.sz≤3000:=by decide
theorem z4:p4X.ar.sz≤3000:=by decide
theorem z5:p5X.ar.sz≤3000:=by decide
theorem z6:tX.ar.sz≤3000:=by decide
theorem z7:tF.ar.sz≤3000:=by decide
theorem z8:nA.ar.sz≤3000:=by decide
theorem z9:mZ.ar.sz≤3000:=by decide
theorem z10:(gH ⟨#[120]⟩).ar.sz≤3000:=by decide
theorem ExV.size {w:World} {cs:Array Value} {x:Ex} (h:ExV w cs x):cs.size=12:=by
 obtain ⟨_,_,_,_,rfl,_⟩:=h;rfl
theorem lK {ops:Array Oper} {rest:List Oper} {o:Oper} {a:Act} {w v:World} {Q:Exit→Act→World→Prop} (x y:Operand) (ho:o.op=.store 29 x y) (hgd:o.guard=none)
    (g:Nat) (T':TypeId) (cells old:Array Value) (X:Ex) (hx:a.eval x=.pointer (some ⟨g,0,none⟩)) (hy:a.eval y=.agg cells) (hE:ExV v cells X) (hB:Blk w g T' old) (hs:old.size=12)
    (h:∀ w',Blk w' g T' cells→St g w w'→wpList Tryz.prog ops Q rest (a.put o.dst undef) w'):wpList Tryz.prog ops Q (o :: rest) a w:=by
 obtain ⟨_,_,_,_,rfl,_⟩:=hE;exact aL aJ x y ho hgd g T' _ old hx hy hB hs rfl (by simp [exC,Value.oneCell']) h
theorem jv {P:Program} {c:Code} {Q:Exit→Act→World→Prop} {a:Act} {w:World} (W:World) (h:W=w) (k:c.wp P Q a W):c.wp P Q a w:=h ▸ k
def c3 (ua aa ub ab ue ae:Option Addr) (uc ac ud ad uf af:Nat):Array Value:=((exC (dz ⟨#[97]⟩).h 0 ua uc aa ac).toList++((exC (dz ⟨#[98]⟩).h 0 ub ud ab ad).toList++(exC (dz ⟨#[99]⟩).h 0 ue uf ae af).toList)).toArray
theorem Rv {w:World} {g:Nat} {T:TypeId} {ua aa ub ab ue ae:Option Addr} {uc ac ud ad uf af:Nat} (hx:Ec w (dz ⟨#[97]⟩) ua uc aa ac) (hy:Ec w (dz ⟨#[98]⟩) ub ud ab ad) (hz:Ec w (dz ⟨#[99]⟩) ue uf ae af) (hB:Blk w g T (c3 ua aa ub ab ue ae uc ac ud ad uf af)) :
  Ec w qR none 0 (some ⟨g,0,none⟩) 3:=⟨.nil _,LA hx hy hz hB rfl⟩
def d2 (gi:Nat):Array Value:=((exC qR.h 3 none 0 (some ⟨gi,0,none⟩) 3).toList++(exC zC.h 0 none 0 none 0).toList).toArray
theorem Rm {w:World} {g gi:Nat} {T:TypeId} (H:Ec w qR none 0 (some ⟨gi,0,none⟩) 3) (hB:Blk w g T (d2 gi)):ExV w (exC tX.h 2 none 0 (some ⟨g,0,none⟩) 2) tX :=
 ⟨none,0,_,2,rfl,.nil _,vL H ⟨.nil _,Fs.nil _⟩ hB rfl⟩
theorem QL {w:World} {g:Nat} {T:TypeId} (hB:Blk w g T (exC qF.h 0 none 0 none 0)):ExV w (exC tF.h 1 none 0 (some ⟨g,0,none⟩) 1) tF :=
 ⟨none,0,_,1,rfl,.nil _,JG (x:=qF) ⟨.nil _,Fs.nil _⟩ hB rfl⟩
def p2 (x y:Ex) (ua aa ub ab:Option Addr) (uc ac ud ad:Nat):Array Value:=((exC x.h x.ar.len ua uc aa ac).toList++(exC y.h y.ar.len ub ud ab ad).toList).toArray
theorem Rt {w:World} {g:Nat} {T:TypeId} {ua aa ub ab:Option Addr} {uc ac ud ad:Nat} (hx:Ec w dU ua uc aa ac) (hy:Ec w dU ub ud ab ad) (hB:Blk w g T (p2 dU dU ua aa ub ab uc ac ud ad)):ExV w (exC nA.h 2 none 0 (some ⟨g,0,none⟩) 2) nA :=
 ⟨none,0,_,2,rfl,.nil _,vL hx hy hB rfl⟩
theorem Qi {w:World} {g:Nat} {T:TypeId} {ua aa ub ab:Option Addr} {uc ac ud ad:Nat} (hx:Ec w (gH ⟨#[109,115]⟩) ua uc aa ac) (hy:Ec w (gH ⟨#[111,107]⟩) ub ud ab ad) (hB:Blk w g T (p2 (gH ⟨#[109,115]⟩) (gH ⟨#[111,107]⟩) ua aa ub ab uc ac ud ad)):ExV w (exC mZ.h 2 none 0 (some ⟨g,0,none⟩) 2) mZ :=
 ⟨none,0,_,2,rfl,.nil _,vL hx hy hB rfl⟩
def f2 (gu:Nat):Array Value:=((fiC ⟨⟨#[120]⟩,⟨3,He 1,.empty⟩⟩ (some ⟨gu,0,none⟩) 1).toList++(fiC ⟨⟨#[121]⟩,⟨1,[],.empty⟩⟩ none 0).toList).toArray
theorem Q8 {w:World} {g gu:Nat} {T:TypeId} (hU:un.Sl w (some ⟨gu,0,none⟩) 1 1 (He 1)) (hB:Blk w g T (f2 gu)):Fis w (some ⟨g,0,none⟩) 2 2 t1X.fs :=
 Qd hB rfl rfl rfl ⟨_,_,rfl,hU⟩ ⟨none,0,rfl,.nil _⟩
theorem PL {w:World} {g:Nat} (hA:Fis w (some ⟨g,0,none⟩) 2 2 t1X.fs) (T:Tabq w):Calls Tryz.prog 20 #[.agg (tbC t1X (some ⟨g,0,none⟩) 2)] w (Tx ⟨#[116,97,98,108,101,32,116,32,111,102,32,117,115,101,114,32,123,32,120,58,32,100,101,99,32,91,101,117,114,93,44,32,121,58,32,98,111,111,108,32,125,32,107,101,101,112,32,57,59]⟩ 0 w):=by
 have h:=uS t1X _ 2 w ⟨by decide,by decide,fun f hf=>by
   rcases List.mem_cons.1 hf with h | h
   · subst h;exact ⟨by decide,by decide⟩
   · rcases List.mem_cons.1 h with h | h
     · subst h;exact ⟨by decide,by decide⟩
     · cases h⟩ hA T
 rwa [e10,txO,if_pos rfl,x10] at h
theorem PK {w:World} (T:Tabq w):Calls Tryz.prog 20 #[.agg (tbC t2X none 0)] w (Tx ⟨#[116,97,98,108,101,32,116,32,111,102,32,117,115,101,114,32,123,32,125,59]⟩ 0 w):=by
 have h:=uS t2X none 0 w ⟨by decide,by decide,fun f hf=>by cases hf⟩ (Rw.nil 4 FiV w) T
 rwa [e11,txO,if_pos rfl,x11] at h
theorem TN {w:World} {cs:Array Value} (hE:ExV w cs (gH ⟨#[120]⟩)) (T:Tabq w):Calls Tryz.prog 15 #[.agg cs] w (Tx .empty 3 w):=by
 obtain ⟨ua,uc,aa,ac,rfl,E⟩:=hE;have h:=qA (gH ⟨#[120]⟩) ua aa uc ac w s10 z10 E T
 rwa [e12,txO,if_neg (by decide)] at h
end ch
end Go.Proofs.YtbahfelnbofjjaaGreatDoor
