/-
  A table; a feature.
-/
import Derived.Great.BuildSlice
import Derived.Test.YtbpijgddfaefkaaGreatDoorK17
set_option maxRecDepth 100000
set_option maxHeartbeats 16000000
namespace Go.Proofs.YtbpijgddfaefkaaGreatDoor
namespace pa
open Go.RowKit dec
theorem fJ {T:TypeId} {n:Nat} {d:TypeDesc} (hi:(Tryz.prog.info? T).map (·.size)=some n) (hu:Tryz.prog.underlying T=some d) (hd:tZ d=true) (x:Operand) {o:Oper} {a:Act} {w:World} {K:Act→World→Prop} {Q:Exit→Act→World→Prop} (ho:o.op=.load T x)
  (g:Nat) (T':TypeId) (cells:Array Value) (hx:a.eval x=.pointer (some ⟨g,0,none⟩)) (hB:Blk w g T' cells) (hc:cells.size=n)
  (h:K (a.put o.dst (.agg cells)) w):o.wp Tryz.prog a w K Q :=
 wp_load_row T x ho g hx T' cells (0,0) d hB hu (by cases d <;> first | rfl | cases hd) (by rw [hc];exact hi) h
theorem Rw.val {T:TypeId} {k base:Nat} {w:World} {v:Value} {cs:List (List Value)} (h:Rw T k w base v cs):∃ a n cap,v=.slice a n cap:=by
 rcases h.own.2 with ⟨rfl,_⟩ | ⟨g,cap,cur,rfl,_⟩
 ·exact ⟨none,0,0,rfl⟩
 exact ⟨_,_,cap,rfl⟩
theorem St.kpT {ok:TypeId→Prop} {g:Nat} {w w':World} {T':TypeId} {cs:Array Value} (hs:St g w w') (hB:Blk w g T' cs) (hT:¬ ok T') (C:Nat):KpT ok C w w':=fun b T c fr _ hok hcell=>hs.block b (by
 rintro rfl
 rw [show w.heap[b]? = _ from hB] at hcell
 cases hcell
 exact hT hok)
theorem bN {T ST:TypeId} {k bytes:Nat} {z:Value} (I:Inf T ST k bytes z) {o:Oper} {a:Act} {w:World} {K:Act→World→Prop} {Q:Exit→Act→World→Prop} (x:Operand) (ho:o.op=.buildSlice ST 1 #[(0,x)])
    (cells:Array Value) (hx:a.eval x=.agg cells) (hc:cells.size=k) (hk:k≤1024)
    (h:K (a.put o.dst (.slice (some ⟨w.heap.size,0,none⟩) 1 1)) (w.alloc (.cells cells T))):o.wp Tryz.prog a w K Q:=by
 obtain ⟨i,hi,hz0,hz1,hz2⟩:=info_parts I.inf;have hp:=I.pos;refine wp_buildSlice ST T 1 #[(0,x)] ho cells i z I.und hi hz0 (by rw [hz1];omega) (by rw [hz1];omega) ?_ h;have e1:((#[(0,x)]:Array (Nat × Operand)).map fun (i,x)=>(i,a.eval x)).toList=([.agg cells].zipIdx 0).map fun y=>(y.2,y.1):=by simp [hx]
 rw [e1,hz1];have:=Great.fill_whole hp [.agg cells] ((Array.range (1 * k)).map (z.cells[· % z.cells.size]!)) (by intro v hv;simp at hv;subst hv;simpa [Value.cells] using hc) (by simp);simpa [Value.cells] using this
theorem Bv {α β γ:Type} (x:Rs α) (f:α→List Tk→Rs β) (g:β→List Tk→Rs γ):(x.bind f).bind g=x.bind fun v r=>(f v r).bind g:=by cases x <;> rfl
theorem JB (w0:World) (base B g:Nat) (ta:Option Addr) (n cap:Nat) (m:Mo) (l:List Tk) (w:World) (h:Mf w0 base B g ta n cap w m l) (hn:m.ts.length<1048577) (r:Rs Tb) (hr:ji l=r) (hne:r≠.out) :
    Calls Tryz.prog 73 #[.pointer (some ⟨B,0,none⟩),.pointer (some ⟨g,0,none⟩)] w (Mst w0 base B g ta n cap m (r.bind fun t q=>.ok { m with ts:=m.ts++[t] } q) w):=by
 have P:=Hy h.ps;have M:=Hy (Mv.refl w.heap.size B w);have HF:=Hy h;have NE:=Hy hne;replace hn:=Hy hn;unfold ji at hr;have HR:=Hy hr;clear h hne hr
 go_enter Tryz.func73,Tryz.ntmps73
 go_wp2_with fail;refine (iM B ⟨#[116,97,98,108,101]⟩ l _ P.o _ rfl (iK _ _)).mono ?_;rintro e w1 h1;rcases hG1:nma ⟨#[116,97,98,108,101]⟩ l with _ | ⟨v1,l1⟩ | ⟨a1,c1,l1⟩
 ·exact bou HR hG1 NE
 rotate_left
 ·rw [hG1] at h1;obtain ⟨rfl,pp,mm⟩:=h1;unfold thr;have hno:=bno HR hG1;have PP:=Hy pp;have MM:=Hy (M.o.next mm);clear pp mm hG1;go_wp2_with fail;exact ⟨rfl,dN HF.o (by rw [hno.o];rfl) PP.o MM.o⟩
 rw [hG1] at h1;obtain ⟨u1,rfl,vv,pp,mm⟩:=h1;replace HR:=HR.o;rw [hG1] at HR;simp only [aC] at HR;replace HR:=Hy HR;replace M:=Hy (M.o.next mm);replace P:=Hy pp;clear pp mm hG1;obtain rfl:u1=.string v1:=vv;go_wp2_with fail;refine (iM B ⟨#[111,102]⟩ l1 _ P.o _ rfl (iK _ _)).mono ?_;rintro e w2 h2;rcases hG2:nma ⟨#[111,102]⟩ l1 with _ | ⟨v2,l2⟩ | ⟨a2,c2,l2⟩
 ·exact bou HR hG2 NE
 rotate_left
 ·rw [hG2] at h2;obtain ⟨rfl,pp,mm⟩:=h2;unfold thr;have hno:=bno HR hG2;have PP:=Hy pp;have MM:=Hy (M.o.next mm);clear pp mm hG2;go_wp2_with fail;exact ⟨rfl,dN HF.o (by rw [hno.o];rfl) PP.o MM.o⟩
 rw [hG2] at h2;obtain ⟨u2,rfl,vv,pp,mm⟩:=h2;replace HR:=HR.o;rw [hG2] at HR;simp only [aC] at HR;replace HR:=Hy HR;replace M:=Hy (M.o.next mm);replace P:=Hy pp;clear pp mm hG2;obtain rfl:u2=.string v2:=vv;go_wp2_with (refine aA dx (.tmp 4) (.tmp 9) rfl rfl _ _ _ _ rfl rfl (Blk.new _ _ _) rfl rfl (by simp [Value.oneCell']) ?_;intro wL L hs;have bb:=(aj (b0 w2) _).trans (hs.below lr);replace L:=Hy L;have gL:=Hy P.o.lt;have hL:=Hy M.o.size;replace M:=Hy (M.o.bG bb);replace P:=Hy (P.o.keeps bb);clear bb hs);go_wp2_with fail;refine (aY B ⟨#[123]⟩ l2 _ P.o).mono ?_;rintro e w3 h3;rcases hG3:need ⟨#[123]⟩ l2 with _ | ⟨v3,l3⟩ | ⟨a3,c3,l3⟩
 ·exact bou HR hG3 NE
 rotate_left
 ·rw [hG3] at h3;obtain ⟨rfl,pp,mm⟩:=h3;unfold thr;have hno:=bno HR hG3;have PP:=Hy pp;have MM:=Hy (M.o.next mm);clear pp mm hG3;go_wp2_with fail;exact ⟨rfl,dN HF.o (by rw [hno.o];rfl) PP.o MM.o⟩
 rw [hG3] at h3;obtain ⟨u3,rfl,vv,pp,mm⟩:=h3;replace HR:=HR.o;rw [hG3] at HR;simp only [aC] at HR;replace HR:=Hy HR;replace M:=Hy (M.o.next mm);replace L:=Hy (L.o.mv mm (by have:=gL.o;omega) L.o.lt);replace P:=Hy pp;clear pp mm hG3;obtain rfl:u3=.tuple #[]:=vv;cases hf:isT ⟨#[125]⟩ l3
 ·replace HR:=HR.o;rw [show eP l3=(lst fie ⟨#[44]⟩ l3).bind fun fs r=>(need ⟨#[125]⟩ r).bind fun _ r=>.ok fs r from by unfold eP;rw [hf];rfl,Bv] at HR;replace HR:=Hy HR;replace hf:=Hy hf;go_wp2_with fail;refine (aN B ⟨#[125]⟩ l3 _ P.o hf.o).mono ?_;rintro e w4 ⟨rfl,pp,mm⟩;replace M:=Hy (M.o.next mm);replace L:=Hy (L.o.mv mm (by have:=gL.o;omega) L.o.lt);replace P:=Hy pp;clear pp mm;have sB:=Hy M.o.size;have hmf:∀ (fn:Fn) (first cap:Array Value) (w:World),(Instr.makeFunc fn first cap).run Tryz.prog w=.ok (.func fn first cap) w:=fun _ _ _ _=>rfl;go_wp2_with fail;refine (Ia B ⟨#[44]⟩ l3 _ P.o _ rfl (sF (fun _ _ _=>jT) jv _)).mono ?_;rintro e w5 h5;rcases hG5:lst fie ⟨#[44]⟩ l3 with _ | ⟨v5,l5⟩ | ⟨a5,c5,l5⟩
  ·exact bou HR hG5 NE
  rotate_left
  ·rw [hG5] at h5;obtain ⟨rfl,pp,mm⟩:=h5;unfold thr;have hno:=bno HR hG5;have PP:=Hy pp;have MM:=Hy (M.o.next mm);clear pp mm hG5;go_wp2_with fail;exact ⟨rfl,dN HF.o (by rw [hno.o];rfl) PP.o MM.o⟩
  rw [hG5] at h5;obtain ⟨u5,rfl,vv,pp,mm⟩:=h5;replace HR:=HR.o;rw [hG5] at HR;simp only [aC] at HR;replace HR:=Hy HR;replace M:=Hy (M.o.next mm);replace L:=Hy (L.o.mv mm (by have:=gL.o;omega) L.o.lt);replace P:=Hy pp;clear pp mm hG5;have V5:=Hy vv;clear vv;obtain ⟨fa,fcap,rfl,A⟩:=V5.o;replace A:=Hy (FsA.less (C':=base) A (Nat.le_trans HF.o.h4 sB.o));clear V5;replace HR:=HR.o;rw [Bv] at HR;replace HR:=Hy HR;have e0:=L.o.cell 2;have z0:=L.o.free 2;simp only [sz2,sz3,sz4] at e0;go_wp2_with fail;have KA:=Hy (show KpT (fun T=>T=55∨T=140) base w5 (World.setCell w5 ⟨w2.heap.size,2,none⟩ (.slice fa v5.length fcap)) from fun b T cs fr hC hT hcell=>(L.o.setCell 2 (.slice fa v5.length fcap)).2.block b (by rintro rfl;rw [show w5.heap[w2.heap.size]? = _ from L.o] at hcell;cases hcell;rcases hT with hT | hT <;> cases hT));have sc:=L.o.setCell 2 (.slice fa v5.length fcap);replace P:=Hy (P.o.st sc.2 gL.o);replace M:=Hy (M.o.trans (sc.2.mv hL.o));replace L:=Hy (show Blk _ w2.heap.size 85 #[.string v1,.string v2,.slice fa v5.length fcap,.int .i64 0] from sc.1);replace A:=Hy (A.o.kpT (ok:=fun T=>T=55∨T=140) (.inl rfl) (.inr rfl) KA.o);clear e0 z0 KA;generalize World.setCell w5 ⟨w2.heap.size,2,none⟩ (.slice fa v5.length fcap)=wf at *;refine (aY B ⟨#[125]⟩ l5 _ P.o).mono ?_;rintro e w6 h6;rcases hG6:need ⟨#[125]⟩ l5 with _ | ⟨v6,l6⟩ | ⟨a6,c6,l6⟩
  ·exact bou HR hG6 NE
  rotate_left
  ·rw [hG6] at h6;obtain ⟨rfl,pp,mm⟩:=h6;unfold thr;have hno:=bno HR hG6;have PP:=Hy pp;have MM:=Hy (M.o.next mm);clear pp mm hG6;go_wp2_with fail;exact ⟨rfl,dN HF.o (by rw [hno.o];rfl) PP.o MM.o⟩
  rw [hG6] at h6;obtain ⟨u6,rfl,vv,pp,mm⟩:=h6;replace HR:=HR.o;rw [hG6] at HR;simp only [aC] at HR;replace HR:=Hy HR;replace M:=Hy (M.o.next mm);replace L:=Hy (L.o.mv mm (by have:=gL.o;omega) L.o.lt);replace A:=Hy (A.o.kpT trivial trivial (mm.kp HF.o.h3));replace P:=Hy pp;clear pp mm hG6;obtain rfl:u6=.tuple #[]:=vv;cases hk2:isT ⟨#[107,101,101,112]⟩ l6
  ·replace HR:=HR.o;rw [show dK l6=.ok 0 l6 from by unfold dK;rw [hk2];rfl] at HR;replace HR:=Hy HR;replace hk2:=Hy hk2;go_wp2_with fail;refine (aN B ⟨#[107,101,101,112]⟩ l6 _ P.o hk2.o).mono ?_;rintro e w7 ⟨rfl,pp,mm⟩;replace M:=Hy (M.o.next mm);replace L:=Hy (L.o.mv mm (by have:=gL.o;omega) L.o.lt);replace A:=Hy (A.o.kpT trivial trivial (mm.kp HF.o.h3));replace P:=Hy pp;clear pp mm;simp only [aC] at HR;replace HR:=Hy HR.o;go_wp2_with fail;refine (aY B ⟨#[59]⟩ l6 _ P.o).mono ?_;rintro e w8 h8;rcases hG8:need ⟨#[59]⟩ l6 with _ | ⟨v8,l8⟩ | ⟨a8,c8,l8⟩
   ·exact bou HR hG8 NE
   rotate_left
   ·rw [hG8] at h8;obtain ⟨rfl,pp,mm⟩:=h8;unfold thr;have hno:=bno HR hG8;have PP:=Hy pp;have MM:=Hy (M.o.next mm);clear pp mm hG8;go_wp2_with fail;exact ⟨rfl,dN HF.o (by rw [hno.o];rfl) PP.o MM.o⟩
   rw [hG8] at h8;obtain ⟨u8,rfl,vv,pp,mm⟩:=h8;replace HR:=HR.o;rw [hG8] at HR;simp only [aC] at HR;replace HR:=Hy HR;replace M:=Hy (M.o.next mm);replace L:=Hy (L.o.mv mm (by have:=gL.o;omega) L.o.lt);replace A:=Hy (A.o.kpT trivial trivial (mm.kp HF.o.h3));replace P:=Hy pp;clear pp mm hG8;obtain rfl:u8=.tuple #[]:=vv;go_wp2_with fail;have FF:=HF.o.step M.o P.o;obtain ⟨tv,fv,ct,cf,hb,r1,r2,e1,e2⟩:=FF.mm.ex;replace FF:=Hy FF;replace r1:=Hy r1;replace r2:=Hy r2;replace hn:=Hy (show ct.length<1048577 from by rw [e1.1];exact hn.o);replace e1:=Hy e1;replace e2:=Hy e2;have hbb:=Hy hb;have k0:=hb.cell 0;have z0:=hb.free 0;simp only [sz2,sz3] at k0;clear hb;generalize hwc:w8=wc at *;have k1:wc.drew.cell? ⟨g,0,none⟩=some tv:=k0;have L1:=Hy (show Blk wc.drew w2.heap.size 85 #[.string v1,.string v2,.slice fa v5.length fcap,.int .i64 0] from L.o);refine wp_region_held_drew (S:=fun _=>True) (by kernel_rfl) trivial (fun hH=>?_);refine aB 0 29 ?_ rfl (by kernel_rfl) rfl (fun _ _ _ h=>h) rfl hH (fun w' hS=>?_) ?_;rotate_left
   ·go_simp;try with_reducible rfl
   simp only [sz0,sz1];refine aB 1 30 ?_ rfl (by kernel_rfl) rfl (fun _ _ _ h=>h) rfl hH (fun w' hS=>?_) ?_;rotate_left
   ·go_simp;try with_reducible rfl
   simp only [sz0,sz1];refine aB 2 31 ?_ rfl (by kernel_rfl) rfl (fun _ _ _ h=>h) rfl hH (fun w' hS=>?_) ?_;rotate_left
   ·go_simp;try with_reducible rfl
   simp only [sz0,sz1];refine aB 3 32 ?_ rfl (by kernel_rfl) rfl (fun _ _ _ h=>h) rfl hH (fun w' hS=>?_) ?_;rotate_left
   ·go_simp;try with_reducible rfl
   simp only [sz0,sz1];refine bI (i:=4) (j:=5) rfl rfl (by kernel_rfl) rfl rfl (fun K hK=>?_) (fun K hK=>?_)
   focus
    go_simp;refine hK.o _ _ trivial (fun _=>?_);clear hK K;refine ak (i:=5) rfl (by kernel_rfl) rfl (fun K hK=>?_);refine fJ dx Tryz.underlying85 rfl (.tmp 4) rfl w2.heap.size _ #[.string v1,.string v2,.slice fa v5.length fcap,.int .i64 0] rfl L1.o rfl ?_;refine hK.o _ _ trivial (fun _=>?_);clear hK K;simp only [Act.put,sz5,sz0,sz1];refine ak (i:=6) rfl (by kernel_rfl) rfl (fun K hK=>?_);refine bN bV (.tmp 34) rfl #[.string v1,.string v2,.slice fa v5.length fcap,.int .i64 0] rfl rfl (by decide) ?_;refine hK.o _ _ trivial (fun _=>?_);clear hK K;simp only [Act.put,sz5,sz0,sz1]
   rotate_left
   focus
    refine fJ dx Tryz.underlying85 rfl (.tmp 4) rfl w2.heap.size _ #[.string v1,.string v2,.slice fa v5.length fcap,.int .i64 0] rfl L1.o rfl ?_;refine hK.o _ _ trivial (fun _=>?_);clear hK K;simp only [Act.put,sz5,sz0,sz1];refine bI (i:=4) (j:=6) rfl rfl (by kernel_rfl) rfl rfl (fun K hK=>?_) (fun K hK=>?_)
    focus
     go_simp;refine hK.o _ _ trivial (fun _=>?_);clear hK K;refine ak (i:=6) rfl (by kernel_rfl) rfl (fun K hK=>?_);refine bN bV (.tmp 34) rfl #[.string v1,.string v2,.slice fa v5.length fcap,.int .i64 0] rfl rfl (by decide) ?_;refine hK.o _ _ trivial (fun _=>?_);clear hK K;simp only [Act.put,sz5,sz0,sz1]
    rotate_left
    focus
     refine bN bV (.tmp 34) rfl #[.string v1,.string v2,.slice fa v5.length fcap,.int .i64 0] rfl rfl (by decide) ?_;refine hK.o _ _ trivial (fun _=>?_);clear hK K;simp only [Act.put,sz5,sz0,sz1];refine ak (i:=4) rfl (by kernel_rfl) rfl (fun K hK=>?_);have k2:(wc.alloc (.cells #[.string v1,.string v2,.slice fa v5.length fcap,.int .i64 0] 85)).cell? ⟨g,0,none⟩=some tv:=by rw [World.cell?_alloc_some _ _ _ (by rw [k0];rfl)];exact k0
     go_simp;refine hK.o _ _ trivial (fun _=>?_);clear hK K;clear k2
   all_goals
    refine ak (i:=7) rfl (by kernel_rfl) rfl (fun K hK=>?_);refine fV bV _ (.tmp 33) (.tmp 35) rfl base tv ct rfl (r1.o.keeps (aj (b0 wc).drew (.cells #[.string v1,.string v2,.slice fa v5.length fcap,.int .i64 0] 85))) wc.heap.size 85 [.string v1,.string v2,.slice fa v5.length fcap,.int .i64 0] rfl (Blk.new _ _ _) rfl (by simp [Value.oneCell']) hn.o (by have:=FF.o.h4;simp;omega) ?_;intro v' w9 O9 b9 g9;have pf:=FF.o.pR (aj (b0 wc).drew (.cells #[.string v1,.string v2,.slice fa v5.length fcap,.int .i64 0] 85)) hbb.o r1.o r2.o e1.o e2.o g9 O9 (x:=⟨v1,v2,v5,0⟩) ⟨fa,fcap,rfl,A.o⟩;have hB9:Blk w9 g 27 #[tv,fv]:=(hbb.o.below (aj (b0 wc).drew (.cells #[.string v1,.string v2,.slice fa v5.length fcap,.int .i64 0] 85)) hbb.o.lt).below b9 (by have:=FF.o.h2;have:=FF.o.h3;omega);have k9:w9.cell? ⟨g,0,none⟩=some tv:=hB9.cell 0;have z9:=hB9.free 0;obtain ⟨va,vn,vcap,rfl⟩:=O9.val;replace pf:=Hy pf;clear b9 g9 hB9;refine hK.o _ _ trivial (fun _=>?_);clear hK K;simp only [Act.put,sz5,sz0,sz1];refine aB 8 37 ?_ rfl (by kernel_rfl) rfl (fun _ _ _ h=>h) rfl hH (fun w' hS=>?_) ?_;rotate_left
    ·go_simp;try with_reducible rfl
    simp only [sz0,sz1];refine aB 9 38 ?_ rfl (by kernel_rfl) rfl (fun _ _ _ h=>h) rfl hH (fun w' hS=>?_) ?_;rotate_left
    ·go_simp;try with_reducible rfl
    simp only [sz0,sz1];refine ak (i:=10) rfl (by kernel_rfl) rfl (fun K hK=>?_);go_simp;refine hK.o _ _ trivial (fun _=>?_);clear hK K;refine wpAnyH_done (by kernel_rfl) ?_ _;go_wp2_with fail;go_end0;subst hwc;exact jR (by rw [← HR.o];rfl) pf.o.1 ((Mq.mv M.o).trans pf.o.2)
  replace HR:=HR.o;rw [show dK l6=int l6.tail from by unfold dK;rw [hk2];rfl] at HR;replace HR:=Hy HR;replace hk2:=Hy hk2;go_wp2_with fail;refine (aX B ⟨#[107,101,101,112]⟩ l6 _ P.o hk2.o).mono ?_;rintro e w7 ⟨rfl,pp,mm⟩;replace M:=Hy (M.o.next mm);replace L:=Hy (L.o.mv mm (by have:=gL.o;omega) L.o.lt);replace A:=Hy (A.o.kpT trivial trivial (mm.kp HF.o.h3));replace P:=Hy pp;clear pp mm;go_wp2_with fail;refine (dQ B l6.tail _ P.o _ rfl (int_ne _)).mono ?_;rintro e w8 h8;rcases hG8:int l6.tail with _ | ⟨v8,l8⟩ | ⟨a8,c8,l8⟩
  ·exact bou HR hG8 NE
  rotate_left
  ·rw [hG8] at h8;obtain ⟨rfl,pp,mm⟩:=h8;unfold thr;have hno:=bno HR hG8;have PP:=Hy pp;have MM:=Hy (M.o.next mm);clear pp mm hG8;go_wp2_with fail;exact ⟨rfl,dN HF.o (by rw [hno.o];rfl) PP.o MM.o⟩
  rw [hG8] at h8;obtain ⟨u8,rfl,vv,pp,mm⟩:=h8;replace HR:=HR.o;rw [hG8] at HR;simp only [aC] at HR;replace HR:=Hy HR;replace M:=Hy (M.o.next mm);replace L:=Hy (L.o.mv mm (by have:=gL.o;omega) L.o.lt);replace A:=Hy (A.o.kpT trivial trivial (mm.kp HF.o.h3));replace P:=Hy pp;clear pp mm hG8;obtain rfl:u8=.int .i64 v8:=vv;have e0:=L.o.cell 3;have z0:=L.o.free 3;simp only [sz2,sz3,sz4] at e0;go_wp2_with fail;have KA:=Hy (show KpT (fun T=>T=55∨T=140) base w8 (World.setCell w8 ⟨w2.heap.size,3,none⟩ (.int .i64 v8)) from fun b T cs fr hC hT hcell=>(L.o.setCell 3 (.int .i64 v8)).2.block b (by rintro rfl;rw [show w8.heap[w2.heap.size]? = _ from L.o] at hcell;cases hcell;rcases hT with hT | hT <;> cases hT));have sc:=L.o.setCell 3 (.int .i64 v8);replace P:=Hy (P.o.st sc.2 gL.o);replace M:=Hy (M.o.trans (sc.2.mv hL.o));replace L:=Hy (show Blk _ w2.heap.size 85 #[.string v1,.string v2,.slice fa v5.length fcap,.int .i64 v8] from sc.1);replace A:=Hy (A.o.kpT (ok:=fun T=>T=55∨T=140) (.inl rfl) (.inr rfl) KA.o);clear KA;clear e0 z0;generalize World.setCell w8 ⟨w2.heap.size,3,none⟩ (.int .i64 v8)=wk at *;refine (aY B ⟨#[59]⟩ l8 _ P.o).mono ?_;rintro e w9 h9;rcases hG9:need ⟨#[59]⟩ l8 with _ | ⟨v9,l9⟩ | ⟨a9,c9,l9⟩
  ·exact bou HR hG9 NE
  rotate_left
  ·rw [hG9] at h9;obtain ⟨rfl,pp,mm⟩:=h9;unfold thr;have hno:=bno HR hG9;have PP:=Hy pp;have MM:=Hy (M.o.next mm);clear pp mm hG9;go_wp2_with fail;exact ⟨rfl,dN HF.o (by rw [hno.o];rfl) PP.o MM.o⟩
  rw [hG9] at h9;obtain ⟨u9,rfl,vv,pp,mm⟩:=h9;replace HR:=HR.o;rw [hG9] at HR;simp only [aC] at HR;replace HR:=Hy HR;replace M:=Hy (M.o.next mm);replace L:=Hy (L.o.mv mm (by have:=gL.o;omega) L.o.lt);replace A:=Hy (A.o.kpT trivial trivial (mm.kp HF.o.h3));replace P:=Hy pp;clear pp mm hG9;obtain rfl:u9=.tuple #[]:=vv;go_wp2_with fail;have FF:=HF.o.step M.o P.o;obtain ⟨tv,fv,ct,cf,hb,r1,r2,e1,e2⟩:=FF.mm.ex;replace FF:=Hy FF;replace r1:=Hy r1;replace r2:=Hy r2;replace hn:=Hy (show ct.length<1048577 from by rw [e1.1];exact hn.o);replace e1:=Hy e1;replace e2:=Hy e2;have hbb:=Hy hb;have k0:=hb.cell 0;have z0:=hb.free 0;simp only [sz2,sz3] at k0;clear hb;generalize hwc:w9=wc at *;have k1:wc.drew.cell? ⟨g,0,none⟩=some tv:=k0;have L1:=Hy (show Blk wc.drew w2.heap.size 85 #[.string v1,.string v2,.slice fa v5.length fcap,.int .i64 v8] from L.o);refine wp_region_held_drew (S:=fun _=>True) (by kernel_rfl) trivial (fun hH=>?_);refine aB 0 29 ?_ rfl (by kernel_rfl) rfl (fun _ _ _ h=>h) rfl hH (fun w' hS=>?_) ?_;rotate_left
  ·go_simp;try with_reducible rfl
  simp only [sz0,sz1];refine aB 1 30 ?_ rfl (by kernel_rfl) rfl (fun _ _ _ h=>h) rfl hH (fun w' hS=>?_) ?_;rotate_left
  ·go_simp;try with_reducible rfl
  simp only [sz0,sz1];refine aB 2 31 ?_ rfl (by kernel_rfl) rfl (fun _ _ _ h=>h) rfl hH (fun w' hS=>?_) ?_;rotate_left
  ·go_simp;try with_reducible rfl
  simp only [sz0,sz1];refine aB 3 32 ?_ rfl (by kernel_rfl) rfl (fun _ _ _ h=>h) rfl hH (fun w' hS=>?_) ?_;rotate_left
  ·go_simp;try with_reducible rfl
  simp only [sz0,sz1];refine bI (i:=4) (j:=5) rfl rfl (by kernel_rfl) rfl rfl (fun K hK=>?_) (fun K hK=>?_)
  focus
   go_simp;refine hK.o _ _ trivial (fun _=>?_);clear hK K;refine ak (i:=5) rfl (by kernel_rfl) rfl (fun K hK=>?_);refine fJ dx Tryz.underlying85 rfl (.tmp 4) rfl w2.heap.size _ #[.string v1,.string v2,.slice fa v5.length fcap,.int .i64 v8] rfl L1.o rfl ?_;refine hK.o _ _ trivial (fun _=>?_);clear hK K;simp only [Act.put,sz5,sz0,sz1];refine ak (i:=6) rfl (by kernel_rfl) rfl (fun K hK=>?_);refine bN bV (.tmp 34) rfl #[.string v1,.string v2,.slice fa v5.length fcap,.int .i64 v8] rfl rfl (by decide) ?_;refine hK.o _ _ trivial (fun _=>?_);clear hK K;simp only [Act.put,sz5,sz0,sz1]
  rotate_left
  focus
   refine fJ dx Tryz.underlying85 rfl (.tmp 4) rfl w2.heap.size _ #[.string v1,.string v2,.slice fa v5.length fcap,.int .i64 v8] rfl L1.o rfl ?_;refine hK.o _ _ trivial (fun _=>?_);clear hK K;simp only [Act.put,sz5,sz0,sz1];refine bI (i:=4) (j:=6) rfl rfl (by kernel_rfl) rfl rfl (fun K hK=>?_) (fun K hK=>?_)
   focus
    go_simp;refine hK.o _ _ trivial (fun _=>?_);clear hK K;refine ak (i:=6) rfl (by kernel_rfl) rfl (fun K hK=>?_);refine bN bV (.tmp 34) rfl #[.string v1,.string v2,.slice fa v5.length fcap,.int .i64 v8] rfl rfl (by decide) ?_;refine hK.o _ _ trivial (fun _=>?_);clear hK K;simp only [Act.put,sz5,sz0,sz1]
   rotate_left
   focus
    refine bN bV (.tmp 34) rfl #[.string v1,.string v2,.slice fa v5.length fcap,.int .i64 v8] rfl rfl (by decide) ?_;refine hK.o _ _ trivial (fun _=>?_);clear hK K;simp only [Act.put,sz5,sz0,sz1];refine ak (i:=4) rfl (by kernel_rfl) rfl (fun K hK=>?_);have k2:(wc.alloc (.cells #[.string v1,.string v2,.slice fa v5.length fcap,.int .i64 v8] 85)).cell? ⟨g,0,none⟩=some tv:=by rw [World.cell?_alloc_some _ _ _ (by rw [k0];rfl)];exact k0
    go_simp;refine hK.o _ _ trivial (fun _=>?_);clear hK K;clear k2
  all_goals
   refine ak (i:=7) rfl (by kernel_rfl) rfl (fun K hK=>?_);refine fV bV _ (.tmp 33) (.tmp 35) rfl base tv ct rfl (r1.o.keeps (aj (b0 wc).drew (.cells #[.string v1,.string v2,.slice fa v5.length fcap,.int .i64 v8] 85))) wc.heap.size 85 [.string v1,.string v2,.slice fa v5.length fcap,.int .i64 v8] rfl (Blk.new _ _ _) rfl (by simp [Value.oneCell']) hn.o (by have:=FF.o.h4;simp;omega) ?_;intro v' w9 O9 b9 g9;have pf:=FF.o.pR (aj (b0 wc).drew (.cells #[.string v1,.string v2,.slice fa v5.length fcap,.int .i64 v8] 85)) hbb.o r1.o r2.o e1.o e2.o g9 O9 (x:=⟨v1,v2,v5,v8⟩) ⟨fa,fcap,rfl,A.o⟩;have hB9:Blk w9 g 27 #[tv,fv]:=(hbb.o.below (aj (b0 wc).drew (.cells #[.string v1,.string v2,.slice fa v5.length fcap,.int .i64 v8] 85)) hbb.o.lt).below b9 (by have:=FF.o.h2;have:=FF.o.h3;omega);have k9:w9.cell? ⟨g,0,none⟩=some tv:=hB9.cell 0;have z9:=hB9.free 0;obtain ⟨va,vn,vcap,rfl⟩:=O9.val;replace pf:=Hy pf;clear b9 g9 hB9;refine hK.o _ _ trivial (fun _=>?_);clear hK K;simp only [Act.put,sz5,sz0,sz1];refine aB 8 37 ?_ rfl (by kernel_rfl) rfl (fun _ _ _ h=>h) rfl hH (fun w' hS=>?_) ?_;rotate_left
   ·go_simp;try with_reducible rfl
   simp only [sz0,sz1];refine aB 9 38 ?_ rfl (by kernel_rfl) rfl (fun _ _ _ h=>h) rfl hH (fun w' hS=>?_) ?_;rotate_left
   ·go_simp;try with_reducible rfl
   simp only [sz0,sz1];refine ak (i:=10) rfl (by kernel_rfl) rfl (fun K hK=>?_);go_simp;refine hK.o _ _ trivial (fun _=>?_);clear hK K;refine wpAnyH_done (by kernel_rfl) ?_ _;go_wp2_with fail;go_end0;subst hwc;exact jR (by rw [← HR.o];rfl) pf.o.1 ((Mq.mv M.o).trans pf.o.2)
 replace HR:=HR.o;rw [show eP l3=.ok [] l3.tail from by unfold eP;rw [hf];rfl] at HR;simp only [aC] at HR;replace HR:=Hy HR;replace hf:=Hy hf;go_wp2_with fail;refine (aX B ⟨#[125]⟩ l3 _ P.o hf.o).mono ?_;rintro e w4 ⟨rfl,pp,mm⟩;replace M:=Hy (M.o.next mm);replace L:=Hy (L.o.mv mm (by have:=gL.o;omega) L.o.lt);replace P:=Hy pp;clear pp mm;cases hk1:isT ⟨#[107,101,101,112]⟩ l3.tail
 ·replace HR:=HR.o;rw [show dK l3.tail=.ok 0 l3.tail from by unfold dK;rw [hk1];rfl] at HR;replace HR:=Hy HR;replace hk1:=Hy hk1;go_wp2_with fail;refine (aN B ⟨#[107,101,101,112]⟩ l3.tail _ P.o hk1.o).mono ?_;rintro e w5 ⟨rfl,pp,mm⟩;replace M:=Hy (M.o.next mm);replace L:=Hy (L.o.mv mm (by have:=gL.o;omega) L.o.lt);replace P:=Hy pp;clear pp mm;simp only [aC] at HR;replace HR:=Hy HR.o;go_wp2_with fail;refine (aY B ⟨#[59]⟩ l3.tail _ P.o).mono ?_;rintro e w6 h6;rcases hG6:need ⟨#[59]⟩ l3.tail with _ | ⟨v6,l6⟩ | ⟨a6,c6,l6⟩
  ·exact bou HR hG6 NE
  rotate_left
  ·rw [hG6] at h6;obtain ⟨rfl,pp,mm⟩:=h6;unfold thr;have hno:=bno HR hG6;have PP:=Hy pp;have MM:=Hy (M.o.next mm);clear pp mm hG6;go_wp2_with fail;exact ⟨rfl,dN HF.o (by rw [hno.o];rfl) PP.o MM.o⟩
  rw [hG6] at h6;obtain ⟨u6,rfl,vv,pp,mm⟩:=h6;replace HR:=HR.o;rw [hG6] at HR;simp only [aC] at HR;replace HR:=Hy HR;replace M:=Hy (M.o.next mm);replace L:=Hy (L.o.mv mm (by have:=gL.o;omega) L.o.lt);replace P:=Hy pp;clear pp mm hG6;obtain rfl:u6=.tuple #[]:=vv;go_wp2_with fail;have FF:=HF.o.step M.o P.o;obtain ⟨tv,fv,ct,cf,hb,r1,r2,e1,e2⟩:=FF.mm.ex;replace FF:=Hy FF;replace r1:=Hy r1;replace r2:=Hy r2;replace hn:=Hy (show ct.length<1048577 from by rw [e1.1];exact hn.o);replace e1:=Hy e1;replace e2:=Hy e2;have hbb:=Hy hb;have k0:=hb.cell 0;have z0:=hb.free 0;simp only [sz2,sz3] at k0;clear hb;generalize hwc:w6=wc at *;have k1:wc.drew.cell? ⟨g,0,none⟩=some tv:=k0;have L1:=Hy (show Blk wc.drew w2.heap.size 85 #[.string v1,.string v2,.slice none 0 0,.int .i64 0] from L.o);refine wp_region_held_drew (S:=fun _=>True) (by kernel_rfl) trivial (fun hH=>?_);refine aB 0 29 ?_ rfl (by kernel_rfl) rfl (fun _ _ _ h=>h) rfl hH (fun w' hS=>?_) ?_;rotate_left
  ·go_simp;try with_reducible rfl
  simp only [sz0,sz1];refine aB 1 30 ?_ rfl (by kernel_rfl) rfl (fun _ _ _ h=>h) rfl hH (fun w' hS=>?_) ?_;rotate_left
  ·go_simp;try with_reducible rfl
  simp only [sz0,sz1];refine aB 2 31 ?_ rfl (by kernel_rfl) rfl (fun _ _ _ h=>h) rfl hH (fun w' hS=>?_) ?_;rotate_left
  ·go_simp;try with_reducible rfl
  simp only [sz0,sz1];refine aB 3 32 ?_ rfl (by kernel_rfl) rfl (fun _ _ _ h=>h) rfl hH (fun w' hS=>?_) ?_;rotate_left
  ·go_simp;try with_reducible rfl
  simp only [sz0,sz1];refine bI (i:=4) (j:=5) rfl rfl (by kernel_rfl) rfl rfl (fun K hK=>?_) (fun K hK=>?_)
  focus
   go_simp;refine hK.o _ _ trivial (fun _=>?_);clear hK K;refine ak (i:=5) rfl (by kernel_rfl) rfl (fun K hK=>?_);refine fJ dx Tryz.underlying85 rfl (.tmp 4) rfl w2.heap.size _ #[.string v1,.string v2,.slice none 0 0,.int .i64 0] rfl L1.o rfl ?_;refine hK.o _ _ trivial (fun _=>?_);clear hK K;simp only [Act.put,sz5,sz0,sz1];refine ak (i:=6) rfl (by kernel_rfl) rfl (fun K hK=>?_);refine bN bV (.tmp 34) rfl #[.string v1,.string v2,.slice none 0 0,.int .i64 0] rfl rfl (by decide) ?_;refine hK.o _ _ trivial (fun _=>?_);clear hK K;simp only [Act.put,sz5,sz0,sz1]
  rotate_left
  focus
   refine fJ dx Tryz.underlying85 rfl (.tmp 4) rfl w2.heap.size _ #[.string v1,.string v2,.slice none 0 0,.int .i64 0] rfl L1.o rfl ?_;refine hK.o _ _ trivial (fun _=>?_);clear hK K;simp only [Act.put,sz5,sz0,sz1];refine bI (i:=4) (j:=6) rfl rfl (by kernel_rfl) rfl rfl (fun K hK=>?_) (fun K hK=>?_)
   focus
    go_simp;refine hK.o _ _ trivial (fun _=>?_);clear hK K;refine ak (i:=6) rfl (by kernel_rfl) rfl (fun K hK=>?_);refine bN bV (.tmp 34) rfl #[.string v1,.string v2,.slice none 0 0,.int .i64 0] rfl rfl (by decide) ?_;refine hK.o _ _ trivial (fun _=>?_);clear hK K;simp only [Act.put,sz5,sz0,sz1]
   rotate_left
   focus
    refine bN bV (.tmp 34) rfl #[.string v1,.string v2,.slice none 0 0,.int .i64 0] rfl rfl (by decide) ?_;refine hK.o _ _ trivial (fun _=>?_);clear hK K;simp only [Act.put,sz5,sz0,sz1];refine ak (i:=4) rfl (by kernel_rfl) rfl (fun K hK=>?_);have k2:(wc.alloc (.cells #[.string v1,.string v2,.slice none 0 0,.int .i64 0] 85)).cell? ⟨g,0,none⟩=some tv:=by rw [World.cell?_alloc_some _ _ _ (by rw [k0];rfl)];exact k0
    go_simp;refine hK.o _ _ trivial (fun _=>?_);clear hK K;clear k2
  all_goals
   refine ak (i:=7) rfl (by kernel_rfl) rfl (fun K hK=>?_);refine fV bV _ (.tmp 33) (.tmp 35) rfl base tv ct rfl (r1.o.keeps (aj (b0 wc).drew (.cells #[.string v1,.string v2,.slice none 0 0,.int .i64 0] 85))) wc.heap.size 85 [.string v1,.string v2,.slice none 0 0,.int .i64 0] rfl (Blk.new _ _ _) rfl (by simp [Value.oneCell']) hn.o (by have:=FF.o.h4;simp;omega) ?_;intro v' w9 O9 b9 g9;have pf:=FF.o.pR (aj (b0 wc).drew (.cells #[.string v1,.string v2,.slice none 0 0,.int .i64 0] 85)) hbb.o r1.o r2.o e1.o e2.o g9 O9 (x:=⟨v1,v2,[],0⟩) ⟨none,0,rfl,.inl rfl⟩;have hB9:Blk w9 g 27 #[tv,fv]:=(hbb.o.below (aj (b0 wc).drew (.cells #[.string v1,.string v2,.slice none 0 0,.int .i64 0] 85)) hbb.o.lt).below b9 (by have:=FF.o.h2;have:=FF.o.h3;omega);have k9:w9.cell? ⟨g,0,none⟩=some tv:=hB9.cell 0;have z9:=hB9.free 0;obtain ⟨va,vn,vcap,rfl⟩:=O9.val;replace pf:=Hy pf;clear b9 g9 hB9;refine hK.o _ _ trivial (fun _=>?_);clear hK K;simp only [Act.put,sz5,sz0,sz1];refine aB 8 37 ?_ rfl (by kernel_rfl) rfl (fun _ _ _ h=>h) rfl hH (fun w' hS=>?_) ?_;rotate_left
   ·go_simp;try with_reducible rfl
   simp only [sz0,sz1];refine aB 9 38 ?_ rfl (by kernel_rfl) rfl (fun _ _ _ h=>h) rfl hH (fun w' hS=>?_) ?_;rotate_left
   ·go_simp;try with_reducible rfl
   simp only [sz0,sz1];refine ak (i:=10) rfl (by kernel_rfl) rfl (fun K hK=>?_);go_simp;refine hK.o _ _ trivial (fun _=>?_);clear hK K;refine wpAnyH_done (by kernel_rfl) ?_ _;go_wp2_with fail;go_end0;subst hwc;exact jR (by rw [← HR.o];rfl) pf.o.1 ((Mq.mv M.o).trans pf.o.2)
 replace HR:=HR.o;rw [show dK l3.tail=int l3.tail.tail from by unfold dK;rw [hk1];rfl] at HR;replace HR:=Hy HR;replace hk1:=Hy hk1;go_wp2_with fail;refine (aX B ⟨#[107,101,101,112]⟩ l3.tail _ P.o hk1.o).mono ?_;rintro e w5 ⟨rfl,pp,mm⟩;replace M:=Hy (M.o.next mm);replace L:=Hy (L.o.mv mm (by have:=gL.o;omega) L.o.lt);replace P:=Hy pp;clear pp mm;go_wp2_with fail;refine (dQ B l3.tail.tail _ P.o _ rfl (int_ne _)).mono ?_;rintro e w6 h6;rcases hG6:int l3.tail.tail with _ | ⟨v6,l6⟩ | ⟨a6,c6,l6⟩
 ·exact bou HR hG6 NE
 rotate_left
 ·rw [hG6] at h6;obtain ⟨rfl,pp,mm⟩:=h6;unfold thr;have hno:=bno HR hG6;have PP:=Hy pp;have MM:=Hy (M.o.next mm);clear pp mm hG6;go_wp2_with fail;exact ⟨rfl,dN HF.o (by rw [hno.o];rfl) PP.o MM.o⟩
 rw [hG6] at h6;obtain ⟨u6,rfl,vv,pp,mm⟩:=h6;replace HR:=HR.o;rw [hG6] at HR;simp only [aC] at HR;replace HR:=Hy HR;replace M:=Hy (M.o.next mm);replace L:=Hy (L.o.mv mm (by have:=gL.o;omega) L.o.lt);replace P:=Hy pp;clear pp mm hG6;obtain rfl:u6=.int .i64 v6:=vv;have e0:=L.o.cell 3;have z0:=L.o.free 3;simp only [sz2,sz3,sz4] at e0;go_wp2_with fail;have sc:=L.o.setCell 3 (.int .i64 v6);replace P:=Hy (P.o.st sc.2 gL.o);replace M:=Hy (M.o.trans (sc.2.mv hL.o));replace L:=Hy (show Blk _ w2.heap.size 85 #[.string v1,.string v2,.slice none 0 0,.int .i64 v6] from sc.1);clear e0 z0;generalize World.setCell w6 ⟨w2.heap.size,3,none⟩ (.int .i64 v6)=wk at *;refine (aY B ⟨#[59]⟩ l6 _ P.o).mono ?_;rintro e w7 h7;rcases hG7:need ⟨#[59]⟩ l6 with _ | ⟨v7,l7⟩ | ⟨a7,c7,l7⟩
 ·exact bou HR hG7 NE
 rotate_left
 ·rw [hG7] at h7;obtain ⟨rfl,pp,mm⟩:=h7;unfold thr;have hno:=bno HR hG7;have PP:=Hy pp;have MM:=Hy (M.o.next mm);clear pp mm hG7;go_wp2_with fail;exact ⟨rfl,dN HF.o (by rw [hno.o];rfl) PP.o MM.o⟩
 rw [hG7] at h7;obtain ⟨u7,rfl,vv,pp,mm⟩:=h7;replace HR:=HR.o;rw [hG7] at HR;simp only [aC] at HR;replace HR:=Hy HR;replace M:=Hy (M.o.next mm);replace L:=Hy (L.o.mv mm (by have:=gL.o;omega) L.o.lt);replace P:=Hy pp;clear pp mm hG7;obtain rfl:u7=.tuple #[]:=vv;go_wp2_with fail;have FF:=HF.o.step M.o P.o;obtain ⟨tv,fv,ct,cf,hb,r1,r2,e1,e2⟩:=FF.mm.ex;replace FF:=Hy FF;replace r1:=Hy r1;replace r2:=Hy r2;replace hn:=Hy (show ct.length<1048577 from by rw [e1.1];exact hn.o);replace e1:=Hy e1;replace e2:=Hy e2;have hbb:=Hy hb;have k0:=hb.cell 0;have z0:=hb.free 0;simp only [sz2,sz3] at k0;clear hb;generalize hwc:w7=wc at *;have k1:wc.drew.cell? ⟨g,0,none⟩=some tv:=k0;have L1:=Hy (show Blk wc.drew w2.heap.size 85 #[.string v1,.string v2,.slice none 0 0,.int .i64 v6] from L.o);refine wp_region_held_drew (S:=fun _=>True) (by kernel_rfl) trivial (fun hH=>?_);refine aB 0 29 ?_ rfl (by kernel_rfl) rfl (fun _ _ _ h=>h) rfl hH (fun w' hS=>?_) ?_;rotate_left
 ·go_simp;try with_reducible rfl
 simp only [sz0,sz1];refine aB 1 30 ?_ rfl (by kernel_rfl) rfl (fun _ _ _ h=>h) rfl hH (fun w' hS=>?_) ?_;rotate_left
 ·go_simp;try with_reducible rfl
 simp only [sz0,sz1];refine aB 2 31 ?_ rfl (by kernel_rfl) rfl (fun _ _ _ h=>h) rfl hH (fun w' hS=>?_) ?_;rotate_left
 ·go_simp;try with_reducible rfl
 simp only [sz0,sz1];refine aB 3 32 ?_ rfl (by kernel_rfl) rfl (fun _ _ _ h=>h) rfl hH (fun w' hS=>?_) ?_;rotate_left
 ·go_simp;try with_reducible rfl
 simp only [sz0,sz1];refine bI (i:=4) (j:=5) rfl rfl (by kernel_rfl) rfl rfl (fun K hK=>?_) (fun K hK=>?_)
 focus
  go_simp;refine hK.o _ _ trivial (fun _=>?_);clear hK K;refine ak (i:=5) rfl (by kernel_rfl) rfl (fun K hK=>?_);refine fJ dx Tryz.underlying85 rfl (.tmp 4) rfl w2.heap.size _ #[.string v1,.string v2,.slice none 0 0,.int .i64 v6] rfl L1.o rfl ?_;refine hK.o _ _ trivial (fun _=>?_);clear hK K;simp only [Act.put,sz5,sz0,sz1];refine ak (i:=6) rfl (by kernel_rfl) rfl (fun K hK=>?_);refine bN bV (.tmp 34) rfl #[.string v1,.string v2,.slice none 0 0,.int .i64 v6] rfl rfl (by decide) ?_;refine hK.o _ _ trivial (fun _=>?_);clear hK K;simp only [Act.put,sz5,sz0,sz1]
 rotate_left
 focus
  refine fJ dx Tryz.underlying85 rfl (.tmp 4) rfl w2.heap.size _ #[.string v1,.string v2,.slice none 0 0,.int .i64 v6] rfl L1.o rfl ?_;refine hK.o _ _ trivial (fun _=>?_);clear hK K;simp only [Act.put,sz5,sz0,sz1];refine bI (i:=4) (j:=6) rfl rfl (by kernel_rfl) rfl rfl (fun K hK=>?_) (fun K hK=>?_)
  focus
   go_simp;refine hK.o _ _ trivial (fun _=>?_);clear hK K;refine ak (i:=6) rfl (by kernel_rfl) rfl (fun K hK=>?_);refine bN bV (.tmp 34) rfl #[.string v1,.string v2,.slice none 0 0,.int .i64 v6] rfl rfl (by decide) ?_;refine hK.o _ _ trivial (fun _=>?_);clear hK K;simp only [Act.put,sz5,sz0,sz1]
  rotate_left
  focus
   refine bN bV (.tmp 34) rfl #[.string v1,.string v2,.slice none 0 0,.int .i64 v6] rfl rfl (by decide) ?_;refine hK.o _ _ trivial (fun _=>?_);clear hK K;simp only [Act.put,sz5,sz0,sz1];refine ak (i:=4) rfl (by kernel_rfl) rfl (fun K hK=>?_);have k2:(wc.alloc (.cells #[.string v1,.string v2,.slice none 0 0,.int .i64 v6] 85)).cell? ⟨g,0,none⟩=some tv:=by rw [World.cell?_alloc_some _ _ _ (by rw [k0];rfl)];exact k0
   go_simp;refine hK.o _ _ trivial (fun _=>?_);clear hK K;clear k2
 all_goals
  refine ak (i:=7) rfl (by kernel_rfl) rfl (fun K hK=>?_);refine fV bV _ (.tmp 33) (.tmp 35) rfl base tv ct rfl (r1.o.keeps (aj (b0 wc).drew (.cells #[.string v1,.string v2,.slice none 0 0,.int .i64 v6] 85))) wc.heap.size 85 [.string v1,.string v2,.slice none 0 0,.int .i64 v6] rfl (Blk.new _ _ _) rfl (by simp [Value.oneCell']) hn.o (by have:=FF.o.h4;simp;omega) ?_;intro v' w9 O9 b9 g9;have pf:=FF.o.pR (aj (b0 wc).drew (.cells #[.string v1,.string v2,.slice none 0 0,.int .i64 v6] 85)) hbb.o r1.o r2.o e1.o e2.o g9 O9 (x:=⟨v1,v2,[],v6⟩) ⟨none,0,rfl,.inl rfl⟩;have hB9:Blk w9 g 27 #[tv,fv]:=(hbb.o.below (aj (b0 wc).drew (.cells #[.string v1,.string v2,.slice none 0 0,.int .i64 v6] 85)) hbb.o.lt).below b9 (by have:=FF.o.h2;have:=FF.o.h3;omega);have k9:w9.cell? ⟨g,0,none⟩=some tv:=hB9.cell 0;have z9:=hB9.free 0;obtain ⟨va,vn,vcap,rfl⟩:=O9.val;replace pf:=Hy pf;clear b9 g9 hB9;refine hK.o _ _ trivial (fun _=>?_);clear hK K;simp only [Act.put,sz5,sz0,sz1];refine aB 8 37 ?_ rfl (by kernel_rfl) rfl (fun _ _ _ h=>h) rfl hH (fun w' hS=>?_) ?_;rotate_left
  ·go_simp;try with_reducible rfl
  simp only [sz0,sz1];refine aB 9 38 ?_ rfl (by kernel_rfl) rfl (fun _ _ _ h=>h) rfl hH (fun w' hS=>?_) ?_;rotate_left
  ·go_simp;try with_reducible rfl
  simp only [sz0,sz1];refine ak (i:=10) rfl (by kernel_rfl) rfl (fun K hK=>?_);go_simp;refine hK.o _ _ trivial (fun _=>?_);clear hK K;refine wpAnyH_done (by kernel_rfl) ?_ _;go_wp2_with fail;go_end0;subst hwc;exact jR (by rw [← HR.o];rfl) pf.o.1 ((Mq.mv M.o).trans pf.o.2)
end pa
end Go.Proofs.YtbpijgddfaefkaaGreatDoor
