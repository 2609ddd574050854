/-
  A feature; An item: a table or a feature, by a map of methods; leave: goes on behind the next ";"; SortFunc over problems, by offset; Module.
-/
import Derived.Maps.OwnSet
import Derived.Test.YtbpijgddfaefkaaGreatDoorK18
set_option maxRecDepth 100000
set_option maxHeartbeats 16000000
namespace Go.Proofs.YtbpijgddfaefkaaGreatDoor
namespace pa
open Go.RowKit dec
theorem FK (w0:World) (base B g:Nat) (ta:Option Addr) (n cap:Nat) (m:Mo) (l:List Tk) (w:World) (h:Mf w0 base B g ta n cap w m l) (hn:m.fs.length<1048577) (r:Rs Fe) (hr:gu l=r) (hne:r≠.out) :
    Calls Tryz.prog 74 #[.pointer (some ⟨B,0,none⟩),.pointer (some ⟨g,0,none⟩)] w (Mst w0 base B g ta n cap m (r.bind fun t q=>.ok { m with fs:=m.fs++[t] } q) w):=by
 have P:=Hy h.ps;have M:=Hy (Mv.refl w.heap.size B w);have HF:=Hy h;have NE:=Hy hne;replace hn:=Hy hn;unfold gu at hr;have HR:=Hy hr;clear h hne hr
 go_enter Tryz.func74,Tryz.ntmps74
 go_wp2_with fail;refine (iM B ⟨#[102,101,97,116,117,114,101]⟩ l _ P.o _ rfl (iK _ _)).mono ?_;rintro e w1 h1;rcases hG1:nma ⟨#[102,101,97,116,117,114,101]⟩ l with _ | ⟨v1,l1⟩ | ⟨a1,c1,l1⟩
 ·exact bou HR hG1 NE
 rotate_left
 ·rw [hG1] at h1;obtain ⟨rfl,pp,mm⟩:=h1;unfold thr;have hno:=bno HR hG1;have PP:=Hy pp;have MM:=Hy (M.o.next mm);clear pp mm hG1;go_wp2_with fail;exact ⟨rfl,dN HF.o (by rw [hno.o];rfl) PP.o MM.o⟩
 rw [hG1] at h1;obtain ⟨u1,rfl,vv,pp,mm⟩:=h1;replace HR:=HR.o;rw [hG1] at HR;simp only [aC] at HR;replace HR:=Hy HR;replace M:=Hy (M.o.next mm);replace P:=Hy pp;clear pp mm hG1;obtain rfl:u1=.string v1:=vv;go_wp2_with fail;refine (iM B ⟨#[111,102]⟩ l1 _ P.o _ rfl (iK _ _)).mono ?_;rintro e w2 h2;rcases hG2:nma ⟨#[111,102]⟩ l1 with _ | ⟨v2,l2⟩ | ⟨a2,c2,l2⟩
 ·exact bou HR hG2 NE
 rotate_left
 ·rw [hG2] at h2;obtain ⟨rfl,pp,mm⟩:=h2;unfold thr;have hno:=bno HR hG2;have PP:=Hy pp;have MM:=Hy (M.o.next mm);clear pp mm hG2;go_wp2_with fail;exact ⟨rfl,dN HF.o (by rw [hno.o];rfl) PP.o MM.o⟩
 rw [hG2] at h2;obtain ⟨u2,rfl,vv,pp,mm⟩:=h2;replace HR:=HR.o;rw [hG2] at HR;simp only [aC] at HR;replace HR:=Hy HR;replace M:=Hy (M.o.next mm);replace P:=Hy pp;clear pp mm hG2;obtain rfl:u2=.string v2:=vv;go_wp2_with (refine aA gQ (.tmp 4) (.tmp 9) rfl rfl _ _ _ _ rfl rfl (Blk.new _ _ _) rfl rfl (by simp [Value.oneCell']) ?_;intro wL L hs;have bb:=(aj (b0 w2) _).trans (hs.below lr);replace L:=Hy L;have gL:=Hy P.o.lt;have hL:=Hy M.o.size;replace M:=Hy (M.o.bG bb);replace P:=Hy (P.o.keeps bb);clear bb hs);go_wp2_with fail;refine (aY B ⟨#[58]⟩ l2 _ P.o).mono ?_;rintro e w3 h3;rcases hG3:need ⟨#[58]⟩ l2 with _ | ⟨v3,l3⟩ | ⟨a3,c3,l3⟩
 ·exact bou HR hG3 NE
 rotate_left
 ·rw [hG3] at h3;obtain ⟨rfl,pp,mm⟩:=h3;unfold thr;have hno:=bno HR hG3;have PP:=Hy pp;have MM:=Hy (M.o.next mm);clear pp mm hG3;go_wp2_with fail;exact ⟨rfl,dN HF.o (by rw [hno.o];rfl) PP.o MM.o⟩
 rw [hG3] at h3;obtain ⟨u3,rfl,vv,pp,mm⟩:=h3;replace HR:=HR.o;rw [hG3] at HR;simp only [aC] at HR;replace HR:=Hy HR;replace M:=Hy (M.o.next mm);replace L:=Hy (L.o.mv mm (by have:=gL.o;omega) L.o.lt);replace P:=Hy pp;clear pp mm hG3;obtain rfl:u3=.tuple #[]:=vv;have sB:=Hy M.o.size;go_wp2_with fail;refine (wX B l3 _ P.o _ rfl (kD _)).mono ?_;rintro e w4 h4;rcases hG4:typ l3 with _ | ⟨v4,l4⟩ | ⟨a4,c4,l4⟩
 ·exact bou HR hG4 NE
 rotate_left
 ·rw [hG4] at h4;obtain ⟨rfl,pp,mm⟩:=h4;unfold thr;have hno:=bno HR hG4;have PP:=Hy pp;have MM:=Hy (M.o.next mm);clear pp mm hG4;go_wp2_with fail;exact ⟨rfl,dN HF.o (by rw [hno.o];rfl) PP.o MM.o⟩
 rw [hG4] at h4;obtain ⟨u4,rfl,vv,pp,mm⟩:=h4;replace HR:=HR.o;rw [hG4] at HR;simp only [aC] at HR;replace HR:=Hy HR;replace M:=Hy (M.o.next mm);replace L:=Hy (L.o.mv mm (by have:=gL.o;omega) L.o.lt);replace P:=Hy pp;clear pp mm hG4;have V4:=Hy vv;clear vv;obtain ⟨ua,uc,rfl,U⟩:=V4.o;replace U:=Hy (Us.less (C':=base) U (Nat.le_trans HF.o.h4 sB.o));clear V4;go_wp2_with (refine bZ bq (.tmp 14) (.tmp 13) rfl rfl w2.heap.size 2 _ #[.int .i64 v4.k,.slice ua v4.un.length uc,.string v4.of] _ rfl rfl L.o (by simp) rfl (by simp [Value.oneCell']) ?_;intro wt L9 hs;have KA:KpT (fun T=>T=55∨T=43) base w4 wt:=St.kpT hs L.o (by decide) _;replace U:=Hy (Us.kpT (ok:=fun T=>T=55∨T=43) U.o (.inl rfl) KA);replace P:=Hy (P.o.st hs gL.o);replace M:=Hy (M.o.trans (hs.mv hL.o));replace L:=Hy (show Blk wt w2.heap.size 88 #[.string v1,.string v2,.int .i64 v4.k,.slice ua v4.un.length uc,.string v4.of,.int .i64 0,.string .empty,.string .empty,.string .empty,.int .i64 0,.int .i64 0,.string .empty,.slice none 0 0,.int .i64 0,.int .i64 0,.int .i64 0,.slice none 0 0,.int .i64 0] from L9);clear L9 hs KA);refine (aY B ⟨#[61]⟩ l4 _ P.o).mono ?_;rintro e w5 h5;rcases hG5:need ⟨#[61]⟩ l4 with _ | ⟨v5,l5⟩ | ⟨a5,c5,l5⟩
 ·exact bou HR hG5 NE
 rotate_left
 ·rw [hG5] at h5;obtain ⟨rfl,pp,mm⟩:=h5;unfold thr;have hno:=bno HR hG5;have PP:=Hy pp;have MM:=Hy (M.o.next mm);clear pp mm hG5;go_wp2_with fail;exact ⟨rfl,dN HF.o (by rw [hno.o];rfl) PP.o MM.o⟩
 rw [hG5] at h5;obtain ⟨u5,rfl,vv,pp,mm⟩:=h5;replace HR:=HR.o;rw [hG5] at HR;simp only [aC] at HR;replace HR:=Hy HR;replace M:=Hy (M.o.next mm);replace L:=Hy (L.o.mv mm (by have:=gL.o;omega) L.o.lt);replace U:=Hy (Us.kp U.o (mm.kp HF.o.h3));replace P:=Hy pp;clear pp mm hG5;obtain rfl:u5=.tuple #[]:=vv;go_wp2_with fail;refine (qy B _).mono ?_;rintro e w6 ⟨rfl,b⟩;have mm:=Mv.of (B:=B) b;replace M:=Hy (M.o.next mm);replace L:=Hy (L.o.mv mm (by have:=gL.o;omega) L.o.lt);replace U:=Hy (Us.kp U.o (mm.kp HF.o.h3));replace P:=Hy (P.o.keeps b);clear mm b;have sC:=Hy M.o.size;go_wp2_with fail;refine (FM B l5 _ P.o).mono ?_;rintro e w7 h7;rcases hG7:exR l5 with _ | ⟨v7,l7⟩ | ⟨a7,c7,l7⟩
 ·exact bou HR hG7 NE
 rotate_left
 ·rw [hG7] at h7;obtain ⟨rfl,pp,mm⟩:=h7;unfold thr;have hno:=bno HR hG7;have PP:=Hy pp;have MM:=Hy (M.o.next mm);clear pp mm hG7;go_wp2_with fail;exact ⟨rfl,dN HF.o (by rw [hno.o];rfl) PP.o MM.o⟩
 rw [hG7] at h7;obtain ⟨u7,rfl,vv,pp,mm⟩:=h7;replace HR:=HR.o;rw [hG7] at HR;simp only [aC] at HR;replace HR:=Hy HR;replace M:=Hy (M.o.next mm);replace L:=Hy (L.o.mv mm (by have:=gL.o;omega) L.o.lt);replace U:=Hy (Us.kp U.o (mm.kp HF.o.h3));replace P:=Hy pp;clear pp mm hG7;have V7:=Hy vv;clear vv;obtain ⟨ub,ud,aa,ac,rfl,E⟩:=V7.o;replace E:=Hy (Ec.less (C':=base) E (Nat.le_trans HF.o.h4 sC.o));clear V7;go_wp2_with (refine bZ aK (.tmp 20) (.tmp 19) rfl rfl w2.heap.size 5 _ (exC v7 ub ud aa ac) _ rfl rfl L.o (by simp) rfl (aJ _ _ _ _ _) ?_;intro wx L9 hs;have KA:KpT (fun T=>T=55∨T=43) base w7 wx:=St.kpT hs L.o (by decide) _;replace U:=Hy (Us.kpT (ok:=fun T=>T=55∨T=43) U.o (.inl rfl) KA);replace E:=Hy (Ec.kpT (ok:=fun T=>T=55∨T=43) (.inl rfl) (.inr rfl) E.o KA);replace P:=Hy (P.o.st hs gL.o);replace M:=Hy (M.o.trans (hs.mv hL.o));replace L:=Hy (show Blk wx w2.heap.size 88 #[.string v1,.string v2,.int .i64 v4.k,.slice ua v4.un.length uc,.string v4.of,.int .i64 v7.h.k,.string v7.h.op,.string v7.h.nm,.string v7.h.tb,.int .i64 v7.h.vk,.int .i64 v7.h.vn,.string v7.h.vs,.slice ub v7.h.un.length ud,.int .i64 v7.h.pa,.int .i64 v7.h.wk,.int .i64 v7.h.ws,.slice aa v7.ar.len ac,.int .i64 0] from L9);clear L9 hs KA);refine (aY B ⟨#[59]⟩ l7 _ P.o).mono ?_;rintro e w8 h8;rcases hG8:need ⟨#[59]⟩ l7 with _ | ⟨v8,l8⟩ | ⟨a8,c8,l8⟩
 ·exact bou HR hG8 NE
 rotate_left
 ·rw [hG8] at h8;obtain ⟨rfl,pp,mm⟩:=h8;unfold thr;have hno:=bno HR hG8;have PP:=Hy pp;have MM:=Hy (M.o.next mm);clear pp mm hG8;go_wp2_with fail;exact ⟨rfl,dN HF.o (by rw [hno.o];rfl) PP.o MM.o⟩
 rw [hG8] at h8;obtain ⟨u8,rfl,vv,pp,mm⟩:=h8;replace HR:=HR.o;rw [hG8] at HR;simp only [aC] at HR;replace HR:=Hy HR;replace M:=Hy (M.o.next mm);replace L:=Hy (L.o.mv mm (by have:=gL.o;omega) L.o.lt);replace U:=Hy (Us.kp U.o (mm.kp HF.o.h3));replace E:=Hy (Ec.kp E.o (mm.kp HF.o.h3));replace P:=Hy pp;clear pp mm hG8;obtain rfl:u8=.tuple #[]:=vv;go_wp2_with fail;have FF:=HF.o.step M.o P.o;obtain ⟨tv,fv,ct,cf,hb,r1,r2,e1,e2⟩:=FF.mm.ex;replace FF:=Hy FF;replace r1:=Hy r1;replace r2:=Hy r2;replace hn:=Hy (show cf.length<1048577 from by rw [e2.1];exact hn.o);replace e1:=Hy e1;replace e2:=Hy e2;have hbb:=Hy hb;have k0:=hb.cell 1;have z0:=hb.free 1;simp only [sz2,sz3,sz4] at k0;clear hb;generalize hwc:w8=wc at *;have k1:wc.drew.cell? ⟨g,1,none⟩=some fv:=k0;have L1:=Hy (show Blk wc.drew w2.heap.size 88 #[.string v1,.string v2,.int .i64 v4.k,.slice ua v4.un.length uc,.string v4.of,.int .i64 v7.h.k,.string v7.h.op,.string v7.h.nm,.string v7.h.tb,.int .i64 v7.h.vk,.int .i64 v7.h.vn,.string v7.h.vs,.slice ub v7.h.un.length ud,.int .i64 v7.h.pa,.int .i64 v7.h.wk,.int .i64 v7.h.ws,.slice aa v7.ar.len ac,.int .i64 0] from L.o);refine wp_region_held_drew (S:=fun _=>True) (by kernel_rfl) trivial (fun hH=>?_);refine aB 0 23 ?_ rfl (by kernel_rfl) rfl (fun _ _ _ h=>h) rfl hH (fun w' hS=>?_) ?_;rotate_left
 ·go_simp;try with_reducible rfl
 simp only [sz0,sz1];refine aB 1 24 ?_ rfl (by kernel_rfl) rfl (fun _ _ _ h=>h) rfl hH (fun w' hS=>?_) ?_;rotate_left
 ·go_simp;try with_reducible rfl
 simp only [sz0,sz1];refine aB 2 25 ?_ rfl (by kernel_rfl) rfl (fun _ _ _ h=>h) rfl hH (fun w' hS=>?_) ?_;rotate_left
 ·go_simp;try with_reducible rfl
 simp only [sz0,sz1];refine aB 3 26 ?_ rfl (by kernel_rfl) rfl (fun _ _ _ h=>h) rfl hH (fun w' hS=>?_) ?_;rotate_left
 ·go_simp;try with_reducible rfl
 simp only [sz0,sz1];refine bI (i:=4) (j:=5) rfl rfl (by kernel_rfl) rfl rfl (fun K hK=>?_) (fun K hK=>?_)
 focus
  go_simp;refine hK.o _ _ trivial (fun _=>?_);clear hK K;refine ak (i:=5) rfl (by kernel_rfl) rfl (fun K hK=>?_);refine fJ gQ Tryz.underlying88 rfl (.tmp 4) rfl w2.heap.size _ #[.string v1,.string v2,.int .i64 v4.k,.slice ua v4.un.length uc,.string v4.of,.int .i64 v7.h.k,.string v7.h.op,.string v7.h.nm,.string v7.h.tb,.int .i64 v7.h.vk,.int .i64 v7.h.vn,.string v7.h.vs,.slice ub v7.h.un.length ud,.int .i64 v7.h.pa,.int .i64 v7.h.wk,.int .i64 v7.h.ws,.slice aa v7.ar.len ac,.int .i64 0] rfl L1.o rfl ?_;refine hK.o _ _ trivial (fun _=>?_);clear hK K;simp only [Act.put,sz5,sz0,sz1];refine ak (i:=6) rfl (by kernel_rfl) rfl (fun K hK=>?_);refine bN gM (.tmp 28) rfl #[.string v1,.string v2,.int .i64 v4.k,.slice ua v4.un.length uc,.string v4.of,.int .i64 v7.h.k,.string v7.h.op,.string v7.h.nm,.string v7.h.tb,.int .i64 v7.h.vk,.int .i64 v7.h.vn,.string v7.h.vs,.slice ub v7.h.un.length ud,.int .i64 v7.h.pa,.int .i64 v7.h.wk,.int .i64 v7.h.ws,.slice aa v7.ar.len ac,.int .i64 0] rfl rfl (by decide) ?_;refine hK.o _ _ trivial (fun _=>?_);clear hK K;simp only [Act.put,sz5,sz0,sz1]
 rotate_left
 focus
  refine fJ gQ Tryz.underlying88 rfl (.tmp 4) rfl w2.heap.size _ #[.string v1,.string v2,.int .i64 v4.k,.slice ua v4.un.length uc,.string v4.of,.int .i64 v7.h.k,.string v7.h.op,.string v7.h.nm,.string v7.h.tb,.int .i64 v7.h.vk,.int .i64 v7.h.vn,.string v7.h.vs,.slice ub v7.h.un.length ud,.int .i64 v7.h.pa,.int .i64 v7.h.wk,.int .i64 v7.h.ws,.slice aa v7.ar.len ac,.int .i64 0] rfl L1.o rfl ?_;refine hK.o _ _ trivial (fun _=>?_);clear hK K;simp only [Act.put,sz5,sz0,sz1];refine bI (i:=4) (j:=6) rfl rfl (by kernel_rfl) rfl rfl (fun K hK=>?_) (fun K hK=>?_)
  focus
   go_simp;refine hK.o _ _ trivial (fun _=>?_);clear hK K;refine ak (i:=6) rfl (by kernel_rfl) rfl (fun K hK=>?_);refine bN gM (.tmp 28) rfl #[.string v1,.string v2,.int .i64 v4.k,.slice ua v4.un.length uc,.string v4.of,.int .i64 v7.h.k,.string v7.h.op,.string v7.h.nm,.string v7.h.tb,.int .i64 v7.h.vk,.int .i64 v7.h.vn,.string v7.h.vs,.slice ub v7.h.un.length ud,.int .i64 v7.h.pa,.int .i64 v7.h.wk,.int .i64 v7.h.ws,.slice aa v7.ar.len ac,.int .i64 0] rfl rfl (by decide) ?_;refine hK.o _ _ trivial (fun _=>?_);clear hK K;simp only [Act.put,sz5,sz0,sz1]
  rotate_left
  focus
   refine bN gM (.tmp 28) rfl #[.string v1,.string v2,.int .i64 v4.k,.slice ua v4.un.length uc,.string v4.of,.int .i64 v7.h.k,.string v7.h.op,.string v7.h.nm,.string v7.h.tb,.int .i64 v7.h.vk,.int .i64 v7.h.vn,.string v7.h.vs,.slice ub v7.h.un.length ud,.int .i64 v7.h.pa,.int .i64 v7.h.wk,.int .i64 v7.h.ws,.slice aa v7.ar.len ac,.int .i64 0] rfl rfl (by decide) ?_;refine hK.o _ _ trivial (fun _=>?_);clear hK K;simp only [Act.put,sz5,sz0,sz1];refine ak (i:=4) rfl (by kernel_rfl) rfl (fun K hK=>?_);have k2:(wc.alloc (.cells #[.string v1,.string v2,.int .i64 v4.k,.slice ua v4.un.length uc,.string v4.of,.int .i64 v7.h.k,.string v7.h.op,.string v7.h.nm,.string v7.h.tb,.int .i64 v7.h.vk,.int .i64 v7.h.vn,.string v7.h.vs,.slice ub v7.h.un.length ud,.int .i64 v7.h.pa,.int .i64 v7.h.wk,.int .i64 v7.h.ws,.slice aa v7.ar.len ac,.int .i64 0] 88)).cell? ⟨g,1,none⟩=some fv:=by rw [World.cell?_alloc_some _ _ _ (by rw [k0];rfl)];exact k0
   go_simp;refine hK.o _ _ trivial (fun _=>?_);clear hK K;clear k2
 all_goals
  refine ak (i:=7) rfl (by kernel_rfl) rfl (fun K hK=>?_);refine fV gM _ (.tmp 27) (.tmp 29) rfl base fv cf rfl (r2.o.keeps (aj (b0 wc).drew (.cells #[.string v1,.string v2,.int .i64 v4.k,.slice ua v4.un.length uc,.string v4.of,.int .i64 v7.h.k,.string v7.h.op,.string v7.h.nm,.string v7.h.tb,.int .i64 v7.h.vk,.int .i64 v7.h.vn,.string v7.h.vs,.slice ub v7.h.un.length ud,.int .i64 v7.h.pa,.int .i64 v7.h.wk,.int .i64 v7.h.ws,.slice aa v7.ar.len ac,.int .i64 0] 88))) wc.heap.size 88 [.string v1,.string v2,.int .i64 v4.k,.slice ua v4.un.length uc,.string v4.of,.int .i64 v7.h.k,.string v7.h.op,.string v7.h.nm,.string v7.h.tb,.int .i64 v7.h.vk,.int .i64 v7.h.vn,.string v7.h.vs,.slice ub v7.h.un.length ud,.int .i64 v7.h.pa,.int .i64 v7.h.wk,.int .i64 v7.h.ws,.slice aa v7.ar.len ac,.int .i64 0] rfl (Blk.new _ _ _) rfl (by simp [Value.oneCell']) hn.o (by have:=FF.o.h4;simp;omega) ?_;intro v' w9 O9 b9 g9;have pf:=FF.o.Cz (aj (b0 wc).drew (.cells #[.string v1,.string v2,.int .i64 v4.k,.slice ua v4.un.length uc,.string v4.of,.int .i64 v7.h.k,.string v7.h.op,.string v7.h.nm,.string v7.h.tb,.int .i64 v7.h.vk,.int .i64 v7.h.vn,.string v7.h.vs,.slice ub v7.h.un.length ud,.int .i64 v7.h.pa,.int .i64 v7.h.wk,.int .i64 v7.h.ws,.slice aa v7.ar.len ac,.int .i64 0] 88)) hbb.o r1.o r2.o e1.o e2.o g9 O9 (x:=⟨v1,v2,v4,v7⟩) ⟨ua,uc,ub,ud,aa,ac,rfl,U.o,E.o⟩;have hB9:Blk w9 g 27 #[tv,fv]:=(hbb.o.below (aj (b0 wc).drew (.cells #[.string v1,.string v2,.int .i64 v4.k,.slice ua v4.un.length uc,.string v4.of,.int .i64 v7.h.k,.string v7.h.op,.string v7.h.nm,.string v7.h.tb,.int .i64 v7.h.vk,.int .i64 v7.h.vn,.string v7.h.vs,.slice ub v7.h.un.length ud,.int .i64 v7.h.pa,.int .i64 v7.h.wk,.int .i64 v7.h.ws,.slice aa v7.ar.len ac,.int .i64 0] 88)) hbb.o.lt).below b9 (by have:=FF.o.h2;have:=FF.o.h3;omega);have k9:w9.cell? ⟨g,1,none⟩=some fv:=hB9.cell 1;have z9:=hB9.free 1;obtain ⟨va,vn,vcap,rfl⟩:=O9.val;replace pf:=Hy pf;clear b9 g9 hB9;refine hK.o _ _ trivial (fun _=>?_);clear hK K;simp only [Act.put,sz5,sz0,sz1];refine aB 8 31 ?_ rfl (by kernel_rfl) rfl (fun _ _ _ h=>h) rfl hH (fun w' hS=>?_) ?_;rotate_left
  ·go_simp;try with_reducible rfl
  simp only [sz0,sz1];refine aB 9 32 ?_ rfl (by kernel_rfl) rfl (fun _ _ _ h=>h) rfl hH (fun w' hS=>?_) ?_;rotate_left
  ·go_simp;try with_reducible rfl
  simp only [sz0,sz1];refine ak (i:=10) rfl (by kernel_rfl) rfl (fun K hK=>?_);go_simp;refine hK.o _ _ trivial (fun _=>?_);clear hK K;refine wpAnyH_done (by kernel_rfl) ?_ _;go_wp2_with fail;go_end0;subst hwc;exact jR (by rw [← HR.o];rfl) pf.o.1 ((Mq.mv M.o).trans pf.o.2)
theorem Jh:Tryz.prog.underlying 128=some (.map 9 74):=by kernel_rfl
def fnT (B:Nat):Value:=.func (.func 73) #[.pointer (some ⟨B,0,none⟩)] #[]
def fnF (B:Nat):Value:=.func (.func 74) #[.pointer (some ⟨B,0,none⟩)] #[]
def dI (n:Int):DataW Unit:=.lit (.int .i64 n)
theorem yU {a b:Int} (h:dI a=dI b):a=b:=by
 unfold dI at h;cases h;rfl
open Classical in
noncomputable def fnE (B:Nat) (v:Value):Option (DataW Unit × List MemPlace) :=
 if v=.nilFunc then some (dI 0,[]) else if v=fnT B then some (dI 1,[]) else if v=fnF B then some (dI 2,[]) else none
theorem Mc (B:Nat):fnE B .nilFunc=some (dI 0,[]):=by simp [fnE]
theorem Qs (B:Nat):fnE B (fnT B)=some (dI 1,[]):=by simp [fnE,fnT]
theorem Qt (B:Nat):fnE B (fnF B)=some (dI 2,[]):=by simp [fnE,fnT,fnF]
theorem Bh {B:Nat} {v:Value} {n:Int} {ps:List MemPlace} (h:fnE B v=some (dI n,ps)):(n=1→v=fnT B)∧(n=2→v=fnF B):=by
 unfold fnE at h;split at h
 ·simp only [Option.some.injEq,Prod.mk.injEq] at h;have:=yU h.1;exact ⟨fun e=>by omega,fun e=>by omega⟩
 split at h
 ·rename_i h2;simp only [Option.some.injEq,Prod.mk.injEq] at h;have:=yU h.1;exact ⟨fun _=>h2,fun e=>by omega⟩
 split at h
 ·rename_i h3;simp only [Option.some.injEq,Prod.mk.injEq] at h;have:=yU h.1;exact ⟨fun e=>by omega,fun _=>h3⟩
 cases h
theorem qX {B b n:Nat} {D:DataW Unit} {w:World} {ops:Array Oper} {rest:List Oper} {o:Oper} {a:Act} {Q:Exit→Act→World→Prop} (hg:o.guard=none) (m x v:Operand) (hop:o.op=.insert 128 m x v)
    (hm:a.eval m=.map (some b)) (h:w.ownsMap Tryz.prog 9 (fnE B) b n D) (hn:n<maxLen) (s:ByteArray) (val:Value) (hx:a.eval x=.string s) (hs:s.size≤maxLen) (hv:a.eval v=val) (d:DataW Unit) (hval:fnE B val=some (d,[]))
    (hK:∀ w',w'.ownsMap Tryz.prog 9 (fnE B) b (n+1) (D.put (un.kS s) d)→w.grownBy w' (some b)→wpList Tryz.prog ops Q rest (a.put o.dst undef) w'):wpList Tryz.prog ops Q (o :: rest) a w:=by
 refine wpList_plain hg fun K' hK' => ?_;obtain ⟨w',hrun,r1,r2⟩:=h.update un.K9 Jh hn (un.oV hs) hval;unfold Oper.wp;simp [execOp,hop,hm,hx,hv,hrun,Result.andThen];exact hK' _ _ (hK w' r1 r2)
theorem Py (w:World):(zeroValue 74).run Tryz.prog w=.ok .nilFunc w:=by kernel_rfl
def itD:DataW Unit:=((DataW.map []).put (un.kS ⟨#[116,97,98,108,101]⟩) (dI 1)).put (un.kS ⟨#[102,101,97,116,117,114,101]⟩) (dI 2)
theorem Db:Maps.IsMap (DataW.map []:DataW Unit):=⟨[],rfl⟩
theorem wE {a b:ByteArray} (h:a≠b):un.kS a≠un.kS b:=fun e=>h (un.sH e)
theorem Oq:Maps.has itD (un.kS ⟨#[116,97,98,108,101]⟩)=true∧itD.atKey (un.kS ⟨#[116,97,98,108,101]⟩) (dI 0)=dI 1:=by
 unfold itD;rw [Maps.has_put_other (wE (by decide)),Maps.has_put_same Db (un.kX (by decide)),Maps.atKey_put_other (wE (by decide)),Maps.atKey_put_same Db (un.kX (by decide))];exact ⟨rfl,rfl⟩
theorem Ou:Maps.has itD (un.kS ⟨#[102,101,97,116,117,114,101]⟩)=true∧itD.atKey (un.kS ⟨#[102,101,97,116,117,114,101]⟩) (dI 0)=dI 2:=by
 unfold itD;rw [Maps.has_put_same (Db.put _ _) (un.kX (by decide)),Maps.atKey_put_same (Db.put _ _) (un.kX (by decide))];exact ⟨rfl,rfl⟩
theorem Qo {s:ByteArray} (h1:s≠⟨#[116,97,98,108,101]⟩) (h2:s≠⟨#[102,101,97,116,117,114,101]⟩):Maps.has itD (un.kS s)=false:=by
 unfold itD;rw [Maps.has_put_other (wE h2),Maps.has_put_other (wE h1)];rfl
theorem Lv {B b n:Nat} {w:World} (h:w.ownsMap Tryz.prog 9 (fnE B) b n itD) (s:ByteArray) (hs:s.size≤maxLen) :
    ∃ v,(Instr.lookup 128 (.map (some b)) (.string s) true).run Tryz.prog w=.ok (.tuple #[v,.bool (decide (s=⟨#[116,97,98,108,101]⟩) || decide (s=⟨#[102,101,97,116,117,114,101]⟩))]) w∧(s=⟨#[116,97,98,108,101]⟩→v=fnT B)∧(s=⟨#[102,101,97,116,117,114,101]⟩→v=fnF B):=by
 obtain ⟨v,ps,hrun,hv⟩:=h.look_ok un.K9 Jh (Py w) (Mc B) (un.oV hs);refine ⟨v,?_,fun e=>?_,fun e=>?_⟩
 ·rw [hrun];by_cases h1:s=⟨#[116,97,98,108,101]⟩
  ·subst h1;rw [Oq.1];rfl
  by_cases h2:s=⟨#[102,101,97,116,117,114,101]⟩
  ·subst h2;rw [Ou.1];rfl
  rw [Qo h1 h2,dF h1,dF h2];rfl
 ·subst e;rw [Oq.2] at hv;exact (Bh hv).1 rfl
 subst e;rw [Ou.2] at hv;exact (Bh hv).2 rfl
theorem Oo (w0:World) (base B g:Nat) (ta:Option Addr) (n cap:Nat) (m:Mo) (l:List Tk) (w:World) (h:Mf w0 base B g ta n cap w m l) (hn1:m.ts.length<1048577) (hn2:m.fs.length<1048577) :
    Calls Tryz.prog 27 #[.pointer (some ⟨B,0,none⟩),.pointer (some ⟨g,0,none⟩)] w (Mst w0 base B g ta n cap m (bU m l) w):=by
 have P:=Hy h.ps;have HF:=Hy h;replace hn1:=Hy hn1;replace hn2:=Hy hn2;have F:=tf1;have hmm:=@run_makeMap Tryz.prog;have F2:=gJ;have hsz:=Hy (show (hd l).t.size≤maxLen from by have:=h.ps.tl.hd;unfold maxLen;omega);have hmf:∀ (fn:Fn) (first cap:Array Value) (w:World),(Instr.makeFunc fn first cap).run Tryz.prog w=.ok (.func fn first cap) w:=fun _ _ _ _=>rfl;clear h
 go_enter Tryz.func27,Tryz.ntmps27
 go_wp2_with (first | (refine qX (B:=B) rfl (.tmp 7) (.const _) (.tmp 9) rfl rfl (World.ownsMap_made w _ _ _) (by decide) ⟨#[116,97,98,108,101]⟩ (fnT B) rfl (by decide) rfl _ (Qs B) ?_;intro wa Oa ga) | (refine qX (B:=B) rfl (.tmp 7) (.const _) (.tmp 11) rfl rfl Oa (by decide) ⟨#[102,101,97,116,117,114,101]⟩ (fnF B) rfl (by decide) rfl _ (Qt B) ?_;intro wb Ob gb));have bb:=(((aj (b0 w) (.map #[] 0)).grown ga (by simp) (fun k hk=>by cases hk;exact Nat.le_refl _)).grown gb (by have:=ga.size;simp at this;omega) (fun k hk=>by cases hk;exact Nat.le_refl _));replace P:=Hy (P.o.keeps bb);have M:=Hy (Mv.of (B:=B) bb);replace Ob:=Hy Ob;clear Oa ga gb bb;refine (eO B l wb P.o).mono ?_;rintro e w1 ⟨rfl,b1⟩;obtain ⟨v,hl,hT,hV⟩:=Lv (Ob.o.kept (un.fM b1) (by simp)) (hd l).t hsz.o;replace P:=Hy (P.o.keeps b1);replace M:=Hy (M.o.bG b1);have HF1:=Hy (HF.o.step M.o P.o);clear Ob b1;by_cases h1:(hd l).t=⟨#[116,97,98,108,101]⟩
 ·have q1:(decide ((hd l).t=⟨#[116,97,98,108,101]⟩) || decide ((hd l).t=⟨#[102,101,97,116,117,114,101]⟩))=true:=by simp [h1]
  rw [q1] at hl;obtain rfl:=hT h1;have hI:=Hy (show bU m l=(ji l).bind fun t r=>.ok { m with ts:=m.ts++[t] } r from by unfold bU;rw [if_pos h1]);unfold fnT at hl;clear q1 hT hV h1;generalize hx:hd l=x at *;clear hx;go_wp2_with fail;refine (JB w0 base B g ta n cap m l w1 HF1.o hn1.o _ rfl (zU l)).mono ?_;rintro e w2 k2;rw [← hI.o] at k2;rcases hG:bU m l with _ | ⟨m',l2⟩ | ⟨a,c,l2⟩
  ·exact absurd hG (jI m l)
  ·rw [hG] at k2;obtain ⟨rfl,F9,Q9⟩:=k2;have F9:=Hy F9;have Q9:=Hy Q9;go_wp2_with fail;go_end0;exact jR hG F9.o ((Mq.mv M.o).trans Q9.o)
  rw [hG] at k2;obtain ⟨rfl,F9,Q9⟩:=k2;have F9:=Hy F9;have Q9:=Hy Q9;unfold thr;go_wp2_with fail;exact ⟨rfl,rfl,F9.o,(Mq.mv M.o).trans Q9.o⟩
 by_cases h2:(hd l).t=⟨#[102,101,97,116,117,114,101]⟩
 ·have q1:(decide ((hd l).t=⟨#[116,97,98,108,101]⟩) || decide ((hd l).t=⟨#[102,101,97,116,117,114,101]⟩))=true:=by simp [h2]
  rw [q1] at hl;obtain rfl:=hV h2;have hI:=Hy (show bU m l=(gu l).bind fun f r=>.ok { m with fs:=m.fs++[f] } r from by unfold bU;rw [if_neg h1,if_pos h2]);unfold fnF at hl;clear q1 hT hV h1 h2;generalize hx:hd l=x at *;clear hx;go_wp2_with fail;refine (FK w0 base B g ta n cap m l w1 HF1.o hn2.o _ rfl (Bn l)).mono ?_;rintro e w2 k2;rw [← hI.o] at k2;rcases hG:bU m l with _ | ⟨m',l2⟩ | ⟨a,c,l2⟩
  ·exact absurd hG (jI m l)
  ·rw [hG] at k2;obtain ⟨rfl,F9,Q9⟩:=k2;have F9:=Hy F9;have Q9:=Hy Q9;go_wp2_with fail;go_end0;exact jR hG F9.o ((Mq.mv M.o).trans Q9.o)
  rw [hG] at k2;obtain ⟨rfl,F9,Q9⟩:=k2;have F9:=Hy F9;have Q9:=Hy Q9;unfold thr;go_wp2_with fail;exact ⟨rfl,rfl,F9.o,(Mq.mv M.o).trans Q9.o⟩
 have q1:(decide ((hd l).t=⟨#[116,97,98,108,101]⟩) || decide ((hd l).t=⟨#[102,101,97,116,117,114,101]⟩))=false:=by simp [h1,h2]
 rw [q1] at hl;have hI:=Hy (show bU m l=wrg l from by unfold bU;rw [if_neg h1,if_neg h2]);clear q1 hT hV h1 h2;have C2:=Hy (gT B l w1 P.o);generalize hx:hd l=x at *;go_wp2_with fail;refine C2.o.mono ?_;rintro e w2 ⟨rfl,b2⟩;have P2:=Hy (P.o.keeps b2);have M2:=Hy (M.o.bG b2);clear b2 C2;go_wp2_with fail;refine ⟨rfl,dN HF.o ?_ P2.o M2.o⟩;rw [hI.o,wrg,hx]
theorem Fu (B:Nat) (l:List Tk) (w:World) (h:Ps w B l) :
    Calls Tryz.prog 28 #[.pointer (some ⟨B,0,none⟩)] w fun e w' => e=.returned (.tuple #[])∧Ps w' B (lvR l)∧Mv w.heap.size B w w':=by
 have P:=Hy h;have M:=Hy (Mv.refl w.heap.size B w);have F:=tf0;clear h
 go_enter Tryz.func28,Tryz.ntmps28
 go_wp2_with fail
 go_loopg [] (l.length) (fun k wr => ∃ (l':List Tk),Hid (Ps wr B l')∧Hid (Mv w.heap.size B w wr)∧Hid (lvR l'=lvR l)∧Hid (l'.length≤k))
 case atStart=>exact ⟨l,P,M,Hy rfl,Hy lr⟩
 case round =>
  clear P M;obtain ⟨l',P,M,HL,hk⟩:=hrel;rcases gk with _ | gk
  ·exact absurd (List.eq_nil_of_length_eq_zero (Nat.le_zero.1 hk.o)) P.o.tl.ne
  have C1:=Hy (eO B l' _ P.o);go_wp2_with fail;refine C1.o.mono ?_;rintro e w1 ⟨rfl,b1⟩;have P1:=Hy (P.o.keeps b1);have M1:=Hy (M.o.bG b1);clear b1 C1 P M;by_cases h6:(hd l').k=6
  ·have q1:((hd l').k != 6)=false:=by simp [h6]
   have e1:=Hy (show lvR l'=l' from by rw [yD P1.o.tl.ne,if_pos h6]);clear h6;generalize hd l'=x at *;go_wp2_with fail;go_end0;rw [← HL.o,e1.o];exact ⟨rfl,P1.o,M1.o⟩
  have q1:((hd l').k != 6)=true:=by simp [h6]
  cases ht:isT ⟨#[59]⟩ l'
  ·have e1:=Hy (show lvR l'=lvR l'.tail from by rw [yD P1.o.tl.ne,if_neg h6,ht,if_neg (by decide)]);have HT:=Hy (P1.o.tl.tail h6);have hle:=Hy (show l'.tail.length+1≤l'.length from by have:=P1.o.tl.ne;cases l' with | nil=>exact absurd rfl this | cons x r=>simp);have hF:=Hy ht;clear h6 ht;generalize hx:hd l'=x at *;clear hx;go_wp2_with fail;refine (aN B ⟨#[59]⟩ l' _ P1.o hF.o).mono ?_;rintro e w2 ⟨rfl,pp,mm⟩;obtain ⟨q,c1,z,hq,P2⟩:=pp.go HT.o;have f:=Hy (aV hq);replace P2:=Hy P2;have M2:=Hy ((M1.o.next mm).put 1 (.int .i64 ((q:Int)+1)));clear pp mm P1 M1 hF HT;go_wp2_with fail;go_roundg gk
   case measure=>have:=hle.o;have:=hk.o;omega
   case rel=>exact ⟨l'.tail,P2,M2,Hy (e1.o.symm.trans HL.o),Hy (by have:=hle.o;have:=hk.o;omega)⟩
  have e1:=Hy (show lvR l'=l'.tail from by rw [yD P1.o.tl.ne,if_neg h6,ht,if_pos rfl]);have hT:=Hy ht;clear h6 ht;generalize hx:hd l'=x at *;clear hx;go_wp2_with fail;refine (aX B ⟨#[59]⟩ l' _ P1.o hT.o).mono ?_;rintro e w2 ⟨rfl,pp,mm⟩;have P2:=Hy pp;have M2:=Hy (M1.o.next mm);clear pp mm P1 M1;go_wp2_with fail;go_end0;rw [← HL.o,e1.o];exact ⟨rfl,P2.o,M2.o⟩
end pa
namespace pb
open Go.RowKit Go.Sort Go.Lib dec
def cP (a b:Pb):Int:=Lib.compareInt a.1 b.1
theorem IJ (x y:Pb) (W:World) :
    Calls Tryz.prog 30 #[.agg #[.int .i64 x.1,.int .i64 x.2],.agg #[.int .i64 y.1,.int .i64 y.2]] W fun e w' => e=.returned (.int .i64 (cP x y))∧∃ q os',w'=grow (W.drewN q) os':=by
 have hcon:=Hy (fun W' => Tryz.cmp_Compare_int x.1 y.1 W');have hW:=un.Jk W (.cells #[.int .i64 x.1,.int .i64 x.2] 72) (.cells #[.int .i64 y.1,.int .i64 y.2] 72);unfold cP;generalize Lib.compareInt x.1 y.1=r at hcon ⊢
 go_enter Tryz.func30,Tryz.ntmps30
 go_wp2_with fail;refine (hcon.o _).mono ?_;rintro e w' ⟨rfl,rfl⟩;go_wp2_with fail;go_ret;obtain ⟨os,ho⟩:=hW;exact ⟨rfl,0,os,ho⟩
def enP (x:Pb):List Value:=[.int .i64 x.1,.int .i64 x.2]
theorem sj (x y:Pb):ltOf cP x y=decide (x.1<y.1):=by
 show decide (cP x y<0)=_;unfold cP Lib.compareInt;by_cases h:x.1<y.1
 ·simp [h]
 by_cases h2:y.1<x.1 <;> simp [h,h2]
theorem JQ:SWO (ltOf cP) where
 irrefl x:=by rw [sj];simp
 trans x y z h1 h2:=by rw [sj] at *;simp at *;omega
 ntrans x y z h1 h2:=by rw [sj] at *;simp at *;omega
def fE (l:List Pb):Prop:=l.Pairwise fun x y=>x.1≤y.1
theorem lU (blk off size:Nat) (w:World):CmpLays Tryz.prog 30 #[] enP 2 cP blk off size w:=by
 intro m os dk _ x y;exact IJ x y _
theorem kY {w:World} {g:Nat} {l:List Pb} (h:Cl w g 0 l) (hf:∀ j,w.frozen? ⟨g,j,none⟩=false):HoldsK enP 2 w g 0 l.toArray:=by
 intro j hj;have hj':j<l.length * 2:=by simpa using hj
 have hd:j / 2<l.length:=by omega
 obtain ⟨c0,c1⟩:=h (j / 2) hd;rw [get_flatK enP 2 _ _ (by simpa using hj')];have e1:l.toArray[j / 2]! = gt l (j / 2):=by
  rw [eF hd];simp [hd]
 rw [e1];rcases Nat.mod_two_eq_zero_or_one j with hm | hm
 ·have:0+j / 2 * 2=0+j:=by omega
  rw [this] at c0;rw [hm];exact ⟨c0,hf _⟩
 have:0+j / 2 * 2+1=0+j:=by omega
 rw [this] at c1;rw [hm];exact ⟨c1,hf _⟩
theorem qQ {w:World} {g:Nat} {d:Array Pb} (h:HoldsK enP 2 w g 0 d):Cl w g 0 d.toList:=by
 intro j hj;have hj':j<d.size:=by simpa using hj
 have e1:d[j]! = gt d.toList j:=by
  rw [eF hj];simp [hj']
 have h0:=(h.cell (c:=0) hj' (by decide)).1;have h1:=(h.cell (c:=1) hj' (by decide)).1;rw [e1] at h0 h1;exact ⟨h0,h1⟩
theorem qE (base:Nat) (v:Value) (l:List Pb) (w:World) (hO:Own w base v l) (hn:l.length<5864062014805) :
    Calls Tryz.prog 29 #[v,.func (.func 30) #[] #[]] w fun e w' => e=.returned (.tuple #[])∧∃ a cap s,v=.slice a l.length cap∧s.Perm l∧fE s∧Sl w' a l.length cap s∧w.grownBy w' v.ownBlock∧(∀ x,v.ownBlock=some x→Tg w x 72∧base≤x):=by
 rcases hO.2 with ⟨rfl,h0⟩ | ⟨g,cap,cur,rfl,hbg,hh,hc,hm,hsz0,_⟩
 ·obtain rfl:l=[]:=List.eq_nil_of_length_eq_zero h0;have hS:=AnyF.slices_SortFunc_none (P:=Tryz.prog) (ρ:=Tryz.sortPr_ren) { Tryz.sortPr with } none 0 (.func (.func 30) #[] #[]) w;refine (show Calls Tryz.prog 29 _ _ _ from hS).mono ?_;rintro e w' ⟨rfl,rfl⟩;exact ⟨rfl,none,0,[],rfl,List.Perm.refl _,by simp [fE],.nil _,⟨rfl,rfl,rfl,Nat.le_refl _,fun _ _ _=>rfl⟩,fun x h=>by cases h⟩
 have eg:∀ args w,(callFunc 30 args).run Tryz.prog w=.ok (.enter 30 args) w:=enters_of Tryz.func30 (by kernel_rfl) rfl;have hg:g<w.heap.size:=bR hh;have hF:∀ j,w.frozen? ⟨g,j,none⟩=false:=fun j=>by simp [World.frozen?,hh]
 have hC:Cl w g 0 l:=fun j hj=>by
  rw [Nat.zero_add,hO.cellAt (j * 2) (by omega),hO.cellAt (j * 2+1) (by omega)];exact iR l j hj
 have hcon:=AnyQ.slices_SortFunc Tryz.sortPr 2 Tryz.isAgg72 Tryz.sizeOf72 enP (fun _=>rfl) (fun x v hv=>by simp [enP] at hv;rcases hv with rfl | rfl <;> rfl) cP JQ 30 #[] g 0 cap l.toArray w eg (lU g 0 _ w) (kY hC hF) hg (by simp;omega);simp only [List.size_toArray] at hcon;refine (show Calls Tryz.prog 29 _ _ _ from hcon).mono ?_;rintro e w' ⟨rfl,d',n,os,hp,hs,rfl⟩;have hsz:d'.size=l.length:=by have:=hp.1;simpa using this
 have hpl:d'.toList.Perm l:=by
  have:=hp.2.2;simp only [← hsz,Array.extract_size] at this;simpa [hsz] using this
 have hH:HoldsK enP 2 (sortWorldK enP 2 w g 0 n d' os) g 0 d':=holdsK_grow enP 2 _ os g 0 d' (by unfold putRowK;simpa using hg) (holdsK_putRowK enP 2 (Sort.ahead w n) g 0 l.toArray d' (holdsK_ahead enP 2 w n g 0 _ (kY hC hF)) (by simpa using hsz));refine ⟨rfl,_,cap,d'.toList,rfl,hpl,?_,⟨.inr ⟨g,0,rfl,qQ hH⟩,by simpa using hsz,hc,by unfold maxLen at hm;omega,fun h=>by cases h⟩,un.qz _,fun x h=>by cases h;exact ⟨⟨_,_,hh⟩,hbg⟩⟩;unfold fE;rw [List.pairwise_iff_getElem];intro i j hi hj hij;have h1:=hs i j zl hij (by rw [← hsz];simpa using hj);rw [sj] at h1;simp at hi hj;simp [hi,hj] at h1;simpa using h1
end pb
namespace pa
open Go.RowKit dec
theorem KpT.mono {ok ok':TypeId→Prop} {C C':Nat} {w w':World} (h:KpT ok C w w') (hok:∀ T,ok' T→ok T) (hC:C≤C'):KpT ok' C' w w':=fun b T cs fr hb hT hc=>h b T cs fr (Nat.le_trans hC hb) (hok T hT) hc
theorem Mf.kp {w0:World} {base B g:Nat} {ta:Option Addr} {n cap:Nat} {m:Mo} {l:List Tk} {w w':World} (h:Mf w0 base B g ta n cap w m l) (K:KpT (fun T=>T≠72) 0 w w') (hb:Below w0.heap.size w w'):Mf w0 base B g ta n cap w' m l:=by
 have h1:=h.h1;have h2:=h.h2;have h3:=h.h3;obtain ⟨tv,fv,ct,cf,b,r1,r2,e1,e2⟩:=h.mm.ex;have hB:w'.heap[B]? = w.heap[B]?:=by
  obtain ⟨cs,fr,ht⟩:=h.ps.tag;exact K B _ cs fr zl (by decide) ht
 have hT:∀ b off,ta=some ⟨b,off,none⟩→w'.heap[b]? = w.heap[b]?:=fun b off e=>by
  obtain ⟨t1,t2,cs,fr,t3⟩:=h.tok b off e;exact K b _ cs fr zl (by decide) t3
 refine ⟨Ps.pass h.ps h.cB hB hT h.tabs (h.bel.trans hb) (by omega),(World.cell?_of_block (w:=w) hB).trans h.cB,fun b off e=>?_,h.tabs,h.bel.trans hb,h1,h2,h3,by have:=h.h4;have:=hb.size;omega,⟨tv,fv,ct,cf,(K g _ _ _ zl (by decide) b).trans b,?_,?_,?_,?_⟩⟩
 ·obtain ⟨t1,t2,t3⟩:=h.tok b off e;exact ⟨t1,t2,K.tg zl (by decide) t3⟩
 ·exact Rw.kpT r1 K (by decide) zl
 ·exact Rw.kpT r2 K (by decide) zl
 ·exact e1.map fun c y hq=>TbQ.kpT (ok:=fun T=>T≠72) (by decide) (by decide) hq (KpT.mono K (fun _ h=>h) zl)
 exact e2.map fun c y hq=>FeQ.kpT (ok:=fun T=>T≠72) (by decide) (by decide) hq (KpT.mono K (fun _ h=>h) zl)
theorem Mf.NP {w0:World} {base B g k:Nat} {ta:Option Addr} {n cap:Nat} {m:Mo} {l:List Tk} {w w':World} {cs:Array Value} (h:Mf w0 base B g ta n cap w m l) (hs:St k w w') (hb:Blk w k 72 cs) (hk:base≤k):Mf w0 base B g ta n cap w' m l :=
 h.kp (St.kpT hs hb (by simp) 0) (hs.below (by have:=h.h1;have:=h.h2;have:=h.h3;omega))
theorem Ap {w w':World} {base:Nat} {v:Value} {l:List Pb} (hO:pb.Own w base v l) (hg:w.grownBy w' v.ownBlock):KpT (fun T=>T≠72) 0 w w':=fun b T cs fr _ hT hc=>hg.block b (bR hc) (by
 intro e
 rcases hO.2 with ⟨rfl,_⟩ | ⟨g,cap,cur,rfl,_,hh,_⟩
 ·cases e
 ·cases e
  rw [hh] at hc
  cases hc
  exact hT rfl)
theorem CF {w w':World} {base B g:Nat} {v:Value} {l:List Pb} (hO:pb.Own w base v l) (Q:Mq B g w w') (hB:Tg w B 67) (hg:Tg w g 27):pb.Own w' base v l:=by
 obtain ⟨h1,h2⟩:=hO;refine ⟨h1,?_⟩;rcases h2 with h0 | ⟨k,cap,cur,e,hbg,hh,r⟩
 ·exact .inl h0
 refine .inr ⟨k,cap,cur,e,hbg,?_,r⟩;rw [Q.block k _ cur (0,0) hh ?_ ?_ (by decide) (by decide)]
 ·exact hh
 ·rintro rfl;obtain ⟨cs,fr,ht⟩:=hB;rw [ht] at hh;cases hh
 rintro rfl;obtain ⟨cs,fr,ht⟩:=hg;rw [ht] at hh;cases hh
theorem Fb (bp:Nat) (w0:World) (base B g:Nat) (ta:Option Addr) (n cap:Nat) (m:Mo) (l:List Tk) (w:World) (h:Mf w0 base B g ta n cap w m l) (hn1:m.ts.length<1048577) (hn2:m.fs.length<1048577) (hp:Blk w bp 65 #[.pointer (some ⟨B,0,none⟩)]) :
    Calls Tryz.prog 26 #[.pointer (some ⟨bp,0,none⟩),.pointer (some ⟨g,0,none⟩)] w (Mst w0 base B g ta n cap m (bU m l) w):=by
 have I:=Hy (Oo w0 base B g ta n cap m l w h hn1 hn2);have e0:w.cell? ⟨bp,0,none⟩=some (.pointer (some ⟨B,0,none⟩)):=hp.cell 0;clear h hp
 go_enter Tryz.func26,Tryz.ntmps26
 go_wp2_with fail;refine I.o.mono ?_;rintro e w2 k2;rcases hG:bU m l with _ | ⟨m',l2⟩ | ⟨a,c,l2⟩
 ·exact absurd hG (jI m l)
 ·rw [hG] at k2;obtain ⟨rfl,F9,Q9⟩:=k2;have F9:=Hy F9;have Q9:=Hy Q9;go_wp2_with fail;go_end0;exact jR hG F9.o Q9.o
 rw [hG] at k2;obtain ⟨rfl,F9,Q9⟩:=k2;have F9:=Hy F9;have Q9:=Hy Q9;unfold thr;go_wp2_with fail;refine ⟨rfl,?_⟩
 first | exact ⟨rfl,F9.o,Q9.o⟩ | (rw [hG];exact ⟨rfl,F9.o,Q9.o⟩)
theorem Pf (bp:Nat) {w0:World} {base B g:Nat} {ta:Option Addr} {n cap:Nat} {m m':Mo} {l l':List Tk} {w:World} (h:Mf w0 base B g ta n cap w m l) (hn1:m.ts.length<1048577) (hn2:m.fs.length<1048577) (hp:Blk w bp 65 #[.pointer (some ⟨B,0,none⟩)]) (hG:bU m l=.ok m' l') :
    Calls Tryz.prog 25 #[.func (.func 26) #[] #[.pointer (some ⟨bp,0,none⟩),.pointer (some ⟨g,0,none⟩)]] w fun e w' => e=.returned (.agg #[.int .i64 0,.int .i64 0])∧Mf w0 base B g ta n cap w' m' l'∧Mq B g w w':=by
 have bb:=aj (b0 w) (.cells #[.int .i64 0,.int .i64 0] 72);have h1:=h.step (Mv.of bb) (h.ps.keeps bb);have hI:=Fb bp w0 base B g ta n cap m l _ h1 hn1 hn2 (hp.past _);rw [hG] at hI;have hBg:B<w.heap.size:=h.ps.lt;have hg:g<w.heap.size:=Nat.lt_trans h.h2 hBg;have n1:w.heap.size≠B:=Nat.ne_of_gt hBg;have n2:w.heap.size≠g:=Nat.ne_of_gt hg;have hY:∀ w',Mq B g (w.alloc (.cells #[.int .i64 0,.int .i64 0] 72)) w'→Blk w' w.heap.size 72 #[.int .i64 0,.int .i64 0]:=fun w' Q=>by
  have:=Q.block w.heap.size 72 _ (0,0) (Blk.new w 72 #[.int .i64 0,.int .i64 0]) n1 n2 (by decide) (by decide);exact this.trans (Blk.new w _ _)
 refine (nX 26 _ w (fun w' => Mf w0 base B g ta n cap w' m' l'∧Mq B g (w.alloc (.cells #[.int .i64 0,.int .i64 0] 72)) w') (fun w' hY' => hY w' hY'.2) hI (fun _=>rfl)).mono ?_;rintro e w'' ⟨w',⟨F',Q'⟩,S',rfl⟩;have hsz:=Q'.size;simp at hsz;refine ⟨rfl,F'.NP S' (hY w' Q') h.h4,by have:=S'.size;omega,fun k T cs fr hk hn hg' t1 t2=>?_⟩;have hlt:=bR hk;have a1:=Go.heap_alloc_old w (.cells #[.int .i64 0,.int .i64 0] 72) hlt;have a2:=Q'.block k T cs fr (a1.trans hk) hn hg' t1 t2;exact (S'.block k (by omega)).trans (a2.trans a1)
theorem Pg (bp:Nat) {w0:World} {base B g:Nat} {ta:Option Addr} {n cap:Nat} {m:Mo} {l l':List Tk} {w:World} (h:Mf w0 base B g ta n cap w m l) (hn1:m.ts.length<1048577) (hn2:m.fs.length<1048577) (hp:Blk w bp 65 #[.pointer (some ⟨B,0,none⟩)]) {a c:Int} (hG:bU m l=.no a c l') :
    Calls Tryz.prog 25 #[.func (.func 26) #[] #[.pointer (some ⟨bp,0,none⟩),.pointer (some ⟨g,0,none⟩)]] w fun e w' => e=.returned (.agg #[.int .i64 a,.int .i64 c])∧Mf w0 base B g ta n cap w' m l'∧Mq B g w w':=by
 have bb:=aj (b0 w) (.cells #[.int .i64 0,.int .i64 0] 72);have h1:=h.step (Mv.of bb) (h.ps.keeps bb);have hI:=Fb bp w0 base B g ta n cap m l _ h1 hn1 hn2 (hp.past _);rw [hG] at hI;have hBg:B<w.heap.size:=h.ps.lt;have hg:g<w.heap.size:=Nat.lt_trans h.h2 hBg;have n1:w.heap.size≠B:=Nat.ne_of_gt hBg;have n2:w.heap.size≠g:=Nat.ne_of_gt hg;have hY:∀ w',Mq B g (w.alloc (.cells #[.int .i64 0,.int .i64 0] 72)) w'→Blk w' w.heap.size 72 #[.int .i64 0,.int .i64 0]:=fun w' Q=>by
  have:=Q.block w.heap.size 72 _ (0,0) (Blk.new w 72 #[.int .i64 0,.int .i64 0]) n1 n2 (by decide) (by decide);exact this.trans (Blk.new w _ _)
 refine (nY 26 _ w a c (fun w' => Mf w0 base B g ta n cap w' m l'∧Mq B g (w.alloc (.cells #[.int .i64 0,.int .i64 0] 72)) w') (fun w' hY' => hY w' hY'.2) hI (fun _=>rfl)).mono ?_;rintro e w'' ⟨w',⟨F',Q'⟩,S',rfl⟩;have hsz:=Q'.size;simp at hsz;refine ⟨rfl,F'.NP S' (hY w' Q') h.h4,by have:=S'.size;omega,fun k T cs fr hk hn hg' t1 t2=>?_⟩;have hlt:=bR hk;have a1:=Go.heap_alloc_old w (.cells #[.int .i64 0,.int .i64 0] 72) hlt;have a2:=Q'.block k T cs fr (a1.trans hk) hn hg' t1 t2;exact (S'.block k (by omega)).trans (a2.trans a1)
end pa
end Go.Proofs.YtbpijgddfaefkaaGreatDoor
