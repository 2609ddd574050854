/-
  The reference's Form; The reference's Shape; Lists of tokens in memory: slices that are read, slices of the call's own; append; one of them in a block.
-/
import Derived.Test.YtbahfelnbofjjaaGreatDoorG19
set_option maxRecDepth 100000
set_option maxHeartbeats 16000000
namespace Go.Proofs.YtbahfelnbofjjaaGreatDoor
namespace ch
open Go.RowKit dec
theorem Gh (n:Nat) (IH:∀ (i:Bool) (x:Ex) (ua aa:Option Addr) (uc ac:Nat) (w:World),x.ar.sz<n→x.szs→Ec w x ua uc aa ac→Calls Tryz.prog 65 #[.agg (exC x.h x.ar.len ua uc aa ac),.bool i] w (Bl (fmE i x) w))
    (i:Bool) (x:Ex) (ua aa:Option Addr) (uc ac:Nat) (w:World) (hz:x.ar.sz=n) (hsx:x.szs) (hA:Ec w x ua uc aa ac):Calls Tryz.prog 65 #[.agg (exC x.h x.ar.len ua uc aa ac),.bool i] w (Bl (fmE i x) w):=by
 have bb:=au (b0 w) (.cells (exC x.h x.ar.len ua uc aa ac) 29);have B0:=Hy bb;have G:=Hy (Blk.new w 29 (exC x.h x.ar.len ua uc aa ac));have HA:=Hy (hA.keeps bb);have IH':=Hy IH;have HZ:=Hy hz;have HS:=Hy hsx;have CN:=Hy (fun (W:World) (S:Ec W x ua uc aa ac)=>IY i x.h x.ar.len ua aa uc ac W hsx.h.vs S.us);have hmax:=Hy (show x.ar.len≤9223372036854775807 from by have:=hA.ar.hcap;have:=hA.ar.hmax;omega);have hE:=Hy (oW i x);have hD:=Hy (Qw i x.h x.ar.len (x.ar.nth 0).h);clear bb hA IH hz hsx
 go_enter Tryz.func65,Tryz.ntmps65
 go_upto_region 1 with fail
 generalize hw0:(w.alloc (.cells (exC x.h x.ar.len ua uc aa ac) 29))=w0 at *;generalize hg2:w.heap.size=g2 at G ⊢;clear hw0 hg2;go_wp2_with (first | (refine aF aJ Tryz.underlying29 rfl (.tmp 2) rfl rfl _ _ _ rfl G.o rfl ?_));refine (CN.o _ HA.o).mono ?_;rintro e w1 ⟨rfl,b1⟩;have B1:=Hy (aA B0.o b1);replace G:=Hy (G.o.keeps b1);replace HA:=Hy (HA.o.keeps b1);clear b1;clear CN;have c0:=G.o.cell 0;have c11:=G.o.cell 11;simp only [exC,sz2,sz3,sz4] at c0 c11;have hk9:i=true→gF i x.h=true→x.h.k≠5:=fun e h k=>by rw [e] at h;unfold gF at h;simp [k] at h
 replace hk9:=Hy hk9;have h52:=Hy (show x.h.k=5→arN x.h.k=2 from fun e=>by rw [e];rfl);generalize hr:gF i x.h=r at *;generalize hm:arN x.h.k=m at *;clear hr hm;cases r
 ·go_wp2_with fail;go_ret;exact aK (by rw [hE.o,← hD.o];rfl) B1.o
 by_cases hn:(x.ar.len:Int)=m
 ·have q1:((x.ar.len:Int) != m)=false:=by simp [hn]
  have hF:fmE i x=(qO x.h (bS (x.ar.nth 0).h) && fmA (i || decide (x.h.k=5)) x.ar):=by rw [hE.o,← hD.o,dT hn];rfl
  replace hF:=Hy hF;subst hn;clear hE hD;cases i
  ·by_cases hk:x.h.k=5
   ·have hF2:fmE false x=((!decide (x.h.op=⟨#[99,111,117,110,116]⟩) || bS (x.ar.nth 0).h) && fmA true x.ar):=by rw [hF.o];unfold qO;rw [dT hk];rfl
    have qk:=bB hk;have qk2:(x.h.k != 5)=false:=by simp [hk]
    have hl2:=Hy (h52.o hk);replace hF2:=Hy hF2;replace hk:=Hy hk;clear hF;go_wp2_with fail
    go_loopw [7] (fun vi wr => ∃ j:Nat,vi=.int .i64 (j:Nat)∧Hid (j≤x.ar.len)∧Hid (fmA true x.ar=fmA true (x.ar.drop j))∧Hid (Below w1.heap.size w1 wr)) (fun vi _=>x.ar.len - (intOf vi).toNat)
    case atStart=>exact ⟨0,rfl,Hy zl,Hy (by rw [drop_zero]),Hy (b0 w1)⟩
    case round =>
     obtain ⟨j,rfl,hj,hR,hb⟩:=hrel;have Bw:=Hy (aA B1.o hb.o);replace G:=Hy (G.o.keeps hb.o);replace HA:=Hy (HA.o.keeps hb.o);by_cases hlt:j<x.ar.len
     ·have q1:decide ((j:Int)<(x.ar.len:Int))=true:=dT (by omega);have i1:(j:Int)<(x.ar.len:Int):=by omega
      have f4:=Hy (aS (j:=j) (by have:=hmax.o;omega));obtain ⟨bk,off,va,wa,vc,wc2,rfl,R1,E1⟩:=HA.o.ar.at hlt;replace R1:=Hy R1;replace E1:=Hy E1;have hR2:=Hy (hR.o.trans (qK hlt true));have hsz:=Hy (fV x.ar j hlt);have hys:=Hy (ko x.ar j HS.o.ar);have hlt2:=Hy hlt;clear HA hj;generalize hy:x.ar.nth j=y at *;clear hy
      go_upto_region 7 with fail
      go_cut [40] from 28 to 40 (fun v wx=>v=.bool (!fmE true y)∧Hid (Below wr.heap.size wr wx))
      case first =>
       refine wp_region_held_drew (S:=fun w' => Below wr.heap.size wr w') (by kernel_rfl) (b0 wr).drew (fun hH=>?_);refine ak 0 28 ?_ hH (fun w' hS=>?_) ?_;rotate_left
       ·go_simp;try with_reducible rfl
       simp only [sz0,sz1];refine ak 1 29 ?_ hH (fun w' hS=>?_) ?_;rotate_left
       ·have m11:=(G.o.keeps hS).cell 11;simp only [exC,sz2,sz3,sz4] at m11;go_simp;try with_reducible rfl
       simp only [sz0,sz1];refine ak 2 30 ?_ hH (fun w' hS=>?_) ?_;rotate_left
       ·go_simp;try with_reducible rfl
       simp only [sz0,sz1];refine ak 3 31 ?_ hH (fun w' hS=>?_) ?_;rotate_left
       ·go_simp;try with_reducible rfl
       simp only [sz0,sz1];refine aZ 4 32 (.agg (exC y.h y.ar.len va wa vc wc2)) rfl (by kernel_rfl) rfl (fun _ _ _ h=>h) rfl hH (fun w' hS=>cK aJ Tryz.underlying29 rfl (.tmp 31) rfl bk (off+j * 12) (exC y.h y.ar.len va wa vc wc2) rfl (aM R1.o hS) rfl) ?_;simp only [sz0,sz1];refine ak 5 33 ?_ hH (fun w' hS=>?_) ?_;rotate_left
       ·go_simp;try with_reducible rfl
       simp only [sz0,sz1];refine ak 6 34 ?_ hH (fun w' hS=>?_) ?_;rotate_left
       ·go_simp;try with_reducible rfl
       simp only [sz0,sz1];generalize wr.drew=yy at *;refine ak 7 35 ?_ hH (fun w' hS=>?_) ?_;rotate_left
       ·go_simp;try with_reducible rfl
       simp only [sz0,sz1];refine ak 8 36 ?_ hH (fun w' hS=>?_) ?_;rotate_left
       ·have m0:=(G.o.keeps hS).cell 0;simp only [exC,sz2,sz3] at m0;go_simp;try with_reducible rfl
       simp only [sz0,sz1];refine ak 9 37 ?_ hH (fun w' hS=>?_) ?_;rotate_left
       ·go_simp;try with_reducible rfl
       simp only [sz0,sz1];refine ak 10 38 ?_ hH (fun w' hS=>?_) ?_;rotate_left
       ·go_simp;try with_reducible rfl
       simp only [sz0,sz1];refine aC 11 (fun K hK=>?_);go_simp;refine (IH'.o true y va vc wa wc2 _ (by have:=hsz.o;have:=HZ.o;omega) hys.o (E1.o.keeps hH)).mono ?_;rintro e y71 ⟨rfl,b71⟩;skip;refine hK.o _ _ (aA hH b71) (fun hH=>?_);clear hK K;clear b71;refine ak 12 40 ?_ hH (fun w' hS=>?_) ?_;rotate_left
       ·go_simp;try with_reducible rfl
       simp only [sz0,sz1];refine wpAnyH_done (by kernel_rfl) ?_ _;go_wp2_with fail
       go_meet
       case rel=>exact ⟨rfl,Hy hH⟩
      case rest =>
       obtain ⟨rfl,BW⟩:=hcut;have Bx:=Hy (aA Bw.o BW.o);have hb6:=Hy (aA hb.o BW.o);clear BW;generalize fmE true y=fy at *;cases fy
       ·go_wp2_with fail;go_ret;exact aK (by rw [hF2.o,hR2.o,Bool.false_and,Bool.and_false]) Bx.o
       go_wp2_with fail;exact ⟨⟨j+1,congrArg (Value.int .i64) f4.o,hlt2,Hy (hR2.o.trans (Bool.true_and _)),hb6⟩,aN hlt2.o f4.o⟩
     have q1:decide ((j:Int)<(x.ar.len:Int))=false:=dF (by omega);have hT:=Hy (show fmA true x.ar=true from by rw [hR.o,eO _ _ (by omega)];rfl);clear hR
     go_upto_region 9 with fail
     go_cut [4] from 41 to 56 (fun v wx=>v=.bool (fmE false x)∧Hid (Below wr.heap.size wr wx))
     case first =>
      refine wp_region_held_drew (S:=fun w' => Below wr.heap.size wr w') (by kernel_rfl) (b0 wr).drew (fun hH=>?_);refine ak 0 41 ?_ hH (fun w' hS=>?_) ?_;rotate_left
      ·go_simp;try with_reducible rfl
      simp only [sz0,sz1];refine ak 1 42 ?_ hH (fun w' hS=>?_) ?_;rotate_left
      ·have m0:=(G.o.keeps hS).cell 0;simp only [exC,sz2,sz3] at m0;go_simp;try with_reducible rfl
      simp only [sz0,sz1];refine ak 2 43 ?_ hH (fun w' hS=>?_) ?_;rotate_left
      ·go_simp;try with_reducible rfl
      simp only [sz0,sz1];refine ak 3 44 ?_ hH (fun w' hS=>?_) ?_;rotate_left
      ·go_simp;try with_reducible rfl
      simp only [sz0,sz1];generalize wr.drew=yy at *;by_cases hc:x.h.op=⟨#[99,111,117,110,116]⟩
      ·have qs:(x.h.op.toList==[99,111,117,110,116])=true:=by rw [eqL];exact dT hc
       have qn:(!x.h.op.toList==[99,111,117,110,116])=false:=by rw [qs];rfl
       have qc:=Hy (dT hc);clear hc;have h0l:0<x.ar.len:=by have:=hl2.o;omega
       obtain ⟨bk,off,va,wa,vc,wc2,rfl,R1,E1⟩:=HA.o.ar.at h0l;rw [Nat.zero_mul,Nat.add_zero] at R1;replace R1:=Hy R1;replace E1:=Hy E1;have hy0:=rP x.ar true 0 hT.o h0l;rw [oW,Bool.and_eq_true] at hy0;have ht:=Hy (Py hy0.1);clear hy0;generalize x.ar.nth 0=y at *;refine ak 4 45 ?_ hH (fun w' hS=>?_) ?_;rotate_left
       ·go_simp;try with_reducible rfl
       simp only [sz0,sz1];refine ak 5 46 ?_ hH (fun w' hS=>?_) ?_;rotate_left
       ·have m1:=(G.o.keeps hS).cell 1;simp only [exC,sz2,sz3,sz4] at m1;go_simp;try with_reducible rfl
       simp only [sz0,sz1];refine ak 6 47 ?_ hH (fun w' hS=>?_) ?_;rotate_left
       ·go_simp;try with_reducible rfl
       simp only [sz0,sz1];refine ak 7 48 ?_ hH (fun w' hS=>?_) ?_;rotate_left
       ·go_simp;try with_reducible rfl
       simp only [sz0,sz1];refine ak 8 49 ?_ hH (fun w' hS=>?_) ?_;rotate_left
       ·go_simp;try with_reducible rfl
       simp only [sz0,sz1];refine ak 9 50 ?_ hH (fun w' hS=>?_) ?_;rotate_left
       ·go_simp;try with_reducible rfl
       simp only [sz0,sz1];refine ak 10 51 ?_ hH (fun w' hS=>?_) ?_;rotate_left
       ·have m11:=(G.o.keeps hS).cell 11;simp only [exC,sz2,sz3,sz4] at m11;go_simp;try with_reducible rfl
       simp only [sz0,sz1];refine ak 11 52 ?_ hH (fun w' hS=>?_) ?_;rotate_left
       ·go_simp;try with_reducible rfl
       simp only [sz0,sz1];refine aZ 12 53 (.agg (exC y.h y.ar.len va wa vc wc2)) rfl (by kernel_rfl) rfl (fun _ _ _ h=>h) rfl hH (fun w' hS=>cK aJ Tryz.underlying29 rfl (.tmp 52) rfl bk off (exC y.h y.ar.len va wa vc wc2) rfl (aM R1.o hS) rfl) ?_;simp only [sz0,sz1];refine aC 13 (fun K hK=>?_);go_simp;refine (Pw _).mono ?_;rintro e y91 ⟨rfl,b91⟩;skip;refine hK.o _ _ (aA hH b91) (fun hH=>?_);clear hK K;clear b91;refine aC 14 (fun K hK=>?_);go_simp;refine (Ag y.h y.ar.len va vc wa wc2 _ (E1.o.us.keeps hH)).mono ?_;rintro e y92 ⟨rfl,b92⟩;skip;refine hK.o _ _ (aA hH b92) (fun hH=>?_);clear hK K;clear b92;refine ak 15 56 ?_ hH (fun w' hS=>?_) ?_;rotate_left
       ·go_simp;try with_reducible rfl
       simp only [sz0,sz1];refine ak 16 4 ?_ hH (fun w' hS=>?_) ?_;rotate_left
       ·go_simp;try with_reducible rfl
       simp only [sz0,sz1];refine wpAnyH_done (by kernel_rfl) ?_ _;go_wp2_with fail
       go_meet
       case rel=>exact ⟨congrArg Value.bool (by rw [hF2.o,hT.o,qc.o,ht.o];simp),Hy hH⟩
      have qs:(x.h.op.toList==[99,111,117,110,116])=false:=by rw [eqL];exact dF hc
      have qn:(!x.h.op.toList==[99,111,117,110,116])=true:=by rw [qs];rfl
      have qc:=Hy (dF hc);clear hc;refine ak 4 45 ?_ hH (fun w' hS=>?_) ?_;rotate_left
      ·go_simp;try with_reducible rfl
      simp only [sz0,sz1];refine ak 5 46 ?_ hH (fun w' hS=>?_) ?_;rotate_left
      ·have m1:=(G.o.keeps hS).cell 1;simp only [exC,sz2,sz3,sz4] at m1;go_simp;try with_reducible rfl
      simp only [sz0,sz1];refine ak 6 47 ?_ hH (fun w' hS=>?_) ?_;rotate_left
      ·go_simp;try with_reducible rfl
      simp only [sz0,sz1];refine ak 7 48 ?_ hH (fun w' hS=>?_) ?_;rotate_left
      ·go_simp;try with_reducible rfl
      simp only [sz0,sz1];refine ak 8 49 ?_ hH (fun w' hS=>?_) ?_;rotate_left
      ·go_simp;try with_reducible rfl
      simp only [sz0,sz1];refine aB (i:=9) (d:=50) rfl (by kernel_rfl) (by kernel_rfl) (by kernel_rfl) rfl (fun _ _ _ h=>h) rfl hH ?_;simp only [sz0,sz1];refine aB (i:=10) (d:=51) rfl (by kernel_rfl) (by kernel_rfl) (by kernel_rfl) rfl (fun _ _ _ h=>h) rfl hH ?_;simp only [sz0,sz1];refine aB (i:=11) (d:=52) rfl (by kernel_rfl) (by kernel_rfl) (by kernel_rfl) rfl (fun _ _ _ h=>h) rfl hH ?_;simp only [sz0,sz1];refine aB (i:=12) (d:=53) rfl (by kernel_rfl) (by kernel_rfl) (by kernel_rfl) rfl (fun _ _ _ h=>h) rfl hH ?_;simp only [sz0,sz1];refine bG (i:=13) rfl (by kernel_rfl) rfl hH ?_;go_simp;refine bG (i:=14) rfl (by kernel_rfl) rfl hH ?_;go_simp;refine ak 15 56 ?_ hH (fun w' hS=>?_) ?_;rotate_left
      ·go_simp;try with_reducible rfl
      simp only [sz0,sz1];refine ak 16 4 ?_ hH (fun w' hS=>?_) ?_;rotate_left
      ·go_simp;try with_reducible rfl
      simp only [sz0,sz1];refine wpAnyH_done (by kernel_rfl) ?_ _;go_wp2_with fail
      go_meet
      case rel=>exact ⟨congrArg Value.bool (by rw [hF2.o,hT.o,qc.o];rfl),Hy hH⟩
     case rest =>
      obtain ⟨rfl,BW⟩:=hcut;have Bx:=Hy (aA Bw.o BW.o);go_wp2_with fail;go_ret;exact aK rfl Bx.o
   have hF2:fmE false x=fmA false x.ar:=by rw [hF.o];unfold qO;rw [dF hk];rfl
   have qk:=bg hk;have qk2:(x.h.k != 5)=true:=by simp [hk]
   replace hF2:=Hy hF2;replace hk:=Hy hk;clear hF;go_wp2_with fail
   go_loopw [7] (fun vi wr => ∃ j:Nat,vi=.int .i64 (j:Nat)∧Hid (j≤x.ar.len)∧Hid (fmA false x.ar=fmA false (x.ar.drop j))∧Hid (Below w1.heap.size w1 wr)) (fun vi _=>x.ar.len - (intOf vi).toNat)
   case atStart=>exact ⟨0,rfl,Hy zl,Hy (by rw [drop_zero]),Hy (b0 w1)⟩
   case round =>
    obtain ⟨j,rfl,hj,hR,hb⟩:=hrel;have Bw:=Hy (aA B1.o hb.o);replace G:=Hy (G.o.keeps hb.o);replace HA:=Hy (HA.o.keeps hb.o);by_cases hlt:j<x.ar.len
    ·have q1:decide ((j:Int)<(x.ar.len:Int))=true:=dT (by omega);have i1:(j:Int)<(x.ar.len:Int):=by omega
     have f4:=Hy (aS (j:=j) (by have:=hmax.o;omega));obtain ⟨bk,off,va,wa,vc,wc2,rfl,R1,E1⟩:=HA.o.ar.at hlt;replace R1:=Hy R1;replace E1:=Hy E1;have hR2:=Hy (hR.o.trans (qK hlt false));have hsz:=Hy (fV x.ar j hlt);have hys:=Hy (ko x.ar j HS.o.ar);have hlt2:=Hy hlt;clear HA hj;generalize hy:x.ar.nth j=y at *;clear hy
     go_upto_region 7 with fail
     go_cut [40] from 28 to 40 (fun v wx=>v=.bool (!fmE false y)∧Hid (Below wr.heap.size wr wx))
     case first =>
      refine wp_region_held_drew (S:=fun w' => Below wr.heap.size wr w') (by kernel_rfl) (b0 wr).drew (fun hH=>?_);refine ak 0 28 ?_ hH (fun w' hS=>?_) ?_;rotate_left
      ·go_simp;try with_reducible rfl
      simp only [sz0,sz1];refine ak 1 29 ?_ hH (fun w' hS=>?_) ?_;rotate_left
      ·have m11:=(G.o.keeps hS).cell 11;simp only [exC,sz2,sz3,sz4] at m11;go_simp;try with_reducible rfl
      simp only [sz0,sz1];refine ak 2 30 ?_ hH (fun w' hS=>?_) ?_;rotate_left
      ·go_simp;try with_reducible rfl
      simp only [sz0,sz1];refine ak 3 31 ?_ hH (fun w' hS=>?_) ?_;rotate_left
      ·go_simp;try with_reducible rfl
      simp only [sz0,sz1];refine aZ 4 32 (.agg (exC y.h y.ar.len va wa vc wc2)) rfl (by kernel_rfl) rfl (fun _ _ _ h=>h) rfl hH (fun w' hS=>cK aJ Tryz.underlying29 rfl (.tmp 31) rfl bk (off+j * 12) (exC y.h y.ar.len va wa vc wc2) rfl (aM R1.o hS) rfl) ?_;simp only [sz0,sz1];refine ak 5 33 ?_ hH (fun w' hS=>?_) ?_;rotate_left
      ·go_simp;try with_reducible rfl
      simp only [sz0,sz1];refine ak 6 34 ?_ hH (fun w' hS=>?_) ?_;rotate_left
      ·go_simp;try with_reducible rfl
      simp only [sz0,sz1];generalize wr.drew=yy at *;refine ak 7 35 ?_ hH (fun w' hS=>?_) ?_;rotate_left
      ·go_simp;try with_reducible rfl
      simp only [sz0,sz1];refine ak 8 36 ?_ hH (fun w' hS=>?_) ?_;rotate_left
      ·have m0:=(G.o.keeps hS).cell 0;simp only [exC,sz2,sz3] at m0;go_simp;try with_reducible rfl
      simp only [sz0,sz1];refine ak 9 37 ?_ hH (fun w' hS=>?_) ?_;rotate_left
      ·go_simp;try with_reducible rfl
      simp only [sz0,sz1];refine ak 10 38 ?_ hH (fun w' hS=>?_) ?_;rotate_left
      ·go_simp;try with_reducible rfl
      simp only [sz0,sz1];refine aC 11 (fun K hK=>?_);go_simp;refine (IH'.o false y va vc wa wc2 _ (by have:=hsz.o;have:=HZ.o;omega) hys.o (E1.o.keeps hH)).mono ?_;rintro e y71 ⟨rfl,b71⟩;skip;refine hK.o _ _ (aA hH b71) (fun hH=>?_);clear hK K;clear b71;refine ak 12 40 ?_ hH (fun w' hS=>?_) ?_;rotate_left
      ·go_simp;try with_reducible rfl
      simp only [sz0,sz1];refine wpAnyH_done (by kernel_rfl) ?_ _;go_wp2_with fail
      go_meet
      case rel=>exact ⟨rfl,Hy hH⟩
     case rest =>
      obtain ⟨rfl,BW⟩:=hcut;have Bx:=Hy (aA Bw.o BW.o);have hb6:=Hy (aA hb.o BW.o);clear BW;generalize fmE false y=fy at *;cases fy
      ·go_wp2_with fail;go_ret;exact aK (by rw [hF2.o,hR2.o,Bool.false_and]) Bx.o
      go_wp2_with fail;exact ⟨⟨j+1,congrArg (Value.int .i64) f4.o,hlt2,Hy (hR2.o.trans (Bool.true_and _)),hb6⟩,aN hlt2.o f4.o⟩
    have q1:decide ((j:Int)<(x.ar.len:Int))=false:=dF (by omega);have hT:=Hy (show fmA false x.ar=true from by rw [hR.o,eO _ _ (by omega)];rfl);clear hR
    go_upto_region 9 with fail
    go_cut [4] from 41 to 56 (fun v wx=>v=.bool (fmE false x)∧Hid (Below wr.heap.size wr wx))
    case first =>
     refine wp_region_held_drew (S:=fun w' => Below wr.heap.size wr w') (by kernel_rfl) (b0 wr).drew (fun hH=>?_);refine ak 0 41 ?_ hH (fun w' hS=>?_) ?_;rotate_left
     ·go_simp;try with_reducible rfl
     simp only [sz0,sz1];refine ak 1 42 ?_ hH (fun w' hS=>?_) ?_;rotate_left
     ·have m0:=(G.o.keeps hS).cell 0;simp only [exC,sz2,sz3] at m0;go_simp;try with_reducible rfl
     simp only [sz0,sz1];refine ak 2 43 ?_ hH (fun w' hS=>?_) ?_;rotate_left
     ·go_simp;try with_reducible rfl
     simp only [sz0,sz1];refine ak 3 44 ?_ hH (fun w' hS=>?_) ?_;rotate_left
     ·go_simp;try with_reducible rfl
     simp only [sz0,sz1];generalize wr.drew=yy at *;refine aB (i:=4) (d:=45) rfl (by kernel_rfl) (by kernel_rfl) (by kernel_rfl) rfl (fun _ _ _ h=>h) rfl hH ?_;simp only [sz0,sz1];refine aB (i:=5) (d:=46) rfl (by kernel_rfl) (by kernel_rfl) (by kernel_rfl) rfl (fun _ _ _ h=>h) rfl hH ?_;simp only [sz0,sz1];refine aB (i:=6) (d:=47) rfl (by kernel_rfl) (by kernel_rfl) (by kernel_rfl) rfl (fun _ _ _ h=>h) rfl hH ?_;simp only [sz0,sz1];refine ak 7 48 ?_ hH (fun w' hS=>?_) ?_;rotate_left
     ·go_simp;try with_reducible rfl
     simp only [sz0,sz1];refine ak 8 49 ?_ hH (fun w' hS=>?_) ?_;rotate_left
     ·go_simp;try with_reducible rfl
     simp only [sz0,sz1];refine aB (i:=9) (d:=50) rfl (by kernel_rfl) (by kernel_rfl) (by kernel_rfl) rfl (fun _ _ _ h=>h) rfl hH ?_;simp only [sz0,sz1];refine aB (i:=10) (d:=51) rfl (by kernel_rfl) (by kernel_rfl) (by kernel_rfl) rfl (fun _ _ _ h=>h) rfl hH ?_;simp only [sz0,sz1];refine aB (i:=11) (d:=52) rfl (by kernel_rfl) (by kernel_rfl) (by kernel_rfl) rfl (fun _ _ _ h=>h) rfl hH ?_;simp only [sz0,sz1];refine aB (i:=12) (d:=53) rfl (by kernel_rfl) (by kernel_rfl) (by kernel_rfl) rfl (fun _ _ _ h=>h) rfl hH ?_;simp only [sz0,sz1];refine bG (i:=13) rfl (by kernel_rfl) rfl hH ?_;go_simp;refine bG (i:=14) rfl (by kernel_rfl) rfl hH ?_;go_simp;refine ak 15 56 ?_ hH (fun w' hS=>?_) ?_;rotate_left
     ·go_simp;try with_reducible rfl
     simp only [sz0,sz1];refine ak 16 4 ?_ hH (fun w' hS=>?_) ?_;rotate_left
     ·go_simp;try with_reducible rfl
     simp only [sz0,sz1];refine wpAnyH_done (by kernel_rfl) ?_ _;go_wp2_with fail
     go_meet
     case rel=>exact ⟨congrArg Value.bool (by rw [hF2.o,hT.o]),Hy hH⟩
    case rest =>
     obtain ⟨rfl,BW⟩:=hcut;have Bx:=Hy (aA Bw.o BW.o);go_wp2_with fail;go_ret;exact aK rfl Bx.o
  have hk:=hk9.o rfl rfl;have hF2:fmE true x=fmA true x.ar:=by rw [hF.o];unfold qO;rw [dF hk];rfl
  have qk:=bg hk;have qk2:(x.h.k != 5)=true:=by simp [hk]
  replace hF2:=Hy hF2;replace hk:=Hy hk;clear hF;go_wp2_with fail
  go_loopw [7] (fun vi wr => ∃ j:Nat,vi=.int .i64 (j:Nat)∧Hid (j≤x.ar.len)∧Hid (fmA true x.ar=fmA true (x.ar.drop j))∧Hid (Below w1.heap.size w1 wr)) (fun vi _=>x.ar.len - (intOf vi).toNat)
  case atStart=>exact ⟨0,rfl,Hy zl,Hy (by rw [drop_zero]),Hy (b0 w1)⟩
  case round =>
   obtain ⟨j,rfl,hj,hR,hb⟩:=hrel;have Bw:=Hy (aA B1.o hb.o);replace G:=Hy (G.o.keeps hb.o);replace HA:=Hy (HA.o.keeps hb.o);by_cases hlt:j<x.ar.len
   ·have q1:decide ((j:Int)<(x.ar.len:Int))=true:=dT (by omega);have i1:(j:Int)<(x.ar.len:Int):=by omega
    have f4:=Hy (aS (j:=j) (by have:=hmax.o;omega));obtain ⟨bk,off,va,wa,vc,wc2,rfl,R1,E1⟩:=HA.o.ar.at hlt;replace R1:=Hy R1;replace E1:=Hy E1;have hR2:=Hy (hR.o.trans (qK hlt true));have hsz:=Hy (fV x.ar j hlt);have hys:=Hy (ko x.ar j HS.o.ar);have hlt2:=Hy hlt;clear HA hj;generalize hy:x.ar.nth j=y at *;clear hy
    go_upto_region 7 with fail
    go_cut [40] from 28 to 40 (fun v wx=>v=.bool (!fmE true y)∧Hid (Below wr.heap.size wr wx))
    case first =>
     refine wp_region_held_drew (S:=fun w' => Below wr.heap.size wr w') (by kernel_rfl) (b0 wr).drew (fun hH=>?_);refine ak 0 28 ?_ hH (fun w' hS=>?_) ?_;rotate_left
     ·go_simp;try with_reducible rfl
     simp only [sz0,sz1];refine ak 1 29 ?_ hH (fun w' hS=>?_) ?_;rotate_left
     ·have m11:=(G.o.keeps hS).cell 11;simp only [exC,sz2,sz3,sz4] at m11;go_simp;try with_reducible rfl
     simp only [sz0,sz1];refine ak 2 30 ?_ hH (fun w' hS=>?_) ?_;rotate_left
     ·go_simp;try with_reducible rfl
     simp only [sz0,sz1];refine ak 3 31 ?_ hH (fun w' hS=>?_) ?_;rotate_left
     ·go_simp;try with_reducible rfl
     simp only [sz0,sz1];refine aZ 4 32 (.agg (exC y.h y.ar.len va wa vc wc2)) rfl (by kernel_rfl) rfl (fun _ _ _ h=>h) rfl hH (fun w' hS=>cK aJ Tryz.underlying29 rfl (.tmp 31) rfl bk (off+j * 12) (exC y.h y.ar.len va wa vc wc2) rfl (aM R1.o hS) rfl) ?_;simp only [sz0,sz1];refine ak 5 33 ?_ hH (fun w' hS=>?_) ?_;rotate_left
     ·go_simp;try with_reducible rfl
     simp only [sz0,sz1];refine ak 6 34 ?_ hH (fun w' hS=>?_) ?_;rotate_left
     ·go_simp;try with_reducible rfl
     simp only [sz0,sz1];generalize wr.drew=yy at *;refine aB (i:=7) (d:=35) rfl (by kernel_rfl) (by kernel_rfl) (by kernel_rfl) rfl (fun _ _ _ h=>h) rfl hH ?_;simp only [sz0,sz1];refine aB (i:=8) (d:=36) rfl (by kernel_rfl) (by kernel_rfl) (by kernel_rfl) rfl (fun _ _ _ h=>h) rfl hH ?_;simp only [sz0,sz1];refine aB (i:=9) (d:=37) rfl (by kernel_rfl) (by kernel_rfl) (by kernel_rfl) rfl (fun _ _ _ h=>h) rfl hH ?_;simp only [sz0,sz1];refine ak 10 38 ?_ hH (fun w' hS=>?_) ?_;rotate_left
     ·go_simp;try with_reducible rfl
     simp only [sz0,sz1];refine aC 11 (fun K hK=>?_);go_simp;refine (IH'.o true y va vc wa wc2 _ (by have:=hsz.o;have:=HZ.o;omega) hys.o (E1.o.keeps hH)).mono ?_;rintro e y71 ⟨rfl,b71⟩;skip;refine hK.o _ _ (aA hH b71) (fun hH=>?_);clear hK K;clear b71;refine ak 12 40 ?_ hH (fun w' hS=>?_) ?_;rotate_left
     ·go_simp;try with_reducible rfl
     simp only [sz0,sz1];refine wpAnyH_done (by kernel_rfl) ?_ _;go_wp2_with fail
     go_meet
     case rel=>exact ⟨rfl,Hy hH⟩
    case rest =>
     obtain ⟨rfl,BW⟩:=hcut;have Bx:=Hy (aA Bw.o BW.o);have hb6:=Hy (aA hb.o BW.o);clear BW;generalize fmE true y=fy at *;cases fy
     ·go_wp2_with fail;go_ret;exact aK (by rw [hF2.o,hR2.o,Bool.false_and]) Bx.o
     go_wp2_with fail;exact ⟨⟨j+1,congrArg (Value.int .i64) f4.o,hlt2,Hy (hR2.o.trans (Bool.true_and _)),hb6⟩,aN hlt2.o f4.o⟩
   have q1:decide ((j:Int)<(x.ar.len:Int))=false:=dF (by omega);have hT:=Hy (show fmA true x.ar=true from by rw [hR.o,eO _ _ (by omega)];rfl);clear hR
   go_upto_region 9 with fail
   go_cut [4] from 41 to 56 (fun v wx=>v=.bool (fmE true x)∧Hid (Below wr.heap.size wr wx))
   case first =>
    refine wp_region_held_drew (S:=fun w' => Below wr.heap.size wr w') (by kernel_rfl) (b0 wr).drew (fun hH=>?_);refine ak 0 41 ?_ hH (fun w' hS=>?_) ?_;rotate_left
    ·go_simp;try with_reducible rfl
    simp only [sz0,sz1];refine ak 1 42 ?_ hH (fun w' hS=>?_) ?_;rotate_left
    ·have m0:=(G.o.keeps hS).cell 0;simp only [exC,sz2,sz3] at m0;go_simp;try with_reducible rfl
    simp only [sz0,sz1];refine ak 2 43 ?_ hH (fun w' hS=>?_) ?_;rotate_left
    ·go_simp;try with_reducible rfl
    simp only [sz0,sz1];refine ak 3 44 ?_ hH (fun w' hS=>?_) ?_;rotate_left
    ·go_simp;try with_reducible rfl
    simp only [sz0,sz1];generalize wr.drew=yy at *;refine aB (i:=4) (d:=45) rfl (by kernel_rfl) (by kernel_rfl) (by kernel_rfl) rfl (fun _ _ _ h=>h) rfl hH ?_;simp only [sz0,sz1];refine aB (i:=5) (d:=46) rfl (by kernel_rfl) (by kernel_rfl) (by kernel_rfl) rfl (fun _ _ _ h=>h) rfl hH ?_;simp only [sz0,sz1];refine aB (i:=6) (d:=47) rfl (by kernel_rfl) (by kernel_rfl) (by kernel_rfl) rfl (fun _ _ _ h=>h) rfl hH ?_;simp only [sz0,sz1];refine ak 7 48 ?_ hH (fun w' hS=>?_) ?_;rotate_left
    ·go_simp;try with_reducible rfl
    simp only [sz0,sz1];refine ak 8 49 ?_ hH (fun w' hS=>?_) ?_;rotate_left
    ·go_simp;try with_reducible rfl
    simp only [sz0,sz1];refine aB (i:=9) (d:=50) rfl (by kernel_rfl) (by kernel_rfl) (by kernel_rfl) rfl (fun _ _ _ h=>h) rfl hH ?_;simp only [sz0,sz1];refine aB (i:=10) (d:=51) rfl (by kernel_rfl) (by kernel_rfl) (by kernel_rfl) rfl (fun _ _ _ h=>h) rfl hH ?_;simp only [sz0,sz1];refine aB (i:=11) (d:=52) rfl (by kernel_rfl) (by kernel_rfl) (by kernel_rfl) rfl (fun _ _ _ h=>h) rfl hH ?_;simp only [sz0,sz1];refine aB (i:=12) (d:=53) rfl (by kernel_rfl) (by kernel_rfl) (by kernel_rfl) rfl (fun _ _ _ h=>h) rfl hH ?_;simp only [sz0,sz1];refine bG (i:=13) rfl (by kernel_rfl) rfl hH ?_;go_simp;refine bG (i:=14) rfl (by kernel_rfl) rfl hH ?_;go_simp;refine ak 15 56 ?_ hH (fun w' hS=>?_) ?_;rotate_left
    ·go_simp;try with_reducible rfl
    simp only [sz0,sz1];refine ak 16 4 ?_ hH (fun w' hS=>?_) ?_;rotate_left
    ·go_simp;try with_reducible rfl
    simp only [sz0,sz1];refine wpAnyH_done (by kernel_rfl) ?_ _;go_wp2_with fail
    go_meet
    case rel=>exact ⟨congrArg Value.bool (by rw [hF2.o,hT.o]),Hy hH⟩
   case rest =>
    obtain ⟨rfl,BW⟩:=hcut;have Bx:=Hy (aA Bw.o BW.o);go_wp2_with fail;go_ret;exact aK rfl Bx.o
 have q1:((x.ar.len:Int) != m)=true:=by simp [hn]
 have q2:=dF hn;replace hn:=Hy hn;go_wp2_with fail;go_ret;exact aK (by rw [hE.o,← hD.o,q2];rfl) B1.o
theorem IZ (i:Bool) (x:Ex) (ua aa:Option Addr) (uc ac:Nat) (w:World) (hsx:x.szs) (hA:Ec w x ua uc aa ac):Calls Tryz.prog 65 #[.agg (exC x.h x.ar.len ua uc aa ac),.bool i] w (Bl (fmE i x) w):=by
 have key:∀ n,∀ (i:Bool) (x:Ex) (ua aa:Option Addr) (uc ac:Nat) (w:World),x.ar.sz<n→x.szs→Ec w x ua uc aa ac→Calls Tryz.prog 65 #[.agg (exC x.h x.ar.len ua uc aa ac),.bool i] w (Bl (fmE i x) w):=by
  intro n
  induction n with
  | zero=>intro i x ua aa uc ac w h;exact absurd h (Nat.not_lt_zero _)
  | succ n ih =>
    intro i x ua aa uc ac w h hsx hA
    exact Gh x.ar.sz (fun i' x' ua' aa' uc' ac' w' h' => ih i' x' ua' aa' uc' ac' w' (by omega)) i x ua aa uc ac w rfl hsx hA
 exact key _ i x ua aa uc ac w ls hsx hA
theorem Gf (x:Ex) (ua aa:Option Addr) (uc ac:Nat) (w:World) (hsx:x.szs) (hA:Ec w x ua uc aa ac):Calls Tryz.prog 26 #[.agg (exC x.h x.ar.len ua uc aa ac)] w (Num (shE x) w):=by
 have bb:=au (b0 w) (.cells (exC x.h x.ar.len ua uc aa ac) 29);have B0:=Hy bb;have G:=Hy (Blk.new w 29 (exC x.h x.ar.len ua uc aa ac));have HA:=Hy (hA.keeps bb);have C1:=Hy (fun (W:World) (S:Ec W x ua uc aa ac)=>IW x ua aa uc ac W S.ar);have C2:=Hy (fun (W:World) (S:Ec W x ua uc aa ac)=>Gj x ua aa uc ac W S.ar);have C3:=Hy (fun (W:World) (S:Ec W x ua uc aa ac)=>IZ false x ua aa uc ac W hsx S);have hE:shE x=shE x:=rfl
 conv at hE=>rhs;unfold shE
 replace hE:=Hy hE;clear hA bb hsx;generalize szE x=m at *;generalize dpE x=d at *;generalize fmE false x=b at *
 go_enter Tryz.func26,Tryz.ntmps26
 go_wp2_with (first | (refine aF aJ Tryz.underlying29 rfl (.tmp 1) rfl rfl _ _ _ rfl G.o rfl ?_) | (refine bC aJ Tryz.underlying29 rfl (.tmp 1) rfl rfl _ _ _ rfl G.o rfl ?_));refine (C1.o _ HA.o).mono ?_;rintro e w1 ⟨rfl,b1⟩;have B1:=Hy (aA B0.o b1);replace G:=Hy (G.o.keeps b1);replace HA:=Hy (HA.o.keeps b1);clear b1;by_cases h1:64<m
 ·have q1:decide (64<m)=true:=dT h1;have h3:=Hy h1;clear h1;go_wp2_with fail;go_ret;exact aT (by rw [hE.o,if_pos (.inl h3.o)]) B1.o
 have q1:decide (64<m)=false:=dF h1;have h3:=Hy h1;clear h1;go_wp2_with (first | (refine aF aJ Tryz.underlying29 rfl (.tmp 1) rfl rfl _ _ _ rfl G.o rfl ?_) | (refine bC aJ Tryz.underlying29 rfl (.tmp 1) rfl rfl _ _ _ rfl G.o rfl ?_));refine (C2.o _ HA.o).mono ?_;rintro e w2 ⟨rfl,b2⟩;have B2:=Hy (aA B1.o b2);replace G:=Hy (G.o.keeps b2);replace HA:=Hy (HA.o.keeps b2);clear b2;by_cases h2:12<d
 ·have q2:decide (12<d)=true:=dT h2;have h4:=Hy h2;clear h2;go_wp2_with fail;go_ret;exact aT (by rw [hE.o,if_pos (.inr h4.o)]) B2.o
 have q2:decide (12<d)=false:=dF h2;have h4:=Hy (show ¬ (64<m∨12<d) from fun h=>h.elim (fun e=>absurd e (by have:=h3.o;omega)) h2);clear h2;go_wp2_with (first | (refine aF aJ Tryz.underlying29 rfl (.tmp 1) rfl rfl _ _ _ rfl G.o rfl ?_) | (refine bC aJ Tryz.underlying29 rfl (.tmp 1) rfl rfl _ _ _ rfl G.o rfl ?_));refine (C3.o _ HA.o).mono ?_;rintro e w3 ⟨rfl,b3⟩;have B3:=Hy (aA B2.o b3);replace G:=Hy (G.o.keeps b3);replace HA:=Hy (HA.o.keeps b3);clear b3;cases b
 ·go_wp2_with fail;go_ret;exact aT (by rw [hE.o,if_neg h4.o];rfl) B3.o
 go_wp2_with fail;go_ret;exact aT (by rw [hE.o,if_neg h4.o];rfl) B3.o
end ch
namespace tk
open Go.RowKit dec
structure Bw (w:World) (b:Nat) (x:Tk):Prop where
 c0:w.cell? ⟨b,0,none⟩=some (.int .i64 (x).k)
 c1:w.cell? ⟨b,1,none⟩=some (.string (x).t)
 c2:w.cell? ⟨b,2,none⟩=some (.int .i64 (x).a)
theorem Bw.lt {w:World} {b:Nat} {x:Tk} (h:Bw w b x):b<w.heap.size:=block_lt_of_cell h.c0
theorem Bw.new (w:World) (x:Tk) (T:TypeId):Bw (w.alloc (.cells #[.int .i64 (x).k,.string (x).t,.int .i64 (x).a] T)) w.heap.size x:=⟨by simp [go_sem],by simp [go_sem],by simp [go_sem]⟩
theorem Bw.qG {w w1:World} {B b:Nat} {x:Tk} (h:Bw w b x) (hb:Below B w w1) (hl:b<B):Bw w1 b x :=
 ⟨(hb.cell hl).trans h.c0,(hb.cell hl).trans h.c1,(hb.cell hl).trans h.c2⟩
theorem Bw.keeps {w w1:World} {b:Nat} {x:Tk} (h:Bw w b x) (hb:Below w.heap.size w w1):Bw w1 b x:=h.qG hb h.lt
theorem Bw.past {w:World} {b:Nat} {x:Tk} (h:Bw w b x) (o:Obj):Bw (w.alloc o) b x:=h.keeps (au (b0 w) o)
def cs:List Tk→List Value
 | []=>[]
 | x :: l=>.int .i64 (x).k :: .string (x).t :: .int .i64 (x).a :: cs l
theorem fq:∀ l:List Tk,(cs l).length=l.length * 3
 | []=>rfl
 | x :: l=>by simp only [cs,List.length_cons,fq l];omega
theorem fu:∀ l r:List Tk,cs (l++r)=cs l++cs r
 | [],_=>rfl
 | x :: l,r=>by simp only [cs,List.cons_append,fu l r]
theorem jc:∀ l:List Tk,∀ u ∈ cs l,u.oneCell'=true
 | [],u,h=>by simp [cs] at h
 | x :: l,u,h=>by
  simp only [cs,List.mem_cons] at h
  rcases h with rfl | rfl | rfl | h
  ·rfl
  ·rfl
  ·rfl
  ·exact jc l u h
def gt (l:List Tk) (j:Nat):Tk:=l.getD j ⟨0,.empty,0⟩
theorem jl {l:List Tk} {j:Nat} (h:j<l.length):gt l j ∈ l:=by
 unfold gt;rw [List.getD_eq_getElem?_getD,List.getElem?_eq_getElem h];exact List.getElem_mem h
theorem dY {l:List Tk} {j:Nat} (h:j<l.length):gt l j=l[j]:=by
 unfold gt;rw [List.getD_eq_getElem?_getD,List.getElem?_eq_getElem h];rfl
theorem jq:∀ (l:List Tk) (j:Nat),j<l.length→(cs l)[j * 3]? = some (.int .i64 (gt l j).k)∧(cs l)[j * 3+1]? = some (.string (gt l j).t)∧(cs l)[j * 3+2]? = some (.int .i64 (gt l j).a)
 | [],j,h=>by simp at h
 | x :: l,0,_=>⟨rfl,rfl,rfl⟩
 | x :: l,j+1,h=>by
  have:=jq l j (by simpa using h)
  rw [show (j+1) * 3=j * 3+1+1+1 by omega]
  simp only [cs,sz4]
  exact this
theorem lV {l:List Tk} {j:Nat} (h:j<l.length):l.drop j=gt l j :: l.drop (j+1):=by
 rw [dY h];exact List.drop_eq_getElem_cons h
theorem gL {l:List Tk} {j:Nat} (h:j<l.length):l.take (j+1)=l.take j++[gt l j]:=by
 rw [dY h,List.take_add_one,List.getElem?_eq_getElem h];rfl
def Cl (w:World) (b off:Nat) (l:List Tk):Prop:=∀ j,j<l.length→w.cell? ⟨b,off+j * 3,none⟩=some (.int .i64 (gt l j).k)∧w.cell? ⟨b,off+j * 3+1,none⟩=some (.string (gt l j).t)∧w.cell? ⟨b,off+j * 3+2,none⟩=some (.int .i64 (gt l j).a)
theorem Cl.keeps {w w1:World} {b off:Nat} {l:List Tk} (h:Cl w b off l) (hb:Below w.heap.size w w1):Cl w1 b off l:=fun j hj=>⟨dec.keeps hb (h j hj).1,dec.keeps hb (h j hj).2.1,dec.keeps hb (h j hj).2.2⟩
def At (w:World) (a:Option Addr) (l:List Tk):Prop:=l.length=0∨∃ b off,a=some ⟨b,off,none⟩∧Cl w b off l
theorem At.keeps {w w1:World} {a:Option Addr} {l:List Tk} (h:At w a l) (hb:Below w.heap.size w w1):At w1 a l:=h.imp id fun ⟨b,off,e,hB⟩=>⟨b,off,e,hB.keeps hb⟩
structure Sl (w:World) (a:Option Addr) (n cap:Nat) (l:List Tk):Prop where
 hat:At w a l
 hn:l.length=n
 hcap:n≤cap
 hmax:cap≤9223372036854775807
 hno:a=none→cap=0
theorem Sl.keeps {w w1:World} {a:Option Addr} {n cap:Nat} {l:List Tk} (h:Sl w a n cap l) (hb:Below w.heap.size w w1):Sl w1 a n cap l:={ h with hat:=h.hat.keeps hb }
theorem Sl.nil (w:World):Sl w none 0 0 []:=⟨.inl rfl,rfl,by omega,by omega,fun _=>rfl⟩
theorem Cl.cut {w:World} {b off:Nat} {l:List Tk} (h:Cl w b off l) (k m:Nat):Cl w b (off+k * 3) ((l.drop k).take m):=by
 intro j hj;have hlen:((l.drop k).take m).length=min m (l.length - k):=by simp
 have:=h (k+j) (by omega);have e:gt ((l.drop k).take m) j=gt l (k+j):=by
  rw [dY hj,dY (by omega)];simp
 rw [e,show off+k * 3+j * 3=off+(k+j) * 3 by omega];exact this
theorem Cl.take {w:World} {b off:Nat} {l:List Tk} (h:Cl w b off l) (m:Nat):Cl w b off (l.take m):=by
 have:=h.cut 0 m;simpa using this
theorem lG:(Tryz.prog.info? 119).map (fun i=>(i.zero,i.size,i.bytes))=some (some (.agg #[.int .i64 0,.string .empty,.int .i64 0]),3,32):=by kernel_rfl
def Own (w:World) (base:Nat) (v:Value) (l:List Tk):Prop:=w.ownsRow base 119 3 v l.length (cs l)
theorem Own.nil (w:World) (base:Nat):Own w base (.slice none 0 0) []:=World.ownsRow_nil _ _ _ _
theorem Own.o {w:World} {base:Nat} {v:Value} {l:List Tk} (h:Own w base v l):(v=.slice none 0 0∧l=[])∨∃ g cap,v=.slice (some ⟨g,0,none⟩) l.length cap∧base≤g∧g<w.heap.size∧l.length≤cap∧cap≤9223372036854775807∧Cl w g 0 l:=by
 rcases h.2 with ⟨h0,h1⟩ | ⟨g,cap,cur,rfl,hb,hg,hc,hm,hs,ht⟩
 ·exact .inl ⟨h0,List.eq_nil_of_length_eq_zero h1⟩
 refine .inr ⟨g,cap,rfl,hb,(h.lt g rfl).2,hc,by unfold maxLen at hm;omega,fun j hj=>?_⟩;rw [Nat.zero_add,h.cellAt (j * 3) (by omega),h.cellAt (j * 3+1) (by omega),h.cellAt (j * 3+2) (by omega)];exact jq l j hj
theorem Own.sl {w:World} {base:Nat} {v:Value} {l:List Tk} (h:Own w base v l):∃ a cap,v=.slice a l.length cap∧Sl w a l.length cap l:=by
 rcases h.o with ⟨rfl,rfl⟩ | ⟨g,cap,rfl,_,_,hc,hm,hW⟩
 ·exact ⟨none,0,rfl,.nil _⟩
 exact ⟨_,cap,rfl,.inr ⟨g,0,rfl,hW⟩,rfl,hc,hm,fun h=>by cases h⟩
theorem Own.keeps {w w1:World} {base:Nat} {v:Value} {l:List Tk} (h:Own w base v l) (hb:Below w.heap.size w w1):Own w1 base v l:=by
 obtain ⟨h1,h2⟩:=h;refine ⟨h1,?_⟩;rcases h2 with h0 | ⟨g,cap,cur,e,hbg,hh,r⟩
 ·exact .inl h0
 refine .inr ⟨g,cap,cur,e,hbg,?_,r⟩;have:g<w.heap.size:=by
  rcases Nat.lt_or_ge g w.heap.size with h' | h'
  ·exact h'
  rw [Array.getElem?_eq_none h'] at hh;cases hh
 rw [hb.block _ this];exact hh
theorem own_below {w w':World} {base:Nat} {v:Value} {l:List Tk} (h:Own w base v l) (hg:w.grownBy w' v.ownBlock) (hb:base≤w.heap.size):Below base w w' :=
 (Below.refl base w).grown hg hb fun k hk=>(h.lt k hk).1
theorem nH (w:World) {o:Oper} {a:Act} {K:Act→World→Prop} {Q:Exit→Act→World→Prop} (s x:Operand)
    (ho:o.op=.call { callee:=.builtin .append,args:=#[s,x],argTypes:=#[65,65] })
    (base:Nat) (v:Value) (l:List Tk) (hs:a.eval s=v) (hown:Own w base v l) (b:Nat) (y:Tk) (hx:a.eval x=.slice (some ⟨b,0,none⟩) 1 1) (hB:Bw w b y)
    (hn:l.length<4398046511104) (hbase:base≤w.heap.size)
    (h:∀ v' w',Own w' base v' (l++[y])→Below base w w'→w.grownBy w' v.ownBlock→K (a.put o.dst v') w'):o.wp Tryz.prog a w K Q:=by
 obtain ⟨i,hi,hz0,hz1,hz2⟩:=info_parts lG
 refine wp_append_own w s x 65 ho base 119 i (.agg #[.int .i64 0,.string .empty,.int .i64 0]) 3 32 Tryz.underlying65 hi hz0 hz1 hz2 rfl (by decide) v l.length (cs l) hs hown ⟨b,0,none⟩ 1 1 (cs [y]) hx rfl ?_ (jc _)
   (by unfold maxLen;omega) (by omega) hbase fun v' w' h1 h2 _=>h v' w' (by unfold Own;rw [fu,List.length_append];exact h1) (own_below hown h2 hbase) h2
 intro j u hu;unfold Addr.add
 match j,hu with
 | 0,hu=>simp [cs] at hu;subst hu;exact hB.c0
 | 1,hu=>simp [cs] at hu;subst hu;exact hB.c1
 | 2,hu=>simp [cs] at hu;subst hu;exact hB.c2
 | j+3,hu=>simp [cs] at hu
theorem eP (w:World) {ops:Array Oper} {rest:List Oper} {o:Oper} {a:Act} {Q:Exit→Act→World→Prop} (hgd:o.guard=none) (s x:Operand)
  (ho:o.op=.call { callee:=.builtin .append,args:=#[s,x],argTypes:=#[65,65] })
  (base:Nat) (v:Value) (l:List Tk) (hs:a.eval s=v) (hown:Own w base v l) (b:Nat) (y:Tk) (hx:a.eval x=.slice (some ⟨b,0,none⟩) 1 1) (hB:Bw w b y)
  (hn:l.length<4398046511104) (hbase:base≤w.heap.size)
  (h:∀ v' w',Own w' base v' (l++[y])→Below base w w'→w.grownBy w' v.ownBlock→wpList Tryz.prog ops Q rest (a.put o.dst v') w'):wpList Tryz.prog ops Q (o :: rest) a w :=
 wpList_plain hgd fun _ hK=>nH w s x ho base v l hs hown b y hx hB hn hbase fun v' w' h1 h2 h3=>hK _ _ (h v' w' h1 h2 h3)
theorem jY {w:World} {ops:Array Oper} {rest:List Oper} {o:Oper} {a:Act} {Q:Exit→Act→World→Prop} (s x:Operand) (_:o.op=.call { callee:=.builtin .append,args:=#[s,x],argTypes:=#[65,65] })
  (k:wpList Tryz.prog ops Q (o :: rest) a w):wpList Tryz.prog ops Q (o :: rest) a w:=k
end tk
end Go.Proofs.YtbahfelnbofjjaaGreatDoor
