/-
  What is printed of what has been read is read as the same: the walk; A slice of bytes that came in.
-/
import Derived.Test.YtbahfelnbofjjaaGreatDoorX27
set_option maxRecDepth 100000
set_option maxHeartbeats 16000000
namespace Go.Proofs.YtbahfelnbofjjaaGreatDoor
namespace ch
open Go.RowKit dec
theorem DK (a0:Option Addr) (n0 cap:Nat) (s:ByteArray) (w:World) (hS:Bs w a0 n0 cap s) (T:Tabq w) (O:Opt w):Calls Tryz.prog 9 #[.slice a0 n0 cap] w (Bl true w):=by
 have B:=Hy (b0 w);have CE:=Hy (fun (W:World) (b:Below w.heap.size w W)=>Aq W (T.stays b));by_cases hz:3000<n0
 ·have q1:decide ((n0:Int) > 3000)=true:=dT (by omega);have q2:decide (3000<(n0:Int))=true:=dT (by omega);have q3:decide (3000<n0)=true:=dT (by omega);replace hz:=Hy hz;clear hS T O
  go_enter Tryz.func9,Tryz.ntmps9
  go_wp2_with fail;refine (CE.o _ B.o).mono ?_;rintro e w1 ⟨rfl,b1⟩;replace B:=Hy (au B.o b1);clear b1;go_wp2_with fail;go_ret;exact ⟨rfl,B.o⟩
 have q1:decide ((n0:Int) > 3000)=false:=dF (by omega);have q2:decide (3000<(n0:Int))=false:=dF (by omega);have q3:decide (3000<n0)=false:=dF (by omega);have hs:s.size≤3000:=by have:=hS.hn;omega
 rcases htr:pa.iL (α:=Ex) ⟨h0,.nil⟩ pa.exR s with ⟨x,a1,c1⟩;have G:Got x:=AV hs htr;have PE:=Hy (fun (W:World) (b:Below w.heap.size w W)=>Nj s hs x a1 c1 htr a0 n0 cap W (hS.keeps b) ⟨(T.stays b).t,O.keeps b⟩);have PX:=Hy (fun (va wa:Option Addr) (vc wc:Nat) (W:World) (b:Below w.heap.size w W) (hE:Ec W x va vc wa wc)=>oD x va wa vc wc W G.szs G.sz hE (T.stays b));have SC:=Hy (fun (va wa:Option Addr) (vc wc:Nat) (W:World) (b:Below w.heap.size w W) (hE:Ec W x va vc wa wc)=>rU x va wa vc wc W G.szs hE (T.stays b).t);have Rx:=Hy (fun (h:shE x=0) (a:Option Addr) (n c:Nat) (W:World) (b:Below w.heap.size w W) (hS:Bs W a n c (B8 (txE x)))=>H8 x h G.sz a n c W hS ⟨(T.stays b).t,O.keeps b⟩);have hs1:sxE x x=true:=Kw.2 rfl;have XE:=Hy (fun (va wa vb wb:Option Addr) (vc wc vd wd:Nat) (W:World) (hE:Ec W x va vc wa wc) (hF:Ec W x vb vd wb wd)=>EJ x x va wa vb wb vc wc vd wd W hE hF);rw [hs1] at XE;have z1s:=Hy (fun (h:shE x=0)=>(show (B8 (txE x)).size≤281474976710656 by have k:=vC h G.sz;have e:=aI (B8 (txE x));rw [Cm] at e;omega));clear hS T O G htr hs hs1;replace hz:=Hy hz;by_cases hc:c1=0
 ·subst hc;unfold exC at *;by_cases h1:shE x=0
  ·have zz:=z1s.o h1;replace Rx:=Hy (Rx.o h1);rw [h1] at PX;simp only [txO,if_true] at PX;replace h1:=Hy h1;clear SC z1s;generalize B8 (txE x)=s1 at *
   go_enter Tryz.func9,Tryz.ntmps9
   go_wp2_with fail;refine (CE.o _ B.o).mono ?_;rintro e w2 ⟨rfl,b2⟩;replace B:=Hy (au B.o b2);clear b2;go_wp2_with fail;refine (PE.o _ B.o).mono ?_;rintro e w3 ⟨va,vc,wa,wc,rfl,E,b3⟩;replace B:=Hy (au B.o b3);have EX:=Hy E;clear E;clear b3;clear PE CE;go_wp2_with (first | (refine aB aF (.tmp 3) (.tmp 21) rfl rfl _ _ _ _ rfl rfl (Blk.new _ _ _) rfl rfl (aJ _ _ _ _ _ _) ?_;intro w4 L s3;have b:=(aj (b0 w3) _).trans (s3.below lr);have L1:=Hy L;replace B:=Hy (au B.o b);replace EX:=Hy (EX.o.keeps b);clear L s3 b) | (refine bg aF Tryz.underlying29 rfl (.tmp 3) rfl rfl _ _ _ rfl L1.o rfl ?_));refine (PX.o _ _ _ _ _ B.o EX.o).mono ?_;rintro e w5 ⟨rfl,b5⟩;replace B:=Hy (au B.o b5);replace EX:=Hy (EX.o.keeps b5);replace L1:=Hy (L1.o.keeps b5);clear b5;obtain ⟨w6,c6,hcv,hB,b6⟩:=JG w5 s1 zz;have BS:=Hy hB;replace B:=Hy (au B.o b6);replace EX:=Hy (EX.o.keeps b6);replace L1:=Hy (L1.o.keeps b6);clear hB b6;go_wp2_with fail;refine (Rx.o _ _ _ _ B.o BS.o).mono ?_;rintro e w7 ⟨vb,vd,wb,wd,rfl,E,b7⟩;replace B:=Hy (au B.o b7);replace EX:=Hy (EX.o.keeps b7);replace L1:=Hy (L1.o.keeps b7);have EY:=Hy E;clear E;clear b7;clear BS;unfold exC at *;go_wp2_with (first | (refine aB aF (.tmp 8) (.tmp 45) rfl rfl _ _ _ _ rfl rfl (Blk.new _ _ _) rfl rfl (aJ _ _ _ _ _ _) ?_;intro w8 L s3;have b:=(aj (b0 w7) _).trans (s3.below lr);have L2:=Hy L;replace B:=Hy (au B.o b);replace EX:=Hy (EX.o.keeps b);replace L1:=Hy (L1.o.keeps b);replace EY:=Hy (EY.o.keeps b);clear L s3 b) | (refine bg aF Tryz.underlying29 rfl (.tmp 8) rfl rfl _ _ _ rfl L2.o rfl ?_));refine (PX.o _ _ _ _ _ B.o EY.o).mono ?_;rintro e w9 ⟨rfl,b9⟩;replace B:=Hy (au B.o b9);replace EX:=Hy (EX.o.keeps b9);replace EY:=Hy (EY.o.keeps b9);replace L1:=Hy (L1.o.keeps b9);replace L2:=Hy (L2.o.keeps b9);clear b9;have q9:(s1.toList==s1.toList)=true:=beq_self_eq_true _;go_wp2_with (first | (refine bg aF Tryz.underlying29 rfl (.tmp 3) rfl rfl _ _ _ rfl L1.o rfl ?_) | (refine bg aF Tryz.underlying29 rfl (.tmp 8) rfl rfl _ _ _ rfl L2.o rfl ?_));refine (XE.o _ _ _ _ _ _ _ _ _ EX.o EY.o).mono ?_;rintro e w10 ⟨rfl,b10⟩;replace B:=Hy (au B.o b10);clear b10;go_wp2_with fail;go_ret;exact ⟨rfl,B.o⟩
  have k0:txO (shE x) (txE x)=.empty:=if_neg h1;rw [k0] at PX;generalize shE x=e1 at *;have q5:(e1 != 0)=true:=by simp [h1]
  have q6:(e1==e1)=true:=beq_self_eq_true _;replace h1:=Hy h1;clear k0 Rx XE z1s
  go_enter Tryz.func9,Tryz.ntmps9
  go_wp2_with fail;refine (CE.o _ B.o).mono ?_;rintro e w11 ⟨rfl,b11⟩;replace B:=Hy (au B.o b11);clear b11;go_wp2_with fail;refine (PE.o _ B.o).mono ?_;rintro e w12 ⟨va,vc,wa,wc,rfl,E,b12⟩;replace B:=Hy (au B.o b12);have EX:=Hy E;clear E;clear b12;clear PE CE;go_wp2_with (first | (refine aB aF (.tmp 3) (.tmp 21) rfl rfl _ _ _ _ rfl rfl (Blk.new _ _ _) rfl rfl (aJ _ _ _ _ _ _) ?_;intro w13 L s3;have b:=(aj (b0 w12) _).trans (s3.below lr);have L1:=Hy L;replace B:=Hy (au B.o b);replace EX:=Hy (EX.o.keeps b);clear L s3 b) | (refine bg aF Tryz.underlying29 rfl (.tmp 3) rfl rfl _ _ _ rfl L1.o rfl ?_));refine (PX.o _ _ _ _ _ B.o EX.o).mono ?_;rintro e w14 ⟨rfl,b14⟩;replace B:=Hy (au B.o b14);replace EX:=Hy (EX.o.keeps b14);replace L1:=Hy (L1.o.keeps b14);clear b14;have q9:(ByteArray.empty.toList==(⟨#[]⟩:ByteArray).toList)=true:=beq_self_eq_true (ByteArray.empty.toList);go_wp2_with (refine bg aF Tryz.underlying29 rfl (.tmp 3) rfl rfl _ _ _ rfl L1.o rfl ?_);refine (SC.o _ _ _ _ _ B.o EX.o).mono ?_;rintro e w15 ⟨rfl,b15⟩;replace B:=Hy (au B.o b15);clear b15;go_wp2_with fail;go_ret;exact ⟨rfl,B.o⟩
 have q4:(c1 != 0)=true:=by simp [hc]
 replace hc:=Hy hc;unfold exC at *
 go_enter Tryz.func9,Tryz.ntmps9
 go_wp2_with fail;refine (CE.o _ B.o).mono ?_;rintro e w16 ⟨rfl,b16⟩;replace B:=Hy (au B.o b16);clear b16;go_wp2_with fail;refine (PE.o _ B.o).mono ?_;rintro e w17 ⟨va,vc,wa,wc,rfl,E,b17⟩;replace B:=Hy (au B.o b17);have EX:=Hy E;clear E;clear b17;go_wp2_with (refine aB aF (.tmp 3) (.tmp 21) rfl rfl _ _ _ _ rfl rfl (Blk.new _ _ _) rfl rfl (aJ _ _ _ _ _ _) ?_;intro w18 L s3;have b:=(aj (b0 w17) _).trans (s3.below lr);have L1:=Hy L;replace B:=Hy (au B.o b);clear L s3 b);go_ret;exact ⟨rfl,B.o⟩
end ch
section
open Go.ChangeShapes Go.WideShapes Go.ChangeAt Go.RowKit Go.Joins dec
theorem cells5:Tryz.prog.cellsOf 5=1:=by kernel_rfl
theorem Ph:Tryz.prog.bytesOf 5=1:=by kernel_rfl
theorem QG (x:ByteArray) (k:Nat) (hk:k<x.size):x.data.toList[k]? = some x[k]:=by
 rw [List.getElem?_eq_getElem (by rw [aI];exact hk)];rfl
theorem bounds_u8 {n:Int} (h:(Lit.int .u8 n).wf=true):0≤n∧n≤255:=by
 have hmin:IntKind.u8.min=0:=rfl;have hmax:IntKind.u8.max=255:=rfl;simp only [Lit.wf,Bool.and_eq_true,decide_eq_true_eq] at h;omega
theorem QH {H:Type} {enc':TypeId × Value→H} {w:World} {fuel:Nat} {a:Option Addr} {n cap:Nat} {d:DataW H} {ps:List MemPlace}
    (h:DataW.trod enc' Tryz.prog w 0 (fun _=>true) true fuel 56 [.slice a n cap]=some (d,ps))
    (hz:∀ elems spare,d=.slice elems spare→(elems.length+spare.length) * Tryz.prog.bytesOf 5≤reachBytes):∃ s,Bs w a n cap s:=by
 have hb:reachBytes=140737488351232:=rfl;rcases Go.Deep.open_slice1 Tryz.underlying56 cells5 h with ⟨hcs,hd⟩ | ⟨x,l,c,m,k,V,D,Pl,hcs,_,hl,hm,hmm,hx,hel⟩
 ·simp at hcs;obtain ⟨rfl,rfl,rfl⟩:=hcs;exact ⟨.empty,⟨.inl rfl,rfl,by omega,by omega,fun _=>rfl⟩⟩
 simp at hcs;obtain ⟨rfl,rfl,rfl⟩:=hcs;simp at hmm;subst hmm;have hz':=hz _ _ (Prod.mk.inj hx).1;simp only [List.length_map,List.length_range,Ph] at hz';rw [hb] at hz';obtain ⟨q,hq⟩:∃ q:Nat→Nat,∀ i,i<n→w.cell? (x.add i)=some (.int .u8 (q i:Nat))∧q i<256:=Go.Deep.choose_lt (p:=fun i (v:Nat)=>w.cell? (x.add i)=some (.int .u8 (v:Int))∧v<256) (fun i hi=>by
   obtain ⟨h1,h2⟩:=hel i (by omega)
   obtain ⟨v,e,_,u⟩:=DataW.trod_int Tryz.underlying5 h2
   simp only [List.cons.injEq,and_true] at e
   have hu:=bounds_u8 u
   refine ⟨v.toNat,?_,by omega⟩
   rw [h1,e,show ((v.toNat:Nat):Int)=v by omega])
 have hsz:(⟨((List.range n).map fun i=>UInt8.ofNat (q i)).toArray⟩:ByteArray).size=n:=by
  rw [← aI];simp
 refine ⟨⟨((List.range n).map fun i=>UInt8.ofNat (q i)).toArray⟩,?_,hsz,by omega,by omega,fun h=>by cases h⟩;by_cases h0:n=0
 ·exact .inl (by rw [hsz];exact h0)
 obtain ⟨b,off,spot⟩:=x;have hspot:spot=none:=by simpa [Addr.add] using World.cell?_spot (hq 0 (by omega)).1
 subst hspot;refine .inr ⟨b,off,rfl,fun j hj=>?_⟩;have hjn:j<n:=by rw [hsz] at hj;exact hj
 have:=(hq j hjn).1;have hv:((⟨((List.range n).map fun i=>UInt8.ofNat (q i)).toArray⟩:ByteArray)[j]).toNat=q j:=by
  have e:=QG _ j hj;rw [show (⟨((List.range n).map fun i=>UInt8.ofNat (q i)).toArray⟩:ByteArray).data.toList=(List.range n).map fun i=>UInt8.ofNat (q i) from rfl,List.getElem?_map,List.getElem?_range hjn] at e;have e2:=Option.some.inj e;rw [← e2];have:=(hq j hjn).2;show (UInt8.ofNat (q j)).toNat=q j;rw [UInt8.toNat_ofNat'];omega
 rw [hv];unfold Addr.add at this;by_cases h1:j=0
 ·subst h1;simpa using this
 simpa [h1] using this
end
end Go.Proofs.YtbahfelnbofjjaaGreatDoor
