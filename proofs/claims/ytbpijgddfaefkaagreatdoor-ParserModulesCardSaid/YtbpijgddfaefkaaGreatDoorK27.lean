/-
  The specification's Make and carry; The specification's Add and Sub return the sum and the difference; The specification's Of, Neg and Compare; The specification's below, size, minus and twice; The specification's twice and minus; Long division, bit by bit: what the quotient and the rest are behind each bit.
-/
import Derived.Deep.AppendLies
import Derived.Test.YtbpijgddfaefkaaGreatDoorK26
set_option maxRecDepth 100000
set_option maxHeartbeats 16000000
namespace Go.Proofs.YtbpijgddfaefkaaGreatDoor
namespace dec
open Go.RowKit
def ml (f:Nat→Int) (o:Nat):Nat→Int
 | 0=>0
 | k+1=>ml f o k * 65536+f (o+3 - k)
theorem Qh (f:Nat→Int):ml f 0 4=lo4 f:=by simp [ml,lo4]
theorem Qi (f:Nat→Int):ml f 4 4=hi4 f:=by simp [ml,hi4]
theorem gq {f:Nat→Int} {o:Nat} (ho:o≤4) (h0:∀ j,j<8→0≤f j) (h1:∀ j,j<8→f j≤65535) (k:Nat) (hk:k≤3):0≤ml f o k∧ml f o k≤281474976710655:=by
 have a3:=h0 (o+3) (by omega);have b3:=h1 (o+3) (by omega);have a2:=h0 (o+2) (by omega);have b2:=h1 (o+2) (by omega);have a1:=h0 (o+1) (by omega);have b1:=h1 (o+1) (by omega);have h:k=0∨k=1∨k=2∨k=3:=by omega
 rcases h with rfl | rfl | rfl | rfl <;> simp [ml] <;> omega
theorem AP {f:Nat→Int} {o:Nat} (ho:o≤4) (h0:∀ j,j<8→0≤f j) (h1:∀ j,j<8→f j≤65535):0≤ml f o 4∧ml f o 4≤18446744073709551615:=by
 have h:=gq ho h0 h1 3 (by omega);have a3:=h0 o (by omega);have b3:=h1 o (by omega);have e:ml f o 4=ml f o 3 * 65536+f o:=rfl;rw [e];omega
theorem yB {g c:Nat} {f:Nat→Int} {a:Int} (w:World) (hR:Row w g f) (hD:Dg f a) :
    Calls Tryz.prog 254 #[.slice (some ⟨g,0,none⟩) 8 c] w fun e w' => e=.returned (W a)∧Below w.heap.size w w':=by
 have eL:=Hy (Lm hD);have eH:=Hy (Lp hD);obtain ⟨l0,l1,l2,l3,l4,l5,l6,l7⟩:=eight hD.lo;obtain ⟨u0,u1,u2,u3,u4,u5,u6,u7⟩:=eight hD.hi;obtain ⟨c0,c1,c2,c3,c4,c5,c6,c7⟩:=eight (fun j hj=>(hR.past (.cells #[.int .i64 0,.int .u64 0] 114)).cell j hj);have hML:=Hy (Qh f);have hMH:=Hy (Qi f)
 go_enter Tryz.func254,Tryz.ntmps254
 go_wp2_with fail
 go_loop [3,4,5] (fun l h i => ∃ k:Nat,k≤4∧i=.int .i64 (3 - k)∧l=.int .u64 (ml f 0 k)∧h=.int .u64 (ml f 4 k)) (fun _ _ i=>(intOf i+1).toNat)
 case atStart=>exact ⟨0,by omega,rfl,rfl,rfl⟩
 case round =>
  obtain ⟨k,hk,rfl,rfl,rfl⟩:=hrel;have h5:k=0∨k=1∨k=2∨k=3∨k=4:=by omega
  clear hk;rcases h5 with rfl | rfl | rfl | rfl | rfl
  ·obtain ⟨p0,p1⟩:=gq (f:=f) (o:=0) (by omega) hD.lo hD.hi 0 (by omega);obtain ⟨q0,q1⟩:=gq (f:=f) (o:=4) (by omega) hD.lo hD.hi 0 (by omega);go_wp2_with fail;exact ⟨⟨1,by omega,rfl,rfl,rfl⟩,by simp [intOf]⟩
  ·obtain ⟨p0,p1⟩:=gq (f:=f) (o:=0) (by omega) hD.lo hD.hi 1 (by omega);obtain ⟨q0,q1⟩:=gq (f:=f) (o:=4) (by omega) hD.lo hD.hi 1 (by omega);go_wp2_with fail;exact ⟨⟨2,by omega,rfl,rfl,rfl⟩,by simp [intOf]⟩
  ·obtain ⟨p0,p1⟩:=gq (f:=f) (o:=0) (by omega) hD.lo hD.hi 2 (by omega);obtain ⟨q0,q1⟩:=gq (f:=f) (o:=4) (by omega) hD.lo hD.hi 2 (by omega);go_wp2_with fail;exact ⟨⟨3,by omega,rfl,rfl,rfl⟩,by simp [intOf]⟩
  ·obtain ⟨p0,p1⟩:=gq (f:=f) (o:=0) (by omega) hD.lo hD.hi 3 (by omega);obtain ⟨q0,q1⟩:=gq (f:=f) (o:=4) (by omega) hD.lo hD.hi 3 (by omega);go_wp2_with fail;exact ⟨⟨4,by omega,rfl,rfl,rfl⟩,by simp [intOf]⟩
  obtain ⟨p0,p1⟩:=AP (f:=f) (o:=0) (by omega) hD.lo hD.hi;obtain ⟨q0,q1⟩:=AP (f:=f) (o:=4) (by omega) hD.lo hD.hi;go_wp2_with fail;rw [hML.o,hMH.o,eL.o,eH.o];simp [bodyPost,results,Tryz.results254,go_sem,W];exact aj (b0 w) _
theorem mend {s:Int} (h:s<0):(-65536<s.tmod 65536∧s.tmod 65536<0∧s.tdiv 65536 - 1=s / 65536∧s.tmod 65536+65536=s % 65536)∨(s.tmod 65536=0∧s.tdiv 65536=s / 65536∧s.tmod 65536=s % 65536):=by
 have h1:(-s).tdiv 65536 = -(s.tdiv 65536):=Int.neg_tdiv _ _;have h2:(-s).tmod 65536 = -(s.tmod 65536):=Int.neg_tmod _ _;rw [Int.tdiv_eq_ediv_of_nonneg (by omega)] at h1;rw [Int.tmod_eq_emod_of_nonneg (by omega)] at h2;omega
theorem lQ {g c:Nat} {f:Nat→Int} (w:World) (hR:Row w g f) (f0:∀ j,j<8→-1099511627776≤f j) (f1:∀ j,j<8→f j≤1099511627776) :
    Calls Tryz.prog 255 #[.slice (some ⟨g,0,none⟩) 8 c] w fun e w' => ∃ g' c',e=.returned (.slice (some ⟨g',0,none⟩) 8 c')∧Row w' g' (fun j=>(cl f 8).getD j 0)∧Below w.heap.size w w':=by
 obtain ⟨i0,hinf,hz0,hz1,hz2⟩:=info_parts info3;have F0:=Hy f0;have F1:=Hy f1;clear f0 f1
 go_enter Tryz.func255,Tryz.ntmps255
 go_wp2_with fail
 go_loopw [3,4,5,6] (fun v m i _n wr => ∃ k:Nat,k≤8∧i=.int .i64 k∧m=.int .i64 (cm f k)∧wr.ownsRow w.heap.size 3 1 v k ((cl f k).map (Value.int .i64))∧Below w.heap.size w wr) (fun _ _ i _ _=>8 - (intOf i).toNat)
 case atStart=>exact ⟨0,by omega,rfl,rfl,World.ownsRow_nil _ _ _ _,b0 w⟩
 case round =>
  obtain ⟨k,hk,rfl,rfl,hown,hnx⟩:=hrel;have hz:=hnx.size;by_cases hlt:k<8
  ·have hcell:=(hR.keeps hnx).cell k hlt;have a0:=F0.o k hlt;have a1:=F1.o k hlt;obtain ⟨b0,b1⟩:=yV F0.o F1.o k (by omega);obtain ⟨n0,n1⟩:=yV F0.o F1.o (k+1) (by omega);have eC:Hid (cm f (k+1)=(f k+cm f k) / 65536):=rfl;have eL:Hid (cl f (k+1)=cl f k++[(f k+cm f k) % 65536]):=rfl;rw [eC.o] at n0 n1;have push:∀ x:Int,x=(f k+cm f k) % 65536→∀ (v':Value) (w1:World),w1.ownsRow w.heap.size 3 1 v' (k+1) ((cl f k).map (Value.int .i64)++[.int .i64 x])→w1.ownsRow w.heap.size 3 1 v' (k+1) ((cl f (k+1)).map (Value.int .i64)):=by
    intro x hx v' w1 h;rw [eL.o];simpa [hx] using h
   have PUSH:=Hy push;clear push;generalize hS:f k+cm f k=S at *;by_cases hs:0≤S
   ·go_wp2_with (at_builtin;refine wpList_append_own _ rfl _ _ 252 rfl w.heap.size 3 i0 (.int .i64 0) 1 8 Tryz.underlying252 hinf hz0 hz1 hz2 rfl (by decide) _ _ _ rfl (hown.alloc _) ⟨wr.heap.size,0,none⟩ 1 1 [.int .i64 (S % 65536)] rfl rfl ?c1 ?c2 ?c3 ?c4 ?c5 ?_)
    case c1 =>
     intro j u hj
     match j,hj with
     | 0,hj=>simp at hj;subst hj;simp [Addr.add]
    case c2=>intro u hu;simp at hu;subst hu;rfl
    case c3=>unfold maxLen;omega
    case c4=>omega
    case c5=>simp;omega
    intro v' w1 hown' hgrow _;have R1:=PUSH.o _ rfl v' w1 hown';have R2:=iE hnx hz hown hgrow;clear hown' hgrow hown hnx hcell;go_wp2;go_roundw
    case rel=>exact ⟨k+1,by omega,by go_num,by rw [eC.o],R1,R2⟩
    case measure=>simp [intOf];omega
   rcases mend (show S<0 from by omega) with ⟨g2,m0,m1,m2⟩ | ⟨m0,m1,m2⟩
   ·have g0 : -1099511627776≤S.tdiv 65536 - 1:=by omega
    have g1:S.tdiv 65536 - 1≤1099511627776:=by omega
    have M1:=Hy m1;have M2:=Hy m2;clear m1 m2;go_wp2_with (at_builtin;refine wpList_append_own _ rfl _ _ 252 rfl w.heap.size 3 i0 (.int .i64 0) 1 8 Tryz.underlying252 hinf hz0 hz1 hz2 rfl (by decide) _ _ _ rfl (hown.alloc _) ⟨wr.heap.size,0,none⟩ 1 1 [.int .i64 (S.tmod 65536+65536)] rfl rfl ?d1 ?d2 ?d3 ?d4 ?d5 ?_)
    case d2=>first | rfl | (intro u hu;simp at hu;subst hu;rfl)
    case d3=>first | omega | (unfold maxLen;omega)
    case d4=>omega
    case d5=>first | omega | (simp;omega)
    intro v' w1 hown' hgrow _;have R1:=PUSH.o _ M2.o v' w1 hown';have R2:=iE hnx hz hown hgrow;clear hown' hgrow hown hnx hcell;go_wp2;go_roundw
    case rel=>exact ⟨k+1,by omega,by go_num,by rw [eC.o,← M1.o],R1,R2⟩
    case measure=>simp [intOf];omega
   have g0 : -1099511627776≤S.tdiv 65536:=by omega
   have g1:S.tdiv 65536≤1099511627776:=by omega
   have g2:0≤S.tmod 65536:=by omega
   have M1:=Hy m1;have M2:=Hy m2;clear m1 m2 m0;go_wp2_with (at_builtin;refine wpList_append_own _ rfl _ _ 252 rfl w.heap.size 3 i0 (.int .i64 0) 1 8 Tryz.underlying252 hinf hz0 hz1 hz2 rfl (by decide) _ _ _ rfl (hown.alloc _) ⟨wr.heap.size,0,none⟩ 1 1 [.int .i64 (S.tmod 65536)] rfl rfl ?h1 ?h2 ?h3 ?h4 ?h5 ?_)
   case h2=>first | rfl | (intro u hu;simp at hu;subst hu;rfl)
   case h3=>first | omega | (unfold maxLen;omega)
   case h4=>omega
   case h5=>first | omega | (simp;omega)
   intro v' w1 hown' hgrow _;have R1:=PUSH.o _ M2.o v' w1 hown';have R2:=iE hnx hz hown hgrow;clear hown' hgrow hown hnx hcell;go_wp2;go_roundw
   case rel=>exact ⟨k+1,by omega,by go_num,by rw [eC.o,← M1.o],R1,R2⟩
   case measure=>simp [intOf];omega
  obtain rfl:k=8:=by omega
  obtain ⟨g',c',hv,hg,hc,R⟩:=lH (Gb f 8) hown;clear hown;rw [hv];go_wp2;go_ret;exact ⟨g',c',rfl,R,hnx⟩
theorem kQ (w:World) (p:Addr) (v:Value):(w.setCell p v).heap.size=w.heap.size:=by simp
theorem Row.congr {w:World} {g:Nat} {f f':Nat→Int} (h:Row w g f) (e:∀ j,j<8→f j=f' j):Row w g f':=⟨fun j hj=>by rw [← e j hj];exact h.cell j hj,h.free,h.lt⟩
theorem Row.put {w:World} {g:Nat} {f:Nat→Int} (h:Row w g f) (k:Nat) (v:Int):Row (w.setCell ⟨g,k,none⟩ (.int .i64 v)) g (fun j=>if j=k then v else f j):=by
 refine ⟨fun j hj=>?_,fun j hj=>by rw [World.frozen?_setCell];exact h.free j hj,by rw [kQ];exact h.lt⟩;by_cases e:j=k
 ·subst e;rw [if_pos rfl];exact World.cell?_setCell_same _ _ _ (h.cell j hj)
 rw [if_neg e,World.cell?_setCell_other _ _ _ _ (fun h=>e (congrArg Addr.off h).symm)];exact h.cell j hj
theorem Row.off {w:World} {g g':Nat} {f:Nat→Int} (h:Row w g f) (hg:g'≠g) (k:Nat) (v:Value):Row (w.setCell ⟨g',k,none⟩ v) g f:=by
 have e:∀ o o',(⟨g',o,none⟩:Addr)≠⟨g,o',none⟩:=fun _ _ h=>hg (congrArg Addr.block h);exact ⟨fun j hj=>by rw [World.cell?_setCell_other _ _ _ _ (e k j)];exact h.cell j hj,fun j hj=>by rw [World.frozen?_setCell];exact h.free j hj,by rw [kQ];exact h.lt⟩
theorem Fresh.off {w:World} {g g':Nat} (h:Fresh w g) (hg:g'≠g) (k:Nat) (v:Value):Fresh (w.setCell ⟨g',k,none⟩ v) g:=by
 have e:∀ o o',(⟨g',o,none⟩:Addr)≠⟨g,o',none⟩:=fun _ _ h=>hg (congrArg Addr.block h);exact ⟨by rw [World.cell?_setCell_other _ _ _ _ (e k 0)];exact h.1,by rw [World.cell?_setCell_other _ _ _ _ (e k 1)];exact h.2.1,by rw [World.frozen?_setCell];exact h.2.2.1,by rw [World.frozen?_setCell];exact h.2.2.2.1,by rw [kQ];exact h.2.2.2.2⟩
theorem Row.drew {w:World} {g:Nat} {f:Nat→Int} (h:Row w g f):Row w.drew g f:=⟨h.cell,h.free,h.lt⟩
theorem Fresh.drew {w:World} {g:Nat} (h:Fresh w g):Fresh w.drew g:=h
theorem Cv {x y:Value} {a b:Int} (hx:x=W a) (hy:y=W b) (w:World) :
    Calls Tryz.prog 227 #[x,y] w fun e w' => e=.returned (W (a+b))∧Below w.heap.size w w':=by
 subst hx hy;have dA:=mR a;have dB:=mR b;have cA:=fun w=>iF (x:=W a) rfl w;have cB:=fun w=>iF (x:=W b) rfl w;generalize (fun j=>(dgs a).getD j 0)=fa at dA cA;generalize (fun j=>(dgs b).getD j 0)=fb at dB cB;have CA:=Hy cA;have CB:=Hy cB;clear cA cB;have DA:=Hy dA;have DB:=Hy dB;clear dA dB;have eV:=val_add DA.o DB.o;have CC:=Hy (fun w g c (hR:Row w g (fun j=>fa j+fb j))=>lQ (c:=c) w hR (fun j hj=>by have:=DA.o.lo j hj;have:=DA.o.hi j hj;have:=DB.o.lo j hj;have:=DB.o.hi j hj;omega) (fun j hj=>by have:=DA.o.lo j hj;have:=DA.o.hi j hj;have:=DB.o.lo j hj;have:=DB.o.hi j hj;omega));have CM:=Hy (fun w g c (hR:Row w g (fun j=>(cl (fun j=>fa j+fb j) 8).getD j 0))=>yB (c:=c) w hR ((wJ (fun j=>fa j+fb j)).congr eV));clear eV;unfold W
 go_enter Tryz.func227,Tryz.ntmps227
 go_wp2_with fail;refine (CA.o _).mono ?_;rintro e w1 ⟨gx,cx,rfl,hgx,hcx,X,hb⟩;have B:=((Box.new (w.alloc (.cells #[.int .i64 (hi a),.int .u64 (lo a)] 114)) b).past (.cells #[.int .i64 0,.int .u64 0] 114)).keeps hb;have R:=(Fresh.new ((w.alloc (.cells #[.int .i64 (hi a),.int .u64 (lo a)] 114)).alloc (.cells #[.int .i64 (hi b),.int .u64 (lo b)] 114))).keeps hb;have k1:=aD (aj (aj (aj (b0 w) _) _) _) hb;simp only [World.size_alloc] at B R hgx;clear hb;have ⟨B0,B1⟩:=B;go_wp2_with fail;refine (CB.o _).mono ?_;rintro e w2 ⟨gy,cy,rfl,hgy,hcy,Y,hb⟩;clear B0 B1;have hlt:gx<gy:=Nat.lt_of_lt_of_le X.lt hgy;replace X:=X.keeps hb;replace R:=R.keeps hb;have k2:=aD k1 hb;clear hb k1 B;go_wp2_with fail
 go_loopw [7] (fun i wr => ∃ k:Nat,k≤8∧i=.int .i64 k∧Row wr gx (fun j=>if j<k then fa j+fb j else fa j)∧Row wr gy fb∧Fresh wr (w.heap.size+1+1)∧Below w.heap.size w wr) (fun i _=>8 - (intOf i).toNat)
 case atStart=>exact ⟨0,by omega,rfl,X.congr (fun j _=>by rw [if_neg (by omega)]),Y,R,k2⟩
 case round =>
  clear X Y R k2;obtain ⟨k,hk,rfl,X,Y,R,k2⟩:=hrel;by_cases hlt8:k<8
  ·have x0:=X.cell k hlt8;have x1:=X.free k hlt8;have y0:=Y.cell k hlt8;rw [if_neg (by omega)] at x0;have a0:=DA.o.lo k hlt8;have a1:=DA.o.hi k hlt8;have b0':=DB.o.lo k hlt8;have b1:=DB.o.hi k hlt8;have X':Row (wr.setCell ⟨gx,k,none⟩ (.int .i64 (fa k+fb k))).drew gx (fun j=>if j<k+1 then fa j+fb j else fa j):=((X.put k (fa k+fb k)).congr (fun j _=>by
     by_cases e:j=k
     · rw [if_pos e,if_pos (by omega),e]
     · rw [if_neg e]
       by_cases e':j<k
       · rw [if_pos e',if_pos (by omega)]
       · rw [if_neg e',if_neg (by omega)])).drew
   have Y':=(Y.off (g':=gx) (by omega) k (.int .i64 (fa k+fb k))).drew;have R':=(R.off (g':=gx) (by omega) k (.int .i64 (fa k+fb k))).drew;have k2':Below w.heap.size w (wr.setCell ⟨gx,k,none⟩ (.int .i64 (fa k+fb k))).drew:=(k2.setCell (p:=⟨gx,k,none⟩) (by show w.heap.size≤gx;omega) _).drew;clear X Y R k2;go_wp2_with fail;refine nk 12 (by kernel_rfl) (by kernel_rfl) ?_;simp only [List.take_succ_cons,List.take_zero,List.drop_succ_cons,List.drop_zero]
   repeat still_step
   refine wpStill_nil ?_;go_wp2;go_roundw
   case rel=>exact ⟨k+1,by omega,by go_num,X',Y',R',k2'⟩
   case measure=>simp [intOf];omega
  obtain rfl:k=8:=by omega
  have X':=X.congr (f':=fun j=>fa j+fb j) (fun j hj=>by rw [if_pos hj]);clear X Y;go_wp2_with fail;refine (CC.o _ gx cx X').mono ?_;rintro e w3 ⟨g',c',rfl,Z,hb⟩;replace R:=R.keeps hb;have k3:=aD k2 hb;clear hb k2 X';go_wp2_with fail;refine (CM.o _ g' c' Z).mono ?_;unfold W;rintro e w4 ⟨rfl,hb⟩;replace R:=R.keeps hb;have k4:=aD k3 hb;clear hb k3 Z;have ⟨z0,z1,z2,z3,z4⟩:=R;obtain ⟨r0,r1⟩:=R.put (a+b);have k5:=kK k4 (k:=w.heap.size+1+1) (by omega) (.int .i64 (hi (a+b))) (.int .u64 (lo (a+b)));go_wp2;simp [bodyPost,results,Tryz.results227,go_sem,r0,r1];exact k5
theorem Cu {x y:Value} {a b:Int} (hx:x=W a) (hy:y=W b) (w:World) :
    Calls Tryz.prog 275 #[x,y] w fun e w' => e=.returned (W (a - b))∧Below w.heap.size w w':=by
 subst hx hy;have dA:=mR a;have dB:=mR b;have cA:=fun w=>iF (x:=W a) rfl w;have cB:=fun w=>iF (x:=W b) rfl w;generalize (fun j=>(dgs a).getD j 0)=fa at dA cA;generalize (fun j=>(dgs b).getD j 0)=fb at dB cB;have CA:=Hy cA;have CB:=Hy cB;clear cA cB;have DA:=Hy dA;have DB:=Hy dB;clear dA dB;have eV:=val_sub DA.o DB.o;have CC:=Hy (fun w g c (hR:Row w g (fun j=>fa j - fb j))=>lQ (c:=c) w hR (fun j hj=>by have:=DA.o.lo j hj;have:=DA.o.hi j hj;have:=DB.o.lo j hj;have:=DB.o.hi j hj;omega) (fun j hj=>by have:=DA.o.lo j hj;have:=DA.o.hi j hj;have:=DB.o.lo j hj;have:=DB.o.hi j hj;omega));have CM:=Hy (fun w g c (hR:Row w g (fun j=>(cl (fun j=>fa j - fb j) 8).getD j 0))=>yB (c:=c) w hR ((wJ (fun j=>fa j - fb j)).congr eV));clear eV;unfold W
 go_enter Tryz.func275,Tryz.ntmps275
 go_wp2_with fail;refine (CA.o _).mono ?_;rintro e w1 ⟨gx,cx,rfl,hgx,hcx,X,hb⟩;have B:=((Box.new (w.alloc (.cells #[.int .i64 (hi a),.int .u64 (lo a)] 114)) b).past (.cells #[.int .i64 0,.int .u64 0] 114)).keeps hb;have R:=(Fresh.new ((w.alloc (.cells #[.int .i64 (hi a),.int .u64 (lo a)] 114)).alloc (.cells #[.int .i64 (hi b),.int .u64 (lo b)] 114))).keeps hb;have k1:=aD (aj (aj (aj (b0 w) _) _) _) hb;simp only [World.size_alloc] at B R hgx;clear hb;have ⟨B0,B1⟩:=B;go_wp2_with fail;refine (CB.o _).mono ?_;rintro e w2 ⟨gy,cy,rfl,hgy,hcy,Y,hb⟩;clear B0 B1;have hlt:gx<gy:=Nat.lt_of_lt_of_le X.lt hgy;replace X:=X.keeps hb;replace R:=R.keeps hb;have k2:=aD k1 hb;clear hb k1 B;go_wp2_with fail
 go_loopw [7] (fun i wr => ∃ k:Nat,k≤8∧i=.int .i64 k∧Row wr gx (fun j=>if j<k then fa j - fb j else fa j)∧Row wr gy fb∧Fresh wr (w.heap.size+1+1)∧Below w.heap.size w wr) (fun i _=>8 - (intOf i).toNat)
 case atStart=>exact ⟨0,by omega,rfl,X.congr (fun j _=>by rw [if_neg (by omega)]),Y,R,k2⟩
 case round =>
  clear X Y R k2;obtain ⟨k,hk,rfl,X,Y,R,k2⟩:=hrel;by_cases hlt8:k<8
  ·have x0:=X.cell k hlt8;have x1:=X.free k hlt8;have y0:=Y.cell k hlt8;rw [if_neg (by omega)] at x0;have a0:=DA.o.lo k hlt8;have a1:=DA.o.hi k hlt8;have b0':=DB.o.lo k hlt8;have b1:=DB.o.hi k hlt8;have X':Row (wr.setCell ⟨gx,k,none⟩ (.int .i64 (fa k - fb k))).drew gx (fun j=>if j<k+1 then fa j - fb j else fa j):=((X.put k (fa k - fb k)).congr (fun j _=>by
     by_cases e:j=k
     · rw [if_pos e,if_pos (by omega),e]
     · rw [if_neg e]
       by_cases e':j<k
       · rw [if_pos e',if_pos (by omega)]
       · rw [if_neg e',if_neg (by omega)])).drew
   have Y':=(Y.off (g':=gx) (by omega) k (.int .i64 (fa k - fb k))).drew;have R':=(R.off (g':=gx) (by omega) k (.int .i64 (fa k - fb k))).drew;have k2':Below w.heap.size w (wr.setCell ⟨gx,k,none⟩ (.int .i64 (fa k - fb k))).drew:=(k2.setCell (p:=⟨gx,k,none⟩) (by show w.heap.size≤gx;omega) _).drew;clear X Y R k2;go_wp2_with fail;refine nk 12 (by kernel_rfl) (by kernel_rfl) ?_;simp only [List.take_succ_cons,List.take_zero,List.drop_succ_cons,List.drop_zero]
   repeat still_step
   refine wpStill_nil ?_;go_wp2;go_roundw
   case rel=>exact ⟨k+1,by omega,by go_num,X',Y',R',k2'⟩
   case measure=>simp [intOf];omega
  obtain rfl:k=8:=by omega
  have X':=X.congr (f':=fun j=>fa j - fb j) (fun j hj=>by rw [if_pos hj]);clear X Y;go_wp2_with fail;refine (CC.o _ gx cx X').mono ?_;rintro e w3 ⟨g',c',rfl,Z,hb⟩;replace R:=R.keeps hb;have k3:=aD k2 hb;clear hb k2 X';go_wp2_with fail;refine (CM.o _ g' c' Z).mono ?_;unfold W;rintro e w4 ⟨rfl,hb⟩;replace R:=R.keeps hb;have k4:=aD k3 hb;clear hb k3 Z;have ⟨z0,z1,z2,z3,z4⟩:=R;obtain ⟨r0,r1⟩:=R.put (a - b);have k5:=kK k4 (k:=w.heap.size+1+1) (by omega) (.int .i64 (hi (a - b))) (.int .u64 (lo (a - b)));go_wp2;simp [bodyPost,results,Tryz.results275,go_sem,r0,r1];exact k5
theorem lG (n:Int) (w:World) (h1 : -9223372036854775808≤n) (h2:n≤9223372036854775807) :
    Calls Tryz.prog 226 #[.int .i64 n] w fun e w' => e=.returned (.agg #[.int .i64 (hi n),.int .u64 (lo n)])∧Below w.heap.size w w':=by
 have e1:Hid (n / 9223372036854775808=hi n):=Jf n h1 h2;have e2:Hid (IntKind.u64.wrap n=lo n):=CJ n;by_cases h:n<0
 ·have e3:n / 9223372036854775808 = -1:=by omega
  rw [e3] at e1
  go_enter Tryz.func226,Tryz.ntmps226
  go_wp2;rw [e2.o,← e1.o];simp [bodyPost,results,Tryz.results226,go_sem];exact aj (b0 w) _
 have e3:n / 9223372036854775808=0:=by omega
 rw [e3] at e1;rw [IntKind.wrap_u64,Int.emod_eq_of_lt (by omega) (by omega)] at e2
 go_enter Tryz.func226,Tryz.ntmps226
 go_wp2;rw [← e2.o,← e1.o];simp [bodyPost,results,Tryz.results226,go_sem];exact aj (b0 w) _
theorem GY (a b:Int) (w:World) :
  Calls Tryz.prog 227 #[.agg #[.int .i64 (hi a),.int .u64 (lo a)],.agg #[.int .i64 (hi b),.int .u64 (lo b)]] w fun e w' => e=.returned (.agg #[.int .i64 (hi (a+b)),.int .u64 (lo (a+b))])∧Below w.heap.size w w':=Cv rfl rfl w
theorem GV (a b:Int) (w:World) :
  Calls Tryz.prog 275 #[.agg #[.int .i64 (hi a),.int .u64 (lo a)],.agg #[.int .i64 (hi b),.int .u64 (lo b)]] w fun e w' => e=.returned (.agg #[.int .i64 (hi (a - b)),.int .u64 (lo (a - b))])∧Below w.heap.size w w':=Cu rfl rfl w
theorem StA.put' {w w5:World} {a:Int} (h:StA w w5 w.heap.size a) (u v:Value):StA w ((w5.setCell ⟨w.heap.size+1,0,none⟩ u).setCell ⟨w.heap.size+1,1,none⟩ v) w.heap.size a :=
 ⟨h.1.off (by omega) u v,kK h.2 (by omega) u v⟩
theorem GX (a:Int) (w:World) :
    Calls Tryz.prog 272 #[.agg #[.int .i64 (hi a),.int .u64 (lo a)]] w fun e w' => e=.returned (.agg #[.int .i64 (hi (-a)),.int .u64 (lo (-a))])∧Below w.heap.size w w':=by
 have A:=(Box.new w a).past (.cells #[.int .i64 0,.int .u64 0] 114);have N:=Fresh.new (w.alloc (.cells #[.int .i64 (hi a),.int .u64 (lo a)] 114));have k1:=aj (aj (b0 w) (.cells #[.int .i64 (hi a),.int .u64 (lo a)] 114)) (.cells #[.int .i64 0,.int .u64 0] 114);simp only [World.size_alloc] at N
 go_enter Tryz.func272,Tryz.ntmps272
 go_wp2_with fail;generalize (w.alloc (.cells #[.int .i64 (hi a),.int .u64 (lo a)] 114)).alloc (.cells #[.int .i64 0,.int .u64 0] 114)=w1 at *;have SS0:StA w w1 w.heap.size a:=⟨A,k1⟩;have SS:StA w w1.drew w.heap.size a:=⟨A,k1.drew⟩;have NN:Fresh w1.drew (w.heap.size+1):=N
 go_region_held3 (fun w' => w'.cell? ⟨w.heap.size,0,none⟩=some (.int .i64 (hi a))∧w'.cell? ⟨w.heap.size,1,none⟩=some (.int .u64 (lo a))∧Go.RowKit.Below w.heap.size w w') ((first | exact StA.o (by assumption) | exact StA.o (StA.put' (by assumption) _ _))) ((first | (go_at_call 226;refine (lG 0 _ (by decide) (by decide)).mono ?_;rintro e w3 ⟨rfl,hb⟩;have SS3:=StA.next (by assumption) hb;have N3:=Fresh.keeps (by assumption) hb;clear hb) | (go_at_call 275;refine (GV 0 a _).mono ?_;rw [Int.zero_sub];rintro e w4 ⟨rfl,hb⟩;have SS4:=StA.next (by assumption) hb;have N4:=Fresh.keeps (by assumption) hb;clear hb;have ⟨y0,y1,y2,y3,y4⟩:=N4)))
 go_wp2_with fail;obtain ⟨r0,r1⟩:=N4.put (-a);have k5:=kK SS4.2 (k:=w.heap.size+1) (by omega) (.int .i64 (hi (-a))) (.int .u64 (lo (-a)));simp [bodyPost,results,Tryz.results272,go_sem,r0,r1];exact k5
theorem Row.drewN {w:World} {g:Nat} {f:Nat→Int} (h:Row w g f) (n:Nat):Row (w.drewN n) g f:=⟨h.cell,h.free,h.lt⟩
theorem qZ {f:Nat→Int} {a:Int} (h:Dg f a) (h0:0≤a) (h1:a<340282366920938463463374607431768211456):val f=a:=by
 have l:=eight h.lo;have u:=eight h.hi;have v:=h.val;unfold val at *;omega
theorem IU {f g:Nat→Int} {x y:Int} (hf:Dg f x) (hg:Dg g y) (x0:0≤x) (x1:x<340282366920938463463374607431768211456) (y0:0≤y) (y1:y<340282366920938463463374607431768211456)
    (m:Nat) (hm:m<8) (he:∀ j,m<j→j<8→f j=g j) (hne:f m≠g m):x<y↔f m<g m:=by
 have ex:=qZ hf x0 x1;have ey:=qZ hg y0 y1;have l:=eight hf.lo;have u:=eight hf.hi;have l':=eight hg.lo;have u':=eight hg.hi;have h1:=he 1;have h2:=he 2;have h3:=he 3;have h4:=he 4;have h5:=he 5;have h6:=he 6;have h7:=he 7;unfold val at ex ey;have h8:m=0∨m=1∨m=2∨m=3∨m=4∨m=5∨m=6∨m=7:=by omega
 clear he;rcases h8 with rfl | rfl | rfl | rfl | rfl | rfl | rfl | rfl <;> omega
theorem Dp {f g:Nat→Int} {x y:Int} (hf:Dg f x) (hg:Dg g y) (x0:0≤x) (x1:x<340282366920938463463374607431768211456) (y0:0≤y) (y1:y<340282366920938463463374607431768211456)
    (he:∀ j,0≤j→j<8→f j=g j):¬ x<y:=by
 have ex:=qZ hf x0 x1;have ey:=qZ hg y0 y1;have e:=eight (fun j hj=>he j (by omega) hj);unfold val at ex ey;omega
theorem jf {ga gb ca cb:Nat} {f g:Nat→Int} {x y:Int} (w:World) (hA:Row w ga f) (hB:Row w gb g) (hf:Dg f x) (hg:Dg g y)
    (x0:0≤x) (x1:x<340282366920938463463374607431768211456) (y0:0≤y) (y1:y<340282366920938463463374607431768211456) :
    Calls Tryz.prog 258 #[.slice (some ⟨ga,0,none⟩) 8 ca,.slice (some ⟨gb,0,none⟩) 8 cb] w fun e w' => e=.returned (.bool (decide (x<y)))∧Below w.heap.size w w':=by
 have NO:=Hy (fun h=>Dp hf hg x0 x1 y0 y1 h);have AT:=Hy (fun m hm he hne=>IU hf hg x0 x1 y0 y1 m hm he hne);clear hf hg x0 x1 y0 y1
 go_enter Tryz.func258,Tryz.ntmps258
 go_wp2_with fail
 go_loopw [5] (fun i wr => ∃ (k:Nat) (z:Int),k≤8∧z=(k:Int) - 1∧i=.int .i64 z∧(∀ j,k≤j→j<8→f j=g j)∧Row wr ga f∧Row wr gb g∧Below w.heap.size w wr) (fun i _=>(intOf i+1).toNat)
 case atStart=>exact ⟨8,7,by omega,rfl,rfl,fun j h1 h2=>by omega,hA,hB,b0 w⟩
 case round =>
  clear hA hB;obtain ⟨k,z,hk,hz,rfl,he,hA,hB,k1⟩:=hrel;have HE:=Hy he;clear he
  cases k with
  | zero =>
    obtain rfl:z = -1:=by omega
    have e:decide (x<y)=false:=by simpa using NO.o HE.o
    clear hz
    go_wp2
    go_ret
    exact ⟨by rw [e];rfl,k1⟩
  | succ m =>
    obtain rfl:z=(m:Int):=by omega
    clear hz
    have a0:=hA.cell m (by omega)
    have c0:=hB.cell m (by omega)
    by_cases hd:f m=g m
    · have e1:(f m==g m)=true:=by rw [hd];simp
      have e2:(f m != g m)=false:=by rw [hd];simp
      have HD:=Hy hd
      clear hd
      go_wp2_with fail
      go_quiet (fail)
      go_wp2
      have he:∀ j,m≤j→j<8→f j=g j:=fun j h1 h2=>by
        by_cases e:j=m
        · rw [e];exact HD.o
        · exact HE.o j (by omega) h2
      exact ⟨⟨m,(m:Int) - 1,by omega,rfl,rfl,he,hA.drewN _,hB.drewN _,below_drewN' k1 _⟩,by simp [intOf]⟩
    · have e1:(f m==g m)=false:=by simpa using hd
      have e2:(f m != g m)=true:=by simpa using hd
      have e3:=AT.o m (by omega) (fun j h1 h2=>HE.o j (by omega) h2) hd
      have E3:Hid (decide (x<y)=decide (f m<g m)):=by unfold Hid;simp only [e3]
      clear e3 hd
      go_wp2_with fail
      go_quiet (fail)
      go_wp2_with fail
      go_quiet (fail)
      go_wp2
      go_ret
      exact ⟨by rw [E3.o];rfl,below_drewN' (below_drewN' k1 _) _⟩
theorem qw {a:Int} (ia:In a) (w:World) :
    Calls Tryz.prog 256 #[.agg #[.int .i64 (hi a),.int .u64 (lo a)]] w fun e w' => ∃ g c f,e=.returned (.slice (some ⟨g,0,none⟩) 8 c)∧Row w' g f∧Dg f (ab a)∧Below w.heap.size w w':=by
 have A:=Box.new w a;have k0:=aj (b0 w) (.cells #[.int .i64 (hi a),.int .u64 (lo a)] 114);by_cases h:a<0
 ·have hh:hi a<0:=(mM ia).2 h;rw [tN h];have D:=mR (-a);have cD:=fun w=>iF (x:=W (-a)) rfl w;generalize (fun j=>(dgs (-a)).getD j 0)=f at D cD;have CD:=Hy cD;clear cD
  go_enter Tryz.func256,Tryz.ntmps256
  go_wp2_with fail;refine (GX a _).mono ?_;rintro e w1 ⟨rfl,hb⟩;have k1:=aD k0 hb;clear hb;go_wp2_with fail;refine (CD.o _).mono ?_;rintro e w2 ⟨g,c,rfl,_,_,R,hb⟩;have k2:=aD k1 hb;clear hb;go_wp2;go_ret;exact ⟨g,c,f,rfl,R,D,k2⟩
 have hh:0≤hi a:=by have:=mM ia;omega
 rw [tL (by omega)];have D:=mR a;have cD:=fun w=>iF (x:=W a) rfl w;generalize (fun j=>(dgs a).getD j 0)=f at D cD;have CD:=Hy cD;clear cD
 go_enter Tryz.func256,Tryz.ntmps256
 go_wp2_with fail;refine (CD.o _).mono ?_;rintro e w2 ⟨g,c,rfl,_,_,R,hb⟩;have k2:=aD k0 hb;clear hb;go_wp2;go_ret;exact ⟨g,c,f,rfl,R,D,k2⟩
def tl (F:Nat→Int):Nat→List Int
 | 0=>[]
 | k+1=>tl F k++[F k]
theorem uV (F:Nat→Int) (k:Nat):(tl F k).length=k:=by induction k <;> simp_all [tl]
theorem DJ (F:Nat→Int):∀ j,j<8→(tl F 8).getD j 0=F j:=jG rfl rfl rfl rfl rfl rfl rfl rfl
def tw (f:Nat→Int) (n:Int) (j:Nat):Int:=if j=0 then 2 * f 0+n else 2 * f j
theorem MR {f:Nat→Int} {r n:Int} (h:Dg f r):val (tw f n) % 340282366920938463463374607431768211456=(2 * r+n) % 340282366920938463463374607431768211456:=by
 have v:=h.val;unfold val at *;simp only [tw,if_true,show ¬ (1=0) from by decide,show ¬ (2=0) from by decide,show ¬ (3=0) from by decide,show ¬ (4=0) from by decide,show ¬ (5=0) from by decide,show ¬ (6=0) from by decide,show ¬ (7=0) from by decide,if_false];omega
theorem uT {g c:Nat} {f:Nat→Int} {r n:Int} (w:World) (hA:Row w g f) (hD:Dg f r) (n0:0≤n) (n1:n≤1) :
    Calls Tryz.prog 257 #[.slice (some ⟨g,0,none⟩) 8 c,.int .i64 n] w fun e w' => ∃ g' c' f',e=.returned (.slice (some ⟨g',0,none⟩) 8 c')∧Row w' g' f'∧Dg f' (2 * r+n)∧Below w.heap.size w w':=by
 obtain ⟨i0,hinf,hz0,hz1,hz2⟩:=info_parts info3;have D:=Hy hD;have G:=Hy ((wJ (tw f n)).congr (MR hD));have CC:=Hy (fun w g c (hR:Row w g (tw f n))=>lQ (c:=c) w hR (fun j hj=>by have:=hD.lo j hj;have:=hD.hi j hj;have:=hD.lo 0 (by omega);have:=hD.hi 0 (by omega);unfold tw;split <;> omega) (fun j hj=>by have:=hD.lo j hj;have:=hD.hi j hj;have:=hD.lo 0 (by omega);have:=hD.hi 0 (by omega);unfold tw;split <;> omega));clear hD
 go_enter Tryz.func257,Tryz.ntmps257
 go_wp2_with fail
 go_loopw [5,6] (fun v i wr => ∃ k:Nat,k≤8∧i=.int .i64 k∧wr.ownsRow w.heap.size 3 1 v k ((tl (fun j=>2 * f j) k).map (Value.int .i64))∧Below w.heap.size w wr) (fun _ i _=>8 - (intOf i).toNat)
 case atStart=>exact ⟨0,by omega,rfl,World.ownsRow_nil _ _ _ _,b0 w⟩
 case round =>
  obtain ⟨k,hk,rfl,hown,hnx⟩:=hrel;have hz:=hnx.size;by_cases hlt:k<8
  ·have hcell:=(hA.keeps hnx).cell k hlt;have a0:=D.o.lo k hlt;have a1:=D.o.hi k hlt;go_wp2_with (at_builtin;refine wpList_append_own _ rfl _ _ 252 rfl w.heap.size 3 i0 (.int .i64 0) 1 8 Tryz.underlying252 hinf hz0 hz1 hz2 rfl (by decide) _ _ _ rfl (hown.alloc _) ⟨wr.heap.size,0,none⟩ 1 1 [.int .i64 (2 * f k)] rfl rfl ?c1 ?c2 ?c3 ?c4 ?c5 ?_)
   case c1 =>
    intro j u hj
    match j,hj with
    | 0,hj=>simp at hj;subst hj;simp [Addr.add]
   case c2=>intro u hu;simp at hu;subst hu;rfl
   case c3=>unfold maxLen;omega
   case c4=>omega
   case c5=>simp;omega
   intro v' w1 hown' hgrow _;have R1:w1.ownsRow w.heap.size 3 1 v' (k+1) ((tl (fun j=>2 * f j) (k+1)).map (Value.int .i64)):=by simpa [tl] using hown'
   have R2:=iE hnx hz hown hgrow;clear hown' hgrow hown hnx hcell;go_wp2;go_roundw
   case rel=>exact ⟨k+1,by omega,by go_num,R1,R2⟩
   case measure=>simp [intOf];omega
  obtain rfl:k=8:=by omega
  obtain ⟨g',c',hv,hg,hc,R⟩:=lH (uV _ 8) hown;clear hown;have R:=R.congr (DJ (fun j=>2 * f j));have z0:=R.cell 0 (by omega);have z1:=R.free 0 (by omega);have a0:=D.o.lo 0 (by omega);have a1:=D.o.hi 0 (by omega);have R':=(R.put 0 (2 * f 0+n)).congr (f':=tw f n) (fun j _=>by unfold tw;by_cases e:j=0 <;> simp [e]);have k1:=hnx.setCell (p:=⟨g',0,none⟩) (by show w.heap.size≤g';omega) (.int .i64 (2 * f 0+n));rw [hv];clear R hnx;go_wp2_with fail;refine (CC.o _ g' c' R').mono ?_;rintro e w5 ⟨g2,c2,rfl,Z,hb⟩;have k5:=aD k1 hb;clear hb k1 R';go_wp2;go_ret;exact ⟨g2,c2,_,rfl,Z,G.o,k5⟩
theorem Fg {ga gb ca cb:Nat} {f g:Nat→Int} {x y:Int} (w:World) (hA:Row w ga f) (hB:Row w gb g) (hf:Dg f x) (hg:Dg g y) :
    Calls Tryz.prog 259 #[.slice (some ⟨ga,0,none⟩) 8 ca,.slice (some ⟨gb,0,none⟩) 8 cb] w fun e w' => ∃ g' c' f',e=.returned (.slice (some ⟨g',0,none⟩) 8 c')∧Row w' g' f'∧Dg f' (x - y)∧Below w.heap.size w w':=by
 obtain ⟨i0,hinf,hz0,hz1,hz2⟩:=info_parts info3;have DA:=Hy hf;have DB:=Hy hg;have G:=Hy ((wJ (fun j=>f j - g j)).congr (val_sub hf hg));have CC:=Hy (fun w g' c (hR:Row w g' (fun j=>f j - g j))=>lQ (c:=c) w hR (fun j hj=>by have:=hf.lo j hj;have:=hf.hi j hj;have:=hg.lo j hj;have:=hg.hi j hj;omega) (fun j hj=>by have:=hf.lo j hj;have:=hf.hi j hj;have:=hg.lo j hj;have:=hg.hi j hj;omega));clear hf hg
 go_enter Tryz.func259,Tryz.ntmps259
 go_wp2_with fail
 go_loopw [5,6] (fun v i wr => ∃ k:Nat,k≤8∧i=.int .i64 k∧wr.ownsRow w.heap.size 3 1 v k ((tl (fun j=>f j - g j) k).map (Value.int .i64))∧Below w.heap.size w wr) (fun _ i _=>8 - (intOf i).toNat)
 case atStart=>exact ⟨0,by omega,rfl,World.ownsRow_nil _ _ _ _,b0 w⟩
 case round =>
  obtain ⟨k,hk,rfl,hown,hnx⟩:=hrel;have hz:=hnx.size;by_cases hlt:k<8
  ·have hcell:=(hA.keeps hnx).cell k hlt;have hcell':=(hB.keeps hnx).cell k hlt;have a0:=DA.o.lo k hlt;have a1:=DA.o.hi k hlt;have q0:=DB.o.lo k hlt;have q1:=DB.o.hi k hlt;have s1:(k:Int)<8:=by omega
   go_wp2_with fail;have neA:some ga≠Value.ownBlock _:=fun h=>by have:=(hown.lt ga h.symm).1;have:=hA.lt;omega
   have neB:some gb≠Value.ownBlock _:=fun h=>by have:=(hown.lt gb h.symm).1;have:=hB.lt;omega
   have zA:=(hA.keeps hnx).lt;have zB:=(hB.keeps hnx).lt;have hn:k+1≤maxLen:=by unfold maxLen;omega
   have hb:(k+1) * 8≤140737488355328:=by omega
   have sw:IntKind.i64.wrap (f k - g k)=f k - g k:=IntWalk.i64_in _ (by omega)
   go_region_held3 (fun w' => w'.cell? ⟨ga,k,none⟩=some (.int .i64 (f k))∧w'.cell? ⟨gb,k,none⟩=some (.int .i64 (g k)))
     ((first
       | go_keep
       | (refine ⟨?_,?_⟩
          · (rw [hgrow.cell_far _ (by simp;omega) neA];exact dL _ hcell)
          · (rw [hgrow.cell_far _ (by simp;omega) neB];exact dL _ hcell'))))
     ((refine step_append_lies _ (by rfl) _ _ _ (by rfl) w.heap.size 3 i0 _ 1 8 Tryz.underlying252 hinf hz0 hz1 hz2 rfl (by omega) _ k _ (by rfl) ((hown.alloc _).drew) ⟨wr.heap.size,0,none⟩ 1 1 [.int .i64 (f k - g k)] (by rfl) (by rfl) (World.news_of_block (cs:=#[.int .i64 (f k - g k)]) (t:=3) (fr:=(0,0)) (heap_alloc_new wr _)) (by simp [Value.oneCell']) (by omega) hn hb (by simp;omega) (wr.heap.size+1) (by simp) ?_;intro gg cap w1 hown1 hgrow hat hltg))
   have R1:w1.ownsRow w.heap.size 3 1 (Value.slice (some ⟨gg,0,none⟩) (k+1) cap) (k+1) ((tl (fun j=>f j - g j) (k+1)).map (Value.int .i64)):=by simpa [tl] using hown1
   have R2:Below w.heap.size w w1:=(hnx.alloc hz _).drew.grown hgrow (by simp;omega) (fun j hj=>(hown.lt j hj).1);clear hown1 hgrow hown hnx hcell hcell' hat hltg neA neB sw;go_wp2;go_roundw
   case rel=>exact ⟨k+1,by omega,by go_num,R1,R2⟩
   case measure=>simp [intOf];omega
  obtain rfl:k=8:=by omega
  obtain ⟨g',c',hv,hg,hc,R⟩:=lH (uV _ 8) hown;clear hown;have R:=R.congr (DJ (fun j=>f j - g j));rw [hv];go_wp2_with fail;refine (CC.o _ g' c' R).mono ?_;rintro e w5 ⟨g2,c2,rfl,Z,hb⟩;have k5:=aD hnx hb;clear hb hnx R;go_wp2;go_ret;exact ⟨g2,c2,_,rfl,Z,G.o,k5⟩
def qk (A D:Int) (k:Nat):Int:=A / 2 ^ k / D
def rk (A D:Int) (k:Nat):Int:=A / 2 ^ k % D
theorem rW (k:Nat):(0:Int)<2 ^ k:=Int.pow_pos (by decide)
theorem half (A:Int) (k:Nat):A / 2 ^ (k+1)=A / 2 ^ k / 2:=by
 rw [Int.pow_succ,Int.ediv_ediv_of_nonneg (Int.le_of_lt (rW k))]
theorem top {A:Int} (h0:0≤A) (h1:A<340282366920938463463374607431768211456):A / 2 ^ 128=0:=Int.ediv_eq_zero_of_lt h0 h1
theorem NJ {A:Int} (D:Int) (h0:0≤A) (h1:A<340282366920938463463374607431768211456):qk A D 128=0:=by unfold qk;rw [top h0 h1];simp
theorem NG {A:Int} (D:Int) (h0:0≤A) (h1:A<340282366920938463463374607431768211456):rk A D 128=0:=by unfold rk;rw [top h0 h1];simp
theorem Ky (A D:Int):qk A D 0=A / D:=by unfold qk;simp
theorem Kr (A D:Int):rk A D 0=A % D:=by unfold rk;simp
theorem nG {A D:Int} (h0:0≤A) (hD:0<D) (k:Nat):0≤qk A D k∧qk A D k≤A / D:=by
 have h:0≤A / 2 ^ k:=Int.ediv_nonneg h0 (Int.le_of_lt (rW k));refine ⟨Int.ediv_nonneg h (Int.le_of_lt hD),Int.ediv_le_ediv hD (Int.ediv_le_self _ h0)⟩
theorem qG {A D:Int} (hD:0<D) (k:Nat):0≤rk A D k∧rk A D k<D:=⟨Int.emod_nonneg _ (by omega),Int.emod_lt_of_pos _ hD⟩
theorem Fq {A D b:Int} (k:Nat) (hD:0<D) (hb:A / 2 ^ k % 2=b) :
    (2 * rk A D (k+1)+b<D→qk A D k=2 * qk A D (k+1)∧rk A D k=2 * rk A D (k+1)+b) ∧
    (¬ 2 * rk A D (k+1)+b<D→qk A D k=2 * qk A D (k+1)+1∧rk A D k=2 * rk A D (k+1)+b - D):=by
 have r:=qG (A:=A) hD (k+1);have e:A / 2 ^ (k+1)=D * qk A D (k+1)+rk A D (k+1):=(Int.mul_ediv_add_emod _ _).symm;have e2:A / 2 ^ k=2 * (A / 2 ^ (k+1))+b:=by rw [half];omega
 rw [e] at e2;have b0:0≤b∧b≤1:=by omega
 generalize qk A D (k+1)=q at *;generalize rk A D (k+1)=s at *;constructor
 ·intro h;have e3:A / 2 ^ k=(2 * s+b)+2 * q * D:=by rw [e2,Int.mul_comm D q,Int.mul_assoc];omega
  unfold qk rk;rw [e3,Int.add_mul_ediv_right _ _ (by omega),Int.add_mul_emod_self_right,Int.ediv_eq_zero_of_lt (by omega) h,Int.emod_eq_of_lt (by omega) h];omega
 intro h;have e3:A / 2 ^ k=(2 * s+b - D)+(2 * q+1) * D:=by rw [e2,Int.mul_comm D q,Int.add_mul,Int.mul_assoc];omega
 unfold qk rk;rw [e3,Int.add_mul_ediv_right _ _ (by omega),Int.add_mul_emod_self_right,Int.ediv_eq_zero_of_lt (by omega) (by omega),Int.emod_eq_of_lt (by omega) (by omega)];omega
theorem Lu (x:Int) (s:Nat) (hs:s<16):x % 65536 / 2 ^ s % 2=x / 2 ^ s % 2:=by
 have h:s=0∨s=1∨s=2∨s=3∨s=4∨s=5∨s=6∨s=7∨s=8∨s=9∨s=10∨s=11∨s=12∨s=13∨s=14∨s=15:=by omega
 rcases h with rfl | rfl | rfl | rfl | rfl | rfl | rfl | rfl | rfl | rfl | rfl | rfl | rfl | rfl | rfl | rfl <;> simp only [Int.reducePow] <;> omega
theorem OX {f:Nat→Int} {A:Int} (hf:Dg f A) (h0:0≤A) (h1:A<340282366920938463463374607431768211456) (j s:Nat) (hj:j<8) (hs:s<16) :
    f j / 2 ^ s % 2=A / 2 ^ (16 * j+s) % 2:=by
 have e:f j=A / 2 ^ (16 * j) % 65536:=by
  have l:=eight hf.lo;have u:=eight hf.hi;have v:=hf.val;unfold val at v;have h:j=0∨j=1∨j=2∨j=3∨j=4∨j=5∨j=6∨j=7:=by omega
  rcases h with rfl | rfl | rfl | rfl | rfl | rfl | rfl | rfl <;> simp only [Nat.reduceMul,Int.reducePow] <;> omega
 rw [e,Lu _ _ hs,Int.pow_add,Int.ediv_ediv_of_nonneg (Int.le_of_lt (rW _))]
end dec
end Go.Proofs.YtbpijgddfaefkaaGreatDoor
