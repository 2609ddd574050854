/-
  exact.Divide and the contracts of packages exact and decimal (taken over from stages 1 and 2); decimal.Parse for every string and decimal.Format for every int (taken over from stage 2); Values as plain data: Check, Format, Parse and the order, and how they belong together; What the listed variables hold, as the walks use it; strconv.Atoi and Itoa.
-/
import Derived.Deep.CutBlock
import Derived.Deep.DeepCutAuto
import Derived.Deep.LoopGhost
import Derived.Shelf.Small.Bits
import Derived.Shelf.Strconv.Itoa0
import Derived.Lib.SmallJoins
import Derived.Lib.QuietBelow
import Derived.WalkSmall
import Derived.Lib.LaidTab
import Derived.WalkMore
import Derived.Lib.ItoaMem
import Derived.BigCall
import Derived.BigGuard
import Derived.Laws.Concat
import Derived.Lib.AtoiAllCases
import Derived.Lib.Strings
import Derived.Lib.Bytealg
import Derived.Lib.Small
import Derived.Test.YtbpijgddfaefkaaGreatDoorK01
import Derived.Test.YtbpijgddfaefkaaGreatDoorShV
set_option maxRecDepth 100000
set_option maxHeartbeats 16000000
namespace Go.Proofs.YtbpijgddfaefkaaGreatDoor
namespace dec
open Go.RowKit Go.Shelf
theorem Tryz.LD:Go.Proofs.Lays.n134 Tryz.prog ⟨fun | 134=>157 | 129=>134 | n=>n,fun | 53=>112 | 3=>3 | 4=>4 | 46=>133 | 5=>5 | 9=>9 | n=>n,fun | n=>n⟩:={
 mixed:=by kernel_rfl
 f129:=Tryz.func134.trans (congrArg some (by kernel_rfl))
 f134:=Tryz.func157.trans (congrArg some (by kernel_rfl))
 t3:=Tryz.underlying3
 a3:=Tryz.isAgg3
 z3:=Tryz.sizeOf3
 v3:=Tryz.zeroValue3
 t4:=Tryz.underlying4
 a4:=Tryz.isAgg4
 z4:=Tryz.sizeOf4
 v4:=Tryz.zeroValue4
 t5:=Tryz.underlying5
 a5:=Tryz.isAgg5
 z5:=Tryz.sizeOf5
 v5:=Tryz.zeroValue5
 t9:=Tryz.underlying9
 a9:=Tryz.isAgg9
 z9:=Tryz.sizeOf9
 v9:=Tryz.zeroValue9
 t46:=Tryz.underlying133
 a46:=Tryz.isAgg133
 z46:=Tryz.sizeOf133
 v46:=Tryz.zeroValue133
 t53:=Tryz.underlying112
 a53:=Tryz.isAgg112
 z53:=Tryz.sizeOf112
 v53:=Tryz.zeroValue112 }
theorem Ie (x s:Int) (w:World) (h0:0≤x) (h1:x≤18446744073709551615) (hs:64 - (Lib.bitLen x.toNat:Int)=s) :
    Calls Tryz.prog 157 #[.int .u64 x] w fun e w' => e=.returned (.int .i64 s)∧w=w':=by
 refine (Any.bits_LeadingZeros64 Tryz.LD x w h0 h1).mono ?_;rintro e w' ⟨rfl,rfl⟩;rw [hs];exact ⟨rfl,rfl⟩
theorem Dk (hi lo y s Y u l y1 y0 v1 v0:Int) (w:World) (h1:1≤hi) (h2:hi<y) (h3:y≤18446744073709551615) (_h4:0≤lo) (_h5:lo≤18446744073709551615)
    (hs:Hid (64 - (Lib.bitLen y.toNat:Int)=s)) (s1:0≤s) (s2:s≤63)
    (wY:IntKind.u64.wrap (y * 2 ^ s.toNat)=Y) (wu:bits BinOp.or IntKind.u64 (IntKind.u64.wrap (hi * 2 ^ s.toNat)) (lo / 2 ^ (64 - s).toNat)=u) (wl:IntKind.u64.wrap (lo * 2 ^ s.toNat)=l)
    (wy1:Y / 4294967296=y1) (wy0:bits .and .u64 Y 4294967295=y0) (wv1:l / 4294967296=v1) (wv0:bits .and .u64 l 4294967295=v0)
    (Y1:Y≤18446744073709551615) (u0:0≤u) (u1:u≤18446744073709551615) (_l0:0≤l) (_l1:l≤18446744073709551615)
    (ya:2147483648≤y1) (yb:y1≤4294967295) (yc:0≤y0) (yd:y0≤4294967295) (va:0≤v1) (vb:v1≤4294967295) (vc:0≤v0) (vd:v0≤4294967295)
    (K1:Kn Y y1 y0 u v1) (K2:Kn Y y1 y0 (rst u v1 Y) v0) :
    Calls Tryz.prog 106 #[.int .u64 hi,.int .u64 lo,.int .u64 y] w fun e w' => e=.returned (.tuple #[.int .u64 (dig u v1 Y * 4294967296+dig (rst u v1 Y) v0 Y),.int .u64 (rst (rst u v1 Y) v0 Y / 2 ^ s.toNat)])∧w=w':=by
 have a1:=K1.start;obtain ⟨a2,a3⟩:=a1;have a4:0≤u / y1:=by have:=K1.nonneg;omega
 have a5:u / y1 * y1≤u:=Int.ediv_mul_le _ (by omega);have a6:0≤u / y1 * y1:=Int.mul_nonneg a4 (by omega);have a7:u - u / y1 * y1<y1:=by have:=Int.emod_lt_of_pos u (show 0<y1 from by omega);rw [Int.emod_def,Int.mul_comm y1] at this;exact this
 have H2:=Hy a2;clear a2
 go_enter Tryz.func106,Tryz.ntmps106
 go_upto_block 0 with (go_at_call 157;refine (Ie y s _ (by omega) h3 hs.o).mono ?_;rintro e w' ⟨rfl,rfl⟩)
 go_cut [15] (fun q wx=>q=.int .u64 (dig u v1 Y)∧wx=w)
 case first =>
  go_wp2_with fail
  go_loop [15,16] (fun q r => ∃ a b:Int,q=.int .u64 a∧r=.int .u64 b∧0≤a∧0≤b∧b≤4294967295∧Jt y1 u (dig u v1 Y) a b) (fun q _=>(intOf q).toNat)
  case atStart=>exact ⟨_,_,rfl,rfl,a4,by omega,by omega,H2.o,a3,by omega⟩
  case round =>
   obtain ⟨a,b,rfl,rfl,a0,b0,b1,g1,g2,g3⟩:=hrel;have T:=Hy (K1.test g3);have d0:=K1.nonneg;have d1:=K1.lt;have G3:=Hy (step_eq g3);have U:Hid (4294967296≤b+y1→a≤4294967297→a - 1≤dig u v1 Y):=fun h h' => K1.o (step_eq g3) (by omega) h;clear g3;by_cases c1:4294967296≤a
   ·by_cases c3:4294967296≤b+y1
    ·go_wp2
     go_meet
     have e:a - 1=dig u v1 Y:=by have:=U.o c3 g2;omega
     exact ⟨by rw [← e],rfl⟩
    go_wp2;exact ⟨⟨a - 1,b+y1,rfl,rfl,by omega,by omega,by omega,by omega,by omega,G3.o⟩,by simp [intOf];omega⟩
   have m0:0≤a * y0:=Int.mul_nonneg a0 yc;have m1:a * y0≤18446744073709551615:=by have:=Int.mul_le_mul (show a≤4294967295 from by omega) yd yc (by omega);omega
   by_cases c2:4294967296 * b+v1<a * y0
   ·have f:dig u v1 Y<a:=by have:=T.o;omega
    by_cases c3:4294967296≤b+y1
    ·go_wp2
     go_meet
     have e:a - 1=dig u v1 Y:=by have:=U.o c3 g2;omega
     exact ⟨by rw [← e],rfl⟩
    go_wp2;exact ⟨⟨a - 1,b+y1,rfl,rfl,by omega,by omega,by omega,by omega,by omega,G3.o⟩,by simp [intOf];omega⟩
   have f:a=dig u v1 Y:=by have:=T.o;omega
   have F:=Hy f;clear f;go_wp2
   go_meet
   exact ⟨by rw [← F.o],rfl⟩
 case rest =>
  obtain ⟨rfl,rfl⟩:=hcut;clear a3 a4 a5 a6 a7 H2;obtain ⟨r0,r1⟩:=K1.rest
  change 0≤rst u v1 Y at r0
  change rst u v1 Y<Y at r1
  have E:=wK r0 (by omega);have d0:=K1.nonneg;have d1:=K1.lt;have a1:=K2.start;obtain ⟨a2,a3⟩:=a1;obtain ⟨z0,z1⟩:=K2.rest
  change 0≤rst (rst u v1 Y) v0 Y at z0
  change rst (rst u v1 Y) v0 Y<Y at z1
  have E':=wK z0 (by omega);have e0:=K2.nonneg;have e1:=K2.lt;generalize hu':rst u v1 Y=u' at *;have HU:=Hy hu';clear hu';have a4:0≤u' / y1:=by omega
  have a5:u' / y1 * y1≤u':=Int.ediv_mul_le _ (by omega);have a6:0≤u' / y1 * y1:=Int.mul_nonneg a4 (by omega);have a7:u' - u' / y1 * y1<y1:=by have:=Int.emod_lt_of_pos u' (show 0<y1 from by omega);rw [Int.emod_def,Int.mul_comm y1] at this;exact this
  have H2:=Hy a2;clear a2
  go_upto_block 2 with fail
  go_cut [18] (fun q wx=>q=.int .u64 (dig u' v0 Y)∧wx=wc)
  case first =>
   go_wp2_with fail
   go_loop [18,16] (fun q r => ∃ a b:Int,q=.int .u64 a∧r=.int .u64 b∧0≤a∧0≤b∧b≤4294967295∧Jt y1 u' (dig u' v0 Y) a b) (fun q _=>(intOf q).toNat)
   case atStart=>exact ⟨_,_,rfl,rfl,a4,by omega,by omega,H2.o,a3,by omega⟩
   case round =>
    obtain ⟨a,b,rfl,rfl,a0,b0,b1,g1,g2,g3⟩:=hrel;have T:=Hy (K2.test g3);have d0:=K2.nonneg;have d1:=K2.lt;have G3:=Hy (step_eq g3);have U:Hid (4294967296≤b+y1→a≤4294967297→a - 1≤dig u' v0 Y):=fun h h' => K2.o (step_eq g3) (by omega) h;clear g3;by_cases c1:4294967296≤a
    ·by_cases c3:4294967296≤b+y1
     ·go_wp2
      go_meet
      have e:a - 1=dig u' v0 Y:=by have:=U.o c3 g2;omega
      exact ⟨by rw [← e],rfl⟩
     go_wp2;exact ⟨⟨a - 1,b+y1,rfl,rfl,by omega,by omega,by omega,by omega,by omega,G3.o⟩,by simp [intOf];omega⟩
    have m0:0≤a * y0:=Int.mul_nonneg a0 yc;have m1:a * y0≤18446744073709551615:=by have:=Int.mul_le_mul (show a≤4294967295 from by omega) yd yc (by omega);omega
    by_cases c2:4294967296 * b+v0<a * y0
    ·have f:dig u' v0 Y<a:=by have:=T.o;omega
     by_cases c3:4294967296≤b+y1
     ·go_wp2
      go_meet
      have e:a - 1=dig u' v0 Y:=by have:=U.o c3 g2;omega
      exact ⟨by rw [← e],rfl⟩
     go_wp2;exact ⟨⟨a - 1,b+y1,rfl,rfl,by omega,by omega,by omega,by omega,by omega,G3.o⟩,by simp [intOf];omega⟩
    have f:a=dig u' v0 Y:=by have:=T.o;omega
    have F:=Hy f;clear f;go_wp2
    go_meet
    exact ⟨by rw [← F.o],rfl⟩
  case rest =>
   obtain ⟨rfl,rfl⟩:=hcut;clear a3 a4 a5 a6 a7 H2;go_wp2
   go_ret2
   exact ⟨by rw [HU.o];rfl,rfl⟩
theorem FU (hi lo y:Int) (w:World) (h1:0≤hi) (h2:hi<y) (h3:y≤18446744073709551615) (h4:0≤lo) (h5:lo≤18446744073709551615) :
    Calls Tryz.prog 106 #[.int .u64 hi,.int .u64 lo,.int .u64 y] w fun e w' => e=.returned (.tuple #[.int .u64 ((hi * 18446744073709551616+lo) / y),.int .u64 ((hi * 18446744073709551616+lo) % y)])∧∃ n,w'=w.drewN n:=by
 by_cases h0:hi=0
 ·subst h0;have e1:(0:Int) * 18446744073709551616+lo=lo:=by omega
  rw [e1];clear e1
  go_enter Tryz.func106,Tryz.ntmps106
  go_wp2;go_quiet (fail);go_wp2
  go_ret2
  exact ⟨rfl,_,rfl⟩
 obtain ⟨s,Y,u,l,N⟩:=Hz hi lo y h1 h2 h3 h4 h5;have Y0:=N.Y0;have Y1:=N.Y1;have u0:=N.u0;have u1:=N.u1;have l0:=N.l0;have l1:=N.l1;have ay:=BF Y (by omega) Y1;have al:=BF l l0 l1;have K1:Kn Y (Y / 4294967296) (Y % 4294967296) u (l / 4294967296):=⟨by omega,by omega,by omega,by omega,by omega,u0,u1,by omega,by omega⟩;have R:=K1.rest;have K2:Kn Y (Y / 4294967296) (Y % 4294967296) (rst u (l / 4294967296) Y) (l % 4294967296):=⟨by omega,by omega,by omega,by omega,by omega,R.1,R.2,by omega,by omega⟩;have D:=Cc (N:=hi * 18446744073709551616+lo) (v1:=l / 4294967296) (v0:=l % 4294967296) N.pos N.eN N.eY (by omega) (by omega) K2.rest.1 K2.rest.2;refine (Dk hi lo y s Y u l _ _ _ _ w (by omega) h2 h3 h4 h5 N.len N.s0 N.s1 N.wY N.wu N.wl rfl ay rfl al Y1 u0 (by omega) l0 l1 (by omega) (by omega) (by omega) (by omega) (by omega) (by omega) (by omega) (by omega) K1 K2).mono ?_;rintro e w' ⟨rfl,rfl⟩;rw [D.1,D.2];exact ⟨rfl,0,rfl⟩
theorem dL {w:World} {p:Addr} {v:Value} (o:Obj) (h:w.cell? p=some v):(w.alloc o).cell? p=some v:=by
 rw [World.cell?_alloc_lt _ _ _ (block_lt_of_cell h)];exact h
theorem below_drewN' {B:Nat} {a w:World} (h:Below B a w) (n:Nat):Below B a (w.drewN n):=⟨h.os,h.tape,h.output,h.size,h.block⟩
theorem fq {w w1 w2:World} {o1 o2:Obj} (o3:Obj) (hb1:Below (w.alloc o1).heap.size (w.alloc o1) w1) (hb2:Below (w1.alloc o2).heap.size (w1.alloc o2) w2):Below w.heap.size w (w2.alloc o3):=by
 have s1:=hb1.size;have s2:=hb2.size;simp only [World.size_alloc] at s1 s2;have b1:Below w.heap.size w w1:=((Below.refl _ _).alloc lr _).trans (hb1.mono (by simp));have b2:Below w.heap.size w w2:=(b1.alloc (by omega) _).trans (hb2.mono (by simp;omega));exact b2.alloc (by omega) _
theorem sW {y:Value} {a:Int} (d:Int) (hx:y=W a) (ia:In a) (w:World) (d1 : -9223372036854775808≤d) (d2:d≤9223372036854775807) :
    Calls Tryz.prog 61 #[y,.int .i64 d] w fun e w' => e=.returned (.tuple #[.int .i64 (dv a d),.bool (eZ a d)])∧Below w.heap.size w w':=by
 subst hx;obtain ⟨A,D,ah,al,q,r,x,h⟩:∃ A D ah al q r x,Dv a d A D ah al q r x:=⟨_,_,_,_,_,_,_,rfl,rfl,rfl,rfl,rfl,rfl,rfl⟩;have id:In d:=by unfold In;omega
 have sa:=mM ia;have rA:=iB a;have rD:=iB d;have rD':ab d≤9223372036854775808:=by unfold ab;split <;> omega
 have rA':ab a≤170141183460469231731687303715884105728:=by unfold In at ia;unfold ab;split <;> omega
 have cA:=xE (a:=a) rfl ia;have cD:=xE (a:=d) rfl id;rw [h.A0,h.eah,h.eal] at cA;rw [h.D0] at cD rD rD';rw [h.A0] at rA rA';have eD:D % 18446744073709551616=D:=by omega
 rw [eD] at cD;have bh1:0≤ah:=by have:=h.eah;omega
 have bl1:0≤al:=by have:=h.eal;omega
 have bl2:al≤18446744073709551615:=by have:=h.eal;omega
 have CA:=Hy cA;have CD:=Hy cD;clear cA cD eD;have i0:∀ w,(Instr.index 160 (.agg #[.int .u64 D,.int .u64 (D / 18446744073709551616)]) (.int .i64 0)).run Tryz.prog w=.ok (.int .u64 D) w:=fun _=>by kernel_rfl
 unfold W;by_cases c1:D≤ah
 ·have R1:=Hy (h.Qd c1);have R2:=Hy (wG R1.o);clear h
  go_enter Tryz.func61,Tryz.ntmps61
  go_wp2_with fail;refine (CA.o _).mono ?_;rintro e w1 ⟨rfl,hb1⟩;obtain ⟨hc1,hf1,hs1⟩:=lq hb1;go_wp2_with fail;refine (jm _ _ d1 d2).mono ?_;rintro e w' ⟨rfl,k1,rfl⟩;go_wp2_with fail;refine (CD.o _).mono ?_;rintro e w2 ⟨rfl,hb2⟩;obtain ⟨hc2,hf2,hs2⟩:=lq hb2;go_wp2_with fail
  go_ret2
  exact ⟨by rw [R1.o,R2.o];rfl,fq _ hb1 hb2⟩
 have q0:0≤q:=by rw [h.eq];exact Int.ediv_nonneg rA rD
 have q1:q≤18446744073709551615:=by
  have:q<18446744073709551616:=by rw [h.eq,Int.ediv_lt_iff_lt_mul (by omega)];have:=h.eah;omega
  omega
 have r0:0≤r:=by rw [h.er];exact Int.emod_nonneg _ (by omega)
 have r1:r<D:=by rw [h.er];exact Int.emod_lt_of_pos _ (by omega)
 obtain ⟨x0,x1⟩:=qF q r D;rw [← h.ex] at x0 x1;have eA:ah * 18446744073709551616+al=A:=by have:=h.eah;have:=h.eal;omega
 have CV:Hid (∀ w,Calls Tryz.prog 106 #[.int .u64 ah,.int .u64 al,.int .u64 D] w fun e w' => e=.returned (.tuple #[.int .u64 q,.int .u64 r])∧∃ n,w'=w.drewN n):=by
  intro w;have:=FU ah al D w bh1 (by omega) (by omega) bl1 bl2;rw [eA,← h.eq,← h.er] at this;exact this
 have CR:Hid (∀ w,Calls Tryz.prog 107 #[.int .u64 q,.int .u64 r,.int .u64 D] w fun e w' => e=.returned (.int .u64 x)∧w=w'):=by
  intro w;have:=zi q r D w q0 r0 r1 (by omega);rw [← h.ex] at this;exact this
 clear eA;have R3:=Hy (fun g=>h.CS g);have R2:=Hy (fun g=>h.CU g);have R4:=Hy (fun g=>h.some (by omega) g);have R5:=Hy h.sq;clear h;by_cases c2:1152921504606846976<q
 ·have R1:=Hy (R3.o c2);have R2:=Hy (wG R1.o)
  go_enter Tryz.func61,Tryz.ntmps61
  go_wp2_with fail;refine (CA.o _).mono ?_;rintro e w1 ⟨rfl,hb1⟩;obtain ⟨hc1,hf1,hs1⟩:=lq hb1;go_wp2_with fail;refine (jm _ _ d1 d2).mono ?_;rintro e w' ⟨rfl,k1,rfl⟩;go_wp2_with fail;refine (CD.o _).mono ?_;rintro e w2 ⟨rfl,hb2⟩;obtain ⟨hc2,hf2,hs2⟩:=lq hb2;go_wp2_with fail;refine (CV.o _).mono ?_;rintro e w' ⟨rfl,n,rfl⟩;go_wp2_with fail
  go_ret2
  exact ⟨by rw [R1.o,R2.o];rfl,below_drewN' (fq _ hb1 hb2) _⟩
 by_cases c3:1152921504606846976<q+x
 ·have R1:=Hy (R2.o c3);have R2:=Hy (wG R1.o)
  go_enter Tryz.func61,Tryz.ntmps61
  go_wp2_with fail;refine (CA.o _).mono ?_;rintro e w1 ⟨rfl,hb1⟩;obtain ⟨hc1,hf1,hs1⟩:=lq hb1;go_wp2_with fail;refine (jm _ _ d1 d2).mono ?_;rintro e w' ⟨rfl,k1,rfl⟩;go_wp2_with fail;refine (CD.o _).mono ?_;rintro e w2 ⟨rfl,hb2⟩;obtain ⟨hc2,hf2,hs2⟩:=lq hb2;go_wp2_with fail;refine (CV.o _).mono ?_;rintro e w' ⟨rfl,n,rfl⟩;go_wp2_with fail;refine (CR.o _).mono ?_;rintro e w' ⟨rfl,rfl⟩;go_wp2_with fail
  go_ret2
  exact ⟨by rw [R1.o,R2.o];rfl,below_drewN' (fq _ hb1 hb2) _⟩
 have R1:=Hy (R4.o (by omega));have R6:=Hy (sV R1.o);by_cases s1:a<0
 ·have s1':hi a<0:=sa.2 s1;have s1'':decide (hi a<0)=true:=by simp;omega
  clear sa;by_cases s2:d<0
  ·have s2':decide (d<0)=true:=by simp;omega
   have R7:Hid (sq a d=q+x):=by unfold Hid;rw [R5.o,if_neg (by omega)]
   go_enter Tryz.func61,Tryz.ntmps61
   go_wp2_with fail;refine (CA.o _).mono ?_;rintro e w1 ⟨rfl,hb1⟩;have f1:=keeps hb1 (k:=w.heap.size) (o:=0) (v:=.int .i64 (hi a)) (by simp [go_sem]);go_wp2_with fail;refine (jm _ _ d1 d2).mono ?_;rintro e w' ⟨rfl,k1,rfl⟩;go_wp2_with fail;refine (CD.o _).mono ?_;rintro e w2 ⟨rfl,hb2⟩;have f2:=keeps hb2 (dL _ f1);have z2:w.heap.size<w2.heap.size:=block_lt_of_cell f2;go_wp2_with fail;refine (CV.o _).mono ?_;rintro e w' ⟨rfl,n,rfl⟩;go_wp2_with fail;refine (CR.o _).mono ?_;rintro e w' ⟨rfl,rfl⟩;go_wp2_with fail
   go_ret2
   exact ⟨by rw [R1.o,R6.o,R7.o];rfl,below_drewN' (fq _ hb1 hb2) _⟩
  have s2':decide (d<0)=false:=by simp;omega
  have R7:Hid (sq a d = -(q+x)):=by unfold Hid;rw [R5.o,if_pos (by omega)]
  go_enter Tryz.func61,Tryz.ntmps61
  go_wp2_with fail;refine (CA.o _).mono ?_;rintro e w1 ⟨rfl,hb1⟩;have f1:=keeps hb1 (k:=w.heap.size) (o:=0) (v:=.int .i64 (hi a)) (by simp [go_sem]);go_wp2_with fail;refine (jm _ _ d1 d2).mono ?_;rintro e w' ⟨rfl,k1,rfl⟩;go_wp2_with fail;refine (CD.o _).mono ?_;rintro e w2 ⟨rfl,hb2⟩;have f2:=keeps hb2 (dL _ f1);have z2:w.heap.size<w2.heap.size:=block_lt_of_cell f2;go_wp2_with fail;refine (CV.o _).mono ?_;rintro e w' ⟨rfl,n,rfl⟩;go_wp2_with fail;refine (CR.o _).mono ?_;rintro e w' ⟨rfl,rfl⟩;go_wp2_with fail
  go_ret2
  exact ⟨by rw [R1.o,R6.o,R7.o];rfl,below_drewN' (fq _ hb1 hb2) _⟩
 have s1':¬ hi a<0:=by omega
 have s1'':decide (hi a<0)=false:=by simp;omega
 clear sa;by_cases s2:d<0
 ·have s2':decide (d<0)=true:=by simp;omega
  have R7:Hid (sq a d = -(q+x)):=by unfold Hid;rw [R5.o,if_pos (by omega)]
  go_enter Tryz.func61,Tryz.ntmps61
  go_wp2_with fail;refine (CA.o _).mono ?_;rintro e w1 ⟨rfl,hb1⟩;have f1:=keeps hb1 (k:=w.heap.size) (o:=0) (v:=.int .i64 (hi a)) (by simp [go_sem]);go_wp2_with fail;refine (jm _ _ d1 d2).mono ?_;rintro e w' ⟨rfl,k1,rfl⟩;go_wp2_with fail;refine (CD.o _).mono ?_;rintro e w2 ⟨rfl,hb2⟩;have f2:=keeps hb2 (dL _ f1);have z2:w.heap.size<w2.heap.size:=block_lt_of_cell f2;go_wp2_with fail;refine (CV.o _).mono ?_;rintro e w' ⟨rfl,n,rfl⟩;go_wp2_with fail;refine (CR.o _).mono ?_;rintro e w' ⟨rfl,rfl⟩;go_wp2_with fail
  go_ret2
  exact ⟨by rw [R1.o,R6.o,R7.o];rfl,below_drewN' (fq _ hb1 hb2) _⟩
 have s2':decide (d<0)=false:=by simp;omega
 have R7:Hid (sq a d=q+x):=by unfold Hid;rw [R5.o,if_neg (by omega)]
 go_enter Tryz.func61,Tryz.ntmps61
 go_wp2_with fail;refine (CA.o _).mono ?_;rintro e w1 ⟨rfl,hb1⟩;have f1:=keeps hb1 (k:=w.heap.size) (o:=0) (v:=.int .i64 (hi a)) (by simp [go_sem]);go_wp2_with fail;refine (jm _ _ d1 d2).mono ?_;rintro e w' ⟨rfl,k1,rfl⟩;go_wp2_with fail;refine (CD.o _).mono ?_;rintro e w2 ⟨rfl,hb2⟩;have f2:=keeps hb2 (dL _ f1);have z2:w.heap.size<w2.heap.size:=block_lt_of_cell f2;go_wp2_with fail;refine (CV.o _).mono ?_;rintro e w' ⟨rfl,n,rfl⟩;go_wp2_with fail;refine (CR.o _).mono ?_;rintro e w' ⟨rfl,rfl⟩;go_wp2_with fail
 go_ret2
 exact ⟨by rw [R1.o,R6.o,R7.o];rfl,below_drewN' (fq _ hb1 hb2) _⟩
theorem aD {w a b:World} (h:Below w.heap.size w a) (k:Below a.heap.size a b):Below w.heap.size w b:=h.trans (k.mono h.size)
theorem aj {w a:World} (h:Below w.heap.size w a) (o:Obj):Below w.heap.size w (a.alloc o):=h.alloc h.size o
theorem b0 (w:World):Below w.heap.size w w:=Below.refl _ _
theorem QN (n:Int) (w:World) (h1 : -9223372036854775808≤n) (h2:n≤9223372036854775807) :
  Calls Tryz.prog 60 #[.int .i64 n] w fun e w' => e=.returned (W n)∧Below w.heap.size w w' :=
 (jm n w h1 h2).mono fun _ _ ⟨he,_,hw⟩=>⟨he,hw ▸ aj (b0 w) _⟩
theorem wD (a b:Int) (w:World) (h1 : -9223372036854775808≤a) (h2:a≤9223372036854775807) (h3 : -9223372036854775808≤b) (h4:b≤9223372036854775807) :
  Calls Tryz.prog 169 #[.int .i64 a,.int .i64 b] w fun e w' => e=.returned (.agg #[.int .i64 (hi (a * b)),.int .u64 (lo (a * b))])∧Go.RowKit.Below w.heap.size w w':=Li a b w h1 h2 h3 h4
theorem FT {a d r:Int} {b:Bool} (ia:In a) (d1 : -9223372036854775808≤d) (d2:d≤9223372036854775807) (hr:dv a d=r) (hb:eZ a d=b) (w:World) :
    Calls Tryz.prog 61 #[.agg #[.int .i64 (hi a),.int .u64 (lo a)],.int .i64 d] w fun e w' => e=.returned (.tuple #[.int .i64 r,.bool b])∧Go.RowKit.Below w.heap.size w w':=by
 have:=sW (a:=a) d rfl ia w d1 d2;rw [hr,hb] at this;exact this
def Box (w:World) (k:Nat) (a:Int):Prop:=w.cell? ⟨k,0,none⟩=some (.int .i64 (hi a))∧w.cell? ⟨k,1,none⟩=some (.int .u64 (lo a))
theorem Box.new (w:World) (a:Int):Box (w.alloc (.cells #[.int .i64 (hi a),.int .u64 (lo a)] 114)) w.heap.size a:=⟨by simp [go_sem],by simp [go_sem]⟩
theorem Box.keeps {w w1:World} {k:Nat} {a:Int} (h:Box w k a) (hb:Go.RowKit.Below w.heap.size w w1):Box w1 k a:=⟨Go.Proofs.YtbpijgddfaefkaaGreatDoor.dec.keeps hb h.1,Go.Proofs.YtbpijgddfaefkaaGreatDoor.dec.keeps hb h.2⟩
theorem Box.past {w:World} {k:Nat} {a:Int} (h:Box w k a) (o:Obj):Box (w.alloc o) k a:=⟨dL o h.1,dL o h.2⟩
theorem Box.put {w:World} {k:Nat} {a:Int} (h:Box w k a) (b:Int):Box ((w.setCell ⟨k,0,none⟩ (.int .i64 (hi b))).setCell ⟨k,1,none⟩ (.int .u64 (lo b))) k b:=Cw h.1 h.2 _ _
theorem Box.off {w:World} {k k':Nat} {a:Int} (h:Box w k a) (hk:k'≠k) (u v:Value):Box ((w.setCell ⟨k',0,none⟩ u).setCell ⟨k',1,none⟩ v) k a:=by
 have e:∀ o o',(⟨k',o,none⟩:Addr)≠⟨k,o',none⟩:=fun _ _ h=>hk (congrArg Addr.block h);unfold Box;rw [World.cell?_setCell_other _ _ _ _ (e 1 0),World.cell?_setCell_other _ _ _ _ (e 0 0),World.cell?_setCell_other _ _ _ _ (e 1 1),World.cell?_setCell_other _ _ _ _ (e 0 1)];exact h
def Free (w:World) (k:Nat):Prop:=w.frozen? ⟨k,0,none⟩=false∧w.frozen? ⟨k,1,none⟩=false∧k<w.heap.size
theorem Free.new (w:World) (c:Array Value):Free (w.alloc (.cells c 114)) w.heap.size:=⟨by simp [go_sem],by simp [go_sem],by simp⟩
theorem Free.keeps {w w1:World} {k:Nat} (h:Free w k) (hb:Go.RowKit.Below w.heap.size w w1):Free w1 k :=
 ⟨by rw [hb.frozen (p:=⟨k,0,none⟩) h.2.2];exact h.1,by rw [hb.frozen (p:=⟨k,1,none⟩) h.2.2];exact h.2.1,Nat.lt_of_lt_of_le h.2.2 hb.size⟩
def Fresh (w:World) (k:Nat):Prop:=w.cell? ⟨k,0,none⟩=some (.int .i64 0)∧w.cell? ⟨k,1,none⟩=some (.int .u64 0)∧Free w k
theorem Fresh.new (w:World):Fresh (w.alloc (.cells #[.int .i64 0,.int .u64 0] 114)) w.heap.size:=⟨by simp [go_sem],by simp [go_sem],Free.new w _⟩
theorem Fresh.keeps {w w1:World} {k:Nat} (h:Fresh w k) (hb:Go.RowKit.Below w.heap.size w w1):Fresh w1 k:=⟨Go.Proofs.YtbpijgddfaefkaaGreatDoor.dec.keeps hb h.1,Go.Proofs.YtbpijgddfaefkaaGreatDoor.dec.keeps hb h.2.1,h.2.2.keeps hb⟩
theorem Fresh.put {w:World} {k:Nat} (h:Fresh w k) (b:Int):Box ((w.setCell ⟨k,0,none⟩ (.int .i64 (hi b))).setCell ⟨k,1,none⟩ (.int .u64 (lo b))) k b:=Cw h.1 h.2.1 _ _
def StA (w w':World) (k:Nat) (a:Int):Prop:=Box w' k a∧Go.RowKit.Below w.heap.size w w'
theorem StA.o {w w':World} {k:Nat} {a:Int} (h:StA w w' k a):w'.cell? ⟨k,0,none⟩=some (.int .i64 (hi a))∧w'.cell? ⟨k,1,none⟩=some (.int .u64 (lo a))∧Go.RowKit.Below w.heap.size w w':=⟨h.1.1,h.1.2,h.2⟩
theorem StA.next {w w1 w2:World} {k:Nat} {a:Int} (h:StA w w1 k a) (hb:Go.RowKit.Below w1.heap.size w1 w2):StA w w2 k a:=⟨h.1.keeps hb,aD h.2 hb⟩
theorem jL {a:Int} (ia:In a) (w:World) :
    Calls Tryz.prog 168 #[.agg #[.int .i64 (hi a),.int .u64 (lo a)]] w fun e w' => e=.returned (.tuple #[.int .i64 (kx a),.bool (rg a)])∧Below w.heap.size w w':=by
 have CD:=Hy (FT (a:=a) (d:=1) ia (by decide) (by decide) (yS a) (nQ a))
 go_enter Tryz.func168,Tryz.ntmps168
 go_wp2_with (go_at_call 61;refine (CD.o _).mono ?_;rintro e w1 ⟨rfl,hb⟩)
 go_ret2
 exact ⟨rfl,aD (aj (b0 w) _) hb⟩
def wd (n d:Int):Int:=if 115292150460684697<n then 1152921504606846977 else 10 * n+d
theorem wR {n d:Int} (n0:0≤n) (d0:0≤d) (d9:d≤9):0≤wd n d∧wd n d≤1152921504606846979:=by unfold wd;split <;> omega
theorem vS (n d:Int) (w:World) (n0:0≤n) (d0:0≤d) (d9:d≤9) :
    Calls Tryz.prog 211 #[.int .i64 n,.int .i64 d] w fun e w' => e=.returned (.int .i64 (wd n d))∧w=w':=by
 by_cases h:115292150460684697<n
 ·have e:Hid (wd n d=1152921504606846977):=if_pos h
  go_enter Tryz.func211,Tryz.ntmps211
  go_wp2;go_ret;exact ⟨by rw [e.o];rfl,rfl⟩
 have e:Hid (wd n d=10 * n+d):=if_neg h
 go_enter Tryz.func211,Tryz.ntmps211
 go_wp2;go_ret;exact ⟨by rw [e.o];rfl,rfl⟩
def dh (l:List UInt8) (i:Nat):Int:=((l.getD i 0).toNat:Int)
def rd (l:List UInt8):Nat→Nat→Int→Nat→Nat × Int × Nat
 | 0,i,n,p=>(i,n,p)
 | k+1,i,n,p =>
  if i<l.length then
   if 48≤dh l i∧dh l i≤57 then rd l k (i+1) (wd n (dh l i - 48)) p
   else if dh l i=46∧p=l.length then rd l k (i+1) n i
   else (i,n,p)
  else (i,n,p)
def iQ (len:Nat) (r:Nat × Int × Nat):Int × Int × Bool :=
 if r.1<len∨r.2.2=0 then (0,0,false)
 else if r.2.2=len then (r.2.1,0,true)
 else if (len:Int) - r.2.2 - 1<1∨6<(len:Int) - r.2.2 - 1 then (0,0,false)
 else (r.2.1,(len:Int) - r.2.2 - 1,true)
def dw (l:List UInt8):Int × Int × Bool:=iQ l.length (rd l l.length 0 0 l.length)
theorem Gc (s:ByteArray) (i:Nat) (hi:i<s.size):((s[i]'hi).toNat:Int)=dh s.data.toList i:=by
 unfold dh;rw [← Lib.getD_at s i hi]
theorem yZ (l:List UInt8) (i:Nat):0≤dh l i∧dh l i≤255:=by
 unfold dh;have:=UInt8.toNat_lt (l.getD i 0);omega
theorem G9 {l:List UInt8} {N i p:Nat} {n:Int} (hN:l.length=N) (h:i<N) (h1:48≤dh l i) (h2:dh l i≤57) :
    rd l (N - i) i n p=rd l (N - (i+1)) (i+1) (wd n (dh l i - 48)) p:=by
 obtain ⟨k,hk⟩:∃ k,N - i=k+1:=⟨N - i - 1,by omega⟩;have hk':N - (i+1)=k:=by omega
 rw [hk,hk',rd,if_pos (by omega),if_pos ⟨h1,h2⟩]
theorem GZ {l:List UInt8} {N i p:Nat} {n:Int} (hN:l.length=N) (h:i<N) (h1:dh l i=46) (h2:p=N) :
    rd l (N - i) i n p=rd l (N - (i+1)) (i+1) n i:=by
 obtain ⟨k,hk⟩:∃ k,N - i=k+1:=⟨N - i - 1,by omega⟩;have hk':N - (i+1)=k:=by omega
 rw [hk,hk',rd,if_pos (by omega),if_neg (by omega),if_pos ⟨h1,by omega⟩]
theorem ug {l:List UInt8} {N i p:Nat} {n:Int} (hN:l.length=N) (h:i<N) (h1:¬ (48≤dh l i∧dh l i≤57)) (h2:¬ (dh l i=46∧p=N)) :
    rd l (N - i) i n p=(i,n,p):=by
 obtain ⟨k,hk⟩:∃ k,N - i=k+1:=⟨N - i - 1,by omega⟩;rw [hk,rd,if_pos (by omega),if_neg h1,if_neg (by omega)]
theorem Kw {l:List UInt8} {N i p:Nat} {n:Int} (h:N≤i):rd l (N - i) i n p=(i,n,p):=by
 rw [show N - i=0 by omega,rd]
theorem uf (s:ByteArray) (w:World) (hs:s.size≤9223372036854775806) :
    Calls Tryz.prog 167 #[.string s] w fun e w' =>
      e=.returned (.tuple #[.int .i64 (dw s.data.toList).1,.int .i64 (dw s.data.toList).2.1,.bool (dw s.data.toList).2.2])∧w=w':=by
 have hlen:s.data.toList.length=s.size:=by rw [Lib.size_eq]
 obtain ⟨R,hR⟩:∃ R,R=rd s.data.toList s.size 0 0 s.size:=⟨_,rfl⟩;have hall:Hid (dw s.data.toList=iQ s.size R):=by unfold Hid dw;rw [hlen,hR]
 have HL:=Hy hlen;have HR:=Hy hR;clear hlen hR
 go_enter Tryz.func167,Tryz.ntmps167
 go_wp2
 go_step3
 go_wp2
 go_step3
 go_upto_block 0 with fail
 go_cut [2,5,6] (fun vn vp vi wx => ∃ (i p:Nat) (n:Int),i≤s.size∧p≤s.size∧0≤n∧n≤1152921504606846979∧vn=.int .i64 n∧vp=.int .i64 p∧vi=.int .i64 i∧Hid (R=(i,n,p))∧wx=w)
 case first =>
  go_wp2
  go_loop [2,5,6] (fun vn vp vi => ∃ (i p:Nat) (n:Int),i≤s.size∧p≤s.size∧0≤n∧n≤1152921504606846979∧vn=.int .i64 n∧vp=.int .i64 p∧vi=.int .i64 i∧Hid (R=rd s.data.toList (s.size - i) i n p)) (fun _ _ vi=>s.size - (intOf vi).toNat)
  case atStart=>exact ⟨0,s.size,0,by omega,by omega,by omega,by omega,rfl,rfl,rfl,by unfold Hid;rw [HR.o];rfl⟩
  case round =>
   obtain ⟨i,p,n,hi,hp,n0,n1,rfl,rfl,rfl,hrd⟩:=hrel;by_cases hl:i<s.size
   ·obtain ⟨c,hc⟩:∃ c,c=dh s.data.toList i:=⟨_,rfl⟩;have hX:∀ w,(Instr.index 9 (.string s) (.int .i64 (i:Int))).run Tryz.prog w=.ok (.int .u8 c) w:=fun w=>by
     rw [run_index_string w _ s .i64 _ Tryz.underlying9,dif_pos ⟨by omega,by omega⟩,hc,← Gc s i hl];rfl
    have hr:=yZ s.data.toList i;rw [← hc] at hr;obtain ⟨r0,r1⟩:=hr;have HC:=Hy hc;clear hc;by_cases c1:48≤c
    ·by_cases c2:c≤57
     ·have HD:Hid (R=rd s.data.toList (s.size - (i+1)) (i+1) (wd n (c - 48)) p):=by
       unfold Hid;rw [hrd.o,G9 HL.o hl (by rw [← HC.o];exact c1) (by rw [← HC.o];exact c2),← HC.o]
      have hw:=wR (n:=n) (d:=c - 48) n0 (by omega) (by omega);have c1':decide (48≤c)=true:=by simpa using c1
      have c2':decide (c≤57)=true:=by simpa using c2
      go_wp2_with (go_at_call 211;refine (vS n (c - 48) _ n0 (by omega) (by omega)).mono ?_;rintro e w' ⟨rfl,rfl⟩);exact ⟨⟨i+1,p,wd n (c - 48),by omega,hp,hw.1,hw.2,rfl,rfl,by congr 1,HD⟩,by simp [intOf];omega⟩
     have HD:Hid (R=(i,n,p)):=by
      unfold Hid;rw [hrd.o,ug HL.o hl (by rw [← HC.o];omega) (by rw [← HC.o];omega)]
     have c1':decide (48≤c)=true:=by simpa using c1
     have c2':decide (c≤57)=false:=by simp;omega
     have c3':(c==46)=false:=by rw [beq_eq_false_iff_ne];omega
     go_wp2
     go_meet
     exact ⟨i,p,n,hi,hp,n0,n1,rfl,rfl,rfl,HD,rfl⟩
    have c1':decide (48≤c)=false:=by simp;omega
    by_cases c3:c=46
    ·by_cases c4:p=s.size
     ·have HD:Hid (R=rd s.data.toList (s.size - (i+1)) (i+1) n i):=by
       unfold Hid;rw [hrd.o,GZ HL.o hl (by rw [← HC.o];exact c3) c4]
      subst c3;subst c4;go_wp2;exact ⟨⟨i+1,i,n,by omega,by omega,n0,n1,rfl,rfl,by congr 1,HD⟩,by simp [intOf];omega⟩
     have HD:Hid (R=(i,n,p)):=by
      unfold Hid;rw [hrd.o,ug HL.o hl (by rw [← HC.o];omega) (by rw [← HC.o];omega)]
     have c4':((p:Int)==(s.size:Int))=false:=by rw [beq_eq_false_iff_ne];omega
     subst c3;go_wp2
     go_meet
     exact ⟨i,p,n,hi,hp,n0,n1,rfl,rfl,rfl,HD,rfl⟩
    have HD:Hid (R=(i,n,p)):=by
     unfold Hid;rw [hrd.o,ug HL.o hl (by rw [← HC.o];omega) (by rw [← HC.o];omega)]
    have c3':(c==46)=false:=by rw [beq_eq_false_iff_ne];omega
    go_wp2
    go_meet
    exact ⟨i,p,n,hi,hp,n0,n1,rfl,rfl,rfl,HD,rfl⟩
   have HD:Hid (R=(i,n,p)):=by
    unfold Hid;rw [hrd.o,Kw (by omega)]
   go_wp2
   go_meet
   exact ⟨i,p,n,hi,hp,n0,n1,rfl,rfl,rfl,HD,rfl⟩
 case rest =>
  obtain ⟨i,p,n,hi,hp,n0,n1,rfl,rfl,rfl,hR,rfl⟩:=hcut;have hall2:Hid (dw s.data.toList=iQ s.size (i,n,p)):=by unfold Hid;rw [hall.o,hR.o]
  clear hall hR HR HL;by_cases d1:i<s.size
  ·have E:Hid (dw s.data.toList=(0,0,false)):=by unfold Hid;rw [hall2.o];unfold iQ;rw [if_pos (.inl d1)]
   go_wp2
   try rw [Exit.noGoto_ret]
   go_ret3;exact ⟨by rw [E.o];rfl,rfl⟩
  by_cases d2:p=0
  ·have E:Hid (dw s.data.toList=(0,0,false)):=by unfold Hid;rw [hall2.o];unfold iQ;rw [if_pos (.inr d2)]
   subst d2;go_wp2
   try rw [Exit.noGoto_ret]
   go_ret3;exact ⟨by rw [E.o];rfl,rfl⟩
  have d2':((p:Int)==0)=false:=by rw [beq_eq_false_iff_ne];omega
  by_cases d3:p=s.size
  ·have E:Hid (dw s.data.toList=(n,0,true)):=by unfold Hid;rw [hall2.o];unfold iQ;rw [if_neg (by simp only;omega),if_pos d3]
   subst d3;go_wp2
   try rw [Exit.noGoto_ret]
   go_ret3;exact ⟨by rw [E.o];rfl,rfl⟩
  have d3':((p:Int)==(s.size:Int))=false:=by rw [beq_eq_false_iff_ne];omega
  by_cases d4:(s.size:Int) - p - 1<1
  ·have E:Hid (dw s.data.toList=(0,0,false)):=by unfold Hid;rw [hall2.o];unfold iQ;rw [if_neg (by simp only;omega),if_neg d3,if_pos (.inl d4)]
   go_wp2
   try rw [Exit.noGoto_ret]
   go_ret3;exact ⟨by rw [E.o];rfl,rfl⟩
  have d4':decide ((s.size:Int) - p - 1<1)=false:=by simpa using d4
  by_cases d5:6<(s.size:Int) - p - 1
  ·have E:Hid (dw s.data.toList=(0,0,false)):=by unfold Hid;rw [hall2.o];unfold iQ;rw [if_neg (by simp only;omega),if_neg d3,if_pos (.inr d5)]
   go_wp2
   try rw [Exit.noGoto_ret]
   go_ret3;exact ⟨by rw [E.o];rfl,rfl⟩
  have d5':decide (6<(s.size:Int) - p - 1)=false:=by simpa using d5
  have E:Hid (dw s.data.toList=(n,(s.size:Int) - p - 1,true)):=by unfold Hid;rw [hall2.o];unfold iQ;rw [if_neg (by simp only;omega),if_neg d3,if_neg (by simp only;omega)]
  go_wp2
  try rw [Exit.noGoto_ret]
  go_ret3;exact ⟨by rw [E.o];rfl,rfl⟩
theorem qH (l:List UInt8):∀ (k i:Nat) (n:Int) (p:Nat),0≤n→n≤1152921504606846979→0≤(rd l k i n p).2.1∧(rd l k i n p).2.1≤1152921504606846979
 | 0,_,_,_,h0,h1=>⟨h0,h1⟩
 | k+1,i,n,p,h0,h1=>by
  rw [rd]
  split
  ·split
   ·rename_i hd
    have hw:=wR (n:=n) (d:=dh l i - 48) h0 (by omega) (by omega)
    exact qH l k (i+1) _ p hw.1 hw.2
   ·split
    ·exact qH l k (i+1) n i h0 h1
    ·exact ⟨h0,h1⟩
  ·exact ⟨h0,h1⟩
theorem zu (l:List UInt8):0≤(dw l).1∧(dw l).1≤1152921504606846979∧0≤(dw l).2.1∧(dw l).2.1≤6:=by
 have h:=qH l l.length 0 0 l.length (by omega) (by omega);unfold dw iQ;split
 ·simp
 split
 ·exact ⟨h.1,h.2,by simp,by simp⟩
 split
 ·simp
 exact ⟨h.1,h.2,by simp only;omega,by simp only;omega⟩
def kT:List Int:=[1,10,100,1000,10000,100000,1000000]
theorem OG:Tryz.prog.globalNamed "asof/decimal.powers" = some 3:=by kernel_rfl
theorem EF {a:Int} (h0:0≤a) (h6:a≤6):1≤kT.getD (6 - a).toNat 0∧kT.getD (6 - a).toNat 0≤1000000:=by
 obtain h | h | h | h | h | h | h:a=0∨a=1∨a=2∨a=3∨a=4∨a=5∨a=6:=by omega
 all_goals (subst h;decide)
def uj (l:List UInt8):Int:=(if Lib.hasPrefix l [45] then -(dw (Lib.trimPrefix l [45])).1 else (dw (Lib.trimPrefix l [45])).1) * kT.getD (6 - (dw (Lib.trimPrefix l [45])).2.1).toNat 0
def paX (l:List UInt8):Int:=if (dw (Lib.trimPrefix l [45])).2.2 && rg (uj l) then uj l else 0
def paE (l:List UInt8):Int:=if (dw (Lib.trimPrefix l [45])).2.2 then (if rg (uj l) then 0 else 2) else 3
theorem CG (s t:ByteArray) (neg ok:Bool) (n a P m X E:Int) (w:World)
    (CC:Hid (Calls Tryz.prog 166 #[.string s,.string ⟨#[45]⟩] w fun e w' => e=.returned (.tuple #[.string t,.bool neg])∧w'=w))
    (CR:Hid (Calls Tryz.prog 167 #[.string t] w fun e w' => e=.returned (.tuple #[.int .i64 n,.int .i64 a,.bool ok])∧w=w'))
    (n0:0≤n) (n1:n≤1152921504606846979) (a0:0≤a) (a6:a≤6) (P1:1≤P) (P2:P≤1000000)
    (hc:w.cell? ⟨3,(6 - a).toNat,none⟩=some (.int .i64 P))
    (hm:Hid (m=(if neg then -n else n) * P)) (hX:Hid (X=if ok && rg m then m else 0)) (hE:Hid (E=if ok then (if rg m then 0 else 2) else 3)) :
    Calls Tryz.prog 118 #[.string s] w fun e w' => e=.returned (.tuple #[.int .i64 X,.int .i64 E])∧Below w.heap.size w w':=by
 cases ok
 ·have eX:Hid (X=0):=by unfold Hid;rw [hX.o];rfl
  have eE:Hid (E=3):=by unfold Hid;rw [hE.o];rfl
  go_enter Tryz.func118,Tryz.ntmps118
  go_wp2_with (first
    | (go_at_call 166;refine CC.o.mono ?_;rintro e w' ⟨rfl,rfl⟩)
    | (go_at_call 167;refine CR.o.mono ?_;rintro e w' ⟨rfl,rfl⟩))
  go_ret2
  exact ⟨by rw [eX.o,eE.o];rfl,b0 _⟩
 cases neg
 ·have em:Hid (n * P=m):=by unfold Hid;rw [hm.o];rfl
  have im:In m:=by rw [← em.o];exact EW (by omega) (by omega) (by omega) (by omega)
  cases hr:rg m
  ·have eX:Hid (X=0):=by unfold Hid;rw [hX.o,hr];rfl
   have eE:Hid (E=2):=by unfold Hid;rw [hE.o,hr];rfl
   go_enter Tryz.func118,Tryz.ntmps118
   go_wp2_with (first
     | (go_at_call 166;refine CC.o.mono ?_;rintro e w' ⟨rfl,rfl⟩)
     | (go_at_call 167;refine CR.o.mono ?_;rintro e w' ⟨rfl,rfl⟩))
   refine (wD n P _ (by omega) (by omega) (by omega) (by omega)).mono ?_;rw [em.o];rintro e w1 ⟨rfl,k1⟩;go_wp2_with fail;refine (jL im _).mono ?_;rw [hr];rintro e w2 ⟨rfl,k2⟩;replace k2:=aD k1 k2;go_wp2_with fail
   go_ret2
   exact ⟨by rw [eX.o,eE.o];rfl,k2⟩
  have eX:Hid (X=m):=by unfold Hid;rw [hX.o,hr];rfl
  have eE:Hid (E=0):=by unfold Hid;rw [hE.o,hr];rfl
  go_enter Tryz.func118,Tryz.ntmps118
  go_wp2_with (first
    | (go_at_call 166;refine CC.o.mono ?_;rintro e w' ⟨rfl,rfl⟩)
    | (go_at_call 167;refine CR.o.mono ?_;rintro e w' ⟨rfl,rfl⟩))
  refine (wD n P _ (by omega) (by omega) (by omega) (by omega)).mono ?_;rw [em.o];rintro e w1 ⟨rfl,k1⟩;go_wp2_with fail;refine (jL im _).mono ?_;rw [hr,oQ hr];rintro e w2 ⟨rfl,k2⟩;replace k2:=aD k1 k2;go_wp2_with fail
  go_ret2
  exact ⟨by rw [eX.o,eE.o];rfl,k2⟩
 have em:Hid (-n * P=m):=by unfold Hid;rw [hm.o];rfl
 have im:In m:=by rw [← em.o];exact EW (by omega) (by omega) (by omega) (by omega)
 cases hr:rg m
 ·have eX:Hid (X=0):=by unfold Hid;rw [hX.o,hr];rfl
  have eE:Hid (E=2):=by unfold Hid;rw [hE.o,hr];rfl
  go_enter Tryz.func118,Tryz.ntmps118
  go_wp2_with (first
    | (go_at_call 166;refine CC.o.mono ?_;rintro e w' ⟨rfl,rfl⟩)
    | (go_at_call 167;refine CR.o.mono ?_;rintro e w' ⟨rfl,rfl⟩))
  refine (wD (-n) P _ (by omega) (by omega) (by omega) (by omega)).mono ?_;rw [em.o];rintro e w1 ⟨rfl,k1⟩;go_wp2_with fail;refine (jL im _).mono ?_;rw [hr];rintro e w2 ⟨rfl,k2⟩;replace k2:=aD k1 k2;go_wp2_with fail
  go_ret2
  exact ⟨by rw [eX.o,eE.o];rfl,k2⟩
 have eX:Hid (X=m):=by unfold Hid;rw [hX.o,hr];rfl
 have eE:Hid (E=0):=by unfold Hid;rw [hE.o,hr];rfl
 go_enter Tryz.func118,Tryz.ntmps118
 go_wp2_with (first
   | (go_at_call 166;refine CC.o.mono ?_;rintro e w' ⟨rfl,rfl⟩)
   | (go_at_call 167;refine CR.o.mono ?_;rintro e w' ⟨rfl,rfl⟩))
 refine (wD (-n) P _ (by omega) (by omega) (by omega) (by omega)).mono ?_;rw [em.o];rintro e w1 ⟨rfl,k1⟩;go_wp2_with fail;refine (jL im _).mono ?_;rw [hr,oQ hr];rintro e w2 ⟨rfl,k2⟩;replace k2:=aD k1 k2;go_wp2_with fail
 go_ret2
 exact ⟨by rw [eX.o,eE.o];rfl,k2⟩
theorem vE (s:ByteArray) (w:World) (hs:s.size≤9223372036854775806) (hp:Lib.TabIs Tryz.prog w "asof/decimal.powers" .i64 kT) :
    Calls Tryz.prog 118 #[.string s] w fun e w' => e=.returned (.tuple #[.int .i64 (paX s.data.toList),.int .i64 (paE s.data.toList)])∧Below w.heap.size w w':=by
 obtain ⟨t,ht⟩:∃ t:ByteArray,t=⟨(Lib.trimPrefix s.data.toList (⟨#[45]⟩:ByteArray).data.toList).toArray⟩:=⟨_,rfl⟩;have htl:t.data.toList=Lib.trimPrefix s.data.toList [45]:=by rw [ht]
 have hts:t.size≤9223372036854775806:=by
  have h1:t.size=t.data.toList.length:=(Lib.size_eq t);have h2:=Lib.trimPrefix_le s.data.toList [45];have h3:s.size=s.data.toList.length:=(Lib.size_eq s);rw [htl] at h1;omega
 have CR:=uf t w hts;rw [htl] at CR;have CC:=Tryz.strings_CutPrefix s ⟨#[45]⟩ w;rw [← ht] at CC;obtain ⟨n0,n1,a0,a6⟩:=zu (Lib.trimPrefix s.data.toList [45]);have hc:=hp.cell OG (6 - (dw (Lib.trimPrefix s.data.toList [45])).2.1).toNat (by show _<7;omega);have hPr:=EF a0 a6;exact CG s t _ _ _ _ _ _ _ w CC CR n0 n1 a0 a6 hPr.1 hPr.2 hc (m:=uj s.data.toList) rfl rfl rfl
end dec
namespace dec
open Go.RowKit Go.Shelf Go.Sort Go.Lib
theorem tab_stays {w w':World} {n:String} {k:IntKind} {zs:List Int} (h:Lib.TabIs Tryz.prog w n k zs) (hb:Below w.heap.size w w'):Lib.TabIs Tryz.prog w' n k zs:=by
 unfold Lib.TabIs at *
 cases hg:Tryz.prog.globalNamed n with
 | none=>unfold World.var? at h;simp [hg] at h
 | some g=>exact Go.Joins.var_stays hg h hb lr
end dec
section
open dec
def dval (a:Nat) (l:List UInt8):Nat:=l.foldl (fun a c=>a * 10+(c.toNat - 48)) a
def isD (c:UInt8):Bool:=decide (48≤c.toNat) && decide (c.toNat≤57)
theorem dZ (c:UInt8):isD c=true↔48≤c.toNat∧c.toNat≤57:=by unfold isD;rw [Bool.and_eq_true,decide_eq_true_eq,decide_eq_true_eq]
theorem jc (a:Nat) (c:UInt8) (l:List UInt8):dval a (c :: l)=dval (a * 10+(c.toNat - 48)) l:=by unfold dval;rw [List.foldl_cons]
theorem qg:∀ (l:List UInt8) (a:Nat),a≤dval a l
 | [],a=>Nat.le_refl a
 | c :: l,a=>by
  have:=qg l (a * 10+(c.toNat - 48))
  rw [jc]
  omega
def jA (l:List UInt8):Int :=
 match Lib.atoiAll l with
 | .ok v=>v
 | Lib.NumEnd.syntax=>0
 | .range=>Lib.atoiSat l
theorem y7 (l:List UInt8) : -9223372036854775808≤jA l∧jA l≤9223372036854775807:=by
 unfold jA;rcases h:Lib.atoiAll l with v | _ | _
 ·exact Lib.atoiAll_bounds h
 ·simp
 exact Lib.atoiSat_bounds l
theorem iw {l r:List UInt8} {i:Nat} {c:UInt8} (h:l.drop i=c :: r):i<l.length∧dh l i=(c.toNat:Int)∧l.drop (i+1)=r:=by
 have hi:i<l.length:=by
  rcases Nat.lt_or_ge i l.length with h0 | h0
  ·exact h0
  rw [List.drop_eq_nil_of_le h0] at h;cases h
 rw [List.drop_eq_getElem_cons hi] at h;injection h with h1 h2
 refine ⟨hi,?_,h2⟩;unfold dh;rw [List.getD_eq_getElem?_getD,List.getElem?_eq_getElem hi,h1];rfl
theorem vD {c:UInt8} (h:c≠45) (l:List UInt8):Lib.hasPrefix (c :: l) [45]=false∧Lib.trimPrefix (c :: l) [45]=c :: l:=by
 have e:((45:UInt8)==c)=false:=by rw [beq_eq_false_iff_ne];exact fun h' => h h'.symm
 have h1:Lib.hasPrefix (c :: l) [45]=false:=by simp [Lib.hasPrefix,List.isPrefixOf,e]
 exact ⟨h1,by unfold Lib.trimPrefix;rw [h1];rfl⟩
theorem iL {c:UInt8} {n:Nat} (hn:n<256) (h:c.toNat≠n):c≠UInt8.ofNat n:=by
 intro e;subst e;apply h;rw [UInt8.toNat_ofNat'];omega
def dgn:List UInt8→Nat
 | []=>0
 | c :: r=>if isD c then dgn r+1 else 0
theorem nT (c:UInt8) (hc:isD c=false) (r:List UInt8):∀ (ds:List UInt8),(∀ d ∈ ds,isD d=true)→dgn (ds++c :: r)=ds.length
 | [],_=>by simp [dgn,hc]
 | d :: ds,h=>by
  rw [List.cons_append,dgn,if_pos (h d (List.mem_cons_self ..)),nT c hc r ds (fun x hx=>h x (List.mem_cons_of_mem _ hx)),List.length_cons]
theorem uL:∀ (ds:List UInt8),(∀ d ∈ ds,isD d=true)→dgn ds=ds.length
 | [],_=>rfl
 | d :: ds,h=>by
  rw [dgn,if_pos (h d (List.mem_cons_self ..)),uL ds (fun x hx=>h x (List.mem_cons_of_mem _ hx)),List.length_cons]
theorem oZ:∀ (l:List UInt8),dgn l≤l.length
 | []=>Nat.le_refl _
 | c :: r=>by
  have:=oZ r
  rw [dgn,List.length_cons]
  split <;> omega
def atP (l:List UInt8):Nat:=if l.head? = some 45 then 1 else 0
def fO (l:List UInt8):Bool :=
 if dgn (l.drop (atP l))=0 then false
 else if atP l+dgn (l.drop (atP l))=l.length then true
 else decide (l.getD (atP l+dgn (l.drop (atP l))) 0=46) && decide (1≤dgn (l.drop (atP l+dgn (l.drop (atP l))+1))) && decide (dgn (l.drop (atP l+dgn (l.drop (atP l))+1))≤6)
  && decide (atP l+dgn (l.drop (atP l))+1+dgn (l.drop (atP l+dgn (l.drop (atP l))+1))=l.length)
def sat (x d:Nat):Nat:=min (10 * min x 115292150460684698+d) 1152921504606846977
theorem rR (x d:Nat):sat x d≤1152921504606846977:=by unfold sat;omega
def stp (q:Nat × Int) (c:UInt8):Nat × Int :=
 let b:=if c=46 then 0 else q.2
 if isD c then (sat q.1 (c.toNat - 48),if 0≤b then b+1 else b) else (q.1,b)
def scl:Nat→Nat→Nat
 | 0,x=>x
 | k+1,x=>scl k (sat x 0)
theorem Em:∀ (k x:Nat),x≤1152921504606846977→scl k x≤1152921504606846977
 | 0,_,h=>h
 | k+1,x,_=>Em k _ (rR x 0)
def jZ (l:List UInt8) (y:Nat):Int × Int:=if 1152921504606846976<y then (0,2) else (if l.head? = some 45 then -(y:Int) else y,0)
def rpP (l:List UInt8):Int × Int :=
 if fO l then jZ l (scl (6 - (max (l.foldl stp (0,-1)).2 0).toNat) (l.foldl stp (0,-1)).1) else (0,3)
structure Va where
 k:Int
 n:Int
 s:ByteArray
theorem Va.ext' {a b:Va} (h1:a.k=b.k) (h2:a.n=b.n) (h3:a.s=b.s):a=b:=by cases a;cases b;simp_all
instance:DecidableEq Va:=fun a b=>decidable_of_iff (a.k=b.k∧a.n=b.n∧a.s=b.s) ⟨fun h=>Va.ext' h.1 h.2.1 h.2.2,fun h=>by subst h;exact ⟨rfl,rfl,rfl⟩⟩
def okB (lo:Nat) (c:UInt8):Bool:=decide (lo≤c.toNat) && decide (c.toNat≤126) && !decide (c.toNat=34) && !decide (c.toNat=92)
def pB (lo:Nat) (l:List UInt8):Bool:=l.all (okB lo)
def fmd (v:Va):Bool :=
 if v.k=0 then decide (v.n=0) && decide (v.s.size=0)
 else if v.k=1 then (decide (v.n=0) || decide (v.n=1)) && decide (v.s.size=0)
 else if v.k=2∨v.k=3 then decide (v.s.size=0)
 else if v.k=4∨v.k=5 then decide (v.n=0)
 else false
def lmt (v:Va):Bool :=
 if v.k=2∨v.k=3 then rg v.n
 else if v.k=4 then decide (v.s.size≤64)
 else if v.k=5 then decide (v.s.size≤32)
 else true
def spl (v:Va):Bool :=
 if v.k=4 then pB 32 v.s.data.toList
 else if v.k=5 then !decide (v.s.size=0) && pB 33 v.s.data.toList
 else true
def ck (v:Va):Int:=if fmd v then (if lmt v then (if spl v then 0 else 3) else 2) else 1
def ok (v:Va):Bool:=decide (ck v=0)
theorem yj (v:Va):ok v=true↔fmd v=true∧lmt v=true∧spl v=true:=by
 unfold ok ck;cases fmd v <;> cases lmt v <;> cases spl v <;> simp
theorem uY {s:ByteArray} (h:s.size=0):s=.empty:=by
 cases s with
 | mk d =>
   have:d.size=0:=h
   rw [Array.eq_empty_of_size_eq_zero this]
   rfl
theorem uM (s:ByteArray):(⟨s.data.toList.toArray⟩:ByteArray)=s:=rfl
end
section
theorem nK:∀ (l:List UInt8),Op.bytesLess l l=false
 | []=>rfl
 | a :: x=>by rw [Op.bytesLess,nK x];simp
theorem BU {a b:UInt8} : (a<b)=(a.toNat<b.toNat):=rfl
theorem Cb {a b:UInt8} : (a=b)=(a.toNat=b.toNat):=propext ⟨fun h=>by rw [h],fun h=>UInt8.toNat_inj.1 h⟩
theorem jS (a b:UInt8) (x y:List UInt8):Op.bytesLess (a :: x) (b :: y)=true↔a.toNat<b.toNat∨(a.toNat=b.toNat∧Op.bytesLess x y=true):=by
 rw [Op.bytesLess,Bool.or_eq_true,Bool.and_eq_true,decide_eq_true_eq,beq_iff_eq,BU,Cb]
theorem pX:∀ (x y z:List UInt8),Op.bytesLess x y=true→Op.bytesLess y z=true→Op.bytesLess x z=true
 | [],[],z,h,_=>by cases h
 | [],b :: y,[],_,h=>by cases h
 | [],b :: y,c :: z,_,_=>rfl
 | a :: x,[],z,h,_=>by cases h
 | a :: x,b :: y,[],_,h=>by cases h
 | a :: x,b :: y,c :: z,h1,h2=>by
  rw [jS] at *
  rcases h1 with h1 | ⟨h1,h1'⟩ <;> rcases h2 with h2 | ⟨h2,h2'⟩
  ·omega
  ·omega
  ·omega
  ·exact .inr ⟨by omega,pX x y z h1' h2'⟩
theorem kV:∀ (x y:List UInt8),Op.bytesLess x y=false→x≠y→Op.bytesLess y x=true
 | [],[],_,h=>absurd rfl h
 | [],b :: y,h,_=>by cases h
 | a :: x,[],_,_=>rfl
 | a :: x,b :: y,h,hne=>by
  have h':¬ Op.bytesLess (a :: x) (b :: y)=true:=by rw [h];decide
  rw [jS] at h' ⊢
  by_cases e:a.toNat=b.toNat
  ·refine .inr ⟨e.symm,kV x y ?_ ?_⟩
   ·cases hx:Op.bytesLess x y
    ·rfl
    ·exact absurd (.inr ⟨e,hx⟩) h'
   ·intro hxy
    apply hne
    rw [hxy,UInt8.toNat_inj.1 e]
  ·exact .inl (by omega)
def cB (x y:List UInt8):Int:=if Op.bytesLess x y=true then -1 else if x=y then 0 else 1
def cS (a b:ByteArray):Int:=cB a.toList b.toList
theorem toList_inj {a b:ByteArray} (h:a.toList=b.toList):a=b:=by
 rw [ByteArray.toList_eq,ByteArray.toList_eq] at h;cases a;cases b;simp only at h;rw [Array.toList_inj.1 h]
end
section
open Go.RowKit dec
def o9:List Int:=[0,0,0,0,0,0,0,0,0,1,2,0,0,1,0,0,0,0,0,0,0,0,0,0,0,0,0,0,0,0,0,0,1,0,7,3,0,0,0,0,8,8,8,8,8,8,0,8,5,5,5,5,5,5,5,5,5,5,8,8,8,8,0,0,8,0,0,0,0,0,0,0,0,0,0,0,0,0,0,0,0,0,0,0,0,0,0,0,0,0,0,8,0,8,8,6,0,4,4,4,4,4,4,4,4,4,4,4,4,4,4,4,4,4,4,4,4,4,4,4,4,4,4,8,0,8]
def opL:Nat→List ByteArray
 | 0=>[⟨#[100,101,102,97,117,108,116]⟩]
 | 1=>[⟨#[111,114]⟩]
 | 2=>[⟨#[97,110,100]⟩]
 | 3=>[⟨#[61,61]⟩,⟨#[33,61]⟩,⟨#[60]⟩,⟨#[60,61]⟩]
 | 4=>[⟨#[43]⟩,⟨#[45]⟩]
 | _=>[⟨#[42]⟩,⟨#[47]⟩]
def Opt (w:World):Prop:=∀ n,n<6→∃ b off cap,w.cell? ⟨4,n,none⟩=some (.slice (some ⟨b,off,none⟩) (opL n).length cap)∧∀ j (hj:j<(opL n).length),w.cell? ⟨b,off+j,none⟩=some (.string (opL n)[j])
theorem Opt.keeps {w w':World} (h:Opt w) (hb:Below w.heap.size w w'):Opt w':=fun n hn=>by
 obtain ⟨b,off,cap,c,hc⟩:=h n hn
 exact ⟨b,off,cap,dec.keeps hb c,fun j hj=>dec.keeps hb (hc j hj)⟩
structure Tabs (w:World):Prop where
 pow:Lib.TabIs Tryz.prog w "asof/decimal.powers" .i64 kT
 ten:Lib.TabIs Tryz.prog w "internal/strconv.uint64pow10" .u64 Lib.pow10Tab
 syn:∃ tp p,w.var? Tryz.prog "strconv.ErrSyntax" = some #[.iface tp p]
 ran:∃ tp p,w.var? Tryz.prog "strconv.ErrRange" = some #[.iface tp p]
 cls:Lib.TabIs Tryz.prog w "asof/lexer.classes" .u8 o9
 ops:Opt w
theorem OI:Tryz.prog.globalNamed "asof/lexer.classes" = some 2:=by kernel_rfl
theorem Df:Tryz.prog.globalNamed "strconv.ErrSyntax" = some 6:=by kernel_rfl
theorem Dh:Tryz.prog.globalNamed "strconv.ErrRange" = some 7:=by kernel_rfl
theorem Tabs.stays {w w':World} (h:Tabs w) (hb:Below w.heap.size w w'):Tabs w':=by
 obtain ⟨tp,p,h1⟩:=h.syn;obtain ⟨tq,q,h2⟩:=h.ran;exact ⟨tab_stays h.pow hb,tab_stays h.ten hb,⟨tp,p,Go.Joins.var_stays Df h1 hb lr⟩,⟨tq,q,Go.Joins.var_stays Dh h2 hb lr⟩,tab_stays h.cls hb,h.ops.keeps hb⟩
theorem gN (w:World) (e:TypeId) (s:ByteArray):Below w.heap.size w (Lib.bytesWorld w e s):=by
 refine ⟨rfl,rfl,rfl,?_,fun j hj=>Lib.bytesWorld_at_old w e s j hj⟩;rw [Lib.bytesWorld_size];omega
theorem y5 (s:ByteArray) (hs:s.size≤1048576) (w:World) (T:Tabs w) :
    Calls Tryz.prog 113 #[.string s] w fun e w' => ∃ x,e=.returned (.tuple #[.int .i64 (jA s.data.toList),x])∧Below w.heap.size w w':=by
 unfold jA;rcases h:Lib.atoiAll s.data.toList with v | _ | _
 ·refine (Tryz.strconv_Atoi_ok s (by omega) v h w).mono ?_;rintro e w' ⟨rfl,rfl | ⟨t,rfl⟩⟩
  ·exact ⟨_,rfl,b0 _⟩
  exact ⟨_,rfl,gN _ _ _⟩
 ·obtain ⟨tp,p,h1⟩:=T.syn;refine (Tryz.strconv_Atoi_syntax_var s (by omega) h tp p w h1).mono ?_;rintro e w' ⟨N,rfl,h2⟩;exact ⟨_,rfl,h2.2.2⟩
 obtain ⟨tp,p,h1⟩:=T.ran;refine (Tryz.strconv_Atoi_range_var s (by omega) h tp p w h1).mono ?_;rintro e w' ⟨N,rfl,h2⟩;exact ⟨_,rfl,h2.2.2⟩
end
end Go.Proofs.YtbpijgddfaefkaaGreatDoor
