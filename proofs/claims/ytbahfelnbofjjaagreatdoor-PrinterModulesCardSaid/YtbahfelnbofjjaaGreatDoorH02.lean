/- decimal. -/
import Derived.WalkSmall
import Derived.Lib.LaidTab
import Derived.WalkMore
import Derived.Lib.ItoaMem
import Derived.BigCall
import Derived.BigGuard
import Derived.Laws.Concat
import Derived.Lib.AtoiAllCases
import Derived.Lib.Strings
import Derived.Lib.Bytealg
import Derived.Lib.Small
import Derived.Test.YtbahfelnbofjjaaGreatDoorH01
import Derived.Test.YtbahfelnbofjjaaGreatDoorShH
set_option maxRecDepth 100000
set_option maxHeartbeats 16000000
namespace Go.Proofs.YtbahfelnbofjjaaGreatDoor
namespace dec
open Go.RowKit Go.Shelf
def wd (n d:Int):Int:=if 115292150460684697<n then 1152921504606846977 else 10 * n+d
theorem Ag {n d:Int} (n0:0≤n) (d0:0≤d) (d9:d≤9):0≤wd n d∧wd n d≤1152921504606846979:=by unfold wd;split <;> omega
theorem zK (n d:Int) (w:World) (n0:0≤n) (d0:0≤d) (d9:d≤9) :
    Calls Tryz.prog 257 #[.int .i64 n,.int .i64 d] w fun e w' => e=.returned (.int .i64 (wd n d))∧w=w':=by
 by_cases h:115292150460684697<n
 ·have e:Hid (wd n d=1152921504606846977):=if_pos h
  go_enter Tryz.func257,Tryz.ntmps257
  go_wp2;go_ret;exact ⟨by rw [e.o];rfl,rfl⟩
 have e:Hid (wd n d=10 * n+d):=if_neg h
 go_enter Tryz.func257,Tryz.ntmps257
 go_wp2;go_ret;exact ⟨by rw [e.o];rfl,rfl⟩
def dX (l:List UInt8) (i:Nat):Int:=((l.getD i 0).toNat:Int)
def rd (l:List UInt8):Nat→Nat→Int→Nat→Nat × Int × Nat
 | 0,i,n,p=>(i,n,p)
 | k+1,i,n,p =>
  if i<l.length then
   if 48≤dX l i∧dX l i≤57 then rd l k (i+1) (wd n (dX l i - 48)) p
   else if dX l i=46∧p=l.length then rd l k (i+1) n i
   else (i,n,p)
  else (i,n,p)
def ko (len:Nat) (r:Nat × Int × Nat):Int × Int × Bool :=
 if r.1<len∨r.2.2=0 then (0,0,false)
 else if r.2.2=len then (r.2.1,0,true)
 else if (len:Int) - r.2.2 - 1<1∨6<(len:Int) - r.2.2 - 1 then (0,0,false)
 else (r.2.1,(len:Int) - r.2.2 - 1,true)
def eu (l:List UInt8):Int × Int × Bool:=ko l.length (rd l l.length 0 0 l.length)
theorem K6 (s:ByteArray) (i:Nat) (hi:i<s.size):((s[i]'hi).toNat:Int)=dX s.data.toList i:=by
 unfold dX;rw [← Lib.getD_at s i hi]
theorem Cz (l:List UInt8) (i:Nat):0≤dX l i∧dX l i≤255:=by
 unfold dX;have:=UInt8.toNat_lt (l.getD i 0);omega
theorem LQ {l:List UInt8} {N i p:Nat} {n:Int} (hN:l.length=N) (h:i<N) (h1:48≤dX l i) (h2:dX l i≤57) :
    rd l (N - i) i n p=rd l (N - (i+1)) (i+1) (wd n (dX l i - 48)) p:=by
 obtain ⟨k,hk⟩:∃ k,N - i=k+1:=⟨N - i - 1,by omega⟩;have hk':N - (i+1)=k:=by omega
 rw [hk,hk',rd,if_pos (by omega),if_pos ⟨h1,h2⟩]
theorem LP {l:List UInt8} {N i p:Nat} {n:Int} (hN:l.length=N) (h:i<N) (h1:dX l i=46) (h2:p=N) :
    rd l (N - i) i n p=rd l (N - (i+1)) (i+1) n i:=by
 obtain ⟨k,hk⟩:∃ k,N - i=k+1:=⟨N - i - 1,by omega⟩;have hk':N - (i+1)=k:=by omega
 rw [hk,hk',rd,if_pos (by omega),if_neg (by omega),if_pos ⟨h1,by omega⟩]
theorem xW {l:List UInt8} {N i p:Nat} {n:Int} (hN:l.length=N) (h:i<N) (h1:¬ (48≤dX l i∧dX l i≤57)) (h2:¬ (dX l i=46∧p=N)) :
    rd l (N - i) i n p=(i,n,p):=by
 obtain ⟨k,hk⟩:∃ k,N - i=k+1:=⟨N - i - 1,by omega⟩;rw [hk,rd,if_pos (by omega),if_neg h1,if_neg (by omega)]
theorem PG {l:List UInt8} {N i p:Nat} {n:Int} (h:N≤i):rd l (N - i) i n p=(i,n,p):=by
 rw [show N - i=0 by omega,rd]
theorem xV (s:ByteArray) (w:World) (hs:s.size≤9223372036854775806) :
    Calls Tryz.prog 201 #[.string s] w fun e w' =>
      e=.returned (.tuple #[.int .i64 (eu s.data.toList).1,.int .i64 (eu s.data.toList).2.1,.bool (eu s.data.toList).2.2])∧w=w':=by
 have hlen:s.data.toList.length=s.size:=by rw [Lib.size_eq]
 obtain ⟨R,hR⟩:∃ R,R=rd s.data.toList s.size 0 0 s.size:=⟨_,rfl⟩;have hall:Hid (eu s.data.toList=ko s.size R):=by unfold Hid eu;rw [hlen,hR]
 have HL:=Hy hlen;have HR:=Hy hR;clear hlen hR
 go_enter Tryz.func201,Tryz.ntmps201
 go_wp2
 go_step3
 go_wp2
 go_step3
 go_upto_block 0 with fail
 go_cut [2,5,6] (fun vn vp vi wx => ∃ (i p:Nat) (n:Int),i≤s.size∧p≤s.size∧0≤n∧n≤1152921504606846979∧vn=.int .i64 n∧vp=.int .i64 p∧vi=.int .i64 i∧Hid (R=(i,n,p))∧wx=w)
 case first =>
  go_wp2
  go_loop [2,5,6] (fun vn vp vi => ∃ (i p:Nat) (n:Int),i≤s.size∧p≤s.size∧0≤n∧n≤1152921504606846979∧vn=.int .i64 n∧vp=.int .i64 p∧vi=.int .i64 i∧Hid (R=rd s.data.toList (s.size - i) i n p)) (fun _ _ vi=>s.size - (intOf vi).toNat)
  case atStart=>exact ⟨0,s.size,0,by omega,by omega,by omega,by omega,rfl,rfl,rfl,by unfold Hid;rw [HR.o];rfl⟩
  case round =>
   obtain ⟨i,p,n,hi,hp,n0,n1,rfl,rfl,rfl,hrd⟩:=hrel;by_cases hl:i<s.size
   ·obtain ⟨c,hc⟩:∃ c,c=dX s.data.toList i:=⟨_,rfl⟩;have hX:∀ w,(Instr.index 9 (.string s) (.int .i64 (i:Int))).run Tryz.prog w=.ok (.int .u8 c) w:=fun w=>by
     rw [run_index_string w _ s .i64 _ uy9,dif_pos ⟨by omega,by omega⟩,hc,← K6 s i hl];rfl
    have hr:=Cz s.data.toList i;rw [← hc] at hr;obtain ⟨r0,r1⟩:=hr;have HC:=Hy hc;clear hc;by_cases c1:48≤c
    ·by_cases c2:c≤57
     ·have HD:Hid (R=rd s.data.toList (s.size - (i+1)) (i+1) (wd n (c - 48)) p):=by
       unfold Hid;rw [hrd.o,LQ HL.o hl (by rw [← HC.o];exact c1) (by rw [← HC.o];exact c2),← HC.o]
      have hw:=Ag (n:=n) (d:=c - 48) n0 (by omega) (by omega);have c1':decide (48≤c)=true:=by simpa using c1
      have c2':decide (c≤57)=true:=by simpa using c2
      go_wp2_with (go_at_call 257;refine (zK n (c - 48) _ n0 (by omega) (by omega)).mono ?_;rintro e w' ⟨rfl,rfl⟩);exact ⟨⟨i+1,p,wd n (c - 48),by omega,hp,hw.1,hw.2,rfl,rfl,by congr 1,HD⟩,by simp [intOf];omega⟩
     have HD:Hid (R=(i,n,p)):=by
      unfold Hid;rw [hrd.o,xW HL.o hl (by rw [← HC.o];omega) (by rw [← HC.o];omega)]
     have c1':decide (48≤c)=true:=by simpa using c1
     have c2':decide (c≤57)=false:=by simp;omega
     have c3':(c==46)=false:=by rw [L_m];omega
     go_wp2
     go_meet
     exact ⟨i,p,n,hi,hp,n0,n1,rfl,rfl,rfl,HD,rfl⟩
    have c1':decide (48≤c)=false:=by simp;omega
    by_cases c3:c=46
    ·by_cases c4:p=s.size
     ·have HD:Hid (R=rd s.data.toList (s.size - (i+1)) (i+1) n i):=by
       unfold Hid;rw [hrd.o,LP HL.o hl (by rw [← HC.o];exact c3) c4]
      subst c3;subst c4;go_wp2;exact ⟨⟨i+1,i,n,by omega,by omega,n0,n1,rfl,rfl,by congr 1,HD⟩,by simp [intOf];omega⟩
     have HD:Hid (R=(i,n,p)):=by
      unfold Hid;rw [hrd.o,xW HL.o hl (by rw [← HC.o];omega) (by rw [← HC.o];omega)]
     have c4':((p:Int)==(s.size:Int))=false:=by rw [L_m];omega
     subst c3;go_wp2
     go_meet
     exact ⟨i,p,n,hi,hp,n0,n1,rfl,rfl,rfl,HD,rfl⟩
    have HD:Hid (R=(i,n,p)):=by
     unfold Hid;rw [hrd.o,xW HL.o hl (by rw [← HC.o];omega) (by rw [← HC.o];omega)]
    have c3':(c==46)=false:=by rw [L_m];omega
    go_wp2
    go_meet
    exact ⟨i,p,n,hi,hp,n0,n1,rfl,rfl,rfl,HD,rfl⟩
   have HD:Hid (R=(i,n,p)):=by
    unfold Hid;rw [hrd.o,PG (by omega)]
   go_wp2
   go_meet
   exact ⟨i,p,n,hi,hp,n0,n1,rfl,rfl,rfl,HD,rfl⟩
 case rest =>
  obtain ⟨i,p,n,hi,hp,n0,n1,rfl,rfl,rfl,hR,rfl⟩:=hcut;have hall2:Hid (eu s.data.toList=ko s.size (i,n,p)):=by unfold Hid;rw [hall.o,hR.o]
  clear hall hR HR HL;by_cases d1:i<s.size
  ·have E:Hid (eu s.data.toList=(0,0,false)):=by unfold Hid;rw [hall2.o];unfold ko;rw [if_pos (.inl d1)]
   go_wp2
   try rw [Exit.noGoto_ret]
   go_ret3;exact ⟨by rw [E.o];rfl,rfl⟩
  by_cases d2:p=0
  ·have E:Hid (eu s.data.toList=(0,0,false)):=by unfold Hid;rw [hall2.o];unfold ko;rw [if_pos (.inr d2)]
   subst d2;go_wp2
   try rw [Exit.noGoto_ret]
   go_ret3;exact ⟨by rw [E.o];rfl,rfl⟩
  have d2':((p:Int)==0)=false:=by rw [L_m];omega
  by_cases d3:p=s.size
  ·have E:Hid (eu s.data.toList=(n,0,true)):=by unfold Hid;rw [hall2.o];unfold ko;rw [if_neg (by simp only;omega),if_pos d3]
   subst d3;go_wp2
   try rw [Exit.noGoto_ret]
   go_ret3;exact ⟨by rw [E.o];rfl,rfl⟩
  have d3':((p:Int)==(s.size:Int))=false:=by rw [L_m];omega
  by_cases d4:(s.size:Int) - p - 1<1
  ·have E:Hid (eu s.data.toList=(0,0,false)):=by unfold Hid;rw [hall2.o];unfold ko;rw [if_neg (by simp only;omega),if_neg d3,if_pos (.inl d4)]
   go_wp2
   try rw [Exit.noGoto_ret]
   go_ret3;exact ⟨by rw [E.o];rfl,rfl⟩
  have d4':decide ((s.size:Int) - p - 1<1)=false:=by simpa using d4
  by_cases d5:6<(s.size:Int) - p - 1
  ·have E:Hid (eu s.data.toList=(0,0,false)):=by unfold Hid;rw [hall2.o];unfold ko;rw [if_neg (by simp only;omega),if_neg d3,if_pos (.inr d5)]
   go_wp2
   try rw [Exit.noGoto_ret]
   go_ret3;exact ⟨by rw [E.o];rfl,rfl⟩
  have d5':decide (6<(s.size:Int) - p - 1)=false:=by simpa using d5
  have E:Hid (eu s.data.toList=(n,(s.size:Int) - p - 1,true)):=by unfold Hid;rw [hall2.o];unfold ko;rw [if_neg (by simp only;omega),if_neg d3,if_neg (by simp only;omega)]
  go_wp2
  try rw [Exit.noGoto_ret]
  go_ret3;exact ⟨by rw [E.o];rfl,rfl⟩
theorem uo (l:List UInt8):∀ (k i:Nat) (n:Int) (p:Nat),0≤n→n≤1152921504606846979→0≤(rd l k i n p).2.1∧(rd l k i n p).2.1≤1152921504606846979
 | 0,_,_,_,h0,h1=>⟨h0,h1⟩
 | k+1,i,n,p,h0,h1=>by
  rw [rd]
  split
  ·split
   ·rename_i hd
    have hw:=Ag (n:=n) (d:=dX l i - 48) h0 (by omega) (by omega)
    exact uo l k (i+1) _ p hw.1 hw.2
   ·split
    ·exact uo l k (i+1) n i h0 h1
    ·exact ⟨h0,h1⟩
  ·exact ⟨h0,h1⟩
theorem Dm (l:List UInt8):0≤(eu l).1∧(eu l).1≤1152921504606846979∧0≤(eu l).2.1∧(eu l).2.1≤6:=by
 have h:=uo l l.length 0 0 l.length (by omega) (by omega);unfold eu ko;split
 ·simp
 split
 ·exact ⟨h.1,h.2,by simp,by simp⟩
 split
 ·simp
 exact ⟨h.1,h.2,by simp only;omega,by simp only;omega⟩
def lH:List Int:=[1,10,100,1000,10000,100000,1000000]
theorem Ux:Tryz.prog.globalNamed "asof/decimal.powers" = some 2:=by kernel_rfl
theorem Jy {a:Int} (h0:0≤a) (h6:a≤6):1≤lH.getD (6 - a).toNat 0∧lH.getD (6 - a).toNat 0≤1000000:=by
 obtain h | h | h | h | h | h | h:a=0∨a=1∨a=2∨a=3∨a=4∨a=5∨a=6:=by omega
 all_goals (subst h;decide)
def uw (l:List UInt8):Int:=(if Lib.hasPrefix l [45] then -(eu (Lib.trimPrefix l [45])).1 else (eu (Lib.trimPrefix l [45])).1) * lH.getD (6 - (eu (Lib.trimPrefix l [45])).2.1).toNat 0
def paX (l:List UInt8):Int:=if (eu (Lib.trimPrefix l [45])).2.2 && rg (uw l) then uw l else 0
def paE (l:List UInt8):Int:=if (eu (Lib.trimPrefix l [45])).2.2 then (if rg (uw l) then 0 else 2) else 3
theorem Hg (s t:ByteArray) (neg ok:Bool) (n a P m X E:Int) (w:World)
    (CC:Hid (Calls Tryz.prog 200 #[.string s,.string ⟨#[45]⟩] w fun e w' => e=.returned (.tuple #[.string t,.bool neg])∧w'=w))
    (CR:Hid (Calls Tryz.prog 201 #[.string t] w fun e w' => e=.returned (.tuple #[.int .i64 n,.int .i64 a,.bool ok])∧w=w'))
    (n0:0≤n) (n1:n≤1152921504606846979) (a0:0≤a) (a6:a≤6) (P1:1≤P) (P2:P≤1000000)
    (hc:w.cell? ⟨2,(6 - a).toNat,none⟩=some (.int .i64 P))
    (hm:Hid (m=(if neg then -n else n) * P)) (hX:Hid (X=if ok && rg m then m else 0)) (hE:Hid (E=if ok then (if rg m then 0 else 2) else 3)) :
    Calls Tryz.prog 144 #[.string s] w fun e w' => e=.returned (.tuple #[.int .i64 X,.int .i64 E])∧Below w.heap.size w w':=by
 cases ok
 ·have eX:Hid (X=0):=by unfold Hid;rw [hX.o];rfl
  have eE:Hid (E=3):=by unfold Hid;rw [hE.o];rfl
  go_enter Tryz.func144,Tryz.ntmps144
  go_wp2_with (first
    | (go_at_call 200;refine CC.o.mono ?_;rintro e w' ⟨rfl,rfl⟩)
    | (go_at_call 201;refine CR.o.mono ?_;rintro e w' ⟨rfl,rfl⟩))
  go_ret2
  exact ⟨by rw [eX.o,eE.o];rfl,b0 _⟩
 cases neg
 ·have em:Hid (n * P=m):=by unfold Hid;rw [hm.o];rfl
  have im:In m:=by rw [← em.o];exact JM (by omega) (by omega) (by omega) (by omega)
  cases hr:rg m
  ·have eX:Hid (X=0):=by unfold Hid;rw [hX.o,hr];rfl
   have eE:Hid (E=2):=by unfold Hid;rw [hE.o,hr];rfl
   go_enter Tryz.func144,Tryz.ntmps144
   go_wp2_with (first
     | (go_at_call 200;refine CC.o.mono ?_;rintro e w' ⟨rfl,rfl⟩)
     | (go_at_call 201;refine CR.o.mono ?_;rintro e w' ⟨rfl,rfl⟩))
   refine (zX n P _ (by omega) (by omega) (by omega) (by omega)).mono ?_;rw [em.o];rintro e w1 ⟨rfl,k1⟩;go_wp2_with fail;refine (lg im _).mono ?_;rw [hr];rintro e w2 ⟨rfl,k2⟩;replace k2:=ak k1 k2;go_wp2_with fail
   go_ret2
   exact ⟨by rw [eX.o,eE.o];rfl,k2⟩
  have eX:Hid (X=m):=by unfold Hid;rw [hX.o,hr];rfl
  have eE:Hid (E=0):=by unfold Hid;rw [hE.o,hr];rfl
  go_enter Tryz.func144,Tryz.ntmps144
  go_wp2_with (first
    | (go_at_call 200;refine CC.o.mono ?_;rintro e w' ⟨rfl,rfl⟩)
    | (go_at_call 201;refine CR.o.mono ?_;rintro e w' ⟨rfl,rfl⟩))
  refine (zX n P _ (by omega) (by omega) (by omega) (by omega)).mono ?_;rw [em.o];rintro e w1 ⟨rfl,k1⟩;go_wp2_with fail;refine (lg im _).mono ?_;rw [hr,vY hr];rintro e w2 ⟨rfl,k2⟩;replace k2:=ak k1 k2;go_wp2_with fail
  go_ret2
  exact ⟨by rw [eX.o,eE.o];rfl,k2⟩
 have em:Hid (-n * P=m):=by unfold Hid;rw [hm.o];rfl
 have im:In m:=by rw [← em.o];exact JM (by omega) (by omega) (by omega) (by omega)
 cases hr:rg m
 ·have eX:Hid (X=0):=by unfold Hid;rw [hX.o,hr];rfl
  have eE:Hid (E=2):=by unfold Hid;rw [hE.o,hr];rfl
  go_enter Tryz.func144,Tryz.ntmps144
  go_wp2_with (first
    | (go_at_call 200;refine CC.o.mono ?_;rintro e w' ⟨rfl,rfl⟩)
    | (go_at_call 201;refine CR.o.mono ?_;rintro e w' ⟨rfl,rfl⟩))
  refine (zX (-n) P _ (by omega) (by omega) (by omega) (by omega)).mono ?_;rw [em.o];rintro e w1 ⟨rfl,k1⟩;go_wp2_with fail;refine (lg im _).mono ?_;rw [hr];rintro e w2 ⟨rfl,k2⟩;replace k2:=ak k1 k2;go_wp2_with fail
  go_ret2
  exact ⟨by rw [eX.o,eE.o];rfl,k2⟩
 have eX:Hid (X=m):=by unfold Hid;rw [hX.o,hr];rfl
 have eE:Hid (E=0):=by unfold Hid;rw [hE.o,hr];rfl
 go_enter Tryz.func144,Tryz.ntmps144
 go_wp2_with (first
   | (go_at_call 200;refine CC.o.mono ?_;rintro e w' ⟨rfl,rfl⟩)
   | (go_at_call 201;refine CR.o.mono ?_;rintro e w' ⟨rfl,rfl⟩))
 refine (zX (-n) P _ (by omega) (by omega) (by omega) (by omega)).mono ?_;rw [em.o];rintro e w1 ⟨rfl,k1⟩;go_wp2_with fail;refine (lg im _).mono ?_;rw [hr,vY hr];rintro e w2 ⟨rfl,k2⟩;replace k2:=ak k1 k2;go_wp2_with fail
 go_ret2
 exact ⟨by rw [eX.o,eE.o];rfl,k2⟩
theorem zh (s:ByteArray) (w:World) (hs:s.size≤9223372036854775806) (hp:Lib.TabIs Tryz.prog w "asof/decimal.powers" .i64 lH) :
    Calls Tryz.prog 144 #[.string s] w fun e w' => e=.returned (.tuple #[.int .i64 (paX s.data.toList),.int .i64 (paE s.data.toList)])∧Below w.heap.size w w':=by
 obtain ⟨t,ht⟩:∃ t:ByteArray,t=⟨(Lib.trimPrefix s.data.toList (⟨#[45]⟩:ByteArray).data.toList).toArray⟩:=⟨_,rfl⟩;have htl:t.data.toList=Lib.trimPrefix s.data.toList [45]:=by rw [ht]
 have hts:t.size≤9223372036854775806:=by
  have h1:t.size=t.data.toList.length:=(Lib.size_eq t);have h2:=Lib.trimPrefix_le s.data.toList [45];have h3:s.size=s.data.toList.length:=(Lib.size_eq s);rw [htl] at h1;omega
 have CR:=xV t w hts;rw [htl] at CR;have CC:=Tryz.strings_CutPrefix s ⟨#[45]⟩ w;rw [← ht] at CC;obtain ⟨n0,n1,a0,a6⟩:=Dm (Lib.trimPrefix s.data.toList [45]);have hc:=hp.cell Ux (6 - (eu (Lib.trimPrefix s.data.toList [45])).2.1).toNat (by show _<7;omega);have hPr:=Jy a0 a6;exact Hg s t _ _ _ _ _ _ _ w CC CR n0 n1 a0 a6 hPr.1 hPr.2 hc (m:=uw s.data.toList) rfl rfl rfl
end dec
namespace dec
open Go.RowKit Go.Shelf Go.Sort Go.Lib
theorem holds_zero0 (w:World) (T:TypeId) (nd:Nat) (hs:nd≤24):Holds (fun (b:UInt8)=>Value.int .u8 (b.toNat:Int)) (w.alloc (.cells Lib.zeros24 T)) w.heap.size 0 (Array.replicate nd (0:UInt8)):=fun j hj=>by
 have hj':j<nd:=by simpa using hj
 refine ⟨?_,World.frozen?_alloc_new _ _ _ _⟩
 rw [World.cell?_alloc_new,Lib.zeros24_at _ (by omega),getElem!_pos _ j hj]
 simp
theorem below_putRow (w:World) (o:Obj) (dk:Array UInt8) (k:Nat):Below w.heap.size w ((putRow (fun (b:UInt8)=>Value.int .u8 (b.toNat:Int)) (w.alloc o) w.heap.size 0 dk).drewN k):=by
 rw [alloc_eq_grow];obtain ⟨os',_,e⟩:=putRow_grow_new (fun (b:UInt8)=>Value.int .u8 (b.toNat:Int)) w #[o] w.heap.size 0 dk lr;rw [e];have h:Below w.heap.size w (grow w os'):=by
  exact below_regrown w w.drawn os'
 exact below_drewN' h k
theorem KE (u:Nat) (hu64:u<18446744073709551616) (w:World) (htab:Lib.TabIs Tryz.prog w "internal/strconv.uint64pow10" .u64 Lib.pow10Tab) :
    Calls Tryz.prog 313 #[.int .u64 u,.int .i64 10] w fun e w' => e=.returned (.string ⟨(Lib.decDigits u).toArray⟩)∧Below w.heap.size w w':=by
 by_cases hs:u<100
 ·go_enter Tryz.func313,Tryz.ntmps313
  go_wp2_with (go_at_call 232;refine (Tryz.internal_strconv_small u hs _).mono ?_;rintro e w' ⟨rfl,rfl⟩);go_ret;exact ⟨rfl,b0 _⟩
 have hu1:1≤u:=by omega
 have hnd20:Lib.nDigits u≤20:=by have:=Lib.numDigits_eq u hu1 hu64;split at this <;> omega
 have hb3:Lib.nDigits u≤24:=by omega
 have hal:Tryz.prog.arrayLen 235=24:=by kernel_rfl
 have hsl1:∀ W,(Instr.sliceAt 235 (.pointer (some ⟨w.heap.size,0,none⟩)) none (some (.int .i64 (Lib.nDigits u:Int))) none).run Tryz.prog W=.ok (.slice (some ⟨w.heap.size,0,none⟩) (Lib.nDigits u) 24) W:=fun W=>by
  rw [run_sliceAt_array_h W 235 ⟨w.heap.size,0,none⟩ (by kernel_rfl) .i64 (Lib.nDigits u:Int) (by omega) (by rw [hal];omega)];go_simp
 have hH0:=holds_zero0 w 235 (Lib.nDigits u) hb3;have hfmt:=Tryz.internal_strconv_formatBase10 w.heap.size 0 24 u (Array.replicate (Lib.nDigits u) 0) (w.alloc (.cells Lib.zeros24 235)) hH0 (by rw [Array.size_replicate];exact Lib.lt_pow_nDigits u) hu64 (by rw [Array.size_replicate];omega);rw [Array.size_replicate] at hfmt;have HH0:=Hy hH0;clear hH0 hal
 go_enter Tryz.func313,Tryz.ntmps313
 go_wp2_with (first
   | (go_at_call 233;refine (Tryz.internal_strconv_numDigits u hu1 hu64 _ (Lib.tabIs_alloc htab _)).mono ?_;rintro e w' ⟨rfl,rfl⟩))
 go_at_call 234;refine hfmt.mono ?_;rintro e w' ⟨rfl,k,v',dk,rfl,hF⟩;have hcv:(convert 56 9 (.slice (some ⟨w.heap.size,0,none⟩) (Lib.nDigits u) 24)).run Tryz.prog ((putRow (fun (b:UInt8)=>Value.int .u8 (b.toNat:Int)) (w.alloc (.cells Lib.zeros24 235)) w.heap.size 0 dk).drewN k)=.ok (.string ⟨(Lib.decDigits u).toArray⟩) ((putRow (fun (b:UInt8)=>Value.int .u8 (b.toNat:Int)) (w.alloc (.cells Lib.zeros24 235)) w.heap.size 0 dk).drewN k):=by
  have h:=run_convert_bytes_back (P:=Tryz.prog) ((putRow (fun (b:UInt8)=>Value.int .u8 (b.toNat:Int)) (w.alloc (.cells Lib.zeros24 235)) w.heap.size 0 dk).drewN k) 56 9 5 ⟨w.heap.size,0,none⟩ 24 (Lib.decDigits u) uy56 uy5 uy9 (fun j hj=>by
    rw [Lib.row_is_numeral hF j hj,Lib.add_plain,World.cell?_drewN]
    exact cell?_putRow (fun (b:UInt8)=>Value.int .u8 (b.toNat:Int)) _ w.heap.size 0 _ dk HH0.o (by rw [hF.size,Array.size_replicate]) j (by rw [hF.size];rw [Lib.decDigits_length] at hj;exact hj))
  rw [Lib.decDigits_length] at h;exact h
 go_wp2;go_ret;exact ⟨rfl,below_putRow w _ dk k⟩
theorem FR (u:Int) (h0:0≤u) (h1:u≤18446744073709551615) (w:World) (htab:Lib.TabIs Tryz.prog w "internal/strconv.uint64pow10" .u64 Lib.pow10Tab) :
    Calls Tryz.prog 300 #[.int .u64 u,.int .i64 10] w fun e w' => e=.returned (.string ⟨(Lib.decDigits u.toNat).toArray⟩)∧Below w.heap.size w w':=by
 obtain ⟨n,rfl⟩:=Int.eq_ofNat_of_zero_le h0;have CI:=Hy (KE n (by omega) w htab)
 go_enter Tryz.func300,Tryz.ntmps300
 go_wp2_with fail;refine CI.o.mono ?_;rintro e w1 ⟨rfl,k1⟩;go_wp2_with fail;go_ret;exact ⟨rfl,k1⟩
def foX (x:Int):List UInt8:=(if x<0 then [45] else [])++Lib.decDigits (x.natAbs / 1000000)++[46]++(Lib.decDigits (1000000+x.natAbs % 1000000)).drop 1
theorem Gg (u:Nat) (h:u<18446744073709551616):1≤(Lib.decDigits u).length∧(Lib.decDigits u).length≤20:=by
 rw [Lib.decDigits_length];refine ⟨Lib.nDigits_pos u,?_⟩;by_cases hu:1≤u
 ·have:=Lib.numDigits_eq u hu h;split at this <;> omega
 rw [Lib.nDigits_small (by omega)];decide
theorem Ja (l:List UInt8) (h:1≤l.length) (W:World):(Instr.slice 9 (.string ⟨l.toArray⟩) (some (.int .i64 1)) none none).run Tryz.prog W=.ok (.string ⟨(l.drop 1).toArray⟩) W:=by
 have e:(ByteArray.mk l.toArray).size=l.length:=by show l.toArray.size=_;simp
 rw [run_slice_string_from_if W 9 ⟨l.toArray⟩ .i64 _ uy9,if_pos ⟨by omega,by rw [e];omega⟩];congr 2;apply ByteArray.ext;apply Array.ext';rw [Lib.extract_data];simp only [e];show ((l.toArray.toList.drop 1).take (l.length - 1))=_;rw [L_q (by simp)]
theorem j6 (x y:List UInt8) (hx:x.length≤100) (hy:y.length≤100) (W:World):(Op.stringOp .add ⟨x.toArray⟩ ⟨y.toArray⟩).run Tryz.prog W=.ok (.string ⟨(x++y).toArray⟩) W:=run_string_add_lists W x y (by omega) (by omega)
theorem NG {x:Int} (h1 : -9223372036854775808≤x) (h2:x≤9223372036854775807) :
    (x<0→IntKind.u64.wrap (-IntKind.u64.wrap x)=(x.natAbs:Int))∧(0≤x→IntKind.u64.wrap x=(x.natAbs:Int)):=by
 rw [IntKind.wrap_u64,IntKind.wrap_u64];constructor
 ·intro h;omega
 intro h;omega
theorem tab_stays {w w':World} {n:String} {k:IntKind} {zs:List Int} (h:Lib.TabIs Tryz.prog w n k zs) (hb:Below w.heap.size w w'):Lib.TabIs Tryz.prog w' n k zs:=by
 unfold Lib.TabIs at *
 cases hg:Tryz.prog.globalNamed n with
 | none=>unfold World.var? at h;simp [hg] at h
 | some g=>exact Go.Joins.var_stays hg h hb lr
theorem qh (x:Int) (h1 : -9223372036854775808≤x) (h2:x≤9223372036854775807) (w:World) (htab:Lib.TabIs Tryz.prog w "internal/strconv.uint64pow10" .u64 Lib.pow10Tab) :
    Calls Tryz.prog 269 #[.int .i64 x] w fun e w' => e=.returned (.string ⟨(foX x).toArray⟩)∧Below w.heap.size w w':=by
 have haw:=NG h1 h2;obtain ⟨u,hu⟩:∃ u:Nat,u=x.natAbs:=⟨_,rfl⟩;have hu64:u≤9223372036854775808:=by omega
 have hf:Hid (foX x=(if x<0 then [45] else [])++Lib.decDigits (u / 1000000)++[46]++(Lib.decDigits (1000000+u % 1000000)).drop 1):=by unfold Hid foX;rw [← hu]
 rw [← hu] at haw;have CA:=Hy (FR ((1000000+u % 1000000:Nat):Int) (by omega) (by omega) w htab);have CB:=Hy (fun w' hb=>FR ((u / 1000000:Nat):Int) (by omega) (by omega) w' (tab_stays htab hb));have la:=Gg (1000000+u % 1000000) (by omega);have lb:=Gg (u / 1000000) (by omega);have e1:(((1000000+u % 1000000:Nat):Int)).toNat=1000000+u % 1000000:=by omega
 have e2:(((u / 1000000:Nat):Int)).toNat=u / 1000000:=by omega
 rw [e1] at CA;rw [e2] at CB;clear e1 e2 hu;generalize Lib.decDigits (1000000+u % 1000000)=a at *;generalize Lib.decDigits (u / 1000000)=b at *;have hsl:=Ja a la.1;have q1:((1000000+u % 1000000:Nat):Int)=1000000+(u:Int) % 1000000:=by omega
 have q2:((u / 1000000:Nat):Int)=(u:Int) / 1000000:=by omega
 rw [q1] at CA;rw [q2] at CB;clear q1 q2;have hl3:(a.drop 1).length≤20:=by simp;omega
 generalize a.drop 1=c at *;by_cases hx:x<0
 ·have hw:=haw.1 hx;obtain ⟨d1,hd1⟩:∃ d1:List UInt8,d1=[45]++b:=⟨_,rfl⟩;obtain ⟨d2,hd2⟩:∃ d2:List UInt8,d2=d1++[46]:=⟨_,rfl⟩;obtain ⟨d3,hd3⟩:∃ d3:List UInt8,d3=d2++c:=⟨_,rfl⟩;have l1:d1.length≤21:=by rw [hd1];simp;omega
  have l2:d2.length≤22:=by rw [hd2];simp;omega
  have p1:∀ W,(Op.stringOp .add ⟨#[45]⟩ ⟨b.toArray⟩).run Tryz.prog W=.ok (.string ⟨d1.toArray⟩) W:=fun W=>by rw [hd1];exact j6 [45] b (by simp) (by omega) W
  have p2:∀ W,(Op.stringOp .add ⟨d1.toArray⟩ ⟨#[46]⟩).run Tryz.prog W=.ok (.string ⟨d2.toArray⟩) W:=fun W=>by rw [hd2];exact j6 d1 [46] (by omega) (by simp) W
  have p3:∀ W,(Op.stringOp .add ⟨d2.toArray⟩ ⟨c.toArray⟩).run Tryz.prog W=.ok (.string ⟨d3.toArray⟩) W:=fun W=>by rw [hd3];exact j6 d2 c (by omega) (by omega) W
  have hf2:Hid (foX x=d3):=by unfold Hid;rw [hf.o,if_pos hx,hd3,hd2,hd1]
  clear hf haw hd1 hd2 hd3
  go_enter Tryz.func269,Tryz.ntmps269
  go_wp2_with fail;refine CA.o.mono ?_;rintro e w1 ⟨rfl,k1⟩;go_wp2_with fail;refine (CB.o _ k1).mono ?_;rintro e w2 ⟨rfl,k2⟩;replace k2:=ak k1 k2;go_wp2_with fail;go_ret;exact ⟨by rw [hf2.o];rfl,k2⟩
 have hw:=haw.2 (by omega);obtain ⟨d1,hd1⟩:∃ d1:List UInt8,d1=[]++b:=⟨_,rfl⟩;obtain ⟨d2,hd2⟩:∃ d2:List UInt8,d2=d1++[46]:=⟨_,rfl⟩;obtain ⟨d3,hd3⟩:∃ d3:List UInt8,d3=d2++c:=⟨_,rfl⟩;have l1:d1.length≤21:=by rw [hd1];simp;omega
 have l2:d2.length≤22:=by rw [hd2];simp;omega
 have p1:∀ W,(Op.stringOp .add ⟨#[]⟩ ⟨b.toArray⟩).run Tryz.prog W=.ok (.string ⟨d1.toArray⟩) W:=fun W=>by rw [hd1];exact j6 [] b (by simp) (by omega) W
 have p2:∀ W,(Op.stringOp .add ⟨d1.toArray⟩ ⟨#[46]⟩).run Tryz.prog W=.ok (.string ⟨d2.toArray⟩) W:=fun W=>by rw [hd2];exact j6 d1 [46] (by omega) (by simp) W
 have p3:∀ W,(Op.stringOp .add ⟨d2.toArray⟩ ⟨c.toArray⟩).run Tryz.prog W=.ok (.string ⟨d3.toArray⟩) W:=fun W=>by rw [hd3];exact j6 d2 c (by omega) (by omega) W
 have hf2:Hid (foX x=d3):=by unfold Hid;rw [hf.o,if_neg hx,hd3,hd2,hd1]
 clear hf haw hd1 hd2 hd3
 go_enter Tryz.func269,Tryz.ntmps269
 go_wp2_with fail;refine CA.o.mono ?_;rintro e w1 ⟨rfl,k1⟩;go_wp2_with fail;refine (CB.o _ k1).mono ?_;rintro e w2 ⟨rfl,k2⟩;replace k2:=ak k1 k2;go_wp2_with fail;go_ret;exact ⟨by rw [hf2.o];rfl,k2⟩
end dec
section
open dec
def dval (a:Nat) (l:List UInt8):Nat:=l.foldl (fun a c=>a * 10+(c.toNat - 48)) a
def isD (c:UInt8):Bool:=decide (48≤c.toNat) && decide (c.toNat≤57)
theorem jw (c:UInt8):isD c=true↔48≤c.toNat∧c.toNat≤57:=by unfold isD;rw [L_d,L_c,L_c]
theorem iB (a:Nat) (c:UInt8) (l:List UInt8):dval a (c :: l)=dval (a * 10+(c.toNat - 48)) l:=by unfold dval;rw [List.foldl_cons]
theorem DU (a:Nat) (l r:List UInt8):dval a (l++r)=dval (dval a l) r:=by unfold dval;rw [List.foldl_append]
theorem sO:∀ (l:List UInt8) (a:Nat),a≤dval a l
 | [],a=>Nat.le_refl a
 | c :: l,a=>by
  have:=sO l (a * 10+(c.toNat - 48))
  rw [iB]
  omega
theorem pI {d:Nat} (h:d<10):(UInt8.ofNat (48+d)).toNat=48+d:=by
 rw [UInt8.toNat_ofNat'];omega
theorem ql (u:Nat):dval 0 (Lib.decDigits u)=u:=by
 induction u using Nat.strongRecOn with
 | _ u ih =>
   by_cases h:u<10
   · rw [Lib.decDigits,dif_pos h,iB,pI h]
     show 0 * 10+(48+u - 48)=u
     omega
   · rw [Lib.decDigits,dif_neg h,DU,ih (u / 10) (by omega),iB,pI (by omega)]
     show u / 10 * 10+(48+u % 10 - 48)=u
     omega
theorem kW (u:Nat):∀ c ∈ Lib.decDigits u,isD c=true:=by
 induction u using Nat.strongRecOn with
 | _ u ih =>
   intro c hc
   by_cases h:u<10
   · rw [Lib.decDigits,dif_pos h,List.mem_singleton] at hc
     subst hc
     rw [jw,pI h]
     omega
   · rw [Lib.decDigits,dif_neg h,List.mem_append,List.mem_singleton] at hc
     rcases hc with hc | hc
     · exact ih (u / 10) (by omega) c hc
     · subst hc
       rw [jw,pI (by omega)]
       omega
theorem jT (u:Nat):∃ c r,Lib.decDigits u=c :: r:=by
 have h:(Lib.decDigits u).length=Lib.nDigits u:=Lib.decDigits_length u;have:=Lib.nDigits_pos u
 cases hd:Lib.decDigits u with
 | nil=>rw [hd] at h;simp at h;omega
 | cons c r=>exact ⟨c,r,rfl⟩
theorem KW (u j:Nat):(Lib.dg u j).toNat=48+u / 10 ^ j % 10:=pI (by omega)
theorem UN (u j:Nat):isD (Lib.dg u j)=true:=by rw [jw,KW];omega
def iM (u:Nat):List UInt8:=[Lib.dg u 5,Lib.dg u 4,Lib.dg u 3,Lib.dg u 2,Lib.dg u 1,Lib.dg u 0]
theorem QO {r:Nat} (h:r<1000000):(Lib.decDigits (1000000+r)).drop 1=iM (1000000+r):=by
 have hn:Lib.nDigits (1000000+r)=7:=Lib.nDigits_unique 6 _ (by omega) (by omega);rw [Lib.decDigits_eq,hn];rfl
theorem pJ (u j:Nat) (hj:j<6):Lib.dg (1000000+u % 1000000) j=Lib.dg u j:=by
 unfold Lib.dg;congr 2;obtain rfl | rfl | rfl | rfl | rfl | rfl:j=0∨j=1∨j=2∨j=3∨j=4∨j=5:=by omega
 all_goals omega
theorem MV (u:Nat):iM (1000000+u % 1000000)=iM u:=by
 unfold iM;rw [pJ u 5 (by omega),pJ u 4 (by omega),pJ u 3 (by omega),pJ u 2 (by omega),pJ u 1 (by omega),pJ u 0 (by omega)]
theorem Kl (u q:Nat):dval q (iM u)=q * 1000000+u % 1000000:=by
 unfold iM dval;simp only [List.foldl_cons,List.foldl_nil,KW];have h5:(10:Nat) ^ 5=100000:=rfl;have h4:(10:Nat) ^ 4=10000:=rfl;have h3:(10:Nat) ^ 3=1000:=rfl;have h2:(10:Nat) ^ 2=100:=rfl;have h1:(10:Nat) ^ 1=10:=rfl;have h0:(10:Nat) ^ 0=1:=rfl;rw [h5,h4,h3,h2,h1,h0];omega
theorem Ce (u:Nat):∀ c ∈ iM u,isD c=true:=by
 intro c hc;simp only [iM,List.mem_cons,List.not_mem_nil,or_false] at hc;rcases hc with h | h | h | h | h | h <;> (subst h;exact UN _ _)
theorem uM (u:Nat):(iM u).length=6:=rfl
def bod (u:Nat):List UInt8:=Lib.decDigits (u / 1000000)++46 :: iM u
theorem zZ (x:Int):foX x=(if x<0 then [45] else [])++bod x.natAbs:=by
 unfold foX bod;rw [QO (Nat.mod_lt _ (by decide)),MV];simp only [L_i,L_g,List.nil_append]
theorem tu:∀ (l:List UInt8) (a:Nat),(∀ c ∈ l,isD c=true)→dval a l<18446744073709551616→Lib.parseUint10 a l=.ok (dval a l)
 | [],a,_,_=>rfl
 | c :: r,a,h,hv=>by
  have h1:=(jw c).1 (h c (L_e ..))
  rw [iB] at hv
  have h2:=sO r (a * 10+(c.toNat - 48))
  rw [Lib.parseUint10,if_pos h1,if_neg (by omega),if_neg (by omega),iB]
  exact tu r _ (fun d hd=>h d (L_h _ hd)) hv
theorem Fh {u:Nat} (h:u<18446744073709551616):Lib.parseMag (Lib.decDigits u)=.ok u:=by
 obtain ⟨c,r,hcr⟩:=jT u;unfold Lib.parseMag;rw [if_neg (by rw [hcr];simp),tu _ 0 (kW u) (by rw [ql];exact h),ql]
def kL (l:List UInt8):Int :=
 match Lib.atoiAll l with
 | .ok v=>v
 | Lib.NumEnd.syntax=>0
 | .range=>Lib.atoiSat l
theorem Lc {n:Int} (h1 : -9223372036854775808≤n) (h2:n≤9223372036854775807):kL (Lib.itoa n)=n:=by
 unfold kL Lib.itoa;by_cases hn:n<0
 ·rw [if_pos hn,Lib.atoiAll_minus,Fh (by omega)];simp only [Lib.signed];rw [if_neg (by omega)];simp only;omega
 rw [if_neg hn];obtain ⟨c,r,hcr⟩:=jT n.toNat;have hc:=(jw c).1 (kW n.toNat c (by rw [hcr];exact L_e ..));have hm:=Fh (u:=n.toNat) (by omega);rw [hcr] at hm ⊢;rw [Lib.atoiAll_plain c r (by omega) (by omega),hm];simp only [Lib.signless];rw [if_neg (by omega)];simp only;omega
theorem rU {l r:List UInt8} {i:Nat} {c:UInt8} (h:l.drop i=c :: r):i<l.length∧dX l i=(c.toNat:Int)∧l.drop (i+1)=r:=by
 have hi:i<l.length:=by
  rcases Nat.lt_or_ge i l.length with h0 | h0
  ·exact h0
  rw [List.drop_eq_nil_of_le h0] at h;cases h
 rw [List.drop_eq_getElem_cons hi] at h;injection h with h1 h2
 refine ⟨hi,?_,h2⟩;unfold dX;rw [List.getD_eq_getElem?_getD,List.getElem?_eq_getElem hi,h1];rfl
theorem qQ (l:List UInt8):∀ (ds r:List UInt8) (k i a p:Nat),l.drop i=ds++r→(∀ c ∈ ds,isD c=true)→dval a ds≤1152921504606846976 →
  dec.rd l (k+ds.length) i (a:Int) p=dec.rd l k (i+ds.length) ((dval a ds:Nat):Int) p
 | [],r,k,i,a,p,_,_,_=>rfl
 | c :: ds,r,k,i,a,p,h,hd,hv=>by
  obtain ⟨hi,hb,hr⟩:=rU h
  have hc:=(jw c).1 (hd c (L_e ..))
  rw [iB] at hv
  have hg:=sO ds (a * 10+(c.toNat - 48))
  have hw:wd (a:Int) (dX l i - 48)=((a * 10+(c.toNat - 48):Nat):Int):=by
   unfold wd
   rw [if_neg (by omega),hb]
   omega
  rw [L_b,← Nat.add_assoc,dec.rd,if_pos hi,if_pos (by rw [hb];omega),hw,qQ l ds r k (i+1) _ p hr (fun d hd' => hd d (L_h _ hd')) hv,iB,Nat.add_assoc,Nat.add_comm 1]
theorem Jl {u:Nat} (hu:u≤1152921504606846976):eu (bod u)=((u:Int),6,true):=by
 obtain ⟨D,hD⟩:∃ D,D=Lib.decDigits (u / 1000000):=⟨_,rfl⟩;have hlen:(bod u).length=D.length+7:=by unfold bod;rw [← hD];simp [uM]
 have hpos:1≤D.length:=by rw [hD,Lib.decDigits_length];exact Lib.nDigits_pos _
 have hb:bod u=D++46 :: iM u:=by rw [hD];rfl
 have hv:dval 0 D=u / 1000000:=by rw [hD];exact ql _
 have hf:dval (u / 1000000) (iM u)=u:=by rw [Kl];omega
 unfold eu;have s1:=qQ (bod u) D (46 :: iM u) 7 0 0 (bod u).length (by rw [hb];rfl) (by rw [hD];exact kW _) (by rw [hv];omega);rw [hv,Nat.zero_add] at s1;have hdr:(bod u).drop D.length=46 :: iM u:=by rw [hb,List.drop_left]
 obtain ⟨h1,h2,h3⟩:=rU hdr;have e46:dX (bod u) D.length=46:=by rw [h2];rfl
 have s2:dec.rd (bod u) 7 D.length ((u / 1000000:Nat):Int) (bod u).length=dec.rd (bod u) 6 (D.length+1) ((u / 1000000:Nat):Int) D.length:=by
  rw [show 7=6+1 from rfl,dec.rd,if_pos h1,if_neg (by omega),if_pos ⟨e46,rfl⟩]
 have s3:=qQ (bod u) (iM u) [] 0 (D.length+1) (u / 1000000) D.length (by rw [h3,L_n]) (Ce u) (by rw [hf];exact hu);rw [hf,uM,Nat.zero_add] at s3;have s4:dec.rd (bod u) (bod u).length 0 0 (bod u).length=(D.length+7,(u:Int),D.length):=by
  rw [show dec.rd (bod u) (bod u).length 0 0 (bod u).length=dec.rd (bod u) (7+D.length) 0 ((0:Nat):Int) (bod u).length by rw [hlen,Nat.add_comm];rfl,s1,s2,s3];rfl
 rw [s4];unfold ko;simp only;rw [hlen,if_neg (by omega),if_neg (by omega),if_neg (by omega)];congr 2;omega
theorem NA (u:Nat):∃ c r,bod u=c :: r∧isD c=true:=by
 obtain ⟨c,r,h⟩:=jT (u / 1000000);exact ⟨c,r++46 :: iM u,by unfold bod;rw [h];rfl,kW _ c (by rw [h];exact L_e ..)⟩
theorem Ju (l:List UInt8):Lib.hasPrefix (45 :: l) [45]=true∧Lib.trimPrefix (45 :: l) [45]=l:=by
 constructor
 ·simp [Lib.hasPrefix,List.isPrefixOf]
 simp [Lib.trimPrefix,Lib.hasPrefix,List.isPrefixOf]
theorem Jt {c:UInt8} (h:c≠45) (l:List UInt8):Lib.hasPrefix (c :: l) [45]=false∧Lib.trimPrefix (c :: l) [45]=c :: l:=by
 have e:((45:UInt8)==c)=false:=by rw [L_m];exact fun h' => h h'.symm
 have h1:Lib.hasPrefix (c :: l) [45]=false:=by simp [Lib.hasPrefix,List.isPrefixOf,e]
 exact ⟨h1,by unfold Lib.trimPrefix;rw [h1];rfl⟩
theorem Dy {c:UInt8} {n:Nat} (hn:n<256) (h:c.toNat≠n):c≠UInt8.ofNat n:=by
 intro e;subst e;apply h;rw [UInt8.toNat_ofNat'];omega
theorem NS {x:Int} (h1 : -1152921504606846976≤x) (h2:x≤1152921504606846976):paX (foX x)=x∧paE (foX x)=0:=by
 have hr:=(mX x).2 ⟨h1,h2⟩;have hall:=Jl (u:=x.natAbs) (by omega);have hpm:Lib.trimPrefix (foX x) [45]=bod x.natAbs∧uw (foX x)=x:=by
  rw [zZ];by_cases hx:x<0
  ·rw [if_pos hx,List.singleton_append];obtain ⟨p1,p2⟩:=Ju (bod x.natAbs);refine ⟨p2,?_⟩;unfold uw;rw [p1,p2,hall];simp [lH];omega
  rw [if_neg hx,List.nil_append];obtain ⟨c,r,hcr,hc⟩:=NA x.natAbs;rw [jw] at hc;have hne:c≠45:=Dy (n:=45) (by decide) (by omega);rw [hcr];obtain ⟨p1,p2⟩:=Jt hne r;refine ⟨p2,?_⟩;unfold uw;rw [p1,p2,← hcr,hall];simp [lH];omega
 unfold paX paE;rw [hpm.1,hpm.2,hall,hr];exact ⟨rfl,rfl⟩
def sat (x d:Nat):Nat:=min (10 * min x 115292150460684698+d) 1152921504606846977
def stp (q:Nat × Int) (c:UInt8):Nat × Int :=
 let b:=if c=46 then 0 else q.2
 if isD c then (sat q.1 (c.toNat - 48),if 0≤b then b+1 else b) else (q.1,b)
structure Va where
 k:Int
 n:Int
 s:ByteArray
theorem Va.ext' {a b:Va} (h1:a.k=b.k) (h2:a.n=b.n) (h3:a.s=b.s):a=b:=by cases a;cases b;simp_all
instance:DecidableEq Va:=fun a b=>decidable_of_iff (a.k=b.k∧a.n=b.n∧a.s=b.s) ⟨fun h=>Va.ext' h.1 h.2.1 h.2.2,fun h=>by subst h;exact ⟨rfl,rfl,rfl⟩⟩
def okB (lo:Nat) (c:UInt8):Bool:=decide (lo≤c.toNat) && decide (c.toNat≤126) && !decide (c.toNat=34) && !decide (c.toNat=92)
def pB (lo:Nat) (l:List UInt8):Bool:=l.all (okB lo)
def fmd (v:Va):Bool :=
 if v.k=0 then decide (v.n=0) && decide (v.s.size=0)
 else if v.k=1 then (decide (v.n=0) || decide (v.n=1)) && decide (v.s.size=0)
 else if v.k=2∨v.k=3 then decide (v.s.size=0)
 else if v.k=4∨v.k=5 then decide (v.n=0)
 else false
def lmt (v:Va):Bool :=
 if v.k=2∨v.k=3 then rg v.n
 else if v.k=4 then decide (v.s.size≤64)
 else if v.k=5 then decide (v.s.size≤32)
 else true
def spl (v:Va):Bool :=
 if v.k=4 then pB 32 v.s.data.toList
 else if v.k=5 then !decide (v.s.size=0) && pB 33 v.s.data.toList
 else true
def ck (v:Va):Int:=if fmd v then (if lmt v then (if spl v then 0 else 3) else 2) else 1
def ok (v:Va):Bool:=decide (ck v=0)
theorem lI (v:Va):ok v=true↔fmd v=true∧lmt v=true∧spl v=true:=by
 unfold ok ck;cases fmd v <;> cases lmt v <;> cases spl v <;> simp
theorem WU {v:Va} (h:ok v=true):ck v=0:=by unfold ok at h;exact of_decide_eq_true h
theorem nN {s:ByteArray} (h:s.size=0):s=.empty:=by
 cases s with
 | mk d =>
   have:d.size=0:=h
   rw [Array.eq_empty_of_size_eq_zero this]
   rfl
theorem Bo {v:Va} (h:ok v=true):v=⟨0,0,.empty⟩∨v=⟨1,0,.empty⟩∨v=⟨1,1,.empty⟩∨(∃ n,v=⟨2,n,.empty⟩∧-1152921504606846976≤n∧n≤1152921504606846976)∨(∃ n,v=⟨3,n,.empty⟩∧-1152921504606846976≤n∧n≤1152921504606846976) ∨
    (∃ s,v=⟨4,0,s⟩∧s.size≤64∧pB 32 s.data.toList=true)∨∃ s,v=⟨5,0,s⟩∧1≤s.size∧s.size≤32∧pB 33 s.data.toList=true:=by
 obtain ⟨h1,h2,h3⟩:=(lI v).1 h;obtain ⟨k,n,s⟩:=v;unfold fmd lmt spl at *;simp only at h1 h2 h3;by_cases k0:k=0
 ·subst k0;simp at h1;exact .inl (Va.ext' rfl h1.1 h1.2)
 by_cases k1:k=1
 ·subst k1;simp at h1;rcases h1.1 with e | e
  ·exact .inr (.inl (Va.ext' rfl e h1.2))
  exact .inr (.inr (.inl (Va.ext' rfl e h1.2)))
 by_cases k2:k=2
 ·subst k2;simp [mX] at h1 h2;exact .inr (.inr (.inr (.inl ⟨n,Va.ext' rfl rfl h1,h2.1,h2.2⟩)))
 by_cases k3:k=3
 ·subst k3;simp [mX] at h1 h2;exact .inr (.inr (.inr (.inr (.inl ⟨n,Va.ext' rfl rfl h1,h2.1,h2.2⟩))))
 by_cases k4:k=4
 ·subst k4;simp at h1 h2 h3;exact .inr (.inr (.inr (.inr (.inr (.inl ⟨s,Va.ext' rfl h1 rfl,h2,h3⟩)))))
 by_cases k5:k=5
 ·subst k5;simp at h1 h2 h3;exact .inr (.inr (.inr (.inr (.inr (.inr ⟨s,Va.ext' rfl h1 rfl,Nat.pos_of_ne_zero fun h=>h3.1 (nN h),h2,h3.2⟩)))))
 simp [k0,k1,k2,k3,k4,k5] at h1
theorem yg {s:ByteArray} (h1:s.size≤64) (h2:pB 32 s.data.toList=true):ok ⟨4,0,s⟩=true:=by rw [lI];simp [fmd,lmt,spl,h1,h2]
theorem Tw {s:ByteArray} (h0:1≤s.size) (h1:s.size≤32) (h2:pB 33 s.data.toList=true):ok ⟨5,0,s⟩=true:=by
 rw [lI];have:¬ s=.empty:=fun e=>by rw [e] at h0;exact absurd h0 (by decide)
 simp [fmd,lmt,spl,h1,h2,this]
theorem ok_int {n:Int} (h1 : -1152921504606846976≤n) (h2:n≤1152921504606846976):ok ⟨2,n,.empty⟩=true:=by
 rw [lI];have:=(mX n).2 ⟨h1,h2⟩;simp [fmd,lmt,spl,this]
theorem Tz {n:Int} (h1 : -1152921504606846976≤n) (h2:n≤1152921504606846976):ok ⟨3,n,.empty⟩=true:=by
 rw [lI];have:=(mX n).2 ⟨h1,h2⟩;simp [fmd,lmt,spl,this]
def fmV (v:Va):List UInt8 :=
 if v.k=1 then (if v.n=1 then [116,114,117,101] else [102,97,108,115,101])
 else if v.k=2 then Lib.itoa v.n
 else if v.k=3 then foX v.n
 else if v.k=4 then 34 :: (v.s.data.toList++[34])
 else if v.k=5 then 64 :: v.s.data.toList
 else [110,117,108,108]
def fm (v:Va):List UInt8:=if ok v then fmV v else []
theorem QS (n:Int):∃ c r,foX n=c :: r∧(c=45∨isD c=true)∧46 ∈ r:=by
 rw [zZ];obtain ⟨c,r,e⟩:=jT (n.natAbs / 1000000);have hc:=kW (n.natAbs / 1000000) c (by rw [e];exact L_e ..);by_cases h:n<0
 ·rw [if_pos h];exact ⟨45,bod n.natAbs,rfl,.inl rfl,by unfold bod;simp⟩
 rw [if_neg h];exact ⟨c,r++46 :: iM n.natAbs,by unfold bod;rw [e];rfl,.inr hc,by simp⟩
theorem yR (s:ByteArray):(⟨s.data.toList.toArray⟩:ByteArray)=s:=rfl
theorem iN {v:Va} (h:ok v=true):fm v=fmV v:=by unfold fm;rw [if_pos h]
theorem WM {v:Va} (h:ok v=false):fm v=[]:=by unfold fm;rw [h];rfl
end
section
def cI (x y:Int):Int:=Lib.compareInt x y
theorem qd:∀ (l:List UInt8),Op.bytesLess l l=false
 | []=>rfl
 | a :: x=>by rw [Op.bytesLess,qd x];simp
theorem Gr {a b:UInt8} : (a<b)=(a.toNat<b.toNat):=rfl
theorem Gt {a b:UInt8} : (a=b)=(a.toNat=b.toNat):=propext ⟨fun h=>by rw [h],fun h=>UInt8.toNat_inj.1 h⟩
theorem lK (a b:UInt8) (x y:List UInt8):Op.bytesLess (a :: x) (b :: y)=true↔a.toNat<b.toNat∨(a.toNat=b.toNat∧Op.bytesLess x y=true):=by
 rw [Op.bytesLess,Bool.or_eq_true,L_d,L_c,beq_iff_eq,Gr,Gt]
theorem sI:∀ (x y z:List UInt8),Op.bytesLess x y=true→Op.bytesLess y z=true→Op.bytesLess x z=true
 | [],[],z,h,_=>by cases h
 | [],b :: y,[],_,h=>by cases h
 | [],b :: y,c :: z,_,_=>rfl
 | a :: x,[],z,h,_=>by cases h
 | a :: x,b :: y,[],_,h=>by cases h
 | a :: x,b :: y,c :: z,h1,h2=>by
  rw [lK] at *
  rcases h1 with h1 | ⟨h1,h1'⟩ <;> rcases h2 with h2 | ⟨h2,h2'⟩
  ·omega
  ·omega
  ·omega
  ·exact .inr ⟨by omega,sI x y z h1' h2'⟩
theorem nk:∀ (x y:List UInt8),Op.bytesLess x y=false→x≠y→Op.bytesLess y x=true
 | [],[],_,h=>absurd rfl h
 | [],b :: y,h,_=>by cases h
 | a :: x,[],_,_=>rfl
 | a :: x,b :: y,h,hne=>by
  have h':¬ Op.bytesLess (a :: x) (b :: y)=true:=by rw [h];decide
  rw [lK] at h' ⊢
  by_cases e:a.toNat=b.toNat
  ·refine .inr ⟨e.symm,nk x y ?_ ?_⟩
   ·cases hx:Op.bytesLess x y
    ·rfl
    ·exact absurd (.inr ⟨e,hx⟩) h'
   ·intro hxy
    apply hne
    rw [hxy,UInt8.toNat_inj.1 e]
  ·exact .inl (by omega)
def cB (x y:List UInt8):Int:=if Op.bytesLess x y=true then -1 else if x=y then 0 else 1
def cS (a b:ByteArray):Int:=cB a.toList b.toList
theorem toList_inj {a b:ByteArray} (h:a.toList=b.toList):a=b:=by
 rw [ByteArray.toList_eq,ByteArray.toList_eq] at h;cases a;cases b;simp only at h;rw [Array.toList_inj.1 h]
end
section
open Go.RowKit dec
def rQ:List Int:=[0,0,0,0,0,0,0,0,0,1,2,0,0,1,0,0,0,0,0,0,0,0,0,0,0,0,0,0,0,0,0,0,1,0,7,3,0,0,0,0,8,8,8,8,8,8,0,8,5,5,5,5,5,5,5,5,5,5,8,8,8,8,0,0,8,0,0,0,0,0,0,0,0,0,0,0,0,0,0,0,0,0,0,0,0,0,0,0,0,0,0,8,0,8,8,6,0,4,4,4,4,4,4,4,4,4,4,4,4,4,4,4,4,4,4,4,4,4,4,4,4,4,4,8,0,8]
structure Tabs (w:World):Prop where
 pow:Lib.TabIs Tryz.prog w "asof/decimal.powers" .i64 lH
 ten:Lib.TabIs Tryz.prog w "internal/strconv.uint64pow10" .u64 Lib.pow10Tab
 syn:∃ tp p,w.var? Tryz.prog "strconv.ErrSyntax" = some #[.iface tp p]
 ran:∃ tp p,w.var? Tryz.prog "strconv.ErrRange" = some #[.iface tp p]
 cls:Lib.TabIs Tryz.prog w "asof/lexer.classes" .u8 rQ
theorem Uz:Tryz.prog.globalNamed "asof/lexer.classes" = some 1:=by kernel_rfl
theorem Ih:Tryz.prog.globalNamed "strconv.ErrSyntax" = some 7:=by kernel_rfl
theorem Ii:Tryz.prog.globalNamed "strconv.ErrRange" = some 8:=by kernel_rfl
theorem Tabs.stays {w w':World} (h:Tabs w) (hb:Below w.heap.size w w'):Tabs w':=by
 obtain ⟨tp,p,h1⟩:=h.syn;obtain ⟨tq,q,h2⟩:=h.ran;exact ⟨tab_stays h.pow hb,tab_stays h.ten hb,⟨tp,p,Go.Joins.var_stays Ih h1 hb lr⟩,⟨tq,q,Go.Joins.var_stays Ii h2 hb lr⟩,tab_stays h.cls hb⟩
theorem iW (w:World) (e:TypeId) (s:ByteArray):Below w.heap.size w (Lib.bytesWorld w e s):=by
 refine ⟨rfl,rfl,rfl,?_,fun j hj=>Lib.bytesWorld_at_old w e s j hj⟩;rw [Lib.bytesWorld_size];omega
theorem CY (s:ByteArray) (hs:s.size≤1048576) (w:World) (T:Tabs w) :
    Calls Tryz.prog 143 #[.string s] w fun e w' => ∃ x,e=.returned (.tuple #[.int .i64 (kL s.data.toList),x])∧Below w.heap.size w w':=by
 unfold kL;rcases h:Lib.atoiAll s.data.toList with v | _ | _
 ·refine (Tryz.strconv_Atoi_ok s (by omega) v h w).mono ?_;rintro e w' ⟨rfl,rfl | ⟨t,rfl⟩⟩
  ·exact ⟨_,rfl,b0 _⟩
  exact ⟨_,rfl,iW _ _ _⟩
 ·obtain ⟨tp,p,h1⟩:=T.syn;refine (Tryz.strconv_Atoi_syntax_var s (by omega) h tp p w h1).mono ?_;rintro e w' ⟨N,rfl,h2⟩;exact ⟨_,rfl,h2.2.2⟩
 obtain ⟨tp,p,h1⟩:=T.ran;refine (Tryz.strconv_Atoi_range_var s (by omega) h tp p w h1).mono ?_;rintro e w' ⟨N,rfl,h2⟩;exact ⟨_,rfl,h2.2.2⟩
end
section
open dec
def run (p:UInt8→Bool):List UInt8→Nat
 | []=>0
 | c :: r=>if p c=true then run p r+1 else 0
def isL (c:UInt8):Bool:=decide (97≤c.toNat) && decide (c.toNat≤122)
def isB (c:UInt8):Bool:=decide (c.toNat=9) || decide (c.toNat=10) || decide (c.toNat=13) || decide (c.toNat=32)
def isW (c:UInt8):Bool:=isL c || isD c || decide (c.toNat=95)
def isC (c:UInt8):Bool:=!decide (c.toNat=10)
def isQ (c:UInt8):Bool:=!decide (c.toNat=34) && !decide (c.toNat=10)
def isS (c:UInt8):Bool:=decide (c.toNat ∈ [123,125,40,41,91,93,44,58,59,61,60,43,45,42,47,94,64])
def sk:Bool→List UInt8→Nat
 | _,[]=>0
 | m,c :: r=>if ((m && isC c) || isB c || decide (c.toNat=35))=true then sk (isC c && (m || decide (c.toNat=35))) r+1 else 0
def sgn:List UInt8→Int × Nat
 | []=>(0,0)
 | c :: r=>if (c.toNat=61∨c.toNat=33∨c.toNat=60)∧r.head? = some 61 then (5,2) else if isS c=true then (5,1) else (0,1)
def pnt:List UInt8→Nat
 | []=>0
 | c :: r=>if c.toNat=46 then run isD r else 0
def shp:List UInt8→Int × Nat
 | []=>(0,0)
 | c :: r =>
  if isL c=true then (1,run isW (c :: r))
  else if isD c=true then
   (if pnt ((c :: r).drop (run isD (c :: r)))=0 then (2,run isD (c :: r)) else (3,run isD (c :: r)+1+pnt ((c :: r).drop (run isD (c :: r)))))
  else if c.toNat=34∧(r.drop (run isQ r)).head? = some 34 then (4,run isQ r+2)
  else sgn (c :: r)
def cont (k:Int) (p:List UInt8):List UInt8:=if k=4 then (p.drop 1).take (p.length - 2) else p
def txE (s:List UInt8):Int:=if 64<s.length then 2 else if pB 32 s=true then 0 else 3
def flt (k:Int) (p:List UInt8):Int :=
 if k=1 then (if 24<p.length then 2 else 0)
 else if k=2 then (if 1152921504606846976<dval 0 p then 2 else 0)
 else if k=3 then paE p
 else if k=4 then txE (cont k p)
 else if k=0 then 80
 else 0
structure Tk where
 k:Int
 t:ByteArray
 a:Int
abbrev Pb:=Int × Int
def so (x:Tk):List UInt8:=if x.k=4 then 34 :: (x.t.data.toList++[34]) else x.t.data.toList
theorem gZ (p:UInt8→Bool):∀ l:List UInt8,run p l≤l.length
 | []=>Nat.le_refl _
 | c :: r=>by
  have:=gZ p r
  unfold run
  rw [L_b]
  split <;> omega
theorem eT {p:UInt8→Bool} {d:UInt8} (h:p d=false) (r:List UInt8):∀ l:List UInt8,run p (l++d :: r)=run p l
 | []=>by simp [run,h]
 | c :: l=>by
  rw [L_g]
  unfold run
  rw [eT h r l]
theorem uj (p:UInt8→Bool):∀ (l:List UInt8) (n:Nat),run p (l.take n)=min n (run p l)
 | [],n=>by simp [run]
 | c :: l,0=>by simp [run]
 | c :: l,n+1=>by
  rw [List.take_succ_cons]
  unfold run
  rw [uj p l n]
  split <;> omega
theorem Jk (p:UInt8→Bool):∀ (l:List UInt8) (c:UInt8),(l.drop (run p l)).head? = some c→p c=false
 | [],c,h=>by simp [run] at h
 | d :: l,c,h=>by
  unfold run at h
  split at h
  ·rw [List.drop_succ_cons] at h
   exact Jk p l c h
  ·rename_i hd
   simp only [List.drop_zero,List.head?_cons,Option.some.injEq] at h
   subst h
   simpa using hd
theorem EG (p:UInt8→Bool):∀ (l:List UInt8),∀ c ∈ l.take (run p l),p c=true
 | [],c,h=>by simp at h
 | d :: l,c,h=>by
  unfold run at h
  split at h
  ·rename_i hd
   rw [List.take_succ_cons,List.mem_cons] at h
   rcases h with rfl | h
   ·exact hd
   ·exact EG p l c h
  ·simp at h
theorem lF {p:UInt8→Bool} : ∀ {l:List UInt8},(∀ c ∈ l,p c=true)→run p l=l.length
 | [],_=>rfl
 | c :: l,h=>by
  unfold run
  rw [if_pos (h c (L_e ..)),lF fun d hd=>h d (L_h _ hd),L_b]
theorem zT:∀ (m:Bool) (l:List UInt8),sk m l≤l.length
 | _,[]=>Nat.le_refl _
 | m,c :: r=>by
  have:=zT (isC c && (m || decide (c.toNat=35))) r
  unfold sk
  rw [L_b]
  split <;> omega
theorem tZ {c:UInt8} (h:isB c=true) (r:List UInt8):sk false (c :: r)=sk false r+1:=by
 have h35:decide (c.toNat=35)=false:=by
  unfold isB at h;simp only [Bool.or_eq_true,L_c] at h;exact dF (by omega)
 show (if ((false && isC c) || isB c || decide (c.toNat=35))=true then sk (isC c && (false || decide (c.toNat=35))) r+1 else 0)=_;rw [h,h35];simp
theorem yY:∀ l:List UInt8,sk false l=run isB l+sk false (l.drop (run isB l))
 | []=>rfl
 | c :: r=>by
  unfold run
  split
  ·rename_i h
   rw [tZ h,List.drop_succ_cons,yY r]
   omega
  ·simp
theorem Ur {c:UInt8} (h:c.toNat=10):isC c=false:=by unfold isC;rw [h];rfl
theorem Kc {c:UInt8} (h:c.toNat=10):isB c=true:=by unfold isB;rw [h];rfl
theorem Er:∀ l:List UInt8,sk true l=run isC l+sk false (l.drop (run isC l))
 | []=>rfl
 | c :: r=>by
  unfold run
  split
  ·rename_i h
   rw [List.drop_succ_cons]
   show (if ((true && isC c) || isB c || decide (c.toNat=35))=true then sk (isC c && (true || decide (c.toNat=35))) r+1 else 0)=_
   rw [h]
   simp only [L_l,Bool.true_or,if_true]
   rw [Er r]
   omega
  ·rename_i h
   have h10:c.toNat=10:=by unfold isC at h;simpa using h
   rw [List.drop_zero,tZ (Kc h10)]
   show (if ((true && isC c) || isB c || decide (c.toNat=35))=true then sk (isC c && (true || decide (c.toNat=35))) r+1 else 0)=_
   rw [Ur h10,Kc h10]
   simp
theorem Pm {c:UInt8} (h:c.toNat=35) (r:List UInt8):sk false (c :: r)=run isC (c :: r)+sk false ((c :: r).drop (run isC (c :: r))):=by
 have hc:isC c=true:=by unfold isC;rw [h];rfl
 have e:run isC (c :: r)=run isC r+1:=by
  show (if isC c=true then run isC r+1 else 0)=_;rw [if_pos hc]
 rw [e,List.drop_succ_cons];show (if ((false && isC c) || isB c || decide (c.toNat=35))=true then sk (isC c && (false || decide (c.toNat=35))) r+1 else 0)=_;rw [hc,dT h];simp only [Bool.or_true,if_true,L_l];rw [Er r];omega
theorem Eu {c:UInt8} (h1:isB c=false) (h2:c.toNat≠35) (r:List UInt8):sk false (c :: r)=0:=by
 show (if ((false && isC c) || isB c || decide (c.toNat=35))=true then sk (isC c && (false || decide (c.toNat=35))) r+1 else 0)=_;rw [h1,dF h2];rfl
theorem Ew (m:Bool) (c:UInt8) (r:List UInt8):sk m (c :: r)=if ((m && isC c) || isB c || decide (c.toNat=35))=true then sk (isC c && (m || decide (c.toNat=35))) r+1 else 0:=rfl
theorem Az:∀ (m:Bool) (l r:List UInt8),sk m (l++10 :: r)=if sk m l<l.length then sk m l else l.length+1+sk false r
 | m,[],r=>by
  have h1:isB 10=true:=by decide
  have h2:isC 10=false:=by decide
  show (if ((m && isC 10) || isB 10 || decide ((10:UInt8).toNat=35))=true then sk (isC 10 && (m || decide ((10:UInt8).toNat=35))) r+1 else 0)=_
  rw [h1,h2]
  simp [sk]
  omega
 | m,c :: l,r=>by
  have ih:=Az (isC c && (m || decide (c.toNat=35))) l r
  rw [L_g,Ew,Ew,ih,L_b]
  split
  ·split
   ·rw [if_pos (by omega)]
   ·rw [if_neg (by omega)]
    omega
  ·rw [if_pos (by omega)]
theorem dK (c:UInt8) (r:List UInt8):sgn (c :: r)=if (c.toNat=61∨c.toNat=33∨c.toNat=60)∧r.head? = some 61 then (5,2) else if isS c=true then (5,1) else (0,1):=rfl
theorem SE:∀ l:List UInt8,(sgn l).2≤l.length
 | []=>Nat.le_refl _
 | [c]=>by
  rw [dK]
  split
  ·rename_i h;simp at h
  ·split <;> exact Nat.le_refl 1
 | c :: d :: r=>by
  rw [dK]
  simp only [L_b]
  split
  ·exact Nat.le_add_left 2 _
  ·split <;> exact Nat.le_add_left 1 _
theorem Pq {l:List UInt8} (h:l≠[]):1≤(sgn l).2:=by
 cases l with
 | nil=>exact absurd rfl h
 | cons c r =>
   rw [dK]
   split
   · exact Nat.le_succ 1
   · split <;> exact Nat.le_refl 1
theorem gM (c:UInt8) (r:List UInt8):pnt (c :: r)=if c.toNat=46 then run isD r else 0:=rfl
theorem Ti (l:List UInt8):pnt l=0∨(1≤pnt l∧pnt l+1≤l.length):=by
 cases l with
 | nil=>exact .inl rfl
 | cons c r =>
   have:=gZ isD r
   rw [gM,L_b]
   split <;> omega
theorem aX (c:UInt8) (r:List UInt8):shp (c :: r)=if isL c=true then (1,run isW (c :: r)) else if isD c=true then
   (if pnt ((c :: r).drop (run isD (c :: r)))=0 then (2,run isD (c :: r)) else (3,run isD (c :: r)+1+pnt ((c :: r).drop (run isD (c :: r)))))
  else if c.toNat=34∧(r.drop (run isQ r)).head? = some 34 then (4,run isQ r+2) else sgn (c :: r):=rfl
theorem H8 {c:UInt8} (h:isL c=true):isW c=true:=by unfold isW;rw [h];rfl
theorem jR {p:UInt8→Bool} {c:UInt8} (h:p c=true) (r:List UInt8):run p (c :: r)=run p r+1:=by
 show (if p c=true then run p r+1 else 0)=_;rw [if_pos h]
theorem Ca {l:List UInt8} {n:Nat} {c:UInt8} (h:(l.drop n).head? = some c):n<l.length:=by
 rcases Nat.lt_or_ge n l.length with h1 | h1
 ·exact h1
 rw [List.drop_eq_nil_of_le h1] at h;cases h
theorem oM:∀ l:List UInt8,(shp l).2≤l.length
 | []=>Nat.le_refl _
 | c :: r=>by
  rw [aX]
  split
  ·exact gZ _ _
  ·split
   ·rename_i hd
    have h2:=gZ isD (c :: r)
    rcases Ti ((c :: r).drop (run isD (c :: r))) with h | ⟨h,h1⟩
    ·rw [if_pos h];exact h2
    ·rw [if_neg (by omega)]
     rw [List.length_drop] at h1
     show run isD (c :: r)+1+_≤_
     omega
   ·split
    ·rename_i h
     have:=Ca h.2
     rw [L_b]
     show run isQ r+2≤_
     omega
    ·exact SE _
theorem oL {l:List UInt8} (h:l≠[]):1≤(shp l).2:=by
 cases l with
 | nil=>exact absurd rfl h
 | cons c r =>
   rw [aX]
   split
   · rename_i hl
     show 1≤run isW (c :: r)
     rw [jR (H8 hl)]
     omega
   · split
     · rename_i hd
       have:1≤run isD (c :: r):=by rw [jR hd];omega
       split
       · exact this
       · show 1≤run isD (c :: r)+1+_
         omega
     · split
       · exact Nat.le_add_left 1 _
       · exact Pq (by simp)
theorem AJ (l:List UInt8):(shp l).1=0∨(shp l).1=1∨(shp l).1=2∨(shp l).1=3∨(shp l).1=4∨(shp l).1=5:=by
 cases l with
 | nil=>exact .inl rfl
 | cons c r =>
   rw [aX]
   split
   · simp
   · split
     · split <;> simp
     · split
       · simp
       · rw [dK]
         split
         · simp
         · split <;> simp
def lxs (p:Nat) (f:Bool) (l:List UInt8):List Tk × List Pb :=
 if _h:l.drop (sk false l)=[] then ([],[])
 else
  let l':=l.drop (sk false l)
  let R:=lxs (p+sk false l+(shp l').2) (decide ((shp l').1=0)) (l'.drop (shp l').2)
  if flt (shp l').1 (l'.take (shp l').2)=0 then (⟨(shp l').1,⟨(cont (shp l').1 (l'.take (shp l').2)).toArray⟩,((p+sk false l:Nat):Int)⟩ :: R.1,R.2)
  else if (shp l').1=0∧f=true∧sk false l=0 then R
  else (R.1,(((p+sk false l:Nat):Int),flt (shp l').1 (l'.take (shp l').2)) :: R.2)
 termination_by l.length
 decreasing_by
 have h1:=oL _h
 have h2:(l.drop (sk false l)).length≠0:=fun e=>_h (List.eq_nil_of_length_eq_zero e)
 rw [List.length_drop,List.length_drop]
 rw [List.length_drop] at h2
 omega
theorem iJ {l:List UInt8} (h:l.drop (sk false l)=[]) (p:Nat) (f:Bool):lxs p f l=([],[]):=by
 rw [lxs,dif_pos h]
theorem fZ {l l':List UInt8} (h:l.drop (sk false l)=l') (h0:l'≠[]) (p:Nat) (f:Bool):lxs p f l =
    if flt (shp l').1 (l'.take (shp l').2)=0 then (⟨(shp l').1,⟨(cont (shp l').1 (l'.take (shp l').2)).toArray⟩,((p+sk false l:Nat):Int)⟩ :: (lxs (p+sk false l+(shp l').2) (decide ((shp l').1=0)) (l'.drop (shp l').2)).1,(lxs (p+sk false l+(shp l').2) (decide ((shp l').1=0)) (l'.drop (shp l').2)).2)
    else if (shp l').1=0∧f=true∧sk false l=0 then lxs (p+sk false l+(shp l').2) (decide ((shp l').1=0)) (l'.drop (shp l').2)
    else ((lxs (p+sk false l+(shp l').2) (decide ((shp l').1=0)) (l'.drop (shp l').2)).1,(((p+sk false l:Nat):Int),flt (shp l').1 (l'.take (shp l').2)) :: (lxs (p+sk false l+(shp l').2) (decide ((shp l').1=0)) (l'.drop (shp l').2)).2):=by
 subst h;rw [lxs,dif_neg h0]
end
end Go.Proofs.YtbahfelnbofjjaaGreatDoor
