/- values. -/
import Derived.Lib.AtoiAll
import Derived.Below
import Derived.Laws.AppendOwn
import Derived.Laws.OwnMore
import Derived.OwnWalk
import Derived.Test.YtbahfelnbofjjaaGreatDoorH03
import Derived.Test.YtbahfelnbofjjaaGreatDoorProg
set_option maxRecDepth 100000
set_option maxHeartbeats 16000000
namespace Go.Proofs.YtbahfelnbofjjaaGreatDoor
section
open Go.RowKit dec
theorem emp (s:ByteArray):s.toList.isEmpty=decide (s.size=0):=by
 rw [ByteArray.toList_eq,Lib.size_eq s];cases s.data.toList <;> simp
theorem BO (k n:Int) (s:ByteArray) (w:World):Calls Tryz.prog 204 #[.agg #[.int .i64 k,.int .i64 n,.string s]] w fun e w' => e=.returned (.bool (fmd ⟨k,n,s⟩))∧Below w.heap.size w w':=by
 go_enter Tryz.func204,Tryz.ntmps204
 go_wp2
 all_goals go_ret
 all_goals refine ⟨congrArg (fun b=>Ending.returned (Value.bool b)) ?_,aj (b0 w) _⟩
 all_goals simp_all [fmd,emp]
 all_goals rfl
theorem zP (k n:Int) (s:ByteArray) (w:World):Calls Tryz.prog 205 #[.agg #[.int .i64 k,.int .i64 n,.string s]] w fun e w' => e=.returned (.bool (lmt ⟨k,n,s⟩))∧Below w.heap.size w w':=by
 go_enter Tryz.func205,Tryz.ntmps205
 go_wp2
 all_goals go_ret
 all_goals refine ⟨congrArg (fun b=>Ending.returned (Value.bool b)) ?_,aj (b0 w) _⟩
 all_goals simp_all [lmt,rg]
 all_goals omega
theorem Qa (lo:Nat) (l:List UInt8) {i:Nat} (hi:i<l.length):pB lo (l.drop i)=(okB lo l[i] && pB lo (l.drop (i+1))):=by
 rw [List.drop_eq_getElem_cons hi];rfl
theorem vR (lo:Nat) (c:UInt8):okB lo c=false↔(c.toNat<lo∨126<c.toNat)∨c.toNat=34∨c.toNat=92:=by
 unfold okB;simp only [Bool.and_eq_false_iff,Bool.not_eq_false',decide_eq_false_iff_not,L_c];omega
theorem EP (lo:Nat) (c:UInt8):okB lo c=true↔(lo≤c.toNat∧c.toNat≤126)∧c.toNat≠34∧c.toNat≠92:=by
 unfold okB;simp only [L_d,Bool.not_eq_true',decide_eq_false_iff_not,L_c];omega
theorem mD (lo:Nat) (s:ByteArray) {i:Nat} (hi:i<s.size):(okB lo s[i]=false→pB lo (s.data.toList.drop i)=false)∧(okB lo s[i]=true→pB lo (s.data.toList.drop i)=pB lo (s.data.toList.drop (i+1))):=by
 have hi':i<s.data.toList.length:=by rw [← Lib.size_eq];exact hi
 have e:s.data.toList[i]=s[i]:=rfl;rw [Qa lo _ hi',e];constructor
 ·intro h;rw [h];rfl
 intro h;rw [h];rfl
theorem JA (lo:Nat) (s:ByteArray) {i:Nat} (hi:¬ i<s.size):pB lo (s.data.toList.drop i)=true:=by
 rw [List.drop_eq_nil_of_le (by rw [← Lib.size_eq];omega)];rfl
theorem rP (lo:Nat) (s:ByteArray) (hs:s.size≤9223372036854775806) (w:World):Calls Tryz.prog 259 #[.int .u8 (lo:Nat),.string s] w fun e w' => e=.returned (.bool (pB lo s.data.toList))∧w=w':=by
 go_enter Tryz.func259,Tryz.ntmps259
 go_wp2
 go_loopw [9] (fun x wr => ∃ i:Nat,x=.int .i64 (i:Nat)∧i≤s.size∧Hid (pB lo s.data.toList=pB lo (s.data.toList.drop i))∧wr=w) (fun x _=>s.size - (intOf x).toNat)
 case atStart=>exact ⟨0,rfl,by omega,rfl,rfl⟩
 case round =>
  obtain ⟨i,rfl,hi,hp,rfl⟩:=hrel;go_wp2
  case roundEnd =>
   have h1:i<s.size:=by omega
   rename_i h2;simp only [L_m] at h2;refine ⟨⟨i+1,rfl,by omega,?_,trivial⟩,?_⟩
   ·exact Hy (hp.o.trans ((mD lo s h1).2 ((EP lo s[i]).2 (by omega))))
   show s.size - ((i:Int)+1).toNat<s.size - ((i:Nat):Int).toNat;omega
  all_goals go_ret
  all_goals refine ⟨congrArg (fun b=>Ending.returned (Value.bool b)) (Eq.symm ?_),rfl⟩
  all_goals rw [hp.o]
  all_goals first
    | exact JA lo s (by omega)
    | exact (mD lo s (by omega)).1 ((vR lo _).2 (by omega))
    | (rename_i h2;simp only [beq_iff_eq] at h2;exact (mD lo s (by omega)).1 ((vR lo _).2 (by omega)))
def Vx (w:World) (b:Nat) (k n:Int) (s:ByteArray):Prop:=w.cell? ⟨b,0,none⟩=some (.int .i64 k)∧w.cell? ⟨b,1,none⟩=some (.int .i64 n)∧w.cell? ⟨b,2,none⟩=some (.string s)
theorem Vx.new (w:World) (k n:Int) (s:ByteArray) (T:TypeId):Vx (w.alloc (.cells #[.int .i64 k,.int .i64 n,.string s] T)) w.heap.size k n s:=⟨by simp [go_sem],by simp [go_sem],by simp [go_sem]⟩
theorem Vx.keeps {w w1:World} {b:Nat} {k n:Int} {s:ByteArray} (h:Vx w b k n s) (hb:Below w.heap.size w w1):Vx w1 b k n s:=⟨dec.keeps hb h.1,dec.keeps hb h.2.1,dec.keeps hb h.2.2⟩
theorem Vx.past {w:World} {b:Nat} {k n:Int} {s:ByteArray} (h:Vx w b k n s) (o:Obj):Vx (w.alloc o) b k n s:=h.keeps (aj (b0 w) o)
theorem zO (k n:Int) (s:ByteArray) (hs:s.size≤140737488355328) (w:World):Calls Tryz.prog 206 #[.agg #[.int .i64 k,.int .i64 n,.string s]] w fun e w' => e=.returned (.bool (spl ⟨k,n,s⟩))∧Below w.heap.size w w':=by
 have C1:Hid (∀ w,Calls Tryz.prog 259 #[.int .u8 32,.string s] w fun e w' => e=.returned (.bool (pB 32 s.data.toList))∧w=w'):=Hy (fun w=>rP 32 s (by omega) w);have C2:Hid (∀ w,Calls Tryz.prog 259 #[.int .u8 33,.string s] w fun e w' => e=.returned (.bool (pB 33 s.data.toList))∧w=w'):=Hy (fun w=>rP 33 s (by omega) w);by_cases k4:k=4
 ·subst k4;clear C2
  go_enter Tryz.func206,Tryz.ntmps206
  go_wp2_with fail;refine (C1.o _).mono ?_;rintro e w' ⟨rfl,rfl⟩;go_wp2;go_ret;refine ⟨congrArg (fun b=>Ending.returned (Value.bool b)) ?_,aj (b0 _) _⟩;simp [spl]
 by_cases k5:k=5
 ·subst k5;clear C1;by_cases hz:s.size=0
  ·have hz2:=nN hz;subst hz2
   go_enter Tryz.func206,Tryz.ntmps206
   go_wp2_with fail;go_ret;refine ⟨congrArg (fun b=>Ending.returned (Value.bool b)) ?_,aj (b0 _) _⟩;simp [spl]
  have he:s.toList.isEmpty=false:=by rw [emp];exact dF hz
  go_enter Tryz.func206,Tryz.ntmps206
  go_wp2_with fail;refine (C2.o _).mono ?_;rintro e w' ⟨rfl,rfl⟩;go_wp2;go_ret;refine ⟨congrArg (fun b=>Ending.returned (Value.bool b)) ?_,aj (b0 _) _⟩
  simp_all [spl]
 clear C1 C2
 go_enter Tryz.func206,Tryz.ntmps206
 go_wp2_with fail;go_ret;refine ⟨congrArg (fun b=>Ending.returned (Value.bool b)) ?_,aj (b0 _) _⟩
 simp_all [spl]
theorem fA (k n:Int) (s:ByteArray) (hs:s.size≤140737488355328) (w:World):Calls Tryz.prog 145 #[.agg #[.int .i64 k,.int .i64 n,.string s]] w fun e w' => e=.returned (.int .i64 (ck ⟨k,n,s⟩))∧Below w.heap.size w w':=by
 have C1:=Hy (BO k n s);have C2:=Hy (zP k n s);have C3:=Hy (zO k n s hs);have V0:=Vx.new w k n s 23;unfold ck;generalize fmd ⟨k,n,s⟩=f at *;generalize lmt ⟨k,n,s⟩=l at *;generalize spl ⟨k,n,s⟩=p at *
 go_enter Tryz.func145,Tryz.ntmps145
 go_wp2_with fail;refine (C1.o _).mono ?_;rintro e w1 ⟨rfl,b1⟩;obtain ⟨c0,c1,c2⟩:=V0.keeps b1;have V1:=Hy (V0.keeps b1);replace b1:=(aj (b0 w) _).trans (b1.mono (by simp));cases f
 ·go_wp2_with fail;go_ret;exact ⟨rfl,b1⟩
 go_wp2_with fail;refine (C2.o _).mono ?_;rintro e w2 ⟨rfl,b2⟩;obtain ⟨c0,c1,c2⟩:=V1.o.keeps b2;have V2:=Hy (V1.o.keeps b2);replace b2:=ak b1 b2;cases l
 ·go_wp2_with fail;go_ret;exact ⟨rfl,b2⟩
 go_wp2_with fail;refine (C3.o _).mono ?_;rintro e w3 ⟨rfl,b3⟩;replace b3:=ak b2 b3;cases p
 ·go_wp2_with fail;go_ret;exact ⟨rfl,b3⟩
 go_wp2_with fail;go_ret;exact ⟨rfl,b3⟩
theorem U8 {a b:ByteArray} (h:a.data.toList=b.data.toList):a=b:=by
 cases a;cases b;simp only at h;rw [Array.toList_inj.1 h]
theorem Oy {b:ByteArray} {l:List UInt8} (h:b.data.toList=l):b=⟨l.toArray⟩:=U8 h
theorem PE {a b:ByteArray} (h:a=b):Ending.returned (Value.string a)=.returned (.string b):=by rw [h]
theorem fq {k:IntKind} {a b:Int} (h:a=b):Ending.returned (Value.int k a)=.returned (.int k b):=by rw [h]
theorem bA {a b:Bool} (h:a=b):Ending.returned (Value.bool a)=.returned (.bool b):=by rw [h]
theorem Ay (s:ByteArray) {i j:Nat} {x y:Int} (hx:x=(i:Nat)) (hy:y=(j:Nat)) (hij:i≤j) (hj:j≤s.size) (W:World):(Instr.slice 9 (.string s) (some (.int .i64 x)) (some (.int .i64 y)) none).run Tryz.prog W=.ok (.string (s.extract i j)) W:=by
 subst hx hy;exact Go.run_slice_string W 9 s .i64 .i64 i j uy9 (by omega) (by omega) (by omega)
theorem tN (k:Int) (s:ByteArray) (hs:s.size≤140737488355328) (h:k=4→2≤s.size) (w:World) :
    Calls Tryz.prog 87 #[.int .i64 k,.string s] w fun e w' => e=.returned (.string ⟨(cont k s.data.toList).toArray⟩)∧w'=w:=by
 by_cases hk:k=4
 ·have h2:=h hk;have q1:(k==4)=true:=by rw [hk];rfl
  have he:=Hy (show s.extract 1 (s.size - 1)=⟨(cont k s.data.toList).toArray⟩ by
    refine Oy ?_
    rw [uP]
    unfold cont
    rw [if_pos hk,aI,show s.size - 1 - 1=s.size - 2 by omega])
  clear h hk;have SL:=fun W=>Ay s (i:=1) (j:=s.size - 1) (x:=1) (y:=(s.size:Int) - 1) rfl (by omega) (by omega) (by omega) W;rw [he.o] at SL;generalize (⟨(cont k s.data.toList).toArray⟩:ByteArray)=R at *;clear he
  go_enter Tryz.func87,Tryz.ntmps87
  go_wp2_with fail;go_ret;exact ⟨rfl,rfl⟩
 have q1:(k==4)=false:=by rw [L_m];exact hk
 have he:=Hy (show s=⟨(cont k s.data.toList).toArray⟩ from Oy (xB hk _).symm);clear h hk hs
 go_enter Tryz.func87,Tryz.ntmps87
 go_wp2_with fail;go_ret;exact ⟨PE he.o,rfl⟩
theorem Rj (s:ByteArray):ck ⟨4,0,s⟩=txE s.data.toList:=by
 unfold ck txE fmd lmt spl;rw [aI];by_cases h:64<s.size
 ·rw [if_pos h];simp [show ¬ s.size≤64 by omega]
 rw [if_neg h];simp [show s.size≤64 by omega]
theorem Na {k:Int} (h1:k≠1) (h2:k≠2) (h3:k≠3) (h4:k≠4) (h0:k≠0) (p:List UInt8):flt k p=0:=by
 unfold flt;rw [if_neg h1,if_neg h2,if_neg h3,if_neg h4,if_neg h0]
theorem Au {l:List UInt8} (h:shp l=(4,l.length)):2≤l.length:=by
 have h1:=AB (l:=l) (by rw [h]);rw [h,List.take_length] at h1;have:=congrArg List.length h1;simp only [L_b,L_a,L_j] at this;omega
theorem zx (k:Int) (s:ByteArray) (hs:s.size≤1048576) (h:k=0∨shp s.data.toList=(k,s.data.toList.length)) (w:World) (T:Tabs w) :
    Calls Tryz.prog 86 #[.int .i64 k,.string s] w fun e w' => e=.returned (.int .i64 (flt k s.data.toList))∧Below w.heap.size w w':=by
 by_cases h1:k=1
 ·subst h1;have hf:=Hy (yI s.data.toList);rw [aI] at hf;clear h T;by_cases hc:24<s.size
  ·have q:decide (24<(s.size:Int))=true:=dT (by omega);rw [if_pos hc] at hf
   go_enter Tryz.func86,Tryz.ntmps86
   go_wp2_with fail;go_ret;exact ⟨fq hf.o.symm,b0 w⟩
  have q:decide (24<(s.size:Int))=false:=dF (by omega);rw [if_neg hc] at hf
  go_enter Tryz.func86,Tryz.ntmps86
  go_wp2_with fail;go_ret;exact ⟨fq hf.o.symm,b0 w⟩
 by_cases h2:k=2
 ·subst h2;obtain ⟨d1,d2⟩:=Po (h.resolve_left (by decide));have hat:=DW d1 d2;have hf:=FT s.data.toList;clear h h1 d1 d2;generalize dval 0 s.data.toList=v at *;by_cases hv:v<9223372036854775808
  ·rw [if_pos hv] at hat;have AC:=Hy (Tryz.strconv_Atoi_ok s (by omega) _ hat w);by_cases hc:1152921504606846976<v
   ·rw [if_pos hc] at hf;replace hf:=Hy hf;have q:decide (1152921504606846976<(v:Int))=true:=dT (by omega);clear hat T
    go_enter Tryz.func86,Tryz.ntmps86
    go_wp2_with fail;refine AC.o.mono ?_;rintro e w1 ⟨rfl,hw⟩;have B1:=Hy (show Below w.heap.size w w1 by rcases hw with rfl | ⟨t,rfl⟩;exact b0 _;exact iW _ _ _);clear hw;go_wp2_with fail;go_ret;exact ⟨fq hf.o.symm,B1.o⟩
   rw [if_neg hc] at hf;replace hf:=Hy hf;have q:decide (1152921504606846976<(v:Int))=false:=dF (by omega);clear hat T
   go_enter Tryz.func86,Tryz.ntmps86
   go_wp2_with fail;refine AC.o.mono ?_;rintro e w1 ⟨rfl,hw⟩;have B1:=Hy (show Below w.heap.size w w1 by rcases hw with rfl | ⟨t,rfl⟩;exact b0 _;exact iW _ _ _);clear hw;go_wp2_with fail;go_ret;exact ⟨fq hf.o.symm,B1.o⟩
  rw [if_neg hv] at hat;rw [if_pos (by omega)] at hf;replace hf:=Hy hf;obtain ⟨tp,p,hr⟩:=T.ran;have AC:=Hy (Tryz.strconv_Atoi_range_var s (by omega) hat tp p w hr);clear hat T hr
  go_enter Tryz.func86,Tryz.ntmps86
  go_wp2_with fail;refine AC.o.mono ?_;rintro e w1 ⟨N,rfl,hw⟩;have B1:=Hy hw.2.2;clear hw;go_wp2_with fail;go_ret;exact ⟨fq hf.o.symm,B1.o⟩
 by_cases h3:k=3
 ·subst h3;have PC:=Hy (zh s w (by omega) T.pow);have hf:=zw s.data.toList;clear h T h1 h2;generalize paE s.data.toList=x at *;generalize paX s.data.toList=y at *;replace hf:=Hy hf
  go_enter Tryz.func86,Tryz.ntmps86
  go_wp2_with fail;refine PC.o.mono ?_;rintro e w1 ⟨rfl,b1⟩;have B1:=Hy b1;clear b1;go_wp2_with fail;go_ret;exact ⟨fq hf.o.symm,B1.o⟩
 by_cases h4:k=4
 ·subst h4;have h22:=Au (h.resolve_left (by decide));rw [aI] at h22;have CC:=Hy (tN 4 s (by omega) (fun _=>h22) w);have hl:(cont 4 s.data.toList).length≤1048576:=by
   unfold cont;rw [if_pos rfl,List.length_take,List.length_drop,aI];omega
  have hf:=Ci s.data.toList;obtain ⟨t,ht⟩:∃ t:ByteArray,t=⟨(cont 4 s.data.toList).toArray⟩:=⟨_,rfl⟩;have htl:t.data.toList=cont 4 s.data.toList:=by rw [ht]
  rw [← ht] at CC;rw [← htl] at hf hl;rw [aI] at hl;have KC:=Hy (fun W=>fA 4 0 t (by omega) W);rw [Rj,← hf] at KC;clear h T h1 h2 h3 ht htl hf h22 hl;generalize flt 4 s.data.toList=x at *
  go_enter Tryz.func86,Tryz.ntmps86
  go_wp2_with fail;refine CC.o.mono ?_;rintro e w1 ⟨rfl,rfl⟩;go_wp2_with fail;refine (KC.o _).mono ?_;rintro e w1 ⟨rfl,b1⟩;have B1:=Hy b1;clear b1;go_wp2_with fail;go_ret;exact ⟨rfl,B1.o⟩
 have q1:(k==1)=false:=by rw [L_m];exact h1
 have q2:(k==2)=false:=by rw [L_m];exact h2
 have q3:(k==3)=false:=by rw [L_m];exact h3
 have q4:(k==4)=false:=by rw [L_m];exact h4
 by_cases h0:k=0
 ·subst h0;have hf:=Hy (Ch s.data.toList);clear h T h1 h2 h3 h4 q1 q2 q3 q4
  go_enter Tryz.func86,Tryz.ntmps86
  go_wp2_with fail;go_ret;exact ⟨fq hf.o.symm,b0 w⟩
 have q0:(k==0)=false:=by rw [L_m];exact h0
 have hf:=Hy (Na h1 h2 h3 h4 h0 s.data.toList);clear h T h1 h2 h3 h4 h0
 go_enter Tryz.func86,Tryz.ntmps86
 go_wp2_with fail;go_ret;exact ⟨fq hf.o.symm,b0 w⟩
def prB (k:Int) (s:ByteArray):Bool:=decide (shp s.data.toList=(k,s.size)) && decide (flt k s.data.toList=0)
theorem Jw (x:Tk) {s:ByteArray} (h:s.data.toList=so x):prB x.k s=pr x:=by
 unfold prB pr;rw [h,← h,aI]
theorem kY (k:Int) (s:ByteArray) (hs:s.size≤1048576) (w:World) (T:Tabs w) :
    Calls Tryz.prog 91 #[.int .i64 k,.string s] w fun e w' => e=.returned (.bool (prB k s))∧Below w.heap.size w w':=by
 have SC:=Hy (qN s (by omega) w T);have T0:=Hy T;clear T;obtain ⟨q,hq⟩:∃ q,shp s.data.toList=q:=⟨_,rfl⟩;obtain ⟨k1,n⟩:=q;rw [hq] at SC;by_cases h1:k1=k
 ·subst h1;have q1:(k1==k1)=true:=by rw [beq_iff_eq]
  by_cases h2:n=s.size
  ·subst h2;have q2:((s.size:Int)==(s.size:Int))=true:=by rw [beq_iff_eq]
   have FC:=Hy (fun W T=>zx k1 s hs (.inr (by rw [hq,aI])) W T);have hp:=Hy (show prB k1 s=(flt k1 s.data.toList==0) by unfold prB;rw [dT hq,L_l,eqb]);clear hq hs;generalize flt k1 s.data.toList=f at *
   go_enter Tryz.func91,Tryz.ntmps91
   go_wp2_with fail;refine SC.o.mono ?_;rintro e w1 ⟨rfl,b1⟩;have B1:=Hy b1;have T1:=Hy (T0.o.stays b1);clear b1;go_wp2_with fail;refine (FC.o _ T1.o).mono ?_;rintro e w2 ⟨rfl,b2⟩;have B2:=Hy (ak B1.o b2);clear b2;generalize hf:(f==0)=b at *;cases b
   ·go_wp2_with fail;go_ret;exact ⟨bA hp.o.symm,B2.o⟩
   go_wp2_with fail;go_ret;exact ⟨bA hp.o.symm,B2.o⟩
  have q2:((n:Int)==(s.size:Int))=false:=by rw [L_m];omega
  have hp:=Hy (show prB k1 s=false by unfold prB;rw [dF (by rw [hq];intro e;exact h2 (Prod.mk.inj e).2),L_k]);clear hq hs T0 h2
  go_enter Tryz.func91,Tryz.ntmps91
  go_wp2_with fail;refine SC.o.mono ?_;rintro e w1 ⟨rfl,b1⟩;have B1:=Hy b1;clear b1;go_wp2_with fail;go_ret;exact ⟨bA hp.o.symm,B1.o⟩
 have q1:(k1==k)=false:=by rw [L_m];exact h1
 have hp:=Hy (show prB k s=false by unfold prB;rw [dF (by rw [hq];intro e;exact h1 (Prod.mk.inj e).1),L_k]);clear hq hs T0 h1
 go_enter Tryz.func91,Tryz.ntmps91
 go_wp2_with fail;refine SC.o.mono ?_;rintro e w1 ⟨rfl,b1⟩;have B1:=Hy b1;clear b1;go_wp2_with fail;go_ret;exact ⟨bA hp.o.symm,B1.o⟩
theorem pK (x y:List UInt8) (hx:x.length≤1048576) (hy:y.length≤1048576) (W:World):(Op.stringOp .add ⟨x.toArray⟩ ⟨y.toArray⟩).run Tryz.prog W=.ok (.string ⟨(x++y).toArray⟩) W:=run_string_add_lists W x y (by omega) (by omega)
theorem pV (x:Tk) (hs:x.t.size≤1000000) (w:World) :
    Calls Tryz.prog 90 #[.agg #[.int .i64 x.k,.string x.t,.int .i64 x.a]] w fun e w' => e=.returned (.string ⟨(so x).toArray⟩)∧Below w.heap.size w w':=by
 have A:=pK [34] x.t.data.toList (by decide) (by rw [aI];omega);replace A:∀ W,(Op.stringOp .add ⟨#[34]⟩ x.t).run Tryz.prog W=.ok (.string ⟨(34 :: x.t.data.toList).toArray⟩) W:=A;have B:=pK (34 :: x.t.data.toList) [34] (by rw [L_b,aI];omega) (by decide);replace B:∀ W,(Op.stringOp .add ⟨(34 :: x.t.data.toList).toArray⟩ ⟨#[34]⟩).run Tryz.prog W=.ok (.string ⟨(34 :: (x.t.data.toList++[34])).toArray⟩) W:=B;have hb:=Hy (aj (b0 w) (.cells #[.int .i64 x.k,.string x.t,.int .i64 x.a] 119));by_cases h:x.k=4
 ·have q1:(x.k==4)=true:=by rw [h];rfl
  have hso:=Hy (show so x=34 :: (x.t.data.toList++[34]) by unfold so;rw [if_pos h]);clear hs h;obtain ⟨k,t,a⟩:=x;simp only at *;generalize 34 :: (t.data.toList++[34])=m at *;generalize 34 :: t.data.toList=l at *
  go_enter Tryz.func90,Tryz.ntmps90
  go_wp2_with fail;go_ret;exact ⟨by rw [hso.o];rfl,hb.o⟩
 have q1:(x.k==4)=false:=by rw [L_m];exact h
 have hso:=Hy (show so x=x.t.data.toList by unfold so;rw [if_neg h]);clear hs h A B;obtain ⟨k,t,a⟩:=x;simp only at *
 go_enter Tryz.func90,Tryz.ntmps90
 go_wp2_with fail;go_ret;exact ⟨by rw [hso.o];rfl,hb.o⟩
def kwL:List (List UInt8):=[[116,97,98,108,101],[102,101,97,116,117,114,101],[111,102],[107,101,101,112],[98,111,111,108],[116,101,120,116],[107,101,121],[105,110,116],[100,101,99],[105,102],[116,104,101,110],[101,108,115,101],[100,101,102,97,117,108,116],[111,114],[97,110,100],[110,111,116],[116,114,117,101],[102,97,108,115,101],[110,117,108,108],[99,111,117,110,116],[115,117,109],[109,101,97,110],[109,105,110],[109,97,120],[102,105,114,115,116],[108,97,115,116],[100,105,115,116,105,110,99,116],[113,117,97,110,116,105,108,101],[100,101,99,97,121],[97,108,108],[115,108,105,100,105,110,103],[116,117,109,98,108,105,110,103],[115,101,115,115,105,111,110],[119,104,101,114,101]]
def kw (s:ByteArray):Bool:=kwL.any fun l=>s.toList==l
theorem tH (s:ByteArray) (w:World) :
    Calls Tryz.prog 99 #[.string s] w fun e w' => e=.returned (.bool (kw s))∧w'=w:=by
 go_enter Tryz.func99,Tryz.ntmps99
 go_wp2
 all_goals go_ret
 all_goals refine ⟨bA ?_,rfl⟩
 all_goals first | (rename_i h1 h2;rw [h1] at h2;cases h2;done) | (unfold kw kwL;simp [*];done)
def name (s:ByteArray):Bool:=prB 1 s && !kw s
theorem Ms (s:ByteArray) (hs:s.size≤1048576) (w:World) (T:Tabs w) :
    Calls Tryz.prog 43 #[.string s] w fun e w' => e=.returned (.bool (name s))∧Below w.heap.size w w':=by
 have IC:=Hy (kY 1 s hs w T);have KC:=Hy (fun W=>tH s W);have hn:Hid (name s=(prB 1 s && !kw s)):=Hy rfl;generalize prB 1 s=p at *;generalize kw s=q at *;clear T;cases p
 ·go_enter Tryz.func43,Tryz.ntmps43
  go_wp2_with fail;refine IC.o.mono ?_;rintro e w1 ⟨rfl,b1⟩;have B1:=Hy b1;clear b1;go_wp2_with fail;go_ret;exact ⟨bA hn.o.symm,B1.o⟩
 go_enter Tryz.func43,Tryz.ntmps43
 go_wp2_with fail;refine IC.o.mono ?_;rintro e w1 ⟨rfl,b1⟩;have B1:=Hy b1;clear b1;go_wp2_with fail;refine (KC.o _).mono ?_;rintro e w2 ⟨rfl,rfl⟩;go_wp2_with fail;go_ret;exact ⟨bA hn.o.symm,B1.o⟩
theorem Im (s:ByteArray) (w:World) :
    Calls Tryz.prog 86 #[.int .i64 1,.string s] w fun e w' => e=.returned (.int .i64 (flt 1 s.data.toList))∧Below w.heap.size w w':=by
 have hf:=Hy (yI s.data.toList);rw [aI] at hf;by_cases hc:24<s.size
 ·have q:decide (24<(s.size:Int))=true:=dT (by omega);rw [if_pos hc] at hf
  go_enter Tryz.func86,Tryz.ntmps86
  go_wp2_with fail;go_ret;exact ⟨fq hf.o.symm,b0 w⟩
 have q:decide (24<(s.size:Int))=false:=dF (by omega);rw [if_neg hc] at hf
 go_enter Tryz.func86,Tryz.ntmps86
 go_wp2_with fail;go_ret;exact ⟨fq hf.o.symm,b0 w⟩
theorem BK (s:ByteArray) (hs:s.size≤140737488355328) (w:World) (T:Tabs w) :
    Calls Tryz.prog 91 #[.int .i64 1,.string s] w fun e w' => e=.returned (.bool (prB 1 s))∧Below w.heap.size w w':=by
 have SC:=Hy (qN s hs w T);clear T;obtain ⟨q,hq⟩:∃ q,shp s.data.toList=q:=⟨_,rfl⟩;obtain ⟨k1,n⟩:=q;rw [hq] at SC;by_cases h1:k1=1
 ·subst h1;by_cases h2:n=s.size
  ·subst h2;have q2:((s.size:Int)==(s.size:Int))=true:=by rw [beq_iff_eq]
   have FC:=Hy (fun W=>Im s W);have hp:=Hy (show prB 1 s=(flt 1 s.data.toList==0) by unfold prB;rw [dT hq,L_l,eqb]);clear hq hs;generalize flt 1 s.data.toList=f at *
   go_enter Tryz.func91,Tryz.ntmps91
   go_wp2_with fail;refine SC.o.mono ?_;rintro e w1 ⟨rfl,b1⟩;have B1:=Hy b1;clear b1;go_wp2_with fail;refine (FC.o _).mono ?_;rintro e w2 ⟨rfl,b2⟩;have B2:=Hy (ak B1.o b2);clear b2;generalize hf:(f==0)=b at *;cases b
   ·go_wp2_with fail;go_ret;exact ⟨bA hp.o.symm,B2.o⟩
   go_wp2_with fail;go_ret;exact ⟨bA hp.o.symm,B2.o⟩
  have q2:((n:Int)==(s.size:Int))=false:=by rw [L_m];omega
  have hp:=Hy (show prB 1 s=false by unfold prB;rw [dF (by rw [hq];intro e;exact h2 (Prod.mk.inj e).2),L_k]);clear hq hs h2
  go_enter Tryz.func91,Tryz.ntmps91
  go_wp2_with fail;refine SC.o.mono ?_;rintro e w1 ⟨rfl,b1⟩;have B1:=Hy b1;clear b1;go_wp2_with fail;go_ret;exact ⟨bA hp.o.symm,B1.o⟩
 have q1:(k1==1)=false:=by rw [L_m];exact h1
 have hp:=Hy (show prB 1 s=false by unfold prB;rw [dF (by rw [hq];intro e;exact h1 (Prod.mk.inj e).1),L_k]);clear hq hs h1
 go_enter Tryz.func91,Tryz.ntmps91
 go_wp2_with fail;refine SC.o.mono ?_;rintro e w1 ⟨rfl,b1⟩;have B1:=Hy b1;clear b1;go_wp2_with fail;go_ret;exact ⟨bA hp.o.symm,B1.o⟩
theorem gI (s:ByteArray) (hs:s.size≤140737488355328) (w:World) (T:Tabs w) :
    Calls Tryz.prog 43 #[.string s] w fun e w' => e=.returned (.bool (name s))∧Below w.heap.size w w':=by
 have IC:=Hy (BK s hs w T);have KC:=Hy (fun W=>tH s W);have hn:Hid (name s=(prB 1 s && !kw s)):=Hy rfl;generalize prB 1 s=p at *;generalize kw s=q at *;clear T;cases p
 ·go_enter Tryz.func43,Tryz.ntmps43
  go_wp2_with fail;refine IC.o.mono ?_;rintro e w1 ⟨rfl,b1⟩;have B1:=Hy b1;clear b1;go_wp2_with fail;go_ret;exact ⟨bA hn.o.symm,B1.o⟩
 go_enter Tryz.func43,Tryz.ntmps43
 go_wp2_with fail;refine IC.o.mono ?_;rintro e w1 ⟨rfl,b1⟩;have B1:=Hy b1;clear b1;go_wp2_with fail;refine (KC.o _).mono ?_;rintro e w2 ⟨rfl,rfl⟩;go_wp2_with fail;go_ret;exact ⟨bA hn.o.symm,B1.o⟩
end
namespace un
theorem qd:∀ (l:List UInt8),Op.bytesLess l l=false
 | []=>rfl
 | a :: x=>by rw [Op.bytesLess,qd x];simp
theorem Gr {a b:UInt8} : (a<b)=(a.toNat<b.toNat):=rfl
theorem Gt {a b:UInt8} : (a=b)=(a.toNat=b.toNat):=propext ⟨fun h=>by rw [h],fun h=>UInt8.toNat_inj.1 h⟩
theorem lK (a b:UInt8) (x y:List UInt8):Op.bytesLess (a :: x) (b :: y)=true↔a.toNat<b.toNat∨(a.toNat=b.toNat∧Op.bytesLess x y=true):=by
 rw [Op.bytesLess,Bool.or_eq_true,L_d,L_c,beq_iff_eq,Gr,Gt]
theorem sI:∀ (x y z:List UInt8),Op.bytesLess x y=true→Op.bytesLess y z=true→Op.bytesLess x z=true
 | [],[],z,h,_=>by cases h
 | [],b :: y,[],_,h=>by cases h
 | [],b :: y,c :: z,_,_=>rfl
 | a :: x,[],z,h,_=>by cases h
 | a :: x,b :: y,[],_,h=>by cases h
 | a :: x,b :: y,c :: z,h1,h2=>by
  rw [lK] at *
  rcases h1 with h1 | ⟨h1,h1'⟩ <;> rcases h2 with h2 | ⟨h2,h2'⟩
  ·omega
  ·omega
  ·omega
  ·exact .inr ⟨by omega,sI x y z h1' h2'⟩
theorem nk:∀ (x y:List UInt8),Op.bytesLess x y=false→x≠y→Op.bytesLess y x=true
 | [],[],_,h=>absurd rfl h
 | [],b :: y,h,_=>by cases h
 | a :: x,[],_,_=>rfl
 | a :: x,b :: y,h,hne=>by
  have h':¬ Op.bytesLess (a :: x) (b :: y)=true:=by rw [h];decide
  rw [lK] at h' ⊢
  by_cases e:a.toNat=b.toNat
  ·refine .inr ⟨e.symm,nk x y ?_ ?_⟩
   ·cases hx:Op.bytesLess x y
    ·rfl
    ·exact absurd (.inr ⟨e,hx⟩) h'
   ·intro hxy
    apply hne
    rw [hxy,UInt8.toNat_inj.1 e]
  ·exact .inl (by omega)
theorem toList_inj {a b:ByteArray} (h:a.toList=b.toList):a=b:=by
 rw [ByteArray.toList_eq,ByteArray.toList_eq] at h;cases a;cases b;simp only at h;rw [Array.toList_inj.1 h]
def ltS (a b:ByteArray):Bool:=Op.bytesLess a.toList b.toList
theorem oZ (a:ByteArray):ltS a a=false:=qd _
theorem rC {a b c:ByteArray} (h1:ltS a b=true) (h2:ltS b c=true):ltS a c=true:=sI _ _ _ h1 h2
theorem yu {a b:ByteArray} (h1:ltS a b=false) (h2:a≠b):ltS b a=true:=nk _ _ h1 fun e=>h2 (toList_inj e)
theorem JX {a b:ByteArray} (h:ltS a b=true):ltS b a=false:=by
 cases h':ltS b a
 ·rfl
 have:=rC h h';rw [oZ] at this;cases this
theorem rE {a b:ByteArray} (h:ltS a b=true):a≠b:=fun e=>by rw [e,oZ] at h;cases h
theorem JW (b:ByteArray):ltS .empty b=decide (b.size≠0):=by
 have e:b.size=b.toList.length:=by rw [ByteArray.toList_eq];rfl
 unfold ltS;rw [e];have e0:ByteArray.empty.toList=[]:=by rw [ByteArray.toList_eq];rfl
 rw [e0];cases b.toList <;> rfl
abbrev Fa:=ByteArray × Int
def rF (c:Int):Bool:=decide (97≤c∧c≤122)
def Ct (c:Int):Bool:=decide (48≤c∧c≤57)
def wch (c:UInt8):Bool:=rF c.toNat || (Ct c.toNat || c.toNat==95)
def zS (l:List UInt8):Bool:=decide (1≤l.length∧l.length≤24) && (rF (l.headD 0).toNat && l.all wch)
def word (s:ByteArray):Bool:=zS s.data.toList
def far (n:Int):Bool:=decide (8<n∨n < -8)
def ck1 (b:ByteArray) (x:Fa):Int:=if word x.1=false then 1 else if x.2=0∨far x.2=true then 70 else if ltS b x.1=true then 0 else 3
def iR (b:ByteArray):List Fa→Int
 | []=>0
 | x :: l=>if ck1 b x=0 then iR x.1 l else ck1 b x
def ck (l:List Fa):Int:=if 4<l.length then 2 else iR .empty l
def Srt (l:List Fa):Prop:=l.Pairwise fun x y=>ltS x.1 y.1=true
structure Ok (l:List Fa):Prop where
 le:l.length≤4
 good:∀ x ∈ l,word x.1=true∧x.2≠0∧far x.2=false
 srt:Srt l
theorem nK {s:ByteArray} (h:word s=true):1≤s.size∧s.size≤24:=by
 unfold word zS at h;simp only [L_d,L_c] at h;rw [Lib.size_eq];exact h.1
theorem Ny {b:ByteArray} {x:Fa} (h:ck1 b x=0):word x.1=true∧x.2≠0∧far x.2=false∧ltS b x.1=true:=by
 unfold ck1 at h;split at h
 ·cases h
 split at h
 ·cases h
 split at h
 ·refine ⟨by simp_all,by simp_all,by simp_all,by assumption⟩
 cases h
theorem UZ {b:ByteArray} {x:Fa} (h1:word x.1=true) (h2:x.2≠0) (h3:far x.2=false) (h4:ltS b x.1=true):ck1 b x=0:=by
 unfold ck1;rw [h1,h3,h4];simp [h2]
theorem zB:∀ (l:List Fa) (b:ByteArray),iR b l=0→(∀ x ∈ l,word x.1=true∧x.2≠0∧far x.2=false)∧Srt l∧∀ x ∈ l,ltS b x.1=true
 | [],_,_=>⟨fun x h=>(by cases h),.nil,fun x h=>by cases h⟩
 | x :: l,b,h=>by
  unfold iR at h
  split at h
  ·rename_i h0
   obtain ⟨a1,a2,a3,a4⟩:=Ny h0
   obtain ⟨i1,i2,i3⟩:=zB l x.1 h
   refine ⟨fun y hy=>?_,List.pairwise_cons.2 ⟨fun y hy=>i3 y hy,i2⟩,fun y hy=>?_⟩
   ·rcases List.mem_cons.1 hy with rfl | hy
    ·exact ⟨a1,a2,a3⟩
    ·exact i1 y hy
   ·rcases List.mem_cons.1 hy with rfl | hy
    ·exact a4
    ·exact rC a4 (i3 y hy)
  ·rename_i h0
   exact absurd h h0
theorem zC:∀ (l:List Fa) (b:ByteArray),(∀ x ∈ l,word x.1=true∧x.2≠0∧far x.2=false)→Srt l→(∀ x ∈ l,ltS b x.1=true)→iR b l=0
 | [],_,_,_,_=>rfl
 | x :: l,b,h1,h2,h3=>by
  obtain ⟨g1,g2,g3⟩:=h1 x (L_e ..)
  obtain ⟨p1,p2⟩:=List.pairwise_cons.1 h2
  unfold iR
  rw [if_pos (UZ g1 g2 g3 (h3 x (L_e ..)))]
  exact zC l x.1 (fun y hy=>h1 y (L_h _ hy)) p2 p1
theorem K5 (l:List Fa):ck l=0↔Ok l:=by
 unfold ck;constructor
 ·intro h;split at h
  ·cases h
  obtain ⟨a,b,_⟩:=zB l _ h;exact ⟨by omega,a,b⟩
 intro h;rw [if_neg (by have:=h.le;omega)];refine zC l _ h.good h.srt fun x hx=>?_;rw [JW];have:=nK (h.good x hx).1;exact dT (by omega)
theorem Ok.nil:Ok []:=⟨by simp,fun x h=>(by cases h),.nil⟩
def ex:List Fa→ByteArray→Int
 | [],_=>0
 | x :: l,n=>(if x.1=n then x.2 else 0)+ex l n
theorem zy:∀ (l r:List Fa) (n:ByteArray),ex (l++r) n=ex l n+ex r n
 | [],r,n=>by simp [ex]
 | x :: l,r,n=>by simp only [L_g,ex,zy l r n];omega
theorem yJ:∀ (l:List Fa) (n:ByteArray),(∀ x ∈ l,x.1≠n)→ex l n=0
 | [],_,_=>rfl
 | x :: l,n,h=>by
  simp only [ex]
  rw [if_neg (h x (L_e ..)),yJ l n fun y hy=>h y (L_h _ hy)]
  rfl
theorem pG {l:List Fa} {n:ByteArray} (h:ex l n≠0):∃ x ∈ l,x.1=n:=by
 by_cases hx:∃ x ∈ l,x.1=n
 ·exact hx
 exact absurd (yJ l n fun x hm e=>hx ⟨x,hm,e⟩) h
theorem xw:∀ {l:List Fa},Srt l→∀ x ∈ l,ex l x.1=x.2
 | [],_,x,h=>by cases h
 | y :: l,hs,x,h=>by
  obtain ⟨p1,p2⟩:=List.pairwise_cons.1 hs
  simp only [ex]
  rcases List.mem_cons.1 h with rfl | h
  ·rw [if_pos rfl,yJ l x.1 fun z hz e=>rE (p1 z hz) e.symm]
   omega
  ·rw [if_neg (rE (p1 x h)),xw p2 x h]
   omega
def ins (x:ByteArray):List ByteArray→List ByteArray
 | []=>[x]
 | y :: l=>if ltS y x=true then y :: ins x l else if y=x then y :: l else x :: y :: l
def ns (l:List Fa):List ByteArray:=l.foldl (fun o x=>ins x.1 o) []
theorem yt (x z:ByteArray):∀ l:List ByteArray,z ∈ ins x l↔z=x∨z ∈ l
 | []=>by simp [ins]
 | y :: l=>by
  unfold ins
  split
  ·rw [List.mem_cons,yt x z l,List.mem_cons]
   constructor <;> rintro (h | h | h) <;> simp_all
  ·split
   ·rename_i h
    subst h
    simp
   ·simp
def Inc (l:List ByteArray):Prop:=l.Pairwise fun a b=>ltS a b=true
theorem FI (x:ByteArray):∀ l:List ByteArray,Inc l→Inc (ins x l)
 | [],_=>by simp [ins,Inc]
 | y :: l,h=>by
  obtain ⟨p1,p2⟩:=List.pairwise_cons.1 h
  unfold ins
  split
  ·rename_i hy
   refine List.pairwise_cons.2 ⟨fun z hz=>?_,FI x l p2⟩
   rcases (yt x z l).1 hz with rfl | hz
   ·exact hy
   ·exact p1 z hz
  ·rename_i hy
   split
   ·exact h
   ·rename_i hne
    have hxy:ltS x y=true:=yu (by simpa using hy) hne
    refine List.pairwise_cons.2 ⟨fun z hz=>?_,h⟩
    rcases List.mem_cons.1 hz with rfl | hz
    ·exact hxy
    ·exact rC hxy (p1 z hz)
theorem zk (z:ByteArray):∀ (l:List Fa) (o:List ByteArray),z ∈ l.foldl (fun o x=>ins x.1 o) o↔z ∈ o∨∃ x ∈ l,x.1=z
 | [],_=>by simp
 | x :: l,o=>by
  rw [List.foldl_cons,zk z l,yt]
  constructor
  ·rintro ((h | h) | ⟨y,h1,h2⟩)
   ·exact .inr ⟨x,L_e ..,h.symm⟩
   ·exact .inl h
   ·exact .inr ⟨y,L_h _ h1,h2⟩
  ·rintro (h | ⟨y,h1,h2⟩)
   ·exact .inl (.inr h)
   ·rcases List.mem_cons.1 h1 with rfl | h1
    ·exact .inl (.inl h2.symm)
    ·exact .inr ⟨y,h1,h2⟩
theorem JU {z:ByteArray} {l:List Fa} : z ∈ ns l↔∃ x ∈ l,x.1=z:=by
 unfold ns;rw [zk];simp
theorem zq:∀ (l:List Fa) (o:List ByteArray),Inc o→Inc (l.foldl (fun o x=>ins x.1 o) o)
 | [],_,h=>h
 | x :: l,o,h=>zq l _ (FI x.1 o h)
theorem Ut (l:List Fa):Inc (ns l):=zq l [] .nil
def Me (l:List Fa) (o:List ByteArray):List Fa:=(o.filter fun n=>decide (ex l n≠0)).map fun n=>(n,ex l n)
def nz (l:List Fa):List Fa:=Me l (ns l)
theorem ni {l:List Fa} {x:Fa} : x ∈ nz l↔x.2=ex l x.1∧x.2≠0:=by
 unfold nz Me;simp only [List.mem_map,List.mem_filter,L_c];constructor
 ·rintro ⟨n,⟨_,h⟩,rfl⟩;exact ⟨rfl,h⟩
 rintro ⟨h1,h2⟩;exact ⟨x.1,⟨JU.2 (pG (h1 ▸ h2)),h1 ▸ h2⟩,by rw [← h1]⟩
theorem Aw (l:List Fa):Srt (nz l):=by
 unfold nz Me Srt;rw [List.pairwise_map];exact ((Ut l).sublist List.filter_sublist).imp fun h=>h
theorem xQ:∀ {l r:List Fa},Srt l→Srt r→(∀ x,x ∈ l↔x ∈ r)→l=r
 | [],[],_,_,_=>rfl
 | [],y :: r,_,_,h=>absurd ((h y).2 (L_e ..)) (by simp)
 | x :: l,[],_,_,h=>absurd ((h x).1 (L_e ..)) (by simp)
 | x :: l,y :: r,hl,hr,h=>by
  obtain ⟨p1,p2⟩:=List.pairwise_cons.1 hl
  obtain ⟨q1,q2⟩:=List.pairwise_cons.1 hr
  have exy:x=y:=by
   rcases List.mem_cons.1 ((h x).1 (L_e ..)) with e | hx
   ·exact e
   ·rcases List.mem_cons.1 ((h y).2 (L_e ..)) with e | hy
    ·exact e.symm
    ·have a1:=q1 x hx
     have a2:=p1 y hy
     rw [JX a1] at a2
     cases a2
  subst exy
  congr 1
  refine xQ p2 q2 fun z=>?_
  constructor
  ·intro hz
   rcases List.mem_cons.1 ((h z).1 (L_h _ hz)) with rfl | h'
   ·have:=p1 z hz;rw [oZ] at this;cases this
   ·exact h'
  ·intro hz
   rcases List.mem_cons.1 ((h z).2 (L_h _ hz)) with rfl | h'
   ·have:=q1 z hz;rw [oZ] at this;cases this
   ·exact h'
def wds (l:List Fa):Bool:=l.all fun x=>word x.1
def kM (l:List Fa):Bool:=(ns l).any fun n=>far (ex l n)
def nE (l:List Fa):Int:=if wds l=true then (if kM l=true then 70 else if 4<(nz l).length then 2 else 0) else 1
def nL (l:List Fa):List Fa:=if nE l=0 then nz l else []
theorem qz (l:List Fa):kM l=true↔∃ n,far (ex l n)=true:=by
 unfold kM;rw [List.any_eq_true];constructor
 ·rintro ⟨n,_,h⟩;exact ⟨n,h⟩
 rintro ⟨n,h⟩;refine ⟨n,JU.2 (pG fun e=>?_),h⟩;rw [e] at h;cases h
theorem Qr {l:List Fa} (h:nE l=0):wds l=true∧kM l=false∧(nz l).length≤4:=by
 unfold nE at h;split at h
 ·split at h
  ·cases h
  split at h
  ·cases h
  refine ⟨by assumption,by simp_all,by omega⟩
 cases h
theorem D9 {l:List Fa} : wds l=true↔∀ x ∈ l,word x.1=true:=by unfold wds;rw [List.all_eq_true]
theorem Ok.wds {l:List Fa} (h:Ok l):wds l=true:=D9.2 fun x hx=>(h.good x hx).1
theorem TP {l:List Fa} (h:Ok l):nE l=0∧nL l=l:=by
 have e:nz l=l:=xQ (Aw l) h.srt fun x=>by
  rw [ni];constructor
  ·rintro ⟨a,b⟩;obtain ⟨y,hy,e⟩:=pG (a ▸ b);have:=xw h.srt y hy;rw [e,← a] at this;have:y=x:=Prod.ext e this.symm;exact this ▸ hy
  intro hx;exact ⟨(xw h.srt x hx).symm,(h.good x hx).2.1⟩
 have e2:kM l=false:=by
  cases hf:kM l
  ·rfl
  obtain ⟨n,hn⟩:=(qz l).1 hf;obtain ⟨x,hx,e3⟩:=pG (l:=l) (n:=n) fun e=>by rw [e] at hn;cases hn
  rw [← e3,xw h.srt x hx,(h.good x hx).2.2] at hn;cases hn
 have e4:nE l=0:=by
  unfold nE;rw [h.wds,e2,e];have:=h.le;simp;omega
 exact ⟨e4,by unfold nL;rw [if_pos e4,e]⟩
def sc (p:Int) (b:List Fa):List Fa:=b.map fun x=>(x.1,x.2 * p)
theorem Gq (l r:List Fa):wds (l++r)=(wds l && wds r):=by unfold wds;rw [List.all_append]
def cE (p:Int) (a b:List Fa):Int:=if ck a=0 then (if ck b=0 then nE (a++sc p b) else ck b) else ck a
end un
section
open Go.RowKit dec
structure Hd where
 k:Int
 op:ByteArray
 nm:ByteArray
 tb:ByteArray
 vk:Int
 vn:Int
 vs:ByteArray
 un:List un.Fa
 pa:Int
 wk:Int
 ws:Int
inductive Fo where
 | nil
 | cons (h:Hd) (ar r:Fo)
def Fo.len:Fo→Nat
 | .nil=>0
 | .cons _ _ r=>r.len+1
structure Ex where
 h:Hd
 ar:Fo
structure Ty where
 k:Int
 un:List un.Fa
 of:ByteArray
structure Fi where
 nm:ByteArray
 ty:Ty
structure Tb where
 nm:ByteArray
 en:ByteArray
 fs:List Fi
 kp:Int
def h0:Hd:=⟨0,.empty,.empty,.empty,0,0,.empty,[],0,0,0⟩
def Fo.nth:Fo→Nat→Ex
 | .nil,_=>⟨h0,.nil⟩
 | .cons h ar _,0=>⟨h,ar⟩
 | .cons _ _ r,j+1=>r.nth j
def Fo.drop:Fo→Nat→Fo
 | F,0=>F
 | .nil,_+1=>.nil
 | .cons _ _ r,j+1=>r.drop j
def Fo.sz:Fo→Nat
 | .nil=>0
 | .cons _ ar r=>ar.sz+r.sz+1
theorem kE:∀ (F:Fo) (j:Nat),j<F.len→(F.nth j).ar.sz<F.sz
 | .nil,_,h=>absurd h (Nat.not_lt_zero _)
 | .cons h ar r,0,_=>by
  simp only [Fo.nth,Fo.sz]
  omega
 | .cons h ar r,j+1,hj=>by
  have:=kE r j (by simpa [Fo.len] using hj)
  simp only [Fo.nth,Fo.sz]
  omega
theorem jS:∀ (F:Fo) (j:Nat),j<F.len→F.drop j=.cons (F.nth j).h (F.nth j).ar (F.drop (j+1))
 | .nil,_,h=>absurd h (Nat.not_lt_zero _)
 | .cons h ar .nil,0,_=>rfl
 | .cons h ar (.cons a b c),0,_=>rfl
 | .cons h ar r,j+1,hj=>by
  have:=jS r j (by simpa [Fo.len] using hj)
  simpa [Fo.nth,Fo.drop] using this
theorem jo:∀ (F:Fo) (j:Nat),F.len≤j→F.drop j=.nil
 | .nil,0,_=>rfl
 | .nil,_+1,_=>rfl
 | .cons h ar r,0,hj=>by simp [Fo.len] at hj
 | .cons h ar r,j+1,hj=>by
  have:=jo r j (by simpa [Fo.len] using hj)
  simpa [Fo.drop] using this
theorem drop_zero (F:Fo):F.drop 0=F:=by cases F <;> rfl
end
namespace ch
open Go.RowKit dec
structure Fe where
 nm:ByteArray
 en:ByteArray
 ty:Ty
 bo:Ex
 vr:Int
def t0:Ty:=⟨0,[],.empty⟩
def szA:Fo→Int→Int
 | .nil,n=>n
 | .cons _ ar r,n=>szA r (wrap64 (n+szA ar 1))
def szE (x:Ex):Int:=szA x.ar 1
def dpA:Fo→Int→Int
 | .nil,n=>n
 | .cons _ ar r,n=>dpA r (max n (wrap64 (dpA ar 0+1)))
def dpE (x:Ex):Int:=wrap64 (dpA x.ar 0+1)
def okU (u:List un.Fa):Bool:=decide (un.ck u=0) && u.all fun f=>name f.1
def num (t:Ty):Bool:=decide (t.k=2) || decide (t.k=3)
def tyE (t:Ty):Int :=
 if t.k<1∨5<t.k then 3
 else if t.k=5∧name t.of=false then 3
 else if t.k≠5∧t.of≠.empty then 3
 else if num t=false∧0<t.un.length then 3
 else if okU t.un=true then 0 else 70
def fiE (bef:List Fi) (f:Fi):Int:=if name f.nm=false then 3 else if bef.any (fun g=>decide (g.nm=f.nm))=true then 121 else tyE f.ty
def fsE:List Fi→List Fi→Int
 | _,[]=>0
 | bef,f :: r=>if fiE bef f=0 then fsE (bef++[f]) r else fiE bef f
def tbE (t:Tb):Int :=
 if name t.nm=false then 3 else if name t.en=false then 3 else if t.kp<0 then 3 else if 1099511627776<t.kp then 3
 else if 8<t.fs.length then 2 else fsE [] t.fs
def same (h g:Hd):Bool :=
 decide (h.op=g.op) && (decide (h.nm=g.nm) && (decide (h.tb=g.tb) && ((decide (h.vk=g.vk) && (decide (h.vn=g.vn) && decide (h.vs=g.vs))) && (decide (h.un=g.un) && (decide (h.pa=g.pa) && (decide (h.wk=g.wk) && decide (h.ws=g.ws)))))))
def MC (h:Hd):Bool :=
 decide (ck ⟨h.vk,h.vn,h.vs⟩=0) && (decide (0≤h.vn) && (decide (tyE ⟨h.vk,h.un,h.nm⟩=0) && same h { h0 with nm:=h.nm,vk:=h.vk,vn:=h.vn,vs:=h.vs,un:=h.un }))
def p9 (h:Hd):Bool:=name h.nm && same h { h0 with nm:=h.nm }
def iG (op:ByteArray) (p:Int):Bool :=
 if op=⟨#[99,111,117,110,116]⟩∨op=⟨#[115,117,109]⟩∨op=⟨#[109,101,97,110]⟩∨op=⟨#[109,105,110]⟩∨op=⟨#[109,97,120]⟩∨op=⟨#[102,105,114,115,116]⟩∨op=⟨#[108,97,115,116]⟩∨op=⟨#[100,105,115,116,105,110,99,116]⟩ then decide (p=0)
 else if op=⟨#[113,117,97,110,116,105,108,101]⟩ then decide (1≤p) && decide (p≤1000)
 else if op=⟨#[100,101,99,97,121]⟩ then decide (1≤p) && decide (p≤1073741824)
 else false
def jd (k n:Int):Bool :=
 if k=1 then decide (n=0) else if k=2∨k=3∨k=4 then decide (1≤n) && decide (n≤1099511627776) else false
def bY (h:Hd):Bool:=decide (h.k=1) && (decide (h.vk=1) && (decide (h.vn=1) && decide (h.vs=.empty)))
def ND (h:Hd):Bool:=name h.tb && (iG h.op h.pa && (jd h.wk h.ws && same h { h0 with op:=h.op,tb:=h.tb,pa:=h.pa,wk:=h.wk,ws:=h.ws }))
def pR (op:ByteArray):Bool:=decide (op=⟨#[45]⟩) || (decide (op=⟨#[110,111,116]⟩) || decide (op=⟨#[110,117,108,108]⟩))
def qy (op:ByteArray):Bool:=[(⟨#[43]⟩:ByteArray),⟨#[45]⟩,⟨#[42]⟩,⟨#[47]⟩,⟨#[61,61]⟩,⟨#[33,61]⟩,⟨#[60]⟩,⟨#[60,61]⟩,⟨#[97,110,100]⟩,⟨#[111,114]⟩].any fun t=>decide (op=t)
def cO (i:Bool) (h:Hd) (n:Nat) (g:Hd):Bool :=
 if h.k=1 then MC h && decide (n=0)
 else if h.k=2 then i && (p9 h && decide (n=0))
 else if h.k=3 then !i && (p9 h && decide (n=0))
 else if h.k=4 then !i && (p9 h && decide (n=1))
 else if h.k=5 then !i && (ND h && (decide (n=2) && (!decide (h.op=⟨#[99,111,117,110,116]⟩) || bY g)))
 else if h.k=6 then pR h.op && (same h { h0 with op:=h.op } && decide (n=1))
 else if h.k=7 then qy h.op && (same h { h0 with op:=h.op } && decide (n=2))
 else if h.k=8 then same h h0 && decide (n=3)
 else if h.k=9 then same h h0 && decide (n=2)
 else false
def fmA (i:Bool):Fo→Bool
 | .nil=>true
 | .cons h ar r=>cO i h ar.len (ar.nth 0).h && (fmA (i || decide (h.k=5)) ar && fmA i r)
def fmE (i:Bool) (x:Ex):Bool:=cO i x.h x.ar.len (x.ar.nth 0).h && fmA (i || decide (x.h.k=5)) x.ar
def shE (x:Ex):Int:=if 64<szE x∨12<dpE x then 2 else if fmE false x=true then 0 else 3
def zU (a b:Ty):Bool:=decide (a.k=b.k) && (decide (a.un=b.un) && decide (a.of=b.of))
end ch
namespace un
open Go.RowKit dec
structure Bw (w:World) (b:Nat) (x:Fa):Prop where
 c0:w.cell? ⟨b,0,none⟩=some (.string x.1)
 c1:w.cell? ⟨b,1,none⟩=some (.int .i64 x.2)
theorem Bw.lt {w:World} {b:Nat} {x:Fa} (h:Bw w b x):b<w.heap.size:=block_lt_of_cell h.c0
theorem Bw.new (w:World) (x:Fa) (T:TypeId):Bw (w.alloc (.cells #[.string x.1,.int .i64 x.2] T)) w.heap.size x:=⟨by simp [go_sem],by simp [go_sem]⟩
theorem Bw.rH {w w1:World} {B b:Nat} {x:Fa} (h:Bw w b x) (hb:Below B w w1) (hl:b<B):Bw w1 b x :=
 ⟨(hb.cell hl).trans h.c0,(hb.cell hl).trans h.c1⟩
theorem Bw.keeps {w w1:World} {b:Nat} {x:Fa} (h:Bw w b x) (hb:Below w.heap.size w w1):Bw w1 b x:=h.rH hb h.lt
theorem Bw.past {w:World} {b:Nat} {x:Fa} (h:Bw w b x) (o:Obj):Bw (w.alloc o) b x:=h.keeps (aj (b0 w) o)
theorem CG {w w':World} (h:∃ p:Regrown,w'=Sort.grow (redrawn w p.d) p.os):Below w.heap.size w w':=by
 obtain ⟨p,rfl⟩:=h;exact below_regrown w p.d p.os
theorem bA {a b:Bool} (h:a=b):Ending.returned (Value.bool a)=.returned (.bool b):=by rw [h]
theorem fq {k:IntKind} {a b:Int} (h:a=b):Ending.returned (.int k a)=.returned (.int k b):=by rw [h]
def cs:List Fa→List Value
 | []=>[]
 | x :: l=>.string x.1 :: .int .i64 x.2 :: cs l
theorem iC:∀ l r:List Fa,cs (l++r)=cs l++cs r
 | [],_=>rfl
 | x :: l,r=>by simp only [cs,L_g,iC l r]
theorem lM:∀ l:List Fa,∀ u ∈ cs l,u.oneCell'=true
 | [],u,h=>by simp [cs] at h
 | x :: l,u,h=>by
  simp only [cs,List.mem_cons] at h
  rcases h with rfl | rfl | h
  ·rfl
  ·rfl
  ·exact lM l u h
def gt (l:List Fa) (j:Nat):Fa:=l.getD j (.empty,0)
theorem jH {l:List Fa} {j:Nat} (h:j<l.length):gt l j ∈ l:=by
 unfold gt;rw [List.getD_eq_getElem?_getD,List.getElem?_eq_getElem h];exact List.getElem_mem h
theorem fJ {l:List Fa} {j:Nat} (h:j<l.length):gt l j=l[j]:=by
 unfold gt;rw [List.getD_eq_getElem?_getD,List.getElem?_eq_getElem h];rfl
theorem lW:∀ (l:List Fa) (j:Nat),j<l.length→(cs l)[j * 2]? = some (.string (gt l j).1)∧(cs l)[j * 2+1]? = some (.int .i64 (gt l j).2)
 | [],j,h=>by simp at h
 | x :: l,0,_=>⟨rfl,rfl⟩
 | x :: l,j+1,h=>by
  have:=lW l j (by simpa using h)
  rw [show (j+1) * 2=j * 2+1+1 by omega]
  simp only [cs,sz4]
  exact this
theorem sQ {l:List Fa} {j:Nat} (h:j<l.length):l.drop j=gt l j :: l.drop (j+1):=by
 rw [fJ h];exact List.drop_eq_getElem_cons h
theorem gY {l:List Fa} {j:Nat} (h:j<l.length):l.take (j+1)=l.take j++[gt l j]:=by
 rw [fJ h,List.take_add_one,List.getElem?_eq_getElem h];rfl
def Cl (w:World) (b off:Nat) (l:List Fa):Prop:=∀ j,j<l.length→w.cell? ⟨b,off+j * 2,none⟩=some (.string (gt l j).1)∧w.cell? ⟨b,off+j * 2+1,none⟩=some (.int .i64 (gt l j).2)
theorem Cl.keeps {w w1:World} {b off:Nat} {l:List Fa} (h:Cl w b off l) (hb:Below w.heap.size w w1):Cl w1 b off l:=fun j hj=>⟨dec.keeps hb (h j hj).1,dec.keeps hb (h j hj).2⟩
def At (w:World) (a:Option Addr) (l:List Fa):Prop:=l.length=0∨∃ b off,a=some ⟨b,off,none⟩∧Cl w b off l
theorem At.keeps {w w1:World} {a:Option Addr} {l:List Fa} (h:At w a l) (hb:Below w.heap.size w w1):At w1 a l:=h.imp id fun ⟨b,off,e,hB⟩=>⟨b,off,e,hB.keeps hb⟩
structure Sl (w:World) (a:Option Addr) (n cap:Nat) (l:List Fa):Prop where
 hat:At w a l
 hn:l.length=n
 hcap:0≤cap
 hmax:n≤9223372036854775807
 hno:True
theorem Sl.keeps {w w1:World} {a:Option Addr} {n cap:Nat} {l:List Fa} (h:Sl w a n cap l) (hb:Below w.heap.size w w1):Sl w1 a n cap l:={ h with hat:=h.hat.keeps hb }
theorem Sl.nil (w:World):Sl w none 0 0 []:=⟨.inl rfl,rfl,by omega,by omega,trivial⟩
theorem Cl.cut {w:World} {b off:Nat} {l:List Fa} (h:Cl w b off l) (k m:Nat):Cl w b (off+k * 2) ((l.drop k).take m):=by
 intro j hj;have hlen:((l.drop k).take m).length=min m (l.length - k):=by simp
 have:=h (k+j) (by omega);have e:gt ((l.drop k).take m) j=gt l (k+j):=by
  rw [fJ hj,fJ (by omega)];simp
 rw [e,show off+k * 2+j * 2=off+(k+j) * 2 by omega];exact this
theorem Cl.take {w:World} {b off:Nat} {l:List Fa} (h:Cl w b off l) (m:Nat):Cl w b off (l.take m):=by
 have:=h.cut 0 m;simpa using this
theorem wN:(Tryz.prog.info? 82).map (fun i=>(i.zero,i.size,i.bytes))=some (some (.agg #[.string .empty,.int .i64 0]),2,24):=by kernel_rfl
def Own (w:World) (base:Nat) (v:Value) (l:List Fa):Prop:=w.ownsRow base 82 2 v l.length (cs l)
theorem Own.nil (w:World) (base:Nat):Own w base (.slice none 0 0) []:=World.ownsRow_nil _ _ _ _
theorem Own.o {w:World} {base:Nat} {v:Value} {l:List Fa} (h:Own w base v l):(v=.slice none 0 0∧l=[])∨∃ g cap,v=.slice (some ⟨g,0,none⟩) l.length cap∧base≤g∧g<w.heap.size∧l.length≤cap∧cap≤9223372036854775807∧Cl w g 0 l∧∀ j,j<l.length→w.frozen? ⟨g,j * 2,none⟩=false∧w.frozen? ⟨g,j * 2+1,none⟩=false:=by
 rcases h.2 with ⟨h0,h1⟩ | ⟨g,cap,cur,rfl,hb,hg,hc,hm,hs,ht⟩
 ·exact .inl ⟨h0,List.eq_nil_of_length_eq_zero h1⟩
 refine .inr ⟨g,cap,rfl,hb,(h.lt g rfl).2,hc,by unfold maxLen at hm;omega,fun j hj=>?_,fun j _=>⟨h.frozenAt _,h.frozenAt _⟩⟩;rw [Nat.zero_add,h.cellAt (j * 2) (by omega),h.cellAt (j * 2+1) (by omega)];exact lW l j hj
theorem Own.sl {w:World} {base:Nat} {v:Value} {l:List Fa} (h:Own w base v l):∃ a cap,v=.slice a l.length cap∧Sl w a l.length cap l:=by
 rcases h.o with ⟨rfl,rfl⟩ | ⟨g,cap,rfl,_,_,hc,hm,hW,_⟩
 ·exact ⟨none,0,rfl,.nil _⟩
 exact ⟨_,cap,rfl,.inr ⟨g,0,rfl,hW⟩,rfl,Nat.zero_le _,by omega,trivial⟩
theorem Own.keeps {w w1:World} {base:Nat} {v:Value} {l:List Fa} (h:Own w base v l) (hb:Below w.heap.size w w1):Own w1 base v l:=by
 obtain ⟨h1,h2⟩:=h;refine ⟨h1,?_⟩;rcases h2 with h0 | ⟨g,cap,cur,e,hbg,hh,r⟩
 ·exact .inl h0
 refine .inr ⟨g,cap,cur,e,hbg,?_,r⟩;have:g<w.heap.size:=by
  rcases Nat.lt_or_ge g w.heap.size with h' | h'
  ·exact h'
  rw [Array.getElem?_eq_none h'] at hh;cases hh
 rw [hb.block _ this];exact hh
theorem own_below {w w':World} {base:Nat} {v:Value} {l:List Fa} (h:Own w base v l) (hg:w.grownBy w' v.ownBlock) (hb:base≤w.heap.size):Below base w w' :=
 (Below.refl base w).grown hg hb fun k hk=>(h.lt k hk).1
theorem ou (w:World) {o:Oper} {a:Act} {K:Act→World→Prop} {Q:Exit→Act→World→Prop} (s x:Operand)
    (ho:o.op=.call { callee:=.builtin .append,args:=#[s,x],argTypes:=#[24,24] })
    (base:Nat) (v:Value) (l:List Fa) (hs:a.eval s=v) (hown:Own w base v l) (b:Nat) (p:ByteArray) (q:Int) (hx:a.eval x=.slice (some ⟨b,0,none⟩) 1 1) (hB:Bw w b (p,q))
    (hn:l.length<5864062014805) (hbase:base≤w.heap.size)
    (h:∀ v' w',Own w' base v' (l++[(p,q)])→Below base w w'→K (a.put o.dst v') w'):o.wp Tryz.prog a w K Q:=by
 obtain ⟨i,hi,hz0,hz1,hz2⟩:=info_parts wN
 refine wp_append_own w s x 24 ho base 82 i (.agg #[.string .empty,.int .i64 0]) 2 24 Tryz.underlying24 hi hz0 hz1 hz2 rfl (by decide) v l.length (cs l) hs hown ⟨b,0,none⟩ 1 1 (cs [(p,q)]) hx rfl ?_ (lM _)
   (by unfold maxLen;omega) (by omega) hbase fun v' w' h1 h2 _=>h v' w' (by unfold Own;rw [iC,L_a];exact h1) (own_below hown h2 hbase)
 intro j u hu;unfold Addr.add
 match j,hu with
 | 0,hu=>simp [cs] at hu;subst hu;exact hB.c0
 | 1,hu=>simp [cs] at hu;subst hu;exact hB.c1
 | j+2,hu=>simp [cs] at hu
theorem eP (w:World) {ops:Array Oper} {rest:List Oper} {o:Oper} {a:Act} {Q:Exit→Act→World→Prop} (hgd:o.guard=none) (s x:Operand)
  (ho:o.op=.call { callee:=.builtin .append,args:=#[s,x],argTypes:=#[24,24] })
  (base:Nat) (v:Value) (l:List Fa) (hs:a.eval s=v) (hown:Own w base v l) (b:Nat) (p:ByteArray) (q:Int) (hx:a.eval x=.slice (some ⟨b,0,none⟩) 1 1) (hB:Bw w b (p,q))
  (hn:l.length<5864062014805) (hbase:base≤w.heap.size)
  (h:∀ v' w',Own w' base v' (l++[(p,q)])→Below base w w'→wpList Tryz.prog ops Q rest (a.put o.dst v') w'):wpList Tryz.prog ops Q (o :: rest) a w :=
 wpList_plain hgd fun _ hK=>ou w s x ho base v l hs hown b p q hx hB hn hbase fun v' w' h1 h2=>hK _ _ (h v' w' h1 h2)
theorem jF {w:World} {ops:Array Oper} {rest:List Oper} {o:Oper} {a:Act} {Q:Exit→Act→World→Prop} (s x:Operand) (_:o.op=.call { callee:=.builtin .append,args:=#[s,x],argTypes:=#[24,24] })
  (k:wpList Tryz.prog ops Q (o :: rest) a w):wpList Tryz.prog ops Q (o :: rest) a w:=k
end un
section
open Go.RowKit
section
variable {P:Program} {Q:Exit→Act→World→Prop} {md:Region.Mode} {S:World→Prop}
theorem Ke {l:List Oper} {i d:Nat} {oi:Oper} {v:Value} {fuel:Nat} {listed:Array Bool} {t:List Value} {ds:List Deferred} {w:World} (hi:l[i]? = some oi)
    (hs:Region.noSelect l.toArray=true) (hf:Region.free md l.toArray listed i=true) (hr:(Region.ready md l.toArray listed).contains i=true) (hd:oi.dst=some d)
    (hQ:∀ c a w,Q (.panic c) (a.put (some d) v) w→Q (.panic c) a w) (hw:Region.wanted oi (yielded l.toArray t.toArray)=true) (hS:S w)
    (hy:∀ w,S w→(execOp (Act.mk t.toArray ds).eval oi).run P w=.ok (.value v) w)
    (h:wpAnyH P md l.toArray Q S fuel (listed.setIfInBounds i true) ⟨(t.set d v).toArray,ds⟩ w):wpAnyH P md l.toArray Q S (fuel+1) listed ⟨t.toArray,ds⟩ w:=by
 refine wpAnyH_take (i:=i) (oi:=oi) (v:=v) (by simpa using hi) hs hf hr (by rw [hd];exact hQ) (.inl ⟨hw,hy⟩) hS ?_;rw [hd];simpa [Act.put] using h
theorem bg {l:List Oper} (i d:Nat) (v:Value) {oi:Oper} {fuel:Nat} {listed:Array Bool} {t:List Value} {ds:List Deferred} {w:World} (hi:l[i]? = some oi)
 (hb:(Region.noSelect l.toArray && Region.free md l.toArray listed i && (Region.ready md l.toArray listed).contains i)=true) (hd:oi.dst=some d)
 (hQ:∀ c a w,Q (.panic c) (a.put (some d) v) w→Q (.panic c) a w) (hw:Region.wanted oi (yielded l.toArray t.toArray)=true) (hS:S w)
 (hy:∀ w,S w→(execOp (Act.mk t.toArray ds).eval oi).run P w=.ok (.value v) w)
 (h:wpAnyH P md l.toArray Q S fuel (listed.setIfInBounds i true) ⟨(t.set d v).toArray,ds⟩ w):wpAnyH P md l.toArray Q S (fuel+1) listed ⟨t.toArray,ds⟩ w:=by
 rw [L_d,L_d] at hb
 exact Ke hi hb.1.1 hb.1.2 hb.2 hd hQ hw hS hy h
theorem au {l:List Oper} (i d:Nat) (v:Value) {oi:Oper} {fuel:Nat} {listed:Array Bool} {t:List Value} {ds:List Deferred} {w:World} (hS:S w)
 (hy:∀ w,S w→(execOp (Act.mk t.toArray ds).eval oi).run P w=.ok (.value v) w)
 (h:wpAnyH P md l.toArray Q S fuel (listed.setIfInBounds i true) ⟨(t.set d v).toArray,ds⟩ w) (hi:l[i]? = some oi:=by rfl)
 (hb:(Region.noSelect l.toArray && Region.free md l.toArray listed i && (Region.ready md l.toArray listed).contains i)=true:=by kernel_rfl) (hd:oi.dst=some d:=by rfl)
 (hQ:∀ c a w,Q (.panic c) (a.put (some d) v) w→Q (.panic c) a w:=by exact fun _ _ _ h=>h) (hw:Region.wanted oi (yielded l.toArray t.toArray)=true:=by rfl):wpAnyH P md l.toArray Q S (fuel+1) listed ⟨t.toArray,ds⟩ w:=bg i d v hi hb hd hQ hw hS hy h
theorem Kg {l:List Oper} {i:Nat} {oi:Oper} {fuel:Nat} {listed:Array Bool} {a:Act} {w:World} (hi:l[i]? = some oi)
    (hr:Region.ready md l.toArray listed=[i]) (hw:Region.wanted oi (yielded l.toArray a.tmps)=true)
    (h:∀ K':Act→World→Prop,Shut (∀ a w,S w→(S w→wpAnyH P md l.toArray Q S fuel (listed.setIfInBounds i true) a w)→K' a w)→Oper.wp P oi a w K' Q):wpAnyH P md l.toArray Q S (fuel+1) listed a w:=by
 refine wpAnyH_ready hr (by simp) (AllReadyH.cons (o:=oi) (by simpa using hi) (fun K hK=>?_) AllReadyH.nil);rw [if_pos hw];exact h K hK
theorem aA {l:List Oper} (i:Nat) {oi:Oper} {fuel:Nat} {listed:Array Bool} {a:Act} {w:World}
 (h:∀ K':Act→World→Prop,Shut (∀ a w,S w→(S w→wpAnyH P md l.toArray Q S fuel (listed.setIfInBounds i true) a w)→K' a w)→Oper.wp P oi a w K' Q) (hi:l[i]? = some oi:=by rfl)
 (hr:Region.ready md l.toArray listed=[i]:=by kernel_rfl) (hw:Region.wanted oi (yielded l.toArray a.tmps)=true:=by rfl):wpAnyH P md l.toArray Q S (fuel+1) listed a w:=Kg hi hr hw h
theorem dN {l:List Oper} {i j:Nat} {oi oj:Oper} {fuel:Nat} {listed:Array Bool} {a:Act} {w:World} (hi:l[i]? = some oi) (hj:l[j]? = some oj)
    (hr:Region.ready md l.toArray listed=[i,j]) (hw:Region.wanted oi (yielded l.toArray a.tmps)=true) (hw':Region.wanted oj (yielded l.toArray a.tmps)=true)
    (h:∀ K':Act→World→Prop,Shut (∀ a w,S w→(S w→wpAnyH P md l.toArray Q S fuel (listed.setIfInBounds i true) a w)→K' a w)→Oper.wp P oi a w K' Q)
    (h':∀ K':Act→World→Prop,Shut (∀ a w,S w→(S w→wpAnyH P md l.toArray Q S fuel (listed.setIfInBounds j true) a w)→K' a w)→Oper.wp P oj a w K' Q):wpAnyH P md l.toArray Q S (fuel+1) listed a w:=by
 refine wpAnyH_ready hr (by simp) (AllReadyH.cons (o:=oi) (by simpa using hi) (fun K hK=>?_) (AllReadyH.cons (o:=oj) (by simpa using hj) (fun K hK=>?_) AllReadyH.nil))
 ·rw [if_pos hw];exact h K hK
 rw [if_pos hw'];exact h' K hK
theorem vS {Q:Exit→Act→World→Prop} {a:Act} {w:World} (h:Q .normal a w):NoPanic Q .normal a w:=h
end
theorem zu {P:Program} {Q:Exit→Act→World→Prop} {md:Region.Mode} {ops:Array Oper} {S S':World→Prop} (hS:∀ w,S' w→S w):∀ (fuel:Nat) (listed:Array Bool) (a:Act) (w:World),wpAnyH P md ops Q S' fuel listed a w→wpAnyH P md ops Q S fuel listed a w
 | 0,_,_,_,h=>h
 | fuel+1,_,_,_,h=>⟨h.1,fun i hi=>wpOp_mono (fun a' w' h' => ⟨hS w' h'.1,zu hS fuel _ a' w' h'.2⟩) (h.2 i hi)⟩
theorem BZ {P:Program} {Q:Exit→Act→World→Prop} {md:Region.Mode} {ops:Array Oper} {S:World→Prop} {fuel:Nat} {listed:Array Bool} {a:Act} {w:World} (T:World→Prop) (hT:T w) (hS:S w)
  (h:(S w∧T w)→wpAnyH P md ops Q (fun w' => S w'∧T w') fuel listed a w):wpAnyH P md ops Q S fuel listed a w:=zu (fun _ h=>h.1) _ _ _ _ (h ⟨hS,hT⟩)
end
end Go.Proofs.YtbahfelnbofjjaaGreatDoor
