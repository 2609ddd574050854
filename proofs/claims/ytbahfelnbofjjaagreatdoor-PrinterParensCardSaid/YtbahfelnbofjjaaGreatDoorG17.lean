/-
  The reference's Type; Has; the reference's Check and Has: for every value; The reference's rules of proper form of literals and aggregates.
-/
import Derived.Test.YtbahfelnbofjjaaGreatDoorG16
set_option maxRecDepth 100000
set_option maxHeartbeats 16000000
namespace Go.Proofs.YtbahfelnbofjjaaGreatDoor
namespace ch
open Go.RowKit dec
theorem IV (t:Ty) (ua:Option Addr) (uc:Nat) (w:World) (hA:un.Sl w ua t.un.length uc t.un) :
    Calls Tryz.prog 29 #[.agg (tyC t ua uc)] w (Num (tyE t) w):=by
 have bb:=au (b0 w) (.cells (tyC t ua uc) 31);have B0:=Hy bb;have G:=Hy (Blk.new w 31 (tyC t ua uc));have S0:=Hy (hA.keeps bb);have hE:tyE t=tyE t:=rfl
 conv at hE=>rhs;unfold tyE
 replace hE:=Hy hE;have hL:=Hy (show t.un.length≤9223372036854775807 by have:=hA.hcap;have:=hA.hmax;omega);have CN:=Hy (fun W=>mV t.of W);have CU:=Hy (fun W S=>un.oL ua t.un.length uc t.un W S);have CM:=Hy mV;have CI:=Hy (fun W=>Cv t ua uc W);clear hA bb;unfold tyC at *;by_cases h1:t.k<1
 ·have q1:decide (t.k<1)=true:=dT h1;replace hE:=hE.o;rw [if_pos (.inl h1)] at hE;replace hE:=Hy hE;clear CN CU CI
  go_enter Tryz.func29,Tryz.ntmps29
  go_wp2_with fail;go_ret;exact aT (by rw [hE.o]) B0.o
 have q1:decide (t.k<1)=false:=dF h1;by_cases h2:5<t.k
 ·have q2:decide (5<t.k)=true:=dT h2;replace hE:=hE.o;rw [if_pos (.inr h2)] at hE;replace hE:=Hy hE;clear CN CU CI
  go_enter Tryz.func29,Tryz.ntmps29
  go_wp2_with fail;go_ret;exact aT (by rw [hE.o]) B0.o
 have q2:decide (5<t.k)=false:=dF h2;replace hE:=hE.o;rw [if_neg (by omega)] at hE;replace hE:=Hy hE;by_cases h3:t.k=5
 ·have q3:(t.k==5)=true:=by simp [h3]
  have q4:(t.k != 5)=false:=by simp [h3]
  replace hE:=hE.o;simp only [h3,true_and] at hE;replace hE:=Hy hE;replace h3:=Hy h3
  go_enter Tryz.func29,Tryz.ntmps29
  go_wp2_with fail;refine (CN.o _).mono ?_;rintro e w1 ⟨rfl,b1⟩;have B1:=Hy (aA B0.o b1);replace S0:=Hy (S0.o.keeps b1);replace G:=Hy (G.o.keeps b1);have c0:=G.o.cell 0;have c1:=G.o.cell 1;have c2:=G.o.cell 2;simp only [sz2,sz3,sz4] at c0 c1 c2;clear b1 CN;generalize name t.of=z at *;cases z
  ·replace hE:=hE.o;rw [if_pos rfl] at hE;replace hE:=Hy hE;go_wp2_with fail;go_ret;exact aT (by rw [hE.o]) B1.o
  replace hE:=hE.o;rw [if_neg (by decide),if_neg (fun h=>h.1 rfl)] at hE;replace hE:=Hy hE;go_wp2_with (first | (refine aF kK Tryz.underlying31 rfl (.tmp 1) rfl rfl _ _ _ rfl G.o rfl ?_));refine (CI.o _).mono ?_;rintro e w2 ⟨rfl,b2⟩;have B2:=Hy (aA B1.o b2);replace S0:=Hy (S0.o.keeps b2);replace G:=Hy (G.o.keeps b2);have c1:=G.o.cell 1;simp only [sz2,sz3,sz4] at c1;clear b2 CI;generalize num t=m at *;cases m
  ·by_cases hp:0<t.un.length
   ·have q9:decide (0<(t.un.length:Int))=true:=dT (by omega);replace hE:=hE.o;rw [if_pos ⟨rfl,hp⟩] at hE;replace hE:=Hy hE;go_wp2_with fail;go_ret;exact aT (by rw [hE.o]) B2.o
   have q9:decide (0<(t.un.length:Int))=false:=dF (by omega);replace hE:=hE.o;rw [if_neg (fun h=>hp h.2)] at hE;replace hE:=Hy hE;go_wp2_with fail;refine (CU.o _ S0.o).mono ?_;rintro e w3 ⟨rfl,b3⟩;have B3:=Hy (aA B2.o b3);replace S0:=Hy (S0.o.keeps b3);replace G:=Hy (G.o.keeps b3);have d1:=G.o.cell 1;simp only [sz2,sz3,sz4] at d1;clear b3 CU;by_cases hk:un.ck t.un=0
   ·have q7:(un.ck t.un != 0)=false:=by simp [hk]
    have hI:=Hy (show okU t.un=(t.un.drop 0).all fun f=>name f.1 by unfold okU;rw [dT hk,Bool.true_and,List.drop_zero]);replace hk:=Hy hk;go_wp2_with fail;have B9:=B3;have G9:=G;have S9:=S0;clear d1 B3 G S0
    go_loopw [3] (fun vi wr => ∃ (j:Nat),vi=.int .i64 (j:Nat)∧Hid (j≤t.un.length)∧Hid (okU t.un=(t.un.drop j).all fun f=>name f.1)∧Hid (Below w.heap.size w wr)∧Hid (un.Sl wr ua t.un.length uc t.un)∧Hid (Blk wr w.heap.size 31 #[.int .i64 t.k,.slice ua t.un.length uc,.string t.of])) (fun vi _=>t.un.length - (intOf vi).toNat)
    case atStart=>exact ⟨0,rfl,Hy zl,hI,B9,S9,G9⟩
    case round =>
     clear hI B9 S9 G9;obtain ⟨j,rfl,hj,hI,hb,hS,G⟩:=hrel;have d0:=G.o.cell 0;have d1:=G.o.cell 1;simp only [sz2,sz3,sz4] at d0 d1;by_cases hlt:j<t.un.length
     ·exfalso;omega
     have q1:decide ((j:Int)<(t.un.length:Int))=false:=dF (by omega);replace hI:=hI.o;rw [List.drop_eq_nil_of_le (by omega),List.all_nil] at hI;replace hE:=hE.o;rw [if_pos hI] at hE;replace hE:=Hy hE;clear hj hI;go_wp2_with fail;go_ret;exact aT (by rw [hE.o]) hb.o
   have q7:(un.ck t.un != 0)=true:=by simp [hk]
   replace hE:=hE.o;rw [if_neg (by unfold okU;rw [dF hk,Bool.false_and];decide)] at hE;replace hE:=Hy hE;replace hk:=Hy hk;go_wp2_with fail;go_ret;exact aT (by rw [hE.o]) B3.o
  replace hE:=hE.o;rw [if_neg (fun h=>by cases h.1)] at hE;replace hE:=Hy hE;go_wp2_with fail;refine (CU.o _ S0.o).mono ?_;rintro e w4 ⟨rfl,b4⟩;have B4:=Hy (aA B2.o b4);replace S0:=Hy (S0.o.keeps b4);replace G:=Hy (G.o.keeps b4);have d1:=G.o.cell 1;simp only [sz2,sz3,sz4] at d1;clear b4 CU;by_cases hk:un.ck t.un=0
  ·have q7:(un.ck t.un != 0)=false:=by simp [hk]
   have hI:=Hy (show okU t.un=(t.un.drop 0).all fun f=>name f.1 by unfold okU;rw [dT hk,Bool.true_and,List.drop_zero]);replace hk:=Hy hk;go_wp2_with fail;have B9:=B4;have G9:=G;have S9:=S0;clear d1 B4 G S0
   go_loopw [3] (fun vi wr => ∃ (j:Nat),vi=.int .i64 (j:Nat)∧Hid (j≤t.un.length)∧Hid (okU t.un=(t.un.drop j).all fun f=>name f.1)∧Hid (Below w.heap.size w wr)∧Hid (un.Sl wr ua t.un.length uc t.un)∧Hid (Blk wr w.heap.size 31 #[.int .i64 t.k,.slice ua t.un.length uc,.string t.of])) (fun vi _=>t.un.length - (intOf vi).toNat)
   case atStart=>exact ⟨0,rfl,Hy zl,hI,B9,S9,G9⟩
   case round =>
    clear hI B9 S9 G9;obtain ⟨j,rfl,hj,hI,hb,hS,G⟩:=hrel;have d0:=G.o.cell 0;have d1:=G.o.cell 1;simp only [sz2,sz3,sz4] at d0 d1;by_cases hlt:j<t.un.length
    ·have q1:decide ((j:Int)<(t.un.length:Int))=true:=dT (by omega);obtain ⟨bk,off,rfl,hC⟩:=hS.o.hat.resolve_left (by omega);obtain ⟨c0,c1⟩:=hC j hlt;have f4:=Hy (aS (j:=j) (by have:=hL.o;omega));have i1:(j:Int)<(t.un.length:Int):=by omega
     replace hI:=hI.o;rw [un.lV hlt,List.all_cons] at hI;replace hI:=Hy hI;clear hC hj;generalize un.gt t.un j=x at *;go_wp2_with fail;refine (CM.o x.1 _).mono ?_;rintro e w21 ⟨rfl,b21⟩;have B21:=Hy (aA hb.o b21);replace hS:=Hy (hS.o.keeps b21);replace G:=Hy (G.o.keeps b21);clear b21 c0 c1 d0 d1 hb;generalize name x.1=q at *;cases q
     ·replace hE:=hE.o;rw [if_neg (by rw [hI.o,Bool.false_and];decide)] at hE;replace hE:=Hy hE;go_wp2_with fail;go_ret;exact aT (by rw [hE.o]) B21.o
     replace hI:=Hy (hI.o.trans (Bool.true_and _));go_wp2_with fail;exact ⟨⟨j+1,congrArg (Value.int .i64) f4.o,Hy hlt,hI,B21,hS,G⟩,aN hlt f4.o⟩
    have q1:decide ((j:Int)<(t.un.length:Int))=false:=dF (by omega);replace hI:=hI.o;rw [List.drop_eq_nil_of_le (by omega),List.all_nil] at hI;replace hE:=hE.o;rw [if_pos hI] at hE;replace hE:=Hy hE;clear hj hI;go_wp2_with fail;go_ret;exact aT (by rw [hE.o]) hb.o
  have q7:(un.ck t.un != 0)=true:=by simp [hk]
  replace hE:=hE.o;rw [if_neg (by unfold okU;rw [dF hk,Bool.false_and];decide)] at hE;replace hE:=Hy hE;replace hk:=Hy hk;go_wp2_with fail;go_ret;exact aT (by rw [hE.o]) B4.o
 have q3:(t.k==5)=false:=by simp [h3]
 have q4:(t.k != 5)=true:=by simp [h3]
 replace hE:=hE.o;rw [if_neg (fun h=>h3 h.1)] at hE;replace hE:=Hy hE;by_cases h4:t.of=.empty
 ·have q5:(!t.of.toList.isEmpty)=false:=by simp only [eqE,h4,decide_true,Bool.not_true]
  replace hE:=hE.o;rw [if_neg (fun h=>h.2 h4)] at hE;replace hE:=Hy hE;clear h4 CN
  go_enter Tryz.func29,Tryz.ntmps29
  go_wp2_with (first | (refine aF kK Tryz.underlying31 rfl (.tmp 1) rfl rfl _ _ _ rfl G.o rfl ?_));refine (CI.o _).mono ?_;rintro e w22 ⟨rfl,b22⟩;have B22:=Hy (aA B0.o b22);replace S0:=Hy (S0.o.keeps b22);replace G:=Hy (G.o.keeps b22);have c1:=G.o.cell 1;simp only [sz2,sz3,sz4] at c1;clear b22 CI;generalize num t=m at *;cases m
  ·by_cases hp:0<t.un.length
   ·have q9:decide (0<(t.un.length:Int))=true:=dT (by omega);replace hE:=hE.o;rw [if_pos ⟨rfl,hp⟩] at hE;replace hE:=Hy hE;go_wp2_with fail;go_ret;exact aT (by rw [hE.o]) B22.o
   have q9:decide (0<(t.un.length:Int))=false:=dF (by omega);replace hE:=hE.o;rw [if_neg (fun h=>hp h.2)] at hE;replace hE:=Hy hE;go_wp2_with fail;refine (CU.o _ S0.o).mono ?_;rintro e w23 ⟨rfl,b23⟩;have B23:=Hy (aA B22.o b23);replace S0:=Hy (S0.o.keeps b23);replace G:=Hy (G.o.keeps b23);have d1:=G.o.cell 1;simp only [sz2,sz3,sz4] at d1;clear b23 CU;by_cases hk:un.ck t.un=0
   ·have q7:(un.ck t.un != 0)=false:=by simp [hk]
    have hI:=Hy (show okU t.un=(t.un.drop 0).all fun f=>name f.1 by unfold okU;rw [dT hk,Bool.true_and,List.drop_zero]);replace hk:=Hy hk;go_wp2_with fail;have B9:=B23;have G9:=G;have S9:=S0;clear d1 B23 G S0
    go_loopw [3] (fun vi wr => ∃ (j:Nat),vi=.int .i64 (j:Nat)∧Hid (j≤t.un.length)∧Hid (okU t.un=(t.un.drop j).all fun f=>name f.1)∧Hid (Below w.heap.size w wr)∧Hid (un.Sl wr ua t.un.length uc t.un)∧Hid (Blk wr w.heap.size 31 #[.int .i64 t.k,.slice ua t.un.length uc,.string t.of])) (fun vi _=>t.un.length - (intOf vi).toNat)
    case atStart=>exact ⟨0,rfl,Hy zl,hI,B9,S9,G9⟩
    case round =>
     clear hI B9 S9 G9;obtain ⟨j,rfl,hj,hI,hb,hS,G⟩:=hrel;have d0:=G.o.cell 0;have d1:=G.o.cell 1;simp only [sz2,sz3,sz4] at d0 d1;by_cases hlt:j<t.un.length
     ·exfalso;omega
     have q1:decide ((j:Int)<(t.un.length:Int))=false:=dF (by omega);replace hI:=hI.o;rw [List.drop_eq_nil_of_le (by omega),List.all_nil] at hI;replace hE:=hE.o;rw [if_pos hI] at hE;replace hE:=Hy hE;clear hj hI;go_wp2_with fail;go_ret;exact aT (by rw [hE.o]) hb.o
   have q7:(un.ck t.un != 0)=true:=by simp [hk]
   replace hE:=hE.o;rw [if_neg (by unfold okU;rw [dF hk,Bool.false_and];decide)] at hE;replace hE:=Hy hE;replace hk:=Hy hk;go_wp2_with fail;go_ret;exact aT (by rw [hE.o]) B23.o
  replace hE:=hE.o;rw [if_neg (fun h=>by cases h.1)] at hE;replace hE:=Hy hE;go_wp2_with fail;refine (CU.o _ S0.o).mono ?_;rintro e w24 ⟨rfl,b24⟩;have B24:=Hy (aA B22.o b24);replace S0:=Hy (S0.o.keeps b24);replace G:=Hy (G.o.keeps b24);have d1:=G.o.cell 1;simp only [sz2,sz3,sz4] at d1;clear b24 CU;by_cases hk:un.ck t.un=0
  ·have q7:(un.ck t.un != 0)=false:=by simp [hk]
   have hI:=Hy (show okU t.un=(t.un.drop 0).all fun f=>name f.1 by unfold okU;rw [dT hk,Bool.true_and,List.drop_zero]);replace hk:=Hy hk;go_wp2_with fail;have B9:=B24;have G9:=G;have S9:=S0;clear d1 B24 G S0
   go_loopw [3] (fun vi wr => ∃ (j:Nat),vi=.int .i64 (j:Nat)∧Hid (j≤t.un.length)∧Hid (okU t.un=(t.un.drop j).all fun f=>name f.1)∧Hid (Below w.heap.size w wr)∧Hid (un.Sl wr ua t.un.length uc t.un)∧Hid (Blk wr w.heap.size 31 #[.int .i64 t.k,.slice ua t.un.length uc,.string t.of])) (fun vi _=>t.un.length - (intOf vi).toNat)
   case atStart=>exact ⟨0,rfl,Hy zl,hI,B9,S9,G9⟩
   case round =>
    clear hI B9 S9 G9;obtain ⟨j,rfl,hj,hI,hb,hS,G⟩:=hrel;have d0:=G.o.cell 0;have d1:=G.o.cell 1;simp only [sz2,sz3,sz4] at d0 d1;by_cases hlt:j<t.un.length
    ·have q1:decide ((j:Int)<(t.un.length:Int))=true:=dT (by omega);obtain ⟨bk,off,rfl,hC⟩:=hS.o.hat.resolve_left (by omega);obtain ⟨c0,c1⟩:=hC j hlt;have f4:=Hy (aS (j:=j) (by have:=hL.o;omega));have i1:(j:Int)<(t.un.length:Int):=by omega
     replace hI:=hI.o;rw [un.lV hlt,List.all_cons] at hI;replace hI:=Hy hI;clear hC hj;generalize un.gt t.un j=x at *;go_wp2_with fail;refine (CM.o x.1 _).mono ?_;rintro e w21 ⟨rfl,b21⟩;have B21:=Hy (aA hb.o b21);replace hS:=Hy (hS.o.keeps b21);replace G:=Hy (G.o.keeps b21);clear b21 c0 c1 d0 d1 hb;generalize name x.1=q at *;cases q
     ·replace hE:=hE.o;rw [if_neg (by rw [hI.o,Bool.false_and];decide)] at hE;replace hE:=Hy hE;go_wp2_with fail;go_ret;exact aT (by rw [hE.o]) B21.o
     replace hI:=Hy (hI.o.trans (Bool.true_and _));go_wp2_with fail;exact ⟨⟨j+1,congrArg (Value.int .i64) f4.o,Hy hlt,hI,B21,hS,G⟩,aN hlt f4.o⟩
    have q1:decide ((j:Int)<(t.un.length:Int))=false:=dF (by omega);replace hI:=hI.o;rw [List.drop_eq_nil_of_le (by omega),List.all_nil] at hI;replace hE:=hE.o;rw [if_pos hI] at hE;replace hE:=Hy hE;clear hj hI;go_wp2_with fail;go_ret;exact aT (by rw [hE.o]) hb.o
  have q7:(un.ck t.un != 0)=true:=by simp [hk]
  replace hE:=hE.o;rw [if_neg (by unfold okU;rw [dF hk,Bool.false_and];decide)] at hE;replace hE:=Hy hE;replace hk:=Hy hk;go_wp2_with fail;go_ret;exact aT (by rw [hE.o]) B24.o
 have q5:(!t.of.toList.isEmpty)=true:=by simp only [eqE,h4,decide_false,Bool.not_false]
 replace hE:=hE.o;rw [if_pos ⟨h3,h4⟩] at hE;replace hE:=Hy hE;clear h4 CN CU CI
 go_enter Tryz.func29,Tryz.ntmps29
 go_wp2_with fail;go_ret;exact aT (by rw [hE.o]) B0.o
end ch
section
open Go.RowKit dec
theorem GU (k n:Int) (s:ByteArray) (w:World):Calls Tryz.prog 274 #[.agg #[.int .i64 k,.int .i64 n,.string s]] w fun e w' => e=.returned (.bool (fmd ⟨k,n,s⟩))∧Below w.heap.size w w':=by
 go_enter Tryz.func274,Tryz.ntmps274
 go_wp2
 all_goals go_ret
 all_goals refine ⟨congrArg (fun b=>Ending.returned (Value.bool b)) ?_,au (b0 w) _⟩
 all_goals simp_all [fmd,emp]
 all_goals rfl
theorem pG (lo:Nat) (s:ByteArray) (hs:s.size≤9223372036854775806) (w:World):Calls Tryz.prog 303 #[.string s,.int .u8 (lo:Nat)] w fun e w' => e=.returned (.bool (pB lo s.data.toList))∧w=w':=by
 go_enter Tryz.func303,Tryz.ntmps303
 go_wp2
 go_loopw [5] (fun x wr => ∃ i:Nat,x=.int .i64 (i:Nat)∧i≤s.size∧Hid (pB lo s.data.toList=pB lo (s.data.toList.drop i))∧wr=w) (fun x _=>s.size - (intOf x).toNat)
 case atStart=>exact ⟨0,rfl,by omega,rfl,rfl⟩
 case round =>
  obtain ⟨i,rfl,hi,hp,rfl⟩:=hrel;go_wp2
  case roundEnd =>
   have h1:i<s.size:=by omega
   rename_i h2;simp only [beq_eq_false_iff_ne] at h2;refine ⟨⟨i+1,rfl,by omega,?_,trivial⟩,?_⟩
   ·exact Hy (hp.o.trans ((lN lo s h1).2 ((El lo s[i]).2 (by omega))))
   show s.size - ((i:Int)+1).toNat<s.size - ((i:Nat):Int).toNat;omega
  all_goals go_ret
  all_goals refine ⟨congrArg (fun b=>Ending.returned (Value.bool b)) (Eq.symm ?_),rfl⟩
  all_goals rw [hp.o]
  all_goals first
    | exact Jh lo s (by omega)
    | exact (lN lo s (by omega)).1 ((uW lo _).2 (by omega))
    | (rename_i h2;simp only [beq_iff_eq] at h2;exact (lN lo s (by omega)).1 ((uW lo _).2 (by omega)))
theorem KS (s:ByteArray) (hs:s.size≤140737488355328) (w:World):Calls Tryz.prog 276 #[.string s] w fun e w' => e=.returned (.bool (decide (s.size≤64) && pB 32 s.data.toList))∧w=w':=by
 have C1:=Hy (fun w=>pG 32 s (by omega) w);by_cases h:s.size≤64
 ·rw [dT h]
  go_enter Tryz.func276,Tryz.ntmps276
  go_wp2_with fail;refine (C1.o _).mono ?_;rintro e w' ⟨rfl,rfl⟩;go_wp2;go_ret;exact ⟨rfl,rfl⟩
 rw [dF h];clear C1
 go_enter Tryz.func276,Tryz.ntmps276
 go_wp2_with fail;go_ret;exact ⟨rfl,rfl⟩
theorem xI (s:ByteArray) (hs:s.size≤140737488355328) (w:World):Calls Tryz.prog 277 #[.string s] w fun e w' => e=.returned (.bool (!decide (s.size=0) && decide (s.size≤32) && pB 33 s.data.toList))∧w=w':=by
 have C1:=Hy (fun w=>pG 33 s (by omega) w);by_cases hz:s.size=0
 ·have hz2:=mU hz;subst hz2;clear C1
  go_enter Tryz.func277,Tryz.ntmps277
  go_wp2_with fail;go_ret;exact ⟨rfl,rfl⟩
 have he:s.toList.isEmpty=false:=by rw [emp];exact dF hz
 rw [dF hz];clear hz;by_cases h:s.size≤32
 ·rw [dT h]
  go_enter Tryz.func277,Tryz.ntmps277
  go_wp2_with fail;refine (C1.o _).mono ?_;rintro e w' ⟨rfl,rfl⟩;go_wp2;go_ret;exact ⟨rfl,rfl⟩
 rw [dF h];clear C1
 go_enter Tryz.func277,Tryz.ntmps277
 go_wp2_with fail;go_ret;exact ⟨rfl,rfl⟩
theorem Ru (k n:Int) (s:ByteArray):ck ⟨k,n,s⟩=if fmd ⟨k,n,s⟩ then (if rg n=false∨(k=4∧¬ s.size≤64)∨(k=5∧¬ s.size≤32) then 2
    else if (k=4∧(decide (s.size≤64) && pB 32 s.data.toList)=false)∨(k=5∧(!decide (s.size=0) && decide (s.size≤32) && pB 33 s.data.toList)=false) then 3 else 0) else 1:=by
 have r0:rg 0=true:=by decide
 have r1:rg 1=true:=by decide
 cases hf:fmd ⟨k,n,s⟩
 ·unfold ck;rw [hf];rfl
 unfold ck;rw [hf];unfold fmd at hf;simp only at hf;unfold lmt spl;simp only;by_cases k0:k=0
 ·subst k0;simp at hf;rw [hf.1];simp [r0]
 by_cases k1:k=1
 ·subst k1;simp at hf;rcases hf.1 with e | e <;> (rw [e];simp [r0,r1])
 by_cases k2:k=2∨k=3
 ·have k4:¬ k=4:=by omega
  have k5:¬ k=5:=by omega
  simp [k2,k4,k5];cases rg n <;> simp
 by_cases k4:k=4
 ·subst k4;simp at hf;rw [hf];by_cases h:s.size≤64
  ·simp [h,r0];cases pB 32 s.data.toList <;> simp
  simp [h]
 by_cases k5:k=5
 ·subst k5;simp at hf;rw [hf];by_cases h:s.size≤32
  ·simp [h,r0];by_cases hz:s=.empty
   ·simp [hz]
   simp [hz];cases pB 33 s.data.toList <;> simp
  simp [h]
 simp [k0,k1,k4,k5] at hf;exact absurd hf.1 k2
theorem oL (k n:Int) (s:ByteArray) (hs:s.size≤140737488355328) (w:World):Calls Tryz.prog 238 #[.agg #[.int .i64 k,.int .i64 n,.string s]] w fun e w' => e=.returned (.int .i64 (ck ⟨k,n,s⟩))∧Below w.heap.size w w':=by
 have C1:=Hy (GU k n s);have C2:=Hy (wX n);have C3:=Hy (KS s hs);have C4:=Hy (xI s hs);have V0:=Vx.new w k n s 23;have E:Hid (ck ⟨k,n,s⟩=_):=Ru k n s;generalize fmd ⟨k,n,s⟩=f at *;generalize rg n=r at *
 go_enter Tryz.func238,Tryz.ntmps238
 go_wp2_with fail;refine (C1.o _).mono ?_;rintro e w1 ⟨rfl,b1⟩;obtain ⟨c0,c1,c2⟩:=V0.keeps b1;clear V0 C1;replace b1:=(au (b0 w) _).trans (b1.mono (by simp));cases f
 ·go_wp2_with fail;go_ret;exact ⟨by rw [E.o];rfl,b1⟩
 go_wp2_with fail;refine (C2.o _).mono ?_;rintro e w2 ⟨rfl,rfl⟩;cases r
 ·go_wp2_with fail;go_ret;exact ⟨by rw [E.o];simp,b1⟩
 clear C2;by_cases k4:k=4
 ·subst k4;clear C4;by_cases h:s.size≤64
  ·have C:Hid (∀ w,Calls Tryz.prog 276 #[.string s] w fun e w' => e=.returned (.bool (pB 32 s.data.toList))∧w=w'):=by
    have:=C3.o;rw [dT h] at this;exact this
   clear C3;generalize pB 32 s.data.toList=p at *;go_wp2_with fail;refine (C.o _).mono ?_;rintro e w3 ⟨rfl,rfl⟩;cases p
   ·go_wp2_with fail;go_ret;exact ⟨by rw [E.o];simp [h],b1⟩
   go_wp2_with fail;go_ret;exact ⟨by rw [E.o];simp [h],b1⟩
  clear C3;go_wp2_with fail;go_ret;exact ⟨by rw [E.o];simp [h],b1⟩
 clear C3;by_cases k5:k=5
 ·subst k5;by_cases h:s.size≤32
  ·have C:Hid (∀ w,Calls Tryz.prog 277 #[.string s] w fun e w' => e=.returned (.bool (!decide (s.size=0) && decide (s.size≤32) && pB 33 s.data.toList))∧w=w'):=C4.o;clear C4;generalize (!decide (s.size=0) && decide (s.size≤32) && pB 33 s.data.toList)=p at *;go_wp2_with fail;refine (C.o _).mono ?_;rintro e w3 ⟨rfl,rfl⟩;cases p
   ·go_wp2_with fail;go_ret;exact ⟨by rw [E.o];simp [h],b1⟩
   go_wp2_with fail;go_ret;exact ⟨by rw [E.o];simp [h],b1⟩
  clear C4;go_wp2_with fail;go_ret;exact ⟨by rw [E.o];simp [h],b1⟩
 clear C4;go_wp2_with fail;go_ret;exact ⟨by rw [E.o];simp [k4,k5],b1⟩
end
namespace ch
open Go.RowKit dec
theorem GR {h g:Hd} (e:h.k=g.k):flR h g=same h g:=by
 unfold flR;rw [dT e,Bool.true_and]
def AU (h:Hd):Hd:={ h0 with k:=1,nm:=h.nm,vk:=h.vk,vn:=h.vn,vs:=h.vs,un:=h.un }
def oJ (h:Hd):Bool:=decide (ck ⟨h.vk,h.vn,h.vs⟩=0) && (decide (0≤h.vn) && (decide (tyE ⟨h.vk,h.un,h.nm⟩=0) && flR h (AU h)))
theorem Qf {h:Hd} (e:h.k=1):oJ h=xC h:=by
 unfold oJ xC;rw [GR (g:=AU h) e];rfl
theorem Ak (h:Hd) (n:Nat) (ua aa:Option Addr) (uc ac:Nat) (w:World) (hs:h.vs.size≤140737488355328) (hU:un.Sl w ua h.un.length uc h.un):Calls Tryz.prog 170 #[.agg (exC h n ua uc aa ac)] w (Bl (oJ h) w):=by
 have bb:=au (b0 w) (.cells (exC h n ua uc aa ac) 29);have B0:=Hy bb;have G:=Hy (Blk.new w 29 (exC h n ua uc aa ac));have S0:=Hy (hU.keeps bb);have CC:=Hy (fun (W:World)=>oL h.vk h.vn h.vs hs W);have CT:=Hy (fun (W:World) (S:un.Sl W ua h.un.length uc h.un)=>(show Calls Tryz.prog 29 #[.agg #[.int .i64 h.vk,.slice ua h.un.length uc,.string h.nm]] W (Num (tyE ⟨h.vk,h.un,h.nm⟩) W) from IV ⟨h.vk,h.un,h.nm⟩ ua uc W S));have CF:=Hy (fun (W:World) (S:un.Sl W ua h.un.length uc h.un)=>(show Calls Tryz.prog 70 #[.agg #[.int .i64 h.k,.string h.op,.string h.nm,.string h.tb,.int .i64 h.vk,.int .i64 h.vn,.string h.vs,.slice ua h.un.length uc,.int .i64 h.pa,.int .i64 h.wk,.int .i64 h.ws,.slice aa n ac],.agg #[.int .i64 1,.string ⟨#[]⟩,.string h.nm,.string ⟨#[]⟩,.int .i64 h.vk,.int .i64 h.vn,.string h.vs,.slice ua h.un.length uc,.int .i64 0,.int .i64 0,.int .i64 0,.slice none 0 0]] W (Bl (flR h (AU h)) W) from kF h (AU h) n 0 ua ua aa none uc uc ac 0 W S S));have hE:oJ h=oJ h:=rfl
 conv at hE=>rhs;unfold oJ
 replace hE:=Hy hE;clear hU bb;unfold exC at *;generalize flR h (AU h)=r at *;generalize tyE ⟨h.vk,h.un,h.nm⟩=t at *;generalize ck ⟨h.vk,h.vn,h.vs⟩=c at *
 go_enter Tryz.func170,Tryz.ntmps170
 go_wp2_with fail;refine (CC.o _).mono ?_;rintro e w1 ⟨rfl,b1⟩;have B1:=Hy (aA B0.o b1);replace G:=Hy (G.o.keeps b1);replace S0:=Hy (S0.o.keeps b1);have c0:=G.o.cell 0;have c1:=G.o.cell 1;have c2:=G.o.cell 2;have c3:=G.o.cell 3;have c4:=G.o.cell 4;have c5:=G.o.cell 5;have c6:=G.o.cell 6;have c7:=G.o.cell 7;have c8:=G.o.cell 8;have c9:=G.o.cell 9;have c10:=G.o.cell 10;have c11:=G.o.cell 11;simp only [sz2,sz3,sz4] at c0 c1 c2 c3 c4 c5 c6 c7 c8 c9 c10 c11;clear b1 CC;by_cases hc:c=0
 ·have qc:=bB hc;have qd:(c != 0)=false:=by simp [hc]
  replace hE:=hE.o;rw [dT hc,Bool.true_and] at hE;replace hE:=Hy hE;clear hc;by_cases hn:0≤h.vn
  ·have qn:decide (h.vn<0)=false:=dF (by omega);replace hE:=hE.o;rw [dT hn,Bool.true_and] at hE;replace hE:=Hy hE;clear hn
   go_upto_region 4 with (first | (refine aL kK (.tmp 3) (.tmp 21) rfl rfl _ _ _ _ rfl rfl (Blk.new _ _ _) rfl rfl (by simp [Value.oneCell']) ?_;intro w2 L hs2;have bb:=(au (b0 w1) _).trans (hs2.below lr)))
   have B2:=Hy (aA B1.o bb);have V3:=Hy L;replace G:=Hy (G.o.keeps bb);replace S0:=Hy (S0.o.keeps bb);clear L hs2 bb c0 c1 c2 c3 c4 c5 c6 c7 c8 c9 c10 c11;generalize w1.heap.size=g3 at *;go_wp2_with (first | (refine aF kK Tryz.underlying31 rfl (.tmp 3) rfl rfl _ _ _ rfl V3.o rfl ?_));refine (CT.o _ S0.o).mono ?_;rintro e w3 ⟨rfl,b3⟩;have B3:=Hy (aA B2.o b3);replace G:=Hy (G.o.keeps b3);replace S0:=Hy (S0.o.keeps b3);have c2:=G.o.cell 2;have c4:=G.o.cell 4;have c5:=G.o.cell 5;have c6:=G.o.cell 6;have c7:=G.o.cell 7;simp only [sz2,sz3,sz4] at c2 c4 c5 c6 c7;clear b3 CT V3;have c456:=Hy (eu G.o 4 [.int .i64 h.vk,.int .i64 h.vn,.string h.vs] rfl);by_cases ht:t=0
   ·have qt:=bB ht;replace hE:=hE.o;rw [dT ht,Bool.true_and] at hE;replace hE:=Hy hE;clear ht;go_wp2_with (first | (refine bC aJ Tryz.underlying29 rfl (.tmp 1) rfl rfl _ _ _ rfl G.o rfl ?_) | (refine aF aJ Tryz.underlying29 rfl (.tmp 1) rfl rfl _ _ _ rfl G.o rfl ?_));refine (CF.o _ S0.o).mono ?_;rintro e w4 ⟨rfl,b4⟩;have B4:=Hy (aA B3.o b4);clear b4 CF;go_wp2_with fail;go_ret;exact aK (by rw [hE.o]) B4.o
   have qt:=bg ht;replace hE:=hE.o;rw [dF ht,Bool.false_and] at hE;replace hE:=Hy hE;clear ht;go_wp2_with fail;go_ret;exact aK (by rw [hE.o]) B3.o
  have qn:decide (h.vn<0)=true:=dT (by omega);replace hE:=hE.o;rw [dF hn,Bool.false_and] at hE;replace hE:=Hy hE;clear hn;go_wp2_with fail;go_ret;exact aK (by rw [hE.o]) B1.o
 have qc:=bg hc;have qd:(c != 0)=true:=by simp [hc]
 replace hE:=hE.o;rw [dF hc,Bool.false_and] at hE;replace hE:=Hy hE;clear hc;go_wp2_with fail;go_ret;exact aK (by rw [hE.o]) B1.o
end ch
end Go.Proofs.YtbahfelnbofjjaaGreatDoor
