/-
  The shape of what a string begins with; The shape of what a string begins with: lexer.shape; values.Check and Has, and the reference's: for every value; What a token's text is, and the codes of problems; Tokens alone, keywords, names; Keywords and names; Lists of tokens in memory: slices that are read, slices of the call's own; append; one of them in a block.
-/
import Derived.Below
import Derived.Laws.AppendOwn
import Derived.Laws.OwnMore
import Derived.OwnWalk
import Derived.Test.YtbpijgddfaefkaaGreatDoorK03
set_option maxRecDepth 100000
set_option maxHeartbeats 16000000
namespace Go.Proofs.YtbpijgddfaefkaaGreatDoor
section
open Go.RowKit dec
theorem toList_nil (s:ByteArray):(s.toList==[])=decide (s.size=0):=by
 rw [ByteArray.toList_eq,Lib.size_eq s];cases s.data.toList <;> simp
theorem qO (s:ByteArray) (i j:Nat):(s.extract i j).data.toList=(s.data.toList.drop i).take (j - i):=by
 rw [ByteArray.data_extract,Array.toList_extract,List.extract_eq_take_drop]
theorem qN (s:ByteArray) (i:Nat):(s.extract i s.size).data.toList=s.data.toList.drop i:=by
 rw [qO,List.take_of_length_le];rw [List.length_drop,aM];omega
theorem uh (c:UInt8) (r:List UInt8) (a:UInt8):Lib.hasPrefix (c :: r) [a,61]=decide (c=a∧r.head? = some 61):=by
 cases r with
 | nil =>
   rw [Bool.eq_iff_iff]
   simp [Lib.hasPrefix,List.isPrefixOf]
 | cons d r =>
   rw [Bool.eq_iff_iff]
   simp only [Lib.hasPrefix,List.isPrefixOf,Bool.and_eq_true,beq_iff_eq,List.head?_cons,Option.some.injEq,decide_eq_true_eq,Bool.and_true]
   constructor
   · rintro ⟨h1,h2⟩;exact ⟨h1.symm,h2.symm⟩
   · rintro ⟨h1,h2⟩;exact ⟨h1.symm,h2.symm⟩
theorem KE (l:List UInt8):Lib.hasPrefix l [46]=decide (l.head? = some 46):=by
 cases l with
 | nil=>rfl
 | cons d r =>
   rw [Bool.eq_iff_iff]
   simp only [Lib.hasPrefix,List.isPrefixOf,beq_iff_eq,List.head?_cons,Option.some.injEq,decide_eq_true_eq,Bool.and_true]
   exact eq_comm
theorem Ca {c:UInt8} {n:Nat} (d:UInt8) (hd:d.toNat=n):c.toNat=n↔c=d:=by
 rw [← hd];exact ⟨fun h=>UInt8.toNat_inj.1 h,fun h=>by rw [h]⟩
theorem Ei (c:UInt8) (r:List UInt8):sgn (c :: r)=if (Lib.hasPrefix (c :: r) [61,61] || Lib.hasPrefix (c :: r) [33,61] || Lib.hasPrefix (c :: r) [60,61])=true then (5,2) else if isS c=true then (5,1) else (0,1):=by
 have e1:c.toNat=61↔c=61:=Ca 61 rfl;have e2:c.toNat=33↔c=33:=Ca 33 rfl;have e3:c.toNat=60↔c=60:=Ca 60 rfl;rw [dJ,uh,uh,uh];have e:(decide (c=61∧r.head? = some 61) || decide (c=33∧r.head? = some 61) || decide (c=60∧r.head? = some 61))=true↔(c=61∨c=33∨c=60)∧r.head? = some 61:=by
  simp only [Bool.or_eq_true,decide_eq_true_eq];constructor
  ·rintro ((h | h) | h)
   ·exact ⟨.inl h.1,h.2⟩
   ·exact ⟨.inr (.inl h.1),h.2⟩
   exact ⟨.inr (.inr h.1),h.2⟩
  rintro ⟨h | h | h,h2⟩
  ·exact .inl (.inl ⟨h,h2⟩)
  ·exact .inl (.inr ⟨h,h2⟩)
  exact .inr ⟨h,h2⟩
 simp only [e,e1,e2,e3]
theorem yX (c:UInt8):(cls c==8)=isS c∧(cls c==4)=isL c∧(cls c==5)=isD c∧(cls c==7)=decide (c.toNat=34):=by
 have:=pq c;unfold wI at this;simp only [Bool.and_eq_true,beq_iff_eq] at this;refine ⟨?_,?_,?_,?_⟩
 ·rw [← this.1.1.2,eqb]
 ·rw [← this.1.1.1.2,eqb]
 ·rw [← this.1.1.1.1.1.2,eqb]
 rw [← this.2,eqb]
theorem vT (s:ByteArray) (h0:0<s.size) (w:World) (T:Tabs w) :
    Calls Tryz.prog 117 #[.string s] w fun e w' => e=.returned (.tuple #[.int .i64 (sgn s.data.toList).1,.int .i64 ((sgn s.data.toList).2:Nat)])∧w'=w:=by
 have H1:=Hy (fun W=>Tryz.strings_HasPrefix s ⟨#[61,61]⟩ W);have H2:=Hy (fun W=>Tryz.strings_HasPrefix s ⟨#[33,61]⟩ W);have H3:=Hy (fun W=>Tryz.strings_HasPrefix s ⟨#[60,61]⟩ W);have e:=cO s h0;rw [List.drop_zero] at e;have hg:=Ei s[0] (s.data.toList.drop (0+1));rw [← e] at hg;rw [show (⟨#[61,61]⟩:ByteArray).data.toList=[61,61] from rfl] at H1;rw [show (⟨#[33,61]⟩:ByteArray).data.toList=[33,61] from rfl] at H2;rw [show (⟨#[60,61]⟩:ByteArray).data.toList=[60,61] from rfl] at H3;generalize Lib.hasPrefix s.data.toList [61,61]=b1 at *;generalize Lib.hasPrefix s.data.toList [33,61]=b2 at *;generalize Lib.hasPrefix s.data.toList [60,61]=b3 at *;have C:=Hy (iO s[0] w T);have hS:=(yX s[0]).1;generalize isS s[0]=z at hS hg;generalize cls s[0]=k at C hS;generalize sgn s.data.toList=g at *;clear T e;cases b1
 ·cases b2
  ·cases b3
   ·cases z
    ·simp only [Bool.or_self,Bool.false_eq_true,if_false] at hg;subst hg
     go_enter Tryz.func117,Tryz.ntmps117
     go_wp2_with fail;refine (H1.o _).mono ?_;rintro e w' ⟨rfl,rfl⟩;go_wp2_with fail;refine (H2.o _).mono ?_;rintro e w' ⟨rfl,rfl⟩;go_wp2_with fail;refine (H3.o _).mono ?_;rintro e w' ⟨rfl,rfl⟩;go_wp2_with fail;refine C.o.mono ?_;rintro e w' ⟨rfl,rfl⟩;go_wp2_with fail
     go_ret2
     exact ⟨rfl,rfl⟩
    simp only [Bool.or_self,Bool.false_eq_true,if_false,if_true] at hg;subst hg
    go_enter Tryz.func117,Tryz.ntmps117
    go_wp2_with fail;refine (H1.o _).mono ?_;rintro e w' ⟨rfl,rfl⟩;go_wp2_with fail;refine (H2.o _).mono ?_;rintro e w' ⟨rfl,rfl⟩;go_wp2_with fail;refine (H3.o _).mono ?_;rintro e w' ⟨rfl,rfl⟩;go_wp2_with fail;refine C.o.mono ?_;rintro e w' ⟨rfl,rfl⟩;go_wp2_with fail
    go_ret2
    exact ⟨rfl,rfl⟩
   simp only [Bool.or_true,if_true] at hg;subst hg
   go_enter Tryz.func117,Tryz.ntmps117
   go_wp2_with fail;refine (H1.o _).mono ?_;rintro e w' ⟨rfl,rfl⟩;go_wp2_with fail;refine (H2.o _).mono ?_;rintro e w' ⟨rfl,rfl⟩;go_wp2_with fail;refine (H3.o _).mono ?_;rintro e w' ⟨rfl,rfl⟩;go_wp2_with fail
   go_ret2
   exact ⟨rfl,rfl⟩
  simp only [Bool.or_true,Bool.true_or,if_true] at hg;subst hg
  go_enter Tryz.func117,Tryz.ntmps117
  go_wp2_with fail;refine (H1.o _).mono ?_;rintro e w' ⟨rfl,rfl⟩;go_wp2_with fail;refine (H2.o _).mono ?_;rintro e w' ⟨rfl,rfl⟩;go_wp2_with fail
  go_ret2
  exact ⟨rfl,rfl⟩
 simp only [Bool.true_or,if_true] at hg;subst hg
 go_enter Tryz.func117,Tryz.ntmps117
 go_wp2_with fail;refine (H1.o _).mono ?_;rintro e w' ⟨rfl,rfl⟩;go_wp2_with fail
 go_ret2
 exact ⟨rfl,rfl⟩
theorem xS {st:Int} {p:UInt8→Bool} (hst:Set st p) (s:ByteArray) (hs:s.size≤140737488355328) (b:Nat) (w:World) (hb:w.cell? ⟨b,0,none⟩=some (.string s)) (T:Tabs w) :
    Calls Tryz.prog 164 #[.int .i64 0,.int .i64 st,.pointer (some ⟨b,0,none⟩)] w fun e w' => e=.returned (.int .i64 (run p s.data.toList:Nat))∧w'=w:=by
 have:=mH hst s hs 0 zl b w hb T;rw [List.drop_zero,Nat.zero_add] at this;exact this
theorem GU {st:Int} {p:UInt8→Bool} (hst:Set st p) (s:ByteArray) (hs:s.size≤140737488355328) (i:Nat) (hi:i+1≤s.size) (b:Nat) (w:World) (hb:w.cell? ⟨b,0,none⟩=some (.string s)) (T:Tabs w) :
  Calls Tryz.prog 164 #[.int .i64 ((i:Nat)+1),.int .i64 st,.pointer (some ⟨b,0,none⟩)] w fun e w' => e=.returned (.int .i64 ((i+1+run p (s.data.toList.drop (i+1)):Nat):Int))∧w'=w :=
 mH hst s hs (i+1) hi b w hb T
theorem rQ (s:ByteArray) (h0:0<s.size):s.data.toList=s[0] :: s.data.toList.drop 1:=by
 have e:=cO s h0
 rwa [List.drop_zero] at e
theorem PO (s:ByteArray) (h0:0<s.size) (h:isL s[0]=true):shp s.data.toList=(1,run isW s.data.toList):=by
 have e:=rQ s h0;rw [e,bA,if_pos h]
theorem PS (s:ByteArray) (h0:0<s.size) (h:isD s[0]=true):shp s.data.toList=if pnt (s.data.toList.drop (run isD s.data.toList))=0 then (2,run isD s.data.toList) else (3,run isD s.data.toList+1+pnt (s.data.toList.drop (run isD s.data.toList))):=by
 have e:=rQ s h0;rw [e,bA,if_neg (Qp h),if_pos h]
theorem KI {l:List UInt8} (h:l.head? = some 46):pnt l=run isD (l.drop 1):=by
 cases l with
 | nil=>cases h
 | cons c r =>
   rw [List.head?_cons,Option.some.injEq] at h
   rw [gV,if_pos (by rw [h];rfl)]
   rfl
theorem Hl {l:List UInt8} (h:l.head?≠some 46):pnt l=0:=by
 cases l with
 | nil=>rfl
 | cons c r =>
   rw [List.head?_cons,ne_eq,Option.some.injEq] at h
   rw [gV,if_neg (fun e=>h (UInt8.toNat_inj.1 (e.trans rfl)))]
theorem head_drop (s:ByteArray) (n:Nat):(s.data.toList.drop n).head? = if h:n<s.size then some s[n] else none:=by
 by_cases h:n<s.size
 ·rw [dif_pos h,cO s h];rfl
 rw [dif_neg h,List.drop_eq_nil_of_le (by rw [aM];omega)];rfl
theorem PN (s:ByteArray) (h0:0<s.size) (h:s[0].toNat=34):shp s.data.toList=if (s.data.toList.drop (1+run isQ (s.data.toList.drop 1))).head? = some 34 then (4,1+run isQ (s.data.toList.drop 1)+1) else sgn s.data.toList:=by
 have e:=rQ s h0;have h1:¬ isL s[0]=true:=by unfold isL;rw [h];decide
 have h2:¬ isD s[0]=true:=by unfold isD;rw [h];decide
 generalize s.data.toList.drop 1=r at e;rw [e,bA,if_neg h1,if_neg h2,Nat.add_comm 1 (run isQ r),List.drop_succ_cons];simp only [h,true_and]
theorem PL (s:ByteArray) (h0:0<s.size) (h1:isL s[0]=false) (h2:isD s[0]=false) (h:s[0].toNat≠34):shp s.data.toList=sgn s.data.toList:=by
 have e:=rQ s h0;generalize s.data.toList.drop 1=r at e;rw [e,bA,if_neg (by rw [h1];decide),if_neg (by rw [h2];decide),if_neg (by omega)]
theorem vg (s:ByteArray) (hs:s.size≤140737488355328) (w:World) (T:Tabs w) :
    Calls Tryz.prog 69 #[.string s] w fun e w' => e=.returned (.tuple #[.int .i64 (shp s.data.toList).1,.int .i64 ((shp s.data.toList).2:Nat)])∧Below w.heap.size w w':=by
 by_cases h0:0<s.size
 ·have q1:(s.toList==[])=false:=by rw [toList_nil];exact dF (by omega)
  have RC:=Hy (rT s w);have T0:=Hy T;have C:=Hy (fun W T=>iO s[0] W T);have SG:=Hy (fun W T=>vT s h0 W T);obtain ⟨_,k4,k5,k7⟩:=yX s[0];have fL:=Hy (PO s h0);have fD:=Hy (PS s h0);have fQ:=Hy (PN s h0);have fS:=Hy (PL s h0);obtain ⟨g,hg⟩:∃ g,shp s.data.toList=g:=⟨_,rfl⟩;rw [hg] at fL fD fQ fS ⊢;clear hg T;cases hL:isL s[0]
  ·cases hD:isD s[0]
   ·by_cases h34:s[0].toNat=34
    ·rw [hL] at k4;rw [hD] at k5;rw [dT h34] at k7;have hgQ:=fQ.o h34;have hnz:=eB isQ s (i:=1) h0;obtain ⟨n,hn⟩:∃ n,1+run isQ (s.data.toList.drop 1)=n:=⟨_,rfl⟩;have CQ:=Hy (fun W h T=>(mH PV s hs 1 h0 w.heap.size W h T:Calls Tryz.prog 164 #[.int .i64 1,.int .i64 (-133),.pointer (some ⟨w.heap.size,0,none⟩)] W fun e w' => e=.returned (.int .i64 ((1+run isQ (s.data.toList.drop 1):Nat):Int))∧w'=W));rw [hn] at CQ hgQ hnz;rw [head_drop] at hgQ;generalize cls s[0]=k at C k4 k5 k7;clear hL hD h34 fL fD fQ fS hn;generalize sgn s.data.toList=q at *;by_cases hc:n<s.size
     ·rw [dif_pos hc] at hgQ;have q2:decide ((n:Int)<(s.size:Int))=true:=dT (by omega);have C2:=Hy (fun W T=>iO s[n] W T);have k77:=(yX s[n]).2.2.2;generalize cls s[n]=kk at C2 k77;by_cases h2:s[n].toNat=34
      ·rw [if_pos (by rw [show s[n]=34 from UInt8.toNat_inj.1 h2])] at hgQ;rw [dT h2] at k77;replace hgQ:=Hy hgQ;clear h2 SG
       go_enter Tryz.func69,Tryz.ntmps69
       go_wp2_with fail;refine RC.o.mono ?_;rintro e w1 ⟨rfl,c1,z1,b1⟩;have B1:=Hy b1;have T1:=Hy (T0.o.stays b1);clear b1 z1;go_wp2_with fail;refine (C.o _ T1.o).mono ?_;rintro e w2 ⟨rfl,rfl⟩;have CQ1:=Hy (CQ.o w2 c1 T1.o);go_wp2_with fail;refine CQ1.o.mono ?_;rintro e w3 ⟨rfl,rfl⟩;go_wp2_with fail;refine (C2.o _ T1.o).mono ?_;rintro e w3 ⟨rfl,rfl⟩;go_wp2_with fail
       go_ret2
       exact ⟨by rw [hgQ.o];rfl,B1.o⟩
      rw [if_neg (by intro e;apply h2;rw [Option.some.inj e];rfl)] at hgQ;rw [dF h2] at k77;replace hgQ:=Hy hgQ;clear h2
      go_enter Tryz.func69,Tryz.ntmps69
      go_wp2_with fail;refine RC.o.mono ?_;rintro e w1 ⟨rfl,c1,z1,b1⟩;have B1:=Hy b1;have T1:=Hy (T0.o.stays b1);clear b1 z1;go_wp2_with fail;refine (C.o _ T1.o).mono ?_;rintro e w2 ⟨rfl,rfl⟩;have CQ1:=Hy (CQ.o w2 c1 T1.o);go_wp2_with fail;refine CQ1.o.mono ?_;rintro e w3 ⟨rfl,rfl⟩;go_wp2_with fail;refine (C2.o _ T1.o).mono ?_;rintro e w3 ⟨rfl,rfl⟩;go_wp2_with fail;refine (SG.o _ T1.o).mono ?_;rintro e w3 ⟨rfl,rfl⟩;go_wp2_with fail
      go_ret2
      exact ⟨by rw [hgQ.o];rfl,B1.o⟩
     rw [dif_neg hc,if_neg (by intro e;cases e)] at hgQ;have q2:decide ((n:Int)<(s.size:Int))=false:=dF (by omega);replace hgQ:=Hy hgQ
     go_enter Tryz.func69,Tryz.ntmps69
     go_wp2_with fail;refine RC.o.mono ?_;rintro e w1 ⟨rfl,c1,z1,b1⟩;have B1:=Hy b1;have T1:=Hy (T0.o.stays b1);clear b1 z1;go_wp2_with fail;refine (C.o _ T1.o).mono ?_;rintro e w2 ⟨rfl,rfl⟩;have CQ1:=Hy (CQ.o w2 c1 T1.o);go_wp2_with fail;refine CQ1.o.mono ?_;rintro e w3 ⟨rfl,rfl⟩;go_wp2_with fail;refine (SG.o _ T1.o).mono ?_;rintro e w3 ⟨rfl,rfl⟩;go_wp2_with fail
     go_ret2
     exact ⟨by rw [hgQ.o];rfl,B1.o⟩
    rw [hL] at k4;rw [hD] at k5;rw [dF h34] at k7;have hgS:=Hy (fS.o hL hD h34);generalize cls s[0]=k at C k4 k5 k7;clear hL hD h34 fL fD fQ fS;generalize sgn s.data.toList=q at *
    go_enter Tryz.func69,Tryz.ntmps69
    go_wp2_with fail;refine RC.o.mono ?_;rintro e w1 ⟨rfl,c1,z1,b1⟩;have B1:=Hy b1;have T1:=Hy (T0.o.stays b1);clear b1 z1;go_wp2_with fail;refine (C.o _ T1.o).mono ?_;rintro e w2 ⟨rfl,rfl⟩;go_wp2_with fail;refine (SG.o _ T1.o).mono ?_;rintro e w2 ⟨rfl,rfl⟩;go_wp2_with fail
    go_ret2
    exact ⟨by rw [hgS.o];rfl,B1.o⟩
   rw [hL] at k4;rw [hD] at k5;have hgD:=fD.o hD;have hnz:=eB isD s (i:=0) zl;rw [List.drop_zero,Nat.zero_add] at hnz;have CD:=Hy (fun W h T=>xS I9 s hs w.heap.size W h T);have CE:=Hy (fun i hi W h T=>GU I9 s hs i hi w.heap.size W h T);obtain ⟨n,hn⟩:∃ n,run isD s.data.toList=n:=⟨_,rfl⟩;rw [hn] at CD hgD hnz;have HP:=Hy (fun W=>Tryz.strings_HasPrefix (s.extract n s.size) ⟨#[46]⟩ W);rw [qN,show (⟨#[46]⟩:ByteArray).data.toList=[46] from rfl,KE] at HP;generalize cls s[0]=k at C k4 k5 k7;clear hL hD fL fD fQ fS hn SG k7;by_cases hh:(s.data.toList.drop n).head? = some 46
   ·have hnl:n<s.size:=by
     rcases Nat.lt_or_ge n s.size with h1 | h1
     ·exact h1
     rw [head_drop,dif_neg (by omega)] at hh;cases hh
    have hmz:=eB isD s (i:=n+1) hnl;rw [dT hh] at HP;rw [KI hh,List.drop_drop] at hgD;have CE1:=Hy (CE.o n hnl);generalize run isD (s.data.toList.drop (n+1))=m at *;clear hh CE;by_cases hm:m=0
    ·subst hm;rw [if_pos rfl] at hgD;replace hgD:=Hy hgD;rw [Nat.add_zero] at CE1;have q3:decide (((n:Int)+1)<((n+1:Nat):Int))=false:=dF (by omega)
     go_enter Tryz.func69,Tryz.ntmps69
     go_wp2_with fail;refine RC.o.mono ?_;rintro e w1 ⟨rfl,c1,z1,b1⟩;have B1:=Hy b1;have T1:=Hy (T0.o.stays b1);clear b1 z1;go_wp2_with fail;refine (C.o _ T1.o).mono ?_;rintro e w2 ⟨rfl,rfl⟩;have CD1:=Hy (CD.o w2 c1 T1.o);have CE2:=Hy (CE1.o w2 c1 T1.o);go_wp2_with fail;refine CD1.o.mono ?_;rintro e w3 ⟨rfl,rfl⟩;go_wp2_with fail;refine (HP.o _).mono ?_;rintro e w3 ⟨rfl,rfl⟩;go_wp2_with fail;refine CE2.o.mono ?_;rintro e w3 ⟨rfl,rfl⟩;go_wp2_with fail
     go_ret2
     exact ⟨by rw [hgD.o];rfl,B1.o⟩
    rw [if_neg hm] at hgD;replace hgD:=Hy hgD;have q3:decide (((n:Int)+1)<((n+1+m:Nat):Int))=true:=dT (by omega)
    go_enter Tryz.func69,Tryz.ntmps69
    go_wp2_with fail;refine RC.o.mono ?_;rintro e w1 ⟨rfl,c1,z1,b1⟩;have B1:=Hy b1;have T1:=Hy (T0.o.stays b1);clear b1 z1;go_wp2_with fail;refine (C.o _ T1.o).mono ?_;rintro e w2 ⟨rfl,rfl⟩;have CD1:=Hy (CD.o w2 c1 T1.o);have CE2:=Hy (CE1.o w2 c1 T1.o);go_wp2_with fail;refine CD1.o.mono ?_;rintro e w3 ⟨rfl,rfl⟩;go_wp2_with fail;refine (HP.o _).mono ?_;rintro e w3 ⟨rfl,rfl⟩;go_wp2_with fail;refine CE2.o.mono ?_;rintro e w3 ⟨rfl,rfl⟩;go_wp2_with fail;refine CE2.o.mono ?_;rintro e w3 ⟨rfl,rfl⟩;go_wp2_with fail
    go_ret2
    exact ⟨by rw [hgD.o];rfl,B1.o⟩
   rw [dF hh] at HP;rw [Hl hh,if_pos rfl] at hgD;replace hgD:=Hy hgD;clear hh CE
   go_enter Tryz.func69,Tryz.ntmps69
   go_wp2_with fail;refine RC.o.mono ?_;rintro e w1 ⟨rfl,c1,z1,b1⟩;have B1:=Hy b1;have T1:=Hy (T0.o.stays b1);clear b1 z1;go_wp2_with fail;refine (C.o _ T1.o).mono ?_;rintro e w2 ⟨rfl,rfl⟩;have CD1:=Hy (CD.o w2 c1 T1.o);go_wp2_with fail;refine CD1.o.mono ?_;rintro e w3 ⟨rfl,rfl⟩;go_wp2_with fail;refine (HP.o _).mono ?_;rintro e w3 ⟨rfl,rfl⟩;go_wp2_with fail
   go_ret2
   exact ⟨by rw [hgD.o];rfl,B1.o⟩
  have hgL:=Hy (fL.o hL);rw [hL] at k4;generalize cls s[0]=k at C k4 k5 k7;clear hL fL fD fQ fS k5 k7 SG
  go_enter Tryz.func69,Tryz.ntmps69
  go_wp2_with fail;refine RC.o.mono ?_;rintro e w1 ⟨rfl,c1,z1,b1⟩;have B1:=Hy b1;have T1:=Hy (T0.o.stays b1);have CW:=Hy (xS PU s hs w.heap.size w1 c1 T1.o);clear b1 z1;generalize run isW s.data.toList=n at *;go_wp2_with fail;refine (C.o _ T1.o).mono ?_;rintro e w2 ⟨rfl,rfl⟩;go_wp2_with fail;refine CW.o.mono ?_;rintro e w2 ⟨rfl,rfl⟩;go_wp2_with fail
  go_ret2
  exact ⟨by rw [hgL.o];rfl,B1.o⟩
 have q1:(s.toList==[])=true:=by rw [toList_nil];exact dT (by omega)
 have hn:s.data.toList=[]:=List.eq_nil_of_length_eq_zero (by rw [aM];omega);have hg:=Hy (show shp s.data.toList=(0,0) by rw [hn];rfl);clear T hn hs
 go_enter Tryz.func69,Tryz.ntmps69
 go_wp2_with fail
 go_ret2
 exact ⟨by rw [hg.o];rfl,b0 w⟩
theorem emp (s:ByteArray):s.toList.isEmpty=decide (s.size=0):=by
 rw [ByteArray.toList_eq,Lib.size_eq s];cases s.data.toList <;> simp
theorem yF (k n:Int) (s:ByteArray) (w:World):Calls Tryz.prog 170 #[.agg #[.int .i64 k,.int .i64 n,.string s]] w fun e w' => e=.returned (.bool (fmd ⟨k,n,s⟩))∧Below w.heap.size w w':=by
 go_enter Tryz.func170,Tryz.ntmps170
 go_wp2
 all_goals go_ret
 all_goals refine ⟨congrArg (fun b=>Ending.returned (Value.bool b)) ?_,aj (b0 w) _⟩
 all_goals simp_all [fmd,emp]
 all_goals rfl
theorem vW (k n:Int) (s:ByteArray) (w:World):Calls Tryz.prog 171 #[.agg #[.int .i64 k,.int .i64 n,.string s]] w fun e w' => e=.returned (.bool (lmt ⟨k,n,s⟩))∧Below w.heap.size w w':=by
 go_enter Tryz.func171,Tryz.ntmps171
 go_wp2
 all_goals go_ret
 all_goals refine ⟨congrArg (fun b=>Ending.returned (Value.bool b)) ?_,aj (b0 w) _⟩
 all_goals simp_all [lmt,rg]
 all_goals omega
theorem KN (lo:Nat) (l:List UInt8) {i:Nat} (hi:i<l.length):pB lo (l.drop i)=(okB lo l[i] && pB lo (l.drop (i+1))):=by
 rw [List.drop_eq_getElem_cons hi];rfl
theorem EK (lo:Nat) (c:UInt8):okB lo c=false↔(c.toNat<lo∨126<c.toNat)∨c.toNat=34∨c.toNat=92:=by
 unfold okB;simp only [Bool.and_eq_false_iff,Bool.not_eq_false',decide_eq_false_iff_not,decide_eq_true_eq];omega
theorem KT (lo:Nat) (c:UInt8):okB lo c=true↔(lo≤c.toNat∧c.toNat≤126)∧c.toNat≠34∧c.toNat≠92:=by
 unfold okB;simp only [Bool.and_eq_true,Bool.not_eq_true',decide_eq_false_iff_not,decide_eq_true_eq];omega
theorem um (lo:Nat) (s:ByteArray) {i:Nat} (hi:i<s.size):(okB lo s[i]=false→pB lo (s.data.toList.drop i)=false)∧(okB lo s[i]=true→pB lo (s.data.toList.drop i)=pB lo (s.data.toList.drop (i+1))):=by
 have hi':i<s.data.toList.length:=by rw [← Lib.size_eq];exact hi
 have e:s.data.toList[i]=s[i]:=rfl;rw [KN lo _ hi',e];constructor
 ·intro h;rw [h];rfl
 intro h;rw [h];rfl
theorem NZ (lo:Nat) (s:ByteArray) {i:Nat} (hi:¬ i<s.size):pB lo (s.data.toList.drop i)=true:=by
 rw [List.drop_eq_nil_of_le (by rw [← Lib.size_eq];omega)];rfl
theorem o7 (lo:Nat) (s:ByteArray) (hs:s.size≤9223372036854775806) (w:World):Calls Tryz.prog 213 #[.int .u8 (lo:Nat),.string s] w fun e w' => e=.returned (.bool (pB lo s.data.toList))∧w=w':=by
 go_enter Tryz.func213,Tryz.ntmps213
 go_wp2
 go_loopw [9] (fun x wr => ∃ i:Nat,x=.int .i64 (i:Nat)∧i≤s.size∧Hid (pB lo s.data.toList=pB lo (s.data.toList.drop i))∧wr=w) (fun x _=>s.size - (intOf x).toNat)
 case atStart=>exact ⟨0,rfl,by omega,rfl,rfl⟩
 case round =>
  obtain ⟨i,rfl,hi,hp,rfl⟩:=hrel;go_wp2
  case roundEnd =>
   have h1:i<s.size:=by omega
   rename_i h2;simp only [beq_eq_false_iff_ne] at h2;refine ⟨⟨i+1,rfl,by omega,?_,trivial⟩,?_⟩
   ·exact Hy (hp.o.trans ((um lo s h1).2 ((KT lo s[i]).2 (by omega))))
   show s.size - ((i:Int)+1).toNat<s.size - ((i:Nat):Int).toNat;omega
  all_goals go_ret
  all_goals refine ⟨congrArg (fun b=>Ending.returned (Value.bool b)) (Eq.symm ?_),rfl⟩
  all_goals rw [hp.o]
  all_goals first
    | exact NZ lo s (by omega)
    | exact (um lo s (by omega)).1 ((EK lo _).2 (by omega))
    | (rename_i h2;simp only [beq_iff_eq] at h2;exact (um lo s (by omega)).1 ((EK lo _).2 (by omega)))
def Vx (w:World) (b:Nat) (k n:Int) (s:ByteArray):Prop:=w.cell? ⟨b,0,none⟩=some (.int .i64 k)∧w.cell? ⟨b,1,none⟩=some (.int .i64 n)∧w.cell? ⟨b,2,none⟩=some (.string s)
theorem Vx.new (w:World) (k n:Int) (s:ByteArray) (T:TypeId):Vx (w.alloc (.cells #[.int .i64 k,.int .i64 n,.string s] T)) w.heap.size k n s:=⟨by simp [go_sem],by simp [go_sem],by simp [go_sem]⟩
theorem Vx.keeps {w w1:World} {b:Nat} {k n:Int} {s:ByteArray} (h:Vx w b k n s) (hb:Below w.heap.size w w1):Vx w1 b k n s:=⟨dec.keeps hb h.1,dec.keeps hb h.2.1,dec.keeps hb h.2.2⟩
theorem vV (k n:Int) (s:ByteArray) (hs:s.size≤1048576) (w:World):Calls Tryz.prog 172 #[.agg #[.int .i64 k,.int .i64 n,.string s]] w fun e w' => e=.returned (.bool (spl ⟨k,n,s⟩))∧Below w.heap.size w w':=by
 have C1:Hid (∀ w,Calls Tryz.prog 213 #[.int .u8 32,.string s] w fun e w' => e=.returned (.bool (pB 32 s.data.toList))∧w=w'):=Hy (fun w=>o7 32 s (by omega) w);have C2:Hid (∀ w,Calls Tryz.prog 213 #[.int .u8 33,.string s] w fun e w' => e=.returned (.bool (pB 33 s.data.toList))∧w=w'):=Hy (fun w=>o7 33 s (by omega) w);by_cases k4:k=4
 ·subst k4;clear C2
  go_enter Tryz.func172,Tryz.ntmps172
  go_wp2_with fail;refine (C1.o _).mono ?_;rintro e w' ⟨rfl,rfl⟩;go_wp2;go_ret;refine ⟨congrArg (fun b=>Ending.returned (Value.bool b)) ?_,aj (b0 _) _⟩;simp [spl]
 by_cases k5:k=5
 ·subst k5;clear C1;by_cases hz:s.size=0
  ·have hz2:=uY hz;subst hz2
   go_enter Tryz.func172,Tryz.ntmps172
   go_wp2_with fail;go_ret;refine ⟨congrArg (fun b=>Ending.returned (Value.bool b)) ?_,aj (b0 _) _⟩;simp [spl]
  have he:s.toList.isEmpty=false:=by rw [emp];exact dF hz
  go_enter Tryz.func172,Tryz.ntmps172
  go_wp2_with fail;refine (C2.o _).mono ?_;rintro e w' ⟨rfl,rfl⟩;go_wp2;go_ret;refine ⟨congrArg (fun b=>Ending.returned (Value.bool b)) ?_,aj (b0 _) _⟩
  simp_all [spl]
 clear C1 C2
 go_enter Tryz.func172,Tryz.ntmps172
 go_wp2_with fail;go_ret;refine ⟨congrArg (fun b=>Ending.returned (Value.bool b)) ?_,aj (b0 _) _⟩
 simp_all [spl]
theorem pE (k n:Int) (s:ByteArray) (hs:s.size≤1048576) (w:World):Calls Tryz.prog 119 #[.agg #[.int .i64 k,.int .i64 n,.string s]] w fun e w' => e=.returned (.int .i64 (ck ⟨k,n,s⟩))∧Below w.heap.size w w':=by
 have C1:=Hy (yF k n s);have C2:=Hy (vW k n s);have C3:=Hy (vV k n s hs);have V0:=Vx.new w k n s 37;unfold ck;generalize fmd ⟨k,n,s⟩=f at *;generalize lmt ⟨k,n,s⟩=l at *;generalize spl ⟨k,n,s⟩=p at *
 go_enter Tryz.func119,Tryz.ntmps119
 go_wp2_with fail;refine (C1.o _).mono ?_;rintro e w1 ⟨rfl,b1⟩;obtain ⟨c0,c1,c2⟩:=V0.keeps b1;have V1:=Hy (V0.keeps b1);replace b1:=(aj (b0 w) _).trans (b1.mono (by simp));cases f
 ·go_wp2_with fail;go_ret;exact ⟨rfl,b1⟩
 go_wp2_with fail;refine (C2.o _).mono ?_;rintro e w2 ⟨rfl,b2⟩;obtain ⟨c0,c1,c2⟩:=V1.o.keeps b2;have V2:=Hy (V1.o.keeps b2);replace b2:=aD b1 b2;cases l
 ·go_wp2_with fail;go_ret;exact ⟨rfl,b2⟩
 go_wp2_with fail;refine (C3.o _).mono ?_;rintro e w3 ⟨rfl,b3⟩;replace b3:=aD b2 b3;cases p
 ·go_wp2_with fail;go_ret;exact ⟨rfl,b3⟩
 go_wp2_with fail;go_ret;exact ⟨rfl,b3⟩
theorem OZ {a b:ByteArray} (h:a.data.toList=b.data.toList):a=b:=by
 cases a;cases b;simp only at h;rw [Array.toList_inj.1 h]
theorem Jq {b:ByteArray} {l:List UInt8} (h:b.data.toList=l):b=⟨l.toArray⟩:=OZ h
theorem Ku {a b:ByteArray} (h:a=b):Ending.returned (Value.string a)=.returned (.string b):=by rw [h]
theorem dX {k:IntKind} {a b:Int} (h:a=b):Ending.returned (Value.int k a)=.returned (.int k b):=by rw [h]
theorem bB {a b:Bool} (h:a=b):Ending.returned (Value.bool a)=.returned (.bool b):=by rw [h]
theorem xA (s:ByteArray) {i j:Nat} {x y:Int} (hx:x=(i:Nat)) (hy:y=(j:Nat)) (hij:i≤j) (hj:j≤s.size) (W:World):(Instr.slice 9 (.string s) (some (.int .i64 x)) (some (.int .i64 y)) none).run Tryz.prog W=.ok (.string (s.extract i j)) W:=by
 subst hx hy;exact Go.run_slice_string W 9 s .i64 .i64 i j Tryz.underlying9 (by omega) (by omega) (by omega)
theorem qA (k:Int) (s:ByteArray) (hs:s.size≤140737488355328) (h:k=4→2≤s.size) (w:World) :
    Calls Tryz.prog 71 #[.int .i64 k,.string s] w fun e w' => e=.returned (.string ⟨(cont k s.data.toList).toArray⟩)∧w'=w:=by
 by_cases hk:k=4
 ·have h2:=h hk;have q1:(k==4)=true:=by rw [hk];rfl
  have he:=Hy (show s.extract 1 (s.size - 1)=⟨(cont k s.data.toList).toArray⟩ by
    refine Jq ?_
    rw [qO]
    unfold cont
    rw [if_pos hk,aM,show s.size - 1 - 1=s.size - 2 by omega])
  clear h hk;have SL:=fun W=>xA s (i:=1) (j:=s.size - 1) (x:=1) (y:=(s.size:Int) - 1) rfl (by omega) (by omega) (by omega) W;rw [he.o] at SL;generalize (⟨(cont k s.data.toList).toArray⟩:ByteArray)=R at *;clear he
  go_enter Tryz.func71,Tryz.ntmps71
  go_wp2_with fail;go_ret;exact ⟨rfl,rfl⟩
 have q1:(k==4)=false:=by rw [beq_eq_false_iff_ne];exact hk
 have he:=Hy (show s=⟨(cont k s.data.toList).toArray⟩ from Jq (sZ hk _).symm);clear h hk hs
 go_enter Tryz.func71,Tryz.ntmps71
 go_wp2_with fail;go_ret;exact ⟨Ku he.o,rfl⟩
theorem MF (s:ByteArray):ck ⟨4,0,s⟩=txE s.data.toList:=by
 unfold ck txE fmd lmt spl;rw [aM];by_cases h:64<s.size
 ·rw [if_pos h];simp [show ¬ s.size≤64 by omega]
 rw [if_neg h];simp [show s.size≤64 by omega]
theorem Ir {k:Int} (h1:k≠1) (h2:k≠2) (h3:k≠3) (h4:k≠4) (h0:k≠0) (p:List UInt8):flt k p=0:=by
 unfold flt;rw [if_neg h1,if_neg h2,if_neg h3,if_neg h4,if_neg h0]
theorem xg {l:List UInt8} (h:shp l=(4,l.length)):2≤l.length:=by
 have h1:=xH (l:=l) (by rw [h]);rw [h,List.take_length] at h1;have:=congrArg List.length h1;simp only [List.length_cons,List.length_append,List.length_nil] at this;omega
theorem vM (k:Int) (s:ByteArray) (hs:s.size≤1048576) (h:k=0∨shp s.data.toList=(k,s.data.toList.length)) (w:World) (T:Tabs w) :
    Calls Tryz.prog 70 #[.int .i64 k,.string s] w fun e w' => e=.returned (.int .i64 (flt k s.data.toList))∧Below w.heap.size w w':=by
 by_cases h1:k=1
 ·subst h1;have hf:=Hy (uJ s.data.toList);rw [aM] at hf;clear h T;by_cases hc:24<s.size
  ·have q:decide (24<(s.size:Int))=true:=dT (by omega);rw [if_pos hc] at hf
   go_enter Tryz.func70,Tryz.ntmps70
   go_wp2_with fail;go_ret;exact ⟨dX hf.o.symm,b0 w⟩
  have q:decide (24<(s.size:Int))=false:=dF (by omega);rw [if_neg hc] at hf
  go_enter Tryz.func70,Tryz.ntmps70
  go_wp2_with fail;go_ret;exact ⟨dX hf.o.symm,b0 w⟩
 by_cases h2:k=2
 ·subst h2;obtain ⟨d1,d2⟩:=Aj (h.resolve_left (by decide));have hat:=qB d1 d2;have hf:=uI s.data.toList;clear h h1 d1 d2;generalize dval 0 s.data.toList=v at *;by_cases hv:v<9223372036854775808
  ·rw [if_pos hv] at hat;have AC:=Hy (Tryz.strconv_Atoi_ok s (by omega) _ hat w);by_cases hc:1152921504606846976<v
   ·rw [if_pos hc] at hf;replace hf:=Hy hf;have q:decide (1152921504606846976<(v:Int))=true:=dT (by omega);clear hat T
    go_enter Tryz.func70,Tryz.ntmps70
    go_wp2_with fail;refine AC.o.mono ?_;rintro e w1 ⟨rfl,hw⟩;have B1:=Hy (show Below w.heap.size w w1 by rcases hw with rfl | ⟨t,rfl⟩;exact b0 _;exact gN _ _ _);clear hw;go_wp2_with fail;go_ret;exact ⟨dX hf.o.symm,B1.o⟩
   rw [if_neg hc] at hf;replace hf:=Hy hf;have q:decide (1152921504606846976<(v:Int))=false:=dF (by omega);clear hat T
   go_enter Tryz.func70,Tryz.ntmps70
   go_wp2_with fail;refine AC.o.mono ?_;rintro e w1 ⟨rfl,hw⟩;have B1:=Hy (show Below w.heap.size w w1 by rcases hw with rfl | ⟨t,rfl⟩;exact b0 _;exact gN _ _ _);clear hw;go_wp2_with fail;go_ret;exact ⟨dX hf.o.symm,B1.o⟩
  rw [if_neg hv] at hat;rw [if_pos (by omega)] at hf;replace hf:=Hy hf;obtain ⟨tp,p,hr⟩:=T.ran;have AC:=Hy (Tryz.strconv_Atoi_range_var s (by omega) hat tp p w hr);clear hat T hr
  go_enter Tryz.func70,Tryz.ntmps70
  go_wp2_with fail;refine AC.o.mono ?_;rintro e w1 ⟨N,rfl,hw⟩;have B1:=Hy hw.2.2;clear hw;go_wp2_with fail;go_ret;exact ⟨dX hf.o.symm,B1.o⟩
 by_cases h3:k=3
 ·subst h3;have PC:=Hy (vE s w (by omega) T.pow);have hf:=FI s.data.toList;clear h T h1 h2;generalize paE s.data.toList=x at *;generalize paX s.data.toList=y at *;replace hf:=Hy hf
  go_enter Tryz.func70,Tryz.ntmps70
  go_wp2_with fail;refine PC.o.mono ?_;rintro e w1 ⟨rfl,b1⟩;have B1:=Hy b1;clear b1;go_wp2_with fail;go_ret;exact ⟨dX hf.o.symm,B1.o⟩
 by_cases h4:k=4
 ·subst h4;have h22:=xg (h.resolve_left (by decide));rw [aM] at h22;have CC:=Hy (qA 4 s (by omega) (fun _=>h22) w);have hl:(cont 4 s.data.toList).length≤1048576:=by
   unfold cont;rw [if_pos rfl,List.length_take,List.length_drop,aM];omega
  have hf:=yM s.data.toList;obtain ⟨t,ht⟩:∃ t:ByteArray,t=⟨(cont 4 s.data.toList).toArray⟩:=⟨_,rfl⟩;have htl:t.data.toList=cont 4 s.data.toList:=by rw [ht]
  rw [← ht] at CC;rw [← htl] at hf hl;rw [aM] at hl;have KC:=Hy (fun W=>pE 4 0 t hl W);rw [MF,← hf] at KC;clear h T h1 h2 h3 ht htl hf h22 hl;generalize flt 4 s.data.toList=x at *
  go_enter Tryz.func70,Tryz.ntmps70
  go_wp2_with fail;refine CC.o.mono ?_;rintro e w1 ⟨rfl,rfl⟩;go_wp2_with fail;refine (KC.o _).mono ?_;rintro e w1 ⟨rfl,b1⟩;have B1:=Hy b1;clear b1;go_wp2_with fail;go_ret;exact ⟨rfl,B1.o⟩
 have q1:(k==1)=false:=by rw [beq_eq_false_iff_ne];exact h1
 have q2:(k==2)=false:=by rw [beq_eq_false_iff_ne];exact h2
 have q3:(k==3)=false:=by rw [beq_eq_false_iff_ne];exact h3
 have q4:(k==4)=false:=by rw [beq_eq_false_iff_ne];exact h4
 by_cases h0:k=0
 ·subst h0;have hf:=Hy (lg s.data.toList);clear h T h1 h2 h3 h4 q1 q2 q3 q4
  go_enter Tryz.func70,Tryz.ntmps70
  go_wp2_with fail;go_ret;exact ⟨dX hf.o.symm,b0 w⟩
 have q0:(k==0)=false:=by rw [beq_eq_false_iff_ne];exact h0
 have hf:=Hy (Ir h1 h2 h3 h4 h0 s.data.toList);clear h T h1 h2 h3 h4 h0
 go_enter Tryz.func70,Tryz.ntmps70
 go_wp2_with fail;go_ret;exact ⟨dX hf.o.symm,b0 w⟩
def prB (k:Int) (s:ByteArray):Bool:=decide (shp s.data.toList=(k,s.size)) && decide (flt k s.data.toList=0)
theorem NT (x:Tk) {s:ByteArray} (h:s.data.toList=so x):prB x.k s=pr x:=by
 unfold prB pr;rw [h,← h,aM]
theorem zF (k:Int) (s:ByteArray) (hs:s.size≤1048576) (w:World) (T:Tabs w) :
    Calls Tryz.prog 54 #[.int .i64 k,.string s] w fun e w' => e=.returned (.bool (prB k s))∧Below w.heap.size w w':=by
 have SC:=Hy (vg s (by omega) w T);have T0:=Hy T;clear T;obtain ⟨q,hq⟩:∃ q,shp s.data.toList=q:=⟨_,rfl⟩;obtain ⟨k1,n⟩:=q;rw [hq] at SC;by_cases h1:k1=k
 ·subst h1;have q1:(k1==k1)=true:=by rw [beq_iff_eq]
  by_cases h2:n=s.size
  ·subst h2;have q2:((s.size:Int)==(s.size:Int))=true:=by rw [beq_iff_eq]
   have FC:=Hy (fun W T=>vM k1 s hs (.inr (by rw [hq,aM])) W T);have hp:=Hy (show prB k1 s=(flt k1 s.data.toList==0) by unfold prB;rw [dT hq,Bool.true_and,eqb]);clear hq hs;generalize flt k1 s.data.toList=f at *
   go_enter Tryz.func54,Tryz.ntmps54
   go_wp2_with fail;refine SC.o.mono ?_;rintro e w1 ⟨rfl,b1⟩;have B1:=Hy b1;have T1:=Hy (T0.o.stays b1);clear b1;go_wp2_with fail;refine (FC.o _ T1.o).mono ?_;rintro e w2 ⟨rfl,b2⟩;have B2:=Hy (aD B1.o b2);clear b2;generalize hf:(f==0)=b at *;cases b
   ·go_wp2_with fail;go_ret;exact ⟨bB hp.o.symm,B2.o⟩
   go_wp2_with fail;go_ret;exact ⟨bB hp.o.symm,B2.o⟩
  have q2:((n:Int)==(s.size:Int))=false:=by rw [beq_eq_false_iff_ne];omega
  have hp:=Hy (show prB k1 s=false by unfold prB;rw [dF (by rw [hq];intro e;exact h2 (Prod.mk.inj e).2),Bool.false_and]);clear hq hs T0 h2
  go_enter Tryz.func54,Tryz.ntmps54
  go_wp2_with fail;refine SC.o.mono ?_;rintro e w1 ⟨rfl,b1⟩;have B1:=Hy b1;clear b1;go_wp2_with fail;go_ret;exact ⟨bB hp.o.symm,B1.o⟩
 have q1:(k1==k)=false:=by rw [beq_eq_false_iff_ne];exact h1
 have hp:=Hy (show prB k s=false by unfold prB;rw [dF (by rw [hq];intro e;exact h1 (Prod.mk.inj e).1),Bool.false_and]);clear hq hs T0 h1
 go_enter Tryz.func54,Tryz.ntmps54
 go_wp2_with fail;refine SC.o.mono ?_;rintro e w1 ⟨rfl,b1⟩;have B1:=Hy b1;clear b1;go_wp2_with fail;go_ret;exact ⟨bB hp.o.symm,B1.o⟩
def kwL:List (List UInt8):=[[116,97,98,108,101],[102,101,97,116,117,114,101],[111,102],[107,101,101,112],[98,111,111,108],[116,101,120,116],[107,101,121],[105,110,116],[100,101,99],[105,102],[116,104,101,110],[101,108,115,101],[100,101,102,97,117,108,116],[111,114],[97,110,100],[110,111,116],[116,114,117,101],[102,97,108,115,101],[110,117,108,108],[99,111,117,110,116],[115,117,109],[109,101,97,110],[109,105,110],[109,97,120],[102,105,114,115,116],[108,97,115,116],[100,105,115,116,105,110,99,116],[113,117,97,110,116,105,108,101],[100,101,99,97,121],[97,108,108],[115,108,105,100,105,110,103],[116,117,109,98,108,105,110,103],[115,101,115,115,105,111,110],[119,104,101,114,101]]
def kw (s:ByteArray):Bool:=kwL.any fun l=>s.toList==l
theorem zD (s:ByteArray) (w:World) :
    Calls Tryz.prog 55 #[.string s] w fun e w' => e=.returned (.bool (kw s))∧w'=w:=by
 go_enter Tryz.func55,Tryz.ntmps55
 go_wp2
 all_goals go_ret
 all_goals refine ⟨bB ?_,rfl⟩
 all_goals first | (rename_i h1 h2;rw [h1] at h2;cases h2;done) | (unfold kw kwL;simp [*];done)
def name (s:ByteArray):Bool:=prB 1 s && !kw s
theorem HV (s:ByteArray) (hs:s.size≤1048576) (w:World) (T:Tabs w) :
    Calls Tryz.prog 18 #[.string s] w fun e w' => e=.returned (.bool (name s))∧Below w.heap.size w w':=by
 have IC:=Hy (zF 1 s hs w T);have KC:=Hy (fun W=>zD s W);have hn:Hid (name s=(prB 1 s && !kw s)):=Hy rfl;generalize prB 1 s=p at *;generalize kw s=q at *;clear T;cases p
 ·go_enter Tryz.func18,Tryz.ntmps18
  go_wp2_with fail;refine IC.o.mono ?_;rintro e w1 ⟨rfl,b1⟩;have B1:=Hy b1;clear b1;go_wp2_with fail;go_ret;exact ⟨bB hn.o.symm,B1.o⟩
 go_enter Tryz.func18,Tryz.ntmps18
 go_wp2_with fail;refine IC.o.mono ?_;rintro e w1 ⟨rfl,b1⟩;have B1:=Hy b1;clear b1;go_wp2_with fail;refine (KC.o _).mono ?_;rintro e w2 ⟨rfl,rfl⟩;go_wp2_with fail;go_ret;exact ⟨bB hn.o.symm,B1.o⟩
end
namespace tk
open Go.RowKit dec
structure Bw (w:World) (b:Nat) (x:Tk):Prop where
 c0:w.cell? ⟨b,0,none⟩=some (.int .i64 (x).k)
 c1:w.cell? ⟨b,1,none⟩=some (.string (x).t)
 c2:w.cell? ⟨b,2,none⟩=some (.int .i64 (x).a)
theorem Bw.lt {w:World} {b:Nat} {x:Tk} (h:Bw w b x):b<w.heap.size:=block_lt_of_cell h.c0
theorem Bw.new (w:World) (x:Tk) (T:TypeId):Bw (w.alloc (.cells #[.int .i64 (x).k,.string (x).t,.int .i64 (x).a] T)) w.heap.size x:=⟨by simp [go_sem],by simp [go_sem],by simp [go_sem]⟩
theorem Bw.oU {w w1:World} {B b:Nat} {x:Tk} (h:Bw w b x) (hb:Below B w w1) (hl:b<B):Bw w1 b x :=
 ⟨(hb.cell hl).trans h.c0,(hb.cell hl).trans h.c1,(hb.cell hl).trans h.c2⟩
theorem Bw.keeps {w w1:World} {b:Nat} {x:Tk} (h:Bw w b x) (hb:Below w.heap.size w w1):Bw w1 b x:=h.oU hb h.lt
theorem Bw.past {w:World} {b:Nat} {x:Tk} (h:Bw w b x) (o:Obj):Bw (w.alloc o) b x:=h.keeps (aj (b0 w) o)
def cs:List Tk→List Value
 | []=>[]
 | x :: l=>.int .i64 (x).k :: .string (x).t :: .int .i64 (x).a :: cs l
theorem dU:∀ l:List Tk,(cs l).length=l.length * 3
 | []=>rfl
 | x :: l=>by simp only [cs,List.length_cons,dU l];omega
theorem dV:∀ l r:List Tk,cs (l++r)=cs l++cs r
 | [],_=>rfl
 | x :: l,r=>by simp only [cs,List.cons_append,dV l r]
theorem iq:∀ l:List Tk,∀ u ∈ cs l,u.oneCell'=true
 | [],u,h=>by simp [cs] at h
 | x :: l,u,h=>by
  simp only [cs,List.mem_cons] at h
  rcases h with rfl | rfl | rfl | h
  ·rfl
  ·rfl
  ·rfl
  ·exact iq l u h
def gt (l:List Tk) (j:Nat):Tk:=l.getD j ⟨0,.empty,0⟩
theorem oW {l:List Tk} {j:Nat} (h:j<l.length):gt l j ∈ l:=by
 unfold gt;rw [List.getD_eq_getElem?_getD,List.getElem?_eq_getElem h];exact List.getElem_mem h
theorem eF {l:List Tk} {j:Nat} (h:j<l.length):gt l j=l[j]:=by
 unfold gt;rw [List.getD_eq_getElem?_getD,List.getElem?_eq_getElem h];rfl
theorem iR:∀ (l:List Tk) (j:Nat),j<l.length→(cs l)[j * 3]? = some (.int .i64 (gt l j).k)∧(cs l)[j * 3+1]? = some (.string (gt l j).t)∧(cs l)[j * 3+2]? = some (.int .i64 (gt l j).a)
 | [],j,h=>by simp at h
 | x :: l,0,_=>⟨rfl,rfl,rfl⟩
 | x :: l,j+1,h=>by
  have:=iR l j (by simpa using h)
  rw [show (j+1) * 3=j * 3+1+1+1 by omega]
  simp only [cs,sz4]
  exact this
theorem qh {l:List Tk} {j:Nat} (h:j<l.length):l.drop j=gt l j :: l.drop (j+1):=by
 rw [eF h];exact List.drop_eq_getElem_cons h
theorem iY {l:List Tk} {j:Nat} (h:j<l.length):l.take (j+1)=l.take j++[gt l j]:=by
 rw [eF h,List.take_add_one,List.getElem?_eq_getElem h];rfl
def Cl (w:World) (b off:Nat) (l:List Tk):Prop:=∀ j,j<l.length→w.cell? ⟨b,off+j * 3,none⟩=some (.int .i64 (gt l j).k)∧w.cell? ⟨b,off+j * 3+1,none⟩=some (.string (gt l j).t)∧w.cell? ⟨b,off+j * 3+2,none⟩=some (.int .i64 (gt l j).a)
theorem Cl.keeps {w w1:World} {b off:Nat} {l:List Tk} (h:Cl w b off l) (hb:Below w.heap.size w w1):Cl w1 b off l:=fun j hj=>⟨dec.keeps hb (h j hj).1,dec.keeps hb (h j hj).2.1,dec.keeps hb (h j hj).2.2⟩
def At (w:World) (a:Option Addr) (l:List Tk):Prop:=l.length=0∨∃ b off,a=some ⟨b,off,none⟩∧Cl w b off l
theorem At.keeps {w w1:World} {a:Option Addr} {l:List Tk} (h:At w a l) (hb:Below w.heap.size w w1):At w1 a l:=h.imp id fun ⟨b,off,e,hB⟩=>⟨b,off,e,hB.keeps hb⟩
structure Sl (w:World) (a:Option Addr) (n cap:Nat) (l:List Tk):Prop where
 hat:At w a l
 hn:l.length=n
 hcap:n≤cap
 hmax:cap≤9223372036854775807
 hno:a=none→cap=0
theorem Sl.keeps {w w1:World} {a:Option Addr} {n cap:Nat} {l:List Tk} (h:Sl w a n cap l) (hb:Below w.heap.size w w1):Sl w1 a n cap l:={ h with hat:=h.hat.keeps hb }
theorem Sl.nil (w:World):Sl w none 0 0 []:=⟨.inl rfl,rfl,by omega,by omega,fun _=>rfl⟩
theorem Cl.cut {w:World} {b off:Nat} {l:List Tk} (h:Cl w b off l) (k m:Nat):Cl w b (off+k * 3) ((l.drop k).take m):=by
 intro j hj;have hlen:((l.drop k).take m).length=min m (l.length - k):=by simp
 have:=h (k+j) (by omega);have e:gt ((l.drop k).take m) j=gt l (k+j):=by
  rw [eF hj,eF (by omega)];simp
 rw [e,show off+k * 3+j * 3=off+(k+j) * 3 by omega];exact this
theorem Cl.take {w:World} {b off:Nat} {l:List Tk} (h:Cl w b off l) (m:Nat):Cl w b off (l.take m):=by
 have:=h.cut 0 m;simpa using this
theorem lJ:(Tryz.prog.info? 69).map (fun i=>(i.zero,i.size,i.bytes))=some (some (.agg #[.int .i64 0,.string .empty,.int .i64 0]),3,32):=by kernel_rfl
def Own (w:World) (base:Nat) (v:Value) (l:List Tk):Prop:=w.ownsRow base 69 3 v l.length (cs l)
theorem Own.nil (w:World) (base:Nat):Own w base (.slice none 0 0) []:=World.ownsRow_nil _ _ _ _
theorem Own.less {w:World} {base base':Nat} {v:Value} {l:List Tk} (h:Own w base v l) (hb:base'≤base):Own w base' v l:=by
 refine ⟨h.1,h.2.imp id fun ⟨g,cap,cur,e,hbg,r⟩=>⟨g,cap,cur,e,by omega,r⟩⟩
theorem Own.o {w:World} {base:Nat} {v:Value} {l:List Tk} (h:Own w base v l):(v=.slice none 0 0∧l=[])∨∃ g cap,v=.slice (some ⟨g,0,none⟩) l.length cap∧base≤g∧g<w.heap.size∧l.length≤cap∧cap≤9223372036854775807∧Cl w g 0 l:=by
 rcases h.2 with ⟨h0,h1⟩ | ⟨g,cap,cur,rfl,hb,hg,hc,hm,hs,ht⟩
 ·exact .inl ⟨h0,List.eq_nil_of_length_eq_zero h1⟩
 refine .inr ⟨g,cap,rfl,hb,(h.lt g rfl).2,hc,by unfold maxLen at hm;omega,fun j hj=>?_⟩;rw [Nat.zero_add,h.cellAt (j * 3) (by omega),h.cellAt (j * 3+1) (by omega),h.cellAt (j * 3+2) (by omega)];exact iR l j hj
theorem Own.sl {w:World} {base:Nat} {v:Value} {l:List Tk} (h:Own w base v l):∃ a cap,v=.slice a l.length cap∧Sl w a l.length cap l:=by
 rcases h.o with ⟨rfl,rfl⟩ | ⟨g,cap,rfl,_,_,hc,hm,hW⟩
 ·exact ⟨none,0,rfl,.nil _⟩
 exact ⟨_,cap,rfl,.inr ⟨g,0,rfl,hW⟩,rfl,hc,hm,fun h=>by cases h⟩
theorem Own.keeps {w w1:World} {base:Nat} {v:Value} {l:List Tk} (h:Own w base v l) (hb:Below w.heap.size w w1):Own w1 base v l:=by
 obtain ⟨h1,h2⟩:=h;refine ⟨h1,?_⟩;rcases h2 with h0 | ⟨g,cap,cur,e,hbg,hh,r⟩
 ·exact .inl h0
 refine .inr ⟨g,cap,cur,e,hbg,?_,r⟩;have:g<w.heap.size:=by
  rcases Nat.lt_or_ge g w.heap.size with h' | h'
  ·exact h'
  rw [Array.getElem?_eq_none h'] at hh;cases hh
 rw [hb.block _ this];exact hh
theorem own_below {w w':World} {base:Nat} {v:Value} {l:List Tk} (h:Own w base v l) (hg:w.grownBy w' v.ownBlock) (hb:base≤w.heap.size):Below base w w' :=
 (Below.refl base w).grown hg hb fun k hk=>(h.lt k hk).1
theorem lW (w:World) {o:Oper} {a:Act} {K:Act→World→Prop} {Q:Exit→Act→World→Prop} (s x:Operand)
    (ho:o.op=.call { callee:=.builtin .append,args:=#[s,x],argTypes:=#[62,62] })
    (base:Nat) (v:Value) (l:List Tk) (hs:a.eval s=v) (hown:Own w base v l) (b:Nat) (y:Tk) (hx:a.eval x=.slice (some ⟨b,0,none⟩) 1 1) (hB:Bw w b y)
    (hn:l.length<4398046511104) (hbase:base≤w.heap.size)
    (h:∀ v' w',Own w' base v' (l++[y])→Below base w w'→w.grownBy w' v.ownBlock→K (a.put o.dst v') w'):o.wp Tryz.prog a w K Q:=by
 obtain ⟨i,hi,hz0,hz1,hz2⟩:=info_parts lJ
 refine wp_append_own w s x 62 ho base 69 i (.agg #[.int .i64 0,.string .empty,.int .i64 0]) 3 32 Tryz.underlying62 hi hz0 hz1 hz2 rfl (by decide) v l.length (cs l) hs hown ⟨b,0,none⟩ 1 1 (cs [y]) hx rfl ?_ (iq _)
   (by unfold maxLen;omega) (by omega) hbase fun v' w' h1 h2 _=>h v' w' (by unfold Own;rw [dV,List.length_append];exact h1) (own_below hown h2 hbase) h2
 intro j u hu;unfold Addr.add
 match j,hu with
 | 0,hu=>simp [cs] at hu;subst hu;exact hB.c0
 | 1,hu=>simp [cs] at hu;subst hu;exact hB.c1
 | 2,hu=>simp [cs] at hu;subst hu;exact hB.c2
 | j+3,hu=>simp [cs] at hu
theorem bL (w:World) {ops:Array Oper} {rest:List Oper} {o:Oper} {a:Act} {Q:Exit→Act→World→Prop} (hgd:o.guard=none) (s x:Operand)
  (ho:o.op=.call { callee:=.builtin .append,args:=#[s,x],argTypes:=#[62,62] })
  (base:Nat) (v:Value) (l:List Tk) (hs:a.eval s=v) (hown:Own w base v l) (b:Nat) (y:Tk) (hx:a.eval x=.slice (some ⟨b,0,none⟩) 1 1) (hB:Bw w b y)
  (hn:l.length<4398046511104) (hbase:base≤w.heap.size)
  (h:∀ v' w',Own w' base v' (l++[y])→Below base w w'→w.grownBy w' v.ownBlock→wpList Tryz.prog ops Q rest (a.put o.dst v') w'):wpList Tryz.prog ops Q (o :: rest) a w :=
 wpList_plain hgd fun _ hK=>lW w s x ho base v l hs hown b y hx hB hn hbase fun v' w' h1 h2 h3=>hK _ _ (h v' w' h1 h2 h3)
theorem dD {w:World} {ops:Array Oper} {rest:List Oper} {o:Oper} {a:Act} {Q:Exit→Act→World→Prop} (s x:Operand) (_:o.op=.call { callee:=.builtin .append,args:=#[s,x],argTypes:=#[62,62] })
  (k:wpList Tryz.prog ops Q (o :: rest) a w):wpList Tryz.prog ops Q (o :: rest) a w:=k
end tk
end Go.Proofs.YtbpijgddfaefkaaGreatDoor
