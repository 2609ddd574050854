/-
  A variable that holds a token and may be written; what the reference's token hands back; The reference's Parse of decimals: for every string; The reference's Parse of decimals: its loops; The reference: numbers; The reference: texts.
-/
import Derived.Test.YtbpijgddfaefkaaGreatDoorK23
set_option maxRecDepth 100000
set_option maxHeartbeats 16000000
namespace Go.Proofs.YtbpijgddfaefkaaGreatDoor
namespace tk
open Go.RowKit dec
structure Ww (w:World) (b:Nat) (x:Tk):Prop where
 val:Bw w b x
 f0:w.frozen? ⟨b,0,none⟩=false
 f1:w.frozen? ⟨b,1,none⟩=false
 f2:w.frozen? ⟨b,2,none⟩=false
theorem Ww.new (w:World) (x:Tk) (T:TypeId):Ww (w.alloc (.cells #[.int .i64 (x).k,.string (x).t,.int .i64 (x).a] T)) w.heap.size x:=⟨Bw.new w x T,by simp [go_sem],by simp [go_sem],by simp [go_sem]⟩
theorem Ww.keeps {w w1:World} {b:Nat} {x:Tk} (h:Ww w b x) (hb:Below w.heap.size w w1):Ww w1 b x :=
 ⟨h.val.keeps hb,by rw [hb.frozen (p:=⟨b,0,none⟩) h.val.lt];exact h.f0,by rw [hb.frozen (p:=⟨b,1,none⟩) h.val.lt];exact h.f1,by rw [hb.frozen (p:=⟨b,2,none⟩) h.val.lt];exact h.f2⟩
theorem Bw.put {w:World} {b:Nat} {x:Tk} (h:Bw w b x) (y:Tk) :
    Bw (((w.setCell ⟨b,0,none⟩ (.int .i64 y.k)).setCell ⟨b,1,none⟩ (.string y.t)).setCell ⟨b,2,none⟩ (.int .i64 y.a)) b y:=by
 have ne:∀ {o o':Nat},o≠o'→(⟨b,o,none⟩:Addr)≠⟨b,o',none⟩:=fun h e=>h (congrArg Addr.off e);refine ⟨?_,?_,?_⟩
 ·rw [World.cell?_setCell_other _ _ _ _ (ne (by decide)),World.cell?_setCell_other _ _ _ _ (ne (by decide))];exact World.cell?_setCell_same _ _ _ h.1
 ·rw [World.cell?_setCell_other _ _ _ _ (ne (by decide))];exact World.cell?_setCell_same _ _ _ (u:=.string x.t) (by rw [World.cell?_setCell_other _ _ _ _ (ne (by decide))];exact h.2)
 exact World.cell?_setCell_same _ _ _ (u:=.int .i64 x.a) (by rw [World.cell?_setCell_other _ _ _ _ (ne (by decide)),World.cell?_setCell_other _ _ _ _ (ne (by decide))];exact h.3)
theorem vC {B b:Nat} {W w:World} (h:Below B W w) (hk:B≤b) (x y z:Value):Below B W (((w.setCell ⟨b,0,none⟩ x).setCell ⟨b,1,none⟩ y).setCell ⟨b,2,none⟩ z) :=
 Below.setCell (p:=⟨b,2,none⟩) (Below.setCell (p:=⟨b,1,none⟩) (Below.setCell (p:=⟨b,0,none⟩) h hk x) hk y) hk z
end tk
section
open Go.RowKit dec
def TkA (w w':World) (e:Ending) (l:List UInt8) (i:Nat):Prop :=
 ∃ x:Tk,e=.returned (.tuple #[.agg #[.int .i64 x.k,.string x.t,.int .i64 x.a],.int .i64 ((if (shp l).1=0 then 0 else (shp l).2:Nat):Int),.int .i64 (flt (shp l).1 (l.take (shp l).2))])
  ∧ (flt (shp l).1 (l.take (shp l).2)=0→x=⟨(shp l).1,⟨(cont (shp l).1 (l.take (shp l).2)).toArray⟩,(i:Nat)⟩)∧Below w.heap.size w w'
theorem TkA.mk {w w':World} {e:Ending} {l:List UInt8} {i:Nat} {k:Int} {n m:Nat} {c:Int} (hs:shp l=(k,n)) (hm:m=if k=0 then 0 else n) (hc:flt k (l.take n)=c) (x:Tk)
    (he:e=.returned (.tuple #[.agg #[.int .i64 x.k,.string x.t,.int .i64 x.a],.int .i64 (m:Nat),.int .i64 c])) (hx:c=0→x=⟨k,⟨(cont k (l.take n)).toArray⟩,(i:Nat)⟩) (hb:Below w.heap.size w w'):TkA w w' e l i:=by
 unfold TkA;rw [hs];simp only [hc];refine ⟨x,?_,hx,hb⟩;rw [he,hm]
theorem GK {c:UInt8} (h1:c.toNat≠61) (h2:c.toNat≠33) (h3:c.toNat≠60) (h4:isS c=false) (r:List UInt8):sgn (c :: r)=(0,1):=by
 rw [dJ,if_neg (by omega),h4];rfl
theorem Ee (s:ByteArray) {i:Nat} (hi:i<s.size) (h:s[i].toNat=34):shp (s.data.toList.drop i) =
    if ((s.data.toList.drop (i+1)).drop (run isQ (s.data.toList.drop (i+1)))).head? = some 34 then (4,run isQ (s.data.toList.drop (i+1))+2) else (0,1):=by
 have hL:isL s[i]=false:=by unfold isL;rw [h];decide
 have hD:isD s[i]=false:=by
  cases hd:isD s[i]
  ·rfl
  have:=(dZ _).1 hd;omega
 have h4:isS s[i]=false:=by unfold isS;rw [h];decide
 rw [cO s hi,bA,hL,hD];simp only [Bool.false_eq_true,if_false,h,true_and];split
 ·rfl
 exact GK (by omega) (by omega) (by omega) h4 _
theorem Ga {l:List UInt8} {n:Nat} (h:n+2≤l.length):cont 4 (l.take (n+2))=(l.drop 1).take n:=by
 unfold cont;rw [if_pos rfl,List.length_take,show min (n+2) l.length - 2=n by omega,List.drop_take,List.take_take];congr 1;omega
theorem lM (c:Nat) (w:World):Calls Tryz.prog 216 #[.int .u8 (c:Nat)] w fun e w' => e=.returned (.bool (decide (48≤c) && decide (c≤57)))∧w'=w:=by
 go_enter Tryz.func216,Tryz.ntmps216
 go_wp2
 all_goals go_ret
 all_goals refine ⟨congrArg (fun b=>Ending.returned (Value.bool b)) ?_,rfl⟩
 all_goals (rw [Bool.eq_iff_iff];simp;omega)
theorem nR (c:UInt8) (w:World):Calls Tryz.prog 216 #[.int .u8 (c.toNat:Nat)] w fun e w' => e=.returned (.bool (isD c))∧w'=w:=lM c.toNat w
theorem Iz (s:ByteArray) {p:Nat} (hp:p<s.size):dgn (s.data.toList.drop p)=if isD s[p] then dgn (s.data.toList.drop (p+1))+1 else 0:=by
 have h:p<s.data.toList.length:=by rw [← Lib.size_eq];exact hp
 rw [List.drop_eq_getElem_cons h];rfl
theorem Mt (s:ByteArray) {p:Nat} (hp:s.size≤p):dgn (s.data.toList.drop p)=0:=by
 rw [List.drop_eq_nil_of_le (by rw [← Lib.size_eq];exact hp)];rfl
theorem mU (s:ByteArray) (hs:s.size≤1048576) (p:Nat) (hp:p≤s.size) (w:World):Calls Tryz.prog 249 #[.string s,.int .i64 (p:Nat)] w fun e w' => e=.returned (.int .i64 (dgn (s.data.toList.drop p):Nat))∧w'=w:=by
 go_enter Tryz.func249,Tryz.ntmps249
 go_wp2_with fail
 go_loopw [5] (fun x wr => ∃ i:Nat,x=.int .i64 (i:Nat)∧p+i≤s.size∧Hid (dgn (s.data.toList.drop p)=i+dgn (s.data.toList.drop (p+i)))∧wr=w) (fun x _=>s.size - (intOf x).toNat)
 case atStart=>exact ⟨0,rfl,by omega,by unfold Hid;rw [Nat.add_zero,Nat.zero_add],rfl⟩
 case round =>
  obtain ⟨i,rfl,hi,hd,rfl⟩:=hrel;by_cases hc:p+i<s.size
  ·have hst:=Iz s hc;have C:=Hy (nR s[p+i] wr);have HST:=Hy hst;clear hst;cases hy:isD s[p+i]
   ·rw [hy] at C HST;have HD:Hid (dgn (s.data.toList.drop p)=i):=by unfold Hid;rw [hd.o,HST.o];rfl
    clear hy hd HST;go_wp2_with (go_at_call 216;refine (C.o).mono ?_;rintro e w' ⟨rfl,rfl⟩);go_ret;exact ⟨by rw [HD.o];rfl,rfl⟩
   rw [hy] at C HST;have HD:Hid (dgn (s.data.toList.drop p)=i+1+dgn (s.data.toList.drop (p+(i+1)))):=by
    unfold Hid;rw [hd.o,HST.o,if_pos rfl,Nat.add_assoc p i 1];omega
   clear hy hd HST;go_wp2_with (go_at_call 216;refine (C.o).mono ?_;rintro e w' ⟨rfl,rfl⟩);refine ⟨⟨i+1,rfl,by omega,HD,trivial⟩,?_⟩;show s.size - ((i:Int)+1).toNat<s.size - ((i:Nat):Int).toNat;omega
  have hz:=Mt s (p:=p+i) (by omega);have HD:Hid (dgn (s.data.toList.drop p)=i):=by unfold Hid;rw [hd.o,hz,Nat.add_zero]
  have hlt:decide ((p:Int)+(i:Int)<(s.size:Int))=false:=dF (by omega);clear hz hc hd;go_wp2_with fail;go_ret;exact ⟨by rw [HD.o];rfl,rfl⟩
theorem c46 (c:UInt8):decide (c=46)=decide (c.toNat=46):=by
 by_cases h:c=46
 ·subst h;rfl
 rw [dF h];exact (dF (fun e=>h (UInt8.toNat_inj.1 e))).symm
theorem Bd (s:ByteArray) (h:0<s.size):s.data.toList.head? = some s[0]:=by
 have h':0<s.data.toList.length:=by rw [← Lib.size_eq];exact h
 rw [List.head?_eq_getElem?,List.getElem?_eq_getElem h'];rfl
theorem IV (s:ByteArray):(∃ h:0<s.size,s[0].toNat=45∧atP s.data.toList=1)∨((∃ h:0<s.size,s[0].toNat≠45)∧atP s.data.toList=0)∨(s.size=0∧atP s.data.toList=0):=by
 unfold atP;by_cases h:0<s.size
 ·rw [Bd s h];by_cases e:s[0].toNat=45
  ·refine .inl ⟨h,e,?_⟩;rw [if_pos];congr 1;exact UInt8.toNat_inj.1 e
  refine .inr (.inl ⟨⟨h,e⟩,?_⟩);rw [if_neg];intro e';injection e' with e'
  rw [e'] at e;exact e rfl
 refine .inr (.inr ⟨by omega,?_⟩);have:s.data.toList=[]:=List.eq_nil_of_length_eq_zero (by rw [← Lib.size_eq];omega);rw [this];rfl
theorem yI (s:ByteArray) {p:Nat} (h:p<s.size):s.data.toList.getD p 0=s[p]:=by
 have h':p<s.data.toList.length:=by rw [← Lib.size_eq];exact h
 rw [List.getD_eq_getElem?_getD,List.getElem?_eq_getElem h'];rfl
theorem Im (s:ByteArray) (hs:s.size≤1048576) (w:World) (h0:0<s.size) (h45:s[0].toNat=45) (ha:atP s.data.toList=1):Calls Tryz.prog 215 #[.string s] w fun e w' => e=.returned (.bool (fO s.data.toList))∧w'=w:=by
 have e45:(((s[0].toNat:Nat):Int)==45)=true:=by rw [beq_iff_eq];omega
 obtain ⟨F,hF⟩:∃ F,fO s.data.toList=F:=⟨_,rfl⟩;rw [hF];unfold fO at hF;rw [ha] at hF;have C1:=Hy (fun w=>mU s hs 1 (by omega) w);have hn1:=oZ (s.data.toList.drop 1);rw [List.length_drop,← Lib.size_eq] at hn1;rw [← Lib.size_eq] at hF;generalize dgn (s.data.toList.drop 1)=n1 at *;by_cases z1:n1=0
 ·subst z1;rw [if_pos rfl] at hF;subst hF;clear hn1 ha
  go_enter Tryz.func215,Tryz.ntmps215
  go_wp2_with fail;refine (C1.o _).mono ?_;rintro e w' ⟨rfl,rfl⟩;go_wp2_with fail;go_ret;exact ⟨rfl,rfl⟩
 rw [if_neg z1] at hF;have z1':((n1:Int)==0)=false:=by rw [beq_eq_false_iff_ne];omega
 by_cases z2:1+n1=s.size
 ·rw [if_pos z2] at hF;subst hF;have z2':((1:Int)+(n1:Int)==(s.size:Int))=true:=by rw [beq_iff_eq];omega
  clear hn1 ha
  go_enter Tryz.func215,Tryz.ntmps215
  go_wp2_with fail;refine (C1.o _).mono ?_;rintro e w' ⟨rfl,rfl⟩;go_wp2_with fail;go_ret;exact ⟨rfl,rfl⟩
 rw [if_neg z2,yI s (p:=1+n1) (by omega),c46] at hF;have C2:=Hy (fun w=>mU s hs (1+n1+1) (by omega) w);have hn2:=oZ (s.data.toList.drop (1+n1+1));rw [List.length_drop,← Lib.size_eq] at hn2;generalize dgn (s.data.toList.drop (1+n1+1))=n2 at *;have z2':((1:Int)+(n1:Int)==(s.size:Int))=false:=by rw [beq_eq_false_iff_ne];omega
 have HF:=Hy hF;clear hF ha
 go_enter Tryz.func215,Tryz.ntmps215
 go_wp2_with fail;refine (C1.o _).mono ?_;rintro e w' ⟨rfl,rfl⟩;go_wp2_with fail;refine (C2.o _).mono ?_;rintro e w' ⟨rfl,rfl⟩;go_wp2_with fail
 all_goals go_ret
 all_goals refine ⟨congrArg (fun b=>Ending.returned (Value.bool b)) ?_,rfl⟩
 all_goals (rw [← HF.o,Bool.eq_iff_iff];simp;omega)
theorem Io (s:ByteArray) (hs:s.size≤1048576) (w:World) (h0:0<s.size) (h45:s[0].toNat≠45) (ha:atP s.data.toList=0):Calls Tryz.prog 215 #[.string s] w fun e w' => e=.returned (.bool (fO s.data.toList))∧w'=w:=by
 have e45:((((s[0].toNat:Nat):Int))==45)=false:=by rw [beq_eq_false_iff_ne];omega
 obtain ⟨F,hF⟩:∃ F,fO s.data.toList=F:=⟨_,rfl⟩;rw [hF];unfold fO at hF;rw [ha] at hF;have C1:=Hy (fun w=>mU s hs 0 (by omega) w);have hn1:=oZ (s.data.toList.drop 0);rw [List.length_drop,← Lib.size_eq] at hn1;rw [← Lib.size_eq] at hF;generalize dgn (s.data.toList.drop 0)=n1 at *;simp only [Nat.zero_add] at hF;by_cases z1:n1=0
 ·subst z1;rw [if_pos rfl] at hF;subst hF;clear hn1 ha
  go_enter Tryz.func215,Tryz.ntmps215
  go_wp2_with fail;refine (C1.o _).mono ?_;rintro e w' ⟨rfl,rfl⟩;go_wp2_with fail;go_ret;exact ⟨rfl,rfl⟩
 rw [if_neg z1] at hF;have z1':((n1:Int)==0)=false:=by rw [beq_eq_false_iff_ne];omega
 by_cases z2:n1=s.size
 ·rw [if_pos z2] at hF;subst hF;have z2':((n1:Int)==(s.size:Int))=true:=by rw [beq_iff_eq];omega
  clear hn1 ha
  go_enter Tryz.func215,Tryz.ntmps215
  go_wp2_with fail;refine (C1.o _).mono ?_;rintro e w' ⟨rfl,rfl⟩;go_wp2_with fail;go_ret;exact ⟨rfl,rfl⟩
 rw [if_neg z2,yI s (p:=n1) (by omega),c46] at hF;have C2:=Hy (fun w=>mU s hs (n1+1) (by omega) w);have hn2:=oZ (s.data.toList.drop (n1+1));rw [List.length_drop,← Lib.size_eq] at hn2;generalize dgn (s.data.toList.drop (n1+1))=n2 at *;have z2':((n1:Int)==(s.size:Int))=false:=by rw [beq_eq_false_iff_ne];omega
 have HF:=Hy hF;clear hF ha
 go_enter Tryz.func215,Tryz.ntmps215
 go_wp2_with fail;refine (C1.o _).mono ?_;rintro e w' ⟨rfl,rfl⟩;go_wp2_with fail;refine (C2.o _).mono ?_;rintro e w' ⟨rfl,rfl⟩;go_wp2_with fail
 all_goals go_ret
 all_goals refine ⟨congrArg (fun b=>Ending.returned (Value.bool b)) ?_,rfl⟩
 all_goals (rw [← HF.o,Bool.eq_iff_iff];simp;omega)
theorem nN (s:ByteArray) (hs:s.size≤1048576) (w:World):Calls Tryz.prog 215 #[.string s] w fun e w' => e=.returned (.bool (fO s.data.toList))∧w'=w:=by
 rcases IV s with ⟨h0,h45,ha⟩ | ⟨⟨h0,h45⟩,ha⟩ | ⟨h0,ha⟩
 ·exact Im s hs w h0 h45 ha
 ·exact Io s hs w h0 h45 ha
 have h1:s.data.toList=[]:=List.eq_nil_of_length_eq_zero (by rw [← Lib.size_eq];omega);have hF:fO s.data.toList=false:=by rw [h1];rfl
 rw [hF];have C1:=Hy (fun w=>mU s hs 0 (by omega) w);rw [h1] at C1;replace C1:Hid (∀ w,Calls Tryz.prog 249 #[.string s,.int .i64 0] w fun e w' => e=.returned (.int .i64 0)∧w'=w):=C1;clear h1 hF ha;have h0':decide ((0:Int)<(s.size:Int))=false:=dF (by omega)
 go_enter Tryz.func215,Tryz.ntmps215
 go_wp2_with fail;refine (C1.o _).mono ?_;rintro e w' ⟨rfl,rfl⟩;go_wp2_with fail;go_ret;exact ⟨rfl,rfl⟩
theorem Gx (s:ByteArray) {j:Nat} (hj:j<s.size) (q:Nat × Int):(s.data.toList.drop j).foldl stp q=(s.data.toList.drop (j+1)).foldl stp (stp q s[j]):=by
 have h:j<s.data.toList.length:=by rw [← Lib.size_eq];exact hj
 rw [List.drop_eq_getElem_cons h];rfl
theorem Ip {s:ByteArray} (h:fO s.data.toList=true):0<s.size:=by
 rcases Nat.eq_zero_or_pos s.size with h0 | h0
 ·have:s.data.toList=[]:=List.eq_nil_of_length_eq_zero (by rw [← Lib.size_eq];omega);rw [this] at h;cases h
 exact h0
theorem JV {c:UInt8} (h:c.toNat=46) (X:Nat) (B:Int):stp (X,B) c=(X,0)∧isD c=false:=by
 have e:c=46:=UInt8.toNat_inj.1 h;subst e;exact ⟨rfl,rfl⟩
theorem JW {c:UInt8} (h:isD c=true) (X:Nat) (B:Int):stp (X,B) c=(sat X (c.toNat - 48),if 0≤B then B+1 else B):=by
 have h1:=(dZ c).1 h;have e:¬ c=46:=fun e=>by rw [e] at h1;exact absurd h1.1 (by decide)
 unfold stp;simp only [e,h,if_true,if_false]
theorem Gw {c:UInt8} (h:isD c=false) (h2:c.toNat≠46) (X:Nat) (B:Int):stp (X,B) c=(X,B):=by
 have e:¬ c=46:=fun e=>h2 (by rw [e];rfl);unfold stp;simp [e,h]
theorem zh (s:ByteArray) (hs:s.size≤1048576) (w:World) (nN:∀ w,Calls Tryz.prog 215 #[.string s] w fun e w' => e=.returned (.bool (fO s.data.toList))∧w'=w):Calls Tryz.prog 180 #[.string s] w fun e w' => e=.returned (.tuple #[.int .i64 (rpP s.data.toList).1,.int .i64 (rpP s.data.toList).2])∧w'=w:=by
 have C0:=Hy nN;cases hF:fO s.data.toList
 ·rw [hF] at C0;have hR:rpP s.data.toList=(0,3):=by unfold rpP;rw [hF];rfl
  rw [hR];clear hR hF
  go_enter Tryz.func180,Tryz.ntmps180
  go_wp2_with fail;refine (C0.o _).mono ?_;rintro e w' ⟨rfl,rfl⟩;go_wp2_with fail
  go_ret2
  exact ⟨rfl,rfl⟩
 rw [hF] at C0;have hpos:=Ip hF;have hR:rpP s.data.toList=jZ s.data.toList (scl (6 - (max (s.data.toList.foldl stp (0,-1)).2 0).toNat) (s.data.toList.foldl stp (0,-1)).1):=by unfold rpP;rw [hF];rfl
 rw [hR];clear hR hF;obtain ⟨⟨XE,BE⟩,hE⟩:∃ q,s.data.toList.foldl stp (0,-1)=q:=⟨_,rfl⟩;rw [hE];obtain ⟨Z,hZ⟩:∃ Z,scl (6 - (max BE 0).toNat) XE=Z:=⟨_,rfl⟩;rw [show scl (6 - (max ((XE,BE):Nat × Int).2 0).toNat) ((XE,BE):Nat × Int).1=Z from hZ];obtain ⟨⟨r1,r2⟩,hr⟩:∃ r,jZ s.data.toList Z=r:=⟨_,rfl⟩;rw [hr];have HR:=Hy hr;have HZ:=Hy hZ;have HE:=Hy hE;clear hE hZ hr
 go_enter Tryz.func180,Tryz.ntmps180
 go_wp2_with fail;refine (C0.o _).mono ?_;rintro e w' ⟨rfl,rfl⟩;clear C0;go_wp2_with fail
 go_loopw [4,5,6] (fun vx vb vi wr => ∃ (j X:Nat) (B:Int),j≤s.size∧X≤1152921504606846977∧-1≤B∧B≤j∧vx=.int .i64 (X:Nat)∧vb=.int .i64 B∧vi=.int .i64 (j:Nat)∧Hid ((s.data.toList.drop j).foldl stp (X,B)=(XE,BE))∧wr=w') (fun _ _ vi _=>s.size - (intOf vi).toNat)
 case atStart=>exact ⟨0,0,-1,by omega,by omega,by omega,by omega,rfl,rfl,rfl,HE.o,rfl⟩
 case round =>
  obtain ⟨j,X,B,hj,hX,hB1,hB2,rfl,rfl,rfl,hd,rfl⟩:=hrel;by_cases hc:j<s.size
  ·have hst:=Gx s hc (X,B);rw [hd.o] at hst;by_cases h46:s[j].toNat=46
   ·obtain ⟨e1,e2⟩:=JV h46 X B;rw [e1] at hst;have HD:=Hy hst.symm;have C:=Hy (fun w=>lM 46 w);rw [show (decide (48≤46) && decide (46≤57))=false from rfl] at C;clear hst e1 e2 hd;go_wp2_with (go_at_call 216;refine (C.o _).mono ?_;rintro e w' ⟨rfl,rfl⟩);refine ⟨⟨j+1,X,0,by omega,hX,by omega,by omega,rfl,rfl,rfl,HD,trivial⟩,?_⟩;show s.size - ((j:Int)+1).toNat<s.size - ((j:Nat):Int).toNat;omega
   cases hy:isD s[j]
   ·have e1:=Gw hy h46 X B;rw [e1] at hst;have HD:=Hy hst.symm;have C:=Hy (fun w=>nR s[j] w);rw [hy] at C;have t46:(((s[j].toNat:Nat):Int)==46)=false:=by rw [beq_eq_false_iff_ne];omega
    clear hst e1 hd hy;go_wp2_with (go_at_call 216;refine (C.o _).mono ?_;rintro e w' ⟨rfl,rfl⟩);refine ⟨⟨j+1,X,B,by omega,hX,hB1,by omega,rfl,rfl,rfl,HD,trivial⟩,?_⟩;show s.size - ((j:Int)+1).toNat<s.size - ((j:Nat):Int).toNat;omega
   have e1:=JW hy X B;rw [e1] at hst;have HD:=Hy hst.symm;have C:=Hy (fun w=>nR s[j] w);rw [hy] at C;have hd2:=(dZ _).1 hy;have t46:(((s[j].toNat:Nat):Int)==46)=false:=by rw [beq_eq_false_iff_ne];omega
   clear hst e1 hd hy;by_cases b0:0≤B
   ·rw [if_pos b0] at HD;go_wp2_with (go_at_call 216;refine (C.o _).mono ?_;rintro e w' ⟨rfl,rfl⟩);refine ⟨⟨j+1,sat X (s[j].toNat - 48),B+1,by omega,rR _ _,by omega,by omega,congrArg (Value.int .i64) (by unfold sat;omega),rfl,rfl,HD,trivial⟩,?_⟩;show s.size - ((j:Int)+1).toNat<s.size - ((j:Nat):Int).toNat;omega
   rw [if_neg b0] at HD;go_wp2_with (go_at_call 216;refine (C.o _).mono ?_;rintro e w' ⟨rfl,rfl⟩);refine ⟨⟨j+1,sat X (s[j].toNat - 48),B,by omega,rR _ _,by omega,by omega,congrArg (Value.int .i64) (by unfold sat;omega),rfl,rfl,HD,trivial⟩,?_⟩;show s.size - ((j:Int)+1).toNat<s.size - ((j:Nat):Int).toNat;omega
  have hz:(s.data.toList.drop j).foldl stp (X,B)=(X,B):=by rw [List.drop_eq_nil_of_le (by rw [← Lib.size_eq];omega)];rfl
  rw [hd.o] at hz;obtain ⟨rfl,rfl⟩:XE=X∧BE=B:=by simpa using hz
  clear hz hd HE;have hlt:decide ((j:Int)<(s.size:Int))=false:=dF (by omega);obtain ⟨K,hK⟩:∃ K:Nat,max BE 0=(K:Int):=⟨(max BE 0).toNat,by omega⟩;have hZ:=HZ.o;rw [hK,Int.toNat_natCast] at hZ;have hZl:=Em (6 - K) XE hX;rw [hZ] at hZl;have HZ:=Hy hZ;have hK2:K≤1048576:=by omega
  clear hZ;go_wp2_with fail
  go_loopw [4,7] (fun vx vi wr2 => ∃ (k Y:Nat),k≤1048576∧Y≤1152921504606846977∧vx=.int .i64 (Y:Nat)∧vi=.int .i64 (k:Nat)∧Hid (scl (6 - k) Y=Z)∧wr2=wr) (fun _ vi _=>6 - (intOf vi).toNat)
  case atStart=>exact ⟨K,XE,hK2,hX,rfl,rfl,HZ.o,rfl⟩
  case round =>
   obtain ⟨k,Y,hk,hY,rfl,rfl,hd,rfl⟩:=hrel;by_cases hc:k<6
   ·have HD:Hid (scl (6 - (k+1)) (sat Y 0)=Z):=by
     unfold Hid;rw [← hd.o,show 6 - k=(6 - (k+1))+1 by omega];rfl
    clear hd;have hlt6:decide ((k:Int)<6)=true:=dT (by omega);go_wp2_with fail;refine ⟨⟨k+1,sat Y 0,by omega,rR _ _,congrArg (Value.int .i64) (by unfold sat;omega),rfl,HD,trivial⟩,?_⟩;show 6 - ((k:Int)+1).toNat<6 - ((k:Nat):Int).toNat;omega
   have hYZ:Y=Z:=by
    rw [← hd.o,show 6 - k=0 by omega];rfl
   subst hYZ;clear hd HZ;have hlt6:decide ((k:Int)<6)=false:=dF (by omega);by_cases hbig:1152921504606846976<Y
   ·have hr:=HR.o;unfold jZ at hr;rw [if_pos hbig] at hr;obtain ⟨rfl,rfl⟩:(0:Int)=r1∧(2:Int)=r2:=by simpa using hr
    have hb:decide ((1152921504606846976:Int)<(Y:Int))=true:=dT (by omega);clear hr;go_wp2_with fail
    go_ret2
    exact ⟨rfl,rfl⟩
   have hr:=HR.o;unfold jZ at hr;rw [if_neg hbig,Bd s hpos] at hr;have hb:decide ((1152921504606846976:Int)<(Y:Int))=false:=dF (by omega);by_cases h45:s[0].toNat=45
   ·rw [if_pos (congrArg some (UInt8.toNat_inj.1 h45))] at hr;obtain ⟨rfl,rfl⟩ : -(Y:Int)=r1∧(0:Int)=r2:=by simpa using hr
    clear hr;go_wp2_with fail
    go_ret2
    exact ⟨rfl,rfl⟩
   rw [if_neg (fun e=>h45 (by injection e with e;rw [e];rfl))] at hr;obtain ⟨rfl,rfl⟩:(Y:Int)=r1∧(0:Int)=r2:=by simpa using hr
   have t45:(((s[0].toNat:Nat):Int)==45)=false:=by rw [beq_eq_false_iff_ne];omega
   clear hr;go_wp2_with fail
   go_ret2
   exact ⟨rfl,rfl⟩
theorem oK (s:ByteArray) (hs:s.size≤1048576) (w:World):Calls Tryz.prog 180 #[.string s] w fun e w' => e=.returned (.tuple #[.int .i64 (rpP s.data.toList).1,.int .i64 (rpP s.data.toList).2])∧w'=w :=
 zh s hs w (fun w=>nN s hs w)
theorem yt (s:ByteArray) {i:Nat} (hi:i<s.size) (h:isD s[i]=true) {n:Nat} (hn:run isD (s.data.toList.drop i)=n) :
    1≤n∧i+n≤s.size ∧
    ((∃ m,1≤m∧i+n+1+m≤s.size∧(∃ hc:i+n<s.size,s[i+n].toNat=46)∧run isD (s.data.toList.drop (i+n+1))=m∧shp (s.data.toList.drop i)=(3,n+1+m)∧(rpP ((s.data.toList.drop i).take (n+1+m))).2=flt 3 ((s.data.toList.drop i).take (n+1+m))) ∨
     (shp (s.data.toList.drop i)=(2,n)∧(∀ c ∈ (s.data.toList.drop i).take n,isD c=true)∧((∃ hc:i+n<s.size,s[i+n].toNat=46∧run isD (s.data.toList.drop (i+n+1))=0)∨(∃ hc:i+n<s.size,s[i+n].toNat≠46)∨¬ i+n<s.size))):=by
 have hL:isL s[i]=false:=by
  have:=(dZ _).1 h;unfold isL;rw [dF (by omega),Bool.false_and]
 have hsh:shp (s.data.toList.drop i)=if pnt ((s.data.toList.drop i).drop n)=0 then (2,n) else (3,n+1+pnt ((s.data.toList.drop i).drop n)):=by
  rw [← hn]
  conv=>lhs;rw [cO s hi,bA,hL,h]
  simp only [Bool.false_eq_true,if_false,if_true];rw [← cO s hi]
 have h1:1≤n:=by rw [← hn,gU isD s hi,if_pos h];omega
 have h2:i+n≤s.size:=by rw [← hn];exact eB isD s (Nat.le_of_lt hi)
 have hall:=ko isD (s.data.toList.drop i);rw [hn] at hall;rw [List.drop_drop] at hsh;refine ⟨h1,h2,?_⟩;by_cases hc:i+n<s.size
 ·have hp:pnt (s.data.toList.drop (i+n))=if s[i+n].toNat=46 then run isD (s.data.toList.drop (i+n+1)) else 0:=by
   rw [cO s hc,gV]
  by_cases h46:s[i+n].toNat=46
  ·rw [if_pos h46] at hp;obtain ⟨m,hm⟩:∃ m,run isD (s.data.toList.drop (i+n+1))=m:=⟨_,rfl⟩;rw [hm] at hp;rw [hp] at hsh;by_cases h0:m=0
   ·subst h0;rw [if_pos rfl] at hsh;exact .inr ⟨hsh,hall,.inl ⟨hc,h46,hm⟩⟩
   rw [if_neg h0] at hsh;have h3:=eB isD s (i:=i+n+1) (by omega);rw [hm] at h3;have hd:=IG (l:=s.data.toList.drop i) (by rw [hsh]);rw [hsh] at hd;exact .inl ⟨m,by omega,h3,⟨hc,h46⟩,hm,hsh,hd⟩
  rw [if_neg h46] at hp;rw [hp,if_pos rfl] at hsh;exact .inr ⟨hsh,hall,.inr (.inl ⟨hc,h46⟩)⟩
 have hp:pnt (s.data.toList.drop (i+n))=0:=by
  rw [List.drop_eq_nil_of_le (by rw [aM];omega)];rfl
 rw [hp,if_pos rfl] at hsh;exact .inr ⟨hsh,hall,.inr (.inr hc)⟩
theorem lN {k:Int} (h:k≠4) (p:List UInt8):cont k p=p:=by unfold cont;rw [if_neg h]
theorem zk (a0:Option Addr) (n0 cap:Nat) (s:ByteArray) (hs:s.size≤1048576) (i:Nat) (hi:i<s.size) (hd:isD s[i]=true) (w:World) (hS:Bs w a0 n0 cap s) :
    Calls Tryz.prog 138 #[.slice a0 n0 cap,.int .i64 (i:Nat)] w fun e w' => TkA w w' e (s.data.toList.drop i) i:=by
 have hn0:=hS.hn;subst hn0;obtain ⟨b,off,rfl,_⟩:=hS.at hi;obtain ⟨n,hn⟩:∃ n,run isD (s.data.toList.drop i)=n:=⟨_,rfl⟩;have B0:=Hy (aj (b0 w) (.cells #[.int .i64 0,.string ⟨#[]⟩,.int .i64 0] 69));have S0:=Hy (hS.keeps B0.o);have DC:=Hy (fun j hj W hS=>zq (some ⟨b,off,none⟩) s.size cap s hs j hj W hS);obtain ⟨⟨c0,c1,c2⟩,g0,g1,g2⟩:=tk.Ww.new w ⟨0,⟨#[]⟩,0⟩ 69;obtain ⟨n1,n2,ways⟩:=yt s hi hd hn;have D1:=DC.o i (Nat.le_of_lt hi) _ S0.o;rw [hn] at D1;replace D1:=Hy D1;clear hS hd hn;have f1:wrap64 ((i:Int)+(n:Int))=((i+n:Nat):Int):=by unfold wrap64;omega
 have Z0:=Hy hs;have GR:=Hy (fun (t:ByteArray) h1 h2 W=>Ct t h1 h2 W);have PR:=Hy (fun (t:ByteArray) h1 W=>oK t h1 W);clear hs;rcases ways with ⟨m,m1,m2,⟨hc,h46⟩,hm,hsh,hdc⟩ | ⟨hsh,hall,hw⟩
 ·have hi2:i+(n+1+m)=i+n+1+m:=by clear f1;omega
  obtain ⟨a2,c3,SL0,hcut⟩:=S0.o.cut (i:=i) (m:=n+1+m) (by rw [hi2];exact m2);have het:=eU s i (n+1+m);have hsz:=ext_size s (a:=i) (n:=n+1+m) (by rw [hi2];exact m2);rw [hi2] at SL0 hcut het hsz;have SL:∀ W,(Instr.slice 22 (.slice (some ⟨b,off,none⟩) s.size cap) (some (.int .i64 (i:Nat))) (some (.int .i64 ((i:Int)+(n:Int)+1+(m:Int)))) none).run Tryz.prog W=.ok (.slice a2 (n+1+m) c3) W:=SL0;have CV:=hcut.str;have D2:=DC.o (i+n+1) (by clear f1;omega) _ S0.o;rw [hm] at D2;have D3:=Hy (show Calls Tryz.prog 179 #[.slice (some ⟨b,off,none⟩) s.size cap,.int .i64 ((i:Int)+(n:Int)+1)] (w.alloc (.cells #[.int .i64 0,.string ⟨#[]⟩,.int .i64 0] 69)) (fun e w' => e=.returned (.int .i64 (m:Nat))∧w'=(w.alloc (.cells #[.int .i64 0,.string ⟨#[]⟩,.int .i64 0] 69))) from D2);obtain ⟨b',off',hab,hB⟩:=S0.o.at hc;cases hab;rw [h46] at hB;obtain ⟨t,ht⟩:∃ t,s.extract i (i+n+1+m)=t:=⟨_,rfl⟩;rw [ht] at CV het hsz;have P1:=PR.o t (by rw [hsz];have:=Z0.o;clear f1;omega) (w.alloc (.cells #[.int .i64 0,.string ⟨#[]⟩,.int .i64 0] 69));rw [het,hdc] at P1;replace P1:=Hy P1;obtain ⟨c,hcc⟩:∃ c,flt 3 ((s.data.toList.drop i).take (n+1+m))=c:=⟨_,rfl⟩;rw [hcc] at P1;have hcx:=Hy (show (⟨(cont 3 ((s.data.toList.drop i).take (n+1+m))).toArray⟩:ByteArray)=t by rw [lN (by decide),← het]);replace hsh:=Hy hsh;replace hcc:=Hy hcc;replace hsz:=Hy hsz;generalize (rpP ((s.data.toList.drop i).take (n+1+m))).1=y at *;have q1:decide (((i+n:Nat):Int)<(s.size:Int))=true:=dT (by clear f1;omega);have q2:decide (i+n<s.size)=true:=dT hc;have q3:decide ((0:Int)<(m:Int))=true:=dT (by clear f1;omega);have q4:decide (0<m)=true:=dT (by clear f1;omega);have f2:wrap64 ((i:Int)+(n:Int)+1)=(i:Int)+(n:Int)+1:=by have:=Z0.o;clear f1;unfold wrap64;omega
  have f3:wrap64 ((i:Int)+(n:Int)+1+(m:Int))=(i:Int)+(n:Int)+1+(m:Int):=by have:=Z0.o;clear f1 f2;unfold wrap64;omega
  clear D2 DC GR PR hm h46 hdc het ht SL0 hcut hi2
  go_enter Tryz.func138,Tryz.ntmps138
  go_wp2_with fail;refine D1.o.mono ?_;rintro e w1 ⟨rfl,rfl⟩;go_wp2_with fail;refine D3.o.mono ?_;rintro e w1 ⟨rfl,rfl⟩;go_wp2_with fail;refine P1.o.mono ?_;rintro e w1 ⟨rfl,rfl⟩;go_wp2_with fail;simp [bodyPost,results,Tryz.results138,go_sem];exact TkA.mk (m:=n+1+m) hsh.o (by rw [if_neg (by decide)]) hcc.o ⟨3,t,(i:Nat)⟩ (by rw [hsz.o]) (fun _=>by rw [hcx.o]) (aj (b0 w) _)
 obtain ⟨a2,c3,SL0,hcut⟩:=S0.o.cut (i:=i) (m:=n) n2;have het:=eU s i n;have hsz:=ext_size s (a:=i) (n:=n) n2;have SL:∀ W,(Instr.slice 22 (.slice (some ⟨b,off,none⟩) s.size cap) (some (.int .i64 (i:Nat))) (some (.int .i64 ((i:Int)+(n:Int)))) none).run Tryz.prog W=.ok (.slice a2 n c3) W:=SL0;have CV:=hcut.str;obtain ⟨t,ht⟩:∃ t,s.extract i (i+n)=t:=⟨_,rfl⟩;rw [ht] at CV het hsz;have G1:=GR.o t (by rw [hsz];have:=Z0.o;clear f1;omega) (by rw [het];exact hall) (w.alloc (.cells #[.int .i64 0,.string ⟨#[]⟩,.int .i64 0] 69));have hfl:=uI ((s.data.toList.drop i).take n);rw [het] at G1;have hcx:=Hy (show (⟨(cont 2 ((s.data.toList.drop i).take n)).toArray⟩:ByteArray)=t by rw [lN (by decide),← het]);replace hsh:=Hy hsh;have HF:∃ g c,decide (1152921504606846976<dval 0 ((s.data.toList.drop i).take n))=g∧flt 2 ((s.data.toList.drop i).take n)=c∧((g=true∧c=2)∨(g=false∧c=0)):=by
  refine ⟨_,_,rfl,rfl,?_⟩;rw [hfl];by_cases hg:1152921504606846976<dval 0 ((s.data.toList.drop i).take n)
  ·exact .inl ⟨dT hg,if_pos hg⟩
  exact .inr ⟨dF hg,if_neg hg⟩
 obtain ⟨g,c,hg,hcc,hgc⟩:=HF;rw [hg] at G1;replace G1:=Hy G1;replace hcc:=Hy hcc;clear GR PR het ht SL0 hcut hall hfl hg hsz;rcases hw with ⟨hc,h46,hm⟩ | ⟨hc,h46⟩ | hc
 ·have D2:=DC.o (i+n+1) (by clear f1;omega) _ S0.o;rw [hm] at D2;have D3:=Hy (show Calls Tryz.prog 179 #[.slice (some ⟨b,off,none⟩) s.size cap,.int .i64 ((i:Int)+(n:Int)+1)] (w.alloc (.cells #[.int .i64 0,.string ⟨#[]⟩,.int .i64 0] 69)) (fun e w' => e=.returned (.int .i64 (0:Nat))∧w'=(w.alloc (.cells #[.int .i64 0,.string ⟨#[]⟩,.int .i64 0] 69))) from D2);obtain ⟨b',off',hab,hB⟩:=S0.o.at hc;cases hab;rw [h46] at hB;have q1:decide (((i+n:Nat):Int)<(s.size:Int))=true:=dT (by clear f1;omega);have q2:decide (i+n<s.size)=true:=dT hc;have f2:wrap64 ((i:Int)+(n:Int)+1)=(i:Int)+(n:Int)+1:=by have:=Z0.o;clear f1;unfold wrap64;omega
  clear D2 DC hm h46
  go_enter Tryz.func138,Tryz.ntmps138
  go_wp2_with fail;refine D1.o.mono ?_;rintro e w1 ⟨rfl,rfl⟩;go_wp2_with fail;refine D3.o.mono ?_;rintro e w1 ⟨rfl,rfl⟩;go_wp2_with fail;refine G1.o.mono ?_;rintro e w1 ⟨rfl,rfl⟩;rcases hgc with ⟨rfl,rfl⟩ | ⟨rfl,rfl⟩
  ·go_wp2_with fail;simp [bodyPost,results,Tryz.results138,go_sem];exact TkA.mk (m:=n) hsh.o (by rw [if_neg (by decide)]) hcc.o ⟨0,⟨#[]⟩,0⟩ rfl (fun h=>by cases h) (aj (b0 w) _)
  go_wp2_with fail;simp [bodyPost,results,Tryz.results138,go_sem];exact TkA.mk (m:=n) hsh.o (by rw [if_neg (by decide)]) hcc.o ⟨2,t,(i:Nat)⟩ rfl (fun _=>by rw [hcx.o]) (aj (b0 w) _)
 ·obtain ⟨b',off',hab,hB⟩:=S0.o.at hc;cases hab;have e46:(((s[i+n].toNat:Nat):Int)==46)=false:=by rw [beq_eq_false_iff_ne];clear f1;omega
  have q1:decide (((i+n:Nat):Int)<(s.size:Int))=true:=dT (by clear f1;omega);have q2:decide (i+n<s.size)=true:=dT hc;clear h46 DC;generalize ((s[i+n].toNat:Nat):Int)=x at *
  go_enter Tryz.func138,Tryz.ntmps138
  go_wp2_with fail;refine D1.o.mono ?_;rintro e w1 ⟨rfl,rfl⟩;go_wp2_with fail;refine G1.o.mono ?_;rintro e w1 ⟨rfl,rfl⟩;rcases hgc with ⟨rfl,rfl⟩ | ⟨rfl,rfl⟩
  ·go_wp2_with fail;simp [bodyPost,results,Tryz.results138,go_sem];exact TkA.mk (m:=n) hsh.o (by rw [if_neg (by decide)]) hcc.o ⟨0,⟨#[]⟩,0⟩ rfl (fun h=>by cases h) (aj (b0 w) _)
  go_wp2_with fail;simp [bodyPost,results,Tryz.results138,go_sem];exact TkA.mk (m:=n) hsh.o (by rw [if_neg (by decide)]) hcc.o ⟨2,t,(i:Nat)⟩ rfl (fun _=>by rw [hcx.o]) (aj (b0 w) _)
 have q1:decide (((i+n:Nat):Int)<(s.size:Int))=false:=dF (by clear f1;omega);have q2:decide (i+n<s.size)=false:=dF hc;clear DC
 go_enter Tryz.func138,Tryz.ntmps138
 go_wp2_with fail;refine D1.o.mono ?_;rintro e w1 ⟨rfl,rfl⟩;go_wp2_with fail;refine G1.o.mono ?_;rintro e w1 ⟨rfl,rfl⟩;rcases hgc with ⟨rfl,rfl⟩ | ⟨rfl,rfl⟩
 ·go_wp2_with fail;simp [bodyPost,results,Tryz.results138,go_sem];exact TkA.mk (m:=n) hsh.o (by rw [if_neg (by decide)]) hcc.o ⟨0,⟨#[]⟩,0⟩ rfl (fun h=>by cases h) (aj (b0 w) _)
 go_wp2_with fail;simp [bodyPost,results,Tryz.results138,go_sem];exact TkA.mk (m:=n) hsh.o (by rw [if_neg (by decide)]) hcc.o ⟨2,t,(i:Nat)⟩ rfl (fun _=>by rw [hcx.o]) (aj (b0 w) _)
theorem okQ {c:UInt8} (h:isQ c=true):okB 32 c=(decide (32≤c.toNat) && decide (c.toNat≤126) && !decide (c.toNat=92)):=by
 have h1:decide (c.toNat=34)=false:=by
  unfold isQ at h;simp only [Bool.and_eq_true,Bool.not_eq_true',decide_eq_false_iff_not] at h;exact dF h.1
 unfold okB;rw [h1];simp
theorem KR {c:UInt8} (h:isQ c=true) :
    (okB 32 c=true∧decide ((c.toNat:Int)<32)=false∧(32:Int)≤(c.toNat:Int)∧decide (126<(c.toNat:Int))=false∧(c.toNat:Int)≤126∧((c.toNat:Int)==92)=false) ∨
    (okB 32 c=false∧decide ((c.toNat:Int)<32)=true∧(c.toNat:Int)<32) ∨
    (okB 32 c=false∧decide ((c.toNat:Int)<32)=false∧(32:Int)≤(c.toNat:Int)∧decide (126<(c.toNat:Int))=true∧126<(c.toNat:Int)) ∨
    (okB 32 c=false∧decide ((c.toNat:Int)<32)=false∧(32:Int)≤(c.toNat:Int)∧decide (126<(c.toNat:Int))=false∧(c.toNat:Int)≤126∧((c.toNat:Int)==92)=true):=by
 simp only [okQ h,beq_eq_false_iff_ne,beq_iff_eq,decide_eq_true_eq,decide_eq_false_iff_not,Bool.and_eq_true,Bool.and_eq_false_iff,Bool.not_eq_true',Bool.not_eq_false'];omega
theorem zx (s:ByteArray) {i:Nat} (hi:i<s.size) (h:s[i].toNat=34) {R:Nat} (hR:1+run isQ (s.data.toList.drop (i+1))=R) :
    (i+R=s.size∧shp (s.data.toList.drop i)=(0,1))∨(∃ hc:i+R<s.size,(s[i+R].toNat=10∧shp (s.data.toList.drop i)=(0,1)) ∨
      (s[i+R].toNat=34∧shp (s.data.toList.drop i)=(4,R+1)∧(s.extract (i+1) (i+R)).size=R - 1∧(∀ c ∈ (s.extract (i+1) (i+R)).data.toList,isQ c=true)∧cont 4 ((s.data.toList.drop i).take (R+1))=(s.extract (i+1) (i+R)).data.toList)):=by
 have hsh:=Ee s hi h;have hle:=eB isQ s (i:=i+1) (by omega);rw [List.drop_drop] at hsh;have hat:=xR isQ (s.data.toList.drop (i+1));rw [List.drop_drop] at hat;have hall:=ko isQ (s.data.toList.drop (i+1));obtain ⟨r,hr⟩:∃ r,run isQ (s.data.toList.drop (i+1))=r:=⟨_,rfl⟩;rw [hr] at hsh hle hat hR hall;have e1:i+1+r=i+R:=by omega
 rw [e1] at hsh hat hle;by_cases hc:i+R<s.size
 ·right;refine ⟨hc,?_⟩;rw [cO s hc,List.head?_cons] at hsh hat;have hq:=hat _ rfl;by_cases h10:s[i+R].toNat=10
  ·left;rw [if_neg (by intro e;rw [Option.some.injEq] at e;rw [e] at h10;revert h10;decide)] at hsh;exact ⟨h10,hsh⟩
  right;have h34:s[i+R].toNat=34:=by
   unfold isQ at hq;simp only [Bool.and_eq_false_iff,Bool.not_eq_false',decide_eq_true_eq] at hq;omega
  rw [if_pos (by rw [Option.some.injEq];exact UInt8.toNat_inj.1 h34),show r+2=R+1 by omega] at hsh;have e2:(s.extract (i+1) (i+R)).data.toList=(s.data.toList.drop (i+1)).take r:=by
   rw [← e1,eU]
  refine ⟨h34,hsh,?_,?_,?_⟩
  ·rw [← e1,ext_size s (by omega)];omega
  ·rw [e2];exact hall
  rw [e2,show R+1=r+2 by omega,Ga (by rw [List.length_drop,aM];omega),List.drop_drop]
 left;have e2:(s.data.toList.drop (i+R)).head? = none:=by
  rw [List.drop_eq_nil_of_le (by rw [aM];omega)];rfl
 rw [e2,if_neg (by simp)] at hsh;exact ⟨by omega,hsh⟩
theorem LW (c:UInt8):isQ c=(!((c.toNat:Int)==34) && !((c.toNat:Int)==10)):=by
 unfold isQ;simp only [eqb];congr 2
 all_goals (rw [decide_eq_decide];omega)
theorem KM (s:ByteArray) {j:Nat} (hj:j<s.size) (lo:Nat):pB lo (s.data.toList.drop j)=(okB lo s[j] && pB lo (s.data.toList.drop (j+1))):=by
 rw [cO s hj];rfl
theorem LV {s:ByteArray} (h:∀ c ∈ s.data.toList,isQ c=true) {j:Nat} (hj:j<s.size):isQ s[j]=true:=by
 have:=h (s.data.toList[j]'(by rw [aM];exact hj)) (List.getElem_mem _);exact this
theorem zf (a0:Option Addr) (n0 cap:Nat) (s:ByteArray) (hs:s.size≤1048576) (i:Nat) (hi:i<s.size) (h34:s[i].toNat=34) (w:World) (hS:Bs w a0 n0 cap s) :
    Calls Tryz.prog 139 #[.slice a0 n0 cap,.int .i64 (i:Nat)] w fun e w' => TkA w w' e (s.data.toList.drop i) i:=by
 have hn0:=hS.hn;subst hn0;have Z0:=Hy hs;obtain ⟨b,off,rfl,_⟩:=hS.at hi;obtain ⟨R,hR⟩:∃ R,1+run isQ (s.data.toList.drop (i+1))=R:=⟨_,rfl⟩;have QF:=Hy (zx s hi h34 hR);have hRs:=Hy (show i+R≤s.size by have:=eB isQ s (i:=i+1) (by omega);omega);have hR1:=Hy (show 1≤R by omega);replace hR:=Hy hR;have V0:=Hy (tk.Ww.new w ⟨0,⟨#[]⟩,0⟩ 69);have B0:=Hy (aj (b0 w) (.cells #[.int .i64 0,.string ⟨#[]⟩,.int .i64 0] 69));have S0:=Hy (hS.keeps B0.o);clear hS hs h34;replace hi:=Hy hi
 go_enter Tryz.func139,Tryz.ntmps139
 go_wp2_with fail
 go_loopw [7] (fun x wr => ∃ j:Nat,x=.int .i64 (j:Nat)∧Hid (1≤j∧i+j≤s.size)∧Hid (j+run isQ (s.data.toList.drop (i+j))=R)∧wr=w.alloc (.cells #[.int .i64 0,.string ⟨#[]⟩,.int .i64 0] 69)) (fun x _=>s.size - (intOf x).toNat)
 case atStart=>exact ⟨1,rfl,Hy ⟨by omega,hi.o⟩,Hy hR.o,rfl⟩
 case round =>
  obtain ⟨j,rfl,hj,hr,rfl⟩:=hrel;have V:=V0.o;obtain ⟨⟨c0,c1,c2⟩,g0,g1,g2⟩:=id V;have f1:wrap64 ((i:Int)+(j:Int))=((i+j:Nat):Int):=by have:=Z0.o;have:=hj.o;unfold wrap64;omega
  by_cases hc:i+j<s.size
  ·have q2:decide (((i+j:Nat):Int)<(s.size:Int))=true:=dT (by omega);have q3:i+j<s.size:=hc;have hjs:j<s.size:=by omega
   have f4:=Hy (aV (j:=j) (by have:=Z0.o;omega));obtain ⟨b',off',hab,hB⟩:=S0.o.at hc;cases hab;obtain ⟨x,hx⟩:∃ x,((s[i+j].toNat:Nat):Int)=x:=⟨_,rfl⟩;have hst:=gU isQ s hc;have hr2:=hr.o;have hq:=LW s[i+j];rw [hst] at hr2;rw [hx] at hB hq;by_cases hcq:isQ s[i+j]=true
   ·rw [if_pos hcq] at hr2;rw [hcq] at hq;have e1:(x != 34)=true:=by rw [bne];cases h:(x==34);rfl;rw [h] at hq;cases hq
    have e2:(x != 10)=true:=by rw [bne];cases h:(x==10);rfl;rw [h] at hq;cases h2:(x==34) <;> rw [h2] at hq <;> cases hq
    have hn:=Hy (show j+1+run isQ (s.data.toList.drop (i+(j+1)))=R by rw [← hr2,Nat.add_assoc i j 1];omega);have hj2:=Hy (show 1≤j+1∧i+(j+1)≤s.size by omega);clear hst hr2 hq hcq hr hx hj QF V c0 c1 c2 g0 g1 g2 V0;go_wp2_with fail;exact ⟨⟨j+1,by first | exact congrArg (Value.int .i64) f4.o | rfl,hj2,hn,trivial⟩,by first | exact aU hjs f4.o | exact iV hjs⟩
   rw [if_neg hcq] at hr2;obtain rfl:j=R:=by omega
   rcases QF.o with ⟨h1,_⟩ | ⟨_,⟨h10,hsh⟩ | ⟨h34,hsh,hT,hTq,hco⟩⟩
   ·omega
   ·obtain rfl:x=10:=by rw [← hx,h10];rfl
    have q4:((((i+j:Nat):Int))==(s.size:Int))=false:=by rw [beq_eq_false_iff_ne];omega
    replace hsh:=Hy hsh;clear hst hr2 hq hcq hr hx hj QF h10 hR hRs hR1;go_wp2_with fail;simp [bodyPost,results,Tryz.results139,go_sem];exact TkA.mk (m:=0) hsh.o (by rw [if_pos rfl]) (lg _) ⟨0,⟨#[]⟩,0⟩ rfl (fun h=>by cases h) (aj (b0 w) _)
   obtain rfl:x=34:=by rw [← hx,h34];rfl
   have q4:((((i+j:Nat):Int))==(s.size:Int))=false:=by rw [beq_eq_false_iff_ne];omega
   have hj1:=hj.o.1;have hij:i+1+(j - 1)=i+j:=by clear f1;omega
   obtain ⟨a2,c3,SL0,hcut⟩:=S0.o.cut (i:=i+1) (m:=j - 1) (by rw [hij];exact Nat.le_of_lt hc);rw [hij] at SL0 hcut;have SL:∀ W,(Instr.slice 22 (.slice (some ⟨b,off,none⟩) s.size cap) (some (.int .i64 ((i:Int)+1))) (some (.int .i64 ((i:Int)+(j:Int)))) none).run Tryz.prog W=.ok (.slice a2 (j - 1) c3) W:=SL0;have CV:=hcut.str;clear SL0;have f5:=aV (j:=i) (by have:=Z0.o;omega);have f6:=aV (j:=j) (by have:=Z0.o;omega);obtain ⟨t,ht⟩:∃ t,s.extract (i+1) (i+j)=t:=⟨_,rfl⟩;rw [ht] at CV hT hTq hco;obtain ⟨m,hm⟩:∃ m,j - 1=m:=⟨_,rfl⟩;rw [hm] at SL CV hT;have hfl:=yM ((s.data.toList.drop i).take (j+1));rw [hco] at hfl;replace hsh:=Hy hsh;replace hco:=Hy hco;replace hTq:=Hy hTq;have hts:=Hy (show t.size≤1048576 by have:=Z0.o;omega);have hZ1:=Hy hT;clear hst hr2 hq hcq hr hx hj QF h34 hR hRs hR1 hcut ht hm hT hj1 hij;unfold txE at hfl;rw [aM] at hfl;by_cases h64:64<t.size
   ·have q5:decide (64<(t.size:Int))=true:=dT (by omega);rw [if_pos h64] at hfl;replace hfl:=Hy hfl;clear h64;go_wp2_with fail;simp [bodyPost,results,Tryz.results139,go_sem];exact TkA.mk (m:=j+1) hsh.o (by rw [if_neg (by decide)]) hfl.o ⟨0,⟨#[]⟩,0⟩ rfl (fun h=>by cases h) (aj (b0 w) _)
   have q5:decide (64<(t.size:Int))=false:=dF (by omega);rw [if_neg h64] at hfl;replace hfl:=Hy hfl;clear h64;go_wp2_with fail
   go_loopw [9] (fun x wr => ∃ k:Nat,x=.int .i64 (k:Nat)∧Hid (k≤t.size)∧Hid (pB 32 t.data.toList=pB 32 (t.data.toList.drop k))∧wr=w.alloc (.cells #[.int .i64 0,.string ⟨#[]⟩,.int .i64 0] 69)) (fun x _=>t.size - (intOf x).toNat)
   case atStart=>exact ⟨0,rfl,Hy zl,Hy rfl,rfl⟩
   case round =>
    obtain ⟨k,rfl,hk,hp,rfl⟩:=hrel;by_cases hkt:k<t.size
    ·have q6:decide ((k:Int)<(t.size:Int))=true:=dT (by omega);have f7:=Hy (aV (j:=k) (by have:=hts.o;omega));have hn:=KM t hkt 32;have hkt2:=Hy hkt;have q7:decide (k<t.size)=true:=dT hkt;have three:pB 32 t.data.toList=false→Hid (flt 4 (List.take (j+1) (List.drop i s.data.toList))=3):=fun h=>Hy (by rw [hfl.o,h];rfl);rcases KR (LV hTq.o hkt) with ⟨h1,a1,p1,a2,p2,a3⟩ | ⟨h1,a1,p1⟩ | ⟨h1,a1,p1,a2,p2⟩ | ⟨h1,a1,p1,a2,p2,a3⟩
     all_goals rw [h1] at hn
     ·have hn2:=Hy (hp.o.trans (hn.trans (Bool.true_and _)));clear hn three hfl h1;go_wp2_with fail;exact ⟨⟨k+1,congrArg (Value.int .i64) f7.o,hkt2,hn2,trivial⟩,aU hkt2.o f7.o⟩
     all_goals (
       replace hn:=three (hp.o.trans (hn.trans (Bool.false_and _)))
       clear three hfl h1
       go_wp2_with fail
       simp [bodyPost,results,Tryz.results139,go_sem]
       rw [f6]
       exact TkA.mk (m:=j+1) hsh.o (by rw [if_neg (by decide)]) hn.o ⟨0,⟨#[]⟩,0⟩ rfl (fun h=>by cases h) (aj (b0 w) _))
    have q6:decide ((k:Int)<(t.size:Int))=false:=dF (by omega);have hz:pB 32 (t.data.toList.drop k)=true:=by rw [List.drop_eq_nil_of_le (by rw [aM];omega)];rfl
    have hf2:=Hy (show flt 4 (List.take (j+1) (List.drop i s.data.toList))=0 by rw [hfl.o,hp.o,hz];rfl);have hcx:=Hy (show (⟨(cont 4 ((s.data.toList.drop i).take (j+1))).toArray⟩:ByteArray)=t by rw [hco.o]);have q7:decide (k<t.size)=false:=dF hkt;clear hz hp hk;go_wp2_with fail;simp [bodyPost,results,Tryz.results139,go_sem];rw [f6];exact TkA.mk (m:=j+1) hsh.o (by rw [if_neg (by decide)]) hf2.o ⟨4,t,(i:Nat)⟩ rfl (fun _=>by rw [hcx.o]) (aj (b0 w) _)
  have q2:decide (((i+j:Nat):Int)<(s.size:Int))=false:=dF (by omega);have q4:((((i+j:Nat):Int))==(s.size:Int))=true:=by rw [beq_iff_eq];have:=hj.o;omega
  have hz:=pO isQ s (j:=i+j) (by omega);have hr2:=hr.o;rw [hz] at hr2;obtain rfl:j=R:=by omega
  obtain ⟨_,hsh⟩:=QF.o.resolve_right (fun ⟨h,_⟩=>hc h);replace hsh:=Hy hsh;clear hr hr2 hj QF hc hR hRs hR1 hz;go_wp2_with fail;simp [bodyPost,results,Tryz.results139,go_sem];exact TkA.mk (m:=0) hsh.o (by rw [if_pos rfl]) (lg _) ⟨0,⟨#[]⟩,0⟩ rfl (fun h=>by cases h) (aj (b0 w) _)
end
end Go.Proofs.YtbpijgddfaefkaaGreatDoor
