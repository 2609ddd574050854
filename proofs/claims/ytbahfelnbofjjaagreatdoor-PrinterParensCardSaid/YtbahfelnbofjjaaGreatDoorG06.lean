/-
  The reference: names; LexerWords: the walk; units.Check; Number types; equal types; units whose names are names; Texts of units as plain data: printing, cutting, reading back; What the printer prints, as plain data: the texts of units, types, windows, literals, expressions, tables, features; formatFactor and Format; strconv's two; what the listed variables hold; Slices of strings; strings.Join at any separator; printer.words; The tokens of what is printed: pieces are tokens with or without a blank in front of them; how they are lexed.
-/
import Derived.Test.YtbahfelnbofjjaaGreatDoorG05
set_option maxRecDepth 100000
set_option maxHeartbeats 16000000
namespace Go.Proofs.YtbahfelnbofjjaaGreatDoor
section
open Go.RowKit dec
theorem K6 (s:ByteArray):prB 1 s=wd1 s:=Ap ⟨1,s,0⟩ (by unfold so;rw [if_neg (show ¬ (1:Int)=4 by decide)])
theorem BJ (l:List UInt8):(l==[])=l.isEmpty:=by cases l <;> rfl
theorem Jq (s:ByteArray):name s=(uD s.data.toList && !kw s):=by unfold name;rw [K6,Pn]
theorem zH {s:ByteArray} (h:s.size=0∨24<s.size):uD s.data.toList=false:=by
 have hl:=aI s
 cases hd:s.data.toList with
 | nil=>rfl
 | cons c r =>
   rw [hd] at hl
   rw [List.length_cons] at hl
   show (isL c && decide (run isW (c :: r)=(c :: r).length) && decide ((c :: r).length≤24))=false
   rw [dF (p:=(c :: r).length≤24) (by rw [List.length_cons];omega),Bool.and_false]
theorem KA {s:ByteArray} (h0:s.size≠0) (h:s.size≤24):uD s.data.toList=((wdN (s.data.toList.drop 0):Int)==(s.size:Int)):=by
 have hl:=aI s;rw [List.drop_zero,eqb]
 cases hd:s.data.toList with
 | nil=>rw [hd] at hl;exact absurd hl.symm h0
 | cons c r =>
   rw [hd] at hl
   show (isL c && decide (run isW (c :: r)=(c :: r).length) && decide ((c :: r).length≤24))=decide (((if isL c=true then run isW (c :: r) else 0:Nat):Int)=(s.size:Int))
   rw [dT (p:=(c :: r).length≤24) (by omega),Bool.and_true,hl]
   cases isL c
   · rw [Bool.false_and]
     symm
     rw [decide_eq_false_iff_not]
     simp
     omega
   · rw [Bool.true_and,if_pos rfl,decide_eq_decide]
     omega
theorem mV (s:ByteArray) (w:World):Calls Tryz.prog 60 #[.string s] w fun e w' => e=.returned (.bool (name s))∧Below w.heap.size w w':=by
 have hn:=Jq s;have KC:=Hy (fun W=>Al s W);have HE:=toList_nil s;by_cases h0:s.size=0
 ·have hr:=Hy (show name s=false by rw [hn,zH (.inl h0)];rfl);have q1:s.toList.isEmpty=true:=by rw [← BJ,HE,dT h0]
  clear hn HE KC h0
  go_enter Tryz.func60,Tryz.ntmps60
  go_wp2_with fail;go_ret;exact ⟨aX hr.o.symm,b0 w⟩
 have q1:s.toList.isEmpty=false:=by rw [← BJ,HE,dF h0]
 by_cases h24:24<s.size
 ·have hr:=Hy (show name s=false by rw [hn,zH (.inr h24)];rfl);have q2:decide ((s.size:Int)≤24)=false:=dF (by omega);have q2':decide (s.size≤24)=false:=dF (by omega);clear hn HE KC h0 h24
  go_enter Tryz.func60,Tryz.ntmps60
  go_wp2_with fail;go_ret;exact ⟨aX hr.o.symm,b0 w⟩
 have q2:decide ((s.size:Int)≤24)=true:=dT (by omega);have q2':decide (s.size≤24)=true:=dT (by omega);rw [KA h0 (by omega)] at hn;obtain ⟨w1,cv,hcv,hB,b1⟩:=gI w s (by omega);have WC:=Hy (qw _ _ _ s (by omega) 0 (by omega) w1 hB);rw [show ((0:Nat):Int)=0 from rfl] at WC;have B1:=Hy b1;replace hn:=Hy hn;clear HE h0 h24 b1 hB;generalize ((wdN (s.data.toList.drop 0):Nat):Int)=x at *;cases hx:(x==(s.size:Int))
 ·have hr:=Hy (show name s=false by rw [hn.o,hx];rfl)
  go_enter Tryz.func60,Tryz.ntmps60
  go_wp2_with fail;refine WC.o.mono ?_;rintro e w2 ⟨rfl,rfl⟩;go_wp2_with fail;go_ret;exact ⟨aX hr.o.symm,B1.o⟩
 have hr:=Hy (show name s = !kw s by rw [hn.o,hx];rfl)
 go_enter Tryz.func60,Tryz.ntmps60
 go_wp2_with fail;refine WC.o.mono ?_;rintro e w2 ⟨rfl,rfl⟩;go_wp2_with fail;refine (KC.o _).mono ?_;rintro e w3 ⟨rfl,rfl⟩;go_wp2_with fail;go_ret;exact ⟨aX hr.o.symm,B1.o⟩
end
namespace un
open Go.RowKit dec
theorem Ml (a b:ByteArray):(Op.bytesLess a.toList b.toList || a.toList==b.toList) = !Op.bytesLess b.toList a.toList:=by
 cases h:Op.bytesLess b.toList a.toList
 ·by_cases e:a.toList=b.toList
  ·rw [e];simp
  rw [mG b.toList a.toList h fun e' => e e'.symm];rfl
 have h1:=Jt (a:=b) (b:=a) h;have h2:=qE (a:=b) (b:=a) h;unfold ltS at h1;rw [h1,Bool.false_or];exact bF fun e=>h2 (toList_inj e.symm)
theorem Fu {l:List Fa} {j:Nat} (h:j<l.length) (b:ByteArray):fC b (l.drop j)=if ck1 b (gt l j)=0 then fC (gt l j).1 (l.drop (j+1)) else ck1 b (gt l j):=by
 rw [lV h];rfl
theorem Ko {l:List Fa} {j:Nat} (h:l.length≤j) (b:ByteArray):fC b (l.drop j)=0:=by
 rw [List.drop_eq_nil_of_le h];rfl
theorem dZ (a:Option Addr) (n cap:Nat) (l:List Fa) (w:World) (hS:Sl w a n cap l) :
    Calls Tryz.prog 153 #[.slice a n cap] w fun e w' => e=.returned (.int .i64 (ck l))∧Below w.heap.size w w':=by
 have W1:=Hy vF;have R1:=Hy yE;have hck:ck l=if 4<n then 2 else fC .empty (l.drop 0):=by rw [List.drop_zero,← hS.hn];rfl
 have S0:=Hy hS;clear hS;by_cases h4:4<n
 ·rw [hck,if_pos h4];have q1:decide (4<(n:Int))=true:=dT (by omega);clear W1 R1 S0 hck
  go_enter Tryz.func153,Tryz.ntmps153
  go_wp2_with fail;go_ret;exact ⟨rfl,b0 w⟩
 rw [if_neg h4] at hck;rw [hck];have hn:=Hy (Nat.le_of_not_lt h4);have q1:decide (4<(n:Int))=false:=dF (by omega);clear h4 hck
 go_enter Tryz.func153,Tryz.ntmps153
 go_wp2_with fail
 go_loopw [3,11] (fun vb vi wr => ∃ (j:Nat) (b:ByteArray),vb=.string b∧vi=.int .i64 (j:Nat)∧Hid (j≤n)∧Hid (fC .empty (l.drop 0)=fC b (l.drop j))∧Below w.heap.size w wr) (fun _ vi _=>n - (intOf vi).toNat)
 case atStart=>exact ⟨0,.empty,rfl,rfl,Hy (by omega),rfl,b0 w⟩
 case round =>
  obtain ⟨j,b,rfl,rfl,hj,hd,hb⟩:=hrel;by_cases hc:j<n
  ·have hlen:=S0.o.hn;have hst:=hd.o;rw [Fu (by have:=S0.o.hn;omega) b] at hst;obtain ⟨bk,off,rfl,hC⟩:=(S0.o.keeps hb).hat.resolve_left (by omega);obtain ⟨c0,c1⟩:=hC j (by have:=S0.o.hn;omega);have q2:decide ((j:Int)<(n:Int))=true:=dT (by omega);have f4:=Hy (aS (j:=j) (by have:=hn.o;have:=hc;omega));have q3:j<n:=hc;generalize (gt l j)=x at *;have H:=Hy hst;have hbh:=Hy hb;clear hd hst hlen hC hb;cases hw:word x.1
   ·have hk:ck1 b x=1:=by unfold ck1;rw [if_pos hw]
    go_wp2_with fail;refine (W1.o _ _).mono ?_;rintro e w' ⟨rfl,rfl⟩;go_wp2_with fail;go_ret;exact ⟨dh (by rw [H.o,if_neg (by rw [hk];decide),hk]),au hbh.o _⟩
   by_cases h0:x.2=0
   ·have hk:ck1 b x=70:=by unfold ck1;rw [hw,if_neg (by decide),if_pos (.inl h0)]
    have q4:(x.2==0)=true:=beq_iff_eq.2 h0;replace hk:=Hy hk;replace h0:=Hy h0;go_wp2_with fail;refine (W1.o _ _).mono ?_;rintro e w' ⟨rfl,rfl⟩;go_wp2_with fail;replace hk:=hk.o;go_ret;exact ⟨dh (by rw [H.o,if_neg (by rw [hk];decide),hk]),au hbh.o _⟩
   have q4:(x.2==0)=false:=bF h0;cases hf:far x.2
   ·have q8:=Ml x.1 b;cases hl:Op.bytesLess b.toList x.1.toList
    ·have hk:ck1 b x=3:=by unfold ck1 ltS;rw [hw,hf,hl,if_neg (by decide),if_neg (by simp [h0]),if_neg (by decide)]
     replace h0:=Hy h0;rw [hl,Bool.not_false] at q8;go_wp2_with fail;refine (W1.o _ _).mono ?_;rintro e w' ⟨rfl,rfl⟩;go_wp2_with fail;refine (R1.o _ _).mono ?_;rintro e w' ⟨rfl,rfl⟩;go_wp2_with fail;go_ret;exact ⟨dh (by rw [H.o,if_neg (by rw [hk];decide),hk]),au hbh.o _⟩
    have hk:ck1 b x=0:=by unfold ck1 ltS;rw [hw,hf,hl,if_neg (by decide),if_neg (by simp [h0]),if_pos rfl]
    replace h0:=Hy h0;rw [hl,Bool.not_true] at q8;go_wp2_with fail;refine (W1.o _ _).mono ?_;rintro e w' ⟨rfl,rfl⟩;go_wp2_with fail;refine (R1.o _ _).mono ?_;rintro e w' ⟨rfl,rfl⟩;go_wp2_with fail;go_roundw
    case rel=>exact ⟨j+1,x.1,rfl,congrArg (Value.int .i64) f4.o,Hy hc,Hy (H.o.trans (if_pos hk)),au hbh.o _⟩
    case measure=>exact aN hc f4.o
   have hk:ck1 b x=70:=by unfold ck1;rw [hw,hf,if_neg (by decide),if_pos (.inr rfl)]
   replace h0:=Hy h0;go_wp2_with fail;refine (W1.o _ _).mono ?_;rintro e w' ⟨rfl,rfl⟩;go_wp2_with fail;refine (R1.o _ _).mono ?_;rintro e w' ⟨rfl,rfl⟩;go_wp2_with fail;go_ret;exact ⟨dh (by rw [H.o,if_neg (by rw [hk];decide),hk]),au hbh.o _⟩
  have hst:=Ko (l:=l) (j:=j) (by have:=S0.o.hn;omega) b;have H:=Hy hst;have hd2:=Hy hd.o;clear hst hd;have q3:decide ((j:Int)<(n:Int))=false:=dF (by omega);have hbh:=Hy hb;clear hb;go_wp2_with fail;go_ret;exact ⟨dh (hd2.o.trans H.o).symm,hbh.o⟩
end un
namespace ch
open Go.RowKit dec
def Bl (b:Bool) (w:World) (e:Ending) (w':World):Prop:=e=.returned (.bool b)∧Below w.heap.size w w'
theorem aK {b c:Bool} {w w':World} (h:b=c) (hb:Below w.heap.size w w'):Bl c w (.returned (.bool b)) w':=⟨by rw [h],hb⟩
theorem aT {b c:Int} {w w':World} (h:b=c) (hb:Below w.heap.size w w'):Num c w (.returned (.int .i64 b)) w':=⟨by rw [h],hb⟩
theorem eqL (s:ByteArray) (l:List UInt8):(s.toList==l)=decide (s=⟨l.toArray⟩):=by
 rw [← un.zB];congr 1;rw [ByteArray.toList_eq]
theorem eqI (x y:Int):(x==y)=decide (x=y):=by by_cases h:x=y <;> simp [h]
theorem eqE (s:ByteArray):s.toList.isEmpty=decide (s=.empty):=by
 have:=eqL s [];rw [show (s.toList==[])=s.toList.isEmpty by cases s.toList <;> rfl] at this;exact this
theorem fA (w:World) (c d:Array Value) (T U:TypeId):Blk ((w.alloc (.cells c T)).alloc (.cells d U)) w.heap.size T c∧Blk ((w.alloc (.cells c T)).alloc (.cells d U)) (w.heap.size+1) U d:=by
 refine ⟨(Blk.new w T c).past _,?_⟩;have:=Blk.new (w.alloc (.cells c T)) U d;simpa using this
theorem bY (w:World) (c d:Obj):Below w.heap.size w ((w.alloc c).alloc d):=au (au (b0 w) _) _
theorem Bf (t:Ty) (ua:Option Addr) (uc:Nat) (w:World):Calls Tryz.prog 97 #[.agg (tyC t ua uc)] w (Bl (num t) w):=by
 unfold tyC
 go_enter Tryz.func97,Tryz.ntmps97
 go_wp2
 all_goals go_ret
 all_goals exact aK (by simp only [num,eqI] at * <;> simp_all) (au (b0 w) _)
theorem Cv (t:Ty) (ua:Option Addr) (uc:Nat) (w:World):Calls Tryz.prog 71 #[.agg (tyC t ua uc)] w (Bl (num t) w):=by
 unfold tyC
 go_enter Tryz.func71,Tryz.ntmps71
 go_wp2
 all_goals go_ret
 all_goals exact aK (by simp only [num,eqI] at * <;> simp_all) (au (b0 w) _)
theorem zL (f:un.Fa) (hs:f.1.size≤140737488355328) (w:World) (T:Tabs w):Calls Tryz.prog 152 #[.agg #[.string f.1,.int .i64 f.2]] w (Bl (!name f.1) w):=by
 have C:=Hy (iU f.1 hs (w.alloc (.cells #[.string f.1,.int .i64 f.2] 82)) (T.stays (au (b0 w) _)))
 go_enter Tryz.func152,Tryz.ntmps152
 go_wp2_with fail;refine C.o.mono ?_;rintro e w1 ⟨rfl,b1⟩;have B1:=Hy (aA (au (b0 w) _) b1);clear b1 C;go_wp2_with fail;go_ret;exact aK rfl B1.o
def ixA {α:Type} (p:α→Bool):List α→Nat→Int
 | [],_ => -1
 | x :: r,n=>if p x=true then (n:Nat) else ixA p r (n+1)
theorem xK {α:Type} (p:α→Bool):∀ (l:List α) (n:Nat),decide (0≤ixA p l n)=l.any p
 | [],_=>rfl
 | x :: r,n=>by
  unfold ixA
  cases h:p x
  ·simp [h,xK p r (n+1)]
  ·simp [h]
theorem Jw {α:Type} (p:α→Bool) {l:List α} {j:Nat} (h:j<l.length):ixA p (l.drop j) j=if p l[j]=true then (j:Int) else ixA p (l.drop (j+1)) (j+1):=by
 rw [List.drop_eq_getElem_cons h];rfl
theorem EI {α:Type} (p:α→Bool) {l:List α} {j:Nat} (h:l.length≤j):ixA p (l.drop j) j = -1:=by
 rw [List.drop_eq_nil_of_le h];rfl
theorem Df (a:Option Addr) (n cap:Nat) (l:List un.Fa) (w:World) (hA:un.Sl w a n cap l) (hs:∀ f ∈ l,f.1.size≤140737488355328) (T:Tabs w) :
    Calls Tryz.prog 219 #[.slice a n cap,.func (.func 152) #[] #[]] w (Num (ixA (fun f => !name f.1) l 0) w):=by
 have A1:=Hy hA;have hS:=Hy hs;have T0:=Hy T;have hI:=Hy (show ixA (fun f:un.Fa => !name f.1) l 0=ixA (fun f => !name f.1) (l.drop 0) 0 by rw [List.drop_zero]);have hn:=hA.hn;subst hn;have hL:=Hy (show l.length≤9223372036854775807 by have:=hA.hcap;have:=hA.hmax;omega);clear hA hs T
 go_enter Tryz.func219,Tryz.ntmps219
 go_wp2_with fail
 go_loopw [8] (fun vi wr => ∃ (j:Nat),vi=.int .i64 (j:Nat)∧Hid (j≤l.length)∧Hid (ixA (fun f:un.Fa => !name f.1) l 0=ixA (fun f => !name f.1) (l.drop j) j)∧Hid (Below w.heap.size w wr)) (fun vi _=>l.length - (intOf vi).toNat)
 case atStart=>exact ⟨0,rfl,Hy zl,hI,Hy (b0 w)⟩
 case round =>
  clear hI;obtain ⟨j,rfl,hj,hI,hb⟩:=hrel;by_cases hlt:j<l.length
  ·have q1:decide ((j:Int)<(l.length:Int))=true:=dT (by omega);obtain ⟨bk,off,rfl,hC⟩:=(A1.o.keeps hb.o).hat.resolve_left (by omega);obtain ⟨c0,c1⟩:=hC j hlt;have f4:=Hy (aS (j:=j) (by have:=hL.o;omega));have i1:(j:Int)<(l.length:Int):=by omega
   replace hI:=hI.o.trans (Jw _ hlt);have C:=Hy (zL (un.gt l j) (hS.o _ (un.jl hlt)) wr (T0.o.stays hb.o));rw [show l[j]=un.gt l j from (un.dY hlt).symm] at hI;clear hC A1 hS T0 hj;generalize un.gt l j=x at *;go_wp2_with fail;refine C.o.mono ?_;rintro e w1 ⟨rfl,b1⟩;have B1:=Hy (aA hb.o b1);clear b1 C c0 c1 hb;generalize hq:(!name x.1)=q at *;cases q
   ·rw [if_neg (by decide)] at hI;have hI:=Hy hI;go_wp2_with fail;exact ⟨⟨j+1,congrArg (Value.int .i64) f4.o,Hy hlt,hI,B1⟩,aN hlt f4.o⟩
   rw [if_pos rfl] at hI;have hI:=Hy hI;go_wp2_with fail;go_ret;exact aT hI.o.symm B1.o
  have q1:decide ((j:Int)<(l.length:Int))=false:=dF (by omega);have hI:=Hy (hI.o.trans (EI _ (by omega)));clear A1 hS T0 hj;go_wp2_with fail;go_ret;exact aT hI.o.symm hb.o
theorem xX (a:Option Addr) (n cap:Nat) (l:List un.Fa) (w:World) (hA:un.Sl w a n cap l) (hs:∀ f ∈ l,f.1.size≤140737488355328) (T:Tabs w) :
    Calls Tryz.prog 154 #[.slice a n cap,.func (.func 152) #[] #[]] w (Bl (l.any fun f => !name f.1) w):=by
 have C:=Hy (Df a n cap l w hA hs T);have hq:=Hy (xK (fun f:un.Fa => !name f.1) l 0);clear hA hs T;generalize ixA (fun f:un.Fa => !name f.1) l 0=i at *
 go_enter Tryz.func154,Tryz.ntmps154
 go_wp2_with fail;refine C.o.mono ?_;rintro e w1 ⟨rfl,b1⟩;have B1:=Hy b1;clear b1 C;go_wp2_with fail;go_ret;exact aK hq.o B1.o
theorem MQ {s:ByteArray} (h:un.word s=true):s.size≤24:=(un.kP h).2
theorem uG (a:Option Addr) (n cap:Nat) (l:List un.Fa) (w:World) (hA:un.Sl w a n cap l) (T:Tabs w) :
    Calls Tryz.prog 98 #[.slice a n cap] w (Bl (okU l) w):=by
 have C:=Hy (un.dZ a n cap l w hA);by_cases h:un.ck l=0
 ·have hs:∀ f ∈ l,f.1.size≤140737488355328:=fun f hf=>by have:=MQ (((un.Km l).1 h).good f hf).1;omega
  have q1:(un.ck l==0)=true:=by simp [h]
  have D:=Hy (fun W hS T=>xX a n cap l W hS hs T);have hq:=Hy (show okU l = !l.any fun f => !name f.1 by unfold okU;rw [dT h,Bool.true_and];simp [List.all_eq_not_any_not]);have A1:=Hy hA;have T0:=Hy T;clear hA T hs h;generalize un.ck l=c at *;generalize (l.any fun f => !name f.1)=d at *
  go_enter Tryz.func98,Tryz.ntmps98
  go_wp2_with fail;refine C.o.mono ?_;rintro e w1 ⟨rfl,b1⟩;have B1:=Hy b1;clear b1 C;go_wp2_with fail;refine (D.o w1 (A1.o.keeps B1.o) (T0.o.stays B1.o)).mono ?_;rintro e w2 ⟨rfl,b2⟩;have B2:=Hy (aA B1.o b2);clear b2 D A1 T0;go_wp2_with fail;go_ret;exact aK hq.o.symm B2.o
 have q1:(un.ck l==0)=false:=by simp [h]
 have hq:=Hy (show okU l=false by unfold okU;rw [dF h,Bool.false_and]);clear hA T h;generalize un.ck l=c at *
 go_enter Tryz.func98,Tryz.ntmps98
 go_wp2_with fail;refine C.o.mono ?_;rintro e w1 ⟨rfl,b1⟩;have B1:=Hy b1;clear b1 C;go_wp2_with fail;go_ret;exact aK hq.o.symm B1.o
end ch
namespace un
def jr (l:List UInt8):Int :=
 match Lib.atoiAll l with
 | .ok v=>v
 | Lib.NumEnd.syntax=>0
 | .range=>Lib.atoiSat l
def f1 (x:Fa):List UInt8:=if x.2=1 then x.1.data.toList else x.1.data.toList++94 :: Lib.itoa x.2
def fT (l:List Fa):List UInt8:=Lib.join (l.map f1) [42]
def fac (l:List UInt8):Fa:=if Lib.indexByte l 94 = -1 then (⟨l.toArray⟩,1) else (⟨(l.take (Lib.indexByte l 94).toNat).toArray⟩,jr (l.drop ((Lib.indexByte l 94).toNat+1)))
theorem yR {u:Nat} (h:u<10):Lib.decDigits u=[UInt8.ofNat (48+u)]:=by
 rw [Lib.decDigits,dif_pos h]
theorem J5 {n:Int} (h:far n=false):n = -8∨n = -7∨n = -6∨n = -5∨n = -4∨n = -3∨n = -2∨n = -1∨n=0∨n=1∨n=2∨n=3∨n=4∨n=5∨n=6∨n=7∨n=8:=by
 unfold far at h;rw [decide_eq_false_iff_not] at h;omega
theorem Lu {n:Int} (h:far n=false):(42:UInt8) ∉ Lib.itoa n∧jr (Lib.itoa n)=n∧(Lib.itoa n).length≤2:=by
 rcases J5 h with rfl | rfl | rfl | rfl | rfl | rfl | rfl | rfl | rfl | rfl | rfl | rfl | rfl | rfl | rfl | rfl | rfl
 all_goals unfold Lib.itoa
 all_goals first
   | rw [if_pos (by decide),yR (by decide)]
   | rw [if_neg (by decide),yR (by decide)]
 all_goals decide
theorem ba_eq (s:ByteArray):(⟨s.data.toList.toArray⟩:ByteArray)=s:=rfl
theorem Rh {x:Fa} (h1:word x.1=true) (h2:far x.2=false):1≤(f1 x).length∧(f1 x).length≤27:=by
 have hs:=kP h1;rw [Lib.size_eq] at hs;have:=(Lu h2).2.2;unfold f1;split
 ·omega
 rw [List.length_append,List.length_cons];omega
theorem J2 {u:List Fa} (h:Ok u):(fT u).length≤200:=by
 have hg:∀ (l:List Fa),(∀ x ∈ l,word x.1=true∧far x.2=false)→(fT l).length≤28 * l.length:=by
  intro l
  induction l with
  | nil=>intro _;exact Nat.le_refl _
  | cons x l ih =>
    intro hl
    have hx:=hl x (List.mem_cons_self ..)
    have h1:=(Rh hx.1 hx.2).2
    have h2:=ih fun y hy=>hl y (List.mem_cons_of_mem _ hy)
    cases l with
    | nil =>
      unfold fT
      rw [List.map_cons,List.map_nil,Lib.join_one]
      simp;omega
    | cons y l =>
      have e:fT (x :: y :: l)=f1 x++42 :: fT (y :: l):=by
        unfold fT
        rw [List.map_cons,List.map_cons,Lib.join_cons,Lib.join_cons]
        simp [Lib.joinTail]
      rw [e,List.length_append,List.length_cons]
      simp only [List.length_cons] at *
      omega
 have:=hg u fun x hx=>⟨(h.good x hx).1,(h.good x hx).2.2⟩;have:=h.le;omega
end un
namespace ch
open Go.RowKit dec
def uT (u:List un.Fa):List UInt8:=if u=[] then [] else 32 :: 91 :: (un.fT u++[93])
def tyT (t:Ty):List UInt8 :=
 if t.k=1 then [98,111,111,108] else if t.k=4 then [116,101,120,116] else if t.k=5 then [107,101,121,32]++t.of.data.toList else if t.k=2 then [105,110,116]++uT t.un else [100,101,99]++uT t.un
def wiT (k n:Int):List UInt8 :=
 if k=2 then [115,108,105,100,105,110,103,32]++Lib.itoa n else if k=3 then [116,117,109,98,108,105,110,103,32]++Lib.itoa n else if k=4 then [115,101,115,115,105,111,110,32]++Lib.itoa n else [97,108,108]
def liT (h:Hd):List UInt8:=if h.vk=5 then 64 :: (h.nm.data.toList++32 :: 34 :: (h.vs.data.toList++[34])) else fm ⟨h.vk,h.vn,h.vs⟩++uT h.un
def rkO (op:ByteArray):Int:=if op=⟨#[111,114]⟩ then 2 else if op=⟨#[97,110,100]⟩ then 3 else if op=⟨#[43]⟩∨op=⟨#[45]⟩ then 6 else if op=⟨#[42]⟩∨op=⟨#[47]⟩ then 7 else 5
def rk (h:Hd):Int :=
 if h.k=8 then 0 else if h.k=9 then 1 else if h.k=7 then rkO h.op else if h.k=6 then (if h.op=⟨#[110,111,116]⟩ then 4 else if h.op=⟨#[45]⟩ then 8 else 9) else 9
def lef (r:Int):Int:=if r=5 then 6 else r
def par (r q:Int) (t:List UInt8):List UInt8:=if r<q then 40 :: (t++[41]) else t
abbrev Od:=List UInt8 × Hd
def od (l:List Od) (j:Nat):Od:=l.getD j ([],h0)
def odT (l:List Od) (j:Nat):List UInt8:=(od l j).1
def odP (l:List Od) (j:Nat) (q:Int):List UInt8:=par (rk (od l j).2) q (od l j).1
def agT (h:Hd) (l:List Od):List UInt8 :=
 h.op.data.toList++40 :: (h.tb.data.toList++((if h.op=⟨#[99,111,117,110,116]⟩ then [] else 44 :: 32 :: odT l 0)++((if h.op=⟨#[113,117,97,110,116,105,108,101]⟩∨h.op=⟨#[100,101,99,97,121]⟩ then 44 :: 32 :: Lib.itoa h.pa else []) ++
  (44 :: 32 :: wiT h.wk h.ws++((if bS (od l 1).2=true then [] else [32,119,104,101,114,101,32]++odT l 1)++[41])))))
def dD (h:Hd) (l:List Od):List UInt8 :=
 if h.k=1 then liT h
 else if h.k=4 then h.nm.data.toList++([32,111,102,32,40]++(odT l 0++[41]))
 else if h.k=5 then agT h l
 else if h.k=6 then (if h.op=⟨#[45]⟩ then 45 :: odP l 0 8 else if h.op=⟨#[110,111,116]⟩ then [110,111,116,32]++odP l 0 4 else [110,117,108,108,40]++(odT l 0++[41]))
 else if h.k=7 then odP l 0 (lef (rkO h.op))++(32 :: (h.op.data.toList++32 :: odP l 1 (rkO h.op+1)))
 else if h.k=8 then [105,102,32]++(odT l 0++([32,116,104,101,110,32]++(odT l 1++([32,101,108,115,101,32]++odT l 2))))
 else if h.k=9 then odP l 0 1++([32,100,101,102,97,117,108,116,32]++odP l 1 2)
 else h.nm.data.toList
def txF:Fo→List Od
 | .nil=>[]
 | .cons h ar r=>(dD h (txF ar),h) :: txF r
def txE (x:Ex):List UInt8:=dD x.h (txF x.ar)
theorem jf:∀ F:Fo,(txF F).length=F.len
 | .nil=>rfl
 | .cons h ar r=>by simp only [txF,List.length_cons,Fo.len,jf r]
theorem Ij:∀ (F:Fo) (j:Nat),j<F.len→od (txF F) j=(txE (F.nth j),(F.nth j).h)
 | .nil,_,h=>absurd h (Nat.not_lt_zero _)
 | .cons h ar r,0,_=>rfl
 | .cons h ar r,j+1,hj=>by
  have:=Ij r j (by simpa [Fo.len] using hj)
  simpa [txF,od,Fo.nth] using this
def fiT (f:Fi):List UInt8:=f.nm.data.toList++58 :: 32 :: tyT f.ty
def fsT:List Fi→List UInt8
 | []=>[]
 | f :: r=>32 :: (fiT f++(r.map fun g=>44 :: 32 :: fiT g).flatten)
def tbT (t:Tb):List UInt8 :=
 [116,97,98,108,101,32]++(t.nm.data.toList++([32,111,102,32]++(t.en.data.toList++([32,123]++(fsT t.fs++([32,125]++((if t.kp=0 then [] else [32,107,101,101,112,32]++Lib.itoa t.kp)++[59])))))))
theorem fG (n:Int) (h0:0≤n) (h1:n≤1152921504606846976):(Lib.itoa n).length≤20:=by
 have hd:∀ (k u:Nat),u<10 ^ (k+1)→(Lib.decDigits u).length≤k+1:=by
  intro k
  induction k with
  | zero=>intro u hu;rw [Lib.decDigits_one (by simpa using hu)];simp
  | succ k ih =>
    intro u hu
    by_cases h:u<10
    · rw [Lib.decDigits_one h];simp
    · rw [Lib.decDigits,dif_neg h,List.length_append]
      have:=ih (u / 10) (by rw [Nat.pow_succ] at hu;omega)
      simp only [List.length_singleton]
      omega
 unfold Lib.itoa;rw [if_neg (by omega)];exact hd 19 n.toNat (by omega)
end ch
namespace un
open Go.RowKit dec
structure Tabs (w:World):Prop where
 ten:Lib.TabIs Tryz.prog w "internal/strconv.uint64pow10" .u64 Lib.pow10Tab
 syn:∃ tp p,w.var? Tryz.prog "strconv.ErrSyntax" = some #[.iface tp p]
 ran:∃ tp p,w.var? Tryz.prog "strconv.ErrRange" = some #[.iface tp p]
theorem GJ:Tryz.prog.globalNamed "strconv.ErrSyntax" = some 7:=by kernel_rfl
theorem GK:Tryz.prog.globalNamed "strconv.ErrRange" = some 8:=by kernel_rfl
theorem Iq {W W':World} {nm:String} {q:IntKind} {tab:List Int} (h:Lib.TabIs Tryz.prog W nm q tab) (hb:Below W.heap.size W W'):Lib.TabIs Tryz.prog W' nm q tab:=by
 unfold Lib.TabIs at *
 cases hg:Tryz.prog.globalNamed nm with
 | none=>unfold World.var? at h;simp [hg] at h
 | some g=>exact Go.Joins.var_stays hg h hb lr
theorem Tabs.stays {w w':World} (h:Tabs w) (hb:Below w.heap.size w w'):Tabs w':=by
 obtain ⟨tp,p,h1⟩:=h.syn;obtain ⟨tq,q,h2⟩:=h.ran;exact ⟨Iq h.ten hb,⟨tp,p,Go.Joins.var_stays GJ h1 hb lr⟩,⟨tq,q,Go.Joins.var_stays GK h2 hb lr⟩⟩
theorem iK (w:World) (e:TypeId) (s:ByteArray):Below w.heap.size w (Lib.bytesWorld w e s):=by
 refine ⟨rfl,rfl,rfl,?_,fun j hj=>Lib.bytesWorld_at_old w e s j hj⟩;rw [Lib.bytesWorld_size];omega
theorem Cb (s:ByteArray) (hs:s.size≤281474976710656) (w:World) (T:Tabs w) :
    Calls Tryz.prog 143 #[.string s] w fun e w' => ∃ x,e=.returned (.tuple #[.int .i64 (jr s.data.toList),x])∧Below w.heap.size w w':=by
 unfold jr;rcases h:Lib.atoiAll s.data.toList with v | _ | _
 ·refine (Tryz.strconv_Atoi_ok s (by omega) v h w).mono ?_;rintro e w' ⟨rfl,rfl | ⟨t,rfl⟩⟩
  ·exact ⟨_,rfl,b0 _⟩
  exact ⟨_,rfl,iK _ _ _⟩
 ·obtain ⟨tp,p,h1⟩:=T.syn;refine (Tryz.strconv_Atoi_syntax_var s (by omega) h tp p w h1).mono ?_;rintro e w' ⟨N,rfl,h2⟩;exact ⟨_,rfl,h2.2.2⟩
 obtain ⟨tp,p,h1⟩:=T.ran;refine (Tryz.strconv_Atoi_range_var s (by omega) h tp p w h1).mono ?_;rintro e w' ⟨N,rfl,h2⟩;exact ⟨_,rfl,h2.2.2⟩
theorem oP (n:Int) (h0 : -9223372036854775808≤n) (h1:n≤9223372036854775807) (w:World) (T:Tabs w) :
    Calls Tryz.prog 56 #[.int .i64 n] w fun e w' => e=.returned (.string ⟨(Lib.itoa n).toArray⟩)∧Below w.heap.size w w':=by
 refine (Tryz.strconv_Itoa n h0 h1 w T.ten).mono ?_;rintro e w' ⟨rfl,k,os,rfl⟩;exact ⟨rfl,below_regrown w (w.drewN k).drawn os⟩
theorem oo (x y:List UInt8) (hx:x.length≤2097152) (hy:y.length≤2097152) (W:World):(Op.stringOp .add ⟨x.toArray⟩ ⟨y.toArray⟩).run Tryz.prog W=.ok (.string ⟨(x++y).toArray⟩) W:=run_string_add_lists W x y (by omega) (by omega)
theorem Mi:∀ (k u:Nat),u<10 ^ (k+1)→Lib.nDigits u≤k+1
 | 0,u,h=>by rw [Lib.nDigits_small (by simpa using h)];omega
 | k+1,u,h=>by
  by_cases h9:u<10
  ·rw [Lib.nDigits_small h9];omega
  ·rw [Lib.nDigits_big h9]
   have:=Mi k (u / 10) (by rw [Nat.pow_succ] at h;omega)
   omega
theorem Ls (n:Int) (h0 : -9223372036854775808≤n) (h1:n≤9223372036854775807):(Lib.itoa n).length≤20:=by
 have hd:∀ u:Nat,u<10000000000000000000→(Lib.decDigits u).length≤19:=fun u hu=>by
  rw [Lib.decDigits_eq,List.length_map,List.length_range];rcases Nat.lt_or_ge (Lib.nDigits u) 20 with h | h
  ·omega
  exfalso;have:=Mi 18 u (by omega);omega
 unfold Lib.itoa;split
 ·rw [List.length_cons];have:=hd n.natAbs (by omega);omega
 have:=hd n.toNat (by omega);omega
theorem G8 (x:Fa) (hs:x.1.size≤1048576) (h0 : -9223372036854775808≤x.2) (h1:x.2≤9223372036854775807) (w:World) (T:Tabs w) :
    Calls Tryz.prog 230 #[.agg #[.string x.1,.int .i64 x.2]] w fun e w' => e=.returned (.string ⟨(f1 x).toArray⟩)∧Below w.heap.size w w':=by
 have I:=Hy (fun W (h:Below w.heap.size w W)=>oP x.2 h0 h1 W (T.stays h));have L:=Ls x.2 h0 h1;by_cases hx:x.2=1
 ·have q1:(x.2==1)=true:=beq_iff_eq.2 hx;have hr:=Hy (show f1 x=x.1.data.toList by unfold f1;rw [if_pos hx]);clear I hx L h0 h1 T hs;generalize x.2=y at *
  go_enter Tryz.func230,Tryz.ntmps230
  go_wp2_with fail;go_ret;exact ⟨by rw [hr.o];rfl,au (b0 w) _⟩
 have q1:(x.2==1)=false:=bF hx;have hr:=Hy (show (⟨(f1 x).toArray⟩:ByteArray)=⟨(x.1.data.toList++94 :: Lib.itoa x.2).toArray⟩ by unfold f1;rw [if_neg hx]);have hsz:x.1.data.toList.length≤1048576:=by rw [← Lib.size_eq];exact hs
 have A:=oo x.1.data.toList [94] (by omega) (by simp);replace A:∀ W,(Op.stringOp .add x.1 ⟨#[94]⟩).run Tryz.prog W=.ok (.string ⟨(x.1.data.toList++[94]).toArray⟩) W:=A;have B:=oo (x.1.data.toList++[94]) (Lib.itoa x.2) (by rw [List.length_append];simp;omega) (by omega);rw [show x.1.data.toList++[94]++Lib.itoa x.2=x.1.data.toList++94 :: Lib.itoa x.2 by simp] at B;have C0:=Hy ((Bw.new w x 82).c0);have C1:=Hy ((Bw.new w x 82).c1);have BB:=Hy (au (b0 w) (.cells #[.string x.1,.int .i64 x.2] 82));clear hx L h0 h1 T hs hsz;generalize x.1.data.toList++94 :: Lib.itoa x.2=l3 at *;generalize (⟨(x.1.data.toList++[94]).toArray⟩:ByteArray)=s1 at *;generalize (⟨(Lib.itoa x.2).toArray⟩:ByteArray)=s2 at *;generalize (⟨l3.toArray⟩:ByteArray)=s3 at *
 go_enter Tryz.func230,Tryz.ntmps230
 go_wp2_with fail;generalize w.alloc (.cells #[.string x.1,.int .i64 x.2] 82)=W1 at *;have c0:=cell_regrown C0.o;have c1:=cell_regrown C1.o;have K1:=Hy (fun d os=>Calls.regrown_of (I.o (Sort.grow (redrawn W1 d) os) (aA BB.o (below_regrown W1 d os))));clear C0 C1 I;refine wp_region_quiet_below (by kernel_rfl) (by kernel_rfl) ?_
 repeat (first | go_big_quiet_skip | (go_big_quiet_want;go_big_quiet_op;go_big_quiet_on) | quiet_step ((first | (go_at_call 56;exact K1.o _ _))))
 refine wpQuiet_nil ?_;intro w9 hw9;have hb9:=jd hw9;clear hw9 K1 c0 c1;go_wp2_with fail;go_ret;exact ⟨by rw [hr.o];rfl,aA BB.o hb9⟩
theorem vG:(Tryz.prog.info? 9).map (fun i=>(i.zero,i.size,i.bytes))=some (some (.string ByteArray.empty),1,16):=by kernel_rfl
def OS (w:World) (base:Nat) (v:Value) (l:List ByteArray):Prop:=w.ownsRow base 9 1 v l.length (l.map Value.string)
theorem OS.nil (w:World) (base:Nat):OS w base (.slice none 0 0) []:=World.ownsRow_nil _ _ _ _
theorem OS.keeps {w w1:World} {base:Nat} {v:Value} {l:List ByteArray} (h:OS w base v l) (hb:Below w.heap.size w w1):OS w1 base v l:=by
 obtain ⟨h1,h2⟩:=h;refine ⟨h1,?_⟩;rcases h2 with h0 | ⟨g,cap,cur,e,hbg,hh,r⟩
 ·exact .inl h0
 refine .inr ⟨g,cap,cur,e,hbg,?_,r⟩;have:g<w.heap.size:=by
  rcases Nat.lt_or_ge g w.heap.size with h' | h'
  ·exact h'
  rw [Array.getElem?_eq_none h'] at hh;cases hh
 rw [hb.block _ this];exact hh
theorem eU (w:World) {ops:Array Oper} {rest:List Oper} {o:Oper} {a:Act} {Q:Exit→Act→World→Prop} (hgd:o.guard=none) (s x:Operand)
    (ho:o.op=.call { callee:=.builtin .append,args:=#[s,x],argTypes:=#[97,97] })
    (base:Nat) (v:Value) (l:List ByteArray) (hs:a.eval s=v) (hown:OS w base v l) (b:Nat) (t:ByteArray) (hx:a.eval x=.slice (some ⟨b,0,none⟩) 1 1) (hB:w.cell? ⟨b,0,none⟩=some (.string t))
    (hn:l.length<5864062014805) (hbase:base≤w.heap.size)
    (h:∀ v' w',OS w' base v' (l++[t])→Below base w w'→wpList Tryz.prog ops Q rest (a.put o.dst v') w'):wpList Tryz.prog ops Q (o :: rest) a w:=by
 refine wpList_plain hgd fun _ hK=>?_;obtain ⟨i,hi,hz0,hz1,hz2⟩:=info_parts vG
 refine wp_append_own w s x 97 ho base 9 i (.string ByteArray.empty) 1 16 Tryz.underlying97 hi hz0 hz1 hz2 rfl (by decide) v l.length (l.map Value.string) hs hown ⟨b,0,none⟩ 1 1 [.string t] hx rfl ?_ (fun u hu=>by simp at hu;subst hu;rfl)
   (by unfold maxLen;omega) (by omega) hbase fun v' w' h1 h2 _=>hK _ _ (h v' w' (by unfold OS;rw [List.map_append,List.length_append];exact h1) ((Below.refl base w).grown h2 hbase fun k hk=>(hown.lt k hk).1))
 intro j u hu
 match j,hu with
 | 0,hu=>simp at hu;subst hu;exact hB
 | j+1,hu=>simp at hu
theorem jK {w:World} {ops:Array Oper} {rest:List Oper} {o:Oper} {a:Act} {Q:Exit→Act→World→Prop} (s x:Operand) (_:o.op=.call { callee:=.builtin .append,args:=#[s,x],argTypes:=#[97,97] })
  (k:wpList Tryz.prog ops Q (o :: rest) a w):wpList Tryz.prog ops Q (o :: rest) a w:=k
theorem kE (v:Value) (l:List ByteArray) (base:Nat) (w:World) (hO:OS w base v l) (hn:l.length<5864062014805) (hl:(Lib.join (l.map (·.data.toList)) [42]).length≤140737488355328) :
    Calls Tryz.prog 57 #[v,.string ⟨#[42]⟩] w fun e w' => e=.returned (.string ⟨(Lib.join (l.map (·.data.toList)) [42]).toArray⟩)∧Below w.heap.size w w':=by
 obtain ⟨h1,h2⟩:=id hO;rcases h2 with ⟨rfl,h0⟩ | ⟨g,cap,cur,rfl,hbg,hh,hc,hm,hs,ht⟩
 ·have hz:l=[]:=List.eq_nil_of_length_eq_zero h0;subst hz;refine (Tryz.strings_Join_none none 0 ⟨#[42]⟩ w).mono ?_;rintro e w' ⟨rfl,rfl⟩;exact ⟨rfl,b0 _⟩
 refine (Tryz.strings_Join g 0 cap l ⟨#[42]⟩ w (fun j x hx=>?_) (hO.lt g rfl).2 (by omega) hc hl).mono ?_
 ·have hj:j<l.length:=(List.getElem?_eq_some_iff.1 hx).1;rw [Nat.zero_add,World.ownsRow.cellAt hO j (by simpa using hj),List.getElem?_map,hx];rfl
 rintro e w' ⟨rfl,hb⟩;exact ⟨rfl,hb⟩
theorem J3 (l:List Fa):(l.map fun x=>(⟨(f1 x).toArray⟩:ByteArray)).map (·.data.toList)=l.map f1:=by
 rw [List.map_map];rfl
theorem oV (a:Option Addr) (n cap:Nat) (l:List Fa) (w:World) (hS:Sl w a n cap l) (hx:∀ x ∈ l,-9223372036854775808≤x.2∧x.2≤9223372036854775807) (hz:∀ x ∈ l,x.1.size≤1048576) (hlen:l.length<5864062014805) (ht:(fT l).length≤140737488355328) (T:Tabs w) :
    Calls Tryz.prog 163 #[.slice a n cap] w fun e w' => e=.returned (.string ⟨(fT l).toArray⟩)∧Below w.heap.size w w':=by
 have S0:=Hy hS;have X0:=Hy hx;have Z0:=Hy hz;have N0:=Hy hlen;have T0:=Hy T;have J0:=Hy (fun v W h=>kE v (l.map fun x=>(⟨(f1 x).toArray⟩:ByteArray)) w.heap.size W h (by rw [List.length_map];exact hlen) (by rw [J3];exact ht));rw [J3] at J0;clear hS hx hz hlen T ht
 go_enter Tryz.func163,Tryz.ntmps163
 go_wp2_with fail
 go_loopw [3,8] (fun vu vi wr => ∃ j:Nat,vi=.int .i64 (j:Nat)∧Hid (j≤n)∧Hid (OS wr w.heap.size vu ((l.take j).map fun x=>(⟨(f1 x).toArray⟩:ByteArray)))∧Hid (Below w.heap.size w wr)) (fun _ vi _=>n - (intOf vi).toNat)
 case atStart=>exact ⟨0,rfl,Hy zl,Hy (OS.nil _ _),Hy (b0 w)⟩
 case round =>
  obtain ⟨j,rfl,hj,hO,hb⟩:=hrel;by_cases hc:j<n
  ·have hln:=Hy (show j<l.length by have:=S0.o.hn;omega);obtain ⟨bk,off,rfl,hC⟩:=(S0.o.keeps hb.o).hat.resolve_left (by have:=hln.o;omega);obtain ⟨c0,c1⟩:=hC j hln.o;have q2:decide ((j:Int)<(n:Int))=true:=dT (by omega);have q3:j<n:=hc;have f4:=Hy (aS (j:=j) (by have:=S0.o.hcap;have:=S0.o.hmax;omega));have hm:=jl hln.o;have FC:=Hy (fun W (h:Below w.heap.size w W)=>G8 (gt l j) (Z0.o _ hm) (X0.o _ hm).1 (X0.o _ hm).2 W (T0.o.stays h));have hn:=Hy (gL hln.o);have hl8:=Hy (show ((l.take j).map fun x=>(⟨(f1 x).toArray⟩:ByteArray)).length<5864062014805 by have:=N0.o;simp;omega);clear hC hm;generalize gt l j=x at c0 c1 hn FC;have BB:=Hy (au hb.o (.cells #[.string x.1,.int .i64 x.2] 82));have OO:=Hy (hO.o.keeps (au (b0 wr) (.cells #[.string x.1,.int .i64 x.2] 82)));generalize hs1:(⟨(f1 x).toArray⟩:ByteArray)=s1 at FC;replace hs1:=Hy hs1;go_wp2_with fail;refine (FC.o _ BB.o).mono ?_;rintro e w3 ⟨rfl,b3⟩;have B3:=Hy (aA BB.o b3);have O3:=Hy (OO.o.keeps b3);clear b3 BB OO;go_wp2_with (at_builtin;refine jK (.tmp 12) (.tmp 15) rfl ?_;refine eU _ rfl (.tmp 12) (.tmp 15) rfl w.heap.size _ _ rfl (O3.o.keeps (au (b0 w3) _)) w3.heap.size s1 rfl (by simp [go_sem]) hl8.o (by have:=B3.o.size;simp;omega) ?_;intro v2 w6 O6 b6);have B6:=Hy ((au B3.o (.cells #[.string s1] 9)).trans b6);have O7:=Hy (show OS w6 w.heap.size v2 ((l.take (j+1)).map fun x=>(⟨(f1 x).toArray⟩:ByteArray)) by rw [hn.o,List.map_append,List.map_singleton,hs1.o];exact O6);clear b6 O6;go_wp2_with fail;refine ⟨⟨j+1,congrArg (Value.int .i64) f4.o,Hy hc,O7,B6⟩,aN hc f4.o⟩
  have q2:decide ((j:Int)<(n:Int))=false:=dF (by omega);have hO2:=Hy hO.o;rw [show l.take j=l from List.take_of_length_le (by have:=S0.o.hn;omega)] at hO2;clear hO;go_wp2_with fail;refine (J0.o _ _ hO2.o).mono ?_;rintro e w7 ⟨rfl,b7⟩;have B7:=Hy (aA hb.o b7);clear b7;go_wp2_with fail;go_ret;exact ⟨rfl,B7.o⟩
end un
namespace ch
open Go.RowKit dec
def Sr (s:ByteArray) (w:World) (e:Ending) (w':World):Prop:=e=.returned (.string s)∧Below w.heap.size w w'
theorem mR {a b:ByteArray} {w w':World} (h:a=b) (hb:Below w.heap.size w w'):Sr b w (.returned (.string a)) w':=⟨by rw [h],hb⟩
def B8 (l:List UInt8):ByteArray:=⟨l.toArray⟩
theorem dB (l:List UInt8):(B8 l).data.toList=l:=rfl
theorem FD (l:List UInt8):(B8 l).size=l.length:=by rw [← aI];rfl
theorem fB (x y:List UInt8) (hx:x.length≤1000000000000000000) (hy:y.length≤1000000000000000000) (W:World):(Op.stringOp .add (B8 x) (B8 y)).run Tryz.prog W=.ok (.string (B8 (x++y))) W:=by
 rw [run_string_add_sum W _ _ (by rw [FD,FD];omega)];rfl
structure Ss (w:World) (a:Option Addr) (n cap:Nat) (l:List ByteArray):Prop where
 hat:l.length=0∨∃ b off,a=some ⟨b,off,none⟩∧∀ j (h:j<l.length),w.cell? ⟨b,off+j,none⟩=some (.string l[j])
 hn:l.length=n
 hcap:n≤cap
 hmax:cap≤9223372036854775807
theorem Ss.keeps {w w':World} {a:Option Addr} {n cap:Nat} {l:List ByteArray} (h:Ss w a n cap l) (hb:Below w.heap.size w w'):Ss w' a n cap l :=
 { h with hat:=h.hat.imp id fun ⟨b,off,e,hc⟩=>⟨b,off,e,fun j hj=>dec.keeps hb (hc j hj)⟩ }
theorem Ss.new (w:World) (l:List ByteArray) (n:Nat) (cs:Array Value) (hn:l.length=n) (hcs:cs=(l.map Value.string).toArray) (hm:n≤1000000) (T:TypeId):Ss (w.alloc (.cells cs T)) (some ⟨w.heap.size,0,none⟩) n n l:=by
 refine ⟨.inr ⟨w.heap.size,0,rfl,fun j hj=>?_⟩,hn,Nat.le_refl _,by omega⟩;have:=(Blk.new w T cs).cell (0+j);rw [this,hcs];simp [hj]
def nel (l:List ByteArray):List ByteArray:=l.filter fun s=>decide (s≠.empty)
def wrd (l:List ByteArray):List UInt8:=Lib.join ((nel l).map (·.data.toList)) [32]
theorem uZ (a b:List ByteArray):nel (a++b)=nel a++nel b:=List.filter_append ..
theorem tH (sep:ByteArray) (v:Value) (l:List ByteArray) (base:Nat) (w:World) (hO:un.OS w base v l) (hn:l.length<5864062014805) (hl:(Lib.join (l.map (·.data.toList)) sep.data.toList).length≤140737488355328) :
    Calls Tryz.prog 57 #[v,.string sep] w (Sr (B8 (Lib.join (l.map (·.data.toList)) sep.data.toList)) w):=by
 obtain ⟨h1,h2⟩:=id hO;rcases h2 with ⟨rfl,h0⟩ | ⟨g,cap,cur,rfl,hbg,hh,hc,hm,hs,ht⟩
 ·have hz:l=[]:=List.eq_nil_of_length_eq_zero h0;subst hz;refine (Tryz.strings_Join_none none 0 sep w).mono ?_;rintro e w' ⟨rfl,rfl⟩;exact ⟨rfl,b0 _⟩
 refine (Tryz.strings_Join g 0 cap l sep w (fun j x hx=>?_) (hO.lt g rfl).2 (by omega) hc hl).mono ?_
 ·have hj:j<l.length:=(List.getElem?_eq_some_iff.1 hx).1;rw [Nat.zero_add,World.ownsRow.cellAt hO j (by simpa using hj),List.getElem?_map,hx];rfl
 rintro e w' ⟨rfl,hb⟩;exact ⟨rfl,hb⟩
theorem AO {l:List ByteArray} {j:Nat} (hj:j<l.length) (h:l[j]≠.empty):nel (l.take (j+1))=nel (l.take j)++[l[j]]:=by
 rw [List.take_succ_eq_append_getElem hj,uZ];congr 1;unfold nel;simp [h]
theorem CZ {l:List ByteArray} {j:Nat} (hj:j<l.length) (h:l[j]=.empty):nel (l.take (j+1))=nel (l.take j):=by
 rw [List.take_succ_eq_append_getElem hj,uZ];unfold nel;simp [h]
theorem fE (a:Option Addr) (n cap:Nat) (l:List ByteArray) (w:World) (hS:Ss w a n cap l) (hm:n≤1000000) (hz:(wrd l).length≤100000000):Calls Tryz.prog 55 #[.slice a n cap] w (Sr (B8 (wrd l)) w):=by
 have S0:=Hy hS;have HM:=Hy hm;have J0:=Hy (fun v W h=>tH ⟨#[32]⟩ v (nel l) w.heap.size W h (by have:=List.length_filter_le (fun s:ByteArray=>decide (s≠.empty)) l;have:=hS.hn;unfold nel;omega) (show (wrd l).length≤_ by omega));have hJ:=Hy (show B8 (Lib.join ((nel l).map (·.data.toList)) (⟨#[32]⟩:ByteArray).data.toList)=B8 (wrd l) from rfl);rw [hJ.o] at J0;generalize B8 (wrd l)=r at *;clear hS hm hz hJ
 go_enter Tryz.func55,Tryz.ntmps55
 go_wp2_with fail
 go_loopw [3,8] (fun vu vi wr => ∃ j:Nat,vi=.int .i64 (j:Nat)∧Hid (j≤n)∧Hid (un.OS wr w.heap.size vu (nel (l.take j)))∧Hid (Below w.heap.size w wr)) (fun _ vi _=>n - (intOf vi).toNat)
 case atStart=>exact ⟨0,rfl,Hy zl,Hy (un.OS.nil _ _),Hy (b0 w)⟩
 case round =>
  obtain ⟨j,rfl,hj,hO,hb⟩:=hrel;by_cases hc:j<n
  ·have hln:=Hy (show j<l.length by have:=S0.o.hn;omega);obtain ⟨bk,off,rfl,hC⟩:=(S0.o.keeps hb.o).hat.resolve_left (by have:=hln.o;omega);have c0:=hC j hln.o;have q2:decide ((j:Int)<(n:Int))=true:=dT (by omega);have q3:j<n:=hc;have f4:=Hy (aS (j:=j) (by have:=S0.o.hcap;have:=S0.o.hmax;omega));have hl8:=Hy (show (nel (l.take j)).length<5864062014805 by have h1:=List.length_filter_le (fun s:ByteArray=>decide (s≠.empty)) (l.take j);have h2:=HM.o;rw [List.length_take] at h1;unfold nel;omega);clear hC;by_cases he:l[j]'hln.o=.empty
   ·have hn:=Hy (CZ hln.o he);have q5:=eqE (l[j]'hln.o);rw [dT he] at q5;replace he:=Hy he;replace hO:=Hy (show un.OS wr w.heap.size u3 (nel (l.take (j+1))) by rw [hn.o];exact hO.o);clear hn hl8;generalize l[j]'hln.o=x at *;go_wp2_with fail;refine ⟨⟨j+1,congrArg (Value.int .i64) f4.o,Hy hc,hO,hb⟩,aN hc f4.o⟩
   have hn:=Hy (AO hln.o he);have q5:=eqE (l[j]'hln.o);rw [dF he] at q5;replace he:=Hy he;generalize l[j]'hln.o=x at *;go_wp2_with (at_builtin;refine un.jK (.tmp 14) (.tmp 16) rfl ?_;refine un.eU _ rfl (.tmp 14) (.tmp 16) rfl w.heap.size _ _ rfl (hO.o.keeps (au (b0 wr) _)) wr.heap.size x rfl (by simp [go_sem]) hl8.o (by have:=hb.o.size;simp;omega) ?_;intro v2 w6 O6 b6);have B6:=Hy ((au hb.o (.cells #[.string x] 9)).trans b6);have O7:=Hy (show un.OS w6 w.heap.size v2 (nel (l.take (j+1))) by rw [hn.o];exact O6);clear b6 O6;go_wp2_with fail;refine ⟨⟨j+1,congrArg (Value.int .i64) f4.o,Hy hc,O7,B6⟩,aN hc f4.o⟩
  have q2:decide ((j:Int)<(n:Int))=false:=dF (by omega);have hO2:=Hy hO.o;rw [show l.take j=l from List.take_of_length_le (by have:=S0.o.hn;omega)] at hO2;clear hO;go_wp2_with fail;refine (J0.o _ _ hO2.o).mono ?_;rintro e w7 ⟨rfl,b7⟩;have B7:=Hy (aA hb.o b7);clear b7;go_wp2_with fail;go_ret;exact mR rfl B7.o
abbrev Pc:=Bool × Int × ByteArray
def tk0 (p:Pc):Tk:=⟨p.2.1,p.2.2,0⟩
def pcB:List Pc→List UInt8
 | []=>[]
 | p :: l=>(if p.1=true then [32] else [])++(so (tk0 p)++pcB l)
theorem gZ (p:Pc) (l:List Pc):pcB (p :: l)=(if p.1=true then [32] else [])++(so (tk0 p)++pcB l):=rfl
theorem jI:∀ a b:List Pc,pcB (a++b)=pcB a++pcB b
 | [],_=>rfl
 | p :: a,b=>by rw [List.cons_append,gZ,gZ,jI a b];simp only [List.append_assoc]
def Hf (l:List Pc):Prop:=∃ q t,l=(false,q) :: t
def sp:List Pc→List Pc
 | []=>[]
 | p :: l=>(true,p.2) :: l
theorem Jf {l:List Pc} (h:Hf l):pcB (sp l)=32 :: pcB l:=by
 obtain ⟨q,t,rfl⟩:=h;rfl
def clo (p:Pc):Bool:=decide (p.2.1=5) && !decide (p.2.2.data.toList.head? = some 61)
def opn (p:Pc):Bool:=decide (p.2.1=5) && [(⟨#[40]⟩:ByteArray),⟨#[45]⟩,⟨#[64]⟩,⟨#[91]⟩,⟨#[94]⟩,⟨#[42]⟩].any fun s=>decide (p.2.2=s)
def wf:Bool→List Pc→Bool
 | _,[]=>true
 | o,p :: l=>(p.1 || (o || clo p)) && (pr (tk0 p) && wf (opn p) l)
theorem gK {o:Bool} {p:Pc} {l:List Pc} : wf o (p :: l)=true↔(p.1=true∨o=true∨clo p=true)∧pr (tk0 p)=true∧wf (opn p) l=true:=by
 show ((p.1 || (o || clo p)) && (pr (tk0 p) && wf (opn p) l))=true↔_;simp only [Bool.and_eq_true,Bool.or_eq_true]
theorem Ib {o:Bool} {l:List Pc} (h:wf false l=true):wf o l=true:=by
 cases l with
 | nil=>rfl
 | cons p l =>
   rw [gK] at h ⊢
   exact ⟨h.1.imp id fun h=>.inr (h.resolve_left (by decide)),h.2⟩
theorem Dx {o:Bool} {l:List Pc} (h:wf o l=true):wf true l=true:=by
 cases l with
 | nil=>rfl
 | cons p l =>
   rw [gK] at h ⊢
   exact ⟨.inr (.inl rfl),h.2⟩
theorem pQ:∀ (a b:List Pc) (o:Bool),wf o a=true→wf false b=true→wf o (a++b)=true
 | [],_,_,_,h=>Ib h
 | p :: a,b,o,h1,h2=>by
  rw [List.cons_append]
  rw [gK] at h1 ⊢
  exact ⟨h1.1,h1.2.1,pQ a b _ h1.2.2 h2⟩
theorem uE {l:List Pc} (h:wf true l=true):wf false (sp l)=true:=by
 cases l with
 | nil=>rfl
 | cons p l =>
   rw [gK] at h
   exact gK.2 ⟨.inl rfl,h.2⟩
def Nx (y:List UInt8):Prop:=y=[]∨∃ c r,y=c :: r∧isW c=false∧isD c=false∧c.toNat≠46∧c.toNat≠61
theorem NU {x:Tk} (h:pr x=true) (hk:x.k=5) (h61:(so x).head?≠some 61) (y:List UInt8):Nx (so x++y):=by
 have h1:=((gP x).1 h).1;rw [hk] at h1
 cases hs:so x with
 | nil=>rw [hs] at h1;exact absurd (congrArg Prod.fst h1) (by decide)
 | cons c q =>
   rw [hs] at h1 h61
   right
   refine ⟨c,q++y,rfl,?_⟩
   have hc61:c.toNat≠61:=fun e=>h61 (by rw [List.head?_cons];congr 1;exact UInt8.toNat_inj.1 e)
   rw [bn] at h1
   by_cases hl:isL c=true
   · rw [if_pos hl] at h1;exact absurd (congrArg Prod.fst h1) (by simp)
   · rw [if_neg hl] at h1
     by_cases hd:isD c=true
     · rw [if_pos hd] at h1
       split at h1 <;> exact absurd (congrArg Prod.fst h1) (by simp)
     · rw [if_neg hd] at h1
       split at h1
       · exact absurd (congrArg Prod.fst h1) (by simp)
       · have hcs:(c.toNat=61∨c.toNat=33∨c.toNat=60)∨isS c=true:=by
           rw [dH] at h1
           split at h1
           · rename_i h;exact .inl h.1
           · split at h1
             · rename_i h;exact .inr h
             · exact absurd (congrArg Prod.fst h1) (by simp)
         have hn:c.toNat≠95∧c.toNat≠46:=by
           rcases hcs with h | h
           · omega
           · unfold isS at h
             simp only [List.mem_cons,List.not_mem_nil,or_false,decide_eq_true_eq] at h
             omega
         refine ⟨?_,by simpa using hd,hn.2,hc61⟩
         unfold isW
         rw [Bool.eq_false_iff.2 hl,Bool.eq_false_iff.2 hd,dF hn.1]
         rfl
theorem Nr {x:Tk} (h:pr x=true) {y:List UInt8} (hy:Nx y):shp (so x++y)=(x.k,(so x).length):=by
 have h1:=((gP x).1 h).1;rcases hy with rfl | ⟨c,r,rfl,hW,hD,h46,h61⟩
 ·rw [List.append_nil];exact h1
 have hk:=rE h;generalize so x=s at h1 ⊢;generalize x.k=k at h1 hk ⊢
 cases s with
 | nil =>
   have:k=0:=(congrArg Prod.fst h1).symm
   omega
 | cons d q =>
   rw [List.cons_append]
   rw [bn] at h1 ⊢
   by_cases hl:isL d=true
   · rw [if_pos hl] at h1 ⊢
     rw [← List.cons_append,gD hW]
     exact h1
   · rw [if_neg hl] at h1 ⊢
     by_cases hd:isD d=true
     · rw [if_pos hd] at h1 ⊢
       rw [← List.cons_append,gD hD]
       by_cases hp:pnt ((d :: q).drop (run isD (d :: q)))=0
       · rw [if_pos hp] at h1
         have hlen:run isD (d :: q)=(d :: q).length:=congrArg Prod.snd h1
         have e:((d :: q)++c :: r).drop (run isD (d :: q))=c :: r:=by rw [hlen];exact List.drop_left
         rw [e,iR,if_neg h46,if_pos rfl]
         exact h1
       · rw [if_neg hp] at h1
         obtain ⟨e,z,hz,he,hq⟩:=Aq hp
         have hle:=iP isD (d :: q)
         have e1:((d :: q)++c :: r).drop (run isD (d :: q))=e :: (z++c :: r):=by
           rw [List.drop_append_of_le_length hle,hz]
           rfl
         have e2:pnt (e :: (z++c :: r))=run isD z:=by rw [iR,if_pos he,gD hD]
         rw [e1,e2,← hq,if_neg hp]
         exact h1
     · rw [if_neg hd] at h1 ⊢
       by_cases ht:d.toNat=34∧(q.drop (run isQ q)).head? = some 34
       · rw [if_pos ht] at h1
         have hs:=oC ht.2
         have e1:run isQ (q++c :: r)=run isQ q:=by
           conv=>lhs;rw [hs]
           rw [List.append_assoc,List.cons_append,gD (by decide),sS]
           omega
         have e2:((q++c :: r).drop (run isQ q)).head? = some 34:=by
           rw [List.drop_append_of_le_length (iP _ _)]
           cases hz:q.drop (run isQ q) with
           | nil=>rw [hz] at ht;cases ht.2
           | cons a b=>rw [hz] at ht;exact ht.2
         rw [e1,if_pos ⟨ht.1,e2⟩]
         exact h1
       · rw [if_neg ht] at h1
         have hne:¬ (d.toNat=34∧((q++c :: r).drop (run isQ (q++c :: r))).head? = some 34):=by
           intro hh
           rw [dH] at h1
           split at h1
           · rename_i hh2;exact qZ (.inr hh2.1) hh.1
           · split at h1
             · rename_i hh2;exact qZ (.inl hh2) hh.1
             · have:k=0:=(congrArg Prod.fst h1).symm
               omega
         rw [if_neg hne]
         rw [dH] at h1 ⊢
         by_cases h2:(d.toNat=61∨d.toNat=33∨d.toNat=60)∧q.head? = some 61
         · rw [if_pos h2] at h1
           rw [if_pos ⟨h2.1,by cases q with
             | nil=>cases h2.2
             | cons a b=>exact h2.2⟩]
           exact h1
         · rw [if_neg h2] at h1
           by_cases hS:isS d=true
           · rw [if_pos hS] at h1
             have hq:q=[]:=by
               have:(1:Nat)=(d :: q).length:=congrArg Prod.snd h1
               rw [List.length_cons] at this
               exact List.eq_nil_of_length_eq_zero (by omega)
             subst hq
             rw [if_neg (by
               rintro ⟨_,hh⟩
               apply h61
               have:c=61:=by simpa using hh
               rw [this];rfl),if_pos hS]
             exact h1
           · rw [if_neg hS] at h1
             have:k=0:=(congrArg Prod.fst h1).symm
             omega
theorem Nq {p:Pc} (h:opn p=true) (y:List UInt8):shp (so (tk0 p)++y)=(5,(so (tk0 p)).length):=by
 obtain ⟨b,k,t⟩:=p;unfold opn at h;simp only [Bool.and_eq_true,decide_eq_true_eq,List.any_cons,List.any_nil,Bool.or_eq_true,Bool.or_false] at h;obtain ⟨rfl,h⟩:=h;have key:∀ c:UInt8,isL c=false→isD c=false→c.toNat≠34→¬ (c.toNat=61∨c.toNat=33∨c.toNat=60)→isS c=true→shp (c :: y)=(5,1):=by
  intro c h1 h2 h3 h4 h5;rw [bn,if_neg (by rw [h1];decide),if_neg (by rw [h2];decide),if_neg (fun h=>h3 h.1),dH,if_neg (fun h=>h4 h.1),if_pos h5]
 rcases h with rfl | rfl | rfl | rfl | rfl | rfl
 ·exact key 40 (by decide) (by decide) (by decide) (by decide) (by decide)
 ·exact key 45 (by decide) (by decide) (by decide) (by decide) (by decide)
 ·exact key 64 (by decide) (by decide) (by decide) (by decide) (by decide)
 ·exact key 91 (by decide) (by decide) (by decide) (by decide) (by decide)
 ·exact key 94 (by decide) (by decide) (by decide) (by decide) (by decide)
 exact key 42 (by decide) (by decide) (by decide) (by decide) (by decide)
theorem Mk {x:Tk} (h:pr x=true) {y:List UInt8} (hp:shp (so x++y)=(x.k,(so x).length)) (p:Nat) :
    lxs p false (so x++y)=(⟨x.k,x.t,(p:Nat)⟩ :: (lxs (p+(so x).length) false y).1,(lxs (p+(so x).length) false y).2):=by
 have hk:=rE h;obtain ⟨h1,h2⟩:=(gP x).1 h;have hk0:(shp (so x)).1≠0:=by rw [h1];show x.k≠0;omega
 have hs:=Ad hk0 y;have hne:so x++y≠[]:=by
  intro e;rw [(List.append_eq_nil_iff.1 e).1] at hk0;exact hk0 rfl
 have ht:(so x++y).take (so x).length=so x:=List.take_left;have hd:(so x++y).drop (so x).length=y:=List.drop_left;have hk1:x.k≠0:=by omega
 rw [jC (l':=so x++y) (by rw [hs,List.drop_zero]) hne,hp,hs];simp only [ht,hd,h2,if_true,xY,Nat.add_zero,dF hk1]
theorem NV {o:Bool} {l:List Pc} {y:List UInt8} (h:wf o l=true) (ho:o=false) (hy:Nx y):Nx (pcB l++y):=by
 cases l with
 | nil=>exact hy
 | cons p l =>
   obtain ⟨h1,h2,h3⟩:=gK.1 h
   rw [gZ]
   by_cases hb:p.1=true
   · rw [if_pos hb]
     exact .inr ⟨32,_,rfl,by decide,by decide,by decide,by decide⟩
   · rw [if_neg hb]
     have hc:clo p=true:=(h1.resolve_left hb).resolve_left (by rw [ho];decide)
     unfold clo at hc
     simp only [Bool.and_eq_true,decide_eq_true_eq,Bool.not_eq_true',decide_eq_false_iff_not] at hc
     rw [List.nil_append,List.append_assoc]
     refine NU h2 hc.1 ?_ _
     show (so ⟨p.2.1,p.2.2,0⟩).head?≠some 61
     unfold so
     rw [if_neg (by show ¬ p.2.1=4;omega)]
     exact hc.2
theorem xD:∀ (l:List Pc) (o:Bool) (p:Nat) (y:List UInt8),wf o l=true→Nx y →
  ∃ L,lxs p false (pcB l++y)=(L++(lxs (p+(pcB l).length) false y).1,(lxs (p+(pcB l).length) false y).2)∧L.map kt=l.map (·.2)
 | [],_,p,y,_,_=>⟨[],rfl,rfl⟩
 | q :: l,o,p,y,h,hy=>by
  obtain ⟨h1,h2,h3⟩:=gK.1 h
  have hsh:shp (so (tk0 q)++(pcB l++y))=((tk0 q).k,(so (tk0 q)).length):=by
   cases hq:opn q with
   | true =>
    rw [Nq hq]
    have:q.2.1=5:=by
     unfold opn at hq
     simp only [Bool.and_eq_true,decide_eq_true_eq] at hq
     exact hq.1
    rw [show (tk0 q).k=5 from this]
   | false=>exact Nr h2 (NV h3 hq hy)
  rw [gZ]
  by_cases hb:q.1=true
  ·rw [if_pos hb,List.append_assoc,ED JF,List.append_assoc,Mk h2 hsh]
   obtain ⟨L,e,k⟩:=xD l _ (p+[(32:UInt8)].length+(so (tk0 q)).length) y h3 hy
   refine ⟨⟨q.2.1,q.2.2,((p+[(32:UInt8)].length:Nat):Int)⟩ :: L,?_,?_⟩
   ·rw [e,show p+(([32]:List UInt8)++(so (tk0 q)++pcB l)).length=p+[(32:UInt8)].length+(so (tk0 q)).length+(pcB l).length by simp only [List.length_append];omega]
    rfl
   ·rw [List.map_cons,List.map_cons,k];rfl
  ·rw [if_neg hb,List.nil_append,List.append_assoc,Mk h2 hsh]
   obtain ⟨L,e,k⟩:=xD l _ (p+(so (tk0 q)).length) y h3 hy
   refine ⟨⟨q.2.1,q.2.2,(p:Nat)⟩ :: L,?_,?_⟩
   ·rw [e,show p+(so (tk0 q)++pcB l).length=p+(so (tk0 q)).length+(pcB l).length by simp only [List.length_append];omega]
    rfl
   ·rw [List.map_cons,List.map_cons,k];rfl
theorem xH {l:List Pc} (h:wf true l=true):∃ L,lxs 0 false (pcB l)=(L,[])∧L.map kt=l.map (·.2):=by
 obtain ⟨L,e,k⟩:=xD l true 0 [] h (.inl rfl);rw [List.append_nil,lex_nil,List.append_nil] at e;exact ⟨L,e,k⟩
end ch
end Go.Proofs.YtbahfelnbofjjaaGreatDoor
