/-
  The small functions: letters, digits, ranges, words; the reference's; units.Check; sortBy: a slice of the call's own, by name; The map of Normal: names to pairs of words; its laws; its range; What the range over the map has put together, whatever its order; The sum of wide integers, as units.Normal asks it.
-/
import Derived.Shelf.SlSortCmp.QuietGrown
import Derived.Maps.RangeWalk
import Derived.Sort.EncStr
import Derived.StringKeys
import Derived.Test.YtbpijgddfaefkaaGreatDoorK05
import Derived.Test.YtbpijgddfaefkaaGreatDoorShs
set_option maxRecDepth 100000
set_option maxHeartbeats 16000000
namespace Go.Proofs.YtbpijgddfaefkaaGreatDoor
namespace un
open Go.RowKit dec
theorem CZ (c:Int) (w:World):Calls Tryz.prog 101 #[.int .u8 c] w fun e w' => e=.returned (.bool (iU c))∧w=w':=by
 go_enter Tryz.func101,Tryz.ntmps101
 go_wp2_with fail
 all_goals go_ret
 all_goals refine ⟨bB ?_,rfl⟩
 all_goals unfold iU
 all_goals simp_all
 all_goals omega
theorem lM (c:Int) (w:World):Calls Tryz.prog 102 #[.int .u8 c] w fun e w' => e=.returned (.bool (nS c))∧w=w':=by
 go_enter Tryz.func102,Tryz.ntmps102
 go_wp2_with fail
 all_goals go_ret
 all_goals refine ⟨bB ?_,rfl⟩
 all_goals unfold nS
 all_goals simp_all
 all_goals omega
theorem vB (n:Int) (w:World):Calls Tryz.prog 62 #[.int .i64 n] w fun e w' => e=.returned (.bool (!far n))∧w=w':=by
 go_enter Tryz.func62,Tryz.ntmps62
 go_wp2_with fail
 all_goals go_ret
 all_goals refine ⟨bB ?_,rfl⟩
 all_goals unfold far
 all_goals rw [Bool.eq_iff_iff]
 all_goals simp
 all_goals omega
theorem Mk (n:Int) (w:World):Calls Tryz.prog 229 #[.int .i64 n] w fun e w' => e=.returned (.bool (far n))∧w=w':=by
 go_enter Tryz.func229,Tryz.ntmps229
 go_wp2_with fail
 all_goals go_ret
 all_goals refine ⟨bB ?_,rfl⟩
 all_goals unfold far
 all_goals simp_all
theorem Dw (s:ByteArray) {j:Nat} (hj:j<s.size):(s.data.toList.drop j).all wch=(wch s[j] && (s.data.toList.drop (j+1)).all wch):=by
 have h:j<s.data.toList.length:=by rw [← Lib.size_eq];exact hj
 rw [List.drop_eq_getElem_cons h];rfl
theorem zL (s:ByteArray) {j:Nat} (hj:s.size≤j):(s.data.toList.drop j).all wch=true:=by
 rw [List.drop_eq_nil_of_le (by rw [← Lib.size_eq];exact hj)];rfl
theorem zK (s:ByteArray) (h0:0<s.size):word s=(decide (s.size≤24) && (iU s[0].toNat && (s.data.toList.drop 0).all wch)):=by
 unfold word vY;rw [← Lib.size_eq,List.drop_zero];have h:0<s.data.toList.length:=by rw [← Lib.size_eq];exact h0
 have e:s.data.toList.headD 0=s[0]:=by
  have:=List.drop_eq_getElem_cons h;rw [List.drop_zero] at this;rw [this];rfl
 rw [e];congr 1;rw [decide_eq_decide];omega
theorem uQ (s:ByteArray) (h0:s.size=0):word s=false:=by
 unfold word vY;rw [← Lib.size_eq,h0];rfl
theorem toList_nil (s:ByteArray):(s.toList==[])=decide (s.size=0):=by
 have e:s.size=s.toList.length:=by rw [ByteArray.toList_eq];rfl
 rw [e];cases s.toList <;> rfl
theorem Du (c:UInt8):wch c=(iU c.toNat || (nS c.toNat || decide ((c.toNat:Int)=95))):=by
 unfold wch;congr 2;rw [Bool.eq_iff_iff];simp;omega
theorem aV {j:Nat} (h:j<9223372036854775807):wrap64 ((j:Int)+1)=((j+1:Nat):Int):=by unfold wrap64;omega
theorem aU {n j:Nat} (h:j<n) (f:wrap64 ((j:Int)+1)=((j+1:Nat):Int)):n - (intOf (Value.int .i64 (wrap64 ((j:Int)+1)))).toNat<n - (intOf (Value.int .i64 (j:Int))).toNat:=by
 rw [f];clear f;show n - (((j+1:Nat):Int)).toNat<n - ((j:Nat):Int).toNat;rw [Int.toNat_natCast,Int.toNat_natCast];omega
theorem sI (s:ByteArray) (w:World):Calls Tryz.prog 58 #[.string s] w fun e w' => e=.returned (.bool (word s))∧w=w':=by
 have L:=Hy CZ;have D:=Hy lM;by_cases h0:s.size=0
 ·rw [uQ s h0];have q1:(s.toList==[])=true:=by rw [toList_nil,h0];rfl
  clear L D
  go_enter Tryz.func58,Tryz.ntmps58
  go_wp2_with fail;go_ret;exact ⟨rfl,rfl⟩
 have h0':0<s.size:=by omega
 have hw:=zK s h0';have q1:(s.toList==[])=false:=by rw [toList_nil];exact dF h0
 by_cases h24:s.size≤24
 ·have q2:decide (24<(s.size:Int))=false:=dF (by omega);rw [dT h24,Bool.true_and] at hw;have hS:=Hy h24;clear h24;cases hl:iU s[0].toNat
  ·rw [hl,Bool.false_and] at hw;rw [hw]
   go_enter Tryz.func58,Tryz.ntmps58
   go_wp2_with fail;refine (L.o _ _).mono ?_;rintro e w' ⟨rfl,rfl⟩;go_wp2_with fail;go_ret;exact ⟨rfl,rfl⟩
  rw [hl,Bool.true_and] at hw;have H:=Hy hw;clear hw
  go_enter Tryz.func58,Tryz.ntmps58
  go_wp2_with fail;refine (L.o _ _).mono ?_;rintro e w' ⟨rfl,rfl⟩;go_wp2_with fail
  go_loopw [20] (fun vi wr => ∃ j:Nat,vi=.int .i64 (j:Nat)∧j≤s.size∧Hid (word s=(s.data.toList.drop j).all wch)∧w=wr) (fun vi _=>s.size - (intOf vi).toNat)
  case atStart=>exact ⟨0,rfl,by omega,H,rfl⟩
  case round =>
   obtain ⟨j,rfl,hj,hd,rfl⟩:=hrel;clear H;by_cases hc:j<s.size
   ·have hst:=hd.o;rw [Dw s hc,Du] at hst;have q3:decide ((j:Int)<(s.size:Int))=true:=dT (by omega);have f4:=Hy (aV (j:=j) (by have:=hS.o;omega));generalize hJ:((s[j].toNat:Nat):Int)=c at hst;clear hd;cases hlc:iU c
    ·cases hdc:nS c
     ·by_cases h95:c=95
      ·rw [hlc,hdc,dT h95] at hst;have q5:(c==95)=true:=beq_iff_eq.2 h95;simp only [Bool.false_or,Bool.true_and] at hst;have H:=Hy hst;clear hst h95;go_wp2_with fail;refine (L.o _ _).mono ?_;rintro e w' ⟨rfl,rfl⟩;go_wp2_with fail;refine (D.o _ _).mono ?_;rintro e w' ⟨rfl,rfl⟩;go_wp2_with fail;go_roundw
       case rel=>exact ⟨j+1,congrArg (Value.int .i64) f4.o,hc,H,trivial⟩
       case measure=>exact aU hc f4.o
      rw [hlc,hdc,dF h95] at hst;have q5:(c==95)=false:=bF h95;simp only [Bool.false_or,Bool.false_and] at hst;have H:=Hy hst;clear hst h95;go_wp2_with fail;refine (L.o _ _).mono ?_;rintro e w' ⟨rfl,rfl⟩;go_wp2_with fail;refine (D.o _ _).mono ?_;rintro e w' ⟨rfl,rfl⟩;go_wp2_with fail;go_ret;exact ⟨bB H.o.symm,rfl⟩
     rw [hlc,hdc] at hst;simp only [Bool.true_or,Bool.false_or,Bool.true_and] at hst;have H:=Hy hst;clear hst;go_wp2_with fail;refine (L.o _ _).mono ?_;rintro e w' ⟨rfl,rfl⟩;go_wp2_with fail;refine (D.o _ _).mono ?_;rintro e w' ⟨rfl,rfl⟩;go_wp2_with fail;go_roundw
     case rel=>exact ⟨j+1,congrArg (Value.int .i64) f4.o,hc,H,trivial⟩
     case measure=>exact aU hc f4.o
    rw [hlc] at hst;simp only [Bool.true_or,Bool.true_and] at hst;have H:=Hy hst;clear hst;go_wp2_with fail;refine (L.o _ _).mono ?_;rintro e w' ⟨rfl,rfl⟩;go_wp2_with fail;go_roundw
    case rel=>exact ⟨j+1,congrArg (Value.int .i64) f4.o,hc,H,trivial⟩
    case measure=>exact aU hc f4.o
   have hst:=hd.o;rw [zL s (by omega)] at hst;have H:=Hy hst;clear hst hd;have q3:decide ((j:Int)<(s.size:Int))=false:=dF (by omega);go_wp2_with fail;go_ret;exact ⟨bB H.o.symm,rfl⟩
 rw [dF h24,Bool.false_and] at hw;have q2:decide (24<(s.size:Int))=true:=dT (by omega);rw [hw]
 go_enter Tryz.func58,Tryz.ntmps58
 go_wp2_with fail;go_ret;exact ⟨rfl,rfl⟩
theorem Qk (a b:ByteArray):(Op.bytesLess a.toList b.toList || a.toList==b.toList) = !Op.bytesLess b.toList a.toList:=by
 cases h:Op.bytesLess b.toList a.toList
 ·by_cases e:a.toList=b.toList
  ·rw [e];simp
  rw [kV b.toList a.toList h fun e' => e e'.symm];rfl
 have h1:=Fp (a:=b) (b:=a) h;have h2:=Fj (a:=b) (b:=a) h;unfold ltS at h1;rw [h1,Bool.false_or];exact bF fun e=>h2 (toList_inj e.symm)
theorem MG {l:List Fa} {j:Nat} (h:j<l.length) (b:ByteArray):jU b (l.drop j)=if ck1 b (gt l j)=0 then jU (gt l j).1 (l.drop (j+1)) else ck1 b (gt l j):=by
 rw [qh h];rfl
theorem OT {l:List Fa} {j:Nat} (h:l.length≤j) (b:ByteArray):jU b (l.drop j)=0:=by
 rw [List.drop_eq_nil_of_le h];rfl
theorem pE (a:Option Addr) (n cap:Nat) (l:List Fa) (w:World) (hS:Sl w a n cap l) :
    Calls Tryz.prog 66 #[.slice a n cap] w fun e w' => e=.returned (.int .i64 (ck l))∧Below w.heap.size w w':=by
 have W1:=Hy sI;have R1:=Hy vB;have hck:ck l=if 4<n then 2 else jU .empty (l.drop 0):=by rw [List.drop_zero,← hS.hn];rfl
 have S0:=Hy hS;clear hS;by_cases h4:4<n
 ·rw [hck,if_pos h4];have q1:decide (4<(n:Int))=true:=dT (by omega);clear W1 R1 S0 hck
  go_enter Tryz.func66,Tryz.ntmps66
  go_wp2_with fail;go_ret;exact ⟨rfl,b0 w⟩
 rw [if_neg h4] at hck;rw [hck];have hn:=Hy (Nat.le_of_not_lt h4);have q1:decide (4<(n:Int))=false:=dF (by omega);clear h4 hck
 go_enter Tryz.func66,Tryz.ntmps66
 go_wp2_with fail
 go_loopw [3,11] (fun vb vi wr => ∃ (j:Nat) (b:ByteArray),vb=.string b∧vi=.int .i64 (j:Nat)∧Hid (j≤n)∧Hid (jU .empty (l.drop 0)=jU b (l.drop j))∧Below w.heap.size w wr) (fun _ vi _=>n - (intOf vi).toNat)
 case atStart=>exact ⟨0,.empty,rfl,rfl,Hy (by omega),rfl,b0 w⟩
 case round =>
  obtain ⟨j,b,rfl,rfl,hj,hd,hb⟩:=hrel;by_cases hc:j<n
  ·have hlen:=S0.o.hn;have hst:=hd.o;rw [MG (by have:=S0.o.hn;omega) b] at hst;obtain ⟨bk,off,rfl,hC⟩:=(S0.o.keeps hb).hat.resolve_left (by omega);obtain ⟨c0,c1⟩:=hC j (by have:=S0.o.hn;omega);have q2:decide ((j:Int)<(n:Int))=true:=dT (by omega);have f4:=Hy (aV (j:=j) (by have:=hn.o;have:=hc;omega));have q3:j<n:=hc;generalize (gt l j)=x at *;have H:=Hy hst;have hbh:=Hy hb;clear hd hst hlen hC hb;cases hw:word x.1
   ·have hk:ck1 b x=1:=by unfold ck1;rw [if_pos hw]
    go_wp2_with fail;refine (W1.o _ _).mono ?_;rintro e w' ⟨rfl,rfl⟩;go_wp2_with fail;go_ret;exact ⟨dX (by rw [H.o,if_neg (by rw [hk];decide),hk]),aj hbh.o _⟩
   by_cases h0:x.2=0
   ·have hk:ck1 b x=70:=by unfold ck1;rw [hw,if_neg (by decide),if_pos (.inl h0)]
    have q4:(x.2==0)=true:=beq_iff_eq.2 h0;replace hk:=Hy hk;replace h0:=Hy h0;go_wp2_with fail;refine (W1.o _ _).mono ?_;rintro e w' ⟨rfl,rfl⟩;go_wp2_with fail;replace hk:=hk.o;go_ret;exact ⟨dX (by rw [H.o,if_neg (by rw [hk];decide),hk]),aj hbh.o _⟩
   have q4:(x.2==0)=false:=bF h0;cases hf:far x.2
   ·have q8:=Qk x.1 b;cases hl:Op.bytesLess b.toList x.1.toList
    ·have hk:ck1 b x=3:=by unfold ck1 ltS;rw [hw,hf,hl,if_neg (by decide),if_neg (by simp [h0]),if_neg (by decide)]
     replace h0:=Hy h0;rw [hl,Bool.not_false] at q8;go_wp2_with fail;refine (W1.o _ _).mono ?_;rintro e w' ⟨rfl,rfl⟩;go_wp2_with fail;refine (R1.o _ _).mono ?_;rintro e w' ⟨rfl,rfl⟩;go_wp2_with fail;go_ret;exact ⟨dX (by rw [H.o,if_neg (by rw [hk];decide),hk]),aj hbh.o _⟩
    have hk:ck1 b x=0:=by unfold ck1 ltS;rw [hw,hf,hl,if_neg (by decide),if_neg (by simp [h0]),if_pos rfl]
    replace h0:=Hy h0;rw [hl,Bool.not_true] at q8;go_wp2_with fail;refine (W1.o _ _).mono ?_;rintro e w' ⟨rfl,rfl⟩;go_wp2_with fail;refine (R1.o _ _).mono ?_;rintro e w' ⟨rfl,rfl⟩;go_wp2_with fail;go_roundw
    case rel=>exact ⟨j+1,x.1,rfl,congrArg (Value.int .i64) f4.o,Hy hc,Hy (H.o.trans (if_pos hk)),aj hbh.o _⟩
    case measure=>exact aU hc f4.o
   have hk:ck1 b x=70:=by unfold ck1;rw [hw,hf,if_neg (by decide),if_pos (.inr rfl)]
   replace h0:=Hy h0;go_wp2_with fail;refine (W1.o _ _).mono ?_;rintro e w' ⟨rfl,rfl⟩;go_wp2_with fail;refine (R1.o _ _).mono ?_;rintro e w' ⟨rfl,rfl⟩;go_wp2_with fail;go_ret;exact ⟨dX (by rw [H.o,if_neg (by rw [hk];decide),hk]),aj hbh.o _⟩
  have hst:=OT (l:=l) (j:=j) (by have:=S0.o.hn;omega) b;have H:=Hy hst;have hd2:=Hy hd.o;clear hst hd;have q3:decide ((j:Int)<(n:Int))=false:=dF (by omega);have hbh:=Hy hb;clear hb;go_wp2_with fail;go_ret;exact ⟨dX (hd2.o.trans H.o).symm,hbh.o⟩
end un
namespace un
open Go.RowKit Go.Sort Go.Lib dec
def cS (a b:ByteArray):Int:=if ltS a b=true then -1 else if a.toList=b.toList then 0 else 1
theorem Ld (s:ByteArray) (w:World):Calls Tryz.prog 159 #[.string s] w fun e w' => e=.returned (.bool false)∧w'=w:=by
 go_enter Tryz.func159,Tryz.ntmps159
 go_wp2;go_ret;exact ⟨rfl,rfl⟩
theorem II (a b:ByteArray) (w:World):Calls Tryz.prog 110 #[.string a,.string b] w fun e w' => e=.returned (.int .i64 (cS a b))∧w'=w:=by
 go_enter Tryz.func110,Tryz.ntmps110
 go_wp2_with (go_at_call 159;refine (Ld _ _).mono ?_;rintro e w' ⟨rfl,rfl⟩)
 all_goals go_ret
 all_goals refine ⟨congrArg (fun n=>Ending.returned (Value.int .i64 n)) (Eq.symm ?_),rfl⟩
 all_goals simp_all [cS,ltS]
def enF (x:Fa):List Value:=[.string x.1,.int .i64 x.2]
theorem su (x y:Fa):ltOf (fun x y:Fa=>cS x.1 y.1) x y=ltS x.1 y.1:=by
 show decide (cS x.1 y.1<0)=_;unfold cS;cases h1:ltS x.1 y.1
 ·rw [if_neg Bool.false_ne_true];split <;> rfl
 rw [if_pos rfl];rfl
theorem JR:SWO (ltOf fun x y:Fa=>cS x.1 y.1) where
 irrefl x:=by rw [su];exact ku _
 trans x y z h1 h2:=by rw [su] at *;exact sD h1 h2
 ntrans x y z h1 h2:=by
  rw [su] at *
  cases h:ltS x.1 z.1
  ·rfl
  ·exfalso
   by_cases e:x.1=y.1
   ·rw [e,h2] at h;cases h
   ·have a:=uF h1 e
    have:=sD a h
    rw [h2] at this;cases this
theorem asz (w:World) (o:Obj):(w.alloc o).heap.size=w.heap.size+1:=by simp
theorem Jk (W:World) (o1 o2:Obj):∃ os,(W.alloc o1).alloc o2=grow W os:=⟨_,by rw [alloc_eq_grow,alloc_eq_grow,grow_grow]⟩
theorem FE (w:World):grow (w.drewN 0) #[]=w:=by rw [grow_empty];rfl
theorem LJ (x:Fa) (w:World):Calls Tryz.prog 64 #[.agg #[.string x.1,.int .i64 x.2]] w fun e w' => e=.returned (.string x.1)∧∃ q os',w'=grow (w.drewN q) os':=by
 go_enter Tryz.func64,Tryz.ntmps64
 go_wp2_with fail;go_ret;exact ⟨rfl,0,_,by rw [alloc_eq_grow];rfl⟩
theorem Ic (x y:Fa) (kb:Nat) (W:World) (hk:W.cell? ⟨kb,0,none⟩=some (.func (.func 64) #[] #[])) :
    Calls Tryz.prog 109 #[.agg #[.string x.1,.int .i64 x.2],.agg #[.string y.1,.int .i64 y.2],.pointer (some ⟨kb,0,none⟩)] W fun e w' => e=.returned (.int .i64 (cS x.1 y.1))∧∃ q os',w'=grow (W.drewN q) os':=by
 have mixed:Tryz.prog.follows .mixedOrders=true:=by kernel_rfl
 have K1:=Hy LJ;have hcon:=Hy (fun W' => II x.1 y.1 W');generalize cS x.1 y.1=r at hcon ⊢;have hkl:=block_lt_of_cell hk
 go_enter Tryz.func109,Tryz.ntmps109
 go_wp2_with fail;have B1:=(Bw.new W x 55).past (.cells #[.string y.1,.int .i64 y.2] 55);have B2:=Bw.new (W.alloc (.cells #[.string x.1,.int .i64 x.2] 55)) y 55;rw [asz] at B2;have hk2:=dL (.cells #[.string y.1,.int .i64 y.2] 55) (dL (.cells #[.string x.1,.int .i64 x.2] 55) hk);have hz:((W.alloc (.cells #[.string x.1,.int .i64 x.2] 55)).alloc (.cells #[.string y.1,.int .i64 y.2] 55)).heap.size=W.heap.size+2:=by simp
 have hW:=Jk W (.cells #[.string x.1,.int .i64 x.2] 55) (.cells #[.string y.1,.int .i64 y.2] 55);generalize hW2:(W.alloc (.cells #[.string x.1,.int .i64 x.2] 55)).alloc (.cells #[.string y.1,.int .i64 y.2] 55)=W2 at *;have k0:∀ n os,(grow (W2.drewN n) os).cell? ⟨kb,0,none⟩=_:=cell_grown (by show kb<_;omega) hk2;have x0:∀ n os,(grow (W2.drewN n) os).cell? ⟨W.heap.size,0,none⟩=_:=cell_grown (by show W.heap.size<_;omega) B1.c0;have x1:∀ n os,(grow (W2.drewN n) os).cell? ⟨W.heap.size,1,none⟩=_:=cell_grown (by show W.heap.size<_;omega) B1.c1;have y0:∀ n os,(grow (W2.drewN n) os).cell? ⟨W.heap.size+1,0,none⟩=_:=cell_grown (by show W.heap.size+1<_;omega) B2.c0;have y1:∀ n os,(grow (W2.drewN n) os).cell? ⟨W.heap.size+1,1,none⟩=_:=cell_grown (by show W.heap.size+1<_;omega) B2.c1;clear B1 B2 hk2 hz hk hW2 hkl;generalize W.heap.size=g at *
 go_quiet_grown (first | (go_at_call 64;first | exact Calls.grown_of (K1.o x _) | exact Calls.grown_of (K1.o y _)) | (go_at_call 110;exact Calls.grown_of ((hcon.o _).mono fun e w' h=>⟨h.1,0,#[],h.2.trans (FE _).symm⟩)))
 go_wp2_with fail;go_ret;refine ⟨rfl,?_⟩;obtain ⟨os,rfl⟩:=hW;exact ⟨nq,os++osq,by rw [← grow_grow];rfl⟩
def fE (l:List Fa):Prop:=l.Pairwise fun x y=>ltS y.1 x.1=false
theorem lU (blk off size kb:Nat) (w:World) (hk:w.cell? ⟨kb,0,none⟩=some (.func (.func 64) #[] #[])) (hne:kb≠blk) :
    CmpLays Tryz.prog 109 #[.pointer (some ⟨kb,0,none⟩)] enF 2 (fun x y=>cS x.1 y.1) blk off size w:=by
 intro m os dk _ x y;refine Ic x y kb _ ?_;have hl:=block_lt_of_cell hk;have hkl:kb<w.heap.size:=hl;unfold sortWorldK;rw [cell?_grow _ _ _ (by show kb<_;simpa [putRowK,putRow,mapBlock,Sort.ahead] using hkl),cell?_putRowK_other enF 2 _ _ _ _ _ hne];exact hk
theorem qz {w:World} {g n:Nat} {os:Array Obj} (d:Array Value):w.grownBy (grow (putRow id (Sort.ahead w n) g 0 d) os) (some g):=by
 refine ⟨rfl,rfl,rfl,by simp,fun k hk hne=>?_⟩;rw [heap_grow_old _ _ (by simpa using hk)];have:g≠k:=fun e=>hne (by rw [e]);simp [putRow,mapBlock,Sort.ahead,Array.getElem?_modify,this]
theorem kY {w:World} {g:Nat} {l:List Fa} (h:Cl w g 0 l) (hf:∀ j,j<l.length→w.frozen? ⟨g,j * 2,none⟩=false∧w.frozen? ⟨g,j * 2+1,none⟩=false):HoldsK enF 2 w g 0 l.toArray:=by
 intro j hj;have hj':j<l.length * 2:=by simpa using hj
 have hd:j / 2<l.length:=by omega
 obtain ⟨c0,c1⟩:=h (j / 2) hd;obtain ⟨f0,f1⟩:=hf (j / 2) hd;rw [get_flatK enF 2 _ _ (by simpa using hj')];have e1:l.toArray[j / 2]! = gt l (j / 2):=by
  rw [eF hd];simp [hd]
 rw [e1];rcases Nat.mod_two_eq_zero_or_one j with hm | hm
 ·have:j / 2 * 2=j:=by omega
  rw [this] at c0 f0;rw [hm];exact ⟨c0,by rw [Nat.zero_add];exact f0⟩
 have:j / 2 * 2+1=j:=by omega
 rw [Nat.add_assoc,this] at c1;rw [this] at f1;rw [hm];exact ⟨c1,by rw [Nat.zero_add];exact f1⟩
theorem qQ {w:World} {g:Nat} {d:Array Fa} (h:HoldsK enF 2 w g 0 d):Cl w g 0 d.toList:=by
 intro j hj;have hj':j<d.size:=by simpa using hj
 have e1:d[j]! = gt d.toList j:=by
  rw [eF hj];simp [hj']
 have h0:=(h.cell (c:=0) hj' (by decide)).1;have h1:=(h.cell (c:=1) hj' (by decide)).1;rw [e1] at h0 h1;exact ⟨h0,h1⟩
theorem KD {w:World} {g n:Nat} {os:Array Obj} {cur:Array Value} {T:TypeId} {fr:Nat × Nat} (d:Array Value) (h:w.heap[g]? = some (.cells cur T fr)):∃ cs fr',(grow (putRow id (Sort.ahead w n) g 0 d) os).heap[g]? = some (.cells cs T fr'):=by
 have hg:g<w.heap.size:=by
  rcases Nat.lt_or_ge g w.heap.size with h' | h'
  ·exact h'
  rw [Array.getElem?_eq_none h'] at h;cases h
 rw [heap_grow_old _ _ (by simpa using hg)];simp [putRow,mapBlock,Sort.ahead,Array.getElem?_modify,h];exact ⟨_,_,_,rfl⟩
theorem qE (base:Nat) (v:Value) (l:List Fa) (kb:Nat) (w:World) (hO:Own w base v l) (hn:l.length<5864062014805) (hb:base≤w.heap.size) (hk:w.cell? ⟨kb,0,none⟩=some (.func (.func 64) #[] #[])) (hkn:∀ g,v.ownBlock=some g→kb≠g) :
    Calls Tryz.prog 108 #[v,.func (.func 109) #[] #[.pointer (some ⟨kb,0,none⟩)]] w fun e w' => e=.returned (.tuple #[])∧∃ a cap s,v=.slice a l.length cap∧s.Perm l∧fE s∧Sl w' a l.length cap s∧(∀ x,a=some x→base≤x.block∧∃ cs fr,w'.heap[x.block]? = some (.cells cs 55 fr))∧Below base w w':=by
 rcases hO.o with ⟨rfl,rfl⟩ | ⟨g,cap,rfl,hbg,hg,hc,hm,hC,hF⟩
 ·have hS:=AnyF.slices_SortFunc_none (P:=Tryz.prog) (ρ:=Tryz.sortFa_ren) { Tryz.sortFa with } none 0 (.func (.func 109) #[] #[.pointer (some ⟨kb,0,none⟩)]) w;refine (show Calls Tryz.prog 108 _ _ _ from hS).mono ?_;rintro e w' ⟨rfl,rfl⟩;exact ⟨rfl,none,0,[],rfl,List.Perm.refl _,by simp [fE],.nil _,fun x h=>(by cases h),Below.refl _ _⟩
 have eg:∀ args w,(callFunc 109 args).run Tryz.prog w=.ok (.enter 109 args) w:=enters_of Tryz.func109 (by kernel_rfl) rfl;have hkg:kb≠g:=hkn g rfl;obtain ⟨cur0,htag⟩:∃ cur0,w.heap[g]? = some (.cells cur0 55 (0,0)):=by
  rcases hO.2 with ⟨h0,_⟩ | ⟨g',cap',cur,e',_,hh,_⟩
  ·cases h0
  cases e';exact ⟨cur,hh⟩
 have hcon:=AnyQ.slices_SortFunc Tryz.sortFa 2 Tryz.isAgg55 Tryz.sizeOf55 enF (fun _=>rfl) (fun x v hv=>by simp [enF] at hv;rcases hv with rfl | rfl <;> rfl) (fun x y=>cS x.1 y.1) JR 109 #[.pointer (some ⟨kb,0,none⟩)] g 0 cap l.toArray w eg (lU g 0 _ kb w hk hkg) (kY hC hF) hg (by simp;omega);simp only [List.size_toArray] at hcon;refine (show Calls Tryz.prog 108 _ _ _ from hcon).mono ?_;rintro e w' ⟨rfl,d',n,os,hp,hs,rfl⟩;have hsz:d'.size=l.length:=by have:=hp.1;simpa using this
 have hpl:d'.toList.Perm l:=by
  have:=hp.2.2;simp only [← hsz,Array.extract_size] at this;simpa [hsz] using this
 have hH:HoldsK enF 2 (sortWorldK enF 2 w g 0 n d' os) g 0 d':=holdsK_grow enF 2 _ os g 0 d' (by unfold putRowK;simpa using hg) (holdsK_putRowK enF 2 (Sort.ahead w n) g 0 l.toArray d' (holdsK_ahead enF 2 w n g 0 _ (kY hC hF)) (by simpa using hsz));refine ⟨rfl,_,cap,d'.toList,rfl,hpl,?_,⟨.inr ⟨g,0,rfl,qQ hH⟩,by simpa using hsz,hc,hm,fun h=>by cases h⟩,fun x h=>(by cases h;exact ⟨hbg,KD _ htag⟩),(Below.refl base w).grown (qz _) hb (fun k hk=>by cases hk;exact hbg)⟩;unfold fE;rw [List.pairwise_iff_getElem];intro i j hi hj hij;have h1:=hs i j zl hij (by rw [← hsz];simpa using hj);rw [su] at h1;simp at hi hj;simp [hi,hj] at h1;simpa using h1
end un
namespace un
open Go.RowKit dec
open Go.Maps (Keyed)
theorem Ih:Tryz.prog.underlying 111=some (.map 9 114):=by kernel_rfl
theorem K9:Keyed Tryz.prog 9:=Go.Maps.string_keyed Tryz.underlying9
def iD {H:Type} : Value→Option (DataW H × List MemPlace)
 | .agg cs=>match cs.toList with
  | [.int .i64 h,.int .u64 l]=>some (.agg [.lit (.int .i64 h),.lit (.int .u64 l)],[])
  | _=>none
 | _=>none
def dW (n:Int):DataW Unit:=.agg [.lit (.int .i64 (hi n)),.lit (.int .u64 (lo n))]
theorem wT (n:Int):iD (W n)=some (dW n,[]):=rfl
theorem uS {v:Value} {y:DataW Unit × List MemPlace} (h:iD v=some y):∃ c:Int × Int,v=.agg #[.int .i64 c.1,.int .u64 c.2]∧y=(.agg [.lit (.int .i64 c.1),.lit (.int .u64 c.2)],[]):=by
 unfold iD at h;split at h
 ·rename_i cs;split at h
  ·rename_i hh ll e;refine ⟨(hh,ll),?_,?_⟩
   ·have:cs=#[.int .i64 hh,.int .u64 ll]:=by
     apply Array.ext';exact e
    rw [this]
   exact (Option.some.inj h).symm
  cases h
 cases h
theorem wV {v:Value} {n:Int} {ps:List MemPlace} (h:iD v=some (dW n,ps)):v=W n:=by
 obtain ⟨c,rfl,e⟩:=uS h;unfold dW at e;simp at e;rw [← e.1.1,← e.1.2];rfl
def kS (s:ByteArray):Lit:=.string s.data.toList
theorem sH {a b:ByteArray} (h:kS a=kS b):a=b:=by
 unfold kS at h;injection h with h
 have:=Array.toList_inj.1 h;cases a;cases b
 simp_all
theorem oV {s:ByteArray} (h:s.size≤maxLen):keyOf Tryz.prog 9 (.string s)=some (kS s):=Go.WideMaps.keyOf_string_mk Tryz.underlying9 h
theorem kX {s:ByteArray} (h:s.size≤maxLen):WideAt.IsKeyLit (kS s):=K9.key (oV h)
structure Says (l:List Fa) (D:DataW Unit):Prop where
 isM:Maps.IsMap D
 at_:∀ s,D.atKey (kS s) (dW 0)=dW (ex l s)
 has:∀ s,Maps.has D (kS s)=l.any fun x=>decide (x.1=s)
theorem Says.nil:Says [] (.map []):=⟨⟨[],rfl⟩,fun _=>rfl,fun _=>rfl⟩
theorem Bp (l:List Fa) (x:Fa) (n:ByteArray):ex (l++[x]) n=ex l n+(if x.1=n then x.2 else 0):=by
 rw [lK];simp [ex]
theorem Says.put {l:List Fa} {D:DataW Unit} (h:Says l D) (x:Fa) (hx:x.1.size≤maxLen):Says (l++[x]) (D.put (kS x.1) (dW (ex l x.1+x.2))):=by
 refine ⟨h.isM.put _ _,fun s=>?_,fun s=>?_⟩
 ·by_cases e:s=x.1
  ·subst e;rw [Maps.atKey_put_same h.isM (kX hx),Bp,if_pos rfl]
  rw [Maps.atKey_put_other (fun e' => e (sH e')),h.at_,Bp,if_neg (fun e' => e e'.symm),Int.add_zero]
 rw [List.any_append];by_cases e:s=x.1
 ·subst e;rw [Maps.has_put_same h.isM (kX hx)];simp
 rw [Maps.has_put_other (fun e' => e (sH e')),h.has];have hne:decide (x.1=s)=false:=dF fun e' => e e'.symm;rw [List.any_cons,hne,List.any_nil,Bool.or_false,Bool.or_false]
def Mp (w:World) (b:Nat) (l:List Fa):Prop:=∃ D:DataW Unit,w.ownsMap Tryz.prog 9 iD b l.length D∧Says l D
theorem Mp.made (w:World):Mp (w.alloc (.map #[] 0)) w.heap.size []:=⟨_,World.ownsMap_made w _ _ _,Says.nil⟩
theorem Mp.lt {w:World} {b:Nat} {l:List Fa} (h:Mp w b l):b<w.heap.size:=by obtain ⟨D,h,_⟩:=h;exact h.lt
theorem Mp.grown {w w':World} {b:Nat} {l:List Fa} {row:Option Nat} (h:Mp w b l) (hg:w.grownBy w' row) (hne:some b≠row):Mp w' b l:=by
 obtain ⟨D,h,s⟩:=h;exact ⟨D,h.kept hg hne,s⟩
theorem fM {w w':World} (h:Below w.heap.size w w'):w.grownBy w' none:=⟨h.os,h.tape,h.output,h.size,fun i hi _=>h.block i hi⟩
theorem Mp.keeps {w w':World} {b:Nat} {l:List Fa} (h:Mp w b l) (hb:Below w.heap.size w w'):Mp w' b l:=h.grown (fM hb) (by simp)
theorem Px (w:World):(zeroValue 114).run Tryz.prog w=.ok (W 0) w:=by
 rw [← Gl];exact Tryz.zeroValue114 w
theorem Mp.look {w:World} {b:Nat} {l:List Fa} (h:Mp w b l) (s:ByteArray) (hs:s.size≤maxLen) :
    (Instr.lookup 111 (.map (some b)) (.string s) false).run Tryz.prog w=.ok (W (ex l s)) w:=by
 obtain ⟨D,h,hS⟩:=h;obtain ⟨v,ps,hrun,hv⟩:=h.lookup K9 Ih (Px w) (wT 0) (oV hs);rw [hS.at_] at hv;rw [hrun,wV hv]
theorem Mp.store {w:World} {b:Nat} {l:List Fa} (h:Mp w b l) (x:Fa) (hs:x.1.size≤maxLen) (hl:l.length<maxLen) :
    ∃ w',(Instr.mapUpdate 111 (.map (some b)) (.string x.1) (W (ex l x.1+x.2))).run Tryz.prog w=.ok () w'∧Mp w' b (l++[x])∧w.grownBy w' (some b):=by
 obtain ⟨D,h,hS⟩:=h;obtain ⟨w',hrun,hown,hg⟩:=h.update K9 Ih hl (oV hs) (wT (ex l x.1+x.2));exact ⟨w',hrun,⟨_,by rw [List.length_append];exact hown,hS.put x hs⟩,hg⟩
theorem wM {w:World} {o:Oper} {a:Act} {K:Act→World→Prop} {Q:Exit→Act→World→Prop} (m x v:Operand) (hop:o.op=Op.mapUpdate 111 m x v) (b:Nat) (l:List Fa) (hm:a.eval m=.map (some b)) (h:Mp w b l)
    (y:Fa) (hx:a.eval x=.string y.1) (hv:a.eval v=W (ex l y.1+y.2)) (hs:y.1.size≤maxLen) (hl:l.length<maxLen)
    (hK:∀ w',Mp w' b (l++[y])→w.grownBy w' (some b)→K (a.put o.dst undef) w'):o.wp Tryz.prog a w K Q:=by
 obtain ⟨w',hrun,h1,h2⟩:=h.store y hs hl;unfold Oper.wp;simp [execOp,hop,hm,hx,hv,hrun,Result.andThen];exact hK w' h1 h2
theorem Dc {w w':World} {b k o:Nat} {v:Value} (h:w.grownBy w' (some b)) (hne:k≠b) (hc:w.cell? ⟨k,o,none⟩=some v):w'.cell? ⟨k,o,none⟩=some v:=by
 have hl:k<w.heap.size:=block_lt_of_cell hc;have hb:=h.block k hl (by simpa using hne);unfold World.cell? at hc ⊢;rw [hb];exact hc
end un
namespace un
open Go.RowKit dec
structure Pk (l:List Fa) (left:Lit→Bool) (o:List Fa):Prop where
 mem:∀ x,x ∈ o↔x ∈ nz l∧left (kS x.1)=false
 nd:o.Nodup
 ok:∀ s,(∃ y ∈ l,y.1=s)→left (kS s)=false→far (ex l s)=false
theorem mG {s:ByteArray} (hs:s.size≤maxLen) (t:ByteArray):(kS t).sameKey (kS s)=decide (t=s):=by
 by_cases e:t=s
 ·subst e;rw [dT rfl];exact WideAt.sameKey_self (kX hs)
 rw [dF e];exact Maps.sameKey_ne fun h=>e (sH h)
theorem Pk.start {l:List Fa} {D:DataW Unit} (h:Says l D):Pk l (Maps.has D) []:=by
 have hh:∀ s,(∃ y ∈ l,y.1=s)→Maps.has D (kS s)=true:=fun s hs=>by
  rw [h.has,List.any_eq_true];obtain ⟨y,hy,e⟩:=hs;exact ⟨y,hy,dT e⟩
 refine ⟨fun x=>⟨fun hx=>(by cases hx),fun ⟨h1,h2⟩=>?_⟩,.nil,fun s hs h2=>?_⟩
 ·obtain ⟨a,b⟩:=mJ.1 h1;rw [hh x.1 (sU (a ▸ b))] at h2;cases h2
 rw [hh s hs] at h2;cases h2
theorem Pk.skip {l:List Fa} {left:Lit→Bool} {o:List Fa} (h:Pk l left o) {s:ByteArray} (hs:s.size≤maxLen) (hf:far (ex l s)=false) (h0:ex l s=0):Pk l (fun z=>left z && !z.sameKey (kS s)) o:=by
 refine ⟨fun x=>?_,h.nd,fun t ht h2=>?_⟩
 ·rw [h.mem];constructor
  ·rintro ⟨a,b⟩;exact ⟨a,by rw [b];rfl⟩
  rintro ⟨a,b⟩;refine ⟨a,?_⟩;rw [mG hs] at b;by_cases e:x.1=s
  ·exfalso;obtain ⟨p,q⟩:=mJ.1 a;rw [e,h0] at p;exact q p
  rw [dF e,Bool.not_false,Bool.and_true] at b;exact b
 rw [mG hs] at h2;by_cases e:t=s
 ·rw [e];exact hf
 rw [dF e,Bool.not_false,Bool.and_true] at h2;exact h.ok t ht h2
theorem Pk.push {l:List Fa} {left:Lit→Bool} {o:List Fa} (h:Pk l left o) {s:ByteArray} (hs:s.size≤maxLen) (hl:left (kS s)=true) (hf:far (ex l s)=false) (h0:ex l s≠0):Pk l (fun z=>left z && !z.sameKey (kS s)) (o++[(s,ex l s)]):=by
 refine ⟨fun x=>?_,?_,fun t ht h2=>?_⟩
 ·rw [List.mem_append,List.mem_singleton,h.mem];constructor
  ·rintro (⟨a,b⟩ | rfl)
   ·exact ⟨a,by rw [b];rfl⟩
   exact ⟨mJ.2 ⟨rfl,h0⟩,by rw [mG hs,dT rfl];simp⟩
  rintro ⟨a,b⟩;rw [mG hs] at b;by_cases e:x.1=s
  ·refine .inr (Prod.ext e ?_);rw [(mJ.1 a).1,e]
  rw [dF e,Bool.not_false,Bool.and_true] at b;exact .inl ⟨a,b⟩
 ·rw [List.nodup_append];refine ⟨h.nd,by simp,fun a ha b hb e=>?_⟩;rw [List.mem_singleton] at hb;subst e;have:=((h.mem a).1 ha).2;rw [hb] at this;rw [hl] at this;cases this
 rw [mG hs] at h2;by_cases e:t=s
 ·rw [e];exact hf
 rw [dF e,Bool.not_false,Bool.and_true] at h2;exact h.ok t ht h2
theorem Nk {l:List Fa} (h:Srt l):l.Pairwise fun x y=>x.1≠y.1:=h.imp fun h=>Fj h
theorem Pk.done {l:List Fa} {left:Lit→Bool} {o s:List Fa} (h:Pk l left o) (hl:∀ z,left z=false) (hp:s.Perm o) (hs:fE s):s=nz l:=by
 have hm:∀ x,x ∈ s↔x ∈ nz l:=fun x=>by
  rw [hp.mem_iff,h.mem,hl];simp
 have hn:s.Nodup:=hp.nodup_iff.2 h.nd;have hne:s.Pairwise fun x y=>x.1≠y.1:=hn.imp_of_mem fun {a b} ha hb hab e=>by
  have e1:=(mJ.1 ((hm a).1 ha)).1;have e2:=(mJ.1 ((hm b).1 hb)).1;exact hab (Prod.ext e (by rw [e1,e2,e]))
 have hS:Srt s:=hs.imp₂ (fun a b h1 h2=>uF h1 (fun e=>h2 e.symm)) hne;exact Ab (hS.imp fun h=>h) (DZ l) hm
theorem Pk.len {l:List Fa} {left:Lit→Bool} {o:List Fa} (h:Pk l left o) (hl:∀ z,left z=false):o.length=(nz l).length:=by
 have hn:(nz l).Nodup:=(Nk (DZ l)).imp fun h e=>h (by rw [e]);refine ((List.perm_ext_iff_of_nodup h.nd hn).2 fun x=>?_).length_eq;rw [h.mem,hl];simp
theorem Bo {x:Int} (h:rg x=false):far x=true:=by
 rw [wC] at h;unfold far;exact dT (by omega)
theorem Pk.all {l:List Fa} {left:Lit→Bool} {o:List Fa} (h:Pk l left o) (hl:∀ z,left z=false):iP l=false:=by
 cases hf:iP l
 ·rfl
 obtain ⟨n,hn⟩:=(tK l).1 hf;rw [h.ok n (sU fun e=>by rw [e] at hn;cases hn) (hl _)] at hn;cases hn
theorem yQ:∀ (l:List Fa) (s:ByteArray),(∀ x ∈ l,-9223372036854775808≤x.2∧x.2≤9223372036854775807)→-9223372036854775808 * (l.length:Int)≤ex l s∧ex l s≤9223372036854775808 * (l.length:Int)
 | [],s,_=>by simp [ex]
 | x :: l,s,h=>by
  have ih:=yQ l s fun y hy=>h y (List.mem_cons_of_mem _ hy)
  have hx:=h x (List.mem_cons_self ..)
  simp only [ex,List.length_cons]
  push_cast
  split <;> omega
theorem Jl {l:List Fa} (s:ByteArray) (h:∀ x ∈ l,-9223372036854775808≤x.2∧x.2≤9223372036854775807) (hl:l.length<5864062014805):In (ex l s):=by
 have:=yQ l s h;unfold In;omega
theorem AZ {key:Value} {kl:Lit} (h:keyOf Tryz.prog 9 key=some kl):∃ s:ByteArray,key=.string s∧kl=kS s∧s.size≤maxLen:=by
 cases key <;> simp [keyOf,Tryz.underlying9,mapKey] at h;rename_i s;obtain ⟨h1,h2⟩:=h;exact ⟨s,rfl,h2.symm,h1⟩
theorem qW (w:World) {ops:Array Oper} {rest:List Oper} {o:Oper} {a:Act} {Q:Exit→Act→World→Prop} (hg:o.guard=none) (it:Operand) (hop:o.op=Op.next it false) (b r n:Nat) (D:DataW Unit) (l:List Fa) (hS:Says l D) (left:Lit→Bool) (cnt:Nat)
  (hit:a.eval it=.pointer (some ⟨r,0,none⟩)) (h:w.ranges Tryz.prog 9 iD b r n D left cnt)
  (hDone:cnt=0→(∀ kl,left kl=false)→wpList Tryz.prog ops Q rest (a.put o.dst (.tuple #[.bool false])) w)
  (hMore:∀ (s:ByteArray) (w':World) (cnt':Nat),s.size≤maxLen→left (kS s)=true→w'.ranges Tryz.prog 9 iD b r n D (fun z=>left z && !z.sameKey (kS s)) cnt'→cnt'<cnt→w.grownBy w' (some r)→w'.heap.size=w.heap.size →
   (Instr.entry (.pointer (some ⟨r,0,none⟩))).run Tryz.prog w'=.ok (.tuple #[.string s,.agg #[.int .i64 (hi (ex l s)),.int .u64 (lo (ex l s))]]) w'→wpList Tryz.prog ops Q rest (a.put o.dst (.tuple #[.bool true,.string s,.agg #[.int .i64 (hi (ex l s)),.int .u64 (lo (ex l s))]])) w') :
  wpList Tryz.prog ops Q (o :: rest) a w :=
 wpList_next_ranges w hg it hop 9 K9 iD (fun s:ByteArray=>Value.string s) (fun c:Int × Int=>.agg #[.int .i64 c.1,.int .u64 c.2])
  (fun key kl hk=>by obtain ⟨s,e,_⟩:=AZ hk;exact ⟨s,e⟩) (fun v y hv=>by obtain ⟨c,e,_⟩:=uS hv;exact ⟨c,e⟩) b r n D left cnt hit h hDone
  (fun x c kl y w' cnt' hkey hlk hv hat hrg hlt hgr hsz hen=>by
   obtain ⟨s,e,rfl,hs⟩:=AZ hkey
   obtain rfl:x=s:=by injection e
   obtain ⟨yd,yp⟩:=y
   have hy:=hat (dW 0)
   rw [hS.at_] at hy
   have hy':yd=dW (ex l x):=hy.symm
   subst hy'
   have hc:=wV hv
   have:(.agg #[.int .i64 c.1,.int .u64 c.2]:Value)=.agg #[.int .i64 (hi (ex l x)),.int .u64 (lo (ex l x))]:=hc
   rw [this] at hen
   have:=hMore x w' cnt' hs hlk hrg hlt hgr hsz hen
   rw [show (.agg #[.int .i64 c.1,.int .u64 c.2]:Value)=.agg #[.int .i64 (hi (ex l x)),.int .u64 (lo (ex l x))] from hc]
   exact this)
theorem jk {w w':World} {b r n:Nat} {D:DataW Unit} {left:Lit→Bool} {cnt:Nat} (h:w.ranges Tryz.prog 9 iD b r n D left cnt) (hb:Below w.heap.size w w'):w'.ranges Tryz.prog 9 iD b r n D left cnt:=h.kept (fM hb) (by simp) (by simp)
theorem zw {w w':World} {b r n base:Nat} {D:DataW Unit} {left:Lit→Bool} {cnt:Nat} (h:w.ranges Tryz.prog 9 iD b r n D left cnt) (hb:Below base w w') (h1:b<base) (h2:r<base):w'.ranges Tryz.prog 9 iD b r n D left cnt:=by
 obtain ⟨es,clock,since,seen,c0,k1,F,hs,hD,hr,rest⟩:=h;exact ⟨es,clock,since,seen,c0,(hb.block b h1).trans k1,F,hs,hD,(hb.block r h2).trans hr,rest⟩
end un
namespace dec
open Go.RowKit
theorem QA (x y:Int) (hx:0≤x) (hy:0≤y) (w:World):(callFunc 103 #[.int .u64 x,.int .u64 y,.int .u64 0]).run Tryz.prog w =
    .ok (.value (.tuple #[.int .u64 ((x+y) % 18446744073709551616),.int .u64 ((x+y) / 18446744073709551616)])) w:=by
 rw [run_callFunc_extern Tryz.func103 (by kernel_rfl) (by kernel_rfl) (by kernel_rfl) (e:=add64Entry) (by kernel_rfl),run_add64 x y 0 hx hy (Int.le_refl 0) (by decide)];simp only [Result.andThen,Int.add_zero]
theorem ML {x y:Value} {a b:Int} (hx:x=W a) (hy:y=W b) (w:World) :
    Calls Tryz.prog 59 #[x,y] w fun e w' => e=.returned (W (a+b))∧∃ c1 c2 c3:Array Value,w'=((w.alloc (.cells c1 114)).alloc (.cells c2 114)).alloc (.cells c3 114):=by
 subst hx hy;have ra:=gX a;have rb:=gX b;have ha:=kZ a;have hb:=kZ b;have k0:0≤(lo a+lo b) / 18446744073709551616:=by omega
 have k1:(lo a+lo b) / 18446744073709551616≤1:=by omega
 obtain ⟨ra1,ra2⟩:=ra;obtain ⟨rb1,rb2⟩:=rb;obtain ⟨ha1,ha2⟩:=ha;obtain ⟨hb1,hb2⟩:=hb;unfold W
 go_enter Tryz.func59,Tryz.ntmps59
 go_wp2_with (simp only [QA (lo a) (lo b) ra1 rb1]);simp [bodyPost,results,Tryz.results59,go_sem];exact ⟨⟨Pp a b,Po a b⟩,_,_,_,rfl⟩
theorem Qz {x y:Value} {a b:Int} (hx:x=W a) (hy:y=W b) (w:World) :
  Calls Tryz.prog 59 #[x,y] w fun e w' => e=.returned (W (a+b))∧Below w.heap.size w w' :=
 (ML hx hy w).mono fun _ _ ⟨he,_,_,_,hw⟩=>⟨he,hw ▸ aj (aj (aj (b0 w) _) _) _⟩
end dec
end Go.Proofs.YtbpijgddfaefkaaGreatDoor
