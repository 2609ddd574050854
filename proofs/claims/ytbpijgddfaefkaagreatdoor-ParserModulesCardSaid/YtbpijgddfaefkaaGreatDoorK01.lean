/-
  Pairs of words as integers, and the operations of package exact on them; division as arithmetic (taken over from stages 1 and 2).
-/
import Derived.WalkKit
import Derived.WalkLawsBesides
import Derived.OpenShut
import Derived.Outline
import Derived.Laws.Externs
import Derived.StillTailTactics
import Derived.Laws.Pointers
import Derived.Deep.RegionHeld3
import Derived.Deep.QuietTactic
import Derived.BigQuiet
import Derived.RowKit3
import Derived.Shelf.Bits.Mul64
import Derived.Lib.Hide
import Derived.Laws.Bits64b
import Derived.Lib.ItoaNum
import Derived.Lib.BitFns
import Derived.Test.YtbpijgddfaefkaaGreatDoorChecked
import Derived.Test.YtbpijgddfaefkaaGreatDoorK00
set_option maxRecDepth 100000
set_option maxHeartbeats 16000000
namespace Go.Proofs.YtbpijgddfaefkaaGreatDoor
namespace dec
open Go.RowKit
def lo (n:Int):Int:=n % 18446744073709551616
def hi (n:Int):Int:=(n / 18446744073709551616+9223372036854775808) % 18446744073709551616 - 9223372036854775808
def W (n:Int):Value:=.agg #[.int .i64 (hi n),.int .u64 (lo n)]
theorem gX (n:Int):0≤lo n∧lo n≤18446744073709551615:=by unfold lo;omega
theorem kZ (n:Int) : -9223372036854775808≤hi n∧hi n≤9223372036854775807:=by unfold hi;omega
theorem Gl:Value.agg #[.int .i64 0,.int .u64 0]=W 0:=by
 have e1:hi 0=0:=by decide
 have e2:lo 0=0:=by decide
 unfold W;rw [e1,e2]
theorem Pp (a b:Int):wrap64 (wrap64 (hi a+hi b)+(lo a+lo b) / 18446744073709551616)=hi (a+b):=by unfold hi lo wrap64;omega
theorem Po (a b:Int):(lo a+lo b) % 18446744073709551616=lo (a+b):=by unfold lo;omega
def bor (x y:Int):Int:=if x<y then 1 else 0
theorem Gd (x y:Int):0≤bor x y∧bor x y≤1:=by unfold bor;split <;> decide
theorem Nj (a b:Int):wrap64 (wrap64 (hi a - hi b) - bor (lo a) (lo b))=hi (a - b):=by unfold hi lo wrap64 bor;split <;> omega
theorem Ni (a b:Int):(lo a - lo b) % 18446744073709551616=lo (a - b):=by unfold lo;omega
theorem Jf (n:Int) (h1 : -9223372036854775808≤n) (h2:n≤9223372036854775807):n / 9223372036854775808=hi n:=by unfold hi;omega
theorem CJ (n:Int):IntKind.u64.wrap n=lo n:=by rw [IntKind.wrap_u64];unfold lo;rfl
theorem lY (x:Int):∃ k,IntKind.u64.wrap x=x+18446744073709551616 * k:=⟨-(x / 18446744073709551616),by rw [IntKind.wrap_u64];omega⟩
theorem vG (a n:Int):∃ p1 p2 p3:Int,p1=(a / 18446744073709551616) * (n / 18446744073709551616)∧p2=(a / 18446744073709551616) * lo n∧p3=lo a * (n / 18446744073709551616) ∧
    a * n=18446744073709551616 * (18446744073709551616 * p1+p2+p3)+lo a * lo n:=by
 refine ⟨_,_,_,rfl,rfl,rfl,?_⟩;have ea:a=18446744073709551616 * (a / 18446744073709551616)+lo a:=by unfold lo;omega
 have en:n=18446744073709551616 * (n / 18446744073709551616)+lo n:=by unfold lo;omega
 generalize a / 18446744073709551616=A at *;generalize n / 18446744073709551616=S at *;generalize lo a=la at *;generalize lo n=ln at *;subst ea en;rw [Int.add_mul,Int.mul_add,Int.mul_add,Int.mul_add,Int.mul_add,Int.mul_assoc,Int.mul_assoc,Int.mul_left_comm A,Int.mul_left_comm la];omega
theorem GL (a n:Int):lo a * lo n % 18446744073709551616=lo (a * n):=by
 obtain ⟨p1,p2,p3,_,_,_,e⟩:=vG a n;rw [e];unfold lo;omega
theorem GN (a n:Int) (h1 : -9223372036854775808≤n) (h2:n≤9223372036854775807) :
    wrap64 (IntKind.u64.wrap (lo a * lo n / 18446744073709551616+IntKind.u64.wrap (IntKind.u64.wrap (IntKind.u64.wrap (hi a) * lo n)+IntKind.u64.wrap (lo a * IntKind.u64.wrap (n / 9223372036854775808)))))=hi (a * n):=by
 obtain ⟨p1,p2,p3,e1,e2,e3,e⟩:=vG a n;have hs:n / 9223372036854775808=n / 18446744073709551616:=by omega
 rw [hs];obtain ⟨k0,f0⟩:∃ k,hi a=a / 18446744073709551616+18446744073709551616 * k:=⟨-((a / 18446744073709551616+9223372036854775808) / 18446744073709551616),by unfold hi;omega⟩;obtain ⟨k1,f1⟩:=lY (hi a);obtain ⟨k2,f2⟩:=lY (IntKind.u64.wrap (hi a) * lo n);obtain ⟨k3,f3⟩:=lY (n / 18446744073709551616);obtain ⟨k4,f4⟩:=lY (lo a * IntKind.u64.wrap (n / 18446744073709551616));obtain ⟨k5,f5⟩:=lY (IntKind.u64.wrap (IntKind.u64.wrap (hi a) * lo n)+IntKind.u64.wrap (lo a * IntKind.u64.wrap (n / 18446744073709551616)));obtain ⟨k6,f6⟩:=lY (lo a * lo n / 18446744073709551616+IntKind.u64.wrap (IntKind.u64.wrap (IntKind.u64.wrap (hi a) * lo n)+IntKind.u64.wrap (lo a * IntKind.u64.wrap (n / 18446744073709551616))));rw [f6,f5,f2,f4,f1,f3,f0,e];rw [Int.add_mul,Int.add_mul,Int.mul_add,Int.mul_assoc,Int.mul_assoc,Int.mul_left_comm (lo a),← e2,← e3];generalize lo a * lo n=m;generalize k0 * lo n=m0;generalize k1 * lo n=m1;generalize lo a * k3=m3;unfold hi wrap64;omega
def In (n:Int):Prop:=-170141183460469231731687303715884105728≤n∧n<170141183460469231731687303715884105728
def ab (a:Int):Int:=if a<0 then -a else a
theorem tN {a:Int} (h:a<0):ab a = -a:=by unfold ab;rw [if_pos h]
theorem tL {a:Int} (h:0≤a):ab a=a:=by unfold ab;rw [if_neg (by omega)]
theorem mM {a:Int} (ha:In a):hi a<0↔a<0:=by unfold In at ha;unfold hi;omega
theorem QB {a:Int} (ha:In a):IntKind.u64.wrap (hi (ab a))=ab a / 18446744073709551616:=by
 unfold In at ha;rw [IntKind.wrap_u64];unfold hi ab;split <;> omega
def ru (q r d:Int):Int:=if d - r<r∨(r=d - r∧q % 2=1) then 1 else 0
def quo (a d:Int):Int:=ab a / ab d+ru (ab a / ab d) (ab a % ab d) (ab d)
def eZ (a d:Int):Bool:=decide (d≠0∧quo a d≤1152921504606846976)
def sq (a d:Int):Int:=if (a<0∧0≤d)∨(0≤a∧d<0) then -quo a d else quo a d
def dv (a d:Int):Int:=if eZ a d then sq a d else 0
theorem qF (q r d:Int):0≤ru q r d∧ru q r d≤1:=by unfold ru;split <;> decide
theorem iB (a:Int):0≤ab a:=by unfold ab;split <;> omega
theorem wG {a d:Int} (h:eZ a d=false):dv a d=0:=by unfold dv;rw [h];rfl
theorem sV {a d:Int} (h:eZ a d=true):dv a d=sq a d:=by unfold dv;rw [h];rfl
structure Dv (a d A D ah al q r x:Int):Prop where
 A0:ab a=A
 D0:ab d=D
 eah:A / 18446744073709551616=ah
 eal:A % 18446744073709551616=al
 eq:q=A / D
 er:r=A % D
 ex:x=ru q r D
theorem mQ {a d A D ah al q r x:Int} (h:Dv a d A D ah al q r x):eZ a d=decide (D≠0∧q+x≤1152921504606846976):=by
 obtain ⟨rfl,rfl,rfl,rfl,rfl,rfl,rfl⟩:=h;unfold eZ quo;have:(d≠0)↔(ab d≠0):=by unfold ab;split <;> omega
 simp only [this]
theorem Dv.Qd {a d A D ah al q r x:Int} (h:Dv a d A D ah al q r x) (g:D≤ah):eZ a d=false:=by
 rw [mQ h];have hx:=qF q r D;rw [← h.ex] at hx;have hA:=iB a;have hD:=iB d;rw [h.A0] at hA;rw [h.D0] at hD;simp only [decide_eq_false_iff_not];rintro ⟨h1,h2⟩;have e:18446744073709551616≤q:=by
  rw [h.eq,Int.le_ediv_iff_mul_le (by omega)];have:=h.eah;omega
 omega
theorem Dv.CU {a d A D ah al q r x:Int} (h:Dv a d A D ah al q r x) (g:1152921504606846976<q+x):eZ a d=false:=by
 rw [mQ h];simp only [decide_eq_false_iff_not];omega
theorem Dv.CS {a d A D ah al q r x:Int} (h:Dv a d A D ah al q r x) (g:1152921504606846976<q):eZ a d=false:=by
 have hx:=qF q r D;rw [← h.ex] at hx;exact h.CU (by omega)
theorem Dv.some {a d A D ah al q r x:Int} (h:Dv a d A D ah al q r x) (g:ah<D) (g':q+x≤1152921504606846976):eZ a d=true:=by
 rw [mQ h];have hA:=iB a;rw [h.A0] at hA;have:=h.eah;simp only [decide_eq_true_eq];omega
theorem Dv.sq {a d A D ah al q r x:Int} (h:Dv a d A D ah al q r x):sq a d=if (a<0∧0≤d)∨(0≤a∧d<0) then -(q+x) else q+x:=by
 obtain ⟨rfl,rfl,rfl,rfl,rfl,rfl,rfl⟩:=h;rfl
end dec
namespace dec
open Go.RowKit Go.Shelf
def Gv:Array Value→Sem Value:=fun args=>do
 let (x,y,b) ← Extern.MathBitsCarry.three "Sub64" args
 pure (Extern.MathBitsCarry.pair ((x+Extern.MathBitsCarry.m64 - y - b) % Extern.MathBitsCarry.m64) (if x<y+b then 1 else 0))
theorem PI (x y:Int) (hx:0≤x) (hy:0≤y) (hy':y≤18446744073709551615) (w:World):(callFunc 234 #[.int .u64 x,.int .u64 y,.int .u64 0]).run Tryz.prog w =
    .ok (.value (.tuple #[.int .u64 ((x - y) % 18446744073709551616),.int .u64 (bor x y)])) w:=by
 obtain ⟨x,rfl⟩:=Int.eq_ofNat_of_zero_le hx;obtain ⟨y,rfl⟩:=Int.eq_ofNat_of_zero_le hy;have e1:(((x+18446744073709551616 - y - 0) % 18446744073709551616:Nat):Int)=((x:Int) - y) % 18446744073709551616:=by omega
 have e2:((if x<y+0 then 1 else 0:Nat):Int)=bor x y:=by unfold bor;split <;> split <;> omega
 rw [← e1,← e2];rw [run_callFunc_extern Tryz.func234 (by kernel_rfl) (by kernel_rfl) (by kernel_rfl) (e:=Gv) (by kernel_rfl)];rfl
theorem JU {x y:Value} {a b:Int} (hx:x=W a) (hy:y=W b) (w:World) :
    Calls Tryz.prog 192 #[x,y] w fun e w' => e=.returned (W (a - b))∧∃ c1 c2 c3:Array Value,w'=((w.alloc (.cells c1 114)).alloc (.cells c2 114)).alloc (.cells c3 114):=by
 subst hx hy;have ra:=gX a;have rb:=gX b;have ha:=kZ a;have hb:=kZ b;obtain ⟨k0,k1⟩:=Gd (lo a) (lo b);obtain ⟨ra1,ra2⟩:=ra;obtain ⟨rb1,rb2⟩:=rb;obtain ⟨ha1,ha2⟩:=ha;obtain ⟨hb1,hb2⟩:=hb;unfold W
 go_enter Tryz.func192,Tryz.ntmps192
 go_wp2_with (simp only [PI (lo a) (lo b) ra1 rb1 rb2]);simp [bodyPost,results,Tryz.results192,go_sem];exact ⟨⟨Nj a b,Ni a b⟩,_,_,_,rfl⟩
theorem La {x:Value} {a:Int} (hx:x=W a) (w:World) :
    Calls Tryz.prog 156 #[x] w fun e w' => e=.returned (W (-a))∧∃ c1 c2 c3 c4 c5:Array Value,w'=((((w.alloc (.cells c1 114)).alloc (.cells c2 114)).alloc (.cells c3 114)).alloc (.cells c4 114)).alloc (.cells c5 114):=by
 subst hx;unfold W
 go_enter Tryz.func156,Tryz.ntmps156
 go_wp2_with (go_at_call 192;refine (JU (a:=0) (b:=a) Gl rfl _).mono ?_;unfold W;rintro e w' ⟨rfl,c1,c2,c3,rfl⟩);simp [bodyPost,results,Tryz.results156,go_sem];exact ⟨_,_,_,_,_,rfl⟩
theorem oH (n:Int) (w:World) (_h1 : -9223372036854775808≤n) (_h2:n≤9223372036854775807) :
    Calls Tryz.prog 104 #[.int .i64 n] w fun e w' => e=.returned (.int .i64 (n / 9223372036854775808))∧w=w':=by
 go_enter Tryz.func104,Tryz.ntmps104
 go_wp2;go_ret;exact ⟨rfl,rfl⟩
theorem jm (n:Int) (w:World) (h1 : -9223372036854775808≤n) (h2:n≤9223372036854775807) :
    Calls Tryz.prog 60 #[.int .i64 n] w fun e w' => e=.returned (W n)∧∃ c1:Array Value,w'=w.alloc (.cells c1 114):=by
 go_enter Tryz.func60,Tryz.ntmps60
 go_wp2_with (go_at_call 104;refine (oH _ _ h1 h2).mono ?_;rintro e w' ⟨rfl,rfl⟩);unfold W;rw [Jf n h1 h2,CJ];simp [bodyPost,results,Tryz.results60,go_sem];exact ⟨_,rfl⟩
theorem Tryz.lays264:Go.Proofs.Lays.n264 Tryz.prog ⟨fun | 264=>270 | n=>n,fun | 53=>112 | 46=>133 | n=>n,fun | n=>n⟩:={
 mixed:=by kernel_rfl
 f264:=Tryz.func270.trans (congrArg some (by kernel_rfl))
 t46:=Tryz.underlying133
 a46:=Tryz.isAgg133
 z46:=Tryz.sizeOf133
 v46:=Tryz.zeroValue133
 t53:=Tryz.underlying112
 a53:=Tryz.isAgg112
 z53:=Tryz.sizeOf112
 v53:=Tryz.zeroValue112 }
theorem Qf (x y:Int) (w:World) (hx:0≤x) (hx':x≤18446744073709551615) (hy:0≤y) (hy':y≤18446744073709551615) :
    Calls Tryz.prog 270 #[.int .u64 x,.int .u64 y] w fun e w' => e=.returned (.tuple #[.int .u64 (x * y / 18446744073709551616),.int .u64 (x * y % 18446744073709551616)])∧w=w':=by
 obtain ⟨x,rfl⟩:=Int.eq_ofNat_of_zero_le hx;obtain ⟨y,rfl⟩:=Int.eq_ofNat_of_zero_le hy;refine (Any.bits_Mul64 Tryz.lays264 x y (by omega) (by omega) w).mono ?_;rintro e w' ⟨rfl,rfl⟩;refine ⟨?_,rfl⟩;rw [← Int.natCast_mul];rfl
theorem zy (x y:Int) (w:World) (hx:0≤x) (hx':x≤18446744073709551615) (hy:0≤y) (hy':y≤18446744073709551615) :
    Calls Tryz.prog 248 #[.int .u64 x,.int .u64 y] w fun e w' => e=.returned (.agg #[.int .u64 (x * y % 18446744073709551616),.int .u64 (x * y / 18446744073709551616)])∧∃ c1:Array Value,w'=w.alloc (.cells c1 160):=by
 go_enter Tryz.func248,Tryz.ntmps248
 go_wp2_with (go_at_call 270;refine (Qf _ _ _ hx hx' hy hy').mono ?_;rintro e w' ⟨rfl,rfl⟩);simp [bodyPost,results,Tryz.results248,go_sem];exact ⟨_,rfl⟩
theorem nk {P:Program} {id:Nat} {Q:Exit→Act→World→Prop} {a:Act} {w:World} {l:List Oper} (n:Nat) (hm:P.follows .mixedOrders=true) (hB:Region.lexTailB .any l.toArray n=true)
  (h:wpStill P l.toArray w.drew (fun a' => wpList P l.toArray Q (l.drop n) a' w.drew) (l.take n) a):(Code.region id l.toArray true).wp P Q a w :=
 wp_region_still_tail n hm hB h
theorem En {x:Value} {a:Int} (n:Int) (hx:x=W a) (w:World) (h1 : -9223372036854775808≤n) (h2:n≤9223372036854775807) :
    Calls Tryz.prog 212 #[x,.int .i64 n] w fun e w' => e=.returned (W (a * n))∧Below w.heap.size w w':=by
 subst hx;have eh:=GN a n h1 h2;have el:=GL a n;have HE:=Hy eh;have HL:=Hy el;clear eh el;have ra:=gX a;have ha:=kZ a;obtain ⟨ra1,ra2⟩:=ra;obtain ⟨ha1,ha2⟩:=ha;have hn:IntKind.u64.wrap n=lo n:=CJ n;have rn:=gX n;obtain ⟨rn1,rn2⟩:=rn;unfold W
 go_enter Tryz.func212,Tryz.ntmps212
 go_wp2_with (go_at_call 248;refine (zy _ _ _ ra1 ra2 rn1 rn2).mono ?_;rintro e w' ⟨rfl,c1,rfl⟩);refine nk 17 (by kernel_rfl) (by kernel_rfl) ?_;simp only [List.take_succ_cons,List.take_zero,List.drop_succ_cons,List.drop_zero]
 iterate 11 still_step
 still_call (oH _ _ h1 h2).mono (by rintro e w' ⟨rfl,rfl⟩;exact ⟨rfl,rfl⟩)
 repeat still_step
 refine wpStill_nil ?_;go_wp2;rw [HE.o,HL.o];simp [bodyPost,results,Tryz.results212,go_sem];exact ((((Below.refl _ _).alloc lr _).alloc (by simp) _).alloc (by simp;omega) _).alloc (by simp;omega) _ |>.drew
theorem lq {W w1:World} (hb:Below W.heap.size W w1):(∀ b o,b<W.heap.size→w1.cell? ⟨b,o,none⟩=W.cell? ⟨b,o,none⟩)∧(∀ b o,b<W.heap.size→w1.frozen? ⟨b,o,none⟩=W.frozen? ⟨b,o,none⟩)∧W.heap.size≤w1.heap.size :=
 ⟨fun _ _ h=>hb.cell (p:=⟨_,_,none⟩) h,fun _ _ h=>hb.frozen (p:=⟨_,_,none⟩) h,hb.size⟩
theorem kK {B k:Nat} {W w1:World} (h:Below B W w1) (hk:B≤k) (u v:Value):Below B W ((w1.setCell ⟨k,0,none⟩ u).setCell ⟨k,1,none⟩ v) :=
 Below.setCell (p:=⟨k,1,none⟩) (Below.setCell (p:=⟨k,0,none⟩) h hk u) hk v
theorem keeps {W w1:World} (hb:Below W.heap.size W w1) {k o:Nat} {v:Value} (h:W.cell? ⟨k,o,none⟩=some v):w1.cell? ⟨k,o,none⟩=some v:=by
 rw [hb.cell (block_lt_of_cell h)];exact h
theorem Cw {w1:World} {k:Nat} {a0 a1:Value} (h0:w1.cell? ⟨k,0,none⟩=some a0) (h1:w1.cell? ⟨k,1,none⟩=some a1) (u v:Value) :
    ((w1.setCell ⟨k,0,none⟩ u).setCell ⟨k,1,none⟩ v).cell? ⟨k,0,none⟩=some u∧((w1.setCell ⟨k,0,none⟩ u).setCell ⟨k,1,none⟩ v).cell? ⟨k,1,none⟩=some v:=by
 constructor
 ·rw [World.cell?_setCell_other _ _ _ _ (by simp)];exact World.cell?_setCell_same _ _ _ h0
 exact World.cell?_setCell_same _ _ _ (u:=a1) (by rw [World.cell?_setCell_other _ _ _ _ (by simp)];exact h1)
theorem Li (a b:Int) (w:World) (h1 : -9223372036854775808≤a) (h2:a≤9223372036854775807) (h3 : -9223372036854775808≤b) (h4:b≤9223372036854775807) :
    Calls Tryz.prog 169 #[.int .i64 a,.int .i64 b] w fun e w' => e=.returned (W (a * b))∧Below w.heap.size w w':=by
 go_enter Tryz.func169,Tryz.ntmps169
 go_wp2_with (first | (go_at_call 60;refine (jm _ _ h1 h2).mono ?_;unfold W;rintro e w' ⟨rfl,c1,rfl⟩) | (go_at_call 212;refine (En (a:=a) b rfl _ h3 h4).mono ?_;unfold W;rintro e w1 ⟨rfl,hb⟩;obtain ⟨hc,hf,hs⟩:=lq hb));obtain ⟨r0,r1⟩:=Cw (w1:=w1) (k:=w.heap.size) (keeps hb (by simp [go_sem];rfl)) (keeps hb (by simp [go_sem];rfl)) (.int .i64 (hi (a * b))) (.int .u64 (lo (a * b)));simp [bodyPost,results,Tryz.results169,go_sem,W,r0,r1];exact kK ((((Below.refl _ _).alloc lr _).alloc (by simp) _).trans (hb.mono (by simp;omega))) lr _ _
theorem xE {x:Value} {a:Int} (hx:x=W a) (ia:In a) (w:World) :
    Calls Tryz.prog 105 #[x] w fun e w' => e=.returned (.agg #[.int .u64 (ab a % 18446744073709551616),.int .u64 (ab a / 18446744073709551616)])∧Below w.heap.size w w':=by
 subst hx;have e2:Hid (IntKind.u64.wrap (hi (ab a))=ab a / 18446744073709551616):=QB ia;have e1:Hid (lo (ab a)=ab a % 18446744073709551616):=rfl;by_cases h:a<0
 ·have hh:hi a<0:=(mM ia).2 h;have e0:ab a = -a:=tN h;rw [e0] at e1 e2 ⊢;clear e0;unfold W
  go_enter Tryz.func105,Tryz.ntmps105
  go_wp2_with (go_at_call 156;refine (La (a:=a) rfl _).mono ?_;unfold W;rintro e w' ⟨rfl,c1,c2,c3,c4,c5,rfl⟩);rw [e1.o,e2.o];simp [bodyPost,results,Tryz.results105,go_sem];exact ((((((Below.refl _ _).alloc lr _).alloc (by simp) _).alloc (by simp;omega) _).alloc (by simp;omega) _).alloc (by simp;omega) _).alloc (by simp;omega) _ |>.alloc (by simp;omega) _
 have hh:0≤hi a:=by have:=mM ia;omega
 have e0:ab a=a:=tL (by omega);rw [e0] at e1 e2 ⊢;clear e0;unfold W
 go_enter Tryz.func105,Tryz.ntmps105
 go_wp2;rw [e1.o,e2.o];simp [bodyPost,results,Tryz.results105,go_sem];exact ((Below.refl _ _).alloc lr _).alloc (by simp) _
theorem zi (q r d:Int) (w:World) (hq:0≤q) (hr:0≤r) (hd:r<d) (hd':d≤18446744073709551615) :
    Calls Tryz.prog 107 #[.int .u64 q,.int .u64 r,.int .u64 d] w fun e w' => e=.returned (.int .u64 (ru q r d))∧w=w':=by
 have h4:(Hid (ru q r d=1)∧d - r<r)∨(Hid (ru q r d=1)∧((r:Int)==d - r)=true∧(q % 2==1)=true∧¬ d - r<r)∨(Hid (ru q r d=0)∧((r:Int)==d - r)=true∧(q % 2==1)=false∧¬ d - r<r)∨(Hid (ru q r d=0)∧((r:Int)==d - r)=false∧¬ d - r<r):=by
  unfold Hid ru;simp only [beq_iff_eq,beq_eq_false_iff_ne];split <;> omega
 generalize ru q r d=c at *;rcases h4 with ⟨H,h⟩ | ⟨H,h,h',h''⟩ | ⟨H,h,h',h''⟩ | ⟨H,h,h'⟩
 all_goals
  go_enter Tryz.func107,Tryz.ntmps107
  go_wp2;go_ret;exact ⟨by rw [H.o];rfl,rfl⟩
end dec
namespace dec
open Go.RowKit
def dig (u v y:Int):Int:=(u * 4294967296+v) / y
structure Kn (y y1 y0 u v:Int):Prop where
 ey:y=y1 * 4294967296+y0
 y1a:2147483648≤y1
 y1b:y1≤4294967295
 y0a:0≤y0
 y0b:y0≤4294967295
 u0:0≤u
 u1:u<y
 v0:0≤v
 v1:v≤4294967295
section
variable {y y1 y0 u v q r:Int}
theorem Kn.pos (K:Kn y y1 y0 u v):0<y:=by have:=K.ey;have:=K.y1a;have:=K.y0a;omega
theorem Kn.lt (K:Kn y y1 y0 u v):dig u v y<4294967296:=by
 unfold dig;rw [Int.ediv_lt_iff_lt_mul K.pos];have:=K.u1;have:=K.v1;omega
theorem Kn.nonneg (K:Kn y y1 y0 u v):0≤dig u v y:=by
 unfold dig;rw [Int.le_ediv_iff_mul_le K.pos];have:=K.u0;have:=K.v0;omega
theorem Kn.test (K:Kn y y1 y0 u v) (h:q * y1+r=u):q * y0≤4294967296 * r+v↔q≤dig u v y:=by
 unfold dig;rw [Int.le_ediv_iff_mul_le K.pos,K.ey,Int.mul_add,← Int.mul_assoc];generalize q * y1=m at *;generalize q * y0=p;omega
theorem Kn.start (K:Kn y y1 y0 u v):dig u v y≤u / y1∧u / y1≤4294967297:=by
 have hy:=K.ey;have a:=K.y1a;have b:=K.y1b;have c:=K.y0a;have d:=K.y0b;have e:=K.u1;have f:=K.v1;constructor
 ·rw [Int.le_ediv_iff_mul_le (by omega)];have h:=Int.ediv_mul_le (u * 4294967296+v) (b:=y) (by have:=K.pos;omega);have h0:=Int.mul_nonneg K.nonneg c
  change dig u v y * y≤_ at h
  rw [hy,Int.mul_add,← Int.mul_assoc,← hy] at h;generalize dig u v y * y1=m at *;generalize dig u v y * y0=p at *;omega
 have:u / y1<4294967298:=by rw [Int.ediv_lt_iff_lt_mul (by omega)];omega
 omega
theorem Kn.o (K:Kn y y1 y0 u v) (h:q * y1+r=u) (h1:q≤4294967296) (h2:4294967296≤r):q≤dig u v y:=by
 rw [← K.test h];have a:=K.y0a;have b:=K.y0b;have c:=K.v0;have m:=Int.mul_le_mul h1 b a (by omega);omega
theorem Kn.rest (K:Kn y y1 y0 u v):0≤u * 4294967296+v - dig u v y * y∧u * 4294967296+v - dig u v y * y<y:=by
 have e:u * 4294967296+v - dig u v y * y=(u * 4294967296+v) % y:=by rw [Int.emod_def];unfold dig;rw [Int.mul_comm y]
 rw [e];exact ⟨Int.emod_nonneg _ (by have:=K.pos;omega),Int.emod_lt_of_pos _ K.pos⟩
end
def rst (u v y:Int):Int:=u * 4294967296+v - dig u v y * y
def Jt (y1 u Q q r:Int):Prop:=Q≤q∧q≤4294967297∧q * y1+r=u
theorem step_eq {y1 u q r:Int} (h:q * y1+r=u):(q - 1) * y1+(r+y1)=u:=by rw [Int.sub_mul];omega
theorem wK {u v y:Int} (h0:0≤rst u v y) (h1:rst u v y≤18446744073709551615) :
    IntKind.u64.wrap (IntKind.u64.wrap (IntKind.u64.wrap (u * 4294967296)+v) - IntKind.u64.wrap (dig u v y * y))=rst u v y:=by
 unfold rst at *;simp only [IntKind.wrap_u64];generalize dig u v y * y=m at *;omega
theorem Cc {N y s u l v1 v0 Y:Int} (_hs:0<s) (hN:N * s=u * 18446744073709551616+l) (hY:Y=y * s) (hy:0<y) (hl:l=v1 * 4294967296+v0) (a:0≤rst (rst u v1 Y) v0 Y) (b:rst (rst u v1 Y) v0 Y<Y) :
    dig u v1 Y * 4294967296+dig (rst u v1 Y) v0 Y=N / y∧rst (rst u v1 Y) v0 Y / s=N % y:=by
 have e1:u * 4294967296+v1=dig u v1 Y * Y+rst u v1 Y:=by unfold rst;omega
 have e2:rst u v1 Y * 4294967296+v0=dig (rst u v1 Y) v0 Y * Y+rst (rst u v1 Y) v0 Y:=by
  have:rst (rst u v1 Y) v0 Y=rst u v1 Y * 4294967296+v0 - dig (rst u v1 Y) v0 Y * Y:=rfl;omega
 generalize dig u v1 Y=q1 at *;generalize rst u v1 Y=r1 at *;generalize dig r1 v0 Y=q0 at *;generalize rst r1 v0 Y=R at *;have e3:N * s=(q1 * 4294967296+q0) * Y+R:=by
  rw [Int.add_mul,Int.mul_assoc,Int.mul_comm 4294967296 Y,← Int.mul_assoc];generalize q1 * Y=m1 at *;generalize q0 * Y=m0 at *;omega
 rw [hY,← Int.mul_assoc] at e3;have e4:R=(N - (q1 * 4294967296+q0) * y) * s:=by rw [Int.sub_mul];omega
 generalize q1 * 4294967296+q0=q at *;have hpos:=_hs;have f1:R / s=N - q * y:=by rw [e4];exact Int.mul_ediv_cancel _ (by omega)
 have g1:0≤N - q * y:=by
  rcases Int.lt_or_le (N - q * y) 0 with h | h
  ·have:=Int.mul_neg_of_neg_of_pos h hpos;omega
  exact h
 have g2:N - q * y<y:=by
  rw [e4,hY] at b;exact Int.lt_of_mul_lt_mul_right b (by omega)
 have f2:N / y=q:=by
  have:N=(N - q * y)+q * y:=by omega
  rw [this,Int.add_mul_ediv_right _ _ (by omega),Int.ediv_eq_zero_of_lt g1 g2];omega
 have f3:N % y=N - q * y:=by rw [Int.emod_def,f2,Int.mul_comm y]
 exact ⟨f2.symm,by rw [f1,f3]⟩
theorem Hw (y:Nat) (h0:1≤y) (h1:y<18446744073709551616) :
    ∃ s:Nat,s≤63∧64 - (Lib.bitLen y:Int)=s∧9223372036854775808≤y * 2 ^ s∧y * 2 ^ s<18446744073709551616:=by
 obtain ⟨a,b,c⟩:=Lib.bitLenAux_bounds 64 y (by omega) (by omega);have d:=Lib.bitLen_le y 64 (by omega) (by omega)
 change 1≤Lib.bitLen y at a
 change 2 ^ (Lib.bitLen y - 1)≤y at b
 change y<2 ^ Lib.bitLen y at c
 generalize Lib.bitLen y=L at *;refine ⟨64 - L,by omega,by omega,?_,?_⟩
 ·have e:2 ^ (L - 1) * 2 ^ (64 - L)=9223372036854775808:=by
   rw [← Nat.pow_add,show L - 1+(64 - L)=63 from by omega]
  rw [← e];exact Nat.mul_le_mul_right _ b
 have e:2 ^ L * 2 ^ (64 - L)=18446744073709551616:=by
  rw [← Nat.pow_add,show L+(64 - L)=64 from by omega]
 rw [← e];exact Nat.mul_lt_mul_of_pos_right c (Nat.two_pow_pos _)
theorem Eh (hi lo s:Nat) (hs:s≤63) :
    (hi * 18446744073709551616+lo) * 2 ^ s=(hi * 2 ^ s+lo / 2 ^ (64 - s)) * 18446744073709551616+lo * 2 ^ s % 18446744073709551616:=by
 have e:2 ^ (64 - s) * 2 ^ s=18446744073709551616:=by
  rw [← Nat.pow_add,show 64 - s+s=64 from by omega]
 have d:lo * 2 ^ s / 18446744073709551616=lo / 2 ^ (64 - s):=by
  rw [← e];exact Nat.mul_div_mul_right _ _ (Nat.two_pow_pos _)
 rw [← d,Nat.add_mul,Nat.mul_right_comm];generalize hi * 2 ^ s=m;generalize lo * 2 ^ s=k;omega
theorem N8 (hi lo s:Nat) (hs:s≤63) (hlo:lo<18446744073709551616):hi * 2 ^ s ||| lo / 2 ^ (64 - s)=hi * 2 ^ s+lo / 2 ^ (64 - s):=by
 have e:2 ^ (64 - s) * 2 ^ s=18446744073709551616:=by
  rw [← Nat.pow_add,show 64 - s+s=64 from by omega]
 have h:lo / 2 ^ (64 - s)<2 ^ s:=Nat.div_lt_of_lt_mul (by rw [e];exact hlo);rw [Nat.mul_comm hi];exact (Nat.two_pow_add_eq_or_of_lt h hi).symm
theorem BF (a:Int) (h0:0≤a) (h1:a≤18446744073709551615):bits .and .u64 a 4294967295=a % 4294967296:=by
 obtain ⟨n,rfl⟩:=Int.eq_ofNat_of_zero_le h0;have h:=bits_and_u64_nat n 4294967295 (by omega) (by omega);have e:n &&& 4294967295=n % 4294967296:=Nat.and_two_pow_sub_one_eq_mod n 32;rw [e] at h;exact h
structure Norm (hi lo y s Y u l:Int):Prop where
 s0:0≤s
 s1:s≤63
 len:64 - (Lib.bitLen y.toNat:Int)=s
 wY:IntKind.u64.wrap (y * 2 ^ s.toNat)=Y
 Y0:9223372036854775808≤Y
 Y1:Y≤18446744073709551615
 wu:bits BinOp.or IntKind.u64 (IntKind.u64.wrap (hi * 2 ^ s.toNat)) (lo / 2 ^ (64 - s).toNat)=u
 u0:0≤u
 u1:u<Y
 wl:IntKind.u64.wrap (lo * 2 ^ s.toNat)=l
 l0:0≤l
 l1:l≤18446744073709551615
 pos:(0:Int)<2 ^ s.toNat
 eY:Y=y * 2 ^ s.toNat
 eN:(hi * 18446744073709551616+lo) * 2 ^ s.toNat=u * 18446744073709551616+l
theorem Hz (hi lo y:Int) (h1:0≤hi) (h2:hi<y) (h3:y≤18446744073709551615) (h4:0≤lo) (h5:lo≤18446744073709551615) :
    ∃ s Y u l,Norm hi lo y s Y u l:=by
 obtain ⟨hi,rfl⟩:=Int.eq_ofNat_of_zero_le h1;obtain ⟨lo,rfl⟩:=Int.eq_ofNat_of_zero_le h4;obtain ⟨y,rfl⟩:=Int.eq_ofNat_of_zero_le (show 0≤y from by omega);obtain ⟨s,hs,hl,ha,hb⟩:=Hw y (by omega) (by omega);have hsh:=Eh hi lo s hs;have hor:=N8 hi lo s hs (by omega);have hlt:hi * 2 ^ s+2 ^ s≤y * 2 ^ s:=by
  have:=Nat.mul_le_mul_right (2 ^ s) (show hi+1≤y from by omega);rw [Nat.add_mul] at this;omega
 have hd:lo / 2 ^ (64 - s)<2 ^ s:=Nat.div_lt_of_lt_mul (by
   rw [← Nat.pow_add,show 64 - s+s=64 from by omega];omega)
 have hp:0<2 ^ s:=Nat.two_pow_pos _;have c2:((2 ^ s:Nat):Int)=(2:Int) ^ s:=by simp
 have c3:((2 ^ (64 - s):Nat):Int)=(2:Int) ^ (64 - s):=by simp
 have t1:((s:Int)).toNat=s:=rfl;have t2:(64 - (s:Int)).toNat=64 - s:=by omega
 refine ⟨s,((y * 2 ^ s:Nat):Int),((hi * 2 ^ s+lo / 2 ^ (64 - s):Nat):Int),((lo * 2 ^ s % 18446744073709551616:Nat):Int),?_⟩;have wY:IntKind.u64.wrap ((y:Int) * 2 ^ s)=((y * 2 ^ s:Nat):Int):=by
  rw [← c2,← Int.natCast_mul,IntKind.wrap_u64];omega
 have wH:IntKind.u64.wrap ((hi:Int) * 2 ^ s)=((hi * 2 ^ s:Nat):Int):=by
  rw [← c2,← Int.natCast_mul,IntKind.wrap_u64];omega
 have wL:IntKind.u64.wrap ((lo:Int) * 2 ^ s)=((lo * 2 ^ s % 18446744073709551616:Nat):Int):=by
  rw [← c2,← Int.natCast_mul,IntKind.wrap_u64];omega
 have wU:bits BinOp.or IntKind.u64 (IntKind.u64.wrap ((hi:Int) * 2 ^ s)) ((lo:Int) / 2 ^ (64 - s))=((hi * 2 ^ s+lo / 2 ^ (64 - s):Nat):Int):=by
  rw [wH,← c3,← Int.natCast_ediv,bits_or_u64_nat _ _ (by omega) (by omega),hor]
 have eN:((hi:Int) * 18446744073709551616+lo) * 2 ^ s=((hi * 2 ^ s+lo / 2 ^ (64 - s):Nat):Int) * 18446744073709551616+((lo * 2 ^ s % 18446744073709551616:Nat):Int):=by
  rw [← c2];generalize hi * 2 ^ s+lo / 2 ^ (64 - s)=A at hsh ⊢;generalize lo * 2 ^ s % 18446744073709551616=B at hsh ⊢;generalize 2 ^ s=p at hsh ⊢;have h:=congrArg (fun x:Nat=>(x:Int)) hsh;simp only [Int.natCast_add,Int.natCast_mul] at h;exact h
 constructor
 case s0=>omega
 case s1=>omega
 case len=>rw [Int.toNat_natCast];exact hl
 case wY=>rw [t1];exact wY
 case Y0=>omega
 case Y1=>omega
 case wu=>rw [t1,t2];exact wU
 case u0=>omega
 case u1=>omega
 case wl=>rw [t1];exact wL
 case l0=>omega
 case l1=>omega
 case pos=>rw [t1,← c2];omega
 case eY=>rw [t1,← c2,Int.natCast_mul]
 case eN=>rw [t1];exact eN
theorem Dq (x:Int):ab x=(x.natAbs:Int):=by unfold ab;split <;> omega
theorem Gi (x y:Int):ab (x * y)=ab x * ab y:=by rw [Dq,Dq,Dq,Int.natAbs_mul,Int.natCast_mul]
theorem Nz (q r d:Int):ru q r d=0∨ru q r d=1:=by unfold ru;split <;> omega
theorem yj (a d:Int):eZ a d=true↔d≠0∧quo a d≤1152921504606846976:=by unfold eZ;rw [decide_eq_true_eq]
theorem jQ {a d:Int} (h:eZ a d=false):dv a d=0:=wG h
theorem yT {q d:Int} (hd:d≠0):quo (q * d) d=ab q:=by
 have hD:0<ab d:=by unfold ab;split <;> omega
 unfold quo;rw [Gi,Int.mul_ediv_cancel _ (by omega),Int.mul_emod_left];have:ru (ab q) 0 (ab d)=0:=by unfold ru;rw [if_neg (by omega)]
 rw [this,Int.add_zero]
theorem EW {q d:Int} (q1 : -9223372036854775808≤q) (q2:q≤9223372036854775807) (d1 : -9223372036854775808≤d) (d2:d≤9223372036854775807):In (q * d):=by
 have a1:ab q≤9223372036854775808:=by unfold ab;split <;> omega
 have a2:ab d≤9223372036854775808:=by unfold ab;split <;> omega
 have h:=Int.mul_le_mul a1 a2 (iB d) (by omega);rw [← Gi] at h;unfold In;unfold ab at h;split at h <;> omega
theorem divides {q d:Int} (hd:d≠0) (q1 : -1152921504606846976≤q) (q2:q≤1152921504606846976):eZ (q * d) d=true∧dv (q * d) d=q:=by
 have h:eZ (q * d) d=true:=by
  rw [yj,yT hd];exact ⟨hd,by unfold ab;split <;> omega⟩
 refine ⟨h,?_⟩;rw [sV h];unfold sq;rw [yT hd];rcases Int.lt_trichotomy d 0 with g | g | g
 ·rcases Int.lt_trichotomy q 0 with k | k | k
  ·have:=Int.mul_pos_of_neg_of_neg k g;rw [if_pos (by omega),tN k];omega
  ·subst k;rw [Int.zero_mul];simp [ab]
  have:=Int.mul_neg_of_pos_of_neg k g;rw [if_neg (by omega),tL (by omega)]
 ·omega
 rcases Int.lt_trichotomy q 0 with k | k | k
 ·have:=Int.mul_neg_of_neg_of_pos k g;rw [if_pos (by omega),tN k];omega
 ·subst k;rw [Int.zero_mul];simp [ab]
 have:=Int.mul_pos k g;rw [if_neg (by omega),tL (by omega)]
theorem zH {q d:Int} (h:d=0∨1152921504606846976<q∨q < -1152921504606846976):eZ (q * d) d=false:=by
 by_cases hd:d=0
 ·unfold eZ;simp [hd]
 have:¬ eZ (q * d) d=true:=by
  rw [yj,yT hd];unfold ab;split <;> omega
 simpa using this
def rg (x:Int):Bool:=decide (-1152921504606846976≤x∧x≤1152921504606846976)
def kx (x:Int):Int:=if rg x then x else 0
theorem rU (x:Int):rg x=true↔-1152921504606846976≤x∧x≤1152921504606846976:=by unfold rg;rw [decide_eq_true_eq]
theorem wC (x:Int):rg x=false↔x < -1152921504606846976∨1152921504606846976<x:=by unfold rg;rw [decide_eq_false_iff_not];omega
theorem oQ {x:Int} (h:rg x=true):kx x=x:=by unfold kx;rw [h];rfl
theorem Ql {x:Int} (h:rg x=false):kx x=0:=by unfold kx;rw [h];rfl
theorem nQ (a:Int):eZ a 1=rg a:=by
 cases h:rg a
 ·rw [wC] at h;have:=zH (q:=a) (d:=1) (by omega)
  rwa [Int.mul_one] at this
 rw [rU] at h;have:=(divides (q:=a) (d:=1) (by decide) h.1 h.2).1
 rwa [Int.mul_one] at this
theorem yS (a:Int):dv a 1=kx a:=by
 cases h:rg a
 ·rw [Ql h,jQ ((nQ a).trans h)]
 rw [oQ h];rw [rU] at h;have:=(divides (q:=a) (d:=1) (by decide) h.1 h.2).2
 rwa [Int.mul_one] at this
end dec
end Go.Proofs.YtbpijgddfaefkaaGreatDoor
