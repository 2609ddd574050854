/- Pairs of words as integers, and the. -/
import Derived.WalkKit
import Derived.WalkLawsBesides
import Derived.OpenShut
import Derived.Outline
import Derived.Laws.Externs
import Derived.StillTailTactics
import Derived.Laws.Pointers
import Derived.Deep.RegionHeld3
import Derived.Deep.QuietTactic
import Derived.BigQuiet
import Derived.RowKit3
import Derived.Shelf.Bits.Mul64
import Derived.Lib.Hide
import Derived.Laws.Bits64b
import Derived.Lib.ItoaNum
import Derived.Lib.BitFns
import Derived.Deep.CutBlock
import Derived.Deep.DeepCutAuto
import Derived.Deep.LoopGhost
import Derived.Shelf.Small.Bits
import Derived.Shelf.Strconv.Itoa0
import Derived.Lib.SmallJoins
import Derived.Lib.QuietBelow
import Derived.Test.YtbahfelnbofjjaaGreatDoorChecked
import Derived.Test.YtbahfelnbofjjaaGreatDoorH00
set_option maxRecDepth 100000
set_option maxHeartbeats 16000000
namespace Go.Proofs.YtbahfelnbofjjaaGreatDoor
namespace dec
open Go.RowKit
abbrev uy3:=Tryz.underlying3
abbrev uy5:=Tryz.underlying5
abbrev uy9:=Tryz.underlying9
abbrev uy56:=Tryz.underlying56
abbrev uy29:=Tryz.underlying29
abbrev uy97:=Tryz.underlying97
abbrev uy31:=Tryz.underlying31
abbrev uy88:=Tryz.underlying88
abbrev uy26:=Tryz.underlying26
abbrev uy90:=Tryz.underlying90
abbrev uy48:=Tryz.underlying48
abbrev uy82:=Tryz.underlying82
abbrev uy51:=Tryz.underlying51
abbrev uy108:=Tryz.underlying108
abbrev uy43:=Tryz.underlying43
def lo (n:Int):Int:=n % 18446744073709551616
def hi (n:Int):Int:=(n / 18446744073709551616+9223372036854775808) % 18446744073709551616 - 9223372036854775808
def W (n:Int):Value:=.agg #[.int .i64 (hi n),.int .u64 (lo n)]
theorem kU (n:Int):0≤lo n∧lo n≤18446744073709551615:=by unfold lo;omega
theorem nC (n:Int) : -9223372036854775808≤hi n∧hi n≤9223372036854775807:=by unfold hi;omega
theorem Lf:Value.agg #[.int .i64 0,.int .u64 0]=W 0:=by
 have e1:hi 0=0:=by decide
 have e2:lo 0=0:=by decide
 unfold W;rw [e1,e2]
theorem Vj (a b:Int):wrap64 (wrap64 (hi a+hi b)+(lo a+lo b) / 18446744073709551616)=hi (a+b):=by unfold hi lo wrap64;omega
theorem Vi (a b:Int):(lo a+lo b) % 18446744073709551616=lo (a+b):=by unfold lo;omega
def bor (x y:Int):Int:=if x<y then 1 else 0
theorem Lb (x y:Int):0≤bor x y∧bor x y≤1:=by unfold bor;split <;> decide
theorem SA (a b:Int):wrap64 (wrap64 (hi a - hi b) - bor (lo a) (lo b))=hi (a - b):=by unfold hi lo wrap64 bor;split <;> omega
theorem Sz (a b:Int):(lo a - lo b) % 18446744073709551616=lo (a - b):=by unfold lo;omega
theorem VW (n:Int) (h1 : -9223372036854775808≤n) (h2:n≤9223372036854775807):n / 9223372036854775808=hi n:=by unfold hi;omega
theorem NT (n:Int):IntKind.u64.wrap n=lo n:=by rw [IntKind.wrap_u64];unfold lo;rfl
theorem oz (x:Int):∃ k,IntKind.u64.wrap x=x+18446744073709551616 * k:=⟨-(x / 18446744073709551616),by rw [IntKind.wrap_u64];omega⟩
theorem zi (a n:Int):∃ p1 p2 p3:Int,p1=(a / 18446744073709551616) * (n / 18446744073709551616)∧p2=(a / 18446744073709551616) * lo n∧p3=lo a * (n / 18446744073709551616) ∧
    a * n=18446744073709551616 * (18446744073709551616 * p1+p2+p3)+lo a * lo n:=by
 refine ⟨_,_,_,rfl,rfl,rfl,?_⟩;have ea:a=18446744073709551616 * (a / 18446744073709551616)+lo a:=by unfold lo;omega
 have en:n=18446744073709551616 * (n / 18446744073709551616)+lo n:=by unfold lo;omega
 generalize a / 18446744073709551616=A at *;generalize n / 18446744073709551616=S at *;generalize lo a=la at *;generalize lo n=ln at *;subst ea en;rw [Int.add_mul,Int.mul_add,Int.mul_add,Int.mul_add,Int.mul_add,Int.mul_assoc,Int.mul_assoc,Int.mul_left_comm A,Int.mul_left_comm la];omega
theorem LG (a n:Int):lo a * lo n % 18446744073709551616=lo (a * n):=by
 obtain ⟨p1,p2,p3,_,_,_,e⟩:=zi a n;rw [e];unfold lo;omega
theorem LH (a n:Int) (h1 : -9223372036854775808≤n) (h2:n≤9223372036854775807) :
    wrap64 (IntKind.u64.wrap (lo a * lo n / 18446744073709551616+IntKind.u64.wrap (IntKind.u64.wrap (IntKind.u64.wrap (hi a) * lo n)+IntKind.u64.wrap (lo a * IntKind.u64.wrap (n / 9223372036854775808)))))=hi (a * n):=by
 obtain ⟨p1,p2,p3,e1,e2,e3,e⟩:=zi a n;have hs:n / 9223372036854775808=n / 18446744073709551616:=by omega
 rw [hs];obtain ⟨k0,f0⟩:∃ k,hi a=a / 18446744073709551616+18446744073709551616 * k:=⟨-((a / 18446744073709551616+9223372036854775808) / 18446744073709551616),by unfold hi;omega⟩;obtain ⟨k1,f1⟩:=oz (hi a);obtain ⟨k2,f2⟩:=oz (IntKind.u64.wrap (hi a) * lo n);obtain ⟨k3,f3⟩:=oz (n / 18446744073709551616);obtain ⟨k4,f4⟩:=oz (lo a * IntKind.u64.wrap (n / 18446744073709551616));obtain ⟨k5,f5⟩:=oz (IntKind.u64.wrap (IntKind.u64.wrap (hi a) * lo n)+IntKind.u64.wrap (lo a * IntKind.u64.wrap (n / 18446744073709551616)));obtain ⟨k6,f6⟩:=oz (lo a * lo n / 18446744073709551616+IntKind.u64.wrap (IntKind.u64.wrap (IntKind.u64.wrap (hi a) * lo n)+IntKind.u64.wrap (lo a * IntKind.u64.wrap (n / 18446744073709551616))));rw [f6,f5,f2,f4,f1,f3,f0,e];rw [Int.add_mul,Int.add_mul,Int.mul_add,Int.mul_assoc,Int.mul_assoc,Int.mul_left_comm (lo a),← e2,← e3];generalize lo a * lo n=m;generalize k0 * lo n=m0;generalize k1 * lo n=m1;generalize lo a * k3=m3;unfold hi wrap64;omega
def In (n:Int):Prop:=-170141183460469231731687303715884105728≤n∧n<170141183460469231731687303715884105728
def ab (a:Int):Int:=if a<0 then -a else a
theorem Dh {a:Int} (h:a<0):ab a = -a:=by unfold ab;rw [if_pos h]
theorem Df {a:Int} (h:0≤a):ab a=a:=by unfold ab;rw [if_neg (by omega)]
theorem BX {a:Int} (ha:In a):hi a<0↔a<0:=by unfold In at ha;unfold hi;omega
theorem WZ {a:Int} (ha:In a):IntKind.u64.wrap (hi (ab a))=ab a / 18446744073709551616:=by
 unfold In at ha;rw [IntKind.wrap_u64];unfold hi ab;split <;> omega
def ru (q r d:Int):Int:=if d - r<r∨(r=d - r∧q % 2=1) then 1 else 0
def quo (a d:Int):Int:=ab a / ab d+ru (ab a / ab d) (ab a % ab d) (ab d)
def iw (a d:Int):Bool:=decide (d≠0∧quo a d≤1152921504606846976)
def sq (a d:Int):Int:=if (a<0∧0≤d)∨(0≤a∧d<0) then -quo a d else quo a d
def dv (a d:Int):Int:=if iw a d then sq a d else 0
theorem um (q r d:Int):0≤ru q r d∧ru q r d≤1:=by unfold ru;split <;> decide
theorem kg (a:Int):0≤ab a:=by unfold ab;split <;> omega
theorem Aa {a d:Int} (h:iw a d=false):dv a d=0:=by unfold dv;rw [h];rfl
theorem KQ {a d:Int} (h:iw a d=true):dv a d=sq a d:=by unfold dv;rw [h];rfl
structure Dv (a d A D ah al q r x:Int):Prop where
 A0:ab a=A
 D0:ab d=D
 eah:A / 18446744073709551616=ah
 eal:A % 18446744073709551616=al
 eq:q=A / D
 er:r=A % D
 ex:x=ru q r D
theorem yM {a d A D ah al q r x:Int} (h:Dv a d A D ah al q r x):iw a d=decide (D≠0∧q+x≤1152921504606846976):=by
 obtain ⟨rfl,rfl,rfl,rfl,rfl,rfl,rfl⟩:=h;unfold iw quo;have:(d≠0)↔(ab d≠0):=by unfold ab;split <;> omega
 simp only [this]
theorem Dv.VY {a d A D ah al q r x:Int} (h:Dv a d A D ah al q r x) (g:D≤ah):iw a d=false:=by
 rw [yM h];have hx:=um q r D;rw [← h.ex] at hx;have hA:=kg a;have hD:=kg d;rw [h.A0] at hA;rw [h.D0] at hD;simp only [decide_eq_false_iff_not];rintro ⟨h1,h2⟩;have e:18446744073709551616≤q:=by
  rw [h.eq,Int.le_ediv_iff_mul_le (by omega)];have:=h.eah;omega
 omega
theorem Dv.NU {a d A D ah al q r x:Int} (h:Dv a d A D ah al q r x) (g:1152921504606846976<q+x):iw a d=false:=by
 rw [yM h];simp only [decide_eq_false_iff_not];omega
theorem Dv.VX {a d A D ah al q r x:Int} (h:Dv a d A D ah al q r x) (g:1152921504606846976<q):iw a d=false:=by
 have hx:=um q r D;rw [← h.ex] at hx;exact h.NU (by omega)
theorem Dv.some {a d A D ah al q r x:Int} (h:Dv a d A D ah al q r x) (g:ah<D) (g':q+x≤1152921504606846976):iw a d=true:=by
 rw [yM h];have hA:=kg a;rw [h.A0] at hA;have:=h.eah;simp only [L_c];omega
theorem Dv.sq {a d A D ah al q r x:Int} (h:Dv a d A D ah al q r x):sq a d=if (a<0∧0≤d)∨(0≤a∧d<0) then -(q+x) else q+x:=by
 obtain ⟨rfl,rfl,rfl,rfl,rfl,rfl,rfl⟩:=h;rfl
end dec
namespace dec
open Go.RowKit Go.Shelf
def LA:Array Value→Sem Value:=fun args=>do
 let (x,y,b) ← Extern.MathBitsCarry.three "Sub64" args
 pure (Extern.MathBitsCarry.pair ((x+Extern.MathBitsCarry.m64 - y - b) % Extern.MathBitsCarry.m64) (if x<y+b then 1 else 0))
theorem Vw (x y:Int) (hx:0≤x) (hy:0≤y) (hy':y≤18446744073709551615) (w:World):(callFunc 323 #[.int .u64 x,.int .u64 y,.int .u64 0]).run Tryz.prog w =
    .ok (.value (.tuple #[.int .u64 ((x - y) % 18446744073709551616),.int .u64 (bor x y)])) w:=by
 obtain ⟨x,rfl⟩:=Int.eq_ofNat_of_zero_le hx;obtain ⟨y,rfl⟩:=Int.eq_ofNat_of_zero_le hy;have e1:(((x+18446744073709551616 - y - 0) % 18446744073709551616:Nat):Int)=((x:Int) - y) % 18446744073709551616:=by omega
 have e2:((if x<y+0 then 1 else 0:Nat):Int)=bor x y:=by unfold bor;split <;> split <;> omega
 rw [← e1,← e2];rw [run_callFunc_extern Tryz.func323 (by kernel_rfl) (by kernel_rfl) (by kernel_rfl) (e:=LA) (by kernel_rfl)];rfl
theorem Ph {x y:Value} {a b:Int} (hx:x=W a) (hy:y=W b) (w:World) :
    Calls Tryz.prog 314 #[x,y] w fun e w' => e=.returned (W (a - b))∧∃ c1 c2 c3:Array Value,w'=((w.alloc (.cells c1 221)).alloc (.cells c2 221)).alloc (.cells c3 221):=by
 subst hx hy;have ra:=kU a;have rb:=kU b;have ha:=nC a;have hb:=nC b;obtain ⟨k0,k1⟩:=Lb (lo a) (lo b);obtain ⟨ra1,ra2⟩:=ra;obtain ⟨rb1,rb2⟩:=rb;obtain ⟨ha1,ha2⟩:=ha;obtain ⟨hb1,hb2⟩:=hb;unfold W
 go_enter Tryz.func314,Tryz.ntmps314
 go_wp2_with (simp only [Vw (lo a) (lo b) ra1 rb1 rb2]);simp [bodyPost,results,Tryz.results314,go_sem];exact ⟨⟨SA a b,Sz a b⟩,_,_,_,rfl⟩
theorem Qm {x:Value} {a:Int} (hx:x=W a) (w:World) :
    Calls Tryz.prog 305 #[x] w fun e w' => e=.returned (W (-a))∧∃ c1 c2 c3 c4 c5:Array Value,w'=((((w.alloc (.cells c1 221)).alloc (.cells c2 221)).alloc (.cells c3 221)).alloc (.cells c4 221)).alloc (.cells c5 221):=by
 subst hx;unfold W
 go_enter Tryz.func305,Tryz.ntmps305
 go_wp2_with (go_at_call 314;refine (Ph (a:=0) (b:=a) Lf rfl _).mono ?_;unfold W;rintro e w' ⟨rfl,c1,c2,c3,rfl⟩);simp [bodyPost,results,Tryz.results305,go_sem];exact ⟨_,_,_,_,_,rfl⟩
theorem qM (n:Int) (w:World) (_h1 : -9223372036854775808≤n) (_h2:n≤9223372036854775807) :
    Calls Tryz.prog 286 #[.int .i64 n] w fun e w' => e=.returned (.int .i64 (n / 9223372036854775808))∧w=w':=by
 go_enter Tryz.func286,Tryz.ntmps286
 go_wp2;go_ret;exact ⟨rfl,rfl⟩
theorem kD (n:Int) (w:World) (h1 : -9223372036854775808≤n) (h2:n≤9223372036854775807) :
    Calls Tryz.prog 242 #[.int .i64 n] w fun e w' => e=.returned (W n)∧∃ c1:Array Value,w'=w.alloc (.cells c1 221):=by
 go_enter Tryz.func242,Tryz.ntmps242
 go_wp2_with (go_at_call 286;refine (qM _ _ h1 h2).mono ?_;rintro e w' ⟨rfl,rfl⟩);unfold W;rw [VW n h1 h2,NT];simp [bodyPost,results,Tryz.results242,go_sem];exact ⟨_,rfl⟩
theorem Tryz.lays264:Go.Proofs.Lays.n264 Tryz.prog ⟨fun | 264=>311 | n=>n,fun | 53=>212 | 46=>170 | n=>n,fun | n=>n⟩:={
 mixed:=by kernel_rfl
 f264:=Tryz.func311.trans (congrArg some (by kernel_rfl))
 t46:=Tryz.underlying170
 a46:=Tryz.isAgg170
 z46:=Tryz.sizeOf170
 v46:=Tryz.zeroValue170
 t53:=Tryz.underlying212
 a53:=Tryz.isAgg212
 z53:=Tryz.sizeOf212
 v53:=Tryz.zeroValue212 }
theorem Wp (x y:Int) (w:World) (hx:0≤x) (hx':x≤18446744073709551615) (hy:0≤y) (hy':y≤18446744073709551615) :
    Calls Tryz.prog 311 #[.int .u64 x,.int .u64 y] w fun e w' => e=.returned (.tuple #[.int .u64 (x * y / 18446744073709551616),.int .u64 (x * y % 18446744073709551616)])∧w=w':=by
 obtain ⟨x,rfl⟩:=Int.eq_ofNat_of_zero_le hx;obtain ⟨y,rfl⟩:=Int.eq_ofNat_of_zero_le hy;refine (Any.bits_Mul64 Tryz.lays264 x y (by omega) (by omega) w).mono ?_;rintro e w' ⟨rfl,rfl⟩;refine ⟨?_,rfl⟩;rw [← Int.natCast_mul];rfl
theorem Dp (x y:Int) (w:World) (hx:0≤x) (hx':x≤18446744073709551615) (hy:0≤y) (hy':y≤18446744073709551615) :
    Calls Tryz.prog 297 #[.int .u64 x,.int .u64 y] w fun e w' => e=.returned (.agg #[.int .u64 (x * y % 18446744073709551616),.int .u64 (x * y / 18446744073709551616)])∧∃ c1:Array Value,w'=w.alloc (.cells c1 274):=by
 go_enter Tryz.func297,Tryz.ntmps297
 go_wp2_with (go_at_call 311;refine (Wp _ _ _ hx hx' hy hy').mono ?_;rintro e w' ⟨rfl,rfl⟩);simp [bodyPost,results,Tryz.results297,go_sem];exact ⟨_,rfl⟩
theorem Gw {P:Program} {id:Nat} {Q:Exit→Act→World→Prop} {a:Act} {w:World} {l:List Oper} (n:Nat) (hm:P.follows .mixedOrders=true) (hB:Region.lexTailB .any l.toArray n=true)
  (h:wpStill P l.toArray w.drew (fun a' => wpList P l.toArray Q (l.drop n) a' w.drew) (l.take n) a):(Code.region id l.toArray true).wp P Q a w :=
 wp_region_still_tail n hm hB h
theorem Ji {x:Value} {a:Int} (n:Int) (hx:x=W a) (w:World) (h1 : -9223372036854775808≤n) (h2:n≤9223372036854775807) :
    Calls Tryz.prog 258 #[x,.int .i64 n] w fun e w' => e=.returned (W (a * n))∧Below w.heap.size w w':=by
 subst hx;have eh:=LH a n h1 h2;have el:=LG a n;have HE:=Hy eh;have HL:=Hy el;clear eh el;have ra:=kU a;have ha:=nC a;obtain ⟨ra1,ra2⟩:=ra;obtain ⟨ha1,ha2⟩:=ha;have hn:IntKind.u64.wrap n=lo n:=NT n;have rn:=kU n;obtain ⟨rn1,rn2⟩:=rn;unfold W
 go_enter Tryz.func258,Tryz.ntmps258
 go_wp2_with (go_at_call 297;refine (Dp _ _ _ ra1 ra2 rn1 rn2).mono ?_;rintro e w' ⟨rfl,c1,rfl⟩);refine Gw 17 (by kernel_rfl) (by kernel_rfl) ?_;simp only [List.take_succ_cons,List.take_zero,List.drop_succ_cons,List.drop_zero]
 iterate 11 still_step
 still_call (qM _ _ h1 h2).mono (by rintro e w' ⟨rfl,rfl⟩;exact ⟨rfl,rfl⟩)
 repeat still_step
 refine wpStill_nil ?_;go_wp2;rw [HE.o,HL.o];simp [bodyPost,results,Tryz.results258,go_sem];exact ((((Below.refl _ _).alloc lr _).alloc (by simp) _).alloc (by simp;omega) _).alloc (by simp;omega) _ |>.drew
theorem nJ {W w1:World} (hb:Below W.heap.size W w1):(∀ b o,b<W.heap.size→w1.cell? ⟨b,o,none⟩=W.cell? ⟨b,o,none⟩)∧(∀ b o,b<W.heap.size→w1.frozen? ⟨b,o,none⟩=W.frozen? ⟨b,o,none⟩)∧W.heap.size≤w1.heap.size :=
 ⟨fun _ _ h=>hb.cell (p:=⟨_,_,none⟩) h,fun _ _ h=>hb.frozen (p:=⟨_,_,none⟩) h,hb.size⟩
theorem SB {B k:Nat} {W w1:World} (h:Below B W w1) (hk:B≤k) (u v:Value):Below B W ((w1.setCell ⟨k,0,none⟩ u).setCell ⟨k,1,none⟩ v) :=
 Below.setCell (p:=⟨k,1,none⟩) (Below.setCell (p:=⟨k,0,none⟩) h hk u) hk v
theorem keeps {W w1:World} (hb:Below W.heap.size W w1) {k o:Nat} {v:Value} (h:W.cell? ⟨k,o,none⟩=some v):w1.cell? ⟨k,o,none⟩=some v:=by
 rw [hb.cell (block_lt_of_cell h)];exact h
theorem VK {w1:World} {k:Nat} {a0 a1:Value} (h0:w1.cell? ⟨k,0,none⟩=some a0) (h1:w1.cell? ⟨k,1,none⟩=some a1) (u v:Value) :
    ((w1.setCell ⟨k,0,none⟩ u).setCell ⟨k,1,none⟩ v).cell? ⟨k,0,none⟩=some u∧((w1.setCell ⟨k,0,none⟩ u).setCell ⟨k,1,none⟩ v).cell? ⟨k,1,none⟩=some v:=by
 constructor
 ·rw [World.cell?_setCell_other _ _ _ _ (by simp)];exact World.cell?_setCell_same _ _ _ h0
 exact World.cell?_setCell_same _ _ _ (u:=a1) (by rw [World.cell?_setCell_other _ _ _ _ (by simp)];exact h1)
theorem Qs (a b:Int) (w:World) (h1 : -9223372036854775808≤a) (h2:a≤9223372036854775807) (h3 : -9223372036854775808≤b) (h4:b≤9223372036854775807) :
    Calls Tryz.prog 203 #[.int .i64 a,.int .i64 b] w fun e w' => e=.returned (W (a * b))∧Below w.heap.size w w':=by
 go_enter Tryz.func203,Tryz.ntmps203
 go_wp2_with (first | (go_at_call 242;refine (kD _ _ h1 h2).mono ?_;unfold W;rintro e w' ⟨rfl,c1,rfl⟩) | (go_at_call 258;refine (Ji (a:=a) b rfl _ h3 h4).mono ?_;unfold W;rintro e w1 ⟨rfl,hb⟩;obtain ⟨hc,hf,hs⟩:=nJ hb));obtain ⟨r0,r1⟩:=VK (w1:=w1) (k:=w.heap.size) (keeps hb (by simp [go_sem];rfl)) (keeps hb (by simp [go_sem];rfl)) (.int .i64 (hi (a * b))) (.int .u64 (lo (a * b)));simp [bodyPost,results,Tryz.results203,go_sem,W,r0,r1];exact SB ((((Below.refl _ _).alloc lr _).alloc (by simp) _).trans (hb.mono (by simp;omega))) lr _ _
theorem pW {x:Value} {a:Int} (hx:x=W a) (ia:In a) (w:World) :
    Calls Tryz.prog 287 #[x] w fun e w' => e=.returned (.agg #[.int .u64 (ab a % 18446744073709551616),.int .u64 (ab a / 18446744073709551616)])∧Below w.heap.size w w':=by
 subst hx;have e2:Hid (IntKind.u64.wrap (hi (ab a))=ab a / 18446744073709551616):=WZ ia;have e1:Hid (lo (ab a)=ab a % 18446744073709551616):=rfl;by_cases h:a<0
 ·have hh:hi a<0:=(BX ia).2 h;have e0:ab a = -a:=Dh h;rw [e0] at e1 e2 ⊢;clear e0;unfold W
  go_enter Tryz.func287,Tryz.ntmps287
  go_wp2_with (go_at_call 305;refine (Qm (a:=a) rfl _).mono ?_;unfold W;rintro e w' ⟨rfl,c1,c2,c3,c4,c5,rfl⟩);rw [e1.o,e2.o];simp [bodyPost,results,Tryz.results287,go_sem];exact ((((((Below.refl _ _).alloc lr _).alloc (by simp) _).alloc (by simp;omega) _).alloc (by simp;omega) _).alloc (by simp;omega) _).alloc (by simp;omega) _ |>.alloc (by simp;omega) _
 have hh:0≤hi a:=by have:=BX ia;omega
 have e0:ab a=a:=Df (by omega);rw [e0] at e1 e2 ⊢;clear e0;unfold W
 go_enter Tryz.func287,Tryz.ntmps287
 go_wp2;rw [e1.o,e2.o];simp [bodyPost,results,Tryz.results287,go_sem];exact ((Below.refl _ _).alloc lr _).alloc (by simp) _
theorem Dl (q r d:Int) (w:World) (hq:0≤q) (hr:0≤r) (hd:r<d) (hd':d≤18446744073709551615) :
    Calls Tryz.prog 289 #[.int .u64 q,.int .u64 r,.int .u64 d] w fun e w' => e=.returned (.int .u64 (ru q r d))∧w=w':=by
 have h4:(Hid (ru q r d=1)∧d - r<r)∨(Hid (ru q r d=1)∧((r:Int)==d - r)=true∧(q % 2==1)=true∧¬ d - r<r)∨(Hid (ru q r d=0)∧((r:Int)==d - r)=true∧(q % 2==1)=false∧¬ d - r<r)∨(Hid (ru q r d=0)∧((r:Int)==d - r)=false∧¬ d - r<r):=by
  unfold Hid ru;simp only [beq_iff_eq,L_m];split <;> omega
 generalize ru q r d=c at *;rcases h4 with ⟨H,h⟩ | ⟨H,h,h',h''⟩ | ⟨H,h,h',h''⟩ | ⟨H,h,h'⟩
 all_goals
  go_enter Tryz.func289,Tryz.ntmps289
  go_wp2;go_ret;exact ⟨by rw [H.o];rfl,rfl⟩
end dec
namespace dec
open Go.RowKit
def dig (u v y:Int):Int:=(u * 4294967296+v) / y
structure Kn (y y1 y0 u v:Int):Prop where
 ey:y=y1 * 4294967296+y0
 y1a:2147483648≤y1
 y1b:y1≤4294967295
 y0a:0≤y0
 y0b:y0≤4294967295
 u0:0≤u
 u1:u<y
 v0:0≤v
 v1:v≤4294967295
section
variable {y y1 y0 u v q r:Int}
theorem Kn.pos (K:Kn y y1 y0 u v):0<y:=by have:=K.ey;have:=K.y1a;have:=K.y0a;omega
theorem Kn.lt (K:Kn y y1 y0 u v):dig u v y<4294967296:=by
 unfold dig;rw [Int.ediv_lt_iff_lt_mul K.pos];have:=K.u1;have:=K.v1;omega
theorem Kn.nonneg (K:Kn y y1 y0 u v):0≤dig u v y:=by
 unfold dig;rw [Int.le_ediv_iff_mul_le K.pos];have:=K.u0;have:=K.v0;omega
theorem Kn.test (K:Kn y y1 y0 u v) (h:q * y1+r=u):q * y0≤4294967296 * r+v↔q≤dig u v y:=by
 unfold dig;rw [Int.le_ediv_iff_mul_le K.pos,K.ey,Int.mul_add,← Int.mul_assoc];generalize q * y1=m at *;generalize q * y0=p;omega
theorem Kn.start (K:Kn y y1 y0 u v):dig u v y≤u / y1∧u / y1≤4294967297:=by
 have hy:=K.ey;have a:=K.y1a;have b:=K.y1b;have c:=K.y0a;have d:=K.y0b;have e:=K.u1;have f:=K.v1;constructor
 ·rw [Int.le_ediv_iff_mul_le (by omega)];have h:=Int.ediv_mul_le (u * 4294967296+v) (b:=y) (by have:=K.pos;omega);have h0:=Int.mul_nonneg K.nonneg c
  change dig u v y * y≤_ at h
  rw [hy,Int.mul_add,← Int.mul_assoc,← hy] at h;generalize dig u v y * y1=m at *;generalize dig u v y * y0=p at *;omega
 have:u / y1<4294967298:=by rw [Int.ediv_lt_iff_lt_mul (by omega)];omega
 omega
theorem Kn.o (K:Kn y y1 y0 u v) (h:q * y1+r=u) (h1:q≤4294967296) (h2:4294967296≤r):q≤dig u v y:=by
 rw [← K.test h];have a:=K.y0a;have b:=K.y0b;have c:=K.v0;have m:=Int.mul_le_mul h1 b a (by omega);omega
theorem Kn.rest (K:Kn y y1 y0 u v):0≤u * 4294967296+v - dig u v y * y∧u * 4294967296+v - dig u v y * y<y:=by
 have e:u * 4294967296+v - dig u v y * y=(u * 4294967296+v) % y:=by rw [Int.emod_def];unfold dig;rw [Int.mul_comm y]
 rw [e];exact ⟨Int.emod_nonneg _ (by have:=K.pos;omega),Int.emod_lt_of_pos _ K.pos⟩
end
def rst (u v y:Int):Int:=u * 4294967296+v - dig u v y * y
def Oz (y1 u Q q r:Int):Prop:=Q≤q∧q≤4294967297∧q * y1+r=u
theorem step_eq {y1 u q r:Int} (h:q * y1+r=u):(q - 1) * y1+(r+y1)=u:=by rw [Int.sub_mul];omega
theorem Ae {u v y:Int} (h0:0≤rst u v y) (h1:rst u v y≤18446744073709551615) :
    IntKind.u64.wrap (IntKind.u64.wrap (IntKind.u64.wrap (u * 4294967296)+v) - IntKind.u64.wrap (dig u v y * y))=rst u v y:=by
 unfold rst at *;simp only [IntKind.wrap_u64];generalize dig u v y * y=m at *;omega
theorem Gu {N y s u l v1 v0 Y:Int} (_hs:0<s) (hN:N * s=u * 18446744073709551616+l) (hY:Y=y * s) (hy:0<y) (hl:l=v1 * 4294967296+v0) (a:0≤rst (rst u v1 Y) v0 Y) (b:rst (rst u v1 Y) v0 Y<Y) :
    dig u v1 Y * 4294967296+dig (rst u v1 Y) v0 Y=N / y∧rst (rst u v1 Y) v0 Y / s=N % y:=by
 have e1:u * 4294967296+v1=dig u v1 Y * Y+rst u v1 Y:=by unfold rst;omega
 have e2:rst u v1 Y * 4294967296+v0=dig (rst u v1 Y) v0 Y * Y+rst (rst u v1 Y) v0 Y:=by
  have:rst (rst u v1 Y) v0 Y=rst u v1 Y * 4294967296+v0 - dig (rst u v1 Y) v0 Y * Y:=rfl;omega
 generalize dig u v1 Y=q1 at *;generalize rst u v1 Y=r1 at *;generalize dig r1 v0 Y=q0 at *;generalize rst r1 v0 Y=R at *;have e3:N * s=(q1 * 4294967296+q0) * Y+R:=by
  rw [Int.add_mul,Int.mul_assoc,Int.mul_comm 4294967296 Y,← Int.mul_assoc];generalize q1 * Y=m1 at *;generalize q0 * Y=m0 at *;omega
 rw [hY,← Int.mul_assoc] at e3;have e4:R=(N - (q1 * 4294967296+q0) * y) * s:=by rw [Int.sub_mul];omega
 generalize q1 * 4294967296+q0=q at *;have hpos:=_hs;have f1:R / s=N - q * y:=by rw [e4];exact Int.mul_ediv_cancel _ (by omega)
 have g1:0≤N - q * y:=by
  rcases Int.lt_or_le (N - q * y) 0 with h | h
  ·have:=Int.mul_neg_of_neg_of_pos h hpos;omega
  exact h
 have g2:N - q * y<y:=by
  rw [e4,hY] at b;exact Int.lt_of_mul_lt_mul_right b (by omega)
 have f2:N / y=q:=by
  have:N=(N - q * y)+q * y:=by omega
  rw [this,Int.add_mul_ediv_right _ _ (by omega),Int.ediv_eq_zero_of_lt g1 g2];omega
 have f3:N % y=N - q * y:=by rw [Int.emod_def,f2,Int.mul_comm y]
 exact ⟨f2.symm,by rw [f1,f3]⟩
theorem Mg (y:Nat) (h0:1≤y) (h1:y<18446744073709551616) :
    ∃ s:Nat,s≤63∧64 - (Lib.bitLen y:Int)=s∧9223372036854775808≤y * 2 ^ s∧y * 2 ^ s<18446744073709551616:=by
 obtain ⟨a,b,c⟩:=Lib.bitLenAux_bounds 64 y (by omega) (by omega);have d:=Lib.bitLen_le y 64 (by omega) (by omega)
 change 1≤Lib.bitLen y at a
 change 2 ^ (Lib.bitLen y - 1)≤y at b
 change y<2 ^ Lib.bitLen y at c
 generalize Lib.bitLen y=L at *;refine ⟨64 - L,by omega,by omega,?_,?_⟩
 ·have e:2 ^ (L - 1) * 2 ^ (64 - L)=9223372036854775808:=by
   rw [← Nat.pow_add,show L - 1+(64 - L)=63 from by omega]
  rw [← e];exact Nat.mul_le_mul_right _ b
 have e:2 ^ L * 2 ^ (64 - L)=18446744073709551616:=by
  rw [← Nat.pow_add,show L+(64 - L)=64 from by omega]
 rw [← e];exact Nat.mul_lt_mul_of_pos_right c (Nat.two_pow_pos _)
theorem Jg (hi lo s:Nat) (hs:s≤63) :
    (hi * 18446744073709551616+lo) * 2 ^ s=(hi * 2 ^ s+lo / 2 ^ (64 - s)) * 18446744073709551616+lo * 2 ^ s % 18446744073709551616:=by
 have e:2 ^ (64 - s) * 2 ^ s=18446744073709551616:=by
  rw [← Nat.pow_add,show 64 - s+s=64 from by omega]
 have d:lo * 2 ^ s / 18446744073709551616=lo / 2 ^ (64 - s):=by
  rw [← e];exact Nat.mul_div_mul_right _ _ (Nat.two_pow_pos _)
 rw [← d,Nat.add_mul,Nat.mul_right_comm];generalize hi * 2 ^ s=m;generalize lo * 2 ^ s=k;omega
theorem Tq (hi lo s:Nat) (hs:s≤63) (hlo:lo<18446744073709551616):hi * 2 ^ s ||| lo / 2 ^ (64 - s)=hi * 2 ^ s+lo / 2 ^ (64 - s):=by
 have e:2 ^ (64 - s) * 2 ^ s=18446744073709551616:=by
  rw [← Nat.pow_add,show 64 - s+s=64 from by omega]
 have h:lo / 2 ^ (64 - s)<2 ^ s:=Nat.div_lt_of_lt_mul (by rw [e];exact hlo);rw [Nat.mul_comm hi];exact (Nat.two_pow_add_eq_or_of_lt h hi).symm
theorem Gl (a:Int) (h0:0≤a) (h1:a≤18446744073709551615):bits .and .u64 a 4294967295=a % 4294967296:=by
 obtain ⟨n,rfl⟩:=Int.eq_ofNat_of_zero_le h0;have h:=bits_and_u64_nat n 4294967295 (by omega) (by omega);have e:n &&& 4294967295=n % 4294967296:=Nat.and_two_pow_sub_one_eq_mod n 32;rw [e] at h;exact h
structure Norm (hi lo y s Y u l:Int):Prop where
 s0:0≤s
 s1:s≤63
 len:64 - (Lib.bitLen y.toNat:Int)=s
 wY:IntKind.u64.wrap (y * 2 ^ s.toNat)=Y
 Y0:9223372036854775808≤Y
 Y1:Y≤18446744073709551615
 wu:bits BinOp.or IntKind.u64 (IntKind.u64.wrap (hi * 2 ^ s.toNat)) (lo / 2 ^ (64 - s).toNat)=u
 u0:0≤u
 u1:u<Y
 wl:IntKind.u64.wrap (lo * 2 ^ s.toNat)=l
 l0:0≤l
 l1:l≤18446744073709551615
 pos:(0:Int)<2 ^ s.toNat
 eY:Y=y * 2 ^ s.toNat
 eN:(hi * 18446744073709551616+lo) * 2 ^ s.toNat=u * 18446744073709551616+l
theorem Mh (hi lo y:Int) (h1:0≤hi) (h2:hi<y) (h3:y≤18446744073709551615) (h4:0≤lo) (h5:lo≤18446744073709551615) :
    ∃ s Y u l,Norm hi lo y s Y u l:=by
 obtain ⟨hi,rfl⟩:=Int.eq_ofNat_of_zero_le h1;obtain ⟨lo,rfl⟩:=Int.eq_ofNat_of_zero_le h4;obtain ⟨y,rfl⟩:=Int.eq_ofNat_of_zero_le (show 0≤y from by omega);obtain ⟨s,hs,hl,ha,hb⟩:=Mg y (by omega) (by omega);have hsh:=Jg hi lo s hs;have hor:=Tq hi lo s hs (by omega);have hlt:hi * 2 ^ s+2 ^ s≤y * 2 ^ s:=by
  have:=Nat.mul_le_mul_right (2 ^ s) (show hi+1≤y from by omega);rw [Nat.add_mul] at this;omega
 have hd:lo / 2 ^ (64 - s)<2 ^ s:=Nat.div_lt_of_lt_mul (by
   rw [← Nat.pow_add,show 64 - s+s=64 from by omega];omega)
 have hp:0<2 ^ s:=Nat.two_pow_pos _;have c2:((2 ^ s:Nat):Int)=(2:Int) ^ s:=by simp
 have c3:((2 ^ (64 - s):Nat):Int)=(2:Int) ^ (64 - s):=by simp
 have t1:((s:Int)).toNat=s:=rfl;have t2:(64 - (s:Int)).toNat=64 - s:=by omega
 refine ⟨s,((y * 2 ^ s:Nat):Int),((hi * 2 ^ s+lo / 2 ^ (64 - s):Nat):Int),((lo * 2 ^ s % 18446744073709551616:Nat):Int),?_⟩;have wY:IntKind.u64.wrap ((y:Int) * 2 ^ s)=((y * 2 ^ s:Nat):Int):=by
  rw [← c2,← Int.natCast_mul,IntKind.wrap_u64];omega
 have wH:IntKind.u64.wrap ((hi:Int) * 2 ^ s)=((hi * 2 ^ s:Nat):Int):=by
  rw [← c2,← Int.natCast_mul,IntKind.wrap_u64];omega
 have wL:IntKind.u64.wrap ((lo:Int) * 2 ^ s)=((lo * 2 ^ s % 18446744073709551616:Nat):Int):=by
  rw [← c2,← Int.natCast_mul,IntKind.wrap_u64];omega
 have wU:bits BinOp.or IntKind.u64 (IntKind.u64.wrap ((hi:Int) * 2 ^ s)) ((lo:Int) / 2 ^ (64 - s))=((hi * 2 ^ s+lo / 2 ^ (64 - s):Nat):Int):=by
  rw [wH,← c3,← Int.natCast_ediv,bits_or_u64_nat _ _ (by omega) (by omega),hor]
 have eN:((hi:Int) * 18446744073709551616+lo) * 2 ^ s=((hi * 2 ^ s+lo / 2 ^ (64 - s):Nat):Int) * 18446744073709551616+((lo * 2 ^ s % 18446744073709551616:Nat):Int):=by
  rw [← c2];generalize hi * 2 ^ s+lo / 2 ^ (64 - s)=A at hsh ⊢;generalize lo * 2 ^ s % 18446744073709551616=B at hsh ⊢;generalize 2 ^ s=p at hsh ⊢;have h:=congrArg (fun x:Nat=>(x:Int)) hsh;simp only [Int.natCast_add,Int.natCast_mul] at h;exact h
 constructor
 case s0=>omega
 case s1=>omega
 case len=>rw [Int.toNat_natCast];exact hl
 case wY=>rw [t1];exact wY
 case Y0=>omega
 case Y1=>omega
 case wu=>rw [t1,t2];exact wU
 case u0=>omega
 case u1=>omega
 case wl=>rw [t1];exact wL
 case l0=>omega
 case l1=>omega
 case pos=>rw [t1,← c2];omega
 case eY=>rw [t1,← c2,Int.natCast_mul]
 case eN=>rw [t1];exact eN
theorem II (x:Int):ab x=(x.natAbs:Int):=by unfold ab;split <;> omega
theorem Le (x y:Int):ab (x * y)=ab x * ab y:=by rw [II,II,II,Int.natAbs_mul,Int.natCast_mul]
theorem lI (a d:Int):iw a d=true↔d≠0∧quo a d≤1152921504606846976:=by unfold iw;rw [L_c]
theorem JL {a d:Int} (h:iw a d=false):dv a d=0:=Aa h
theorem Cr {q d:Int} (hd:d≠0):quo (q * d) d=ab q:=by
 have hD:0<ab d:=by unfold ab;split <;> omega
 unfold quo;rw [Le,Int.mul_ediv_cancel _ (by omega),Int.mul_emod_left];have:ru (ab q) 0 (ab d)=0:=by unfold ru;rw [if_neg (by omega)]
 rw [this,Int.add_zero]
theorem JM {q d:Int} (q1 : -9223372036854775808≤q) (q2:q≤9223372036854775807) (d1 : -9223372036854775808≤d) (d2:d≤9223372036854775807):In (q * d):=by
 have a1:ab q≤9223372036854775808:=by unfold ab;split <;> omega
 have a2:ab d≤9223372036854775808:=by unfold ab;split <;> omega
 have h:=Int.mul_le_mul a1 a2 (kg d) (by omega);rw [← Le] at h;unfold In;unfold ab at h;split at h <;> omega
theorem divides {q d:Int} (hd:d≠0) (q1 : -1152921504606846976≤q) (q2:q≤1152921504606846976):iw (q * d) d=true∧dv (q * d) d=q:=by
 have h:iw (q * d) d=true:=by
  rw [lI,Cr hd];exact ⟨hd,by unfold ab;split <;> omega⟩
 refine ⟨h,?_⟩;rw [KQ h];unfold sq;rw [Cr hd];rcases Int.lt_trichotomy d 0 with g | g | g
 ·rcases Int.lt_trichotomy q 0 with k | k | k
  ·have:=Int.mul_pos_of_neg_of_neg k g;rw [if_pos (by omega),Dh k];omega
  ·subst k;rw [Int.zero_mul];simp [ab]
  have:=Int.mul_neg_of_pos_of_neg k g;rw [if_neg (by omega),Df (by omega)]
 ·omega
 rcases Int.lt_trichotomy q 0 with k | k | k
 ·have:=Int.mul_neg_of_neg_of_pos k g;rw [if_pos (by omega),Dh k];omega
 ·subst k;rw [Int.zero_mul];simp [ab]
 have:=Int.mul_pos k g;rw [if_neg (by omega),Df (by omega)]
theorem DV {q d:Int} (h:d=0∨1152921504606846976<q∨q < -1152921504606846976):iw (q * d) d=false:=by
 by_cases hd:d=0
 ·unfold iw;simp [hd]
 have:¬ iw (q * d) d=true:=by
  rw [lI,Cr hd];unfold ab;split <;> omega
 simpa using this
def rg (x:Int):Bool:=decide (-1152921504606846976≤x∧x≤1152921504606846976)
def kx (x:Int):Int:=if rg x then x else 0
theorem mX (x:Int):rg x=true↔-1152921504606846976≤x∧x≤1152921504606846976:=by unfold rg;rw [L_c]
theorem NQ (x:Int):rg x=false↔x < -1152921504606846976∨1152921504606846976<x:=by unfold rg;rw [decide_eq_false_iff_not];omega
theorem vY {x:Int} (h:rg x=true):kx x=x:=by unfold kx;rw [h];rfl
theorem Ww {x:Int} (h:rg x=false):kx x=0:=by unfold kx;rw [h];rfl
theorem uV (a:Int):iw a 1=rg a:=by
 cases h:rg a
 ·rw [NQ] at h;have:=DV (q:=a) (d:=1) (by omega)
  rwa [Int.mul_one] at this
 rw [mX] at h;have:=(divides (q:=a) (d:=1) (by decide) h.1 h.2).1
 rwa [Int.mul_one] at this
theorem KR (a:Int):dv a 1=kx a:=by
 cases h:rg a
 ·rw [Ww h,JL ((uV a).trans h)]
 rw [vY h];rw [mX] at h;have:=(divides (q:=a) (d:=1) (by decide) h.1 h.2).2
 rwa [Int.mul_one] at this
end dec
namespace dec
open Go.RowKit Go.Shelf
theorem Tryz.QJ:Go.Proofs.Lays.n134 Tryz.prog ⟨fun | 134=>306 | 129=>195 | n=>n,fun | 53=>212 | 3=>3 | 4=>4 | 46=>170 | 5=>5 | 9=>9 | n=>n,fun | n=>n⟩:={
 mixed:=by kernel_rfl
 f129:=Tryz.func195.trans (congrArg some (by kernel_rfl))
 f134:=Tryz.func306.trans (congrArg some (by kernel_rfl))
 t3:=uy3
 a3:=Tryz.isAgg3
 z3:=Tryz.sizeOf3
 v3:=Tryz.zeroValue3
 t4:=Tryz.underlying4
 a4:=Tryz.isAgg4
 z4:=Tryz.sizeOf4
 v4:=Tryz.zeroValue4
 t5:=uy5
 a5:=Tryz.isAgg5
 z5:=Tryz.sizeOf5
 v5:=Tryz.zeroValue5
 t9:=uy9
 a9:=Tryz.isAgg9
 z9:=Tryz.sizeOf9
 v9:=Tryz.zeroValue9
 t46:=Tryz.underlying170
 a46:=Tryz.isAgg170
 z46:=Tryz.sizeOf170
 v46:=Tryz.zeroValue170
 t53:=Tryz.underlying212
 a53:=Tryz.isAgg212
 z53:=Tryz.sizeOf212
 v53:=Tryz.zeroValue212 }
theorem MH (x s:Int) (w:World) (h0:0≤x) (h1:x≤18446744073709551615) (hs:64 - (Lib.bitLen x.toNat:Int)=s) :
    Calls Tryz.prog 306 #[.int .u64 x] w fun e w' => e=.returned (.int .i64 s)∧w=w':=by
 refine (Any.bits_LeadingZeros64 Tryz.QJ x w h0 h1).mono ?_;rintro e w' ⟨rfl,rfl⟩;rw [hs];exact ⟨rfl,rfl⟩
theorem Iq (hi lo y s Y u l y1 y0 v1 v0:Int) (w:World) (h1:1≤hi) (h2:hi<y) (h3:y≤18446744073709551615) (_h4:0≤lo) (_h5:lo≤18446744073709551615)
    (hs:Hid (64 - (Lib.bitLen y.toNat:Int)=s)) (s1:0≤s) (s2:s≤63)
    (wY:IntKind.u64.wrap (y * 2 ^ s.toNat)=Y) (wu:bits BinOp.or IntKind.u64 (IntKind.u64.wrap (hi * 2 ^ s.toNat)) (lo / 2 ^ (64 - s).toNat)=u) (wl:IntKind.u64.wrap (lo * 2 ^ s.toNat)=l)
    (wy1:Y / 4294967296=y1) (wy0:bits .and .u64 Y 4294967295=y0) (wv1:l / 4294967296=v1) (wv0:bits .and .u64 l 4294967295=v0)
    (Y1:Y≤18446744073709551615) (u0:0≤u) (u1:u≤18446744073709551615) (_l0:0≤l) (_l1:l≤18446744073709551615)
    (ya:2147483648≤y1) (yb:y1≤4294967295) (yc:0≤y0) (yd:y0≤4294967295) (va:0≤v1) (vb:v1≤4294967295) (vc:0≤v0) (vd:v0≤4294967295)
    (K1:Kn Y y1 y0 u v1) (K2:Kn Y y1 y0 (rst u v1 Y) v0) :
    Calls Tryz.prog 288 #[.int .u64 hi,.int .u64 lo,.int .u64 y] w fun e w' => e=.returned (.tuple #[.int .u64 (dig u v1 Y * 4294967296+dig (rst u v1 Y) v0 Y),.int .u64 (rst (rst u v1 Y) v0 Y / 2 ^ s.toNat)])∧w=w':=by
 have a1:=K1.start;obtain ⟨a2,a3⟩:=a1;have a4:0≤u / y1:=by have:=K1.nonneg;omega
 have a5:u / y1 * y1≤u:=Int.ediv_mul_le _ (by omega);have a6:0≤u / y1 * y1:=Int.mul_nonneg a4 (by omega);have a7:u - u / y1 * y1<y1:=by have:=Int.emod_lt_of_pos u (show 0<y1 from by omega);rw [Int.emod_def,Int.mul_comm y1] at this;exact this
 have H2:=Hy a2;clear a2
 go_enter Tryz.func288,Tryz.ntmps288
 go_upto_block 0 with (go_at_call 306;refine (MH y s _ (by omega) h3 hs.o).mono ?_;rintro e w' ⟨rfl,rfl⟩)
 go_cut [15] (fun q wx=>q=.int .u64 (dig u v1 Y)∧wx=w)
 case first =>
  go_wp2_with fail
  go_loop [15,16] (fun q r => ∃ a b:Int,q=.int .u64 a∧r=.int .u64 b∧0≤a∧0≤b∧b≤4294967295∧Oz y1 u (dig u v1 Y) a b) (fun q _=>(intOf q).toNat)
  case atStart=>exact ⟨_,_,rfl,rfl,a4,by omega,by omega,H2.o,a3,by omega⟩
  case round =>
   obtain ⟨a,b,rfl,rfl,a0,b0,b1,g1,g2,g3⟩:=hrel;have T:=Hy (K1.test g3);have d0:=K1.nonneg;have d1:=K1.lt;have G3:=Hy (step_eq g3);have U:Hid (4294967296≤b+y1→a≤4294967297→a - 1≤dig u v1 Y):=fun h h' => K1.o (step_eq g3) (by omega) h;clear g3;by_cases c1:4294967296≤a
   ·by_cases c3:4294967296≤b+y1
    ·go_wp2
     go_meet
     have e:a - 1=dig u v1 Y:=by have:=U.o c3 g2;omega
     exact ⟨by rw [← e],rfl⟩
    go_wp2;exact ⟨⟨a - 1,b+y1,rfl,rfl,by omega,by omega,by omega,by omega,by omega,G3.o⟩,by simp [intOf];omega⟩
   have m0:0≤a * y0:=Int.mul_nonneg a0 yc;have m1:a * y0≤18446744073709551615:=by have:=Int.mul_le_mul (show a≤4294967295 from by omega) yd yc (by omega);omega
   by_cases c2:4294967296 * b+v1<a * y0
   ·have f:dig u v1 Y<a:=by have:=T.o;omega
    by_cases c3:4294967296≤b+y1
    ·go_wp2
     go_meet
     have e:a - 1=dig u v1 Y:=by have:=U.o c3 g2;omega
     exact ⟨by rw [← e],rfl⟩
    go_wp2;exact ⟨⟨a - 1,b+y1,rfl,rfl,by omega,by omega,by omega,by omega,by omega,G3.o⟩,by simp [intOf];omega⟩
   have f:a=dig u v1 Y:=by have:=T.o;omega
   have F:=Hy f;clear f;go_wp2
   go_meet
   exact ⟨by rw [← F.o],rfl⟩
 case rest =>
  obtain ⟨rfl,rfl⟩:=hcut;clear a3 a4 a5 a6 a7 H2;obtain ⟨r0,r1⟩:=K1.rest
  change 0≤rst u v1 Y at r0
  change rst u v1 Y<Y at r1
  have E:=Ae r0 (by omega);have d0:=K1.nonneg;have d1:=K1.lt;have a1:=K2.start;obtain ⟨a2,a3⟩:=a1;obtain ⟨z0,z1⟩:=K2.rest
  change 0≤rst (rst u v1 Y) v0 Y at z0
  change rst (rst u v1 Y) v0 Y<Y at z1
  have E':=Ae z0 (by omega);have e0:=K2.nonneg;have e1:=K2.lt;generalize hu':rst u v1 Y=u' at *;have HU:=Hy hu';clear hu';have a4:0≤u' / y1:=by omega
  have a5:u' / y1 * y1≤u':=Int.ediv_mul_le _ (by omega);have a6:0≤u' / y1 * y1:=Int.mul_nonneg a4 (by omega);have a7:u' - u' / y1 * y1<y1:=by have:=Int.emod_lt_of_pos u' (show 0<y1 from by omega);rw [Int.emod_def,Int.mul_comm y1] at this;exact this
  have H2:=Hy a2;clear a2
  go_upto_block 2 with fail
  go_cut [18] (fun q wx=>q=.int .u64 (dig u' v0 Y)∧wx=wc)
  case first =>
   go_wp2_with fail
   go_loop [18,16] (fun q r => ∃ a b:Int,q=.int .u64 a∧r=.int .u64 b∧0≤a∧0≤b∧b≤4294967295∧Oz y1 u' (dig u' v0 Y) a b) (fun q _=>(intOf q).toNat)
   case atStart=>exact ⟨_,_,rfl,rfl,a4,by omega,by omega,H2.o,a3,by omega⟩
   case round =>
    obtain ⟨a,b,rfl,rfl,a0,b0,b1,g1,g2,g3⟩:=hrel;have T:=Hy (K2.test g3);have d0:=K2.nonneg;have d1:=K2.lt;have G3:=Hy (step_eq g3);have U:Hid (4294967296≤b+y1→a≤4294967297→a - 1≤dig u' v0 Y):=fun h h' => K2.o (step_eq g3) (by omega) h;clear g3;by_cases c1:4294967296≤a
    ·by_cases c3:4294967296≤b+y1
     ·go_wp2
      go_meet
      have e:a - 1=dig u' v0 Y:=by have:=U.o c3 g2;omega
      exact ⟨by rw [← e],rfl⟩
     go_wp2;exact ⟨⟨a - 1,b+y1,rfl,rfl,by omega,by omega,by omega,by omega,by omega,G3.o⟩,by simp [intOf];omega⟩
    have m0:0≤a * y0:=Int.mul_nonneg a0 yc;have m1:a * y0≤18446744073709551615:=by have:=Int.mul_le_mul (show a≤4294967295 from by omega) yd yc (by omega);omega
    by_cases c2:4294967296 * b+v0<a * y0
    ·have f:dig u' v0 Y<a:=by have:=T.o;omega
     by_cases c3:4294967296≤b+y1
     ·go_wp2
      go_meet
      have e:a - 1=dig u' v0 Y:=by have:=U.o c3 g2;omega
      exact ⟨by rw [← e],rfl⟩
     go_wp2;exact ⟨⟨a - 1,b+y1,rfl,rfl,by omega,by omega,by omega,by omega,by omega,G3.o⟩,by simp [intOf];omega⟩
    have f:a=dig u' v0 Y:=by have:=T.o;omega
    have F:=Hy f;clear f;go_wp2
    go_meet
    exact ⟨by rw [← F.o],rfl⟩
  case rest =>
   obtain ⟨rfl,rfl⟩:=hcut;clear a3 a4 a5 a6 a7 H2;go_wp2
   go_ret2
   exact ⟨by rw [HU.o];rfl,rfl⟩
theorem KU (hi lo y:Int) (w:World) (h1:0≤hi) (h2:hi<y) (h3:y≤18446744073709551615) (h4:0≤lo) (h5:lo≤18446744073709551615) :
    Calls Tryz.prog 288 #[.int .u64 hi,.int .u64 lo,.int .u64 y] w fun e w' => e=.returned (.tuple #[.int .u64 ((hi * 18446744073709551616+lo) / y),.int .u64 ((hi * 18446744073709551616+lo) % y)])∧∃ n,w'=w.drewN n:=by
 by_cases h0:hi=0
 ·subst h0;have e1:(0:Int) * 18446744073709551616+lo=lo:=by omega
  rw [e1];clear e1
  go_enter Tryz.func288,Tryz.ntmps288
  go_wp2;go_quiet (fail);go_wp2
  go_ret2
  exact ⟨rfl,_,rfl⟩
 obtain ⟨s,Y,u,l,N⟩:=Mh hi lo y h1 h2 h3 h4 h5;have Y0:=N.Y0;have Y1:=N.Y1;have u0:=N.u0;have u1:=N.u1;have l0:=N.l0;have l1:=N.l1;have ay:=Gl Y (by omega) Y1;have al:=Gl l l0 l1;have K1:Kn Y (Y / 4294967296) (Y % 4294967296) u (l / 4294967296):=⟨by omega,by omega,by omega,by omega,by omega,u0,u1,by omega,by omega⟩;have R:=K1.rest;have K2:Kn Y (Y / 4294967296) (Y % 4294967296) (rst u (l / 4294967296) Y) (l % 4294967296):=⟨by omega,by omega,by omega,by omega,by omega,R.1,R.2,by omega,by omega⟩;have D:=Gu (N:=hi * 18446744073709551616+lo) (v1:=l / 4294967296) (v0:=l % 4294967296) N.pos N.eN N.eY (by omega) (by omega) K2.rest.1 K2.rest.2;refine (Iq hi lo y s Y u l _ _ _ _ w (by omega) h2 h3 h4 h5 N.len N.s0 N.s1 N.wY N.wu N.wl rfl ay rfl al Y1 u0 (by omega) l0 l1 (by omega) (by omega) (by omega) (by omega) (by omega) (by omega) (by omega) (by omega) K1 K2).mono ?_;rintro e w' ⟨rfl,rfl⟩;rw [D.1,D.2];exact ⟨rfl,0,rfl⟩
theorem iU {w:World} {p:Addr} {v:Value} (o:Obj) (h:w.cell? p=some v):(w.alloc o).cell? p=some v:=by
 rw [World.cell?_alloc_lt _ _ _ (block_lt_of_cell h)];exact h
theorem below_drewN' {B:Nat} {a w:World} (h:Below B a w) (n:Nat):Below B a (w.drewN n):=⟨h.os,h.tape,h.output,h.size,h.block⟩
theorem gB {w w1 w2:World} {o1 o2:Obj} (o3:Obj) (hb1:Below (w.alloc o1).heap.size (w.alloc o1) w1) (hb2:Below (w1.alloc o2).heap.size (w1.alloc o2) w2):Below w.heap.size w (w2.alloc o3):=by
 have s1:=hb1.size;have s2:=hb2.size;simp only [World.size_alloc] at s1 s2;have b1:Below w.heap.size w w1:=((Below.refl _ _).alloc lr _).trans (hb1.mono (by simp));have b2:Below w.heap.size w w2:=(b1.alloc (by omega) _).trans (hb2.mono (by simp;omega));exact b2.alloc (by omega) _
theorem xA {y:Value} {a:Int} (d:Int) (hx:y=W a) (ia:In a) (w:World) (d1 : -9223372036854775808≤d) (d2:d≤9223372036854775807) :
    Calls Tryz.prog 243 #[y,.int .i64 d] w fun e w' => e=.returned (.tuple #[.int .i64 (dv a d),.bool (iw a d)])∧Below w.heap.size w w':=by
 subst hx;obtain ⟨A,D,ah,al,q,r,x,h⟩:∃ A D ah al q r x,Dv a d A D ah al q r x:=⟨_,_,_,_,_,_,_,rfl,rfl,rfl,rfl,rfl,rfl,rfl⟩;have id:In d:=by unfold In;omega
 have sa:=BX ia;have rA:=kg a;have rD:=kg d;have rD':ab d≤9223372036854775808:=by unfold ab;split <;> omega
 have rA':ab a≤170141183460469231731687303715884105728:=by unfold In at ia;unfold ab;split <;> omega
 have cA:=pW (a:=a) rfl ia;have cD:=pW (a:=d) rfl id;rw [h.A0,h.eah,h.eal] at cA;rw [h.D0] at cD rD rD';rw [h.A0] at rA rA';have eD:D % 18446744073709551616=D:=by omega
 rw [eD] at cD;have bh1:0≤ah:=by have:=h.eah;omega
 have bl1:0≤al:=by have:=h.eal;omega
 have bl2:al≤18446744073709551615:=by have:=h.eal;omega
 have CA:=Hy cA;have CD:=Hy cD;clear cA cD eD;have i0:∀ w,(Instr.index 274 (.agg #[.int .u64 D,.int .u64 (D / 18446744073709551616)]) (.int .i64 0)).run Tryz.prog w=.ok (.int .u64 D) w:=fun _=>by kernel_rfl
 unfold W;by_cases c1:D≤ah
 ·have R1:=Hy (h.VY c1);have R2:=Hy (Aa R1.o);clear h
  go_enter Tryz.func243,Tryz.ntmps243
  go_wp2_with fail;refine (CA.o _).mono ?_;rintro e w1 ⟨rfl,hb1⟩;obtain ⟨hc1,hf1,hs1⟩:=nJ hb1;go_wp2_with fail;refine (kD _ _ d1 d2).mono ?_;rintro e w' ⟨rfl,k1,rfl⟩;go_wp2_with fail;refine (CD.o _).mono ?_;rintro e w2 ⟨rfl,hb2⟩;obtain ⟨hc2,hf2,hs2⟩:=nJ hb2;go_wp2_with fail
  go_ret2
  exact ⟨by rw [R1.o,R2.o];rfl,gB _ hb1 hb2⟩
 have q0:0≤q:=by rw [h.eq];exact Int.ediv_nonneg rA rD
 have q1:q≤18446744073709551615:=by
  have:q<18446744073709551616:=by rw [h.eq,Int.ediv_lt_iff_lt_mul (by omega)];have:=h.eah;omega
  omega
 have r0:0≤r:=by rw [h.er];exact Int.emod_nonneg _ (by omega)
 have r1:r<D:=by rw [h.er];exact Int.emod_lt_of_pos _ (by omega)
 obtain ⟨x0,x1⟩:=um q r D;rw [← h.ex] at x0 x1;have eA:ah * 18446744073709551616+al=A:=by have:=h.eah;have:=h.eal;omega
 have CV:Hid (∀ w,Calls Tryz.prog 288 #[.int .u64 ah,.int .u64 al,.int .u64 D] w fun e w' => e=.returned (.tuple #[.int .u64 q,.int .u64 r])∧∃ n,w'=w.drewN n):=by
  intro w;have:=KU ah al D w bh1 (by omega) (by omega) bl1 bl2;rw [eA,← h.eq,← h.er] at this;exact this
 have CR:Hid (∀ w,Calls Tryz.prog 289 #[.int .u64 q,.int .u64 r,.int .u64 D] w fun e w' => e=.returned (.int .u64 x)∧w=w'):=by
  intro w;have:=Dl q r D w q0 r0 r1 (by omega);rw [← h.ex] at this;exact this
 clear eA;have R3:=Hy (fun g=>h.VX g);have R2:=Hy (fun g=>h.NU g);have R4:=Hy (fun g=>h.some (by omega) g);have R5:=Hy h.sq;clear h;by_cases c2:1152921504606846976<q
 ·have R1:=Hy (R3.o c2);have R2:=Hy (Aa R1.o)
  go_enter Tryz.func243,Tryz.ntmps243
  go_wp2_with fail;refine (CA.o _).mono ?_;rintro e w1 ⟨rfl,hb1⟩;obtain ⟨hc1,hf1,hs1⟩:=nJ hb1;go_wp2_with fail;refine (kD _ _ d1 d2).mono ?_;rintro e w' ⟨rfl,k1,rfl⟩;go_wp2_with fail;refine (CD.o _).mono ?_;rintro e w2 ⟨rfl,hb2⟩;obtain ⟨hc2,hf2,hs2⟩:=nJ hb2;go_wp2_with fail;refine (CV.o _).mono ?_;rintro e w' ⟨rfl,n,rfl⟩;go_wp2_with fail
  go_ret2
  exact ⟨by rw [R1.o,R2.o];rfl,below_drewN' (gB _ hb1 hb2) _⟩
 by_cases c3:1152921504606846976<q+x
 ·have R1:=Hy (R2.o c3);have R2:=Hy (Aa R1.o)
  go_enter Tryz.func243,Tryz.ntmps243
  go_wp2_with fail;refine (CA.o _).mono ?_;rintro e w1 ⟨rfl,hb1⟩;obtain ⟨hc1,hf1,hs1⟩:=nJ hb1;go_wp2_with fail;refine (kD _ _ d1 d2).mono ?_;rintro e w' ⟨rfl,k1,rfl⟩;go_wp2_with fail;refine (CD.o _).mono ?_;rintro e w2 ⟨rfl,hb2⟩;obtain ⟨hc2,hf2,hs2⟩:=nJ hb2;go_wp2_with fail;refine (CV.o _).mono ?_;rintro e w' ⟨rfl,n,rfl⟩;go_wp2_with fail;refine (CR.o _).mono ?_;rintro e w' ⟨rfl,rfl⟩;go_wp2_with fail
  go_ret2
  exact ⟨by rw [R1.o,R2.o];rfl,below_drewN' (gB _ hb1 hb2) _⟩
 have R1:=Hy (R4.o (by omega));have R6:=Hy (KQ R1.o);by_cases s1:a<0
 ·have s1':hi a<0:=sa.2 s1;have s1'':decide (hi a<0)=true:=by simp;omega
  clear sa;by_cases s2:d<0
  ·have s2':decide (d<0)=true:=by simp;omega
   have R7:Hid (sq a d=q+x):=by unfold Hid;rw [R5.o,if_neg (by omega)]
   go_enter Tryz.func243,Tryz.ntmps243
   go_wp2_with fail;refine (CA.o _).mono ?_;rintro e w1 ⟨rfl,hb1⟩;have f1:=keeps hb1 (k:=w.heap.size) (o:=0) (v:=.int .i64 (hi a)) (by simp [go_sem]);go_wp2_with fail;refine (kD _ _ d1 d2).mono ?_;rintro e w' ⟨rfl,k1,rfl⟩;go_wp2_with fail;refine (CD.o _).mono ?_;rintro e w2 ⟨rfl,hb2⟩;have f2:=keeps hb2 (iU _ f1);have z2:w.heap.size<w2.heap.size:=block_lt_of_cell f2;go_wp2_with fail;refine (CV.o _).mono ?_;rintro e w' ⟨rfl,n,rfl⟩;go_wp2_with fail;refine (CR.o _).mono ?_;rintro e w' ⟨rfl,rfl⟩;go_wp2_with fail
   go_ret2
   exact ⟨by rw [R1.o,R6.o,R7.o];rfl,below_drewN' (gB _ hb1 hb2) _⟩
  have s2':decide (d<0)=false:=by simp;omega
  have R7:Hid (sq a d = -(q+x)):=by unfold Hid;rw [R5.o,if_pos (by omega)]
  go_enter Tryz.func243,Tryz.ntmps243
  go_wp2_with fail;refine (CA.o _).mono ?_;rintro e w1 ⟨rfl,hb1⟩;have f1:=keeps hb1 (k:=w.heap.size) (o:=0) (v:=.int .i64 (hi a)) (by simp [go_sem]);go_wp2_with fail;refine (kD _ _ d1 d2).mono ?_;rintro e w' ⟨rfl,k1,rfl⟩;go_wp2_with fail;refine (CD.o _).mono ?_;rintro e w2 ⟨rfl,hb2⟩;have f2:=keeps hb2 (iU _ f1);have z2:w.heap.size<w2.heap.size:=block_lt_of_cell f2;go_wp2_with fail;refine (CV.o _).mono ?_;rintro e w' ⟨rfl,n,rfl⟩;go_wp2_with fail;refine (CR.o _).mono ?_;rintro e w' ⟨rfl,rfl⟩;go_wp2_with fail
  go_ret2
  exact ⟨by rw [R1.o,R6.o,R7.o];rfl,below_drewN' (gB _ hb1 hb2) _⟩
 have s1':¬ hi a<0:=by omega
 have s1'':decide (hi a<0)=false:=by simp;omega
 clear sa;by_cases s2:d<0
 ·have s2':decide (d<0)=true:=by simp;omega
  have R7:Hid (sq a d = -(q+x)):=by unfold Hid;rw [R5.o,if_pos (by omega)]
  go_enter Tryz.func243,Tryz.ntmps243
  go_wp2_with fail;refine (CA.o _).mono ?_;rintro e w1 ⟨rfl,hb1⟩;have f1:=keeps hb1 (k:=w.heap.size) (o:=0) (v:=.int .i64 (hi a)) (by simp [go_sem]);go_wp2_with fail;refine (kD _ _ d1 d2).mono ?_;rintro e w' ⟨rfl,k1,rfl⟩;go_wp2_with fail;refine (CD.o _).mono ?_;rintro e w2 ⟨rfl,hb2⟩;have f2:=keeps hb2 (iU _ f1);have z2:w.heap.size<w2.heap.size:=block_lt_of_cell f2;go_wp2_with fail;refine (CV.o _).mono ?_;rintro e w' ⟨rfl,n,rfl⟩;go_wp2_with fail;refine (CR.o _).mono ?_;rintro e w' ⟨rfl,rfl⟩;go_wp2_with fail
  go_ret2
  exact ⟨by rw [R1.o,R6.o,R7.o];rfl,below_drewN' (gB _ hb1 hb2) _⟩
 have s2':decide (d<0)=false:=by simp;omega
 have R7:Hid (sq a d=q+x):=by unfold Hid;rw [R5.o,if_neg (by omega)]
 go_enter Tryz.func243,Tryz.ntmps243
 go_wp2_with fail;refine (CA.o _).mono ?_;rintro e w1 ⟨rfl,hb1⟩;have f1:=keeps hb1 (k:=w.heap.size) (o:=0) (v:=.int .i64 (hi a)) (by simp [go_sem]);go_wp2_with fail;refine (kD _ _ d1 d2).mono ?_;rintro e w' ⟨rfl,k1,rfl⟩;go_wp2_with fail;refine (CD.o _).mono ?_;rintro e w2 ⟨rfl,hb2⟩;have f2:=keeps hb2 (iU _ f1);have z2:w.heap.size<w2.heap.size:=block_lt_of_cell f2;go_wp2_with fail;refine (CV.o _).mono ?_;rintro e w' ⟨rfl,n,rfl⟩;go_wp2_with fail;refine (CR.o _).mono ?_;rintro e w' ⟨rfl,rfl⟩;go_wp2_with fail
 go_ret2
 exact ⟨by rw [R1.o,R6.o,R7.o];rfl,below_drewN' (gB _ hb1 hb2) _⟩
theorem ak {w a b:World} (h:Below w.heap.size w a) (k:Below a.heap.size a b):Below w.heap.size w b:=h.trans (k.mono h.size)
theorem aj {w a:World} (h:Below w.heap.size w a) (o:Obj):Below w.heap.size w (a.alloc o):=h.alloc h.size o
theorem b0 (w:World):Below w.heap.size w w:=Below.refl _ _
theorem Xn (n:Int) (w:World) (h1 : -9223372036854775808≤n) (h2:n≤9223372036854775807) :
  Calls Tryz.prog 242 #[.int .i64 n] w fun e w' => e=.returned (W n)∧Below w.heap.size w w' :=
 (kD n w h1 h2).mono fun _ _ ⟨he,_,hw⟩=>⟨he,hw ▸ aj (b0 w) _⟩
theorem zX (a b:Int) (w:World) (h1 : -9223372036854775808≤a) (h2:a≤9223372036854775807) (h3 : -9223372036854775808≤b) (h4:b≤9223372036854775807) :
  Calls Tryz.prog 203 #[.int .i64 a,.int .i64 b] w fun e w' => e=.returned (.agg #[.int .i64 (hi (a * b)),.int .u64 (lo (a * b))])∧Go.RowKit.Below w.heap.size w w':=Qs a b w h1 h2 h3 h4
theorem KT {a d r:Int} {b:Bool} (ia:In a) (d1 : -9223372036854775808≤d) (d2:d≤9223372036854775807) (hr:dv a d=r) (hb:iw a d=b) (w:World) :
    Calls Tryz.prog 243 #[.agg #[.int .i64 (hi a),.int .u64 (lo a)],.int .i64 d] w fun e w' => e=.returned (.tuple #[.int .i64 r,.bool b])∧Go.RowKit.Below w.heap.size w w':=by
 have:=xA (a:=a) d rfl ia w d1 d2;rw [hr,hb] at this;exact this
theorem lg {a:Int} (ia:In a) (w:World) :
    Calls Tryz.prog 202 #[.agg #[.int .i64 (hi a),.int .u64 (lo a)]] w fun e w' => e=.returned (.tuple #[.int .i64 (kx a),.bool (rg a)])∧Below w.heap.size w w':=by
 have CD:=Hy (KT (a:=a) (d:=1) ia (by decide) (by decide) (KR a) (uV a))
 go_enter Tryz.func202,Tryz.ntmps202
 go_wp2_with (go_at_call 243;refine (CD.o _).mono ?_;rintro e w1 ⟨rfl,hb⟩)
 go_ret2
 exact ⟨rfl,ak (aj (b0 w) _) hb⟩
end dec
end Go.Proofs.YtbahfelnbofjjaaGreatDoor
