/-
  The reference's SameExpr, for all expressions; What the parser reads from the pieces of an expression of proper form: this expression; The parser's steps, with as many steps as it takes; Every expression of proper form is read back from its pieces; Every expression of proper form is read back from its pieces: nodes, rows, the whole.
-/
import Derived.Test.YtbahfelnbofjjaaGreatDoorX16
set_option maxRecDepth 100000
set_option maxHeartbeats 16000000
namespace Go.Proofs.YtbahfelnbofjjaaGreatDoor
namespace ch
open Go.RowKit dec
def sxF:Fo→Fo→Bool
 | .nil,.nil=>true
 | .cons h ar r,.cons g br s=>(flR h g && (decide (ar.len=br.len) && sxF ar br)) && sxF r s
 | _,_=>false
def sxE (x y:Ex):Bool:=flR x.h y.h && (decide (x.ar.len=y.ar.len) && sxF x.ar y.ar)
theorem BZ {h g:Hd} : flR h g=true↔h=g:=by
 unfold flR;rw [Bool.and_eq_true,decide_eq_true_eq];constructor
 ·rintro ⟨a,b⟩;exact jX a b
 rintro rfl;exact ⟨rfl,by unfold same;simp⟩
theorem tK:∀ F G:Fo,sxF F G=true↔F=G
 | .nil,.nil=>⟨fun _=>rfl,fun _=>rfl⟩
 | .nil,.cons a b c=>⟨fun h=>by simp [sxF] at h,fun h=>by cases h⟩
 | .cons a b c,.nil=>⟨fun h=>by simp [sxF] at h,fun h=>by cases h⟩
 | .cons h ar r,.cons g br s=>by
  simp only [sxF,Bool.and_eq_true,decide_eq_true_eq]
  rw [BZ,tK ar br,tK r s]
  constructor
  ·rintro ⟨⟨rfl,_,rfl⟩,rfl⟩
   rfl
  ·intro e
   cases e
   exact ⟨⟨rfl,rfl,rfl⟩,rfl⟩
theorem Kw {x y:Ex} : sxE x y=true↔x=y:=by
 unfold sxE;rw [Bool.and_eq_true,Bool.and_eq_true,decide_eq_true_eq,BZ,tK];constructor
 ·rintro ⟨h,_,e⟩;cases x;cases y;simp only at h e;subst h e;rfl
 rintro rfl;exact ⟨rfl,rfl,rfl⟩
theorem Nf {F G:Fo} {j:Nat} (hF:j<F.len) (hG:j<G.len):sxF (F.drop j) (G.drop j)=(sxE (F.nth j) (G.nth j) && sxF (F.drop (j+1)) (G.drop (j+1))):=by
 rw [jT F j hF,jT G j hG];rfl
theorem Da (n:Nat) (IH:∀ (x y:Ex) (ua aa ub ab:Option Addr) (uc ac ud ad:Nat) (w:World),x.ar.sz<n→Ec w x ua uc aa ac→Ec w y ub ud ab ad→Calls Tryz.prog 28 #[.agg (exC x.h x.ar.len ua uc aa ac),.agg (exC y.h y.ar.len ub ud ab ad)] w (Bl (sxE x y) w))
    (x y:Ex) (ua aa ub ab:Option Addr) (uc ac ud ad:Nat) (w:World) (hz:x.ar.sz=n) (hA:Ec w x ua uc aa ac) (hB:Ec w y ub ud ab ad):Calls Tryz.prog 28 #[.agg (exC x.h x.ar.len ua uc aa ac),.agg (exC y.h y.ar.len ub ud ab ad)] w (Bl (sxE x y) w):=by
 have bb:=bX w (.cells (exC x.h x.ar.len ua uc aa ac) 29) (.cells (exC y.h y.ar.len ub ud ab ad) 29);have B0:=Hy bb;have GG:=eO w (exC x.h x.ar.len ua uc aa ac) (exC y.h y.ar.len ub ud ab ad) 29 29;have G:=Hy GG.1;have H:=Hy GG.2;have HA:=Hy (hA.keeps bb);have HB:=Hy (hB.keeps bb);have IH':=Hy IH;have HZ:=Hy hz;have CF:=Hy (fun (W:World) (S:Ec W x ua uc aa ac) (R:Ec W y ub ud ab ad)=>Jv x.h y.h x.ar.len y.ar.len ua ub aa ab uc ud ac ad W S.us R.us);have hmax:=Hy (show x.ar.len≤9223372036854775807 from by have:=hA.ar.hcap;have:=hA.ar.hmax;omega);have hE:=Hy (show sxE x y=(flR x.h y.h && (decide (x.ar.len=y.ar.len) && sxF x.ar y.ar)) from rfl);clear bb hA hB IH hz GG
 go_enter Tryz.func28,Tryz.ntmps28
 go_upto_region 1 with fail
 generalize hw0:((w.alloc (.cells (exC x.h x.ar.len ua uc aa ac) 29)).alloc (.cells (exC y.h y.ar.len ub ud ab ad) 29))=w0 at *;generalize hg3:w.heap.size+1=g3 at H ⊢;generalize hg2:w.heap.size=g2 at G ⊢;clear hw0 hg2 hg3;generalize flR x.h y.h=R at *;go_wp2_with (first | (refine aH aF Tryz.underlying29 rfl (.tmp 2) rfl rfl _ _ _ rfl G.o rfl ?_) | (refine aH aF Tryz.underlying29 rfl (.tmp 3) rfl rfl _ _ _ rfl H.o rfl ?_));refine (CF.o _ HA.o HB.o).mono ?_;rintro e w1 ⟨rfl,b1⟩;have B1:=Hy (au B0.o b1);replace G:=Hy (G.o.keeps b1);replace H:=Hy (H.o.keeps b1);replace HA:=Hy (HA.o.keeps b1);replace HB:=Hy (HB.o.keeps b1);clear b1;clear CF;have c11:=G.o.cell 11;have d11:=H.o.cell 11;simp only [exC,sz2,sz3,sz4] at c11 d11;cases R
 ·go_wp2_with fail;go_ret;exact aG (by rw [hE.o];rfl) B1.o
 by_cases hn:x.ar.len=y.ar.len
 ·have q2:((x.ar.len:Int) != (y.ar.len:Int))=false:=by simp [hn]
  have hE2:sxE x y=sxF x.ar y.ar:=by rw [hE.o,dT hn];rfl
  replace hE2:=Hy hE2;replace hn:=Hy hn;clear hE;go_wp2_with fail
  go_loopw [5] (fun vi wr => ∃ j:Nat,vi=.int .i64 (j:Nat)∧Hid (j≤x.ar.len)∧Hid (sxF x.ar y.ar=sxF (x.ar.drop j) (y.ar.drop j))∧Hid (Below w1.heap.size w1 wr)) (fun vi _=>x.ar.len - (intOf vi).toNat)
  case atStart=>exact ⟨0,rfl,Hy zl,Hy (by rw [drop_zero,drop_zero]),Hy (b0 w1)⟩
  case round =>
   clear c11 d11;obtain ⟨j,rfl,hj,hR,hb⟩:=hrel;have Bw:=Hy (au B1.o hb.o);replace G:=Hy (G.o.keeps hb.o);replace H:=Hy (H.o.keeps hb.o);replace HA:=Hy (HA.o.keeps hb.o);replace HB:=Hy (HB.o.keeps hb.o);have c11:=G.o.cell 11;simp only [exC,sz2,sz3,sz4] at c11;by_cases hlt:j<x.ar.len
   ·have hlb:j<y.ar.len:=by have:=hn.o;omega
    have q1:decide ((j:Int)<(x.ar.len:Int))=true:=dT (by omega);have i1:(j:Int)<(x.ar.len:Int):=by omega
    have i2:(j:Int)<(y.ar.len:Int):=by omega
    have f4:=Hy (aV (j:=j) (by have:=hmax.o;omega));obtain ⟨bk,off,va,va2,vc,vc2,rfl,R1,E1⟩:=HA.o.ar.at hlt;obtain ⟨bl,ofg,wa,wa2,wc,wc2,rfl,R2,E2⟩:=HB.o.ar.at hlb;replace R1:=Hy R1;replace E1:=Hy E1;replace R2:=Hy R2;replace E2:=Hy E2;have hR2:=Hy (hR.o.trans (Nf hlt hlb));have hsz:=Hy (fA x.ar j hlt);have hlt2:=Hy hlt;clear HA HB hj hlb;generalize hy:x.ar.nth j=p at *;generalize hz:y.ar.nth j=q at *;clear hy hz
    go_upto_region 6 with fail
    clear c11
    go_cut [37] from 26 to 37 (fun v wx=>v=.bool (!sxE p q)∧Hid (Below wr.heap.size wr wx))
    case first =>
     refine wp_region_held_drew (S:=fun w' => Below wr.heap.size wr w') (by kernel_rfl) (b0 wr).drew (fun hH=>?_);refine ak 0 26 ?_ rfl (by kernel_rfl) rfl (fun _ _ _ h=>h) rfl hH (fun w' hS=>?_) ?_;rotate_left
     ·go_simp;try with_reducible rfl
     simp only [sz0,sz1];refine ak 1 27 ?_ rfl (by kernel_rfl) rfl (fun _ _ _ h=>h) rfl hH (fun w' hS=>?_) ?_;rotate_left
     ·have m11:=(G.o.keeps hS).cell 11;simp only [exC,sz2,sz3,sz4] at m11;go_simp;try with_reducible rfl
     simp only [sz0,sz1];refine ak 2 28 ?_ rfl (by kernel_rfl) rfl (fun _ _ _ h=>h) rfl hH (fun w' hS=>?_) ?_;rotate_left
     ·go_simp;try with_reducible rfl
     simp only [sz0,sz1];refine ak 3 29 ?_ rfl (by kernel_rfl) rfl (fun _ _ _ h=>h) rfl hH (fun w' hS=>?_) ?_;rotate_left
     ·go_simp;try with_reducible rfl
     simp only [sz0,sz1];refine ak 4 30 (.agg (exC p.h p.ar.len va va2 vc vc2)) rfl (by kernel_rfl) rfl (fun _ _ _ h=>h) rfl hH (fun w' hS=>eU aF Tryz.underlying29 rfl (.tmp 29) rfl bk (off+j * 12) (exC p.h p.ar.len va va2 vc vc2) rfl (aL R1.o hS) rfl) ?_;simp only [sz0,sz1];refine ak 5 31 ?_ rfl (by kernel_rfl) rfl (fun _ _ _ h=>h) rfl hH (fun w' hS=>?_) ?_;rotate_left
     ·go_simp;try with_reducible rfl
     simp only [sz0,sz1];refine ak 6 32 ?_ rfl (by kernel_rfl) rfl (fun _ _ _ h=>h) rfl hH (fun w' hS=>?_) ?_;rotate_left
     ·have m11:=(H.o.keeps hS).cell 11;simp only [exC,sz2,sz3,sz4] at m11;go_simp;try with_reducible rfl
     simp only [sz0,sz1];refine ak 7 33 ?_ rfl (by kernel_rfl) rfl (fun _ _ _ h=>h) rfl hH (fun w' hS=>?_) ?_;rotate_left
     ·go_simp;try with_reducible rfl
     simp only [sz0,sz1];refine ak 8 34 ?_ rfl (by kernel_rfl) rfl (fun _ _ _ h=>h) rfl hH (fun w' hS=>?_) ?_;rotate_left
     ·go_simp;try with_reducible rfl
     simp only [sz0,sz1];refine ak 9 35 (.agg (exC q.h q.ar.len wa wa2 wc wc2)) rfl (by kernel_rfl) rfl (fun _ _ _ h=>h) rfl hH (fun w' hS=>eU aF Tryz.underlying29 rfl (.tmp 34) rfl bl (ofg+j * 12) (exC q.h q.ar.len wa wa2 wc wc2) rfl (aL R2.o hS) rfl) ?_;simp only [sz0,sz1];generalize wr.drew=yy at *;refine av (i:=10) rfl (by kernel_rfl) rfl (fun K hK=>?_);go_simp;refine (IH'.o p q va vc wa wc va2 vc2 wa2 wc2 _ (by have:=hsz.o;have:=HZ.o;omega) (E1.o.keeps hH) (E2.o.keeps hH)).mono ?_;rintro e y71 ⟨rfl,b71⟩;skip;refine hK.o _ _ (au hH b71) (fun hH=>?_);clear hK K;clear b71;refine ak 11 37 ?_ rfl (by kernel_rfl) rfl (fun _ _ _ h=>h) rfl hH (fun w' hS=>?_) ?_;rotate_left
     ·go_simp;try with_reducible rfl
     simp only [sz0,sz1];refine wpAnyH_done (by kernel_rfl) ?_ _;go_wp2_with fail
     go_meet
     case rel=>exact ⟨rfl,Hy hH⟩
    case rest =>
     obtain ⟨rfl,BW⟩:=hcut;have Bx:=Hy (au Bw.o BW.o);have hb6:=Hy (au hb.o BW.o);clear BW;generalize sxE p q=fy at *;cases fy
     ·go_wp2_with fail;go_ret;exact aG (by rw [hE2.o,hR2.o,Bool.false_and]) Bx.o
     go_wp2_with fail;exact ⟨⟨j+1,congrArg (Value.int .i64) f4.o,hlt2,Hy (hR2.o.trans (Bool.true_and _)),hb6⟩,aX hlt2.o f4.o⟩
   have q1:decide ((j:Int)<(x.ar.len:Int))=false:=dF (by omega);have hT:=Hy (show sxF x.ar y.ar=true from by rw [hR.o,dR _ _ (by omega),dR _ _ (by have:=hn.o;omega)];rfl);clear hR;go_wp2_with fail;go_ret;exact aG (by rw [hE2.o,hT.o]) Bw.o
 have q2:((x.ar.len:Int) != (y.ar.len:Int))=true:=by simp;omega
 have q3:=dF hn;replace hn:=Hy hn;go_wp2_with fail;go_ret;exact aG (by rw [hE.o,q3];rfl) B1.o
theorem EJ (x y:Ex) (ua aa ub ab:Option Addr) (uc ac ud ad:Nat) (w:World) (hA:Ec w x ua uc aa ac) (hB:Ec w y ub ud ab ad):Calls Tryz.prog 28 #[.agg (exC x.h x.ar.len ua uc aa ac),.agg (exC y.h y.ar.len ub ud ab ad)] w (Bl (sxE x y) w):=by
 have key:∀ n,∀ (x y:Ex) (ua aa ub ab:Option Addr) (uc ac ud ad:Nat) (w:World),x.ar.sz<n→Ec w x ua uc aa ac→Ec w y ub ud ab ad→Calls Tryz.prog 28 #[.agg (exC x.h x.ar.len ua uc aa ac),.agg (exC y.h y.ar.len ub ud ab ad)] w (Bl (sxE x y) w):=by
  intro n
  induction n with
  | zero=>intro x y ua aa ub ab uc ac ud ad w h;exact absurd h (Nat.not_lt_zero _)
  | succ n ih =>
    intro x y ua aa ub ab uc ac ud ad w h hA hB
    exact Da x.ar.sz (fun x' y' ua' aa' ub' ab' uc' ac' ud' ad' w' h' => ih x' y' ua' aa' ub' ab' uc' ac' ud' ad' w' (by omega)) x y ua aa ub ab uc ac ud ad w rfl hA hB
 exact key _ x y ua aa ub ab uc ac ud ad w ls hA hB
def tkl (K:List Pc):List Tk:=K.map tk0
theorem fM (a b:List Pc):tkl (a++b)=tkl a++tkl b:=List.map_append ..
theorem cZ (p:Pc) (b:List Pc):tkl (p :: b)=tk0 p :: tkl b:=rfl
theorem j4 (K:List Pc):tkl (sp K)=tkl K:=by cases K <;> rfl
theorem kH (s t:ByteArray) (a:Int) (r:List Tk):isT s (⟨1,t,a⟩ :: r)=decide (t=s):=by unfold isT hd;simp
theorem nG (s t:ByteArray) (a:Int) (r:List Tk):isT s (⟨5,t,a⟩ :: r)=decide (t=s):=by unfold isT hd;simp
theorem Qx {k:Int} (h1:k≠1) (h5:k≠5) (s t:ByteArray) (a:Int) (r:List Tk):isT s (⟨k,t,a⟩ :: r)=false:=by unfold isT hd;simp [h1,h5]
theorem nt {b:Bool} (h:b=false):¬ b=true:=by rw [h];decide
theorem kK (k:Int) (t:ByteArray) (a:Int) (r:List Tk):tak k (⟨k,t,a⟩ :: r)=.ok t r:=by unfold tak hd;simp
theorem kN {m:ByteArray} (h:name m=true) (a:Int) (r:List Tk):nam (⟨1,m,a⟩ :: r)=.ok m r:=by
 unfold nam;rw [if_pos (show name (hd (⟨1,m,a⟩ :: r)).t=true from h)];exact kK ..
theorem fC {s:ByteArray} {l:List Tk} (h:isT s l=true):need s l=.ok () l.tail:=by unfold need;rw [if_pos h]
theorem jS {n:Int} (h1:0≤n) (h2:n≤1152921504606846976) (a:Int) (r:List Tk):int (⟨2,⟨(Lib.itoa n).toArray⟩,a⟩ :: r)=.ok n r:=by
 unfold int;rw [kK];show Rs.ok (jJ (Lib.itoa n).toArray.toList) r=_;rw [show (Lib.itoa n).toArray.toList=Lib.itoa n from rfl,Ia (by omega) (by omega)]
theorem JB {n:Int} (h1:0≤n) (h2:n≤1152921504606846976) (a:Int) (r:List Tk):lC (⟨3,⟨(foX n).toArray⟩,a⟩ :: r)=.ok n r:=by
 unfold lC;rw [kK];show Rs.ok (paX (foX n).toArray.toList) r=_;rw [show (foX n).toArray.toList=foX n from rfl,(JU (by omega) (by omega)).1]
theorem MI {n:Int} (h1 : -8≤n) (h2:n≤8):IntKind.i64.wrap n=n:=by rw [IntKind.wrap_i64];omega
theorem Cc {x:un.Fa} (hn:name x.1=true) (h1 : -8≤x.2) (h2:x.2≤8) {r:List Tk} (hr:isT ⟨#[94]⟩ r=false):fac (tkl (faK x)++r)=.ok x r:=by
 obtain ⟨m,e⟩:=x;unfold fac;have e0:tkl (faK (m,e))++r=⟨1,m,0⟩ :: (tkl (if e=1 then [] else sg ⟨#[94]⟩ :: ((if e<0 then [sg ⟨#[45]⟩] else [])++[(false,2,⟨(Lib.decDigits e.natAbs).toArray⟩)]))++r):=rfl;rw [e0,kN hn];by_cases q1:e=1
 ·subst q1;rw [if_pos rfl];show (if isT ⟨#[94]⟩ r=true then _ else Rs.ok (m,1) r)=_;rw [if_neg (nt hr)]
 rw [if_neg q1];have hd:Lib.decDigits e.natAbs=Lib.itoa (e.natAbs:Nat):=by unfold Lib.itoa;rw [if_neg (by omega)];rfl
 rw [hd];by_cases q2:e<0
 ·rw [if_pos q2];show (int (⟨2,⟨(Lib.itoa (e.natAbs:Nat)).toArray⟩,0⟩ :: r)).bind (fun x r=>(Rs.ok (m,IntKind.i64.wrap (-1 * min x 1099511627776)) r:Rs un.Fa))=Rs.ok (m,e) r;rw [jS (by omega) (by omega)];show Rs.ok (m,IntKind.i64.wrap (-1 * min ((e.natAbs:Nat):Int) 1099511627776)) r=_;rw [show -1 * min ((e.natAbs:Nat):Int) 1099511627776=e by omega,MI h1 h2]
 rw [if_neg q2];show (int (⟨2,⟨(Lib.itoa (e.natAbs:Nat)).toArray⟩,0⟩ :: r)).bind (fun x r=>(Rs.ok (m,IntKind.i64.wrap (1 * min x 1099511627776)) r:Rs un.Fa))=Rs.ok (m,e) r;rw [jS (by omega) (by omega)];show Rs.ok (m,IntKind.i64.wrap (1 * min ((e.natAbs:Nat):Int) 1099511627776)) r=_;rw [show 1 * min ((e.natAbs:Nat):Int) 1099511627776=e by omega,MI h1 h2]
theorem Ca:∀ (us:List un.Fa) (acc:List un.Fa) (f:Nat) (r:List Tk),(∀ x ∈ us,name x.1=true∧-8≤x.2∧x.2≤8)→us.length<f→isT ⟨#[42]⟩ r=false→isT ⟨#[94]⟩ r=false →
  more fac ⟨#[42]⟩ f acc (tkl (us.map fun y=>sg ⟨#[42]⟩ :: faK y).flatten++r)=.ok (acc++us) r
 | [],acc,f+1,r,_,_,hr,_=>by
  show (if isT ⟨#[42]⟩ r=true then _ else Rs.ok acc r)=_
  rw [if_neg (nt hr),List.append_nil]
 | x :: us,acc,f+1,r,h,hf,hr,hr2=>by
  obtain ⟨a1,a2,a3⟩:=h x (List.mem_cons_self ..)
  have e0:tkl ((x :: us).map fun y=>sg ⟨#[42]⟩ :: faK y).flatten++r=⟨5,⟨#[42]⟩,0⟩ :: (tkl (faK x)++(tkl (us.map fun y=>sg ⟨#[42]⟩ :: faK y).flatten++r)):=by
   rw [List.map_cons,List.flatten_cons,fM,cZ,List.cons_append,List.cons_append,List.append_assoc]
   rfl
  rw [e0]
  show (if isT ⟨#[42]⟩ (⟨5,⟨#[42]⟩,0⟩ :: _)=true then (fac (tkl (faK x)++(tkl (us.map fun y=>sg ⟨#[42]⟩ :: faK y).flatten++r))).bind fun y r=>more fac ⟨#[42]⟩ f (acc++[y]) r else _)=_
  have hh:isT ⟨#[94]⟩ (tkl (us.map fun y=>sg ⟨#[42]⟩ :: faK y).flatten++r)=false:=by
   cases us with
   | nil=>exact hr2
   | cons y us=>rfl
  rw [nG,if_pos (by decide),Cc a1 a2 a3 hh]
  show more fac ⟨#[42]⟩ f (acc++[x]) _=_
  rw [Ca us _ f r (fun y hy=>h y (List.mem_cons_of_mem _ hy)) (by simp at hf;omega) hr hr2,List.append_assoc]
  rfl
theorem LZ (us:List un.Fa) (r:List Tk):us.length≤(tkl (us.map fun y=>sg ⟨#[42]⟩ :: faK y).flatten++r).length:=by
 induction us with
 | nil=>simp
 | cons x us ih =>
   rw [List.map_cons,List.flatten_cons,fM,List.append_assoc,List.length_append]
   have:1≤(tkl (sg ⟨#[42]⟩ :: faK x)).length:=by rw [cZ];simp
   simp only [List.length_cons] at *
   omega
theorem AP {u:List un.Fa} (h:Un u) {r:List Tk} (hr:isT ⟨#[91]⟩ r=false):uni (tkl (unK u)++r)=.ok u r:=by
 cases u with
 | nil =>
   show (if isT ⟨#[91]⟩ r=true then _ else Rs.ok [] r)=_
   rw [if_neg (nt hr)]
 | cons x us =>
   have hf:∀ y ∈ x :: us,name y.1=true∧-8≤y.2∧y.2≤8:=fun y hy=>⟨h.n y hy,(oP h hy).1,(oP h hy).2.1⟩
   obtain ⟨a1,a2,a3⟩:=hf x (List.mem_cons_self ..)
   have e0:tkl (unK (x :: us))++r=⟨5,⟨#[91]⟩,0⟩ :: (tkl (faK x)++(tkl (us.map fun y=>sg ⟨#[42]⟩ :: faK y).flatten++(⟨5,⟨#[93]⟩,0⟩ :: r))):=by
     unfold unK
     rw [cZ,fM,fM,List.cons_append,List.append_assoc,List.append_assoc]
     rfl
   rw [e0]
   generalize ht:(tkl (us.map fun y=>sg ⟨#[42]⟩ :: faK y).flatten++(⟨5,⟨#[93]⟩,0⟩ :: r))=t
   have hh:isT ⟨#[94]⟩ t=false:=by
     rw [← ht]
     cases us with
     | nil=>rfl
     | cons y us=>rfl
   have hl:us.length<t.length+1:=by have:=LZ us (⟨5,⟨#[93]⟩,0⟩ :: r);rw [ht] at this;omega
   have hm:more fac ⟨#[42]⟩ (t.length+1) [x] t=.ok (x :: us) (⟨5,⟨#[93]⟩,0⟩ :: r):=by
     have:=Ca us [x] (t.length+1) (⟨5,⟨#[93]⟩,0⟩ :: r) (fun y hy=>hf y (List.mem_cons_of_mem _ hy)) hl rfl rfl
     rw [ht] at this
     exact this
   show (if isT ⟨#[91]⟩ (⟨5,⟨#[91]⟩,0⟩ :: (tkl (faK x)++t))=true then (lst fac ⟨#[42]⟩ (tkl (faK x)++t)).bind fun u r=>(need ⟨#[93]⟩ r).bind fun _ r=>if un.nE u=0 then .ok (un.nL u) r else .no (hd (⟨5,⟨#[91]⟩,0⟩ :: (tkl (faK x)++t))).a (un.nE u) r else _)=_
   rw [nG,if_pos (by decide)]
   unfold lst
   rw [Cc a1 a2 a3 hh]
   show ((more fac ⟨#[42]⟩ (t.length+1) [x] t).bind fun u r=>(need ⟨#[93]⟩ r).bind fun _ r=>if un.nE u=0 then .ok (un.nL u) r else _)=_
   rw [hm]
   show ((need ⟨#[93]⟩ (⟨5,⟨#[93]⟩,0⟩ :: r)).bind fun _ r=>if un.nE (x :: us)=0 then .ok (un.nL (x :: us)) r else _)=_
   rw [fC (by rw [nG];decide)]
   show (if un.nE (x :: us)=0 then Rs.ok (un.nL (x :: us)) r else _)=_
   rw [if_pos (un.Og h.o).1,(un.Og h.o).2]
theorem jB {m w:ByteArray} (h:name m=true) (hw:name w=false) (a:Int) (r:List Tk):isT w (⟨1,m,a⟩ :: r)=false:=by
 rw [kH,dF];rintro rfl;rw [h] at hw;cases hw
theorem Kl {k n:Int} (h:gZ k n=true) (r:List Tk):win (tkl (wiK k n)++r)=.ok (k,n) r:=by
 rcases kF h with ⟨rfl,rfl⟩ | ⟨h1,h2,h3⟩
 ·rfl
 rcases h1 with rfl | rfl | rfl
 ·show (int (⟨2,⟨(Lib.itoa n).toArray⟩,0⟩ :: r)).bind (fun n r=>Rs.ok ((2:Int),n) r)=_;rw [jS (by omega) (by omega)];rfl
 ·show (int (⟨2,⟨(Lib.itoa n).toArray⟩,0⟩ :: r)).bind (fun n r=>Rs.ok ((3:Int),n) r)=_;rw [jS (by omega) (by omega)];rfl
 show (int (⟨2,⟨(Lib.itoa n).toArray⟩,0⟩ :: r)).bind (fun n r=>Rs.ok ((4:Int),n) r)=_;rw [jS (by omega) (by omega)];rfl
theorem okb {α β:Type} (v:α) (r:List Tk) (g:α→List Tk→Rs β):(Rs.ok v r).bind g=g v r:=rfl
def Lo (i:Bool) (m:Md) (l:List Tk) (x:Ex) (r:List Tk):Prop:=∃ f0,∀ f,f0≤f→pz f i m l=.ok x r
theorem bZ {i:Bool} {m:Md} {l:List Tk} {x:Ex} {r:List Tk} (f0:Nat) (h:∀ f,f0≤f→pz (f+1) i m l=.ok x r):Lo i m l x r :=
 ⟨f0+1,fun f hf=>by
  obtain ⟨g,rfl⟩:∃ g,f=g+1:=⟨f - 1,by omega⟩
  exact h g (by omega)⟩
variable {i:Bool} {l r r1 r2 r':List Tk} {x y z:Ex} {least n:Nat}
theorem Qs (h1:isT ⟨#[105,102]⟩ l=true) (e1:Lo i .ex l.tail x r) (h2:isT ⟨#[116,104,101,110]⟩ r=true) (e2:Lo i .ex r.tail y r1) (h3:isT ⟨#[101,108,115,101]⟩ r1=true) (e3:Lo i .ex r1.tail z r2):Lo i .ex l (ifE x y z) r2:=by
 obtain ⟨f1,e1⟩:=e1;obtain ⟨f2,e2⟩:=e2;obtain ⟨f3,e3⟩:=e3;refine bZ (f1+f2+f3) fun f hf=>?_;simp only [pz];rw [if_pos h1,e1 f (by omega)];show (need ⟨#[116,104,101,110]⟩ r).bind _=_;rw [fC h2];show (pz f i .ex r.tail).bind _=_;rw [e2 f (by omega)];show (need ⟨#[101,108,115,101]⟩ r1).bind _=_;rw [fC h3];show (pz f i .ex r1.tail).bind _=_;rw [e3 f (by omega)];rfl
theorem Qt (h1:isT ⟨#[105,102]⟩ l=false) (e:Lo i (.op 0) l x r):Lo i .ex l x r:=by
 obtain ⟨f1,e⟩:=e;refine bZ f1 fun f hf=>?_;simp only [pz];rw [if_neg (nt h1)];exact e f hf
theorem Oo (h1:least≤3) (h2:isT ⟨#[110,111,116]⟩ l=true) (e1:Lo i (.op 3) l.tail x r) (e2:Lo i (.tl least 3 (eH ⟨#[110,111,116]⟩ x)) r y r'):Lo i (.op least) l y r':=by
 obtain ⟨f1,e1⟩:=e1;obtain ⟨f2,e2⟩:=e2;refine bZ (f1+f2) fun f hf=>?_;simp only [pz];rw [if_pos ⟨h1,h2⟩,e1 f (by omega)];exact e2 f (by omega)
theorem JZ (h2:isT ⟨#[110,111,116]⟩ l=false) (e1:Lo i .ng l x r) (e2:Lo i (.tl least 6 x) r y r'):Lo i (.op least) l y r':=by
 obtain ⟨f1,e1⟩:=e1;obtain ⟨f2,e2⟩:=e2;refine bZ (f1+f2) fun f hf=>?_;simp only [pz];rw [if_neg (fun h=>nt h2 h.2),e1 f (by omega)];exact e2 f (by omega)
theorem FQ (h:n≤least):Lo i (.tl least n x) l x l:=by
 refine bZ 0 fun f _=>?_;simp only [pz];rw [if_pos h]
theorem LD (h:least<n) (h2:opr (n - 1) l=.empty) (e:Lo i (.tl least (n - 1) x) l y r):Lo i (.tl least n x) l y r:=by
 obtain ⟨f1,e⟩:=e;refine bZ f1 fun f hf=>?_;simp only [pz];rw [if_neg (by omega),if_pos h2];exact e f hf
theorem LA {op:ByteArray} (h:least<n) (h2:opr (n - 1) l=op) (h3:op≠.empty) (e1:Lo i (.op n) l.tail y r) (e2:Lo i (.tl least (if n=4 then 3 else n) (aY op x y)) r z r'):Lo i (.tl least n x) l z r':=by
 obtain ⟨f1,e1⟩:=e1;obtain ⟨f2,e2⟩:=e2;refine bZ (f1+f2) fun f hf=>?_;simp only [pz];rw [if_neg (by omega),if_neg (by rw [h2];exact h3),e1 f (by omega),h2];exact e2 f (by omega)
theorem Oq (h:isT ⟨#[45]⟩ l=true) (e:Lo i .ng l.tail x r):Lo i .ng l (eH ⟨#[45]⟩ x) r:=by
 obtain ⟨f1,e⟩:=e;refine bZ f1 fun f hf=>?_;simp only [pz];rw [if_pos h,e f hf];rfl
theorem Dp (h:isT ⟨#[45]⟩ l=false) (e:Lo i .pr l x r):Lo i .ng l x r:=by
 obtain ⟨f1,e⟩:=e;refine bZ f1 fun f hf=>?_;simp only [pz];rw [if_neg (nt h)];exact e f hf
theorem Dn (h:isT ⟨#[40]⟩ l=true) (e:Lo i .ex l.tail x r) (h2:isT ⟨#[41]⟩ r=true):Lo i .pa l x r.tail:=by
 obtain ⟨f1,e⟩:=e;refine bZ f1 fun f hf=>?_;simp only [pz];rw [fC h];show (pz f i .ex l.tail).bind _=_;rw [e f hf];show (need ⟨#[41]⟩ r).bind _=_;rw [fC h2];rfl
theorem LB {m:ByteArray} (hm:name m=true) (a:Int) (h:isT ⟨#[111,102]⟩ l=true) (e:Lo i .pa l.tail x r):Lo i .rf (⟨1,m,a⟩ :: l) (oK m x) r:=by
 obtain ⟨f1,e⟩:=e;refine bZ f1 fun f hf=>?_;simp only [pz];rw [kN hm];show (if isT ⟨#[111,102]⟩ l=true then (pz f i .pa l.tail).bind fun x r=>.ok (oK m x) r else .ok (zx m) l)=_;rw [if_pos h,e f hf];rfl
theorem LC {m:ByteArray} (hm:name m=true) (a:Int) (h:isT ⟨#[111,102]⟩ l=false):Lo i .rf (⟨1,m,a⟩ :: l) (zx m) l:=by
 refine bZ 0 fun f hf=>?_;simp only [pz];rw [kN hm];show (if isT ⟨#[111,102]⟩ l=true then (pz f i .pa l.tail).bind fun x r=>.ok (oK m x) r else .ok (zx m) l)=_;rw [if_neg (nt h)]
theorem ug (f:Nat) (h2:(hd l).k≠2) (h3:(hd l).k≠3) (h4:(hd l).k≠4):pz (f+1) i .pr l =
    if isT ⟨#[116,114,117,101]⟩ l=true then .ok (bS 1) l.tail
    else if isT ⟨#[102,97,108,115,101]⟩ l=true then .ok (bS 0) l.tail
    else if isT ⟨#[64]⟩ l=true then key l
    else if isT ⟨#[110,117,108,108]⟩ l=true then (pz f i .pa l.tail).bind fun x r=>.ok (eH ⟨#[110,117,108,108]⟩ x) r
    else if isT ⟨#[40]⟩ l=true then pz f i .pa l
    else if i=true then (nam l).bind fun n r=>.ok (zw n) r
    else if agg (hd l).t=true then pz f i .ag l
    else pz f i .rf l:=by
 simp only [pz];rw [if_neg h2,if_neg h3,if_neg h4]
theorem Lx (a:Int) (e:Lo i .pa l x r):Lo i .pr (⟨1,⟨#[110,117,108,108]⟩,a⟩ :: l) (eH ⟨#[110,117,108,108]⟩ x) r:=by
 obtain ⟨f1,e⟩:=e;refine bZ f1 fun f hf=>?_;rw [ug f (by show ¬ (1:Int)=2;decide) (by show ¬ (1:Int)=3;decide) (by show ¬ (1:Int)=4;decide)];show (pz f i .pa l).bind (fun x r=>Rs.ok (eH ⟨#[110,117,108,108]⟩ x) r)=Rs.ok (eH ⟨#[110,117,108,108]⟩ x) r;rw [e f hf];rfl
theorem Jd (a:Int) (e:Lo i .ex l x r) (h2:isT ⟨#[41]⟩ r=true):Lo i .pr (⟨5,⟨#[40]⟩,a⟩ :: l) x r.tail:=by
 obtain ⟨f1,e⟩:=Dn (l:=⟨5,⟨#[40]⟩,a⟩ :: l) rfl e h2;refine bZ f1 fun f hf=>?_;rw [ug f (by show ¬ (5:Int)=2;decide) (by show ¬ (5:Int)=3;decide) (by show ¬ (5:Int)=4;decide)];show pz f i .pa (⟨5,⟨#[40]⟩,a⟩ :: l)=_;exact e f hf
theorem Ja:name ⟨#[102,97,108,115,101]⟩=false:=by kernel_rfl
theorem Lm:name ⟨#[64]⟩=false:=by kernel_rfl
theorem I9:name ⟨#[110,117,108,108]⟩=false:=by kernel_rfl
theorem I8:name ⟨#[40]⟩=false:=by kernel_rfl
theorem yK:name ⟨#[110,111,116]⟩=false:=by kernel_rfl
theorem Bu:name ⟨#[105,102]⟩=false:=by kernel_rfl
theorem yL:name ⟨#[45]⟩=false:=by kernel_rfl
theorem MC:([(⟨#[99,111,117,110,116]⟩:ByteArray),⟨#[115,117,109]⟩,⟨#[109,101,97,110]⟩,⟨#[109,105,110]⟩,⟨#[109,97,120]⟩,⟨#[102,105,114,115,116]⟩,⟨#[108,97,115,116]⟩,⟨#[100,105,115,116,105,110,99,116]⟩,⟨#[113,117,97,110,116,105,108,101]⟩,⟨#[100,101,99,97,121]⟩].all fun t => !name t)=true:=by kernel_rfl
theorem JJ {m:ByteArray} (h:name m=true):agg m=false:=by
 cases ha:agg m with
 | false=>rfl
 | true =>
   unfold agg at ha
   rw [List.any_eq_true] at ha
   obtain ⟨t,ht,e⟩:=ha
   rw [decide_eq_true_eq] at e
   subst e
   have:=List.all_eq_true.1 MC _ ht
   rw [h] at this
   cases this
theorem JR (f:Nat) {m:ByteArray} (hm:name m=true) (a:Int):pz (f+1) i .pr (⟨1,m,a⟩ :: l)=if i=true then .ok (zw m) l else pz f i .rf (⟨1,m,a⟩ :: l):=by
 rw [ug f (by show ¬ (1:Int)=2;decide) (by show ¬ (1:Int)=3;decide) (by show ¬ (1:Int)=4;decide)];rw [if_neg (nt (jB hm qI a l)),if_neg (nt (jB hm Ja a l)),if_neg (nt (jB hm Lm a l)),if_neg (nt (jB hm I9 a l)),if_neg (nt (jB hm I8 a l))];rw [kN hm,if_neg (nt (show agg (hd (⟨1,m,a⟩ :: l)).t=false from JJ hm))];rfl
theorem Je {m:ByteArray} (hm:name m=true) (a:Int):Lo true .pr (⟨1,m,a⟩ :: l) (zw m) l :=
 bZ 0 fun f _=>by rw [JR f hm,if_pos rfl]
theorem FP {m:ByteArray} (hm:name m=true) (a:Int) (e:Lo false .rf (⟨1,m,a⟩ :: l) x r):Lo false .pr (⟨1,m,a⟩ :: l) x r:=by
 obtain ⟨f1,e⟩:=e;refine bZ f1 fun f hf=>?_;rw [JR f hm,if_neg (by decide)];exact e f hf
theorem Po {op:ByteArray} {p:Int} (h:gG op p=true):agg op=true∧op≠⟨#[116,114,117,101]⟩∧op≠⟨#[102,97,108,115,101]⟩∧op≠⟨#[64]⟩∧op≠⟨#[110,117,108,108]⟩∧op≠⟨#[40]⟩∧op≠⟨#[45]⟩∧op≠⟨#[110,111,116]⟩∧op≠⟨#[105,102]⟩:=by
 rcases jw h with ⟨h,_⟩ | ⟨h,_⟩
 ·rcases h with rfl | rfl | rfl | rfl | rfl | rfl | rfl | rfl <;> decide
 rcases h with rfl | rfl <;> decide
theorem FR {op:ByteArray} {p:Int} (hp:gG op p=true) (a:Int) (e:Lo false .ag (⟨1,op,a⟩ :: l) x r):Lo false .pr (⟨1,op,a⟩ :: l) x r:=by
 obtain ⟨f1,e⟩:=e;obtain ⟨h0,h1,h2,h3,h4,h5,_⟩:=Po hp;refine bZ f1 fun f hf=>?_;rw [ug f (by show ¬ (1:Int)=2;decide) (by show ¬ (1:Int)=3;decide) (by show ¬ (1:Int)=4;decide)];simp only [kH];rw [if_neg (by simpa using h1),if_neg (by simpa using h2),if_neg (by simpa using h3),if_neg (by simpa using h4),if_neg (by simpa using h5),if_neg (by decide),if_pos (show agg (hd (⟨1,op,a⟩ :: l)).t=true from h0)];exact e f hf
theorem Ov {u:List un.Fa} {v:Int} (h1:0≤v) (h2:v≤1152921504606846976) (hu:uni l=.ok u r) (a:Int):Lo i .pr (⟨2,⟨(Lib.itoa v).toArray⟩,a⟩ :: l) (yP 2 v u) r:=by
 refine bZ 0 fun f _=>?_;simp only [pz];rw [if_pos (show (hd (⟨2,⟨(Lib.itoa v).toArray⟩,a⟩ :: l)).k=2 from rfl),jS h1 h2,okb,hu];rfl
theorem Ow {u:List un.Fa} {v:Int} (h1:0≤v) (h2:v≤1152921504606846976) (hu:uni l=.ok u r) (a:Int):Lo i .pr (⟨3,⟨(foX v).toArray⟩,a⟩ :: l) (yP 3 v u) r:=by
 refine bZ 0 fun f _=>?_;simp only [pz];rw [if_neg (by show ¬ (3:Int)=2;decide),if_pos (show (hd (⟨3,⟨(foX v).toArray⟩,a⟩ :: l)).k=3 from rfl),JB h1 h2,okb,hu];rfl
theorem Lv (s:ByteArray) (a:Int):Lo i .pr (⟨4,s,a⟩ :: l) (Ip s) l:=by
 refine bZ 0 fun f _=>?_;simp only [pz];rw [if_neg (by show ¬ (4:Int)=2;decide),if_neg (by show ¬ (4:Int)=3;decide),if_pos (show (hd (⟨4,s,a⟩ :: l)).k=4 from rfl),kK];rfl
theorem Ou {m s:ByteArray} (hm:name m=true) (hs:ck ⟨5,0,s⟩=0) (a b c:Int):Lo i .pr (⟨5,⟨#[64]⟩,a⟩ :: ⟨1,m,b⟩ :: ⟨4,s,c⟩ :: l) (Dr m s) l:=by
 refine bZ 0 fun f _=>?_;rw [ug f (by show ¬ (5:Int)=2;decide) (by show ¬ (5:Int)=3;decide) (by show ¬ (5:Int)=4;decide)];show key (⟨5,⟨#[64]⟩,a⟩ :: ⟨1,m,b⟩ :: ⟨4,s,c⟩ :: l)=_;unfold key nma;rw [fC rfl,okb];show ((nam (⟨1,m,b⟩ :: ⟨4,s,c⟩ :: l)).bind fun n r=>(tak 4 r).bind fun s r' => if ck ⟨5,0,s⟩=0 then Rs.ok (Dr n s) r' else .no (hd r).a 3 r')=_;rw [kN hm,okb,kK,okb,if_pos hs]
theorem Ox {n:Int} (h:n=0∨n=1) (a:Int):Lo i .pr (⟨1,if n=1 then ⟨#[116,114,117,101]⟩ else ⟨#[102,97,108,115,101]⟩,a⟩ :: l) (bS n) l:=by
 refine bZ 0 fun f _=>?_;rw [ug f (by show ¬ (1:Int)=2;decide) (by show ¬ (1:Int)=3;decide) (by show ¬ (1:Int)=4;decide)];rcases h with rfl | rfl
 ·rfl
 rfl
theorem J2 {op t:ByteArray} {p wk ws:Int} (ht:name t=true) (hw:gZ wk ws=true) (hp:gG op p=true) {l1 l2 l3:List Tk} {c:Ex}
    (e1:(op=⟨#[99,111,117,110,116]⟩∧l=l1∧x=bS 1)∨(op≠⟨#[99,111,117,110,116]⟩∧Lo true .ex l x (⟨5,⟨#[44]⟩,0⟩ :: l1)))
    (e2:l1=(if op=⟨#[113,117,97,110,116,105,108,101]⟩∨op=⟨#[100,101,99,97,121]⟩ then [⟨2,⟨(Lib.itoa p).toArray⟩,0⟩,⟨5,⟨#[44]⟩,0⟩] else [])++(tkl (wiK wk ws)++l2))
    (e3:(l2=l3∧c=bS 1∧isT ⟨#[119,104,101,114,101]⟩ l3=false)∨(isT ⟨#[119,104,101,114,101]⟩ l2=true∧Lo true .ex l2.tail c l3)) (h3:isT ⟨#[41]⟩ l3=true) :
    Lo false .ag (⟨1,op,0⟩ :: ⟨5,⟨#[40]⟩,0⟩ :: ⟨1,t,0⟩ :: ⟨5,⟨#[44]⟩,0⟩ :: l) (qZ op t p (wk,ws) x c) l3.tail:=by
 have e1':∃ f1,∀ f,f1≤f→(if op=⟨#[99,111,117,110,116]⟩ then .ok (bS 1) l else (pz f true .ex l).bind fun x r=>(need ⟨#[44]⟩ r).bind fun _ r=>.ok x r)=Rs.ok x l1:=by
  rcases e1 with ⟨h,rfl,rfl⟩ | ⟨h,f1,e1⟩
  ·exact ⟨0,fun f _=>by rw [if_pos h]⟩
  refine ⟨f1,fun f hf=>?_⟩;rw [if_neg h,e1 f hf,okb,fC rfl];rfl
 have e2':(if op=⟨#[113,117,97,110,116,105,108,101]⟩∨op=⟨#[100,101,99,97,121]⟩ then (int l1).bind fun n r=>(need ⟨#[44]⟩ r).bind fun _ r=>.ok n r else .ok 0 l1)=Rs.ok p (tkl (wiK wk ws)++l2):=by
  rw [e2];rcases jw hp with ⟨h,rfl⟩ | ⟨h,h1,h2⟩
  ·have hq:¬ (op=⟨#[113,117,97,110,116,105,108,101]⟩∨op=⟨#[100,101,99,97,121]⟩):=by rcases h with rfl | rfl | rfl | rfl | rfl | rfl | rfl | rfl <;> decide
   rw [if_neg hq,if_neg hq];rfl
  rw [if_pos h,if_pos h];show (int (⟨2,⟨(Lib.itoa p).toArray⟩,0⟩ :: ⟨5,⟨#[44]⟩,0⟩ :: (tkl (wiK wk ws)++l2))).bind _=_;rw [jS (by omega) (by omega),okb,fC rfl];rfl
 have e3':∃ f3,∀ f,f3≤f→(if isT ⟨#[119,104,101,114,101]⟩ l2=true then pz f true .ex l2.tail else .ok (bS 1) l2)=Rs.ok c l3:=by
  rcases e3 with ⟨rfl,rfl,h⟩ | ⟨h,f3,e3⟩
  ·exact ⟨0,fun f _=>by rw [if_neg (nt h)]⟩
  exact ⟨f3,fun f hf=>by rw [if_pos h,e3 f hf]⟩
 obtain ⟨f1,e1⟩:=e1';obtain ⟨f3,e3⟩:=e3';refine bZ (f1+f3) fun f hf=>?_;simp only [pz];rw [kK,okb,fC rfl,okb];show (nam (⟨1,t,0⟩ :: ⟨5,⟨#[44]⟩,0⟩ :: l)).bind _=_;rw [kN ht,okb,fC rfl,okb];show (if op=⟨#[99,111,117,110,116]⟩ then .ok (bS 1) l else (pz f true .ex l).bind fun x r=>(need ⟨#[44]⟩ r).bind fun _ r=>.ok x r).bind _=_;rw [e1 f (by omega),okb,e2',okb,Kl hw,okb,e3 f (by omega),okb,fC h3];rfl
def NoOp (n:Nat) (r:List Tk):Prop:=∀ k,n≤k→k<6→opr k r=.empty
structure Stp (r:List Tk):Prop where
 sq:isT ⟨#[91]⟩ r=false
 of:isT ⟨#[111,102]⟩ r=false
structure Fin' (r:List Tk):Prop where
 s:Stp r
 n:NoOp 0 r
theorem NoOp.mono {n m:Nat} {r:List Tk} (h:NoOp n r) (hm:n≤m):NoOp m r:=fun k h1 h2=>h k (by omega) h2
def rnk:Nat→Int
 | 0=>1
 | 1=>2
 | 2=>3
 | 3=>4
 | 4=>6
 | 5=>7
 | _=>8
def tpR (q:Int):Nat:=if 7≤q then 6 else if q=6 then 5 else if 3≤q then 3 else if q=2 then 2 else if q=1 then 1 else 0
def tpq (h q:Int):Nat:=if h<q then 6 else tpR h
theorem Ei (q:Int):tpR q≤6:=by unfold tpR;repeat (first | omega | split)
theorem xQ (h q:Int):tpq h q≤6:=by
 unfold tpq;split
 ·omega
 exact Ei h
theorem KL (n:Nat):1≤rnk n:=by unfold rnk;split <;> omega
variable {i:Bool} {x:Ex} {K:List Pc}
theorem BG {l r:List Tk} {z:Ex} {least n:Nat} (h1:least≤n) (hn:NoOp n l) (e:Lo i (.tl least n x) l z r):∀ d,n+d≤6→Lo i (.tl least (n+d) x) l z r
 | 0,_=>e
 | d+1,hd=>LD (by omega) (hn _ (by omega) (by omega)) (BG h1 hn e d (by omega))
theorem JY {l r:List Tk} {z:Ex} {least n m:Nat} (h1:least≤n) (h2:n≤m) (h3:m≤6) (hn:NoOp n l) (e:Lo i (.tl least n x) l z r):Lo i (.tl least m x) l z r:=by
 obtain ⟨d,rfl⟩:∃ d,m=n+d:=⟨m - n,by omega⟩;exact BG h1 hn e d h3
theorem yO {l:List Tk} {least m:Nat} (h3:m≤6) (hn:NoOp least l):Lo i (.tl least m x) l x l:=by
 by_cases h:m≤least
 ·exact FQ h
 exact JY lr (by omega) h3 hn (FQ lr)
structure Prs (i:Bool) (K:List Pc) (x:Ex):Prop where
 ex:∀ r,Fin' r→Lo i .ex (tkl K++r) x r
 op:∀ (least:Nat) (r:List Tk) (z:Ex) (r':List Tk),rnk least≤rk x.h→Stp r→NoOp (tpR (rk x.h)) r→Lo i (.tl least (tpR (rk x.h)) x) r z r'→Lo i (.op least) (tkl K++r) z r'
 ng:8≤rk x.h→∀ r,Stp r→Lo i .ng (tkl K++r) x r
 nif:1≤rk x.h→∀ r,isT ⟨#[105,102]⟩ (tkl K++r)=false
 tru:bU x.h=true→x=bS 1
theorem qP {i:Bool} {K:List Pc} {x:Ex} (hr:1≤rk x.h) (h:∀ r,isT ⟨#[105,102]⟩ (tkl K++r)=false)
  (op:∀ (least:Nat) (r:List Tk) (z:Ex) (r':List Tk),rnk least≤rk x.h→Stp r→NoOp (tpR (rk x.h)) r→Lo i (.tl least (tpR (rk x.h)) x) r z r'→Lo i (.op least) (tkl K++r) z r') (r:List Tk) (hF:Fin' r):Lo i .ex (tkl K++r) x r :=
 Qt (h r) (op 0 r x r hr hF.s (hF.n.mono (by omega)) (yO (Ei _) hF.n))
theorem EW {i:Bool} {K:List Pc} {x:Ex} (hr:8≤rk x.h) (h1:∀ r,isT ⟨#[105,102]⟩ (tkl K++r)=false) (h2:∀ r,isT ⟨#[110,111,116]⟩ (tkl K++r)=false)
    (h:∀ r,Stp r→Lo i .ng (tkl K++r) x r) (ht:bU x.h=true→x=bS 1):Prs i K x:=by
 have ht6:tpR (rk x.h)=6:=by unfold tpR;rw [if_pos (by omega)]
 have op:∀ (least:Nat) (r:List Tk) (z:Ex) (r':List Tk),rnk least≤rk x.h→Stp r→NoOp (tpR (rk x.h)) r→Lo i (.tl least (tpR (rk x.h)) x) r z r'→Lo i (.op least) (tkl K++r) z r':=by
  intro least r z r' _ hs _ e;rw [ht6] at e;exact JZ (h2 r) (h r hs) e
 exact ⟨fun r hF=>qP (by omega) h1 op r hF,op,fun _=>h,fun _=>h1,ht⟩
theorem jv {i:Bool} {K:List Pc} {x:Ex} (hr:rk x.h=9) (h1:∀ r,isT ⟨#[105,102]⟩ (tkl K++r)=false) (h2:∀ r,isT ⟨#[110,111,116]⟩ (tkl K++r)=false) (h3:∀ r,isT ⟨#[45]⟩ (tkl K++r)=false)
  (h:∀ r,Stp r→Lo i .pr (tkl K++r) x r) (ht:bU x.h=true→x=bS 1):Prs i K x :=
 EW (by omega) h1 h2 (fun r hs=>Dp (h3 r) (h r hs)) ht
theorem Gy {s:ByteArray} (h1:s≠⟨#[91]⟩) (h2:s≠⟨#[111,102]⟩) (h3:∀ k,k<6→∀ t ∈ opL k,s≠t) (r:List Tk):Fin' (⟨5,s,0⟩ :: r) :=
 ⟨⟨by rw [nG,dF h1],by rw [nG,dF h2]⟩,fun k _ hk=>by
  unfold opr
  rw [List.find?_eq_none.2 fun t ht=>by rw [nG,dF (h3 k hk t ht)];decide]
  rfl⟩
theorem Gx {s:ByteArray} (h1:s≠⟨#[91]⟩) (h2:s≠⟨#[111,102]⟩) (h3:∀ k,k<6→∀ t ∈ opL k,s≠t) (r:List Tk):Fin' (⟨1,s,0⟩ :: r) :=
 ⟨⟨by rw [kH,dF h1],by rw [kH,dF h2]⟩,fun k _ hk=>by
  unfold opr
  rw [List.find?_eq_none.2 fun t ht=>by rw [kH,dF (h3 k hk t ht)];decide]
  rfl⟩
theorem su {s:ByteArray} (h:((opL 0++opL 1++opL 2++opL 3++opL 4++opL 5).all fun t => !decide (s=t))=true):∀ k,k<6→∀ t ∈ opL k,s≠t:=by
 intro k hk t ht;have:=List.all_eq_true.1 h t (by
   simp only [List.mem_append]
   rcases (show k=0∨k=1∨k=2∨k=3∨k=4∨k=5 by omega) with rfl | rfl | rfl | rfl | rfl | rfl <;> simp [ht])
 simpa using this
theorem lH (r:List Tk):Fin' (⟨5,⟨#[41]⟩,0⟩ :: r):=Gy (by decide) (by decide) (su (by decide)) r
theorem Gz (r:List Tk):Fin' (⟨5,⟨#[44]⟩,0⟩ :: r):=Gy (by decide) (by decide) (su (by decide)) r
theorem Jw (r:List Tk):Fin' (⟨1,⟨#[116,104,101,110]⟩,0⟩ :: r):=Gx (by decide) (by decide) (su (by decide)) r
theorem Jy (r:List Tk):Fin' (⟨1,⟨#[101,108,115,101]⟩,0⟩ :: r):=Gx (by decide) (by decide) (su (by decide)) r
theorem mg (K:List Pc) (r:List Tk):tkl (sg ⟨#[40]⟩ :: (K++[sg ⟨#[41]⟩]))++r=⟨5,⟨#[40]⟩,0⟩ :: (tkl K++(⟨5,⟨#[41]⟩,0⟩ :: r)):=by
 rw [cZ,fM,List.cons_append,List.append_assoc];rfl
theorem Prs.par (P:Prs i K x) (r:List Tk):Lo i .pr (tkl (sg ⟨#[40]⟩ :: (K++[sg ⟨#[41]⟩]))++r) x r:=by
 rw [mg];exact Jd 0 (P.ex _ (lH r)) rfl
theorem Prs.at (P:Prs i K x) (q:Int) (least:Nat) {r:List Tk} {z:Ex} {r':List Tk} (h1:rnk least≤q) (h2:Stp r) (h3:NoOp (tpq (rk x.h) q) r) (h4:Lo i (.tl least (tpq (rk x.h) q) x) r z r') :
    Lo i (.op least) (tkl (eB (rk x.h) q K)++r) z r':=by
 unfold eB tpq at *;by_cases h:rk x.h<q
 ·rw [if_pos h] at h3 h4 ⊢;exact JZ (by rw [mg];rfl) (Dp (by rw [mg];rfl) (P.par r)) h4
 rw [if_neg h] at h3 h4 ⊢;exact P.op least r z r' (by omega) h2 h3 h4
theorem Prs.at8 (P:Prs i K x) {r:List Tk} (h2:Stp r):Lo i .ng (tkl (eB (rk x.h) 8 K)++r) x r:=by
 unfold eB;by_cases h:rk x.h<8
 ·rw [if_pos h];exact Dp (by rw [mg];rfl) (P.par r)
 rw [if_neg h];exact P.ng (by omega) r h2
theorem Prs.Q7 (P:Prs i K x) (q:Int) (hq:1≤q) (r:List Tk):isT ⟨#[105,102]⟩ (tkl (eB (rk x.h) q K)++r)=false:=by
 unfold eB;by_cases h:rk x.h<q
 ·rw [if_pos h,mg];rfl
 rw [if_neg h];exact P.nif (by omega) r
structure OpF (p:Pc) (op:ByteArray) (n:Nat) (q:Int):Prop where
 hit:∀ r,opr (n - 1) (tk0 p :: r)=op
 miss:∀ r,NoOp n (tk0 p :: r)
 stp:∀ r,Stp (tk0 p :: r)
 ne:op≠.empty
 nq:(n=1∧q=1)∨(n=2∧q=2)∨(n=3∧q=3)∨(n=4∧q=5)∨(n=5∧q=6)∨(n=6∧q=7)
def nxt (n:Nat):Nat:=if n=4 then 3 else n
theorem BJ {n:Nat} {q:Int} (h:(n=1∧q=1)∨(n=2∧q=2)∨(n=3∧q=3)∨(n=4∧q=5)∨(n=5∧q=6)∨(n=6∧q=7)) (h':Int) (hh:h'≤9):n≤tpq h' (lef q)∧n≤tpq h' (q+1)∧rnk n=q+1∧tpR q=nxt n∧nxt n≤n:=by
 unfold tpq tpR lef nxt;rcases h with ⟨rfl,rfl⟩ | ⟨rfl,rfl⟩ | ⟨rfl,rfl⟩ | ⟨rfl,rfl⟩ | ⟨rfl,rfl⟩ | ⟨rfl,rfl⟩ <;> refine ⟨?_,?_,rfl,by decide,by decide⟩ <;> (repeat (first | omega | split))
theorem JN (h:Hd):rk h≤9:=by
 unfold rk rkO
 repeat (first | omega | split)
theorem Nq {n least:Nat} {q:Int} (h:(n=1∧q=1)∨(n=2∧q=2)∨(n=3∧q=3)∨(n=4∧q=5)∨(n=5∧q=6)∨(n=6∧q=7)) (hl:rnk least≤q):least<n∧rnk least≤lef q:=by
 unfold rnk at *;unfold lef;rcases h with ⟨rfl,rfl⟩ | ⟨rfl,rfl⟩ | ⟨rfl,rfl⟩ | ⟨rfl,rfl⟩ | ⟨rfl,rfl⟩ | ⟨rfl,rfl⟩ <;> (split at hl <;> (first | (exfalso;omega) | (refine ⟨by omega,?_⟩;split <;> omega)))
theorem Bn {p:Pc} {op:ByteArray} {n:Nat} {q:Int} (F:OpF p op n q) {K1 K2:List Pc} {a b:Ex} (A:Prs i K1 a) (B:Prs i K2 b) (hq:rk (aY op a b).h=q) (ht:bU (aY op a b).h=false) :
    Prs i (eB (rk a.h) (lef q) K1++(p :: sp (eB (rk b.h) (q+1) K2))) (aY op a b):=by
 obtain ⟨t1,_,rn,tn,nn⟩:=BJ F.nq (rk a.h) (JN _);obtain ⟨_,t2,_⟩:=BJ F.nq (rk b.h) (JN _);have e0:∀ r,tkl (eB (rk a.h) (lef q) K1++(p :: sp (eB (rk b.h) (q+1) K2)))++r=tkl (eB (rk a.h) (lef q) K1)++(tk0 p :: (tkl (eB (rk b.h) (q+1) K2)++r)):=by
  intro r;rw [fM,cZ,j4,List.append_assoc];rfl
 have hif:∀ r,isT ⟨#[105,102]⟩ (tkl (eB (rk a.h) (lef q) K1++(p :: sp (eB (rk b.h) (q+1) K2)))++r)=false:=fun r=>by
  rw [e0];exact A.Q7 _ (by unfold lef;have:=F.nq;split <;> omega) _
 have op:∀ (least:Nat) (r:List Tk) (z:Ex) (r':List Tk),rnk least≤rk (aY op a b).h→Stp r→NoOp (tpR (rk (aY op a b).h)) r→Lo i (.tl least (tpR (rk (aY op a b).h)) (aY op a b)) r z r' →
     Lo i (.op least) (tkl (eB (rk a.h) (lef q) K1++(p :: sp (eB (rk b.h) (q+1) K2)))++r) z r':=by
   intro least r z r' hl hs hn e
   rw [hq] at hl hn e
   rw [tn] at hn e
   rw [e0]
   obtain ⟨hlt,hll⟩:=Nq F.nq hl
   refine A.at (lef q) least hll (F.stp _) ((F.miss _).mono t1) ?_
   refine JY (Nat.le_of_lt hlt) t1 (xQ _ _) (F.miss _) ?_
   refine LA hlt (F.hit _) F.ne (y:=b) (r:=r) ?_ e
   refine B.at (q+1) n (Int.le_of_eq rn) hs (hn.mono (by omega)) ?_
   exact yO (xQ _ _) (hn.mono nn)
 refine ⟨fun r hF=>qP (by rw [hq];have:=F.nq;omega) hif op r hF,op,fun h=>?_,fun _=>hif,fun h=>by rw [ht] at h;cases h⟩;rw [hq] at h;have:=F.nq;omega
theorem IV {k:Nat} {s:ByteArray} {l:List Tk} (h:∀ t,isT t l=decide (s=t)) (hs:s ∈ opL k):opr k l=s:=by
 unfold opr
 cases hf:(opL k).find? fun t=>isT t l with
 | none =>
   have:=List.find?_eq_none.1 hf s hs
   rw [h s] at this
   simp at this
 | some t =>
   have:=List.find?_some hf
   rw [h t,decide_eq_true_eq] at this
   exact this.symm
theorem Fu {k:Nat} {s:ByteArray} {l:List Tk} (h:∀ t,isT t l=decide (s=t)) (hs:∀ t ∈ opL k,s≠t):opr k l=.empty:=by
 unfold opr;rw [List.find?_eq_none.2 fun t ht=>by rw [h t,dF (hs t ht)];decide];rfl
def Q5 (n:Nat):List ByteArray:=((List.range 6).filter fun k=>decide (n≤k)).flatMap opL
theorem iB {p:Pc} {op:ByteArray} {n:Nat} {q:Int} (hp:p.2=(1,op)∨p.2=(5,op)) (h1:(opL (n - 1)).any (fun t=>decide (op=t))=true) (h2:((Q5 n).all fun t => !decide (op=t))=true) (h3:op≠⟨#[91]⟩) (h4:op≠⟨#[111,102]⟩) (h5:op≠.empty)
    (nq:(n=1∧q=1)∨(n=2∧q=2)∨(n=3∧q=3)∨(n=4∧q=5)∨(n=5∧q=6)∨(n=6∧q=7)):OpF p op n q:=by
 have hT:∀ r t,isT t (tk0 p :: r)=decide (op=t):=by
  intro r t;obtain ⟨b,k,s⟩:=p;rcases hp with h | h
  ·obtain ⟨rfl,rfl⟩:=Prod.mk.inj h;exact kH ..
  obtain ⟨rfl,rfl⟩:=Prod.mk.inj h;exact nG ..
 refine ⟨fun r=>IV (hT r) ?_,fun r k hk hk6=>Fu (hT r) fun t ht=>?_,fun r=>⟨by rw [hT,dF h3],by rw [hT,dF h4]⟩,h5,nq⟩
 ·rw [List.any_eq_true] at h1;obtain ⟨t,ht,e⟩:=h1;rw [decide_eq_true_eq] at e;exact e ▸ ht
 have:=List.all_eq_true.1 h2 t (List.mem_flatMap.2 ⟨k,List.mem_filter.2 ⟨List.mem_range.2 hk6,by simpa using hk⟩,ht⟩);simpa using this
theorem La:OpF (bw ⟨#[100,101,102,97,117,108,116]⟩) ⟨#[100,101,102,97,117,108,116]⟩ 1 1:=iB (.inl rfl) (by decide) (by decide) (by decide) (by decide) (by decide) (by omega)
theorem Lb {op:ByteArray} (h:op=⟨#[43]⟩∨op=⟨#[45]⟩∨op=⟨#[42]⟩∨op=⟨#[47]⟩∨op=⟨#[61,61]⟩∨op=⟨#[33,61]⟩∨op=⟨#[60]⟩∨op=⟨#[60,61]⟩∨op=⟨#[97,110,100]⟩∨op=⟨#[111,114]⟩):(∃ n,OpF (opK op) op n (rkO op))∧op≠⟨#[100,101,102,97,117,108,116]⟩:=by
 rcases h with rfl | rfl | rfl | rfl | rfl | rfl | rfl | rfl | rfl | rfl
 ·exact ⟨⟨5,iB (.inr rfl) (by decide) (by decide) (by decide) (by decide) (by decide) (by decide)⟩,by decide⟩
 ·exact ⟨⟨5,iB (.inr rfl) (by decide) (by decide) (by decide) (by decide) (by decide) (by decide)⟩,by decide⟩
 ·exact ⟨⟨6,iB (.inr rfl) (by decide) (by decide) (by decide) (by decide) (by decide) (by decide)⟩,by decide⟩
 ·exact ⟨⟨6,iB (.inr rfl) (by decide) (by decide) (by decide) (by decide) (by decide) (by decide)⟩,by decide⟩
 ·exact ⟨⟨4,iB (.inr rfl) (by decide) (by decide) (by decide) (by decide) (by decide) (by decide)⟩,by decide⟩
 ·exact ⟨⟨4,iB (.inr rfl) (by decide) (by decide) (by decide) (by decide) (by decide) (by decide)⟩,by decide⟩
 ·exact ⟨⟨4,iB (.inr rfl) (by decide) (by decide) (by decide) (by decide) (by decide) (by decide)⟩,by decide⟩
 ·exact ⟨⟨4,iB (.inr rfl) (by decide) (by decide) (by decide) (by decide) (by decide) (by decide)⟩,by decide⟩
 ·exact ⟨⟨3,iB (.inl rfl) (by decide) (by decide) (by decide) (by decide) (by decide) (by decide)⟩,by decide⟩
 exact ⟨⟨2,iB (.inl rfl) (by decide) (by decide) (by decide) (by decide) (by decide) (by decide)⟩,by decide⟩
theorem len_nil {F:Fo} (h:F.len=0):F=.nil:=by
 cases F with
 | nil=>rfl
 | cons a b c=>simp [Fo.len] at h
theorem uF {F:Fo} (h:F.len=1):F=.cons (F.nth 0).h (F.nth 0).ar .nil:=by
 cases F with
 | nil=>simp [Fo.len] at h
 | cons a b c=>rw [len_nil (F:=c) (by simpa [Fo.len] using h)];rfl
theorem pK {F:Fo} (h:F.len=2):F=.cons (F.nth 0).h (F.nth 0).ar (.cons (F.nth 1).h (F.nth 1).ar .nil):=by
 cases F with
 | nil=>simp [Fo.len] at h
 | cons a b c =>
   have:=uF (F:=c) (by simpa [Fo.len] using h)
   show Fo.cons a b c=.cons a b (.cons (c.nth 0).h (c.nth 0).ar .nil)
   rw [← this]
theorem FU {F:Fo} (h:F.len=3):F=.cons (F.nth 0).h (F.nth 0).ar (.cons (F.nth 1).h (F.nth 1).ar (.cons (F.nth 2).h (F.nth 2).ar .nil)):=by
 cases F with
 | nil=>simp [Fo.len] at h
 | cons a b c =>
   have:=pK (F:=c) (by simpa [Fo.len] using h)
   show Fo.cons a b c=.cons a b (.cons (c.nth 0).h (c.nth 0).ar (.cons (c.nth 1).h (c.nth 1).ar .nil))
   rw [← this]
def Prss (i:Bool) (K:List Ok') (F:Fo):Prop:=∀ j,j<F.len→Prs i (okK K j) (F.nth j)∧(ok' K j).2=(F.nth j).h
theorem Prss.p {i:Bool} {K:List Ok'} {F:Fo} (h:Prss i K F) {j:Nat} (hj:j<F.len) (q:Int):okP K j q=eB (rk (F.nth j).h) q (okK K j):=by
 unfold okP;rw [(h j hj).2];rfl
theorem za (i:Bool) {k:Int} (h:k≠5):(i || decide (k=5))=i:=by rw [dF h,Bool.or_false]
variable {i:Bool} {g:Hd} {K:List Ok'} {F:Fo}
theorem ES {m:ByteArray} (hm:name m=true) {x:Ex} (hr:rk x.h=9) (ht:bU x.h=false) (h:∀ r,Stp r→Lo i .pr (⟨1,m,0⟩ :: r) x r):Prs i [wd m] x :=
 jv hr (fun r=>jB hm Bu 0 r) (fun r=>jB hm yK 0 r) (fun r=>jB hm yL 0 r) h fun e=>by rw [ht] at e;cases e
theorem KT {m:ByteArray} (hm:name m=true) {K:List Pc} {x:Ex} (P:Prs false K x):Prs false (wd m :: bw ⟨#[111,102]⟩ :: bs ⟨#[40]⟩ :: (K++[sg ⟨#[41]⟩])) (oK m x):=by
 refine jv rfl (fun r=>jB hm Bu 0 _) (fun r=>jB hm yK 0 _) (fun r=>jB hm yL 0 _) (fun r hs=>?_) (fun e=>by cases e);have e0:tkl (wd m :: bw ⟨#[111,102]⟩ :: bs ⟨#[40]⟩ :: (K++[sg ⟨#[41]⟩]))++r=⟨1,m,0⟩ :: ⟨1,⟨#[111,102]⟩,0⟩ :: ⟨5,⟨#[40]⟩,0⟩ :: (tkl K++(⟨5,⟨#[41]⟩,0⟩ :: r)):=by
  rw [cZ,cZ,cZ,fM,List.cons_append,List.cons_append,List.cons_append,List.append_assoc];rfl
 rw [e0];exact FP hm 0 (LB hm 0 rfl (Dn (r:=⟨5,⟨#[41]⟩,0⟩ :: r) rfl (P.ex _ (lH r)) rfl))
theorem KS {K:List Pc} {x:Ex} (P:Prs i K x):Prs i (sg ⟨#[45]⟩ :: eB (rk x.h) 8 K) (eH ⟨#[45]⟩ x):=by
 refine EW (by show (8:Int)≤8;decide) (fun r=>rfl) (fun r=>rfl) (fun r hs=>?_) (fun e=>by cases e);show Lo i .ng (⟨5,⟨#[45]⟩,0⟩ :: (tkl (eB (rk x.h) 8 K)++r)) _ _;exact Oq rfl (P.at8 hs)
theorem KR {K:List Pc} {x:Ex} (P:Prs i K x):Prs i (wd ⟨#[110,111,116]⟩ :: sp (eB (rk x.h) 4 K)) (eH ⟨#[110,111,116]⟩ x):=by
 have e0:∀ r,tkl (wd ⟨#[110,111,116]⟩ :: sp (eB (rk x.h) 4 K))++r=⟨1,⟨#[110,111,116]⟩,0⟩ :: (tkl (eB (rk x.h) 4 K)++r):=fun r=>by rw [cZ,j4];rfl
 have op:∀ (least:Nat) (r:List Tk) (z:Ex) (r':List Tk),rnk least≤rk (eH ⟨#[110,111,116]⟩ x).h→Stp r→NoOp (tpR (rk (eH ⟨#[110,111,116]⟩ x).h)) r→Lo i (.tl least (tpR (rk (eH ⟨#[110,111,116]⟩ x).h)) (eH ⟨#[110,111,116]⟩ x)) r z r' →
     Lo i (.op least) (tkl (wd ⟨#[110,111,116]⟩ :: sp (eB (rk x.h) 4 K))++r) z r':=by
   intro least r z r' hl hs hn e
   rw [e0]
   have h3:least≤3:=by
     have hl:rnk least≤4:=hl
     unfold rnk at hl
     split at hl <;> omega
   have hn:NoOp 3 r:=hn
   have t3:3≤tpq (rk x.h) 4:=by
     unfold tpq tpR
     repeat (first | omega | split)
   refine Oo h3 rfl (P.at 4 3 (by decide) hs (hn.mono t3) (yO (xQ _ _) hn)) e
 exact ⟨fun r hF=>qP (by show (1:Int)≤4;decide) (fun r=>by rw [e0];rfl) op r hF,op,fun h=>absurd h (by show ¬ (8:Int)≤4;decide),fun _ r=>by rw [e0];rfl,fun e=>by cases e⟩
theorem IJ {K:List Pc} {x:Ex} (P:Prs i K x):Prs i (wd ⟨#[110,117,108,108]⟩ :: sg ⟨#[40]⟩ :: (K++[sg ⟨#[41]⟩])) (eH ⟨#[110,117,108,108]⟩ x):=by
 refine jv rfl (fun r=>rfl) (fun r=>rfl) (fun r=>rfl) (fun r hs=>?_) (fun e=>by cases e);have e0:tkl (wd ⟨#[110,117,108,108]⟩ :: sg ⟨#[40]⟩ :: (K++[sg ⟨#[41]⟩]))++r=⟨1,⟨#[110,117,108,108]⟩,0⟩ :: ⟨5,⟨#[40]⟩,0⟩ :: (tkl K++(⟨5,⟨#[41]⟩,0⟩ :: r)):=by
  rw [cZ,cZ,fM,List.cons_append,List.cons_append,List.append_assoc];rfl
 rw [e0];exact Lx 0 (Dn (r:=⟨5,⟨#[41]⟩,0⟩ :: r) rfl (P.ex _ (lH r)) rfl)
theorem Ny {K1 K2 K3:List Pc} {a b c:Ex} (A:Prs i K1 a) (B:Prs i K2 b) (C:Prs i K3 c):Prs i (wd ⟨#[105,102]⟩ :: (sp K1++(bw ⟨#[116,104,101,110]⟩ :: (sp K2++(bw ⟨#[101,108,115,101]⟩ :: sp K3))))) (ifE a b c):=by
 refine ⟨fun r hF=>?_,fun least r z r' hl=>?_,fun h=>absurd h (by show ¬ (8:Int)≤0;decide),fun h=>absurd h (by show ¬ (1:Int)≤0;decide),fun e=>by cases e⟩
 ·have e0:tkl (wd ⟨#[105,102]⟩ :: (sp K1++(bw ⟨#[116,104,101,110]⟩ :: (sp K2++(bw ⟨#[101,108,115,101]⟩ :: sp K3)))))++r=⟨1,⟨#[105,102]⟩,0⟩ :: (tkl K1++(⟨1,⟨#[116,104,101,110]⟩,0⟩ :: (tkl K2++(⟨1,⟨#[101,108,115,101]⟩,0⟩ :: (tkl K3++r))))):=by
   rw [cZ,fM,cZ,fM,cZ,j4,j4,j4];simp only [List.cons_append,List.append_assoc];rfl
  rw [e0];exact Qs (r:=⟨1,⟨#[116,104,101,110]⟩,0⟩ :: (tkl K2++(⟨1,⟨#[101,108,115,101]⟩,0⟩ :: (tkl K3++r)))) (r1:=⟨1,⟨#[101,108,115,101]⟩,0⟩ :: (tkl K3++r)) rfl (A.ex _ (Jw _)) rfl (B.ex _ (Jy _)) rfl (C.ex r hF)
 exfalso;have h1:=KL least;have hl:rnk least≤0:=hl;omega
theorem KU {op t:ByteArray} {p wk ws:Int} (ht:name t=true) (hp:gG op p=true) (hw:gZ wk ws=true) {K:List Ok'} {a c:Ex} (hc:op=⟨#[99,111,117,110,116]⟩→bU a.h=true) (A:Prs true (okK K 0) a) (C:Prs true (okK K 1) c) (hC:(ok' K 1).2=c.h) :
    Prs false (agK { h0 with k:=5,op:=op,tb:=t,pa:=p,wk:=wk,ws:=ws } K) (qZ op t p (wk,ws) a c):=by
 obtain ⟨_,_,_,_,_,_,n1,n2,n3⟩:=Po hp;have hh:∀ r,tkl (agK { h0 with k:=5,op:=op,tb:=t,pa:=p,wk:=wk,ws:=ws } K)++r=⟨1,op,0⟩ :: ⟨5,⟨#[40]⟩,0⟩ :: ⟨1,t,0⟩ :: (tkl (if op=⟨#[99,111,117,110,116]⟩ then [] else sg ⟨#[44]⟩ :: sp (okK K 0))++(tkl (if op=⟨#[113,117,97,110,116,105,108,101]⟩∨op=⟨#[100,101,99,97,121]⟩ then [sg ⟨#[44]⟩,nuK p] else [])++(⟨5,⟨#[44]⟩,0⟩ :: (tkl (wiK wk ws)++(tkl (if bU (ok' K 1).2=true then [] else bw ⟨#[119,104,101,114,101]⟩ :: sp (okK K 1))++(⟨5,⟨#[41]⟩,0⟩ :: r)))))):=by
  intro r;unfold agK;simp only [cZ,fM,j4,List.cons_append,List.append_assoc];rfl
 refine jv rfl (fun r=>?_) (fun r=>?_) (fun r=>?_) (fun r hs=>?_) (fun e=>by cases e)
 ·rw [hh,kH,dF n3]
 ·rw [hh,kH,dF n2]
 ·rw [hh,kH,dF n1]
 rw [hh];have e3:∃ l2,(tkl (if bU (ok' K 1).2=true then [] else bw ⟨#[119,104,101,114,101]⟩ :: sp (okK K 1))++(⟨5,⟨#[41]⟩,0⟩ :: r))=l2∧((l2=⟨5,⟨#[41]⟩,0⟩ :: r∧c=bS 1∧isT ⟨#[119,104,101,114,101]⟩ (⟨5,⟨#[41]⟩,0⟩ :: r)=false)∨(isT ⟨#[119,104,101,114,101]⟩ l2=true∧Lo true .ex l2.tail c (⟨5,⟨#[41]⟩,0⟩ :: r))):=by
  rw [hC]
  cases hq:bU c.h with
  | true=>exact ⟨_,rfl,.inl ⟨rfl,C.tru hq,rfl⟩⟩
  | false =>
    refine ⟨_,rfl,.inr ⟨by rw [if_neg (by decide),cZ];rfl,?_⟩⟩
    rw [if_neg (by decide),cZ,j4]
    exact C.ex _ (lH r)
 obtain ⟨l2,hl2,e3⟩:=e3;rw [hl2];by_cases hq:op=⟨#[99,111,117,110,116]⟩
 ·have hqd:¬ (op=⟨#[113,117,97,110,116,105,108,101]⟩∨op=⟨#[100,101,99,97,121]⟩):=by rw [hq];decide
  rw [if_pos hq,if_neg hqd];exact FR hp 0 (J2 (l:=tkl (wiK wk ws)++l2) (l1:=tkl (wiK wk ws)++l2) (l3:=⟨5,⟨#[41]⟩,0⟩ :: r) ht hw hp (.inl ⟨hq,rfl,A.tru (hc hq)⟩) (by rw [if_neg hqd];rfl) e3 rfl)
 rw [if_neg hq]
 have e1:tkl (sg ⟨#[44]⟩ :: sp (okK K 0))++(tkl (if op=⟨#[113,117,97,110,116,105,108,101]⟩∨op=⟨#[100,101,99,97,121]⟩ then [sg ⟨#[44]⟩,nuK p] else [])++(⟨5,⟨#[44]⟩,0⟩ :: (tkl (wiK wk ws)++l2))) =
     ⟨5,⟨#[44]⟩,0⟩ :: (tkl (okK K 0)++(⟨5,⟨#[44]⟩,0⟩ :: ((if op=⟨#[113,117,97,110,116,105,108,101]⟩∨op=⟨#[100,101,99,97,121]⟩ then [⟨2,⟨(Lib.itoa p).toArray⟩,0⟩,⟨5,⟨#[44]⟩,0⟩] else [])++(tkl (wiK wk ws)++l2)))):=by
   rw [cZ,j4]
   split <;> rfl
 rw [e1];exact FR hp 0 (J2 (l3:=⟨5,⟨#[41]⟩,0⟩ :: r) ht hw hp (.inr ⟨hq,A.ex _ (Gz _)⟩) rfl e3 rfl)
theorem Bq {h:Hd} {n:Nat} (N:Nod i g h n) (G:Prss (i || decide (h.k=5)) K F) (hn:F.len=n) (hg:g=(F.nth 0).h):Prs i (oG h K) ⟨h,F⟩:=by
 cases N with
 | boo n e =>
   rw [len_nil hn]
   refine jv rfl (fun r=>?_) (fun r=>?_) (fun r=>?_) (fun r _=>Ox e 0) (fun ht=>?_)
   iterate 3 rcases e with rfl | rfl <;> rfl
   rcases e with rfl | rfl
   · cases ht
   · rfl
 | num k n u hk h0 h1 hu =>
   rw [len_nil hn]
   rcases hk with rfl | rfl
   · exact jv rfl (fun r=>rfl) (fun r=>rfl) (fun r=>rfl) (fun r hs=>Ov h0 h1 (AP hu hs.sq) 0) (fun ht=>by cases ht)
   · exact jv rfl (fun r=>rfl) (fun r=>rfl) (fun r=>rfl) (fun r hs=>Ow h0 h1 (AP hu hs.sq) 0) (fun ht=>by cases ht)
 | tex s h1 h2 =>
   rw [len_nil hn]
   exact jv rfl (fun r=>rfl) (fun r=>rfl) (fun r=>rfl) (fun r hs=>Lv s 0) (fun ht=>by cases ht)
 | key m s hm h0 h1 h2 =>
   rw [len_nil hn]
   exact jv rfl (fun r=>rfl) (fun r=>rfl) (fun r=>rfl) (fun r hs=>Ou hm (of_decide_eq_true (NQ h0 h1 h2)) 0 0 0) (fun ht=>by cases ht)
 | fie m hi hm =>
   rw [len_nil hn,hi]
   exact ES hm rfl rfl fun r _=>Je hm 0
 | fea m hi hm =>
   rw [len_nil hn,hi]
   exact ES hm rfl rfl fun r hs=>FP hm 0 (LC hm 0 hs.of)
 | loo m hi hm =>
   rw [za i (by show ¬ (4:Int)=5;decide),hi] at G
   rw [hi]
   have A:=(G 0 (by omega)).1
   have e:(⟨{ h0 with k:=4,nm:=m },F⟩:Ex)=oK m (F.nth 0):=by unfold oK;rw [← uF hn]
   rw [e]
   exact KT hm A
 | agg op t p wk ws hi ht hp hw hc =>
   rw [hi,show (false || decide (({ h0 with k:=5,op:=op,tb:=t,pa:=p,wk:=wk,ws:=ws } : Hd).k=5))=true from rfl] at G
   rw [hi]
   obtain ⟨A,_⟩:=G 0 (by omega)
   obtain ⟨C,hC⟩:=G 1 (by omega)
   have e:(⟨{ h0 with k:=5,op:=op,tb:=t,pa:=p,wk:=wk,ws:=ws },F⟩:Ex)=qZ op t p (wk,ws) (F.nth 0) (F.nth 1):=by unfold qZ;rw [← pK hn]
   rw [e]
   exact KU ht hp hw (fun e=>hg ▸ hc e) A C hC
 | una op ho =>
   rw [za i (by show ¬ (6:Int)=5;decide)] at G
   have A:=(G 0 (by omega)).1
   have hp:=fun q=>G.p (j:=0) (by omega) q
   have e:(⟨{ h0 with k:=6,op:=op },F⟩:Ex)=eH op (F.nth 0):=by unfold eH;rw [← uF hn]
   rw [e]
   rcases ho with rfl | rfl | rfl
   · show Prs i (sg ⟨#[45]⟩ :: okP K 0 8) _
     rw [hp]
     exact KS A
   · show Prs i (wd ⟨#[110,111,116]⟩ :: sp (okP K 0 4)) _
     rw [hp]
     exact KR A
   · exact IJ A
 | bin op ho =>
   rw [za i (by show ¬ (7:Int)=5;decide)] at G
   have A:=(G 0 (by omega)).1
   have B:=(G 1 (by omega)).1
   obtain ⟨⟨n,OF⟩,hd⟩:=Lb ho
   have e:(⟨{ h0 with k:=7,op:=op },F⟩:Ex)=aY op (F.nth 0) (F.nth 1):=by unfold aY;rw [if_neg hd,← pK hn]
   have eh:(aY op (F.nth 0) (F.nth 1)).h = { h0 with k:=7,op:=op }:=by rw [← e]
   rw [e]
   show Prs i (okP K 0 (lef (rkO op))++(opK op :: sp (okP K 1 (rkO op+1)))) _
   rw [G.p (j:=0) (by omega),G.p (j:=1) (by omega)]
   exact Bn OF A B (by rw [eh];rfl) (by rw [eh];rfl)
 | iff =>
   rw [za i (by show ¬ (8:Int)=5;decide)] at G
   have e:(⟨{ h0 with k:=8 },F⟩:Ex)=ifE (F.nth 0) (F.nth 1) (F.nth 2):=by unfold ifE;rw [← FU hn]
   rw [e]
   exact Ny (G 0 (by omega)).1 (G 1 (by omega)).1 (G 2 (by omega)).1
 | dfl =>
   rw [za i (by show ¬ (9:Int)=5;decide)] at G
   have e:(⟨{ h0 with k:=9 },F⟩:Ex)=aY ⟨#[100,101,102,97,117,108,116]⟩ (F.nth 0) (F.nth 1):=by unfold aY;rw [if_pos rfl,← pK hn]
   rw [e]
   show Prs i (okP K 0 1++(bw ⟨#[100,101,102,97,117,108,116]⟩ :: sp (okP K 1 2))) _
   rw [G.p (j:=0) (by omega),G.p (j:=1) (by omega)]
   exact Bn La (G 0 (by omega)).1 (G 1 (by omega)).1 rfl rfl
theorem qF:∀ (F:Fo) (i:Bool),fmA i F=true→Prss i (xkF F) F
 | .nil,_,_=>fun j hj=>absurd hj (Nat.not_lt_zero _)
 | .cons h ar r,i,e=>by
  obtain ⟨e1,e2,e3⟩:=uM e
  have g:=Bq (jA e1) (qF ar _ e2) rfl rfl
  have gr:=qF r i e3
  intro j hj
  cases j with
  | zero=>exact ⟨g,rfl⟩
  | succ j =>
   have:=gr j (by simpa [Fo.len] using hj)
   exact ⟨by simpa [okK,ok',xkF,Fo.nth] using this.1,by simpa [ok',xkF,Fo.nth] using this.2⟩
theorem Bo {i:Bool} {x:Ex} (e:fmE i x=true):Prs i (xkE x) x:=by
 have e':(aT i x.h x.ar.len (x.ar.nth 0).h && fmA (i || decide (x.h.k=5)) x.ar)=true:=e;rw [Bool.and_eq_true] at e';exact Bq (jA e'.1) (qF x.ar _ e'.2) rfl rfl
theorem Ch (t:ByteArray) (a:Int):Fin' [⟨6,t,a⟩]:=⟨⟨rfl,rfl⟩,fun k _ _=>by unfold opr;rw [List.find?_eq_none.2 fun t _=>by rw [Qx (by decide) (by decide)];decide];rfl⟩
end ch
end Go.Proofs.YtbahfelnbofjjaaGreatDoor
