/- More steps change no answer. -/
import Derived.Test.YtbahfelnbofjjaaGreatDoorH27
set_option maxRecDepth 100000
set_option maxHeartbeats 16000000
namespace Go.Proofs.YtbahfelnbofjjaaGreatDoor
namespace pa
open Go.RowKit dec
def RM {α:Type} (x y:Rs α):Prop:=x≠.out→y=x
theorem RM.refl {α:Type} (x:Rs α):RM x x:=fun _=>rfl
theorem RM.bind {α β:Type} {x y:Rs α} {g k:α→List Tk→Rs β} (h:RM x y) (hg:∀ v q,RM (g v q) (k v q)):RM (x.bind g) (y.bind k):=by
 intro hn;rw [h (bH hn)]
 cases x with
 | out=>exact absurd rfl hn
 | ok v q=>exact hg v q hn
 | no a c q=>rfl
theorem PI {f g:Nat} (ih:∀ i m l,RM (pz f i m l) (pz g i m l)) (i:Bool) (m:Md) (l:List Tk):RM (pz (f+1) i m l) (pz (g+1) i m l):=by
 cases m with
 | ex =>
   simp only [pz]
   split
   · exact (ih _ _ _).bind fun _ _=>(RM.refl _).bind fun _ _=>(ih _ _ _).bind fun _ _=>(RM.refl _).bind fun _ _=>(ih _ _ _).bind fun _ _=>RM.refl _
   · exact ih _ _ _
 | op least =>
   simp only [pz]
   split
   · exact (ih _ _ _).bind fun _ _=>ih _ _ _
   · exact (ih _ _ _).bind fun _ _=>ih _ _ _
 | tl least n y =>
   simp only [pz]
   split
   · exact RM.refl _
   · split
     · exact ih _ _ _
     · exact (ih _ _ _).bind fun _ _=>ih _ _ _
 | ng =>
   simp only [pz]
   split
   · exact (ih _ _ _).bind fun _ _=>RM.refl _
   · exact ih _ _ _
 | pa =>
   simp only [pz]
   exact (RM.refl _).bind fun _ _=>(ih _ _ _).bind fun _ _=>(RM.refl _).bind fun _ _=>RM.refl _
 | rf =>
   simp only [pz]
   refine (RM.refl _).bind fun n r=>?_
   split
   · exact (ih _ _ _).bind fun _ _=>RM.refl _
   · exact RM.refl _
 | ag =>
   simp only [pz]
   refine (RM.refl _).bind fun op _=>(RM.refl _).bind fun _ _=>(RM.refl _).bind fun t _=>(RM.refl _).bind fun _ l=>RM.bind ?_ fun x l=>(RM.refl _).bind fun p l=>(RM.refl _).bind fun w l=>RM.bind ?_ fun y l=>RM.refl _
   · split
     · exact RM.refl _
     · exact (ih _ _ _).bind fun _ _=>RM.refl _
   · split
     · exact ih _ _ _
     · exact RM.refl _
 | pr =>
   simp only [pz]
   split
   · exact RM.refl _
   split
   · exact RM.refl _
   split
   · exact RM.refl _
   split
   · exact RM.refl _
   split
   · exact RM.refl _
   split
   · exact RM.refl _
   split
   · exact (ih _ _ _).bind fun _ _=>RM.refl _
   split
   · exact ih _ _ _
   split
   · exact RM.refl _
   split
   · exact ih _ _ _
   · exact ih _ _ _
theorem GU:∀ (f g:Nat),f≤g→∀ i m l,RM (pz f i m l) (pz g i m l)
 | 0,_,_,_,_,_=>fun h=>absurd rfl h
 | f+1,0,h,_,_,_=>by omega
 | f+1,g+1,h,i,m,l=>PI (GU f g (by omega)) i m l
theorem Ta {f g:Nat} {i:Bool} {m:Md} {l:List Tk} (h1:pz f i m l≠.out) (h2:pz g i m l≠.out):pz f i m l=pz g i m l:=by
 rcases Nat.le_total f g with h | h
 ·exact (GU f g h i m l h1).symm
 exact GU g f h i m l h2
theorem nO:∀ (f:Nat) (m:Mo) (b:List Pb) (l:List Tk) (x:Mo × List Pb),fH f m b l=some x→∀ g,f≤g→fH g m b l=some x
 | 0,_,_,_,_,h,_,_=>by cases h
 | f+1,m,b,l,x,h,0,hg=>by omega
 | f+1,m,b,l,x,h,g+1,hg=>by
  unfold fH at h ⊢
  split at h
  ·rename_i h6
   rw [if_pos h6]
   exact h
  ·rename_i h6
   rw [if_neg h6]
   cases hi:dD m l with
   | out=>rw [hi] at h;cases h
   | ok m' r =>
    rw [hi] at h
    exact nO f _ _ _ _ h g (by omega)
   | no a c r =>
    rw [hi] at h
    exact nO f _ _ _ _ h g (by omega)
theorem Mt {f g:Nat} {m:Mo} {b:List Pb} {l:List Tk} {x y:Mo × List Pb} (h1:fH f m b l=some x) (h2:fH g m b l=some y):x=y:=by
 rcases Nat.le_total f g with h | h
 ·have:=nO f m b l x h1 g h;rw [h2] at this;cases this;rfl
 have:=nO g m b l y h2 f h;rw [h1] at this;cases this;rfl
def Stp (l:List Tk):Prop:=((hd l).k=6∧(hd l).t=.empty)∨((hd l).k=5∧(hd l).t=⟨#[41]⟩)∨((hd l).k=5∧(hd l).t=⟨#[59]⟩)
section
variable {t1 t2:List Tk}
end
end pa
namespace ch
open Go.RowKit dec
def tkl (K:List Pc):List Tk:=K.map tk0
theorem dU (a b:List Pc):tkl (a++b)=tkl a++tkl b:=List.map_append ..
theorem bT (p:Pc) (b:List Pc):tkl (p :: b)=tk0 p :: tkl b:=rfl
theorem iP (K:List Pc):tkl (sp K)=tkl K:=by cases K <;> rfl
theorem iZ (s t:ByteArray) (a:Int) (r:List Tk):isT s (⟨1,t,a⟩ :: r)=decide (t=s):=by unfold isT hd;simp
theorem gJ (s t:ByteArray) (a:Int) (r:List Tk):isT s (⟨5,t,a⟩ :: r)=decide (t=s):=by unfold isT hd;simp
theorem WA {k:Int} (h1:k≠1) (h5:k≠5) (s t:ByteArray) (a:Int) (r:List Tk):isT s (⟨k,t,a⟩ :: r)=false:=by unfold isT hd;simp [h1,h5]
theorem nt {b:Bool} (h:b=false):¬ b=true:=by rw [h];decide
theorem mh (k:Int) (t:ByteArray) (a:Int) (r:List Tk):tak k (⟨k,t,a⟩ :: r)=.ok t r:=by unfold tak hd;simp
theorem jr {m:ByteArray} (h:name m=true) (a:Int) (r:List Tk):nam (⟨1,m,a⟩ :: r)=.ok m r:=by
 unfold nam;rw [if_pos (show name (hd (⟨1,m,a⟩ :: r)).t=true from h)];exact mh ..
theorem dA {s:ByteArray} {l:List Tk} (h:isT s l=true):need s l=.ok () l.tail:=by unfold need;rw [if_pos h]
theorem jY {n:Int} (h1:0≤n) (h2:n≤1152921504606846976) (a:Int) (r:List Tk):int (⟨2,⟨(Lib.itoa n).toArray⟩,a⟩ :: r)=.ok n r:=by
 unfold int;rw [mh];show Rs.ok (kL (Lib.itoa n).toArray.toList) r=_;rw [show (Lib.itoa n).toArray.toList=Lib.itoa n from rfl,Lc (by omega) (by omega)]
theorem Nr {n:Int} (h1:0≤n) (h2:n≤1152921504606846976) (a:Int) (r:List Tk):nI (⟨3,⟨(foX n).toArray⟩,a⟩ :: r)=.ok n r:=by
 unfold nI;rw [mh];show Rs.ok (paX (foX n).toArray.toList) r=_;rw [show (foX n).toArray.toList=foX n from rfl,(NS (by omega) (by omega)).1]
theorem RD {n:Int} (h1 : -8≤n) (h2:n≤8):IntKind.i64.wrap n=n:=by rw [IntKind.wrap_i64];omega
theorem Gc {x:un.Fa} (hn:name x.1=true) (h1 : -8≤x.2) (h2:x.2≤8) {r:List Tk} (hr:isT ⟨#[94]⟩ r=false):fac (tkl (faK x)++r)=.ok x r:=by
 obtain ⟨m,e⟩:=x;unfold fac;have e0:tkl (faK (m,e))++r=⟨1,m,0⟩ :: (tkl (if e=1 then [] else sg ⟨#[94]⟩ :: ((if e<0 then [sg ⟨#[45]⟩] else [])++[(false,2,⟨(Lib.decDigits e.natAbs).toArray⟩)]))++r):=rfl;rw [e0,jr hn];by_cases q1:e=1
 ·subst q1;rw [if_pos rfl];show (if isT ⟨#[94]⟩ r=true then _ else Rs.ok (m,1) r)=_;rw [if_neg (nt hr)]
 rw [if_neg q1];have hd:Lib.decDigits e.natAbs=Lib.itoa (e.natAbs:Nat):=by unfold Lib.itoa;rw [if_neg (by omega)];rfl
 rw [hd];by_cases q2:e<0
 ·rw [if_pos q2];show (int (⟨2,⟨(Lib.itoa (e.natAbs:Nat)).toArray⟩,0⟩ :: r)).bind (fun x r=>(Rs.ok (m,IntKind.i64.wrap (-1 * min x 1099511627776)) r:Rs un.Fa))=Rs.ok (m,e) r;rw [jY (by omega) (by omega)];show Rs.ok (m,IntKind.i64.wrap (-1 * min ((e.natAbs:Nat):Int) 1099511627776)) r=_;rw [show -1 * min ((e.natAbs:Nat):Int) 1099511627776=e by omega,RD h1 h2]
 rw [if_neg q2];show (int (⟨2,⟨(Lib.itoa (e.natAbs:Nat)).toArray⟩,0⟩ :: r)).bind (fun x r=>(Rs.ok (m,IntKind.i64.wrap (1 * min x 1099511627776)) r:Rs un.Fa))=Rs.ok (m,e) r;rw [jY (by omega) (by omega)];show Rs.ok (m,IntKind.i64.wrap (1 * min ((e.natAbs:Nat):Int) 1099511627776)) r=_;rw [show 1 * min ((e.natAbs:Nat):Int) 1099511627776=e by omega,RD h1 h2]
theorem Gb:∀ (us:List un.Fa) (acc:List un.Fa) (f:Nat) (r:List Tk),(∀ x ∈ us,name x.1=true∧-8≤x.2∧x.2≤8)→us.length<f→isT ⟨#[42]⟩ r=false→isT ⟨#[94]⟩ r=false →
  more fac ⟨#[42]⟩ f acc (tkl (us.map fun y=>sg ⟨#[42]⟩ :: faK y).flatten++r)=.ok (acc++us) r
 | [],acc,f+1,r,_,_,hr,_=>by
  show (if isT ⟨#[42]⟩ r=true then _ else Rs.ok acc r)=_
  rw [if_neg (nt hr),L_n]
 | x :: us,acc,f+1,r,h,hf,hr,hr2=>by
  obtain ⟨a1,a2,a3⟩:=h x (L_e ..)
  have e0:tkl ((x :: us).map fun y=>sg ⟨#[42]⟩ :: faK y).flatten++r=⟨5,⟨#[42]⟩,0⟩ :: (tkl (faK x)++(tkl (us.map fun y=>sg ⟨#[42]⟩ :: faK y).flatten++r)):=by
   rw [L_p,List.flatten_cons,dU,bT,L_g,L_g,L_i]
   rfl
  rw [e0]
  show (if isT ⟨#[42]⟩ (⟨5,⟨#[42]⟩,0⟩ :: _)=true then (fac (tkl (faK x)++(tkl (us.map fun y=>sg ⟨#[42]⟩ :: faK y).flatten++r))).bind fun y r=>more fac ⟨#[42]⟩ f (acc++[y]) r else _)=_
  have hh:isT ⟨#[94]⟩ (tkl (us.map fun y=>sg ⟨#[42]⟩ :: faK y).flatten++r)=false:=by
   cases us with
   | nil=>exact hr2
   | cons y us=>rfl
  rw [gJ,if_pos (by decide),Gc a1 a2 a3 hh]
  show more fac ⟨#[42]⟩ f (acc++[x]) _=_
  rw [Gb us _ f r (fun y hy=>h y (L_h _ hy)) (by simp at hf;omega) hr hr2,L_i]
  rfl
theorem QZ (us:List un.Fa) (r:List Tk):us.length≤(tkl (us.map fun y=>sg ⟨#[42]⟩ :: faK y).flatten++r).length:=by
 induction us with
 | nil=>simp
 | cons x us ih =>
   rw [L_p,List.flatten_cons,dU,L_i,L_a]
   have:1≤(tkl (sg ⟨#[42]⟩ :: faK x)).length:=by rw [bT];simp
   simp only [L_b] at *
   omega
theorem rZ {u:List un.Fa} (h:Un u) {r:List Tk} (hr:isT ⟨#[91]⟩ r=false):uni (tkl (unK u)++r)=.ok u r:=by
 cases u with
 | nil =>
   show (if isT ⟨#[91]⟩ r=true then _ else Rs.ok [] r)=_
   rw [if_neg (nt hr)]
 | cons x us =>
   have hf:∀ y ∈ x :: us,name y.1=true∧-8≤y.2∧y.2≤8:=fun y hy=>⟨h.n y hy,(rO h hy).1,(rO h hy).2.1⟩
   obtain ⟨a1,a2,a3⟩:=hf x (L_e ..)
   have e0:tkl (unK (x :: us))++r=⟨5,⟨#[91]⟩,0⟩ :: (tkl (faK x)++(tkl (us.map fun y=>sg ⟨#[42]⟩ :: faK y).flatten++(⟨5,⟨#[93]⟩,0⟩ :: r))):=by
     unfold unK
     rw [bT,dU,dU,L_g,L_i,L_i]
     rfl
   rw [e0]
   generalize ht:(tkl (us.map fun y=>sg ⟨#[42]⟩ :: faK y).flatten++(⟨5,⟨#[93]⟩,0⟩ :: r))=t
   have hh:isT ⟨#[94]⟩ t=false:=by
     rw [← ht]
     cases us with
     | nil=>rfl
     | cons y us=>rfl
   have hl:us.length<t.length+1:=by have:=QZ us (⟨5,⟨#[93]⟩,0⟩ :: r);rw [ht] at this;omega
   have hm:more fac ⟨#[42]⟩ (t.length+1) [x] t=.ok (x :: us) (⟨5,⟨#[93]⟩,0⟩ :: r):=by
     have:=Gb us [x] (t.length+1) (⟨5,⟨#[93]⟩,0⟩ :: r) (fun y hy=>hf y (L_h _ hy)) hl rfl rfl
     rw [ht] at this
     exact this
   show (if isT ⟨#[91]⟩ (⟨5,⟨#[91]⟩,0⟩ :: (tkl (faK x)++t))=true then (lst fac ⟨#[42]⟩ (tkl (faK x)++t)).bind fun u r=>(need ⟨#[93]⟩ r).bind fun _ r=>if un.nE u=0 then .ok (un.nL u) r else .no (hd (⟨5,⟨#[91]⟩,0⟩ :: (tkl (faK x)++t))).a (un.nE u) r else _)=_
   rw [gJ,if_pos (by decide)]
   unfold lst
   rw [Gc a1 a2 a3 hh]
   show ((more fac ⟨#[42]⟩ (t.length+1) [x] t).bind fun u r=>(need ⟨#[93]⟩ r).bind fun _ r=>if un.nE u=0 then .ok (un.nL u) r else _)=_
   rw [hm]
   show ((need ⟨#[93]⟩ (⟨5,⟨#[93]⟩,0⟩ :: r)).bind fun _ r=>if un.nE (x :: us)=0 then .ok (un.nL (x :: us)) r else _)=_
   rw [dA (by rw [gJ];decide)]
   show (if un.nE (x :: us)=0 then Rs.ok (un.nL (x :: us)) r else _)=_
   rw [if_pos (un.TP h.o).1,(un.TP h.o).2]
theorem jL {m w:ByteArray} (h:name m=true) (hw:name w=false) (a:Int) (r:List Tk):isT w (⟨1,m,a⟩ :: r)=false:=by
 rw [iZ,dF];rintro rfl;rw [h] at hw;cases hw
theorem Eb {t:Ty} (h:tyE t=0) {r:List Tk} (hr:isT ⟨#[91]⟩ r=false):typ (tkl (tyK t)++r)=.ok t r:=by
 rcases fF h with (rfl | rfl) | ⟨s,rfl,hs⟩ | ⟨u,rfl | rfl,hu⟩
 ·rfl
 ·rfl
 ·show (nam (⟨1,s,0⟩ :: r)).bind (fun n r=>(Rs.ok ⟨5,[],n⟩ r:Rs Ty))=Rs.ok ⟨5,[],s⟩ r;rw [jr hs];rfl
 ·show (uni (tkl (unK u)++r)).bind (fun u r=>(Rs.ok ⟨2,u,.empty⟩ r:Rs Ty))=Rs.ok ⟨2,u,.empty⟩ r;rw [rZ hu hr];rfl
 show (uni (tkl (unK u)++r)).bind (fun u r=>(Rs.ok ⟨3,u,.empty⟩ r:Rs Ty))=Rs.ok ⟨3,u,.empty⟩ r;rw [rZ hu hr];rfl
theorem OE {k n:Int} (h:jd k n=true) (r:List Tk):win (tkl (wiK k n)++r)=.ok (k,n) r:=by
 rcases lS h with ⟨rfl,rfl⟩ | ⟨h1,h2,h3⟩
 ·rfl
 rcases h1 with rfl | rfl | rfl
 ·show (int (⟨2,⟨(Lib.itoa n).toArray⟩,0⟩ :: r)).bind (fun n r=>Rs.ok ((2:Int),n) r)=_;rw [jY (by omega) (by omega)];rfl
 ·show (int (⟨2,⟨(Lib.itoa n).toArray⟩,0⟩ :: r)).bind (fun n r=>Rs.ok ((3:Int),n) r)=_;rw [jY (by omega) (by omega)];rfl
 show (int (⟨2,⟨(Lib.itoa n).toArray⟩,0⟩ :: r)).bind (fun n r=>Rs.ok ((4:Int),n) r)=_;rw [jY (by omega) (by omega)];rfl
theorem okb {α β:Type} (v:α) (r:List Tk) (g:α→List Tk→Rs β):(Rs.ok v r).bind g=g v r:=rfl
def Lo (i:Bool) (m:Md) (l:List Tk) (x:Ex) (r:List Tk):Prop:=∃ f0,∀ f,f0≤f→pz f i m l=.ok x r
theorem cZ {i:Bool} {m:Md} {l:List Tk} {x:Ex} {r:List Tk} (f0:Nat) (h:∀ f,f0≤f→pz (f+1) i m l=.ok x r):Lo i m l x r :=
 ⟨f0+1,fun f hf=>by
  obtain ⟨g,rfl⟩:∃ g,f=g+1:=⟨f - 1,by omega⟩
  exact h g (by omega)⟩
variable {i:Bool} {l r r1 r2 r':List Tk} {x y z:Ex} {least n:Nat}
theorem Wq (h1:isT ⟨#[105,102]⟩ l=true) (e1:Lo i .ex l.tail x r) (h2:isT ⟨#[116,104,101,110]⟩ r=true) (e2:Lo i .ex r.tail y r1) (h3:isT ⟨#[101,108,115,101]⟩ r1=true) (e3:Lo i .ex r1.tail z r2):Lo i .ex l (ifE x y z) r2:=by
 obtain ⟨f1,e1⟩:=e1;obtain ⟨f2,e2⟩:=e2;obtain ⟨f3,e3⟩:=e3;refine cZ (f1+f2+f3) fun f hf=>?_;simp only [pz];rw [if_pos h1,e1 f (by omega)];show (need ⟨#[116,104,101,110]⟩ r).bind _=_;rw [dA h2];show (pz f i .ex r.tail).bind _=_;rw [e2 f (by omega)];show (need ⟨#[101,108,115,101]⟩ r1).bind _=_;rw [dA h3];show (pz f i .ex r1.tail).bind _=_;rw [e3 f (by omega)];rfl
theorem Ws (h1:isT ⟨#[105,102]⟩ l=false) (e:Lo i (.op 0) l x r):Lo i .ex l x r:=by
 obtain ⟨f1,e⟩:=e;refine cZ f1 fun f hf=>?_;simp only [pz];rw [if_neg (nt h1)];exact e f hf
theorem Uc (h1:least≤3) (h2:isT ⟨#[110,111,116]⟩ l=true) (e1:Lo i (.op 3) l.tail x r) (e2:Lo i (.tl least 3 (fM ⟨#[110,111,116]⟩ x)) r y r'):Lo i (.op least) l y r':=by
 obtain ⟨f1,e1⟩:=e1;obtain ⟨f2,e2⟩:=e2;refine cZ (f1+f2) fun f hf=>?_;simp only [pz];rw [if_pos ⟨h1,h2⟩,e1 f (by omega)];exact e2 f (by omega)
theorem NZ (h2:isT ⟨#[110,111,116]⟩ l=false) (e1:Lo i .ng l x r) (e2:Lo i (.tl least 6 x) r y r'):Lo i (.op least) l y r':=by
 obtain ⟨f1,e1⟩:=e1;obtain ⟨f2,e2⟩:=e2;refine cZ (f1+f2) fun f hf=>?_;simp only [pz];rw [if_neg (fun h=>nt h2 h.2),e1 f (by omega)];exact e2 f (by omega)
theorem JZ (h:n≤least):Lo i (.tl least n x) l x l:=by
 refine cZ 0 fun f _=>?_;simp only [pz];rw [if_pos h]
theorem QB (h:least<n) (h2:opr (n - 1) l=.empty) (e:Lo i (.tl least (n - 1) x) l y r):Lo i (.tl least n x) l y r:=by
 obtain ⟨f1,e⟩:=e;refine cZ f1 fun f hf=>?_;simp only [pz];rw [if_neg (by omega),if_pos h2];exact e f hf
theorem Qy {op:ByteArray} (h:least<n) (h2:opr (n - 1) l=op) (h3:op≠.empty) (e1:Lo i (.op n) l.tail y r) (e2:Lo i (.tl least (if n=4 then 3 else n) (bC op x y)) r z r'):Lo i (.tl least n x) l z r':=by
 obtain ⟨f1,e1⟩:=e1;obtain ⟨f2,e2⟩:=e2;refine cZ (f1+f2) fun f hf=>?_;simp only [pz];rw [if_neg (by omega),if_neg (by rw [h2];exact h3),e1 f (by omega),h2];exact e2 f (by omega)
theorem Ud (h:isT ⟨#[45]⟩ l=true) (e:Lo i .ng l.tail x r):Lo i .ng l (fM ⟨#[45]⟩ x) r:=by
 obtain ⟨f1,e⟩:=e;refine cZ f1 fun f hf=>?_;simp only [pz];rw [if_pos h,e f hf];rfl
theorem Hu (h:isT ⟨#[45]⟩ l=false) (e:Lo i .pr l x r):Lo i .ng l x r:=by
 obtain ⟨f1,e⟩:=e;refine cZ f1 fun f hf=>?_;simp only [pz];rw [if_neg (nt h)];exact e f hf
theorem Ht (h:isT ⟨#[40]⟩ l=true) (e:Lo i .ex l.tail x r) (h2:isT ⟨#[41]⟩ r=true):Lo i .pa l x r.tail:=by
 obtain ⟨f1,e⟩:=e;refine cZ f1 fun f hf=>?_;simp only [pz];rw [dA h];show (pz f i .ex l.tail).bind _=_;rw [e f hf];show (need ⟨#[41]⟩ r).bind _=_;rw [dA h2];rfl
theorem Qz {m:ByteArray} (hm:name m=true) (a:Int) (h:isT ⟨#[111,102]⟩ l=true) (e:Lo i .pa l.tail x r):Lo i .rf (⟨1,m,a⟩ :: l) (uF m x) r:=by
 obtain ⟨f1,e⟩:=e;refine cZ f1 fun f hf=>?_;simp only [pz];rw [jr hm];show (if isT ⟨#[111,102]⟩ l=true then (pz f i .pa l.tail).bind fun x r=>.ok (uF m x) r else .ok (Il m) l)=_;rw [if_pos h,e f hf];rfl
theorem QA {m:ByteArray} (hm:name m=true) (a:Int) (h:isT ⟨#[111,102]⟩ l=false):Lo i .rf (⟨1,m,a⟩ :: l) (Il m) l:=by
 refine cZ 0 fun f hf=>?_;simp only [pz];rw [jr hm];show (if isT ⟨#[111,102]⟩ l=true then (pz f i .pa l.tail).bind fun x r=>.ok (uF m x) r else .ok (Il m) l)=_;rw [if_neg (nt h)]
theorem xY (f:Nat) (h2:(hd l).k≠2) (h3:(hd l).k≠3) (h4:(hd l).k≠4):pz (f+1) i .pr l =
    if isT ⟨#[116,114,117,101]⟩ l=true then .ok (bX 1) l.tail
    else if isT ⟨#[102,97,108,115,101]⟩ l=true then .ok (bX 0) l.tail
    else if isT ⟨#[64]⟩ l=true then key l
    else if isT ⟨#[110,117,108,108]⟩ l=true then (pz f i .pa l.tail).bind fun x r=>.ok (fM ⟨#[110,117,108,108]⟩ x) r
    else if isT ⟨#[40]⟩ l=true then pz f i .pa l
    else if i=true then (nam l).bind fun n r=>.ok (Ik n) r
    else if agg (hd l).t=true then pz f i .ag l
    else pz f i .rf l:=by
 simp only [pz];rw [if_neg h2,if_neg h3,if_neg h4]
theorem Qx (a:Int) (e:Lo i .pa l x r):Lo i .pr (⟨1,⟨#[110,117,108,108]⟩,a⟩ :: l) (fM ⟨#[110,117,108,108]⟩ x) r:=by
 obtain ⟨f1,e⟩:=e;refine cZ f1 fun f hf=>?_;rw [xY f (by show ¬ (1:Int)=2;decide) (by show ¬ (1:Int)=3;decide) (by show ¬ (1:Int)=4;decide)];show (pz f i .pa l).bind (fun x r=>Rs.ok (fM ⟨#[110,117,108,108]⟩ x) r)=Rs.ok (fM ⟨#[110,117,108,108]⟩ x) r;rw [e f hf];rfl
theorem Mx (a:Int) (e:Lo i .ex l x r) (h2:isT ⟨#[41]⟩ r=true):Lo i .pr (⟨5,⟨#[40]⟩,a⟩ :: l) x r.tail:=by
 obtain ⟨f1,e⟩:=Ht (l:=⟨5,⟨#[40]⟩,a⟩ :: l) rfl e h2;refine cZ f1 fun f hf=>?_;rw [xY f (by show ¬ (5:Int)=2;decide) (by show ¬ (5:Int)=3;decide) (by show ¬ (5:Int)=4;decide)];show pz f i .pa (⟨5,⟨#[40]⟩,a⟩ :: l)=_;exact e f hf
theorem Mr:name ⟨#[102,97,108,115,101]⟩=false:=by kernel_rfl
theorem Qp:name ⟨#[64]⟩=false:=by kernel_rfl
theorem Ml:name ⟨#[110,117,108,108]⟩=false:=by kernel_rfl
theorem Mk:name ⟨#[40]⟩=false:=by kernel_rfl
theorem Br:name ⟨#[110,111,116]⟩=false:=by kernel_rfl
theorem EW:name ⟨#[105,102]⟩=false:=by kernel_rfl
theorem Bt:name ⟨#[45]⟩=false:=by kernel_rfl
theorem Rv:([(⟨#[99,111,117,110,116]⟩:ByteArray),⟨#[115,117,109]⟩,⟨#[109,101,97,110]⟩,⟨#[109,105,110]⟩,⟨#[109,97,120]⟩,⟨#[102,105,114,115,116]⟩,⟨#[108,97,115,116]⟩,⟨#[100,105,115,116,105,110,99,116]⟩,⟨#[113,117,97,110,116,105,108,101]⟩,⟨#[100,101,99,97,121]⟩].all fun t => !name t)=true:=by kernel_rfl
theorem NC {m:ByteArray} (h:name m=true):agg m=false:=by
 cases ha:agg m with
 | false=>rfl
 | true =>
   unfold agg at ha
   rw [List.any_eq_true] at ha
   obtain ⟨t,ht,e⟩:=ha
   rw [L_c] at e
   subst e
   have:=List.all_eq_true.1 Rv _ ht
   rw [h] at this
   cases this
theorem NR (f:Nat) {m:ByteArray} (hm:name m=true) (a:Int):pz (f+1) i .pr (⟨1,m,a⟩ :: l)=if i=true then .ok (Ik m) l else pz f i .rf (⟨1,m,a⟩ :: l):=by
 rw [xY f (by show ¬ (1:Int)=2;decide) (by show ¬ (1:Int)=3;decide) (by show ¬ (1:Int)=4;decide)];rw [if_neg (nt (jL hm uD a l)),if_neg (nt (jL hm Mr a l)),if_neg (nt (jL hm Qp a l)),if_neg (nt (jL hm Ml a l)),if_neg (nt (jL hm Mk a l))];rw [jr hm,if_neg (nt (show agg (hd (⟨1,m,a⟩ :: l)).t=false from NC hm))];rfl
theorem MB {m:ByteArray} (hm:name m=true) (a:Int):Lo true .pr (⟨1,m,a⟩ :: l) (Ik m) l :=
 cZ 0 fun f _=>by rw [NR f hm,if_pos rfl]
theorem JY {m:ByteArray} (hm:name m=true) (a:Int) (e:Lo false .rf (⟨1,m,a⟩ :: l) x r):Lo false .pr (⟨1,m,a⟩ :: l) x r:=by
 obtain ⟨f1,e⟩:=e;refine cZ f1 fun f hf=>?_;rw [NR f hm,if_neg (by decide)];exact e f hf
theorem Vg {op:ByteArray} {p:Int} (h:iG op p=true):agg op=true∧op≠⟨#[116,114,117,101]⟩∧op≠⟨#[102,97,108,115,101]⟩∧op≠⟨#[64]⟩∧op≠⟨#[110,117,108,108]⟩∧op≠⟨#[40]⟩∧op≠⟨#[45]⟩∧op≠⟨#[110,111,116]⟩∧op≠⟨#[105,102]⟩:=by
 rcases kC h with ⟨h,_⟩ | ⟨h,_⟩
 ·rcases h with rfl | rfl | rfl | rfl | rfl | rfl | rfl | rfl <;> decide
 rcases h with rfl | rfl <;> decide
theorem J2 {op:ByteArray} {p:Int} (hp:iG op p=true) (a:Int) (e:Lo false .ag (⟨1,op,a⟩ :: l) x r):Lo false .pr (⟨1,op,a⟩ :: l) x r:=by
 obtain ⟨f1,e⟩:=e;obtain ⟨h0,h1,h2,h3,h4,h5,_⟩:=Vg hp;refine cZ f1 fun f hf=>?_;rw [xY f (by show ¬ (1:Int)=2;decide) (by show ¬ (1:Int)=3;decide) (by show ¬ (1:Int)=4;decide)];simp only [iZ];rw [if_neg (by simpa using h1),if_neg (by simpa using h2),if_neg (by simpa using h3),if_neg (by simpa using h4),if_neg (by simpa using h5),if_neg (by decide),if_pos (show agg (hd (⟨1,op,a⟩ :: l)).t=true from h0)];exact e f hf
theorem Uf {u:List un.Fa} {v:Int} (h1:0≤v) (h2:v≤1152921504606846976) (hu:uni l=.ok u r) (a:Int):Lo i .pr (⟨2,⟨(Lib.itoa v).toArray⟩,a⟩ :: l) (Hw 2 v u) r:=by
 refine cZ 0 fun f _=>?_;simp only [pz];rw [if_pos (show (hd (⟨2,⟨(Lib.itoa v).toArray⟩,a⟩ :: l)).k=2 from rfl),jY h1 h2,okb,hu];rfl
theorem Ug {u:List un.Fa} {v:Int} (h1:0≤v) (h2:v≤1152921504606846976) (hu:uni l=.ok u r) (a:Int):Lo i .pr (⟨3,⟨(foX v).toArray⟩,a⟩ :: l) (Hw 3 v u) r:=by
 refine cZ 0 fun f _=>?_;simp only [pz];rw [if_neg (by show ¬ (3:Int)=2;decide),if_pos (show (hd (⟨3,⟨(foX v).toArray⟩,a⟩ :: l)).k=3 from rfl),Nr h1 h2,okb,hu];rfl
theorem Qw (s:ByteArray) (a:Int):Lo i .pr (⟨4,s,a⟩ :: l) (R9 s) l:=by
 refine cZ 0 fun f _=>?_;simp only [pz];rw [if_neg (by show ¬ (4:Int)=2;decide),if_neg (by show ¬ (4:Int)=3;decide),if_pos (show (hd (⟨4,s,a⟩ :: l)).k=4 from rfl),mh];rfl
theorem Ue {m s:ByteArray} (hm:name m=true) (hs:ck ⟨5,0,s⟩=0) (a b c:Int):Lo i .pr (⟨5,⟨#[64]⟩,a⟩ :: ⟨1,m,b⟩ :: ⟨4,s,c⟩ :: l) (HV m s) l:=by
 refine cZ 0 fun f _=>?_;rw [xY f (by show ¬ (5:Int)=2;decide) (by show ¬ (5:Int)=3;decide) (by show ¬ (5:Int)=4;decide)];show key (⟨5,⟨#[64]⟩,a⟩ :: ⟨1,m,b⟩ :: ⟨4,s,c⟩ :: l)=_;unfold key nma;rw [dA rfl,okb];show ((nam (⟨1,m,b⟩ :: ⟨4,s,c⟩ :: l)).bind fun n r=>(tak 4 r).bind fun s r' => if ck ⟨5,0,s⟩=0 then Rs.ok (HV n s) r' else .no (hd r).a 3 r')=_;rw [jr hm,okb,mh,okb,if_pos hs]
theorem Uh {n:Int} (h:n=0∨n=1) (a:Int):Lo i .pr (⟨1,if n=1 then ⟨#[116,114,117,101]⟩ else ⟨#[102,97,108,115,101]⟩,a⟩ :: l) (bX n) l:=by
 refine cZ 0 fun f _=>?_;rw [xY f (by show ¬ (1:Int)=2;decide) (by show ¬ (1:Int)=3;decide) (by show ¬ (1:Int)=4;decide)];rcases h with rfl | rfl
 ·rfl
 rfl
theorem N7 {op t:ByteArray} {p wk ws:Int} (ht:name t=true) (hw:jd wk ws=true) (hp:iG op p=true) {l1 l2 l3:List Tk} {c:Ex}
    (e1:(op=⟨#[99,111,117,110,116]⟩∧l=l1∧x=bX 1)∨(op≠⟨#[99,111,117,110,116]⟩∧Lo true .ex l x (⟨5,⟨#[44]⟩,0⟩ :: l1)))
    (e2:l1=(if op=⟨#[113,117,97,110,116,105,108,101]⟩∨op=⟨#[100,101,99,97,121]⟩ then [⟨2,⟨(Lib.itoa p).toArray⟩,0⟩,⟨5,⟨#[44]⟩,0⟩] else [])++(tkl (wiK wk ws)++l2))
    (e3:(l2=l3∧c=bX 1∧isT ⟨#[119,104,101,114,101]⟩ l3=false)∨(isT ⟨#[119,104,101,114,101]⟩ l2=true∧Lo true .ex l2.tail c l3)) (h3:isT ⟨#[41]⟩ l3=true) :
    Lo false .ag (⟨1,op,0⟩ :: ⟨5,⟨#[40]⟩,0⟩ :: ⟨1,t,0⟩ :: ⟨5,⟨#[44]⟩,0⟩ :: l) (Db op t p (wk,ws) x c) l3.tail:=by
 have e1':∃ f1,∀ f,f1≤f→(if op=⟨#[99,111,117,110,116]⟩ then .ok (bX 1) l else (pz f true .ex l).bind fun x r=>(need ⟨#[44]⟩ r).bind fun _ r=>.ok x r)=Rs.ok x l1:=by
  rcases e1 with ⟨h,rfl,rfl⟩ | ⟨h,f1,e1⟩
  ·exact ⟨0,fun f _=>by rw [if_pos h]⟩
  refine ⟨f1,fun f hf=>?_⟩;rw [if_neg h,e1 f hf,okb,dA rfl];rfl
 have e2':(if op=⟨#[113,117,97,110,116,105,108,101]⟩∨op=⟨#[100,101,99,97,121]⟩ then (int l1).bind fun n r=>(need ⟨#[44]⟩ r).bind fun _ r=>.ok n r else .ok 0 l1)=Rs.ok p (tkl (wiK wk ws)++l2):=by
  rw [e2];rcases kC hp with ⟨h,rfl⟩ | ⟨h,h1,h2⟩
  ·have hq:¬ (op=⟨#[113,117,97,110,116,105,108,101]⟩∨op=⟨#[100,101,99,97,121]⟩):=by rcases h with rfl | rfl | rfl | rfl | rfl | rfl | rfl | rfl <;> decide
   rw [if_neg hq,if_neg hq];rfl
  rw [if_pos h,if_pos h];show (int (⟨2,⟨(Lib.itoa p).toArray⟩,0⟩ :: ⟨5,⟨#[44]⟩,0⟩ :: (tkl (wiK wk ws)++l2))).bind _=_;rw [jY (by omega) (by omega),okb,dA rfl];rfl
 have e3':∃ f3,∀ f,f3≤f→(if isT ⟨#[119,104,101,114,101]⟩ l2=true then pz f true .ex l2.tail else .ok (bX 1) l2)=Rs.ok c l3:=by
  rcases e3 with ⟨rfl,rfl,h⟩ | ⟨h,f3,e3⟩
  ·exact ⟨0,fun f _=>by rw [if_neg (nt h)]⟩
  exact ⟨f3,fun f hf=>by rw [if_pos h,e3 f hf]⟩
 obtain ⟨f1,e1⟩:=e1';obtain ⟨f3,e3⟩:=e3';refine cZ (f1+f3) fun f hf=>?_;simp only [pz];rw [mh,okb,dA rfl,okb];show (nam (⟨1,t,0⟩ :: ⟨5,⟨#[44]⟩,0⟩ :: l)).bind _=_;rw [jr ht,okb,dA rfl,okb];show (if op=⟨#[99,111,117,110,116]⟩ then .ok (bX 1) l else (pz f true .ex l).bind fun x r=>(need ⟨#[44]⟩ r).bind fun _ r=>.ok x r).bind _=_;rw [e1 f (by omega),okb,e2',okb,OE hw,okb,e3 f (by omega),okb,dA h3];rfl
def NoOp (n:Nat) (r:List Tk):Prop:=∀ k,n≤k→k<6→opr k r=.empty
structure Stp (r:List Tk):Prop where
 sq:isT ⟨#[91]⟩ r=false
 of:isT ⟨#[111,102]⟩ r=false
structure Fin' (r:List Tk):Prop where
 s:Stp r
 n:NoOp 0 r
theorem NoOp.mono {n m:Nat} {r:List Tk} (h:NoOp n r) (hm:n≤m):NoOp m r:=fun k h1 h2=>h k (by omega) h2
def rnk:Nat→Int
 | 0=>1
 | 1=>2
 | 2=>3
 | 3=>4
 | 4=>6
 | 5=>7
 | _=>8
def tpR (q:Int):Nat:=if 7≤q then 6 else if q=6 then 5 else if 3≤q then 3 else if q=2 then 2 else if q=1 then 1 else 0
def tpq (h q:Int):Nat:=if h<q then 6 else tpR h
theorem IY (q:Int):tpR q≤6:=by unfold tpR;repeat (first | omega | split)
theorem Aq (h q:Int):tpq h q≤6:=by
 unfold tpq;split
 ·omega
 exact IY h
theorem Pz (n:Nat):1≤rnk n:=by unfold rnk;split <;> omega
variable {i:Bool} {x:Ex} {K:List Pc}
theorem Fp {l r:List Tk} {z:Ex} {least n:Nat} (h1:least≤n) (hn:NoOp n l) (e:Lo i (.tl least n x) l z r):∀ d,n+d≤6→Lo i (.tl least (n+d) x) l z r
 | 0,_=>e
 | d+1,hd=>QB (by omega) (hn _ (by omega) (by omega)) (Fp h1 hn e d (by omega))
theorem NY {l r:List Tk} {z:Ex} {least n m:Nat} (h1:least≤n) (h2:n≤m) (h3:m≤6) (hn:NoOp n l) (e:Lo i (.tl least n x) l z r):Lo i (.tl least m x) l z r:=by
 obtain ⟨d,rfl⟩:∃ d,m=n+d:=⟨m - n,by omega⟩;exact Fp h1 hn e d h3
theorem BH {l:List Tk} {least m:Nat} (h3:m≤6) (hn:NoOp least l):Lo i (.tl least m x) l x l:=by
 by_cases h:m≤least
 ·exact JZ h
 exact NY lr (by omega) h3 hn (JZ lr)
structure Prs (i:Bool) (K:List Pc) (x:Ex):Prop where
 ex:∀ r,Fin' r→Lo i .ex (tkl K++r) x r
 op:∀ (least:Nat) (r:List Tk) (z:Ex) (r':List Tk),rnk least≤rk x.h→Stp r→NoOp (tpR (rk x.h)) r→Lo i (.tl least (tpR (rk x.h)) x) r z r'→Lo i (.op least) (tkl K++r) z r'
 ng:8≤rk x.h→∀ r,Stp r→Lo i .ng (tkl K++r) x r
 nif:1≤rk x.h→∀ r,isT ⟨#[105,102]⟩ (tkl K++r)=false
 tru:bY x.h=true→x=bX 1
theorem uQ {i:Bool} {K:List Pc} {x:Ex} (hr:1≤rk x.h) (h:∀ r,isT ⟨#[105,102]⟩ (tkl K++r)=false)
  (op:∀ (least:Nat) (r:List Tk) (z:Ex) (r':List Tk),rnk least≤rk x.h→Stp r→NoOp (tpR (rk x.h)) r→Lo i (.tl least (tpR (rk x.h)) x) r z r'→Lo i (.op least) (tkl K++r) z r') (r:List Tk) (hF:Fin' r):Lo i .ex (tkl K++r) x r :=
 Ws (h r) (op 0 r x r hr hF.s (hF.n.mono (by omega)) (BH (IY _) hF.n))
theorem Js {i:Bool} {K:List Pc} {x:Ex} (hr:8≤rk x.h) (h1:∀ r,isT ⟨#[105,102]⟩ (tkl K++r)=false) (h2:∀ r,isT ⟨#[110,111,116]⟩ (tkl K++r)=false)
    (h:∀ r,Stp r→Lo i .ng (tkl K++r) x r) (ht:bY x.h=true→x=bX 1):Prs i K x:=by
 have ht6:tpR (rk x.h)=6:=by unfold tpR;rw [if_pos (by omega)]
 have op:∀ (least:Nat) (r:List Tk) (z:Ex) (r':List Tk),rnk least≤rk x.h→Stp r→NoOp (tpR (rk x.h)) r→Lo i (.tl least (tpR (rk x.h)) x) r z r'→Lo i (.op least) (tkl K++r) z r':=by
  intro least r z r' _ hs _ e;rw [ht6] at e;exact NZ (h2 r) (h r hs) e
 exact ⟨fun r hF=>uQ (by omega) h1 op r hF,op,fun _=>h,fun _=>h1,ht⟩
theorem ku {i:Bool} {K:List Pc} {x:Ex} (hr:rk x.h=9) (h1:∀ r,isT ⟨#[105,102]⟩ (tkl K++r)=false) (h2:∀ r,isT ⟨#[110,111,116]⟩ (tkl K++r)=false) (h3:∀ r,isT ⟨#[45]⟩ (tkl K++r)=false)
  (h:∀ r,Stp r→Lo i .pr (tkl K++r) x r) (ht:bY x.h=true→x=bX 1):Prs i K x :=
 Js (by omega) h1 h2 (fun r hs=>Hu (h3 r) (h r hs)) ht
theorem Cj {s:ByteArray} (h1:s≠⟨#[91]⟩) (h2:s≠⟨#[111,102]⟩) (h3:∀ k,k<6→∀ t ∈ opL k,s≠t) (r:List Tk):Fin' (⟨5,s,0⟩ :: r) :=
 ⟨⟨by rw [gJ,dF h1],by rw [gJ,dF h2]⟩,fun k _ hk=>by
  unfold opr
  rw [List.find?_eq_none.2 fun t ht=>by rw [gJ,dF (h3 k hk t ht)];decide]
  rfl⟩
theorem KG {s:ByteArray} (h1:s≠⟨#[91]⟩) (h2:s≠⟨#[111,102]⟩) (h3:∀ k,k<6→∀ t ∈ opL k,s≠t) (r:List Tk):Fin' (⟨1,s,0⟩ :: r) :=
 ⟨⟨by rw [iZ,dF h1],by rw [iZ,dF h2]⟩,fun k _ hk=>by
  unfold opr
  rw [List.find?_eq_none.2 fun t ht=>by rw [iZ,dF (h3 k hk t ht)];decide]
  rfl⟩
theorem qY {s:ByteArray} (h:((opL 0++opL 1++opL 2++opL 3++opL 4++opL 5).all fun t => !decide (s=t))=true):∀ k,k<6→∀ t ∈ opL k,s≠t:=by
 intro k hk t ht;have:=List.all_eq_true.1 h t (by
   simp only [List.mem_append]
   rcases (show k=0∨k=1∨k=2∨k=3∨k=4∨k=5 by omega) with rfl | rfl | rfl | rfl | rfl | rfl <;> simp [ht])
 simpa using this
theorem nP (r:List Tk):Fin' (⟨5,⟨#[41]⟩,0⟩ :: r):=Cj (by decide) (by decide) (qY (by decide)) r
theorem KH (r:List Tk):Fin' (⟨5,⟨#[44]⟩,0⟩ :: r):=Cj (by decide) (by decide) (qY (by decide)) r
theorem Ng (r:List Tk):Fin' (⟨5,⟨#[59]⟩,0⟩ :: r):=Cj (by decide) (by decide) (qY (by decide)) r
theorem Nf (r:List Tk):Fin' (⟨1,⟨#[116,104,101,110]⟩,0⟩ :: r):=KG (by decide) (by decide) (qY (by decide)) r
theorem Nh (r:List Tk):Fin' (⟨1,⟨#[101,108,115,101]⟩,0⟩ :: r):=KG (by decide) (by decide) (qY (by decide)) r
theorem oF (K:List Pc) (r:List Tk):tkl (sg ⟨#[40]⟩ :: (K++[sg ⟨#[41]⟩]))++r=⟨5,⟨#[40]⟩,0⟩ :: (tkl K++(⟨5,⟨#[41]⟩,0⟩ :: r)):=by
 rw [bT,dU,L_g,L_i];rfl
theorem Prs.par (P:Prs i K x) (r:List Tk):Lo i .pr (tkl (sg ⟨#[40]⟩ :: (K++[sg ⟨#[41]⟩]))++r) x r:=by
 rw [oF];exact Mx 0 (P.ex _ (nP r)) rfl
theorem Prs.at (P:Prs i K x) (q:Int) (least:Nat) {r:List Tk} {z:Ex} {r':List Tk} (h1:rnk least≤q) (h2:Stp r) (h3:NoOp (tpq (rk x.h) q) r) (h4:Lo i (.tl least (tpq (rk x.h) q) x) r z r') :
    Lo i (.op least) (tkl (fG (rk x.h) q K)++r) z r':=by
 unfold fG tpq at *;by_cases h:rk x.h<q
 ·rw [if_pos h] at h3 h4 ⊢;exact NZ (by rw [oF];rfl) (Hu (by rw [oF];rfl) (P.par r)) h4
 rw [if_neg h] at h3 h4 ⊢;exact P.op least r z r' (by omega) h2 h3 h4
theorem Prs.at8 (P:Prs i K x) {r:List Tk} (h2:Stp r):Lo i .ng (tkl (fG (rk x.h) 8 K)++r) x r:=by
 unfold fG;by_cases h:rk x.h<8
 ·rw [if_pos h];exact Hu (by rw [oF];rfl) (P.par r)
 rw [if_neg h];exact P.ng (by omega) r h2
theorem Prs.Xo (P:Prs i K x) (q:Int) (hq:1≤q) (r:List Tk):isT ⟨#[105,102]⟩ (tkl (fG (rk x.h) q K)++r)=false:=by
 unfold fG;by_cases h:rk x.h<q
 ·rw [if_pos h,oF];rfl
 rw [if_neg h];exact P.nif (by omega) r
structure OpF (p:Pc) (op:ByteArray) (n:Nat) (q:Int):Prop where
 hit:∀ r,opr (n - 1) (tk0 p :: r)=op
 miss:∀ r,NoOp n (tk0 p :: r)
 stp:∀ r,Stp (tk0 p :: r)
 ne:op≠.empty
 nq:(n=1∧q=1)∨(n=2∧q=2)∨(n=3∧q=3)∨(n=4∧q=5)∨(n=5∧q=6)∨(n=6∧q=7)
def nxt (n:Nat):Nat:=if n=4 then 3 else n
theorem Fz {n:Nat} {q:Int} (h:(n=1∧q=1)∨(n=2∧q=2)∨(n=3∧q=3)∨(n=4∧q=5)∨(n=5∧q=6)∨(n=6∧q=7)) (h':Int) (hh:h'≤9):n≤tpq h' (lef q)∧n≤tpq h' (q+1)∧rnk n=q+1∧tpR q=nxt n∧nxt n≤n:=by
 unfold tpq tpR lef nxt;rcases h with ⟨rfl,rfl⟩ | ⟨rfl,rfl⟩ | ⟨rfl,rfl⟩ | ⟨rfl,rfl⟩ | ⟨rfl,rfl⟩ | ⟨rfl,rfl⟩ <;> refine ⟨?_,?_,rfl,by decide,by decide⟩ <;> (repeat (first | omega | split))
theorem NP (h:Hd):rk h≤9:=by
 unfold rk rkO
 repeat (first | omega | split)
theorem SQ {n least:Nat} {q:Int} (h:(n=1∧q=1)∨(n=2∧q=2)∨(n=3∧q=3)∨(n=4∧q=5)∨(n=5∧q=6)∨(n=6∧q=7)) (hl:rnk least≤q):least<n∧rnk least≤lef q:=by
 unfold rnk at *;unfold lef;rcases h with ⟨rfl,rfl⟩ | ⟨rfl,rfl⟩ | ⟨rfl,rfl⟩ | ⟨rfl,rfl⟩ | ⟨rfl,rfl⟩ | ⟨rfl,rfl⟩ <;> (split at hl <;> (first | (exfalso;omega) | (refine ⟨by omega,?_⟩;split <;> omega)))
theorem EI {p:Pc} {op:ByteArray} {n:Nat} {q:Int} (F:OpF p op n q) {K1 K2:List Pc} {a b:Ex} (A:Prs i K1 a) (B:Prs i K2 b) (hq:rk (bC op a b).h=q) (ht:bY (bC op a b).h=false) :
    Prs i (fG (rk a.h) (lef q) K1++(p :: sp (fG (rk b.h) (q+1) K2))) (bC op a b):=by
 obtain ⟨t1,_,rn,tn,nn⟩:=Fz F.nq (rk a.h) (NP _);obtain ⟨_,t2,_⟩:=Fz F.nq (rk b.h) (NP _);have e0:∀ r,tkl (fG (rk a.h) (lef q) K1++(p :: sp (fG (rk b.h) (q+1) K2)))++r=tkl (fG (rk a.h) (lef q) K1)++(tk0 p :: (tkl (fG (rk b.h) (q+1) K2)++r)):=by
  intro r;rw [dU,bT,iP,L_i];rfl
 have hif:∀ r,isT ⟨#[105,102]⟩ (tkl (fG (rk a.h) (lef q) K1++(p :: sp (fG (rk b.h) (q+1) K2)))++r)=false:=fun r=>by
  rw [e0];exact A.Xo _ (by unfold lef;have:=F.nq;split <;> omega) _
 have op:∀ (least:Nat) (r:List Tk) (z:Ex) (r':List Tk),rnk least≤rk (bC op a b).h→Stp r→NoOp (tpR (rk (bC op a b).h)) r→Lo i (.tl least (tpR (rk (bC op a b).h)) (bC op a b)) r z r' →
     Lo i (.op least) (tkl (fG (rk a.h) (lef q) K1++(p :: sp (fG (rk b.h) (q+1) K2)))++r) z r':=by
   intro least r z r' hl hs hn e
   rw [hq] at hl hn e
   rw [tn] at hn e
   rw [e0]
   obtain ⟨hlt,hll⟩:=SQ F.nq hl
   refine A.at (lef q) least hll (F.stp _) ((F.miss _).mono t1) ?_
   refine NY (Nat.le_of_lt hlt) t1 (Aq _ _) (F.miss _) ?_
   refine Qy hlt (F.hit _) F.ne (y:=b) (r:=r) ?_ e
   refine B.at (q+1) n (Int.le_of_eq rn) hs (hn.mono (by omega)) ?_
   exact BH (Aq _ _) (hn.mono nn)
 refine ⟨fun r hF=>uQ (by rw [hq];have:=F.nq;omega) hif op r hF,op,fun h=>?_,fun _=>hif,fun h=>by rw [ht] at h;cases h⟩;rw [hq] at h;have:=F.nq;omega
theorem Ma {k:Nat} {s:ByteArray} {l:List Tk} (h:∀ t,isT t l=decide (s=t)) (hs:s ∈ opL k):opr k l=s:=by
 unfold opr
 cases hf:(opL k).find? fun t=>isT t l with
 | none =>
   have:=List.find?_eq_none.1 hf s hs
   rw [h s] at this
   simp at this
 | some t =>
   have:=List.find?_some hf
   rw [h t,L_c] at this
   exact this.symm
theorem JD {k:Nat} {s:ByteArray} {l:List Tk} (h:∀ t,isT t l=decide (s=t)) (hs:∀ t ∈ opL k,s≠t):opr k l=.empty:=by
 unfold opr;rw [List.find?_eq_none.2 fun t ht=>by rw [h t,dF (hs t ht)];decide];rfl
def Xm (n:Nat):List ByteArray:=((List.range 6).filter fun k=>decide (n≤k)).flatMap opL
theorem ji {p:Pc} {op:ByteArray} {n:Nat} {q:Int} (hp:p.2=(1,op)∨p.2=(5,op)) (h1:(opL (n - 1)).any (fun t=>decide (op=t))=true) (h2:((Xm n).all fun t => !decide (op=t))=true) (h3:op≠⟨#[91]⟩) (h4:op≠⟨#[111,102]⟩) (h5:op≠.empty)
    (nq:(n=1∧q=1)∨(n=2∧q=2)∨(n=3∧q=3)∨(n=4∧q=5)∨(n=5∧q=6)∨(n=6∧q=7)):OpF p op n q:=by
 have hT:∀ r t,isT t (tk0 p :: r)=decide (op=t):=by
  intro r t;obtain ⟨b,k,s⟩:=p;rcases hp with h | h
  ·obtain ⟨rfl,rfl⟩:=Prod.mk.inj h;exact iZ ..
  obtain ⟨rfl,rfl⟩:=Prod.mk.inj h;exact gJ ..
 refine ⟨fun r=>Ma (hT r) ?_,fun r k hk hk6=>JD (hT r) fun t ht=>?_,fun r=>⟨by rw [hT,dF h3],by rw [hT,dF h4]⟩,h5,nq⟩
 ·rw [List.any_eq_true] at h1;obtain ⟨t,ht,e⟩:=h1;rw [L_c] at e;exact e ▸ ht
 have:=List.all_eq_true.1 h2 t (List.mem_flatMap.2 ⟨k,List.mem_filter.2 ⟨List.mem_range.2 hk6,by simpa using hk⟩,ht⟩);simpa using this
theorem Qf:OpF (bw ⟨#[100,101,102,97,117,108,116]⟩) ⟨#[100,101,102,97,117,108,116]⟩ 1 1:=ji (.inl rfl) (by decide) (by decide) (by decide) (by decide) (by decide) (by omega)
theorem Qg {op:ByteArray} (h:op=⟨#[43]⟩∨op=⟨#[45]⟩∨op=⟨#[42]⟩∨op=⟨#[47]⟩∨op=⟨#[61,61]⟩∨op=⟨#[33,61]⟩∨op=⟨#[60]⟩∨op=⟨#[60,61]⟩∨op=⟨#[97,110,100]⟩∨op=⟨#[111,114]⟩):(∃ n,OpF (opK op) op n (rkO op))∧op≠⟨#[100,101,102,97,117,108,116]⟩:=by
 rcases h with rfl | rfl | rfl | rfl | rfl | rfl | rfl | rfl | rfl | rfl
 ·exact ⟨⟨5,ji (.inr rfl) (by decide) (by decide) (by decide) (by decide) (by decide) (by decide)⟩,by decide⟩
 ·exact ⟨⟨5,ji (.inr rfl) (by decide) (by decide) (by decide) (by decide) (by decide) (by decide)⟩,by decide⟩
 ·exact ⟨⟨6,ji (.inr rfl) (by decide) (by decide) (by decide) (by decide) (by decide) (by decide)⟩,by decide⟩
 ·exact ⟨⟨6,ji (.inr rfl) (by decide) (by decide) (by decide) (by decide) (by decide) (by decide)⟩,by decide⟩
 ·exact ⟨⟨4,ji (.inr rfl) (by decide) (by decide) (by decide) (by decide) (by decide) (by decide)⟩,by decide⟩
 ·exact ⟨⟨4,ji (.inr rfl) (by decide) (by decide) (by decide) (by decide) (by decide) (by decide)⟩,by decide⟩
 ·exact ⟨⟨4,ji (.inr rfl) (by decide) (by decide) (by decide) (by decide) (by decide) (by decide)⟩,by decide⟩
 ·exact ⟨⟨4,ji (.inr rfl) (by decide) (by decide) (by decide) (by decide) (by decide) (by decide)⟩,by decide⟩
 ·exact ⟨⟨3,ji (.inl rfl) (by decide) (by decide) (by decide) (by decide) (by decide) (by decide)⟩,by decide⟩
 exact ⟨⟨2,ji (.inl rfl) (by decide) (by decide) (by decide) (by decide) (by decide) (by decide)⟩,by decide⟩
theorem len_nil {F:Fo} (h:F.len=0):F=.nil:=by
 cases F with
 | nil=>rfl
 | cons a b c=>simp [Fo.len] at h
theorem yA {F:Fo} (h:F.len=1):F=.cons (F.nth 0).h (F.nth 0).ar .nil:=by
 cases F with
 | nil=>simp [Fo.len] at h
 | cons a b c=>rw [len_nil (F:=c) (by simpa [Fo.len] using h)];rfl
theorem sJ {F:Fo} (h:F.len=2):F=.cons (F.nth 0).h (F.nth 0).ar (.cons (F.nth 1).h (F.nth 1).ar .nil):=by
 cases F with
 | nil=>simp [Fo.len] at h
 | cons a b c =>
   have:=yA (F:=c) (by simpa [Fo.len] using h)
   show Fo.cons a b c=.cons a b (.cons (c.nth 0).h (c.nth 0).ar .nil)
   rw [← this]
theorem J6 {F:Fo} (h:F.len=3):F=.cons (F.nth 0).h (F.nth 0).ar (.cons (F.nth 1).h (F.nth 1).ar (.cons (F.nth 2).h (F.nth 2).ar .nil)):=by
 cases F with
 | nil=>simp [Fo.len] at h
 | cons a b c =>
   have:=sJ (F:=c) (by simpa [Fo.len] using h)
   show Fo.cons a b c=.cons a b (.cons (c.nth 0).h (c.nth 0).ar (.cons (c.nth 1).h (c.nth 1).ar .nil))
   rw [← this]
def Prss (i:Bool) (K:List Ok') (F:Fo):Prop:=∀ j,j<F.len→Prs i (okK K j) (F.nth j)∧(ok' K j).2=(F.nth j).h
theorem Prss.p {i:Bool} {K:List Ok'} {F:Fo} (h:Prss i K F) {j:Nat} (hj:j<F.len) (q:Int):okP K j q=fG (rk (F.nth j).h) q (okK K j):=by
 unfold okP;rw [(h j hj).2];rfl
theorem BU (i:Bool) {k:Int} (h:k≠5):(i || decide (k=5))=i:=by rw [dF h,Bool.or_false]
variable {i:Bool} {g:Hd} {K:List Ok'} {F:Fo}
theorem Jr {m:ByteArray} (hm:name m=true) {x:Ex} (hr:rk x.h=9) (ht:bY x.h=false) (h:∀ r,Stp r→Lo i .pr (⟨1,m,0⟩ :: r) x r):Prs i [wd m] x :=
 ku hr (fun r=>jL hm EW 0 r) (fun r=>jL hm Br 0 r) (fun r=>jL hm Bt 0 r) h fun e=>by rw [ht] at e;cases e
theorem PO {m:ByteArray} (hm:name m=true) {K:List Pc} {x:Ex} (P:Prs false K x):Prs false (wd m :: bw ⟨#[111,102]⟩ :: bs ⟨#[40]⟩ :: (K++[sg ⟨#[41]⟩])) (uF m x):=by
 refine ku rfl (fun r=>jL hm EW 0 _) (fun r=>jL hm Br 0 _) (fun r=>jL hm Bt 0 _) (fun r hs=>?_) (fun e=>by cases e);have e0:tkl (wd m :: bw ⟨#[111,102]⟩ :: bs ⟨#[40]⟩ :: (K++[sg ⟨#[41]⟩]))++r=⟨1,m,0⟩ :: ⟨1,⟨#[111,102]⟩,0⟩ :: ⟨5,⟨#[40]⟩,0⟩ :: (tkl K++(⟨5,⟨#[41]⟩,0⟩ :: r)):=by
  rw [bT,bT,bT,dU,L_g,L_g,L_g,L_i];rfl
 rw [e0];exact JY hm 0 (Qz hm 0 rfl (Ht (r:=⟨5,⟨#[41]⟩,0⟩ :: r) rfl (P.ex _ (nP r)) rfl))
theorem PN {K:List Pc} {x:Ex} (P:Prs i K x):Prs i (sg ⟨#[45]⟩ :: fG (rk x.h) 8 K) (fM ⟨#[45]⟩ x):=by
 refine Js (by show (8:Int)≤8;decide) (fun r=>rfl) (fun r=>rfl) (fun r hs=>?_) (fun e=>by cases e);show Lo i .ng (⟨5,⟨#[45]⟩,0⟩ :: (tkl (fG (rk x.h) 8 K)++r)) _ _;exact Ud rfl (P.at8 hs)
theorem PL {K:List Pc} {x:Ex} (P:Prs i K x):Prs i (wd ⟨#[110,111,116]⟩ :: sp (fG (rk x.h) 4 K)) (fM ⟨#[110,111,116]⟩ x):=by
 have e0:∀ r,tkl (wd ⟨#[110,111,116]⟩ :: sp (fG (rk x.h) 4 K))++r=⟨1,⟨#[110,111,116]⟩,0⟩ :: (tkl (fG (rk x.h) 4 K)++r):=fun r=>by rw [bT,iP];rfl
 have op:∀ (least:Nat) (r:List Tk) (z:Ex) (r':List Tk),rnk least≤rk (fM ⟨#[110,111,116]⟩ x).h→Stp r→NoOp (tpR (rk (fM ⟨#[110,111,116]⟩ x).h)) r→Lo i (.tl least (tpR (rk (fM ⟨#[110,111,116]⟩ x).h)) (fM ⟨#[110,111,116]⟩ x)) r z r' →
     Lo i (.op least) (tkl (wd ⟨#[110,111,116]⟩ :: sp (fG (rk x.h) 4 K))++r) z r':=by
   intro least r z r' hl hs hn e
   rw [e0]
   have h3:least≤3:=by
     have hl:rnk least≤4:=hl
     unfold rnk at hl
     split at hl <;> omega
   have hn:NoOp 3 r:=hn
   have t3:3≤tpq (rk x.h) 4:=by
     unfold tpq tpR
     repeat (first | omega | split)
   refine Uc h3 rfl (P.at 4 3 (by decide) hs (hn.mono t3) (BH (Aq _ _) hn)) e
 exact ⟨fun r hF=>uQ (by show (1:Int)≤4;decide) (fun r=>by rw [e0];rfl) op r hF,op,fun h=>absurd h (by show ¬ (8:Int)≤4;decide),fun _ r=>by rw [e0];rfl,fun e=>by cases e⟩
theorem LU {K:List Pc} {x:Ex} (P:Prs i K x):Prs i (wd ⟨#[110,117,108,108]⟩ :: sg ⟨#[40]⟩ :: (K++[sg ⟨#[41]⟩])) (fM ⟨#[110,117,108,108]⟩ x):=by
 refine ku rfl (fun r=>rfl) (fun r=>rfl) (fun r=>rfl) (fun r hs=>?_) (fun e=>by cases e);have e0:tkl (wd ⟨#[110,117,108,108]⟩ :: sg ⟨#[40]⟩ :: (K++[sg ⟨#[41]⟩]))++r=⟨1,⟨#[110,117,108,108]⟩,0⟩ :: ⟨5,⟨#[40]⟩,0⟩ :: (tkl K++(⟨5,⟨#[41]⟩,0⟩ :: r)):=by
  rw [bT,bT,dU,L_g,L_g,L_i];rfl
 rw [e0];exact Qx 0 (Ht (r:=⟨5,⟨#[41]⟩,0⟩ :: r) rfl (P.ex _ (nP r)) rfl)
theorem Td {K1 K2 K3:List Pc} {a b c:Ex} (A:Prs i K1 a) (B:Prs i K2 b) (C:Prs i K3 c):Prs i (wd ⟨#[105,102]⟩ :: (sp K1++(bw ⟨#[116,104,101,110]⟩ :: (sp K2++(bw ⟨#[101,108,115,101]⟩ :: sp K3))))) (ifE a b c):=by
 refine ⟨fun r hF=>?_,fun least r z r' hl=>?_,fun h=>absurd h (by show ¬ (8:Int)≤0;decide),fun h=>absurd h (by show ¬ (1:Int)≤0;decide),fun e=>by cases e⟩
 ·have e0:tkl (wd ⟨#[105,102]⟩ :: (sp K1++(bw ⟨#[116,104,101,110]⟩ :: (sp K2++(bw ⟨#[101,108,115,101]⟩ :: sp K3)))))++r=⟨1,⟨#[105,102]⟩,0⟩ :: (tkl K1++(⟨1,⟨#[116,104,101,110]⟩,0⟩ :: (tkl K2++(⟨1,⟨#[101,108,115,101]⟩,0⟩ :: (tkl K3++r))))):=by
   rw [bT,dU,bT,dU,bT,iP,iP,iP];simp only [L_g,L_i];rfl
  rw [e0];exact Wq (r:=⟨1,⟨#[116,104,101,110]⟩,0⟩ :: (tkl K2++(⟨1,⟨#[101,108,115,101]⟩,0⟩ :: (tkl K3++r)))) (r1:=⟨1,⟨#[101,108,115,101]⟩,0⟩ :: (tkl K3++r)) rfl (A.ex _ (Nf _)) rfl (B.ex _ (Nh _)) rfl (C.ex r hF)
 exfalso;have h1:=Pz least;have hl:rnk least≤0:=hl;omega
theorem PS {op t:ByteArray} {p wk ws:Int} (ht:name t=true) (hp:iG op p=true) (hw:jd wk ws=true) {K:List Ok'} {a c:Ex} (hc:op=⟨#[99,111,117,110,116]⟩→bY a.h=true) (A:Prs true (okK K 0) a) (C:Prs true (okK K 1) c) (hC:(ok' K 1).2=c.h) :
    Prs false (agK { h0 with k:=5,op:=op,tb:=t,pa:=p,wk:=wk,ws:=ws } K) (Db op t p (wk,ws) a c):=by
 obtain ⟨_,_,_,_,_,_,n1,n2,n3⟩:=Vg hp;have hh:∀ r,tkl (agK { h0 with k:=5,op:=op,tb:=t,pa:=p,wk:=wk,ws:=ws } K)++r=⟨1,op,0⟩ :: ⟨5,⟨#[40]⟩,0⟩ :: ⟨1,t,0⟩ :: (tkl (if op=⟨#[99,111,117,110,116]⟩ then [] else sg ⟨#[44]⟩ :: sp (okK K 0))++(tkl (if op=⟨#[113,117,97,110,116,105,108,101]⟩∨op=⟨#[100,101,99,97,121]⟩ then [sg ⟨#[44]⟩,nuK p] else [])++(⟨5,⟨#[44]⟩,0⟩ :: (tkl (wiK wk ws)++(tkl (if bY (ok' K 1).2=true then [] else bw ⟨#[119,104,101,114,101]⟩ :: sp (okK K 1))++(⟨5,⟨#[41]⟩,0⟩ :: r)))))):=by
  intro r;unfold agK;simp only [bT,dU,iP,L_g,L_i];rfl
 refine ku rfl (fun r=>?_) (fun r=>?_) (fun r=>?_) (fun r hs=>?_) (fun e=>by cases e)
 ·rw [hh,iZ,dF n3]
 ·rw [hh,iZ,dF n2]
 ·rw [hh,iZ,dF n1]
 rw [hh];have e3:∃ l2,(tkl (if bY (ok' K 1).2=true then [] else bw ⟨#[119,104,101,114,101]⟩ :: sp (okK K 1))++(⟨5,⟨#[41]⟩,0⟩ :: r))=l2∧((l2=⟨5,⟨#[41]⟩,0⟩ :: r∧c=bX 1∧isT ⟨#[119,104,101,114,101]⟩ (⟨5,⟨#[41]⟩,0⟩ :: r)=false)∨(isT ⟨#[119,104,101,114,101]⟩ l2=true∧Lo true .ex l2.tail c (⟨5,⟨#[41]⟩,0⟩ :: r))):=by
  rw [hC]
  cases hq:bY c.h with
  | true=>exact ⟨_,rfl,.inl ⟨rfl,C.tru hq,rfl⟩⟩
  | false =>
    refine ⟨_,rfl,.inr ⟨by rw [if_neg (by decide),bT];rfl,?_⟩⟩
    rw [if_neg (by decide),bT,iP]
    exact C.ex _ (nP r)
 obtain ⟨l2,hl2,e3⟩:=e3;rw [hl2];by_cases hq:op=⟨#[99,111,117,110,116]⟩
 ·have hqd:¬ (op=⟨#[113,117,97,110,116,105,108,101]⟩∨op=⟨#[100,101,99,97,121]⟩):=by rw [hq];decide
  rw [if_pos hq,if_neg hqd];exact J2 hp 0 (N7 (l:=tkl (wiK wk ws)++l2) (l1:=tkl (wiK wk ws)++l2) (l3:=⟨5,⟨#[41]⟩,0⟩ :: r) ht hw hp (.inl ⟨hq,rfl,A.tru (hc hq)⟩) (by rw [if_neg hqd];rfl) e3 rfl)
 rw [if_neg hq]
 have e1:tkl (sg ⟨#[44]⟩ :: sp (okK K 0))++(tkl (if op=⟨#[113,117,97,110,116,105,108,101]⟩∨op=⟨#[100,101,99,97,121]⟩ then [sg ⟨#[44]⟩,nuK p] else [])++(⟨5,⟨#[44]⟩,0⟩ :: (tkl (wiK wk ws)++l2))) =
     ⟨5,⟨#[44]⟩,0⟩ :: (tkl (okK K 0)++(⟨5,⟨#[44]⟩,0⟩ :: ((if op=⟨#[113,117,97,110,116,105,108,101]⟩∨op=⟨#[100,101,99,97,121]⟩ then [⟨2,⟨(Lib.itoa p).toArray⟩,0⟩,⟨5,⟨#[44]⟩,0⟩] else [])++(tkl (wiK wk ws)++l2)))):=by
   rw [bT,iP]
   split <;> rfl
 rw [e1];exact J2 hp 0 (N7 (l3:=⟨5,⟨#[41]⟩,0⟩ :: r) ht hw hp (.inr ⟨hq,A.ex _ (KH _)⟩) rfl e3 rfl)
theorem ER {h:Hd} {n:Nat} (N:Nod i g h n) (G:Prss (i || decide (h.k=5)) K F) (hn:F.len=n) (hg:g=(F.nth 0).h):Prs i (qZ h K) ⟨h,F⟩:=by
 cases N with
 | boo n e =>
   rw [len_nil hn]
   refine ku rfl (fun r=>?_) (fun r=>?_) (fun r=>?_) (fun r _=>Uh e 0) (fun ht=>?_)
   iterate 3 rcases e with rfl | rfl <;> rfl
   rcases e with rfl | rfl
   · cases ht
   · rfl
 | num k n u hk h0 h1 hu =>
   rw [len_nil hn]
   rcases hk with rfl | rfl
   · exact ku rfl (fun r=>rfl) (fun r=>rfl) (fun r=>rfl) (fun r hs=>Uf h0 h1 (rZ hu hs.sq) 0) (fun ht=>by cases ht)
   · exact ku rfl (fun r=>rfl) (fun r=>rfl) (fun r=>rfl) (fun r hs=>Ug h0 h1 (rZ hu hs.sq) 0) (fun ht=>by cases ht)
 | tex s h1 h2 =>
   rw [len_nil hn]
   exact ku rfl (fun r=>rfl) (fun r=>rfl) (fun r=>rfl) (fun r hs=>Qw s 0) (fun ht=>by cases ht)
 | key m s hm h0 h1 h2 =>
   rw [len_nil hn]
   exact ku rfl (fun r=>rfl) (fun r=>rfl) (fun r=>rfl) (fun r hs=>Ue hm (of_decide_eq_true (Tw h0 h1 h2)) 0 0 0) (fun ht=>by cases ht)
 | fie m hi hm =>
   rw [len_nil hn,hi]
   exact Jr hm rfl rfl fun r _=>MB hm 0
 | fea m hi hm =>
   rw [len_nil hn,hi]
   exact Jr hm rfl rfl fun r hs=>JY hm 0 (QA hm 0 hs.of)
 | loo m hi hm =>
   rw [BU i (by show ¬ (4:Int)=5;decide),hi] at G
   rw [hi]
   have A:=(G 0 (by omega)).1
   have e:(⟨{ h0 with k:=4,nm:=m },F⟩:Ex)=uF m (F.nth 0):=by unfold uF;rw [← yA hn]
   rw [e]
   exact PO hm A
 | agg op t p wk ws hi ht hp hw hc =>
   rw [hi,show (false || decide (({ h0 with k:=5,op:=op,tb:=t,pa:=p,wk:=wk,ws:=ws } : Hd).k=5))=true from rfl] at G
   rw [hi]
   obtain ⟨A,_⟩:=G 0 (by omega)
   obtain ⟨C,hC⟩:=G 1 (by omega)
   have e:(⟨{ h0 with k:=5,op:=op,tb:=t,pa:=p,wk:=wk,ws:=ws },F⟩:Ex)=Db op t p (wk,ws) (F.nth 0) (F.nth 1):=by unfold Db;rw [← sJ hn]
   rw [e]
   exact PS ht hp hw (fun e=>hg ▸ hc e) A C hC
 | una op ho =>
   rw [BU i (by show ¬ (6:Int)=5;decide)] at G
   have A:=(G 0 (by omega)).1
   have hp:=fun q=>G.p (j:=0) (by omega) q
   have e:(⟨{ h0 with k:=6,op:=op },F⟩:Ex)=fM op (F.nth 0):=by unfold fM;rw [← yA hn]
   rw [e]
   rcases ho with rfl | rfl | rfl
   · show Prs i (sg ⟨#[45]⟩ :: okP K 0 8) _
     rw [hp]
     exact PN A
   · show Prs i (wd ⟨#[110,111,116]⟩ :: sp (okP K 0 4)) _
     rw [hp]
     exact PL A
   · exact LU A
 | bin op ho =>
   rw [BU i (by show ¬ (7:Int)=5;decide)] at G
   have A:=(G 0 (by omega)).1
   have B:=(G 1 (by omega)).1
   obtain ⟨⟨n,OF⟩,hd⟩:=Qg ho
   have e:(⟨{ h0 with k:=7,op:=op },F⟩:Ex)=bC op (F.nth 0) (F.nth 1):=by unfold bC;rw [if_neg hd,← sJ hn]
   have eh:(bC op (F.nth 0) (F.nth 1)).h = { h0 with k:=7,op:=op }:=by rw [← e]
   rw [e]
   show Prs i (okP K 0 (lef (rkO op))++(opK op :: sp (okP K 1 (rkO op+1)))) _
   rw [G.p (j:=0) (by omega),G.p (j:=1) (by omega)]
   exact EI OF A B (by rw [eh];rfl) (by rw [eh];rfl)
 | iff =>
   rw [BU i (by show ¬ (8:Int)=5;decide)] at G
   have e:(⟨{ h0 with k:=8 },F⟩:Ex)=ifE (F.nth 0) (F.nth 1) (F.nth 2):=by unfold ifE;rw [← J6 hn]
   rw [e]
   exact Td (G 0 (by omega)).1 (G 1 (by omega)).1 (G 2 (by omega)).1
 | dfl =>
   rw [BU i (by show ¬ (9:Int)=5;decide)] at G
   have e:(⟨{ h0 with k:=9 },F⟩:Ex)=bC ⟨#[100,101,102,97,117,108,116]⟩ (F.nth 0) (F.nth 1):=by unfold bC;rw [if_pos rfl,← sJ hn]
   rw [e]
   show Prs i (okP K 0 1++(bw ⟨#[100,101,102,97,117,108,116]⟩ :: sp (okP K 1 2))) _
   rw [G.p (j:=0) (by omega),G.p (j:=1) (by omega)]
   exact EI Qf (G 0 (by omega)).1 (G 1 (by omega)).1 rfl rfl
theorem uq:∀ (F:Fo) (i:Bool),fmA i F=true→Prss i (xkF F) F
 | .nil,_,_=>fun j hj=>absurd hj (Nat.not_lt_zero _)
 | .cons h ar r,i,e=>by
  obtain ⟨e1,e2,e3⟩:=yH e
  have g:=ER (kF e1) (uq ar _ e2) rfl rfl
  have gr:=uq r i e3
  intro j hj
  cases j with
  | zero=>exact ⟨g,rfl⟩
  | succ j =>
   have:=gr j (by simpa [Fo.len] using hj)
   exact ⟨by simpa [okK,ok',xkF,Fo.nth] using this.1,by simpa [ok',xkF,Fo.nth] using this.2⟩
theorem EJ {i:Bool} {x:Ex} (e:fmE i x=true):Prs i (xkE x) x:=by
 have e':(cO i x.h x.ar.len (x.ar.nth 0).h && fmA (i || decide (x.h.k=5)) x.ar)=true:=e;rw [L_d] at e';exact ER (kF e'.1) (uq x.ar _ e'.2) rfl rfl
theorem Rf (t:ByteArray) (a:Int):Fin' [⟨6,t,a⟩]:=⟨⟨rfl,rfl⟩,fun k _ _=>by unfold opr;rw [List.find?_eq_none.2 fun t _=>by rw [WA (by decide) (by decide)];decide];rfl⟩
theorem ED {e e':Tk} (he:e.k=6) (hk:e'.k=e.k) (ht:e'.t=e.t):∀ {l r:List Tk},l.map kt=r.map kt→pa.SimR (fun _ _=>True) (l++[e]) (r++[e'])
 | [],[],_=>.last he hk ht trivial
 | x :: l,y :: r,h=>by
  rw [L_p,L_p] at h
  obtain ⟨h1,h2⟩:=List.cons.inj h
  obtain ⟨h3,h4⟩:=Prod.mk.inj h1
  exact .cons h3.symm h4.symm trivial (ED he hk ht h2)
 | [],y :: r,h=>by cases h
 | x :: l,[],h=>by cases h
theorem RY (K:List Pc):(tkl K).map kt=K.map (·.2):=by
 unfold tkl;rw [List.map_map];rfl
end ch
section
open Go.RowKit dec
def Fo.sm:Fo→Prop
 | .nil=>True
 | .cons h ar r=>h.un.length≤1048576∧ar.len≤1048576∧ar.sm∧r.sm
def Ex.sm (x:Ex):Prop:=x.h.un.length≤1048576∧x.ar.len≤1048576∧x.ar.sm
theorem sm1 {h:Hd} {x:Ex} (hu:h.un=[]) (hx:x.sm):Ex.sm ⟨h,.cons x.h x.ar .nil⟩:=by
 refine ⟨by rw [hu];decide,by simp [Fo.len],hx.1,hx.2.1,hx.2.2,trivial⟩
theorem sm2 {h:Hd} {x y:Ex} (hu:h.un=[]) (hx:x.sm) (hy:y.sm):Ex.sm ⟨h,.cons x.h x.ar (.cons y.h y.ar .nil)⟩:=by
 refine ⟨by rw [hu];decide,by simp [Fo.len],hx.1,hx.2.1,hx.2.2,hy.1,hy.2.1,hy.2.2,trivial⟩
theorem sm3 {h:Hd} {x y z:Ex} (hu:h.un=[]) (hx:x.sm) (hy:y.sm) (hz:z.sm):Ex.sm ⟨h,.cons x.h x.ar (.cons y.h y.ar (.cons z.h z.ar .nil))⟩:=by
 refine ⟨by rw [hu];decide,by simp [Fo.len],hx.1,hx.2.1,hx.2.2,hy.1,hy.2.1,hy.2.2,hz.1,hz.2.1,hz.2.2,trivial⟩
theorem sm0 {h:Hd} (hu:h.un.length≤1048576):Ex.sm ⟨h,.nil⟩:=⟨hu,by simp [Fo.len],trivial⟩
theorem Ro {op:ByteArray} {x y:Ex} (hx:x.sm) (hy:y.sm):(bC op x y).sm:=by
 unfold bC;split
 ·exact sm2 rfl hx hy
 exact sm2 rfl hx hy
theorem Qq (u:List un.Fa):(un.nL u).length≤4:=by
 unfold un.nL;split
 ·rename_i h;exact (un.Qr h).2.2
 exact Nat.zero_le _
theorem IU {l r:List Tk} {u:List un.Fa} (h:uni l=.ok u r):u.length≤1048576:=by
 unfold uni at h;split at h
 ·obtain ⟨v,q,h1,h2⟩:=bind_ok h;obtain ⟨_,q',h3,h4⟩:=bind_ok h2;split at h4
  ·cases h4;have:=Qq v;omega
  cases h4
 cases h;exact Nat.zero_le _
def Md.sm:Md→Prop
 | .tl _ _ y=>y.sm
 | _=>True
theorem xE (n:Int):(bX n).sm:=sm0 (by simp [h0])
theorem VL:∀ (f:Nat) (i:Bool) (m:Md) (l:List Tk) (x:Ex) (r:List Tk),m.sm→pz f i m l=.ok x r→x.sm:=by
 intro f
 induction f with
 | zero=>intro i m l x r _ h;cases h
 | succ f ih =>
   intro i m l x r hm h
   cases m with
   | ex =>
     simp only [pz] at h
     split at h
     · obtain ⟨a,q1,h1,h⟩:=bind_ok h
       obtain ⟨_,q2,h2,h⟩:=bind_ok h
       obtain ⟨b,q3,h3,h⟩:=bind_ok h
       obtain ⟨_,q4,h4,h⟩:=bind_ok h
       obtain ⟨c,q5,h5,h⟩:=bind_ok h
       cases h
       exact sm3 rfl (ih _ _ _ _ _ (by exact trivial) h1) (ih _ _ _ _ _ (by exact trivial) h3) (ih _ _ _ _ _ (by exact trivial) h5)
     · exact ih _ _ _ _ _ (by exact trivial) h
   | op least =>
     simp only [pz] at h
     split at h
     · obtain ⟨a,q1,h1,h⟩:=bind_ok h
       exact ih _ (.tl _ _ _) _ _ _ (sm1 rfl (ih _ _ _ _ _ (by exact trivial) h1)) h
     · obtain ⟨a,q1,h1,h⟩:=bind_ok h
       exact ih _ (.tl _ _ _) _ _ _ (ih _ _ _ _ _ (by exact trivial) h1) h
   | tl least n y =>
     simp only [pz] at h
     split at h
     · cases h
       exact hm
     · split at h
       · exact ih _ (.tl _ (n - 1) y) _ _ _ (by exact hm) h
       · obtain ⟨a,q1,h1,h⟩:=bind_ok h
         exact ih _ (.tl _ _ _) _ _ _ (Ro hm (ih _ _ _ _ _ (by exact trivial) h1)) h
   | ng =>
     simp only [pz] at h
     split at h
     · obtain ⟨a,q1,h1,h⟩:=bind_ok h
       cases h
       exact sm1 rfl (ih _ _ _ _ _ (by exact trivial) h1)
     · exact ih _ _ _ _ _ (by exact trivial) h
   | pa =>
     simp only [pz] at h
     obtain ⟨_,q1,h1,h⟩:=bind_ok h
     obtain ⟨a,q2,h2,h⟩:=bind_ok h
     obtain ⟨_,q3,h3,h⟩:=bind_ok h
     cases h
     exact ih _ _ _ _ _ (by exact trivial) h2
   | rf =>
     simp only [pz] at h
     obtain ⟨n,q1,h1,h⟩:=bind_ok h
     split at h
     · obtain ⟨a,q2,h2,h⟩:=bind_ok h
       cases h
       exact sm1 rfl (ih _ _ _ _ _ (by exact trivial) h2)
     · cases h
       exact sm0 (by simp [h0])
   | ag =>
     simp only [pz] at h
     obtain ⟨op,q1,h1,h⟩:=bind_ok h
     obtain ⟨_,q2,h2,h⟩:=bind_ok h
     obtain ⟨t,q3,h3,h⟩:=bind_ok h
     obtain ⟨_,q4,h4,h⟩:=bind_ok h
     obtain ⟨a,q5,h5,h⟩:=bind_ok h
     have g5:a.sm:=by
       split at h5
       · cases h5;exact xE 1
       · obtain ⟨_,p1,k1,h5⟩:=bind_ok h5
         obtain ⟨_,p2,k2,h5⟩:=bind_ok h5
         cases h5
         exact ih _ _ _ _ _ (by exact trivial) k1
     obtain ⟨n,q6,h6,h⟩:=bind_ok h
     obtain ⟨w,q7,h7,h⟩:=bind_ok h
     obtain ⟨b,q8,h8,h⟩:=bind_ok h
     have g8:b.sm:=by
       split at h8
       · exact ih _ _ _ _ _ (by exact trivial) h8
       · cases h8;exact xE 1
     obtain ⟨_,q9,h9,h⟩:=bind_ok h
     cases h
     exact sm2 rfl g5 g8
   | pr =>
     simp only [pz] at h
     split at h
     · obtain ⟨n,q1,h1,h⟩:=bind_ok h
       obtain ⟨u,q2,h2,h⟩:=bind_ok h
       cases h
       exact sm0 (IU h2)
     split at h
     · obtain ⟨n,q1,h1,h⟩:=bind_ok h
       obtain ⟨u,q2,h2,h⟩:=bind_ok h
       cases h
       exact sm0 (IU h2)
     split at h
     · obtain ⟨n,q1,h1,h⟩:=bind_ok h
       cases h
       exact sm0 (by simp [h0])
     split at h
     · cases h;exact xE 1
     split at h
     · cases h;exact xE 0
     split at h
     · obtain ⟨n,q,h1,h2⟩:=bind_ok h
       obtain ⟨s,q',h3,h4⟩:=bind_ok h2
       split at h4
       · cases h4
         exact sm0 (by simp [h0])
       · cases h4
     split at h
     · obtain ⟨n,q1,h1,h⟩:=bind_ok h
       cases h
       exact sm1 rfl (ih _ _ _ _ _ (by exact trivial) h1)
     split at h
     · exact ih _ _ _ _ _ (by exact trivial) h
     split at h
     · obtain ⟨n,q1,h1,h⟩:=bind_ok h
       cases h
       exact sm0 (by simp [h0])
     split at h
     · exact ih _ _ _ _ _ (by exact trivial) h
     · exact ih _ _ _ _ _ (by exact trivial) h
end
end Go.Proofs.YtbahfelnbofjjaaGreatDoor
