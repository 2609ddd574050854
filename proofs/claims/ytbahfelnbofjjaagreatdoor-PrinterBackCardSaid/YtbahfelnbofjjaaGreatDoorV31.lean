/-
  Tokens that differ in their offsets alone are read alike; More steps change no answer; what is read depends on the tokens that are read and on the one behind them; What the parser reads from the pieces of an expression of proper form: this expression; The parser's steps, with as many steps as it takes; Every expression of proper form is read back from its pieces.
-/
import Derived.Test.YtbahfelnbofjjaaGreatDoorV30
set_option maxRecDepth 100000
set_option maxHeartbeats 16000000
namespace Go.Proofs.YtbahfelnbofjjaaGreatDoor
namespace pa
open Go.RowKit dec
inductive SimR (R:Int→Int→Prop):List Tk→List Tk→Prop where
 | last {x y:Tk} (hk:x.k=6) (hy:y.k=x.k) (ht:y.t=x.t) (ha:R x.a y.a):SimR R [x] [y]
 | cons {x y:Tk} {l r:List Tk} (hk:y.k=x.k) (ht:y.t=x.t) (ha:R x.a y.a) (h:SimR R l r):SimR R (x :: l) (y :: r)
theorem SimR.hk {R:Int→Int→Prop} {l r:List Tk} (h:SimR R l r):(hd r).k=(hd l).k:=by
 cases h with
 | last hk hy ht ha=>exact hy
 | cons hk ht ha h=>exact hk
theorem SimR.ht {R:Int→Int→Prop} {l r:List Tk} (h:SimR R l r):(hd r).t=(hd l).t:=by
 cases h with
 | last hk hy ht ha=>exact ht
 | cons hk ht ha h=>exact ht
theorem SimR.ha {R:Int→Int→Prop} {l r:List Tk} (h:SimR R l r):R (hd l).a (hd r).a:=by
 cases h with
 | last hk hy ht ha=>exact ha
 | cons hk ht ha h=>exact ha
theorem SimR.len {R:Int→Int→Prop} {l r:List Tk} (h:SimR R l r):r.length=l.length:=by
 induction h with
 | last hk hy ht ha=>rfl
 | cons hk ht ha h ih=>simp only [List.length_cons,ih]
theorem SimR.tail {R:Int→Int→Prop} {l r:List Tk} (h:SimR R l r) (h6:(hd l).k≠6):SimR R l.tail r.tail:=by
 cases h with
 | last hk hy ht ha=>exact absurd hk h6
 | cons hk ht ha h=>exact h
theorem SimR.sT {R:Int→Int→Prop} {l r:List Tk} (h:SimR R l r) (s:ByteArray):isT s r=isT s l:=by
 unfold Go.Proofs.YtbahfelnbofjjaaGreatDoor.isT;rw [h.hk,h.ht]
theorem SimR.of {R:Int→Int→Prop} {l r:List Tk} (h:SimR R l r) {s:ByteArray} (hs:isT s l=true):SimR R l.tail r.tail:=h.tail (II hs)
inductive RSim {α:Type} (R:Int→Int→Prop):Rs α→Rs α→Prop where
 | out:RSim R .out .out
 | ok (v:α) {l r:List Tk} (h:SimR R l r):RSim R (.ok v l) (.ok v r)
 | no {a b:Int} (c:Int) {l r:List Tk} (ha:R a b) (h:SimR R l r):RSim R (.no a c l) (.no b c r)
theorem RSim.bind {α β:Type} {R:Int→Int→Prop} {x y:Rs α} {g k:α→List Tk→Rs β} (h:RSim R x y) (hg:∀ v l r,SimR R l r→RSim R (g v l) (k v r)):RSim R (x.bind g) (y.bind k):=by
 cases h with
 | out=>exact .out
 | ok v h=>exact hg v _ _ h
 | no c ha h=>exact .no c ha h
section
variable {R:Int→Int→Prop}
theorem mG {α:Type} {l r:List Tk} (h:SimR R l r):RSim R (wrg l:Rs α) (wrg r):=.no 90 h.ha h
theorem fE {s:ByteArray} {l r:List Tk} (h:SimR R l r):RSim R (need s l) (need s r):=by
 unfold need;rw [h.sT];split
 ·rename_i t;exact .ok () (h.of t)
 exact mG h
theorem kQ {k:Int} (hk:k≠6) {l r:List Tk} (h:SimR R l r):RSim R (tak k l) (tak k r):=by
 unfold tak;rw [h.hk,h.ht];split
 ·rename_i t;exact .ok _ (h.tail (by rw [t];exact hk))
 exact mG h
theorem kW {l r:List Tk} (h:SimR R l r):RSim R (nam l) (nam r):=by
 unfold nam;rw [h.ht];split
 ·exact kQ (by decide) h
 exact mG h
theorem Np {s:ByteArray} {l r:List Tk} (h:SimR R l r):RSim R (nma s l) (nma s r):=(fE h).bind fun _ _ _ h=>kW h
theorem nu {l r:List Tk} (h:SimR R l r):RSim R (int l) (int r):=(kQ (by decide) h).bind fun _ _ _ h=>.ok _ h
theorem KZ {l r:List Tk} (h:SimR R l r):RSim R (mq l) (mq r):=(kQ (by decide) h).bind fun _ _ _ h=>.ok _ h
theorem Oa {l r:List Tk} (h:SimR R l r):RSim R (fac l) (fac r):=by
 refine (kW h).bind fun n l r h=>?_;rw [h.sT];split
 ·rename_i t;have h1:=h.of t;rw [h1.sT];split
  ·rename_i t1;exact (nu (h1.of t1)).bind fun _ _ _ h=>.ok _ h
  exact (nu h1).bind fun _ _ _ h=>.ok _ h
 exact .ok _ h
theorem zQ {α:Type} {one:List Tk→Rs α} {s:ByteArray} (h1:∀ {l r:List Tk},SimR R l r→RSim R (one l) (one r)):∀ (f:Nat) (x:List α) {l r:List Tk},SimR R l r→RSim R (more one s f x l) (more one s f x r)
 | 0,_,_,_,_=>.out
 | f+1,x,l,r,h=>by
  unfold more
  rw [h.sT]
  split
  ·rename_i t
   exact (h1 (h.of t)).bind fun y l r h=>zQ h1 f _ h
  ·exact .ok _ h
theorem NA {α:Type} {one:List Tk→Rs α} {s:ByteArray} (h1:∀ {l r:List Tk},SimR R l r→RSim R (one l) (one r)) {l r:List Tk} (h:SimR R l r):RSim R (lst one s l) (lst one s r) :=
 (h1 h).bind fun y l r h=>by rw [h.len];exact zQ h1 _ _ h
theorem pW {l r:List Tk} (h:SimR R l r):RSim R (uni l) (uni r):=by
 unfold uni;rw [h.sT];split
 ·rename_i t;refine (NA Oa (h.of t)).bind fun u l' r' h' => (fE h').bind fun _ l' r' h' => ?_;split
  ·exact .ok _ h'
  exact .no _ h.ha h'
 exact .ok _ h
theorem Mg {l r:List Tk} (h:SimR R l r):RSim R (typ l) (typ r):=by
 unfold typ;simp only [h.sT];split
 ·rename_i t;exact .ok _ (h.of t)
 split
 ·rename_i t;exact .ok _ (h.of t)
 split
 ·rename_i t;exact (kW (h.of t)).bind fun _ _ _ h=>.ok _ h
 split
 ·rename_i t;exact (pW (h.of t)).bind fun _ _ _ h=>.ok _ h
 split
 ·rename_i t;exact (pW (h.of t)).bind fun _ _ _ h=>.ok _ h
 exact mG h
theorem LZ {l r:List Tk} (h:SimR R l r):RSim R (win l) (win r):=by
 unfold win;simp only [h.sT];split
 ·rename_i t;exact .ok _ (h.of t)
 iterate 3
   split
   · rename_i t;exact (nu (h.of t)).bind fun _ _ _ h=>.ok _ h
 exact mG h
theorem NT {l r:List Tk} (h:SimR R l r):RSim R (key l) (key r):=by
 refine (Np h).bind fun n l r h=>(kQ (by decide) h).bind fun s l' r' h' => ?_;split
 ·exact .ok _ h'
 exact .no _ h.ha h'
theorem Na {n:Nat} {l r:List Tk} (h:SimR R l r):opr n r=opr n l:=by
 unfold opr;rw [show (fun s=>isT s r)=fun s=>isT s l from funext fun s=>h.sT s]
theorem PW:∀ (f:Nat) (i:Bool) (m:Md) {l r:List Tk},SimR R l r→RSim R (pz f i m l) (pz f i m r):=by
 intro f
 induction f with
 | zero=>intro i m l r _;exact .out
 | succ f ih =>
   intro i m l r h
   cases m with
   | ex =>
     simp only [pz,h.sT]
     split
     · rename_i t
       exact (ih _ _ (h.of t)).bind fun _ _ _ h=>(fE h).bind fun _ _ _ h=>(ih _ _ h).bind fun _ _ _ h=>(fE h).bind fun _ _ _ h=>(ih _ _ h).bind fun _ _ _ h=>.ok _ h
     · exact ih _ _ h
   | op least =>
     simp only [pz,h.sT]
     split
     · rename_i t
       exact (ih _ _ (h.of t.2)).bind fun _ _ _ h=>ih _ _ h
     · exact (ih _ _ h).bind fun _ _ _ h=>ih _ _ h
   | tl least n y =>
     simp only [pz,Na h]
     split
     · exact .ok _ h
     · split
       · exact ih _ _ h
       · rename_i t
         exact (ih _ _ (h.of (zL t))).bind fun _ _ _ h=>ih _ _ h
   | ng =>
     simp only [pz,h.sT]
     split
     · rename_i t
       exact (ih _ _ (h.of t)).bind fun _ _ _ h=>.ok _ h
     · exact ih _ _ h
   | pa =>
     simp only [pz]
     exact (fE h).bind fun _ _ _ h=>(ih _ _ h).bind fun _ _ _ h=>(fE h).bind fun _ _ _ h=>.ok _ h
   | rf =>
     simp only [pz]
     refine (kW h).bind fun n l r h=>?_
     rw [h.sT]
     split
     · rename_i t
       exact (ih _ _ (h.of t)).bind fun _ _ _ h=>.ok _ h
     · exact .ok _ h
   | ag =>
     simp only [pz]
     refine (kQ (by decide) h).bind fun op _ _ h=>(fE h).bind fun _ _ _ h=>(kW h).bind fun t _ _ h=>(fE h).bind fun _ l r h=>RSim.bind (x:=if op=⟨#[99,111,117,110,116]⟩ then .ok (cu 1) l else _) (y:=if op=⟨#[99,111,117,110,116]⟩ then .ok (cu 1) r else _) ?_ fun x l r h=>RSim.bind (x:=if op=⟨#[113,117,97,110,116,105,108,101]⟩∨op=⟨#[100,101,99,97,121]⟩ then _ else .ok 0 l) (y:=if op=⟨#[113,117,97,110,116,105,108,101]⟩∨op=⟨#[100,101,99,97,121]⟩ then _ else .ok 0 r) ?_ fun p l r h=>(LZ h).bind fun w l r h=>RSim.bind (x:=if isT ⟨#[119,104,101,114,101]⟩ l=true then _ else _) (y:=if isT ⟨#[119,104,101,114,101]⟩ r=true then _ else _) ?_ fun y l r h=>(fE h).bind fun _ _ _ h=>.ok _ h
     · split
       · exact .ok _ h
       · exact (ih _ _ h).bind fun _ _ _ h=>(fE h).bind fun _ _ _ h=>.ok _ h
     · split
       · exact (nu h).bind fun _ _ _ h=>(fE h).bind fun _ _ _ h=>.ok _ h
       · exact .ok _ h
     · rw [h.sT]
       split
       · rename_i t;exact ih _ _ (h.of t)
       · exact .ok _ h
   | pr =>
     simp only [pz,h.sT,h.hk,h.ht]
     split
     · exact (nu h).bind fun _ _ _ h=>(pW h).bind fun _ _ _ h=>.ok _ h
     split
     · exact (KZ h).bind fun _ _ _ h=>(pW h).bind fun _ _ _ h=>.ok _ h
     split
     · exact (kQ (by decide) h).bind fun _ _ _ h=>.ok _ h
     split
     · rename_i t;exact .ok _ (h.of t)
     split
     · rename_i t;exact .ok _ (h.of t)
     split
     · exact NT h
     split
     · rename_i t;exact (ih _ _ (h.of t)).bind fun _ _ _ h=>.ok _ h
     split
     · exact ih _ _ h
     split
     · exact (kW h).bind fun _ _ _ h=>.ok _ h
     split
     · exact ih _ _ h
     · exact ih _ _ h
theorem Oe {l r:List Tk} (h:SimR R l r):RSim R (exR l) (exR r):=by
 unfold exR;rw [h.len];exact PW _ _ _ h
end
def RM {α:Type} (x y:Rs α):Prop:=x≠.out→y=x
theorem RM.refl {α:Type} (x:Rs α):RM x x:=fun _=>rfl
theorem RM.bind {α β:Type} {x y:Rs α} {g k:α→List Tk→Rs β} (h:RM x y) (hg:∀ v q,RM (g v q) (k v q)):RM (x.bind g) (y.bind k):=by
 intro hn;rw [h (bK hn)]
 cases x with
 | out=>exact absurd rfl hn
 | ok v q=>exact hg v q hn
 | no a c q=>rfl
theorem MJ {f g:Nat} (ih:∀ i m l,RM (pz f i m l) (pz g i m l)) (i:Bool) (m:Md) (l:List Tk):RM (pz (f+1) i m l) (pz (g+1) i m l):=by
 cases m with
 | ex =>
   simp only [pz]
   split
   · exact (ih _ _ _).bind fun _ _=>(RM.refl _).bind fun _ _=>(ih _ _ _).bind fun _ _=>(RM.refl _).bind fun _ _=>(ih _ _ _).bind fun _ _=>RM.refl _
   · exact ih _ _ _
 | op least =>
   simp only [pz]
   split
   · exact (ih _ _ _).bind fun _ _=>ih _ _ _
   · exact (ih _ _ _).bind fun _ _=>ih _ _ _
 | tl least n y =>
   simp only [pz]
   split
   · exact RM.refl _
   · split
     · exact ih _ _ _
     · exact (ih _ _ _).bind fun _ _=>ih _ _ _
 | ng =>
   simp only [pz]
   split
   · exact (ih _ _ _).bind fun _ _=>RM.refl _
   · exact ih _ _ _
 | pa =>
   simp only [pz]
   exact (RM.refl _).bind fun _ _=>(ih _ _ _).bind fun _ _=>(RM.refl _).bind fun _ _=>RM.refl _
 | rf =>
   simp only [pz]
   refine (RM.refl _).bind fun n r=>?_
   split
   · exact (ih _ _ _).bind fun _ _=>RM.refl _
   · exact RM.refl _
 | ag =>
   simp only [pz]
   refine (RM.refl _).bind fun op _=>(RM.refl _).bind fun _ _=>(RM.refl _).bind fun t _=>(RM.refl _).bind fun _ l=>RM.bind ?_ fun x l=>(RM.refl _).bind fun p l=>(RM.refl _).bind fun w l=>RM.bind ?_ fun y l=>RM.refl _
   · split
     · exact RM.refl _
     · exact (ih _ _ _).bind fun _ _=>RM.refl _
   · split
     · exact ih _ _ _
     · exact RM.refl _
 | pr =>
   simp only [pz]
   split
   · exact RM.refl _
   split
   · exact RM.refl _
   split
   · exact RM.refl _
   split
   · exact RM.refl _
   split
   · exact RM.refl _
   split
   · exact RM.refl _
   split
   · exact (ih _ _ _).bind fun _ _=>RM.refl _
   split
   · exact ih _ _ _
   split
   · exact RM.refl _
   split
   · exact ih _ _ _
   · exact ih _ _ _
theorem ER:∀ (f g:Nat),f≤g→∀ i m l,RM (pz f i m l) (pz g i m l)
 | 0,_,_,_,_,_=>fun h=>absurd rfl h
 | f+1,0,h,_,_,_=>by omega
 | f+1,g+1,h,i,m,l=>MJ (ER f g (by omega)) i m l
theorem PV {f g:Nat} {i:Bool} {m:Md} {l:List Tk} (h1:pz f i m l≠.out) (h2:pz g i m l≠.out):pz f i m l=pz g i m l:=by
 rcases Nat.le_total f g with h | h
 ·exact (ER f g h i m l h1).symm
 exact ER g f h i m l h2
def Stp (l:List Tk):Prop:=((hd l).k=6∧(hd l).t=.empty)∨((hd l).k=5∧(hd l).t=⟨#[41]⟩)∨((hd l).k=5∧(hd l).t=⟨#[59]⟩)
section
variable {t1 t2:List Tk}
end
end pa
namespace ch
open Go.RowKit dec
def tkl (K:List Pc):List Tk:=K.map tk0
theorem fV (a b:List Pc):tkl (a++b)=tkl a++tkl b:=List.map_append ..
theorem dG (p:Pc) (b:List Pc):tkl (p :: b)=tk0 p :: tkl b:=rfl
theorem j6 (K:List Pc):tkl (sp K)=tkl K:=by cases K <;> rfl
theorem kL (s t:ByteArray) (a:Int) (r:List Tk):isT s (⟨1,t,a⟩ :: r)=decide (t=s):=by unfold isT hd;simp
theorem nY (s t:ByteArray) (a:Int) (r:List Tk):isT s (⟨5,t,a⟩ :: r)=decide (t=s):=by unfold isT hd;simp
theorem SQ {k:Int} (h1:k≠1) (h5:k≠5) (s t:ByteArray) (a:Int) (r:List Tk):isT s (⟨k,t,a⟩ :: r)=false:=by unfold isT hd;simp [h1,h5]
theorem nt {b:Bool} (h:b=false):¬ b=true:=by rw [h];decide
theorem kR (k:Int) (t:ByteArray) (a:Int) (r:List Tk):tak k (⟨k,t,a⟩ :: r)=.ok t r:=by unfold tak hd;simp
theorem jR {m:ByteArray} (h:name m=true) (a:Int) (r:List Tk):nam (⟨1,m,a⟩ :: r)=.ok m r:=by
 unfold nam;rw [if_pos (show name (hd (⟨1,m,a⟩ :: r)).t=true from h)];exact kR ..
theorem fF {s:ByteArray} {l:List Tk} (h:isT s l=true):need s l=.ok () l.tail:=by unfold need;rw [if_pos h]
theorem jU {n:Int} (h1:0≤n) (h2:n≤1152921504606846976) (a:Int) (r:List Tk):int (⟨2,⟨(Lib.itoa n).toArray⟩,a⟩ :: r)=.ok n r:=by
 unfold int;rw [kR];show Rs.ok (jK (Lib.itoa n).toArray.toList) r=_;rw [show (Lib.itoa n).toArray.toList=Lib.itoa n from rfl,JL (by omega) (by omega)]
theorem K4 {n:Int} (h1:0≤n) (h2:n≤1152921504606846976) (a:Int) (r:List Tk):mq (⟨3,⟨(foX n).toArray⟩,a⟩ :: r)=.ok n r:=by
 unfold mq;rw [kR];show Rs.ok (paX (foX n).toArray.toList) r=_;rw [show (foX n).toArray.toList=foX n from rfl,(Ll (by omega) (by omega)).1]
theorem OI {n:Int} (h1 : -8≤n) (h2:n≤8):IntKind.i64.wrap n=n:=by rw [IntKind.wrap_i64];omega
theorem DV {x:un.Fa} (hn:name x.1=true) (h1 : -8≤x.2) (h2:x.2≤8) {r:List Tk} (hr:isT ⟨#[94]⟩ r=false):fac (tkl (faK x)++r)=.ok x r:=by
 obtain ⟨m,e⟩:=x;unfold fac;have e0:tkl (faK (m,e))++r=⟨1,m,0⟩ :: (tkl (if e=1 then [] else sg ⟨#[94]⟩ :: ((if e<0 then [sg ⟨#[45]⟩] else [])++[(false,2,⟨(Lib.decDigits e.natAbs).toArray⟩)]))++r):=rfl;rw [e0,jR hn];by_cases q1:e=1
 ·subst q1;rw [if_pos rfl];show (if isT ⟨#[94]⟩ r=true then _ else Rs.ok (m,1) r)=_;rw [if_neg (nt hr)]
 rw [if_neg q1];have hd:Lib.decDigits e.natAbs=Lib.itoa (e.natAbs:Nat):=by unfold Lib.itoa;rw [if_neg (by omega)];rfl
 rw [hd];by_cases q2:e<0
 ·rw [if_pos q2];show (int (⟨2,⟨(Lib.itoa (e.natAbs:Nat)).toArray⟩,0⟩ :: r)).bind (fun x r=>(Rs.ok (m,IntKind.i64.wrap (-1 * min x 1099511627776)) r:Rs un.Fa))=Rs.ok (m,e) r;rw [jU (by omega) (by omega)];show Rs.ok (m,IntKind.i64.wrap (-1 * min ((e.natAbs:Nat):Int) 1099511627776)) r=_;rw [show -1 * min ((e.natAbs:Nat):Int) 1099511627776=e by omega,OI h1 h2]
 rw [if_neg q2];show (int (⟨2,⟨(Lib.itoa (e.natAbs:Nat)).toArray⟩,0⟩ :: r)).bind (fun x r=>(Rs.ok (m,IntKind.i64.wrap (1 * min x 1099511627776)) r:Rs un.Fa))=Rs.ok (m,e) r;rw [jU (by omega) (by omega)];show Rs.ok (m,IntKind.i64.wrap (1 * min ((e.natAbs:Nat):Int) 1099511627776)) r=_;rw [show 1 * min ((e.natAbs:Nat):Int) 1099511627776=e by omega,OI h1 h2]
theorem DU:∀ (us:List un.Fa) (acc:List un.Fa) (f:Nat) (r:List Tk),(∀ x ∈ us,name x.1=true∧-8≤x.2∧x.2≤8)→us.length<f→isT ⟨#[42]⟩ r=false→isT ⟨#[94]⟩ r=false →
  more fac ⟨#[42]⟩ f acc (tkl (us.map fun y=>sg ⟨#[42]⟩ :: faK y).flatten++r)=.ok (acc++us) r
 | [],acc,f+1,r,_,_,hr,_=>by
  show (if isT ⟨#[42]⟩ r=true then _ else Rs.ok acc r)=_
  rw [if_neg (nt hr),List.append_nil]
 | x :: us,acc,f+1,r,h,hf,hr,hr2=>by
  obtain ⟨a1,a2,a3⟩:=h x (List.mem_cons_self ..)
  have e0:tkl ((x :: us).map fun y=>sg ⟨#[42]⟩ :: faK y).flatten++r=⟨5,⟨#[42]⟩,0⟩ :: (tkl (faK x)++(tkl (us.map fun y=>sg ⟨#[42]⟩ :: faK y).flatten++r)):=by
   rw [List.map_cons,List.flatten_cons,fV,dG,List.cons_append,List.cons_append,List.append_assoc]
   rfl
  rw [e0]
  show (if isT ⟨#[42]⟩ (⟨5,⟨#[42]⟩,0⟩ :: _)=true then (fac (tkl (faK x)++(tkl (us.map fun y=>sg ⟨#[42]⟩ :: faK y).flatten++r))).bind fun y r=>more fac ⟨#[42]⟩ f (acc++[y]) r else _)=_
  have hh:isT ⟨#[94]⟩ (tkl (us.map fun y=>sg ⟨#[42]⟩ :: faK y).flatten++r)=false:=by
   cases us with
   | nil=>exact hr2
   | cons y us=>rfl
  rw [nY,if_pos (by decide),DV a1 a2 a3 hh]
  show more fac ⟨#[42]⟩ f (acc++[x]) _=_
  rw [DU us _ f r (fun y hy=>h y (List.mem_cons_of_mem _ hy)) (by simp at hf;omega) hr hr2,List.append_assoc]
  rfl
theorem N7 (us:List un.Fa) (r:List Tk):us.length≤(tkl (us.map fun y=>sg ⟨#[42]⟩ :: faK y).flatten++r).length:=by
 induction us with
 | nil=>simp
 | cons x us ih =>
   rw [List.map_cons,List.flatten_cons,fV,List.append_assoc,List.length_append]
   have:1≤(tkl (sg ⟨#[42]⟩ :: faK x)).length:=by rw [dG];simp
   simp only [List.length_cons] at *
   omega
theorem pX {u:List un.Fa} (h:Un u) {r:List Tk} (hr:isT ⟨#[91]⟩ r=false):uni (tkl (unK u)++r)=.ok u r:=by
 cases u with
 | nil =>
   show (if isT ⟨#[91]⟩ r=true then _ else Rs.ok [] r)=_
   rw [if_neg (nt hr)]
 | cons x us =>
   have hf:∀ y ∈ x :: us,name y.1=true∧-8≤y.2∧y.2≤8:=fun y hy=>⟨h.n y hy,(pG h hy).1,(pG h hy).2.1⟩
   obtain ⟨a1,a2,a3⟩:=hf x (List.mem_cons_self ..)
   have e0:tkl (unK (x :: us))++r=⟨5,⟨#[91]⟩,0⟩ :: (tkl (faK x)++(tkl (us.map fun y=>sg ⟨#[42]⟩ :: faK y).flatten++(⟨5,⟨#[93]⟩,0⟩ :: r))):=by
     unfold unK
     rw [dG,fV,fV,List.cons_append,List.append_assoc,List.append_assoc]
     rfl
   rw [e0]
   generalize ht:(tkl (us.map fun y=>sg ⟨#[42]⟩ :: faK y).flatten++(⟨5,⟨#[93]⟩,0⟩ :: r))=t
   have hh:isT ⟨#[94]⟩ t=false:=by
     rw [← ht]
     cases us with
     | nil=>rfl
     | cons y us=>rfl
   have hl:us.length<t.length+1:=by have:=N7 us (⟨5,⟨#[93]⟩,0⟩ :: r);rw [ht] at this;omega
   have hm:more fac ⟨#[42]⟩ (t.length+1) [x] t=.ok (x :: us) (⟨5,⟨#[93]⟩,0⟩ :: r):=by
     have:=DU us [x] (t.length+1) (⟨5,⟨#[93]⟩,0⟩ :: r) (fun y hy=>hf y (List.mem_cons_of_mem _ hy)) hl rfl rfl
     rw [ht] at this
     exact this
   show (if isT ⟨#[91]⟩ (⟨5,⟨#[91]⟩,0⟩ :: (tkl (faK x)++t))=true then (lst fac ⟨#[42]⟩ (tkl (faK x)++t)).bind fun u r=>(need ⟨#[93]⟩ r).bind fun _ r=>if un.nE u=0 then .ok (un.nL u) r else .no (hd (⟨5,⟨#[91]⟩,0⟩ :: (tkl (faK x)++t))).a (un.nE u) r else _)=_
   rw [nY,if_pos (by decide)]
   unfold lst
   rw [DV a1 a2 a3 hh]
   show ((more fac ⟨#[42]⟩ (t.length+1) [x] t).bind fun u r=>(need ⟨#[93]⟩ r).bind fun _ r=>if un.nE u=0 then .ok (un.nL u) r else _)=_
   rw [hm]
   show ((need ⟨#[93]⟩ (⟨5,⟨#[93]⟩,0⟩ :: r)).bind fun _ r=>if un.nE (x :: us)=0 then .ok (un.nL (x :: us)) r else _)=_
   rw [fF (by rw [nY];decide)]
   show (if un.nE (x :: us)=0 then Rs.ok (un.nL (x :: us)) r else _)=_
   rw [if_pos (un.Qv h.o).1,(un.Qv h.o).2]
theorem jF {m w:ByteArray} (h:name m=true) (hw:name w=false) (a:Int) (r:List Tk):isT w (⟨1,m,a⟩ :: r)=false:=by
 rw [kL,dF];rintro rfl;rw [h] at hw;cases hw
theorem Cn {t:Ty} (h:tyE t=0) {r:List Tk} (hr:isT ⟨#[91]⟩ r=false):typ (tkl (tyK t)++r)=.ok t r:=by
 rcases eZ h with (rfl | rfl) | ⟨s,rfl,hs⟩ | ⟨u,rfl | rfl,hu⟩
 ·rfl
 ·rfl
 ·show (nam (⟨1,s,0⟩ :: r)).bind (fun n r=>(Rs.ok ⟨5,[],n⟩ r:Rs Ty))=Rs.ok ⟨5,[],s⟩ r;rw [jR hs];rfl
 ·show (uni (tkl (unK u)++r)).bind (fun u r=>(Rs.ok ⟨2,u,.empty⟩ r:Rs Ty))=Rs.ok ⟨2,u,.empty⟩ r;rw [pX hu hr];rfl
 show (uni (tkl (unK u)++r)).bind (fun u r=>(Rs.ok ⟨3,u,.empty⟩ r:Rs Ty))=Rs.ok ⟨3,u,.empty⟩ r;rw [pX hu hr];rfl
theorem Ma {k n:Int} (h:fu k n=true) (r:List Tk):win (tkl (wiK k n)++r)=.ok (k,n) r:=by
 rcases kJ h with ⟨rfl,rfl⟩ | ⟨h1,h2,h3⟩
 ·rfl
 rcases h1 with rfl | rfl | rfl
 ·show (int (⟨2,⟨(Lib.itoa n).toArray⟩,0⟩ :: r)).bind (fun n r=>Rs.ok ((2:Int),n) r)=_;rw [jU (by omega) (by omega)];rfl
 ·show (int (⟨2,⟨(Lib.itoa n).toArray⟩,0⟩ :: r)).bind (fun n r=>Rs.ok ((3:Int),n) r)=_;rw [jU (by omega) (by omega)];rfl
 show (int (⟨2,⟨(Lib.itoa n).toArray⟩,0⟩ :: r)).bind (fun n r=>Rs.ok ((4:Int),n) r)=_;rw [jU (by omega) (by omega)];rfl
theorem okb {α β:Type} (v:α) (r:List Tk) (g:α→List Tk→Rs β):(Rs.ok v r).bind g=g v r:=rfl
def Lo (i:Bool) (m:Md) (l:List Tk) (x:Ex) (r:List Tk):Prop:=∃ f0,∀ f,f0≤f→pz f i m l=.ok x r
theorem dn {i:Bool} {m:Md} {l:List Tk} {x:Ex} {r:List Tk} (f0:Nat) (h:∀ f,f0≤f→pz (f+1) i m l=.ok x r):Lo i m l x r :=
 ⟨f0+1,fun f hf=>by
  obtain ⟨g,rfl⟩:∃ g,f=g+1:=⟨f - 1,by omega⟩
  exact h g (by omega)⟩
variable {i:Bool} {l r r1 r2 r':List Tk} {x y z:Ex} {least n:Nat}
theorem SF (h1:isT ⟨#[105,102]⟩ l=true) (e1:Lo i .ex l.tail x r) (h2:isT ⟨#[116,104,101,110]⟩ r=true) (e2:Lo i .ex r.tail y r1) (h3:isT ⟨#[101,108,115,101]⟩ r1=true) (e3:Lo i .ex r1.tail z r2):Lo i .ex l (ifE x y z) r2:=by
 obtain ⟨f1,e1⟩:=e1;obtain ⟨f2,e2⟩:=e2;obtain ⟨f3,e3⟩:=e3;refine dn (f1+f2+f3) fun f hf=>?_;simp only [pz];rw [if_pos h1,e1 f (by omega)];show (need ⟨#[116,104,101,110]⟩ r).bind _=_;rw [fF h2];show (pz f i .ex r.tail).bind _=_;rw [e2 f (by omega)];show (need ⟨#[101,108,115,101]⟩ r1).bind _=_;rw [fF h3];show (pz f i .ex r1.tail).bind _=_;rw [e3 f (by omega)];rfl
theorem SH (h1:isT ⟨#[105,102]⟩ l=false) (e:Lo i (.op 0) l x r):Lo i .ex l x r:=by
 obtain ⟨f1,e⟩:=e;refine dn f1 fun f hf=>?_;simp only [pz];rw [if_neg (nt h1)];exact e f hf
theorem QB (h1:least≤3) (h2:isT ⟨#[110,111,116]⟩ l=true) (e1:Lo i (.op 3) l.tail x r) (e2:Lo i (.tl least 3 (fA ⟨#[110,111,116]⟩ x)) r y r'):Lo i (.op least) l y r':=by
 obtain ⟨f1,e1⟩:=e1;obtain ⟨f2,e2⟩:=e2;refine dn (f1+f2) fun f hf=>?_;simp only [pz];rw [if_pos ⟨h1,h2⟩,e1 f (by omega)];exact e2 f (by omega)
theorem Lu (h2:isT ⟨#[110,111,116]⟩ l=false) (e1:Lo i .ng l x r) (e2:Lo i (.tl least 6 x) r y r'):Lo i (.op least) l y r':=by
 obtain ⟨f1,e1⟩:=e1;obtain ⟨f2,e2⟩:=e2;refine dn (f1+f2) fun f hf=>?_;simp only [pz];rw [if_neg (fun h=>nt h2 h.2),e1 f (by omega)];exact e2 f (by omega)
theorem Ir (h:n≤least):Lo i (.tl least n x) l x l:=by
 refine dn 0 fun f _=>?_;simp only [pz];rw [if_pos h]
theorem NJ (h:least<n) (h2:opr (n - 1) l=.empty) (e:Lo i (.tl least (n - 1) x) l y r):Lo i (.tl least n x) l y r:=by
 obtain ⟨f1,e⟩:=e;refine dn f1 fun f hf=>?_;simp only [pz];rw [if_neg (by omega),if_pos h2];exact e f hf
theorem NG {op:ByteArray} (h:least<n) (h2:opr (n - 1) l=op) (h3:op≠.empty) (e1:Lo i (.op n) l.tail y r) (e2:Lo i (.tl least (if n=4 then 3 else n) (bG op x y)) r z r'):Lo i (.tl least n x) l z r':=by
 obtain ⟨f1,e1⟩:=e1;obtain ⟨f2,e2⟩:=e2;refine dn (f1+f2) fun f hf=>?_;simp only [pz];rw [if_neg (by omega),if_neg (by rw [h2];exact h3),e1 f (by omega),h2];exact e2 f (by omega)
theorem QC (h:isT ⟨#[45]⟩ l=true) (e:Lo i .ng l.tail x r):Lo i .ng l (fA ⟨#[45]⟩ x) r:=by
 obtain ⟨f1,e⟩:=e;refine dn f1 fun f hf=>?_;simp only [pz];rw [if_pos h,e f hf];rfl
theorem Fh (h:isT ⟨#[45]⟩ l=false) (e:Lo i .pr l x r):Lo i .ng l x r:=by
 obtain ⟨f1,e⟩:=e;refine dn f1 fun f hf=>?_;simp only [pz];rw [if_neg (nt h)];exact e f hf
theorem Fg (h:isT ⟨#[40]⟩ l=true) (e:Lo i .ex l.tail x r) (h2:isT ⟨#[41]⟩ r=true):Lo i .pa l x r.tail:=by
 obtain ⟨f1,e⟩:=e;refine dn f1 fun f hf=>?_;simp only [pz];rw [fF h];show (pz f i .ex l.tail).bind _=_;rw [e f hf];show (need ⟨#[41]⟩ r).bind _=_;rw [fF h2];rfl
theorem NH {m:ByteArray} (hm:name m=true) (a:Int) (h:isT ⟨#[111,102]⟩ l=true) (e:Lo i .pa l.tail x r):Lo i .rf (⟨1,m,a⟩ :: l) (rO m x) r:=by
 obtain ⟨f1,e⟩:=e;refine dn f1 fun f hf=>?_;simp only [pz];rw [jR hm];show (if isT ⟨#[111,102]⟩ l=true then (pz f i .pa l.tail).bind fun x r=>.ok (rO m x) r else .ok (FM m) l)=_;rw [if_pos h,e f hf];rfl
theorem NI {m:ByteArray} (hm:name m=true) (a:Int) (h:isT ⟨#[111,102]⟩ l=false):Lo i .rf (⟨1,m,a⟩ :: l) (FM m) l:=by
 refine dn 0 fun f hf=>?_;simp only [pz];rw [jR hm];show (if isT ⟨#[111,102]⟩ l=true then (pz f i .pa l.tail).bind fun x r=>.ok (rO m x) r else .ok (FM m) l)=_;rw [if_neg (nt h)]
theorem vB (f:Nat) (h2:(hd l).k≠2) (h3:(hd l).k≠3) (h4:(hd l).k≠4):pz (f+1) i .pr l =
    if isT ⟨#[116,114,117,101]⟩ l=true then .ok (cu 1) l.tail
    else if isT ⟨#[102,97,108,115,101]⟩ l=true then .ok (cu 0) l.tail
    else if isT ⟨#[64]⟩ l=true then key l
    else if isT ⟨#[110,117,108,108]⟩ l=true then (pz f i .pa l.tail).bind fun x r=>.ok (fA ⟨#[110,117,108,108]⟩ x) r
    else if isT ⟨#[40]⟩ l=true then pz f i .pa l
    else if i=true then (nam l).bind fun n r=>.ok (FL n) r
    else if agg (hd l).t=true then pz f i .ag l
    else pz f i .rf l:=by
 simp only [pz];rw [if_neg h2,if_neg h3,if_neg h4]
theorem ND (a:Int) (e:Lo i .pa l x r):Lo i .pr (⟨1,⟨#[110,117,108,108]⟩,a⟩ :: l) (fA ⟨#[110,117,108,108]⟩ x) r:=by
 obtain ⟨f1,e⟩:=e;refine dn f1 fun f hf=>?_;rw [vB f (by show ¬ (1:Int)=2;decide) (by show ¬ (1:Int)=3;decide) (by show ¬ (1:Int)=4;decide)];show (pz f i .pa l).bind (fun x r=>Rs.ok (fA ⟨#[110,117,108,108]⟩ x) r)=Rs.ok (fA ⟨#[110,117,108,108]⟩ x) r;rw [e f hf];rfl
theorem KG (a:Int) (e:Lo i .ex l x r) (h2:isT ⟨#[41]⟩ r=true):Lo i .pr (⟨5,⟨#[40]⟩,a⟩ :: l) x r.tail:=by
 obtain ⟨f1,e⟩:=Fg (l:=⟨5,⟨#[40]⟩,a⟩ :: l) rfl e h2;refine dn f1 fun f hf=>?_;rw [vB f (by show ¬ (5:Int)=2;decide) (by show ¬ (5:Int)=3;decide) (by show ¬ (5:Int)=4;decide)];show pz f i .pa (⟨5,⟨#[40]⟩,a⟩ :: l)=_;exact e f hf
theorem KE:name ⟨#[102,97,108,115,101]⟩=false:=by kernel_rfl
theorem Nu:name ⟨#[64]⟩=false:=by kernel_rfl
theorem KD:name ⟨#[110,117,108,108]⟩=false:=by kernel_rfl
theorem KA:name ⟨#[40]⟩=false:=by kernel_rfl
theorem zO:name ⟨#[110,111,116]⟩=false:=by kernel_rfl
theorem Di:name ⟨#[105,102]⟩=false:=by kernel_rfl
theorem zP:name ⟨#[45]⟩=false:=by kernel_rfl
theorem OB:([(⟨#[99,111,117,110,116]⟩:ByteArray),⟨#[115,117,109]⟩,⟨#[109,101,97,110]⟩,⟨#[109,105,110]⟩,⟨#[109,97,120]⟩,⟨#[102,105,114,115,116]⟩,⟨#[108,97,115,116]⟩,⟨#[100,105,115,116,105,110,99,116]⟩,⟨#[113,117,97,110,116,105,108,101]⟩,⟨#[100,101,99,97,121]⟩].all fun t => !name t)=true:=by kernel_rfl
theorem Lc {m:ByteArray} (h:name m=true):agg m=false:=by
 cases ha:agg m with
 | false=>rfl
 | true =>
   unfold agg at ha
   rw [List.any_eq_true] at ha
   obtain ⟨t,ht,e⟩:=ha
   rw [decide_eq_true_eq] at e
   subst e
   have:=List.all_eq_true.1 OB _ ht
   rw [h] at this
   cases this
theorem Lj (f:Nat) {m:ByteArray} (hm:name m=true) (a:Int):pz (f+1) i .pr (⟨1,m,a⟩ :: l)=if i=true then .ok (FL m) l else pz f i .rf (⟨1,m,a⟩ :: l):=by
 rw [vB f (by show ¬ (1:Int)=2;decide) (by show ¬ (1:Int)=3;decide) (by show ¬ (1:Int)=4;decide)];rw [if_neg (nt (jF hm rM a l)),if_neg (nt (jF hm KE a l)),if_neg (nt (jF hm Nu a l)),if_neg (nt (jF hm KD a l)),if_neg (nt (jF hm KA a l))];rw [jR hm,if_neg (nt (show agg (hd (⟨1,m,a⟩ :: l)).t=false from Lc hm))];rfl
theorem KH {m:ByteArray} (hm:name m=true) (a:Int):Lo true .pr (⟨1,m,a⟩ :: l) (FL m) l :=
 dn 0 fun f _=>by rw [Lj f hm,if_pos rfl]
theorem Iq {m:ByteArray} (hm:name m=true) (a:Int) (e:Lo false .rf (⟨1,m,a⟩ :: l) x r):Lo false .pr (⟨1,m,a⟩ :: l) x r:=by
 obtain ⟨f1,e⟩:=e;refine dn f1 fun f hf=>?_;rw [Lj f hm,if_neg (by decide)];exact e f hf
theorem Rm {op:ByteArray} {p:Int} (h:fC op p=true):agg op=true∧op≠⟨#[116,114,117,101]⟩∧op≠⟨#[102,97,108,115,101]⟩∧op≠⟨#[64]⟩∧op≠⟨#[110,117,108,108]⟩∧op≠⟨#[40]⟩∧op≠⟨#[45]⟩∧op≠⟨#[110,111,116]⟩∧op≠⟨#[105,102]⟩:=by
 rcases jC h with ⟨h,_⟩ | ⟨h,_⟩
 ·rcases h with rfl | rfl | rfl | rfl | rfl | rfl | rfl | rfl <;> decide
 rcases h with rfl | rfl <;> decide
theorem Iu {op:ByteArray} {p:Int} (hp:fC op p=true) (a:Int) (e:Lo false .ag (⟨1,op,a⟩ :: l) x r):Lo false .pr (⟨1,op,a⟩ :: l) x r:=by
 obtain ⟨f1,e⟩:=e;obtain ⟨h0,h1,h2,h3,h4,h5,_⟩:=Rm hp;refine dn f1 fun f hf=>?_;rw [vB f (by show ¬ (1:Int)=2;decide) (by show ¬ (1:Int)=3;decide) (by show ¬ (1:Int)=4;decide)];simp only [kL];rw [if_neg (by simpa using h1),if_neg (by simpa using h2),if_neg (by simpa using h3),if_neg (by simpa using h4),if_neg (by simpa using h5),if_neg (by decide),if_pos (show agg (hd (⟨1,op,a⟩ :: l)).t=true from h0)];exact e f hf
theorem QE {u:List un.Fa} {v:Int} (h1:0≤v) (h2:v≤1152921504606846976) (hu:uni l=.ok u r) (a:Int):Lo i .pr (⟨2,⟨(Lib.itoa v).toArray⟩,a⟩ :: l) (Fj 2 v u) r:=by
 refine dn 0 fun f _=>?_;simp only [pz];rw [if_pos (show (hd (⟨2,⟨(Lib.itoa v).toArray⟩,a⟩ :: l)).k=2 from rfl),jU h1 h2,okb,hu];rfl
theorem QF {u:List un.Fa} {v:Int} (h1:0≤v) (h2:v≤1152921504606846976) (hu:uni l=.ok u r) (a:Int):Lo i .pr (⟨3,⟨(foX v).toArray⟩,a⟩ :: l) (Fj 3 v u) r:=by
 refine dn 0 fun f _=>?_;simp only [pz];rw [if_neg (by show ¬ (3:Int)=2;decide),if_pos (show (hd (⟨3,⟨(foX v).toArray⟩,a⟩ :: l)).k=3 from rfl),K4 h1 h2,okb,hu];rfl
theorem NC (s:ByteArray) (a:Int):Lo i .pr (⟨4,s,a⟩ :: l) (Pm s) l:=by
 refine dn 0 fun f _=>?_;simp only [pz];rw [if_neg (by show ¬ (4:Int)=2;decide),if_neg (by show ¬ (4:Int)=3;decide),if_pos (show (hd (⟨4,s,a⟩ :: l)).k=4 from rfl),kR];rfl
theorem QD {m s:ByteArray} (hm:name m=true) (hs:ck ⟨5,0,s⟩=0) (a b c:Int):Lo i .pr (⟨5,⟨#[64]⟩,a⟩ :: ⟨1,m,b⟩ :: ⟨4,s,c⟩ :: l) (Fq m s) l:=by
 refine dn 0 fun f _=>?_;rw [vB f (by show ¬ (5:Int)=2;decide) (by show ¬ (5:Int)=3;decide) (by show ¬ (5:Int)=4;decide)];show key (⟨5,⟨#[64]⟩,a⟩ :: ⟨1,m,b⟩ :: ⟨4,s,c⟩ :: l)=_;unfold key nma;rw [fF rfl,okb];show ((nam (⟨1,m,b⟩ :: ⟨4,s,c⟩ :: l)).bind fun n r=>(tak 4 r).bind fun s r' => if ck ⟨5,0,s⟩=0 then Rs.ok (Fq n s) r' else .no (hd r).a 3 r')=_;rw [jR hm,okb,kR,okb,if_pos hs]
theorem QG {n:Int} (h:n=0∨n=1) (a:Int):Lo i .pr (⟨1,if n=1 then ⟨#[116,114,117,101]⟩ else ⟨#[102,97,108,115,101]⟩,a⟩ :: l) (cu n) l:=by
 refine dn 0 fun f _=>?_;rw [vB f (by show ¬ (1:Int)=2;decide) (by show ¬ (1:Int)=3;decide) (by show ¬ (1:Int)=4;decide)];rcases h with rfl | rfl
 ·rfl
 rfl
theorem Lv {op t:ByteArray} {p wk ws:Int} (ht:name t=true) (hw:fu wk ws=true) (hp:fC op p=true) {l1 l2 l3:List Tk} {c:Ex}
    (e1:(op=⟨#[99,111,117,110,116]⟩∧l=l1∧x=cu 1)∨(op≠⟨#[99,111,117,110,116]⟩∧Lo true .ex l x (⟨5,⟨#[44]⟩,0⟩ :: l1)))
    (e2:l1=(if op=⟨#[113,117,97,110,116,105,108,101]⟩∨op=⟨#[100,101,99,97,121]⟩ then [⟨2,⟨(Lib.itoa p).toArray⟩,0⟩,⟨5,⟨#[44]⟩,0⟩] else [])++(tkl (wiK wk ws)++l2))
    (e3:(l2=l3∧c=cu 1∧isT ⟨#[119,104,101,114,101]⟩ l3=false)∨(isT ⟨#[119,104,101,114,101]⟩ l2=true∧Lo true .ex l2.tail c l3)) (h3:isT ⟨#[41]⟩ l3=true) :
    Lo false .ag (⟨1,op,0⟩ :: ⟨5,⟨#[40]⟩,0⟩ :: ⟨1,t,0⟩ :: ⟨5,⟨#[44]⟩,0⟩ :: l) (AX op t p (wk,ws) x c) l3.tail:=by
 have e1':∃ f1,∀ f,f1≤f→(if op=⟨#[99,111,117,110,116]⟩ then .ok (cu 1) l else (pz f true .ex l).bind fun x r=>(need ⟨#[44]⟩ r).bind fun _ r=>.ok x r)=Rs.ok x l1:=by
  rcases e1 with ⟨h,rfl,rfl⟩ | ⟨h,f1,e1⟩
  ·exact ⟨0,fun f _=>by rw [if_pos h]⟩
  refine ⟨f1,fun f hf=>?_⟩;rw [if_neg h,e1 f hf,okb,fF rfl];rfl
 have e2':(if op=⟨#[113,117,97,110,116,105,108,101]⟩∨op=⟨#[100,101,99,97,121]⟩ then (int l1).bind fun n r=>(need ⟨#[44]⟩ r).bind fun _ r=>.ok n r else .ok 0 l1)=Rs.ok p (tkl (wiK wk ws)++l2):=by
  rw [e2];rcases jC hp with ⟨h,rfl⟩ | ⟨h,h1,h2⟩
  ·have hq:¬ (op=⟨#[113,117,97,110,116,105,108,101]⟩∨op=⟨#[100,101,99,97,121]⟩):=by rcases h with rfl | rfl | rfl | rfl | rfl | rfl | rfl | rfl <;> decide
   rw [if_neg hq,if_neg hq];rfl
  rw [if_pos h,if_pos h];show (int (⟨2,⟨(Lib.itoa p).toArray⟩,0⟩ :: ⟨5,⟨#[44]⟩,0⟩ :: (tkl (wiK wk ws)++l2))).bind _=_;rw [jU (by omega) (by omega),okb,fF rfl];rfl
 have e3':∃ f3,∀ f,f3≤f→(if isT ⟨#[119,104,101,114,101]⟩ l2=true then pz f true .ex l2.tail else .ok (cu 1) l2)=Rs.ok c l3:=by
  rcases e3 with ⟨rfl,rfl,h⟩ | ⟨h,f3,e3⟩
  ·exact ⟨0,fun f _=>by rw [if_neg (nt h)]⟩
  exact ⟨f3,fun f hf=>by rw [if_pos h,e3 f hf]⟩
 obtain ⟨f1,e1⟩:=e1';obtain ⟨f3,e3⟩:=e3';refine dn (f1+f3) fun f hf=>?_;simp only [pz];rw [kR,okb,fF rfl,okb];show (nam (⟨1,t,0⟩ :: ⟨5,⟨#[44]⟩,0⟩ :: l)).bind _=_;rw [jR ht,okb,fF rfl,okb];show (if op=⟨#[99,111,117,110,116]⟩ then .ok (cu 1) l else (pz f true .ex l).bind fun x r=>(need ⟨#[44]⟩ r).bind fun _ r=>.ok x r).bind _=_;rw [e1 f (by omega),okb,e2',okb,Ma hw,okb,e3 f (by omega),okb,fF h3];rfl
def NoOp (n:Nat) (r:List Tk):Prop:=∀ k,n≤k→k<6→opr k r=.empty
structure Stp (r:List Tk):Prop where
 sq:isT ⟨#[91]⟩ r=false
 of:isT ⟨#[111,102]⟩ r=false
structure Fin' (r:List Tk):Prop where
 s:Stp r
 n:NoOp 0 r
theorem NoOp.mono {n m:Nat} {r:List Tk} (h:NoOp n r) (hm:n≤m):NoOp m r:=fun k h1 h2=>h k (by omega) h2
def rnk:Nat→Int
 | 0=>1
 | 1=>2
 | 2=>3
 | 3=>4
 | 4=>6
 | 5=>7
 | _=>8
def tpR (q:Int):Nat:=if 7≤q then 6 else if q=6 then 5 else if 3≤q then 3 else if q=2 then 2 else if q=1 then 1 else 0
def tpq (h q:Int):Nat:=if h<q then 6 else tpR h
theorem Gi (q:Int):tpR q≤6:=by unfold tpR;repeat (first | omega | split)
theorem yX (h q:Int):tpq h q≤6:=by
 unfold tpq;split
 ·omega
 exact Gi h
theorem MF (n:Nat):1≤rnk n:=by unfold rnk;split <;> omega
variable {i:Bool} {x:Ex} {K:List Pc}
theorem Dp {l r:List Tk} {z:Ex} {least n:Nat} (h1:least≤n) (hn:NoOp n l) (e:Lo i (.tl least n x) l z r):∀ d,n+d≤6→Lo i (.tl least (n+d) x) l z r
 | 0,_=>e
 | d+1,hd=>NJ (by omega) (hn _ (by omega) (by omega)) (Dp h1 hn e d (by omega))
theorem Ls {l r:List Tk} {z:Ex} {least n m:Nat} (h1:least≤n) (h2:n≤m) (h3:m≤6) (hn:NoOp n l) (e:Lo i (.tl least n x) l z r):Lo i (.tl least m x) l z r:=by
 obtain ⟨d,rfl⟩:∃ d,m=n+d:=⟨m - n,by omega⟩;exact Dp h1 hn e d h3
theorem zS {l:List Tk} {least m:Nat} (h3:m≤6) (hn:NoOp least l):Lo i (.tl least m x) l x l:=by
 by_cases h:m≤least
 ·exact Ir h
 exact Ls lr (by omega) h3 hn (Ir lr)
structure Prs (i:Bool) (K:List Pc) (x:Ex):Prop where
 ex:∀ r,Fin' r→Lo i .ex (tkl K++r) x r
 op:∀ (least:Nat) (r:List Tk) (z:Ex) (r':List Tk),rnk least≤rk x.h→Stp r→NoOp (tpR (rk x.h)) r→Lo i (.tl least (tpR (rk x.h)) x) r z r'→Lo i (.op least) (tkl K++r) z r'
 ng:8≤rk x.h→∀ r,Stp r→Lo i .ng (tkl K++r) x r
 nif:1≤rk x.h→∀ r,isT ⟨#[105,102]⟩ (tkl K++r)=false
 tru:bU x.h=true→x=cu 1
theorem rW {i:Bool} {K:List Pc} {x:Ex} (hr:1≤rk x.h) (h:∀ r,isT ⟨#[105,102]⟩ (tkl K++r)=false)
  (op:∀ (least:Nat) (r:List Tk) (z:Ex) (r':List Tk),rnk least≤rk x.h→Stp r→NoOp (tpR (rk x.h)) r→Lo i (.tl least (tpR (rk x.h)) x) r z r'→Lo i (.op least) (tkl K++r) z r') (r:List Tk) (hF:Fin' r):Lo i .ex (tkl K++r) x r :=
 SH (h r) (op 0 r x r hr hF.s (hF.n.mono (by omega)) (zS (Gi _) hF.n))
theorem Hg {i:Bool} {K:List Pc} {x:Ex} (hr:8≤rk x.h) (h1:∀ r,isT ⟨#[105,102]⟩ (tkl K++r)=false) (h2:∀ r,isT ⟨#[110,111,116]⟩ (tkl K++r)=false)
    (h:∀ r,Stp r→Lo i .ng (tkl K++r) x r) (ht:bU x.h=true→x=cu 1):Prs i K x:=by
 have ht6:tpR (rk x.h)=6:=by unfold tpR;rw [if_pos (by omega)]
 have op:∀ (least:Nat) (r:List Tk) (z:Ex) (r':List Tk),rnk least≤rk x.h→Stp r→NoOp (tpR (rk x.h)) r→Lo i (.tl least (tpR (rk x.h)) x) r z r'→Lo i (.op least) (tkl K++r) z r':=by
  intro least r z r' _ hs _ e;rw [ht6] at e;exact Lu (h2 r) (h r hs) e
 exact ⟨fun r hF=>rW (by omega) h1 op r hF,op,fun _=>h,fun _=>h1,ht⟩
theorem jB {i:Bool} {K:List Pc} {x:Ex} (hr:rk x.h=9) (h1:∀ r,isT ⟨#[105,102]⟩ (tkl K++r)=false) (h2:∀ r,isT ⟨#[110,111,116]⟩ (tkl K++r)=false) (h3:∀ r,isT ⟨#[45]⟩ (tkl K++r)=false)
  (h:∀ r,Stp r→Lo i .pr (tkl K++r) x r) (ht:bU x.h=true→x=cu 1):Prs i K x :=
 Hg (by omega) h1 h2 (fun r hs=>Fh (h3 r) (h r hs)) ht
theorem Jg {s:ByteArray} (h1:s≠⟨#[91]⟩) (h2:s≠⟨#[111,102]⟩) (h3:∀ k,k<6→∀ t ∈ opL k,s≠t) (r:List Tk):Fin' (⟨5,s,0⟩ :: r) :=
 ⟨⟨by rw [nY,dF h1],by rw [nY,dF h2]⟩,fun k _ hk=>by
  unfold opr
  rw [List.find?_eq_none.2 fun t ht=>by rw [nY,dF (h3 k hk t ht)];decide]
  rfl⟩
theorem Jf {s:ByteArray} (h1:s≠⟨#[91]⟩) (h2:s≠⟨#[111,102]⟩) (h3:∀ k,k<6→∀ t ∈ opL k,s≠t) (r:List Tk):Fin' (⟨1,s,0⟩ :: r) :=
 ⟨⟨by rw [kL,dF h1],by rw [kL,dF h2]⟩,fun k _ hk=>by
  unfold opr
  rw [List.find?_eq_none.2 fun t ht=>by rw [kL,dF (h3 k hk t ht)];decide]
  rfl⟩
theorem tJ {s:ByteArray} (h:((opL 0++opL 1++opL 2++opL 3++opL 4++opL 5).all fun t => !decide (s=t))=true):∀ k,k<6→∀ t ∈ opL k,s≠t:=by
 intro k hk t ht;have:=List.all_eq_true.1 h t (by
   simp only [List.mem_append]
   rcases (show k=0∨k=1∨k=2∨k=3∨k=4∨k=5 by omega) with rfl | rfl | rfl | rfl | rfl | rfl <;> simp [ht])
 simpa using this
theorem lV (r:List Tk):Fin' (⟨5,⟨#[41]⟩,0⟩ :: r):=Jg (by decide) (by decide) (tJ (by decide)) r
theorem Jh (r:List Tk):Fin' (⟨5,⟨#[44]⟩,0⟩ :: r):=Jg (by decide) (by decide) (tJ (by decide)) r
theorem KW (r:List Tk):Fin' (⟨1,⟨#[116,104,101,110]⟩,0⟩ :: r):=Jf (by decide) (by decide) (tJ (by decide)) r
theorem KX (r:List Tk):Fin' (⟨1,⟨#[101,108,115,101]⟩,0⟩ :: r):=Jf (by decide) (by decide) (tJ (by decide)) r
theorem mO (K:List Pc) (r:List Tk):tkl (sg ⟨#[40]⟩ :: (K++[sg ⟨#[41]⟩]))++r=⟨5,⟨#[40]⟩,0⟩ :: (tkl K++(⟨5,⟨#[41]⟩,0⟩ :: r)):=by
 rw [dG,fV,List.cons_append,List.append_assoc];rfl
theorem Prs.par (P:Prs i K x) (r:List Tk):Lo i .pr (tkl (sg ⟨#[40]⟩ :: (K++[sg ⟨#[41]⟩]))++r) x r:=by
 rw [mO];exact KG 0 (P.ex _ (lV r)) rfl
theorem Prs.at (P:Prs i K x) (q:Int) (least:Nat) {r:List Tk} {z:Ex} {r':List Tk} (h1:rnk least≤q) (h2:Stp r) (h3:NoOp (tpq (rk x.h) q) r) (h4:Lo i (.tl least (tpq (rk x.h) q) x) r z r') :
    Lo i (.op least) (tkl (eF (rk x.h) q K)++r) z r':=by
 unfold eF tpq at *;by_cases h:rk x.h<q
 ·rw [if_pos h] at h3 h4 ⊢;exact Lu (by rw [mO];rfl) (Fh (by rw [mO];rfl) (P.par r)) h4
 rw [if_neg h] at h3 h4 ⊢;exact P.op least r z r' (by omega) h2 h3 h4
theorem Prs.at8 (P:Prs i K x) {r:List Tk} (h2:Stp r):Lo i .ng (tkl (eF (rk x.h) 8 K)++r) x r:=by
 unfold eF;by_cases h:rk x.h<8
 ·rw [if_pos h];exact Fh (by rw [mO];rfl) (P.par r)
 rw [if_neg h];exact P.ng (by omega) r h2
theorem Prs.TT (P:Prs i K x) (q:Int) (hq:1≤q) (r:List Tk):isT ⟨#[105,102]⟩ (tkl (eF (rk x.h) q K)++r)=false:=by
 unfold eF;by_cases h:rk x.h<q
 ·rw [if_pos h,mO];rfl
 rw [if_neg h];exact P.nif (by omega) r
structure OpF (p:Pc) (op:ByteArray) (n:Nat) (q:Int):Prop where
 hit:∀ r,opr (n - 1) (tk0 p :: r)=op
 miss:∀ r,NoOp n (tk0 p :: r)
 stp:∀ r,Stp (tk0 p :: r)
 ne:op≠.empty
 nq:(n=1∧q=1)∨(n=2∧q=2)∨(n=3∧q=3)∨(n=4∧q=5)∨(n=5∧q=6)∨(n=6∧q=7)
def nxt (n:Nat):Nat:=if n=4 then 3 else n
theorem Du {n:Nat} {q:Int} (h:(n=1∧q=1)∨(n=2∧q=2)∨(n=3∧q=3)∨(n=4∧q=5)∨(n=5∧q=6)∨(n=6∧q=7)) (h':Int) (hh:h'≤9):n≤tpq h' (lef q)∧n≤tpq h' (q+1)∧rnk n=q+1∧tpR q=nxt n∧nxt n≤n:=by
 unfold tpq tpR lef nxt;rcases h with ⟨rfl,rfl⟩ | ⟨rfl,rfl⟩ | ⟨rfl,rfl⟩ | ⟨rfl,rfl⟩ | ⟨rfl,rfl⟩ | ⟨rfl,rfl⟩ <;> refine ⟨?_,?_,rfl,by decide,by decide⟩ <;> (repeat (first | omega | split))
theorem Li (h:Hd):rk h≤9:=by
 unfold rk rkO
 repeat (first | omega | split)
theorem PL {n least:Nat} {q:Int} (h:(n=1∧q=1)∨(n=2∧q=2)∨(n=3∧q=3)∨(n=4∧q=5)∨(n=5∧q=6)∨(n=6∧q=7)) (hl:rnk least≤q):least<n∧rnk least≤lef q:=by
 unfold rnk at *;unfold lef;rcases h with ⟨rfl,rfl⟩ | ⟨rfl,rfl⟩ | ⟨rfl,rfl⟩ | ⟨rfl,rfl⟩ | ⟨rfl,rfl⟩ | ⟨rfl,rfl⟩ <;> (split at hl <;> (first | (exfalso;omega) | (refine ⟨by omega,?_⟩;split <;> omega)))
theorem C8 {p:Pc} {op:ByteArray} {n:Nat} {q:Int} (F:OpF p op n q) {K1 K2:List Pc} {a b:Ex} (A:Prs i K1 a) (B:Prs i K2 b) (hq:rk (bG op a b).h=q) (ht:bU (bG op a b).h=false) :
    Prs i (eF (rk a.h) (lef q) K1++(p :: sp (eF (rk b.h) (q+1) K2))) (bG op a b):=by
 obtain ⟨t1,_,rn,tn,nn⟩:=Du F.nq (rk a.h) (Li _);obtain ⟨_,t2,_⟩:=Du F.nq (rk b.h) (Li _);have e0:∀ r,tkl (eF (rk a.h) (lef q) K1++(p :: sp (eF (rk b.h) (q+1) K2)))++r=tkl (eF (rk a.h) (lef q) K1)++(tk0 p :: (tkl (eF (rk b.h) (q+1) K2)++r)):=by
  intro r;rw [fV,dG,j6,List.append_assoc];rfl
 have hif:∀ r,isT ⟨#[105,102]⟩ (tkl (eF (rk a.h) (lef q) K1++(p :: sp (eF (rk b.h) (q+1) K2)))++r)=false:=fun r=>by
  rw [e0];exact A.TT _ (by unfold lef;have:=F.nq;split <;> omega) _
 have op:∀ (least:Nat) (r:List Tk) (z:Ex) (r':List Tk),rnk least≤rk (bG op a b).h→Stp r→NoOp (tpR (rk (bG op a b).h)) r→Lo i (.tl least (tpR (rk (bG op a b).h)) (bG op a b)) r z r' →
     Lo i (.op least) (tkl (eF (rk a.h) (lef q) K1++(p :: sp (eF (rk b.h) (q+1) K2)))++r) z r':=by
   intro least r z r' hl hs hn e
   rw [hq] at hl hn e
   rw [tn] at hn e
   rw [e0]
   obtain ⟨hlt,hll⟩:=PL F.nq hl
   refine A.at (lef q) least hll (F.stp _) ((F.miss _).mono t1) ?_
   refine Ls (Nat.le_of_lt hlt) t1 (yX _ _) (F.miss _) ?_
   refine NG hlt (F.hit _) F.ne (y:=b) (r:=r) ?_ e
   refine B.at (q+1) n (Int.le_of_eq rn) hs (hn.mono (by omega)) ?_
   exact zS (yX _ _) (hn.mono nn)
 refine ⟨fun r hF=>rW (by rw [hq];have:=F.nq;omega) hif op r hF,op,fun h=>?_,fun _=>hif,fun h=>by rw [ht] at h;cases h⟩;rw [hq] at h;have:=F.nq;omega
theorem Kr {k:Nat} {s:ByteArray} {l:List Tk} (h:∀ t,isT t l=decide (s=t)) (hs:s ∈ opL k):opr k l=s:=by
 unfold opr
 cases hf:(opL k).find? fun t=>isT t l with
 | none =>
   have:=List.find?_eq_none.1 hf s hs
   rw [h s] at this
   simp at this
 | some t =>
   have:=List.find?_some hf
   rw [h t,decide_eq_true_eq] at this
   exact this.symm
theorem H8 {k:Nat} {s:ByteArray} {l:List Tk} (h:∀ t,isT t l=decide (s=t)) (hs:∀ t ∈ opL k,s≠t):opr k l=.empty:=by
 unfold opr;rw [List.find?_eq_none.2 fun t ht=>by rw [h t,dF (hs t ht)];decide];rfl
def TP (n:Nat):List ByteArray:=((List.range 6).filter fun k=>decide (n≤k)).flatMap opL
theorem iG {p:Pc} {op:ByteArray} {n:Nat} {q:Int} (hp:p.2=(1,op)∨p.2=(5,op)) (h1:(opL (n - 1)).any (fun t=>decide (op=t))=true) (h2:((TP n).all fun t => !decide (op=t))=true) (h3:op≠⟨#[91]⟩) (h4:op≠⟨#[111,102]⟩) (h5:op≠.empty)
    (nq:(n=1∧q=1)∨(n=2∧q=2)∨(n=3∧q=3)∨(n=4∧q=5)∨(n=5∧q=6)∨(n=6∧q=7)):OpF p op n q:=by
 have hT:∀ r t,isT t (tk0 p :: r)=decide (op=t):=by
  intro r t;obtain ⟨b,k,s⟩:=p;rcases hp with h | h
  ·obtain ⟨rfl,rfl⟩:=Prod.mk.inj h;exact kL ..
  obtain ⟨rfl,rfl⟩:=Prod.mk.inj h;exact nY ..
 refine ⟨fun r=>Kr (hT r) ?_,fun r k hk hk6=>H8 (hT r) fun t ht=>?_,fun r=>⟨by rw [hT,dF h3],by rw [hT,dF h4]⟩,h5,nq⟩
 ·rw [List.any_eq_true] at h1;obtain ⟨t,ht,e⟩:=h1;rw [decide_eq_true_eq] at e;exact e ▸ ht
 have:=List.all_eq_true.1 h2 t (List.mem_flatMap.2 ⟨k,List.mem_filter.2 ⟨List.mem_range.2 hk6,by simpa using hk⟩,ht⟩);simpa using this
theorem Nh:OpF (bw ⟨#[100,101,102,97,117,108,116]⟩) ⟨#[100,101,102,97,117,108,116]⟩ 1 1:=iG (.inl rfl) (by decide) (by decide) (by decide) (by decide) (by decide) (by omega)
theorem Ni {op:ByteArray} (h:op=⟨#[43]⟩∨op=⟨#[45]⟩∨op=⟨#[42]⟩∨op=⟨#[47]⟩∨op=⟨#[61,61]⟩∨op=⟨#[33,61]⟩∨op=⟨#[60]⟩∨op=⟨#[60,61]⟩∨op=⟨#[97,110,100]⟩∨op=⟨#[111,114]⟩):(∃ n,OpF (opK op) op n (rkO op))∧op≠⟨#[100,101,102,97,117,108,116]⟩:=by
 rcases h with rfl | rfl | rfl | rfl | rfl | rfl | rfl | rfl | rfl | rfl
 ·exact ⟨⟨5,iG (.inr rfl) (by decide) (by decide) (by decide) (by decide) (by decide) (by decide)⟩,by decide⟩
 ·exact ⟨⟨5,iG (.inr rfl) (by decide) (by decide) (by decide) (by decide) (by decide) (by decide)⟩,by decide⟩
 ·exact ⟨⟨6,iG (.inr rfl) (by decide) (by decide) (by decide) (by decide) (by decide) (by decide)⟩,by decide⟩
 ·exact ⟨⟨6,iG (.inr rfl) (by decide) (by decide) (by decide) (by decide) (by decide) (by decide)⟩,by decide⟩
 ·exact ⟨⟨4,iG (.inr rfl) (by decide) (by decide) (by decide) (by decide) (by decide) (by decide)⟩,by decide⟩
 ·exact ⟨⟨4,iG (.inr rfl) (by decide) (by decide) (by decide) (by decide) (by decide) (by decide)⟩,by decide⟩
 ·exact ⟨⟨4,iG (.inr rfl) (by decide) (by decide) (by decide) (by decide) (by decide) (by decide)⟩,by decide⟩
 ·exact ⟨⟨4,iG (.inr rfl) (by decide) (by decide) (by decide) (by decide) (by decide) (by decide)⟩,by decide⟩
 ·exact ⟨⟨3,iG (.inl rfl) (by decide) (by decide) (by decide) (by decide) (by decide) (by decide)⟩,by decide⟩
 exact ⟨⟨2,iG (.inl rfl) (by decide) (by decide) (by decide) (by decide) (by decide) (by decide)⟩,by decide⟩
end ch
end Go.Proofs.YtbahfelnbofjjaaGreatDoor
