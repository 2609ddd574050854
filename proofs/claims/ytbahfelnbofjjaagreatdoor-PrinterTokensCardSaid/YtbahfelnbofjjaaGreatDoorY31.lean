/-
  The parser's steps, with as many steps as it takes; Every expression of proper form is read back from its pieces; Every expression of proper form is read back from its pieces: nodes, rows, the whole; What is printed is read back: whole texts of expressions and types; What is parsed is short throughout; What the parser has built, as what the printer and the checker read; parser.Expr and parser.Type over what has been printed; No text of an expression has fewer tokens than the one that is printed; Bytes and tokens of a text together: Join's source is not too long; The statements' helpers: sources, tokens, lists that are the same.
-/
import Derived.Test.YtbahfelnbofjjaaGreatDoorY30
set_option maxRecDepth 100000
set_option maxHeartbeats 16000000
namespace Go.Proofs.YtbahfelnbofjjaaGreatDoor
namespace ch
open Go.RowKit dec
theorem okb {α β:Type} (v:α) (r:List Tk) (g:α→List Tk→Rs β):(Rs.ok v r).bind g=g v r:=rfl
def Lo (i:Bool) (m:Md) (l:List Tk) (x:Ex) (r:List Tk):Prop:=∃ f0,∀ f,f0≤f→pz f i m l=.ok x r
theorem dx {i:Bool} {m:Md} {l:List Tk} {x:Ex} {r:List Tk} (f0:Nat) (h:∀ f,f0≤f→pz (f+1) i m l=.ok x r):Lo i m l x r :=
 ⟨f0+1,fun f hf=>by
  obtain ⟨g,rfl⟩:∃ g,f=g+1:=⟨f - 1,by omega⟩
  exact h g (by omega)⟩
variable {i:Bool} {l r r1 r2 r':List Tk} {x y z:Ex} {least n:Nat}
theorem TB (h1:isT ⟨#[105,102]⟩ l=true) (e1:Lo i .ex l.tail x r) (h2:isT ⟨#[116,104,101,110]⟩ r=true) (e2:Lo i .ex r.tail y r1) (h3:isT ⟨#[101,108,115,101]⟩ r1=true) (e3:Lo i .ex r1.tail z r2):Lo i .ex l (ifE x y z) r2:=by
 obtain ⟨f1,e1⟩:=e1;obtain ⟨f2,e2⟩:=e2;obtain ⟨f3,e3⟩:=e3;refine dx (f1+f2+f3) fun f hf=>?_;simp only [pz];rw [if_pos h1,e1 f (by omega)];show (need ⟨#[116,104,101,110]⟩ r).bind _=_;rw [fJ h2];show (pz f i .ex r.tail).bind _=_;rw [e2 f (by omega)];show (need ⟨#[101,108,115,101]⟩ r1).bind _=_;rw [fJ h3];show (pz f i .ex r1.tail).bind _=_;rw [e3 f (by omega)];rfl
theorem TD (h1:isT ⟨#[105,102]⟩ l=false) (e:Lo i (.op 0) l x r):Lo i .ex l x r:=by
 obtain ⟨f1,e⟩:=e;refine dx f1 fun f hf=>?_;simp only [pz];rw [if_neg (nt h1)];exact e f hf
theorem Q6 (h1:least≤3) (h2:isT ⟨#[110,111,116]⟩ l=true) (e1:Lo i (.op 3) l.tail x r) (e2:Lo i (.tl least 3 (fE ⟨#[110,111,116]⟩ x)) r y r'):Lo i (.op least) l y r':=by
 obtain ⟨f1,e1⟩:=e1;obtain ⟨f2,e2⟩:=e2;refine dx (f1+f2) fun f hf=>?_;simp only [pz];rw [if_pos ⟨h1,h2⟩,e1 f (by omega)];exact e2 f (by omega)
theorem Mk (h2:isT ⟨#[110,111,116]⟩ l=false) (e1:Lo i .ng l x r) (e2:Lo i (.tl least 6 x) r y r'):Lo i (.op least) l y r':=by
 obtain ⟨f1,e1⟩:=e1;obtain ⟨f2,e2⟩:=e2;refine dx (f1+f2) fun f hf=>?_;simp only [pz];rw [if_neg (fun h=>nt h2 h.2),e1 f (by omega)];exact e2 f (by omega)
theorem Jj (h:n≤least):Lo i (.tl least n x) l x l:=by
 refine dx 0 fun f _=>?_;simp only [pz];rw [if_pos h]
theorem Ow (h:least<n) (h2:opr (n - 1) l=.empty) (e:Lo i (.tl least (n - 1) x) l y r):Lo i (.tl least n x) l y r:=by
 obtain ⟨f1,e⟩:=e;refine dx f1 fun f hf=>?_;simp only [pz];rw [if_neg (by omega),if_pos h2];exact e f hf
theorem Oq {op:ByteArray} (h:least<n) (h2:opr (n - 1) l=op) (h3:op≠.empty) (e1:Lo i (.op n) l.tail y r) (e2:Lo i (.tl least (if n=4 then 3 else n) (bB op x y)) r z r'):Lo i (.tl least n x) l z r':=by
 obtain ⟨f1,e1⟩:=e1;obtain ⟨f2,e2⟩:=e2;refine dx (f1+f2) fun f hf=>?_;simp only [pz];rw [if_neg (by omega),if_neg (by rw [h2];exact h3),e1 f (by omega),h2];exact e2 f (by omega)
theorem Q7 (h:isT ⟨#[45]⟩ l=true) (e:Lo i .ng l.tail x r):Lo i .ng l (fE ⟨#[45]⟩ x) r:=by
 obtain ⟨f1,e⟩:=e;refine dx f1 fun f hf=>?_;simp only [pz];rw [if_pos h,e f hf];rfl
theorem FX (h:isT ⟨#[45]⟩ l=false) (e:Lo i .pr l x r):Lo i .ng l x r:=by
 obtain ⟨f1,e⟩:=e;refine dx f1 fun f hf=>?_;simp only [pz];rw [if_neg (nt h)];exact e f hf
theorem FV (h:isT ⟨#[40]⟩ l=true) (e:Lo i .ex l.tail x r) (h2:isT ⟨#[41]⟩ r=true):Lo i .pa l x r.tail:=by
 obtain ⟨f1,e⟩:=e;refine dx f1 fun f hf=>?_;simp only [pz];rw [fJ h];show (pz f i .ex l.tail).bind _=_;rw [e f hf];show (need ⟨#[41]⟩ r).bind _=_;rw [fJ h2];rfl
theorem Ou {m:ByteArray} (hm:name m=true) (a:Int) (h:isT ⟨#[111,102]⟩ l=true) (e:Lo i .pa l.tail x r):Lo i .rf (⟨1,m,a⟩ :: l) (sQ m x) r:=by
 obtain ⟨f1,e⟩:=e;refine dx f1 fun f hf=>?_;simp only [pz];rw [lQ hm];show (if isT ⟨#[111,102]⟩ l=true then (pz f i .pa l.tail).bind fun x r=>.ok (sQ m x) r else .ok (Gr m) l)=_;rw [if_pos h,e f hf];rfl
theorem Ov {m:ByteArray} (hm:name m=true) (a:Int) (h:isT ⟨#[111,102]⟩ l=false):Lo i .rf (⟨1,m,a⟩ :: l) (Gr m) l:=by
 refine dx 0 fun f hf=>?_;simp only [pz];rw [lQ hm];show (if isT ⟨#[111,102]⟩ l=true then (pz f i .pa l.tail).bind fun x r=>.ok (sQ m x) r else .ok (Gr m) l)=_;rw [if_neg (nt h)]
theorem vU (f:Nat) (h2:(hd l).k≠2) (h3:(hd l).k≠3) (h4:(hd l).k≠4):pz (f+1) i .pr l =
    if isT ⟨#[116,114,117,101]⟩ l=true then .ok (bZ 1) l.tail
    else if isT ⟨#[102,97,108,115,101]⟩ l=true then .ok (bZ 0) l.tail
    else if isT ⟨#[64]⟩ l=true then key l
    else if isT ⟨#[110,117,108,108]⟩ l=true then (pz f i .pa l.tail).bind fun x r=>.ok (fE ⟨#[110,117,108,108]⟩ x) r
    else if isT ⟨#[40]⟩ l=true then pz f i .pa l
    else if i=true then (nam l).bind fun n r=>.ok (Gq n) r
    else if agg (hd l).t=true then pz f i .ag l
    else pz f i .rf l:=by
 simp only [pz];rw [if_neg h2,if_neg h3,if_neg h4]
theorem Oo (a:Int) (e:Lo i .pa l x r):Lo i .pr (⟨1,⟨#[110,117,108,108]⟩,a⟩ :: l) (fE ⟨#[110,117,108,108]⟩ x) r:=by
 obtain ⟨f1,e⟩:=e;refine dx f1 fun f hf=>?_;rw [vU f (by show ¬ (1:Int)=2;decide) (by show ¬ (1:Int)=3;decide) (by show ¬ (1:Int)=4;decide)];show (pz f i .pa l).bind (fun x r=>Rs.ok (fE ⟨#[110,117,108,108]⟩ x) r)=Rs.ok (fE ⟨#[110,117,108,108]⟩ x) r;rw [e f hf];rfl
theorem Lf (a:Int) (e:Lo i .ex l x r) (h2:isT ⟨#[41]⟩ r=true):Lo i .pr (⟨5,⟨#[40]⟩,a⟩ :: l) x r.tail:=by
 obtain ⟨f1,e⟩:=FV (l:=⟨5,⟨#[40]⟩,a⟩ :: l) rfl e h2;refine dx f1 fun f hf=>?_;rw [vU f (by show ¬ (5:Int)=2;decide) (by show ¬ (5:Int)=3;decide) (by show ¬ (5:Int)=4;decide)];show pz f i .pa (⟨5,⟨#[40]⟩,a⟩ :: l)=_;exact e f hf
theorem Ld:name ⟨#[102,97,108,115,101]⟩=false:=by kernel_rfl
theorem Og:name ⟨#[64]⟩=false:=by kernel_rfl
theorem Lc:name ⟨#[110,117,108,108]⟩=false:=by kernel_rfl
theorem Lb:name ⟨#[40]⟩=false:=by kernel_rfl
theorem Af:name ⟨#[110,111,116]⟩=false:=by kernel_rfl
theorem DN:name ⟨#[105,102]⟩=false:=by kernel_rfl
theorem Ag:name ⟨#[45]⟩=false:=by kernel_rfl
theorem Pq:([(⟨#[99,111,117,110,116]⟩:ByteArray),⟨#[115,117,109]⟩,⟨#[109,101,97,110]⟩,⟨#[109,105,110]⟩,⟨#[109,97,120]⟩,⟨#[102,105,114,115,116]⟩,⟨#[108,97,115,116]⟩,⟨#[100,105,115,116,105,110,99,116]⟩,⟨#[113,117,97,110,116,105,108,101]⟩,⟨#[100,101,99,97,121]⟩].all fun t => !name t)=true:=by kernel_rfl
theorem LX {m:ByteArray} (h:name m=true):agg m=false:=by
 cases ha:agg m with
 | false=>rfl
 | true =>
   unfold agg at ha
   rw [List.any_eq_true] at ha
   obtain ⟨t,ht,e⟩:=ha
   rw [decide_eq_true_eq] at e
   subst e
   have:=List.all_eq_true.1 Pq _ ht
   rw [h] at this
   cases this
theorem Me (f:Nat) {m:ByteArray} (hm:name m=true) (a:Int):pz (f+1) i .pr (⟨1,m,a⟩ :: l)=if i=true then .ok (Gq m) l else pz f i .rf (⟨1,m,a⟩ :: l):=by
 rw [vU f (by show ¬ (1:Int)=2;decide) (by show ¬ (1:Int)=3;decide) (by show ¬ (1:Int)=4;decide)];rw [if_neg (nt (jL hm sP a l)),if_neg (nt (jL hm Ld a l)),if_neg (nt (jL hm Og a l)),if_neg (nt (jL hm Lc a l)),if_neg (nt (jL hm Lb a l))];rw [lQ hm,if_neg (nt (show agg (hd (⟨1,m,a⟩ :: l)).t=false from LX hm))];rfl
theorem Lg {m:ByteArray} (hm:name m=true) (a:Int):Lo true .pr (⟨1,m,a⟩ :: l) (Gq m) l :=
 dx 0 fun f _=>by rw [Me f hm,if_pos rfl]
theorem Ji {m:ByteArray} (hm:name m=true) (a:Int) (e:Lo false .rf (⟨1,m,a⟩ :: l) x r):Lo false .pr (⟨1,m,a⟩ :: l) x r:=by
 obtain ⟨f1,e⟩:=e;refine dx f1 fun f hf=>?_;rw [Me f hm,if_neg (by decide)];exact e f hf
theorem RP {op:ByteArray} {p:Int} (h:fH op p=true):agg op=true∧op≠⟨#[116,114,117,101]⟩∧op≠⟨#[102,97,108,115,101]⟩∧op≠⟨#[64]⟩∧op≠⟨#[110,117,108,108]⟩∧op≠⟨#[40]⟩∧op≠⟨#[45]⟩∧op≠⟨#[110,111,116]⟩∧op≠⟨#[105,102]⟩:=by
 rcases jc h with ⟨h,_⟩ | ⟨h,_⟩
 ·rcases h with rfl | rfl | rfl | rfl | rfl | rfl | rfl | rfl <;> decide
 rcases h with rfl | rfl <;> decide
theorem Jk {op:ByteArray} {p:Int} (hp:fH op p=true) (a:Int) (e:Lo false .ag (⟨1,op,a⟩ :: l) x r):Lo false .pr (⟨1,op,a⟩ :: l) x r:=by
 obtain ⟨f1,e⟩:=e;obtain ⟨h0,h1,h2,h3,h4,h5,_⟩:=RP hp;refine dx f1 fun f hf=>?_;rw [vU f (by show ¬ (1:Int)=2;decide) (by show ¬ (1:Int)=3;decide) (by show ¬ (1:Int)=4;decide)];simp only [lC];rw [if_neg (by simpa using h1),if_neg (by simpa using h2),if_neg (by simpa using h3),if_neg (by simpa using h4),if_neg (by simpa using h5),if_neg (by decide),if_pos (show agg (hd (⟨1,op,a⟩ :: l)).t=true from h0)];exact e f hf
theorem Q9 {u:List un.Fa} {v:Int} (h1:0≤v) (h2:v≤1152921504606846976) (hu:uni l=.ok u r) (a:Int):Lo i .pr (⟨2,⟨(Lib.itoa v).toArray⟩,a⟩ :: l) (FY 2 v u) r:=by
 refine dx 0 fun f _=>?_;simp only [pz];rw [if_pos (show (hd (⟨2,⟨(Lib.itoa v).toArray⟩,a⟩ :: l)).k=2 from rfl),j5 h1 h2,okb,hu];rfl
theorem Ra {u:List un.Fa} {v:Int} (h1:0≤v) (h2:v≤1152921504606846976) (hu:uni l=.ok u r) (a:Int):Lo i .pr (⟨3,⟨(foX v).toArray⟩,a⟩ :: l) (FY 3 v u) r:=by
 refine dx 0 fun f _=>?_;simp only [pz];rw [if_neg (by show ¬ (3:Int)=2;decide),if_pos (show (hd (⟨3,⟨(foX v).toArray⟩,a⟩ :: l)).k=3 from rfl),LK h1 h2,okb,hu];rfl
theorem Om (s:ByteArray) (a:Int):Lo i .pr (⟨4,s,a⟩ :: l) (Qa s) l:=by
 refine dx 0 fun f _=>?_;simp only [pz];rw [if_neg (by show ¬ (4:Int)=2;decide),if_neg (by show ¬ (4:Int)=3;decide),if_pos (show (hd (⟨4,s,a⟩ :: l)).k=4 from rfl),lI];rfl
theorem Q8 {m s:ByteArray} (hm:name m=true) (hs:ck ⟨5,0,s⟩=0) (a b c:Int):Lo i .pr (⟨5,⟨#[64]⟩,a⟩ :: ⟨1,m,b⟩ :: ⟨4,s,c⟩ :: l) (Ga m s) l:=by
 refine dx 0 fun f _=>?_;rw [vU f (by show ¬ (5:Int)=2;decide) (by show ¬ (5:Int)=3;decide) (by show ¬ (5:Int)=4;decide)];show key (⟨5,⟨#[64]⟩,a⟩ :: ⟨1,m,b⟩ :: ⟨4,s,c⟩ :: l)=_;unfold key nma;rw [fJ rfl,okb];show ((nam (⟨1,m,b⟩ :: ⟨4,s,c⟩ :: l)).bind fun n r=>(tak 4 r).bind fun s r' => if ck ⟨5,0,s⟩=0 then Rs.ok (Ga n s) r' else .no (hd r).a 3 r')=_;rw [lQ hm,okb,lI,okb,if_pos hs]
theorem Rb {n:Int} (h:n=0∨n=1) (a:Int):Lo i .pr (⟨1,if n=1 then ⟨#[116,114,117,101]⟩ else ⟨#[102,97,108,115,101]⟩,a⟩ :: l) (bZ n) l:=by
 refine dx 0 fun f _=>?_;rw [vU f (by show ¬ (1:Int)=2;decide) (by show ¬ (1:Int)=3;decide) (by show ¬ (1:Int)=4;decide)];rcases h with rfl | rfl
 ·rfl
 rfl
theorem Ml {op t:ByteArray} {p wk ws:Int} (ht:name t=true) (hw:fC wk ws=true) (hp:fH op p=true) {l1 l2 l3:List Tk} {c:Ex}
    (e1:(op=⟨#[99,111,117,110,116]⟩∧l=l1∧x=bZ 1)∨(op≠⟨#[99,111,117,110,116]⟩∧Lo true .ex l x (⟨5,⟨#[44]⟩,0⟩ :: l1)))
    (e2:l1=(if op=⟨#[113,117,97,110,116,105,108,101]⟩∨op=⟨#[100,101,99,97,121]⟩ then [⟨2,⟨(Lib.itoa p).toArray⟩,0⟩,⟨5,⟨#[44]⟩,0⟩] else [])++(tkl (wiK wk ws)++l2))
    (e3:(l2=l3∧c=bZ 1∧isT ⟨#[119,104,101,114,101]⟩ l3=false)∨(isT ⟨#[119,104,101,114,101]⟩ l2=true∧Lo true .ex l2.tail c l3)) (h3:isT ⟨#[41]⟩ l3=true) :
    Lo false .ag (⟨1,op,0⟩ :: ⟨5,⟨#[40]⟩,0⟩ :: ⟨1,t,0⟩ :: ⟨5,⟨#[44]⟩,0⟩ :: l) (Bv op t p (wk,ws) x c) l3.tail:=by
 have e1':∃ f1,∀ f,f1≤f→(if op=⟨#[99,111,117,110,116]⟩ then .ok (bZ 1) l else (pz f true .ex l).bind fun x r=>(need ⟨#[44]⟩ r).bind fun _ r=>.ok x r)=Rs.ok x l1:=by
  rcases e1 with ⟨h,rfl,rfl⟩ | ⟨h,f1,e1⟩
  ·exact ⟨0,fun f _=>by rw [if_pos h]⟩
  refine ⟨f1,fun f hf=>?_⟩;rw [if_neg h,e1 f hf,okb,fJ rfl];rfl
 have e2':(if op=⟨#[113,117,97,110,116,105,108,101]⟩∨op=⟨#[100,101,99,97,121]⟩ then (int l1).bind fun n r=>(need ⟨#[44]⟩ r).bind fun _ r=>.ok n r else .ok 0 l1)=Rs.ok p (tkl (wiK wk ws)++l2):=by
  rw [e2];rcases jc hp with ⟨h,rfl⟩ | ⟨h,h1,h2⟩
  ·have hq:¬ (op=⟨#[113,117,97,110,116,105,108,101]⟩∨op=⟨#[100,101,99,97,121]⟩):=by rcases h with rfl | rfl | rfl | rfl | rfl | rfl | rfl | rfl <;> decide
   rw [if_neg hq,if_neg hq];rfl
  rw [if_pos h,if_pos h];show (int (⟨2,⟨(Lib.itoa p).toArray⟩,0⟩ :: ⟨5,⟨#[44]⟩,0⟩ :: (tkl (wiK wk ws)++l2))).bind _=_;rw [j5 (by omega) (by omega),okb,fJ rfl];rfl
 have e3':∃ f3,∀ f,f3≤f→(if isT ⟨#[119,104,101,114,101]⟩ l2=true then pz f true .ex l2.tail else .ok (bZ 1) l2)=Rs.ok c l3:=by
  rcases e3 with ⟨rfl,rfl,h⟩ | ⟨h,f3,e3⟩
  ·exact ⟨0,fun f _=>by rw [if_neg (nt h)]⟩
  exact ⟨f3,fun f hf=>by rw [if_pos h,e3 f hf]⟩
 obtain ⟨f1,e1⟩:=e1';obtain ⟨f3,e3⟩:=e3';refine dx (f1+f3) fun f hf=>?_;simp only [pz];rw [lI,okb,fJ rfl,okb];show (nam (⟨1,t,0⟩ :: ⟨5,⟨#[44]⟩,0⟩ :: l)).bind _=_;rw [lQ ht,okb,fJ rfl,okb];show (if op=⟨#[99,111,117,110,116]⟩ then .ok (bZ 1) l else (pz f true .ex l).bind fun x r=>(need ⟨#[44]⟩ r).bind fun _ r=>.ok x r).bind _=_;rw [e1 f (by omega),okb,e2',okb,MP hw,okb,e3 f (by omega),okb,fJ h3];rfl
def NoOp (n:Nat) (r:List Tk):Prop:=∀ k,n≤k→k<6→opr k r=.empty
structure Stp (r:List Tk):Prop where
 sq:isT ⟨#[91]⟩ r=false
 of:isT ⟨#[111,102]⟩ r=false
structure Fin' (r:List Tk):Prop where
 s:Stp r
 n:NoOp 0 r
theorem NoOp.mono {n m:Nat} {r:List Tk} (h:NoOp n r) (hm:n≤m):NoOp m r:=fun k h1 h2=>h k (by omega) h2
def rnk:Nat→Int
 | 0=>1
 | 1=>2
 | 2=>3
 | 3=>4
 | 4=>6
 | 5=>7
 | _=>8
def tpR (q:Int):Nat:=if 7≤q then 6 else if q=6 then 5 else if 3≤q then 3 else if q=2 then 2 else if q=1 then 1 else 0
def tpq (h q:Int):Nat:=if h<q then 6 else tpR h
theorem Ht (q:Int):tpR q≤6:=by unfold tpR;repeat (first | omega | split)
theorem zx (h q:Int):tpq h q≤6:=by
 unfold tpq;split
 ·omega
 exact Ht h
theorem Nq (n:Nat):1≤rnk n:=by unfold rnk;split <;> omega
variable {i:Bool} {x:Ex} {K:List Pc}
theorem DX {l r:List Tk} {z:Ex} {least n:Nat} (h1:least≤n) (hn:NoOp n l) (e:Lo i (.tl least n x) l z r):∀ d,n+d≤6→Lo i (.tl least (n+d) x) l z r
 | 0,_=>e
 | d+1,hd=>Ow (by omega) (hn _ (by omega) (by omega)) (DX h1 hn e d (by omega))
theorem Mj {l r:List Tk} {z:Ex} {least n m:Nat} (h1:least≤n) (h2:n≤m) (h3:m≤6) (hn:NoOp n l) (e:Lo i (.tl least n x) l z r):Lo i (.tl least m x) l z r:=by
 obtain ⟨d,rfl⟩:∃ d,m=n+d:=⟨m - n,by omega⟩;exact DX h1 hn e d h3
theorem Aj {l:List Tk} {least m:Nat} (h3:m≤6) (hn:NoOp least l):Lo i (.tl least m x) l x l:=by
 by_cases h:m≤least
 ·exact Jj h
 exact Mj lr (by omega) h3 hn (Jj lr)
structure Prs (i:Bool) (K:List Pc) (x:Ex):Prop where
 ex:∀ r,Fin' r→Lo i .ex (tkl K++r) x r
 op:∀ (least:Nat) (r:List Tk) (z:Ex) (r':List Tk),rnk least≤rk x.h→Stp r→NoOp (tpR (rk x.h)) r→Lo i (.tl least (tpR (rk x.h)) x) r z r'→Lo i (.op least) (tkl K++r) z r'
 ng:8≤rk x.h→∀ r,Stp r→Lo i .ng (tkl K++r) x r
 nif:1≤rk x.h→∀ r,isT ⟨#[105,102]⟩ (tkl K++r)=false
 tru:bH x.h=true→x=bZ 1
theorem tC {i:Bool} {K:List Pc} {x:Ex} (hr:1≤rk x.h) (h:∀ r,isT ⟨#[105,102]⟩ (tkl K++r)=false)
  (op:∀ (least:Nat) (r:List Tk) (z:Ex) (r':List Tk),rnk least≤rk x.h→Stp r→NoOp (tpR (rk x.h)) r→Lo i (.tl least (tpR (rk x.h)) x) r z r'→Lo i (.op least) (tkl K++r) z r') (r:List Tk) (hF:Fin' r):Lo i .ex (tkl K++r) x r :=
 TD (h r) (op 0 r x r hr hF.s (hF.n.mono (by omega)) (Aj (Ht _) hF.n))
theorem IJ {i:Bool} {K:List Pc} {x:Ex} (hr:8≤rk x.h) (h1:∀ r,isT ⟨#[105,102]⟩ (tkl K++r)=false) (h2:∀ r,isT ⟨#[110,111,116]⟩ (tkl K++r)=false)
    (h:∀ r,Stp r→Lo i .ng (tkl K++r) x r) (ht:bH x.h=true→x=bZ 1):Prs i K x:=by
 have ht6:tpR (rk x.h)=6:=by unfold tpR;rw [if_pos (by omega)]
 have op:∀ (least:Nat) (r:List Tk) (z:Ex) (r':List Tk),rnk least≤rk x.h→Stp r→NoOp (tpR (rk x.h)) r→Lo i (.tl least (tpR (rk x.h)) x) r z r'→Lo i (.op least) (tkl K++r) z r':=by
  intro least r z r' _ hs _ e;rw [ht6] at e;exact Mk (h2 r) (h r hs) e
 exact ⟨fun r hF=>tC (by omega) h1 op r hF,op,fun _=>h,fun _=>h1,ht⟩
theorem jJ {i:Bool} {K:List Pc} {x:Ex} (hr:rk x.h=9) (h1:∀ r,isT ⟨#[105,102]⟩ (tkl K++r)=false) (h2:∀ r,isT ⟨#[110,111,116]⟩ (tkl K++r)=false) (h3:∀ r,isT ⟨#[45]⟩ (tkl K++r)=false)
  (h:∀ r,Stp r→Lo i .pr (tkl K++r) x r) (ht:bH x.h=true→x=bZ 1):Prs i K x :=
 IJ (by omega) h1 h2 (fun r hs=>FX (h3 r) (h r hs)) ht
theorem JO {s:ByteArray} (h1:s≠⟨#[91]⟩) (h2:s≠⟨#[111,102]⟩) (h3:∀ k,k<6→∀ t ∈ opL k,s≠t) (r:List Tk):Fin' (⟨5,s,0⟩ :: r) :=
 ⟨⟨by rw [oL,dF h1],by rw [oL,dF h2]⟩,fun k _ hk=>by
  unfold opr
  rw [List.find?_eq_none.2 fun t ht=>by rw [oL,dF (h3 k hk t ht)];decide]
  rfl⟩
theorem JN {s:ByteArray} (h1:s≠⟨#[91]⟩) (h2:s≠⟨#[111,102]⟩) (h3:∀ k,k<6→∀ t ∈ opL k,s≠t) (r:List Tk):Fin' (⟨1,s,0⟩ :: r) :=
 ⟨⟨by rw [lC,dF h1],by rw [lC,dF h2]⟩,fun k _ hk=>by
  unfold opr
  rw [List.find?_eq_none.2 fun t ht=>by rw [lC,dF (h3 k hk t ht)];decide]
  rfl⟩
theorem uI {s:ByteArray} (h:((opL 0++opL 1++opL 2++opL 3++opL 4++opL 5).all fun t => !decide (s=t))=true):∀ k,k<6→∀ t ∈ opL k,s≠t:=by
 intro k hk t ht;have:=List.all_eq_true.1 h t (by
   simp only [List.mem_append]
   rcases (show k=0∨k=1∨k=2∨k=3∨k=4∨k=5 by omega) with rfl | rfl | rfl | rfl | rfl | rfl <;> simp [ht])
 simpa using this
theorem mM (r:List Tk):Fin' (⟨5,⟨#[41]⟩,0⟩ :: r):=JO (by decide) (by decide) (uI (by decide)) r
theorem JQ (r:List Tk):Fin' (⟨5,⟨#[44]⟩,0⟩ :: r):=JO (by decide) (by decide) (uI (by decide)) r
theorem LB (r:List Tk):Fin' (⟨1,⟨#[116,104,101,110]⟩,0⟩ :: r):=JN (by decide) (by decide) (uI (by decide)) r
theorem LD (r:List Tk):Fin' (⟨1,⟨#[101,108,115,101]⟩,0⟩ :: r):=JN (by decide) (by decide) (uI (by decide)) r
theorem nC (K:List Pc) (r:List Tk):tkl (sg ⟨#[40]⟩ :: (K++[sg ⟨#[41]⟩]))++r=⟨5,⟨#[40]⟩,0⟩ :: (tkl K++(⟨5,⟨#[41]⟩,0⟩ :: r)):=by
 rw [dG,gI,List.cons_append,List.append_assoc];rfl
theorem Prs.par (P:Prs i K x) (r:List Tk):Lo i .pr (tkl (sg ⟨#[40]⟩ :: (K++[sg ⟨#[41]⟩]))++r) x r:=by
 rw [nC];exact Lf 0 (P.ex _ (mM r)) rfl
theorem Prs.at (P:Prs i K x) (q:Int) (least:Nat) {r:List Tk} {z:Ex} {r':List Tk} (h1:rnk least≤q) (h2:Stp r) (h3:NoOp (tpq (rk x.h) q) r) (h4:Lo i (.tl least (tpq (rk x.h) q) x) r z r') :
    Lo i (.op least) (tkl (dY (rk x.h) q K)++r) z r':=by
 unfold dY tpq at *;by_cases h:rk x.h<q
 ·rw [if_pos h] at h3 h4 ⊢;exact Mk (by rw [nC];rfl) (FX (by rw [nC];rfl) (P.par r)) h4
 rw [if_neg h] at h3 h4 ⊢;exact P.op least r z r' (by omega) h2 h3 h4
theorem Prs.at8 (P:Prs i K x) {r:List Tk} (h2:Stp r):Lo i .ng (tkl (dY (rk x.h) 8 K)++r) x r:=by
 unfold dY;by_cases h:rk x.h<8
 ·rw [if_pos h];exact FX (by rw [nC];rfl) (P.par r)
 rw [if_neg h];exact P.ng (by omega) r h2
theorem Prs.Uy (P:Prs i K x) (q:Int) (hq:1≤q) (r:List Tk):isT ⟨#[105,102]⟩ (tkl (dY (rk x.h) q K)++r)=false:=by
 unfold dY;by_cases h:rk x.h<q
 ·rw [if_pos h,nC];rfl
 rw [if_neg h];exact P.nif (by omega) r
structure OpF (p:Pc) (op:ByteArray) (n:Nat) (q:Int):Prop where
 hit:∀ r,opr (n - 1) (tk0 p :: r)=op
 miss:∀ r,NoOp n (tk0 p :: r)
 stp:∀ r,Stp (tk0 p :: r)
 ne:op≠.empty
 nq:(n=1∧q=1)∨(n=2∧q=2)∨(n=3∧q=3)∨(n=4∧q=5)∨(n=5∧q=6)∨(n=6∧q=7)
def nxt (n:Nat):Nat:=if n=4 then 3 else n
theorem Ea {n:Nat} {q:Int} (h:(n=1∧q=1)∨(n=2∧q=2)∨(n=3∧q=3)∨(n=4∧q=5)∨(n=5∧q=6)∨(n=6∧q=7)) (h':Int) (hh:h'≤9):n≤tpq h' (lef q)∧n≤tpq h' (q+1)∧rnk n=q+1∧tpR q=nxt n∧nxt n≤n:=by
 unfold tpq tpR lef nxt;rcases h with ⟨rfl,rfl⟩ | ⟨rfl,rfl⟩ | ⟨rfl,rfl⟩ | ⟨rfl,rfl⟩ | ⟨rfl,rfl⟩ | ⟨rfl,rfl⟩ <;> refine ⟨?_,?_,rfl,by decide,by decide⟩ <;> (repeat (first | omega | split))
theorem Mc (h:Hd):rk h≤9:=by
 unfold rk rkO
 repeat (first | omega | split)
theorem Qm {n least:Nat} {q:Int} (h:(n=1∧q=1)∨(n=2∧q=2)∨(n=3∧q=3)∨(n=4∧q=5)∨(n=5∧q=6)∨(n=6∧q=7)) (hl:rnk least≤q):least<n∧rnk least≤lef q:=by
 unfold rnk at *;unfold lef;rcases h with ⟨rfl,rfl⟩ | ⟨rfl,rfl⟩ | ⟨rfl,rfl⟩ | ⟨rfl,rfl⟩ | ⟨rfl,rfl⟩ | ⟨rfl,rfl⟩ <;> (split at hl <;> (first | (exfalso;omega) | (refine ⟨by omega,?_⟩;split <;> omega)))
theorem Dy {p:Pc} {op:ByteArray} {n:Nat} {q:Int} (F:OpF p op n q) {K1 K2:List Pc} {a b:Ex} (A:Prs i K1 a) (B:Prs i K2 b) (hq:rk (bB op a b).h=q) (ht:bH (bB op a b).h=false) :
    Prs i (dY (rk a.h) (lef q) K1++(p :: sp (dY (rk b.h) (q+1) K2))) (bB op a b):=by
 obtain ⟨t1,_,rn,tn,nn⟩:=Ea F.nq (rk a.h) (Mc _);obtain ⟨_,t2,_⟩:=Ea F.nq (rk b.h) (Mc _);have e0:∀ r,tkl (dY (rk a.h) (lef q) K1++(p :: sp (dY (rk b.h) (q+1) K2)))++r=tkl (dY (rk a.h) (lef q) K1)++(tk0 p :: (tkl (dY (rk b.h) (q+1) K2)++r)):=by
  intro r;rw [gI,dG,kJ,List.append_assoc];rfl
 have hif:∀ r,isT ⟨#[105,102]⟩ (tkl (dY (rk a.h) (lef q) K1++(p :: sp (dY (rk b.h) (q+1) K2)))++r)=false:=fun r=>by
  rw [e0];exact A.Uy _ (by unfold lef;have:=F.nq;split <;> omega) _
 have op:∀ (least:Nat) (r:List Tk) (z:Ex) (r':List Tk),rnk least≤rk (bB op a b).h→Stp r→NoOp (tpR (rk (bB op a b).h)) r→Lo i (.tl least (tpR (rk (bB op a b).h)) (bB op a b)) r z r' →
     Lo i (.op least) (tkl (dY (rk a.h) (lef q) K1++(p :: sp (dY (rk b.h) (q+1) K2)))++r) z r':=by
   intro least r z r' hl hs hn e
   rw [hq] at hl hn e
   rw [tn] at hn e
   rw [e0]
   obtain ⟨hlt,hll⟩:=Qm F.nq hl
   refine A.at (lef q) least hll (F.stp _) ((F.miss _).mono t1) ?_
   refine Mj (Nat.le_of_lt hlt) t1 (zx _ _) (F.miss _) ?_
   refine Oq hlt (F.hit _) F.ne (y:=b) (r:=r) ?_ e
   refine B.at (q+1) n (Int.le_of_eq rn) hs (hn.mono (by omega)) ?_
   exact Aj (zx _ _) (hn.mono nn)
 refine ⟨fun r hF=>tC (by rw [hq];have:=F.nq;omega) hif op r hF,op,fun h=>?_,fun _=>hif,fun h=>by rw [ht] at h;cases h⟩;rw [hq] at h;have:=F.nq;omega
theorem KZ {k:Nat} {s:ByteArray} {l:List Tk} (h:∀ t,isT t l=decide (s=t)) (hs:s ∈ opL k):opr k l=s:=by
 unfold opr
 cases hf:(opL k).find? fun t=>isT t l with
 | none =>
   have:=List.find?_eq_none.1 hf s hs
   rw [h s] at this
   simp at this
 | some t =>
   have:=List.find?_some hf
   rw [h t,decide_eq_true_eq] at this
   exact this.symm
theorem IZ {k:Nat} {s:ByteArray} {l:List Tk} (h:∀ t,isT t l=decide (s=t)) (hs:∀ t ∈ opL k,s≠t):opr k l=.empty:=by
 unfold opr;rw [List.find?_eq_none.2 fun t ht=>by rw [h t,dF (hs t ht)];decide];rfl
def Uw (n:Nat):List ByteArray:=((List.range 6).filter fun k=>decide (n≤k)).flatMap opL
theorem iO {p:Pc} {op:ByteArray} {n:Nat} {q:Int} (hp:p.2=(1,op)∨p.2=(5,op)) (h1:(opL (n - 1)).any (fun t=>decide (op=t))=true) (h2:((Uw n).all fun t => !decide (op=t))=true) (h3:op≠⟨#[91]⟩) (h4:op≠⟨#[111,102]⟩) (h5:op≠.empty)
    (nq:(n=1∧q=1)∨(n=2∧q=2)∨(n=3∧q=3)∨(n=4∧q=5)∨(n=5∧q=6)∨(n=6∧q=7)):OpF p op n q:=by
 have hT:∀ r t,isT t (tk0 p :: r)=decide (op=t):=by
  intro r t;obtain ⟨b,k,s⟩:=p;rcases hp with h | h
  ·obtain ⟨rfl,rfl⟩:=Prod.mk.inj h;exact lC ..
  obtain ⟨rfl,rfl⟩:=Prod.mk.inj h;exact oL ..
 refine ⟨fun r=>KZ (hT r) ?_,fun r k hk hk6=>IZ (hT r) fun t ht=>?_,fun r=>⟨by rw [hT,dF h3],by rw [hT,dF h4]⟩,h5,nq⟩
 ·rw [List.any_eq_true] at h1;obtain ⟨t,ht,e⟩:=h1;rw [decide_eq_true_eq] at e;exact e ▸ ht
 have:=List.all_eq_true.1 h2 t (List.mem_flatMap.2 ⟨k,List.mem_filter.2 ⟨List.mem_range.2 hk6,by simpa using hk⟩,ht⟩);simpa using this
theorem NU:OpF (bw ⟨#[100,101,102,97,117,108,116]⟩) ⟨#[100,101,102,97,117,108,116]⟩ 1 1:=iO (.inl rfl) (by decide) (by decide) (by decide) (by decide) (by decide) (by omega)
theorem NV {op:ByteArray} (h:op=⟨#[43]⟩∨op=⟨#[45]⟩∨op=⟨#[42]⟩∨op=⟨#[47]⟩∨op=⟨#[61,61]⟩∨op=⟨#[33,61]⟩∨op=⟨#[60]⟩∨op=⟨#[60,61]⟩∨op=⟨#[97,110,100]⟩∨op=⟨#[111,114]⟩):(∃ n,OpF (opK op) op n (rkO op))∧op≠⟨#[100,101,102,97,117,108,116]⟩:=by
 rcases h with rfl | rfl | rfl | rfl | rfl | rfl | rfl | rfl | rfl | rfl
 ·exact ⟨⟨5,iO (.inr rfl) (by decide) (by decide) (by decide) (by decide) (by decide) (by decide)⟩,by decide⟩
 ·exact ⟨⟨5,iO (.inr rfl) (by decide) (by decide) (by decide) (by decide) (by decide) (by decide)⟩,by decide⟩
 ·exact ⟨⟨6,iO (.inr rfl) (by decide) (by decide) (by decide) (by decide) (by decide) (by decide)⟩,by decide⟩
 ·exact ⟨⟨6,iO (.inr rfl) (by decide) (by decide) (by decide) (by decide) (by decide) (by decide)⟩,by decide⟩
 ·exact ⟨⟨4,iO (.inr rfl) (by decide) (by decide) (by decide) (by decide) (by decide) (by decide)⟩,by decide⟩
 ·exact ⟨⟨4,iO (.inr rfl) (by decide) (by decide) (by decide) (by decide) (by decide) (by decide)⟩,by decide⟩
 ·exact ⟨⟨4,iO (.inr rfl) (by decide) (by decide) (by decide) (by decide) (by decide) (by decide)⟩,by decide⟩
 ·exact ⟨⟨4,iO (.inr rfl) (by decide) (by decide) (by decide) (by decide) (by decide) (by decide)⟩,by decide⟩
 ·exact ⟨⟨3,iO (.inl rfl) (by decide) (by decide) (by decide) (by decide) (by decide) (by decide)⟩,by decide⟩
 exact ⟨⟨2,iO (.inl rfl) (by decide) (by decide) (by decide) (by decide) (by decide) (by decide)⟩,by decide⟩
theorem len_nil {F:Fo} (h:F.len=0):F=.nil:=by
 cases F with
 | nil=>rfl
 | cons a b c=>simp [Fo.len] at h
theorem wS {F:Fo} (h:F.len=1):F=.cons (F.nth 0).h (F.nth 0).ar .nil:=by
 cases F with
 | nil=>simp [Fo.len] at h
 | cons a b c=>rw [len_nil (F:=c) (by simpa [Fo.len] using h)];rfl
theorem qW {F:Fo} (h:F.len=2):F=.cons (F.nth 0).h (F.nth 0).ar (.cons (F.nth 1).h (F.nth 1).ar .nil):=by
 cases F with
 | nil=>simp [Fo.len] at h
 | cons a b c =>
   have:=wS (F:=c) (by simpa [Fo.len] using h)
   show Fo.cons a b c=.cons a b (.cons (c.nth 0).h (c.nth 0).ar .nil)
   rw [← this]
theorem Jl {F:Fo} (h:F.len=3):F=.cons (F.nth 0).h (F.nth 0).ar (.cons (F.nth 1).h (F.nth 1).ar (.cons (F.nth 2).h (F.nth 2).ar .nil)):=by
 cases F with
 | nil=>simp [Fo.len] at h
 | cons a b c =>
   have:=qW (F:=c) (by simpa [Fo.len] using h)
   show Fo.cons a b c=.cons a b (.cons (c.nth 0).h (c.nth 0).ar (.cons (c.nth 1).h (c.nth 1).ar .nil))
   rw [← this]
def Prss (i:Bool) (K:List Ok') (F:Fo):Prop:=∀ j,j<F.len→Prs i (okK K j) (F.nth j)∧(ok' K j).2=(F.nth j).h
theorem Prss.p {i:Bool} {K:List Ok'} {F:Fo} (h:Prss i K F) {j:Nat} (hj:j<F.len) (q:Int):okP K j q=dY (rk (F.nth j).h) q (okK K j):=by
 unfold okP;rw [(h j hj).2];rfl
theorem Az (i:Bool) {k:Int} (h:k≠5):(i || decide (k=5))=i:=by rw [dF h,Bool.or_false]
variable {i:Bool} {g:Hd} {K:List Ok'} {F:Fo}
theorem II {m:ByteArray} (hm:name m=true) {x:Ex} (hr:rk x.h=9) (ht:bH x.h=false) (h:∀ r,Stp r→Lo i .pr (⟨1,m,0⟩ :: r) x r):Prs i [wd m] x :=
 jJ hr (fun r=>jL hm DN 0 r) (fun r=>jL hm Af 0 r) (fun r=>jL hm Ag 0 r) h fun e=>by rw [ht] at e;cases e
theorem NA {m:ByteArray} (hm:name m=true) {K:List Pc} {x:Ex} (P:Prs false K x):Prs false (wd m :: bw ⟨#[111,102]⟩ :: bs ⟨#[40]⟩ :: (K++[sg ⟨#[41]⟩])) (sQ m x):=by
 refine jJ rfl (fun r=>jL hm DN 0 _) (fun r=>jL hm Af 0 _) (fun r=>jL hm Ag 0 _) (fun r hs=>?_) (fun e=>by cases e);have e0:tkl (wd m :: bw ⟨#[111,102]⟩ :: bs ⟨#[40]⟩ :: (K++[sg ⟨#[41]⟩]))++r=⟨1,m,0⟩ :: ⟨1,⟨#[111,102]⟩,0⟩ :: ⟨5,⟨#[40]⟩,0⟩ :: (tkl K++(⟨5,⟨#[41]⟩,0⟩ :: r)):=by
  rw [dG,dG,dG,gI,List.cons_append,List.cons_append,List.cons_append,List.append_assoc];rfl
 rw [e0];exact Ji hm 0 (Ou hm 0 rfl (FV (r:=⟨5,⟨#[41]⟩,0⟩ :: r) rfl (P.ex _ (mM r)) rfl))
theorem Nz {K:List Pc} {x:Ex} (P:Prs i K x):Prs i (sg ⟨#[45]⟩ :: dY (rk x.h) 8 K) (fE ⟨#[45]⟩ x):=by
 refine IJ (by show (8:Int)≤8;decide) (fun r=>rfl) (fun r=>rfl) (fun r hs=>?_) (fun e=>by cases e);show Lo i .ng (⟨5,⟨#[45]⟩,0⟩ :: (tkl (dY (rk x.h) 8 K)++r)) _ _;exact Q7 rfl (P.at8 hs)
theorem Ny {K:List Pc} {x:Ex} (P:Prs i K x):Prs i (wd ⟨#[110,111,116]⟩ :: sp (dY (rk x.h) 4 K)) (fE ⟨#[110,111,116]⟩ x):=by
 have e0:∀ r,tkl (wd ⟨#[110,111,116]⟩ :: sp (dY (rk x.h) 4 K))++r=⟨1,⟨#[110,111,116]⟩,0⟩ :: (tkl (dY (rk x.h) 4 K)++r):=fun r=>by rw [dG,kJ];rfl
 have op:∀ (least:Nat) (r:List Tk) (z:Ex) (r':List Tk),rnk least≤rk (fE ⟨#[110,111,116]⟩ x).h→Stp r→NoOp (tpR (rk (fE ⟨#[110,111,116]⟩ x).h)) r→Lo i (.tl least (tpR (rk (fE ⟨#[110,111,116]⟩ x).h)) (fE ⟨#[110,111,116]⟩ x)) r z r' →
     Lo i (.op least) (tkl (wd ⟨#[110,111,116]⟩ :: sp (dY (rk x.h) 4 K))++r) z r':=by
   intro least r z r' hl hs hn e
   rw [e0]
   have h3:least≤3:=by
     have hl:rnk least≤4:=hl
     unfold rnk at hl
     split at hl <;> omega
   have hn:NoOp 3 r:=hn
   have t3:3≤tpq (rk x.h) 4:=by
     unfold tpq tpR
     repeat (first | omega | split)
   refine Q6 h3 rfl (P.at 4 3 (by decide) hs (hn.mono t3) (Aj (zx _ _) hn)) e
 exact ⟨fun r hF=>tC (by show (1:Int)≤4;decide) (fun r=>by rw [e0];rfl) op r hF,op,fun h=>absurd h (by show ¬ (8:Int)≤4;decide),fun _ r=>by rw [e0];rfl,fun e=>by cases e⟩
theorem KT {K:List Pc} {x:Ex} (P:Prs i K x):Prs i (wd ⟨#[110,117,108,108]⟩ :: sg ⟨#[40]⟩ :: (K++[sg ⟨#[41]⟩])) (fE ⟨#[110,117,108,108]⟩ x):=by
 refine jJ rfl (fun r=>rfl) (fun r=>rfl) (fun r=>rfl) (fun r hs=>?_) (fun e=>by cases e);have e0:tkl (wd ⟨#[110,117,108,108]⟩ :: sg ⟨#[40]⟩ :: (K++[sg ⟨#[41]⟩]))++r=⟨1,⟨#[110,117,108,108]⟩,0⟩ :: ⟨5,⟨#[40]⟩,0⟩ :: (tkl K++(⟨5,⟨#[41]⟩,0⟩ :: r)):=by
  rw [dG,dG,gI,List.cons_append,List.cons_append,List.append_assoc];rfl
 rw [e0];exact Oo 0 (FV (r:=⟨5,⟨#[41]⟩,0⟩ :: r) rfl (P.ex _ (mM r)) rfl)
theorem Qt {K1 K2 K3:List Pc} {a b c:Ex} (A:Prs i K1 a) (B:Prs i K2 b) (C:Prs i K3 c):Prs i (wd ⟨#[105,102]⟩ :: (sp K1++(bw ⟨#[116,104,101,110]⟩ :: (sp K2++(bw ⟨#[101,108,115,101]⟩ :: sp K3))))) (ifE a b c):=by
 refine ⟨fun r hF=>?_,fun least r z r' hl=>?_,fun h=>absurd h (by show ¬ (8:Int)≤0;decide),fun h=>absurd h (by show ¬ (1:Int)≤0;decide),fun e=>by cases e⟩
 ·have e0:tkl (wd ⟨#[105,102]⟩ :: (sp K1++(bw ⟨#[116,104,101,110]⟩ :: (sp K2++(bw ⟨#[101,108,115,101]⟩ :: sp K3)))))++r=⟨1,⟨#[105,102]⟩,0⟩ :: (tkl K1++(⟨1,⟨#[116,104,101,110]⟩,0⟩ :: (tkl K2++(⟨1,⟨#[101,108,115,101]⟩,0⟩ :: (tkl K3++r))))):=by
   rw [dG,gI,dG,gI,dG,kJ,kJ,kJ];simp only [List.cons_append,List.append_assoc];rfl
  rw [e0];exact TB (r:=⟨1,⟨#[116,104,101,110]⟩,0⟩ :: (tkl K2++(⟨1,⟨#[101,108,115,101]⟩,0⟩ :: (tkl K3++r)))) (r1:=⟨1,⟨#[101,108,115,101]⟩,0⟩ :: (tkl K3++r)) rfl (A.ex _ (LB _)) rfl (B.ex _ (LD _)) rfl (C.ex r hF)
 exfalso;have h1:=Nq least;have hl:rnk least≤0:=hl;omega
theorem NC {op t:ByteArray} {p wk ws:Int} (ht:name t=true) (hp:fH op p=true) (hw:fC wk ws=true) {K:List Ok'} {a c:Ex} (hc:op=⟨#[99,111,117,110,116]⟩→bH a.h=true) (A:Prs true (okK K 0) a) (C:Prs true (okK K 1) c) (hC:(ok' K 1).2=c.h) :
    Prs false (agK { h0 with k:=5,op:=op,tb:=t,pa:=p,wk:=wk,ws:=ws } K) (Bv op t p (wk,ws) a c):=by
 obtain ⟨_,_,_,_,_,_,n1,n2,n3⟩:=RP hp;have hh:∀ r,tkl (agK { h0 with k:=5,op:=op,tb:=t,pa:=p,wk:=wk,ws:=ws } K)++r=⟨1,op,0⟩ :: ⟨5,⟨#[40]⟩,0⟩ :: ⟨1,t,0⟩ :: (tkl (if op=⟨#[99,111,117,110,116]⟩ then [] else sg ⟨#[44]⟩ :: sp (okK K 0))++(tkl (if op=⟨#[113,117,97,110,116,105,108,101]⟩∨op=⟨#[100,101,99,97,121]⟩ then [sg ⟨#[44]⟩,nuK p] else [])++(⟨5,⟨#[44]⟩,0⟩ :: (tkl (wiK wk ws)++(tkl (if bH (ok' K 1).2=true then [] else bw ⟨#[119,104,101,114,101]⟩ :: sp (okK K 1))++(⟨5,⟨#[41]⟩,0⟩ :: r)))))):=by
  intro r;unfold agK;simp only [dG,gI,kJ,List.cons_append,List.append_assoc];rfl
 refine jJ rfl (fun r=>?_) (fun r=>?_) (fun r=>?_) (fun r hs=>?_) (fun e=>by cases e)
 ·rw [hh,lC,dF n3]
 ·rw [hh,lC,dF n2]
 ·rw [hh,lC,dF n1]
 rw [hh];have e3:∃ l2,(tkl (if bH (ok' K 1).2=true then [] else bw ⟨#[119,104,101,114,101]⟩ :: sp (okK K 1))++(⟨5,⟨#[41]⟩,0⟩ :: r))=l2∧((l2=⟨5,⟨#[41]⟩,0⟩ :: r∧c=bZ 1∧isT ⟨#[119,104,101,114,101]⟩ (⟨5,⟨#[41]⟩,0⟩ :: r)=false)∨(isT ⟨#[119,104,101,114,101]⟩ l2=true∧Lo true .ex l2.tail c (⟨5,⟨#[41]⟩,0⟩ :: r))):=by
  rw [hC]
  cases hq:bH c.h with
  | true=>exact ⟨_,rfl,.inl ⟨rfl,C.tru hq,rfl⟩⟩
  | false =>
    refine ⟨_,rfl,.inr ⟨by rw [if_neg (by decide),dG];rfl,?_⟩⟩
    rw [if_neg (by decide),dG,kJ]
    exact C.ex _ (mM r)
 obtain ⟨l2,hl2,e3⟩:=e3;rw [hl2];by_cases hq:op=⟨#[99,111,117,110,116]⟩
 ·have hqd:¬ (op=⟨#[113,117,97,110,116,105,108,101]⟩∨op=⟨#[100,101,99,97,121]⟩):=by rw [hq];decide
  rw [if_pos hq,if_neg hqd];exact Jk hp 0 (Ml (l:=tkl (wiK wk ws)++l2) (l1:=tkl (wiK wk ws)++l2) (l3:=⟨5,⟨#[41]⟩,0⟩ :: r) ht hw hp (.inl ⟨hq,rfl,A.tru (hc hq)⟩) (by rw [if_neg hqd];rfl) e3 rfl)
 rw [if_neg hq]
 have e1:tkl (sg ⟨#[44]⟩ :: sp (okK K 0))++(tkl (if op=⟨#[113,117,97,110,116,105,108,101]⟩∨op=⟨#[100,101,99,97,121]⟩ then [sg ⟨#[44]⟩,nuK p] else [])++(⟨5,⟨#[44]⟩,0⟩ :: (tkl (wiK wk ws)++l2))) =
     ⟨5,⟨#[44]⟩,0⟩ :: (tkl (okK K 0)++(⟨5,⟨#[44]⟩,0⟩ :: ((if op=⟨#[113,117,97,110,116,105,108,101]⟩∨op=⟨#[100,101,99,97,121]⟩ then [⟨2,⟨(Lib.itoa p).toArray⟩,0⟩,⟨5,⟨#[44]⟩,0⟩] else [])++(tkl (wiK wk ws)++l2)))):=by
   rw [dG,kJ]
   split <;> rfl
 rw [e1];exact Jk hp 0 (Ml (l3:=⟨5,⟨#[41]⟩,0⟩ :: r) ht hw hp (.inr ⟨hq,A.ex _ (JQ _)⟩) rfl e3 rfl)
theorem DK {h:Hd} {n:Nat} (N:Nod i g h n) (G:Prss (i || decide (h.k=5)) K F) (hn:F.len=n) (hg:g=(F.nth 0).h):Prs i (lZ h K) ⟨h,F⟩:=by
 cases N with
 | boo n e =>
   rw [len_nil hn]
   refine jJ rfl (fun r=>?_) (fun r=>?_) (fun r=>?_) (fun r _=>Rb e 0) (fun ht=>?_)
   iterate 3 rcases e with rfl | rfl <;> rfl
   rcases e with rfl | rfl
   · cases ht
   · rfl
 | num k n u hk h0 h1 hu =>
   rw [len_nil hn]
   rcases hk with rfl | rfl
   · exact jJ rfl (fun r=>rfl) (fun r=>rfl) (fun r=>rfl) (fun r hs=>Q9 h0 h1 (Dh hu hs.sq) 0) (fun ht=>by cases ht)
   · exact jJ rfl (fun r=>rfl) (fun r=>rfl) (fun r=>rfl) (fun r hs=>Ra h0 h1 (Dh hu hs.sq) 0) (fun ht=>by cases ht)
 | tex s h1 h2 =>
   rw [len_nil hn]
   exact jJ rfl (fun r=>rfl) (fun r=>rfl) (fun r=>rfl) (fun r hs=>Om s 0) (fun ht=>by cases ht)
 | key m s hm h0 h1 h2 =>
   rw [len_nil hn]
   exact jJ rfl (fun r=>rfl) (fun r=>rfl) (fun r=>rfl) (fun r hs=>Q8 hm (of_decide_eq_true (QD h0 h1 h2)) 0 0 0) (fun ht=>by cases ht)
 | fie m hi hm =>
   rw [len_nil hn,hi]
   exact II hm rfl rfl fun r _=>Lg hm 0
 | fea m hi hm =>
   rw [len_nil hn,hi]
   exact II hm rfl rfl fun r hs=>Ji hm 0 (Ov hm 0 hs.of)
 | loo m hi hm =>
   rw [Az i (by show ¬ (4:Int)=5;decide),hi] at G
   rw [hi]
   have A:=(G 0 (by omega)).1
   have e:(⟨{ h0 with k:=4,nm:=m },F⟩:Ex)=sQ m (F.nth 0):=by unfold sQ;rw [← wS hn]
   rw [e]
   exact NA hm A
 | agg op t p wk ws hi ht hp hw hc =>
   rw [hi,show (false || decide (({ h0 with k:=5,op:=op,tb:=t,pa:=p,wk:=wk,ws:=ws } : Hd).k=5))=true from rfl] at G
   rw [hi]
   obtain ⟨A,_⟩:=G 0 (by omega)
   obtain ⟨C,hC⟩:=G 1 (by omega)
   have e:(⟨{ h0 with k:=5,op:=op,tb:=t,pa:=p,wk:=wk,ws:=ws },F⟩:Ex)=Bv op t p (wk,ws) (F.nth 0) (F.nth 1):=by unfold Bv;rw [← qW hn]
   rw [e]
   exact NC ht hp hw (fun e=>hg ▸ hc e) A C hC
 | una op ho =>
   rw [Az i (by show ¬ (6:Int)=5;decide)] at G
   have A:=(G 0 (by omega)).1
   have hp:=fun q=>G.p (j:=0) (by omega) q
   have e:(⟨{ h0 with k:=6,op:=op },F⟩:Ex)=fE op (F.nth 0):=by unfold fE;rw [← wS hn]
   rw [e]
   rcases ho with rfl | rfl | rfl
   · show Prs i (sg ⟨#[45]⟩ :: okP K 0 8) _
     rw [hp]
     exact Nz A
   · show Prs i (wd ⟨#[110,111,116]⟩ :: sp (okP K 0 4)) _
     rw [hp]
     exact Ny A
   · exact KT A
 | bin op ho =>
   rw [Az i (by show ¬ (7:Int)=5;decide)] at G
   have A:=(G 0 (by omega)).1
   have B:=(G 1 (by omega)).1
   obtain ⟨⟨n,OF⟩,hd⟩:=NV ho
   have e:(⟨{ h0 with k:=7,op:=op },F⟩:Ex)=bB op (F.nth 0) (F.nth 1):=by unfold bB;rw [if_neg hd,← qW hn]
   have eh:(bB op (F.nth 0) (F.nth 1)).h = { h0 with k:=7,op:=op }:=by rw [← e]
   rw [e]
   show Prs i (okP K 0 (lef (rkO op))++(opK op :: sp (okP K 1 (rkO op+1)))) _
   rw [G.p (j:=0) (by omega),G.p (j:=1) (by omega)]
   exact Dy OF A B (by rw [eh];rfl) (by rw [eh];rfl)
 | iff =>
   rw [Az i (by show ¬ (8:Int)=5;decide)] at G
   have e:(⟨{ h0 with k:=8 },F⟩:Ex)=ifE (F.nth 0) (F.nth 1) (F.nth 2):=by unfold ifE;rw [← Jl hn]
   rw [e]
   exact Qt (G 0 (by omega)).1 (G 1 (by omega)).1 (G 2 (by omega)).1
 | dfl =>
   rw [Az i (by show ¬ (9:Int)=5;decide)] at G
   have e:(⟨{ h0 with k:=9 },F⟩:Ex)=bB ⟨#[100,101,102,97,117,108,116]⟩ (F.nth 0) (F.nth 1):=by unfold bB;rw [if_pos rfl,← qW hn]
   rw [e]
   show Prs i (okP K 0 1++(bw ⟨#[100,101,102,97,117,108,116]⟩ :: sp (okP K 1 2))) _
   rw [G.p (j:=0) (by omega),G.p (j:=1) (by omega)]
   exact Dy NU (G 0 (by omega)).1 (G 1 (by omega)).1 rfl rfl
theorem sM:∀ (F:Fo) (i:Bool),fmA i F=true→Prss i (xkF F) F
 | .nil,_,_=>fun j hj=>absurd hj (Nat.not_lt_zero _)
 | .cons h ar r,i,e=>by
  obtain ⟨e1,e2,e3⟩:=nV e
  have g:=DK (gK e1) (sM ar _ e2) rfl rfl
  have gr:=sM r i e3
  intro j hj
  cases j with
  | zero=>exact ⟨g,rfl⟩
  | succ j =>
   have:=gr j (by simpa [Fo.len] using hj)
   exact ⟨by simpa [okK,ok',xkF,Fo.nth] using this.1,by simpa [ok',xkF,Fo.nth] using this.2⟩
theorem Dz {i:Bool} {x:Ex} (e:fmE i x=true):Prs i (xkE x) x:=by
 have e':(aX i x.h x.ar.len (x.ar.nth 0).h && fmA (i || decide (x.h.k=5)) x.ar)=true:=e;rw [Bool.and_eq_true] at e';exact DK (gK e'.1) (sM x.ar _ e'.2) rfl rfl
theorem Eu (t:ByteArray) (a:Int):Fin' [⟨6,t,a⟩]:=⟨⟨rfl,rfl⟩,fun k _ _=>by unfold opr;rw [List.find?_eq_none.2 fun t _=>by rw [TI (by decide) (by decide)];decide];rfl⟩
theorem vL {e e':Tk} (he:e.k=6) (hk:e'.k=e.k) (ht:e'.t=e.t):∀ {l r:List Tk},l.map kt=r.map kt→pa.SimR (fun _ _=>True) (l++[e]) (r++[e'])
 | [],[],_=>.last he hk ht trivial
 | x :: l,y :: r,h=>by
  rw [List.map_cons,List.map_cons] at h
  obtain ⟨h1,h2⟩:=List.cons.inj h
  obtain ⟨h3,h4⟩:=Prod.mk.inj h1
  exact .cons h3.symm h4.symm trivial (vL he hk ht h2)
 | [],y :: r,h=>by cases h
 | x :: l,[],h=>by cases h
theorem Hw (K:List Pc):(tkl K).map kt=K.map (·.2):=by
 unfold tkl;rw [List.map_map];rfl
theorem Hz {K:List Pc} {T:List UInt8} (g:Gd K T) {s:ByteArray} (hs:s.data.toList=T) (hl:T.length≤16384) :
    fF s=0∧iJ s=[]∧pa.SimR (fun _ _=>True) (tkl K++[⟨6,.empty,0⟩]) (cu s):=by
 obtain ⟨L,a,b⟩:=wN g.w;rw [g.b,← hs] at a;have hz:¬16384<s.size:=by
  have:s.data.toList.length=s.size:=aI s;rw [hs] at this;omega
 refine ⟨by unfold fF;rw [if_neg hz],by unfold iJ;rw [if_neg hz,a];rfl,?_⟩;unfold cu;rw [if_neg hz,a];exact vL (e:=⟨6,.empty,0⟩) (e':=kg s) rfl rfl rfl ((Hw K).trans b.symm)
end ch
section
open Go.RowKit dec
def Fo.sm:Fo→Prop
 | .nil=>True
 | .cons h ar r=>h.un.length≤1048576∧ar.len≤1048576∧ar.sm∧r.sm
def Ex.sm (x:Ex):Prop:=x.h.un.length≤1048576∧x.ar.len≤1048576∧x.ar.sm
theorem sm1 {h:Hd} {x:Ex} (hu:h.un=[]) (hx:x.sm):Ex.sm ⟨h,.cons x.h x.ar .nil⟩:=by
 refine ⟨by rw [hu];decide,by simp [Fo.len],hx.1,hx.2.1,hx.2.2,trivial⟩
theorem sm2 {h:Hd} {x y:Ex} (hu:h.un=[]) (hx:x.sm) (hy:y.sm):Ex.sm ⟨h,.cons x.h x.ar (.cons y.h y.ar .nil)⟩:=by
 refine ⟨by rw [hu];decide,by simp [Fo.len],hx.1,hx.2.1,hx.2.2,hy.1,hy.2.1,hy.2.2,trivial⟩
theorem sm3 {h:Hd} {x y z:Ex} (hu:h.un=[]) (hx:x.sm) (hy:y.sm) (hz:z.sm):Ex.sm ⟨h,.cons x.h x.ar (.cons y.h y.ar (.cons z.h z.ar .nil))⟩:=by
 refine ⟨by rw [hu];decide,by simp [Fo.len],hx.1,hx.2.1,hx.2.2,hy.1,hy.2.1,hy.2.2,hz.1,hz.2.1,hz.2.2,trivial⟩
theorem sm0 {h:Hd} (hu:h.un.length≤1048576):Ex.sm ⟨h,.nil⟩:=⟨hu,by simp [Fo.len],trivial⟩
theorem Ph {op:ByteArray} {x y:Ex} (hx:x.sm) (hy:y.sm):(bB op x y).sm:=by
 unfold bB;split
 ·exact sm2 rfl hx hy
 exact sm2 rfl hx hy
theorem Oh (u:List un.Fa):(un.nL u).length≤4:=by
 unfold un.nL;split
 ·rename_i h;exact (un.Oi h).2.2
 exact Nat.zero_le _
theorem Hl {l r:List Tk} {u:List un.Fa} (h:uni l=.ok u r):u.length≤1048576:=by
 unfold uni at h;split at h
 ·obtain ⟨v,q,h1,h2⟩:=bind_ok h;obtain ⟨_,q',h3,h4⟩:=bind_ok h2;split at h4
  ·cases h4;have:=Oh v;omega
  cases h4
 cases h;exact Nat.zero_le _
def Md.sm:Md→Prop
 | .tl _ _ y=>y.sm
 | _=>True
theorem vC (n:Int):(bZ n).sm:=sm0 (by simp [h0])
theorem SQ:∀ (f:Nat) (i:Bool) (m:Md) (l:List Tk) (x:Ex) (r:List Tk),m.sm→pz f i m l=.ok x r→x.sm:=by
 intro f
 induction f with
 | zero=>intro i m l x r _ h;cases h
 | succ f ih =>
   intro i m l x r hm h
   cases m with
   | ex =>
     simp only [pz] at h
     split at h
     · obtain ⟨a,q1,h1,h⟩:=bind_ok h
       obtain ⟨_,q2,h2,h⟩:=bind_ok h
       obtain ⟨b,q3,h3,h⟩:=bind_ok h
       obtain ⟨_,q4,h4,h⟩:=bind_ok h
       obtain ⟨c,q5,h5,h⟩:=bind_ok h
       cases h
       exact sm3 rfl (ih _ _ _ _ _ (by exact trivial) h1) (ih _ _ _ _ _ (by exact trivial) h3) (ih _ _ _ _ _ (by exact trivial) h5)
     · exact ih _ _ _ _ _ (by exact trivial) h
   | op least =>
     simp only [pz] at h
     split at h
     · obtain ⟨a,q1,h1,h⟩:=bind_ok h
       exact ih _ (.tl _ _ _) _ _ _ (sm1 rfl (ih _ _ _ _ _ (by exact trivial) h1)) h
     · obtain ⟨a,q1,h1,h⟩:=bind_ok h
       exact ih _ (.tl _ _ _) _ _ _ (ih _ _ _ _ _ (by exact trivial) h1) h
   | tl least n y =>
     simp only [pz] at h
     split at h
     · cases h
       exact hm
     · split at h
       · exact ih _ (.tl _ (n - 1) y) _ _ _ (by exact hm) h
       · obtain ⟨a,q1,h1,h⟩:=bind_ok h
         exact ih _ (.tl _ _ _) _ _ _ (Ph hm (ih _ _ _ _ _ (by exact trivial) h1)) h
   | ng =>
     simp only [pz] at h
     split at h
     · obtain ⟨a,q1,h1,h⟩:=bind_ok h
       cases h
       exact sm1 rfl (ih _ _ _ _ _ (by exact trivial) h1)
     · exact ih _ _ _ _ _ (by exact trivial) h
   | pa =>
     simp only [pz] at h
     obtain ⟨_,q1,h1,h⟩:=bind_ok h
     obtain ⟨a,q2,h2,h⟩:=bind_ok h
     obtain ⟨_,q3,h3,h⟩:=bind_ok h
     cases h
     exact ih _ _ _ _ _ (by exact trivial) h2
   | rf =>
     simp only [pz] at h
     obtain ⟨n,q1,h1,h⟩:=bind_ok h
     split at h
     · obtain ⟨a,q2,h2,h⟩:=bind_ok h
       cases h
       exact sm1 rfl (ih _ _ _ _ _ (by exact trivial) h2)
     · cases h
       exact sm0 (by simp [h0])
   | ag =>
     simp only [pz] at h
     obtain ⟨op,q1,h1,h⟩:=bind_ok h
     obtain ⟨_,q2,h2,h⟩:=bind_ok h
     obtain ⟨t,q3,h3,h⟩:=bind_ok h
     obtain ⟨_,q4,h4,h⟩:=bind_ok h
     obtain ⟨a,q5,h5,h⟩:=bind_ok h
     have g5:a.sm:=by
       split at h5
       · cases h5;exact vC 1
       · obtain ⟨_,p1,k1,h5⟩:=bind_ok h5
         obtain ⟨_,p2,k2,h5⟩:=bind_ok h5
         cases h5
         exact ih _ _ _ _ _ (by exact trivial) k1
     obtain ⟨n,q6,h6,h⟩:=bind_ok h
     obtain ⟨w,q7,h7,h⟩:=bind_ok h
     obtain ⟨b,q8,h8,h⟩:=bind_ok h
     have g8:b.sm:=by
       split at h8
       · exact ih _ _ _ _ _ (by exact trivial) h8
       · cases h8;exact vC 1
     obtain ⟨_,q9,h9,h⟩:=bind_ok h
     cases h
     exact sm2 rfl g5 g8
   | pr =>
     simp only [pz] at h
     split at h
     · obtain ⟨n,q1,h1,h⟩:=bind_ok h
       obtain ⟨u,q2,h2,h⟩:=bind_ok h
       cases h
       exact sm0 (Hl h2)
     split at h
     · obtain ⟨n,q1,h1,h⟩:=bind_ok h
       obtain ⟨u,q2,h2,h⟩:=bind_ok h
       cases h
       exact sm0 (Hl h2)
     split at h
     · obtain ⟨n,q1,h1,h⟩:=bind_ok h
       cases h
       exact sm0 (by simp [h0])
     split at h
     · cases h;exact vC 1
     split at h
     · cases h;exact vC 0
     split at h
     · obtain ⟨n,q,h1,h2⟩:=bind_ok h
       obtain ⟨s,q',h3,h4⟩:=bind_ok h2
       split at h4
       · cases h4
         exact sm0 (by simp [h0])
       · cases h4
     split at h
     · obtain ⟨n,q1,h1,h⟩:=bind_ok h
       cases h
       exact sm1 rfl (ih _ _ _ _ _ (by exact trivial) h1)
     split at h
     · exact ih _ _ _ _ _ (by exact trivial) h
     split at h
     · obtain ⟨n,q1,h1,h⟩:=bind_ok h
       cases h
       exact sm0 (by simp [h0])
     split at h
     · exact ih _ _ _ _ _ (by exact trivial) h
     · exact ih _ _ _ _ _ (by exact trivial) h
end
namespace ch
open Go.RowKit dec
theorem Dc {C:Nat} {w:World} {a:Option Addr} {l:List un.Fa} (h:Us C w a l) (hl:l.length≤1048576) (c:Nat):un.Sl w a l.length c l :=
 ⟨h.imp id fun ⟨b,off,e,_,hC,_⟩=>⟨b,off,e,hC⟩,rfl,Nat.zero_le _,by omega,trivial⟩
theorem La {w:World} {b off:Nat} {h:Hd} {ua:Option Addr} {uc:Nat} {aa:Option Addr} {an ac:Nat} (N:Nd w b off h ua uc aa an ac):w.rangeAt b off (exC h an ua uc aa ac).toList:=by
 obtain ⟨n0,n1,n2,n3,n4,n5,n6,n7,n8,n9,n10,n11⟩:=N;intro j v hv;simp only [exC] at hv
 match j,hv with
 | 0,hv=>cases hv;exact n0
 | 1,hv=>cases hv;exact n1
 | 2,hv=>cases hv;exact n2
 | 3,hv=>cases hv;exact n3
 | 4,hv=>cases hv;exact n4
 | 5,hv=>cases hv;exact n5
 | 6,hv=>cases hv;exact n6
 | 7,hv=>cases hv;exact n7
 | 8,hv=>cases hv;exact n8
 | 9,hv=>cases hv;exact n9
 | 10,hv=>cases hv;exact n10
 | 11,hv=>cases hv;exact n11
 | j+12,hv=>simp at hv
theorem xg {C:Nat} {w:World} : ∀ (F:Fo) (b off:Nat),Fm C w F b off→F.sm→FoV w F b off
 | .nil,_,_,_,_=>trivial
 | .cons h ar r,b,off,hF,hs=>by
  obtain ⟨⟨ua,uc,aa,ac,N,U,A⟩,R⟩:=hF
  obtain ⟨s1,s2,s3,s4⟩:=hs
  exact ⟨⟨ua,uc,aa,ac,La N,Dc U s1 uc,⟨Nat.zero_le _,by omega,trivial⟩,A.imp id fun ⟨b',off',e,_,_,hF'⟩=>⟨b',off',e,xg ar b' off' hF' s3⟩⟩,xg r b (off+12) R s4⟩
theorem Pm {C:Nat} {w:World} {a:Option Addr} {F:Fo} (h:As C w a F) (hl:F.len≤1048576) (hs:F.sm) (c:Nat):Fs w a F.len c F :=
 ⟨h.imp id fun ⟨b,off,e,_,_,hF⟩=>⟨b,off,e,xg F b off hF hs⟩,rfl,Nat.zero_le _,by omega,trivial⟩
theorem OW {C:Nat} {w:World} {x:Ex} {ua aa:Option Addr} (h:Go.Proofs.YtbahfelnbofjjaaGreatDoor.Ec C w x ua aa) (hs:x.sm) (uc ac:Nat):Ec w x ua uc aa ac :=
 ⟨Dc h.us hs.1 uc,Pm h.ar hs.2.1 hs.2.2 ac⟩
theorem OV {C:Nat} {w:World} {v:Value} {x:Ex} (h:Ev C w v x) (hs:x.sm):∃ ua uc aa ac,v=.agg (exC x.h x.ar.len ua uc aa ac)∧Ec w x ua uc aa ac:=by
 obtain ⟨ua,uc,aa,ac,e,U⟩:=h;exact ⟨ua,uc,aa,ac,e,OW U hs uc ac⟩
theorem uq:∀ (F:Fo) (n:Int),0≤n→n+(F.sz:Int)≤1000000→szA F n=n+(F.sz:Int)
 | .nil,n,_,_=>by simp [szA,Fo.sz]
 | .cons h ar r,n,h0,hn=>by
  have e:(Fo.cons h ar r).sz=ar.sz+r.sz+1:=rfl
  rw [e] at hn ⊢
  have k:wrap64 (n+szA ar 1)=n+1+(ar.sz:Int):=by
   rw [uq ar 1 (by omega) (by omega)]
   unfold wrap64
   omega
  show szA r (wrap64 (n+szA ar 1))=_
  rw [k,uq r _ (by omega) (by omega)]
  omega
theorem Hr {x:Ex} (h:shE x=0) (hz:x.ar.sz≤3000):(txE x).length≤16384:=by
 have f:=Dj (jh h);have k:szE x=1+(x.ar.sz:Int):=uq x.ar 1 (by omega) (by omega);have h64:¬ (64<szE x∨12<dpE x):=fun c=>by
  unfold shE at h;rw [if_pos c] at h;cases h
 omega
theorem KM {x:Ex} (hx:fmE false x=true):x.sm:=by
 obtain ⟨f,e⟩:=(Dz hx).ex _ (Eu .empty 0);exact SQ _ _ .ex _ _ _ trivial (e f lr)
theorem EG (l:List UInt8):(B8 l).data.toList=l:=rfl
def faV (e:Int):Nat:=if e=0 then 0 else if e=1 then 2 else if e<0 then 5 else 4
theorem Es (x:un.Fa):(faK x).length≤4∧(x.2≠0→(faK x).length+1=faV x.2)∧(0≤x.2→(faK x).length≤3)∧(x.2=1→(faK x).length=1):=by
 unfold faK faV;by_cases h1:x.2=1
 ·simp [h1]
 by_cases h2:x.2<0
 ·simp [h1,h2]
  try omega
 simp [h1,h2]
 try omega
theorem OQ (e:Int):faV e≤5:=by unfold faV;repeat (first | omega | split)
def kZ (l:List un.Fa):Nat:=(l.map fun x=>faV x.2).sum
theorem Ic {u:List un.Fa} (h:un.Srt u):(u.map (·.1)).Pairwise fun a b=>a≠b:=by
 rw [List.pairwise_map];exact h.imp fun h e=>un.ql h e
theorem MR {u:List un.Fa} (h:∀ x ∈ u,x.2≠0) (hne:u≠[]):(unK u).length=1+kZ u:=by
 cases u with
 | nil=>exact absurd rfl hne
 | cons x r =>
   have key:∀ r:List un.Fa,(∀ x ∈ r,x.2≠0)→((r.map fun y=>sg ⟨#[42]⟩ :: faK y).flatten).length=kZ r:=by
     intro r
     induction r with
     | nil=>intro _;rfl
     | cons y r ih =>
       intro h
       have h1:=(Es y).2.1 (h y (List.mem_cons_self ..))
       have h2:=ih fun z hz=>h z (List.mem_cons_of_mem _ hz)
       have:kZ (y :: r)=faV y.2+kZ r:=by unfold kZ;rw [List.map_cons,List.sum_cons]
       rw [List.map_cons,List.flatten_cons,List.length_append,List.length_cons]
       omega
   have h1:=(Es x).2.1 (h x (List.mem_cons_self ..))
   have h2:=key r fun z hz=>h z (List.mem_cons_of_mem _ hz)
   have:kZ (x :: r)=faV x.2+kZ r:=by unfold kZ;rw [List.map_cons,List.sum_cons]
   unfold unK
   rw [List.length_cons,List.length_append,List.length_append]
   simp only [List.length_cons,List.length_nil]
   omega
theorem Ac {i:Bool} {h:Hd} {n:Nat} {g:Hd} (N:Nod i g h n) {T:List Od} (hn:T.length=n):(dH h T).length+2≤232+kX T:=by
 cases N with
 | boo n e =>
   have e1:dH { h0 with k:=1,vk:=1,vn:=n } T=fm ⟨1,n,.empty⟩++[]:=rfl
   rw [e1]
   rcases e with rfl | rfl
   · rw [fO (by decide)];show 5+2≤_;omega
   · rw [fO (by decide)];show 4+2≤_;omega
 | num k n u hk h0 h1 hu =>
   have e1:dH { Go.Proofs.YtbahfelnbofjjaaGreatDoor.h0 with k:=1,vk:=k,vn:=n,un:=u } T=fm ⟨k,n,.empty⟩++uT u:=by
     show liT _=_
     unfold liT
     rw [if_neg (by show ¬ k=5;omega)]
     rfl
   rw [e1,qA hk h0 h1,List.length_append]
   have a1:=pI hu
   have a2:=fB n h0 h1
   have a3:=AV h0 h1
   split <;> omega
 | tex s h1 h2 =>
   have e1:dH { h0 with k:=1,vk:=4,vs:=s } T=fm ⟨4,0,s⟩++[]:=rfl
   rw [e1,fO (qQ h1 h2),List.append_nil]
   show (34 :: (s.data.toList++[34])).length+2≤_
   simp;omega
 | key m s hm h0 h1 h2 =>
   have a1:=dn hm
   show (64 :: (m.data.toList++32 :: 34 :: (s.data.toList++[34]))).length+2≤_
   rw [aI] at a1
   simp;omega
 | fie m hi hm=>have a1:=dn hm;show m.data.toList.length+2≤_;omega
 | fea m hi hm=>have a1:=dn hm;show m.data.toList.length+2≤_;omega
 | loo m hi hm =>
   have a1:=dn hm
   rw [uK T hn]
   show (m.data.toList++([32,111,102,32,40]++(odT T 0++[41]))).length+2≤_
   rw [aI] at a1
   simp;omega
 | agg op t p wk ws hi ht hp hw hc =>
   have a1:=dn ht
   have a2:=tQ hp
   have a3:=qJ hw
   have a4:(Lib.itoa p).length≤20:=by
     rcases jc hp with h | h
     · exact fB p (by omega) (by omega)
     · exact fB p (by omega) (by omega)
   rw [lN T hn]
   show (agT { h0 with k:=5,op:=op,tb:=t,pa:=p,wk:=wk,ws:=ws } T).length+2≤_
   unfold agT
   rw [aI] at a1 a2
   have b1:(if op=⟨#[99,111,117,110,116]⟩ then [] else 44 :: 32 :: odT T 0:List UInt8).length≤(odT T 0).length+2:=by split <;> simp
   have b2:(if op=⟨#[113,117,97,110,116,105,108,101]⟩∨op=⟨#[100,101,99,97,121]⟩ then 44 :: 32 :: Lib.itoa p else []:List UInt8).length≤22:=by split <;> simp;omega
   have b3:(if bH (od T 1).2=true then [] else [32,119,104,101,114,101,32]++odT T 1:List UInt8).length≤(odT T 1).length+7:=by split <;> simp
   simp only [List.length_append,List.length_cons,List.length_nil,aI] at *
   omega
 | una op ho =>
   rw [uK T hn]
   rcases ho with rfl | rfl | rfl
   · have:=fP T 0 8
     show (45 :: odP T 0 8).length+2≤_
     simp;omega
   · have:=fP T 0 4
     show ([110,111,116,32]++odP T 0 4).length+2≤_
     simp;omega
   · show ([110,117,108,108,40]++(odT T 0++[41])).length+2≤_
     simp;omega
 | bin op ho =>
   rw [lN T hn]
   have a1:=fP T 0 (lef (rkO op))
   have a2:=fP T 1 (rkO op+1)
   have a3:op.data.toList.length≤3:=by rcases ho with rfl | rfl | rfl | rfl | rfl | rfl | rfl | rfl | rfl | rfl <;> decide
   show (odP T 0 (lef (rkO op))++(32 :: (op.data.toList++32 :: odP T 1 (rkO op+1)))).length+2≤_
   rw [aI] at a3
   simp only [List.length_append,List.length_cons,aI]
   omega
 | iff =>
   rw [DJ T hn]
   show ([105,102,32]++(odT T 0++([32,116,104,101,110,32]++(odT T 1++([32,101,108,115,101,32]++odT T 2))))).length+2≤_
   simp;omega
 | dfl =>
   rw [lN T hn]
   have a1:=fP T 0 1
   have a2:=fP T 1 2
   show (odP T 0 1++([32,100,101,102,97,117,108,116,32]++odP T 1 2)).length+2≤_
   simp only [List.length_append]
   simp;omega
theorem rY:∀ (F:Fo) (i:Bool),fmA i F=true→kX (txF F)≤232 * F.sz
 | .nil,_,_=>Nat.le_refl 0
 | .cons h ar r,i,e=>by
  obtain ⟨e1,e2,e3⟩:=nV e
  have a1:=Ac (gK e1) (iX ar)
  have a2:=rY ar _ e2
  have a3:=rY r i e3
  have:kX (txF (.cons h ar r))=(dH h (txF ar)).length+2+kX (txF r):=rfl
  rw [this]
  simp only [Fo.sz]
  omega
theorem KE {i:Bool} {x:Ex} (e:fmE i x=true):(txE x).length+2≤232 * (x.ar.sz+1):=by
 have e':(aX i x.h x.ar.len (x.ar.nth 0).h && fmA (i || decide (x.h.k=5)) x.ar)=true:=e;rw [Bool.and_eq_true] at e';have a1:=Ac (gK e'.1) (iX x.ar);have a2:=rY x.ar _ e'.2;show (dH x.h (txF x.ar)).length+2≤_;omega
def r9 (l:List Ok'):Nat:=(l.map fun q=>q.1.length+2).sum
theorem Qw (r q:Int) (l:List Pc):(dY r q l).length≤l.length+2:=by unfold dY;split <;> simp
theorem RzA:∀ l:List un.Fa,kZ l≤5 * l.length
  | [] => Nat.le_refl 0
  | a :: b => by
    have h1:=OQ a.2
    have h2:=RzA b
    have e:kZ (a :: b)=faV a.2+kZ b:=by unfold kZ;simp
    rw [e,List.length_cons]
    omega
theorem Rz {u:List un.Fa} (h:Un u) (hne:u≠[]):(unK u).length≤21:=by
 have h4:=h.o.le;rw [MR (fun x hx=>(nX h hx).2.2) hne];have:=RzA u;omega
theorem Ms {K:List Ok'} (h:K.length=1):(okK K 0).length+2=r9 K:=by
 match K,h with
 | [a],_=>show a.1.length+2=a.1.length+2+0;rfl
theorem Gb {K:List Ok'} (h:K.length=2):(okK K 0).length+(okK K 1).length+4=r9 K:=by
 match K,h with
 | [a,b],_=>show a.1.length+b.1.length+4=a.1.length+2+(b.1.length+2+0);omega
theorem OB {K:List Ok'} (h:K.length=3):(okK K 0).length+(okK K 1).length+(okK K 2).length+6=r9 K:=by
 match K,h with
 | [a,b,c],_=>show a.1.length+b.1.length+c.1.length+6=a.1.length+2+(b.1.length+2+(c.1.length+2+0));omega
theorem nP (K:List Ok') (j:Nat) (q:Int):(okP K j q).length≤(okK K j).length+2:=Qw _ _ _
theorem nH (K:List Pc):(sp K).length=K.length:=by cases K <;> rfl
theorem PG (k n:Int):(wiK k n).length≤2:=by unfold wiK;repeat (first | split | simp)
theorem Ad {i:Bool} {h:Hd} {n:Nat} {g:Hd} (N:Nod i g h n) {K:List Ok'} (hn:K.length=n):(lZ h K).length+2≤24+r9 K:=by
 cases N with
 | boo n e=>show 1+2≤24+_;omega
 | num k n u hk h0 h1 hu =>
   show (liK _).length+2≤_
   unfold liK
   rw [if_neg (by show ¬ k=5;omega)]
   show (unK u).length+1+2≤_
   by_cases hne:u=[]
   · subst hne;show 0+1+2≤_;omega
   · have:=Rz hu hne;omega
 | tex s h1 h2=>show 1+2≤24+_;omega
 | key m s hm h0 h1 h2=>show 3+2≤24+_;omega
 | fie m hi hm=>show 1+2≤24+_;omega
 | fea m hi hm=>show 1+2≤24+_;omega
 | loo m hi hm =>
   have:=Ms hn
   show (wd m :: bw _ :: bs _ :: (okK K 0++[_])).length+2≤_
   simp;omega
 | agg op t p wk ws hi ht hp hw hc =>
   have a:=Gb hn
   have a3:=PG wk ws
   show (agK { h0 with k:=5,op:=op,tb:=t,pa:=p,wk:=wk,ws:=ws } K).length+2≤_
   unfold agK
   simp only [List.length_append,List.length_cons,List.length_nil,nH,apply_ite List.length]
   repeat (first | omega | split)
 | una op ho =>
   have a:=Ms hn
   rcases ho with rfl | rfl | rfl
   · have:=nP K 0 8
     show (okP K 0 8).length+1+2≤_
     omega
   · have:=nP K 0 4
     show (sp (okP K 0 4)).length+1+2≤_
     rw [nH];omega
   · show (wd _ :: sg _ :: (okK K 0++[_])).length+2≤_
     simp;omega
 | bin op ho =>
   have a:=Gb hn
   have a1:=nP K 0 (lef (rkO op))
   have a2:=nP K 1 (rkO op+1)
   show (okP K 0 (lef (rkO op))++(opK op :: sp (okP K 1 (rkO op+1)))).length+2≤_
   simp only [List.length_append,List.length_cons,nH];omega
 | iff =>
   have a:=OB hn
   show (wd _ :: (sp (okK K 0)++(bw _ :: (sp (okK K 1)++(bw _ :: sp (okK K 2)))))).length+2≤_
   simp only [List.length_append,List.length_cons,nH];omega
 | dfl =>
   have a:=Gb hn
   have a1:=nP K 0 1
   have a2:=nP K 1 2
   show (okP K 0 1++(bw _ :: sp (okP K 1 2))).length+2≤_
   simp only [List.length_append,List.length_cons,nH];omega
theorem vE:∀ F:Fo,(xkF F).length=F.len
 | .nil=>rfl
 | .cons h ar r=>congrArg (· + 1) (vE r)
theorem rZ:∀ (F:Fo) (i:Bool),fmA i F=true→r9 (xkF F)≤24 * F.sz
 | .nil,_,_=>Nat.le_refl 0
 | .cons h ar r,i,e=>by
  obtain ⟨e1,e2,e3⟩:=nV e
  have a1:=Ad (gK e1) (vE ar)
  have a2:=rZ ar _ e2
  have a3:=rZ r i e3
  have:r9 (xkF (.cons h ar r))=(lZ h (xkF ar)).length+2+r9 (xkF r):=rfl
  rw [this]
  simp only [Fo.sz]
  omega
theorem MK {i:Bool} {x:Ex} (e:fmE i x=true):(xkE x).length+2≤24 * (x.ar.sz+1):=by
 have e':(aX i x.h x.ar.len (x.ar.nth 0).h && fmA (i || decide (x.h.k=5)) x.ar)=true:=e;rw [Bool.and_eq_true] at e';have a1:=Ad (gK e'.1) (vE x.ar);have a2:=rZ x.ar _ e'.2;show (lZ x.h (xkF x.ar)).length+2≤_;omega
theorem BK {x:Ex} (h:shE x=0) (hz:x.ar.sz≤3000):(txE x).length+(xkE x).length≤16380:=by
 have f:=KE (jh h);have g:=MK (jh h);have k:szE x=1+(x.ar.sz:Int):=uq x.ar 1 (by omega) (by omega);have h64:¬ (64<szE x∨12<dpE x):=fun c=>by
  unfold shE at h;rw [if_pos c] at h;cases h
 omega
end ch
section
open Go.RowKit dec
theorem mH {w w':World} (h:∃ p:Regrown,w'=Sort.grow (redrawn w p.d) p.os):Below w.heap.size w w':=by
 obtain ⟨p,rfl⟩:=h;exact below_regrown w p.d p.os
end
namespace tk
open Go.RowKit dec
end tk
namespace pb
open Go.RowKit dec
end pb
end Go.Proofs.YtbahfelnbofjjaaGreatDoor
