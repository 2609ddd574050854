/-
  No text of an expression has fewer tokens than the one that is printed; Bytes and tokens of a text together: Join's source is not too long; The statements' helpers: sources, tokens, lists that are the same; Appending whole slices of tokens and of problems; literals; Lists of strings of the call's own; lexer.Join.
-/
import Derived.Test.YtbahfelnbofjjaaGreatDoorG29
set_option maxRecDepth 100000
set_option maxHeartbeats 16000000
namespace Go.Proofs.YtbahfelnbofjjaaGreatDoor
namespace ch
open Go.RowKit dec
def faV (e:Int):Nat:=if e=0 then 0 else if e=1 then 2 else if e<0 then 5 else 4
theorem Rf (a b:Int):faV (a+b)≤faV a+faV b:=by
 unfold faV
 repeat (first | omega | split)
theorem Fb (x:un.Fa):(faK x).length≤4∧(x.2≠0→(faK x).length+1=faV x.2)∧(0≤x.2→(faK x).length≤3)∧(x.2=1→(faK x).length=1):=by
 unfold faK faV;by_cases h1:x.2=1
 ·simp [h1]
 by_cases h2:x.2<0
 ·simp [h1,h2]
  try omega
 simp [h1,h2]
 try omega
theorem EZ (e:Int):faV e≤5:=by unfold faV;repeat (first | omega | split)
theorem Ox {e:Int} (h:0≤e):faV e≤4:=by unfold faV;repeat (first | omega | split)
theorem KU:∀ l:List Nat,(∀ x ∈ l,x=0)→l.sum=0
 | [],_=>rfl
 | x :: l,h=>by rw [List.sum_cons,h x (List.mem_cons_self ..),KU l fun y hy=>h y (List.mem_cons_of_mem _ hy)]
def eH (l:List un.Fa):Nat:=(l.map fun x=>faV x.2).sum
theorem Ej (v:Nat) (m:ByteArray):∀ N:List ByteArray,N.Pairwise (fun a b=>a≠b)→(N.map fun n=>if m=n then v else 0).sum≤v
 | [],_=>Nat.zero_le _
 | n :: N,h=>by
  obtain ⟨h1,h2⟩:=List.pairwise_cons.1 h
  rw [List.map_cons,List.sum_cons]
  by_cases e:m=n
  ·rw [if_pos e]
   have:(N.map fun n=>if m=n then v else 0).sum=0:=by
    refine KU _ fun x hx=>?_
    obtain ⟨k,hk,rfl⟩:=List.mem_map.1 hx
    rw [if_neg (fun e' => h1 k hk (e ▸ e'))]
   omega
  ·rw [if_neg e]
   have:=Ej v m N h2
   omega
theorem J6:∀ (us:List un.Fa) (N:List ByteArray),N.Pairwise (fun a b=>a≠b)→(N.map fun n=>faV (un.ex us n)).sum≤eH us
 | [],N,_=>by
  rw [KU _ (fun x hx=>by obtain ⟨k,_,rfl⟩:=List.mem_map.1 hx;rfl)]
  exact Nat.zero_le _
 | y :: us,N,h=>by
  have h1:=J6 us N h
  have h2:=Ej (faV y.2) y.1 N h
  have h3:(N.map fun n=>faV (un.ex (y :: us) n)).sum≤(N.map fun n=>if y.1=n then faV y.2 else 0).sum+(N.map fun n=>faV (un.ex us n)).sum:=by
   clear h1 h2 h
   induction N with
   | nil=>exact Nat.le_refl _
   | cons n N ih =>
    simp only [List.map_cons,List.sum_cons]
    have:faV (un.ex (y :: us) n)≤(if y.1=n then faV y.2 else 0)+faV (un.ex us n):=by
     have:=Rf (if y.1=n then y.2 else 0) (un.ex us n)
     show faV ((if y.1=n then y.2 else 0)+un.ex us n)≤_
     split at this <;> simp_all [faV]
    omega
  have:eH (y :: us)=faV y.2+eH us:=by unfold eH;rw [List.map_cons,List.sum_cons]
  omega
theorem zY {u:List un.Fa} (h:un.Srt u):(u.map (·.1)).Pairwise fun a b=>a≠b:=by
 rw [List.pairwise_map];exact h.imp fun h e=>un.qE h e
theorem Oa (us:List un.Fa) (h:un.nE us=0):eH (un.nL us)≤eH us∧(un.nL us≠[]→us≠[]):=by
 obtain ⟨ho,he⟩:=un.Mj h;refine ⟨?_,fun h2 e=>h2 ?_⟩
 ·have h1:=J6 us ((un.nL us).map (·.1)) (zY ho.srt);have:eH (un.nL us)=(((un.nL us).map (·.1)).map fun n=>faV (un.ex us n)).sum:=by
   unfold eH;rw [List.map_map];congr 1;refine List.map_congr_left fun x hx=>?_;show faV x.2=faV (un.ex us x.1);rw [← he,un.BH ho.srt x hx]
  omega
 subst e;rw [un.nL,if_pos h];rfl
theorem DJ {u:List un.Fa} (h:∀ x ∈ u,x.2≠0) (hne:u≠[]):(unK u).length=1+eH u:=by
 cases u with
 | nil=>exact absurd rfl hne
 | cons x r =>
   have key:∀ r:List un.Fa,(∀ x ∈ r,x.2≠0)→((r.map fun y=>sg ⟨#[42]⟩ :: faK y).flatten).length=eH r:=by
     intro r
     induction r with
     | nil=>intro _;rfl
     | cons y r ih =>
       intro h
       have h1:=(Fb y).2.1 (h y (List.mem_cons_self ..))
       have h2:=ih fun z hz=>h z (List.mem_cons_of_mem _ hz)
       have:eH (y :: r)=faV y.2+eH r:=by unfold eH;rw [List.map_cons,List.sum_cons]
       rw [List.map_cons,List.flatten_cons,List.length_append,List.length_cons]
       omega
   have h1:=(Fb x).2.1 (h x (List.mem_cons_self ..))
   have h2:=key r fun z hz=>h z (List.mem_cons_of_mem _ hz)
   have:eH (x :: r)=faV x.2+eH r:=by unfold eH;rw [List.map_cons,List.sum_cons]
   unfold unK
   rw [List.length_cons,List.length_append,List.length_append]
   simp only [List.length_cons,List.length_nil]
   omega
def Dg (l:List Tk):Prop:=∀ t ∈ l,t.k=2→0≤jr t.t.data.toList
theorem Dg.tail {l:List Tk} (h:Dg l):Dg l.tail:=fun t ht=>h t (List.mem_of_mem_tail ht)
theorem Dg.suf {l r:List Tk} (h:Dg l) (hs:r <:+ l):Dg r:=fun t ht=>h t (hs.subset ht)
theorem qI {l r:List Tk} {v:Int} (h:int l=.ok v r) (hd':Dg l):0≤v∧r=l.tail∧r.length+1=l.length:=by
 obtain ⟨s,q,h1,h2⟩:=bind_ok h;cases h2;unfold tak at h1;split at h1
 ·rename_i hk;cases h1
  cases l with
  | nil=>exact absurd hk (by show ¬ (6:Int)=2;decide)
  | cons t l=>exact ⟨hd' t (List.mem_cons_self ..) hk,rfl,rfl⟩
 cases h1
theorem oz {k:Int} (hk:k≠6) {l r:List Tk} {v:ByteArray} (h:tak k l=.ok v r):r=l.tail∧r.length+1=l.length:=by
 unfold tak at h;split at h
 ·rename_i hT;cases h
  cases l with
  | nil=>exact absurd hT.symm hk
  | cons t l=>exact ⟨rfl,rfl⟩
 cases h
theorem mD {l r:List Tk} {v:ByteArray} (h:nam l=.ok v r):r=l.tail∧r.length+1=l.length:=by
 unfold nam at h;split at h
 ·unfold tak at h;split at h
  ·rename_i hk;cases h
   cases l with
   | nil=>exact absurd hk (by show ¬ (6:Int)=1;decide)
   | cons t l=>exact ⟨rfl,rfl⟩
  cases h
 cases h
theorem eZ {s:ByteArray} {l r:List Tk} {u:Unit} (h:need s l=.ok u r):r=l.tail∧r.length+1=l.length:=by
 obtain ⟨h1,rfl⟩:=Eo h
 cases l with
 | nil=>exact absurd rfl (Bd h1)
 | cons t l=>exact ⟨rfl,rfl⟩
theorem dV {s:ByteArray} {l:List Tk} (h:isT s l=true):l.tail.length+1=l.length:=by
 cases l with
 | nil=>exact absurd rfl (Bd h)
 | cons t l=>rfl
theorem BG {l r:List Tk} {v:un.Fa} (h:fac l=.ok v r) (hd':Dg l):r <:+ l∧faV v.2+r.length≤l.length+1:=by
 obtain ⟨n,q,h1,h2⟩:=bind_ok h;obtain ⟨rfl,e1⟩:=mD h1;split at h2
 ·rename_i t1;have e2:=dV t1;split at h2
  ·rename_i t2;have e3:=dV t2;obtain ⟨x,q',h3,h4⟩:=bind_ok h2;cases h4;obtain ⟨_,rfl,e4⟩:=qI h3 hd'.tail.tail.tail;refine ⟨(List.tail_suffix _).trans ((List.tail_suffix _).trans ((List.tail_suffix _).trans (List.tail_suffix _))),?_⟩;have:=EZ (IntKind.i64.wrap (-1 * min x 1099511627776));show faV (IntKind.i64.wrap (-1 * min x 1099511627776))+_≤_;omega
  obtain ⟨x,q',h3,h4⟩:=bind_ok h2;cases h4;obtain ⟨h0,rfl,e4⟩:=qI h3 hd'.tail.tail;refine ⟨(List.tail_suffix _).trans ((List.tail_suffix _).trans (List.tail_suffix _)),?_⟩;have:0≤IntKind.i64.wrap (1 * min x 1099511627776):=by rw [IntKind.wrap_i64];omega
  have:=Ox this;show faV (IntKind.i64.wrap (1 * min x 1099511627776))+_≤_;omega
 cases h2;refine ⟨List.tail_suffix _,?_⟩;show faV 1+_≤_;have:faV 1=2:=rfl;omega
theorem yH:∀ (f:Nat) (acc:List un.Fa) (l:List Tk) (v:List un.Fa) (r:List Tk),more fac ⟨#[42]⟩ f acc l=.ok v r→Dg l→r <:+ l∧eH v+r.length≤eH acc+l.length
 | 0,_,_,_,_,h,_=>by cases h
 | f+1,acc,l,v,r,h,hd' => by
  unfold more at h
  split at h
  ·rename_i t
   have e1:=dV t
   obtain ⟨y,q,h2,h3⟩:=bind_ok h
   obtain ⟨s1,c1⟩:=BG h2 hd'.tail
   obtain ⟨s2,c2⟩:=yH f _ _ _ _ h3 (hd'.tail.suf s1)
   have:eH (acc++[y])=eH acc+faV y.2:=by unfold eH;simp
   exact ⟨s2.trans (s1.trans (List.tail_suffix _)),by omega⟩
  ·cases h
   exact ⟨List.suffix_refl _,Nat.le_refl _⟩
theorem zM {l r:List Tk} {u:List un.Fa} (h:uni l=.ok u r) (hd':Dg l):r <:+ l∧(unK u).length+r.length≤l.length:=by
 unfold uni at h;split at h
 ·rename_i t;have e1:=dV t;obtain ⟨us,q,h1,h2⟩:=bind_ok h;obtain ⟨_,q',h3,h4⟩:=bind_ok h2;obtain ⟨rfl,e3⟩:=eZ h3;obtain ⟨y,q2,h5,h6⟩:=bind_ok h1;obtain ⟨s1,c1⟩:=BG h5 hd'.tail;obtain ⟨s2,c2⟩:=yH _ _ _ _ _ h6 (hd'.tail.suf s1);have hy:eH [y]=faV y.2:=by unfold eH;simp
  split at h4
  ·rename_i hE;cases h4;refine ⟨(List.tail_suffix _).trans (s2.trans (s1.trans (List.tail_suffix _))),?_⟩;obtain ⟨k1,_⟩:=Oa us hE;by_cases hn:un.nL us=[]
   ·rw [hn];show 0+_≤_;omega
   rw [DJ (fun x hx=>((un.Mj hE).1.good x hx).2.1) hn];omega
  cases h4
 cases h;exact ⟨List.suffix_refl _,by show 0+_≤_;omega⟩
theorem KE {l r:List Tk} {v:Int × Int} (h:win l=.ok v r) (hd':Dg l):r <:+ l∧(wiK v.1 v.2).length+r.length≤l.length:=by
 unfold win at h;split at h
 ·rename_i t;cases h;exact ⟨List.tail_suffix _,by have:=dV t;show 1+_≤_;omega⟩
 iterate 3
   split at h
   · rename_i t
     obtain ⟨u,q,h1,h2⟩:=bind_ok h
     cases h2
     obtain ⟨_,rfl,e⟩:=qI h1 hd'.tail
     exact ⟨(List.tail_suffix _).trans (List.tail_suffix _),by have:=dV t;show 2+_≤_;omega⟩
 cases h
def ctE (x:Ex):Nat:=(xkE x).length
def ctP (x:Ex) (q:Int):Nat:=ctE x+if rk x.h<q then 2 else 0
theorem kg (x:Ex) (q:Int):(jB (rk x.h) q (xkE x)).length=ctP x q:=by
 unfold jB ctP ctE;split
 ·simp
 simp
theorem mg (K:List Pc):(sp K).length=K.length:=by cases K <;> rfl
theorem tZ (x:Ex) {p q:Int} (h:p≤q):ctP x p≤ctP x q:=by unfold ctP;repeat (first | omega | split)
theorem Rq (x:Ex) (q:Int):ctP x q≤ctE x+2:=by unfold ctP;split <;> omega
theorem fJ {x:Ex} {q:Int} (h:q≤rk x.h):ctP x q=ctE x:=by unfold ctP;rw [if_neg (by omega)];rfl
theorem BO (op:ByteArray) (x:Ex):ctE (lu op x)=if op=⟨#[45]⟩ then 1+ctP x 8 else if op=⟨#[110,111,116]⟩ then 1+ctP x 4 else ctE x+3:=by
 show (if op=⟨#[45]⟩ then sg ⟨#[45]⟩ :: jB (rk x.h) 8 (xkE x) else if op=⟨#[110,111,116]⟩ then wd ⟨#[110,111,116]⟩ :: sp (jB (rk x.h) 4 (xkE x)) else wd ⟨#[110,117,108,108]⟩ :: sg ⟨#[40]⟩ :: (xkE x++[sg ⟨#[41]⟩])).length=_;split
 ·rw [List.length_cons,kg];omega
 split
 ·rw [List.length_cons,mg,kg];omega
 simp [ctE]
theorem Ro (op:ByteArray) (x y:Ex) (h:op≠⟨#[100,101,102,97,117,108,116]⟩):ctE (bV op x y)=ctP x (lef (rkO op))+1+ctP y (rkO op+1):=by
 unfold bV;rw [if_neg h];show (jB (rk x.h) (lef (rkO op)) (xkE x)++(opK op :: sp (jB (rk y.h) (rkO op+1) (xkE y)))).length=_;rw [List.length_append,List.length_cons,mg,kg,kg];omega
theorem Rn (x y:Ex):ctE (bV ⟨#[100,101,102,97,117,108,116]⟩ x y)=ctP x 1+1+ctP y 2:=by
 show (jB (rk x.h) 1 (xkE x)++(bw ⟨#[100,101,102,97,117,108,116]⟩ :: sp (jB (rk y.h) 2 (xkE y)))).length=_;rw [List.length_append,List.length_cons,mg,kg,kg];omega
theorem TI (x y z:Ex):ctE (ifE x y z)=ctE x+ctE y+ctE z+3:=by
 show (wd ⟨#[105,102]⟩ :: (sp (xkE x)++(bw ⟨#[116,104,101,110]⟩ :: (sp (xkE y)++(bw ⟨#[101,108,115,101]⟩ :: sp (xkE z)))))).length=_;simp only [List.length_cons,List.length_append,mg,ctE];omega
theorem Rp (op t:ByteArray) (p:Int) (w:Int × Int) (x y:Ex):ctE (LY op t p w x y)=5+(if op=⟨#[99,111,117,110,116]⟩ then 0 else 1+ctE x)+(if op=⟨#[113,117,97,110,116,105,108,101]⟩∨op=⟨#[100,101,99,97,121]⟩ then 2 else 0)+(wiK w.1 w.2).length+(if bS y.h=true then 0 else 1+ctE y):=by
 show (wd op :: sg ⟨#[40]⟩ :: wd t :: ((if op=⟨#[99,111,117,110,116]⟩ then [] else sg ⟨#[44]⟩ :: sp (xkE x))++((if op=⟨#[113,117,97,110,116,105,108,101]⟩∨op=⟨#[100,101,99,97,121]⟩ then [sg ⟨#[44]⟩,nuK p] else []) ++
   (sg ⟨#[44]⟩ :: sp (wiK w.1 w.2)++((if bS y.h=true then [] else bw ⟨#[119,104,101,114,101]⟩ :: sp (xkE y))++[sg ⟨#[41]⟩]))))).length=_
 simp only [List.length_cons,List.length_append,mg,ctE,List.length_nil];have e1:(if op=⟨#[99,111,117,110,116]⟩ then [] else sg ⟨#[44]⟩ :: sp (xkE x)).length=if op=⟨#[99,111,117,110,116]⟩ then 0 else 1+(xkE x).length:=by split <;> simp [mg];omega
 have e2:(if op=⟨#[113,117,97,110,116,105,108,101]⟩∨op=⟨#[100,101,99,97,121]⟩ then [sg ⟨#[44]⟩,nuK p] else []).length=if op=⟨#[113,117,97,110,116,105,108,101]⟩∨op=⟨#[100,101,99,97,121]⟩ then 2 else 0:=by split <;> rfl
 have e3:(if bS y.h=true then [] else bw ⟨#[119,104,101,114,101]⟩ :: sp (xkE y)).length=if bS y.h=true then 0 else 1+(xkE y).length:=by split <;> simp [mg];omega
 rw [e1,e2,e3];omega
def sig:Nat→Int
 | 0=>1
 | 1=>1
 | 2=>2
 | 3=>3
 | 4=>6
 | 5=>6
 | _=>7
def tau (n least:Nat):Int:=if n≤least then rnk least else sig n
theorem KT {n least:Nat} (h:least<n) (hn:n≤6):tau (n - 1) least≤tau n least:=by
 unfold tau;rw [if_neg (show ¬ n≤least by omega)];split
 ·obtain rfl:least=n - 1:=by omega
  rcases (show n=1∨n=2∨n=3∨n=4∨n=5∨n=6 by omega) with rfl | rfl | rfl | rfl | rfl | rfl <;> decide
 rcases (show n=1∨n=2∨n=3∨n=4∨n=5∨n=6 by omega) with rfl | rfl | rfl | rfl | rfl | rfl <;> decide
theorem NT {n:Nat} {op:ByteArray} (hn:n<6) (h:op ∈ opL n):(n=0∧op=⟨#[100,101,102,97,117,108,116]⟩)∨(op≠⟨#[100,101,102,97,117,108,116]⟩∧lef (rkO op)=sig (n+1)∧rkO op+1=rnk (n+1)∧∀ x y,rk (bV op x y).h=rkO op):=by
 have rkb:op≠⟨#[100,101,102,97,117,108,116]⟩→∀ x y,rk (bV op x y).h=rkO op:=by
  intro h x y;unfold bV;rw [if_neg h];rfl
 rcases (show n=0∨n=1∨n=2∨n=3∨n=4∨n=5 by omega) with rfl | rfl | rfl | rfl | rfl | rfl <;> simp only [opL,List.mem_cons,List.not_mem_nil,or_false] at h
 ·exact .inl ⟨rfl,h⟩
 all_goals right
 ·subst h;exact ⟨by decide,by decide,by decide,rkb (by decide)⟩
 ·subst h;exact ⟨by decide,by decide,by decide,rkb (by decide)⟩
 ·rcases h with rfl | rfl | rfl | rfl <;> exact ⟨by decide,by decide,by decide,rkb (by decide)⟩
 ·rcases h with rfl | rfl <;> exact ⟨by decide,by decide,by decide,rkb (by decide)⟩
 rcases h with rfl | rfl <;> exact ⟨by decide,by decide,by decide,rkb (by decide)⟩
theorem NP {n:Nat} {l:List Tk} (h:opr n l≠.empty):opr n l ∈ opL n:=by
 unfold opr at h ⊢
 cases hf:(opL n).find? fun s=>isT s l with
 | none=>rw [hf] at h;exact absurd rfl h
 | some s=>exact List.mem_of_find?_eq_some hf
def Cst (m:Md) (l:List Tk) (x:Ex) (r:List Tk):Prop :=
 r <:+ l∧match m with
 | .ex=>ctE x+r.length≤l.length
 | .op least=>least≤6→ctP x (rnk least)+r.length≤l.length
 | .tl least n y=>n≤6→least≤6→∀ c,ctP y (tau n least)≤c→ctP x (rnk least)+r.length≤c+l.length
 | .ng=>ctP x 8+r.length≤l.length
 | .pr=>ctP x 9+r.length≤l.length
 | .pa=>ctE x+2+r.length≤l.length
 | .ag=>ctP x 9+r.length≤l.length
 | .rf=>ctP x 9+r.length≤l.length
theorem Nz:∀ (f:Nat) (i:Bool) (m:Md) (l:List Tk) (x:Ex) (r:List Tk),pz f i m l=.ok x r→Dg l→Cst m l x r:=by
 intro f
 induction f with
 | zero=>intro i m l x r h;cases h
 | succ f ih =>
   intro i m l x r h D
   cases m with
   | ex =>
     simp only [pz] at h
     split at h
     · rename_i t
       have e0:=dV t
       obtain ⟨a,q1,h1,h⟩:=bind_ok h
       obtain ⟨s1,c1⟩:=ih _ _ _ _ _ h1 D.tail
       obtain ⟨_,q2,h2,h⟩:=bind_ok h
       obtain ⟨rfl,e2⟩:=eZ h2
       have D1:=D.tail.suf s1
       obtain ⟨b,q3,h3,h⟩:=bind_ok h
       obtain ⟨s3,c3⟩:=ih _ _ _ _ _ h3 D1.tail
       obtain ⟨_,q4,h4,h⟩:=bind_ok h
       obtain ⟨rfl,e4⟩:=eZ h4
       have D3:=D1.tail.suf s3
       obtain ⟨c,q5,h5,h⟩:=bind_ok h
       obtain ⟨s5,c5⟩:=ih _ _ _ _ _ h5 D3.tail
       cases h
       refine ⟨s5.trans ((List.tail_suffix _).trans (s3.trans ((List.tail_suffix _).trans (s1.trans (List.tail_suffix _))))),?_⟩
       show ctE _+_≤_
       rw [TI]
       simp only at c1 c3 c5
       omega
     · obtain ⟨s1,c1⟩:=ih _ _ _ _ _ h D
       refine ⟨s1,?_⟩
       show ctE x+_≤_
       have:=c1 (by omega)
       unfold ctP at this
       omega
   | op least =>
     simp only [pz] at h
     split at h
     · rename_i t
       have e0:=dV t.2
       obtain ⟨a,q1,h1,h⟩:=bind_ok h
       obtain ⟨s1,c1⟩:=ih _ _ _ _ _ h1 D.tail
       obtain ⟨s2,c2⟩:=ih _ _ _ _ _ h (D.tail.suf s1)
       refine ⟨s2.trans (s1.trans (List.tail_suffix _)),fun hl=>?_⟩
       have c1:=c1 (by omega)
       have hr:ctP (lu ⟨#[110,111,116]⟩ a) (tau 3 least)=1+ctP a 4:=by
         rw [fJ (by
           show tau 3 least≤4
           unfold tau
           have:=t.1
           split
           · rw [show least=3 by omega];decide
           · decide),BO,if_neg (by decide),if_pos rfl]
       have c2:=c2 (by omega) hl (1+ctP a 4) (Nat.le_of_eq hr)
       have:rnk 3=4:=rfl
       rw [this] at c1
       omega
     · obtain ⟨a,q1,h1,h⟩:=bind_ok h
       obtain ⟨s1,c1⟩:=ih _ _ _ _ _ h1 D
       obtain ⟨s2,c2⟩:=ih _ _ _ _ _ h (D.suf s1)
       refine ⟨s2.trans s1,fun hl=>?_⟩
       have h8:tau 6 least≤8:=by
         unfold tau
         split
         · rw [show least=6 by omega];decide
         · decide
       have c2:=c2 (by omega) hl _ (tZ a h8)
       simp only at c1
       omega
   | tl least n y =>
     simp only [pz] at h
     split at h
     · rename_i hle
       cases h
       refine ⟨List.suffix_refl _,fun hn hl c hc=>?_⟩
       unfold tau at hc
       rw [if_pos hle] at hc
       omega
     · rename_i hle
       split at h
       · obtain ⟨s1,c1⟩:=ih _ _ _ _ _ h D
         refine ⟨s1,fun hn hl c hc=>c1 (by omega) hl c ?_⟩
         exact Nat.le_trans (tZ y (KT (by omega) hn)) hc
       · rename_i t
         have e0:=dV (Ay t)
         obtain ⟨a,q1,h1,h⟩:=bind_ok h
         obtain ⟨s1,c1⟩:=ih _ _ _ _ _ h1 D.tail
         obtain ⟨s2,c2⟩:=ih _ _ _ _ _ h (D.tail.suf s1)
         refine ⟨s2.trans (s1.trans (List.tail_suffix _)),fun hn hl c hc=>?_⟩
         have c1:=c1 hn
         have hm:=NP t
         generalize opr (n - 1) l=op at *
         obtain ⟨k,rfl⟩:∃ k,n=k+1:=⟨n - 1,by omega⟩
         rw [Nat.add_sub_cancel] at hm
         unfold tau at hc
         rw [if_neg hle] at hc
         rcases NT (by omega) hm with ⟨rfl,rfl⟩ | ⟨hd',e1,e2,e3⟩
         · have hl0:least=0:=by omega
           subst hl0
           have hr:ctP (bV ⟨#[100,101,102,97,117,108,116]⟩ y a) (tau 1 0)=ctP y 1+1+ctP a 2:=by
             rw [fJ (by show (1:Int)≤1;decide),Rn]
           have c2:ctP x (rnk 0)+r.length≤ctP y 1+1+ctP a 2+q1.length:=c2 (by decide) hl _ (Nat.le_of_eq hr)
           have c1:ctP a 2+q1.length≤l.tail.length:=c1
           have hc:ctP y 1≤c:=hc
           clear hr
           omega
         · have hr:ctP (bV op y a) (tau (if k+1=4 then 3 else k+1) least)=ctP y (sig (k+1))+1+ctP a (rnk (k+1)):=by
             rw [fJ,Ro _ _ _ hd',e1,e2]
             rw [e3]
             have:rkO op=rnk (k+1) - 1:=by omega
             rw [this]
             unfold tau
             rcases (show k=0∨k=1∨k=2∨k=3∨k=4∨k=5 by omega) with rfl | rfl | rfl | rfl | rfl | rfl
             all_goals (try rw [if_neg (by decide)])
             all_goals (try rw [if_pos rfl])
             all_goals split
             all_goals first | decide | (exfalso;omega) | (rw [show least=3 by omega];decide)
           have c2:=c2 (by split <;> omega) hl _ (Nat.le_of_eq hr)
           omega
   | ng =>
     simp only [pz] at h
     split at h
     · rename_i t
       have e0:=dV t
       obtain ⟨a,q1,h1,h⟩:=bind_ok h
       cases h
       obtain ⟨s1,c1⟩:=ih _ _ _ _ _ h1 D.tail
       refine ⟨s1.trans (List.tail_suffix _),?_⟩
       show ctP (lu ⟨#[45]⟩ a) 8+_≤_
       rw [fJ (by show (8:Int)≤8;decide),BO,if_pos rfl]
       simp only at c1
       omega
     · obtain ⟨s1,c1⟩:=ih _ _ _ _ _ h D
       refine ⟨s1,?_⟩
       show ctP x 8+_≤_
       have:=tZ x (p:=8) (q:=9) (by decide)
       simp only at c1
       omega
   | pa =>
     simp only [pz] at h
     obtain ⟨_,q1,h1,h⟩:=bind_ok h
     obtain ⟨rfl,e1⟩:=eZ h1
     obtain ⟨a,q2,h2,h⟩:=bind_ok h
     obtain ⟨s2,c2⟩:=ih _ _ _ _ _ h2 D.tail
     obtain ⟨_,q3,h3,h⟩:=bind_ok h
     obtain ⟨rfl,e3⟩:=eZ h3
     cases h
     refine ⟨(List.tail_suffix _).trans (s2.trans (List.tail_suffix _)),?_⟩
     show ctE _+2+_≤_
     simp only at c2
     omega
   | rf =>
     simp only [pz] at h
     obtain ⟨n,q1,h1,h⟩:=bind_ok h
     obtain ⟨rfl,e1⟩:=mD h1
     split at h
     · rename_i t
       have e2:=dV t
       obtain ⟨a,q2,h2,h⟩:=bind_ok h
       cases h
       obtain ⟨s2,c2⟩:=ih _ _ _ _ _ h2 D.tail.tail
       refine ⟨s2.trans ((List.tail_suffix _).trans (List.tail_suffix _)),?_⟩
       show ctP (Lj n a) 9+_≤_
       have e:ctE (Lj n a)=ctE a+4:=by
         show (wd n :: bw ⟨#[111,102]⟩ :: bs ⟨#[40]⟩ :: (xkE a++[sg ⟨#[41]⟩])).length=_
         simp [ctE]
       rw [fJ (by show (9:Int)≤9;decide),e]
       simp only at c2
       omega
     · cases h
       refine ⟨List.tail_suffix _,?_⟩
       show ctP (Rb n) 9+_≤_
       rw [fJ (by show (9:Int)≤9;decide)]
       show 1+_≤_
       omega
   | ag =>
     simp only [pz] at h
     obtain ⟨op,q1,h1,h⟩:=bind_ok h
     have g1:=oz (by decide) h1
     obtain ⟨rfl,e1⟩:=g1
     obtain ⟨_,q2,h2,h⟩:=bind_ok h
     obtain ⟨rfl,e2⟩:=eZ h2
     obtain ⟨t,q3,h3,h⟩:=bind_ok h
     obtain ⟨rfl,e3⟩:=mD h3
     obtain ⟨_,q4,h4,h⟩:=bind_ok h
     obtain ⟨rfl,e4⟩:=eZ h4
     have D4:=D.tail.tail.tail.tail
     obtain ⟨a,q5,h5,h⟩:=bind_ok h
     have g5:q5 <:+ l.tail.tail.tail.tail∧(if op=⟨#[99,111,117,110,116]⟩ then 0 else 1+ctE a)+q5.length≤l.tail.tail.tail.tail.length:=by
       split at h5
       · rename_i hc
         cases h5
         rw [if_pos hc]
         exact ⟨List.suffix_refl _,by omega⟩
       · rename_i hc
         rw [if_neg hc]
         obtain ⟨_,p1,k1,h5⟩:=bind_ok h5
         obtain ⟨_,p2,k2,h5⟩:=bind_ok h5
         cases h5
         obtain ⟨s1,c1⟩:=ih _ _ _ _ _ k1 D4
         obtain ⟨rfl,e⟩:=eZ k2
         refine ⟨(List.tail_suffix _).trans s1,?_⟩
         simp only at c1
         omega
     obtain ⟨s5,c5⟩:=g5
     obtain ⟨n,q6,h6,h⟩:=bind_ok h
     have g6:q6 <:+ q5∧(if op=⟨#[113,117,97,110,116,105,108,101]⟩∨op=⟨#[100,101,99,97,121]⟩ then 2 else 0)+q6.length≤q5.length:=by
       split at h6
       · rename_i hc
         rw [if_pos hc]
         obtain ⟨_,p1,k1,h6⟩:=bind_ok h6
         obtain ⟨_,p2,k2,h6⟩:=bind_ok h6
         cases h6
         obtain ⟨_,rfl,e⟩:=qI k1 (D4.suf s5)
         obtain ⟨rfl,e'⟩:=eZ k2
         exact ⟨(List.tail_suffix _).trans (List.tail_suffix _),by omega⟩
       · rename_i hc
         cases h6
         rw [if_neg hc]
         exact ⟨List.suffix_refl _,by omega⟩
     obtain ⟨s6,c6⟩:=g6
     obtain ⟨w,q7,h7,h⟩:=bind_ok h
     obtain ⟨s7,c7⟩:=KE h7 ((D4.suf s5).suf s6)
     obtain ⟨b,q8,h8,h⟩:=bind_ok h
     have g8:q8 <:+ q7∧(if bS b.h=true then 0 else 1+ctE b)+q8.length≤q7.length:=by
       split at h8
       · rename_i t
         have e:=dV t
         obtain ⟨s1,c1⟩:=ih _ _ _ _ _ h8 (((D4.suf s5).suf s6).suf s7).tail
         refine ⟨s1.trans (List.tail_suffix _),?_⟩
         simp only at c1
         split <;> omega
       · cases h8;exact ⟨List.suffix_refl _,by show 0+_≤_;omega⟩
     obtain ⟨s8,c8⟩:=g8
     obtain ⟨_,q9,h9,h⟩:=bind_ok h
     obtain ⟨rfl,e9⟩:=eZ h9
     cases h
     refine ⟨(List.tail_suffix _).trans (s8.trans (s7.trans (s6.trans (s5.trans ((List.tail_suffix _).trans ((List.tail_suffix _).trans ((List.tail_suffix _).trans (List.tail_suffix _)))))))),?_⟩
     show ctP (LY op t n w a b) 9+_≤_
     rw [fJ (by show (9:Int)≤9;decide),Rp]
     omega
   | pr =>
     simp only [pz] at h
     split at h
     · obtain ⟨n,q1,h1,h⟩:=bind_ok h
       obtain ⟨u,q2,h2,h⟩:=bind_ok h
       cases h
       obtain ⟨_,rfl,e1⟩:=qI h1 D
       obtain ⟨s2,c2⟩:=zM h2 D.tail
       refine ⟨s2.trans (List.tail_suffix _),?_⟩
       show ctP (Gu 2 n u) 9+_≤_
       rw [fJ (by show (9:Int)≤9;decide)]
       show (unK u).length+1+_≤_
       omega
     split at h
     · obtain ⟨n,q1,h1,h⟩:=bind_ok h
       obtain ⟨u,q2,h2,h⟩:=bind_ok h
       cases h
       have g1:q1=l.tail∧q1.length+1=l.length:=by
         obtain ⟨s,q,k1,k2⟩:=bind_ok h1
         cases k2
         exact oz (by decide) k1
       obtain ⟨rfl,e1⟩:=g1
       obtain ⟨s2,c2⟩:=zM h2 D.tail
       refine ⟨s2.trans (List.tail_suffix _),?_⟩
       show ctP (Gu 3 n u) 9+_≤_
       rw [fJ (by show (9:Int)≤9;decide)]
       show (unK u).length+1+_≤_
       omega
     split at h
     · obtain ⟨n,q1,h1,h⟩:=bind_ok h
       obtain ⟨rfl,e1⟩:=oz (by decide) h1
       cases h
       refine ⟨List.tail_suffix _,?_⟩
       show ctP (PG n) 9+_≤_
       rw [fJ (by show (9:Int)≤9;decide)]
       show 1+_≤_
       omega
     split at h
     · rename_i t;cases h
       refine ⟨List.tail_suffix _,?_⟩
       show ctP (dP 1) 9+_≤_
       rw [fJ (by show (9:Int)≤9;decide)]
       have:=dV t
       show 1+_≤_
       omega
     split at h
     · rename_i t;cases h
       refine ⟨List.tail_suffix _,?_⟩
       show ctP (dP 0) 9+_≤_
       rw [fJ (by show (9:Int)≤9;decide)]
       have:=dV t
       show 1+_≤_
       omega
     split at h
     · obtain ⟨n,q1,h1,h⟩:=bind_ok h
       obtain ⟨s,q2,h2,h⟩:=bind_ok h
       obtain ⟨_,q0,k0,h1⟩:=bind_ok h1
       obtain ⟨rfl,e0⟩:=eZ k0
       obtain ⟨rfl,e1⟩:=mD h1
       have g2:=oz (by decide) h2
       obtain ⟨rfl,e2⟩:=g2
       split at h
       · cases h
         refine ⟨(List.tail_suffix _).trans ((List.tail_suffix _).trans (List.tail_suffix _)),?_⟩
         show ctP (Lr n s) 9+_≤_
         rw [fJ (by show (9:Int)≤9;decide)]
         show 3+_≤_
         omega
       · cases h
     split at h
     · rename_i t
       obtain ⟨a,q1,h1,h⟩:=bind_ok h
       cases h
       have e0:=dV t
       obtain ⟨s1,c1⟩:=ih _ _ _ _ _ h1 D.tail
       refine ⟨s1.trans (List.tail_suffix _),?_⟩
       show ctP (lu ⟨#[110,117,108,108]⟩ a) 9+_≤_
       rw [fJ (by show (9:Int)≤9;decide),BO,if_neg (by decide),if_neg (by decide)]
       simp only at c1
       omega
     split at h
     · obtain ⟨s1,c1⟩:=ih _ _ _ _ _ h D
       refine ⟨s1,?_⟩
       show ctP x 9+_≤_
       have:=Rq x 9
       simp only at c1
       omega
     split at h
     · obtain ⟨n,q1,h1,h⟩:=bind_ok h
       cases h
       obtain ⟨rfl,e1⟩:=mD h1
       refine ⟨List.tail_suffix _,?_⟩
       show ctP (Q9 n) 9+_≤_
       rw [fJ (by show (9:Int)≤9;decide)]
       show 1+_≤_
       omega
     split at h
     · exact (show Cst .ag l x r from ih _ _ _ _ _ h D)
     · exact (show Cst .rf l x r from ih _ _ _ _ _ h D)
theorem AA {i:Bool} {h:Hd} {n:Nat} {g:Hd} (N:Nod i g h n) {T:List Od} (hn:T.length=n):(dD h T).length+2≤232+lC T:=by
 cases N with
 | boo n e =>
   have e1:dD { h0 with k:=1,vk:=1,vn:=n } T=fm ⟨1,n,.empty⟩++[]:=rfl
   rw [e1]
   rcases e with rfl | rfl
   · rw [fM (by decide)];show 5+2≤_;omega
   · rw [fM (by decide)];show 4+2≤_;omega
 | num k n u hk h0 h1 hu =>
   have e1:dD { Go.Proofs.YtbahfelnbofjjaaGreatDoor.h0 with k:=1,vk:=k,vn:=n,un:=u } T=fm ⟨k,n,.empty⟩++uT u:=by
     show liT _=_
     unfold liT
     rw [if_neg (by show ¬ k=5;omega)]
     rfl
   rw [e1,qJ hk h0 h1,List.length_append]
   have a1:=pU hu
   have a2:=fG n h0 h1
   have a3:=Bu h0 h1
   split <;> omega
 | tex s h1 h2 =>
   have e1:dD { h0 with k:=1,vk:=4,vs:=s } T=fm ⟨4,0,s⟩++[]:=rfl
   rw [e1,fM (rH h1 h2),List.append_nil]
   show (34 :: (s.data.toList++[34])).length+2≤_
   simp;omega
 | key m s hm h0 h1 h2 =>
   have a1:=dx hm
   show (64 :: (m.data.toList++32 :: 34 :: (s.data.toList++[34]))).length+2≤_
   rw [aI] at a1
   simp;omega
 | fie m hi hm=>have a1:=dx hm;show m.data.toList.length+2≤_;omega
 | fea m hi hm=>have a1:=dx hm;show m.data.toList.length+2≤_;omega
 | loo m hi hm =>
   have a1:=dx hm
   rw [uX T hn]
   show (m.data.toList++([32,111,102,32,40]++(odT T 0++[41]))).length+2≤_
   rw [aI] at a1
   simp;omega
 | agg op t p wk ws hi ht hp hw hc =>
   have a1:=dx ht
   have a2:=uo hp
   have a3:=qW hw
   have a4:(Lib.itoa p).length≤20:=by
     rcases kX hp with h | h
     · exact fG p (by omega) (by omega)
     · exact fG p (by omega) (by omega)
   rw [lS T hn]
   show (agT { h0 with k:=5,op:=op,tb:=t,pa:=p,wk:=wk,ws:=ws } T).length+2≤_
   unfold agT
   rw [aI] at a1 a2
   have b1:(if op=⟨#[99,111,117,110,116]⟩ then [] else 44 :: 32 :: odT T 0:List UInt8).length≤(odT T 0).length+2:=by split <;> simp
   have b2:(if op=⟨#[113,117,97,110,116,105,108,101]⟩∨op=⟨#[100,101,99,97,121]⟩ then 44 :: 32 :: Lib.itoa p else []:List UInt8).length≤22:=by split <;> simp;omega
   have b3:(if bS (od T 1).2=true then [] else [32,119,104,101,114,101,32]++odT T 1:List UInt8).length≤(odT T 1).length+7:=by split <;> simp
   simp only [List.length_append,List.length_cons,List.length_nil,aI] at *
   omega
 | una op ho =>
   rw [uX T hn]
   rcases ho with rfl | rfl | rfl
   · have:=fP T 0 8
     show (45 :: odP T 0 8).length+2≤_
     simp;omega
   · have:=fP T 0 4
     show ([110,111,116,32]++odP T 0 4).length+2≤_
     simp;omega
   · show ([110,117,108,108,40]++(odT T 0++[41])).length+2≤_
     simp;omega
 | bin op ho =>
   rw [lS T hn]
   have a1:=fP T 0 (lef (rkO op))
   have a2:=fP T 1 (rkO op+1)
   have a3:op.data.toList.length≤3:=by rcases ho with rfl | rfl | rfl | rfl | rfl | rfl | rfl | rfl | rfl | rfl <;> decide
   show (odP T 0 (lef (rkO op))++(32 :: (op.data.toList++32 :: odP T 1 (rkO op+1)))).length+2≤_
   rw [aI] at a3
   simp only [List.length_append,List.length_cons,aI]
   omega
 | iff =>
   rw [Em T hn]
   show ([105,102,32]++(odT T 0++([32,116,104,101,110,32]++(odT T 1++([32,101,108,115,101,32]++odT T 2))))).length+2≤_
   simp;omega
 | dfl =>
   rw [lS T hn]
   have a1:=fP T 0 1
   have a2:=fP T 1 2
   show (odP T 0 1++([32,100,101,102,97,117,108,116,32]++odP T 1 2)).length+2≤_
   simp only [List.length_append]
   simp;omega
theorem sK:∀ (F:Fo) (i:Bool),fmA i F=true→lC (txF F)≤232 * F.sz
 | .nil,_,_=>Nat.le_refl 0
 | .cons h ar r,i,e=>by
  obtain ⟨e1,e2,e3⟩:=lU e
  have a1:=AA (gQ e1) (jf ar)
  have a2:=sK ar _ e2
  have a3:=sK r i e3
  have:lC (txF (.cons h ar r))=(dD h (txF ar)).length+2+lC (txF r):=rfl
  rw [this]
  simp only [Fo.sz]
  omega
theorem KL {i:Bool} {x:Ex} (e:fmE i x=true):(txE x).length+2≤232 * (x.ar.sz+1):=by
 have e':(bU i x.h x.ar.len (x.ar.nth 0).h && fmA (i || decide (x.h.k=5)) x.ar)=true:=e;rw [Bool.and_eq_true] at e';have a1:=AA (gQ e'.1) (jf x.ar);have a2:=sK x.ar _ e'.2;show (dD x.h (txF x.ar)).length+2≤_;omega
def sN (l:List Ok'):Nat:=(l.map fun q=>q.1.length+2).sum
theorem Ql (r q:Int) (l:List Pc):(jB r q l).length≤l.length+2:=by unfold jB;split <;> simp
theorem RcA:∀ l:List un.Fa,eH l≤5 * l.length
  | [] => Nat.le_refl 0
  | a :: b => by
    have h1:=EZ a.2
    have h2:=RcA b
    have e:eH (a :: b)=faV a.2+eH b:=by unfold eH;simp
    rw [e,List.length_cons]
    omega
theorem Rc {u:List un.Fa} (h:Un u) (hne:u≠[]):(unK u).length≤21:=by
 have h4:=h.o.le;rw [DJ (fun x hx=>(vM h hx).2.2) hne];have:=RcA u;omega
theorem Mq {K:List Ok'} (h:K.length=1):(okK K 0).length+2=sN K:=by
 match K,h with
 | [a],_=>show a.1.length+2=a.1.length+2+0;rfl
theorem Gw {K:List Ok'} (h:K.length=2):(okK K 0).length+(okK K 1).length+4=sN K:=by
 match K,h with
 | [a,b],_=>show a.1.length+b.1.length+4=a.1.length+2+(b.1.length+2+0);omega
theorem Oi {K:List Ok'} (h:K.length=3):(okK K 0).length+(okK K 1).length+(okK K 2).length+6=sN K:=by
 match K,h with
 | [a,b,c],_=>show a.1.length+b.1.length+c.1.length+6=a.1.length+2+(b.1.length+2+(c.1.length+2+0));omega
theorem nU (K:List Ok') (j:Nat) (q:Int):(okP K j q).length≤(okK K j).length+2:=Ql _ _ _
theorem nN (K:List Pc):(sp K).length=K.length:=by cases K <;> rfl
theorem Ph (k n:Int):(wiK k n).length≤2:=by unfold wiK;repeat (first | split | simp)
theorem AB {i:Bool} {h:Hd} {n:Nat} {g:Hd} (N:Nod i g h n) {K:List Ok'} (hn:K.length=n):(mq h K).length+2≤24+sN K:=by
 cases N with
 | boo n e=>show 1+2≤24+_;omega
 | num k n u hk h0 h1 hu =>
   show (liK _).length+2≤_
   unfold liK
   rw [if_neg (by show ¬ k=5;omega)]
   show (unK u).length+1+2≤_
   by_cases hne:u=[]
   · subst hne;show 0+1+2≤_;omega
   · have:=Rc hu hne;omega
 | tex s h1 h2=>show 1+2≤24+_;omega
 | key m s hm h0 h1 h2=>show 3+2≤24+_;omega
 | fie m hi hm=>show 1+2≤24+_;omega
 | fea m hi hm=>show 1+2≤24+_;omega
 | loo m hi hm =>
   have:=Mq hn
   show (wd m :: bw _ :: bs _ :: (okK K 0++[_])).length+2≤_
   simp;omega
 | agg op t p wk ws hi ht hp hw hc =>
   have a:=Gw hn
   have a3:=Ph wk ws
   show (agK { h0 with k:=5,op:=op,tb:=t,pa:=p,wk:=wk,ws:=ws } K).length+2≤_
   unfold agK
   simp only [List.length_append,List.length_cons,List.length_nil,nN,apply_ite List.length]
   repeat (first | omega | split)
 | una op ho =>
   have a:=Mq hn
   rcases ho with rfl | rfl | rfl
   · have:=nU K 0 8
     show (okP K 0 8).length+1+2≤_
     omega
   · have:=nU K 0 4
     show (sp (okP K 0 4)).length+1+2≤_
     rw [nN];omega
   · show (wd _ :: sg _ :: (okK K 0++[_])).length+2≤_
     simp;omega
 | bin op ho =>
   have a:=Gw hn
   have a1:=nU K 0 (lef (rkO op))
   have a2:=nU K 1 (rkO op+1)
   show (okP K 0 (lef (rkO op))++(opK op :: sp (okP K 1 (rkO op+1)))).length+2≤_
   simp only [List.length_append,List.length_cons,nN];omega
 | iff =>
   have a:=Oi hn
   show (wd _ :: (sp (okK K 0)++(bw _ :: (sp (okK K 1)++(bw _ :: sp (okK K 2)))))).length+2≤_
   simp only [List.length_append,List.length_cons,nN];omega
 | dfl =>
   have a:=Gw hn
   have a1:=nU K 0 1
   have a2:=nU K 1 2
   show (okP K 0 1++(bw _ :: sp (okP K 1 2))).length+2≤_
   simp only [List.length_append,List.length_cons,nN];omega
theorem vU:∀ F:Fo,(xkF F).length=F.len
 | .nil=>rfl
 | .cons h ar r=>congrArg (· + 1) (vU r)
theorem sM:∀ (F:Fo) (i:Bool),fmA i F=true→sN (xkF F)≤24 * F.sz
 | .nil,_,_=>Nat.le_refl 0
 | .cons h ar r,i,e=>by
  obtain ⟨e1,e2,e3⟩:=lU e
  have a1:=AB (gQ e1) (vU ar)
  have a2:=sM ar _ e2
  have a3:=sM r i e3
  have:sN (xkF (.cons h ar r))=(mq h (xkF ar)).length+2+sN (xkF r):=rfl
  rw [this]
  simp only [Fo.sz]
  omega
theorem MN {i:Bool} {x:Ex} (e:fmE i x=true):(xkE x).length+2≤24 * (x.ar.sz+1):=by
 have e':(bU i x.h x.ar.len (x.ar.nth 0).h && fmA (i || decide (x.h.k=5)) x.ar)=true:=e;rw [Bool.and_eq_true] at e';have a1:=AB (gQ e'.1) (vU x.ar);have a2:=sM x.ar _ e'.2;show (mq x.h (xkF x.ar)).length+2≤_;omega
theorem Co {x:Ex} (h:shE x=0) (hz:x.ar.sz≤3000):(txE x).length+(xkE x).length≤16380:=by
 have f:=KL (jy h);have g:=MN (jy h);have k:szE x=1+(x.ar.sz:Int):=uL x.ar 1 (by omega) (by omega);have h64:¬ (64<szE x∨12<dpE x):=fun c=>by
  unfold shE at h;rw [if_pos c] at h;cases h
 omega
end ch
section
open Go.RowKit dec
theorem jd {w w':World} (h:∃ p:Regrown,w'=Sort.grow (redrawn w p.d) p.os):Below w.heap.size w w':=by
 obtain ⟨p,rfl⟩:=h;exact below_regrown w p.d p.os
end
namespace tk
open Go.RowKit dec
theorem uz (w:World) {ops:Array Oper} {rest:List Oper} {o:Oper} {a:Act} {Q:Exit→Act→World→Prop} (hgd:o.guard=none) (s x:Operand)
    (ho:o.op=.call { callee:=.builtin .append,args:=#[s,x],argTypes:=#[65,65] })
    (base:Nat) (v:Value) (l:List Tk) (hs:a.eval s=v) (hown:Own w base v l) (ad:Option Addr) (n cap:Nat) (l2:List Tk) (hx:a.eval x=.slice ad n cap) (hS:Sl w ad n cap l2)
    (hn:l.length+n<4398046511104) (hbase:base≤w.heap.size)
    (h:∀ v' w',Own w' base v' (l++l2)→Below base w w'→w.grownBy w' v.ownBlock→wpList Tryz.prog ops Q rest (a.put o.dst v') w'):wpList Tryz.prog ops Q (o :: rest) a w:=by
 refine wpList_plain hgd fun K hK=>?_;obtain ⟨i,hi,hz0,hz1,hz2⟩:=info_parts lG;have hln:=hS.hn
 cases ad with
 | none =>
   have h0:=hS.hno rfl
   have h1:=hS.hcap
   have hn0:n=0:=by omega
   subst h0
   subst hn0
   have hl2:l2=[]:=List.eq_nil_of_length_eq_zero hln
   subst hl2
   have hrun:=run_append_owned_none (P:=Tryz.prog) (w:=w) base 65 o.type 119 i 3 Tryz.underlying65 hi v l.length (cs l) hown
   unfold Oper.wp
   simp only [execOp,ho,resolve,invoke,builtin,Sem.run_bind,Sem.run_pure,Result.andThen_ok,List.map_toArray,List.map_cons,List.map_nil,hs,hx,hrun]
   exact hK _ _ (h v w (by rw [List.append_nil];exact hown) (Below.refl _ _) ⟨rfl,rfl,rfl,Nat.le_refl _,fun _ _ _=>rfl⟩)
 | some ad =>
   refine wp_append_own w s x 65 ho base 119 i (.agg #[.int .i64 0,.string .empty,.int .i64 0]) 3 32 Tryz.underlying65 hi hz0 hz1 hz2 rfl (by decide) v l.length (cs l) hs hown ad n cap (cs l2) hx (by rw [fq,hln]) ?_ (jc _)
     (by unfold maxLen;omega) (by omega) hbase fun v' w' h1 h2 _=>?_
   · intro j u hu
     have hj:j<l2.length * 3:=by
       rcases Nat.lt_or_ge j (cs l2).length with h' | h'
       · rwa [fq] at h'
       · rw [List.getElem?_eq_none h'] at hu;cases hu
     rcases hS.hat with h0 | ⟨b,off,e,hC⟩
     · omega
     · cases e
       have hp:(⟨b,off,none⟩:Addr).add j=⟨b,off+j,none⟩:=by
         unfold Addr.add
         by_cases h:j=0 <;> simp [h]
       rw [hp]
       obtain ⟨c0,c1,c2⟩:=hC (j / 3) (by omega)
       obtain ⟨e0,e1,e2⟩:=jq l2 (j / 3) (by omega)
       rcases (show j % 3=0∨j % 3=1∨j % 3=2 by omega) with hm | hm | hm
       · have ej:j / 3 * 3=j:=by omega
         rw [ej] at c0 e0
         rw [e0] at hu
         rw [c0,hu]
       · have ej:j / 3 * 3+1=j:=by omega
         rw [Nat.add_assoc,ej] at c1
         rw [ej] at e1
         rw [e1] at hu
         rw [c1,hu]
       · have ej:j / 3 * 3+2=j:=by omega
         rw [Nat.add_assoc,ej] at c2
         rw [ej] at e2
         rw [e2] at hu
         rw [c2,hu]
   · refine hK _ _ (h v' w' ?_ (own_below hown h2 hbase) h2)
     unfold Own
     rw [fu,List.length_append,hln]
     exact h1
theorem Eh (w:World) (B:Nat) (hB:B≤w.heap.size):Own (w.alloc (.cells #[] 119)) B (.slice (some ⟨w.heap.size,0,none⟩) 0 0) []:=World.ownsRow_lit w #[] 0 hB (by unfold maxLen;omega) rfl
end tk
namespace pb
open Go.RowKit dec
theorem uz (w:World) {ops:Array Oper} {rest:List Oper} {o:Oper} {a:Act} {Q:Exit→Act→World→Prop} (hgd:o.guard=none) (s x:Operand)
    (ho:o.op=.call { callee:=.builtin .append,args:=#[s,x],argTypes:=#[62,62] })
    (base:Nat) (v:Value) (l:List Pb) (hs:a.eval s=v) (hown:Own w base v l) (ad:Option Addr) (n cap:Nat) (l2:List Pb) (hx:a.eval x=.slice ad n cap) (hS:Sl w ad n cap l2)
    (hn:l.length+n<8796093022208) (hbase:base≤w.heap.size)
    (h:∀ v' w',Own w' base v' (l++l2)→Below base w w'→w.grownBy w' v.ownBlock→wpList Tryz.prog ops Q rest (a.put o.dst v') w'):wpList Tryz.prog ops Q (o :: rest) a w:=by
 refine wpList_plain hgd fun K hK=>?_;obtain ⟨i,hi,hz0,hz1,hz2⟩:=info_parts lG;have hln:=hS.hn
 cases ad with
 | none =>
   have h0:=hS.hno rfl
   have h1:=hS.hcap
   have hn0:n=0:=by omega
   subst h0
   subst hn0
   have hl2:l2=[]:=List.eq_nil_of_length_eq_zero hln
   subst hl2
   have hrun:=run_append_owned_none (P:=Tryz.prog) (w:=w) base 62 o.type 122 i 2 Tryz.underlying62 hi v l.length (cs l) hown
   unfold Oper.wp
   simp only [execOp,ho,resolve,invoke,builtin,Sem.run_bind,Sem.run_pure,Result.andThen_ok,List.map_toArray,List.map_cons,List.map_nil,hs,hx,hrun]
   exact hK _ _ (h v w (by rw [List.append_nil];exact hown) (Below.refl _ _) ⟨rfl,rfl,rfl,Nat.le_refl _,fun _ _ _=>rfl⟩)
 | some ad =>
   refine wp_append_own w s x 62 ho base 122 i (.agg #[.int .i64 0,.int .i64 0]) 2 16 Tryz.underlying62 hi hz0 hz1 hz2 rfl (by decide) v l.length (cs l) hs hown ad n cap (cs l2) hx (by rw [fq,hln]) ?_ (jc _)
     (by unfold maxLen;omega) (by omega) hbase fun v' w' h1 h2 _=>?_
   · intro j u hu
     have hj:j<l2.length * 2:=by
       rcases Nat.lt_or_ge j (cs l2).length with h' | h'
       · rwa [fq] at h'
       · rw [List.getElem?_eq_none h'] at hu;cases hu
     rcases hS.hat with h0 | ⟨b,off,e,hC⟩
     · omega
     · cases e
       have hp:(⟨b,off,none⟩:Addr).add j=⟨b,off+j,none⟩:=by
         unfold Addr.add
         by_cases h:j=0 <;> simp [h]
       rw [hp]
       obtain ⟨c0,c1⟩:=hC (j / 2) (by omega)
       obtain ⟨e0,e1⟩:=jq l2 (j / 2) (by omega)
       rcases (show j % 2=0∨j % 2=1 by omega) with hm | hm
       · have ej:j / 2 * 2=j:=by omega
         rw [ej] at c0 e0
         rw [e0] at hu
         rw [c0,hu]
       · have ej:j / 2 * 2+1=j:=by omega
         rw [Nat.add_assoc,ej] at c1
         rw [ej] at e1
         rw [e1] at hu
         rw [c1,hu]
   · refine hK _ _ (h v' w' ?_ (own_below hown h2 hbase) h2)
     unfold Own
     rw [fu,List.length_append,hln]
     exact h1
theorem Eh (w:World) (B:Nat) (hB:B≤w.heap.size):Own (w.alloc (.cells #[] 122)) B (.slice (some ⟨w.heap.size,0,none⟩) 0 0) []:=World.ownsRow_lit w #[] 0 hB (by unfold maxLen;omega) rfl
end pb
section
open Go.RowKit dec
theorem vG:(Tryz.prog.info? 9).map (fun i=>(i.zero,i.size,i.bytes))=some (some (.string ByteArray.empty),1,16):=by kernel_rfl
def OS (w:World) (base:Nat) (v:Value) (l:List ByteArray):Prop:=w.ownsRow base 9 1 v l.length (l.map Value.string)
theorem OS.nil (w:World) (base:Nat):OS w base (.slice none 0 0) []:=World.ownsRow_nil _ _ _ _
theorem OS.keeps {w w1:World} {base:Nat} {v:Value} {l:List ByteArray} (h:OS w base v l) (hb:Below w.heap.size w w1):OS w1 base v l:=by
 obtain ⟨h1,h2⟩:=h;refine ⟨h1,?_⟩;rcases h2 with h0 | ⟨g,cap,cur,e,hbg,hh,r⟩
 ·exact .inl h0
 refine .inr ⟨g,cap,cur,e,hbg,?_,r⟩;have:g<w.heap.size:=by
  rcases Nat.lt_or_ge g w.heap.size with h' | h'
  ·exact h'
  rw [Array.getElem?_eq_none h'] at hh;cases hh
 rw [hb.block _ this];exact hh
theorem eU (w:World) {ops:Array Oper} {rest:List Oper} {o:Oper} {a:Act} {Q:Exit→Act→World→Prop} (hgd:o.guard=none) (s x:Operand)
    (ho:o.op=.call { callee:=.builtin .append,args:=#[s,x],argTypes:=#[97,97] })
    (base:Nat) (v:Value) (l:List ByteArray) (hs:a.eval s=v) (hown:OS w base v l) (b:Nat) (t:ByteArray) (hx:a.eval x=.slice (some ⟨b,0,none⟩) 1 1) (hB:w.cell? ⟨b,0,none⟩=some (.string t))
    (hn:l.length<5864062014805) (hbase:base≤w.heap.size)
    (h:∀ v' w',OS w' base v' (l++[t])→Below base w w'→wpList Tryz.prog ops Q rest (a.put o.dst v') w'):wpList Tryz.prog ops Q (o :: rest) a w:=by
 refine wpList_plain hgd fun _ hK=>?_;obtain ⟨i,hi,hz0,hz1,hz2⟩:=info_parts vG
 refine wp_append_own w s x 97 ho base 9 i (.string ByteArray.empty) 1 16 Tryz.underlying97 hi hz0 hz1 hz2 rfl (by decide) v l.length (l.map Value.string) hs hown ⟨b,0,none⟩ 1 1 [.string t] hx rfl ?_ (fun u hu=>by simp at hu;subst hu;rfl)
   (by unfold maxLen;omega) (by omega) hbase fun v' w' h1 h2 _=>hK _ _ (h v' w' (by unfold OS;rw [List.map_append,List.length_append];exact h1) ((Below.refl base w).grown h2 hbase fun k hk=>(hown.lt k hk).1))
 intro j u hu
 match j,hu with
 | 0,hu=>simp at hu;subst hu;exact hB
 | j+1,hu=>simp at hu
theorem jK {w:World} {ops:Array Oper} {rest:List Oper} {o:Oper} {a:Act} {Q:Exit→Act→World→Prop} (s x:Operand) (_:o.op=.call { callee:=.builtin .append,args:=#[s,x],argTypes:=#[97,97] })
  (k:wpList Tryz.prog ops Q (o :: rest) a w):wpList Tryz.prog ops Q (o :: rest) a w:=k
theorem kE (v:Value) (l:List ByteArray) (base:Nat) (w:World) (hO:OS w base v l) (hn:l.length<5864062014805) (hl:(Lib.join (l.map (·.data.toList)) [32]).length≤140737488355328) :
    Calls Tryz.prog 57 #[v,.string ⟨#[32]⟩] w fun e w' => e=.returned (.string ⟨(Lib.join (l.map (·.data.toList)) [32]).toArray⟩)∧Below w.heap.size w w':=by
 obtain ⟨h1,h2⟩:=id hO;rcases h2 with ⟨rfl,h0⟩ | ⟨g,cap,cur,rfl,hbg,hh,hc,hm,hs,ht⟩
 ·have hz:l=[]:=List.eq_nil_of_length_eq_zero h0;subst hz;refine (Tryz.strings_Join_none none 0 ⟨#[32]⟩ w).mono ?_;rintro e w' ⟨rfl,rfl⟩;exact ⟨rfl,b0 _⟩
 refine (Tryz.strings_Join g 0 cap l ⟨#[32]⟩ w (fun j x hx=>?_) (hO.lt g rfl).2 (by omega) hc hl).mono ?_
 ·have hj:j<l.length:=(List.getElem?_eq_some_iff.1 hx).1;rw [Nat.zero_add,World.ownsRow.cellAt hO j (by simpa using hj),List.getElem?_map,hx];rfl
 rintro e w' ⟨rfl,hb⟩;exact ⟨rfl,hb⟩
def gN (l:List Tk):List Tk:=if l≠[]∧(tk.gt l (l.length - 1)).k=6∧(tk.gt l (l.length - 1)).t.size=0 then l.take (l.length - 1) else l
def iB (l:List Tk):Bool:=l.all pr
def joinL (l:List Tk):List UInt8:=Lib.join ((gN l).map so) [32]
def eB (l:List Tk):Int:=if iB (gN l)=true then (if 16384<(joinL l).length then 2 else 0) else 3
def eT (l:List Tk):List UInt8:=if eB l=0 then joinL l else []
def JR (w w':World) (e:Ending) (l:List Tk):Prop:=∃ (s:ByteArray) (a:Option Addr) (cap:Nat),s.data.toList=eT l∧e=.returned (.tuple #[.slice a s.size cap,.int .i64 (eB l)])∧Bs w' a s.size cap s∧Below w.heap.size w w'
def kG (l:List Tk):Prop:=(∀ x ∈ l,x.t.size≤1000000)∧l.length≤100000
theorem lM (x:Tk):(so x).length≤x.t.size+2:=by
 unfold so;split
 ·simp only [List.length_cons,List.length_append,List.length_nil,aI];omega
 rw [aI];omega
theorem Iy:∀ l:List Tk,(∀ x ∈ l,x.t.size≤1000000)→(l.map fun x=>(so x).length).sum≤1000002 * l.length
 | [],_=>Nat.zero_le _
 | x :: l,h=>by
  have h1:=Iy l fun y hy=>h y (List.mem_cons_of_mem _ hy)
  have h2:=lM x
  have h3:=h x (List.mem_cons_self ..)
  rw [List.map_cons,List.sum_cons,List.length_cons]
  omega
theorem kR (l:List Tk):(l.map fun x=>(⟨(so x).toArray⟩:ByteArray)).map (·.data.toList)=l.map so:=by
 rw [List.map_map];rfl
theorem LJ {l:List Tk} (h:kG l) (j:Nat):kG (l.take j):=⟨fun x hx=>h.1 x (List.mem_of_mem_take hx),by have:=h.2;rw [List.length_take];omega⟩
theorem mW {l:List Tk} (h:kG l):kG (gN l):=by
 unfold gN;split
 ·exact LJ h _
 exact h
theorem iW {l:List Tk} (h:kG l):(Lib.join (l.map so) [32]).length≤140737488355328:=by
 have h1:=join_le l;have h2:=Iy l h.1;have h3:=h.2;omega
theorem Ao (x:Tk):prB x.k ⟨(so x).toArray⟩=pr x:=Ap x rfl
theorem um {l:List Tk} {j:Nat} (h:j<l.length) (h1:iB (l.take j)=true):iB (l.take (j+1))=pr (tk.gt l j):=by
 unfold iB at *;rw [tk.gL h,List.all_append,h1,Bool.true_and];simp
theorem Ce {l:List Tk} {j:Nat} (h:j<l.length) (h1:pr (tk.gt l j)=false):iB l=false:=by
 unfold iB;cases hh:l.all pr
 ·rfl
 have:=List.all_eq_true.1 hh _ (tk.jl h);rw [h1] at this;cases this
end
end Go.Proofs.YtbahfelnbofjjaaGreatDoor
