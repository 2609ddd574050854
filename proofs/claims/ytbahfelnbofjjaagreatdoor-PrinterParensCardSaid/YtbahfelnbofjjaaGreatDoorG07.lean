/-
  The pieces of units, types, windows, literals and expressions: their bytes are the texts, and they are lexed to the tokens; The pieces of an expression of proper form: their bytes are its text; what is printed as true; how long texts are; strconv.Itoa; the printers of package values; A map that the call makes and fills at different integer keys, whatever its elements: the laws at its operations.
-/
import Derived.ChangeMaps5
import Derived.MapKept
import Derived.Carry
import Derived.Test.YtbahfelnbofjjaaGreatDoorG06
set_option maxRecDepth 100000
set_option maxHeartbeats 16000000
namespace Go.Proofs.YtbahfelnbofjjaaGreatDoor
namespace ch
open Go.RowKit dec
def wd (s:ByteArray):Pc:=(false,1,s)
def sg (s:ByteArray):Pc:=(false,5,s)
def bw (s:ByteArray):Pc:=(true,1,s)
def bs (s:ByteArray):Pc:=(true,5,s)
def nuK (n:Int):Pc:=(true,2,⟨(Lib.itoa n).toArray⟩)
def faK (x:un.Fa):List Pc:=wd x.1 :: (if x.2=1 then [] else sg ⟨#[94]⟩ :: ((if x.2<0 then [sg ⟨#[45]⟩] else [])++[(false,2,⟨(Lib.decDigits x.2.natAbs).toArray⟩)]))
def unK:List un.Fa→List Pc
 | []=>[]
 | x :: r=>bs ⟨#[91]⟩ :: (faK x++((r.map fun y=>sg ⟨#[42]⟩ :: faK y).flatten++[sg ⟨#[93]⟩]))
def tyK (t:Ty):List Pc :=
 if t.k=1 then [wd ⟨#[98,111,111,108]⟩] else if t.k=4 then [wd ⟨#[116,101,120,116]⟩] else if t.k=5 then [wd ⟨#[107,101,121]⟩,bw t.of] else if t.k=2 then wd ⟨#[105,110,116]⟩ :: unK t.un else wd ⟨#[100,101,99]⟩ :: unK t.un
def wiK (k n:Int):List Pc :=
 if k=2 then [wd ⟨#[115,108,105,100,105,110,103]⟩,nuK n] else if k=3 then [wd ⟨#[116,117,109,98,108,105,110,103]⟩,nuK n] else if k=4 then [wd ⟨#[115,101,115,115,105,111,110]⟩,nuK n] else [wd ⟨#[97,108,108]⟩]
def vaK (h:Hd):Pc :=
 if h.vk=1 then wd (if h.vn=1 then ⟨#[116,114,117,101]⟩ else ⟨#[102,97,108,115,101]⟩) else if h.vk=2 then (false,2,⟨(Lib.itoa h.vn).toArray⟩) else if h.vk=3 then (false,3,⟨(foX h.vn).toArray⟩) else (false,4,h.vs)
def liK (h:Hd):List Pc:=if h.vk=5 then [sg ⟨#[64]⟩,wd h.nm,(true,4,h.vs)] else vaK h :: unK h.un
def jB (r q:Int) (l:List Pc):List Pc:=if r<q then sg ⟨#[40]⟩ :: (l++[sg ⟨#[41]⟩]) else l
abbrev Ok':=List Pc × Hd
def ok' (l:List Ok') (j:Nat):Ok':=l.getD j ([],h0)
def okK (l:List Ok') (j:Nat):List Pc:=(ok' l j).1
def okP (l:List Ok') (j:Nat) (q:Int):List Pc:=jB (rk (ok' l j).2) q (ok' l j).1
def agK (h:Hd) (l:List Ok'):List Pc :=
 wd h.op :: sg ⟨#[40]⟩ :: wd h.tb :: ((if h.op=⟨#[99,111,117,110,116]⟩ then [] else sg ⟨#[44]⟩ :: sp (okK l 0))++((if h.op=⟨#[113,117,97,110,116,105,108,101]⟩∨h.op=⟨#[100,101,99,97,121]⟩ then [sg ⟨#[44]⟩,nuK h.pa] else []) ++
  (sg ⟨#[44]⟩ :: sp (wiK h.wk h.ws)++((if bS (ok' l 1).2=true then [] else bw ⟨#[119,104,101,114,101]⟩ :: sp (okK l 1))++[sg ⟨#[41]⟩]))))
def opK (op:ByteArray):Pc:=if op=⟨#[111,114]⟩∨op=⟨#[97,110,100]⟩ then bw op else bs op
def mq (h:Hd) (l:List Ok'):List Pc :=
 if h.k=1 then liK h
 else if h.k=4 then wd h.nm :: bw ⟨#[111,102]⟩ :: bs ⟨#[40]⟩ :: (okK l 0++[sg ⟨#[41]⟩])
 else if h.k=5 then agK h l
 else if h.k=6 then (if h.op=⟨#[45]⟩ then sg ⟨#[45]⟩ :: okP l 0 8 else if h.op=⟨#[110,111,116]⟩ then wd ⟨#[110,111,116]⟩ :: sp (okP l 0 4) else wd ⟨#[110,117,108,108]⟩ :: sg ⟨#[40]⟩ :: (okK l 0++[sg ⟨#[41]⟩]))
 else if h.k=7 then okP l 0 (lef (rkO h.op))++(opK h.op :: sp (okP l 1 (rkO h.op+1)))
 else if h.k=8 then wd ⟨#[105,102]⟩ :: (sp (okK l 0)++(bw ⟨#[116,104,101,110]⟩ :: (sp (okK l 1)++(bw ⟨#[101,108,115,101]⟩ :: sp (okK l 2)))))
 else if h.k=9 then okP l 0 1++(bw ⟨#[100,101,102,97,117,108,116]⟩ :: sp (okP l 1 2))
 else [wd h.nm]
def xkF:Fo→List Ok'
 | .nil=>[]
 | .cons h ar r=>(mq h (xkF ar),h) :: xkF r
def xkE (x:Ex):List Pc:=mq x.h (xkF x.ar)
structure Gd (K:List Pc) (T:List UInt8):Prop where
 b:pcB K=T
 w:wf true K=true
 f:Hf K
theorem iC (s:ByteArray) (l:List Pc):pcB (wd s :: l)=s.data.toList++pcB l:=rfl
theorem nS (s:ByteArray) (l:List Pc):pcB (bw s :: l)=32 :: (s.data.toList++pcB l):=rfl
theorem jk (s:ByteArray) (l:List Pc):pcB (sg s :: l)=s.data.toList++pcB l:=rfl
theorem Jg (s:ByteArray) (l:List Pc):pcB (bs s :: l)=32 :: (s.data.toList++pcB l):=rfl
theorem uV (n:Int) (l:List Pc):pcB (nuK n :: l)=32 :: (Lib.itoa n++pcB l):=rfl
theorem rF:pcB []=[]:=rfl
theorem kY {s:ByteArray} (h:name s=true):pr ⟨1,s,0⟩=true:=by
 unfold name at h;rw [Bool.and_eq_true] at h;rw [← Ap ⟨1,s,0⟩ (s:=s) rfl];exact h.1
theorem Jk {u:Nat} (hu:u≤1152921504606846976):pr ⟨2,⟨(Lib.decDigits u).toArray⟩,0⟩=true:=by
 have hne:Lib.decDigits u≠[]:=by obtain ⟨c,q,e⟩:=mM u;rw [e];exact List.cons_ne_nil _ _
 exact Qj rfl hne (oh u) (by rw [BM];exact hu) 0
theorem xL {n:Int} (h0:0≤n) (h1:n≤1152921504606846976):pr ⟨2,⟨(Lib.itoa n).toArray⟩,0⟩=true:=by
 unfold Lib.itoa;rw [if_neg (by omega)];exact Jk (by omega)
theorem bW {o:Bool} {p:Pc} {l:List Pc} (h1:p.1=true∨o=true∨clo p=true) (h2:pr (tk0 p)=true) (h3:wf false l=true):wf o (p :: l)=true:=gK.2 ⟨h1,h2,Ib h3⟩
theorem lF {o:Bool} {p:Pc} {l:List Pc} (h1:p.1=true∨o=true∨clo p=true) (h2:pr (tk0 p)=true) (hp:opn p=true) (h3:wf true l=true):wf o (p :: l)=true:=gK.2 ⟨h1,h2,by rw [hp];exact h3⟩
theorem qX {K l:List Pc} (h:wf true K=true) (hl:wf false l=true):wf true (K++l)=true:=pQ _ _ _ h hl
theorem lX {K l:List Pc} (h:wf true K=true) (hl:wf false l=true):wf false (sp K++l)=true:=pQ _ _ _ (uE h) hl
theorem uF (s:ByteArray) (h:pr ⟨5,s,0⟩=true) (hc:clo (sg s)=true):wf false [sg s]=true:=bW (.inr (.inr hc)) h rfl
theorem Pm {K:List Pc} {o:Bool} {b:Bool} (hb:b=true∨o=true∨clo (b,5,⟨#[40]⟩)=true) (h:wf true K=true) (l:List Pc) (hl:wf false l=true):wf o ((b,5,⟨#[40]⟩) :: (K++sg ⟨#[41]⟩ :: l))=true :=
 lF hb (show pr ⟨5,⟨#[40]⟩,0⟩=true by decide) (show opn (false,5,⟨#[40]⟩)=true by decide) (qX h (bW (.inr (.inr (by decide))) (by decide) hl))
theorem Qn {K:List Pc} {T:List UInt8} (h:Gd K T) (r q:Int):Gd (jB r q K) (par r q T):=by
 unfold jB par;by_cases hr:r<q
 ·rw [if_pos hr,if_pos hr];refine ⟨?_,Pm (b:=false) (.inr (.inl rfl)) h.w [] rfl,⟨_,_,rfl⟩⟩;rw [jk,jI,h.b,jk];rfl
 rw [if_neg hr,if_neg hr];exact h
structure Un (u:List un.Fa):Prop where
 o:un.Ok u
 n:∀ x ∈ u,name x.1=true
theorem Qt {u:List un.Fa} (h:okU u=true):Un u:=by
 unfold okU at h;rw [Bool.and_eq_true,decide_eq_true_eq,List.all_eq_true] at h;exact ⟨(un.Km u).1 h.1,h.2⟩
theorem vM {x:un.Fa} {u:List un.Fa} (h:Un u) (hx:x ∈ u) : -8≤x.2∧x.2≤8∧x.2≠0:=by
 have:=(h.o.good x hx).2;have h2:=this.2;unfold un.far at h2;rw [decide_eq_false_iff_not] at h2;omega
theorem MH (x:un.Fa) (l:List Pc):pcB (faK x++l)=un.f1 x++pcB l:=by
 unfold faK un.f1;by_cases h1:x.2=1
 ·rw [if_pos h1,if_pos h1];rfl
 rw [if_neg h1,if_neg h1];unfold Lib.itoa;by_cases h2:x.2<0
 ·rw [if_pos h2,if_pos h2,jI];show (x.1.data.toList++(94 :: 45 :: (Lib.decDigits x.2.natAbs++[])))++pcB l=_;simp
 rw [if_neg h2,if_neg h2,jI,show x.2.natAbs=x.2.toNat by omega];show (x.1.data.toList++(94 :: (Lib.decDigits x.2.toNat++[])))++pcB l=_;simp
theorem MG {x:un.Fa} (hn:name x.1=true) (h1 : -8≤x.2) (h2:x.2≤8) (l:List Pc) (hl:wf false l=true):wf true (faK x++l)=true:=by
 unfold faK;refine pQ _ _ _ (bW (.inr (.inl rfl)) (kY hn) ?_) hl;by_cases h:x.2=1
 ·rw [if_pos h];rfl
 rw [if_neg h];have hd:wf true [((false,2,⟨(Lib.decDigits x.2.natAbs).toArray⟩):Pc)]=true:=bW (.inr (.inl rfl)) (Jk (by omega)) rfl;refine lF (.inr (.inr (by decide))) (by decide) (by decide) ?_;by_cases h2:x.2<0
 ·rw [if_pos h2];exact lF (.inr (.inl rfl)) (by decide) (by decide) hd
 rw [if_neg h2];exact hd
theorem MF:∀ (r:List un.Fa) (l:List Pc),pcB ((r.map fun y=>sg ⟨#[42]⟩ :: faK y).flatten++l)=Lib.joinTail [42] (r.map un.f1)++pcB l
 | [],_=>rfl
 | y :: r,l=>by
  rw [List.map_cons,List.flatten_cons,List.append_assoc,List.cons_append,jk,MH,MF r l]
  show _=([42]++un.f1 y++Lib.joinTail [42] (r.map un.f1))++pcB l
  simp
theorem ME:∀ (r:List un.Fa) (l:List Pc),(∀ x ∈ r,name x.1=true∧-8≤x.2∧x.2≤8)→wf false l=true→wf false ((r.map fun y=>sg ⟨#[42]⟩ :: faK y).flatten++l)=true
 | [],_,_,hl=>hl
 | y :: r,l,h,hl=>by
  rw [List.map_cons,List.flatten_cons,List.append_assoc,List.cons_append]
  obtain ⟨h1,h2,h3⟩:=h y (List.mem_cons_self ..)
  exact lF (.inr (.inr (by decide))) (by decide) (by decide) (MG h1 h2 h3 _ (ME r l (fun x hx=>h x (List.mem_cons_of_mem _ hx)) hl))
theorem RS (u:List un.Fa) (l:List Pc):pcB (unK u++l)=uT u++pcB l:=by
 cases u with
 | nil=>rfl
 | cons x r =>
   unfold unK uT
   rw [if_neg (List.cons_ne_nil _ _),List.cons_append,List.append_assoc,List.append_assoc,Jg,MH,MF]
   unfold un.fT
   rw [List.map_cons,Lib.join_cons]
   show 32 :: ([91]++(un.f1 x++(Lib.joinTail [42] (r.map un.f1)++([93]++pcB l))))=_
   simp
theorem RQ {u:List un.Fa} (h:Un u) {l:List Pc} (hl:wf false l=true):wf false (unK u++l)=true:=by
 cases u with
 | nil=>exact hl
 | cons x r =>
   have hf:∀ y ∈ x :: r,name y.1=true∧-8≤y.2∧y.2≤8:=fun y hy=>⟨h.n y hy,(vM h hy).1,(vM h hy).2.1⟩
   unfold unK
   rw [List.cons_append,List.append_assoc,List.append_assoc]
   obtain ⟨h1,h2,h3⟩:=hf x (List.mem_cons_self ..)
   exact lF (.inl rfl) (by decide) (by decide) (MG h1 h2 h3 _ (ME r _ (fun y hy=>hf y (List.mem_cons_of_mem _ hy)) (pQ _ _ _ (uF ⟨#[93]⟩ (by decide) (by decide)) hl)))
theorem Cc (l:List Pc):l=l++[]:=(List.append_nil l).symm
theorem uI {u:List un.Fa} (h:Un u):wf false (unK u)=true:=by rw [Cc (unK u)];exact RQ h rfl
theorem uJ (u:List un.Fa):pcB (unK u)=uT u:=by rw [Cc (unK u),RS];exact List.append_nil _
theorem fU {t:Ty} (h:tyE t=0):(t=⟨1,[],.empty⟩∨t=⟨4,[],.empty⟩)∨(∃ s,t=⟨5,[],s⟩∧name s=true)∨(∃ u,(t=⟨2,u,.empty⟩∨t=⟨3,u,.empty⟩)∧Un u):=by
 obtain ⟨k,u,s⟩:=t;unfold tyE at h;simp only at h;by_cases h1:k<1∨5<k
 ·rw [if_pos h1] at h;cases h
 rw [if_neg h1] at h;by_cases h2:k=5∧name s=false
 ·rw [if_pos h2] at h;cases h
 rw [if_neg h2] at h;by_cases h3:k≠5∧s≠.empty
 ·rw [if_pos h3] at h;cases h
 rw [if_neg h3] at h;by_cases h4:num ⟨k,u,s⟩=false∧0<u.length
 ·rw [if_pos h4] at h;cases h
 rw [if_neg h4] at h;by_cases h5:okU u=true
 ·have hu:=Qt h5;have hs:k=5∨s=.empty:=by
   by_cases hk:k=5
   ·exact .inl hk
   exact .inr (Classical.byContradiction fun e=>h3 ⟨hk,e⟩)
  have hnum:k=2∨k=3∨u=[]:=by
   by_cases hk2:k=2
   ·exact .inl hk2
   by_cases hk3:k=3
   ·exact .inr (.inl hk3)
   refine .inr (.inr ?_);have hf:num ⟨k,u,s⟩=false:=by unfold num;simp [hk2,hk3]
   cases u with
   | nil=>rfl
   | cons _ _=>exact absurd ⟨hf,by simp⟩ h4
  rcases (show k=1∨k=2∨k=3∨k=4∨k=5 by omega) with rfl | rfl | rfl | rfl | rfl
  ·obtain rfl:=hs.resolve_left (by decide);obtain rfl:=(hnum.resolve_left (by decide)).resolve_left (by decide);exact .inl (.inl rfl)
  ·obtain rfl:=hs.resolve_left (by decide);exact .inr (.inr ⟨u,.inl rfl,hu⟩)
  ·obtain rfl:=hs.resolve_left (by decide);exact .inr (.inr ⟨u,.inr rfl,hu⟩)
  ·obtain rfl:=hs.resolve_left (by decide);obtain rfl:=(hnum.resolve_left (by decide)).resolve_left (by decide);exact .inl (.inr rfl)
  obtain rfl:=(hnum.resolve_left (by decide)).resolve_left (by decide);refine .inr (.inl ⟨s,rfl,?_⟩)
  cases hn:name s with
  | true=>rfl
  | false=>exact absurd ⟨rfl,hn⟩ h2
 rw [if_neg h5] at h;cases h
theorem zQ {t:Ty} (h:tyE t=0):Gd (tyK t) (tyT t):=by
 rcases fU h with (rfl | rfl) | ⟨s,rfl,hs⟩ | ⟨u,rfl | rfl,hu⟩
 ·exact ⟨rfl,by decide,⟨_,_,rfl⟩⟩
 ·exact ⟨rfl,by decide,⟨_,_,rfl⟩⟩
 ·refine ⟨?_,bW (p:=wd ⟨#[107,101,121]⟩) (.inr (.inl rfl)) (by decide) (bW (p:=bw s) (.inl rfl) (kY hs) rfl),⟨_,_,rfl⟩⟩;show pcB [wd ⟨#[107,101,121]⟩,bw s]=[107,101,121,32]++s.data.toList;rw [iC,nS,rF];simp
 ·refine ⟨?_,bW (p:=wd ⟨#[105,110,116]⟩) (.inr (.inl rfl)) (by decide) (uI hu),⟨_,_,rfl⟩⟩;show pcB (wd ⟨#[105,110,116]⟩ :: unK u)=[105,110,116]++uT u;rw [iC,uJ]
 refine ⟨?_,bW (p:=wd ⟨#[100,101,99]⟩) (.inr (.inl rfl)) (by decide) (uI hu),⟨_,_,rfl⟩⟩;show pcB (wd ⟨#[100,101,99]⟩ :: unK u)=[100,101,99]++uT u;rw [iC,uJ]
theorem ou {k n:Int} (h:gJ k n=true):(k=1∧n=0)∨((k=2∨k=3∨k=4)∧1≤n∧n≤1099511627776):=by
 unfold gJ at h;by_cases h1:k=1
 ·rw [if_pos h1,decide_eq_true_eq] at h;exact .inl ⟨h1,h⟩
 rw [if_neg h1] at h;by_cases h2:k=2∨k=3∨k=4
 ·rw [if_pos h2,Bool.and_eq_true,decide_eq_true_eq,decide_eq_true_eq] at h;exact .inr ⟨h2,h⟩
 rw [if_neg h2] at h;cases h
theorem Pj {k n:Int} (h:gJ k n=true):Gd (wiK k n) (wiT k n):=by
 rcases ou h with ⟨rfl,rfl⟩ | ⟨h1,h2,h3⟩
 ·exact ⟨rfl,by decide,⟨_,_,rfl⟩⟩
 have hp:pr (tk0 (nuK n))=true:=xL (by omega) (by omega);rcases h1 with rfl | rfl | rfl
 ·refine ⟨?_,bW (p:=wd ⟨#[115,108,105,100,105,110,103]⟩) (.inr (.inl rfl)) (by decide) (bW (p:=nuK n) (.inl rfl) hp rfl),⟨_,_,rfl⟩⟩;show pcB [wd ⟨#[115,108,105,100,105,110,103]⟩,nuK n]=[115,108,105,100,105,110,103,32]++Lib.itoa n;rw [iC,uV,rF];simp
 ·refine ⟨?_,bW (p:=wd ⟨#[116,117,109,98,108,105,110,103]⟩) (.inr (.inl rfl)) (by decide) (bW (p:=nuK n) (.inl rfl) hp rfl),⟨_,_,rfl⟩⟩;show pcB [wd ⟨#[116,117,109,98,108,105,110,103]⟩,nuK n]=[116,117,109,98,108,105,110,103,32]++Lib.itoa n;rw [iC,uV,rF];simp
 refine ⟨?_,bW (p:=wd ⟨#[115,101,115,115,105,111,110]⟩) (.inr (.inl rfl)) (by decide) (bW (p:=nuK n) (.inl rfl) hp rfl),⟨_,_,rfl⟩⟩;show pcB [wd ⟨#[115,101,115,115,105,111,110]⟩,nuK n]=[115,101,115,115,105,111,110,32]++Lib.itoa n;rw [iC,uV,rF];simp
theorem Nt {h g:Hd} (e:same h g=true):h.op=g.op∧h.nm=g.nm∧h.tb=g.tb∧h.vk=g.vk∧h.vn=g.vn∧h.vs=g.vs∧h.un=g.un∧h.pa=g.pa∧h.wk=g.wk∧h.ws=g.ws:=by
 unfold same at e;simp only [Bool.and_eq_true,decide_eq_true_eq] at e;obtain ⟨a1,a2,a3,⟨a4,a5,a6⟩,a7,a8,a9,a10⟩:=e;exact ⟨a1,a2,a3,a4,a5,a6,a7,a8,a9,a10⟩
inductive Nod (i:Bool) (g:Hd):Hd→Nat→Prop where
 | boo (n:Int):n=0∨n=1→Nod i g { h0 with k:=1,vk:=1,vn:=n } 0
 | num (k n:Int) (u:List un.Fa):k=2∨k=3→0≤n→n≤1152921504606846976→Un u→Nod i g { h0 with k:=1,vk:=k,vn:=n,un:=u } 0
 | tex (s:ByteArray):s.size≤64→pB 32 s.data.toList=true→Nod i g { h0 with k:=1,vk:=4,vs:=s } 0
 | key (m s:ByteArray):name m=true→1≤s.size→s.size≤32→pB 33 s.data.toList=true→Nod i g { h0 with k:=1,nm:=m,vk:=5,vs:=s } 0
 | fie (m:ByteArray):i=true→name m=true→Nod i g { h0 with k:=2,nm:=m } 0
 | fea (m:ByteArray):i=false→name m=true→Nod i g { h0 with k:=3,nm:=m } 0
 | loo (m:ByteArray):i=false→name m=true→Nod i g { h0 with k:=4,nm:=m } 1
 | agg (op t:ByteArray) (p wk ws:Int):i=false→name t=true→ig op p=true→gJ wk ws=true→(op=⟨#[99,111,117,110,116]⟩→bS g=true)→Nod i g { h0 with k:=5,op:=op,tb:=t,pa:=p,wk:=wk,ws:=ws } 2
 | una (op:ByteArray):op=⟨#[45]⟩∨op=⟨#[110,111,116]⟩∨op=⟨#[110,117,108,108]⟩→Nod i g { h0 with k:=6,op:=op } 1
 | bin (op:ByteArray):op=⟨#[43]⟩∨op=⟨#[45]⟩∨op=⟨#[42]⟩∨op=⟨#[47]⟩∨op=⟨#[61,61]⟩∨op=⟨#[33,61]⟩∨op=⟨#[60]⟩∨op=⟨#[60,61]⟩∨op=⟨#[97,110,100]⟩∨op=⟨#[111,114]⟩→Nod i g { h0 with k:=7,op:=op } 2
 | iff:Nod i g { h0 with k:=8 } 3
 | dfl:Nod i g { h0 with k:=9 } 2
theorem kL {h g:Hd} (hk:h.k=g.k) (e:same h g=true):h=g:=by
 obtain ⟨a1,a2,a3,a4,a5,a6,a7,a8,a9,a10⟩:=Nt e;cases h;cases g;simp only at *;subst hk a1 a2 a3 a4 a5 a6 a7 a8 a9 a10;rfl
theorem gQ {i:Bool} {h:Hd} {n:Nat} {g:Hd} (e:bU i h n g=true):Nod i g h n:=by
 unfold bU at e;by_cases k1:h.k=1
 ·rw [if_pos k1,Bool.and_eq_true,decide_eq_true_eq] at e;obtain ⟨e,rfl⟩:=e;unfold xC at e;simp only [Bool.and_eq_true,decide_eq_true_eq] at e;obtain ⟨c1,c2,c3,c4⟩:=e;have hh:=kL (g:={ h0 with k:=1,nm:=h.nm,vk:=h.vk,vn:=h.vn,vs:=h.vs,un:=h.un }) k1 (by rw [← c4];rfl);have ho:ok ⟨h.vk,h.vn,h.vs⟩=true:=dT c1;generalize h.nm=m at *;generalize h.vk=vk at *;generalize h.vn=vn at *;generalize h.vs=vs at *;generalize h.un=u at *;subst hh;rcases Az ho with e | e | e | ⟨x,e,h1,h2⟩ | ⟨x,e,h1,h2⟩ | ⟨s,e,h1,h2⟩ | ⟨s,e,h0,h1,h2⟩
  ·obtain ⟨rfl,rfl,rfl⟩:=Va.mk.inj e;exact absurd c3 (by unfold tyE;simp)
  ·obtain ⟨rfl,rfl,rfl⟩:=Va.mk.inj e;rcases fU c3 with (e2 | e2) | ⟨s,e2,hs⟩ | ⟨u',e2 | e2,hu⟩
   ·obtain ⟨_,rfl,rfl⟩:=Ty.mk.inj e2;exact .boo 0 (.inl rfl)
   all_goals exact absurd (Ty.mk.inj e2).1 (by decide)
  ·obtain ⟨rfl,rfl,rfl⟩:=Va.mk.inj e;rcases fU c3 with (e2 | e2) | ⟨s,e2,hs⟩ | ⟨u',e2 | e2,hu⟩
   ·obtain ⟨_,rfl,rfl⟩:=Ty.mk.inj e2;exact .boo 1 (.inr rfl)
   all_goals exact absurd (Ty.mk.inj e2).1 (by decide)
  ·obtain ⟨rfl,rfl,rfl⟩:=Va.mk.inj e;rcases fU c3 with (e2 | e2) | ⟨s,e2,hs⟩ | ⟨u',e2 | e2,hu⟩
   iterate 3 exact absurd (Ty.mk.inj e2).1 (by decide)
   ·obtain ⟨_,rfl,rfl⟩:=Ty.mk.inj e2;exact .num 2 vn u (.inl rfl) c2 h2 hu
   exact absurd (Ty.mk.inj e2).1 (by decide)
  ·obtain ⟨rfl,rfl,rfl⟩:=Va.mk.inj e;rcases fU c3 with (e2 | e2) | ⟨s,e2,hs⟩ | ⟨u',e2 | e2,hu⟩
   iterate 4 exact absurd (Ty.mk.inj e2).1 (by decide)
   obtain ⟨_,rfl,rfl⟩:=Ty.mk.inj e2;exact .num 3 vn u (.inr rfl) c2 h2 hu
  ·obtain ⟨rfl,rfl,rfl⟩:=Va.mk.inj e;rcases fU c3 with (e2 | e2) | ⟨s',e2,hs⟩ | ⟨u',e2 | e2,hu⟩
   ·exact absurd (Ty.mk.inj e2).1 (by decide)
   ·obtain ⟨_,rfl,rfl⟩:=Ty.mk.inj e2;exact .tex vs h1 h2
   all_goals exact absurd (Ty.mk.inj e2).1 (by decide)
  obtain ⟨rfl,rfl,rfl⟩:=Va.mk.inj e;rcases fU c3 with (e2 | e2) | ⟨s',e2,hs⟩ | ⟨u',e2 | e2,hu⟩
  iterate 2 exact absurd (Ty.mk.inj e2).1 (by decide)
  ·obtain ⟨_,rfl,rfl⟩:=Ty.mk.inj e2;exact .key m vs hs h0 h1 h2
  all_goals exact absurd (Ty.mk.inj e2).1 (by decide)
 rw [if_neg k1] at e;by_cases k2:h.k=2
 ·rw [if_pos k2] at e;unfold mF at e;simp only [Bool.and_eq_true,decide_eq_true_eq] at e;obtain ⟨hi,⟨hn,hs⟩,rfl⟩:=e;have hh:=kL (g:={ h0 with k:=2,nm:=h.nm }) k2 (by rw [← hs];rfl);rw [hh];exact .fie h.nm hi hn
 rw [if_neg k2] at e;by_cases k3:h.k=3
 ·rw [if_pos k3] at e;unfold mF at e;simp only [Bool.and_eq_true,decide_eq_true_eq,Bool.not_eq_true'] at e;obtain ⟨hi,⟨hn,hs⟩,rfl⟩:=e;have hh:=kL (g:={ h0 with k:=3,nm:=h.nm }) k3 (by rw [← hs];rfl);rw [hh];exact .fea h.nm hi hn
 rw [if_neg k3] at e;by_cases k4:h.k=4
 ·rw [if_pos k4] at e;unfold mF at e;simp only [Bool.and_eq_true,decide_eq_true_eq,Bool.not_eq_true'] at e;obtain ⟨hi,⟨hn,hs⟩,rfl⟩:=e;have hh:=kL (g:={ h0 with k:=4,nm:=h.nm }) k4 (by rw [← hs];rfl);rw [hh];exact .loo h.nm hi hn
 rw [if_neg k4] at e;by_cases k5:h.k=5
 ·rw [if_pos k5] at e;unfold Cg at e;simp only [Bool.and_eq_true,decide_eq_true_eq,Bool.not_eq_true',Bool.or_eq_true,decide_eq_false_iff_not] at e;obtain ⟨hi,⟨hn,hp,hw,hs⟩,rfl,hc⟩:=e;have hh:=kL (g:={ h0 with k:=5,op:=h.op,tb:=h.tb,pa:=h.pa,wk:=h.wk,ws:=h.ws }) k5 (by rw [← hs];rfl);rw [hh];exact .agg h.op h.tb h.pa h.wk h.ws hi hn hp hw fun e=>hc.resolve_left fun h=>h e
 rw [if_neg k5] at e;by_cases k6:h.k=6
 ·rw [if_pos k6] at e;unfold lq at e;simp only [Bool.and_eq_true,decide_eq_true_eq,Bool.or_eq_true] at e;obtain ⟨ho,hs,rfl⟩:=e;have hh:=kL (g:={ h0 with k:=6,op:=h.op }) k6 (by rw [← hs];rfl);rw [hh];exact .una h.op ho
 rw [if_neg k6] at e;by_cases k7:h.k=7
 ·rw [if_pos k7] at e;unfold lD at e;simp only [Bool.and_eq_true,decide_eq_true_eq,Bool.or_eq_true,List.any_cons,List.any_nil,Bool.or_false] at e;obtain ⟨ho,hs,rfl⟩:=e;have hh:=kL (g:={ h0 with k:=7,op:=h.op }) k7 (by rw [← hs];rfl);rw [hh];exact .bin h.op ho
 rw [if_neg k7] at e;by_cases k8:h.k=8
 ·rw [if_pos k8] at e;simp only [Bool.and_eq_true,decide_eq_true_eq] at e;obtain ⟨hs,rfl⟩:=e;have hh:=kL (g:={ h0 with k:=8 }) k8 (by rw [← hs];rfl);rw [hh];exact .iff
 rw [if_neg k8] at e;by_cases k9:h.k=9
 ·rw [if_pos k9] at e;simp only [Bool.and_eq_true,decide_eq_true_eq] at e;obtain ⟨hs,rfl⟩:=e;have hh:=kL (g:={ h0 with k:=9 }) k9 (by rw [← hs];rfl);rw [hh];exact .dfl
 rw [if_neg k9] at e;cases e
theorem QM {s:ByteArray} (h1:s.size≤32) (h2:pB 33 s.data.toList=true):pr ⟨4,s,0⟩=true:=by
 refine Jb ?_ 0;unfold Go.Proofs.YtbahfelnbofjjaaGreatDoor.txE;rw [if_neg (by rw [aI];omega),if_pos ?_];unfold pB at h2 ⊢;rw [List.all_eq_true] at h2 ⊢;intro c hc;have:=h2 c hc;unfold okB at this ⊢;simp only [Bool.and_eq_true,decide_eq_true_eq] at this ⊢;exact ⟨⟨⟨by omega,this.1.1.2⟩,this.1.2⟩,this.2⟩
theorem PE {s:ByteArray} (h1:s.size≤64) (h2:pB 32 s.data.toList=true):pr ⟨4,s,0⟩=true:=by
 refine Jb ?_ 0;unfold Go.Proofs.YtbahfelnbofjjaaGreatDoor.txE;rw [if_neg (by rw [aI];omega),if_pos h2]
theorem TA {n:Int} (h0:0≤n) (h1:n≤1152921504606846976):pr ⟨3,⟨(foX n).toArray⟩,0⟩=true:=by
 have hfo:foX n=bod n.natAbs:=by
  rw [zx,if_neg (by omega)];rfl
 have hpa:=SB (x:=n) (by omega) (by omega);rw [hfo] at hpa ⊢;refine Gn (ds:=Lib.decDigits (n.natAbs / 1000000)) (fs:=iA n.natAbs) rfl ?_ (by unfold iA;simp) (oh _) (Bt n.natAbs) hpa.2 0;obtain ⟨c,r,e⟩:=mM (n.natAbs / 1000000);rw [e];simp
theorem qJ {k n:Int} (hk:k=2∨k=3) (h0:0≤n) (h1:n≤1152921504606846976):fm ⟨k,n,.empty⟩=if k=2 then Lib.itoa n else foX n:=by
 rcases hk with rfl | rfl
 ·rw [fM (ok_int (by omega) h1)];rfl
 rw [fM (Qs (by omega) h1)];rfl
theorem kX {op:ByteArray} {p:Int} (h:ig op p=true):(op=⟨#[99,111,117,110,116]⟩∨op=⟨#[115,117,109]⟩∨op=⟨#[109,101,97,110]⟩∨op=⟨#[109,105,110]⟩∨op=⟨#[109,97,120]⟩∨op=⟨#[102,105,114,115,116]⟩∨op=⟨#[108,97,115,116]⟩∨op=⟨#[100,105,115,116,105,110,99,116]⟩)∧p=0∨(op=⟨#[113,117,97,110,116,105,108,101]⟩∨op=⟨#[100,101,99,97,121]⟩)∧1≤p∧p≤1073741824:=by
 unfold ig at h;by_cases h1:op=⟨#[99,111,117,110,116]⟩∨op=⟨#[115,117,109]⟩∨op=⟨#[109,101,97,110]⟩∨op=⟨#[109,105,110]⟩∨op=⟨#[109,97,120]⟩∨op=⟨#[102,105,114,115,116]⟩∨op=⟨#[108,97,115,116]⟩∨op=⟨#[100,105,115,116,105,110,99,116]⟩
 ·rw [if_pos h1,decide_eq_true_eq] at h;exact .inl ⟨h1,h⟩
 rw [if_neg h1] at h;by_cases h2:op=⟨#[113,117,97,110,116,105,108,101]⟩
 ·rw [if_pos h2,Bool.and_eq_true,decide_eq_true_eq,decide_eq_true_eq] at h;exact .inr ⟨.inl h2,h.1,by omega⟩
 rw [if_neg h2] at h;by_cases h3:op=⟨#[100,101,99,97,121]⟩
 ·rw [if_pos h3,Bool.and_eq_true,decide_eq_true_eq,decide_eq_true_eq] at h;exact .inr ⟨.inr h3,h⟩
 rw [if_neg h3] at h;cases h
theorem TP {op:ByteArray} {p:Int} (h:ig op p=true):pr ⟨1,op,0⟩=true:=by
 rcases kX h with ⟨h,_⟩ | ⟨h,_⟩
 ·rcases h with rfl | rfl | rfl | rfl | rfl | rfl | rfl | rfl <;> decide
 rcases h with rfl | rfl <;> decide
def Gds (K:List Ok') (T:List Od):Prop:=∀ j,j<T.length→Gd (okK K j) (odT T j)∧(ok' K j).2=(od T j).2
theorem Gds.p {K:List Ok'} {T:List Od} (h:Gds K T) {j:Nat} (hj:j<T.length) (q:Int):Gd (okP K j q) (odP T j q):=by
 obtain ⟨h1,h2⟩:=h j hj;unfold okP odP;rw [h2];exact Qn h1 _ _
theorem Bq {K:List Pc} {T:List UInt8} (h:Gd K T) (l:List Pc):pcB (K++sg ⟨#[41]⟩ :: l)=T++41 :: pcB l:=by rw [jI,h.b,jk];rfl
theorem vJ {K:List Pc} {T:List UInt8} (h:Gd K T) (l:List Pc):pcB (sp K++l)=32 :: (T++pcB l):=by rw [jI,Jf h.f,h.b];rfl
theorem vI {K:List Pc} {T:List UInt8} (h:Gd K T):pcB (sp K)=32 :: T:=by rw [Jf h.f,h.b]
theorem Dy {p:Pc} (h2:pr (tk0 p)=true) (hp:opn p=true) {K:List Pc} {T:List UInt8} (h:Gd K T) {l:List Pc} (hl:wf false l=true) {o:Bool} (h1:p.1=true∨o=true∨clo p=true):wf o (p :: (K++l))=true:=lF h1 h2 hp (qX h.w hl)
theorem nV {i:Bool} {h:Hd} {n:Nat} {g:Hd} (N:Nod i g h n) {K:List Ok'} {T:List Od} (G:Gds K T) (hn:T.length=n):Gd (mq h K) (dD h T):=by
 cases N with
 | boo n e =>
   rcases e with rfl | rfl
   · have e2:mq { h0 with k:=1,vk:=1,vn:=0 } K=[wd ⟨#[102,97,108,115,101]⟩]:=rfl
     have e1:dD { h0 with k:=1,vk:=1,vn:=0 } T=fm ⟨1,0,.empty⟩++[]:=rfl
     rw [e1,e2,fM (by decide)]
     exact ⟨by decide,by decide,⟨_,_,rfl⟩⟩
   · have e2:mq { h0 with k:=1,vk:=1,vn:=1 } K=[wd ⟨#[116,114,117,101]⟩]:=rfl
     have e1:dD { h0 with k:=1,vk:=1,vn:=1 } T=fm ⟨1,1,.empty⟩++[]:=rfl
     rw [e1,e2,fM (by decide)]
     exact ⟨by decide,by decide,⟨_,_,rfl⟩⟩
 | num k n u hk h0 h1 hu =>
   have e1:dD { Go.Proofs.YtbahfelnbofjjaaGreatDoor.h0 with k:=1,vk:=k,vn:=n,un:=u } T=fm ⟨k,n,.empty⟩++uT u:=by
     show liT _=_
     unfold liT
     rw [if_neg (by show ¬ k=5;omega)]
     rfl
   rw [e1,qJ hk h0 h1]
   rcases hk with rfl | rfl
   · have e2:mq { Go.Proofs.YtbahfelnbofjjaaGreatDoor.h0 with k:=1,vk:=2,vn:=n,un:=u } K=(false,2,⟨(Lib.itoa n).toArray⟩) :: unK u:=rfl
     rw [e2]
     refine ⟨?_,bW (.inr (.inl rfl)) (xL h0 h1) (uI hu),⟨_,_,rfl⟩⟩
     rw [gZ,uJ]
     rfl
   · have e2:mq { Go.Proofs.YtbahfelnbofjjaaGreatDoor.h0 with k:=1,vk:=3,vn:=n,un:=u } K=(false,3,⟨(foX n).toArray⟩) :: unK u:=rfl
     rw [e2]
     refine ⟨?_,bW (.inr (.inl rfl)) (TA h0 h1) (uI hu),⟨_,_,rfl⟩⟩
     rw [gZ,uJ]
     rfl
 | tex s h1 h2 =>
   have e1:dD { h0 with k:=1,vk:=4,vs:=s } T=fm ⟨4,0,s⟩++[]:=rfl
   rw [e1,fM (rH h1 h2),List.append_nil]
   refine ⟨?_,bW (p:=(false,4,s)) (.inr (.inl rfl)) (PE h1 h2) rfl,⟨_,_,rfl⟩⟩
   show []++((34 :: (s.data.toList++[34]))++[])=_
   rw [List.append_nil]
   rfl
 | key m s hm h0 h1 h2 =>
   refine ⟨?_,lF (p:=sg ⟨#[64]⟩) (.inr (.inl rfl)) (by decide) (by decide) (bW (p:=wd m) (.inr (.inl rfl)) (kY hm) (bW (p:=(true,4,s)) (.inl rfl) (QM h1 h2) rfl)),⟨_,_,rfl⟩⟩
   show [64]++(m.data.toList++(32 :: ((34 :: (s.data.toList++[34]))++[])))=64 :: (m.data.toList++32 :: 34 :: (s.data.toList++[34]))
   rw [List.append_nil]
   rfl
 | fie m hi hm =>
   refine ⟨?_,bW (p:=wd m) (.inr (.inl rfl)) (kY hm) rfl,⟨_,_,rfl⟩⟩
   show m.data.toList++[]=m.data.toList
   rw [List.append_nil]
 | fea m hi hm =>
   refine ⟨?_,bW (p:=wd m) (.inr (.inl rfl)) (kY hm) rfl,⟨_,_,rfl⟩⟩
   show m.data.toList++[]=m.data.toList
   rw [List.append_nil]
 | loo m hi hm =>
   have g0:=(G 0 (by omega)).1
   refine ⟨?_,bW (p:=wd m) (.inr (.inl rfl)) (kY hm) (bW (p:=bw ⟨#[111,102]⟩) (.inl rfl) (by decide) (Dy (p:=bs ⟨#[40]⟩) (by decide) (by decide) g0 (uF ⟨#[41]⟩ (by decide) (by decide)) (.inl rfl))),⟨_,_,rfl⟩⟩
   show pcB (wd m :: bw ⟨#[111,102]⟩ :: bs ⟨#[40]⟩ :: (okK K 0++[sg ⟨#[41]⟩]))=m.data.toList++([32,111,102,32,40]++(odT T 0++[41]))
   rw [iC,nS,Jg,Bq g0]
   rfl
 | agg op t p wk ws hi ht hp hw hc =>
   have g0:=(G 0 (by omega)).1
   have g1:=(G 1 (by omega)).1
   have e1:=(G 1 (by omega)).2
   have gw:=Pj hw
   have w9:wf false ((if bS (ok' K 1).2=true then [] else bw ⟨#[119,104,101,114,101]⟩ :: sp (okK K 1))++[sg ⟨#[41]⟩])=true:=by
     by_cases hq:bS (ok' K 1).2=true
     · rw [if_pos hq];decide
     · rw [if_neg hq]
       exact bW (p:=bw ⟨#[119,104,101,114,101]⟩) (.inl rfl) (by decide) (lX g1.w (uF ⟨#[41]⟩ (by decide) (by decide)))
   have w8:wf false (sg ⟨#[44]⟩ :: sp (wiK wk ws)++((if bS (ok' K 1).2=true then [] else bw ⟨#[119,104,101,114,101]⟩ :: sp (okK K 1))++[sg ⟨#[41]⟩]))=true :=
     bW (p:=sg ⟨#[44]⟩) (.inr (.inr (by decide))) (by decide) (lX gw.w w9)
   have w7:wf false ((if op=⟨#[113,117,97,110,116,105,108,101]⟩∨op=⟨#[100,101,99,97,121]⟩ then [sg ⟨#[44]⟩,nuK p] else [])++(sg ⟨#[44]⟩ :: sp (wiK wk ws)++((if bS (ok' K 1).2=true then [] else bw ⟨#[119,104,101,114,101]⟩ :: sp (okK K 1))++[sg ⟨#[41]⟩])))=true:=by
     by_cases hq:op=⟨#[113,117,97,110,116,105,108,101]⟩∨op=⟨#[100,101,99,97,121]⟩
     · rw [if_pos hq]
       have hp2:1≤p∧p≤1073741824:=by
         rcases kX hp with ⟨h,_⟩ | h
         · exfalso
           rcases hq with rfl | rfl <;> exact absurd h (by decide)
         · exact h.2
       exact bW (p:=sg ⟨#[44]⟩) (.inr (.inr (by decide))) (by decide) (bW (p:=nuK p) (.inl rfl) (xL (by omega) (by omega)) w8)
     · rw [if_neg hq];exact w8
   refine ⟨?_,?_,⟨_,_,rfl⟩⟩
   · show pcB (agK { h0 with k:=5,op:=op,tb:=t,pa:=p,wk:=wk,ws:=ws } K)=agT { h0 with k:=5,op:=op,tb:=t,pa:=p,wk:=wk,ws:=ws } T
     have k9:pcB ((if bS (ok' K 1).2=true then [] else bw ⟨#[119,104,101,114,101]⟩ :: sp (okK K 1))++[sg ⟨#[41]⟩])=(if bS (od T 1).2=true then [] else [32,119,104,101,114,101,32]++odT T 1)++[41]:=by
       rw [e1]
       by_cases hq:bS (od T 1).2=true
       · rw [if_pos hq,if_pos hq];rfl
       · rw [if_neg hq,if_neg hq,List.cons_append,nS,vJ g1]
         show 32 :: (([119,104,101,114,101]:List UInt8)++32 :: (odT T 1++[41]))=_
         simp
     have k8:pcB (sg ⟨#[44]⟩ :: sp (wiK wk ws)++((if bS (ok' K 1).2=true then [] else bw ⟨#[119,104,101,114,101]⟩ :: sp (okK K 1))++[sg ⟨#[41]⟩]))=44 :: 32 :: wiT wk ws++((if bS (od T 1).2=true then [] else [32,119,104,101,114,101,32]++odT T 1)++[41]):=by
       rw [List.cons_append,jk,vJ gw,k9]
       rfl
     have k7:pcB ((if op=⟨#[113,117,97,110,116,105,108,101]⟩∨op=⟨#[100,101,99,97,121]⟩ then [sg ⟨#[44]⟩,nuK p] else [])++(sg ⟨#[44]⟩ :: sp (wiK wk ws)++((if bS (ok' K 1).2=true then [] else bw ⟨#[119,104,101,114,101]⟩ :: sp (okK K 1))++[sg ⟨#[41]⟩]))) =
         (if op=⟨#[113,117,97,110,116,105,108,101]⟩∨op=⟨#[100,101,99,97,121]⟩ then 44 :: 32 :: Lib.itoa p else [])++(44 :: 32 :: wiT wk ws++((if bS (od T 1).2=true then [] else [32,119,104,101,114,101,32]++odT T 1)++[41])):=by
       by_cases hq:op=⟨#[113,117,97,110,116,105,108,101]⟩∨op=⟨#[100,101,99,97,121]⟩
       · rw [if_pos hq,if_pos hq,List.cons_append,List.cons_append,List.nil_append,jk,uV,k8]
         rfl
       · rw [if_neg hq,if_neg hq,List.nil_append,List.nil_append,k8]
     have k6:pcB ((if op=⟨#[99,111,117,110,116]⟩ then [] else sg ⟨#[44]⟩ :: sp (okK K 0))++((if op=⟨#[113,117,97,110,116,105,108,101]⟩∨op=⟨#[100,101,99,97,121]⟩ then [sg ⟨#[44]⟩,nuK p] else [])++(sg ⟨#[44]⟩ :: sp (wiK wk ws)++((if bS (ok' K 1).2=true then [] else bw ⟨#[119,104,101,114,101]⟩ :: sp (okK K 1))++[sg ⟨#[41]⟩])))) =
         (if op=⟨#[99,111,117,110,116]⟩ then [] else 44 :: 32 :: odT T 0)++((if op=⟨#[113,117,97,110,116,105,108,101]⟩∨op=⟨#[100,101,99,97,121]⟩ then 44 :: 32 :: Lib.itoa p else [])++(44 :: 32 :: wiT wk ws++((if bS (od T 1).2=true then [] else [32,119,104,101,114,101,32]++odT T 1)++[41]))):=by
       by_cases hq:op=⟨#[99,111,117,110,116]⟩
       · rw [if_pos hq,if_pos hq,List.nil_append,List.nil_append,k7]
       · rw [if_neg hq,if_neg hq,List.cons_append,jk,vJ g0,k7]
         rfl
     unfold agK agT
     rw [iC,jk,iC,k6]
     rfl
   · show wf true (agK { h0 with k:=5,op:=op,tb:=t,pa:=p,wk:=wk,ws:=ws } K)=true
     unfold agK
     refine bW (p:=wd op) (.inr (.inl rfl)) (TP hp) (lF (p:=sg ⟨#[40]⟩) (.inr (.inr (by decide))) (by decide) (by decide) (bW (p:=wd t) (.inr (.inl rfl)) (kY ht) ?_))
     show wf false ((if op=⟨#[99,111,117,110,116]⟩ then [] else sg ⟨#[44]⟩ :: sp (okK K 0))++_)=true
     by_cases hq:op=⟨#[99,111,117,110,116]⟩
     · rw [if_pos hq];exact w7
     · rw [if_neg hq]
       exact bW (p:=sg ⟨#[44]⟩) (.inr (.inr (by decide))) (by decide) (lX g0.w w7)
 | una op ho =>
   rcases ho with rfl | rfl | rfl
   · have g0:=G.p (j:=0) (by omega) 8
     refine ⟨?_,lF (p:=sg ⟨#[45]⟩) (.inr (.inl rfl)) (by decide) (by decide) g0.w,⟨_,_,rfl⟩⟩
     show pcB (sg ⟨#[45]⟩ :: okP K 0 8)=45 :: odP T 0 8
     rw [jk,g0.b];rfl
   · have g0:=G.p (j:=0) (by omega) 4
     refine ⟨?_,bW (p:=wd ⟨#[110,111,116]⟩) (.inr (.inl rfl)) (by decide) (uE g0.w),⟨_,_,rfl⟩⟩
     show pcB (wd ⟨#[110,111,116]⟩ :: sp (okP K 0 4))=[110,111,116,32]++odP T 0 4
     rw [iC,vI g0];rfl
   · have g0:=(G 0 (by omega)).1
     refine ⟨?_,bW (p:=wd ⟨#[110,117,108,108]⟩) (.inr (.inl rfl)) (by decide) (Dy (p:=sg ⟨#[40]⟩) (by decide) (by decide) g0 (uF ⟨#[41]⟩ (by decide) (by decide)) (.inr (.inr (by decide)))),⟨_,_,rfl⟩⟩
     show pcB (wd ⟨#[110,117,108,108]⟩ :: sg ⟨#[40]⟩ :: (okK K 0++[sg ⟨#[41]⟩]))=[110,117,108,108,40]++(odT T 0++[41])
     rw [iC,jk,Bq g0];rfl
 | bin op ho =>
   have g0:=G.p (j:=0) (by omega) (lef (rkO op))
   have g1:=G.p (j:=1) (by omega) (rkO op+1)
   have hop:pcB (opK op :: sp (okP K 1 (rkO op+1)))=32 :: (op.data.toList++32 :: odP T 1 (rkO op+1)):=by
     rw [gZ,vI g1]
     unfold opK
     by_cases hq:op=⟨#[111,114]⟩∨op=⟨#[97,110,100]⟩
     · rw [if_pos hq];rfl
     · rw [if_neg hq];rfl
   have hw:wf false (opK op :: sp (okP K 1 (rkO op+1)))=true:=by
     refine bW (.inl ?_) ?_ (uE g1.w)
     · unfold opK
       split <;> rfl
     · rcases ho with rfl | rfl | rfl | rfl | rfl | rfl | rfl | rfl | rfl | rfl <;> decide
   obtain ⟨q,t,hf⟩:=g0.f
   refine ⟨?_,qX g0.w hw,⟨q,t++(opK op :: sp (okP K 1 (rkO op+1))),?_⟩⟩
   · show pcB (okP K 0 (lef (rkO op))++(opK op :: sp (okP K 1 (rkO op+1))))=odP T 0 (lef (rkO op))++(32 :: (op.data.toList++32 :: odP T 1 (rkO op+1)))
     rw [jI,g0.b,hop]
   · show okP K 0 (lef (rkO op))++_=_
     rw [hf];rfl
 | iff =>
   have g0:=(G 0 (by omega)).1
   have g1:=(G 1 (by omega)).1
   have g2:=(G 2 (by omega)).1
   refine ⟨?_,bW (p:=wd ⟨#[105,102]⟩) (.inr (.inl rfl)) (by decide) (lX g0.w (bW (p:=bw ⟨#[116,104,101,110]⟩) (.inl rfl) (by decide) (lX g1.w (bW (p:=bw ⟨#[101,108,115,101]⟩) (.inl rfl) (by decide) (uE g2.w))))),⟨_,_,rfl⟩⟩
   show pcB (wd ⟨#[105,102]⟩ :: (sp (okK K 0)++(bw ⟨#[116,104,101,110]⟩ :: (sp (okK K 1)++(bw ⟨#[101,108,115,101]⟩ :: sp (okK K 2))))))=[105,102,32]++(odT T 0++([32,116,104,101,110,32]++(odT T 1++([32,101,108,115,101,32]++odT T 2))))
   rw [iC,vJ g0,nS,vJ g1,nS,vI g2]
   rfl
 | dfl =>
   have g0:=G.p (j:=0) (by omega) 1
   have g1:=G.p (j:=1) (by omega) 2
   have hw:wf false (bw ⟨#[100,101,102,97,117,108,116]⟩ :: sp (okP K 1 2))=true:=bW (.inl rfl) (by decide) (uE g1.w)
   obtain ⟨q,t,hf⟩:=g0.f
   refine ⟨?_,qX g0.w hw,⟨q,t++(bw ⟨#[100,101,102,97,117,108,116]⟩ :: sp (okP K 1 2)),?_⟩⟩
   · show pcB (okP K 0 1++(bw ⟨#[100,101,102,97,117,108,116]⟩ :: sp (okP K 1 2)))=odP T 0 1++([32,100,101,102,97,117,108,116,32]++odP T 1 2)
     rw [jI,g0.b,nS,vI g1];rfl
   · show okP K 0 1++_=_
     rw [hf];rfl
theorem lU {i:Bool} {h:Hd} {ar r:Fo} (e:fmA i (.cons h ar r)=true):bU i h ar.len (ar.nth 0).h=true∧fmA (i || decide (h.k=5)) ar=true∧fmA i r=true:=by
 have e':(bU i h ar.len (ar.nth 0).h && (fmA (i || decide (h.k=5)) ar && fmA i r))=true:=e;rw [Bool.and_eq_true,Bool.and_eq_true] at e';exact e'
theorem nX:∀ (F:Fo) (i:Bool),fmA i F=true→Gds (xkF F) (txF F)
 | .nil,_,_=>fun j hj=>absurd hj (Nat.not_lt_zero _)
 | .cons h ar r,i,e=>by
  obtain ⟨e1,e2,e3⟩:=lU e
  have g:=nV (gQ e1) (nX ar _ e2) (jf ar)
  have gr:=nX r i e3
  intro j hj
  cases j with
  | zero=>exact ⟨g,rfl⟩
  | succ j =>
   have:=gr j (by simpa [txF] using hj)
   exact ⟨by simpa [okK,odT,ok',od,xkF,txF] using this.1,by simpa [ok',od,xkF,txF] using this.2⟩
theorem Ma {i:Bool} {x:Ex} (e:fmE i x=true):Gd (xkE x) (txE x):=by
 have e':(bU i x.h x.ar.len (x.ar.nth 0).h && fmA (i || decide (x.h.k=5)) x.ar)=true:=e;rw [Bool.and_eq_true] at e';exact nV (gQ e'.1) (nX x.ar _ e'.2) (jf _)
theorem MX {K:List Pc} {T:List UInt8} (G:Gd K T) (h:T=[116,114,117,101]):K.map (·.2)=[(1,⟨#[116,114,117,101]⟩)]:=by
 obtain ⟨L,e,k⟩:=xH G.w;rw [G.b,h] at e;have e2:lxs 0 false ([116,114,117,101]:List UInt8)=([⟨1,⟨#[116,114,117,101]⟩,0⟩],[]):=yK (x:=⟨1,⟨#[116,114,117,101]⟩,0⟩) (by decide) 0 false;rw [e2] at e;rw [← k,← (Prod.mk.inj e).1];rfl
theorem AP:name ⟨#[116,114,117,101]⟩=false:=by kernel_rfl
theorem Lg {i:Bool} {h:Hd} {n:Nat} {g:Hd} (N:Nod i g h n) {K:List Ok'} {T:List Od} (G:Gds K T) (hn:T.length=n):dD h T=[116,114,117,101]↔bS h=true:=by
 have GG:=nV N G hn;constructor
 ·intro e;have hk:=MX GG e
  cases N with
  | boo n ee =>
    rcases ee with rfl | rfl
    · exact absurd (congrArg (fun l=>(l.headD (0,.empty)).2) hk) (by show (⟨#[102,97,108,115,101]⟩:ByteArray)≠⟨#[116,114,117,101]⟩;decide)
    · rfl
  | num k n u hk' h0 h1 hu =>
    exfalso
    have e3:=congrArg (fun l=>(l.headD (0,.empty)).1) hk
    rcases hk' with rfl | rfl
    · exact absurd e3 (by show (2:Int)≠1;decide)
    · exact absurd e3 (by show (3:Int)≠1;decide)
  | tex s h1 h2=>exact absurd (congrArg (fun l=>(l.headD (0,.empty)).1) hk) (by show (4:Int)≠1;decide)
  | key m s hm h0 h1 h2=>exact absurd (congrArg (fun l=>(l.headD (0,.empty)).1) hk) (by show (5:Int)≠1;decide)
  | fie m hi hm =>
    have e3:m=⟨#[116,114,117,101]⟩:=congrArg (fun l=>(l.headD (0,.empty)).2) hk
    rw [e3,AP] at hm;cases hm
  | fea m hi hm =>
    have e3:m=⟨#[116,114,117,101]⟩:=congrArg (fun l=>(l.headD (0,.empty)).2) hk
    rw [e3,AP] at hm;cases hm
  | loo m hi hm=>exact absurd (congrArg List.length hk) (by show ¬ (_+1+1+1=1);omega)
  | agg op t p wk ws hi ht hp hw hc=>exact absurd (congrArg List.length hk) (by show ¬ (_+1+1+1=1);omega)
  | una op ho =>
    rcases ho with rfl | rfl | rfl
    · exact absurd (congrArg (fun l=>(l.headD (0,.empty)).1) hk) (by show (5:Int)≠1;decide)
    · exact absurd (congrArg (fun l=>(l.headD (0,.empty)).2) hk) (by show (⟨#[110,111,116]⟩:ByteArray)≠⟨#[116,114,117,101]⟩;decide)
    · exact absurd (congrArg (fun l=>(l.headD (0,.empty)).2) hk) (by show (⟨#[110,117,108,108]⟩:ByteArray)≠⟨#[116,114,117,101]⟩;decide)
  | bin op ho =>
    exfalso
    have g0:=(G.p (j:=0) (by omega) (lef (rkO op))).f
    obtain ⟨q,t,hq⟩:=g0
    have e3:(okP K 0 (lef (rkO op))++(opK op :: sp (okP K 1 (rkO op+1)))).map (·.2)=[(1,⟨#[116,114,117,101]⟩)]:=hk
    rw [hq] at e3
    have:=congrArg List.length e3
    simp at this
  | iff=>exact absurd (congrArg (fun l=>(l.headD (0,.empty)).2) hk) (by show (⟨#[105,102]⟩:ByteArray)≠⟨#[116,114,117,101]⟩;decide)
  | dfl =>
    exfalso
    have g0:=(G.p (j:=0) (by omega) 1).f
    obtain ⟨q,t,hq⟩:=g0
    have e3:(okP K 0 1++(bw ⟨#[100,101,102,97,117,108,116]⟩ :: sp (okP K 1 2))).map (·.2)=[(1,⟨#[116,114,117,101]⟩)]:=hk
    rw [hq] at e3
    have:=congrArg List.length e3
    simp at this
 intro e;unfold bS at e;simp only [Bool.and_eq_true,decide_eq_true_eq] at e;obtain ⟨e1,e2,e3,e4⟩:=e;have h9:fm ⟨1,1,.empty⟩=[116,114,117,101]:=by rw [fM (by decide)];rfl
 cases N with
 | boo n e =>
   have e3:n=1:=e3
   subst e3
   show fm ⟨1,1,.empty⟩++[]=_
   rw [h9];rfl
 | num k n u hk' h0 h1 hu=>exfalso;have:k=1:=e2;omega
 | tex s h1 h2=>exact absurd e2 (by show ¬ (4:Int)=1;decide)
 | key m s hm h0 h1 h2=>exact absurd e2 (by show ¬ (5:Int)=1;decide)
 | fie m hi hm=>exact absurd e1 (by show ¬ (2:Int)=1;decide)
 | fea m hi hm=>exact absurd e1 (by show ¬ (3:Int)=1;decide)
 | loo m hi hm=>exact absurd e1 (by show ¬ (4:Int)=1;decide)
 | agg op t p wk ws hi ht hp hw hc=>exact absurd e1 (by show ¬ (5:Int)=1;decide)
 | una op ho=>exact absurd e1 (by show ¬ (6:Int)=1;decide)
 | bin op ho=>exact absurd e1 (by show ¬ (7:Int)=1;decide)
 | iff=>exact absurd e1 (by show ¬ (8:Int)=1;decide)
 | dfl=>exact absurd e1 (by show ¬ (9:Int)=1;decide)
theorem KJ {i:Bool} {x:Ex} (e:fmE i x=true):txE x=[116,114,117,101]↔bS x.h=true:=by
 have e':(bU i x.h x.ar.len (x.ar.nth 0).h && fmA (i || decide (x.h.k=5)) x.ar)=true:=e;rw [Bool.and_eq_true] at e';exact Lg (gQ e'.1) (nX x.ar _ e'.2) (jf _)
def lC (l:List Od):Nat:=(l.map fun t=>t.1.length+2).sum
theorem uX (l:List Od) (h1:l.length=1):lC l=(odT l 0).length+2:=by
 match l,h1 with
 | [a],_=>rfl
theorem lS (l:List Od) (h1:l.length=2):lC l=(odT l 0).length+2+((odT l 1).length+2):=by
 match l,h1 with
 | [a,b],_=>rfl
theorem Em (l:List Od) (h1:l.length=3):lC l=(odT l 0).length+2+((odT l 1).length+2)+((odT l 2).length+2):=by
 match l,h1 with
 | [a,b,c],_=>simp [lC,odT,od];omega
theorem nT (r q:Int) (t:List UInt8):(par r q t).length≤t.length+2:=by
 unfold par;split
 ·simp
 omega
theorem fP (l:List Od) (j:Nat) (q:Int):(odP l j q).length≤(odT l j).length+2:=nT _ _ _
theorem dx {s:ByteArray} (h:name s=true):s.data.toList.length≤24:=by
 have h1:=((gP _).1 (kY h)).2;have h2:flt 1 s.data.toList=0:=h1;rw [rQ] at h2;split at h2
 ·cases h2
 omega
theorem Bu {n:Int} (h0:0≤n) (h1:n≤1152921504606846976):(foX n).length≤27:=by
 have hfo:foX n=bod n.natAbs:=by
  rw [zx,if_neg (by omega)];rfl
 rw [hfo];unfold bod;rw [List.length_append,List.length_cons,tK];have:=fG ((n.natAbs / 1000000:Nat):Int) (by omega) (by omega);unfold Lib.itoa at this;rw [if_neg (by omega),Int.toNat_natCast] at this;omega
theorem pU {u:List un.Fa} (h:Un u):(uT u).length≤203:=by
 unfold uT;split
 ·simp
 have:=un.J2 h.o;simp;omega
theorem DK {t:Ty} (h:tyE t=0):(tyT t).length≤210:=by
 rcases fU h with (rfl | rfl) | ⟨s,rfl,hs⟩ | ⟨u,rfl | rfl,hu⟩
 ·decide
 ·decide
 ·have:=dx hs;show ([107,101,121,32]++s.data.toList).length≤210;simp;rw [aI] at this;omega
 ·have:=pU hu;show ([105,110,116]++uT u).length≤210;simp;omega
 have:=pU hu;show ([100,101,99]++uT u).length≤210;simp;omega
theorem qW {k n:Int} (h:gJ k n=true):(wiT k n).length≤30:=by
 rcases ou h with ⟨rfl,rfl⟩ | ⟨h1,h2,h3⟩
 ·decide
 have:=fG n (by omega) (by omega);rcases h1 with rfl | rfl | rfl
 ·show ([115,108,105,100,105,110,103,32]++Lib.itoa n).length≤30;simp;omega
 ·show ([116,117,109,98,108,105,110,103,32]++Lib.itoa n).length≤30;simp;omega
 show ([115,101,115,115,105,111,110,32]++Lib.itoa n).length≤30;simp;omega
theorem uo {op:ByteArray} {p:Int} (h:ig op p=true):op.data.toList.length≤8:=by
 rcases kX h with ⟨h,_⟩ | ⟨h,_⟩
 ·rcases h with rfl | rfl | rfl | rfl | rfl | rfl | rfl | rfl <;> decide
 rcases h with rfl | rfl <;> decide
theorem En {i:Bool} {h:Hd} {n:Nat} {g:Hd} (N:Nod i g h n) {T:List Od} (hn:T.length=n):(dD h T).length+2≤250+lC T:=by
 cases N with
 | boo n e =>
   have e1:dD { h0 with k:=1,vk:=1,vn:=n } T=fm ⟨1,n,.empty⟩++[]:=rfl
   rw [e1]
   rcases e with rfl | rfl
   · rw [fM (by decide)];show 5+2≤_;omega
   · rw [fM (by decide)];show 4+2≤_;omega
 | num k n u hk h0 h1 hu =>
   have e1:dD { Go.Proofs.YtbahfelnbofjjaaGreatDoor.h0 with k:=1,vk:=k,vn:=n,un:=u } T=fm ⟨k,n,.empty⟩++uT u:=by
     show liT _=_
     unfold liT
     rw [if_neg (by show ¬ k=5;omega)]
     rfl
   rw [e1,qJ hk h0 h1,List.length_append]
   have a1:=pU hu
   have a2:=fG n h0 h1
   have a3:=Bu h0 h1
   split <;> omega
 | tex s h1 h2 =>
   have e1:dD { h0 with k:=1,vk:=4,vs:=s } T=fm ⟨4,0,s⟩++[]:=rfl
   rw [e1,fM (rH h1 h2),List.append_nil]
   show (34 :: (s.data.toList++[34])).length+2≤_
   simp;omega
 | key m s hm h0 h1 h2 =>
   have a1:=dx hm
   show (64 :: (m.data.toList++32 :: 34 :: (s.data.toList++[34]))).length+2≤_
   rw [aI] at a1
   simp;omega
 | fie m hi hm=>have a1:=dx hm;show m.data.toList.length+2≤_;omega
 | fea m hi hm=>have a1:=dx hm;show m.data.toList.length+2≤_;omega
 | loo m hi hm =>
   have a1:=dx hm
   rw [uX T hn]
   show (m.data.toList++([32,111,102,32,40]++(odT T 0++[41]))).length+2≤_
   rw [aI] at a1
   simp;omega
 | agg op t p wk ws hi ht hp hw hc =>
   have a1:=dx ht
   have a2:=uo hp
   have a3:=qW hw
   have a4:(Lib.itoa p).length≤20:=by
     rcases kX hp with h | h
     · exact fG p (by omega) (by omega)
     · exact fG p (by omega) (by omega)
   rw [lS T hn]
   show (agT { h0 with k:=5,op:=op,tb:=t,pa:=p,wk:=wk,ws:=ws } T).length+2≤_
   unfold agT
   rw [aI] at a1 a2
   have b1:(if op=⟨#[99,111,117,110,116]⟩ then [] else 44 :: 32 :: odT T 0:List UInt8).length≤(odT T 0).length+2:=by split <;> simp
   have b2:(if op=⟨#[113,117,97,110,116,105,108,101]⟩∨op=⟨#[100,101,99,97,121]⟩ then 44 :: 32 :: Lib.itoa p else []:List UInt8).length≤22:=by split <;> simp;omega
   have b3:(if bS (od T 1).2=true then [] else [32,119,104,101,114,101,32]++odT T 1:List UInt8).length≤(odT T 1).length+7:=by split <;> simp
   simp only [List.length_append,List.length_cons,List.length_nil,aI] at *
   omega
 | una op ho =>
   rw [uX T hn]
   rcases ho with rfl | rfl | rfl
   · have:=fP T 0 8
     show (45 :: odP T 0 8).length+2≤_
     simp;omega
   · have:=fP T 0 4
     show ([110,111,116,32]++odP T 0 4).length+2≤_
     simp;omega
   · show ([110,117,108,108,40]++(odT T 0++[41])).length+2≤_
     simp;omega
 | bin op ho =>
   rw [lS T hn]
   have a1:=fP T 0 (lef (rkO op))
   have a2:=fP T 1 (rkO op+1)
   have a3:op.data.toList.length≤3:=by rcases ho with rfl | rfl | rfl | rfl | rfl | rfl | rfl | rfl | rfl | rfl <;> decide
   show (odP T 0 (lef (rkO op))++(32 :: (op.data.toList++32 :: odP T 1 (rkO op+1)))).length+2≤_
   rw [aI] at a3
   simp only [List.length_append,List.length_cons,aI]
   omega
 | iff =>
   rw [Em T hn]
   show ([105,102,32]++(odT T 0++([32,116,104,101,110,32]++(odT T 1++([32,101,108,115,101,32]++odT T 2))))).length+2≤_
   simp;omega
 | dfl =>
   rw [lS T hn]
   have a1:=fP T 0 1
   have a2:=fP T 1 2
   show (odP T 0 1++([32,100,101,102,97,117,108,116,32]++odP T 1 2)).length+2≤_
   simp only [List.length_append]
   simp;omega
theorem wo:∀ (F:Fo) (i:Bool),fmA i F=true→lC (txF F)≤250 * F.sz
 | .nil,_,_=>Nat.le_refl 0
 | .cons h ar r,i,e=>by
  obtain ⟨e1,e2,e3⟩:=lU e
  have a1:=En (gQ e1) (jf ar)
  have a2:=wo ar _ e2
  have a3:=wo r i e3
  have:lC (txF (.cons h ar r))=(dD h (txF ar)).length+2+lC (txF r):=rfl
  rw [this]
  simp only [Fo.sz]
  omega
theorem DL {i:Bool} {x:Ex} (e:fmE i x=true):(txE x).length+2≤250 * (x.ar.sz+1):=by
 have e':(bU i x.h x.ar.len (x.ar.nth 0).h && fmA (i || decide (x.h.k=5)) x.ar)=true:=e;rw [Bool.and_eq_true] at e';have a1:=En (gQ e'.1) (jf x.ar);have a2:=wo x.ar _ e'.2;show (dD x.h (txF x.ar)).length+2≤_;omega
end ch
section
open Go.RowKit dec
theorem oP (n:Int) (h0 : -9223372036854775808≤n) (h1:n≤9223372036854775807) (w:World) (T:Tabs w) :
    Calls Tryz.prog 56 #[.int .i64 n] w fun e w' => e=.returned (.string ⟨(Lib.itoa n).toArray⟩)∧Below w.heap.size w w':=by
 refine (Tryz.strconv_Itoa n h0 h1 w T.ten).mono ?_;rintro e w' ⟨rfl,k,os,rfl⟩;exact ⟨rfl,below_regrown w (w.drewN k).drawn os⟩
theorem SF (k n:Int) (s:ByteArray) (w:World):Calls Tryz.prog 220 #[.agg #[.int .i64 k,.int .i64 n,.string s]] w fun e w' => e=.returned (.string ⟨[110,117,108,108].toArray⟩)∧Below w.heap.size w w':=by
 go_enter Tryz.func220,Tryz.ntmps220
 go_wp2;go_ret;exact ⟨rfl,by first | exact au (b0 w) _ | exact b0 w⟩
theorem SH (n:Int) (s:ByteArray) (k:Int) (w:World):Calls Tryz.prog 221 #[.agg #[.int .i64 k,.int .i64 n,.string s]] w fun e w' => e=.returned (.string ⟨(Lib.formatBool (n==1)).toArray⟩)∧Below w.heap.size w w':=by
 go_enter Tryz.func221,Tryz.ntmps221
 go_wp2_with (go_at_call 268;refine (Tryz.strconv_FormatBool _ _).mono ?_;rintro e w' ⟨rfl,rfl⟩);go_ret;exact ⟨rfl,by first | exact au (b0 w) _ | exact b0 w⟩
theorem Ug (k n:Int) (s:ByteArray) (h0 : -9223372036854775808≤n) (h1:n≤9223372036854775807) (w:World) (T:Tabs w):Calls Tryz.prog 222 #[.agg #[.int .i64 k,.int .i64 n,.string s]] w fun e w' => e=.returned (.string ⟨(Lib.itoa n).toArray⟩)∧Below w.heap.size w w':=by
 have C:=Hy (fun w' (b:Below w.heap.size w w')=>oP n h0 h1 w' (T.stays b));clear T
 go_enter Tryz.func222,Tryz.ntmps222
 go_wp2_with fail;refine (C.o _ (au (b0 w) _)).mono ?_;rintro e w1 ⟨rfl,b1⟩;replace b1:=aA (au (b0 w) _) b1;go_wp2_with fail;go_ret;exact ⟨rfl,b1⟩
theorem Uh (k n:Int) (s:ByteArray) (h0 : -9223372036854775808≤n) (h1:n≤9223372036854775807) (w:World) (T:Tabs w):Calls Tryz.prog 223 #[.agg #[.int .i64 k,.int .i64 n,.string s]] w fun e w' => e=.returned (.string ⟨(foX n).toArray⟩)∧Below w.heap.size w w':=by
 have C:=Hy (fun w' (b:Below w.heap.size w w')=>oV n h0 h1 w' (T.stays b).ten);clear T
 go_enter Tryz.func223,Tryz.ntmps223
 go_wp2_with fail;refine (C.o _ (au (b0 w) _)).mono ?_;rintro e w1 ⟨rfl,b1⟩;replace b1:=aA (au (b0 w) _) b1;go_wp2_with fail;go_ret;exact ⟨rfl,b1⟩
theorem uq (x y:List UInt8) (hx:x.length≤1048576) (hy:y.length≤1048576) (W:World):(Op.stringOp .add ⟨x.toArray⟩ ⟨y.toArray⟩).run Tryz.prog W=.ok (.string ⟨(x++y).toArray⟩) W:=run_string_add_lists W x y (by omega) (by omega)
theorem Uf (k n:Int) (s:ByteArray) (hs:s.size≤1000) (w:World):Calls Tryz.prog 225 #[.agg #[.int .i64 k,.int .i64 n,.string s]] w fun e w' => e=.returned (.string ⟨(64 :: s.data.toList).toArray⟩)∧Below w.heap.size w w':=by
 have A:=uq [64] s.data.toList (by decide) (by rw [← Lib.size_eq];omega);replace A:∀ W,(Op.stringOp .add ⟨#[64]⟩ s).run Tryz.prog W=.ok (.string ⟨(64 :: s.data.toList).toArray⟩) W:=A;generalize 64 :: s.data.toList=l at *
 go_enter Tryz.func225,Tryz.ntmps225
 go_wp2;go_ret;exact ⟨rfl,au (b0 w) _⟩
theorem SE (k n:Int) (s:ByteArray) (hs:s.size≤1000) (w:World):Calls Tryz.prog 224 #[.agg #[.int .i64 k,.int .i64 n,.string s]] w fun e w' => e=.returned (.string ⟨(34 :: (s.data.toList++[34])).toArray⟩)∧Below w.heap.size w w':=by
 have A:=uq [34] s.data.toList (by decide) (by rw [← Lib.size_eq];omega);replace A:∀ W,(Op.stringOp .add ⟨#[34]⟩ s).run Tryz.prog W=.ok (.string ⟨(34 :: s.data.toList).toArray⟩) W:=A;have B:=uq (34 :: s.data.toList) [34] (by rw [List.length_cons,← Lib.size_eq];omega) (by decide);replace B:∀ W,(Op.stringOp .add ⟨(34 :: s.data.toList).toArray⟩ ⟨#[34]⟩).run Tryz.prog W=.ok (.string ⟨(34 :: (s.data.toList++[34])).toArray⟩) W:=B;generalize 34 :: (s.data.toList++[34])=m at *;generalize 34 :: s.data.toList=l at *
 go_enter Tryz.func224,Tryz.ntmps224
 go_wp2;go_ret;exact ⟨rfl,au (b0 w) _⟩
end
section
open Go.RowKit Go.ChangeMaps
theorem xJ:Tryz.prog.underlying 230=some (.map 3 157):=by kernel_rfl
def ents (vs:List Value):List MapEntry:=vs.zipIdx.map fun p=>⟨.int .i64 (p.2:Nat),p.1,p.2⟩
theorem nu (vs:List Value) (v:Value):ents (vs++[v])=ents vs++[⟨.int .i64 (vs.length:Nat),v,vs.length⟩]:=by
 unfold ents;rw [List.zipIdx_append,List.map_append];simp
theorem jN (c:Int):∀ (l:List MapEntry) (i:Nat),(∀ e ∈ l,∃ d,e.key=.int .i64 d∧d≠c)→Instr.findNow (.int .i64) (.int .i64 c) l i=some none
 | [],_,_=>rfl
 | e :: l,i,h=>by
  obtain ⟨d,hd,hne⟩:=h e (List.mem_cons_self ..)
  have e1:(c==d)=false:=by rw [beq_eq_false_iff_ne];exact fun h=>hne h.symm
  unfold Instr.findNow
  rw [hd]
  simp only [Instr.sameNow,if_true,e1]
  exact jN c l (i+1) (fun x hx=>h x (List.mem_cons_of_mem _ hx))
theorem jM:∀ (vs:List Value) (o i j:Nat) (v:Value),vs[j]? = some v→Instr.findNow (.int .i64) (.int .i64 ((o+j:Nat):Int)) ((vs.zipIdx o).map fun p=>⟨.int .i64 (p.2:Nat),p.1,p.2⟩) i=some (some (i+j,v))
 | [],_,_,_,_,h=>by cases h
 | x :: vs,o,i,0,v,h=>by
  obtain rfl:x=v:=by simpa using h
  rw [List.zipIdx_cons,List.map_cons]
  unfold Instr.findNow
  simp [Instr.sameNow]
 | x :: vs,o,i,j+1,v,h=>by
  have e1:(((o+(j+1):Nat):Int)==((o:Nat):Int))=false:=by rw [beq_eq_false_iff_ne];omega
  rw [List.zipIdx_cons,List.map_cons]
  unfold Instr.findNow
  simp only [Instr.sameNow,if_true,e1]
  have:=jM vs (o+1) (i+1) j v (by simpa using h)
  rw [show o+1+j=o+(j+1) by omega,show i+1+j=i+(j+1) by omega] at this
  exact this
theorem oZ (vs:List Value):∀ e ∈ ents vs,∃ j:Nat,j<vs.length∧e.key=.int .i64 (j:Nat):=by
 intro e he;simp only [ents,List.mem_map] at he;obtain ⟨⟨v,j⟩,hj,rfl⟩:=he;have:=List.mem_zipIdx hj;exact ⟨j,by omega,rfl⟩
def Mp (w:World) (b:Nat) (vs:List Value):Prop:=w.heap[b]? = some (.map (ents vs).toArray vs.length)
theorem Mp.made (w:World):Mp (w.alloc (.map #[] 0)) w.heap.size []:=(MapKept.heap_alloc w _).1
theorem Mp.lt {w:World} {b:Nat} {vs:List Value} (h:Mp w b vs):b<w.heap.size:=(Array.getElem?_eq_some_iff.1 h).1
theorem wT {w:World} {b:Nat} {vs:List Value} (h:Mp w b vs) (c:Int) (hc:c=(vs.length:Nat)) (v:Value) :
    ∃ w',(Instr.mapUpdate 230 (.map (some b)) (.int .i64 c) v).run Tryz.prog w=.ok () w'∧Mp w' b (vs++[v])∧Below b w w':=by
 subst hc;have hn:Instr.findNow (.int .i64) (.int .i64 (vs.length:Nat)) (ents vs) 0=some none:=jN _ _ _ fun e he=>by
  obtain ⟨j,hj,hk⟩:=oZ vs e he;exact ⟨_,hk,by omega⟩
 refine ⟨setBlock w b (.map ((ents vs).toArray.push ⟨.int .i64 (vs.length:Nat),v,vs.length⟩) (vs.length+1)),?_,?_,⟨rfl,rfl,rfl,by simp [setBlock],fun i hi=>heap_setBlock_other h _ (by omega)⟩⟩
 ·have hch:=MapKept.run_checkKey (P:=Tryz.prog) (w:=w) (k:=.int .i64 (vs.length:Nat)) Tryz.underlying3 (show MapKept.IsKey (.int .i64) (.int .i64 (vs.length:Nat)) from rfl) false 9999;simp [Instr.mapUpdate,Instr.findKey,run_underlying xJ,run_underlying Tryz.underlying3,MapKept.run_getObj_map h,hch,hn,MapKept.run_setObj_map _ h,Result.andThen,setBlock]
 unfold Mp;rw [heap_setBlock_same h,nu];simp
theorem dO {w:World} {b:Nat} {vs:List Value} (h:Mp w b vs) (c:Int) (j:Nat) (hc:c=(j:Nat)) (v:Value) (hv:vs[j]? = some v) :
    (Instr.lookup 230 (.map (some b)) (.int .i64 c) false).run Tryz.prog w=.ok v w:=by
 subst hc;have hf:=jM vs 0 0 j v hv;rw [Nat.zero_add] at hf;replace hf:Instr.findNow (.int .i64) (.int .i64 (j:Nat)) (ents vs) 0=some (some (j,v)):=hf;have hch:=MapKept.run_checkKey (P:=Tryz.prog) (w:=w) (k:=.int .i64 (j:Nat)) Tryz.underlying3 (show MapKept.IsKey (.int .i64) (.int .i64 (j:Nat)) from rfl) (ents vs).isEmpty 9999;simp [Instr.lookup,Instr.findKey,run_underlying xJ,run_underlying Tryz.underlying3,MapKept.run_getObj_map h,hch,hf,Result.andThen]
theorem aG (w:World) {ops:Array Oper} {rest:List Oper} {o:Oper} {a:Act} {Q:Exit→Act→World→Prop}
    (hg:o.guard=none) (m x v:Operand) (hop:o.op=Op.insert 230 m x v) (b:Nat) (vs:List Value) (hm:a.eval m=.map (some b)) (hown:Mp w b vs)
    (c:Int) (hx:a.eval x=.int .i64 c) (hc:c=(vs.length:Nat)) (val:Value) (hv:a.eval v=val)
    (hK:∀ w',Mp w' b (vs++[val])→Below b w w'→wpList Tryz.prog ops Q rest (a.put o.dst undef) w') :
    wpList Tryz.prog ops Q (o :: rest) a w:=by
 refine wpList_plain hg fun K' hK' => ?_;obtain ⟨w',hrun,r1,r2⟩:=wT hown c hc val;unfold Oper.wp;simp [execOp,hop,hm,hx,hv,hrun,Result.andThen];exact hK' _ _ (hK w' r1 r2)
end
end Go.Proofs.YtbahfelnbofjjaaGreatDoor
