/- What the tokens of sources have to do with. -/
import Derived.Lib.Join
import Derived.ScopeJumps
import Derived.Test.YtbahfelnbofjjaaGreatDoorH02
set_option maxRecDepth 100000
set_option maxHeartbeats 16000000
namespace Go.Proofs.YtbahfelnbofjjaaGreatDoor
section
open dec
def Sep (x:List UInt8):Prop:=x=[]∨∃ r,x=32 :: r
theorem run_end {p:UInt8→Bool} (h:p 32=false) {x:List UInt8} (hx:Sep x) (l:List UInt8):run p (l++x)=run p l:=by
 rcases hx with rfl | ⟨r,rfl⟩
 ·rw [L_n]
 exact eT h r l
theorem mO (p:UInt8→Bool) (l:List UInt8):run p (l.take (run p l))=run p l:=by rw [uj];omega
theorem drop_cons {l:List UInt8} {n:Nat} {c:UInt8} (h:(l.drop n).head? = some c):l.drop n=c :: l.drop (n+1):=by
 have hl:=Ca h;rw [List.drop_eq_getElem_cons hl] at h ⊢;simp only [List.head?_cons,Option.some.injEq] at h;rw [h]
theorem pU {l:List UInt8} {n:Nat} {c:UInt8} (h:(l.drop n).head? = some c):l=l.take n++c :: l.drop (n+1):=by
 rw [← drop_cons h,List.take_append_drop]
theorem take_len {l:List UInt8} {n:Nat} (h:n≤l.length):(l.take n).length=n:=by rw [List.length_take];omega
theorem sP {l r:List UInt8} {m:Nat} (h:m=l.length):(l++r).drop m=r:=by subst h;exact List.drop_left' rfl
theorem qI {l:List UInt8} {n:Nat} {c:UInt8} (h:(l.drop n).head? = some c) (k:Nat):l.take (n+1+k)=l.take n++c :: (l.drop (n+1)).take k:=by
 rw [show n+1+k=n+(k+1) by omega,List.take_add,drop_cons h,List.take_succ_cons]
theorem PW {x:List UInt8} (hx:Sep x):pnt x=0:=by
 rcases hx with rfl | ⟨r,rfl⟩
 ·rfl
 rfl
theorem Bc {l:List UInt8} (h:pnt l≠0):∃ c r,l=c :: r∧c.toNat=46∧pnt l=run isD r:=by
 cases l with
 | nil=>exact absurd rfl h
 | cons c r =>
   rw [gM] at h ⊢
   split at h
   · rename_i hc
     exact ⟨c,r,rfl,hc,by rw [if_pos hc]⟩
   · exact absurd rfl h
theorem Uq {c:UInt8} (h:c.toNat=46):isD c=false:=by unfold isD;rw [h];rfl
theorem Lm {c:UInt8} {d:UInt8} (h:c.toNat=d.toNat):c=d:=UInt8.toNat_inj.1 h
theorem r9 {c:UInt8} (h:isS c=true∨c.toNat=61∨c.toNat=33∨c.toNat=60):c.toNat≠34:=by
 intro e;rcases h with h | h
 ·unfold isS at h;rw [e] at h;exact absurd h (by decide)
 omega
theorem ug {l x:List UInt8} (hk:(shp l).1≠0) (hx:Sep x):shp (l.take (shp l).2++x)=shp l:=by
 cases l with
 | nil=>exact absurd rfl hk
 | cons c r =>
   by_cases hl:isL c=true
   · have e:shp (c :: r)=(1,run isW r+1):=by rw [aX,if_pos hl,jR (H8 hl)]
     rw [e,List.take_succ_cons,L_g,aX,if_pos hl,jR (H8 hl),run_end (by decide) hx,mO]
   · by_cases hd:isD c=true
     · have ed:=jR hd r
       by_cases hp:pnt ((c :: r).drop (run isD (c :: r)))=0
       · have e:shp (c :: r)=(2,run isD r+1):=by rw [aX,if_neg hl,if_pos hd,if_pos hp,ed]
         have e2:run isD (c :: (r.take (run isD r)++x))=run isD r+1:=by rw [jR hd,run_end (by decide) hx,mO]
         rw [e,List.take_succ_cons,L_g,aX,if_neg hl,if_pos hd,e2,List.drop_succ_cons,sP (take_len (gZ _ _)).symm,if_pos (PW hx)]
       · have e:shp (c :: r)=(3,run isD (c :: r)+1+pnt ((c :: r).drop (run isD (c :: r)))):=by rw [aX,if_neg hl,if_pos hd,if_neg hp]
         obtain ⟨d,y,hy,h46,hq⟩:=Bc hp
         have hs:=pU (l:=c :: r) (n:=run isD (c :: r)) (c:=d) (by rw [hy];rfl)
         have hy2:(c :: r).drop (run isD (c :: r)+1)=y:=by
           have:=drop_cons (l:=c :: r) (n:=run isD (c :: r)) (c:=d) (by rw [hy];rfl)
           rw [hy] at this
           exact (List.cons.inj this).2.symm
         rw [hy2] at hs
         rw [e,hq]
         have hn:=take_len (gZ isD (c :: r))
         have et:(c :: r).take (run isD (c :: r)+1+run isD y)=(c :: r).take (run isD (c :: r))++d :: y.take (run isD y):=by
           rw [qI (c:=d) (by rw [hy];rfl),hy2]
         have hc:(c :: r).take (run isD (c :: r))=c :: r.take (run isD r):=by rw [ed,List.take_succ_cons]
         have et2:(c :: r).take (run isD (c :: r)+1+run isD y)++x=c :: (r.take (run isD r)++d :: (y.take (run isD y)++x)):=by
           rw [et,hc];simp
         have en:run isD (c :: (r.take (run isD r)++d :: (y.take (run isD y)++x)))=run isD r+1:=by
           rw [jR hd,eT (Uq h46),mO]
         have ep:pnt ((c :: (r.take (run isD r)++d :: (y.take (run isD y)++x))).drop (run isD r+1))=run isD y:=by
           rw [List.drop_succ_cons,sP (take_len (gZ _ _)).symm,gM,if_pos h46,run_end (by decide) hx,mO]
         rw [et2,aX,if_neg hl,if_pos hd,en,ep,if_neg (by omega),ed]
     · by_cases hq:c.toNat=34∧(r.drop (run isQ r)).head? = some 34
       · have e:shp (c :: r)=(4,run isQ r+1+1):=by rw [aX,if_neg hl,if_neg hd,if_pos hq]
         have hs:=pU hq.2
         have et:r.take (run isQ r+1)=r.take (run isQ r)++[34]:=by
           have:=qI hq.2 0
           simpa using this
         have en:run isQ (r.take (run isQ r)++34 :: x)=run isQ r:=by rw [eT (by decide),mO]
         rw [e,List.take_succ_cons,L_g,et,L_i,aX,if_neg hl,if_neg hd]
         show (if c.toNat=34∧((r.take (run isQ r)++34 :: x).drop (run isQ (r.take (run isQ r)++34 :: x))).head? = some 34 then (4,run isQ (r.take (run isQ r)++34 :: x)+2) else _)=_
         rw [en,sP (take_len (gZ _ _)).symm,if_pos ⟨hq.1,rfl⟩]
       · have e:shp (c :: r)=sgn (c :: r):=by rw [aX,if_neg hl,if_neg hd,if_neg hq]
         rw [e] at hk ⊢
         rw [dK] at hk ⊢
         by_cases h2:(c.toNat=61∨c.toNat=33∨c.toNat=60)∧r.head? = some 61
         · rw [if_pos h2]
           cases r with
           | nil=>cases h2.2
           | cons d r =>
             have hd61:d=61:=by simpa using h2.2
             subst hd61
             show shp (c :: 61 :: x)=_
             rw [aX,if_neg hl,if_neg hd,if_neg (fun h=>r9 (.inr h2.1) h.1),dK,if_pos ⟨h2.1,rfl⟩]
         · rw [if_neg h2] at hk ⊢
           by_cases hS:isS c=true
           · rw [if_pos hS]
             show shp (c :: x)=_
             rw [aX,if_neg hl,if_neg hd,if_neg (fun h=>r9 (.inl hS) h.1),dK,if_neg,if_pos hS]
             rintro ⟨_,h⟩
             rcases hx with rfl | ⟨r,rfl⟩
             · cases h
             · cases h
           · rw [if_neg hS] at hk
             exact absurd rfl hk
theorem LD {l:List UInt8} (h0:l≠[]) (s:List UInt8):shp (l++10 :: s)=shp l:=by
 cases l with
 | nil=>exact absurd rfl h0
 | cons c r =>
   have hW:=eT (p:=isW) (d:=10) (by decide) s (c :: r)
   have hD:=eT (p:=isD) (d:=10) (by decide) s (c :: r)
   have hQ:=eT (p:=isQ) (d:=10) (by decide) s r
   rw [L_g] at hW hD ⊢
   rw [aX,aX,hW,hD,hQ,dK,dK]
   have hp:pnt ((c :: (r++10 :: s)).drop (run isD (c :: r)))=pnt ((c :: r).drop (run isD (c :: r))):=by
     rw [← L_g,List.drop_append_of_le_length (gZ _ _)]
     generalize (c :: r).drop (run isD (c :: r))=y
     cases y with
     | nil=>rfl
     | cons d y=>rw [L_g,gM,gM,eT (by decide)]
   have hq:((r++10 :: s).drop (run isQ r)).head? = some 34↔(r.drop (run isQ r)).head? = some 34:=by
     rw [List.drop_append_of_le_length (gZ _ _)]
     generalize r.drop (run isQ r)=y
     cases y with
     | nil=>simp
     | cons d y=>simp
   have h6:(r++10 :: s).head? = some 61↔r.head? = some 61:=by
     cases r with
     | nil=>simp
     | cons d y=>simp
   simp only [hp,hq,h6]
theorem AO {l:List UInt8} (hk:(shp l).1≠0) (x:List UInt8):sk false (l++x)=0:=by
 cases l with
 | nil=>exact absurd rfl hk
 | cons c r =>
   rw [L_g]
   refine Eu ?_ ?_ _
   · cases hb:isB c
     · rfl
     · exfalso
       apply hk
       have hb':=hb
       unfold isB at hb'
       simp only [Bool.or_eq_true,L_c] at hb'
       have h1:¬ isL c=true:=by unfold isL;rw [L_d,L_c,L_c];omega
       have h2:¬ isD c=true:=by unfold isD;rw [L_d,L_c,L_c];omega
       have h3:¬ isS c=true:=by
         unfold isS
         rw [L_c]
         simp
         omega
       rw [aX,if_neg h1,if_neg h2,if_neg (by omega),dK,if_neg (by omega),if_neg h3]
   · intro hb'
     apply hk
     have h1:¬ isL c=true:=by unfold isL;rw [L_d,L_c,L_c];omega
     have h2:¬ isD c=true:=by unfold isD;rw [L_d,L_c,L_c];omega
     have h3:¬ isS c=true:=by
       unfold isS
       rw [L_c]
       simp
       omega
     rw [aX,if_neg h1,if_neg h2,if_neg (by omega),dK,if_neg (by omega),if_neg h3]
theorem AB {l:List UInt8} (h:(shp l).1=4):l.take (shp l).2=34 :: (cont 4 (l.take (shp l).2)++[34]):=by
 cases l with
 | nil=>cases h
 | cons c r =>
   rw [aX] at h ⊢
   split at h
   · cases h
   · rename_i hl
     split at h
     · split at h <;> cases h
     · rename_i hd
       split at h
       · rename_i hq
         rw [if_neg hl,if_neg hd,if_pos hq]
         have hs:=pU hq.2
         have et:r.take (run isQ r+1)=r.take (run isQ r)++[34]:=by
           have:=qI hq.2 0
           simpa using this
         have hc:c=34:=Lm hq.1
         subst hc
         show (34 :: r).take (run isQ r+1+1)=_
         rw [List.take_succ_cons,et]
         unfold cont
         rw [if_pos rfl]
         simp
       · rw [dK] at h
         split at h
         · cases h
         · split at h <;> cases h
theorem xB {k:Int} (h:k≠4) (p:List UInt8):cont k p=p:=by unfold cont;rw [if_neg h]
theorem Ep (l:List UInt8) (a:Int):so ⟨(shp l).1,⟨(cont (shp l).1 (l.take (shp l).2)).toArray⟩,a⟩=l.take (shp l).2:=by
 unfold so;by_cases h:(shp l).1=4
 ·rw [if_pos h,h];exact (AB h).symm
 rw [if_neg h];show (cont _ _)=_;rw [xB h]
theorem yP (x:Tk):cont x.k (so x)=x.t.data.toList:=by
 unfold cont so;split
 ·simp
 rfl
def pr (x:Tk):Bool:=decide (shp (so x)=(x.k,(so x).length)) && decide (flt x.k (so x)=0)
theorem jh (x:Tk):pr x=true↔shp (so x)=(x.k,(so x).length)∧flt x.k (so x)=0:=by unfold pr;rw [L_d,L_c,L_c]
theorem su {x:Tk} (h:pr x=true):x.k=1∨x.k=2∨x.k=3∨x.k=4∨x.k=5:=by
 have h2:=(jh x).1 h;have h3:=AJ (so x);rw [h2.1] at h3;rcases h3 with h3 | h3
 ·have h4:=h2.2;rw [show x.k=0 from h3] at h4;unfold flt at h4;simp at h4
 exact h3
theorem QF {x:Tk} (h:pr x=true) {y:List UInt8} (hy:Sep y) (p:Nat) (f:Bool) :
    lxs p f (so x++y)=(⟨x.k,x.t,(p:Nat)⟩ :: (lxs (p+(so x).length) false y).1,(lxs (p+(so x).length) false y).2):=by
 have hk:=su h;obtain ⟨h1,h2⟩:=(jh x).1 h;have hk0:(shp (so x)).1≠0:=by rw [h1];show x.k≠0;omega
 have hn:(shp (so x)).2=(so x).length:=by rw [h1]
 have hs:=AO hk0 y;have hp:shp (so x++y)=(x.k,(so x).length):=by
  have:=ug hk0 hy;rw [hn,List.take_length] at this;rw [this,h1]
 have hne:so x++y≠[]:=by
  intro e;rw [(List.append_eq_nil_iff.1 e).1] at hk0;exact hk0 rfl
 have ht:(so x++y).take (so x).length=so x:=List.take_left;have hd:(so x++y).drop (so x).length=y:=List.drop_left;have hk1:x.k≠0:=by omega
 rw [fZ (l':=so x++y) (by rw [hs,List.drop_zero]) hne,hp,hs];simp only [ht,hd,h2,if_true,yP,Nat.add_zero,dF hk1]
theorem lex_nil (p:Nat) (f:Bool):lxs p f []=([],[]):=iJ rfl p f
theorem J5 {x:Tk} (h:pr x=true) (p:Nat) (f:Bool):lxs p f (so x)=([⟨x.k,x.t,(p:Nat)⟩],[]):=by
 have:=QF h (.inl rfl) p f;rw [L_n,lex_nil] at this;exact this
structure Gp (g:List UInt8):Prop where
 ne:∃ r,g=32 :: r
 sk:∀ r,sk false (g++r)=g.length+sk false r
theorem Uw:Gp [32]:=⟨⟨[],rfl⟩,fun r=>by rw [List.singleton_append,tZ (by decide)];simp;omega⟩
theorem QG {g:List UInt8} (h:Gp g) (l:List UInt8) (p:Nat) (f:Bool):lxs p f (g++l)=lxs (p+g.length) false l:=by
 have hs:=h.sk l;have hg:1≤g.length:=by obtain ⟨r,rfl⟩:=h.ne;simp
 have hd:(g++l).drop (g.length+sk false l)=l.drop (sk false l):=by
  rw [← List.drop_drop,List.drop_left]
 by_cases h0:l.drop (sk false l)=[]
 ·rw [iJ (by rw [hs,hd,h0]),iJ h0]
 rw [fZ (by rw [hs,hd]) h0,fZ rfl h0,hs,show p+(g.length+sk false l)=p+g.length+sk false l by omega];simp only [Bool.false_eq_true,false_and,and_false,if_false];rw [if_neg (show ¬ ((shp (l.drop (sk false l))).1=0∧f=true∧g.length+sk false l=0) by omega)]
def kt (x:Tk):Int × ByteArray:=(x.k,x.t)
theorem sH {C:Nat→Bool→List UInt8→Prop} (h0:∀ p f l,l.drop (sk false l)=[]→C p f l)
  (h1:∀ p f l l',l.drop (sk false l)=l'→l'≠[]→C (p+sk false l+(shp l').2) (decide ((shp l').1=0)) (l'.drop (shp l').2)→C p f l):∀ (n p:Nat) (f:Bool) (l:List UInt8),l.length≤n→C p f l
 | n,p,f,l,hn=>by
  by_cases h:l.drop (sk false l)=[]
  ·exact h0 p f l h
  ·refine h1 p f l _ rfl h ?_
   have h1:=oL h
   have h2:=oM (l.drop (sk false l))
   have h3:(l.drop (sk false l)).length≠0:=fun e=>h (List.eq_nil_of_length_eq_zero e)
   have h4:(l.drop (sk false l)).length≤l.length:=by rw [List.length_drop];omega
   match n,hn with
   | 0,hn=>omega
   | n+1,hn=>exact sH h0 h1' n _ _ _ (by rw [List.length_drop];omega)
 where
 h1':∀ p f l l',l.drop (sk false l)=l'→l'≠[]→C (p+sk false l+(shp l').2) (decide ((shp l').1=0)) (l'.drop (shp l').2)→C p f l:=h1
theorem J4 (s:List UInt8) (p:Nat) (f:Bool) (l:List UInt8):lxs p f (l++10 :: s)=((lxs p f l).1++(lxs (p+l.length+1) false s).1,(lxs p f l).2++(lxs (p+l.length+1) false s).2):=by
 refine sH (C:=fun p f l=>lxs p f (l++10 :: s)=((lxs p f l).1++(lxs (p+l.length+1) false s).1,(lxs p f l).2++(lxs (p+l.length+1) false s).2)) ?_ ?_ l.length p f l lr
 ·intro p f l h;have hl:sk false l=l.length:=by
   have h1:=zT false l;have h2:=congrArg List.length h;rw [List.length_drop,L_j] at h2;omega
  have hs:sk false (l++10 :: s)=l.length+1+sk false s:=by
   rw [Az,if_neg (by omega)]
  have hd:(l++10 :: s).drop (l.length+1+sk false s)=s.drop (sk false s):=by
   rw [← List.drop_drop,show l++10 :: s=(l++[10])++s by simp,sP (by simp)]
  rw [iJ h];by_cases h3:s.drop (sk false s)=[]
  ·rw [iJ (by rw [hs,hd,h3]),iJ h3];rfl
  rw [fZ (by rw [hs,hd]) h3,fZ rfl h3,hs,show p+(l.length+1+sk false s)=p+l.length+1+sk false s by omega];simp only [Bool.false_eq_true,false_and,and_false,if_false,List.nil_append];rw [if_neg (show ¬ ((shp (s.drop (sk false s))).1=0∧f=true∧l.length+1+sk false s=0) by omega)]
 intro p f l l' h h0 ih;have hlt:sk false l<l.length:=by
  rcases Nat.lt_or_ge (sk false l) l.length with h1 | h1
  ·exact h1
  rw [List.drop_eq_nil_of_le h1] at h;exact absurd h.symm h0
 have hs:sk false (l++10 :: s)=sk false l:=by
  rw [Az,if_pos hlt]
 have hd:(l++10 :: s).drop (sk false (l++10 :: s))=l'++10 :: s:=by
  rw [hs,List.drop_append_of_le_length (Nat.le_of_lt hlt),h]
 have hn:=oM l';have ht:(l'++10 :: s).take (shp l').2=l'.take (shp l').2:=List.take_append_of_le_length hn;have hdd:(l'++10 :: s).drop (shp l').2=l'.drop (shp l').2++10 :: s:=List.drop_append_of_le_length hn;have hlen:l'.length=l.length - sk false l:=by rw [← h,List.length_drop]
 have hq:p+sk false l+(shp l').2+(l'.drop (shp l').2).length+1=p+l.length+1:=by rw [List.length_drop];omega
 rw [hq] at ih;rw [fZ hd (by simp [h0]),LD h0,hs,ht,hdd,ih,fZ h h0];split
 ·rfl
 split
 ·rfl
 rfl
def Cov (src:List UInt8):Nat→List Tk→Prop
 | _,[]=>True
 | p,x :: l => ∃ a:Nat,x.a=(a:Nat)∧p≤a∧a+(so x).length≤src.length∧(src.drop a).take (so x).length=so x∧x.k≠6∧Cov src (a+(so x).length) l
def CovB (n:Nat):Nat→List Pb→Prop
 | _,[]=>True
 | p,q :: l => ∃ a:Nat,q.1=(a:Nat)∧p≤a∧a<n∧q.2≠0∧CovB n (a+1) l
theorem CovB.less {n:Nat} : ∀ {l:List Pb} {p q:Nat},q≤p→CovB n p l→CovB n q l
 | [],_,_,_,_=>trivial
 | _ :: _,_,_,h,⟨a,h1,h2,h3⟩=>⟨a,h1,L_f h h2,h3⟩
theorem Cov.less {s:List UInt8} : ∀ {l:List Tk} {p q:Nat},q≤p→Cov s p l→Cov s q l
 | [],_,_,_,_=>trivial
 | _ :: _,_,_,h,⟨a,h1,h2,h3⟩=>⟨a,h1,L_f h h2,h3⟩
theorem Fx (src:List UInt8) (p:Nat) (f:Bool) (l:List UInt8) (h:src.drop p=l) (hp:p≤src.length):Cov src p (lxs p f l).1∧CovB src.length p (lxs p f l).2:=by
 refine sH (C:=fun p f l=>src.drop p=l→p≤src.length→Cov src p (lxs p f l).1∧CovB src.length p (lxs p f l).2) ?_ ?_ l.length p f l lr h hp
 ·intro p f l h _ _;rw [iJ h];exact ⟨trivial,trivial⟩
 intro p f l l' h h0 ih hl hp;have hn:=oM l';have h1:=oL h0;have hlen:l'.length=l.length - sk false l:=by rw [← h,List.length_drop]
 have hlen2:l.length=src.length - p:=by rw [← hl,List.length_drop]
 have hsk:=zT false l;have hdr:src.drop (p+sk false l)=l':=by rw [← List.drop_drop,hl,h]
 obtain ⟨i1,i2⟩:=ih (by rw [← hdr,List.drop_drop]) (by omega);have hso:=Ep l';have htl:(l'.take (shp l').2).length=(shp l').2:=take_len hn;rw [fZ h h0];split
 ·refine ⟨⟨p+sk false l,rfl,by omega,?_,?_,?_,?_⟩,i2.less (by omega)⟩
  ·rw [hso,htl];omega
  ·rw [hso,htl,hdr]
  ·have:=AJ l';show (shp l').1≠6;omega
  rw [hso,htl];exact i1
 rename_i hf;split
 ·exact ⟨i1.less (by omega),i2.less (by omega)⟩
 exact ⟨i1.less (by omega),⟨p+sk false l,rfl,by omega,by omega,hf,i2.less (by omega)⟩⟩
theorem J3 (p:Nat) (f:Bool) (l:List UInt8):∀ x ∈ (lxs p f l).1,pr x=true:=by
 refine sH (C:=fun p f l => ∀ x ∈ (lxs p f l).1,pr x=true) ?_ ?_ l.length p f l lr
 ·intro p f l h x hx;rw [iJ h] at hx;cases hx
 intro p f l l' h h0 ih x hx;rw [fZ h h0] at hx;split at hx
 ·rename_i hf;rcases List.mem_cons.1 hx with rfl | hx
  ·have hk:(shp l').1≠0:=by
    intro e;rw [e] at hf;unfold flt at hf;simp at hf
   have hs:=ug hk (.inl rfl:Sep []);rw [L_n] at hs;rw [jh];show shp (so _)=((shp l').1,(so _).length)∧flt (shp l').1 (so _)=0;rw [Ep,hs,take_len (oM l')];exact ⟨rfl,hf⟩
  exact ih x hx
 split at hx
 ·exact ih x hx
 exact ih x hx
theorem xO (src:List UInt8):∀ (l:List Tk) (p:Nat),p≤src.length→Cov src p l→(l.map fun x=>(so x).length).sum≤src.length - p
 | [],_,_,_=>Nat.zero_le _
 | x :: l,p,hp,⟨a,h1,h2,h3,_,_,h4⟩=>by
  have:=xO src l _ h3 h4
  rw [L_p,List.sum_cons]
  omega
theorem qR {x:Tk} (h:pr x=true):1≤(so x).length:=by
 obtain ⟨h1,h2⟩:=(jh x).1 h;have h3:=su h;have:=oL (l:=so x) (fun e=>by rw [e] at h1;have:=(Prod.mk.inj h1).1;omega);rw [h1] at this;exact this
theorem join_le (l:List Tk):(Lib.join (l.map so) [32]).length≤(l.map fun x=>(so x).length).sum+l.length:=by
 induction l with
 | nil=>exact Nat.zero_le _
 | cons x l ih =>
   cases l with
   | nil=>rw [List.map_singleton,Lib.join_one];simp
   | cons y l =>
     have e:Lib.join ((x :: y :: l).map so) [32]=so x++32 :: Lib.join ((y :: l).map so) [32]:=by
       rw [L_p,L_p,Lib.join_cons,Lib.join_cons]
       simp [Lib.joinTail]
     rw [e]
     generalize Lib.join ((y :: l).map so) [32]=J at *
     simp only [L_a,L_p,List.sum_cons,L_b] at *
     omega
theorem Fy:∀ (l:List Tk),(∀ x ∈ l,pr x=true)→l.length≤(l.map fun x=>(so x).length).sum
 | [],_=>Nat.le_refl _
 | x :: l,h=>by
  have h1:=qR (h x (L_e ..))
  have h2:=Fy l fun y hy=>h y (L_h _ hy)
  rw [L_p,List.sum_cons,L_b]
  omega
theorem Ak:∀ (l:List UInt8) (a:Nat),(∀ c ∈ l,isD c=true)→a<18446744073709551616→Lib.parseUint10 a l=if dval a l<18446744073709551616 then .ok (dval a l) else .range
 | [],a,_,ha=>by
  show Lib.NumEnd.ok a=if a<_ then _ else _
  rw [if_pos ha]
  rfl
 | c :: l,a,h,ha=>by
  have hc:=(jw c).1 (h c (L_e ..))
  have hg:=sO l (a * 10+(c.toNat - 48))
  rw [iB]
  unfold Lib.parseUint10
  rw [if_pos hc]
  by_cases h1:1844674407370955162≤a
  ·rw [if_pos h1,if_neg (by omega)]
  ·rw [if_neg h1]
   by_cases h2:18446744073709551616≤a * 10+(c.toNat - 48)
   ·rw [if_pos h2,if_neg (by omega)]
   ·rw [if_neg h2,Ak l _ (fun d hd=>h d (L_h _ hd)) (by omega)]
theorem DW {l:List UInt8} (h0:l≠[]) (h:∀ c ∈ l,isD c=true):Lib.atoiAll l=if dval 0 l<9223372036854775808 then .ok (dval 0 l:Nat) else .range:=by
 cases l with
 | nil=>exact absurd rfl h0
 | cons c r =>
   have hc:=(jw c).1 (h c (L_e ..))
   rw [Lib.atoiAll_plain c r (by omega) (by omega)]
   unfold Lib.parseMag
   rw [if_neg (by simp),Ak _ 0 h (by omega)]
   by_cases h1:dval 0 (c :: r)<18446744073709551616
   · rw [if_pos h1]
     unfold Lib.signless
     by_cases h2:dval 0 (c :: r)<9223372036854775808
     · rw [if_pos h2]
       simp only
       rw [if_neg (by omega)]
     · rw [if_neg h2]
       simp only
       rw [if_pos (by omega)]
   · rw [if_neg h1,if_neg (by omega)]
     rfl
theorem Po {l:List UInt8} (h:shp l=(2,l.length)):l≠[]∧∀ c ∈ l,isD c=true:=by
 cases l with
 | nil=>cases (Prod.mk.inj h).1
 | cons c r =>
   refine ⟨by simp,?_⟩
   rw [aX] at h
   split at h
   · cases (Prod.mk.inj h).1
   · split at h
     · split at h
       · have e:=(Prod.mk.inj h).2
         have:=EG isD (c :: r)
         rw [e,List.take_length] at this
         exact this
       · cases (Prod.mk.inj h).1
     · split at h
       · cases (Prod.mk.inj h).1
       · rw [dK] at h
         split at h
         · cases (Prod.mk.inj h).1
         · split at h <;> cases (Prod.mk.inj h).1
theorem yI (p:List UInt8):flt 1 p=if 24<p.length then 2 else 0:=rfl
theorem FT (p:List UInt8):flt 2 p=if 1152921504606846976<dval 0 p then 2 else 0:=rfl
theorem zw (p:List UInt8):flt 3 p=paE p:=rfl
theorem Ci (p:List UInt8):flt 4 p=txE (cont 4 p):=rfl
theorem Ch (p:List UInt8):flt 0 p=80:=rfl
theorem Ic {c:UInt8} (h:isD c=true):¬ isL c=true:=by
 unfold isD at h;unfold isL;rw [L_d,L_c,L_c] at h ⊢;omega
theorem Tf {t:ByteArray} {ds:List UInt8} (ht:t.data.toList=ds) (h0:ds≠[]) (hd:∀ c ∈ ds,isD c=true) (hv:dval 0 ds≤1152921504606846976) (a:Int):pr ⟨2,t,a⟩=true:=by
 rw [jh];have hs:so ⟨2,t,a⟩=ds:=ht;rw [hs];refine ⟨?_,by show flt 2 ds=0;rw [FT,if_neg (by omega)]⟩
 cases ds with
 | nil=>exact absurd rfl h0
 | cons c r =>
   have hc:=hd c (L_e ..)
   rw [aX,if_neg (Ic hc),if_pos hc,lF hd,List.drop_length,if_pos (show pnt []=0 from rfl)]
theorem GV {t:ByteArray} {ds fs:List UInt8} (ht:t.data.toList=ds++46 :: fs) (h1:ds≠[]) (h2:fs≠[]) (hd:∀ c ∈ ds,isD c=true) (hf:∀ c ∈ fs,isD c=true) (hp:paE (ds++46 :: fs)=0) (a:Int):pr ⟨3,t,a⟩=true:=by
 rw [jh];have hs:so ⟨3,t,a⟩=ds++46 :: fs:=ht;rw [hs];refine ⟨?_,by show flt 3 _=0;rw [zw,hp]⟩
 cases ds with
 | nil=>exact absurd rfl h1
 | cons c r =>
   have hc:=hd c (L_e ..)
   have hr:run isD ((c :: r)++46 :: fs)=(c :: r).length:=by
     rw [eT (by decide),lF hd]
   rw [L_g] at hr ⊢
   rw [aX,if_neg (Ic hc),if_pos hc,hr,← L_g,List.drop_left,show pnt (46 :: fs)=fs.length by rw [gM,if_pos (by decide),lF hf],if_neg (by cases fs;exact absurd rfl h2;simp)]
   simp
   omega
theorem Jv {t:ByteArray} (h:txE t.data.toList=0) (a:Int):pr ⟨4,t,a⟩=true:=by
 rw [jh];have hs:so ⟨4,t,a⟩=34 :: (t.data.toList++[34]):=rfl;have hc:cont 4 (34 :: (t.data.toList++[34]))=t.data.toList:=yP ⟨4,t,a⟩;rw [hs];refine ⟨?_,by show flt 4 _=0;rw [Ci,hc,h]⟩;have hq:∀ c ∈ t.data.toList,isQ c=true:=by
  have hp:pB 32 t.data.toList=true:=by
   unfold txE at h;split at h
   ·cases h
   split at h
   ·assumption
   cases h
  unfold pB at hp;rw [List.all_eq_true] at hp;intro c hc;have:=hp c hc;unfold okB at this;unfold isQ;simp only [L_d,L_c,Bool.not_eq_true',decide_eq_false_iff_not] at this ⊢;omega
 have hr:run isQ (t.data.toList++[34])=t.data.toList.length:=by
  rw [eT (by decide),lF hq]
 rw [aX,if_neg (by decide),if_neg (by decide),hr,List.drop_left,if_pos ⟨by decide,rfl⟩];simp
end
section
open Go.RowKit dec
def cls (c:UInt8):Int:=if c.toNat<126 then rQ.getD c.toNat 0 else 0
theorem zI {p:UInt8→Bool} (h:(List.range 256).all (fun n=>p (UInt8.ofNat n))=true) (c:UInt8):p c=true:=by
 have:=List.all_eq_true.1 h c.toNat (List.mem_range.2 c.toNat_lt)
 rwa [UInt8.ofNat_toNat] at this
def Ab (c:UInt8):Bool:=decide (0≤cls c∧cls c≤8) && ((decide (cls c=1) || decide (cls c=2))==isB c) && (!decide (cls c=2)==isC c) && ((decide (cls c=4) || decide (cls c=5) || decide (cls c=6))==isW c)
 && (decide (cls c=5)==isD c) && ((!decide (cls c=7) && !decide (cls c=2))==isQ c) && (decide (cls c=4)==isL c) && (decide (cls c=8)==isS c) && (decide (cls c=3)==decide (c.toNat=35)) && (decide (cls c=7)==decide (c.toNat=34))
theorem rR (c:UInt8):Ab c=true:=zI (by decide +kernel) c
theorem jJ (c:UInt8) (w:World) (T:Tabs w):Calls Tryz.prog 140 #[.int .u8 (c.toNat:Nat)] w fun e w' => e=.returned (.int .u8 (cls c))∧w'=w:=by
 have hc:=fun h=>T.cls.cell Uz c.toNat h;have hl:rQ.length=126:=rfl;rw [hl] at hc;clear T hl;have hlt:=c.toNat_lt;unfold cls;generalize c.toNat=n at *
 go_enter Tryz.func140,Tryz.ntmps140
 by_cases h:n<126
 ·have h1:=hc h;rw [if_pos h];generalize rQ.getD n 0=x at *;clear hc;have q1:decide ((n:Int)<126)=true:=dT (by omega);go_wp2;go_ret;exact ⟨rfl,rfl⟩
 rw [if_neg h];have q1:decide ((n:Int)<126)=false:=dF (by omega);clear hc;go_wp2;go_ret;exact ⟨rfl,rfl⟩
def Set (st:Int) (p:UInt8→Bool):Prop:=∀ c,bits .and .i64 (st.fdiv (2 ^ min (cls c).toNat 64)) 1=if p c=true then 1 else 0
def SF (st:Int) (p:UInt8→Bool) (c:UInt8):Bool:=decide (bits .and .i64 (st.fdiv (2 ^ min (cls c).toNat 64)) 1=if p c=true then 1 else 0)
theorem qO {st:Int} {p:UInt8→Bool} (h:(List.range 256).all (fun n=>SF st p (UInt8.ofNat n))=true):Set st p:=fun c=>by
 have:=zI h c
 unfold SF at this
 exact of_decide_eq_true this
theorem VJ:Set 6 isB:=qO (by decide +kernel)
theorem VI:Set (-5) isC:=qO (by decide +kernel)
theorem VG:Set 112 isW:=qO (by decide +kernel)
theorem NM:Set 32 isD:=qO (by decide +kernel)
theorem VH:Set (-133) isQ:=qO (by decide +kernel)
theorem Jf (st k:Int) (hk:0≤k) (W:World):(Op.shift .shr .i64 st .u8 k).run Tryz.prog W=.ok (.int .i64 (st.fdiv (2 ^ min k.toNat 64))) W:=by
 unfold Op.shift;rw [if_neg (by omega)];rfl
theorem Iy (c:UInt8):0≤cls c:=by
 have:=rR c;unfold Ab at this;simp only [L_d,L_c] at this;omega
theorem aI (s:ByteArray):s.data.toList.length=s.size:=by rw [Array.length_toList];rfl
theorem kX (s:ByteArray) {j:Nat} (h:j<s.size):s.data.toList.drop j=s[j] :: s.data.toList.drop (j+1):=by
 have h':j<s.data.toList.length:=by rw [aI];exact h
 rw [List.drop_eq_getElem_cons h'];rfl
theorem AY (p:UInt8→Bool) (s:ByteArray) {j:Nat} (h:j<s.size):run p (s.data.toList.drop j)=if p s[j]=true then run p (s.data.toList.drop (j+1))+1 else 0:=by
 rw [kX s h];rfl
theorem Py (p:UInt8→Bool) (s:ByteArray) {j:Nat} (h:s.size≤j):run p (s.data.toList.drop j)=0:=by
 rw [List.drop_eq_nil_of_le (by rw [aI];exact h)];rfl
theorem nu {n d:Nat} (h:d<n):n - (intOf (Value.int .i64 ((d:Int)+1))).toNat<n - (intOf (Value.int .i64 (d:Int))).toNat:=by
 show n - (((d:Int)+1)).toNat<n - ((d:Nat):Int).toNat;omega
theorem aP {j:Nat} (h:j<9223372036854775807):wrap64 ((j:Int)+1)=((j+1:Nat):Int):=by unfold wrap64;omega
theorem aU {n j:Nat} (h:j<n) {x:Int} (hx:x=((j+1:Nat):Int)):n - (intOf (Value.int .i64 x)).toNat<n - (intOf (Value.int .i64 ((j:Nat):Int))).toNat:=by
 subst hx;show n - ((j+1:Nat):Int).toNat<n - ((j:Nat):Int).toNat;omega
theorem xU {a b:Nat} (h:a=b):Ending.returned (Value.int .i64 (a:Nat))=Ending.returned (Value.int .i64 (b:Nat)):=by rw [h]
theorem oO {st:Int} {p:UInt8→Bool} (hst:Set st p) (s:ByteArray) (hs:s.size≤140737488355328) (i:Nat) (hi:i≤s.size) (b:Nat) (w:World) (hb:w.cell? ⟨b,0,none⟩=some (.string s)) (T:Tabs w) :
    Calls Tryz.prog 196 #[.int .i64 (i:Nat),.int .i64 st,.pointer (some ⟨b,0,none⟩)] w fun e w' => e=.returned (.int .i64 (i+run p (s.data.toList.drop i):Nat))∧w'=w:=by
 have T0:=Hy T;have H0:=Hy hst;have Z0:=Hy hs;obtain ⟨R,hR⟩:∃ R,i+run p (s.data.toList.drop i)=R:=⟨_,rfl⟩;rw [hR];replace hR:=Hy hR;replace hi:=Hy hi;clear T hst hs
 go_enter Tryz.func196,Tryz.ntmps196
 go_wp2_with fail
 go_loopw [0] (fun x wr => ∃ j:Nat,x=.int .i64 (j:Nat)∧Hid (j≤s.size)∧Hid (j+run p (s.data.toList.drop j)=R)∧wr=w) (fun x _=>s.size - (intOf x).toNat)
 case atStart=>exact ⟨i,rfl,hi,hR,rfl⟩
 case round =>
  obtain ⟨j,rfl,hj,hr,rfl⟩:=hrel;by_cases hc:j<s.size
  ·have q2:decide ((j:Int)<(s.size:Int))=true:=dT (by omega);have hst:=AY p s hc;have f4:=Hy (aP (j:=j) (by have:=Z0.o;omega));have hbit:=H0.o s[j];have C:=Hy (jJ s[j] wr T0.o);have HST:=Hy hst;clear hst;have hsh:=Jf st _ (Iy s[j]);generalize cls s[j]=k at C hbit hsh;generalize st.fdiv (2 ^ min k.toNat 64)=x at hbit hsh;cases hy:p s[j]
   ·rw [hy] at HST hbit;rw [if_neg (by decide)] at hbit;have HD:Hid (j=R):=by unfold Hid;rw [← hr.o,HST.o];rfl
    clear hy hr HST;go_wp2_with (go_at_call 140;refine (C.o).mono ?_;rintro e w' ⟨rfl,rfl⟩);go_ret;exact ⟨xU HD.o,rfl⟩
   rw [hy] at HST hbit;rw [if_pos rfl] at hbit;have HD:Hid (j+1+run p (s.data.toList.drop (j+1))=R):=by unfold Hid;rw [← hr.o,HST.o,if_pos rfl];omega
   clear hy hr HST;go_wp2_with (go_at_call 140;refine (C.o).mono ?_;rintro e w' ⟨rfl,rfl⟩);refine ⟨⟨j+1,by first | exact congrArg (Value.int .i64) f4.o | rfl,Hy hc,HD,trivial⟩,by first | exact aU hc f4.o | exact nu hc⟩
  have hz:=Py p s (j:=j) (by omega);have HD:Hid (j=R):=by unfold Hid;rw [← hr.o,hz,Nat.add_zero]
  have q2:decide ((j:Int)<(s.size:Int))=false:=dF (by omega);clear hz hr;go_wp2_with fail;go_ret;exact ⟨xU HD.o,rfl⟩
theorem vO (s:ByteArray) (w:World):Calls Tryz.prog 139 #[.string s] w fun e w' => e=.returned (.func (.func 196) #[] #[.pointer (some ⟨w.heap.size,0,none⟩)])∧w'.cell? ⟨w.heap.size,0,none⟩=some (.string s)∧w'.heap.size=w.heap.size+1∧Below w.heap.size w w':=by
 have hb:=aj (b0 w) (.cells #[.string s] 9);have hc:(w.alloc (.cells #[.string s] 9)).cell? ⟨w.heap.size,0,none⟩=some (.string s):=by simp [go_sem]
 have hz:(w.alloc (.cells #[.string s] 9)).heap.size=w.heap.size+1:=by simp
 go_enter Tryz.func139,Tryz.ntmps139
 go_wp2_with fail;go_ret;exact ⟨rfl,hc,hz,hb⟩
theorem Jc (s:ByteArray) {j:Nat} (h:s.size≤j):sk false (s.data.toList.drop j)=0:=by
 rw [List.drop_eq_nil_of_le (by rw [aI];exact h)];rfl
theorem Et (s:ByteArray) (i:Nat):i+sk false (s.data.toList.drop i)=(i+run isB (s.data.toList.drop i))+sk false (s.data.toList.drop (i+run isB (s.data.toList.drop i))):=by
 conv=>lhs;rw [yY]
 rw [List.drop_drop];omega
theorem vK (s:ByteArray) {j:Nat} (h:j<s.size) (hc:s[j].toNat=35):j+sk false (s.data.toList.drop j)=(j+run isC (s.data.toList.drop j))+sk false (s.data.toList.drop (j+run isC (s.data.toList.drop j))):=by
 have e:=kX s h
 conv=>lhs;rw [e]
 rw [Pm hc,← e,List.drop_drop];omega
theorem Es (s:ByteArray) {j:Nat} (h:j<s.size) (h1:isB s[j]=false) (hc:s[j].toNat≠35):sk false (s.data.toList.drop j)=0:=by
 rw [kX s h];exact Eu h1 hc _
theorem AX (p:UInt8→Bool) (s:ByteArray) {i j:Nat} (hj:j=i+run p (s.data.toList.drop i)) (h:j<s.size):p s[j]=false:=by
 subst hj;refine Jk p (s.data.toList.drop i) _ ?_;rw [List.drop_drop,kX s h];rfl
theorem jQ (p:UInt8→Bool) (s:ByteArray) {i:Nat} (h:i≤s.size):i+run p (s.data.toList.drop i)≤s.size:=by
 have:=gZ p (s.data.toList.drop i);rw [List.length_drop,aI] at this;omega
theorem AV (p:UInt8→Bool) (s:ByteArray) {j:Nat} (h:j<s.size) (hp:p s[j]=true):j<j+run p (s.data.toList.drop j):=by
 rw [AY p s h,if_pos hp];omega
theorem eqb (a b:Int):(a==b)=decide (a=b):=by
 rw [Bool.eq_iff_iff];simp
theorem Cw (c:UInt8):(cls c==3)=decide (c.toNat=35):=by
 have:=rR c;unfold Ab at this;simp only [L_d,beq_iff_eq] at this;rw [← this.1.2,eqb]
theorem mW (s:ByteArray) (hs:s.size≤140737488355328) (i:Nat) (hi:i≤s.size) (w:World) (T:Tabs w) :
    Calls Tryz.prog 84 #[.string s,.int .i64 (i:Nat)] w fun e w' => e=.returned (.int .i64 (i+sk false (s.data.toList.drop i):Nat))∧Below w.heap.size w w':=by
 have RC:=Hy (vO s w);have CB:=Hy (fun i hi W h T=>oO VJ s hs i hi w.heap.size W h T);have CC:=Hy (fun i hi W h T=>oO VI s hs i hi w.heap.size W h T);have CO:=Hy (fun (c:UInt8) W T=>jJ c W T);have T0:=Hy T;have Z0:=Hy hs;obtain ⟨R,hR⟩:∃ R,i+sk false (s.data.toList.drop i)=R:=⟨_,rfl⟩;rw [hR];replace hR:=Hy hR;replace hi:=Hy hi;clear T hs
 go_enter Tryz.func84,Tryz.ntmps84
 go_wp2_with fail;refine wp_scope_jumps 0 (fun a' w' => ∃ (j:Nat) (f0 f1 f2 f3 f4 f5 f6 f7 f8 f9 f10 f11 f12 f13 f14 f15 f16 f17 f18 f19:Value),a' = { tmps:=#[.string s,.int .i64 (j:Nat),undef,undef,.int .i64 0,.func (.func 196) #[] #[.pointer (some ⟨w.heap.size,0,none⟩)],f0,f1,f2,f3,f4,f5,f6,f7,f8,f9,f10,f11,f12,f13,f14,f15,f16,f17,f18,f19],defers:=[] }∧Hid (j≤s.size)∧Hid (j+sk false (s.data.toList.drop j)=R)∧w'.cell? ⟨w.heap.size,0,none⟩=some (.string s)∧Hid (Below w.heap.size w w')) (fun a' _=>s.size - (intOf (a'.tmps.getD 1 undef)).toNat) rfl ?_ ?_
 ·go_wp2_with fail;refine RC.o.mono ?_;rintro e w1 ⟨rfl,c1,z1,b1⟩;have B1:=Hy b1;clear b1 z1;go_wp2_with fail
  go_step3
  go_wp2_with fail;refine (CB.o i hi.o _ c1 (T0.o.stays B1.o)).mono ?_;rintro e w2 ⟨rfl,rfl⟩;have hp:=Hy ((Et s i).symm.trans hR.o);have hz1:=Hy (jQ isB s hi.o);have hw1:=Hy (fun h=>AX isB s (i:=i) rfl h);have hge:=Hy (Nat.le_add_right i (run isB (s.data.toList.drop i)));generalize i+run isB (s.data.toList.drop i)=j1 at *;by_cases hc:j1<s.size
  ·have q2:decide ((j1:Int)<(s.size:Int))=true:=dT (by omega);have hcl:=Cw s[j1];have C:=Hy (CO.o s[j1] w2 (T0.o.stays B1.o));by_cases h35:s[j1].toNat=35
   ·rw [dT h35] at hcl;have hq:=Hy ((vK s hc h35).symm.trans hp.o);have hz2:=Hy (jQ isC s (Nat.le_of_lt hc));have hmore:=Hy (AV isC s hc (by unfold isC;rw [h35];rfl));have C2:=Hy (CC.o j1 (Nat.le_of_lt hc) w2 c1 (T0.o.stays B1.o));clear h35 hp;generalize cls s[j1]=k at C hcl;generalize j1+run isC (s.data.toList.drop j1)=j2 at *;go_wp2_with (first | (go_at_call 140;refine (C.o).mono ?_;rintro e w' ⟨rfl,rfl⟩) | (go_at_call 196;refine (C2.o).mono ?_;rintro e w' ⟨rfl,rfl⟩))
    go_step3
    exact ⟨rfl,j2,_,_,_,_,_,_,_,_,_,_,_,_,_,_,_,_,_,_,_,_,rfl,hz2,hq,c1,B1⟩
   rw [dF h35] at hcl;have hq:=Hy (show j1=R by rw [← hp.o,Es s hc (hw1.o hc) h35,Nat.add_zero]);clear h35 hp;generalize cls s[j1]=k at C hcl;go_wp2_with (go_at_call 140;refine (C.o).mono ?_;rintro e w' ⟨rfl,rfl⟩);simp only [Exit.jump];go_ret;exact ⟨xU hq.o,B1.o⟩
  have q2:decide ((j1:Int)<(s.size:Int))=false:=dF (by omega);have hq:=Hy (show j1=R by rw [← hp.o,Jc s (by omega),Nat.add_zero]);clear hp;go_wp2_with fail;simp only [Exit.jump];go_ret;exact ⟨xU hq.o,B1.o⟩
 rintro a' w1 ⟨j,f0,f1,f2,f3,f4,f5,f6,f7,f8,f9,f10,f11,f12,f13,f14,f15,f16,f17,f18,f19,rfl,hj,hr,c1,B1⟩;go_wp2_with fail;refine (CB.o j hj.o _ c1 (T0.o.stays B1.o)).mono ?_;rintro e w2 ⟨rfl,rfl⟩;have hp:=Hy ((Et s j).symm.trans hr.o);have hz1:=Hy (jQ isB s hj.o);have hw1:=Hy (fun h=>AX isB s (i:=j) rfl h);have hge:=Hy (Nat.le_add_right j (run isB (s.data.toList.drop j)));generalize j+run isB (s.data.toList.drop j)=j1 at *;by_cases hc:j1<s.size
 ·have q2:decide ((j1:Int)<(s.size:Int))=true:=dT (by omega);have hcl:=Cw s[j1];have C:=Hy (CO.o s[j1] w2 (T0.o.stays B1.o));by_cases h35:s[j1].toNat=35
  ·rw [dT h35] at hcl;have hq:=Hy ((vK s hc h35).symm.trans hp.o);have hz2:=Hy (jQ isC s (Nat.le_of_lt hc));have hmore:=Hy (AV isC s hc (by unfold isC;rw [h35];rfl));have C2:=Hy (CC.o j1 (Nat.le_of_lt hc) w2 c1 (T0.o.stays B1.o));clear h35 hp;generalize cls s[j1]=k at C hcl;generalize j1+run isC (s.data.toList.drop j1)=j2 at *;go_wp2_with (first | (go_at_call 140;refine (C.o).mono ?_;rintro e w' ⟨rfl,rfl⟩) | (go_at_call 196;refine (C2.o).mono ?_;rintro e w' ⟨rfl,rfl⟩))
   go_step3
   refine ⟨rfl,⟨j2,_,_,_,_,_,_,_,_,_,_,_,_,_,_,_,_,_,_,_,_,rfl,hz2,hq,c1,B1⟩,?_⟩;have:=hmore.o;have:=hge.o;show s.size - ((j2:Nat):Int).toNat<s.size - ((j:Nat):Int).toNat;omega
  rw [dF h35] at hcl;have hq:=Hy (show j1=R by rw [← hp.o,Es s hc (hw1.o hc) h35,Nat.add_zero]);clear h35 hp;generalize cls s[j1]=k at C hcl;go_wp2_with (go_at_call 140;refine (C.o).mono ?_;rintro e w' ⟨rfl,rfl⟩);simp only [Exit.jump];go_ret;exact ⟨xU hq.o,B1.o⟩
 have q2:decide ((j1:Int)<(s.size:Int))=false:=dF (by omega);have hq:=Hy (show j1=R by rw [← hp.o,Jc s (by omega),Nat.add_zero]);clear hp;go_wp2_with fail;simp only [Exit.jump];go_ret;exact ⟨xU hq.o,B1.o⟩
theorem toList_nil (s:ByteArray):(s.toList==[])=decide (s.size=0):=by
 rw [ByteArray.toList_eq,Lib.size_eq s];cases s.data.toList <;> simp
theorem uP (s:ByteArray) (i j:Nat):(s.extract i j).data.toList=(s.data.toList.drop i).take (j - i):=by
 rw [ByteArray.data_extract,Array.toList_extract,List.extract_eq_take_drop]
theorem uO (s:ByteArray) (i:Nat):(s.extract i s.size).data.toList=s.data.toList.drop i:=by
 rw [uP,L_q];rw [List.length_drop,aI];omega
theorem xX (c:UInt8) (r:List UInt8) (a:UInt8):Lib.hasPrefix (c :: r) [a,61]=decide (c=a∧r.head? = some 61):=by
 cases r with
 | nil =>
   rw [Bool.eq_iff_iff]
   simp [Lib.hasPrefix,List.isPrefixOf]
 | cons d r =>
   rw [Bool.eq_iff_iff]
   simp only [Lib.hasPrefix,List.isPrefixOf,L_d,beq_iff_eq,List.head?_cons,Option.some.injEq,L_c,Bool.and_true]
   constructor
   · rintro ⟨h1,h2⟩;exact ⟨h1.symm,h2.symm⟩
   · rintro ⟨h1,h2⟩;exact ⟨h1.symm,h2.symm⟩
theorem PU (l:List UInt8):Lib.hasPrefix l [46]=decide (l.head? = some 46):=by
 cases l with
 | nil=>rfl
 | cons d r =>
   rw [Bool.eq_iff_iff]
   simp only [Lib.hasPrefix,List.isPrefixOf,beq_iff_eq,List.head?_cons,Option.some.injEq,L_c,Bool.and_true]
   exact eq_comm
theorem Gs {c:UInt8} {n:Nat} (d:UInt8) (hd:d.toNat=n):c.toNat=n↔c=d:=by
 rw [← hd];exact ⟨fun h=>UInt8.toNat_inj.1 h,fun h=>by rw [h]⟩
theorem Jh (c:UInt8) (r:List UInt8):sgn (c :: r)=if (Lib.hasPrefix (c :: r) [61,61] || Lib.hasPrefix (c :: r) [33,61] || Lib.hasPrefix (c :: r) [60,61])=true then (5,2) else if isS c=true then (5,1) else (0,1):=by
 have e1:c.toNat=61↔c=61:=Gs 61 rfl;have e2:c.toNat=33↔c=33:=Gs 33 rfl;have e3:c.toNat=60↔c=60:=Gs 60 rfl;rw [dK,xX,xX,xX];have e:(decide (c=61∧r.head? = some 61) || decide (c=33∧r.head? = some 61) || decide (c=60∧r.head? = some 61))=true↔(c=61∨c=33∨c=60)∧r.head? = some 61:=by
  simp only [Bool.or_eq_true,L_c];constructor
  ·rintro ((h | h) | h)
   ·exact ⟨.inl h.1,h.2⟩
   ·exact ⟨.inr (.inl h.1),h.2⟩
   exact ⟨.inr (.inr h.1),h.2⟩
  rintro ⟨h | h | h,h2⟩
  ·exact .inl (.inl ⟨h,h2⟩)
  ·exact .inl (.inr ⟨h,h2⟩)
  exact .inr ⟨h,h2⟩
 simp only [e,e1,e2,e3]
theorem Cv (c:UInt8):(cls c==8)=isS c∧(cls c==4)=isL c∧(cls c==5)=isD c∧(cls c==7)=decide (c.toNat=34):=by
 have:=rR c;unfold Ab at this;simp only [L_d,beq_iff_eq] at this;refine ⟨?_,?_,?_,?_⟩
 ·rw [← this.1.1.2,eqb]
 ·rw [← this.1.1.1.2,eqb]
 ·rw [← this.1.1.1.1.1.2,eqb]
 rw [← this.2,eqb]
theorem zL (s:ByteArray) (h0:0<s.size) (w:World) (T:Tabs w) :
    Calls Tryz.prog 142 #[.string s] w fun e w' => e=.returned (.tuple #[.int .i64 (sgn s.data.toList).1,.int .i64 ((sgn s.data.toList).2:Nat)])∧w'=w:=by
 have H1:=Hy (fun W=>Tryz.strings_HasPrefix s ⟨#[61,61]⟩ W);have H2:=Hy (fun W=>Tryz.strings_HasPrefix s ⟨#[33,61]⟩ W);have H3:=Hy (fun W=>Tryz.strings_HasPrefix s ⟨#[60,61]⟩ W);have e:=kX s h0;rw [List.drop_zero] at e;have hg:=Jh s[0] (s.data.toList.drop (0+1));rw [← e] at hg;rw [show (⟨#[61,61]⟩:ByteArray).data.toList=[61,61] from rfl] at H1;rw [show (⟨#[33,61]⟩:ByteArray).data.toList=[33,61] from rfl] at H2;rw [show (⟨#[60,61]⟩:ByteArray).data.toList=[60,61] from rfl] at H3;generalize Lib.hasPrefix s.data.toList [61,61]=b1 at *;generalize Lib.hasPrefix s.data.toList [33,61]=b2 at *;generalize Lib.hasPrefix s.data.toList [60,61]=b3 at *;have C:=Hy (jJ s[0] w T);have hS:=(Cv s[0]).1;generalize isS s[0]=z at hS hg;generalize cls s[0]=k at C hS;generalize sgn s.data.toList=g at *;clear T e;cases b1
 ·cases b2
  ·cases b3
   ·cases z
    ·simp only [Bool.or_self,Bool.false_eq_true,if_false] at hg;subst hg
     go_enter Tryz.func142,Tryz.ntmps142
     go_wp2_with fail;refine (H1.o _).mono ?_;rintro e w' ⟨rfl,rfl⟩;go_wp2_with fail;refine (H2.o _).mono ?_;rintro e w' ⟨rfl,rfl⟩;go_wp2_with fail;refine (H3.o _).mono ?_;rintro e w' ⟨rfl,rfl⟩;go_wp2_with fail;refine C.o.mono ?_;rintro e w' ⟨rfl,rfl⟩;go_wp2_with fail
     go_ret2
     exact ⟨rfl,rfl⟩
    simp only [Bool.or_self,Bool.false_eq_true,if_false,if_true] at hg;subst hg
    go_enter Tryz.func142,Tryz.ntmps142
    go_wp2_with fail;refine (H1.o _).mono ?_;rintro e w' ⟨rfl,rfl⟩;go_wp2_with fail;refine (H2.o _).mono ?_;rintro e w' ⟨rfl,rfl⟩;go_wp2_with fail;refine (H3.o _).mono ?_;rintro e w' ⟨rfl,rfl⟩;go_wp2_with fail;refine C.o.mono ?_;rintro e w' ⟨rfl,rfl⟩;go_wp2_with fail
    go_ret2
    exact ⟨rfl,rfl⟩
   simp only [Bool.or_true,if_true] at hg;subst hg
   go_enter Tryz.func142,Tryz.ntmps142
   go_wp2_with fail;refine (H1.o _).mono ?_;rintro e w' ⟨rfl,rfl⟩;go_wp2_with fail;refine (H2.o _).mono ?_;rintro e w' ⟨rfl,rfl⟩;go_wp2_with fail;refine (H3.o _).mono ?_;rintro e w' ⟨rfl,rfl⟩;go_wp2_with fail
   go_ret2
   exact ⟨rfl,rfl⟩
  simp only [Bool.or_true,Bool.true_or,if_true] at hg;subst hg
  go_enter Tryz.func142,Tryz.ntmps142
  go_wp2_with fail;refine (H1.o _).mono ?_;rintro e w' ⟨rfl,rfl⟩;go_wp2_with fail;refine (H2.o _).mono ?_;rintro e w' ⟨rfl,rfl⟩;go_wp2_with fail
  go_ret2
  exact ⟨rfl,rfl⟩
 simp only [Bool.true_or,if_true] at hg;subst hg
 go_enter Tryz.func142,Tryz.ntmps142
 go_wp2_with fail;refine (H1.o _).mono ?_;rintro e w' ⟨rfl,rfl⟩;go_wp2_with fail
 go_ret2
 exact ⟨rfl,rfl⟩
theorem AZ {st:Int} {p:UInt8→Bool} (hst:Set st p) (s:ByteArray) (hs:s.size≤140737488355328) (b:Nat) (w:World) (hb:w.cell? ⟨b,0,none⟩=some (.string s)) (T:Tabs w) :
    Calls Tryz.prog 196 #[.int .i64 0,.int .i64 st,.pointer (some ⟨b,0,none⟩)] w fun e w' => e=.returned (.int .i64 (run p s.data.toList:Nat))∧w'=w:=by
 have:=oO hst s hs 0 zl b w hb T;rw [List.drop_zero,Nat.zero_add] at this;exact this
theorem LM {st:Int} {p:UInt8→Bool} (hst:Set st p) (s:ByteArray) (hs:s.size≤140737488355328) (i:Nat) (hi:i+1≤s.size) (b:Nat) (w:World) (hb:w.cell? ⟨b,0,none⟩=some (.string s)) (T:Tabs w) :
  Calls Tryz.prog 196 #[.int .i64 ((i:Nat)+1),.int .i64 st,.pointer (some ⟨b,0,none⟩)] w fun e w' => e=.returned (.int .i64 ((i+1+run p (s.data.toList.drop (i+1)):Nat):Int))∧w'=w :=
 oO hst s hs (i+1) hi b w hb T
theorem vL (s:ByteArray) (h0:0<s.size):s.data.toList=s[0] :: s.data.toList.drop 1:=by
 have e:=kX s h0
 rwa [List.drop_zero] at e
theorem VE (s:ByteArray) (h0:0<s.size) (h:isL s[0]=true):shp s.data.toList=(1,run isW s.data.toList):=by
 have e:=vL s h0;rw [e,aX,if_pos h]
theorem VF (s:ByteArray) (h0:0<s.size) (h:isD s[0]=true):shp s.data.toList=if pnt (s.data.toList.drop (run isD s.data.toList))=0 then (2,run isD s.data.toList) else (3,run isD s.data.toList+1+pnt (s.data.toList.drop (run isD s.data.toList))):=by
 have e:=vL s h0;rw [e,aX,if_neg (Ic h),if_pos h]
theorem PX {l:List UInt8} (h:l.head? = some 46):pnt l=run isD (l.drop 1):=by
 cases l with
 | nil=>cases h
 | cons c r =>
   rw [List.head?_cons,Option.some.injEq] at h
   rw [gM,if_pos (by rw [h];rfl)]
   rfl
theorem LV {l:List UInt8} (h:l.head?≠some 46):pnt l=0:=by
 cases l with
 | nil=>rfl
 | cons c r =>
   rw [List.head?_cons,ne_eq,Option.some.injEq] at h
   rw [gM,if_neg (fun e=>h (UInt8.toNat_inj.1 (e.trans rfl)))]
theorem head_drop (s:ByteArray) (n:Nat):(s.data.toList.drop n).head? = if h:n<s.size then some s[n] else none:=by
 by_cases h:n<s.size
 ·rw [dif_pos h,kX s h];rfl
 rw [dif_neg h,List.drop_eq_nil_of_le (by rw [aI];omega)];rfl
theorem VD (s:ByteArray) (h0:0<s.size) (h:s[0].toNat=34):shp s.data.toList=if (s.data.toList.drop (1+run isQ (s.data.toList.drop 1))).head? = some 34 then (4,1+run isQ (s.data.toList.drop 1)+1) else sgn s.data.toList:=by
 have e:=vL s h0;have h1:¬ isL s[0]=true:=by unfold isL;rw [h];decide
 have h2:¬ isD s[0]=true:=by unfold isD;rw [h];decide
 generalize s.data.toList.drop 1=r at e;rw [e,aX,if_neg h1,if_neg h2,Nat.add_comm 1 (run isQ r),List.drop_succ_cons];simp only [h,true_and]
theorem VB (s:ByteArray) (h0:0<s.size) (h1:isL s[0]=false) (h2:isD s[0]=false) (h:s[0].toNat≠34):shp s.data.toList=sgn s.data.toList:=by
 have e:=vL s h0;generalize s.data.toList.drop 1=r at e;rw [e,aX,if_neg (by rw [h1];decide),if_neg (by rw [h2];decide),if_neg (by omega)]
theorem qN (s:ByteArray) (hs:s.size≤140737488355328) (w:World) (T:Tabs w) :
    Calls Tryz.prog 85 #[.string s] w fun e w' => e=.returned (.tuple #[.int .i64 (shp s.data.toList).1,.int .i64 ((shp s.data.toList).2:Nat)])∧Below w.heap.size w w':=by
 by_cases h0:0<s.size
 ·have q1:(s.toList==[])=false:=by rw [toList_nil];exact dF (by omega)
  have RC:=Hy (vO s w);have T0:=Hy T;have C:=Hy (fun W T=>jJ s[0] W T);have SG:=Hy (fun W T=>zL s h0 W T);obtain ⟨_,k4,k5,k7⟩:=Cv s[0];have fL:=Hy (VE s h0);have fD:=Hy (VF s h0);have fQ:=Hy (VD s h0);have fS:=Hy (VB s h0);obtain ⟨g,hg⟩:∃ g,shp s.data.toList=g:=⟨_,rfl⟩;rw [hg] at fL fD fQ fS ⊢;clear hg T;cases hL:isL s[0]
  ·cases hD:isD s[0]
   ·by_cases h34:s[0].toNat=34
    ·rw [hL] at k4;rw [hD] at k5;rw [dT h34] at k7;have hgQ:=fQ.o h34;have hnz:=jQ isQ s (i:=1) h0;obtain ⟨n,hn⟩:∃ n,1+run isQ (s.data.toList.drop 1)=n:=⟨_,rfl⟩;have CQ:=Hy (fun W h T=>(oO VH s hs 1 h0 w.heap.size W h T:Calls Tryz.prog 196 #[.int .i64 1,.int .i64 (-133),.pointer (some ⟨w.heap.size,0,none⟩)] W fun e w' => e=.returned (.int .i64 ((1+run isQ (s.data.toList.drop 1):Nat):Int))∧w'=W));rw [hn] at CQ hgQ hnz;rw [head_drop] at hgQ;generalize cls s[0]=k at C k4 k5 k7;clear hL hD h34 fL fD fQ fS hn;generalize sgn s.data.toList=q at *;by_cases hc:n<s.size
     ·rw [dif_pos hc] at hgQ;have q2:decide ((n:Int)<(s.size:Int))=true:=dT (by omega);have C2:=Hy (fun W T=>jJ s[n] W T);have k77:=(Cv s[n]).2.2.2;generalize cls s[n]=kk at C2 k77;by_cases h2:s[n].toNat=34
      ·rw [if_pos (by rw [show s[n]=34 from UInt8.toNat_inj.1 h2])] at hgQ;rw [dT h2] at k77;replace hgQ:=Hy hgQ;clear h2 SG
       go_enter Tryz.func85,Tryz.ntmps85
       go_wp2_with fail;refine RC.o.mono ?_;rintro e w1 ⟨rfl,c1,z1,b1⟩;have B1:=Hy b1;have T1:=Hy (T0.o.stays b1);clear b1 z1;go_wp2_with fail;refine (C.o _ T1.o).mono ?_;rintro e w2 ⟨rfl,rfl⟩;have CQ1:=Hy (CQ.o w2 c1 T1.o);go_wp2_with fail;refine CQ1.o.mono ?_;rintro e w3 ⟨rfl,rfl⟩;go_wp2_with fail;refine (C2.o _ T1.o).mono ?_;rintro e w3 ⟨rfl,rfl⟩;go_wp2_with fail
       go_ret2
       exact ⟨by rw [hgQ.o];rfl,B1.o⟩
      rw [if_neg (by intro e;apply h2;rw [Option.some.inj e];rfl)] at hgQ;rw [dF h2] at k77;replace hgQ:=Hy hgQ;clear h2
      go_enter Tryz.func85,Tryz.ntmps85
      go_wp2_with fail;refine RC.o.mono ?_;rintro e w1 ⟨rfl,c1,z1,b1⟩;have B1:=Hy b1;have T1:=Hy (T0.o.stays b1);clear b1 z1;go_wp2_with fail;refine (C.o _ T1.o).mono ?_;rintro e w2 ⟨rfl,rfl⟩;have CQ1:=Hy (CQ.o w2 c1 T1.o);go_wp2_with fail;refine CQ1.o.mono ?_;rintro e w3 ⟨rfl,rfl⟩;go_wp2_with fail;refine (C2.o _ T1.o).mono ?_;rintro e w3 ⟨rfl,rfl⟩;go_wp2_with fail;refine (SG.o _ T1.o).mono ?_;rintro e w3 ⟨rfl,rfl⟩;go_wp2_with fail
      go_ret2
      exact ⟨by rw [hgQ.o];rfl,B1.o⟩
     rw [dif_neg hc,if_neg (by intro e;cases e)] at hgQ;have q2:decide ((n:Int)<(s.size:Int))=false:=dF (by omega);replace hgQ:=Hy hgQ
     go_enter Tryz.func85,Tryz.ntmps85
     go_wp2_with fail;refine RC.o.mono ?_;rintro e w1 ⟨rfl,c1,z1,b1⟩;have B1:=Hy b1;have T1:=Hy (T0.o.stays b1);clear b1 z1;go_wp2_with fail;refine (C.o _ T1.o).mono ?_;rintro e w2 ⟨rfl,rfl⟩;have CQ1:=Hy (CQ.o w2 c1 T1.o);go_wp2_with fail;refine CQ1.o.mono ?_;rintro e w3 ⟨rfl,rfl⟩;go_wp2_with fail;refine (SG.o _ T1.o).mono ?_;rintro e w3 ⟨rfl,rfl⟩;go_wp2_with fail
     go_ret2
     exact ⟨by rw [hgQ.o];rfl,B1.o⟩
    rw [hL] at k4;rw [hD] at k5;rw [dF h34] at k7;have hgS:=Hy (fS.o hL hD h34);generalize cls s[0]=k at C k4 k5 k7;clear hL hD h34 fL fD fQ fS;generalize sgn s.data.toList=q at *
    go_enter Tryz.func85,Tryz.ntmps85
    go_wp2_with fail;refine RC.o.mono ?_;rintro e w1 ⟨rfl,c1,z1,b1⟩;have B1:=Hy b1;have T1:=Hy (T0.o.stays b1);clear b1 z1;go_wp2_with fail;refine (C.o _ T1.o).mono ?_;rintro e w2 ⟨rfl,rfl⟩;go_wp2_with fail;refine (SG.o _ T1.o).mono ?_;rintro e w2 ⟨rfl,rfl⟩;go_wp2_with fail
    go_ret2
    exact ⟨by rw [hgS.o];rfl,B1.o⟩
   rw [hL] at k4;rw [hD] at k5;have hgD:=fD.o hD;have hnz:=jQ isD s (i:=0) zl;rw [List.drop_zero,Nat.zero_add] at hnz;have CD:=Hy (fun W h T=>AZ NM s hs w.heap.size W h T);have CE:=Hy (fun i hi W h T=>LM NM s hs i hi w.heap.size W h T);obtain ⟨n,hn⟩:∃ n,run isD s.data.toList=n:=⟨_,rfl⟩;rw [hn] at CD hgD hnz;have HP:=Hy (fun W=>Tryz.strings_HasPrefix (s.extract n s.size) ⟨#[46]⟩ W);rw [uO,show (⟨#[46]⟩:ByteArray).data.toList=[46] from rfl,PU] at HP;generalize cls s[0]=k at C k4 k5 k7;clear hL hD fL fD fQ fS hn SG k7;by_cases hh:(s.data.toList.drop n).head? = some 46
   ·have hnl:n<s.size:=by
     rcases Nat.lt_or_ge n s.size with h1 | h1
     ·exact h1
     rw [head_drop,dif_neg (by omega)] at hh;cases hh
    have hmz:=jQ isD s (i:=n+1) hnl;rw [dT hh] at HP;rw [PX hh,List.drop_drop] at hgD;have CE1:=Hy (CE.o n hnl);generalize run isD (s.data.toList.drop (n+1))=m at *;clear hh CE;by_cases hm:m=0
    ·subst hm;rw [if_pos rfl] at hgD;replace hgD:=Hy hgD;rw [Nat.add_zero] at CE1;have q3:decide (((n:Int)+1)<((n+1:Nat):Int))=false:=dF (by omega)
     go_enter Tryz.func85,Tryz.ntmps85
     go_wp2_with fail;refine RC.o.mono ?_;rintro e w1 ⟨rfl,c1,z1,b1⟩;have B1:=Hy b1;have T1:=Hy (T0.o.stays b1);clear b1 z1;go_wp2_with fail;refine (C.o _ T1.o).mono ?_;rintro e w2 ⟨rfl,rfl⟩;have CD1:=Hy (CD.o w2 c1 T1.o);have CE2:=Hy (CE1.o w2 c1 T1.o);go_wp2_with fail;refine CD1.o.mono ?_;rintro e w3 ⟨rfl,rfl⟩;go_wp2_with fail;refine (HP.o _).mono ?_;rintro e w3 ⟨rfl,rfl⟩;go_wp2_with fail;refine CE2.o.mono ?_;rintro e w3 ⟨rfl,rfl⟩;go_wp2_with fail
     go_ret2
     exact ⟨by rw [hgD.o];rfl,B1.o⟩
    rw [if_neg hm] at hgD;replace hgD:=Hy hgD;have q3:decide (((n:Int)+1)<((n+1+m:Nat):Int))=true:=dT (by omega)
    go_enter Tryz.func85,Tryz.ntmps85
    go_wp2_with fail;refine RC.o.mono ?_;rintro e w1 ⟨rfl,c1,z1,b1⟩;have B1:=Hy b1;have T1:=Hy (T0.o.stays b1);clear b1 z1;go_wp2_with fail;refine (C.o _ T1.o).mono ?_;rintro e w2 ⟨rfl,rfl⟩;have CD1:=Hy (CD.o w2 c1 T1.o);have CE2:=Hy (CE1.o w2 c1 T1.o);go_wp2_with fail;refine CD1.o.mono ?_;rintro e w3 ⟨rfl,rfl⟩;go_wp2_with fail;refine (HP.o _).mono ?_;rintro e w3 ⟨rfl,rfl⟩;go_wp2_with fail;refine CE2.o.mono ?_;rintro e w3 ⟨rfl,rfl⟩;go_wp2_with fail;refine CE2.o.mono ?_;rintro e w3 ⟨rfl,rfl⟩;go_wp2_with fail
    go_ret2
    exact ⟨by rw [hgD.o];rfl,B1.o⟩
   rw [dF hh] at HP;rw [LV hh,if_pos rfl] at hgD;replace hgD:=Hy hgD;clear hh CE
   go_enter Tryz.func85,Tryz.ntmps85
   go_wp2_with fail;refine RC.o.mono ?_;rintro e w1 ⟨rfl,c1,z1,b1⟩;have B1:=Hy b1;have T1:=Hy (T0.o.stays b1);clear b1 z1;go_wp2_with fail;refine (C.o _ T1.o).mono ?_;rintro e w2 ⟨rfl,rfl⟩;have CD1:=Hy (CD.o w2 c1 T1.o);go_wp2_with fail;refine CD1.o.mono ?_;rintro e w3 ⟨rfl,rfl⟩;go_wp2_with fail;refine (HP.o _).mono ?_;rintro e w3 ⟨rfl,rfl⟩;go_wp2_with fail
   go_ret2
   exact ⟨by rw [hgD.o];rfl,B1.o⟩
  have hgL:=Hy (fL.o hL);rw [hL] at k4;generalize cls s[0]=k at C k4 k5 k7;clear hL fL fD fQ fS k5 k7 SG
  go_enter Tryz.func85,Tryz.ntmps85
  go_wp2_with fail;refine RC.o.mono ?_;rintro e w1 ⟨rfl,c1,z1,b1⟩;have B1:=Hy b1;have T1:=Hy (T0.o.stays b1);have CW:=Hy (AZ VG s hs w.heap.size w1 c1 T1.o);clear b1 z1;generalize run isW s.data.toList=n at *;go_wp2_with fail;refine (C.o _ T1.o).mono ?_;rintro e w2 ⟨rfl,rfl⟩;go_wp2_with fail;refine CW.o.mono ?_;rintro e w2 ⟨rfl,rfl⟩;go_wp2_with fail
  go_ret2
  exact ⟨by rw [hgL.o];rfl,B1.o⟩
 have q1:(s.toList==[])=true:=by rw [toList_nil];exact dT (by omega)
 have hn:s.data.toList=[]:=List.eq_nil_of_length_eq_zero (by rw [aI];omega);have hg:=Hy (show shp s.data.toList=(0,0) by rw [hn];rfl);clear T hn hs
 go_enter Tryz.func85,Tryz.ntmps85
 go_wp2_with fail
 go_ret2
 exact ⟨by rw [hg.o];rfl,b0 w⟩
end
end Go.Proofs.YtbahfelnbofjjaaGreatDoor
