/-
  Where a module's problems lie: no two at one place; What is read holds no sign that ends an item, where the reading fails; The reference's reader: the tokens behind an item that could not be read; The reference's reader: a problem among others; The reference's reader: plain facts of its loop over items.
-/
import Derived.Test.YtbpijgddfaefkaaGreatDoorK34
set_option maxRecDepth 100000
set_option maxHeartbeats 16000000
namespace Go.Proofs.YtbpijgddfaefkaaGreatDoor
namespace pa
open Go.RowKit dec
section
variable {P:Int→Prop}
def Sy {α:Type} (P:Int→Prop) (x:Rs α) (l:List Tk):Prop :=
 match x with
 | .out=>True
 | .ok _ r=>r <:+ l
 | .no a _ r => ∃ C,l=C++r∧(P a∨a=(hd r).a∨∃ t ∈ C,a=t.a)
theorem Sy.mono {α:Type} {x:Rs α} {l q:List Tk} (h:Sy P x l) (hl:l <:+ q):Sy P x q:=by
 cases x with
 | out=>trivial
 | ok v r=>exact List.IsSuffix.trans h hl
 | no a c r =>
   obtain ⟨C,rfl,h2⟩:=h
   obtain ⟨D,rfl⟩:=hl
   refine ⟨D++C,by rw [List.append_assoc],?_⟩
   rcases h2 with h2 | h2 | ⟨t,ht,e⟩
   · exact .inl h2
   · exact .inr (.inl h2)
   · exact .inr (.inr ⟨t,List.mem_append_right _ ht,e⟩)
theorem Sy.tail {α:Type} {x:Rs α} {l:List Tk} (h:Sy P x l.tail):Sy P x l:=h.mono (List.tail_suffix l)
theorem Sy.cons {α:Type} {x:Rs α} {l:List Tk} (hl:l≠[]) (h:Sy (fun a=>a=(hd l).a∨P a) x l.tail):Sy P x l:=by
 cases l with
 | nil=>exact absurd rfl hl
 | cons y l =>
   cases x with
   | out=>trivial
   | ok v r=>exact List.IsSuffix.trans h (List.suffix_cons _ _)
   | no a c r =>
     obtain ⟨C,h1,h2⟩:=h
     have h1:l=C++r:=h1
     subst h1
     refine ⟨y :: C,rfl,?_⟩
     rcases h2 with (h2 | h2) | h2 | ⟨t,ht,e⟩
     · exact .inr (.inr ⟨y,List.mem_cons_self,h2⟩)
     · exact .inl h2
     · exact .inr (.inl h2)
     · exact .inr (.inr ⟨t,List.mem_cons_of_mem _ ht,e⟩)
theorem Sy.bind {α β:Type} {x:Rs α} {g:α→List Tk→Rs β} {l:List Tk} (h:Sy P x l) (hg:∀ v r,x=.ok v r→Sy P (g v r) r):Sy P (x.bind g) l:=by
 cases x with
 | out=>trivial
 | ok v r=>exact (hg v r rfl).mono h
 | no a c r=>exact h
theorem bQ {α:Type} (v:α) (l:List Tk):Sy P (.ok v l:Rs α) l:=List.suffix_refl l
theorem jO {α:Type} (v:α) (l:List Tk):Sy P (.ok v l.tail:Rs α) l:=List.tail_suffix l
theorem kG {α:Type} (l:List Tk):Sy P (wrg l:Rs α) l:=⟨[],rfl,.inr (.inl rfl)⟩
theorem dH (s:ByteArray) (l:List Tk):Sy P (need s l) l:=by
 unfold need;split
 ·exact jO _ _
 exact kG _
theorem ou (k:Int) (l:List Tk):Sy P (tak k l) l:=by
 unfold tak;split
 ·exact jO _ _
 exact kG _
theorem kH (l:List Tk):Sy P (nam l) l:=by
 unfold nam;split
 ·exact ou _ _
 exact kG _
theorem ow (s:ByteArray) (l:List Tk):Sy P (nma s l) l:=Sy.bind (dH _ _) fun _ _ _=>kH _
theorem mg (l:List Tk):Sy P (int l) l:=Sy.bind (ou _ _) fun _ _ _=>bQ _ _
theorem JL (l:List Tk):Sy P (iX l) l:=Sy.bind (ou _ _) fun _ _ _=>bQ _ _
theorem Na (l:List Tk):Sy P (fac l) l:=by
 refine Sy.bind (kH _) fun n r _=>?_;split
 ·split
  ·exact (Sy.bind (mg _) fun _ _ _=>bQ _ _).tail.tail
  exact (Sy.bind (mg _) fun _ _ _=>bQ _ _).tail
 exact bQ _ _
theorem zV {α:Type} {one:List Tk→Rs α} {s:ByteArray} (h1:∀ l,Sy P (one l) l):∀ (f:Nat) (x:List α) (l:List Tk),Sy P (more one s f x l) l
 | 0,_,_=>trivial
 | f+1,x,l=>by
  unfold more
  split
  ·exact (Sy.bind (h1 _) fun _ _ _=>zV h1 f _ _).tail
  ·exact bQ _ _
theorem DU {α:Type} {one:List Tk→Rs α} {s:ByteArray} (h1:∀ l,Sy P (one l) l) (l:List Tk):Sy P (lst one s l) l:=Sy.bind (h1 _) fun _ _ _=>zV h1 _ _ _
theorem rJ (l:List Tk):Sy P (uni l) l:=by
 unfold uni;split
 ·rename_i t;have hne:l≠[]:=fun e=>sJ t (by rw [e];rfl);refine Sy.cons hne (Sy.bind (DU Na _) fun u r _=>Sy.bind (dH _ _) fun _ r' _=>?_);split
  ·exact bQ _ _
  exact ⟨[],rfl,.inl (.inl rfl)⟩
 exact bQ _ _
theorem DT (l:List Tk):Sy P (typ l) l:=by
 unfold typ;split
 ·exact jO _ _
 split
 ·exact jO _ _
 split
 ·exact (Sy.bind (kH _) fun _ _ _=>bQ _ _).tail
 split
 ·exact (Sy.bind (rJ _) fun _ _ _=>bQ _ _).tail
 split
 ·exact (Sy.bind (rJ _) fun _ _ _=>bQ _ _).tail
 exact kG _
theorem MV (l:List Tk):Sy P (win l) l:=by
 unfold win;split
 ·exact jO _ _
 iterate 3
   split
   · exact (Sy.bind (mg _) fun _ _ _=>bQ _ _).tail
 exact kG _
theorem MX (l:List Tk):Sy P (key l) l:=by
 refine Sy.bind (ow _ _) fun n r _=>?_;unfold tak;split
 ·rename_i hk;have hne:r≠[]:=fun e=>by rw [e] at hk;exact absurd hk (by decide)
  refine Sy.cons hne ?_;rw [KS];split
  ·exact bQ _ _
  exact ⟨[],rfl,.inl (.inl rfl)⟩
 exact kG _
theorem PE:∀ (f:Nat) (i:Bool) (m:Md) (l:List Tk),Sy P (pz f i m l) l:=by
 intro f
 induction f with
 | zero=>intro i m l;exact trivial
 | succ f ih =>
   intro i m l
   cases m with
   | ex =>
     simp only [pz]
     split
     · exact (Sy.bind (ih _ _ _) fun _ _ _=>Sy.bind (dH _ _) fun _ _ _=>Sy.bind (ih _ _ _) fun _ _ _=>Sy.bind (dH _ _) fun _ _ _=>Sy.bind (ih _ _ _) fun _ _ _=>bQ _ _).tail
     · exact ih _ _ _
   | op least =>
     simp only [pz]
     split
     · exact (Sy.bind (ih _ _ _) fun _ _ _=>ih _ _ _).tail
     · exact Sy.bind (ih _ _ _) fun _ _ _=>ih _ _ _
   | tl least n y =>
     simp only [pz]
     split
     · exact bQ _ _
     · split
       · exact ih _ _ _
       · exact (Sy.bind (ih _ _ _) fun _ _ _=>ih _ _ _).tail
   | ng =>
     simp only [pz]
     split
     · exact (Sy.bind (ih _ _ _) fun _ _ _=>bQ _ _).tail
     · exact ih _ _ _
   | pa =>
     simp only [pz]
     exact Sy.bind (dH _ _) fun _ _ _=>Sy.bind (ih _ _ _) fun _ _ _=>Sy.bind (dH _ _) fun _ _ _=>bQ _ _
   | rf =>
     simp only [pz]
     refine Sy.bind (kH _) fun n r _=>?_
     split
     · exact (Sy.bind (ih _ _ _) fun _ _ _=>bQ _ _).tail
     · exact bQ _ _
   | ag =>
     simp only [pz]
     refine Sy.bind (ou _ _) fun op r _=>Sy.bind (dH _ _) fun _ r _=>Sy.bind (kH _) fun t r _=>Sy.bind (dH _ _) fun _ r _=>Sy.bind ?_ fun x r _=>Sy.bind ?_ fun p r _=>Sy.bind (MV _) fun w r _=>Sy.bind ?_ fun y r _=>Sy.bind (dH _ _) fun _ _ _=>bQ _ _
     · split
       · exact bQ _ _
       · exact Sy.bind (ih _ _ _) fun _ _ _=>Sy.bind (dH _ _) fun _ _ _=>bQ _ _
     · split
       · exact Sy.bind (mg _) fun _ _ _=>Sy.bind (dH _ _) fun _ _ _=>bQ _ _
       · exact bQ _ _
     · split
       · exact (ih _ _ _).tail
       · exact bQ _ _
   | pr =>
     simp only [pz]
     split
     · exact Sy.bind (mg _) fun _ _ _=>Sy.bind (rJ _) fun _ _ _=>bQ _ _
     split
     · exact Sy.bind (JL _) fun _ _ _=>Sy.bind (rJ _) fun _ _ _=>bQ _ _
     split
     · exact Sy.bind (ou _ _) fun _ _ _=>bQ _ _
     split
     · exact jO _ _
     split
     · exact jO _ _
     split
     · exact MX _
     split
     · exact (Sy.bind (ih _ _ _) fun _ _ _=>bQ _ _).tail
     split
     · exact ih _ _ _
     split
     · exact Sy.bind (kH _) fun _ _ _=>bQ _ _
     split
     · exact ih _ _ _
     · exact ih _ _ _
theorem Nb (l:List Tk):Sy P (exR l) l:=PE _ _ _ _
theorem MZ (l:List Tk):Sy P (fie l) l:=Sy.bind (kH _) fun _ _ _=>Sy.bind (dH _ _) fun _ _ _=>Sy.bind (DT _) fun _ _ _=>bQ _ _
theorem JH (l:List Tk):Sy P (eP l) l:=by
 unfold eP;split
 ·exact jO _ _
 exact Sy.bind (DU MZ _) fun _ _ _=>Sy.bind (dH _ _) fun _ _ _=>bQ _ _
theorem JI (l:List Tk):Sy P (dK l) l:=by
 unfold dK;split
 ·exact (mg _).tail
 exact bQ _ _
theorem JG (l:List Tk):Sy P (ji l) l:=Sy.bind (ow _ _) fun _ _ _=>Sy.bind (ow _ _) fun _ _ _=>Sy.bind (dH _ _) fun _ _ _=>Sy.bind (JH _) fun _ _ _=>Sy.bind (JI _) fun _ _ _=>Sy.bind (dH _ _) fun _ _ _=>bQ _ _
theorem JK (l:List Tk):Sy P (gu l) l:=Sy.bind (ow _ _) fun _ _ _=>Sy.bind (ow _ _) fun _ _ _=>Sy.bind (dH _ _) fun _ _ _=>Sy.bind (DT _) fun _ _ _=>Sy.bind (dH _ _) fun _ _ _=>Sy.bind (Nb _) fun _ _ _=>Sy.bind (dH _ _) fun _ _ _=>bQ _ _
theorem JJ (m:Mo) (l:List Tk):Sy P (bU m l) l:=by
 unfold bU;split
 ·exact Sy.bind (JG _) fun _ _ _=>bQ _ _
 split
 ·exact Sy.bind (JK _) fun _ _ _=>bQ _ _
 exact kG _
end
theorem Fx {m:Mo} {l r:List Tk} {a c:Int} (h:bU m l=.no a c r):∃ C,l=C++r∧(a=(hd r).a∨∃ t ∈ C,a=t.a):=by
 have hs:=JJ (P:=fun _=>False) m l;rw [h] at hs;obtain ⟨C,h1,h2⟩:=hs;exact ⟨C,h1,h2.resolve_left fun h=>h⟩
theorem pV:∀ l:List Tk,lvR l <:+ l
 | []=>List.suffix_refl _
 | x :: l=>by
  unfold lvR
  split
  ·exact List.suffix_refl _
  ·split
   ·exact List.suffix_cons _ _
   ·exact List.IsSuffix.trans (pV l) (List.suffix_cons _ _)
theorem Og {x:Tk} {l:List Tk} (h:x.k≠6):lvR (x :: l) <:+ l:=by
 unfold lvR;rw [if_neg h];split
 ·exact List.suffix_refl _
 exact pV l
theorem xG {e:Tk} (he:e.k=6):∀ T:List Tk,SimR (fun a b=>a=b) (T++[e]) (T++[e])
 | []=>.last he rfl rfl rfl
 | _ :: T=>.cons rfl rfl rfl (xG he T)
theorem uD:∀ (f:Nat) (m:Mo) (b:List Pb) (l:List Tk) (m1:Mo) (b1:List Pb),SimR (fun a b=>a=b) l l→l.Pairwise (fun x y=>x.a<y.a)→eT f m b l=some (m1,b1)→∃ c:List Pb,b1=b++c∧c.Pairwise (fun p q=>p.1<q.1)∧∀ p ∈ c,∃ t ∈ l,p.1=t.a
 | 0,_,_,_,_,_,_,_,h=>by cases h
 | f+1,m,b,l,m1,b1,hS,hp,h=>by
  unfold eT at h
  split at h
  ·cases h
   exact ⟨[],(List.append_nil _).symm,.nil,fun p hp=>by cases hp⟩
  ·have hs:=Ii (m:=m) hS
   cases hi:bU m l with
   | out=>rw [hi] at h;cases h
   | ok m' r =>
    rw [hi] at h hs
    have hx:r <:+ l:=by have:=jE m l;rw [hi] at this;exact this
    have hr:SimR (fun a b=>a=b) r r:=by
     cases hs with
     | ok v h=>exact h
    obtain ⟨c,e,p,q⟩:=uD f _ _ _ _ _ hr (hp.sublist hx.sublist) h
    exact ⟨c,e,p,fun x hx' => let ⟨t,ht,e⟩:=q x hx';⟨t,hx.subset ht,e⟩⟩
   | no a c r =>
    rw [hi] at h hs
    replace h:eT f m (b++[(a,c)]) (lvR r)=some (m1,b1):=h
    obtain ⟨C,hl,ha⟩:=Fx hi
    subst hl
    have hr:SimR (fun a b=>a=b) r r:=by
     cases hs with
     | no c ha h=>exact h
    have hl:=Lr hr
    obtain ⟨x,r',rfl⟩:∃ x r',r=x :: r':=by
     cases r with
     | nil=>cases hr
     | cons x r' => exact ⟨x,r',rfl⟩
    obtain ⟨t,ht,hta⟩:∃ t ∈ C++[x],a=t.a:=by
     rcases ha with ha | ⟨t,ht,e⟩
     ·exact ⟨x,List.mem_append_right _ List.mem_cons_self,ha⟩
     ·exact ⟨t,List.mem_append_left _ ht,e⟩
    have htl:t ∈ C++x :: r':=by
     rcases List.mem_append.1 ht with h | h
     ·exact List.mem_append_left _ h
     ·exact List.mem_append_right _ (by rw [List.mem_singleton.1 h];exact List.mem_cons_self)
    by_cases hk:x.k=6
    ·have hv:lvR (x :: r')=x :: r':=by unfold lvR;rw [if_pos hk]
     rw [hv] at h
     cases f with
     | zero=>cases h
     | succ f =>
      unfold eT at h
      rw [if_pos (show (hd (x :: r')).k=6 from hk)] at h
      cases h
      exact ⟨[(a,c)],rfl,List.pairwise_singleton _ _,fun p hp=>by rw [List.mem_singleton.1 hp];exact ⟨t,htl,hta⟩⟩
    ·have hv:=Og (l:=r') hk
     have hp':(C++[x]++r').Pairwise (fun x y=>x.a<y.a):=by rw [List.append_assoc];exact hp
     obtain ⟨p1,p2,p3⟩:=List.pairwise_append.1 hp'
     obtain ⟨c',e,p,q⟩:=uD f _ _ _ _ _ hl (p2.sublist hv.sublist) h
     refine ⟨(a,c) :: c',by rw [e,List.append_assoc];rfl,List.pairwise_cons.2 ⟨fun y hy=>?_,p⟩,fun y hy=>?_⟩
     ·obtain ⟨t',ht',e'⟩:=q y hy
      have:=p3 t ht t' (hv.subset ht')
      show a<y.1
      omega
     ·rcases List.mem_cons.1 hy with rfl | hy
      ·exact ⟨t,htl,hta⟩
      ·obtain ⟨t',ht',e'⟩:=q y hy
       exact ⟨t',List.mem_append_right _ (List.mem_cons_of_mem _ (hv.subset ht')),e'⟩
theorem uG (p:Nat) (f:Bool) (l:List UInt8):(lxs p f l).1.Pairwise (fun x y=>x.a<y.a)∧(lxs p f l).2.Pairwise (fun x y=>x.1<y.1)∧(∀ t ∈ (lxs p f l).1,(p:Int)≤t.a∧t.a<((p+l.length:Nat):Int))∧(∀ q ∈ (lxs p f l).2,(p:Int)≤q.1∧q.1<((p+l.length:Nat):Int))∧∀ t ∈ (lxs p f l).1,∀ q ∈ (lxs p f l).2,q.1≠t.a:=by
 refine pW (C:=fun p f l=>(lxs p f l).1.Pairwise (fun x y=>x.a<y.a)∧(lxs p f l).2.Pairwise (fun x y=>x.1<y.1)∧(∀ t ∈ (lxs p f l).1,(p:Int)≤t.a∧t.a<((p+l.length:Nat):Int))∧(∀ q ∈ (lxs p f l).2,(p:Int)≤q.1∧q.1<((p+l.length:Nat):Int))∧∀ t ∈ (lxs p f l).1,∀ q ∈ (lxs p f l).2,q.1≠t.a) ?_ ?_ l.length p f l lr
 ·intro p f l h;rw [nJ h];refine ⟨.nil,.nil,?_,?_,?_⟩ <;> (intro _ h;cases h)
 intro p f l l' h h0 ih;have hn:=mF l';have h1:=kg h0;have hlen:l'.length=l.length - sk false l:=by rw [← h,List.length_drop]
 have hne:l'.length≠0:=fun e=>h0 (List.eq_nil_of_length_eq_zero e);rw [List.length_drop] at ih;obtain ⟨i1,i2,i3,i4,i5⟩:=ih;rw [nI h h0];generalize lxs (p+sk false l+(shp l').2) (decide ((shp l').1=0)) (l'.drop (shp l').2)=R at *;split
 ·refine ⟨List.pairwise_cons.2 ⟨fun t ht=>?_,i1⟩,i2,fun t ht=>?_,fun q hq=>?_,fun t ht q hq=>?_⟩
  ·have:=i3 t ht;show ((p+sk false l:Nat):Int)<t.a;omega
  ·rcases List.mem_cons.1 ht with rfl | ht
   ·show (p:Int)≤((p+sk false l:Nat):Int)∧((p+sk false l:Nat):Int)<_;omega
   have:=i3 t ht;omega
  ·have:=i4 q hq;omega
  rcases List.mem_cons.1 ht with rfl | ht
  ·have:=i4 q hq;show q.1≠((p+sk false l:Nat):Int);omega
  exact i5 t ht q hq
 split
 ·refine ⟨i1,i2,fun t ht=>?_,fun q hq=>?_,i5⟩
  ·have:=i3 t ht;omega
  have:=i4 q hq;omega
 refine ⟨i1,List.pairwise_cons.2 ⟨fun q hq=>?_,i2⟩,fun t ht=>?_,fun q hq=>?_,fun t ht q hq=>?_⟩
 ·have:=i4 q hq;show ((p+sk false l:Nat):Int)<q.1;omega
 ·have:=i3 t ht;omega
 ·rcases List.mem_cons.1 hq with rfl | hq
  ·show (p:Int)≤((p+sk false l:Nat):Int)∧((p+sk false l:Nat):Int)<_;omega
  have:=i4 q hq;omega
 rcases List.mem_cons.1 hq with rfl | hq
 ·have:=i3 t ht;show ((p+sk false l:Nat):Int)≠t.a;omega
 exact i5 t ht q hq
theorem He {s:ByteArray} (hs:¬ 16384<s.size) {m:Mo} {b:List Pb} (h:oO s=some (m,b)):b.Pairwise (fun p q=>p.1≠q.1):=by
 unfold oO at h;rw [zR hs] at h;obtain ⟨d1,d2,d3,d4,d5⟩:=uG 0 false s.data.toList;rw [aM,Nat.zero_add] at d3 d4;have hP:((lxs 0 false s.data.toList).1++[lS s]).Pairwise (fun x y=>x.a<y.a):=by
  refine List.pairwise_append.2 ⟨d1,List.pairwise_singleton _ _,fun t ht e he=>?_⟩;rw [List.mem_singleton.1 he];exact (d3 t ht).2
 obtain ⟨c,rfl,c1,c2⟩:=uD _ _ _ _ _ _ (xG rfl _) hP h;have hB:∀ p ∈ dn s,p ∈ (lxs 0 false s.data.toList).2:=by
  intro p hp;unfold dn at hp;rw [if_neg hs] at hp;exact List.mem_of_mem_take hp
 refine List.pairwise_append.2 ⟨?_,c1.imp fun h=>by omega,fun p hp q hq=>?_⟩
 ·unfold dn;rw [if_neg hs];exact (d2.sublist (List.take_sublist _ _)).imp fun h=>by omega
 obtain ⟨t,ht,e⟩:=c2 q hq;rw [e];rcases List.mem_append.1 ht with ht | ht
 ·exact d5 t ht p (hB p hp)
 rw [List.mem_singleton.1 ht];have:=(d4 p (hB p hp)).2;show p.1≠((s.size:Nat):Int);omega
theorem EG:∀ (p q:List Pb),p.Perm q→p.Pairwise (fun x y=>x.1<y.1)→q.Pairwise (fun x y=>x.1<y.1)→p=q
 | [],q,h,_,_=>by rw [List.nil_perm.1 h]
 | x :: p,[],h,_,_=>by have:=h.length_eq;simp at this
 | x :: p,y :: q,h,h1,h2=>by
  by_cases e:x=y
  ·subst e
   rw [EG p q h.cons_inv (List.pairwise_cons.1 h1).2 (List.pairwise_cons.1 h2).2]
  ·have a1:x ∈ q:=by
    rcases List.mem_cons.1 (h.subset List.mem_cons_self) with h | h
    ·exact absurd h e
    ·exact h
   have a2:y ∈ p:=by
    rcases List.mem_cons.1 (h.symm.subset List.mem_cons_self) with h | h
    ·exact absurd h.symm e
    ·exact h
   have b1:=(List.pairwise_cons.1 h1).1 y a2
   have b2:=(List.pairwise_cons.1 h2).1 x a1
   omega
theorem Nl {p q b:List Pb} (hp:p.Perm b) (hq:q.Perm b) (h1:pb.fE p) (h2:pb.fE q) (hb:b.Pairwise fun x y=>x.1≠y.1):p=q:=by
 have k:∀ {l:List Pb},l.Perm b→pb.fE l→l.Pairwise fun x y=>x.1<y.1:=by
  intro l hl hs;have hn:l.Pairwise fun x y=>x.1≠y.1:=(hl.pairwise_iff fun h=>h.symm).2 hb;have:=hs.and hn;exact this.imp fun h=>by omega
 exact EG p q (hp.trans hq.symm) (k hp h1) (k hq h2)
end pa
namespace rr
open Go.RowKit dec pa
def semi (t:Tk):Prop:=t.k=6∨(t.k=5∧t.t=⟨#[59]⟩)
def Cs (l r:List Tk):Prop:=∃ C,l=C++r∧∀ t ∈ C,¬ semi t
theorem Cs.refl (l:List Tk):Cs l l:=⟨[],rfl,fun _ h=>by cases h⟩
theorem Cs.trans {a b c:List Tk} (h:Cs a b) (k:Cs b c):Cs a c:=by
 obtain ⟨C,rfl,h1⟩:=h;obtain ⟨D,rfl,h2⟩:=k;exact ⟨C++D,(List.append_assoc ..).symm,fun t ht=>(List.mem_append.1 ht).elim (h1 t) (h2 t)⟩
theorem Cs.tl {l:List Tk} (h:¬ semi (hd l)):Cs l l.tail:=by
 cases l with
 | nil=>exact .refl _
 | cons x r =>
   refine ⟨[x],rfl,fun t ht=>?_⟩
   rw [List.mem_singleton] at ht
   subst ht
   exact h
theorem Al {s:ByteArray} {l:List Tk} (h:isT s l=true) (hs:s≠⟨#[59]⟩):¬ semi (hd l):=by
 rintro (h6 | ⟨_,h2⟩)
 ·exact sJ h h6
 unfold isT at h;simp only [Bool.and_eq_true,decide_eq_true_eq] at h;exact hs (h.2.symm.trans h2)
def Sn {α:Type} (x:Rs α) (l:List Tk):Prop :=
 match x with
 | .out=>True
 | .ok _ r=>Cs l r
 | .no _ _ r=>Cs l r
theorem Sn.mono {α:Type} {x:Rs α} {l q:List Tk} (h:Sn x l) (hl:Cs q l):Sn x q:=by
 cases x with
 | out=>trivial
 | ok v r=>exact hl.trans h
 | no a c r=>exact hl.trans h
theorem Sn.tail {α:Type} {x:Rs α} {s:ByteArray} {l:List Tk} (h:Sn x l.tail) (ht:isT s l=true) (hs:s≠⟨#[59]⟩):Sn x l:=h.mono (Cs.tl (Al ht hs))
theorem Sn.bind {α β:Type} {x:Rs α} {g:α→List Tk→Rs β} {l:List Tk} (h:Sn x l) (hg:∀ v r,x=.ok v r→Sn (g v r) r):Sn (x.bind g) l:=by
 cases x with
 | out=>trivial
 | ok v r=>exact (hg v r rfl).mono h
 | no a c r=>exact h
theorem bW {α:Type} (v:α) (l:List Tk):Sn (.ok v l:Rs α) l:=Cs.refl l
theorem kM {α:Type} {s:ByteArray} (v:α) (l:List Tk) (ht:isT s l=true) (hs:s≠⟨#[59]⟩):Sn (.ok v l.tail:Rs α) l:=Cs.tl (Al ht hs)
theorem I7 {α:Type} (a c:Int) (l:List Tk):Sn (.no a c l:Rs α) l:=Cs.refl l
theorem oD {α:Type} (l:List Tk):Sn (wrg l:Rs α) l:=Cs.refl l
theorem Hr (r:Nat) (l:List Tk):opr r l≠⟨#[59]⟩:=by
 have hL:∀ s ∈ opL r,s≠⟨#[59]⟩:=by
  unfold opL;split
  all_goals (intro s hs;simp only [List.mem_cons,List.not_mem_nil,or_false] at hs)
  all_goals first | (subst hs;decide) | (rcases hs with rfl | rfl | rfl | rfl <;> decide) | (rcases hs with rfl | rfl <;> decide)
 unfold opr
 cases hf:(opL r).find? fun s=>isT s l with
 | none=>exact (by decide:(.empty:ByteArray)≠⟨#[59]⟩)
 | some s=>exact hL s (List.mem_of_find?_eq_some hf)
theorem dP {s:ByteArray} (hs:s≠⟨#[59]⟩) (l:List Tk):Sn (need s l) l:=by
 unfold need;split
 ·exact kM _ _ (by assumption) hs
 exact oD _
theorem mD {k:Int} (hk:k≠5) (h6:k≠6) (l:List Tk):Sn (tak k l) l:=by
 unfold tak;split
 ·rename_i h;exact Cs.tl (fun hn=>hn.elim (fun e=>h6 (h.symm.trans e)) fun e=>hk (h.symm.trans e.1))
 exact oD _
theorem kN (l:List Tk):Sn (nam l) l:=by
 unfold nam;split
 ·exact mD (by decide) (by decide) _
 exact oD _
theorem oF {s:ByteArray} (hs:s≠⟨#[59]⟩) (l:List Tk):Sn (nma s l) l:=Sn.bind (dP hs _) fun _ _ _=>kN _
theorem mE (l:List Tk):Sn (int l) l:=Sn.bind (mD (by decide) (by decide) _) fun _ _ _=>bW _ _
theorem J8 (l:List Tk):Sn (iX l) l:=Sn.bind (mD (by decide) (by decide) _) fun _ _ _=>bW _ _
theorem Nr (l:List Tk):Sn (fac l) l:=by
 refine Sn.bind (kN _) fun n r _=>?_;split
 ·split
  ·exact ((Sn.bind (mE _) fun _ _ _=>bW _ _).tail (by first | assumption | exact And.right (by assumption)) (by decide)).tail (by first | assumption | exact And.right (by assumption)) (by decide)
  exact (Sn.bind (mE _) fun _ _ _=>bW _ _).tail (by first | assumption | exact And.right (by assumption)) (by decide)
 exact bW _ _
theorem Ae {α:Type} {one:List Tk→Rs α} {s:ByteArray} (hs:s≠⟨#[59]⟩) (h1:∀ l,Sn (one l) l):∀ (f:Nat) (x:List α) (l:List Tk),Sn (more one s f x l) l
 | 0,_,_=>trivial
 | f+1,x,l=>by
  unfold more
  split
  ·exact (Sn.bind (h1 _) fun _ _ _=>Ae hs h1 f _ _).tail (by first | assumption | exact And.right (by assumption)) hs
  ·exact bW _ _
theorem Ea {α:Type} {one:List Tk→Rs α} {s:ByteArray} (hs:s≠⟨#[59]⟩) (h1:∀ l,Sn (one l) l) (l:List Tk):Sn (lst one s l) l:=Sn.bind (h1 _) fun _ _ _=>Ae hs h1 _ _ _
theorem rO (l:List Tk):Sn (uni l) l:=by
 unfold uni;split
 ·refine (Sn.bind (Ea (by decide) Nr _) fun u r _=>Sn.bind (dP (by decide) _) fun _ r' _=>?_).tail (by first | assumption | exact And.right (by assumption)) (by decide);split
  ·exact bW _ _
  exact I7 _ _ _
 exact bW _ _
theorem D9 (l:List Tk):Sn (typ l) l:=by
 unfold typ;split
 ·exact kM _ _ (by first | assumption | exact And.right (by assumption)) (by decide)
 split
 ·exact kM _ _ (by first | assumption | exact And.right (by assumption)) (by decide)
 split
 ·exact (Sn.bind (kN _) fun _ _ _=>bW _ _).tail (by first | assumption | exact And.right (by assumption)) (by decide)
 split
 ·exact (Sn.bind (rO _) fun _ _ _=>bW _ _).tail (by first | assumption | exact And.right (by assumption)) (by decide)
 split
 ·exact (Sn.bind (rO _) fun _ _ _=>bW _ _).tail (by first | assumption | exact And.right (by assumption)) (by decide)
 exact oD _
theorem Nn (l:List Tk):Sn (win l) l:=by
 unfold win;split
 ·exact kM _ _ (by first | assumption | exact And.right (by assumption)) (by decide)
 iterate 3
   split
   · exact (Sn.bind (mE _) fun _ _ _=>bW _ _).tail (by first | assumption | exact And.right (by assumption)) (by decide)
 exact oD _
theorem Np (l:List Tk):Sn (key l) l:=by
 refine Sn.bind (oF (by decide) _) fun n r _=>Sn.bind (mD (by decide) (by decide) _) fun s r' hr=>?_;split
 ·exact bW _ _
 exact I7 _ _ _
theorem PK:∀ (f:Nat) (i:Bool) (m:Md) (l:List Tk),Sn (pz f i m l) l:=by
 intro f
 induction f with
 | zero=>intro i m l;exact trivial
 | succ f ih =>
   intro i m l
   cases m with
   | ex =>
     simp only [pz]
     split
     · exact (Sn.bind (ih _ _ _) fun _ _ _=>Sn.bind (dP (by decide) _) fun _ _ _=>Sn.bind (ih _ _ _) fun _ _ _=>Sn.bind (dP (by decide) _) fun _ _ _=>Sn.bind (ih _ _ _) fun _ _ _=>bW _ _).tail (by first | assumption | exact And.right (by assumption)) (by decide)
     · exact ih _ _ _
   | op least =>
     simp only [pz]
     split
     · exact (Sn.bind (ih _ _ _) fun _ _ _=>ih _ _ _).tail (by first | assumption | exact And.right (by assumption)) (by decide)
     · exact Sn.bind (ih _ _ _) fun _ _ _=>ih _ _ _
   | tl least n y =>
     simp only [pz]
     split
     · exact bW _ _
     · split
       · exact ih _ _ _
       · rename_i ho
         exact (Sn.bind (ih _ _ _) fun _ _ _=>ih _ _ _).tail (jl ho) (Hr _ _)
   | ng =>
     simp only [pz]
     split
     · exact (Sn.bind (ih _ _ _) fun _ _ _=>bW _ _).tail (by first | assumption | exact And.right (by assumption)) (by decide)
     · exact ih _ _ _
   | pa =>
     simp only [pz]
     exact Sn.bind (dP (by decide) _) fun _ _ _=>Sn.bind (ih _ _ _) fun _ _ _=>Sn.bind (dP (by decide) _) fun _ _ _=>bW _ _
   | rf =>
     simp only [pz]
     refine Sn.bind (kN _) fun n r _=>?_
     split
     · exact (Sn.bind (ih _ _ _) fun _ _ _=>bW _ _).tail (by first | assumption | exact And.right (by assumption)) (by decide)
     · exact bW _ _
   | ag =>
     simp only [pz]
     refine Sn.bind (mD (by decide) (by decide) _) fun op r _=>Sn.bind (dP (by decide) _) fun _ r _=>Sn.bind (kN _) fun t r _=>Sn.bind (dP (by decide) _) fun _ r _=>Sn.bind ?_ fun x r _=>Sn.bind ?_ fun p r _=>Sn.bind (Nn _) fun w r _=>Sn.bind ?_ fun y r _=>Sn.bind (dP (by decide) _) fun _ _ _=>bW _ _
     · split
       · exact bW _ _
       · exact Sn.bind (ih _ _ _) fun _ _ _=>Sn.bind (dP (by decide) _) fun _ _ _=>bW _ _
     · split
       · exact Sn.bind (mE _) fun _ _ _=>Sn.bind (dP (by decide) _) fun _ _ _=>bW _ _
       · exact bW _ _
     · split
       · exact (ih _ _ _).tail (by first | assumption | exact And.right (by assumption)) (by decide)
       · exact bW _ _
   | pr =>
     simp only [pz]
     split
     · exact Sn.bind (mE _) fun _ _ _=>Sn.bind (rO _) fun _ _ _=>bW _ _
     split
     · exact Sn.bind (J8 _) fun _ _ _=>Sn.bind (rO _) fun _ _ _=>bW _ _
     split
     · exact Sn.bind (mD (by decide) (by decide) _) fun _ _ _=>bW _ _
     split
     · exact kM _ _ (by first | assumption | exact And.right (by assumption)) (by decide)
     split
     · exact kM _ _ (by first | assumption | exact And.right (by assumption)) (by decide)
     split
     · exact Np _
     split
     · exact (Sn.bind (ih _ _ _) fun _ _ _=>bW _ _).tail (by first | assumption | exact And.right (by assumption)) (by decide)
     split
     · exact ih _ _ _
     split
     · exact Sn.bind (kN _) fun _ _ _=>bW _ _
     split
     · exact ih _ _ _
     · exact ih _ _ _
theorem Ns (l:List Tk):Sn (exR l) l:=PK _ _ _ _
theorem Nq (l:List Tk):Sn (fie l) l:=Sn.bind (kN _) fun _ _ _=>Sn.bind (dP (by decide) _) fun _ _ _=>Sn.bind (D9 _) fun _ _ _=>bW _ _
theorem JY (l:List Tk):Sn (eP l) l:=by
 unfold eP;split
 ·exact kM _ _ (by first | assumption | exact And.right (by assumption)) (by decide)
 exact Sn.bind (Ea (by decide) Nq _) fun _ _ _=>Sn.bind (dP (by decide) _) fun _ _ _=>bW _ _
theorem JZ (l:List Tk):Sn (dK l) l:=by
 unfold dK;split
 ·exact (mE _).tail (by first | assumption | exact And.right (by assumption)) (by decide)
 exact bW _ _
def Sm {α:Type} (x:Rs α) (l:List Tk):Prop :=
 match x with
 | .no _ _ r=>Cs l r
 | _=>True
theorem Sn.then {α β:Type} {x:Rs α} {g:α→List Tk→Rs β} {l:List Tk} (h:Sn x l) (hg:∀ v r,x=.ok v r→Sm (g v r) r):Sm (x.bind g) l:=by
 cases x with
 | out=>trivial
 | ok v r =>
   have h2:=hg v r rfl
   show Sm (g v r) l
   cases hx:g v r with
   | out=>trivial
   | ok _ _=>trivial
   | no a c q =>
     rw [hx] at h2
     exact Cs.trans h h2
 | no a c r=>exact h
theorem Eb {α:Type} (v:α) (l:List Tk):Sm ((need ⟨#[59]⟩ l).bind fun _ r=>.ok v r) l:=by
 unfold need;split
 ·trivial
 exact Cs.refl l
theorem J9 (l:List Tk):Sm (ji l) l:=Sn.then (oF (by decide) _) fun _ _ _=>Sn.then (oF (by decide) _) fun _ _ _=>Sn.then (dP (by decide) _) fun _ _ _=>Sn.then (JY _) fun _ _ _=>Sn.then (JZ _) fun _ _ _=>Eb _ _
theorem Kc (l:List Tk):Sm (gu l) l:=Sn.then (oF (by decide) _) fun _ _ _=>Sn.then (oF (by decide) _) fun _ _ _=>Sn.then (dP (by decide) _) fun _ _ _=>Sn.then (D9 _) fun _ _ _=>Sn.then (dP (by decide) _) fun _ _ _=>Sn.then (Ns _) fun _ _ _=>Eb _ _
theorem I8 {α β:Type} {x:Rs α} {g:α→β} {l:List Tk} (h:Sm x l):Sm (x.bind fun v r=>.ok (g v) r) l:=by
 cases x with
 | out=>trivial
 | ok v r=>trivial
 | no a c r=>exact h
theorem Ka (m:Mo) (l:List Tk):Sm (bU m l) l:=by
 unfold bU;split
 ·exact I8 (J9 l)
 split
 ·exact I8 (Kc l)
 exact Cs.refl l
def bhR (a:Int):List Tk→List Tk
 | []=>[]
 | x :: l=>if x.k=6 then x :: l else if x.a<a∨x.k≠5∨x.t≠⟨#[59]⟩ then bhR a l else l
theorem qU (a:Int) (x:Tk) (l:List Tk):bhR a (x :: l)=if x.k=6 then x :: l else if x.a<a∨x.k≠5∨x.t≠⟨#[59]⟩ then bhR a l else l:=rfl
theorem Bz (a:Int):∀ (C r:List Tk),(∀ t ∈ C,¬ semi t)→bhR a (C++r)=bhR a r
 | [],_,_=>rfl
 | x :: C,r,h=>by
  have h1:=h x (List.mem_cons_self ..)
  unfold semi at h1
  rw [List.cons_append,qU,if_neg (fun e=>h1 (.inl e)),if_pos (.inr (by
   by_cases hk:x.k=5
   ·exact .inr fun ht=>h1 (.inr ⟨hk,ht⟩)
   ·exact .inl hk))]
  exact Bz a C r fun t ht=>h t (List.mem_cons_of_mem _ ht)
theorem Km:pr ⟨5,⟨#[59]⟩,0⟩=true:=by rw [aR];exact ⟨by decide,by decide⟩
theorem BA (a:Int):∀ (r:List Tk),Prl r→(∀ t ∈ r,a≤t.a)→bhR a r=lvR r
 | [],_,_=>rfl
 | x :: r,hp,h=>by
  have h1:=h x (List.mem_cons_self ..)
  rw [qU]
  unfold lvR
  by_cases h6:x.k=6
  ·rw [if_pos h6,if_pos h6]
  ·rw [if_neg h6,if_neg h6]
   by_cases hs:isT ⟨#[59]⟩ (x :: r)=true
   ·rw [if_pos hs]
    unfold isT at hs
    simp only [Bool.and_eq_true,Bool.or_eq_true,decide_eq_true_eq] at hs
    have hx:pr x=true:=by
     rcases hp x (List.mem_cons_self ..) with h | h
     ·exact absurd h.1 h6
     ·exact h
    have h5:x.k=5:=AY Km (by decide) hx (by have:=hs.1;show x.k≠4;have h9:x.k=1∨x.k=5:=this;omega) hs.2
    rw [if_neg]
    rintro (h | h | h)
    ·omega
    ·exact h h5
    ·exact h hs.2
   ·rw [if_neg hs,if_pos]
    ·exact BA a r (fun y hy=>hp y (List.mem_cons_of_mem _ hy)) fun t ht=>h t (List.mem_cons_of_mem _ ht)
    ·right
     by_cases h5:x.k=5
     ·right
      intro ht
      apply hs
      unfold isT
      simp only [Bool.and_eq_true,Bool.or_eq_true,decide_eq_true_eq]
      exact ⟨.inr h5,ht⟩
     ·exact .inl h5
theorem Jp {m:Mo} {l r:List Tk} {a c:Int} (hp:Prl l) (hw:l.Pairwise fun x y=>x.a<y.a) (h:bU m l=.no a c r):bhR a l=lvR r:=by
 obtain ⟨C,rfl,hat⟩:=Fx h;have hm:=Ka m (C++r);rw [h] at hm;obtain ⟨D,hD,hs⟩:=hm;have:=List.append_cancel_right hD;subst this;rw [Bz a C r hs];refine BA a r (fun y hy=>hp y (List.mem_append.2 (.inr hy))) fun t ht=>?_;obtain ⟨h1,h2,h3⟩:=List.pairwise_append.1 hw;rcases hat with rfl | ⟨y,hy,rfl⟩
 ·cases r with
  | nil=>cases ht
  | cons x q =>
    rcases List.mem_cons.1 ht with rfl | ht
    · exact Int.le_refl _
    · exact Int.le_of_lt ((List.pairwise_cons.1 h2).1 t ht)
 exact Int.le_of_lt (h3 y hy t ht)
theorem xC {w:World} {ad:Option Addr} {n cap:Nat} {l:List Tk} (h:tk.Sl w ad n cap l) (T:Tl l):∃ (b off:Nat),ad=some ⟨b,off,none⟩∧1≤n∧n≤cap∧n=l.length∧w.cell? ⟨b,off,none⟩=some (.int .i64 (hd l).k)∧w.cell? ⟨b,off+1,none⟩=some (.string (hd l).t)∧w.cell? ⟨b,off+2,none⟩=some (.int .i64 (hd l).a)∧tk.Cl w b off l:=by
 have hne:=T.ne;have h1:=h.hn;have hpos:0<l.length:=by cases l;exact absurd rfl hne;simp
 obtain ⟨b,off,rfl,hC⟩:=h.hat.resolve_left (by omega);have h0:=hC 0 hpos;have e:tk.gt l 0=hd l:=by cases l;exact absurd rfl hne;rfl
 rw [e] at h0;exact ⟨b,off,rfl,by omega,h.hcap,h1.symm,by simpa using h0.1,by simpa using h0.2.1,by simpa using h0.2.2,hC⟩
theorem Nt {w:World} {b off n cap:Nat} {l:List Tk} (h:tk.Sl w (some ⟨b,off,none⟩) n cap l) (T:Tl l) (ht:Tl l.tail):2≤n∧tk.Sl w (some ⟨b,off+3,none⟩) (n - 1) (cap - 1) l.tail:=by
 obtain ⟨b2,off2,e,h1,h2,h3,_,_,_,hC⟩:=xC h T;cases e;have hne:=ht.ne;have hn:2≤n:=by
  cases l with
  | nil=>exact absurd rfl hne
  | cons x r =>
    cases r with
    | nil=>exact absurd rfl hne
    | cons y q=>rw [h3];simp
 refine ⟨hn,.inr ⟨b,off+3,rfl,?_⟩,by rw [List.length_tail];omega,by omega,by have:=h.hmax;omega,fun e=>by cases e⟩;have:=hC.cut 1 (l.length - 1);have e:(l.drop 1).take (l.length - 1)=l.tail:=by
  rw [List.drop_one,List.take_of_length_le (by rw [List.length_tail];exact Nat.le_refl _)]
 rw [e] at this;exact this
theorem OY (a:Int) {l:List Tk} (h:l≠[]):bhR a l=if (hd l).k=6 then l else if (hd l).a<a∨(hd l).k≠5∨(hd l).t≠⟨#[59]⟩ then bhR a l.tail else l.tail:=by
 cases l with
 | nil=>exact absurd rfl h
 | cons x r=>exact qU a x r
theorem tF (ad:Option Addr) (n cap:Nat) (l:List Tk) (a:Int) (w:World) (S:tk.Sl w ad n cap l) (T:Tl l) :
    Calls Tryz.prog 37 #[.slice ad n cap,.int .i64 a] w fun e w' => ∃ (ad':Option Addr) (n' cap':Nat),e=.returned (.slice ad' n' cap')∧w'=w∧tk.Sl w ad' n' cap' (bhR a l)∧Tl (bhR a l)∧∀ b off,ad'=some ⟨b,off,none⟩→∃ o,ad=some ⟨b,o,none⟩:=by
 have S0:=Hy S;have T0:=Hy T;clear S T
 go_enter Tryz.func37,Tryz.ntmps37
 go_wp2_with fail
 go_loopg [0] (l.length+1) (fun k v wr => ∃ (ad':Option Addr) (n' cap':Nat) (l':List Tk),v=.slice ad' n' cap'∧wr=w∧Hid (tk.Sl w ad' n' cap' l')∧Hid (Tl l')∧Hid (bhR a l'=bhR a l)∧Hid (l'.length<k)∧Hid (∀ b off,ad'=some ⟨b,off,none⟩→∃ o,ad=some ⟨b,o,none⟩))
 case atStart=>exact ⟨ad,n,cap,l,rfl,rfl,S0,T0,Hy rfl,Hy ls,Hy fun b off e=>⟨off,e⟩⟩
 case round =>
  clear S0 T0;obtain ⟨ad',n',cap',l',rfl,rfl,S,T,HB,hk,HE0⟩:=hrel;rcases gk with _ | gk
  ·exact absurd hk.o (Nat.not_lt_zero _)
  obtain ⟨b,off,rfl,h1,h2,h3,k0,k1,k2,_⟩:=xC S.o T.o;have HE1:=Hy (show ∀ b2 off2,some (⟨b,off+3,none⟩:Addr)=some ⟨b2,off2,none⟩→∃ o,ad=some ⟨b2,o,none⟩ from fun b2 off2 e=>by
    cases e
    exact HE0.o b off rfl)
  have i1:(0:Int)<(n':Int):=by omega
  have i2:0<n':=by omega
  have HE:=Hy (OY a T.o.ne);have HS:=Hy (fun (h6:(hd l').k≠6)=>Nt S.o T.o (T.o.tail h6));have HT:=Hy (fun (h6:(hd l').k≠6)=>T.o.tail h6);have hl:=Hy (show l'.tail.length<l'.length from by have:=T.o.ne;cases l';exact absurd rfl this;exact Nat.lt_succ_self _);obtain ⟨⟨xk,xt,xa⟩,hx⟩:∃ x,hd l'=x:=⟨_,rfl⟩;rw [hx] at k0 k1 k2 HE HS HT;simp only at k0 k1 k2 HE HS HT;clear hx h1 h3;have sl:=fun (h:2≤n') W=>pU b off n' cap' h h2 W;by_cases h6:xk=6
  ·subst h6;have HR:=Hy (show bhR a l=l' from by rw [← HB.o,HE.o,if_pos rfl]);clear HB HE HS HT sl;go_wp2_with fail;go_ret;rw [HR.o];exact ⟨_,_,_,rfl,rfl,S.o,T.o,HE0.o⟩
  have q6:(xk != 6)=true:=bne_iff_ne.2 h6;obtain ⟨hn2,S2⟩:=HS.o h6;have T2:=Hy (HT.o h6);replace sl:=sl hn2;replace S2:=Hy S2;have HE2:=Hy (show bhR a l'=if xa<a∨xk≠5∨xt≠⟨#[59]⟩ then bhR a l'.tail else l'.tail from by rw [HE.o,if_neg h6]);clear HE HS HT h6 hn2;have go:∀ (h:xa<a∨xk≠5∨xt≠⟨#[59]⟩),Hid (bhR a l'.tail=bhR a l):=fun h=>Hy (by rw [← HB.o,HE2.o,if_pos h]);by_cases ha:xa<a
  ·have q1:decide (xa<a)=true:=dT ha;have HB2:=go (.inl ha);clear go ha HB HE2;go_wp2_with fail;go_roundg gk
   case measure=>omega
   case rel=>exact ⟨_,_,_,l'.tail,rfl,rfl,S2,T2,HB2,Hy (by have:=hk.o;have:=hl.o;omega),HE1⟩
  have q1:decide (xa<a)=false:=dF ha;by_cases h5:xk=5;rotate_left
  ·have q2:(xk != 5)=true:=bne_iff_ne.2 h5;have HB2:=go (.inr (.inl h5));clear go ha h5 HB HE2;go_wp2_with fail;go_roundg gk
   case measure=>omega
   case rel=>exact ⟨_,_,_,l'.tail,rfl,rfl,S2,T2,HB2,Hy (by have:=hk.o;have:=hl.o;omega),HE1⟩
  subst h5;by_cases ht:xt=⟨#[59]⟩;rotate_left
  ·have q3:(!xt.toList==[59])=true:=by rw [jK xt ⟨#[59]⟩ [59] rfl,dF ht];rfl
   have HB2:=go (.inr (.inr ht));clear go ha ht HB HE2;go_wp2_with fail;go_roundg gk
   case measure=>omega
   case rel=>exact ⟨_,_,_,l'.tail,rfl,rfl,S2,T2,HB2,Hy (by have:=hk.o;have:=hl.o;omega),HE1⟩
  have q3:(!xt.toList==[59])=false:=by rw [jK xt ⟨#[59]⟩ [59] rfl,dT ht];rfl
  have HR:=Hy (show bhR a l=l'.tail from by rw [← HB.o,HE2.o,if_neg];rintro (h | h | h);exact ha h;exact h rfl;exact h ht);clear go ha ht HB HE2;go_wp2_with fail;go_ret;rw [HR.o];exact ⟨_,_,_,rfl,rfl,S2.o,T2.o,HE1.o⟩
theorem oG (a:Option Addr) (n c k:Nat) (h:k≤n) (hc:n≤c) (W:World):(Instr.slice 28 (.slice a n c) none (some (.int .i64 (k:Int))) none).run Tryz.prog W=.ok (.slice a k c) W:=by
 have hel:Tryz.prog.elem 28=72:=by kernel_rfl
 have h1:=run_slice_h (P:=Tryz.prog) (w:=W) 28 a n c (by rw [hel];exact Tryz.underlying28) .i64 (k:Int) (by omega) (by omega);rw [h1,hel,Tryz.sizeOf72];simp [Result.andThen,sliced];intro _
 cases a with
 | none=>rfl
 | some x=>simp only [Option.map_some,Option.some.injEq];unfold Addr.add;split <;> simp_all
theorem y9 (b off n c k:Nat) (h:k≤n) (hc:n≤c) (W:World):(Instr.slice 28 (.slice (some ⟨b,off,none⟩) n c) (some (.int .i64 (k:Int))) none none).run Tryz.prog W=.ok (.slice (some ⟨b,if k<c then off+k * 2 else off,none⟩) (n - k) (c - k)) W:=by
 have hel:Tryz.prog.elem 28=72:=by kernel_rfl
 have h1:=run_slice_l (P:=Tryz.prog) W 28 (some ⟨b,off,none⟩) n c (by rw [hel];exact Tryz.underlying28) .i64 (k:Int) (by omega) (by omega);rw [h1,hel,Tryz.sizeOf72];simp only [Result.andThen];unfold sliced;simp only [Int.toNat_natCast];by_cases e:c=k
 ·rw [if_pos e,if_neg (by omega)]
 rw [if_neg e,if_pos (by omega)];simp only [Option.map_some];unfold Addr.add;split <;> simp_all
theorem xB {w:World} {a:Option Addr} {n c k:Nat} {l:List Pb} (h:pb.Sl w a n c l) (hk:k≤n):pb.Sl w a k c (l.take k):=by
 have h1:=h.hn;have h2:=h.hcap;refine ⟨?_,by rw [List.length_take];omega,by omega,h.hmax,h.hno⟩;rcases h.hat with h0 | ⟨b,off,e,hC⟩
 ·exact .inl (by rw [List.length_take];omega)
 exact .inr ⟨b,off,e,hC.take k⟩
theorem Gz {w:World} {b off n c k:Nat} {l:List Pb} (h:pb.Sl w (some ⟨b,off,none⟩) n c l) (hk:k≤n):pb.Sl w (some ⟨b,if k<c then off+k * 2 else off,none⟩) (n - k) (c - k) (l.drop k):=by
 have h1:=h.hn;have h2:=h.hcap;have h3:=h.hmax;refine ⟨?_,by rw [List.length_drop];omega,by omega,by omega,fun e=>by cases e⟩;by_cases e:k<n
 ·rw [if_pos (by omega)];obtain ⟨b2,off2,e2,hC⟩:=h.hat.resolve_left (by omega);cases e2;refine .inr ⟨b,off+k * 2,rfl,?_⟩;have:=hC.cut k (l.length - k);rw [List.take_of_length_le (by rw [List.length_drop];exact Nat.le_refl _)] at this;exact this
 exact .inl (by rw [List.length_drop];omega)
theorem qo {a:Option Addr} {n c k:Nat} {l:List Pb} {w:World} (h:pb.Sl w a n c l) (hk:k≤n):∃ a':Option Addr,(∀ W,(Instr.slice 28 (.slice a n c) (some (.int .i64 (k:Int))) none none).run Tryz.prog W=.ok (.slice a' (n - k) (c - k)) W)∧∀ W,pb.Sl W a n c l→pb.Sl W a' (n - k) (c - k) (l.drop k):=by
 cases a with
 | some y =>
   rcases h.hat with h0 | ⟨b,off,e,_⟩
   · obtain ⟨yb,yo,ye⟩:=y
     refine ⟨if c=k then some ⟨yb,yo,ye⟩ else some ((⟨yb,yo,ye⟩:Addr).add (k * 2)),fun W=>?_,fun W S=>⟨.inl (by rw [List.length_drop];omega),by rw [List.length_drop];have:=S.hn;omega,by have:=S.hcap;omega,by have:=S.hmax;omega,fun e=>by split at e <;> cases e⟩⟩
     have hel:Tryz.prog.elem 28=72:=by kernel_rfl
     have h1:=run_slice_l (P:=Tryz.prog) W 28 (some ⟨yb,yo,ye⟩) n c (by rw [hel];exact Tryz.underlying28) .i64 (k:Int) (by omega) (by omega)
     rw [h1,hel,Tryz.sizeOf72]
     simp only [Result.andThen]
     unfold sliced
     simp only [Int.toNat_natCast,Option.map_some]
   · cases e
     exact ⟨_,fun W=>y9 b off n c k hk h.hcap W,fun W S=>Gz S hk⟩
 | none =>
   have hc:=h.hno rfl
   have h2:=h.hcap
   have hn:n=0:=by omega
   subst hn
   subst hc
   have hk0:k=0:=by omega
   subst hk0
   refine ⟨none,fun W=>?_,fun W S=>by simpa using S⟩
   have hel:Tryz.prog.elem 28=72:=by kernel_rfl
   have h1:=run_slice_l (P:=Tryz.prog) W 28 none 0 0 (by rw [hel];exact Tryz.underlying28) .i64 ((0:Nat):Int) (by omega) (by omega)
   rw [h1,hel,Tryz.sizeOf72]
   rfl
theorem nW (w:World) (n:Nat):Below w.heap.size w (w.drewN n):=⟨rfl,rfl,rfl,Nat.le_refl _,fun _ _=>rfl⟩
theorem vF (w:World) (B:Nat) (hB:B≤w.heap.size):pb.Own (w.alloc (.cells #[] 72)) B (.slice (some ⟨w.heap.size,0,none⟩) 0 0) []:=World.ownsRow_lit w #[] 0 hB (by unfold maxLen;omega) rfl
def Put (x:Pb) (l:List Pb) (j:Nat):Prop:=j≤l.length∧(∀ i (h:i<l.length),i<j→l[i].1≤x.1)∧(∀ (h:j<l.length),x.1<l[j].1)
theorem wO (a0:Option Addr) (n0 c0:Nat) (l:List Pb) (x:Pb) (w:World) (S:pb.Sl w a0 n0 c0 l) (hl:l.length≤1048640) :
    Calls Tryz.prog 36 #[.slice a0 n0 c0,.agg #[.int .i64 x.1,.int .i64 x.2]] w fun e w' => ∃ v j,e=.returned v∧Put x l j∧pb.Own w' w.heap.size v (l.take j++[x]++l.drop j)∧Below w.heap.size w w':=by
 have bb:=aj (b0 w) (.cells #[.int .i64 x.1,.int .i64 x.2] 72);have S0:=Hy (S.keeps bb);have X0:=Hy (pb.Bw.new w x 72);have L3:=Hy (Blk.new w 72 #[.int .i64 x.1,.int .i64 x.2]);have B0:=Hy bb;have HL:=Hy hl;have hn:=S.hn;subst hn;have hsz:=Hy (by simp:(w.alloc (.cells #[.int .i64 x.1,.int .i64 x.2] 72)).heap.size=w.heap.size+1);clear S bb hl
 go_enter Tryz.func36,Tryz.ntmps36
 go_wp2_with fail;generalize w.alloc (.cells #[.int .i64 x.1,.int .i64 x.2] 72)=w1 at *
 go_loopw [5] (fun vi wr => ∃ j:Nat,vi=.int .i64 (j:Nat)∧Hid (j≤l.length)∧Hid (∀ i (h:i<l.length),i<j→l[i].1≤x.1)∧Hid (Below w1.heap.size w1 wr)∧Hid (wr.heap.size=w1.heap.size)) (fun vi _=>l.length - (intOf vi).toNat)
 case atStart=>exact ⟨0,rfl,Hy zl,Hy (fun _ _ h=>absurd h (Nat.not_lt_zero _)),Hy (b0 _),Hy rfl⟩
 case round =>
  obtain ⟨j,rfl,hj,hle,hb,hz1⟩:=hrel;replace S0:=Hy (S0.o.keeps hb.o);replace X0:=Hy (X0.o.keeps hb.o);replace L3:=Hy (L3.o.below hb.o L3.o.lt);replace B0:=Hy (aD B0.o hb.o);by_cases hc:j<l.length
  ·have q1:decide ((j:Int)<(l.length:Int))=true:=dT (by omega);have q1':decide (j<l.length)=true:=dT hc;have i1:(j:Int)<(l.length:Int):=by omega
   obtain ⟨b,off,rfl,hC⟩:=S0.o.hat.resolve_left (by omega);have k0:=(hC j hc).1;have kx:=X0.o.c0;have f4:=Hy (aV (j:=j) (by have:=HL.o;omega));rw [pb.eF hc] at k0;have hle1:=Hy (show l[j].1≤x.1→∀ i (h:i<l.length),i<j+1→l[i].1≤x.1 from fun h i hi hij=>by
     by_cases e:i=j
     · subst e;exact h
     · exact hle.o i hi (by omega))
   obtain ⟨z,hz⟩:∃ z,l[j].1=z:=⟨_,rfl⟩;have HZ:=Hy hz;rw [hz] at k0 hle1;clear hC hz;by_cases hp:z≤x.1
   ·have q2:decide (z≤x.1)=true:=dT hp;have hle2:=Hy (hle1.o hp);clear hle hle1 hp;go_wp2_with fail;go_quiet (fail);go_wp2_with fail;exact ⟨⟨j+1,congrArg (Value.int .i64) f4.o,Hy hc,hle2,Hy (aD hb.o (nW _ _)),Hy (hz1.o)⟩,aU hc f4.o⟩
   have q2:decide (z≤x.1)=false:=dF hp;have PUT:=Hy (show Put x l j from ⟨Nat.le_of_lt hc,hle.o,fun _=>by rw [HZ.o];omega⟩);clear hle hle1 hp HZ;go_wp2_with fail;go_quiet (fail);replace S0:=Hy (S0.o.keeps (nW _ nq));replace L3:=Hy (L3.o.below (nW _ nq) L3.o.lt);replace B0:=Hy (aD B0.o (nW _ nq));have hw:=Hy (show w.heap.size+1≤(wr.drewN nq).heap.size from by show w.heap.size+1≤wr.heap.size;have:=hz1.o;have:=hsz.o;omega);have HJ:=Hy (show j≤l.length from PUT.o.1);obtain ⟨ad,sd,SD⟩:=qo (k:=j) S0.o HJ.o;have st:=fun W=>oG (some ⟨b,off,none⟩) l.length c0 j HJ.o S0.o.hcap W;replace SD:=Hy SD;clear hb hz1 hj X0 k0 kx f4 q1 q1' i1 q2 hc;generalize wr.drewN nq=wq at *;go_wp2_with (first | (at_builtin;refine pb.dD (.tmp 23) (.tmp 26) rfl ?_;refine pb.iC _ rfl (.tmp 23) (.tmp 26) rfl wq.heap.size _ [] rfl (vF wq _ lr) _ j _ (l.take j) rfl ((xB S0.o HJ.o).keeps (aj (b0 wq) _)) (by have:=HL.o;have:=HJ.o;simp;omega) (by simp) ?_;intro v2 w2 O2 b2 g2;have BB:=Hy ((aj (b0 wq) (.cells #[] 72)).trans b2);have L32:=Hy (L3.o.below BB.o L3.o.lt);replace O2:=Hy O2;clear b2 g2) | (refine aH sO Tryz.underlying72 rfl (.tmp 3) rfl rfl _ _ _ rfl L32.o rfl ?_) | (at_builtin;refine pb.dD (.tmp 28) (.tmp 30) rfl ?_;refine pb.bL _ rfl (.tmp 28) (.tmp 30) rfl wq.heap.size _ _ rfl (O2.o.keeps (aj (b0 w2) _)) w2.heap.size x rfl (pb.Bw.new w2 x _) (by have:=HL.o;have:=HJ.o;simp;omega) (by have:=BB.o.size;simp;omega) ?_;intro v3 w3 O3 b3 g3;have BB3:=Hy ((aD BB.o (aj (b0 w2) (.cells #[.int .i64 x.1,.int .i64 x.2] 72))).trans b3);replace O3:=Hy O3;clear b3 g3) | (at_builtin;refine pb.dD (.tmp 32) (.tmp 35) rfl ?_;refine pb.iC _ rfl (.tmp 32) (.tmp 35) rfl wq.heap.size _ _ rfl O3.o ad _ _ (l.drop j) rfl (SD.o _ (S0.o.keeps BB3.o)) (by have:=HL.o;have:=HJ.o;simp;omega) BB3.o.size ?_;intro v4 w4 O4 b4 g4));go_ret;exact ⟨v4,j,rfl,PUT.o,O4.less (by have:=hw.o;omega),B0.o.trans ((BB3.o.trans b4).mono (by have:=hw.o;omega))⟩
  have q1:decide ((j:Int)<(l.length:Int))=false:=dF (by omega);have q1':decide (j<l.length)=false:=dF hc;have PUT:=Hy (show Put x l j from ⟨hj.o,hle.o,fun h=>absurd h hc⟩);clear hle;go_wp2_with fail;go_quiet (fail);replace S0:=Hy (S0.o.keeps (nW _ nq));replace L3:=Hy (L3.o.below (nW _ nq) L3.o.lt);replace B0:=Hy (aD B0.o (nW _ nq));have hw:=Hy (show w.heap.size+1≤(wr.drewN nq).heap.size from by show w.heap.size+1≤wr.heap.size;have:=hz1.o;have:=hsz.o;omega);have HJ:=Hy (show j≤l.length from PUT.o.1);obtain ⟨ad,sd,SD⟩:=qo (k:=j) S0.o HJ.o;have st:=fun W=>oG a0 l.length c0 j HJ.o S0.o.hcap W;replace SD:=Hy SD;clear hb hz1 hj X0 q1 q1' hc;generalize wr.drewN nq=wq at *;go_wp2_with (first | (at_builtin;refine pb.dD (.tmp 23) (.tmp 26) rfl ?_;refine pb.iC _ rfl (.tmp 23) (.tmp 26) rfl wq.heap.size _ [] rfl (vF wq _ lr) _ j _ (l.take j) rfl ((xB S0.o HJ.o).keeps (aj (b0 wq) _)) (by have:=HL.o;have:=HJ.o;simp;omega) (by simp) ?_;intro v2 w2 O2 b2 g2;have BB:=Hy ((aj (b0 wq) (.cells #[] 72)).trans b2);have L32:=Hy (L3.o.below BB.o L3.o.lt);replace O2:=Hy O2;clear b2 g2) | (refine aH sO Tryz.underlying72 rfl (.tmp 3) rfl rfl _ _ _ rfl L32.o rfl ?_) | (at_builtin;refine pb.dD (.tmp 28) (.tmp 30) rfl ?_;refine pb.bL _ rfl (.tmp 28) (.tmp 30) rfl wq.heap.size _ _ rfl (O2.o.keeps (aj (b0 w2) _)) w2.heap.size x rfl (pb.Bw.new w2 x _) (by have:=HL.o;have:=HJ.o;simp;omega) (by have:=BB.o.size;simp;omega) ?_;intro v3 w3 O3 b3 g3;have BB3:=Hy ((aD BB.o (aj (b0 w2) (.cells #[.int .i64 x.1,.int .i64 x.2] 72))).trans b3);replace O3:=Hy O3;clear b3 g3) | (at_builtin;refine pb.dD (.tmp 32) (.tmp 35) rfl ?_;refine pb.iC _ rfl (.tmp 32) (.tmp 35) rfl wq.heap.size _ _ rfl O3.o ad _ _ (l.drop j) rfl (SD.o _ (S0.o.keeps BB3.o)) (by have:=HL.o;have:=HJ.o;simp;omega) BB3.o.size ?_;intro v4 w4 O4 b4 g4));go_ret;exact ⟨v4,j,rfl,PUT.o,O4.less (by have:=hw.o;omega),B0.o.trans ((BB3.o.trans b4).mono (by have:=hw.o;omega))⟩
theorem xV {x:Pb} {l:List Pb} {j:Nat} : (l.take j++[x]++l.drop j).Perm (l++[x]):=by
 have h1:(l.take j++[x]++l.drop j).Perm (l.take j++(l.drop j++[x])):=by
  rw [List.append_assoc];exact List.Perm.append_left _ List.perm_append_comm
 rw [← List.append_assoc,List.take_append_drop] at h1;exact h1
theorem Am {x:Pb} {l:List Pb} {j:Nat} (h:Put x l j) (hs:pb.fE l):pb.fE (l.take j++[x]++l.drop j):=by
 obtain ⟨h1,h2,h3⟩:=h;unfold pb.fE at *;have hd:∀ y ∈ l.drop j,x.1≤y.1:=by
  intro y hy;by_cases hj:j<l.length
  ·have hlt:=h3 hj;rw [List.drop_eq_getElem_cons hj] at hy;rcases List.mem_cons.1 hy with rfl | hy
   ·omega
   have hp:=(List.pairwise_cons.1 (List.drop_eq_getElem_cons hj ▸ hs.drop (i:=j):(l[j] :: l.drop (j+1)).Pairwise _)).1 y hy;omega
  rw [List.drop_eq_nil_of_le (by omega)] at hy;cases hy
 have ht:∀ y ∈ l.take j,y.1≤x.1:=by
  intro y hy;obtain ⟨i,hi,rfl⟩:=List.getElem_of_mem hy;rw [List.length_take] at hi;rw [List.getElem_take];exact h2 i (by omega) (by omega)
 rw [List.append_assoc,List.pairwise_append];refine ⟨hs.take,?_,fun a ha b hb=>?_⟩
 ·rw [List.singleton_append,List.pairwise_cons];exact ⟨hd,hs.drop⟩
 rcases List.mem_append.1 hb with hb | hb
 ·rw [List.mem_singleton] at hb;subst hb;exact ht a ha
 exact Int.le_trans (ht a ha) (hd b hb)
theorem Ji {m:Mo} {l:List Tk} : bU m l=if isT ⟨#[116,97,98,108,101]⟩ l=true then (ni l.tail).bind fun t r=>.ok { m with ts:=m.ts++[t] } r else (gu l).bind fun f r=>.ok { m with fs:=m.fs++[f] } r:=by
 have hT:isT ⟨#[116,97,98,108,101]⟩ l=true→(hd l).t=⟨#[116,97,98,108,101]⟩:=fun h=>by
  unfold isT at h;simp only [Bool.and_eq_true,decide_eq_true_eq] at h;exact h.2
 have hF:(hd l).t≠⟨#[102,101,97,116,117,114,101]⟩→gu l=wrg l:=fun h=>by
  have:isT ⟨#[102,101,97,116,117,114,101]⟩ l=false:=by
   unfold isT;rw [dF h,Bool.and_false]
  unfold gu nma;rw [iy,uq,this];rfl
 unfold bU;by_cases h:isT ⟨#[116,97,98,108,101]⟩ l=true
 ·rw [if_pos (hT h),if_pos h,DN,if_pos h]
 rw [if_neg h];by_cases ht:(hd l).t=⟨#[116,97,98,108,101]⟩
 ·rw [if_pos ht,DN,if_neg h,hF (by rw [ht];decide)];rfl
 rw [if_neg ht];by_cases hf:(hd l).t=⟨#[102,101,97,116,117,114,101]⟩
 ·rw [if_pos hf]
 rw [if_neg hf,hF hf];rfl
end rr
end Go.Proofs.YtbpijgddfaefkaaGreatDoor
