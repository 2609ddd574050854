/-
  Every expression of proper form is read back from its pieces: nodes, rows, the whole; What is printed is read back: whole texts of expressions and types; What is parsed is short throughout; What the parser has built, as what the printer and the checker read; parser.Expr and parser.Type over what has been printed; What is printed is read back: the walk.
-/
import Derived.Test.YtbahfelnbofjjaaGreatDoorV31
set_option maxRecDepth 100000
set_option maxHeartbeats 16000000
namespace Go.Proofs.YtbahfelnbofjjaaGreatDoor
namespace ch
open Go.RowKit dec
theorem len_nil {F:Fo} (h:F.len=0):F=.nil:=by
 cases F with
 | nil=>rfl
 | cons a b c=>simp [Fo.len] at h
theorem vL {F:Fo} (h:F.len=1):F=.cons (F.nth 0).h (F.nth 0).ar .nil:=by
 cases F with
 | nil=>simp [Fo.len] at h
 | cons a b c=>rw [len_nil (F:=c) (by simpa [Fo.len] using h)];rfl
theorem qw {F:Fo} (h:F.len=2):F=.cons (F.nth 0).h (F.nth 0).ar (.cons (F.nth 1).h (F.nth 1).ar .nil):=by
 cases F with
 | nil=>simp [Fo.len] at h
 | cons a b c =>
   have:=vL (F:=c) (by simpa [Fo.len] using h)
   show Fo.cons a b c=.cons a b (.cons (c.nth 0).h (c.nth 0).ar .nil)
   rw [← this]
theorem Iz {F:Fo} (h:F.len=3):F=.cons (F.nth 0).h (F.nth 0).ar (.cons (F.nth 1).h (F.nth 1).ar (.cons (F.nth 2).h (F.nth 2).ar .nil)):=by
 cases F with
 | nil=>simp [Fo.len] at h
 | cons a b c =>
   have:=qw (F:=c) (by simpa [Fo.len] using h)
   show Fo.cons a b c=.cons a b (.cons (c.nth 0).h (c.nth 0).ar (.cons (c.nth 1).h (c.nth 1).ar .nil))
   rw [← this]
def Prss (i:Bool) (K:List Ok') (F:Fo):Prop:=∀ j,j<F.len→Prs i (okK K j) (F.nth j)∧(ok' K j).2=(F.nth j).h
theorem Prss.p {i:Bool} {K:List Ok'} {F:Fo} (h:Prss i K F) {j:Nat} (hj:j<F.len) (q:Int):okP K j q=eF (rk (F.nth j).h) q (okK K j):=by
 unfold okP;rw [(h j hj).2];rfl
theorem Ae (i:Bool) {k:Int} (h:k≠5):(i || decide (k=5))=i:=by rw [dF h,Bool.or_false]
variable {i:Bool} {g:Hd} {K:List Ok'} {F:Fo}
theorem He {m:ByteArray} (hm:name m=true) {x:Ex} (hr:rk x.h=9) (ht:bU x.h=false) (h:∀ r,Stp r→Lo i .pr (⟨1,m,0⟩ :: r) x r):Prs i [wd m] x :=
 jB hr (fun r=>jF hm Di 0 r) (fun r=>jF hm zO 0 r) (fun r=>jF hm zP 0 r) h fun e=>by rw [ht] at e;cases e
theorem MO {m:ByteArray} (hm:name m=true) {K:List Pc} {x:Ex} (P:Prs false K x):Prs false (wd m :: bw ⟨#[111,102]⟩ :: bs ⟨#[40]⟩ :: (K++[sg ⟨#[41]⟩])) (rO m x):=by
 refine jB rfl (fun r=>jF hm Di 0 _) (fun r=>jF hm zO 0 _) (fun r=>jF hm zP 0 _) (fun r hs=>?_) (fun e=>by cases e);have e0:tkl (wd m :: bw ⟨#[111,102]⟩ :: bs ⟨#[40]⟩ :: (K++[sg ⟨#[41]⟩]))++r=⟨1,m,0⟩ :: ⟨1,⟨#[111,102]⟩,0⟩ :: ⟨5,⟨#[40]⟩,0⟩ :: (tkl K++(⟨5,⟨#[41]⟩,0⟩ :: r)):=by
  rw [dG,dG,dG,fV,List.cons_append,List.cons_append,List.cons_append,List.append_assoc];rfl
 rw [e0];exact Iq hm 0 (NH hm 0 rfl (Fg (r:=⟨5,⟨#[41]⟩,0⟩ :: r) rfl (P.ex _ (lV r)) rfl))
theorem MN {K:List Pc} {x:Ex} (P:Prs i K x):Prs i (sg ⟨#[45]⟩ :: eF (rk x.h) 8 K) (fA ⟨#[45]⟩ x):=by
 refine Hg (by show (8:Int)≤8;decide) (fun r=>rfl) (fun r=>rfl) (fun r hs=>?_) (fun e=>by cases e);show Lo i .ng (⟨5,⟨#[45]⟩,0⟩ :: (tkl (eF (rk x.h) 8 K)++r)) _ _;exact QC rfl (P.at8 hs)
theorem ML {K:List Pc} {x:Ex} (P:Prs i K x):Prs i (wd ⟨#[110,111,116]⟩ :: sp (eF (rk x.h) 4 K)) (fA ⟨#[110,111,116]⟩ x):=by
 have e0:∀ r,tkl (wd ⟨#[110,111,116]⟩ :: sp (eF (rk x.h) 4 K))++r=⟨1,⟨#[110,111,116]⟩,0⟩ :: (tkl (eF (rk x.h) 4 K)++r):=fun r=>by rw [dG,j6];rfl
 have op:∀ (least:Nat) (r:List Tk) (z:Ex) (r':List Tk),rnk least≤rk (fA ⟨#[110,111,116]⟩ x).h→Stp r→NoOp (tpR (rk (fA ⟨#[110,111,116]⟩ x).h)) r→Lo i (.tl least (tpR (rk (fA ⟨#[110,111,116]⟩ x).h)) (fA ⟨#[110,111,116]⟩ x)) r z r' →
     Lo i (.op least) (tkl (wd ⟨#[110,111,116]⟩ :: sp (eF (rk x.h) 4 K))++r) z r':=by
   intro least r z r' hl hs hn e
   rw [e0]
   have h3:least≤3:=by
     have hl:rnk least≤4:=hl
     unfold rnk at hl
     split at hl <;> omega
   have hn:NoOp 3 r:=hn
   have t3:3≤tpq (rk x.h) 4:=by
     unfold tpq tpR
     repeat (first | omega | split)
   refine QB h3 rfl (P.at 4 3 (by decide) hs (hn.mono t3) (zS (yX _ _) hn)) e
 exact ⟨fun r hF=>rW (by show (1:Int)≤4;decide) (fun r=>by rw [e0];rfl) op r hF,op,fun h=>absurd h (by show ¬ (8:Int)≤4;decide),fun _ r=>by rw [e0];rfl,fun e=>by cases e⟩
theorem Kj {K:List Pc} {x:Ex} (P:Prs i K x):Prs i (wd ⟨#[110,117,108,108]⟩ :: sg ⟨#[40]⟩ :: (K++[sg ⟨#[41]⟩])) (fA ⟨#[110,117,108,108]⟩ x):=by
 refine jB rfl (fun r=>rfl) (fun r=>rfl) (fun r=>rfl) (fun r hs=>?_) (fun e=>by cases e);have e0:tkl (wd ⟨#[110,117,108,108]⟩ :: sg ⟨#[40]⟩ :: (K++[sg ⟨#[41]⟩]))++r=⟨1,⟨#[110,117,108,108]⟩,0⟩ :: ⟨5,⟨#[40]⟩,0⟩ :: (tkl K++(⟨5,⟨#[41]⟩,0⟩ :: r)):=by
  rw [dG,dG,fV,List.cons_append,List.cons_append,List.append_assoc];rfl
 rw [e0];exact ND 0 (Fg (r:=⟨5,⟨#[41]⟩,0⟩ :: r) rfl (P.ex _ (lV r)) rfl)
theorem PX {K1 K2 K3:List Pc} {a b c:Ex} (A:Prs i K1 a) (B:Prs i K2 b) (C:Prs i K3 c):Prs i (wd ⟨#[105,102]⟩ :: (sp K1++(bw ⟨#[116,104,101,110]⟩ :: (sp K2++(bw ⟨#[101,108,115,101]⟩ :: sp K3))))) (ifE a b c):=by
 refine ⟨fun r hF=>?_,fun least r z r' hl=>?_,fun h=>absurd h (by show ¬ (8:Int)≤0;decide),fun h=>absurd h (by show ¬ (1:Int)≤0;decide),fun e=>by cases e⟩
 ·have e0:tkl (wd ⟨#[105,102]⟩ :: (sp K1++(bw ⟨#[116,104,101,110]⟩ :: (sp K2++(bw ⟨#[101,108,115,101]⟩ :: sp K3)))))++r=⟨1,⟨#[105,102]⟩,0⟩ :: (tkl K1++(⟨1,⟨#[116,104,101,110]⟩,0⟩ :: (tkl K2++(⟨1,⟨#[101,108,115,101]⟩,0⟩ :: (tkl K3++r))))):=by
   rw [dG,fV,dG,fV,dG,j6,j6,j6];simp only [List.cons_append,List.append_assoc];rfl
  rw [e0];exact SF (r:=⟨1,⟨#[116,104,101,110]⟩,0⟩ :: (tkl K2++(⟨1,⟨#[101,108,115,101]⟩,0⟩ :: (tkl K3++r)))) (r1:=⟨1,⟨#[101,108,115,101]⟩,0⟩ :: (tkl K3++r)) rfl (A.ex _ (KW _)) rfl (B.ex _ (KX _)) rfl (C.ex r hF)
 exfalso;have h1:=MF least;have hl:rnk least≤0:=hl;omega
theorem MP {op t:ByteArray} {p wk ws:Int} (ht:name t=true) (hp:fC op p=true) (hw:fu wk ws=true) {K:List Ok'} {a c:Ex} (hc:op=⟨#[99,111,117,110,116]⟩→bU a.h=true) (A:Prs true (okK K 0) a) (C:Prs true (okK K 1) c) (hC:(ok' K 1).2=c.h) :
    Prs false (agK { h0 with k:=5,op:=op,tb:=t,pa:=p,wk:=wk,ws:=ws } K) (AX op t p (wk,ws) a c):=by
 obtain ⟨_,_,_,_,_,_,n1,n2,n3⟩:=Rm hp;have hh:∀ r,tkl (agK { h0 with k:=5,op:=op,tb:=t,pa:=p,wk:=wk,ws:=ws } K)++r=⟨1,op,0⟩ :: ⟨5,⟨#[40]⟩,0⟩ :: ⟨1,t,0⟩ :: (tkl (if op=⟨#[99,111,117,110,116]⟩ then [] else sg ⟨#[44]⟩ :: sp (okK K 0))++(tkl (if op=⟨#[113,117,97,110,116,105,108,101]⟩∨op=⟨#[100,101,99,97,121]⟩ then [sg ⟨#[44]⟩,nuK p] else [])++(⟨5,⟨#[44]⟩,0⟩ :: (tkl (wiK wk ws)++(tkl (if bU (ok' K 1).2=true then [] else bw ⟨#[119,104,101,114,101]⟩ :: sp (okK K 1))++(⟨5,⟨#[41]⟩,0⟩ :: r)))))):=by
  intro r;unfold agK;simp only [dG,fV,j6,List.cons_append,List.append_assoc];rfl
 refine jB rfl (fun r=>?_) (fun r=>?_) (fun r=>?_) (fun r hs=>?_) (fun e=>by cases e)
 ·rw [hh,kL,dF n3]
 ·rw [hh,kL,dF n2]
 ·rw [hh,kL,dF n1]
 rw [hh];have e3:∃ l2,(tkl (if bU (ok' K 1).2=true then [] else bw ⟨#[119,104,101,114,101]⟩ :: sp (okK K 1))++(⟨5,⟨#[41]⟩,0⟩ :: r))=l2∧((l2=⟨5,⟨#[41]⟩,0⟩ :: r∧c=cu 1∧isT ⟨#[119,104,101,114,101]⟩ (⟨5,⟨#[41]⟩,0⟩ :: r)=false)∨(isT ⟨#[119,104,101,114,101]⟩ l2=true∧Lo true .ex l2.tail c (⟨5,⟨#[41]⟩,0⟩ :: r))):=by
  rw [hC]
  cases hq:bU c.h with
  | true=>exact ⟨_,rfl,.inl ⟨rfl,C.tru hq,rfl⟩⟩
  | false =>
    refine ⟨_,rfl,.inr ⟨by rw [if_neg (by decide),dG];rfl,?_⟩⟩
    rw [if_neg (by decide),dG,j6]
    exact C.ex _ (lV r)
 obtain ⟨l2,hl2,e3⟩:=e3;rw [hl2];by_cases hq:op=⟨#[99,111,117,110,116]⟩
 ·have hqd:¬ (op=⟨#[113,117,97,110,116,105,108,101]⟩∨op=⟨#[100,101,99,97,121]⟩):=by rw [hq];decide
  rw [if_pos hq,if_neg hqd];exact Iu hp 0 (Lv (l:=tkl (wiK wk ws)++l2) (l1:=tkl (wiK wk ws)++l2) (l3:=⟨5,⟨#[41]⟩,0⟩ :: r) ht hw hp (.inl ⟨hq,rfl,A.tru (hc hq)⟩) (by rw [if_neg hqd];rfl) e3 rfl)
 rw [if_neg hq]
 have e1:tkl (sg ⟨#[44]⟩ :: sp (okK K 0))++(tkl (if op=⟨#[113,117,97,110,116,105,108,101]⟩∨op=⟨#[100,101,99,97,121]⟩ then [sg ⟨#[44]⟩,nuK p] else [])++(⟨5,⟨#[44]⟩,0⟩ :: (tkl (wiK wk ws)++l2))) =
     ⟨5,⟨#[44]⟩,0⟩ :: (tkl (okK K 0)++(⟨5,⟨#[44]⟩,0⟩ :: ((if op=⟨#[113,117,97,110,116,105,108,101]⟩∨op=⟨#[100,101,99,97,121]⟩ then [⟨2,⟨(Lib.itoa p).toArray⟩,0⟩,⟨5,⟨#[44]⟩,0⟩] else [])++(tkl (wiK wk ws)++l2)))):=by
   rw [dG,j6]
   split <;> rfl
 rw [e1];exact Iu hp 0 (Lv (l3:=⟨5,⟨#[41]⟩,0⟩ :: r) ht hw hp (.inr ⟨hq,A.ex _ (Jh _)⟩) rfl e3 rfl)
theorem Df {h:Hd} {n:Nat} (N:Nod i g h n) (G:Prss (i || decide (h.k=5)) K F) (hn:F.len=n) (hg:g=(F.nth 0).h):Prs i (o8 h K) ⟨h,F⟩:=by
 cases N with
 | boo n e =>
   rw [len_nil hn]
   refine jB rfl (fun r=>?_) (fun r=>?_) (fun r=>?_) (fun r _=>QG e 0) (fun ht=>?_)
   iterate 3 rcases e with rfl | rfl <;> rfl
   rcases e with rfl | rfl
   · cases ht
   · rfl
 | num k n u hk h0 h1 hu =>
   rw [len_nil hn]
   rcases hk with rfl | rfl
   · exact jB rfl (fun r=>rfl) (fun r=>rfl) (fun r=>rfl) (fun r hs=>QE h0 h1 (pX hu hs.sq) 0) (fun ht=>by cases ht)
   · exact jB rfl (fun r=>rfl) (fun r=>rfl) (fun r=>rfl) (fun r hs=>QF h0 h1 (pX hu hs.sq) 0) (fun ht=>by cases ht)
 | tex s h1 h2 =>
   rw [len_nil hn]
   exact jB rfl (fun r=>rfl) (fun r=>rfl) (fun r=>rfl) (fun r hs=>NC s 0) (fun ht=>by cases ht)
 | key m s hm h0 h1 h2 =>
   rw [len_nil hn]
   exact jB rfl (fun r=>rfl) (fun r=>rfl) (fun r=>rfl) (fun r hs=>QD hm (of_decide_eq_true (Qg h0 h1 h2)) 0 0 0) (fun ht=>by cases ht)
 | fie m hi hm =>
   rw [len_nil hn,hi]
   exact He hm rfl rfl fun r _=>KH hm 0
 | fea m hi hm =>
   rw [len_nil hn,hi]
   exact He hm rfl rfl fun r hs=>Iq hm 0 (NI hm 0 hs.of)
 | loo m hi hm =>
   rw [Ae i (by show ¬ (4:Int)=5;decide),hi] at G
   rw [hi]
   have A:=(G 0 (by omega)).1
   have e:(⟨{ h0 with k:=4,nm:=m },F⟩:Ex)=rO m (F.nth 0):=by unfold rO;rw [← vL hn]
   rw [e]
   exact MO hm A
 | agg op t p wk ws hi ht hp hw hc =>
   rw [hi,show (false || decide (({ h0 with k:=5,op:=op,tb:=t,pa:=p,wk:=wk,ws:=ws } : Hd).k=5))=true from rfl] at G
   rw [hi]
   obtain ⟨A,_⟩:=G 0 (by omega)
   obtain ⟨C,hC⟩:=G 1 (by omega)
   have e:(⟨{ h0 with k:=5,op:=op,tb:=t,pa:=p,wk:=wk,ws:=ws },F⟩:Ex)=AX op t p (wk,ws) (F.nth 0) (F.nth 1):=by unfold AX;rw [← qw hn]
   rw [e]
   exact MP ht hp hw (fun e=>hg ▸ hc e) A C hC
 | una op ho =>
   rw [Ae i (by show ¬ (6:Int)=5;decide)] at G
   have A:=(G 0 (by omega)).1
   have hp:=fun q=>G.p (j:=0) (by omega) q
   have e:(⟨{ h0 with k:=6,op:=op },F⟩:Ex)=fA op (F.nth 0):=by unfold fA;rw [← vL hn]
   rw [e]
   rcases ho with rfl | rfl | rfl
   · show Prs i (sg ⟨#[45]⟩ :: okP K 0 8) _
     rw [hp]
     exact MN A
   · show Prs i (wd ⟨#[110,111,116]⟩ :: sp (okP K 0 4)) _
     rw [hp]
     exact ML A
   · exact Kj A
 | bin op ho =>
   rw [Ae i (by show ¬ (7:Int)=5;decide)] at G
   have A:=(G 0 (by omega)).1
   have B:=(G 1 (by omega)).1
   obtain ⟨⟨n,OF⟩,hd⟩:=Ni ho
   have e:(⟨{ h0 with k:=7,op:=op },F⟩:Ex)=bG op (F.nth 0) (F.nth 1):=by unfold bG;rw [if_neg hd,← qw hn]
   have eh:(bG op (F.nth 0) (F.nth 1)).h = { h0 with k:=7,op:=op }:=by rw [← e]
   rw [e]
   show Prs i (okP K 0 (lef (rkO op))++(opK op :: sp (okP K 1 (rkO op+1)))) _
   rw [G.p (j:=0) (by omega),G.p (j:=1) (by omega)]
   exact C8 OF A B (by rw [eh];rfl) (by rw [eh];rfl)
 | iff =>
   rw [Ae i (by show ¬ (8:Int)=5;decide)] at G
   have e:(⟨{ h0 with k:=8 },F⟩:Ex)=ifE (F.nth 0) (F.nth 1) (F.nth 2):=by unfold ifE;rw [← Iz hn]
   rw [e]
   exact PX (G 0 (by omega)).1 (G 1 (by omega)).1 (G 2 (by omega)).1
 | dfl =>
   rw [Ae i (by show ¬ (9:Int)=5;decide)] at G
   have e:(⟨{ h0 with k:=9 },F⟩:Ex)=bG ⟨#[100,101,102,97,117,108,116]⟩ (F.nth 0) (F.nth 1):=by unfold bG;rw [if_pos rfl,← qw hn]
   rw [e]
   show Prs i (okP K 0 1++(bw ⟨#[100,101,102,97,117,108,116]⟩ :: sp (okP K 1 2))) _
   rw [G.p (j:=0) (by omega),G.p (j:=1) (by omega)]
   exact C8 Nh (G 0 (by omega)).1 (G 1 (by omega)).1 rfl rfl
theorem rG:∀ (F:Fo) (i:Bool),fmA i F=true→Prss i (xkF F) F
 | .nil,_,_=>fun j hj=>absurd hj (Nat.not_lt_zero _)
 | .cons h ar r,i,e=>by
  obtain ⟨e1,e2,e3⟩:=vS e
  have g:=Df (jE e1) (rG ar _ e2) rfl rfl
  have gr:=rG r i e3
  intro j hj
  cases j with
  | zero=>exact ⟨g,rfl⟩
  | succ j =>
   have:=gr j (by simpa [Fo.len] using hj)
   exact ⟨by simpa [okK,ok',xkF,Fo.nth] using this.1,by simpa [ok',xkF,Fo.nth] using this.2⟩
theorem Da {i:Bool} {x:Ex} (e:fmE i x=true):Prs i (xkE x) x:=by
 have e':(aY i x.h x.ar.len (x.ar.nth 0).h && fmA (i || decide (x.h.k=5)) x.ar)=true:=e;rw [Bool.and_eq_true] at e';exact Df (jE e'.1) (rG x.ar _ e'.2) rfl rfl
theorem DX (t:ByteArray) (a:Int):Fin' [⟨6,t,a⟩]:=⟨⟨rfl,rfl⟩,fun k _ _=>by unfold opr;rw [List.find?_eq_none.2 fun t _=>by rw [SQ (by decide) (by decide)];decide];rfl⟩
theorem CG {e e':Tk} (he:e.k=6) (hk:e'.k=e.k) (ht:e'.t=e.t):∀ {l r:List Tk},l.map kt=r.map kt→pa.SimR (fun _ _=>True) (l++[e]) (r++[e'])
 | [],[],_=>.last he hk ht trivial
 | x :: l,y :: r,h=>by
  rw [List.map_cons,List.map_cons] at h
  obtain ⟨h1,h2⟩:=List.cons.inj h
  obtain ⟨h3,h4⟩:=Prod.mk.inj h1
  exact .cons h3.symm h4.symm trivial (CG he hk ht h2)
 | [],y :: r,h=>by cases h
 | x :: l,[],h=>by cases h
theorem Ph (K:List Pc):(tkl K).map kt=K.map (·.2):=by
 unfold tkl;rw [List.map_map];rfl
theorem Gj {K:List Pc} {T:List UInt8} (g:Gd K T) {s:ByteArray} (hs:s.data.toList=T) (hl:T.length≤16384) :
    eP s=0∧iW s=[]∧pa.SimR (fun _ _=>True) (tkl K++[⟨6,.empty,0⟩]) (dh s):=by
 obtain ⟨L,a,b⟩:=Dr g.w;rw [g.b,← hs] at a;have hz:¬16384<s.size:=by
  have:s.data.toList.length=s.size:=aJ s;rw [hs] at this;omega
 refine ⟨by unfold eP;rw [if_neg hz],by unfold iW;rw [if_neg hz,a];rfl,?_⟩;unfold dh;rw [if_neg hz,a];exact CG (e:=⟨6,.empty,0⟩) (e':=vW s) rfl rfl rfl ((Ph K).trans b.symm)
theorem yY {α:Type} {z:α} {one:List Tk→Rs α} (h1:∀ {l r:List Tk},pa.SimR (fun _ _=>True) l r→pa.RSim (fun _ _=>True) (one l) (one r)) {K:List Pc} {T:List UInt8} (g:Gd K T) {s:ByteArray} (hs:s.data.toList=T) (hl:T.length≤16384) {x:α}
    (h:one (tkl K++[⟨6,.empty,0⟩])=.ok x [⟨6,.empty,0⟩]):eP s=0∧iW s=[]∧pa.dM z one s=(x,0,0):=by
 obtain ⟨hE,hB,S⟩:=Gj g hs hl;refine ⟨hE,hB,?_⟩;have q:=h1 S;rw [h] at q;generalize hy:one (dh s)=y at q
 cases q with
 | ok v hr =>
   rename_i r
   have hk:(hd r).k=6:=hr.hk
   have hA:pa.fI one (dh s)=.ok x r:=by
     unfold pa.fI
     rw [hy]
     show (pa.lM r).bind _=_
     unfold pa.lM
     rw [if_pos hk]
     rfl
   exact pa.uO hE hB hA
theorem Ox {x:Ex} (hx:fmE false x=true) {s:ByteArray} (hs:s.data.toList=txE x) (hl:(txE x).length≤16384):eP s=0∧iW s=[]∧pa.dM (α:=Ex) ⟨h0,.nil⟩ pa.exR s=(x,0,0):=by
 obtain ⟨f,e⟩:=(Da hx).ex _ (DX .empty 0);refine yY (fun h=>pa.Oe h) (Ru hx) hs hl ?_;have e0:=e f lr;have k:=pa.PV (pa.pI (tkl (xkE x)++[⟨6,.empty,0⟩])) (show pz f false .ex (tkl (xkE x)++[⟨6,.empty,0⟩])≠.out by rw [e0];exact fun h=>by cases h);exact k.trans e0
theorem Ow {t:Ty} (ht:tyE t=0) {s:ByteArray} (hs:s.data.toList=tyT t) (hl:(tyT t).length≤16384):pa.dM (α:=Ty) ⟨0,[],.empty⟩ typ s=(t,0,0):=by
 exact (yY (fun h=>pa.Mg h) (sS ht) hs hl (Cn ht rfl)).2.2
end ch
section
open Go.RowKit dec
def Fo.sm:Fo→Prop
 | .nil=>True
 | .cons h ar r=>h.un.length≤1048576∧ar.len≤1048576∧ar.sm∧r.sm
def Ex.sm (x:Ex):Prop:=x.h.un.length≤1048576∧x.ar.len≤1048576∧x.ar.sm
theorem sm1 {h:Hd} {x:Ex} (hu:h.un=[]) (hx:x.sm):Ex.sm ⟨h,.cons x.h x.ar .nil⟩:=by
 refine ⟨by rw [hu];decide,by simp [Fo.len],hx.1,hx.2.1,hx.2.2,trivial⟩
theorem sm2 {h:Hd} {x y:Ex} (hu:h.un=[]) (hx:x.sm) (hy:y.sm):Ex.sm ⟨h,.cons x.h x.ar (.cons y.h y.ar .nil)⟩:=by
 refine ⟨by rw [hu];decide,by simp [Fo.len],hx.1,hx.2.1,hx.2.2,hy.1,hy.2.1,hy.2.2,trivial⟩
theorem sm3 {h:Hd} {x y z:Ex} (hu:h.un=[]) (hx:x.sm) (hy:y.sm) (hz:z.sm):Ex.sm ⟨h,.cons x.h x.ar (.cons y.h y.ar (.cons z.h z.ar .nil))⟩:=by
 refine ⟨by rw [hu];decide,by simp [Fo.len],hx.1,hx.2.1,hx.2.2,hy.1,hy.2.1,hy.2.2,hz.1,hz.2.1,hz.2.2,trivial⟩
theorem sm0 {h:Hd} (hu:h.un.length≤1048576):Ex.sm ⟨h,.nil⟩:=⟨hu,by simp [Fo.len],trivial⟩
theorem Ou {op:ByteArray} {x y:Ex} (hx:x.sm) (hy:y.sm):(bG op x y).sm:=by
 unfold bG;split
 ·exact sm2 rfl hx hy
 exact sm2 rfl hx hy
theorem Nw (u:List un.Fa):(un.nL u).length≤4:=by
 unfold un.nL;split
 ·rename_i h;exact (un.Ny h).2.2
 exact Nat.zero_le _
theorem sN {l r:List Tk} {u:List un.Fa} (h:uni l=.ok u r):u.length≤1048576:=by
 unfold uni at h;split at h
 ·obtain ⟨v,q,h1,h2⟩:=bind_ok h;obtain ⟨_,q',h3,h4⟩:=bind_ok h2;split at h4
  ·cases h4;have:=Nw v;omega
  cases h4
 cases h;exact Nat.zero_le _
theorem OW {l r:List Tk} {t:Ty} (h:typ l=.ok t r):t.un.length≤1048576:=by
 unfold typ at h;split at h
 ·cases h;exact Nat.zero_le _
 split at h
 ·cases h;exact Nat.zero_le _
 split at h
 ·obtain ⟨u,q,h1,h2⟩:=bind_ok h;cases h2;exact Nat.zero_le _
 split at h
 ·obtain ⟨u,q,h1,h2⟩:=bind_ok h;cases h2;exact sN h1
 split at h
 ·obtain ⟨u,q,h1,h2⟩:=bind_ok h;cases h2;exact sN h1
 cases h
def Md.sm:Md→Prop
 | .tl _ _ y=>y.sm
 | _=>True
theorem uF (n:Int):(cu n).sm:=sm0 (by simp [h0])
theorem RU:∀ (f:Nat) (i:Bool) (m:Md) (l:List Tk) (x:Ex) (r:List Tk),m.sm→pz f i m l=.ok x r→x.sm:=by
 intro f
 induction f with
 | zero=>intro i m l x r _ h;cases h
 | succ f ih =>
   intro i m l x r hm h
   cases m with
   | ex =>
     simp only [pz] at h
     split at h
     · obtain ⟨a,q1,h1,h⟩:=bind_ok h
       obtain ⟨_,q2,h2,h⟩:=bind_ok h
       obtain ⟨b,q3,h3,h⟩:=bind_ok h
       obtain ⟨_,q4,h4,h⟩:=bind_ok h
       obtain ⟨c,q5,h5,h⟩:=bind_ok h
       cases h
       exact sm3 rfl (ih _ _ _ _ _ (by exact trivial) h1) (ih _ _ _ _ _ (by exact trivial) h3) (ih _ _ _ _ _ (by exact trivial) h5)
     · exact ih _ _ _ _ _ (by exact trivial) h
   | op least =>
     simp only [pz] at h
     split at h
     · obtain ⟨a,q1,h1,h⟩:=bind_ok h
       exact ih _ (.tl _ _ _) _ _ _ (sm1 rfl (ih _ _ _ _ _ (by exact trivial) h1)) h
     · obtain ⟨a,q1,h1,h⟩:=bind_ok h
       exact ih _ (.tl _ _ _) _ _ _ (ih _ _ _ _ _ (by exact trivial) h1) h
   | tl least n y =>
     simp only [pz] at h
     split at h
     · cases h
       exact hm
     · split at h
       · exact ih _ (.tl _ (n - 1) y) _ _ _ (by exact hm) h
       · obtain ⟨a,q1,h1,h⟩:=bind_ok h
         exact ih _ (.tl _ _ _) _ _ _ (Ou hm (ih _ _ _ _ _ (by exact trivial) h1)) h
   | ng =>
     simp only [pz] at h
     split at h
     · obtain ⟨a,q1,h1,h⟩:=bind_ok h
       cases h
       exact sm1 rfl (ih _ _ _ _ _ (by exact trivial) h1)
     · exact ih _ _ _ _ _ (by exact trivial) h
   | pa =>
     simp only [pz] at h
     obtain ⟨_,q1,h1,h⟩:=bind_ok h
     obtain ⟨a,q2,h2,h⟩:=bind_ok h
     obtain ⟨_,q3,h3,h⟩:=bind_ok h
     cases h
     exact ih _ _ _ _ _ (by exact trivial) h2
   | rf =>
     simp only [pz] at h
     obtain ⟨n,q1,h1,h⟩:=bind_ok h
     split at h
     · obtain ⟨a,q2,h2,h⟩:=bind_ok h
       cases h
       exact sm1 rfl (ih _ _ _ _ _ (by exact trivial) h2)
     · cases h
       exact sm0 (by simp [h0])
   | ag =>
     simp only [pz] at h
     obtain ⟨op,q1,h1,h⟩:=bind_ok h
     obtain ⟨_,q2,h2,h⟩:=bind_ok h
     obtain ⟨t,q3,h3,h⟩:=bind_ok h
     obtain ⟨_,q4,h4,h⟩:=bind_ok h
     obtain ⟨a,q5,h5,h⟩:=bind_ok h
     have g5:a.sm:=by
       split at h5
       · cases h5;exact uF 1
       · obtain ⟨_,p1,k1,h5⟩:=bind_ok h5
         obtain ⟨_,p2,k2,h5⟩:=bind_ok h5
         cases h5
         exact ih _ _ _ _ _ (by exact trivial) k1
     obtain ⟨n,q6,h6,h⟩:=bind_ok h
     obtain ⟨w,q7,h7,h⟩:=bind_ok h
     obtain ⟨b,q8,h8,h⟩:=bind_ok h
     have g8:b.sm:=by
       split at h8
       · exact ih _ _ _ _ _ (by exact trivial) h8
       · cases h8;exact uF 1
     obtain ⟨_,q9,h9,h⟩:=bind_ok h
     cases h
     exact sm2 rfl g5 g8
   | pr =>
     simp only [pz] at h
     split at h
     · obtain ⟨n,q1,h1,h⟩:=bind_ok h
       obtain ⟨u,q2,h2,h⟩:=bind_ok h
       cases h
       exact sm0 (sN h2)
     split at h
     · obtain ⟨n,q1,h1,h⟩:=bind_ok h
       obtain ⟨u,q2,h2,h⟩:=bind_ok h
       cases h
       exact sm0 (sN h2)
     split at h
     · obtain ⟨n,q1,h1,h⟩:=bind_ok h
       cases h
       exact sm0 (by simp [h0])
     split at h
     · cases h;exact uF 1
     split at h
     · cases h;exact uF 0
     split at h
     · obtain ⟨n,q,h1,h2⟩:=bind_ok h
       obtain ⟨s,q',h3,h4⟩:=bind_ok h2
       split at h4
       · cases h4
         exact sm0 (by simp [h0])
       · cases h4
     split at h
     · obtain ⟨n,q1,h1,h⟩:=bind_ok h
       cases h
       exact sm1 rfl (ih _ _ _ _ _ (by exact trivial) h1)
     split at h
     · exact ih _ _ _ _ _ (by exact trivial) h
     split at h
     · obtain ⟨n,q1,h1,h⟩:=bind_ok h
       cases h
       exact sm0 (by simp [h0])
     split at h
     · exact ih _ _ _ _ _ (by exact trivial) h
     · exact ih _ _ _ _ _ (by exact trivial) h
end
namespace ch
open Go.RowKit dec
theorem uM {C:Nat} {w:World} {a:Option Addr} {l:List un.Fa} (h:Us C w a l) (hl:l.length≤1048576) (c:Nat):un.Sl w a l.length c l :=
 ⟨h.imp id fun ⟨b,off,e,_,hC,_⟩=>⟨b,off,e,hC⟩,rfl,Nat.zero_le _,by omega,trivial⟩
theorem Kz {w:World} {b off:Nat} {h:Hd} {ua:Option Addr} {uc:Nat} {aa:Option Addr} {an ac:Nat} (N:Nd w b off h ua uc aa an ac):w.rangeAt b off (exC h an ua uc aa ac).toList:=by
 obtain ⟨n0,n1,n2,n3,n4,n5,n6,n7,n8,n9,n10,n11⟩:=N;intro j v hv;simp only [exC] at hv
 match j,hv with
 | 0,hv=>cases hv;exact n0
 | 1,hv=>cases hv;exact n1
 | 2,hv=>cases hv;exact n2
 | 3,hv=>cases hv;exact n3
 | 4,hv=>cases hv;exact n4
 | 5,hv=>cases hv;exact n5
 | 6,hv=>cases hv;exact n6
 | 7,hv=>cases hv;exact n7
 | 8,hv=>cases hv;exact n8
 | 9,hv=>cases hv;exact n9
 | 10,hv=>cases hv;exact n10
 | 11,hv=>cases hv;exact n11
 | j+12,hv=>simp at hv
theorem vR {C:Nat} {w:World} : ∀ (F:Fo) (b off:Nat),Fm C w F b off→F.sm→FoV w F b off
 | .nil,_,_,_,_=>trivial
 | .cons h ar r,b,off,hF,hs=>by
  obtain ⟨⟨ua,uc,aa,ac,N,U,A⟩,R⟩:=hF
  obtain ⟨s1,s2,s3,s4⟩:=hs
  exact ⟨⟨ua,uc,aa,ac,Kz N,uM U s1 uc,⟨Nat.zero_le _,by omega,trivial⟩,A.imp id fun ⟨b',off',e,_,_,hF'⟩=>⟨b',off',e,vR ar b' off' hF' s3⟩⟩,vR r b (off+12) R s4⟩
theorem Oy {C:Nat} {w:World} {a:Option Addr} {F:Fo} (h:As C w a F) (hl:F.len≤1048576) (hs:F.sm) (c:Nat):Fs w a F.len c F :=
 ⟨h.imp id fun ⟨b,off,e,_,_,hF⟩=>⟨b,off,e,vR F b off hF hs⟩,rfl,Nat.zero_le _,by omega,trivial⟩
theorem Oh {C:Nat} {w:World} {x:Ex} {ua aa:Option Addr} (h:Go.Proofs.YtbahfelnbofjjaaGreatDoor.Ec C w x ua aa) (hs:x.sm) (uc ac:Nat):Ec w x ua uc aa ac :=
 ⟨uM h.us hs.1 uc,Oy h.ar hs.2.1 hs.2.2 ac⟩
theorem Og {C:Nat} {w:World} {v:Value} {x:Ex} (h:Ev C w v x) (hs:x.sm):∃ ua uc aa ac,v=.agg (exC x.h x.ar.len ua uc aa ac)∧Ec w x ua uc aa ac:=by
 obtain ⟨ua,uc,aa,ac,e,U⟩:=h;exact ⟨ua,uc,aa,ac,e,Oh U hs uc ac⟩
theorem ze:∀ (F:Fo) (n:Int),0≤n→n+(F.sz:Int)≤1000000→szA F n=n+(F.sz:Int)
 | .nil,n,_,_=>by simp [szA,Fo.sz]
 | .cons h ar r,n,h0,hn=>by
  have e:(Fo.cons h ar r).sz=ar.sz+r.sz+1:=rfl
  rw [e] at hn ⊢
  have k:wrap64 (n+szA ar 1)=n+1+(ar.sz:Int):=by
   rw [ze ar 1 (by omega) (by omega)]
   unfold wrap64
   omega
  show szA r (wrap64 (n+szA ar 1))=_
  rw [k,ze r _ (by omega) (by omega)]
  omega
theorem xq {x:Ex} (h:shE x=0) (hz:x.ar.sz≤3000):(txE x).length≤16384:=by
 have f:=Co (nO h);have k:szE x=1+(x.ar.sz:Int):=ze x.ar 1 (by omega) (by omega);have h64:¬ (64<szE x∨12<dpE x):=fun c=>by
  unfold shE at h;rw [if_pos c] at h;cases h
 omega
theorem J9 {x:Ex} (hx:fmE false x=true):x.sm:=by
 obtain ⟨f,e⟩:=(Da hx).ex _ (DX .empty 0);exact RU _ _ .ex _ _ _ trivial (e f lr)
theorem qF (l:List UInt8):(B8 l).data.toList=l:=rfl
theorem JK (x:Ex) (h:shE x=0) (hz:x.ar.sz≤3000) (a:Option Addr) (n c:Nat) (W:World) (hS:Bs W a n c (B8 (txE x))) (T:Tabo W) :
  Calls Tryz.prog 27 #[.slice a n c] W fun e w' => ∃ ua uc aa ac,e=.returned (.tuple #[.agg (exC x.h x.ar.len ua uc aa ac),.int .i64 0,.int .i64 0])∧Ec w' x ua uc aa ac∧Below W.heap.size W w' :=
 (pa.J3 a n c _ W hS T _ (Ox (nO h) (qF _) (xq h hz)).2.2).mono fun e w' ⟨v,he,V,b⟩=>by
  obtain ⟨ua,uc,aa,ac,hv,E⟩:=Og V (J9 (nO h))
  subst hv
  exact ⟨ua,uc,aa,ac,he,E,b⟩
theorem JJ (t:Ty) (h:tyE t=0) (a:Option Addr) (n c:Nat) (W:World) (hS:Bs W a n c (B8 (tyT t))) (T:Tabo W) :
  Calls Tryz.prog 30 #[.slice a n c] W fun e w' => ∃ ua uc,e=.returned (.tuple #[.agg (tyC t ua uc),.int .i64 0,.int .i64 0])∧un.Sl w' ua t.un.length uc t.un∧Below W.heap.size W w' :=
 (pa.J2 a n c _ W hS T _ (Ow h (qF _) (by have:=pY h;omega))).mono fun e w' ⟨v,he,V,b⟩=>by
  obtain ⟨ua,uc,hv,U⟩:=V
  subst hv
  exact ⟨ua,uc,he,uM U (OW (Cn (r:=[]) h rfl)) uc,b⟩
theorem JI (x:Ex) (ua aa:Option Addr) (uc ac:Nat) (t:Ty) (ub:Option Addr) (ud:Nat) (w:World) (hx:x.szs) (ht:t.of.size≤140737488355328) (hA:Ec w x ua uc aa ac) (hU:un.Sl w ub t.un.length ud t.un) (T:Tabq w) (O:Opt w):Calls Tryz.prog 5 #[.agg (exC x.h x.ar.len ua uc aa ac),.agg (tyC t ub ud)] w (Bl true w):=by
 have bb:=bT w (.cells (exC x.h x.ar.len ua uc aa ac) 29) (.cells (tyC t ub ud) 31);have B:=Hy bb;have G1:=Hy ((Blk.new w 29 (exC x.h x.ar.len ua uc aa ac)).past (.cells (tyC t ub ud) 31));have G2:=Hy (iR (w.alloc (.cells (exC x.h x.ar.len ua uc aa ac) 29)) 31 (tyC t ub ud) (w.heap.size+1) (gI _ _).symm);have CE:=Hy (fun (W:World) (b:Below w.heap.size w W)=>BX W (T.stays b));have Fx:=Hy (fun (W:World) (b:Below w.heap.size w W)=>DT x 100 ua aa uc ac W hx (by decide) (by decide) (hA.keeps b));have Ft:=Hy (fun (W:World) (b:Below w.heap.size w W)=>BR t ub ud W (hU.keeps b) ht);have Sx:=Hy (fun (W:World) (b:Below w.heap.size w W)=>EG x ua aa uc ac W hx (hA.keeps b));have Px:=Hy (fun (hz:x.ar.sz≤3000) (W:World) (b:Below w.heap.size w W)=>lU x ua aa uc ac W hx hz (hA.keeps b) (T.stays b));have Py:=Hy (fun (hz:x.ar.sz≤3000) (va wa:Option Addr) (vc wc:Nat) (W:World) (b:Below w.heap.size w W) (hE:Ec W x va vc wa wc)=>lU x va wa vc wc W hx hz hE (T.stays b));have Rx:=Hy (fun (h:shE x=0) (hz:x.ar.sz≤3000) (a:Option Addr) (n c:Nat) (W:World) (b:Below w.heap.size w W) (hS:Bs W a n c (B8 (txE x)))=>JK x h hz a n c W hS ⟨(T.stays b).t,O.keeps b⟩);have XE:=Hy (fun (va wa:Option Addr) (vc wc:Nat) (W:World) (b:Below w.heap.size w W) (hE:Ec W x va vc wa wc)=>Gz x x ua aa va wa uc ac vc wc W (hA.keeps b) hE);have hs1:sxE x x=true:=Ml.2 rfl;have Yt:=Hy (fun (W:World) (b:Below w.heap.size w W)=>xD t ub ud W (hU.keeps b));have Pt:=Hy (fun (W:World) (b:Below w.heap.size w W)=>G8 t ub ud W (hU.keeps b) ht (T.stays b));have Rt:=Hy (fun (h:tyE t=0) (a:Option Addr) (n c:Nat) (W:World) (b:Below w.heap.size w W) (hS:Bs W a n c (B8 (tyT t)))=>JJ t h a n c W hS ⟨(T.stays b).t,O.keeps b⟩);have XT:=Hy (fun (va:Option Addr) (vc:Nat) (W:World) (b:Below w.heap.size w W) (hE:un.Sl W va t.un.length vc t.un)=>zw t t ub va ud vc W (hU.keeps b) hE);have hs2:yB t t=true:=by simp [yB]
 have z1s:=Hy (fun (h:shE x=0) (hz:x.ar.sz≤3000)=>(show (B8 (txE x)).size≤281474976710656 by have k:=xq h hz;have e:=aJ (B8 (txE x));rw [qF] at e;omega));have z2s:=Hy (fun (h:tyE t=0)=>(show (B8 (tyT t)).size≤281474976710656 by have k:=pY h;have e:=aJ (B8 (tyT t));rw [qF] at e;omega));rw [hs1] at XE;rw [hs2] at XT;clear bb hx ht hA hU T O hs1 hs2;unfold exC tyC at *
 go_enter Tryz.func5,Tryz.ntmps5
 go_upto_region 1 with fail
 generalize hw0:((w.alloc (.cells #[.int .i64 x.h.k,.string x.h.op,.string x.h.nm,.string x.h.tb,.int .i64 x.h.vk,.int .i64 x.h.vn,.string x.h.vs,.slice ua x.h.un.length uc,.int .i64 x.h.pa,.int .i64 x.h.wk,.int .i64 x.h.ws,.slice aa x.ar.len ac] 29)).alloc (.cells #[.int .i64 t.k,.slice ub t.un.length ud,.string t.of] 31))=w0 at *;clear hw0;generalize w.heap.size+1=g3 at *;go_wp2_with fail;refine (CE.o _ B.o).mono ?_;rintro e w1 ⟨rfl,b1⟩;replace B:=Hy (au B.o b1);replace G1:=Hy (G1.o.keeps b1);replace G2:=Hy (G2.o.keeps b1);clear b1;clear CE
 go_upto_region 3 with fail
 go_cut [26] from 19 (fun v wx=>(v=.bool true∨(v=.bool false∧x.ar.sz≤3000))∧Hid (Below w1.heap.size w1 wx))
 case first =>
  have R:=Hy (b0 w1);go_wp2_with (refine aB aF Tryz.underlying29 rfl (.tmp 2) rfl rfl _ _ _ rfl G1.o rfl ?_);refine (Fx.o _ B.o).mono ?_;rintro e w2 ⟨r1,rfl,-,hz1,b2⟩;replace B:=Hy (au B.o b2);replace R:=Hy (au R.o b2);replace G1:=Hy (G1.o.keeps b2);replace G2:=Hy (G2.o.keeps b2);clear b2;by_cases hr1:r1<0
  ·have q1:=dT hr1;go_wp2_with fail
   go_meet
   case rel=>exact ⟨.inl rfl,Hy R.o⟩
  have q1:=dF hr1;have HZ1:=Hy (show x.ar.sz≤3000 from by have:=hz1 (by omega);omega);clear hz1;go_wp2_with (refine aS aZ Tryz.underlying31 rfl (.tmp 3) rfl rfl _ _ _ rfl G2.o rfl ?_);refine (Ft.o _ B.o).mono ?_;rintro e w3 ⟨bt,rfl,-,b3⟩;replace B:=Hy (au B.o b3);replace R:=Hy (au R.o b3);replace G1:=Hy (G1.o.keeps b3);replace G2:=Hy (G2.o.keeps b3);clear b3;cases bt
  ·go_wp2_with fail
   go_meet
   case rel=>exact ⟨.inl rfl,Hy R.o⟩
  go_wp2_with fail
  go_meet
  case rel=>exact ⟨.inr ⟨rfl,HZ1.o⟩,Hy R.o⟩
 case rest =>
  obtain ⟨hv,BW⟩:=hcut;replace B:=Hy (au B.o BW.o);replace G1:=Hy (G1.o.keeps BW.o);replace G2:=Hy (G2.o.keeps BW.o);clear BW Fx Ft;generalize wc=w3 at *;rcases hv with rfl | ⟨rfl,z1⟩
  ·go_wp2_with fail;go_ret;exact ⟨rfl,B.o⟩
  go_wp2_with (refine aB aF Tryz.underlying29 rfl (.tmp 2) rfl rfl _ _ _ rfl G1.o rfl ?_);refine (Sx.o _ B.o).mono ?_;rintro e w4 ⟨rfl,b4⟩;replace B:=Hy (au B.o b4);replace G1:=Hy (G1.o.keeps b4);replace G2:=Hy (G2.o.keeps b4);clear b4;by_cases h1:shE x=0
  ·have zz1:=z1s.o h1 z1;replace Rx:=Hy (Rx.o h1 z1);replace Px:=Hy (Px.o z1);replace Py:=Hy (Py.o z1);rw [h1] at Px Py;simp only [txO,if_true] at Px Py;rw [h1];replace h1:=Hy h1;replace z1:=Hy z1;generalize B8 (txE x)=s1 at *;go_wp2_with (refine aB aF Tryz.underlying29 rfl (.tmp 2) rfl rfl _ _ _ rfl G1.o rfl ?_);refine (Px.o _ B.o).mono ?_;rintro e w5 ⟨rfl,b5⟩;replace B:=Hy (au B.o b5);replace G1:=Hy (G1.o.keeps b5);replace G2:=Hy (G2.o.keeps b5);clear b5;obtain ⟨w6,c6,hcv6,hB6,b6⟩:=ou w5 s1 zz1;have BS:=Hy hB6;replace B:=Hy (au B.o b6);replace G1:=Hy (G1.o.keeps b6);replace G2:=Hy (G2.o.keeps b6);clear hB6 b6;go_wp2_with fail;refine (Rx.o _ _ _ _ B.o BS.o).mono ?_;rintro e w7 ⟨va,vc,wa,wc,rfl,E,b7⟩;replace B:=Hy (au B.o b7);replace G1:=Hy (G1.o.keeps b7);replace G2:=Hy (G2.o.keeps b7);have EY:=Hy E;clear E b7 BS;unfold exC at *;go_wp2_with (first | (refine aD aF (.tmp 7) (.tmp 39) rfl rfl _ _ _ _ rfl rfl (Blk.new _ _ _) rfl rfl (aM _ _ _ _ _ _) ?_;intro w8 L s3;have b:=(ak (b0 w7) _).trans (s3.below lr);have L1:=Hy L;replace B:=Hy (au B.o b);replace G1:=Hy (G1.o.keeps b);replace G2:=Hy (G2.o.keeps b);replace EY:=Hy (EY.o.keeps b);clear L s3 b) | (refine aS aF Tryz.underlying29 rfl (.tmp 7) rfl rfl _ _ _ rfl L1.o rfl ?_));refine (Py.o _ _ _ _ _ B.o EY.o).mono ?_;rintro e w9 ⟨rfl,b9⟩;replace B:=Hy (au B.o b9);replace G1:=Hy (G1.o.keeps b9);replace G2:=Hy (G2.o.keeps b9);replace EY:=Hy (EY.o.keeps b9);replace L1:=Hy (L1.o.keeps b9);clear b9;have q9:(s1.toList==s1.toList)=true:=beq_self_eq_true _;have q8:(s1.toList != s1.toList)=false:=by simp
   go_wp2_with (first | (refine aS aF Tryz.underlying29 rfl (.tmp 2) rfl rfl _ _ _ rfl G1.o rfl ?_) | (refine aS aF Tryz.underlying29 rfl (.tmp 7) rfl rfl _ _ _ rfl L1.o rfl ?_));refine (XE.o _ _ _ _ _ B.o EY.o).mono ?_;rintro e w10 ⟨rfl,b10⟩;replace B:=Hy (au B.o b10);replace G1:=Hy (G1.o.keeps b10);replace G2:=Hy (G2.o.keeps b10);clear b10;go_wp2_with (refine aB aZ Tryz.underlying31 rfl (.tmp 3) rfl rfl _ _ _ rfl G2.o rfl ?_);refine (Yt.o _ B.o).mono ?_;rintro e w11 ⟨rfl,b11⟩;replace B:=Hy (au B.o b11);replace G1:=Hy (G1.o.keeps b11);replace G2:=Hy (G2.o.keeps b11);clear b11;by_cases h2:tyE t=0
   ·have z2:=z2s.o h2;replace Rt:=Hy (Rt.o h2);rw [h2] at Pt;simp only [txO,if_true] at Pt;rw [h2];replace h2:=Hy h2;generalize B8 (tyT t)=s2 at *;go_wp2_with (refine aB aZ Tryz.underlying31 rfl (.tmp 3) rfl rfl _ _ _ rfl G2.o rfl ?_);refine (Pt.o _ B.o).mono ?_;rintro e w12 ⟨rfl,b12⟩;replace B:=Hy (au B.o b12);replace G1:=Hy (G1.o.keeps b12);replace G2:=Hy (G2.o.keeps b12);clear b12;obtain ⟨w13,c13,hcv13,hB13,b13⟩:=ou w12 s2 z2;have BS:=Hy hB13;replace B:=Hy (au B.o b13);replace G1:=Hy (G1.o.keeps b13);replace G2:=Hy (G2.o.keeps b13);clear hB13 b13;go_wp2_with fail;refine (Rt.o _ _ _ _ B.o BS.o).mono ?_;rintro e w14 ⟨va,vc,rfl,U,b14⟩;replace B:=Hy (au B.o b14);replace G1:=Hy (G1.o.keeps b14);replace G2:=Hy (G2.o.keeps b14);have UY:=Hy U;clear U b14 BS;unfold tyC at *;go_wp2_with (first | (refine aD aZ (.tmp 14) (.tmp 80) rfl rfl _ _ _ _ rfl rfl (Blk.new _ _ _) rfl rfl (by simp [Value.oneCell']) ?_;intro w15 L s3;have b:=(ak (b0 w14) _).trans (s3.below lr);have L2:=Hy L;replace B:=Hy (au B.o b);replace G1:=Hy (G1.o.keeps b);replace G2:=Hy (G2.o.keeps b);replace UY:=Hy (UY.o.keeps b);clear L s3 b) | (refine aS aZ Tryz.underlying31 rfl (.tmp 3) rfl rfl _ _ _ rfl G2.o rfl ?_) | (refine aS aZ Tryz.underlying31 rfl (.tmp 14) rfl rfl _ _ _ rfl L2.o rfl ?_));refine (XT.o _ _ _ B.o UY.o).mono ?_;rintro e w16 ⟨rfl,b16⟩;replace B:=Hy (au B.o b16);clear b16;go_wp2_with fail;go_ret;exact ⟨rfl,B.o⟩
   generalize tyE t=e2 at *;have q2:(e2 != 0)=true:=by simp [h2]
   replace h2:=Hy h2;go_wp2_with fail;go_ret;exact ⟨rfl,B.o⟩
  generalize shE x=e1 at *;have q1:(e1==0)=false:=by simp [h1]
  replace h1:=Hy h1;replace z1:=Hy z1;clear Rx Px Py XE z1s;go_wp2_with (refine aB aZ Tryz.underlying31 rfl (.tmp 3) rfl rfl _ _ _ rfl G2.o rfl ?_);refine (Yt.o _ B.o).mono ?_;rintro e w17 ⟨rfl,b17⟩;replace B:=Hy (au B.o b17);replace G1:=Hy (G1.o.keeps b17);replace G2:=Hy (G2.o.keeps b17);clear b17;by_cases h2:tyE t=0
  ·have z2:=z2s.o h2;replace Rt:=Hy (Rt.o h2);rw [h2] at Pt;simp only [txO,if_true] at Pt;rw [h2];replace h2:=Hy h2;generalize B8 (tyT t)=s2 at *;go_wp2_with (refine aB aZ Tryz.underlying31 rfl (.tmp 3) rfl rfl _ _ _ rfl G2.o rfl ?_);refine (Pt.o _ B.o).mono ?_;rintro e w18 ⟨rfl,b18⟩;replace B:=Hy (au B.o b18);replace G1:=Hy (G1.o.keeps b18);replace G2:=Hy (G2.o.keeps b18);clear b18;obtain ⟨w19,c19,hcv19,hB19,b19⟩:=ou w18 s2 z2;have BS:=Hy hB19;replace B:=Hy (au B.o b19);replace G1:=Hy (G1.o.keeps b19);replace G2:=Hy (G2.o.keeps b19);clear hB19 b19;go_wp2_with fail;refine (Rt.o _ _ _ _ B.o BS.o).mono ?_;rintro e w20 ⟨va,vc,rfl,U,b20⟩;replace B:=Hy (au B.o b20);replace G1:=Hy (G1.o.keeps b20);replace G2:=Hy (G2.o.keeps b20);have UY:=Hy U;clear U b20 BS;unfold tyC at *;go_wp2_with (first | (refine aD aZ (.tmp 14) (.tmp 80) rfl rfl _ _ _ _ rfl rfl (Blk.new _ _ _) rfl rfl (by simp [Value.oneCell']) ?_;intro w21 L s3;have b:=(ak (b0 w20) _).trans (s3.below lr);have L2:=Hy L;replace B:=Hy (au B.o b);replace G1:=Hy (G1.o.keeps b);replace G2:=Hy (G2.o.keeps b);replace UY:=Hy (UY.o.keeps b);clear L s3 b) | (refine aS aZ Tryz.underlying31 rfl (.tmp 3) rfl rfl _ _ _ rfl G2.o rfl ?_) | (refine aS aZ Tryz.underlying31 rfl (.tmp 14) rfl rfl _ _ _ rfl L2.o rfl ?_));refine (XT.o _ _ _ B.o UY.o).mono ?_;rintro e w22 ⟨rfl,b22⟩;replace B:=Hy (au B.o b22);clear b22;go_wp2_with fail;go_ret;exact ⟨rfl,B.o⟩
  generalize tyE t=e2 at *;have q2:(e2 != 0)=true:=by simp [h2]
  replace h2:=Hy h2;go_wp2_with fail;go_ret;exact ⟨rfl,B.o⟩
end ch
end Go.Proofs.YtbahfelnbofjjaaGreatDoor
