/-
  Sources and tokens as plain data: what is skipped, the shape of what a source begins with, the codes of problems, the tokens and problems of a source; What the tokens of sources have to do with each other: tokens alone, gaps between them, sources one after the other, offsets; Offsets, lines, what stands where, and words: facts of the tokens of sources as plain data; The error of a decimal that consists of digits, a point and digits: decimal.Parse and the reference agree; Numbers, texts and words as tokens; The classes of bytes: package lexer's table and what it says; Runs of bytes: the closure that collects them; what is skipped; What is skipped.
-/
import Derived.Lib.Join
import Derived.ScopeJumps
import Derived.Test.YtbpijgddfaefkaaGreatDoorK02
set_option maxRecDepth 100000
set_option maxHeartbeats 16000000
namespace Go.Proofs.YtbpijgddfaefkaaGreatDoor
section
open dec
def run (p:UInt8→Bool):List UInt8→Nat
 | []=>0
 | c :: r=>if p c=true then run p r+1 else 0
def isL (c:UInt8):Bool:=decide (97≤c.toNat) && decide (c.toNat≤122)
def isB (c:UInt8):Bool:=decide (c.toNat=9) || decide (c.toNat=10) || decide (c.toNat=13) || decide (c.toNat=32)
def isW (c:UInt8):Bool:=isL c || isD c || decide (c.toNat=95)
def isC (c:UInt8):Bool:=!decide (c.toNat=10)
def isQ (c:UInt8):Bool:=!decide (c.toNat=34) && !decide (c.toNat=10)
def isS (c:UInt8):Bool:=decide (c.toNat ∈ [123,125,40,41,91,93,44,58,59,61,60,43,45,42,47,94,64])
def sk:Bool→List UInt8→Nat
 | _,[]=>0
 | m,c :: r=>if ((m && isC c) || isB c || decide (c.toNat=35))=true then sk (isC c && (m || decide (c.toNat=35))) r+1 else 0
def sgn:List UInt8→Int × Nat
 | []=>(0,0)
 | c :: r=>if (c.toNat=61∨c.toNat=33∨c.toNat=60)∧r.head? = some 61 then (5,2) else if isS c=true then (5,1) else (0,1)
def pnt:List UInt8→Nat
 | []=>0
 | c :: r=>if c.toNat=46 then run isD r else 0
def shp:List UInt8→Int × Nat
 | []=>(0,0)
 | c :: r =>
  if isL c=true then (1,run isW (c :: r))
  else if isD c=true then
   (if pnt ((c :: r).drop (run isD (c :: r)))=0 then (2,run isD (c :: r)) else (3,run isD (c :: r)+1+pnt ((c :: r).drop (run isD (c :: r)))))
  else if c.toNat=34∧(r.drop (run isQ r)).head? = some 34 then (4,run isQ r+2)
  else sgn (c :: r)
def cont (k:Int) (p:List UInt8):List UInt8:=if k=4 then (p.drop 1).take (p.length - 2) else p
def txE (s:List UInt8):Int:=if 64<s.length then 2 else if pB 32 s=true then 0 else 3
def flt (k:Int) (p:List UInt8):Int :=
 if k=1 then (if 24<p.length then 2 else 0)
 else if k=2 then (if 1152921504606846976<dval 0 p then 2 else 0)
 else if k=3 then paE p
 else if k=4 then txE (cont k p)
 else if k=0 then 80
 else 0
structure Tk where
 k:Int
 t:ByteArray
 a:Int
abbrev Pb:=Int × Int
def so (x:Tk):List UInt8:=if x.k=4 then 34 :: (x.t.data.toList++[34]) else x.t.data.toList
theorem iJ (p:UInt8→Bool):∀ l:List UInt8,run p l≤l.length
 | []=>Nat.le_refl _
 | c :: r=>by
  have:=iJ p r
  unfold run
  rw [List.length_cons]
  split <;> omega
theorem nC {p:UInt8→Bool} {d:UInt8} (h:p d=false) (r:List UInt8):∀ l:List UInt8,run p (l++d :: r)=run p l
 | []=>by simp [run,h]
 | c :: l=>by
  rw [List.cons_append]
  unfold run
  rw [nC h r l]
theorem xO (p:UInt8→Bool):∀ (l:List UInt8) (n:Nat),run p (l.take n)=min n (run p l)
 | [],n=>by simp [run]
 | c :: l,0=>by simp [run]
 | c :: l,n+1=>by
  rw [List.take_succ_cons]
  unfold run
  rw [xO p l n]
  split <;> omega
theorem xR (p:UInt8→Bool):∀ (l:List UInt8) (c:UInt8),(l.drop (run p l)).head? = some c→p c=false
 | [],c,h=>by simp [run] at h
 | d :: l,c,h=>by
  unfold run at h
  split at h
  ·rw [List.drop_succ_cons] at h
   exact xR p l c h
  ·rename_i hd
   simp only [List.drop_zero,List.head?_cons,Option.some.injEq] at h
   subst h
   simpa using hd
theorem ko (p:UInt8→Bool):∀ (l:List UInt8),∀ c ∈ l.take (run p l),p c=true
 | [],c,h=>by simp at h
 | d :: l,c,h=>by
  unfold run at h
  split at h
  ·rename_i hd
   rw [List.take_succ_cons,List.mem_cons] at h
   rcases h with rfl | h
   ·exact hd
   ·exact ko p l c h
  ·simp at h
theorem Cj:∀ (m:Bool) (l:List UInt8),sk m l≤l.length
 | _,[]=>Nat.le_refl _
 | m,c :: r=>by
  have:=Cj (isC c && (m || decide (c.toNat=35))) r
  unfold sk
  rw [List.length_cons]
  split <;> omega
theorem xD {c:UInt8} (h:isB c=true) (r:List UInt8):sk false (c :: r)=sk false r+1:=by
 have h35:decide (c.toNat=35)=false:=by
  unfold isB at h;simp only [Bool.or_eq_true,decide_eq_true_eq] at h;exact dF (by omega)
 show (if ((false && isC c) || isB c || decide (c.toNat=35))=true then sk (isC c && (false || decide (c.toNat=35))) r+1 else 0)=_;rw [h,h35];simp
theorem uX:∀ l:List UInt8,sk false l=run isB l+sk false (l.drop (run isB l))
 | []=>rfl
 | c :: r=>by
  unfold run
  split
  ·rename_i h
   rw [xD h,List.drop_succ_cons,uX r]
   omega
  ·simp
theorem Oy {c:UInt8} (h:c.toNat=10):isC c=false:=by unfold isC;rw [h];rfl
theorem Fz {c:UInt8} (h:c.toNat=10):isB c=true:=by unfold isB;rw [h];rfl
theorem Af:∀ l:List UInt8,sk true l=run isC l+sk false (l.drop (run isC l))
 | []=>rfl
 | c :: r=>by
  unfold run
  split
  ·rename_i h
   rw [List.drop_succ_cons]
   show (if ((true && isC c) || isB c || decide (c.toNat=35))=true then sk (isC c && (true || decide (c.toNat=35))) r+1 else 0)=_
   rw [h]
   simp only [Bool.true_and,Bool.true_or,if_true]
   rw [Af r]
   omega
  ·rename_i h
   have h10:c.toNat=10:=by unfold isC at h;simpa using h
   rw [List.drop_zero,xD (Fz h10)]
   show (if ((true && isC c) || isB c || decide (c.toNat=35))=true then sk (isC c && (true || decide (c.toNat=35))) r+1 else 0)=_
   rw [Oy h10,Fz h10]
   simp
theorem Kh {c:UInt8} (h:c.toNat=35) (r:List UInt8):sk false (c :: r)=run isC (c :: r)+sk false ((c :: r).drop (run isC (c :: r))):=by
 have hc:isC c=true:=by unfold isC;rw [h];rfl
 have e:run isC (c :: r)=run isC r+1:=by
  show (if isC c=true then run isC r+1 else 0)=_;rw [if_pos hc]
 rw [e,List.drop_succ_cons];show (if ((false && isC c) || isB c || decide (c.toNat=35))=true then sk (isC c && (false || decide (c.toNat=35))) r+1 else 0)=_;rw [hc,dT h];simp only [Bool.or_true,if_true,Bool.true_and];rw [Af r];omega
theorem Kg {c:UInt8} (h1:isB c=false) (h2:c.toNat≠35) (r:List UInt8):sk false (c :: r)=0:=by
 show (if ((false && isC c) || isB c || decide (c.toNat=35))=true then sk (isC c && (false || decide (c.toNat=35))) r+1 else 0)=_;rw [h1,dF h2];rfl
theorem Ki (m:Bool) (c:UInt8) (r:List UInt8):sk m (c :: r)=if ((m && isC c) || isB c || decide (c.toNat=35))=true then sk (isC c && (m || decide (c.toNat=35))) r+1 else 0:=rfl
theorem dJ (c:UInt8) (r:List UInt8):sgn (c :: r)=if (c.toNat=61∨c.toNat=33∨c.toNat=60)∧r.head? = some 61 then (5,2) else if isS c=true then (5,1) else (0,1):=rfl
theorem Ej:∀ l:List UInt8,(sgn l).2≤l.length
 | []=>Nat.le_refl _
 | [c]=>by
  rw [dJ]
  split
  ·rename_i h;simp at h
  ·split <;> exact Nat.le_refl 1
 | c :: d :: r=>by
  rw [dJ]
  simp only [List.length_cons]
  split
  ·exact Nat.le_add_left 2 _
  ·split <;> exact Nat.le_add_left 1 _
theorem Kl {l:List UInt8} (h:l≠[]):1≤(sgn l).2:=by
 cases l with
 | nil=>exact absurd rfl h
 | cons c r =>
   rw [dJ]
   split
   · exact Nat.le_succ 1
   · split <;> exact Nat.le_refl 1
theorem gV (c:UInt8) (r:List UInt8):pnt (c :: r)=if c.toNat=46 then run isD r else 0:=rfl
theorem NU (l:List UInt8):pnt l=0∨(1≤pnt l∧pnt l+1≤l.length):=by
 cases l with
 | nil=>exact .inl rfl
 | cons c r =>
   have:=iJ isD r
   rw [gV,List.length_cons]
   split <;> omega
theorem bA (c:UInt8) (r:List UInt8):shp (c :: r)=if isL c=true then (1,run isW (c :: r)) else if isD c=true then
   (if pnt ((c :: r).drop (run isD (c :: r)))=0 then (2,run isD (c :: r)) else (3,run isD (c :: r)+1+pnt ((c :: r).drop (run isD (c :: r)))))
  else if c.toNat=34∧(r.drop (run isQ r)).head? = some 34 then (4,run isQ r+2) else sgn (c :: r):=rfl
theorem pY {c:UInt8} (h:isL c=true):isW c=true:=by unfold isW;rw [h];rfl
theorem fZ {p:UInt8→Bool} {c:UInt8} (h:p c=true) (r:List UInt8):run p (c :: r)=run p r+1:=by
 show (if p c=true then run p r+1 else 0)=_;rw [if_pos h]
theorem yH {l:List UInt8} {n:Nat} {c:UInt8} (h:(l.drop n).head? = some c):n<l.length:=by
 rcases Nat.lt_or_ge n l.length with h1 | h1
 ·exact h1
 rw [List.drop_eq_nil_of_le h1] at h;cases h
theorem mF:∀ l:List UInt8,(shp l).2≤l.length
 | []=>Nat.le_refl _
 | c :: r=>by
  rw [bA]
  split
  ·exact iJ _ _
  ·split
   ·rename_i hd
    have h2:=iJ isD (c :: r)
    rcases NU ((c :: r).drop (run isD (c :: r))) with h | ⟨h,h1⟩
    ·rw [if_pos h];exact h2
    ·rw [if_neg (by omega)]
     rw [List.length_drop] at h1
     show run isD (c :: r)+1+_≤_
     omega
   ·split
    ·rename_i h
     have:=yH h.2
     rw [List.length_cons]
     show run isQ r+2≤_
     omega
    ·exact Ej _
theorem kg {l:List UInt8} (h:l≠[]):1≤(shp l).2:=by
 cases l with
 | nil=>exact absurd rfl h
 | cons c r =>
   rw [bA]
   split
   · rename_i hl
     show 1≤run isW (c :: r)
     rw [fZ (pY hl)]
     omega
   · split
     · rename_i hd
       have:1≤run isD (c :: r):=by rw [fZ hd];omega
       split
       · exact this
       · show 1≤run isD (c :: r)+1+_
         omega
     · split
       · exact Nat.le_add_left 1 _
       · exact Kl (by simp)
theorem xJ (l:List UInt8):(shp l).1=0∨(shp l).1=1∨(shp l).1=2∨(shp l).1=3∨(shp l).1=4∨(shp l).1=5:=by
 cases l with
 | nil=>exact .inl rfl
 | cons c r =>
   rw [bA]
   split
   · simp
   · split
     · split <;> simp
     · split
       · simp
       · rw [dJ]
         split
         · simp
         · split <;> simp
def lxs (p:Nat) (f:Bool) (l:List UInt8):List Tk × List Pb :=
 if _h:l.drop (sk false l)=[] then ([],[])
 else
  let l':=l.drop (sk false l)
  let R:=lxs (p+sk false l+(shp l').2) (decide ((shp l').1=0)) (l'.drop (shp l').2)
  if flt (shp l').1 (l'.take (shp l').2)=0 then (⟨(shp l').1,⟨(cont (shp l').1 (l'.take (shp l').2)).toArray⟩,((p+sk false l:Nat):Int)⟩ :: R.1,R.2)
  else if (shp l').1=0∧f=true∧sk false l=0 then R
  else (R.1,(((p+sk false l:Nat):Int),flt (shp l').1 (l'.take (shp l').2)) :: R.2)
 termination_by l.length
 decreasing_by
 have h1:=kg _h
 have h2:(l.drop (sk false l)).length≠0:=fun e=>_h (List.eq_nil_of_length_eq_zero e)
 rw [List.length_drop,List.length_drop]
 rw [List.length_drop] at h2
 omega
theorem nJ {l:List UInt8} (h:l.drop (sk false l)=[]) (p:Nat) (f:Bool):lxs p f l=([],[]):=by
 rw [lxs,dif_pos h]
theorem nI {l l':List UInt8} (h:l.drop (sk false l)=l') (h0:l'≠[]) (p:Nat) (f:Bool):lxs p f l =
    if flt (shp l').1 (l'.take (shp l').2)=0 then (⟨(shp l').1,⟨(cont (shp l').1 (l'.take (shp l').2)).toArray⟩,((p+sk false l:Nat):Int)⟩ :: (lxs (p+sk false l+(shp l').2) (decide ((shp l').1=0)) (l'.drop (shp l').2)).1,(lxs (p+sk false l+(shp l').2) (decide ((shp l').1=0)) (l'.drop (shp l').2)).2)
    else if (shp l').1=0∧f=true∧sk false l=0 then lxs (p+sk false l+(shp l').2) (decide ((shp l').1=0)) (l'.drop (shp l').2)
    else ((lxs (p+sk false l+(shp l').2) (decide ((shp l').1=0)) (l'.drop (shp l').2)).1,(((p+sk false l:Nat):Int),flt (shp l').1 (l'.take (shp l').2)) :: (lxs (p+sk false l+(shp l').2) (decide ((shp l').1=0)) (l'.drop (shp l').2)).2):=by
 subst h;rw [lxs,dif_neg h0]
def Sep (x:List UInt8):Prop:=x=[]∨∃ r,x=32 :: r
theorem run_end {p:UInt8→Bool} (h:p 32=false) {x:List UInt8} (hx:Sep x) (l:List UInt8):run p (l++x)=run p l:=by
 rcases hx with rfl | ⟨r,rfl⟩
 ·rw [List.append_nil]
 exact nC h r l
theorem kE (p:UInt8→Bool) (l:List UInt8):run p (l.take (run p l))=run p l:=by rw [xO];omega
theorem drop_cons {l:List UInt8} {n:Nat} {c:UInt8} (h:(l.drop n).head? = some c):l.drop n=c :: l.drop (n+1):=by
 have hl:=yH h;rw [List.drop_eq_getElem_cons hl] at h ⊢;simp only [List.head?_cons,Option.some.injEq] at h;rw [h]
theorem qD {l:List UInt8} {n:Nat} {c:UInt8} (h:(l.drop n).head? = some c):l=l.take n++c :: l.drop (n+1):=by
 rw [← drop_cons h,List.take_append_drop]
theorem take_len {l:List UInt8} {n:Nat} (h:n≤l.length):(l.take n).length=n:=by rw [List.length_take];omega
theorem uK {l r:List UInt8} {m:Nat} (h:m=l.length):(l++r).drop m=r:=by subst h;exact List.drop_left' rfl
theorem oq {l:List UInt8} {n:Nat} {c:UInt8} (h:(l.drop n).head? = some c) (k:Nat):l.take (n+1+k)=l.take n++c :: (l.drop (n+1)).take k:=by
 rw [show n+1+k=n+(k+1) by omega,List.take_add,drop_cons h,List.take_succ_cons]
theorem KH {x:List UInt8} (hx:Sep x):pnt x=0:=by
 rcases hx with rfl | ⟨r,rfl⟩
 ·rfl
 rfl
theorem Hg {l:List UInt8} (h:pnt l≠0):∃ c r,l=c :: r∧c.toNat=46∧pnt l=run isD r:=by
 cases l with
 | nil=>exact absurd rfl h
 | cons c r =>
   rw [gV] at h ⊢
   split at h
   · rename_i hc
     exact ⟨c,r,rfl,hc,by rw [if_pos hc]⟩
   · exact absurd rfl h
theorem Ox {c:UInt8} (h:c.toNat=46):isD c=false:=by unfold isD;rw [h];rfl
theorem Gs {c:UInt8} {d:UInt8} (h:c.toNat=d.toNat):c=d:=UInt8.toNat_inj.1 h
theorem Ai {c:UInt8} (h:isS c=true∨c.toNat=61∨c.toNat=33∨c.toNat=60):c.toNat≠34:=by
 intro e;rcases h with h | h
 ·unfold isS at h;rw [e] at h;exact absurd h (by decide)
 omega
theorem xI {l x:List UInt8} (hk:(shp l).1≠0) (hx:Sep x):shp (l.take (shp l).2++x)=shp l:=by
 cases l with
 | nil=>exact absurd rfl hk
 | cons c r =>
   by_cases hl:isL c=true
   · have e:shp (c :: r)=(1,run isW r+1):=by rw [bA,if_pos hl,fZ (pY hl)]
     rw [e,List.take_succ_cons,List.cons_append,bA,if_pos hl,fZ (pY hl),run_end (by decide) hx,kE]
   · by_cases hd:isD c=true
     · have ed:=fZ hd r
       by_cases hp:pnt ((c :: r).drop (run isD (c :: r)))=0
       · have e:shp (c :: r)=(2,run isD r+1):=by rw [bA,if_neg hl,if_pos hd,if_pos hp,ed]
         have e2:run isD (c :: (r.take (run isD r)++x))=run isD r+1:=by rw [fZ hd,run_end (by decide) hx,kE]
         rw [e,List.take_succ_cons,List.cons_append,bA,if_neg hl,if_pos hd,e2,List.drop_succ_cons,uK (take_len (iJ _ _)).symm,if_pos (KH hx)]
       · have e:shp (c :: r)=(3,run isD (c :: r)+1+pnt ((c :: r).drop (run isD (c :: r)))):=by rw [bA,if_neg hl,if_pos hd,if_neg hp]
         obtain ⟨d,y,hy,h46,hq⟩:=Hg hp
         have hs:=qD (l:=c :: r) (n:=run isD (c :: r)) (c:=d) (by rw [hy];rfl)
         have hy2:(c :: r).drop (run isD (c :: r)+1)=y:=by
           have:=drop_cons (l:=c :: r) (n:=run isD (c :: r)) (c:=d) (by rw [hy];rfl)
           rw [hy] at this
           exact (List.cons.inj this).2.symm
         rw [hy2] at hs
         rw [e,hq]
         have hn:=take_len (iJ isD (c :: r))
         have et:(c :: r).take (run isD (c :: r)+1+run isD y)=(c :: r).take (run isD (c :: r))++d :: y.take (run isD y):=by
           rw [oq (c:=d) (by rw [hy];rfl),hy2]
         have hc:(c :: r).take (run isD (c :: r))=c :: r.take (run isD r):=by rw [ed,List.take_succ_cons]
         have et2:(c :: r).take (run isD (c :: r)+1+run isD y)++x=c :: (r.take (run isD r)++d :: (y.take (run isD y)++x)):=by
           rw [et,hc];simp
         have en:run isD (c :: (r.take (run isD r)++d :: (y.take (run isD y)++x)))=run isD r+1:=by
           rw [fZ hd,nC (Ox h46),kE]
         have ep:pnt ((c :: (r.take (run isD r)++d :: (y.take (run isD y)++x))).drop (run isD r+1))=run isD y:=by
           rw [List.drop_succ_cons,uK (take_len (iJ _ _)).symm,gV,if_pos h46,run_end (by decide) hx,kE]
         rw [et2,bA,if_neg hl,if_pos hd,en,ep,if_neg (by omega),ed]
     · by_cases hq:c.toNat=34∧(r.drop (run isQ r)).head? = some 34
       · have e:shp (c :: r)=(4,run isQ r+1+1):=by rw [bA,if_neg hl,if_neg hd,if_pos hq]
         have hs:=qD hq.2
         have et:r.take (run isQ r+1)=r.take (run isQ r)++[34]:=by
           have:=oq hq.2 0
           simpa using this
         have en:run isQ (r.take (run isQ r)++34 :: x)=run isQ r:=by rw [nC (by decide),kE]
         rw [e,List.take_succ_cons,List.cons_append,et,List.append_assoc,bA,if_neg hl,if_neg hd]
         show (if c.toNat=34∧((r.take (run isQ r)++34 :: x).drop (run isQ (r.take (run isQ r)++34 :: x))).head? = some 34 then (4,run isQ (r.take (run isQ r)++34 :: x)+2) else _)=_
         rw [en,uK (take_len (iJ _ _)).symm,if_pos ⟨hq.1,rfl⟩]
       · have e:shp (c :: r)=sgn (c :: r):=by rw [bA,if_neg hl,if_neg hd,if_neg hq]
         rw [e] at hk ⊢
         rw [dJ] at hk ⊢
         by_cases h2:(c.toNat=61∨c.toNat=33∨c.toNat=60)∧r.head? = some 61
         · rw [if_pos h2]
           cases r with
           | nil=>cases h2.2
           | cons d r =>
             have hd61:d=61:=by simpa using h2.2
             subst hd61
             show shp (c :: 61 :: x)=_
             rw [bA,if_neg hl,if_neg hd,if_neg (fun h=>Ai (.inr h2.1) h.1),dJ,if_pos ⟨h2.1,rfl⟩]
         · rw [if_neg h2] at hk ⊢
           by_cases hS:isS c=true
           · rw [if_pos hS]
             show shp (c :: x)=_
             rw [bA,if_neg hl,if_neg hd,if_neg (fun h=>Ai (.inl hS) h.1),dJ,if_neg,if_pos hS]
             rintro ⟨_,h⟩
             rcases hx with rfl | ⟨r,rfl⟩
             · cases h
             · cases h
           · rw [if_neg hS] at hk
             exact absurd rfl hk
theorem xH {l:List UInt8} (h:(shp l).1=4):l.take (shp l).2=34 :: (cont 4 (l.take (shp l).2)++[34]):=by
 cases l with
 | nil=>cases h
 | cons c r =>
   rw [bA] at h ⊢
   split at h
   · cases h
   · rename_i hl
     split at h
     · split at h <;> cases h
     · rename_i hd
       split at h
       · rename_i hq
         rw [if_neg hl,if_neg hd,if_pos hq]
         have hs:=qD hq.2
         have et:r.take (run isQ r+1)=r.take (run isQ r)++[34]:=by
           have:=oq hq.2 0
           simpa using this
         have hc:c=34:=Gs hq.1
         subst hc
         show (34 :: r).take (run isQ r+1+1)=_
         rw [List.take_succ_cons,et]
         unfold cont
         rw [if_pos rfl]
         simp
       · rw [dJ] at h
         split at h
         · cases h
         · split at h <;> cases h
theorem sZ {k:Int} (h:k≠4) (p:List UInt8):cont k p=p:=by unfold cont;rw [if_neg h]
theorem Ad (l:List UInt8) (a:Int):so ⟨(shp l).1,⟨(cont (shp l).1 (l.take (shp l).2)).toArray⟩,a⟩=l.take (shp l).2:=by
 unfold so;by_cases h:(shp l).1=4
 ·rw [if_pos h,h];exact (xH h).symm
 rw [if_neg h];show (cont _ _)=_;rw [sZ h]
def pr (x:Tk):Bool:=decide (shp (so x)=(x.k,(so x).length)) && decide (flt x.k (so x)=0)
theorem aR (x:Tk):pr x=true↔shp (so x)=(x.k,(so x).length)∧flt x.k (so x)=0:=by unfold pr;rw [Bool.and_eq_true,decide_eq_true_eq,decide_eq_true_eq]
theorem pw0:pr ⟨5,⟨#[94]⟩,0⟩=true:=by rw [aR];exact ⟨by decide,by decide⟩
theorem pw1:pr ⟨5,⟨#[45]⟩,0⟩=true:=by rw [aR];exact ⟨by decide,by decide⟩
theorem pw2:pr ⟨5,⟨#[91]⟩,0⟩=true:=by rw [aR];exact ⟨by decide,by decide⟩
theorem pw3:pr ⟨5,⟨#[42]⟩,0⟩=true:=by rw [aR];exact ⟨by decide,by decide⟩
theorem pw4:pr ⟨5,⟨#[93]⟩,0⟩=true:=by rw [aR];exact ⟨by decide,by decide⟩
theorem pw5:pr ⟨1,⟨#[98,111,111,108]⟩,0⟩=true:=by rw [aR];exact ⟨by decide,by decide⟩
theorem pw6:pr ⟨1,⟨#[116,101,120,116]⟩,0⟩=true:=by rw [aR];exact ⟨by decide,by decide⟩
theorem pw7:pr ⟨1,⟨#[107,101,121]⟩,0⟩=true:=by rw [aR];exact ⟨by decide,by decide⟩
theorem pw8:pr ⟨1,⟨#[105,110,116]⟩,0⟩=true:=by rw [aR];exact ⟨by decide,by decide⟩
theorem pw9:pr ⟨1,⟨#[100,101,99]⟩,0⟩=true:=by rw [aR];exact ⟨by decide,by decide⟩
theorem pw10:pr ⟨1,⟨#[97,108,108]⟩,0⟩=true:=by rw [aR];exact ⟨by decide,by decide⟩
theorem pw11:pr ⟨1,⟨#[115,108,105,100,105,110,103]⟩,0⟩=true:=by rw [aR];exact ⟨by decide,by decide⟩
theorem pw12:pr ⟨1,⟨#[116,117,109,98,108,105,110,103]⟩,0⟩=true:=by rw [aR];exact ⟨by decide,by decide⟩
theorem pw13:pr ⟨1,⟨#[115,101,115,115,105,111,110]⟩,0⟩=true:=by rw [aR];exact ⟨by decide,by decide⟩
theorem pw14:pr ⟨1,⟨#[105,102]⟩,0⟩=true:=by rw [aR];exact ⟨by decide,by decide⟩
theorem pw15:pr ⟨1,⟨#[100,101,102,97,117,108,116]⟩,0⟩=true:=by rw [aR];exact ⟨by decide,by decide⟩
theorem pw16:pr ⟨1,⟨#[116,104,101,110]⟩,0⟩=true:=by rw [aR];exact ⟨by decide,by decide⟩
theorem pw17:pr ⟨1,⟨#[101,108,115,101]⟩,0⟩=true:=by rw [aR];exact ⟨by decide,by decide⟩
theorem pw18:pr ⟨1,⟨#[116,114,117,101]⟩,0⟩=true:=by rw [aR];exact ⟨by decide,by decide⟩
theorem pw19:pr ⟨1,⟨#[102,97,108,115,101]⟩,0⟩=true:=by rw [aR];exact ⟨by decide,by decide⟩
theorem pw20:pr ⟨1,⟨#[110,117,108,108]⟩,0⟩=true:=by rw [aR];exact ⟨by decide,by decide⟩
theorem pw21:pr ⟨1,⟨#[111,102]⟩,0⟩=true:=by rw [aR];exact ⟨by decide,by decide⟩
theorem pw22:pr ⟨5,⟨#[40]⟩,0⟩=true:=by rw [aR];exact ⟨by decide,by decide⟩
theorem pw23:pr ⟨5,⟨#[41]⟩,0⟩=true:=by rw [aR];exact ⟨by decide,by decide⟩
theorem pw24:pr ⟨5,⟨#[44]⟩,0⟩=true:=by rw [aR];exact ⟨by decide,by decide⟩
theorem pw25:pr ⟨1,⟨#[119,104,101,114,101]⟩,0⟩=true:=by rw [aR];exact ⟨by decide,by decide⟩
theorem pw26:pr ⟨5,⟨#[64]⟩,0⟩=true:=by rw [aR];exact ⟨by decide,by decide⟩
theorem pw27:pr ⟨1,⟨#[110,111,116]⟩,0⟩=true:=by rw [aR];exact ⟨by decide,by decide⟩
theorem pw28:pr ⟨5,⟨#[58]⟩,0⟩=true:=by rw [aR];exact ⟨by decide,by decide⟩
theorem pw29:pr ⟨1,⟨#[102,101,97,116,117,114,101]⟩,0⟩=true:=by rw [aR];exact ⟨by decide,by decide⟩
theorem pw30:pr ⟨5,⟨#[61]⟩,0⟩=true:=by rw [aR];exact ⟨by decide,by decide⟩
theorem pw31:pr ⟨5,⟨#[59]⟩,0⟩=true:=by rw [aR];exact ⟨by decide,by decide⟩
theorem pw32:pr ⟨5,⟨#[123]⟩,0⟩=true:=by rw [aR];exact ⟨by decide,by decide⟩
theorem pw33:pr ⟨5,⟨#[125]⟩,0⟩=true:=by rw [aR];exact ⟨by decide,by decide⟩
theorem pw34:pr ⟨1,⟨#[107,101,101,112]⟩,0⟩=true:=by rw [aR];exact ⟨by decide,by decide⟩
theorem pw35:pr ⟨1,⟨#[116,97,98,108,101]⟩,0⟩=true:=by rw [aR];exact ⟨by decide,by decide⟩
theorem KG {x:Tk} (h:pr x=true):x.k=1∨x.k=2∨x.k=3∨x.k=4∨x.k=5:=by
 have h2:=(aR x).1 h;have h3:=xJ (so x);rw [h2.1] at h3;rcases h3 with h3 | h3
 ·have h4:=h2.2;rw [show x.k=0 from h3] at h4;unfold flt at h4;simp at h4
 exact h3
theorem pW {C:Nat→Bool→List UInt8→Prop} (h0:∀ p f l,l.drop (sk false l)=[]→C p f l)
  (h1:∀ p f l l',l.drop (sk false l)=l'→l'≠[]→C (p+sk false l+(shp l').2) (decide ((shp l').1=0)) (l'.drop (shp l').2)→C p f l):∀ (n p:Nat) (f:Bool) (l:List UInt8),l.length≤n→C p f l
 | n,p,f,l,hn=>by
  by_cases h:l.drop (sk false l)=[]
  ·exact h0 p f l h
  ·refine h1 p f l _ rfl h ?_
   have h1:=kg h
   have h2:=mF (l.drop (sk false l))
   have h3:(l.drop (sk false l)).length≠0:=fun e=>h (List.eq_nil_of_length_eq_zero e)
   have h4:(l.drop (sk false l)).length≤l.length:=by rw [List.length_drop];omega
   match n,hn with
   | 0,hn=>omega
   | n+1,hn=>exact pW h0 h1' n _ _ _ (by rw [List.length_drop];omega)
 where
 h1':∀ p f l l',l.drop (sk false l)=l'→l'≠[]→C (p+sk false l+(shp l').2) (decide ((shp l').1=0)) (l'.drop (shp l').2)→C p f l:=h1
def Cov (src:List UInt8):Nat→List Tk→Prop
 | _,[]=>True
 | p,x :: l => ∃ a:Nat,x.a=(a:Nat)∧p≤a∧a+(so x).length≤src.length∧(src.drop a).take (so x).length=so x∧x.k≠6∧Cov src (a+(so x).length) l
def CovB (n:Nat):Nat→List Pb→Prop
 | _,[]=>True
 | p,q :: l => ∃ a:Nat,q.1=(a:Nat)∧p≤a∧a<n∧q.2≠0∧CovB n (a+1) l
theorem CovB.less {n:Nat} : ∀ {l:List Pb} {p q:Nat},q≤p→CovB n p l→CovB n q l
 | [],_,_,_,_=>trivial
 | _ :: _,_,_,h,⟨a,h1,h2,h3⟩=>⟨a,h1,Nat.le_trans h h2,h3⟩
theorem Cov.less {s:List UInt8} : ∀ {l:List Tk} {p q:Nat},q≤p→Cov s p l→Cov s q l
 | [],_,_,_,_=>trivial
 | _ :: _,_,_,h,⟨a,h1,h2,h3⟩=>⟨a,h1,Nat.le_trans h h2,h3⟩
theorem AU (src:List UInt8) (p:Nat) (f:Bool) (l:List UInt8) (h:src.drop p=l) (hp:p≤src.length):Cov src p (lxs p f l).1∧CovB src.length p (lxs p f l).2:=by
 refine pW (C:=fun p f l=>src.drop p=l→p≤src.length→Cov src p (lxs p f l).1∧CovB src.length p (lxs p f l).2) ?_ ?_ l.length p f l lr h hp
 ·intro p f l h _ _;rw [nJ h];exact ⟨trivial,trivial⟩
 intro p f l l' h h0 ih hl hp;have hn:=mF l';have h1:=kg h0;have hlen:l'.length=l.length - sk false l:=by rw [← h,List.length_drop]
 have hlen2:l.length=src.length - p:=by rw [← hl,List.length_drop]
 have hsk:=Cj false l;have hdr:src.drop (p+sk false l)=l':=by rw [← List.drop_drop,hl,h]
 obtain ⟨i1,i2⟩:=ih (by rw [← hdr,List.drop_drop]) (by omega);have hso:=Ad l';have htl:(l'.take (shp l').2).length=(shp l').2:=take_len hn;rw [nI h h0];split
 ·refine ⟨⟨p+sk false l,rfl,by omega,?_,?_,?_,?_⟩,i2.less (by omega)⟩
  ·rw [hso,htl];omega
  ·rw [hso,htl,hdr]
  ·have:=xJ l';show (shp l').1≠6;omega
  rw [hso,htl];exact i1
 rename_i hf;split
 ·exact ⟨i1.less (by omega),i2.less (by omega)⟩
 exact ⟨i1.less (by omega),⟨p+sk false l,rfl,by omega,by omega,hf,i2.less (by omega)⟩⟩
theorem yE (p:Nat) (f:Bool) (l:List UInt8):∀ x ∈ (lxs p f l).1,pr x=true:=by
 refine pW (C:=fun p f l => ∀ x ∈ (lxs p f l).1,pr x=true) ?_ ?_ l.length p f l lr
 ·intro p f l h x hx;rw [nJ h] at hx;cases hx
 intro p f l l' h h0 ih x hx;rw [nI h h0] at hx;split at hx
 ·rename_i hf;rcases List.mem_cons.1 hx with rfl | hx
  ·have hk:(shp l').1≠0:=by
    intro e;rw [e] at hf;unfold flt at hf;simp at hf
   have hs:=xI hk (.inl rfl:Sep []);rw [List.append_nil] at hs;rw [aR];show shp (so _)=((shp l').1,(so _).length)∧flt (shp l').1 (so _)=0;rw [Ad,hs,take_len (mF l')];exact ⟨rfl,hf⟩
  exact ih x hx
 split at hx
 ·exact ih x hx
 exact ih x hx
theorem tX (src:List UInt8):∀ (l:List Tk) (p:Nat),p≤src.length→Cov src p l→(l.map fun x=>(so x).length).sum≤src.length - p
 | [],_,_,_=>Nat.zero_le _
 | x :: l,p,hp,⟨a,h1,h2,h3,_,_,h4⟩=>by
  have:=tX src l _ h3 h4
  rw [List.map_cons,List.sum_cons]
  omega
theorem ED {x:Tk} (h:pr x=true):1≤(so x).length:=by
 obtain ⟨h1,h2⟩:=(aR x).1 h;have h3:=KG h;have:=kg (l:=so x) (fun e=>by rw [e] at h1;have:=(Prod.mk.inj h1).1;omega);rw [h1] at this;exact this
theorem AV:∀ (l:List Tk),(∀ x ∈ l,pr x=true)→l.length≤(l.map fun x=>(so x).length).sum
 | [],_=>Nat.le_refl _
 | x :: l,h=>by
  have h1:=ED (h x (List.mem_cons_self ..))
  have h2:=AV l fun y hy=>h y (List.mem_cons_of_mem _ hy)
  rw [List.map_cons,List.sum_cons,List.length_cons]
  omega
def wd1 (s:ByteArray):Bool:=pr ⟨1,s,0⟩
def Tw (n:Int) (v:Nat):Prop:=(v≤1152921504606846976∧n=v)∨(1152921504606846976<v∧1152921504606846976<n)
theorem Pz {n d:Int} {a c:Nat} (h:Tw n a) (hd:d=(c:Int)) (hc:c≤9):Tw (wd n d) (a * 10+c):=by
 unfold Tw at *;unfold wd;split <;> omega
theorem Eo {n a c:Nat} (h:Tw (n:Int) a) (hc:c≤9):Tw ((sat n c:Nat):Int) (a * 10+c):=by
 unfold Tw at *;unfold sat;omega
theorem rV (l:List UInt8):∀ (ds r:List UInt8) (k i:Nat) (n:Int) (a p:Nat),l.drop i=ds++r→(∀ c ∈ ds,isD c=true)→Tw n a →
  ∃ n',Tw n' (dval a ds)∧dec.rd l (k+ds.length) i n p=dec.rd l k (i+ds.length) n' p
 | [],r,k,i,n,a,p,_,_,ht=>⟨n,ht,rfl⟩
 | c :: ds,r,k,i,n,a,p,h,hd,ht=>by
  obtain ⟨hi,hb,hr⟩:=iw h
  have hc:=(dZ c).1 (hd c (List.mem_cons_self ..))
  have hw:=Pz (d:=dh l i - 48) (c:=c.toNat - 48) ht (by rw [hb];omega) (by omega)
  obtain ⟨n',h1,h2⟩:=rV l ds r k (i+1) _ _ p hr (fun d hd' => hd d (List.mem_cons_of_mem _ hd')) hw
  refine ⟨n',by rw [jc];exact h1,?_⟩
  rw [List.length_cons,← Nat.add_assoc,dec.rd,if_pos hi,if_pos (by rw [hb];omega),h2,Nat.add_assoc,Nat.add_comm 1]
theorem oz:∀ (ds:List UInt8) (x a:Nat) (b:Int),(∀ d ∈ ds,isD d=true)→Tw (x:Int) a→∃ x':Nat,Tw (x':Int) (dval a ds)∧ds.foldl stp (x,b)=(x',if 0≤b then b+ds.length else b)
 | [],x,a,b,_,ht=>⟨x,ht,by simp⟩
 | c :: ds,x,a,b,h,ht=>by
  have hc:=h c (List.mem_cons_self ..)
  have hc2:=(dZ c).1 hc
  have e46:c≠46:=iL (n:=46) (by decide) (by omega)
  have hs:stp (x,b) c=(sat x (c.toNat - 48),if 0≤b then b+1 else b):=by
   unfold stp
   simp only [if_neg e46,hc,if_true]
  obtain ⟨x',h1,h2⟩:=oz ds _ _ (if 0≤b then b+1 else b) (fun d hd=>h d (List.mem_cons_of_mem _ hd)) (Eo (c:=c.toNat - 48) ht (by omega))
  refine ⟨x',by rw [jc];exact h1,?_⟩
  rw [List.foldl_cons,hs,h2,List.length_cons]
  congr 1
  by_cases hb:0≤b
  ·rw [if_pos hb,if_pos (by omega),if_pos hb];omega
  ·rw [if_neg hb,if_neg hb,if_neg hb]
theorem xM:∀ (k x a:Nat),Tw (x:Int) a→Tw ((scl k x:Nat):Int) (a * 10 ^ k)
 | 0,x,a,h=>by rw [Nat.pow_zero,Nat.mul_one];exact h
 | k+1,x,a,h=>by
  have h1:=xM k _ _ (Eo (c:=0) h (by omega))
  rw [Nat.add_zero,Nat.mul_assoc,← Nat.pow_succ'] at h1
  exact h1
theorem DI {n:Int} {v:Nat} (h:Tw n v) {q:Nat} (hq:1≤q):0≤n∧(1152921504606846976<n * q↔1152921504606846976<v * q):=by
 have h0:0≤n:=by unfold Tw at h;omega
 refine ⟨h0,?_⟩;rcases h with ⟨h1,rfl⟩ | ⟨h1,h2⟩
 ·rw [← Int.natCast_mul];generalize v * q=z;omega
 have a1:=Int.mul_le_mul_of_nonneg_left (show (1:Int)≤(q:Int) by omega) h0;have a2:=Nat.mul_le_mul_left v hq;rw [Int.mul_one] at a1;rw [Nat.mul_one] at a2;generalize n * (q:Int)=z at *;generalize v * q=y at *;omega
theorem Ao {k:Nat} (h:k≤6):kT.getD (6 - (k:Int)).toNat 0=((10 ^ (6 - k):Nat):Int):=by
 obtain h | h | h | h | h | h | h:k=0∨k=1∨k=2∨k=3∨k=4∨k=5∨k=6:=by omega
 all_goals (subst h;rfl)
def dcE (ds fs:List UInt8):Int:=if 6<fs.length then 3 else if 1152921504606846976<dval (dval 0 ds) fs * 10 ^ (6 - fs.length) then 2 else 0
theorem pJ:Tw 0 0:=.inl ⟨by omega,rfl⟩
theorem NY {ds fs:List UInt8} (h1:ds≠[]) (h2:fs≠[]) (hd:∀ c ∈ ds,isD c=true) (hf:∀ c ∈ fs,isD c=true):paE (ds++46 :: fs)=dcE ds fs:=by
 obtain ⟨l,hl⟩:∃ l,l=ds++46 :: fs:=⟨_,rfl⟩;have hdl:1≤ds.length:=by cases ds;exact absurd rfl h1;simp
 have hfl:1≤fs.length:=by cases fs;exact absurd rfl h2;simp
 have hlen:l.length=ds.length+(fs.length+1):=by rw [hl];simp
 obtain ⟨n1,t1,s1⟩:=rV l ds (46 :: fs) (fs.length+1) 0 0 0 l.length (by rw [hl];rfl) hd pJ;rw [Nat.zero_add] at s1;have hdr:l.drop ds.length=46 :: fs:=by rw [hl,List.drop_left]
 obtain ⟨b1,b2,b3⟩:=iw hdr;have e46:dh l ds.length=46:=by rw [b2];rfl
 have s2:dec.rd l (fs.length+1) ds.length n1 l.length=dec.rd l fs.length (ds.length+1) n1 ds.length:=by
  rw [dec.rd,if_pos b1,if_neg (by omega),if_pos ⟨e46,rfl⟩]
 obtain ⟨n2,t2,s3⟩:=rV l fs [] 0 (ds.length+1) n1 _ ds.length (by rw [b3,List.append_nil]) hf t1;rw [Nat.zero_add] at s3;have s4:dec.rd l l.length 0 0 l.length=(ds.length+1+fs.length,n2,ds.length):=by
  rw [show dec.rd l l.length 0 0 l.length=dec.rd l (fs.length+1+ds.length) 0 0 l.length by rw [show fs.length+1+ds.length=l.length by omega],s1,s2,s3];rfl
 have hall:dw l=if 6<fs.length then (0,0,false) else (n2,(fs.length:Int),true):=by
  unfold dw;rw [s4];unfold iQ;simp only;rw [hlen,if_neg (by omega),if_neg (by omega)];by_cases h6:6<fs.length
  ·rw [if_pos h6,if_pos (by omega)]
  rw [if_neg h6,if_neg (by omega)];congr 2;omega
 obtain ⟨c,r,rfl⟩:∃ c r,ds=c :: r:=by cases ds;exact absurd rfl h1;exact ⟨_,_,rfl⟩
 have hc:=(dZ c).1 (hd c (List.mem_cons_self ..));have hpre:=vD (c:=c) (iL (n:=45) (by decide) (by omega)) (r++46 :: fs);rw [← List.cons_append,← hl] at hpre;rw [← hl];unfold paE uj dcE;rw [hpre.1,hpre.2,hall];by_cases h6:6<fs.length
 ·rw [if_pos h6,if_pos h6];rfl
 rw [if_neg h6,if_neg h6];simp only [Bool.false_eq_true,if_false,if_true];rw [Ao (by omega)];obtain ⟨t3,t4⟩:=DI t2 (q:=10 ^ (6 - fs.length)) (Nat.pow_pos (by decide));have t5:=Int.mul_nonneg t3 (Int.natCast_nonneg (10 ^ (6 - fs.length)));generalize n2 * ((10 ^ (6 - fs.length):Nat):Int)=z at *;generalize dval (dval 0 (c :: r)) fs * 10 ^ (6 - fs.length)=y at *;by_cases h7:1152921504606846976<y
 ·rw [if_pos h7,(wC z).2 (by omega)];rfl
 rw [if_neg h7,(rU z).2 (by omega)];rfl
theorem NA {ds fs:List UInt8} (h1:ds≠[]) (h2:fs≠[]) (hd:∀ c ∈ ds,isD c=true) (hf:∀ c ∈ fs,isD c=true):(rpP (ds++46 :: fs)).2=dcE ds fs:=by
 obtain ⟨l,hl⟩:∃ l,l=ds++46 :: fs:=⟨_,rfl⟩;have hdl:1≤ds.length:=by cases ds;exact absurd rfl h1;simp
 have hfl:1≤fs.length:=by cases fs;exact absurd rfl h2;simp
 have hlen:l.length=ds.length+(fs.length+1):=by rw [hl];simp
 have hh:l.head?≠some 45:=by
  obtain ⟨c,r,rfl⟩:∃ c r,ds=c :: r:=by cases ds;exact absurd rfl h1;exact ⟨_,_,rfl⟩
  have hc:=(dZ c).1 (hd c (List.mem_cons_self ..));rw [hl,List.cons_append,List.head?_cons];simpa using iL (n:=45) (by decide) (by omega)
 have ha:atP l=0:=by unfold atP;rw [if_neg hh]
 have hg1:dgn l=ds.length:=by rw [hl];exact nT 46 rfl fs ds hd
 have hdr:l.drop ds.length=46 :: fs:=by rw [hl,List.drop_left]
 have hdr2:l.drop (ds.length+1)=fs:=by rw [← List.drop_drop,hdr];rfl
 have hg2:dgn fs=fs.length:=uL fs hf;have hgd:l.getD ds.length 0=46:=by
  have:=(iw hdr).1;rw [List.drop_eq_getElem_cons this] at hdr;injection hdr with h1 _
  rw [List.getD_eq_getElem?_getD,List.getElem?_eq_getElem this,h1];rfl
 have hform:fO l=decide (fs.length≤6):=by
  unfold fO;rw [ha,List.drop_zero,hg1,Nat.zero_add,hdr2,hg2,hgd,if_neg (by omega),hlen,if_neg (by omega)];rw [Bool.eq_iff_iff];simp only [Bool.and_eq_true,decide_eq_true_eq];constructor
  ·intro h;omega
  intro h;exact ⟨⟨⟨trivial,hfl⟩,h⟩,by omega⟩
 obtain ⟨x1,t1,s1⟩:=oz ds 0 0 (-1) hd pJ;obtain ⟨x2,t2,s2⟩:=oz fs x1 _ 0 hf t1;have hfold:l.foldl stp (0,-1)=(x2,(fs.length:Int)):=by
  rw [hl,List.foldl_append,s1,if_neg (by omega),List.foldl_cons,show stp (x1,-1) 46=(x1,0) from rfl,s2,if_pos (by omega),Int.zero_add]
 rw [← hl];unfold rpP dcE;rw [hform,hfold];by_cases h6:6<fs.length
 ·rw [if_pos h6,dF (by omega)];rfl
 rw [if_neg h6,dT (by omega),if_pos rfl];have e6:6 - (max ((x2,(fs.length:Int)):Nat × Int).2 0).toNat=6 - fs.length:=by
  show 6 - (max (fs.length:Int) 0).toNat=_;omega
 rw [e6];have t3:=xM (6 - fs.length) x2 _ t2;show (jZ l (scl (6 - fs.length) x2)).2=_;unfold jZ;generalize scl (6 - fs.length) x2=y at *;generalize dval (dval 0 ds) fs * 10 ^ (6 - fs.length)=z at *;unfold Tw at t3;by_cases h7:1152921504606846976<z
 ·rw [if_pos h7,if_pos (by omega)]
 rw [if_neg h7,if_neg (by omega)]
theorem Ak {l:List UInt8} (h:(shp l).1=3):∃ ds fs,l.take (shp l).2=ds++46 :: fs∧ds≠[]∧fs≠[]∧(∀ c ∈ ds,isD c=true)∧∀ c ∈ fs,isD c=true:=by
 cases l with
 | nil=>cases h
 | cons c r =>
   rw [bA] at h ⊢
   split at h
   · cases h
   · rename_i hl
     split at h
     · rename_i hd
       split at h
       · cases h
       · rename_i hp
         rw [if_neg hl,if_pos hd,if_neg hp]
         cases hy:(c :: r).drop (run isD (c :: r)) with
         | nil=>rw [hy] at hp;exact absurd rfl hp
         | cons d y =>
           rw [hy,gV] at hp
           rw [gV]
           split at hp
           · rename_i h46
             have hd46:d=46:=UInt8.toNat_inj.1 h46
             subst hd46
             refine ⟨(c :: r).take (run isD (c :: r)),y.take (run isD y),?_,?_,?_,ko _ _,ko _ _⟩
             · rw [if_pos h46]
               show (c :: r).take (run isD (c :: r)+1+run isD y)=_
               rw [show run isD (c :: r)+1+run isD y=run isD (c :: r)+(run isD y+1) by omega,List.take_add,hy,List.take_succ_cons]
             · rw [fZ hd]
               simp
             · intro e
               have:=congrArg List.length e
               rw [List.length_take,List.length_nil] at this
               have:=iJ isD y
               omega
           · exact absurd rfl hp
     · split at h
       · cases h
       · rw [dJ] at h
         split at h
         · cases h
         · split at h <;> cases h
theorem IG {l:List UInt8} (h:(shp l).1=3):(rpP (l.take (shp l).2)).2=paE (l.take (shp l).2):=by
 obtain ⟨ds,fs,e,h1,h2,h3,h4⟩:=Ak h;rw [e,NA h1 h2 h3 h4,NY h1 h2 h3 h4]
theorem wW:∀ (l:List UInt8) (a:Nat),(∀ c ∈ l,isD c=true)→a<18446744073709551616→Lib.parseUint10 a l=if dval a l<18446744073709551616 then .ok (dval a l) else .range
 | [],a,_,ha=>by
  show Lib.NumEnd.ok a=if a<_ then _ else _
  rw [if_pos ha]
  rfl
 | c :: l,a,h,ha=>by
  have hc:=(dZ c).1 (h c (List.mem_cons_self ..))
  have hg:=qg l (a * 10+(c.toNat - 48))
  rw [jc]
  unfold Lib.parseUint10
  rw [if_pos hc]
  by_cases h1:1844674407370955162≤a
  ·rw [if_pos h1,if_neg (by omega)]
  ·rw [if_neg h1]
   by_cases h2:18446744073709551616≤a * 10+(c.toNat - 48)
   ·rw [if_pos h2,if_neg (by omega)]
   ·rw [if_neg h2,wW l _ (fun d hd=>h d (List.mem_cons_of_mem _ hd)) (by omega)]
theorem qB {l:List UInt8} (h0:l≠[]) (h:∀ c ∈ l,isD c=true):Lib.atoiAll l=if dval 0 l<9223372036854775808 then .ok (dval 0 l:Nat) else .range:=by
 cases l with
 | nil=>exact absurd rfl h0
 | cons c r =>
   have hc:=(dZ c).1 (h c (List.mem_cons_self ..))
   rw [Lib.atoiAll_plain c r (by omega) (by omega)]
   unfold Lib.parseMag
   rw [if_neg (by simp),wW _ 0 h (by omega)]
   by_cases h1:dval 0 (c :: r)<18446744073709551616
   · rw [if_pos h1]
     unfold Lib.signless
     by_cases h2:dval 0 (c :: r)<9223372036854775808
     · rw [if_pos h2]
       simp only
       rw [if_neg (by omega)]
     · rw [if_neg h2]
       simp only
       rw [if_pos (by omega)]
   · rw [if_neg h1,if_neg (by omega)]
     rfl
theorem Aj {l:List UInt8} (h:shp l=(2,l.length)):l≠[]∧∀ c ∈ l,isD c=true:=by
 cases l with
 | nil=>cases (Prod.mk.inj h).1
 | cons c r =>
   refine ⟨by simp,?_⟩
   rw [bA] at h
   split at h
   · cases (Prod.mk.inj h).1
   · split at h
     · split at h
       · have e:=(Prod.mk.inj h).2
         have:=ko isD (c :: r)
         rw [e,List.take_length] at this
         exact this
       · cases (Prod.mk.inj h).1
     · split at h
       · cases (Prod.mk.inj h).1
       · rw [dJ] at h
         split at h
         · cases (Prod.mk.inj h).1
         · split at h <;> cases (Prod.mk.inj h).1
theorem uJ (p:List UInt8):flt 1 p=if 24<p.length then 2 else 0:=rfl
theorem uI (p:List UInt8):flt 2 p=if 1152921504606846976<dval 0 p then 2 else 0:=rfl
theorem FI (p:List UInt8):flt 3 p=paE p:=rfl
theorem yM (p:List UInt8):flt 4 p=txE (cont 4 p):=rfl
theorem Iq (p:List UInt8):flt 5 p=0:=rfl
theorem lg (p:List UInt8):flt 0 p=80:=rfl
theorem Qp {c:UInt8} (h:isD c=true):¬ isL c=true:=by
 unfold isD at h;unfold isL;rw [Bool.and_eq_true,decide_eq_true_eq,decide_eq_true_eq] at h ⊢;omega
def qY (l:List UInt8):Bool:=match l with
 | []=>false
 | c :: r=>isL c && decide (run isW (c :: r)=(c :: r).length) && decide ((c :: r).length≤24)
theorem MP (s:ByteArray):wd1 s=qY s.data.toList:=by
 unfold wd1;rw [Bool.eq_iff_iff,aR];show shp s.data.toList=(1,s.data.toList.length)∧flt 1 s.data.toList=0↔_;rw [uJ]
 cases h:s.data.toList with
 | nil=>simp [shp,qY]
 | cons c r =>
   show _↔(isL c && decide (run isW (c :: r)=(c :: r).length) && decide ((c :: r).length≤24))=true
   rw [Bool.and_eq_true,Bool.and_eq_true,decide_eq_true_eq,decide_eq_true_eq,bA]
   constructor
   · rintro ⟨h1,h2⟩
     split at h1
     · rename_i hl
       refine ⟨⟨hl,(Prod.mk.inj h1).2⟩,?_⟩
       split at h2
       · cases h2
       · omega
     · split at h1
       · split at h1
         · have:=(Prod.mk.inj h1).1;omega
         · have:=(Prod.mk.inj h1).1;omega
       · split at h1
         · have:=(Prod.mk.inj h1).1;omega
         · rw [dJ] at h1
           split at h1
           · have:=(Prod.mk.inj h1).1;omega
           · split at h1
             · have:=(Prod.mk.inj h1).1;omega
             · have:=(Prod.mk.inj h1).1;omega
   · rintro ⟨⟨h1,h2⟩,h3⟩
     rw [if_pos h1,if_neg (by omega),h2]
     exact ⟨rfl,rfl⟩
end
section
open Go.RowKit dec
def cls (c:UInt8):Int:=if c.toNat<126 then o9.getD c.toNat 0 else 0
theorem vR {p:UInt8→Bool} (h:(List.range 256).all (fun n=>p (UInt8.ofNat n))=true) (c:UInt8):p c=true:=by
 have:=List.all_eq_true.1 h c.toNat (List.mem_range.2 c.toNat_lt)
 rwa [UInt8.ofNat_toNat] at this
def wI (c:UInt8):Bool:=decide (0≤cls c∧cls c≤8) && ((decide (cls c=1) || decide (cls c=2))==isB c) && (!decide (cls c=2)==isC c) && ((decide (cls c=4) || decide (cls c=5) || decide (cls c=6))==isW c)
 && (decide (cls c=5)==isD c) && ((!decide (cls c=7) && !decide (cls c=2))==isQ c) && (decide (cls c=4)==isL c) && (decide (cls c=8)==isS c) && (decide (cls c=3)==decide (c.toNat=35)) && (decide (cls c=7)==decide (c.toNat=34))
theorem pq (c:UInt8):wI c=true:=vR (by decide +kernel) c
theorem iO (c:UInt8) (w:World) (T:Tabs w):Calls Tryz.prog 115 #[.int .u8 (c.toNat:Nat)] w fun e w' => e=.returned (.int .u8 (cls c))∧w'=w:=by
 have hc:=fun h=>T.cls.cell OI c.toNat h;have hl:o9.length=126:=rfl;rw [hl] at hc;clear T hl;have hlt:=c.toNat_lt;unfold cls;generalize c.toNat=n at *
 go_enter Tryz.func115,Tryz.ntmps115
 by_cases h:n<126
 ·have h1:=hc h;rw [if_pos h];generalize o9.getD n 0=x at *;clear hc;have q1:decide ((n:Int)<126)=true:=dT (by omega);go_wp2;go_ret;exact ⟨rfl,rfl⟩
 rw [if_neg h];have q1:decide ((n:Int)<126)=false:=dF (by omega);clear hc;go_wp2;go_ret;exact ⟨rfl,rfl⟩
def Set (st:Int) (p:UInt8→Bool):Prop:=∀ c,bits .and .i64 (st.fdiv (2 ^ min (cls c).toNat 64)) 1=if p c=true then 1 else 0
def Ny (st:Int) (p:UInt8→Bool) (c:UInt8):Bool:=decide (bits .and .i64 (st.fdiv (2 ^ min (cls c).toNat 64)) 1=if p c=true then 1 else 0)
theorem oI {st:Int} {p:UInt8→Bool} (h:(List.range 256).all (fun n=>Ny st p (UInt8.ofNat n))=true):Set st p:=fun c=>by
 have:=vR h c
 unfold Ny at this
 exact of_decide_eq_true this
theorem PX:Set 6 isB:=oI (by decide +kernel)
theorem PW:Set (-5) isC:=oI (by decide +kernel)
theorem PU:Set 112 isW:=oI (by decide +kernel)
theorem I9:Set 32 isD:=oI (by decide +kernel)
theorem PV:Set (-133) isQ:=oI (by decide +kernel)
theorem Ef (st k:Int) (hk:0≤k) (W:World):(Op.shift .shr .i64 st .u8 k).run Tryz.prog W=.ok (.int .i64 (st.fdiv (2 ^ min k.toNat 64))) W:=by
 unfold Op.shift;rw [if_neg (by omega)];rfl
theorem Dl (c:UInt8):0≤cls c:=by
 have:=pq c;unfold wI at this;simp only [Bool.and_eq_true,decide_eq_true_eq] at this;omega
theorem aM (s:ByteArray):s.data.toList.length=s.size:=by rw [Array.length_toList];rfl
theorem cO (s:ByteArray) {j:Nat} (h:j<s.size):s.data.toList.drop j=s[j] :: s.data.toList.drop (j+1):=by
 have h':j<s.data.toList.length:=by rw [aM];exact h
 rw [List.drop_eq_getElem_cons h'];rfl
theorem gU (p:UInt8→Bool) (s:ByteArray) {j:Nat} (h:j<s.size):run p (s.data.toList.drop j)=if p s[j]=true then run p (s.data.toList.drop (j+1))+1 else 0:=by
 rw [cO s h];rfl
theorem pO (p:UInt8→Bool) (s:ByteArray) {j:Nat} (h:s.size≤j):run p (s.data.toList.drop j)=0:=by
 rw [List.drop_eq_nil_of_le (by rw [aM];exact h)];rfl
theorem iV {n d:Nat} (h:d<n):n - (intOf (Value.int .i64 ((d:Int)+1))).toNat<n - (intOf (Value.int .i64 (d:Int))).toNat:=by
 show n - (((d:Int)+1)).toNat<n - ((d:Nat):Int).toNat;omega
theorem aV {j:Nat} (h:j<9223372036854775807):wrap64 ((j:Int)+1)=((j+1:Nat):Int):=by unfold wrap64;omega
theorem aU {n j:Nat} (h:j<n) {x:Int} (hx:x=((j+1:Nat):Int)):n - (intOf (Value.int .i64 x)).toNat<n - (intOf (Value.int .i64 ((j:Nat):Int))).toNat:=by
 subst hx;show n - ((j+1:Nat):Int).toNat<n - ((j:Nat):Int).toNat;omega
theorem jF {a b:Nat} (h:a=b):Ending.returned (Value.int .i64 (a:Nat))=Ending.returned (Value.int .i64 (b:Nat)):=by rw [h]
theorem mH {st:Int} {p:UInt8→Bool} (hst:Set st p) (s:ByteArray) (hs:s.size≤140737488355328) (i:Nat) (hi:i≤s.size) (b:Nat) (w:World) (hb:w.cell? ⟨b,0,none⟩=some (.string s)) (T:Tabs w) :
    Calls Tryz.prog 164 #[.int .i64 (i:Nat),.int .i64 st,.pointer (some ⟨b,0,none⟩)] w fun e w' => e=.returned (.int .i64 (i+run p (s.data.toList.drop i):Nat))∧w'=w:=by
 have T0:=Hy T;have H0:=Hy hst;have Z0:=Hy hs;obtain ⟨R,hR⟩:∃ R,i+run p (s.data.toList.drop i)=R:=⟨_,rfl⟩;rw [hR];replace hR:=Hy hR;replace hi:=Hy hi;clear T hst hs
 go_enter Tryz.func164,Tryz.ntmps164
 go_wp2_with fail
 go_loopw [0] (fun x wr => ∃ j:Nat,x=.int .i64 (j:Nat)∧Hid (j≤s.size)∧Hid (j+run p (s.data.toList.drop j)=R)∧wr=w) (fun x _=>s.size - (intOf x).toNat)
 case atStart=>exact ⟨i,rfl,hi,hR,rfl⟩
 case round =>
  obtain ⟨j,rfl,hj,hr,rfl⟩:=hrel;by_cases hc:j<s.size
  ·have q2:decide ((j:Int)<(s.size:Int))=true:=dT (by omega);have hst:=gU p s hc;have f4:=Hy (aV (j:=j) (by have:=Z0.o;omega));have hbit:=H0.o s[j];have C:=Hy (iO s[j] wr T0.o);have HST:=Hy hst;clear hst;have hsh:=Ef st _ (Dl s[j]);generalize cls s[j]=k at C hbit hsh;generalize st.fdiv (2 ^ min k.toNat 64)=x at hbit hsh;cases hy:p s[j]
   ·rw [hy] at HST hbit;rw [if_neg (by decide)] at hbit;have HD:Hid (j=R):=by unfold Hid;rw [← hr.o,HST.o];rfl
    clear hy hr HST;go_wp2_with (go_at_call 115;refine (C.o).mono ?_;rintro e w' ⟨rfl,rfl⟩);go_ret;exact ⟨jF HD.o,rfl⟩
   rw [hy] at HST hbit;rw [if_pos rfl] at hbit;have HD:Hid (j+1+run p (s.data.toList.drop (j+1))=R):=by unfold Hid;rw [← hr.o,HST.o,if_pos rfl];omega
   clear hy hr HST;go_wp2_with (go_at_call 115;refine (C.o).mono ?_;rintro e w' ⟨rfl,rfl⟩);refine ⟨⟨j+1,by first | exact congrArg (Value.int .i64) f4.o | rfl,Hy hc,HD,trivial⟩,by first | exact aU hc f4.o | exact iV hc⟩
  have hz:=pO p s (j:=j) (by omega);have HD:Hid (j=R):=by unfold Hid;rw [← hr.o,hz,Nat.add_zero]
  have q2:decide ((j:Int)<(s.size:Int))=false:=dF (by omega);clear hz hr;go_wp2_with fail;go_ret;exact ⟨jF HD.o,rfl⟩
theorem rT (s:ByteArray) (w:World):Calls Tryz.prog 114 #[.string s] w fun e w' => e=.returned (.func (.func 164) #[] #[.pointer (some ⟨w.heap.size,0,none⟩)])∧w'.cell? ⟨w.heap.size,0,none⟩=some (.string s)∧w'.heap.size=w.heap.size+1∧Below w.heap.size w w':=by
 have hb:=aj (b0 w) (.cells #[.string s] 9);have hc:(w.alloc (.cells #[.string s] 9)).cell? ⟨w.heap.size,0,none⟩=some (.string s):=by simp [go_sem]
 have hz:(w.alloc (.cells #[.string s] 9)).heap.size=w.heap.size+1:=by simp
 go_enter Tryz.func114,Tryz.ntmps114
 go_wp2_with fail;go_ret;exact ⟨rfl,hc,hz,hb⟩
theorem Ed (s:ByteArray) {j:Nat} (h:s.size≤j):sk false (s.data.toList.drop j)=0:=by
 rw [List.drop_eq_nil_of_le (by rw [aM];exact h)];rfl
theorem Ah (s:ByteArray) (i:Nat):i+sk false (s.data.toList.drop i)=(i+run isB (s.data.toList.drop i))+sk false (s.data.toList.drop (i+run isB (s.data.toList.drop i))):=by
 conv=>lhs;rw [uX]
 rw [List.drop_drop];omega
theorem rP (s:ByteArray) {j:Nat} (h:j<s.size) (hc:s[j].toNat=35):j+sk false (s.data.toList.drop j)=(j+run isC (s.data.toList.drop j))+sk false (s.data.toList.drop (j+run isC (s.data.toList.drop j))):=by
 have e:=cO s h
 conv=>lhs;rw [e]
 rw [Kh hc,← e,List.drop_drop];omega
theorem Ag (s:ByteArray) {j:Nat} (h:j<s.size) (h1:isB s[j]=false) (hc:s[j].toNat≠35):sk false (s.data.toList.drop j)=0:=by
 rw [cO s h];exact Kg h1 hc _
theorem xQ (p:UInt8→Bool) (s:ByteArray) {i j:Nat} (hj:j=i+run p (s.data.toList.drop i)) (h:j<s.size):p s[j]=false:=by
 subst hj;refine xR p (s.data.toList.drop i) _ ?_;rw [List.drop_drop,cO s h];rfl
theorem eB (p:UInt8→Bool) (s:ByteArray) {i:Nat} (h:i≤s.size):i+run p (s.data.toList.drop i)≤s.size:=by
 have:=iJ p (s.data.toList.drop i);rw [List.length_drop,aM] at this;omega
theorem xP (p:UInt8→Bool) (s:ByteArray) {j:Nat} (h:j<s.size) (hp:p s[j]=true):j<j+run p (s.data.toList.drop j):=by
 rw [gU p s h,if_pos hp];omega
theorem eqb (a b:Int):(a==b)=decide (a=b):=by
 rw [Bool.eq_iff_iff];simp
theorem yY (c:UInt8):(cls c==3)=decide (c.toNat=35):=by
 have:=pq c;unfold wI at this;simp only [Bool.and_eq_true,beq_iff_eq] at this;rw [← this.1.2,eqb]
theorem kP (s:ByteArray) (hs:s.size≤140737488355328) (i:Nat) (hi:i≤s.size) (w:World) (T:Tabs w) :
    Calls Tryz.prog 68 #[.string s,.int .i64 (i:Nat)] w fun e w' => e=.returned (.int .i64 (i+sk false (s.data.toList.drop i):Nat))∧Below w.heap.size w w':=by
 have RC:=Hy (rT s w);have CB:=Hy (fun i hi W h T=>mH PX s hs i hi w.heap.size W h T);have CC:=Hy (fun i hi W h T=>mH PW s hs i hi w.heap.size W h T);have CO:=Hy (fun (c:UInt8) W T=>iO c W T);have T0:=Hy T;have Z0:=Hy hs;obtain ⟨R,hR⟩:∃ R,i+sk false (s.data.toList.drop i)=R:=⟨_,rfl⟩;rw [hR];replace hR:=Hy hR;replace hi:=Hy hi;clear T hs
 go_enter Tryz.func68,Tryz.ntmps68
 go_wp2_with fail;refine wp_scope_jumps 0 (fun a' w' => ∃ (j:Nat) (f0 f1 f2 f3 f4 f5 f6 f7 f8 f9 f10 f11 f12 f13 f14 f15 f16 f17 f18 f19:Value),a' = { tmps:=#[.string s,.int .i64 (j:Nat),undef,undef,.int .i64 0,.func (.func 164) #[] #[.pointer (some ⟨w.heap.size,0,none⟩)],f0,f1,f2,f3,f4,f5,f6,f7,f8,f9,f10,f11,f12,f13,f14,f15,f16,f17,f18,f19],defers:=[] }∧Hid (j≤s.size)∧Hid (j+sk false (s.data.toList.drop j)=R)∧w'.cell? ⟨w.heap.size,0,none⟩=some (.string s)∧Hid (Below w.heap.size w w')) (fun a' _=>s.size - (intOf (a'.tmps.getD 1 undef)).toNat) rfl ?_ ?_
 ·go_wp2_with fail;refine RC.o.mono ?_;rintro e w1 ⟨rfl,c1,z1,b1⟩;have B1:=Hy b1;clear b1 z1;go_wp2_with fail
  go_step3
  go_wp2_with fail;refine (CB.o i hi.o _ c1 (T0.o.stays B1.o)).mono ?_;rintro e w2 ⟨rfl,rfl⟩;have hp:=Hy ((Ah s i).symm.trans hR.o);have hz1:=Hy (eB isB s hi.o);have hw1:=Hy (fun h=>xQ isB s (i:=i) rfl h);have hge:=Hy (Nat.le_add_right i (run isB (s.data.toList.drop i)));generalize i+run isB (s.data.toList.drop i)=j1 at *;by_cases hc:j1<s.size
  ·have q2:decide ((j1:Int)<(s.size:Int))=true:=dT (by omega);have hcl:=yY s[j1];have C:=Hy (CO.o s[j1] w2 (T0.o.stays B1.o));by_cases h35:s[j1].toNat=35
   ·rw [dT h35] at hcl;have hq:=Hy ((rP s hc h35).symm.trans hp.o);have hz2:=Hy (eB isC s (Nat.le_of_lt hc));have hmore:=Hy (xP isC s hc (by unfold isC;rw [h35];rfl));have C2:=Hy (CC.o j1 (Nat.le_of_lt hc) w2 c1 (T0.o.stays B1.o));clear h35 hp;generalize cls s[j1]=k at C hcl;generalize j1+run isC (s.data.toList.drop j1)=j2 at *;go_wp2_with (first | (go_at_call 115;refine (C.o).mono ?_;rintro e w' ⟨rfl,rfl⟩) | (go_at_call 164;refine (C2.o).mono ?_;rintro e w' ⟨rfl,rfl⟩))
    go_step3
    exact ⟨rfl,j2,_,_,_,_,_,_,_,_,_,_,_,_,_,_,_,_,_,_,_,_,rfl,hz2,hq,c1,B1⟩
   rw [dF h35] at hcl;have hq:=Hy (show j1=R by rw [← hp.o,Ag s hc (hw1.o hc) h35,Nat.add_zero]);clear h35 hp;generalize cls s[j1]=k at C hcl;go_wp2_with (go_at_call 115;refine (C.o).mono ?_;rintro e w' ⟨rfl,rfl⟩);simp only [Exit.jump];go_ret;exact ⟨jF hq.o,B1.o⟩
  have q2:decide ((j1:Int)<(s.size:Int))=false:=dF (by omega);have hq:=Hy (show j1=R by rw [← hp.o,Ed s (by omega),Nat.add_zero]);clear hp;go_wp2_with fail;simp only [Exit.jump];go_ret;exact ⟨jF hq.o,B1.o⟩
 rintro a' w1 ⟨j,f0,f1,f2,f3,f4,f5,f6,f7,f8,f9,f10,f11,f12,f13,f14,f15,f16,f17,f18,f19,rfl,hj,hr,c1,B1⟩;go_wp2_with fail;refine (CB.o j hj.o _ c1 (T0.o.stays B1.o)).mono ?_;rintro e w2 ⟨rfl,rfl⟩;have hp:=Hy ((Ah s j).symm.trans hr.o);have hz1:=Hy (eB isB s hj.o);have hw1:=Hy (fun h=>xQ isB s (i:=j) rfl h);have hge:=Hy (Nat.le_add_right j (run isB (s.data.toList.drop j)));generalize j+run isB (s.data.toList.drop j)=j1 at *;by_cases hc:j1<s.size
 ·have q2:decide ((j1:Int)<(s.size:Int))=true:=dT (by omega);have hcl:=yY s[j1];have C:=Hy (CO.o s[j1] w2 (T0.o.stays B1.o));by_cases h35:s[j1].toNat=35
  ·rw [dT h35] at hcl;have hq:=Hy ((rP s hc h35).symm.trans hp.o);have hz2:=Hy (eB isC s (Nat.le_of_lt hc));have hmore:=Hy (xP isC s hc (by unfold isC;rw [h35];rfl));have C2:=Hy (CC.o j1 (Nat.le_of_lt hc) w2 c1 (T0.o.stays B1.o));clear h35 hp;generalize cls s[j1]=k at C hcl;generalize j1+run isC (s.data.toList.drop j1)=j2 at *;go_wp2_with (first | (go_at_call 115;refine (C.o).mono ?_;rintro e w' ⟨rfl,rfl⟩) | (go_at_call 164;refine (C2.o).mono ?_;rintro e w' ⟨rfl,rfl⟩))
   go_step3
   refine ⟨rfl,⟨j2,_,_,_,_,_,_,_,_,_,_,_,_,_,_,_,_,_,_,_,_,rfl,hz2,hq,c1,B1⟩,?_⟩;have:=hmore.o;have:=hge.o;show s.size - ((j2:Nat):Int).toNat<s.size - ((j:Nat):Int).toNat;omega
  rw [dF h35] at hcl;have hq:=Hy (show j1=R by rw [← hp.o,Ag s hc (hw1.o hc) h35,Nat.add_zero]);clear h35 hp;generalize cls s[j1]=k at C hcl;go_wp2_with (go_at_call 115;refine (C.o).mono ?_;rintro e w' ⟨rfl,rfl⟩);simp only [Exit.jump];go_ret;exact ⟨jF hq.o,B1.o⟩
 have q2:decide ((j1:Int)<(s.size:Int))=false:=dF (by omega);have hq:=Hy (show j1=R by rw [← hp.o,Ed s (by omega),Nat.add_zero]);clear hp;go_wp2_with fail;simp only [Exit.jump];go_ret;exact ⟨jF hq.o,B1.o⟩
end
end Go.Proofs.YtbpijgddfaefkaaGreatDoor
