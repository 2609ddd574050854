/-
  Reading shortens the list of tokens; with enough steps there is an answer; No text of an expression has fewer tokens than the one that is printed; What is parsed is no greater than its tokens: nodes; What is parsed is no greater than its tokens: strings; what is left is an end of what was there; Lists of tokens in memory: slices that are read, slices of the call's own; append; one of them in a block.
-/
import Derived.Test.YtbahfelnbofjjaaGreatDoorX17
set_option maxRecDepth 100000
set_option maxHeartbeats 16000000
namespace Go.Proofs.YtbahfelnbofjjaaGreatDoor
section
open Go.RowKit dec
theorem bind_ok {α β:Type} {x:Rs α} {g:α→List Tk→Rs β} {v:β} {r:List Tk} (h:x.bind g=.ok v r):∃ u s,x=.ok u s∧g u s=.ok v r:=by
 cases x with
 | out=>cases h
 | ok u s=>exact ⟨u,s,rfl,h⟩
 | no a c s=>cases h
theorem aM {α β:Type} {x:Rs α} {g:α→List Tk→Rs β} (h1:x≠.out) (h2:∀ u s,x=.ok u s→g u s≠.out):x.bind g≠.out:=by
 cases x with
 | out=>exact absurd rfl h1
 | ok u s=>exact h2 u s rfl
 | no a c s=>exact fun h=>by cases h
theorem bA {α β:Type} {x:Rs α} {g:α→List Tk→Rs β} (h:x.bind g≠.out):x≠.out:=by
 rintro rfl;exact h rfl
theorem FY {s:ByteArray} {l:List Tk} (h:isT s l=true):l≠[]:=by
 rintro rfl;unfold isT hd at h;simp at h
theorem aS {s:ByteArray} {l:List Tk} (h:isT s l=true):l.tail.length<l.length:=by
 cases l with
 | nil=>exact absurd rfl (FY h)
 | cons x r=>simp
theorem Bt {s:ByteArray} {l r:List Tk} {u:Unit} (h:need s l=.ok u r):isT s l=true∧r=l.tail:=by
 unfold need at h;split at h
 ·rename_i hT;cases h;exact ⟨hT,rfl⟩
 cases h
theorem bC {s:ByteArray} {l r:List Tk} {u:Unit} (h:need s l=.ok u r):r.length<l.length:=by
 obtain ⟨h1,rfl⟩:=Bt h;exact aS h1
theorem fO (s:ByteArray) (l:List Tk):need s l≠.out:=by
 unfold need wrg;split <;> exact fun h=>by cases h
theorem jo {k:Int} (hk:k≠6) {l r:List Tk} {v:ByteArray} (h:tak k l=.ok v r):r.length<l.length:=by
 unfold tak at h;split at h
 ·rename_i hT;cases h
  cases l with
  | nil=>exact absurd hT.symm hk
  | cons x r=>simp
 cases h
theorem mh (k:Int) (l:List Tk):tak k l≠.out:=by
 unfold tak wrg;split <;> exact fun h=>by cases h
theorem iN {l r:List Tk} {v:ByteArray} (h:nam l=.ok v r):r.length<l.length:=by
 unfold nam at h;split at h
 ·exact jo (by decide) h
 cases h
theorem iE (l:List Tk):nam l≠.out:=by
 unfold nam;split
 ·exact mh _ _
 exact fun h=>by cases h
theorem Oc {s:ByteArray} {l r:List Tk} {v:ByteArray} (h:nma s l=.ok v r):r.length<l.length:=by
 obtain ⟨_,q,h1,h2⟩:=bind_ok h;exact Nat.lt_trans (iN h2) (bC h1)
theorem FI (s:ByteArray) (l:List Tk):nma s l≠.out:=aM (fO _ _) fun _ _ _=>iE _
theorem int_lt {l r:List Tk} {v:Int} (h:int l=.ok v r):r.length<l.length:=by
 obtain ⟨_,q,h1,h2⟩:=bind_ok h;cases h2;exact jo (by decide) h1
theorem int_ne (l:List Tk):int l≠.out:=aM (mh _ _) fun _ _ _ h=>by cases h
theorem Ck {l r:List Tk} {v:Int} (h:lC l=.ok v r):r.length<l.length:=by
 obtain ⟨_,q,h1,h2⟩:=bind_ok h;cases h2;exact jo (by decide) h1
theorem Cj (l:List Tk):lC l≠.out:=aM (mh _ _) fun _ _ _ h=>by cases h
theorem lq {l r:List Tk} {v:un.Fa} (h:fac l=.ok v r):r.length<l.length:=by
 obtain ⟨_,q,h1,h2⟩:=bind_ok h;have g1:=iN h1;split at h2
 ·rename_i t1;have g2:=aS t1;split at h2
  ·rename_i t2;have g3:=aS t2;obtain ⟨_,q',h3,h4⟩:=bind_ok h2;cases h4;have:=int_lt h3;omega
  obtain ⟨_,q',h3,h4⟩:=bind_ok h2;cases h4;have:=int_lt h3;omega
 cases h2;exact g1
theorem mR (l:List Tk):fac l≠.out:=by
 refine aM (iE _) fun n r _=>?_;split
 ·split
  ·exact aM (int_ne _) fun _ _ _ h=>by cases h
  exact aM (int_ne _) fun _ _ _ h=>by cases h
 exact fun h=>by cases h
theorem BA {α:Type} {one:List Tk→Rs α} {s:ByteArray} (h1:∀ l v r,one l=.ok v r→r.length<l.length):∀ (f:Nat) (x:List α) (l:List Tk) (v:List α) (r:List Tk),more one s f x l=.ok v r→r.length≤l.length
 | 0,_,_,_,_,h=>by cases h
 | f+1,x,l,v,r,h=>by
  unfold more at h
  split at h
  ·rename_i t
   obtain ⟨y,q,h2,h3⟩:=bind_ok h
   have:=BA h1 f _ _ _ _ h3
   have:=h1 _ _ _ h2
   have:=aS t
   omega
  ·cases h
   exact Nat.le_refl _
theorem Bz {α:Type} {one:List Tk→Rs α} {s:ByteArray} (h1:∀ l v r,one l=.ok v r→r.length<l.length) (h2:∀ l,one l≠.out):∀ (f:Nat) (x:List α) (l:List Tk),l.length<f→more one s f x l≠.out
 | 0,_,_,h=>by omega
 | f+1,x,l,h=>by
  unfold more
  split
  ·rename_i t
   refine aM (h2 _) fun y q h3=>Bz h1 h2 f _ _ ?_
   have:=h1 _ _ _ h3
   have:=aS t
   omega
  ·exact fun h=>by cases h
theorem Oj {α:Type} {one:List Tk→Rs α} {s:ByteArray} (h1:∀ l v r,one l=.ok v r→r.length<l.length) {l:List Tk} {v:List α} {r:List Tk} (h:lst one s l=.ok v r):r.length<l.length:=by
 obtain ⟨y,q,h2,h3⟩:=bind_ok h;have:=BA h1 _ _ _ _ _ h3;have:=h1 _ _ _ h2;omega
theorem FN {α:Type} {one:List Tk→Rs α} {s:ByteArray} (h1:∀ l v r,one l=.ok v r→r.length<l.length) (h2:∀ l,one l≠.out) (l:List Tk):lst one s l≠.out :=
 aM (h2 _) fun _ _ _=>Bz h1 h2 _ _ _ ls
theorem rM {l r:List Tk} {v:List un.Fa} (h:uni l=.ok v r):r.length≤l.length:=by
 unfold uni at h;split at h
 ·rename_i t;obtain ⟨u,q,h1,h2⟩:=bind_ok h;obtain ⟨_,q',h3,h4⟩:=bind_ok h2;have:=aS t;have:=Oj (fun _ _ _=>lq) h1;have:=bC h3;split at h4
  ·cases h4;omega
  cases h4
 cases h;exact Nat.le_refl _
theorem rJ (l:List Tk):uni l≠.out:=by
 unfold uni;split
 ·refine aM (FN (fun _ _ _=>lq) mR _) fun u r _=>aM (fO _ _) fun _ r' _=>?_;split <;> exact fun h=>by cases h
 exact fun h=>by cases h
theorem xE {l r:List Tk} {v:Int × Int} (h:win l=.ok v r):r.length<l.length:=by
 unfold win at h;split at h
 ·rename_i t;cases h;exact aS t
 iterate 3
   split at h
   · rename_i t
     obtain ⟨u,q,h1,h2⟩:=bind_ok h
     cases h2
     exact Nat.lt_trans (int_lt h1) (aS t)
 cases h
theorem nU (l:List Tk):win l≠.out:=by
 unfold win;split
 ·exact fun h=>by cases h
 iterate 3
   split
   · exact aM (int_ne _) fun _ _ _ h=>by cases h
 exact fun h=>by cases h
theorem FW {l r:List Tk} {v:Ex} (h:key l=.ok v r):r.length<l.length:=by
 obtain ⟨n,q,h1,h2⟩:=bind_ok h;obtain ⟨s,q',h3,h4⟩:=bind_ok h2;have:=Oc h1;have:=jo (by decide) h3;split at h4
 ·cases h4;omega
 cases h4
theorem FV (l:List Tk):key l≠.out:=by
 refine aM (FI _ _) fun n r _=>aM (mh _ _) fun s r' _=>?_;split <;> exact fun h=>by cases h
def Md.le:Md→Nat
 | .tl _ _ _=>0
 | _=>1
theorem r9 {n:Nat} {l:List Tk} (h:opr n l≠.empty):isT (opr n l) l=true:=by
 unfold opr at h ⊢
 cases hf:(opL n).find? fun s=>isT s l with
 | none=>rw [hf] at h;exact absurd rfl h
 | some s=>exact (List.find?_eq_some_iff_append.1 hf).1
theorem mE:∀ (f:Nat) (i:Bool) (m:Md) (l:List Tk) (x:Ex) (r:List Tk),pz f i m l=.ok x r→r.length+m.le≤l.length:=by
 intro f
 induction f with
 | zero=>intro i m l x r h;cases h
 | succ f ih =>
   intro i m l x r h
   cases m with
   | ex =>
     simp only [pz] at h
     split at h
     · rename_i t
       obtain ⟨a,q1,h1,h⟩:=bind_ok h
       obtain ⟨_,q2,h2,h⟩:=bind_ok h
       obtain ⟨b,q3,h3,h⟩:=bind_ok h
       obtain ⟨_,q4,h4,h⟩:=bind_ok h
       obtain ⟨c,q5,h5,h⟩:=bind_ok h
       cases h
       have:=ih _ _ _ _ _ h1
       have:=ih _ _ _ _ _ h3
       have:=ih _ _ _ _ _ h5
       have:=bC h2
       have:=bC h4
       have:=aS t
       simp only [Md.le] at *
       omega
     · (have:=ih _ _ _ _ _ h;simp only [Md.le] at *;omega)
   | op least =>
     simp only [pz] at h
     split at h
     · rename_i t
       obtain ⟨a,q1,h1,h⟩:=bind_ok h
       have:=ih _ _ _ _ _ h1
       have:=ih _ _ _ _ _ h
       have:=aS t.2
       simp only [Md.le] at *
       omega
     · obtain ⟨a,q1,h1,h⟩:=bind_ok h
       have:=ih _ _ _ _ _ h1
       have:=ih _ _ _ _ _ h
       simp only [Md.le] at *
       omega
   | tl least n y =>
     simp only [pz] at h
     split at h
     · cases h
       exact Nat.le_refl _
     · split at h
       · (have:=ih _ _ _ _ _ h;simp only [Md.le] at *;omega)
       · rename_i t
         obtain ⟨a,q1,h1,h⟩:=bind_ok h
         have:=ih _ _ _ _ _ h1
         have:=ih _ _ _ _ _ h
         have:=aS (r9 t)
         simp only [Md.le] at *
         omega
   | ng =>
     simp only [pz] at h
     split at h
     · rename_i t
       obtain ⟨a,q1,h1,h⟩:=bind_ok h
       cases h
       have:=ih _ _ _ _ _ h1
       have:=aS t
       simp only [Md.le] at *
       omega
     · (have:=ih _ _ _ _ _ h;simp only [Md.le] at *;omega)
   | pa =>
     simp only [pz] at h
     obtain ⟨_,q1,h1,h⟩:=bind_ok h
     obtain ⟨a,q2,h2,h⟩:=bind_ok h
     obtain ⟨_,q3,h3,h⟩:=bind_ok h
     cases h
     have:=bC h1
     have:=ih _ _ _ _ _ h2
     have:=bC h3
     simp only [Md.le] at *
     omega
   | rf =>
     simp only [pz] at h
     obtain ⟨n,q1,h1,h⟩:=bind_ok h
     have:=iN h1
     split at h
     · rename_i t
       obtain ⟨a,q2,h2,h⟩:=bind_ok h
       cases h
       have:=ih _ _ _ _ _ h2
       have:=aS t
       simp only [Md.le] at *
       omega
     · cases h
       simp only [Md.le]
       omega
   | ag =>
     simp only [pz] at h
     obtain ⟨op,q1,h1,h⟩:=bind_ok h
     have g1:=jo (by decide) h1
     obtain ⟨_,q2,h2,h⟩:=bind_ok h
     have g2:=bC h2
     obtain ⟨t,q3,h3,h⟩:=bind_ok h
     have g3:=iN h3
     obtain ⟨_,q4,h4,h⟩:=bind_ok h
     have g4:=bC h4
     obtain ⟨a,q5,h5,h⟩:=bind_ok h
     have g5:q5.length≤q4.length:=by
       split at h5
       · cases h5;exact Nat.le_refl _
       · obtain ⟨_,p1,k1,h5⟩:=bind_ok h5
         obtain ⟨_,p2,k2,h5⟩:=bind_ok h5
         cases h5
         have:=ih _ _ _ _ _ k1
         have:=bC k2
         omega
     obtain ⟨n,q6,h6,h⟩:=bind_ok h
     have g6:q6.length≤q5.length:=by
       split at h6
       · obtain ⟨_,p1,k1,h6⟩:=bind_ok h6
         obtain ⟨_,p2,k2,h6⟩:=bind_ok h6
         cases h6
         have:=int_lt k1
         have:=bC k2
         omega
       · cases h6;exact Nat.le_refl _
     obtain ⟨w,q7,h7,h⟩:=bind_ok h
     have g7:=xE h7
     obtain ⟨b,q8,h8,h⟩:=bind_ok h
     have g8:q8.length≤q7.length:=by
       split at h8
       · rename_i t
         have:=ih _ _ _ _ _ h8
         have:=aS t
         omega
       · cases h8;exact Nat.le_refl _
     obtain ⟨_,q9,h9,h⟩:=bind_ok h
     have g9:=bC h9
     cases h
     simp only [Md.le]
     omega
   | pr =>
     simp only [pz] at h
     split at h
     · obtain ⟨n,q1,h1,h⟩:=bind_ok h
       obtain ⟨u,q2,h2,h⟩:=bind_ok h
       cases h
       have:=int_lt h1
       have:=rM h2
       simp only [Md.le]
       omega
     split at h
     · obtain ⟨n,q1,h1,h⟩:=bind_ok h
       obtain ⟨u,q2,h2,h⟩:=bind_ok h
       cases h
       have:=Ck h1
       have:=rM h2
       simp only [Md.le]
       omega
     split at h
     · obtain ⟨n,q1,h1,h⟩:=bind_ok h
       cases h
       have:=jo (by decide) h1
       simp only [Md.le]
       omega
     split at h
     · rename_i t;cases h;exact aS t
     split at h
     · rename_i t;cases h;exact aS t
     split at h
     · exact FW h
     split at h
     · rename_i t
       obtain ⟨n,q1,h1,h⟩:=bind_ok h
       cases h
       have:=ih _ _ _ _ _ h1
       have:=aS t
       simp only [Md.le] at *
       omega
     split at h
     · (have:=ih _ _ _ _ _ h;simp only [Md.le] at *;omega)
     split at h
     · obtain ⟨n,q1,h1,h⟩:=bind_ok h
       cases h
       exact iN h1
     split at h
     · (have:=ih _ _ _ _ _ h;simp only [Md.le] at *;omega)
     · (have:=ih _ _ _ _ _ h;simp only [Md.le] at *;omega)
def Md.rk:Md→Nat
 | .tl _ n _=>n
 | .pa=>0
 | .ag=>0
 | .rf=>0
 | .pr=>1
 | .ng=>2
 | .op _=>3
 | .ex=>4
def Md.good:Md→Prop
 | .tl _ n _=>n≤6
 | .op n=>n≤6
 | _=>True
theorem PZ:∀ (f:Nat) (i:Bool) (m:Md) (l:List Tk),m.good→8 * l.length+m.rk<f→pz f i m l≠.out:=by
 intro f
 induction f with
 | zero=>intro i m l _ h;omega
 | succ f ih =>
   intro i m l hg h
   cases m with
   | ex =>
     simp only [Md.rk] at h
     simp only [pz]
     split
     · rename_i t
       have g0:=aS t
       refine aM (ih _ _ _ trivial (by simp only [Md.rk];omega)) fun a q1 h1=>?_
       have g1:=mE _ _ _ _ _ _ h1
       refine aM (fO _ _) fun _ q2 h2=>?_
       have g2:=bC h2
       refine aM (ih _ _ _ trivial (by simp only [Md.rk];omega)) fun a q3 h3=>?_
       have g3:=mE _ _ _ _ _ _ h3
       refine aM (fO _ _) fun _ q4 h4=>?_
       have g4:=bC h4
       refine aM (ih _ _ _ trivial (by simp only [Md.rk];omega)) fun a q5 h5=>fun h=>by cases h
     · exact ih _ _ _ zl (by simp only [Md.rk];omega)
   | op least =>
     simp only [Md.rk] at h
     simp only [pz]
     split
     · rename_i t
       have g0:=aS t.2
       refine aM (ih _ _ _ (show 3≤6 by omega) (by simp only [Md.rk];omega)) fun a q1 h1=>?_
       have g1:=mE _ _ _ _ _ _ h1
       exact ih _ _ _ (show 3≤6 by omega) (by simp only [Md.rk];omega)
     · refine aM (ih _ _ _ trivial (by simp only [Md.rk];omega)) fun a q1 h1=>?_
       have g1:=mE _ _ _ _ _ _ h1
       simp only [Md.le] at g1
       exact ih _ _ _ (show 6≤6 by omega) (by simp only [Md.rk];omega)
   | tl least n y =>
     simp only [Md.rk] at h
     have hg:n≤6:=hg
     simp only [pz]
     split
     · exact fun h=>by cases h
     · split
       · exact ih _ _ _ (show n - 1≤6 by omega) (by simp only [Md.rk];omega)
       · rename_i t
         have g0:=aS (r9 t)
         refine aM (ih _ _ _ hg (by simp only [Md.rk];omega)) fun a q1 h1=>?_
         have g1:=mE _ _ _ _ _ _ h1
         refine ih _ _ _ ?_ ?_
         · show (if n=4 then 3 else n)≤6
           split <;> omega
         · simp only [Md.rk]
           split <;> omega
   | ng =>
     simp only [Md.rk] at h
     simp only [pz]
     split
     · rename_i t
       have g0:=aS t
       exact aM (ih _ _ _ trivial (by simp only [Md.rk];omega)) fun a q1 h1=>fun h=>by cases h
     · exact ih _ _ _ trivial (by simp only [Md.rk];omega)
   | pa =>
     simp only [Md.rk] at h
     simp only [pz]
     refine aM (fO _ _) fun _ q1 h1=>?_
     have g1:=bC h1
     exact aM (ih _ _ _ trivial (by simp only [Md.rk];omega)) fun a q2 h2=>aM (fO _ _) fun _ q1 h1=>fun h=>by cases h
   | rf =>
     simp only [Md.rk] at h
     simp only [pz]
     refine aM (iE _) fun n q1 h1=>?_
     have g1:=iN h1
     split
     · rename_i t
       have g0:=aS t
       exact aM (ih _ _ _ trivial (by simp only [Md.rk];omega)) fun a q1 h1=>fun h=>by cases h
     · exact fun h=>by cases h
   | ag =>
     simp only [Md.rk] at h
     simp only [pz]
     refine aM (mh _ _) fun op q1 h1=>?_
     have g1:=jo (by decide) h1
     refine aM (fO _ _) fun _ q2 h2=>?_
     have g2:=bC h2
     refine aM (iE _) fun t q3 h3=>?_
     have g3:=iN h3
     refine aM (fO _ _) fun _ q4 h4=>?_
     have g4:=bC h4
     refine aM ?_ fun a q5 h5=>?_
     · split
       · exact fun h=>by cases h
       · exact aM (ih _ _ _ trivial (by simp only [Md.rk];omega)) fun a p1 k1=>aM (fO _ _) fun _ p2 k2=>fun h=>by cases h
     have g5:q5.length≤q4.length:=by
       split at h5
       · cases h5;exact Nat.le_refl _
       · obtain ⟨_,p1,k1,h5⟩:=bind_ok h5
         obtain ⟨_,p2,k2,h5⟩:=bind_ok h5
         cases h5
         have:=mE _ _ _ _ _ _ k1
         have:=bC k2
         omega
     refine aM ?_ fun n q6 h6=>?_
     · split
       · exact aM (int_ne _) fun a p1 k1=>aM (fO _ _) fun _ p2 k2=>fun h=>by cases h
       · exact fun h=>by cases h
     have g6:q6.length≤q5.length:=by
       split at h6
       · obtain ⟨_,p1,k1,h6⟩:=bind_ok h6
         obtain ⟨_,p2,k2,h6⟩:=bind_ok h6
         cases h6
         have:=int_lt k1
         have:=bC k2
         omega
       · cases h6;exact Nat.le_refl _
     refine aM (nU _) fun w q7 h7=>?_
     have g7:=xE h7
     refine aM ?_ fun b q8 h8=>aM (fO _ _) fun _ q9 h9=>fun h=>by cases h
     split
     · rename_i t
       have g0:=aS t
       exact ih _ _ _ trivial (by simp only [Md.rk];omega)
     · exact fun h=>by cases h
   | pr =>
     simp only [Md.rk] at h
     simp only [pz]
     split
     · exact aM (int_ne _) fun _ _ _=>aM (rJ _) fun _ _ _ h=>by cases h
     split
     · exact aM (Cj _) fun _ _ _=>aM (rJ _) fun _ _ _ h=>by cases h
     split
     · exact aM (mh _ _) fun _ _ _ h=>by cases h
     split
     · exact fun h=>by cases h
     split
     · exact fun h=>by cases h
     split
     · exact FV _
     split
     · rename_i t
       have g0:=aS t
       exact aM (ih _ _ _ trivial (by simp only [Md.rk];omega)) fun a q1 h1=>fun h=>by cases h
     split
     · exact ih _ _ _ trivial (by simp only [Md.rk];omega)
     split
     · exact aM (iE _) fun _ _ _ h=>by cases h
     split
     · exact ih _ _ _ trivial (by simp only [Md.rk];omega)
     · exact ih _ _ _ trivial (by simp only [Md.rk];omega)
end
namespace ch
open Go.RowKit dec
theorem Ep {u:List un.Fa} (h:un.Srt u):(u.map (·.1)).Pairwise fun a b=>a≠b:=by
 rw [List.pairwise_map];exact h.imp fun h e=>un.oJ h e
theorem kU {k:Int} (hk:k≠6) {l r:List Tk} {v:ByteArray} (h:tak k l=.ok v r):r=l.tail∧r.length+1=l.length:=by
 unfold tak at h;split at h
 ·rename_i hT;cases h
  cases l with
  | nil=>exact absurd hT.symm hk
  | cons t l=>exact ⟨rfl,rfl⟩
 cases h
theorem kX {l r:List Tk} {v:ByteArray} (h:nam l=.ok v r):r=l.tail∧r.length+1=l.length:=by
 unfold nam at h;split at h
 ·unfold tak at h;split at h
  ·rename_i hk;cases h
   cases l with
   | nil=>exact absurd hk (by show ¬ (6:Int)=1;decide)
   | cons t l=>exact ⟨rfl,rfl⟩
  cases h
 cases h
theorem eF {s:ByteArray} {l r:List Tk} {u:Unit} (h:need s l=.ok u r):r=l.tail∧r.length+1=l.length:=by
 obtain ⟨h1,rfl⟩:=Bt h
 cases l with
 | nil=>exact absurd rfl (FY h1)
 | cons t l=>exact ⟨rfl,rfl⟩
end ch
section
open Go.RowKit dec
theorem dJ (op:ByteArray) (x:Ex):(eH op x).ar.sz=x.ar.sz+1:=rfl
theorem eT (x y z:Ex):(ifE x y z).ar.sz=x.ar.sz+(y.ar.sz+(z.ar.sz+1)+1)+1:=by simp [ifE,Fo.sz]
theorem dM (n:ByteArray) (x:Ex):(oK n x).ar.sz=x.ar.sz+1:=rfl
theorem dU (op t:ByteArray) (p:Int) (w:Int × Int) (x y:Ex):(qZ op t p w x y).ar.sz=x.ar.sz+(y.ar.sz+1)+1:=by simp [qZ,Fo.sz]
theorem dS (op:ByteArray) (x y:Ex):(aY op x y).ar.sz=x.ar.sz+(y.ar.sz+1)+1:=by
 unfold aY;split <;> simp [Fo.sz]
theorem dN (a b:Int) (u:List un.Fa):(yP a b u).ar.sz=0:=rfl
theorem dK (s:ByteArray):(Ip s).ar.sz=0:=rfl
theorem dQ (s:ByteArray):(zx s).ar.sz=0:=rfl
theorem dP (s:ByteArray):(zw s).ar.sz=0:=rfl
theorem Oy {l r:List Tk} {v:Ex} (h:key l=.ok v r):v.ar.sz=0:=by
 unfold key at h;obtain ⟨n,q,h1,h2⟩:=bind_ok h;obtain ⟨s,q',h3,h4⟩:=bind_ok h2;split at h4
 ·cases h4;rfl
 cases h4
def Md.nd:Md→Nat
 | .tl _ _ y=>y.ar.sz+1
 | _=>0
theorem II:∀ (f:Nat) (i:Bool) (m:Md) (l:List Tk) (x:Ex) (r:List Tk),pz f i m l=.ok x r→x.ar.sz+1+r.length≤m.nd+l.length:=by
 intro f
 induction f with
 | zero=>intro i m l x r h;cases h
 | succ f ih =>
   intro i m l x r h
   cases m with
   | ex =>
     simp only [pz] at h
     split at h
     · rename_i t
       obtain ⟨a,q1,h1,h⟩:=bind_ok h
       obtain ⟨_,q2,h2,h⟩:=bind_ok h
       obtain ⟨b,q3,h3,h⟩:=bind_ok h
       obtain ⟨_,q4,h4,h⟩:=bind_ok h
       obtain ⟨c,q5,h5,h⟩:=bind_ok h
       cases h
       have:=ih _ _ _ _ _ h1
       have:=ih _ _ _ _ _ h3
       have:=ih _ _ _ _ _ h5
       have:=bC h2
       have:=bC h4
       have:=aS t
       simp only [Md.nd,eT] at *
       omega
     · (have:=ih _ _ _ _ _ h;simp only [Md.nd] at *;omega)
   | op least =>
     simp only [pz] at h
     split at h
     · rename_i t
       obtain ⟨a,q1,h1,h⟩:=bind_ok h
       have:=ih _ _ _ _ _ h1
       have:=ih _ _ _ _ _ h
       have:=aS t.2
       simp only [Md.nd,dJ] at *
       omega
     · obtain ⟨a,q1,h1,h⟩:=bind_ok h
       have:=ih _ _ _ _ _ h1
       have:=ih _ _ _ _ _ h
       simp only [Md.nd] at *
       omega
   | tl least n y =>
     simp only [pz] at h
     split at h
     · cases h
       simp only [Md.nd]
       exact Nat.le_refl _
     · split at h
       · (have:=ih _ _ _ _ _ h;simp only [Md.nd] at *;omega)
       · rename_i t
         obtain ⟨a,q1,h1,h⟩:=bind_ok h
         have:=ih _ _ _ _ _ h1
         have:=ih _ _ _ _ _ h
         have:=aS (r9 t)
         simp only [Md.nd,dS] at *
         omega
   | ng =>
     simp only [pz] at h
     split at h
     · rename_i t
       obtain ⟨a,q1,h1,h⟩:=bind_ok h
       cases h
       have:=ih _ _ _ _ _ h1
       have:=aS t
       simp only [Md.nd,dJ] at *
       omega
     · (have:=ih _ _ _ _ _ h;simp only [Md.nd] at *;omega)
   | pa =>
     simp only [pz] at h
     obtain ⟨_,q1,h1,h⟩:=bind_ok h
     obtain ⟨a,q2,h2,h⟩:=bind_ok h
     obtain ⟨_,q3,h3,h⟩:=bind_ok h
     cases h
     have:=bC h1
     have:=ih _ _ _ _ _ h2
     have:=bC h3
     simp only [Md.nd] at *
     omega
   | rf =>
     simp only [pz] at h
     obtain ⟨n,q1,h1,h⟩:=bind_ok h
     have:=iN h1
     split at h
     · rename_i t
       obtain ⟨a,q2,h2,h⟩:=bind_ok h
       cases h
       have:=ih _ _ _ _ _ h2
       have:=aS t
       simp only [Md.nd,dM] at *
       omega
     · cases h
       simp only [Md.nd,dQ]
       omega
   | ag =>
     simp only [pz] at h
     obtain ⟨op,q1,h1,h⟩:=bind_ok h
     have g1:=jo (by decide) h1
     obtain ⟨_,q2,h2,h⟩:=bind_ok h
     have g2:=bC h2
     obtain ⟨t,q3,h3,h⟩:=bind_ok h
     have g3:=iN h3
     obtain ⟨_,q4,h4,h⟩:=bind_ok h
     have g4:=bC h4
     obtain ⟨a,q5,h5,h⟩:=bind_ok h
     have g5:a.ar.sz+q5.length≤q4.length:=by
       split at h5
       · cases h5;show 0+_≤_;omega
       · obtain ⟨_,p1,k1,h5⟩:=bind_ok h5
         obtain ⟨_,p2,k2,h5⟩:=bind_ok h5
         cases h5
         have:=bC k2
         have e:=ih _ _ _ _ _ k1
         simp only [Md.nd] at e
         omega
     obtain ⟨n,q6,h6,h⟩:=bind_ok h
     have g6:q6.length≤q5.length:=by
       split at h6
       · obtain ⟨_,p1,k1,h6⟩:=bind_ok h6
         obtain ⟨_,p2,k2,h6⟩:=bind_ok h6
         cases h6
         have:=int_lt k1
         have:=bC k2
         omega
       · cases h6;exact Nat.le_refl _
     obtain ⟨w,q7,h7,h⟩:=bind_ok h
     have g7:=xE h7
     obtain ⟨b,q8,h8,h⟩:=bind_ok h
     have g8:b.ar.sz+q8.length≤q7.length:=by
       split at h8
       · rename_i t
         have e:=ih _ _ _ _ _ h8
         have:=aS t
         simp only [Md.nd] at e
         omega
       · cases h8;show 0+_≤_;omega
     obtain ⟨_,q9,h9,h⟩:=bind_ok h
     have g9:=bC h9
     cases h
     simp only [Md.nd,dU]
     omega
   | pr =>
     simp only [pz] at h
     split at h
     · obtain ⟨n,q1,h1,h⟩:=bind_ok h
       obtain ⟨u,q2,h2,h⟩:=bind_ok h
       cases h
       have:=int_lt h1
       have:=rM h2
       simp only [Md.nd,dN]
       omega
     split at h
     · obtain ⟨n,q1,h1,h⟩:=bind_ok h
       obtain ⟨u,q2,h2,h⟩:=bind_ok h
       cases h
       have:=Ck h1
       have:=rM h2
       simp only [Md.nd,dN]
       omega
     split at h
     · obtain ⟨n,q1,h1,h⟩:=bind_ok h
       cases h
       have:=jo (by decide) h1
       simp only [Md.nd,dK]
       omega
     split at h
     · rename_i t;cases h;have:=aS t;show 0+1+_≤0+_;omega
     split at h
     · rename_i t;cases h;have:=aS t;show 0+1+_≤0+_;omega
     split at h
     · have:=FW h;have:=Oy h;simp only [Md.nd];omega
     split at h
     · rename_i t
       obtain ⟨n,q1,h1,h⟩:=bind_ok h
       cases h
       have:=ih _ _ _ _ _ h1
       have:=aS t
       simp only [Md.nd,dJ] at *
       omega
     split at h
     · (have:=ih _ _ _ _ _ h;simp only [Md.nd] at *;omega)
     split at h
     · obtain ⟨n,q1,h1,h⟩:=bind_ok h
       cases h
       have:=iN h1
       show 0+1+_≤0+_
       omega
     split at h
     · (have:=ih _ _ _ _ _ h;simp only [Md.nd] at *;omega)
     · (have:=ih _ _ _ _ _ h;simp only [Md.nd] at *;omega)
end
namespace ch
open Go.RowKit dec
theorem mM {l r:List Tk} {v:Int} (h:int l=.ok v r):r <:+ l:=by
 obtain ⟨s,q,h1,h2⟩:=bind_ok h;cases h2;rw [(kU (by decide) h1).1];exact List.tail_suffix _
theorem Jz {l r:List Tk} {v:Int} (h:lC l=.ok v r):r <:+ l:=by
 obtain ⟨s,q,h1,h2⟩:=bind_ok h;cases h2;rw [(kU (by decide) h1).1];exact List.tail_suffix _
theorem Cb {l r:List Tk} {v:un.Fa} (h:fac l=.ok v r):r <:+ l:=by
 obtain ⟨n,q,h1,h2⟩:=bind_ok h;obtain ⟨rfl,e1⟩:=kX h1;split at h2
 ·split at h2
  ·obtain ⟨x,q',h3,h4⟩:=bind_ok h2;cases h4;exact (mM h3).trans ((List.tail_suffix _).trans ((List.tail_suffix _).trans (List.tail_suffix _)))
  obtain ⟨x,q',h3,h4⟩:=bind_ok h2;cases h4;exact (mM h3).trans ((List.tail_suffix _).trans (List.tail_suffix _))
 cases h2;exact List.tail_suffix _
theorem yM:∀ (f:Nat) (acc:List un.Fa) (l:List Tk) (v:List un.Fa) (r:List Tk),more fac ⟨#[42]⟩ f acc l=.ok v r→r <:+ l
 | 0,_,_,_,_,h=>by cases h
 | f+1,acc,l,v,r,h=>by
  unfold more at h
  split at h
  ·obtain ⟨y,q,h2,h3⟩:=bind_ok h
   exact (yM f _ _ _ _ h3).trans ((Cb h2).trans (List.tail_suffix _))
  ·cases h
   exact List.suffix_refl _
theorem AL {l r:List Tk} {u:List un.Fa} (h:uni l=.ok u r):r <:+ l:=by
 unfold uni at h;split at h
 ·obtain ⟨us,q,h1,h2⟩:=bind_ok h;obtain ⟨_,q',h3,h4⟩:=bind_ok h2;obtain ⟨rfl,e3⟩:=eF h3;obtain ⟨y,q2,h5,h6⟩:=bind_ok h1;split at h4
  ·cases h4;exact (List.tail_suffix _).trans ((yM _ _ _ _ _ h6).trans ((Cb h5).trans (List.tail_suffix _)))
  cases h4
 cases h;exact List.suffix_refl _
theorem Kj {l r:List Tk} {v:Int × Int} (h:win l=.ok v r):r <:+ l:=by
 unfold win at h;split at h
 ·cases h;exact List.tail_suffix _
 iterate 3
   split at h
   · obtain ⟨u,q,h1,h2⟩:=bind_ok h
     cases h2
     exact (mM h1).trans (List.tail_suffix _)
 cases h
def Ts (l:List Tk):Prop:=∀ t ∈ l,t.t.size≤1048576
theorem Ts.suf {l r:List Tk} (h:Ts l) (hs:r <:+ l):Ts r:=fun t ht=>h t (hs.subset ht)
theorem Ts.hd {l:List Tk} (h:Ts l):(hd l).t.size≤1048576:=by
 cases l with
 | nil=>show ByteArray.empty.size≤_;decide
 | cons a b=>exact h a (List.mem_cons_self ..)
theorem wV {k:Int} {l r:List Tk} {v:ByteArray} (h:tak k l=.ok v r):v=(hd l).t:=by
 unfold tak at h;split at h
 ·cases h;rfl
 cases h
theorem wX {l r:List Tk} {v:ByteArray} (h:nam l=.ok v r):v=(hd l).t:=by
 unfold nam at h;split at h
 ·exact wV h
 cases h
theorem iJ {a b c d:ByteArray} {h:Hd} (e1:h.op=a) (e2:h.nm=b) (e3:h.tb=c) (e4:h.vs=d) (s1:a.size≤1048576) (s2:b.size≤1048576) (s3:c.size≤1048576) (s4:d.size≤1048576):h.sz:=by
 subst e1 e2 e3 e4;exact ⟨by omega,by omega,by omega,by omega⟩
theorem aZ:ByteArray.empty.size≤1048576:=by decide
theorem pX (n:Int):(bS n).szs:=⟨iJ rfl rfl rfl rfl aZ aZ aZ aZ,trivial⟩
theorem tJ {op:ByteArray} {x:Ex} (h:op.size≤1048576) (hx:x.szs):(eH op x).szs:=⟨iJ rfl rfl rfl rfl h aZ aZ aZ,hx.h,hx.ar,trivial⟩
theorem Mq {op:ByteArray} {x y:Ex} (h:op.size≤1048576) (hx:x.szs) (hy:y.szs):(aY op x y).szs:=by
 unfold aY;split
 ·exact ⟨iJ rfl rfl rfl rfl aZ aZ aZ aZ,hx.h,hx.ar,hy.h,hy.ar,trivial⟩
 exact ⟨iJ rfl rfl rfl rfl h aZ aZ aZ,hx.h,hx.ar,hy.h,hy.ar,trivial⟩
theorem NM (n:Nat) (l:List Tk):(opr n l).size≤1048576:=by
 unfold opr
 cases hf:(opL n).find? fun s=>isT s l with
 | none=>exact aZ
 | some s =>
   have:=List.mem_of_find?_eq_some hf
   show s.size≤1048576
   have h6:∀ m,∀ t ∈ opL m,t.size≤1048576:=fun m=>by
     match m with
     | 0=>decide
     | 1=>decide
     | 2=>decide
     | 3=>decide
     | 4=>decide
     | m+5=>show ∀ t ∈ [_,_],_;decide
   exact h6 n s this
def Md.fit:Md→Prop
 | .tl _ _ y=>y.szs
 | _=>True
theorem LQ {l r:List Tk} {v:Ex} (h:key l=.ok v r) (hl:Ts l):v.szs∧r <:+ l:=by
 unfold key at h;obtain ⟨n,q,h1,h2⟩:=bind_ok h;obtain ⟨s,q',h3,h4⟩:=bind_ok h2;obtain ⟨_,p,k1,k2⟩:=bind_ok h1;obtain ⟨rfl,_⟩:=eF k1;obtain ⟨rfl,_⟩:=kX k2;obtain ⟨rfl,_⟩:=kU (by decide) h3;have s1:=wX k2;have s2:=wV h3;have t1:=hl.suf (List.tail_suffix _);have t2:=t1.suf (List.tail_suffix _);split at h4
 ·cases h4;exact ⟨⟨iJ rfl rfl rfl rfl aZ (s1 ▸ t1.hd) aZ (s2 ▸ t2.hd),trivial⟩,(List.tail_suffix _).trans ((List.tail_suffix _).trans (List.tail_suffix _))⟩
 cases h4
theorem Nw:∀ (f:Nat) (i:Bool) (m:Md) (l:List Tk) (x:Ex) (r:List Tk),Md.fit m→Ts l→pz f i m l=.ok x r→x.szs∧r <:+ l:=by
 intro f
 induction f with
 | zero=>intro i m l x r _ _ h;cases h
 | succ f ih =>
   intro i m l x r hm hl h
   have tl:=List.tail_suffix l
   have ht:=hl.suf tl
   cases m with
   | ex =>
     simp only [pz] at h
     split at h
     · obtain ⟨a,q1,h1,h⟩:=bind_ok h
       obtain ⟨_,q2,h2,h⟩:=bind_ok h
       obtain ⟨b,q3,h3,h⟩:=bind_ok h
       obtain ⟨_,q4,h4,h⟩:=bind_ok h
       obtain ⟨c,q5,h5,h⟩:=bind_ok h
       cases h
       obtain ⟨a1,b1⟩:=ih _ _ _ _ _ (by exact trivial) ht h1
       have b2:q2 <:+ q1:=(eF h2).1 ▸ List.tail_suffix _
       have c2:=b2.trans (b1.trans tl)
       obtain ⟨a3,b3⟩:=ih _ _ _ _ _ (by exact trivial) (hl.suf c2) h3
       have b4:q4 <:+ q3:=(eF h4).1 ▸ List.tail_suffix _
       have c4:=b4.trans (b3.trans c2)
       obtain ⟨a5,b5⟩:=ih _ _ _ _ _ (by exact trivial) (hl.suf c4) h5
       exact ⟨⟨iJ rfl rfl rfl rfl aZ aZ aZ aZ,a1.h,a1.ar,a3.h,a3.ar,a5.h,a5.ar,trivial⟩,b5.trans c4⟩
     · exact ih _ _ _ _ _ (by exact trivial) hl h
   | op least =>
     simp only [pz] at h
     split at h
     · obtain ⟨a,q1,h1,h⟩:=bind_ok h
       obtain ⟨a1,b1⟩:=ih _ _ _ _ _ (by exact trivial) ht h1
       have c1:=b1.trans tl
       obtain ⟨a2,b2⟩:=ih _ (.tl _ _ _) _ _ _ (tJ (by decide) a1) (hl.suf c1) h
       exact ⟨a2,b2.trans c1⟩
     · obtain ⟨a,q1,h1,h⟩:=bind_ok h
       obtain ⟨a1,b1⟩:=ih _ _ _ _ _ (by exact trivial) hl h1
       obtain ⟨a2,b2⟩:=ih _ (.tl _ _ _) _ _ _ a1 (hl.suf b1) h
       exact ⟨a2,b2.trans b1⟩
   | tl least n y =>
     simp only [pz] at h
     split at h
     · cases h
       exact ⟨hm,List.suffix_refl _⟩
     · split at h
       · exact ih _ (.tl _ (n - 1) y) _ _ _ (by exact hm) hl h
       · obtain ⟨a,q1,h1,h⟩:=bind_ok h
         obtain ⟨a1,b1⟩:=ih _ _ _ _ _ (by exact trivial) ht h1
         have c1:=b1.trans tl
         obtain ⟨a2,b2⟩:=ih _ (.tl _ _ _) _ _ _ (Mq (NM _ _) hm a1) (hl.suf c1) h
         exact ⟨a2,b2.trans c1⟩
   | ng =>
     simp only [pz] at h
     split at h
     · obtain ⟨a,q1,h1,h⟩:=bind_ok h
       cases h
       obtain ⟨a1,b1⟩:=ih _ _ _ _ _ (by exact trivial) ht h1
       exact ⟨tJ (by decide) a1,b1.trans tl⟩
     · exact ih _ _ _ _ _ (by exact trivial) hl h
   | pa =>
     simp only [pz] at h
     obtain ⟨_,q1,h1,h⟩:=bind_ok h
     obtain ⟨a,q2,h2,h⟩:=bind_ok h
     obtain ⟨_,q3,h3,h⟩:=bind_ok h
     cases h
     have b1:q1 <:+ l:=(eF h1).1 ▸ tl
     obtain ⟨a2,b2⟩:=ih _ _ _ _ _ (by exact trivial) (hl.suf b1) h2
     have b3:r <:+ q2:=(eF h3).1 ▸ List.tail_suffix _
     exact ⟨a2,b3.trans (b2.trans b1)⟩
   | rf =>
     simp only [pz] at h
     obtain ⟨n,q1,h1,h⟩:=bind_ok h
     have b1:q1 <:+ l:=(kX h1).1 ▸ tl
     have hn:n.size≤1048576:=wX h1 ▸ hl.hd
     split at h
     · obtain ⟨a,q2,h2,h⟩:=bind_ok h
       cases h
       have c1:=(List.tail_suffix q1).trans b1
       obtain ⟨a2,b2⟩:=ih _ _ _ _ _ (by exact trivial) (hl.suf c1) h2
       exact ⟨⟨iJ rfl rfl rfl rfl aZ hn aZ aZ,a2.h,a2.ar,trivial⟩,b2.trans c1⟩
     · cases h
       exact ⟨⟨iJ rfl rfl rfl rfl aZ hn aZ aZ,trivial⟩,b1⟩
   | ag =>
     simp only [pz] at h
     obtain ⟨op,q1,h1,h⟩:=bind_ok h
     have b1:q1 <:+ l:=(kU (by decide) h1).1 ▸ tl
     have ho:op.size≤1048576:=wV h1 ▸ hl.hd
     obtain ⟨_,q2,h2,h⟩:=bind_ok h
     have b2:q2 <:+ l:=((eF h2).1 ▸ List.tail_suffix _:q2 <:+ q1).trans b1
     obtain ⟨t,q3,h3,h⟩:=bind_ok h
     have b3:q3 <:+ l:=((kX h3).1 ▸ List.tail_suffix _:q3 <:+ q2).trans b2
     have hn:t.size≤1048576:=wX h3 ▸ (hl.suf b2).hd
     obtain ⟨_,q4,h4,h⟩:=bind_ok h
     have b4:q4 <:+ l:=((eF h4).1 ▸ List.tail_suffix _:q4 <:+ q3).trans b3
     obtain ⟨a,q5,h5,h⟩:=bind_ok h
     have g5:a.szs∧q5 <:+ l:=by
       split at h5
       · cases h5;exact ⟨pX 1,b4⟩
       · obtain ⟨_,p1,k1,h5⟩:=bind_ok h5
         obtain ⟨_,p2,k2,h5⟩:=bind_ok h5
         cases h5
         obtain ⟨a6,b6⟩:=ih _ _ _ _ _ (by exact trivial) (hl.suf b4) k1
         exact ⟨a6,((eF k2).1 ▸ List.tail_suffix _:q5 <:+ p1).trans (b6.trans b4)⟩
     obtain ⟨n,q6,h6,h⟩:=bind_ok h
     have g6:q6 <:+ l:=by
       split at h6
       · obtain ⟨_,p1,k1,h6⟩:=bind_ok h6
         obtain ⟨_,p2,k2,h6⟩:=bind_ok h6
         cases h6
         exact ((eF k2).1 ▸ List.tail_suffix _:q6 <:+ p1).trans ((mM k1).trans g5.2)
       · cases h6;exact g5.2
     obtain ⟨w,q7,h7,h⟩:=bind_ok h
     have g7:=(Kj h7).trans g6
     obtain ⟨b,q8,h8,h⟩:=bind_ok h
     have g8:b.szs∧q8 <:+ l:=by
       split at h8
       · have c7:=(List.tail_suffix q7).trans g7
         obtain ⟨a6,b6⟩:=ih _ _ _ _ _ (by exact trivial) (hl.suf c7) h8
         exact ⟨a6,b6.trans c7⟩
       · cases h8;exact ⟨pX 1,g7⟩
     obtain ⟨_,q9,h9,h⟩:=bind_ok h
     cases h
     exact ⟨⟨iJ rfl rfl rfl rfl ho aZ hn aZ,g5.1.h,g5.1.ar,g8.1.h,g8.1.ar,trivial⟩,((eF h9).1 ▸ List.tail_suffix _:r <:+ q8).trans g8.2⟩
   | pr =>
     simp only [pz] at h
     split at h
     · obtain ⟨n,q1,h1,h⟩:=bind_ok h
       obtain ⟨u,q2,h2,h⟩:=bind_ok h
       cases h
       exact ⟨⟨iJ rfl rfl rfl rfl aZ aZ aZ aZ,trivial⟩,(AL h2).trans (mM h1)⟩
     split at h
     · obtain ⟨n,q1,h1,h⟩:=bind_ok h
       obtain ⟨u,q2,h2,h⟩:=bind_ok h
       cases h
       exact ⟨⟨iJ rfl rfl rfl rfl aZ aZ aZ aZ,trivial⟩,(AL h2).trans (Jz h1)⟩
     split at h
     · obtain ⟨n,q1,h1,h⟩:=bind_ok h
       cases h
       exact ⟨⟨iJ rfl rfl rfl rfl aZ aZ aZ (wV h1 ▸ hl.hd),trivial⟩,(kU (by decide) h1).1 ▸ tl⟩
     split at h
     · cases h;exact ⟨pX 1,tl⟩
     split at h
     · cases h;exact ⟨pX 0,tl⟩
     split at h
     · exact LQ h hl
     split at h
     · obtain ⟨n,q1,h1,h⟩:=bind_ok h
       cases h
       obtain ⟨a1,b1⟩:=ih _ _ _ _ _ (by exact trivial) ht h1
       exact ⟨tJ (by decide) a1,b1.trans tl⟩
     split at h
     · exact ih _ _ _ _ _ (by exact trivial) hl h
     split at h
     · obtain ⟨n,q1,h1,h⟩:=bind_ok h
       cases h
       exact ⟨⟨iJ rfl rfl rfl rfl aZ (wX h1 ▸ hl.hd) aZ aZ,trivial⟩,(kX h1).1 ▸ tl⟩
     split at h
     · exact ih _ _ _ _ _ (by exact trivial) hl h
     · exact ih _ _ _ _ _ (by exact trivial) hl h
end ch
namespace tk
open Go.RowKit dec
structure Bw (w:World) (b:Nat) (x:Tk):Prop where
 c0:w.cell? ⟨b,0,none⟩=some (.int .i64 (x).k)
 c1:w.cell? ⟨b,1,none⟩=some (.string (x).t)
 c2:w.cell? ⟨b,2,none⟩=some (.int .i64 (x).a)
theorem Bw.lt {w:World} {b:Nat} {x:Tk} (h:Bw w b x):b<w.heap.size:=block_lt_of_cell h.c0
theorem Bw.new (w:World) (x:Tk) (T:TypeId):Bw (w.alloc (.cells #[.int .i64 (x).k,.string (x).t,.int .i64 (x).a] T)) w.heap.size x:=⟨by simp [go_sem],by simp [go_sem],by simp [go_sem]⟩
theorem Bw.oN {w w1:World} {B b:Nat} {x:Tk} (h:Bw w b x) (hb:Below B w w1) (hl:b<B):Bw w1 b x :=
 ⟨(hb.cell hl).trans h.c0,(hb.cell hl).trans h.c1,(hb.cell hl).trans h.c2⟩
theorem Bw.keeps {w w1:World} {b:Nat} {x:Tk} (h:Bw w b x) (hb:Below w.heap.size w w1):Bw w1 b x:=h.oN hb h.lt
theorem Bw.past {w:World} {b:Nat} {x:Tk} (h:Bw w b x) (o:Obj):Bw (w.alloc o) b x:=h.keeps (aj (b0 w) o)
def cs:List Tk→List Value
 | []=>[]
 | x :: l=>.int .i64 (x).k :: .string (x).t :: .int .i64 (x).a :: cs l
theorem fZ:∀ l r:List Tk,cs (l++r)=cs l++cs r
 | [],_=>rfl
 | x :: l,r=>by simp only [cs,List.cons_append,fZ l r]
theorem kC:∀ l:List Tk,∀ u ∈ cs l,u.oneCell'=true
 | [],u,h=>by simp [cs] at h
 | x :: l,u,h=>by
  simp only [cs,List.mem_cons] at h
  rcases h with rfl | rfl | rfl | h
  ·rfl
  ·rfl
  ·rfl
  ·exact kC l u h
def gt (l:List Tk) (j:Nat):Tk:=l.getD j ⟨0,.empty,0⟩
theorem mP {l:List Tk} {j:Nat} (h:j<l.length):gt l j ∈ l:=by
 unfold gt;rw [List.getD_eq_getElem?_getD,List.getElem?_eq_getElem h];exact List.getElem_mem h
theorem jF {l:List Tk} {j:Nat} (h:j<l.length):gt l j=l[j]:=by
 unfold gt;rw [List.getD_eq_getElem?_getD,List.getElem?_eq_getElem h];rfl
theorem lI:∀ (l:List Tk) (j:Nat),j<l.length→(cs l)[j * 3]? = some (.int .i64 (gt l j).k)∧(cs l)[j * 3+1]? = some (.string (gt l j).t)∧(cs l)[j * 3+2]? = some (.int .i64 (gt l j).a)
 | [],j,h=>by simp at h
 | x :: l,0,_=>⟨rfl,rfl,rfl⟩
 | x :: l,j+1,h=>by
  have:=lI l j (by simpa using h)
  rw [show (j+1) * 3=j * 3+1+1+1 by omega]
  simp only [cs,sz4]
  exact this
theorem pV {l:List Tk} {j:Nat} (h:j<l.length):l.drop j=gt l j :: l.drop (j+1):=by
 rw [jF h];exact List.drop_eq_getElem_cons h
theorem jM {l:List Tk} {j:Nat} (h:j<l.length):l.take (j+1)=l.take j++[gt l j]:=by
 rw [jF h,List.take_add_one,List.getElem?_eq_getElem h];rfl
def Cl (w:World) (b off:Nat) (l:List Tk):Prop:=∀ j,j<l.length→w.cell? ⟨b,off+j * 3,none⟩=some (.int .i64 (gt l j).k)∧w.cell? ⟨b,off+j * 3+1,none⟩=some (.string (gt l j).t)∧w.cell? ⟨b,off+j * 3+2,none⟩=some (.int .i64 (gt l j).a)
theorem Cl.keeps {w w1:World} {b off:Nat} {l:List Tk} (h:Cl w b off l) (hb:Below w.heap.size w w1):Cl w1 b off l:=fun j hj=>⟨dec.keeps hb (h j hj).1,dec.keeps hb (h j hj).2.1,dec.keeps hb (h j hj).2.2⟩
def At (w:World) (a:Option Addr) (l:List Tk):Prop:=l.length=0∨∃ b off,a=some ⟨b,off,none⟩∧Cl w b off l
theorem At.keeps {w w1:World} {a:Option Addr} {l:List Tk} (h:At w a l) (hb:Below w.heap.size w w1):At w1 a l:=h.imp id fun ⟨b,off,e,hB⟩=>⟨b,off,e,hB.keeps hb⟩
structure Sl (w:World) (a:Option Addr) (n cap:Nat) (l:List Tk):Prop where
 hat:At w a l
 hn:l.length=n
 hcap:n≤cap
 hmax:cap≤9223372036854775807
 hno:a=none→cap=0
theorem Sl.keeps {w w1:World} {a:Option Addr} {n cap:Nat} {l:List Tk} (h:Sl w a n cap l) (hb:Below w.heap.size w w1):Sl w1 a n cap l:={ h with hat:=h.hat.keeps hb }
theorem Sl.nil (w:World):Sl w none 0 0 []:=⟨.inl rfl,rfl,by omega,by omega,fun _=>rfl⟩
theorem sK:(Tryz.prog.info? 119).map (fun i=>(i.zero,i.size,i.bytes))=some (some (.agg #[.int .i64 0,.string .empty,.int .i64 0]),3,32):=by kernel_rfl
def Own (w:World) (base:Nat) (v:Value) (l:List Tk):Prop:=w.ownsRow base 119 3 v l.length (cs l)
theorem Own.nil (w:World) (base:Nat):Own w base (.slice none 0 0) []:=World.ownsRow_nil _ _ _ _
theorem Own.o {w:World} {base:Nat} {v:Value} {l:List Tk} (h:Own w base v l):(v=.slice none 0 0∧l=[])∨∃ g cap,v=.slice (some ⟨g,0,none⟩) l.length cap∧base≤g∧g<w.heap.size∧l.length≤cap∧cap≤9223372036854775807∧Cl w g 0 l:=by
 rcases h.2 with ⟨h0,h1⟩ | ⟨g,cap,cur,rfl,hb,hg,hc,hm,hs,ht⟩
 ·exact .inl ⟨h0,List.eq_nil_of_length_eq_zero h1⟩
 refine .inr ⟨g,cap,rfl,hb,(h.lt g rfl).2,hc,by unfold maxLen at hm;omega,fun j hj=>?_⟩;rw [Nat.zero_add,h.cellAt (j * 3) (by omega),h.cellAt (j * 3+1) (by omega),h.cellAt (j * 3+2) (by omega)];exact lI l j hj
theorem Own.sl {w:World} {base:Nat} {v:Value} {l:List Tk} (h:Own w base v l):∃ a cap,v=.slice a l.length cap∧Sl w a l.length cap l:=by
 rcases h.o with ⟨rfl,rfl⟩ | ⟨g,cap,rfl,_,_,hc,hm,hW⟩
 ·exact ⟨none,0,rfl,.nil _⟩
 exact ⟨_,cap,rfl,.inr ⟨g,0,rfl,hW⟩,rfl,hc,hm,fun h=>by cases h⟩
theorem Own.keeps {w w1:World} {base:Nat} {v:Value} {l:List Tk} (h:Own w base v l) (hb:Below w.heap.size w w1):Own w1 base v l:=by
 obtain ⟨h1,h2⟩:=h;refine ⟨h1,?_⟩;rcases h2 with h0 | ⟨g,cap,cur,e,hbg,hh,r⟩
 ·exact .inl h0
 refine .inr ⟨g,cap,cur,e,hbg,?_,r⟩;have:g<w.heap.size:=by
  rcases Nat.lt_or_ge g w.heap.size with h' | h'
  ·exact h'
  rw [Array.getElem?_eq_none h'] at hh;cases hh
 rw [hb.block _ this];exact hh
theorem own_below {w w':World} {base:Nat} {v:Value} {l:List Tk} (h:Own w base v l) (hg:w.grownBy w' v.ownBlock) (hb:base≤w.heap.size):Below base w w' :=
 (Below.refl base w).grown hg hb fun k hk=>(h.lt k hk).1
theorem lX (w:World) {o:Oper} {a:Act} {K:Act→World→Prop} {Q:Exit→Act→World→Prop} (s x:Operand)
    (ho:o.op=.call { callee:=.builtin .append,args:=#[s,x],argTypes:=#[65,65] })
    (base:Nat) (v:Value) (l:List Tk) (hs:a.eval s=v) (hown:Own w base v l) (b:Nat) (y:Tk) (hx:a.eval x=.slice (some ⟨b,0,none⟩) 1 1) (hB:Bw w b y)
    (hn:l.length<4398046511104) (hbase:base≤w.heap.size)
    (h:∀ v' w',Own w' base v' (l++[y])→Below base w w'→w.grownBy w' v.ownBlock→K (a.put o.dst v') w'):o.wp Tryz.prog a w K Q:=by
 obtain ⟨i,hi,hz0,hz1,hz2⟩:=info_parts sK
 refine wp_append_own w s x 65 ho base 119 i (.agg #[.int .i64 0,.string .empty,.int .i64 0]) 3 32 Tryz.underlying65 hi hz0 hz1 hz2 rfl (by decide) v l.length (cs l) hs hown ⟨b,0,none⟩ 1 1 (cs [y]) hx rfl ?_ (kC _)
   (by unfold maxLen;omega) (by omega) hbase fun v' w' h1 h2 _=>h v' w' (by unfold Own;rw [fZ,List.length_append];exact h1) (own_below hown h2 hbase) h2
 intro j u hu;unfold Addr.add
 match j,hu with
 | 0,hu=>simp [cs] at hu;subst hu;exact hB.c0
 | 1,hu=>simp [cs] at hu;subst hu;exact hB.c1
 | 2,hu=>simp [cs] at hu;subst hu;exact hB.c2
 | j+3,hu=>simp [cs] at hu
theorem eu (w:World) {ops:Array Oper} {rest:List Oper} {o:Oper} {a:Act} {Q:Exit→Act→World→Prop} (hgd:o.guard=none) (s x:Operand)
  (ho:o.op=.call { callee:=.builtin .append,args:=#[s,x],argTypes:=#[65,65] })
  (base:Nat) (v:Value) (l:List Tk) (hs:a.eval s=v) (hown:Own w base v l) (b:Nat) (y:Tk) (hx:a.eval x=.slice (some ⟨b,0,none⟩) 1 1) (hB:Bw w b y)
  (hn:l.length<4398046511104) (hbase:base≤w.heap.size)
  (h:∀ v' w',Own w' base v' (l++[y])→Below base w w'→w.grownBy w' v.ownBlock→wpList Tryz.prog ops Q rest (a.put o.dst v') w'):wpList Tryz.prog ops Q (o :: rest) a w :=
 wpList_plain hgd fun _ hK=>lX w s x ho base v l hs hown b y hx hB hn hbase fun v' w' h1 h2 h3=>hK _ _ (h v' w' h1 h2 h3)
theorem jC {w:World} {ops:Array Oper} {rest:List Oper} {o:Oper} {a:Act} {Q:Exit→Act→World→Prop} (s x:Operand) (_:o.op=.call { callee:=.builtin .append,args:=#[s,x],argTypes:=#[65,65] })
  (k:wpList Tryz.prog ops Q (o :: rest) a w):wpList Tryz.prog ops Q (o :: rest) a w:=k
end tk
end Go.Proofs.YtbahfelnbofjjaaGreatDoor
