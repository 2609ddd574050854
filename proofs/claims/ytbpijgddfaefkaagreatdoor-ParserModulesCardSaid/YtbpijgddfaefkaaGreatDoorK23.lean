/-
  The reference's reader in memory, and what its methods do; The reference: letters, digits, words, keywords, names; The reference: blanks, what is skipped, digits, great integers; The reference: great integers, signs; The statements' helpers: sources, tokens, lists that are the same; Appending whole slices of tokens and of problems; literals; Lists of strings of the call's own; lexer.Join; What the statements of the tokens of a source need, as plain data.
-/
import Derived.Test.YtbpijgddfaefkaaGreatDoorK22
set_option maxRecDepth 100000
set_option maxHeartbeats 16000000
namespace Go.Proofs.YtbpijgddfaefkaaGreatDoor
namespace rr
open Go.RowKit dec pa
structure Mx (S B:Nat) (w w':World):Prop where
 os:w'.os=w.os
 tape:w'.tape=w.tape
 output:w'.output=w.output
 size:w.heap.size≤w'.heap.size
 block:∀ k,k<S→k≠B→w'.heap[k]? = w.heap[k]?
theorem Mx.of {S B:Nat} {w w':World} (h:Below S w w'):Mx S B w w':=⟨h.os,h.tape,h.output,h.size,fun k hk _=>h.block k hk⟩
theorem Mx.refl (S B:Nat) (w:World):Mx S B w w:=.of (Below.refl _ _)
theorem Mx.trans {S B:Nat} {a b c:World} (h:Mx S B a b) (k:Mx S B b c):Mx S B a c :=
 ⟨k.os.trans h.os,k.tape.trans h.tape,k.output.trans h.output,Nat.le_trans h.size k.size,fun i hi hn=>(k.block i hi hn).trans (h.block i hi hn)⟩
theorem Mx.mono {S S' B:Nat} {w w':World} (h:Mx S B w w') (hS:S'≤S):Mx S' B w w':=⟨h.os,h.tape,h.output,h.size,fun k hk hn=>h.block k (Nat.lt_of_lt_of_le hk hS) hn⟩
theorem Mx.below {S S' B:Nat} {w w':World} (h:Mx S B w w') (hB:S'≤B) (hS:S'≤S):Below S' w w':=⟨h.os,h.tape,h.output,h.size,fun k hk=>h.block k (by omega) (by omega)⟩
theorem Mx.next {S B:Nat} {w a b:World} (h:Mx S B w a) (k:Mx a.heap.size B a b) (hS:S≤w.heap.size):Mx S B w b:=h.trans (k.mono (Nat.le_trans hS h.size))
theorem Mx.nx {B:Nat} {w a b:World} (h:Mx w.heap.size B w a) (k:Mx a.heap.size B a b):Mx w.heap.size B w b:=h.next k lr
theorem Mx.kp {B C:Nat} {w w':World} (h:Mx w.heap.size B w w') (hC:B<C):Kp C w w':=fun b _ _ _ hn _ hc=>h.block b (bR hc) (by omega)
theorem Mx.st {B g S:Nat} {w w':World} (h:St g w w') (hg:g=B∨S≤g):Mx S B w w':=⟨h.os,h.tape,h.output,Nat.le_of_eq h.size.symm,fun k hk hn=>h.block k (by rcases hg with rfl | hg;exact hn;omega)⟩
theorem gG {S B:Nat} {w w':World} {g:Nat} {T:TypeId} {cs:Array Value} (h:Blk w g T cs) (M:Mx S B w w') (hn:g≠B) (hS:g<S):Blk w' g T cs:=(M.block g hS hn).trans h
theorem bk1 {w w':World} {B g:Nat} {T:TypeId} {cs:Array Value} (h:Go.RowKit.Hid (Blk w g T cs)) (M:Mx w.heap.size B w w') (b:Go.RowKit.Hid (B<g)):Go.RowKit.Hid (Blk w' g T cs):=gG h.o M (Nat.ne_of_gt b.o) h.o.lt
theorem bk2 {w w':World} {B g a:Nat} {T:TypeId} {cs:Array Value} (h:Go.RowKit.Hid (Blk w g T cs)) (M:Mx w.heap.size B w w') (h0:Go.RowKit.Hid (B<a)) (h1:Go.RowKit.Hid (a<g)):Go.RowKit.Hid (Blk w' g T cs):=bk1 h M (by have:=h0.o;have:=h1.o;unfold Go.RowKit.Hid;omega)
theorem bk3 {w w':World} {B g a b:Nat} {T:TypeId} {cs:Array Value} (h:Go.RowKit.Hid (Blk w g T cs)) (M:Mx w.heap.size B w w') (h0:Go.RowKit.Hid (B<a)) (h1:Go.RowKit.Hid (a<b)) (h2:Go.RowKit.Hid (b<g)):Go.RowKit.Hid (Blk w' g T cs):=bk1 h M (by have:=h0.o;have:=h1.o;have:=h2.o;unfold Go.RowKit.Hid;omega)
theorem bk4 {w w':World} {B g a b c:Nat} {T:TypeId} {cs:Array Value} (h:Go.RowKit.Hid (Blk w g T cs)) (M:Mx w.heap.size B w w') (h0:Go.RowKit.Hid (B<a)) (h1:Go.RowKit.Hid (a<b)) (h2:Go.RowKit.Hid (b<c)) (h3:Go.RowKit.Hid (c<g)):Go.RowKit.Hid (Blk w' g T cs):=bk1 h M (by have:=h0.o;have:=h1.o;have:=h2.o;have:=h3.o;unfold Go.RowKit.Hid;omega)
def Prl (l:List Tk):Prop:=∀ x ∈ l,(x.k=6∧x.t=.empty)∨pr x=true
theorem Prl.hd {l:List Tk} (h:Prl l) (hl:Tl l):((Go.Proofs.YtbpijgddfaefkaaGreatDoor.hd l).k=6∧(Go.Proofs.YtbpijgddfaefkaaGreatDoor.hd l).t=.empty)∨pr (Go.Proofs.YtbpijgddfaefkaaGreatDoor.hd l)=true:=by
 have:=hl.ne
 cases l with
 | nil=>exact absurd rfl this
 | cons x r=>exact h x (List.mem_cons_self ..)
theorem Prl.tail {l:List Tk} (h:Prl l):Prl l.tail:=fun x hx=>h x (List.mem_of_mem_tail hx)
theorem AY {s:ByteArray} {k:Int} (hs:pr ⟨k,s,0⟩=true) (hk:k≠4) {x:Tk} (hx:pr x=true) (h4:x.k≠4) (ht:x.t=s):x.k=k:=by
 have h1:=((aR _).1 hs).1;have h2:=((aR _).1 hx).1;have e1:so ⟨k,s,0⟩=s.data.toList:=by unfold so;rw [if_neg hk]
 have e2:so x=s.data.toList:=by unfold so;rw [if_neg h4,ht]
 rw [e1] at h1;rw [e2,h1] at h2;exact (congrArg Prod.fst h2).symm
theorem sO:(Tryz.prog.info? 72).map (·.size)=some 2:=by kernel_rfl
theorem gZ:(Tryz.prog.info? 69).map (·.size)=some 3:=by kernel_rfl
theorem qL {s:ByteArray} {k:Int} (hs:pr ⟨k,s,0⟩=true) (hk:k=1∨k=5) {l:List Tk} (hp:Prl l) (hl:Tl l):isT s l=(decide ((hd l).k=k) && decide ((hd l).t=s)):=by
 rw [Bool.eq_iff_iff];unfold isT;simp only [Bool.and_eq_true,Bool.or_eq_true,decide_eq_true_eq];constructor
 ·rintro ⟨h1,h2⟩;refine ⟨?_,h2⟩;rcases hp.hd hl with ⟨h6,_⟩ | hx
  ·omega
  exact AY hs (by omega) hx (by omega) h2
 rintro ⟨h1,h2⟩;exact ⟨by omega,h2⟩
structure Rp (w:World) (B:Nat) (l:List Tk) (i:Bool) (a c:Int):Prop where
 mem:∃ (ad:Option Addr) (n cap:Nat),Blk w B 81 #[.slice ad n cap,.bool i,.int .i64 a,.int .i64 c]∧tk.Sl w ad n cap l∧(∀ b off s,ad=some ⟨b,off,s⟩→b<B∧Tg w b 69)
 tl:Tl l
 pl:Prl l
theorem Rp.lt {w:World} {B:Nat} {l:List Tk} {i:Bool} {a c:Int} (h:Rp w B l i a c):B<w.heap.size:=by
 obtain ⟨ad,n,cap,hb,_⟩:=h.mem;exact hb.lt
theorem Rp.keep {w w1:World} {B:Nat} {l:List Tk} {i:Bool} {a c:Int} (h:Rp w B l i a c) (hb:Below (B+1) w w1):Rp w1 B l i a c:=by
 obtain ⟨ad,n,cap,b0,S,hn⟩:=h.mem;exact ⟨⟨ad,n,cap,(hb.block B ls).trans b0,{ S with hat:=S.hat.imp id fun ⟨b,off,ea,hC⟩=>⟨b,off,ea,nU hC hb (Nat.lt_succ_of_lt (hn b off none ea).1)⟩ },fun b off s e=>⟨(hn b off s e).1,by
   obtain ⟨cs,fr,ht⟩:=(hn b off s e).2
   exact ⟨cs,fr,(hb.block b (Nat.lt_succ_of_lt (hn b off s e).1)).trans ht⟩⟩⟩,h.tl,h.pl⟩
theorem Rp.keeps {w w1:World} {B:Nat} {l:List Tk} {i:Bool} {a c:Int} (h:Rp w B l i a c) (hb:Below w.heap.size w w1):Rp w1 B l i a c:=h.keep (hb.mono h.lt)
theorem Rp.st {w w1:World} {B g:Nat} {l:List Tk} {i:Bool} {a c:Int} (h:Rp w B l i a c) (hs:St g w w1) (hg:B<g):Rp w1 B l i a c:=h.keep (hs.below hg)
theorem Rp.now {w:World} {B:Nat} {l:List Tk} {i:Bool} {a c:Int} (h:Rp w B l i a c):∃ (b off n cap:Nat),Blk w B 81 #[.slice (some ⟨b,off,none⟩) n cap,.bool i,.int .i64 a,.int .i64 c]∧1≤n∧n≤cap∧cap≤9223372036854775807∧n=l.length
    ∧ w.cell? ⟨b,off,none⟩=some (.int .i64 (hd l).k)∧w.cell? ⟨b,off+1,none⟩=some (.string (hd l).t)∧w.cell? ⟨b,off+2,none⟩=some (.int .i64 (hd l).a)∧b<B∧tk.Cl w b off l:=by
 obtain ⟨ad,n,cap,b0,S,hn⟩:=h.mem;have hne:=h.tl.ne;have h1:=S.hn;have hpos:0<l.length:=by cases l;exact absurd rfl hne;simp
 obtain ⟨b,off,rfl,hC⟩:=S.hat.resolve_left (by omega);have h0:=hC 0 hpos;have e:tk.gt l 0=hd l:=by cases l;exact absurd rfl hne;rfl
 rw [e] at h0;exact ⟨b,off,n,cap,b0,by omega,S.hcap,S.hmax,h1.symm,by simpa using h0.1,by simpa using h0.2.1,by simpa using h0.2.2,(hn b off none rfl).1,hC⟩
theorem Rp.put {w w1:World} {B:Nat} {l l':List Tk} {i i':Bool} {a c a' c':Int} (h:Rp w B l i a c) {b n' cap' off':Nat} {off n cap:Nat} (h0:Blk w B 81 #[.slice (some ⟨b,off,none⟩) n cap,.bool i,.int .i64 a,.int .i64 c]) (hs:St B w w1) (hb:Blk w1 B 81 #[.slice (some ⟨b,off',none⟩) n' cap',.bool i',.int .i64 a',.int .i64 c']) (hbB:b<B) (hC:tk.Cl w b off' l') (hn:n'=l'.length) (hc:n'≤cap') (hm:cap'≤9223372036854775807) (hl:Tl l') (hp:Prl l'):Rp w1 B l' i' a' c' :=
 ⟨⟨_,n',cap',hb,⟨.inr ⟨b,off',rfl,nU hC (hs.below lr) hbB⟩,hn.symm,hc,hm,fun h=>by cases h⟩,fun b2 off2 s e=>by
  cases e
  obtain ⟨ad,n1,cap1,h1,_,h3⟩:=h.mem
  have e1:=h1.symm.trans h0
  simp only [Option.some.injEq,Obj.cells.injEq,Array.mk.injEq,List.cons.injEq,Value.slice.injEq] at e1
  obtain ⟨cs,fr,ht⟩:=(h3 b off none e1.1.1.1).2
  exact ⟨hbB,cs,fr,(hs.block b (Nat.ne_of_lt hbB)).trans ht⟩⟩,hl,hp⟩
theorem N7 {w:World} {base:Nat} {a:Option Addr} {n cap:Nat} {l:List Tk} (h:tk.Own w base (.slice a n cap) l):∀ b off s,a=some ⟨b,off,s⟩→base≤b∧b<w.heap.size∧Tg w b 69:=fun b off s e=>by
 rcases h.2 with ⟨h1,_⟩ | ⟨g',cp,cur,h1,hbg,hh,_⟩
 ·injection h1 with i1
  rw [i1] at e
  cases e
 ·injection h1 with i1
  rw [i1] at e
  cases e
  exact ⟨hbg,bR hh,_,_,hh⟩
def Aft {α:Type} (r:Rs α) (l:List Tk) (a c:Int) (x:α) (l':List Tk) (a' c':Int):Prop :=
 if c=0 then (match r with
  | .out=>True
  | .ok v q=>x=v∧l'=q∧a'=a∧c'=0
  | .no b d _=>a'=b∧c'=d∧d≠0)
 else l'=l∧a'=a∧c'=c
theorem Aft.bad {α β:Type} {r:Rs α} {r':Rs β} {l l':List Tk} {a c a' c':Int} {x:α} {x':β} (hc:c≠0) (h:Aft r l a c x l' a' c'):Aft r' l a c x' l' a' c':=by
 unfold Aft at *;rw [if_neg hc] at *;exact h
theorem Aft.still {α:Type} (r:Rs α) (l:List Tk) (a:Int) {c:Int} (hc:c≠0) (x:α):Aft r l a c x l a c:=by
 unfold Aft;rw [if_neg hc];exact ⟨rfl,rfl,rfl⟩
theorem Aft.pure {α:Type} (l:List Tk) (a c:Int) (x:α):Aft (.ok x l) l a c x l a c:=by
 unfold Aft;by_cases hc:c=0
 ·rw [if_pos hc];exact ⟨rfl,rfl,rfl,hc⟩
 rw [if_neg hc];exact ⟨rfl,rfl,rfl⟩
theorem Aft.as {α:Type} {l:List Tk} {a c:Int} {v x:α} (h:c=0→v=x):Aft (.ok v l) l a c x l a c:=by
 unfold Aft;by_cases hc:c=0
 ·rw [if_pos hc];exact ⟨(h hc).symm,rfl,rfl,hc⟩
 rw [if_neg hc];exact ⟨rfl,rfl,rfl⟩
theorem Aft.bind {α β:Type} {r:Rs α} {g:α→List Tk→Rs β} {l l1 l2:List Tk} {a c a1 c1 a2 c2:Int} {x:α} {y:β} (h:Aft r l a c x l1 a1 c1) (k:Aft (g x l1) l1 a1 c1 y l2 a2 c2):Aft (r.bind g) l a c y l2 a2 c2:=by
 unfold Aft at h ⊢;by_cases hc:c=0
 ·rw [if_pos hc] at h ⊢
  cases r with
  | out=>trivial
  | ok v q =>
    obtain ⟨rfl,rfl,rfl,rfl⟩:=h
    unfold Aft at k
    rw [if_pos rfl] at k
    exact k
  | no b d q =>
    obtain ⟨rfl,rfl,h3⟩:=h
    unfold Aft at k
    rw [if_neg h3] at k
    obtain ⟨_,rfl,rfl⟩:=k
    exact ⟨rfl,rfl,h3⟩
 rw [if_neg hc] at h ⊢;obtain ⟨rfl,rfl,rfl⟩:=h;unfold Aft at k;rw [if_neg hc] at k;exact k
theorem Aft.yes {α:Type} {A B:Rs α} {s:ByteArray} {l l':List Tk} {a c a' c':Int} {x:α} (hc:c=0) (ht:isT s l=true) (h:Aft A l.tail a c x l' a' c'):Aft (if isT s l=true then A else B) l a c x l' a' c':=by
 subst hc;rw [if_pos ht];unfold Aft at *;rw [if_pos rfl] at *;exact h
theorem Aft.nay {α:Type} {A B:Rs α} {s:ByteArray} {l l':List Tk} {a c a' c':Int} {x:α} (h0:¬ (c=0∧isT s l=true)) (h:Aft B l a c x l' a' c'):Aft (if isT s l=true then A else B) l a c x l' a' c':=by
 by_cases hc:c=0
 ·rw [if_neg (fun ht=>h0 ⟨hc,ht⟩)];exact h
 exact h.bad hc
theorem Aft.fine {α:Type} {r:Rs α} {l l':List Tk} {a c a':Int} {x:α} (h:Aft r l a c x l' a' 0) (hr:r≠.out):c=0∧r=.ok x l'∧a'=a:=by
 unfold Aft at h;by_cases hc:c=0
 ·rw [if_pos hc] at h
  cases r with
  | out=>exact absurd rfl hr
  | ok v q =>
    obtain ⟨rfl,rfl,rfl,_⟩:=h
    exact ⟨hc,rfl,rfl⟩
  | no b d q=>exact absurd h.2.1.symm h.2.2
 rw [if_neg hc] at h;exact absurd h.2.2.symm hc
def Qst {α:Type} (B:Nat) (V:Nat→World→Value→α→Prop) (r:Rs α) (l:List Tk) (i:Bool) (a c:Int) (w:World) (e:Ending) (w':World):Prop :=
 ∃ u x l' a' c',e=.returned u∧V w.heap.size w' u x∧Rp w' B l' i a' c'∧Mx w.heap.size B w w'∧Aft r l a c x l' a' c'
def fnd (s:ByteArray) (l:List Tk) (c:Int):Bool:=decide (c=0) && isT s l
theorem bg {s:ByteArray} {l:List Tk} {c:Int} (h:fnd s l c=true):c=0∧isT s l=true:=by
 unfold fnd at h;rw [Bool.and_eq_true,decide_eq_true_eq] at h;exact h
theorem bS {s:ByteArray} {l:List Tk} {c:Int} (h:fnd s l c=false):¬ (c=0∧isT s l=true):=by
 rintro ⟨rfl,ht⟩;unfold fnd at h;rw [ht] at h;cases h
end rr
section
open Go.RowKit dec
theorem vN (lo hi:Nat) (c:UInt8) (b:Bool) (h:(decide (lo≤c.toNat) && decide (c.toNat≤hi))=b) :
    (decide ((lo:Int)≤(c.toNat:Int))=false∧b=false)∨(decide ((lo:Int)≤(c.toNat:Int))=true∧decide ((c.toNat:Int)≤(hi:Int))=b):=by
 by_cases h1:lo≤c.toNat
 ·right;refine ⟨dT (by omega),?_⟩;rw [dT h1,Bool.true_and] at h;rw [← h,decide_eq_decide];omega
 left;rw [dF h1,Bool.false_and] at h;exact ⟨dF (by omega),h.symm⟩
theorem qp (c:UInt8) (w:World):Calls Tryz.prog 178 #[.int .u8 (c.toNat:Int)] w fun e w' => e=.returned (.bool (isL c))∧w'=w:=by
 obtain ⟨b,hb⟩:∃ b,isL c=b:=⟨_,rfl⟩;rw [hb];have H:=vN 97 122 c b hb;clear hb;generalize (c.toNat:Int)=x at *;rcases H with ⟨q1,rfl⟩ | ⟨q1,q2⟩
 ·replace q1:decide (97≤x)=false:=q1
  go_enter Tryz.func178,Tryz.ntmps178
  go_wp2_with fail;go_ret;exact ⟨rfl,rfl⟩
 replace q1:decide (97≤x)=true:=q1;replace q2:decide (x≤122)=b:=q2
 go_enter Tryz.func178,Tryz.ntmps178
 go_wp2_with fail;go_ret;exact ⟨rfl,rfl⟩
theorem nD (c:UInt8) (w:World):Calls Tryz.prog 137 #[.int .u8 (c.toNat:Int)] w fun e w' => e=.returned (.bool (isD c))∧w'=w:=by
 obtain ⟨b,hb⟩:∃ b,isD c=b:=⟨_,rfl⟩;rw [hb];have H:=vN 48 57 c b hb;clear hb;generalize (c.toNat:Int)=x at *;rcases H with ⟨q1,rfl⟩ | ⟨q1,q2⟩
 ·replace q1:decide (48≤x)=false:=q1
  go_enter Tryz.func137,Tryz.ntmps137
  go_wp2_with fail;go_ret;exact ⟨rfl,rfl⟩
 replace q1:decide (48≤x)=true:=q1;replace q2:decide (x≤57)=b:=q2
 go_enter Tryz.func137,Tryz.ntmps137
 go_wp2_with fail;go_ret;exact ⟨rfl,rfl⟩
def wdN (l:List UInt8):Nat:=match l with
 | []=>0
 | c :: r=>if isL c=true then run isW (c :: r) else 0
theorem Bs.at {w:World} {a:Option Addr} {n cap:Nat} {s:ByteArray} (h:Bs w a n cap s) {j:Nat} (hj:j<s.size):∃ b off,a=some ⟨b,off,none⟩∧w.cell? ⟨b,off+j,none⟩=some (.int .u8 (s[j].toNat:Int)):=by
 rcases h.hat with h0 | ⟨b,off,e,hB⟩
 ·omega
 exact ⟨b,off,e,hB j hj⟩
theorem tO (s:ByteArray) {i:Nat} (h:i<s.size):wdN (s.data.toList.drop i)=if isL s[i]=true then run isW (s.data.toList.drop (i+1))+1 else 0:=by
 rw [List.drop_eq_getElem_cons (by rw [aM];exact h)];show (if isL s[i]=true then run isW (s[i] :: s.data.toList.drop (i+1)) else 0)=_;by_cases h1:isL s[i]=true
 ·rw [if_pos h1,if_pos h1,fZ (pY h1)]
 rw [if_neg h1,if_neg h1]
theorem Ov (c:UInt8):isW c=(isL c || (isD c || ((c.toNat:Int)==95))):=by
 unfold isW;rw [Bool.or_assoc];congr 2;rw [eqb,decide_eq_decide];omega
theorem Fy {s:ByteArray} {i j R:Nat} (hc:i+j<s.size) (h:j+run isW (s.data.toList.drop (i+j))=R) {x:Int} (hx:((s[i+j].toNat:Nat):Int)=x) :
    (∃ l d,isL s[i+j]=l∧isD s[i+j]=d∧((l=true∨(l=false∧d=true)∨(l=false∧d=false∧(x==95)=true))∧j+1+run isW (s.data.toList.drop (i+(j+1)))=R∨(l=false∧d=false∧(x==95)=false)∧j=R)):=by
 refine ⟨_,_,rfl,rfl,?_⟩;have hst:=gU isW s hc;rw [Ov,hx] at hst;rw [hst] at h;generalize isL s[i+j]=l at h ⊢;generalize isD s[i+j]=d at h ⊢;cases l
 ·cases d
  ·cases hq:(x==95)
   ·right;rw [hq] at h;exact ⟨⟨rfl,rfl,rfl⟩,by simpa using h⟩
   left;rw [hq] at h;exact ⟨.inr (.inr ⟨rfl,rfl,rfl⟩),by simp only [Bool.or_true,if_true] at h;rw [← Nat.add_assoc] ;omega⟩
  left;exact ⟨.inr (.inl ⟨rfl,rfl⟩),by simp only [Bool.true_or,Bool.or_true,if_true] at h;rw [← Nat.add_assoc];omega⟩
 left;exact ⟨.inl rfl,by simp only [Bool.true_or,if_true] at h;rw [← Nat.add_assoc];omega⟩
theorem lF (a0:Option Addr) (n0 cap:Nat) (s:ByteArray) (hs:s.size≤1048576) (i:Nat) (hi:i<s.size) (w:World) (hS:Bs w a0 n0 cap s) :
    Calls Tryz.prog 136 #[.slice a0 n0 cap,.int .i64 (i:Nat)] w fun e w' => e=.returned (.int .i64 (wdN (s.data.toList.drop i):Nat))∧w'=w:=by
 have hn0:=hS.hn;subst hn0;have S0:=Hy hS;have Z0:=Hy hs;have I0:=Hy hi;obtain ⟨b,off,rfl,hB⟩:=hS.at hi;obtain ⟨R,hR⟩:∃ R,wdN (s.data.toList.drop i)=R:=⟨_,rfl⟩;have HW:=tO s hi;rw [hR] at HW ⊢;have LC:=Hy (qp (s[i]'hi) w);clear hS hs;by_cases hl:isL (s[i]'hi)=true
 ·rw [if_pos hl] at HW;rw [hl] at LC;have hR:=Hy (show 1+run isW (s.data.toList.drop (i+1))=R by omega);clear HW hl
  go_enter Tryz.func136,Tryz.ntmps136
  go_wp2_with fail;refine LC.o.mono ?_;rintro e w1 ⟨rfl,hw⟩;obtain rfl:w=w1:=hw.symm;clear hB LC;go_wp2_with fail
  go_loopw [5] (fun x wr => ∃ j:Nat,x=.int .i64 (j:Nat)∧Hid (i+j≤s.size)∧Hid (j+run isW (s.data.toList.drop (i+j))=R)∧wr=w) (fun x _=>s.size - (intOf x).toNat)
  case atStart=>exact ⟨1,rfl,Hy I0.o,hR,rfl⟩
  case round =>
   obtain ⟨j,rfl,hj,hr,rfl⟩:=hrel;have f1:wrap64 ((i:Int)+(j:Int))=((i+j:Nat):Int):=by have:=Z0.o;have:=hj.o;unfold wrap64;omega
   by_cases hc:i+j<s.size
   ·have q2:decide (((i+j:Nat):Int)<(s.size:Int))=true:=dT (by omega);have q3:i+j<s.size:=hc;have hjs:j<s.size:=by omega
    have f4:=Hy (aV (j:=j) (by have:=Z0.o;omega));obtain ⟨b',off',hab,hB⟩:=S0.o.at hc;cases hab;have LC:=Hy (qp s[i+j] wr);have DC:=Hy (nD s[i+j] wr);obtain ⟨x,hx⟩:∃ x,((s[i+j].toNat:Nat):Int)=x:=⟨_,rfl⟩;obtain ⟨l,d,hl,hd,hcs⟩:=Fy hc hr.o hx;rw [hl,hx] at LC;rw [hd,hx] at DC;rw [hx] at hB;clear hl hd hx hr hj hc;rcases hcs with ⟨rfl | ⟨rfl,rfl⟩ | ⟨rfl,rfl,q5⟩,hn⟩ | ⟨⟨rfl,rfl,q5⟩,hn⟩
    ·replace hn:=Hy hn;clear DC;go_wp2_with (go_at_call 178;refine (LC.o).mono ?_;rintro e w' ⟨rfl,rfl⟩);exact ⟨⟨j+1,by first | exact congrArg (Value.int .i64) f4.o | rfl,Hy q3,hn,trivial⟩,by first | exact aU hjs f4.o | exact iV hjs⟩
    ·replace hn:=Hy hn;go_wp2_with (first | (go_at_call 178;refine (LC.o).mono ?_;rintro e w' ⟨rfl,rfl⟩) | (go_at_call 137;refine (DC.o).mono ?_;rintro e w' ⟨rfl,rfl⟩));exact ⟨⟨j+1,by first | exact congrArg (Value.int .i64) f4.o | rfl,Hy q3,hn,trivial⟩,by first | exact aU hjs f4.o | exact iV hjs⟩
    ·replace hn:=Hy hn;go_wp2_with (first | (go_at_call 178;refine (LC.o).mono ?_;rintro e w' ⟨rfl,rfl⟩) | (go_at_call 137;refine (DC.o).mono ?_;rintro e w' ⟨rfl,rfl⟩));exact ⟨⟨j+1,by first | exact congrArg (Value.int .i64) f4.o | rfl,Hy q3,hn,trivial⟩,by first | exact aU hjs f4.o | exact iV hjs⟩
    replace hn:=Hy hn;go_wp2_with (first | (go_at_call 178;refine (LC.o).mono ?_;rintro e w' ⟨rfl,rfl⟩) | (go_at_call 137;refine (DC.o).mono ?_;rintro e w' ⟨rfl,rfl⟩));go_ret;exact ⟨jF hn.o,rfl⟩
   have q2:decide (((i+j:Nat):Int)<(s.size:Int))=false:=dF (by omega);have q3:decide (i+j<s.size)=false:=dF hc;have hz:=pO isW s (j:=i+j) (by omega);have HD:Hid (j=R):=by unfold Hid;rw [← hr.o,hz,Nat.add_zero]
   clear hz hr hj;go_wp2_with fail;go_ret;exact ⟨jF HD.o,rfl⟩
 rw [if_neg hl] at HW;rw [Bool.not_eq_true] at hl;rw [hl] at LC;have hR:=Hy HW;clear HW hl
 go_enter Tryz.func136,Tryz.ntmps136
 go_wp2_with fail;refine LC.o.mono ?_;rintro e w1 ⟨rfl,hw⟩;obtain rfl:w=w1:=hw.symm;clear hB LC;go_wp2_with fail;go_ret;exact ⟨jF hR.o.symm,rfl⟩
theorem Cx (c:UInt8) (w:World):Calls Tryz.prog 135 #[.int .u8 (c.toNat:Int)] w fun e w' => e=.returned (.bool (isB c))∧w'=w:=by
 have hb:isB c=(((c.toNat:Int)==9) || ((c.toNat:Int)==10) || ((c.toNat:Int)==13) || ((c.toNat:Int)==32)):=by
  unfold isB;simp only [eqb];congr 1;congr 1;congr 1
  all_goals (rw [decide_eq_decide];omega)
 rw [hb];clear hb;generalize (c.toNat:Int)=x;cases h1:(x==9)
 all_goals cases h2:(x==10)
 all_goals cases h3:(x==13)
 all_goals cases h4:(x==32)
 all_goals (
   go_enter Tryz.func135,Tryz.ntmps135
   go_wp2_with fail
   go_ret
   exact ⟨rfl,rfl⟩)
theorem Kj (s:ByteArray) {j R:Nat} {m:Bool} (hj:j<s.size) (h:j+sk m (s.data.toList.drop j)=R) {p bl h5:Bool} (hp:isC s[j]=p) (hb:isB s[j]=bl) (hh:decide (s[j].toNat=35)=h5) :
    (((m && p) || bl || h5)=true∧(j+1)+sk (p && (m || h5)) (s.data.toList.drop (j+1))=R)∨(((m && p) || bl || h5)=false∧j=R):=by
 rw [cO s hj,Ki,hp,hb,hh] at h;cases hc:((m && p) || bl || h5)
 ·right;rw [hc] at h;exact ⟨rfl,by simpa using h⟩
 left;rw [hc] at h;simp only [if_true] at h;exact ⟨rfl,by omega⟩
theorem Nu (s:ByteArray) {j:Nat} (m:Bool) (h:s.size≤j):sk m (s.data.toList.drop j)=0:=by
 rw [List.drop_eq_nil_of_le (by rw [aM];exact h)];rfl
theorem Es (a0:Option Addr) (n0 cap:Nat) (s:ByteArray) (hs:s.size≤1048576) (i:Nat) (hi:i≤s.size) (w:World) (hS:Bs w a0 n0 cap s) :
    Calls Tryz.prog 80 #[.slice a0 n0 cap,.int .i64 (i:Nat)] w fun e w' => e=.returned (.int .i64 (i+sk false (s.data.toList.drop i):Nat))∧w'=w:=by
 have hn0:=hS.hn;subst hn0;have S0:=Hy hS;have Z0:=Hy hs;obtain ⟨R,hR⟩:∃ R,i+sk false (s.data.toList.drop i)=R:=⟨_,rfl⟩;rw [hR];replace hR:=Hy hR;replace hi:=Hy hi;clear hS hs
 go_enter Tryz.func80,Tryz.ntmps80
 go_wp2_with fail
 go_loopw [1,5] (fun vj vm wr => ∃ (j:Nat) (m:Bool),vj=.int .i64 (j:Nat)∧vm=.bool m∧Hid (j≤s.size)∧Hid (j+sk m (s.data.toList.drop j)=R)∧wr=w) (fun vj _ _=>s.size - (intOf vj).toNat)
 case atStart=>exact ⟨i,false,rfl,rfl,hi,hR,rfl⟩
 case round =>
  obtain ⟨j,m,rfl,rfl,hj,hr,rfl⟩:=hrel;by_cases hc:j<s.size
  ·have q2:decide ((j:Int)<(s.size:Int))=true:=dT (by omega);have f4:=Hy (aV (j:=j) (by have:=Z0.o;omega));obtain ⟨b,off,rfl,hB⟩:=S0.o.at hc;have BC:=Hy (Cx s[j] wr);obtain ⟨p,hp⟩:∃ p,isC s[j]=p:=⟨_,rfl⟩;obtain ⟨bl,hb⟩:∃ p,isB s[j]=p:=⟨_,rfl⟩;obtain ⟨h5,hh⟩:∃ p,decide (s[j].toNat=35)=p:=⟨_,rfl⟩;have hcs:=Kj s hc hr.o hp hb hh;have e1:(((s[j].toNat:Nat):Int) != 10)=p:=by
    rw [← hp];unfold isC;rw [bne,eqb];congr 1;rw [decide_eq_decide];omega
   have e2:(((s[j].toNat:Nat):Int)==35)=h5:=by
    rw [← hh,eqb,decide_eq_decide];omega
   rw [hb] at BC;clear hp hb hh hr hj;generalize ((s[j].toNat:Nat):Int)=x at *;replace hc:=Hy hc;cases m
   all_goals cases p
   all_goals cases bl
   all_goals cases h5
   all_goals rcases hcs with ⟨hh,hn⟩ | ⟨hh,hn⟩
   all_goals first | (exfalso;revert hh;decide) | skip
   all_goals (
     clear hh
     replace hn:=Hy hn
     go_wp2_with (go_at_call 135;refine (BC.o).mono ?_;rintro e w' ⟨rfl,rfl⟩))
   all_goals first
     | exact ⟨⟨j+1,_,by first | exact congrArg (Value.int .i64) f4.o | rfl,rfl,hc,hn,trivial⟩,by first | exact aU hc.o f4.o | exact iV hc.o⟩
     | (go_ret;exact ⟨jF hn.o,rfl⟩)
  have q2:decide ((j:Int)<(s.size:Int))=false:=dF (by omega);have hz:=Nu s (j:=j) m (by omega);have HD:Hid (j=R):=by unfold Hid;rw [← hr.o,hz,Nat.add_zero]
  clear hz hr hj;go_wp2_with fail;go_ret;exact ⟨jF HD.o,rfl⟩
theorem zq (a0:Option Addr) (n0 cap:Nat) (s:ByteArray) (hs:s.size≤1048576) (i:Nat) (hi:i≤s.size) (w:World) (hS:Bs w a0 n0 cap s) :
    Calls Tryz.prog 179 #[.slice a0 n0 cap,.int .i64 (i:Nat)] w fun e w' => e=.returned (.int .i64 (run isD (s.data.toList.drop i):Nat))∧w'=w:=by
 have hn0:=hS.hn;subst hn0;have S0:=Hy hS;have Z0:=Hy hs;have I0:=Hy hi;obtain ⟨R,hR⟩:∃ R,run isD (s.data.toList.drop i)=R:=⟨_,rfl⟩;rw [hR];replace hR:=Hy hR;clear hS hs hi
 go_enter Tryz.func179,Tryz.ntmps179
 go_wp2_with fail
 go_loopw [5] (fun x wr => ∃ j:Nat,x=.int .i64 (j:Nat)∧Hid (i+j≤s.size)∧Hid (j+run isD (s.data.toList.drop (i+j))=R)∧wr=w) (fun x _=>s.size - (intOf x).toNat)
 case atStart=>exact ⟨0,rfl,Hy I0.o,Hy (by rw [Nat.add_zero,Nat.zero_add];exact hR.o),rfl⟩
 case round =>
  obtain ⟨j,rfl,hj,hr,rfl⟩:=hrel;have f1:wrap64 ((i:Int)+(j:Int))=((i+j:Nat):Int):=by have:=Z0.o;have:=hj.o;unfold wrap64;omega
  by_cases hc:i+j<s.size
  ·have q2:decide (((i+j:Nat):Int)<(s.size:Int))=true:=dT (by omega);have q3:i+j<s.size:=hc;have hjs:j<s.size:=by omega
   have f4:=Hy (aV (j:=j) (by have:=Z0.o;omega));obtain ⟨b,off,rfl,hB⟩:=S0.o.at hc;have DC:=Hy (nD s[i+j] wr);obtain ⟨x,hx⟩:∃ x,((s[i+j].toNat:Nat):Int)=x:=⟨_,rfl⟩;have hst:=gU isD s hc;have hr2:=hr.o;rw [hst] at hr2;obtain ⟨d,hd⟩:∃ d,isD s[i+j]=d:=⟨_,rfl⟩;rw [hd,hx] at DC;rw [hd] at hr2;rw [hx] at hB;clear hst hr hd hx hj hc;cases d
   ·have HD:=Hy (show j=R by simpa using hr2);clear hr2;go_wp2_with (go_at_call 137;refine (DC.o).mono ?_;rintro e w' ⟨rfl,rfl⟩);go_ret;exact ⟨jF HD.o,rfl⟩
   have hn:=Hy (show j+1+run isD (s.data.toList.drop (i+(j+1)))=R by rw [← hr2,if_pos rfl,Nat.add_assoc i j 1];omega);clear hr2;go_wp2_with (go_at_call 137;refine (DC.o).mono ?_;rintro e w' ⟨rfl,rfl⟩);exact ⟨⟨j+1,by first | exact congrArg (Value.int .i64) f4.o | rfl,Hy q3,hn,trivial⟩,by first | exact aU hjs f4.o | exact iV hjs⟩
  have q2:decide (((i+j:Nat):Int)<(s.size:Int))=false:=dF (by omega);have q3:decide (i+j<s.size)=false:=dF hc;have hz:=pO isD s (j:=i+j) (by omega);have HD:Hid (j=R):=by unfold Hid;rw [← hr.o,hz,Nat.add_zero]
  clear hz hr hj;go_wp2_with fail;go_ret;exact ⟨jF HD.o,rfl⟩
theorem FQ (s:ByteArray) {j:Nat} (hj:j<s.size) (a:Nat):dval a (s.data.toList.drop j)=dval (a * 10+(s[j].toNat - 48)) (s.data.toList.drop (j+1)):=by
 rw [cO s hj,jc]
theorem LX {s:ByteArray} (h:∀ c ∈ s.data.toList,isD c=true) {j:Nat} (hj:j<s.size):isD s[j]=true:=by
 have:=h (s.data.toList[j]'(by rw [aM];exact hj)) (List.getElem_mem _);exact this
theorem Ct (s:ByteArray) (hs:s.size≤1048576) (hd:∀ c ∈ s.data.toList,isD c=true) (w:World) :
    Calls Tryz.prog 181 #[.string s] w fun e w' => e=.returned (.bool (decide (1152921504606846976<dval 0 s.data.toList)))∧w'=w:=by
 obtain ⟨V,hV⟩:∃ V,dval 0 s.data.toList=V:=⟨_,rfl⟩;rw [hV];replace hV:=Hy hV;have HD:=Hy hd;have Z0:=Hy hs;clear hs hd
 go_enter Tryz.func181,Tryz.ntmps181
 go_wp2_with fail
 go_loopw [3,4] (fun vn vi wr => ∃ (N j:Nat),vn=.int .i64 (N:Nat)∧vi=.int .i64 (j:Nat)∧j≤s.size∧Hid (N≤1152921504606846979)∧Hid (dval N (s.data.toList.drop j)=V)∧wr=w) (fun _ vi _=>s.size - (intOf vi).toNat)
 case atStart=>exact ⟨0,0,rfl,rfl,Nat.zero_le _,Hy (by omega),Hy hV.o,rfl⟩
 case round =>
  obtain ⟨N,j,rfl,rfl,hj,hN,hr,rfl⟩:=hrel;by_cases hc:j<s.size
  ·have q2:decide ((j:Int)<(s.size:Int))=true:=dT (by omega);have hst:=FQ s hc N;rw [hr.o] at hst;have hd2:=(dZ _).1 (LX HD.o hc);by_cases hg:115292150460684697<N
   ·have q3:decide (115292150460684697<(N:Int))=true:=dT (by omega);have hge:=qg (s.data.toList.drop (j+1)) (N * 10+(s[j].toNat - 48));have HF:=Hy (show decide (1152921504606846976<V)=true from dT (by omega));clear hge hst hr hd2 hN hg;go_wp2_with fail;go_ret;exact ⟨bB HF.o.symm,rfl⟩
   have q3:decide (115292150460684697<(N:Int))=false:=dF (by omega);have hn:=Hy hst.symm;have hN2:N≤115292150460684697:=by omega
   have f4:=Hy (aV (j:=j) (by have:=Z0.o;omega));clear hst hr hN hg;go_wp2_with fail;exact ⟨⟨N * 10+(s[j].toNat - 48),j+1,congrArg (Value.int .i64) (by omega),congrArg (Value.int .i64) f4.o,by omega,Hy (by omega),hn,trivial⟩,aU hc f4.o⟩
  have q2:decide ((j:Int)<(s.size:Int))=false:=dF (by omega);have hz:dval N (s.data.toList.drop j)=N:=by rw [List.drop_eq_nil_of_le (by rw [aM];omega)];rfl
  have HF:=Hy (show decide (1152921504606846976<(N:Int))=decide (1152921504606846976<V) by rw [← hr.o,hz,decide_eq_decide];omega);clear hz hr hj hN;go_wp2_with fail;go_ret;exact ⟨bB HF.o,rfl⟩
def sgN (l:List UInt8):Nat:=if (sgn l).1=0 then 0 else (sgn l).2
theorem Nw (s:ByteArray) {i:Nat} (hi:i<s.size):sgN (s.data.toList.drop i) =
    if (s[i].toNat=61∨s[i].toNat=33∨s[i].toNat=60)∧(s.data.toList.drop (i+1)).head? = some 61 then 2 else if isS s[i]=true then 1 else 0:=by
 unfold sgN;rw [cO s hi,dJ];split
 ·rfl
 split <;> rfl
theorem EO (s:ByteArray) {i:Nat} (hi:i+1<s.size):(s.data.toList.drop (i+1)).head? = some 61↔s[i+1].toNat=61:=by
 rw [cO s hi,List.head?_cons,Option.some.injEq];constructor
 ·intro h;rw [h];rfl
 intro h;exact UInt8.toNat_inj.1 h
theorem KY (s:ByteArray) {i:Nat} (hi:¬ i+1<s.size):(s.data.toList.drop (i+1)).head? = none:=by
 rw [List.drop_eq_nil_of_le (by rw [aM];omega)];rfl
theorem ny (c:UInt8):(∃ k ∈ [123,125,40,41,91,93,44,58,59,61,60,43,45,42,47,94,64],c.toNat=k∧isS c=true)∨(isS c=false∧∀ k ∈ [123,125,40,41,91,93,44,58,59,61,60,43,45,42,47,94,64],((c.toNat:Int)==((k:Nat):Int))=false):=by
 unfold isS;by_cases h:c.toNat ∈ [123,125,40,41,91,93,44,58,59,61,60,43,45,42,47,94,64]
 ·exact .inl ⟨_,h,rfl,dT h⟩
 refine .inr ⟨dF h,fun k hk=>?_⟩;rw [beq_eq_false_iff_ne];intro e;have:c.toNat=k:=by omega
 rw [this] at h;exact h hk
theorem Co (cap:Nat) (s:ByteArray) (hs:s.size≤1048576) (i:Nat) (hi:i<s.size) (w:World) (b off:Nat) (hB:w.cell? ⟨b,off+i,none⟩=some (.int .u8 (s[i].toNat:Int))) (hx:¬ i+1<s.size) :
    Calls Tryz.prog 140 #[.slice (some ⟨b,off,none⟩) s.size cap,.int .i64 (i:Nat)] w fun e w' => e=.returned (.int .i64 ((if isS s[i]=true then 1 else 0:Nat):Int))∧w'=w:=by
 have f1:=aV (j:=i) (by omega);have q1:decide (((i+1:Nat):Int)<(s.size:Int))=false:=dF (by omega);have nz:True:=trivial;rcases ny s[i] with ⟨k,hk,hck,hS1⟩ | ⟨hS0,hno⟩
 ·rw [if_pos hS1];rw [hck] at hB;clear hck hS1;simp only [List.mem_cons,List.not_mem_nil,or_false] at hk;rcases hk with rfl | rfl | rfl | rfl | rfl | rfl | rfl | rfl | rfl | rfl | rfl | rfl | rfl | rfl | rfl | rfl | rfl
  all_goals first
    | (exfalso;revert nz;decide)
    | (
      go_enter Tryz.func140,Tryz.ntmps140
      go_wp2_with fail
      go_ret
      exact ⟨rfl,rfl⟩)
 rw [hS0];have q:decide (false=true)=false:=rfl;simp only [Bool.false_eq_true,if_false];have n0:(((s[i].toNat:Nat):Int)==123)=false:=hno 123 (by decide);have n1:(((s[i].toNat:Nat):Int)==125)=false:=hno 125 (by decide);have n2:(((s[i].toNat:Nat):Int)==40)=false:=hno 40 (by decide);have n3:(((s[i].toNat:Nat):Int)==41)=false:=hno 41 (by decide);have n4:(((s[i].toNat:Nat):Int)==91)=false:=hno 91 (by decide);have n5:(((s[i].toNat:Nat):Int)==93)=false:=hno 93 (by decide);have n6:(((s[i].toNat:Nat):Int)==44)=false:=hno 44 (by decide);have n7:(((s[i].toNat:Nat):Int)==58)=false:=hno 58 (by decide);have n8:(((s[i].toNat:Nat):Int)==59)=false:=hno 59 (by decide);have n9:(((s[i].toNat:Nat):Int)==61)=false:=hno 61 (by decide);have n10:(((s[i].toNat:Nat):Int)==60)=false:=hno 60 (by decide);have n11:(((s[i].toNat:Nat):Int)==43)=false:=hno 43 (by decide);have n12:(((s[i].toNat:Nat):Int)==45)=false:=hno 45 (by decide);have n13:(((s[i].toNat:Nat):Int)==42)=false:=hno 42 (by decide);have n14:(((s[i].toNat:Nat):Int)==47)=false:=hno 47 (by decide);have n15:(((s[i].toNat:Nat):Int)==94)=false:=hno 94 (by decide);have n16:(((s[i].toNat:Nat):Int)==64)=false:=hno 64 (by decide);clear hno hS0;clear nz;generalize ((s[i].toNat:Nat):Int)=x at *
 go_enter Tryz.func140,Tryz.ntmps140
 go_wp2_with fail;go_ret;exact ⟨rfl,rfl⟩
theorem ze (cap:Nat) (s:ByteArray) (hs:s.size≤1048576) (i:Nat) (hi:i<s.size) (w:World) (b off:Nat) (hB:w.cell? ⟨b,off+i,none⟩=some (.int .u8 (s[i].toNat:Int))) (hx:i+1<s.size) (hB2:w.cell? ⟨b,off+(i+1),none⟩=some (.int .u8 (s[i+1].toNat:Int))) (hy:s[i+1].toNat≠61) :
    Calls Tryz.prog 140 #[.slice (some ⟨b,off,none⟩) s.size cap,.int .i64 (i:Nat)] w fun e w' => e=.returned (.int .i64 ((if isS s[i]=true then 1 else 0:Nat):Int))∧w'=w:=by
 have f1:=aV (j:=i) (by omega);have q1:decide (((i+1:Nat):Int)<(s.size:Int))=true:=dT (by omega);have e0:(((s[i+1].toNat:Nat):Int)==61)=false:=by rw [beq_eq_false_iff_ne];omega
 have nz:True:=trivial;clear hy;generalize ((s[i+1].toNat:Nat):Int)=y at *;rcases ny s[i] with ⟨k,hk,hck,hS1⟩ | ⟨hS0,hno⟩
 ·rw [if_pos hS1];rw [hck] at hB;clear hck hS1;simp only [List.mem_cons,List.not_mem_nil,or_false] at hk;rcases hk with rfl | rfl | rfl | rfl | rfl | rfl | rfl | rfl | rfl | rfl | rfl | rfl | rfl | rfl | rfl | rfl | rfl
  all_goals first
    | (exfalso;revert nz;decide)
    | (
      go_enter Tryz.func140,Tryz.ntmps140
      go_wp2_with fail
      go_ret
      exact ⟨rfl,rfl⟩)
 rw [hS0];have q:decide (false=true)=false:=rfl;simp only [Bool.false_eq_true,if_false];have n0:(((s[i].toNat:Nat):Int)==123)=false:=hno 123 (by decide);have n1:(((s[i].toNat:Nat):Int)==125)=false:=hno 125 (by decide);have n2:(((s[i].toNat:Nat):Int)==40)=false:=hno 40 (by decide);have n3:(((s[i].toNat:Nat):Int)==41)=false:=hno 41 (by decide);have n4:(((s[i].toNat:Nat):Int)==91)=false:=hno 91 (by decide);have n5:(((s[i].toNat:Nat):Int)==93)=false:=hno 93 (by decide);have n6:(((s[i].toNat:Nat):Int)==44)=false:=hno 44 (by decide);have n7:(((s[i].toNat:Nat):Int)==58)=false:=hno 58 (by decide);have n8:(((s[i].toNat:Nat):Int)==59)=false:=hno 59 (by decide);have n9:(((s[i].toNat:Nat):Int)==61)=false:=hno 61 (by decide);have n10:(((s[i].toNat:Nat):Int)==60)=false:=hno 60 (by decide);have n11:(((s[i].toNat:Nat):Int)==43)=false:=hno 43 (by decide);have n12:(((s[i].toNat:Nat):Int)==45)=false:=hno 45 (by decide);have n13:(((s[i].toNat:Nat):Int)==42)=false:=hno 42 (by decide);have n14:(((s[i].toNat:Nat):Int)==47)=false:=hno 47 (by decide);have n15:(((s[i].toNat:Nat):Int)==94)=false:=hno 94 (by decide);have n16:(((s[i].toNat:Nat):Int)==64)=false:=hno 64 (by decide);clear hno hS0;clear nz;generalize ((s[i].toNat:Nat):Int)=x at *
 go_enter Tryz.func140,Tryz.ntmps140
 go_wp2_with fail;go_ret;exact ⟨rfl,rfl⟩
theorem Eu (cap:Nat) (s:ByteArray) (hs:s.size≤1048576) (i:Nat) (hi:i<s.size) (w:World) (b off:Nat) (hB:w.cell? ⟨b,off+i,none⟩=some (.int .u8 (s[i].toNat:Int))) (hx:i+1<s.size) (hB2:w.cell? ⟨b,off+(i+1),none⟩=some (.int .u8 61)) (nz:¬ (s[i].toNat=61∨s[i].toNat=33∨s[i].toNat=60)) :
    Calls Tryz.prog 140 #[.slice (some ⟨b,off,none⟩) s.size cap,.int .i64 (i:Nat)] w fun e w' => e=.returned (.int .i64 ((if isS s[i]=true then 1 else 0:Nat):Int))∧w'=w:=by
 have f1:=aV (j:=i) (by omega);have q1:decide (((i+1:Nat):Int)<(s.size:Int))=true:=dT (by omega);have z1:(((s[i].toNat:Nat):Int)==61)=false:=by rw [beq_eq_false_iff_ne];omega
 have z2:(((s[i].toNat:Nat):Int)==33)=false:=by rw [beq_eq_false_iff_ne];omega
 have z3:(((s[i].toNat:Nat):Int)==60)=false:=by rw [beq_eq_false_iff_ne];omega
 rcases ny s[i] with ⟨k,hk,hck,hS1⟩ | ⟨hS0,hno⟩
 ·rw [if_pos hS1];rw [hck] at hB nz z1 z2 z3;clear hck hS1;simp only [List.mem_cons,List.not_mem_nil,or_false] at hk;rcases hk with rfl | rfl | rfl | rfl | rfl | rfl | rfl | rfl | rfl | rfl | rfl | rfl | rfl | rfl | rfl | rfl | rfl
  all_goals first
    | (exfalso;revert nz;decide)
    | (
      go_enter Tryz.func140,Tryz.ntmps140
      go_wp2_with fail
      go_ret
      exact ⟨rfl,rfl⟩)
 rw [hS0];have q:decide (false=true)=false:=rfl;simp only [Bool.false_eq_true,if_false];have n0:(((s[i].toNat:Nat):Int)==123)=false:=hno 123 (by decide);have n1:(((s[i].toNat:Nat):Int)==125)=false:=hno 125 (by decide);have n2:(((s[i].toNat:Nat):Int)==40)=false:=hno 40 (by decide);have n3:(((s[i].toNat:Nat):Int)==41)=false:=hno 41 (by decide);have n4:(((s[i].toNat:Nat):Int)==91)=false:=hno 91 (by decide);have n5:(((s[i].toNat:Nat):Int)==93)=false:=hno 93 (by decide);have n6:(((s[i].toNat:Nat):Int)==44)=false:=hno 44 (by decide);have n7:(((s[i].toNat:Nat):Int)==58)=false:=hno 58 (by decide);have n8:(((s[i].toNat:Nat):Int)==59)=false:=hno 59 (by decide);have n9:(((s[i].toNat:Nat):Int)==61)=false:=hno 61 (by decide);have n10:(((s[i].toNat:Nat):Int)==60)=false:=hno 60 (by decide);have n11:(((s[i].toNat:Nat):Int)==43)=false:=hno 43 (by decide);have n12:(((s[i].toNat:Nat):Int)==45)=false:=hno 45 (by decide);have n13:(((s[i].toNat:Nat):Int)==42)=false:=hno 42 (by decide);have n14:(((s[i].toNat:Nat):Int)==47)=false:=hno 47 (by decide);have n15:(((s[i].toNat:Nat):Int)==94)=false:=hno 94 (by decide);have n16:(((s[i].toNat:Nat):Int)==64)=false:=hno 64 (by decide);clear hno hS0;clear nz;generalize ((s[i].toNat:Nat):Int)=x at *
 go_enter Tryz.func140,Tryz.ntmps140
 go_wp2_with fail;go_ret;exact ⟨rfl,rfl⟩
theorem Et (cap:Nat) (s:ByteArray) (hs:s.size≤1048576) (i:Nat) (hi:i<s.size) (w:World) (b off:Nat) (hB:w.cell? ⟨b,off+i,none⟩=some (.int .u8 (s[i].toNat:Int))) (hx:i+1<s.size) (hB2:w.cell? ⟨b,off+(i+1),none⟩=some (.int .u8 61)) (nz:s[i].toNat=61∨s[i].toNat=33∨s[i].toNat=60) :
    Calls Tryz.prog 140 #[.slice (some ⟨b,off,none⟩) s.size cap,.int .i64 (i:Nat)] w fun e w' => e=.returned (.int .i64 2)∧w'=w:=by
 have f1:=aV (j:=i) (by omega);have q1:decide (((i+1:Nat):Int)<(s.size:Int))=true:=dT (by omega);rcases nz with h | h | h
 all_goals rw [h] at hB
 all_goals clear h
 all_goals (
       go_enter Tryz.func140,Tryz.ntmps140
       go_wp2_with fail
       go_ret
       exact ⟨rfl,rfl⟩)
theorem Ew (a0:Option Addr) (n0 cap:Nat) (s:ByteArray) (hs:s.size≤1048576) (i:Nat) (hi:i<s.size) (w:World) (hS:Bs w a0 n0 cap s) :
    Calls Tryz.prog 140 #[.slice a0 n0 cap,.int .i64 (i:Nat)] w fun e w' => e=.returned (.int .i64 (sgN (s.data.toList.drop i):Nat))∧w'=w:=by
 have hn0:=hS.hn;subst hn0;rw [Nw s hi];obtain ⟨b,off,rfl,hB⟩:=hS.at hi;by_cases hx:i+1<s.size
 ·obtain ⟨b2,off2,hab,hB2⟩:=hS.at hx;cases hab;have hh:=EO s hx;by_cases hy:s[i+1].toNat=61
  ·rw [hy] at hB2;by_cases nz:s[i].toNat=61∨s[i].toNat=33∨s[i].toNat=60
   ·rw [if_pos ⟨nz,hh.2 hy⟩];exact Et cap s hs i hi w b off hB hx hB2 nz
   rw [if_neg fun h=>nz h.1];exact Eu cap s hs i hi w b off hB hx hB2 nz
  rw [if_neg fun h=>hy (hh.1 h.2)];exact ze cap s hs i hi w b off hB hx hB2 hy
 rw [if_neg fun h=>by rw [KY s hx] at h;cases h.2];exact Co cap s hs i hi w b off hB hx
theorem iA {w w':World} (h:∃ p:Regrown,w'=Sort.grow (redrawn w p.d) p.os):Below w.heap.size w w':=by
 obtain ⟨p,rfl⟩:=h;exact below_regrown w p.d p.os
end
namespace tk
open Go.RowKit dec
theorem iC (w:World) {ops:Array Oper} {rest:List Oper} {o:Oper} {a:Act} {Q:Exit→Act→World→Prop} (hgd:o.guard=none) (s x:Operand)
    (ho:o.op=.call { callee:=.builtin .append,args:=#[s,x],argTypes:=#[62,62] })
    (base:Nat) (v:Value) (l:List Tk) (hs:a.eval s=v) (hown:Own w base v l) (ad:Option Addr) (n cap:Nat) (l2:List Tk) (hx:a.eval x=.slice ad n cap) (hS:Sl w ad n cap l2)
    (hn:l.length+n<4398046511104) (hbase:base≤w.heap.size)
    (h:∀ v' w',Own w' base v' (l++l2)→Below base w w'→w.grownBy w' v.ownBlock→wpList Tryz.prog ops Q rest (a.put o.dst v') w'):wpList Tryz.prog ops Q (o :: rest) a w:=by
 refine wpList_plain hgd fun K hK=>?_;obtain ⟨i,hi,hz0,hz1,hz2⟩:=info_parts lJ;have hln:=hS.hn
 cases ad with
 | none =>
   have h0:=hS.hno rfl
   have h1:=hS.hcap
   have hn0:n=0:=by omega
   subst h0
   subst hn0
   have hl2:l2=[]:=List.eq_nil_of_length_eq_zero hln
   subst hl2
   have hrun:=run_append_owned_none (P:=Tryz.prog) (w:=w) base 62 o.type 69 i 3 Tryz.underlying62 hi v l.length (cs l) hown
   unfold Oper.wp
   simp only [execOp,ho,resolve,invoke,builtin,Sem.run_bind,Sem.run_pure,Result.andThen_ok,List.map_toArray,List.map_cons,List.map_nil,hs,hx,hrun]
   exact hK _ _ (h v w (by rw [List.append_nil];exact hown) (Below.refl _ _) ⟨rfl,rfl,rfl,Nat.le_refl _,fun _ _ _=>rfl⟩)
 | some ad =>
   refine wp_append_own w s x 62 ho base 69 i (.agg #[.int .i64 0,.string .empty,.int .i64 0]) 3 32 Tryz.underlying62 hi hz0 hz1 hz2 rfl (by decide) v l.length (cs l) hs hown ad n cap (cs l2) hx (by rw [dU,hln]) ?_ (iq _)
     (by unfold maxLen;omega) (by omega) hbase fun v' w' h1 h2 _=>?_
   · intro j u hu
     have hj:j<l2.length * 3:=by
       rcases Nat.lt_or_ge j (cs l2).length with h' | h'
       · rwa [dU] at h'
       · rw [List.getElem?_eq_none h'] at hu;cases hu
     rcases hS.hat with h0 | ⟨b,off,e,hC⟩
     · omega
     · cases e
       have hp:(⟨b,off,none⟩:Addr).add j=⟨b,off+j,none⟩:=by
         unfold Addr.add
         by_cases h:j=0 <;> simp [h]
       rw [hp]
       obtain ⟨c0,c1,c2⟩:=hC (j / 3) (by omega)
       obtain ⟨e0,e1,e2⟩:=iR l2 (j / 3) (by omega)
       rcases (show j % 3=0∨j % 3=1∨j % 3=2 by omega) with hm | hm | hm
       · have ej:j / 3 * 3=j:=by omega
         rw [ej] at c0 e0
         rw [e0] at hu
         rw [c0,hu]
       · have ej:j / 3 * 3+1=j:=by omega
         rw [Nat.add_assoc,ej] at c1
         rw [ej] at e1
         rw [e1] at hu
         rw [c1,hu]
       · have ej:j / 3 * 3+2=j:=by omega
         rw [Nat.add_assoc,ej] at c2
         rw [ej] at e2
         rw [e2] at hu
         rw [c2,hu]
   · refine hK _ _ (h v' w' ?_ (own_below hown h2 hbase) h2)
     unfold Own
     rw [dV,List.length_append,hln]
     exact h1
end tk
namespace pb
open Go.RowKit dec
theorem iC (w:World) {ops:Array Oper} {rest:List Oper} {o:Oper} {a:Act} {Q:Exit→Act→World→Prop} (hgd:o.guard=none) (s x:Operand)
    (ho:o.op=.call { callee:=.builtin .append,args:=#[s,x],argTypes:=#[28,28] })
    (base:Nat) (v:Value) (l:List Pb) (hs:a.eval s=v) (hown:Own w base v l) (ad:Option Addr) (n cap:Nat) (l2:List Pb) (hx:a.eval x=.slice ad n cap) (hS:Sl w ad n cap l2)
    (hn:l.length+n<8796093022208) (hbase:base≤w.heap.size)
    (h:∀ v' w',Own w' base v' (l++l2)→Below base w w'→w.grownBy w' v.ownBlock→wpList Tryz.prog ops Q rest (a.put o.dst v') w'):wpList Tryz.prog ops Q (o :: rest) a w:=by
 refine wpList_plain hgd fun K hK=>?_;obtain ⟨i,hi,hz0,hz1,hz2⟩:=info_parts lJ;have hln:=hS.hn
 cases ad with
 | none =>
   have h0:=hS.hno rfl
   have h1:=hS.hcap
   have hn0:n=0:=by omega
   subst h0
   subst hn0
   have hl2:l2=[]:=List.eq_nil_of_length_eq_zero hln
   subst hl2
   have hrun:=run_append_owned_none (P:=Tryz.prog) (w:=w) base 28 o.type 72 i 2 Tryz.underlying28 hi v l.length (cs l) hown
   unfold Oper.wp
   simp only [execOp,ho,resolve,invoke,builtin,Sem.run_bind,Sem.run_pure,Result.andThen_ok,List.map_toArray,List.map_cons,List.map_nil,hs,hx,hrun]
   exact hK _ _ (h v w (by rw [List.append_nil];exact hown) (Below.refl _ _) ⟨rfl,rfl,rfl,Nat.le_refl _,fun _ _ _=>rfl⟩)
 | some ad =>
   refine wp_append_own w s x 28 ho base 72 i (.agg #[.int .i64 0,.int .i64 0]) 2 16 Tryz.underlying28 hi hz0 hz1 hz2 rfl (by decide) v l.length (cs l) hs hown ad n cap (cs l2) hx (by rw [dU,hln]) ?_ (iq _)
     (by unfold maxLen;omega) (by omega) hbase fun v' w' h1 h2 _=>?_
   · intro j u hu
     have hj:j<l2.length * 2:=by
       rcases Nat.lt_or_ge j (cs l2).length with h' | h'
       · rwa [dU] at h'
       · rw [List.getElem?_eq_none h'] at hu;cases hu
     rcases hS.hat with h0 | ⟨b,off,e,hC⟩
     · omega
     · cases e
       have hp:(⟨b,off,none⟩:Addr).add j=⟨b,off+j,none⟩:=by
         unfold Addr.add
         by_cases h:j=0 <;> simp [h]
       rw [hp]
       obtain ⟨c0,c1⟩:=hC (j / 2) (by omega)
       obtain ⟨e0,e1⟩:=iR l2 (j / 2) (by omega)
       rcases (show j % 2=0∨j % 2=1 by omega) with hm | hm
       · have ej:j / 2 * 2=j:=by omega
         rw [ej] at c0 e0
         rw [e0] at hu
         rw [c0,hu]
       · have ej:j / 2 * 2+1=j:=by omega
         rw [Nat.add_assoc,ej] at c1
         rw [ej] at e1
         rw [e1] at hu
         rw [c1,hu]
   · refine hK _ _ (h v' w' ?_ (own_below hown h2 hbase) h2)
     unfold Own
     rw [dV,List.length_append,hln]
     exact h1
end pb
section
open Go.RowKit dec
theorem wF:(Tryz.prog.info? 9).map (fun i=>(i.zero,i.size,i.bytes))=some (some (.string ByteArray.empty),1,16):=by kernel_rfl
def OS (w:World) (base:Nat) (v:Value) (l:List ByteArray):Prop:=w.ownsRow base 9 1 v l.length (l.map Value.string)
theorem OS.nil (w:World) (base:Nat):OS w base (.slice none 0 0) []:=World.ownsRow_nil _ _ _ _
theorem OS.keeps {w w1:World} {base:Nat} {v:Value} {l:List ByteArray} (h:OS w base v l) (hb:Below w.heap.size w w1):OS w1 base v l:=by
 obtain ⟨h1,h2⟩:=h;refine ⟨h1,?_⟩;rcases h2 with h0 | ⟨g,cap,cur,e,hbg,hh,r⟩
 ·exact .inl h0
 refine .inr ⟨g,cap,cur,e,hbg,?_,r⟩;have:g<w.heap.size:=by
  rcases Nat.lt_or_ge g w.heap.size with h' | h'
  ·exact h'
  rw [Array.getElem?_eq_none h'] at hh;cases hh
 rw [hb.block _ this];exact hh
theorem jg (w:World) {ops:Array Oper} {rest:List Oper} {o:Oper} {a:Act} {Q:Exit→Act→World→Prop} (hgd:o.guard=none) (s x:Operand)
    (ho:o.op=.call { callee:=.builtin .append,args:=#[s,x],argTypes:=#[108,108] })
    (base:Nat) (v:Value) (l:List ByteArray) (hs:a.eval s=v) (hown:OS w base v l) (b:Nat) (t:ByteArray) (hx:a.eval x=.slice (some ⟨b,0,none⟩) 1 1) (hB:w.cell? ⟨b,0,none⟩=some (.string t))
    (hn:l.length<5864062014805) (hbase:base≤w.heap.size)
    (h:∀ v' w',OS w' base v' (l++[t])→Below base w w'→wpList Tryz.prog ops Q rest (a.put o.dst v') w'):wpList Tryz.prog ops Q (o :: rest) a w:=by
 refine wpList_plain hgd fun _ hK=>?_;obtain ⟨i,hi,hz0,hz1,hz2⟩:=info_parts wF
 refine wp_append_own w s x 108 ho base 9 i (.string ByteArray.empty) 1 16 Tryz.underlying108 hi hz0 hz1 hz2 rfl (by decide) v l.length (l.map Value.string) hs hown ⟨b,0,none⟩ 1 1 [.string t] hx rfl ?_ (fun u hu=>by simp at hu;subst hu;rfl)
   (by unfold maxLen;omega) (by omega) hbase fun v' w' h1 h2 _=>hK _ _ (h v' w' (by unfold OS;rw [List.map_append,List.length_append];exact h1) ((Below.refl base w).grown h2 hbase fun k hk=>(hown.lt k hk).1))
 intro j u hu
 match j,hu with
 | 0,hu=>simp at hu;subst hu;exact hB
 | j+1,hu=>simp at hu
theorem gK {w:World} {ops:Array Oper} {rest:List Oper} {o:Oper} {a:Act} {Q:Exit→Act→World→Prop} (s x:Operand) (_:o.op=.call { callee:=.builtin .append,args:=#[s,x],argTypes:=#[108,108] })
  (k:wpList Tryz.prog ops Q (o :: rest) a w):wpList Tryz.prog ops Q (o :: rest) a w:=k
theorem Ac (x:Tk):(so x).length≤x.t.size+2:=by
 unfold so;split
 ·simp only [List.length_cons,List.length_append,List.length_nil,aM];omega
 rw [aM];omega
end
section
open dec
end
section
open Go.RowKit dec
theorem Kk (W:World):(Go.sizeOf 5).run Tryz.prog W=.ok 1 W:=by
 obtain ⟨i,h1,h2,h3,h4⟩:=info_parts Qq;rw [run_sizeOf W h1,show Tryz.prog.cellsOf 5=1 by kernel_rfl]
theorem Gh (x:ByteArray) (k:Nat) (hk:k<x.size):x.data.toList[k]? = some x[k]:=by
 rw [List.getElem?_eq_getElem (by rw [aM];exact hk)];rfl
theorem OL (s:ByteArray) (i m j:Nat) (hj:j<m) (h:i+m≤s.size):s[i+j]=(s.extract i (i+m))[j]'(by rw [ext_size s h];exact hj):=by
 have e:(s.extract i (i+m)).data.toList[j]? = s.data.toList[i+j]?:=by
  rw [eU,List.getElem?_take_of_lt hj,List.getElem?_drop]
 rw [Gh _ j (by rw [ext_size s h];exact hj),Gh s (i+j) (by omega)] at e;exact (Option.some.inj e).symm
theorem Bs.cut {w:World} {a:Option Addr} {n cap:Nat} {s:ByteArray} (h:Bs w a n cap s) {i m:Nat} (hi:i+m≤n) :
    ∃ a2 c2,(∀ W,(Instr.slice 22 (.slice a n cap) (some (.int .i64 (i:Nat))) (some (.int .i64 ((i+m:Nat):Int))) none).run Tryz.prog W=.ok (.slice a2 m c2) W)∧Bs w a2 m c2 (s.extract i (i+m)):=by
 have hn:=h.hn;have hc:=h.hcap;have ht:Tryz.prog.underlying 22=some (.slice (Tryz.prog.elem 22)):=by simp [Program.elem,Tryz.underlying22]
 have he:Tryz.prog.elem 22=5:=by simp [Program.elem,Tryz.underlying22]
 have hz:∀ W,(Go.sizeOf 5).run Tryz.prog W=.ok 1 W:=Kk;have hx:=ext_size s (a:=i) (n:=m) (by omega);refine ⟨if cap=i then a else a.map (·.add (i * 1)),cap - i,fun W=>?_,⟨?_,hx,by omega,by have:=h.hmax;omega,?_⟩⟩
 ·rw [run_slice_lh W 22 a n cap ht .i64 .i64 _ _ (by omega) (by omega) (by omega),he,hz,Int.toNat_natCast,Int.toNat_natCast];unfold sliced;simp only [Result.andThen_ok];rw [show i+m - i=m by omega]
 ·by_cases h0:m=0
  ·exact .inl (by rw [hx];exact h0)
  obtain ⟨b,off,rfl,hB⟩:=h.hat.resolve_left (by omega);refine .inr ⟨b,off+i,?_,fun j hj=>?_⟩
  ·rw [if_neg (by omega)];by_cases h1:i=0
   ·subst h1;simp [Addr.add]
   simp [Addr.add,h1]
  rw [hx] at hj;rw [show off+i+j=off+(i+j) by omega,hB (i+j) (by omega)];rw [OL s i m j hj (by omega)]
 intro hn0;split at hn0
 ·have:=h.hno hn0;omega
 cases a with
 | none=>have:=h.hno rfl;omega
 | some a=>cases hn0
end
end Go.Proofs.YtbpijgddfaefkaaGreatDoor
