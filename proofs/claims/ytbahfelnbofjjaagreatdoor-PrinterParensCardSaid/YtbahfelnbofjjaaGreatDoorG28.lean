/-
  Lists of problems in memory: slices that are read, slices of the call's own; append; one of them in a block; The loop over a source, as plain data; lexer.Tokens.
-/
import Derived.Test.YtbahfelnbofjjaaGreatDoorG20
set_option maxRecDepth 100000
set_option maxHeartbeats 16000000
namespace Go.Proofs.YtbahfelnbofjjaaGreatDoor
namespace pb
open Go.RowKit dec
structure Bw (w:World) (b:Nat) (x:Pb):Prop where
 c0:w.cell? ⟨b,0,none⟩=some (.int .i64 (x).1)
 c1:w.cell? ⟨b,1,none⟩=some (.int .i64 (x).2)
theorem Bw.lt {w:World} {b:Nat} {x:Pb} (h:Bw w b x):b<w.heap.size:=block_lt_of_cell h.c0
theorem Bw.new (w:World) (x:Pb) (T:TypeId):Bw (w.alloc (.cells #[.int .i64 (x).1,.int .i64 (x).2] T)) w.heap.size x:=⟨by simp [go_sem],by simp [go_sem]⟩
theorem Bw.qG {w w1:World} {B b:Nat} {x:Pb} (h:Bw w b x) (hb:Below B w w1) (hl:b<B):Bw w1 b x :=
 ⟨(hb.cell hl).trans h.c0,(hb.cell hl).trans h.c1⟩
theorem Bw.keeps {w w1:World} {b:Nat} {x:Pb} (h:Bw w b x) (hb:Below w.heap.size w w1):Bw w1 b x:=h.qG hb h.lt
theorem Bw.past {w:World} {b:Nat} {x:Pb} (h:Bw w b x) (o:Obj):Bw (w.alloc o) b x:=h.keeps (au (b0 w) o)
def cs:List Pb→List Value
 | []=>[]
 | x :: l=>.int .i64 (x).1 :: .int .i64 (x).2 :: cs l
theorem fq:∀ l:List Pb,(cs l).length=l.length * 2
 | []=>rfl
 | x :: l=>by simp only [cs,List.length_cons,fq l];omega
theorem fu:∀ l r:List Pb,cs (l++r)=cs l++cs r
 | [],_=>rfl
 | x :: l,r=>by simp only [cs,List.cons_append,fu l r]
theorem jc:∀ l:List Pb,∀ u ∈ cs l,u.oneCell'=true
 | [],u,h=>by simp [cs] at h
 | x :: l,u,h=>by
  simp only [cs,List.mem_cons] at h
  rcases h with rfl | rfl | h
  ·rfl
  ·rfl
  ·exact jc l u h
def gt (l:List Pb) (j:Nat):Pb:=l.getD j (0,0)
theorem jl {l:List Pb} {j:Nat} (h:j<l.length):gt l j ∈ l:=by
 unfold gt;rw [List.getD_eq_getElem?_getD,List.getElem?_eq_getElem h];exact List.getElem_mem h
theorem dY {l:List Pb} {j:Nat} (h:j<l.length):gt l j=l[j]:=by
 unfold gt;rw [List.getD_eq_getElem?_getD,List.getElem?_eq_getElem h];rfl
theorem jq:∀ (l:List Pb) (j:Nat),j<l.length→(cs l)[j * 2]? = some (.int .i64 (gt l j).1)∧(cs l)[j * 2+1]? = some (.int .i64 (gt l j).2)
 | [],j,h=>by simp at h
 | x :: l,0,_=>⟨rfl,rfl⟩
 | x :: l,j+1,h=>by
  have:=jq l j (by simpa using h)
  rw [show (j+1) * 2=j * 2+1+1 by omega]
  simp only [cs,sz4]
  exact this
theorem lV {l:List Pb} {j:Nat} (h:j<l.length):l.drop j=gt l j :: l.drop (j+1):=by
 rw [dY h];exact List.drop_eq_getElem_cons h
theorem gL {l:List Pb} {j:Nat} (h:j<l.length):l.take (j+1)=l.take j++[gt l j]:=by
 rw [dY h,List.take_add_one,List.getElem?_eq_getElem h];rfl
def Cl (w:World) (b off:Nat) (l:List Pb):Prop:=∀ j,j<l.length→w.cell? ⟨b,off+j * 2,none⟩=some (.int .i64 (gt l j).1)∧w.cell? ⟨b,off+j * 2+1,none⟩=some (.int .i64 (gt l j).2)
theorem Cl.keeps {w w1:World} {b off:Nat} {l:List Pb} (h:Cl w b off l) (hb:Below w.heap.size w w1):Cl w1 b off l:=fun j hj=>⟨dec.keeps hb (h j hj).1,dec.keeps hb (h j hj).2⟩
def At (w:World) (a:Option Addr) (l:List Pb):Prop:=l.length=0∨∃ b off,a=some ⟨b,off,none⟩∧Cl w b off l
theorem At.keeps {w w1:World} {a:Option Addr} {l:List Pb} (h:At w a l) (hb:Below w.heap.size w w1):At w1 a l:=h.imp id fun ⟨b,off,e,hB⟩=>⟨b,off,e,hB.keeps hb⟩
structure Sl (w:World) (a:Option Addr) (n cap:Nat) (l:List Pb):Prop where
 hat:At w a l
 hn:l.length=n
 hcap:n≤cap
 hmax:cap≤9223372036854775807
 hno:a=none→cap=0
theorem Sl.keeps {w w1:World} {a:Option Addr} {n cap:Nat} {l:List Pb} (h:Sl w a n cap l) (hb:Below w.heap.size w w1):Sl w1 a n cap l:={ h with hat:=h.hat.keeps hb }
theorem Sl.nil (w:World):Sl w none 0 0 []:=⟨.inl rfl,rfl,by omega,by omega,fun _=>rfl⟩
theorem Cl.cut {w:World} {b off:Nat} {l:List Pb} (h:Cl w b off l) (k m:Nat):Cl w b (off+k * 2) ((l.drop k).take m):=by
 intro j hj;have hlen:((l.drop k).take m).length=min m (l.length - k):=by simp
 have:=h (k+j) (by omega);have e:gt ((l.drop k).take m) j=gt l (k+j):=by
  rw [dY hj,dY (by omega)];simp
 rw [e,show off+k * 2+j * 2=off+(k+j) * 2 by omega];exact this
theorem Cl.take {w:World} {b off:Nat} {l:List Pb} (h:Cl w b off l) (m:Nat):Cl w b off (l.take m):=by
 have:=h.cut 0 m;simpa using this
theorem lG:(Tryz.prog.info? 122).map (fun i=>(i.zero,i.size,i.bytes))=some (some (.agg #[.int .i64 0,.int .i64 0]),2,16):=by kernel_rfl
def Own (w:World) (base:Nat) (v:Value) (l:List Pb):Prop:=w.ownsRow base 122 2 v l.length (cs l)
theorem Own.nil (w:World) (base:Nat):Own w base (.slice none 0 0) []:=World.ownsRow_nil _ _ _ _
theorem Own.o {w:World} {base:Nat} {v:Value} {l:List Pb} (h:Own w base v l):(v=.slice none 0 0∧l=[])∨∃ g cap,v=.slice (some ⟨g,0,none⟩) l.length cap∧base≤g∧g<w.heap.size∧l.length≤cap∧cap≤9223372036854775807∧Cl w g 0 l:=by
 rcases h.2 with ⟨h0,h1⟩ | ⟨g,cap,cur,rfl,hb,hg,hc,hm,hs,ht⟩
 ·exact .inl ⟨h0,List.eq_nil_of_length_eq_zero h1⟩
 refine .inr ⟨g,cap,rfl,hb,(h.lt g rfl).2,hc,by unfold maxLen at hm;omega,fun j hj=>?_⟩;rw [Nat.zero_add,h.cellAt (j * 2) (by omega),h.cellAt (j * 2+1) (by omega)];exact jq l j hj
theorem Own.sl {w:World} {base:Nat} {v:Value} {l:List Pb} (h:Own w base v l):∃ a cap,v=.slice a l.length cap∧Sl w a l.length cap l:=by
 rcases h.o with ⟨rfl,rfl⟩ | ⟨g,cap,rfl,_,_,hc,hm,hW⟩
 ·exact ⟨none,0,rfl,.nil _⟩
 exact ⟨_,cap,rfl,.inr ⟨g,0,rfl,hW⟩,rfl,hc,hm,fun h=>by cases h⟩
theorem Own.keeps {w w1:World} {base:Nat} {v:Value} {l:List Pb} (h:Own w base v l) (hb:Below w.heap.size w w1):Own w1 base v l:=by
 obtain ⟨h1,h2⟩:=h;refine ⟨h1,?_⟩;rcases h2 with h0 | ⟨g,cap,cur,e,hbg,hh,r⟩
 ·exact .inl h0
 refine .inr ⟨g,cap,cur,e,hbg,?_,r⟩;have:g<w.heap.size:=by
  rcases Nat.lt_or_ge g w.heap.size with h' | h'
  ·exact h'
  rw [Array.getElem?_eq_none h'] at hh;cases hh
 rw [hb.block _ this];exact hh
theorem own_below {w w':World} {base:Nat} {v:Value} {l:List Pb} (h:Own w base v l) (hg:w.grownBy w' v.ownBlock) (hb:base≤w.heap.size):Below base w w' :=
 (Below.refl base w).grown hg hb fun k hk=>(h.lt k hk).1
theorem nH (w:World) {o:Oper} {a:Act} {K:Act→World→Prop} {Q:Exit→Act→World→Prop} (s x:Operand)
    (ho:o.op=.call { callee:=.builtin .append,args:=#[s,x],argTypes:=#[62,62] })
    (base:Nat) (v:Value) (l:List Pb) (hs:a.eval s=v) (hown:Own w base v l) (b:Nat) (y:Pb) (hx:a.eval x=.slice (some ⟨b,0,none⟩) 1 1) (hB:Bw w b y)
    (hn:l.length<8796093022208) (hbase:base≤w.heap.size)
    (h:∀ v' w',Own w' base v' (l++[y])→Below base w w'→w.grownBy w' v.ownBlock→K (a.put o.dst v') w'):o.wp Tryz.prog a w K Q:=by
 obtain ⟨i,hi,hz0,hz1,hz2⟩:=info_parts lG
 refine wp_append_own w s x 62 ho base 122 i (.agg #[.int .i64 0,.int .i64 0]) 2 16 Tryz.underlying62 hi hz0 hz1 hz2 rfl (by decide) v l.length (cs l) hs hown ⟨b,0,none⟩ 1 1 (cs [y]) hx rfl ?_ (jc _)
   (by unfold maxLen;omega) (by omega) hbase fun v' w' h1 h2 _=>h v' w' (by unfold Own;rw [fu,List.length_append];exact h1) (own_below hown h2 hbase) h2
 intro j u hu;unfold Addr.add
 match j,hu with
 | 0,hu=>simp [cs] at hu;subst hu;exact hB.c0
 | 1,hu=>simp [cs] at hu;subst hu;exact hB.c1
 | j+2,hu=>simp [cs] at hu
theorem eP (w:World) {ops:Array Oper} {rest:List Oper} {o:Oper} {a:Act} {Q:Exit→Act→World→Prop} (hgd:o.guard=none) (s x:Operand)
  (ho:o.op=.call { callee:=.builtin .append,args:=#[s,x],argTypes:=#[62,62] })
  (base:Nat) (v:Value) (l:List Pb) (hs:a.eval s=v) (hown:Own w base v l) (b:Nat) (y:Pb) (hx:a.eval x=.slice (some ⟨b,0,none⟩) 1 1) (hB:Bw w b y)
  (hn:l.length<8796093022208) (hbase:base≤w.heap.size)
  (h:∀ v' w',Own w' base v' (l++[y])→Below base w w'→w.grownBy w' v.ownBlock→wpList Tryz.prog ops Q rest (a.put o.dst v') w'):wpList Tryz.prog ops Q (o :: rest) a w :=
 wpList_plain hgd fun _ hK=>nH w s x ho base v l hs hown b y hx hB hn hbase fun v' w' h1 h2 h3=>hK _ _ (h v' w' h1 h2 h3)
theorem jY {w:World} {ops:Array Oper} {rest:List Oper} {o:Oper} {a:Act} {Q:Exit→Act→World→Prop} (s x:Operand) (_:o.op=.call { callee:=.builtin .append,args:=#[s,x],argTypes:=#[62,62] })
  (k:wpList Tryz.prog ops Q (o :: rest) a w):wpList Tryz.prog ops Q (o :: rest) a w:=k
end pb
section
open Go.RowKit dec
def iZ (s:ByteArray):Tk:=⟨6,.empty,(s.size:Nat)⟩
def gB (s:ByteArray):Int:=if 16384<s.size then 2 else 0
def cO (s:ByteArray):List Tk:=if 16384<s.size then [] else (lxs 0 false s.data.toList).1++[iZ s]
def jw (s:ByteArray):List Pb:=if 16384<s.size then [] else (lxs 0 false s.data.toList).2.take 32
def LI (s:ByteArray) (a:Nat) (fe:Int) (ts:List Tk) (bs:List Pb):Prop :=
 ∃ (p:Nat) (f:Bool),a=p+sk false (s.data.toList.drop p)∧a≤s.size∧((f=true∧fe=(p:Nat))∨(f=false∧fe<(p:Nat)))∧ts++(lxs p f (s.data.toList.drop p)).1=(lxs 0 false s.data.toList).1∧∃ P,bs=P.take 32∧P++(lxs p f (s.data.toList.drop p)).2=(lxs 0 false s.data.toList).2
theorem yA (s:ByteArray) {p:Nat} (h:p≤s.size):p+sk false (s.data.toList.drop p)≤s.size:=by
 have:=FX false (s.data.toList.drop p);rw [List.length_drop,aI] at this;omega
theorem LI.start (s:ByteArray):LI s (0+sk false (s.data.toList.drop 0)) (-1) [] [] :=
 ⟨0,false,rfl,yA s zl,.inr ⟨rfl,by omega⟩,rfl,[],rfl,rfl⟩
theorem LI.over {s:ByteArray} {a:Nat} {fe:Int} {ts:List Tk} {bs:List Pb} (h:LI s a fe ts bs) (ha:¬ a<s.size):(lxs 0 false s.data.toList).1=ts∧(lxs 0 false s.data.toList).2.take 32=bs:=by
 obtain ⟨p,f,h1,h2,h3,h4,P,h5,h6⟩:=h;have hd:(s.data.toList.drop p).drop (sk false (s.data.toList.drop p))=[]:=by
  rw [List.drop_drop,← h1];exact List.drop_eq_nil_of_le (by rw [aI];omega)
 rw [kC hd] at h4 h6;rw [List.append_nil] at h4 h6;exact ⟨h4.symm,by rw [← h6,h5]⟩
theorem take_one {P:List Pb} {x:Pb} (h:(P.take 32).length<32):(P++[x]).take 32=P.take 32++[x]:=by
 rw [List.length_take] at h;rw [List.take_of_length_le (l:=P) (by omega),List.take_of_length_le (by rw [List.length_append,List.length_singleton];omega)]
theorem Io {P:List Pb} {x:Pb} (h:¬ (P.take 32).length<32):(P++[x]).take 32=P.take 32:=by
 rw [List.length_take] at h;rw [List.take_append_of_le_length (by omega)]
theorem LI.step {s:ByteArray} {a:Nat} {fe:Int} {ts:List Tk} {bs:List Pb} (h:LI s a fe ts bs) (ha:a<s.size) {k:Int} {n:Nat} (hs:shp (s.data.toList.drop a)=(k,n)) {c:Int} (hc:flt k ((s.data.toList.drop a).take n)=c) :
    (1≤n∧a+n≤s.size)∧(c=0→k≠0∧LI s (a+n+sk false (s.data.toList.drop (a+n))) fe (ts++[⟨k,⟨(cont k ((s.data.toList.drop a).take n)).toArray⟩,(a:Nat)⟩]) bs)
      ∧ (c≠0→k=0→(a:Int)=fe→LI s (a+n+sk false (s.data.toList.drop (a+n))) ((a+n:Nat):Int) ts bs)
      ∧ (c≠0→¬ (k=0∧(a:Int)=fe)→bs.length<32→LI s (a+n+sk false (s.data.toList.drop (a+n))) (if k=0 then ((a+n:Nat):Int) else fe) ts (bs++[(((a:Nat):Int),c)]))
      ∧ (c≠0→¬ (k=0∧(a:Int)=fe)→¬ bs.length<32→LI s (a+n+sk false (s.data.toList.drop (a+n))) (if k=0 then ((a+n:Nat):Int) else fe) ts bs):=by
 obtain ⟨p,f,h1,h2,h3,h4,P,h5,h6⟩:=h;have hne:s.data.toList.drop a≠[]:=by
  intro e;have:=congrArg List.length e;rw [List.length_drop,aI,List.length_nil] at this;omega
 have hd:(s.data.toList.drop p).drop (sk false (s.data.toList.drop p))=s.data.toList.drop a:=by rw [List.drop_drop,← h1]
 have hn1:=nO hne;have hn2:=qh (s.data.toList.drop a);rw [hs,List.length_drop,aI] at hn2;rw [hs] at hn1;simp only at hn1 hn2;have hst:=jC hd hne p f;rw [hs] at hst;simp only [hc] at hst;rw [← h1,List.drop_drop] at hst;have hz:=yA s (p:=a+n) (by omega);have hlow:fe≤(p:Int):=by omega
 have hpa:p≤a:=by omega
 have hfe:(f=true∧sk false (s.data.toList.drop p)=0)↔(a:Int)=fe:=by
  rcases h3 with ⟨h3,h7⟩ | ⟨h3,h7⟩
  ·rw [h3];constructor
   ·rintro ⟨_,h8⟩;omega
   intro h8;exact ⟨rfl,by omega⟩
  rw [h3];constructor
  ·rintro ⟨h8,_⟩;cases h8
  intro h8;omega
 refine ⟨⟨hn1,by omega⟩,?_,?_,?_,?_⟩
 ·intro hc0;have hk:k≠0:=by
   rintro rfl;rw [Bz] at hc;omega
  rw [if_pos hc0,dF hk] at hst;refine ⟨hk,a+n,false,rfl,hz,.inr ⟨rfl,by omega⟩,?_,P,h5,?_⟩
  ·rw [← h4,hst];simp
  rw [← h6,hst]
 ·intro hc0 hk he;rw [if_neg hc0,if_pos ⟨hk,hfe.2 he⟩,dT hk] at hst;refine ⟨a+n,true,rfl,hz,.inl ⟨rfl,rfl⟩,?_,P,h5,?_⟩
  ·rw [← h4,hst]
  rw [← h6,hst]
 ·intro hc0 hk hl;rw [if_neg hc0,if_neg (fun h=>hk ⟨h.1,hfe.1 h.2⟩)] at hst;refine ⟨a+n,decide (k=0),rfl,hz,?_,?_,P++[(((a:Nat):Int),c)],?_,?_⟩
  ·by_cases h0:k=0
   ·exact .inl ⟨dT h0,by rw [if_pos h0]⟩
   exact .inr ⟨dF h0,by rw [if_neg h0];omega⟩
  ·rw [← h4,hst]
  ·rw [h5] at hl ⊢;rw [take_one hl]
  rw [← h6,hst];simp
 intro hc0 hk hl;rw [if_neg hc0,if_neg (fun h=>hk ⟨h.1,hfe.1 h.2⟩)] at hst;refine ⟨a+n,decide (k=0),rfl,hz,?_,?_,P++[(((a:Nat):Int),c)],?_,?_⟩
 ·by_cases h0:k=0
  ·exact .inl ⟨dT h0,by rw [if_pos h0]⟩
  exact .inr ⟨dF h0,by rw [if_neg h0];omega⟩
 ·rw [← h4,hst]
 ·rw [h5] at hl ⊢;rw [Io hl]
 rw [← h6,hst];simp
theorem Og (s:ByteArray):(lxs 0 false s.data.toList).1.length≤s.size:=by
 have h1:=qY s.data.toList _ 0 zl (xG s.data.toList 0 false s.data.toList rfl zl).1;have h2:=EF _ (vB 0 false s.data.toList);rw [aI] at h1;omega
theorem LI.few {s:ByteArray} {a:Nat} {fe:Int} {ts:List Tk} {bs:List Pb} (h:LI s a fe ts bs):a≤s.size∧bs.length≤32∧ts.length≤s.size:=by
 obtain ⟨p,f,h1,h2,h3,h4,P,h5,h6⟩:=h;refine ⟨h2,by rw [h5,List.length_take];omega,?_⟩;have:=congrArg List.length h4;rw [List.length_append] at this;have:=Og s;omega
theorem Ar {w w':World} {B B2:Nat} {v u:Value} {ts:List Tk} {bs:List Pb} (h1:tk.Own w B v ts) (h2:pb.Own w B2 u bs) (hg:w.grownBy w' v.ownBlock):pb.Own w' B2 u bs:=by
 obtain ⟨e1,e2⟩:=h2;refine ⟨e1,?_⟩;rcases e2 with h0 | ⟨g,cap,cur,e,hbg,hh,r⟩
 ·exact .inl h0
 refine .inr ⟨g,cap,cur,e,hbg,?_,r⟩;have hlt:g<w.heap.size:=by
  rcases Nat.lt_or_ge g w.heap.size with h' | h'
  ·exact h'
  rw [Array.getElem?_eq_none h'] at hh;cases hh
 have hne:v.ownBlock≠some g:=by
  rcases h1.2 with ⟨rfl,_⟩ | ⟨g1,cap1,cur1,rfl,_,hh1,_⟩
  ·simp [Value.ownBlock]
  intro e2;have:g1=g:=by simpa [Value.ownBlock] using e2
  subst this;rw [hh] at hh1;simp at hh1
 rw [hg.block g hlt (Ne.symm hne)];exact hh
theorem zV {w w':World} {B B2:Nat} {v u:Value} {ts:List Tk} {bs:List Pb} (h1:pb.Own w B v bs) (h2:tk.Own w B2 u ts) (hg:w.grownBy w' v.ownBlock):tk.Own w' B2 u ts:=by
 obtain ⟨e1,e2⟩:=h2;refine ⟨e1,?_⟩;rcases e2 with h0 | ⟨g,cap,cur,e,hbg,hh,r⟩
 ·exact .inl h0
 refine .inr ⟨g,cap,cur,e,hbg,?_,r⟩;have hlt:g<w.heap.size:=by
  rcases Nat.lt_or_ge g w.heap.size with h' | h'
  ·exact h'
  rw [Array.getElem?_eq_none h'] at hh;cases hh
 have hne:v.ownBlock≠some g:=by
  rcases h1.2 with ⟨rfl,_⟩ | ⟨g1,cap1,cur1,rfl,_,hh1,_⟩
  ·simp [Value.ownBlock]
  intro e2;have:g1=g:=by simpa [Value.ownBlock] using e2
  subst this;rw [hh] at hh1;simp at hh1
 rw [hg.block g hlt (Ne.symm hne)];exact hh
def TR (w w':World) (e:Ending) (s:ByteArray):Prop:=∃ v u,e=.returned (.tuple #[v,u,.int .i64 (gB s)])∧tk.Own w' w.heap.size v (cO s)∧pb.Own w' w.heap.size u (jw s)∧Below w.heap.size w w'
theorem mK (s:ByteArray) (a n:Nat):(s.extract a (a+n)).data.toList=(s.data.toList.drop a).take n:=by
 rw [tN,show a+n - a=n by omega]
theorem Au {l:List UInt8} {k:Int} {n:Nat} (h:shp l=(k,n)):k=0∨shp (l.take n)=(k,(l.take n).length):=by
 by_cases h0:k=0
 ·exact .inl h0
 right;have h1:=sQ (l:=l) (by rw [h];exact h0) (.inl rfl:Sep []);rw [List.append_nil,h] at h1;have h2:=qh l;rw [h] at h2;rw [h1,take_len h2]
theorem ext_size (s:ByteArray) {a n:Nat} (h:a+n≤s.size):(s.extract a (a+n)).size=n:=by
 rw [← aI,mK,List.length_take,List.length_drop,aI];omega
theorem lT {n x y:Nat} (h:x<n) (hy:x<y):n - (intOf (Value.int .i64 ((y:Nat):Int))).toNat<n - (intOf (Value.int .i64 ((x:Nat):Int))).toNat:=by
 show n - ((y:Nat):Int).toNat<n - ((x:Nat):Int).toNat;omega
theorem tail_size (s:ByteArray) (a:Nat):(s.extract a s.size).size≤s.size:=by
 rw [← aI (s.extract a s.size),tL,List.length_drop,aI];omega
theorem FT (s:ByteArray) {i:Nat} (hi:i≤s.size) (W:World):(Instr.slice 9 (.string s) (some (.int .i64 (i:Nat))) none none).run Tryz.prog W=.ok (.string (s.extract i s.size)) W:=by
 rw [run_slice_string_from_if W 9 s .i64 _ Tryz.underlying9,if_pos ⟨by omega,by omega⟩,Int.toNat_natCast]
theorem uK (a0:Option Addr) (n0 cap:Nat) (s:ByteArray) (w:World) (hS:Bs w a0 n0 cap s) (T:Tabs w) :
    Calls Tryz.prog 33 #[.slice a0 n0 cap] w fun e w' => TR w w' e s:=by
 have hn0:=hS.hn;by_cases hbig:16384<n0
 ·have q1:decide (16384<(n0:Int))=true:=dT (by omega);have hE:=Hy (show gB s=2∧cO s=[]∧jw s=[] by unfold gB cO jw;rw [if_pos (by omega),if_pos (by omega),if_pos (by omega)];exact ⟨rfl,rfl,rfl⟩);clear hS T hn0
  go_enter Tryz.func33,Tryz.ntmps33
  go_wp2_with fail;go_ret3;exact ⟨.slice none 0 0,.slice none 0 0,by rw [hE.o.1];rfl,by rw [hE.o.2.1];exact tk.Own.nil _ _,by rw [hE.o.2.2];exact pb.Own.nil _ _,b0 w⟩
 have q1:decide (16384<(n0:Int))=false:=dF (by omega);have hE:=Hy (show gB s=0∧cO s=(lxs 0 false s.data.toList).1++[iZ s]∧jw s=(lxs 0 false s.data.toList).2.take 32 by unfold gB cO jw;rw [if_neg (by omega),if_neg (by omega),if_neg (by omega)];exact ⟨rfl,rfl,rfl⟩);have hz:s.size≤16384:=by omega
 have CV:=hS.str;have T0:=Hy T;have SK:=Hy (fun i hi W T=>mh s (by omega) i hi W T);have LS:=Hy (LI.start s);have Z0:=Hy hz;clear hS T hbig hn0
 go_enter Tryz.func33,Tryz.ntmps33
 go_wp2_with fail;refine (SK.o 0 zl _ T0.o).mono ?_;rintro e w1 ⟨rfl,b1⟩;have B1:=Hy b1;clear b1;generalize 0+sk false (s.data.toList.drop 0)=x0 at *;go_wp2_with fail
 go_loopw [2,3,6,7] (fun vl vb vf va wr => ∃ (x:Nat) (fe:Int) (ts:List Tk) (bs:List Pb),va=.int .i64 (x:Nat)∧vf=.int .i64 fe∧Hid (LI s x fe ts bs)∧Hid (tk.Own wr w.heap.size vl ts)∧Hid (pb.Own wr w.heap.size vb bs)∧Hid (Below w.heap.size w wr)) (fun _ _ _ va _=>s.size - (intOf va).toNat)
 case atStart=>exact ⟨x0,-1,[],[],rfl,rfl,LS,Hy (tk.Own.nil _ _),Hy (pb.Own.nil _ _),B1⟩
 case round =>
  obtain ⟨x,fe,ts,bs,rfl,rfl,hI,hO,hP,hb⟩:=hrel;have hfew:=hI.o.few;have hl8:=Hy (show ts.length<4398046511104 by have:=hfew.2.2;omega);have hb8:=Hy (show bs.length<8796093022208 by have:=hfew.2.1;omega);by_cases hc:x<s.size
  ·have q2:decide ((x:Int)<(s.size:Int))=true:=dT (by omega);obtain ⟨q,hq⟩:∃ q,shp (s.data.toList.drop x)=q:=⟨_,rfl⟩;obtain ⟨k,n⟩:=q;obtain ⟨c,hcd⟩:∃ c,flt k ((s.data.toList.drop x).take n)=c:=⟨_,rfl⟩;obtain ⟨⟨hn1,hn2⟩,s1,s2,s3,s4⟩:=hI.o.step hc hq hcd;replace s1:=Hy s1;replace s2:=Hy s2;replace s3:=Hy s3;replace s4:=Hy s4;have SC:=Hy (fun W T=>qj (s.extract x s.size) (Nat.le_trans (tail_size s x) (by omega)) W T);rw [tL,hq] at SC;have SL:=fun W=>Aa s (i:=x) (j:=x+n) (x:=(x:Int)) (y:=(x:Int)+(n:Int)) rfl (by omega) (by omega) hn2 W;have ST:=fun W=>FT s (i:=x) (Nat.le_of_lt hc) W;have hps:=ext_size s hn2;have FC:=Hy (fun W T=>yP k (s.extract x (x+n)) (by rw [hps];omega) (by rw [mK];exact Au hq) W T);rw [mK,hcd] at FC;have CC:=Hy (fun h W=>sH k (s.extract x (x+n)) (by rw [hps];omega) h W);rw [mK] at CC;have hk4:=Hy (show k=4→2≤(s.extract x (x+n)).size by
     rintro rfl
     have h1:=zW ((Au hq).resolve_left (by decide))
     rw [← mK,aI] at h1
     exact h1)
   have SK1:=Hy (fun W T=>(mh s (by omega) (x+n) hn2 W T:Calls Tryz.prog 84 #[.string s,.int .i64 ((x:Int)+(n:Int))] W fun e w' => e=.returned (.int .i64 ((x+n+sk false (s.data.toList.drop (x+n)):Nat):Int))∧Below W.heap.size W w'));have hge:=Hy (show x<x+n+sk false (s.data.toList.drop (x+n)) by omega);generalize x+n+sk false (s.data.toList.drop (x+n))=y at *;generalize s.extract x (x+n)=p at *;generalize s.extract x s.size=t at *;generalize (⟨(cont k ((s.data.toList.drop x).take n)).toArray⟩:ByteArray)=ct at *;have hxn:=Hy hn2;clear hq hcd hps hI;obtain ⟨ab,cb,rfl,hsb⟩:=hP.o.sl;generalize hm:bs.length=m at *;replace hm:=Hy hm;by_cases hc0:c=0
   ·subst hc0;obtain ⟨hk0,hI2⟩:=s1.o rfl;have qk:(k==0)=false:=by rw [beq_eq_false_iff_ne];exact hk0
    replace hI2:=Hy hI2;clear s1 s2 s3 s4 hk0 hsb;go_wp2_with fail;refine (SC.o _ (T0.o.stays hb.o)).mono ?_;rintro e w2 ⟨rfl,b2⟩;have B2:=Hy (aA hb.o b2);have O2:=Hy (hO.o.keeps b2);have P2:=Hy (hP.o.keeps b2);clear b2 hO hP hb;go_wp2_with fail;refine (FC.o _ (T0.o.stays B2.o)).mono ?_;rintro e w3 ⟨rfl,b3⟩;have B3:=Hy (aA B2.o b3);have O3:=Hy (O2.o.keeps b3);have P3:=Hy (P2.o.keeps b3);clear b3 O2 P2 B2;have CC1:=Hy (CC.o hk4.o w3);go_wp2_with fail;refine CC1.o.mono ?_;rintro e w4 ⟨rfl,rfl⟩;go_wp2_with (at_builtin;refine tk.jY (.tmp 45) (.tmp 52) rfl ?_;refine tk.eP _ rfl (.tmp 45) (.tmp 52) rfl w.heap.size _ _ rfl (O3.o.keeps (au (b0 w4) _)) w4.heap.size ⟨k,ct,(x:Nat)⟩ rfl (tk.Bw.new w4 ⟨k,ct,(x:Nat)⟩ 119) hl8.o (by have:=B3.o.size;simp;omega) ?_;intro v2 w6 O6 b6 g6);have P6:=Hy (Ar (O3.o.keeps (au (b0 w4) _)) (P3.o.keeps (au (b0 w4) _)) g6);have B6:=Hy ((au B3.o (.cells #[.int .i64 k,.string ct,.int .i64 (x:Nat)] 119)).trans b6);have O7:=Hy O6;clear b6 O6 g6;go_wp2_with fail;refine (SK1.o _ (T0.o.stays B6.o)).mono ?_;rintro e w7 ⟨rfl,b7⟩;have B7:=Hy (aA B6.o b7);have O8:=Hy (O7.o.keeps b7);have P8:=Hy (P6.o.keeps b7);clear b7;go_wp2_with fail;exact ⟨⟨y,fe,_,bs,rfl,rfl,hI2,O8,P8,B7⟩,lT hc hge.o⟩
   have qc:(c==0)=false:=by rw [beq_eq_false_iff_ne];exact hc0
   by_cases hk0:k=0
   ·subst hk0;by_cases hxe:(x:Int)=fe
    ·subst hxe;have hI2:=Hy (s2.o hc0 rfl rfl);clear s1 s2 s3 s4 hsb CC hk4;go_wp2_with fail;refine (SC.o _ (T0.o.stays hb.o)).mono ?_;rintro e w2 ⟨rfl,b2⟩;have B2:=Hy (aA hb.o b2);have O2:=Hy (hO.o.keeps b2);have P2:=Hy (hP.o.keeps b2);clear b2 hO hP hb;go_wp2_with fail;refine (FC.o _ (T0.o.stays B2.o)).mono ?_;rintro e w3 ⟨rfl,b3⟩;have B3:=Hy (aA B2.o b3);have O3:=Hy (O2.o.keeps b3);have P3:=Hy (P2.o.keeps b3);clear b3 O2 P2 B2;go_wp2_with fail;refine (SK1.o _ (T0.o.stays B3.o)).mono ?_;rintro e w7 ⟨rfl,b7⟩;have B7:=Hy (aA B3.o b7);have O8:=Hy (O3.o.keeps b7);have P8:=Hy (P3.o.keeps b7);clear b7;go_wp2_with fail;exact ⟨⟨y,_,ts,bs,rfl,rfl,hI2,O8,P8,B7⟩,lT hc hge.o⟩
    have qx:((x:Int)==fe)=false:=by rw [beq_eq_false_iff_ne];exact hxe
    by_cases hm32:m<32
    ·have qm:decide ((m:Int)<32)=true:=dT (by omega);have hI2:=Hy (s3.o hc0 (fun h=>hxe h.2) hm32);rw [if_pos rfl] at hI2;clear s1 s2 s3 s4 hsb CC hk4;go_wp2_with fail;refine (SC.o _ (T0.o.stays hb.o)).mono ?_;rintro e w2 ⟨rfl,b2⟩;have B2:=Hy (aA hb.o b2);have O2:=Hy (hO.o.keeps b2);have P2:=Hy (hP.o.keeps b2);clear b2 hO hP hb;go_wp2_with fail;refine (FC.o _ (T0.o.stays B2.o)).mono ?_;rintro e w3 ⟨rfl,b3⟩;have B3:=Hy (aA B2.o b3);have O3:=Hy (O2.o.keeps b3);have P3:=Hy (P2.o.keeps b3);clear b3 O2 P2 B2;go_wp2_with (at_builtin;refine pb.jY (.tmp 66) (.tmp 70) rfl ?_;refine pb.eP _ rfl (.tmp 66) (.tmp 70) rfl w.heap.size _ _ rfl (P3.o.keeps (au (b0 w3) _)) w3.heap.size ((x:Nat),c) rfl (pb.Bw.new w3 ((x:Nat),c) 122) (by rw [hm.o];exact hb8.o) (by have:=B3.o.size;simp;omega) ?_;intro v2 w6 P6 b6 g6);have O6:=Hy (zV (P3.o.keeps (au (b0 w3) _)) (O3.o.keeps (au (b0 w3) _)) g6);have B6:=Hy ((au B3.o (.cells #[.int .i64 (x:Nat),.int .i64 c] 122)).trans b6);have P7:=Hy P6;clear b6 P6 g6;go_wp2_with fail;refine (SK1.o _ (T0.o.stays B6.o)).mono ?_;rintro e w7 ⟨rfl,b7⟩;have B7:=Hy (aA B6.o b7);have O8:=Hy (O6.o.keeps b7);have P8:=Hy (P7.o.keeps b7);clear b7;go_wp2_with fail;exact ⟨⟨y,_,ts,_,rfl,rfl,hI2,O8,P8,B7⟩,lT hc hge.o⟩
    have qm:decide ((m:Int)<32)=false:=dF (by omega);have hI2:=Hy (s4.o hc0 (fun h=>hxe h.2) hm32);rw [if_pos rfl] at hI2;clear s1 s2 s3 s4 hsb CC hk4;go_wp2_with fail;refine (SC.o _ (T0.o.stays hb.o)).mono ?_;rintro e w2 ⟨rfl,b2⟩;have B2:=Hy (aA hb.o b2);have O2:=Hy (hO.o.keeps b2);have P2:=Hy (hP.o.keeps b2);clear b2 hO hP hb;go_wp2_with fail;refine (FC.o _ (T0.o.stays B2.o)).mono ?_;rintro e w3 ⟨rfl,b3⟩;have B3:=Hy (aA B2.o b3);have O3:=Hy (O2.o.keeps b3);have P3:=Hy (P2.o.keeps b3);clear b3 O2 P2 B2;go_wp2_with fail;refine (SK1.o _ (T0.o.stays B3.o)).mono ?_;rintro e w7 ⟨rfl,b7⟩;have B7:=Hy (aA B3.o b7);have O8:=Hy (O3.o.keeps b7);have P8:=Hy (P3.o.keeps b7);clear b7;go_wp2_with fail;exact ⟨⟨y,_,ts,bs,rfl,rfl,hI2,O8,P8,B7⟩,lT hc hge.o⟩
   have qk:(k==0)=false:=by rw [beq_eq_false_iff_ne];exact hk0
   by_cases hm32:m<32
   ·have qm:decide ((m:Int)<32)=true:=dT (by omega);have hI2:=Hy (s3.o hc0 (fun h=>hk0 h.1) hm32);rw [if_neg hk0] at hI2;clear s1 s2 s3 s4 hsb CC hk4;go_wp2_with fail;refine (SC.o _ (T0.o.stays hb.o)).mono ?_;rintro e w2 ⟨rfl,b2⟩;have B2:=Hy (aA hb.o b2);have O2:=Hy (hO.o.keeps b2);have P2:=Hy (hP.o.keeps b2);clear b2 hO hP hb;go_wp2_with fail;refine (FC.o _ (T0.o.stays B2.o)).mono ?_;rintro e w3 ⟨rfl,b3⟩;have B3:=Hy (aA B2.o b3);have O3:=Hy (O2.o.keeps b3);have P3:=Hy (P2.o.keeps b3);clear b3 O2 P2 B2;go_wp2_with (at_builtin;refine pb.jY (.tmp 66) (.tmp 70) rfl ?_;refine pb.eP _ rfl (.tmp 66) (.tmp 70) rfl w.heap.size _ _ rfl (P3.o.keeps (au (b0 w3) _)) w3.heap.size ((x:Nat),c) rfl (pb.Bw.new w3 ((x:Nat),c) 122) (by rw [hm.o];exact hb8.o) (by have:=B3.o.size;simp;omega) ?_;intro v2 w6 P6 b6 g6);have O6:=Hy (zV (P3.o.keeps (au (b0 w3) _)) (O3.o.keeps (au (b0 w3) _)) g6);have B6:=Hy ((au B3.o (.cells #[.int .i64 (x:Nat),.int .i64 c] 122)).trans b6);have P7:=Hy P6;clear b6 P6 g6;go_wp2_with fail;refine (SK1.o _ (T0.o.stays B6.o)).mono ?_;rintro e w7 ⟨rfl,b7⟩;have B7:=Hy (aA B6.o b7);have O8:=Hy (O6.o.keeps b7);have P8:=Hy (P7.o.keeps b7);clear b7;go_wp2_with fail;exact ⟨⟨y,_,ts,_,rfl,rfl,hI2,O8,P8,B7⟩,lT hc hge.o⟩
   have qm:decide ((m:Int)<32)=false:=dF (by omega);have hI2:=Hy (s4.o hc0 (fun h=>hk0 h.1) hm32);rw [if_neg hk0] at hI2;clear s1 s2 s3 s4 hsb CC hk4;go_wp2_with fail;refine (SC.o _ (T0.o.stays hb.o)).mono ?_;rintro e w2 ⟨rfl,b2⟩;have B2:=Hy (aA hb.o b2);have O2:=Hy (hO.o.keeps b2);have P2:=Hy (hP.o.keeps b2);clear b2 hO hP hb;go_wp2_with fail;refine (FC.o _ (T0.o.stays B2.o)).mono ?_;rintro e w3 ⟨rfl,b3⟩;have B3:=Hy (aA B2.o b3);have O3:=Hy (O2.o.keeps b3);have P3:=Hy (P2.o.keeps b3);clear b3 O2 P2 B2;go_wp2_with fail;refine (SK1.o _ (T0.o.stays B3.o)).mono ?_;rintro e w7 ⟨rfl,b7⟩;have B7:=Hy (aA B3.o b7);have O8:=Hy (O3.o.keeps b7);have P8:=Hy (P3.o.keeps b7);clear b7;go_wp2_with fail;exact ⟨⟨y,_,ts,bs,rfl,rfl,hI2,O8,P8,B7⟩,lT hc hge.o⟩
  have q2:decide ((x:Int)<(s.size:Int))=false:=dF (by omega);have hov:=hI.o.over hc;clear hI;rw [hov.1,hov.2] at hE;clear hov;go_wp2_with (at_builtin;refine tk.jY (.tmp 78) (.tmp 82) rfl ?_;refine tk.eP _ rfl (.tmp 78) (.tmp 82) rfl w.heap.size _ _ rfl (hO.o.keeps (au (b0 wr) _)) wr.heap.size (iZ s) rfl (tk.Bw.new wr (iZ s) 119) hl8.o (by have:=hb.o.size;simp;omega) ?_;intro v2 w6 O6 b6 g6);have P6:=Hy (Ar (hO.o.keeps (au (b0 wr) _)) (hP.o.keeps (au (b0 wr) _)) g6);have B6:=Hy ((au hb.o (.cells #[.int .i64 6,.string .empty,.int .i64 (s.size:Nat)] 119)).trans b6);go_ret3;exact ⟨_,_,by rw [hE.o.1];rfl,by rw [hE.o.2.1];exact O6,by rw [hE.o.2.2];exact P6.o,B6.o⟩
end
end Go.Proofs.YtbahfelnbofjjaaGreatDoor
