/- Lists of problems in memory. -/
import Derived.Test.YtbahfelnbofjjaaGreatDoorH26
set_option maxRecDepth 100000
set_option maxHeartbeats 16000000
namespace Go.Proofs.YtbahfelnbofjjaaGreatDoor
namespace pb
open Go.RowKit dec
structure Bw (w:World) (b:Nat) (x:Pb):Prop where
 c0:w.cell? ⟨b,0,none⟩=some (.int .i64 (x).1)
 c1:w.cell? ⟨b,1,none⟩=some (.int .i64 (x).2)
theorem Bw.lt {w:World} {b:Nat} {x:Pb} (h:Bw w b x):b<w.heap.size:=block_lt_of_cell h.c0
theorem Bw.new (w:World) (x:Pb) (T:TypeId):Bw (w.alloc (.cells #[.int .i64 (x).1,.int .i64 (x).2] T)) w.heap.size x:=⟨by simp [go_sem],by simp [go_sem]⟩
theorem Bw.rH {w w1:World} {B b:Nat} {x:Pb} (h:Bw w b x) (hb:Below B w w1) (hl:b<B):Bw w1 b x :=
 ⟨(hb.cell hl).trans h.c0,(hb.cell hl).trans h.c1⟩
theorem Bw.keeps {w w1:World} {b:Nat} {x:Pb} (h:Bw w b x) (hb:Below w.heap.size w w1):Bw w1 b x:=h.rH hb h.lt
theorem Bw.past {w:World} {b:Nat} {x:Pb} (h:Bw w b x) (o:Obj):Bw (w.alloc o) b x:=h.keeps (aj (b0 w) o)
def cs:List Pb→List Value
 | []=>[]
 | x :: l=>.int .i64 (x).1 :: .int .i64 (x).2 :: cs l
theorem iC:∀ l r:List Pb,cs (l++r)=cs l++cs r
 | [],_=>rfl
 | x :: l,r=>by simp only [cs,L_g,iC l r]
theorem lM:∀ l:List Pb,∀ u ∈ cs l,u.oneCell'=true
 | [],u,h=>by simp [cs] at h
 | x :: l,u,h=>by
  simp only [cs,List.mem_cons] at h
  rcases h with rfl | rfl | h
  ·rfl
  ·rfl
  ·exact lM l u h
def gt (l:List Pb) (j:Nat):Pb:=l.getD j (0,0)
theorem jH {l:List Pb} {j:Nat} (h:j<l.length):gt l j ∈ l:=by
 unfold gt;rw [List.getD_eq_getElem?_getD,List.getElem?_eq_getElem h];exact List.getElem_mem h
theorem fJ {l:List Pb} {j:Nat} (h:j<l.length):gt l j=l[j]:=by
 unfold gt;rw [List.getD_eq_getElem?_getD,List.getElem?_eq_getElem h];rfl
theorem lW:∀ (l:List Pb) (j:Nat),j<l.length→(cs l)[j * 2]? = some (.int .i64 (gt l j).1)∧(cs l)[j * 2+1]? = some (.int .i64 (gt l j).2)
 | [],j,h=>by simp at h
 | x :: l,0,_=>⟨rfl,rfl⟩
 | x :: l,j+1,h=>by
  have:=lW l j (by simpa using h)
  rw [show (j+1) * 2=j * 2+1+1 by omega]
  simp only [cs,sz4]
  exact this
theorem sQ {l:List Pb} {j:Nat} (h:j<l.length):l.drop j=gt l j :: l.drop (j+1):=by
 rw [fJ h];exact List.drop_eq_getElem_cons h
theorem gY {l:List Pb} {j:Nat} (h:j<l.length):l.take (j+1)=l.take j++[gt l j]:=by
 rw [fJ h,List.take_add_one,List.getElem?_eq_getElem h];rfl
def Cl (w:World) (b off:Nat) (l:List Pb):Prop:=∀ j,j<l.length→w.cell? ⟨b,off+j * 2,none⟩=some (.int .i64 (gt l j).1)∧w.cell? ⟨b,off+j * 2+1,none⟩=some (.int .i64 (gt l j).2)
theorem Cl.keeps {w w1:World} {b off:Nat} {l:List Pb} (h:Cl w b off l) (hb:Below w.heap.size w w1):Cl w1 b off l:=fun j hj=>⟨dec.keeps hb (h j hj).1,dec.keeps hb (h j hj).2⟩
def At (w:World) (a:Option Addr) (l:List Pb):Prop:=l.length=0∨∃ b off,a=some ⟨b,off,none⟩∧Cl w b off l
theorem At.keeps {w w1:World} {a:Option Addr} {l:List Pb} (h:At w a l) (hb:Below w.heap.size w w1):At w1 a l:=h.imp id fun ⟨b,off,e,hB⟩=>⟨b,off,e,hB.keeps hb⟩
structure Sl (w:World) (a:Option Addr) (n cap:Nat) (l:List Pb):Prop where
 hat:At w a l
 hn:l.length=n
 hcap:n≤cap
 hmax:cap≤9223372036854775807
 hno:a=none→cap=0
theorem Sl.keeps {w w1:World} {a:Option Addr} {n cap:Nat} {l:List Pb} (h:Sl w a n cap l) (hb:Below w.heap.size w w1):Sl w1 a n cap l:={ h with hat:=h.hat.keeps hb }
theorem Sl.nil (w:World):Sl w none 0 0 []:=⟨.inl rfl,rfl,by omega,by omega,fun _=>rfl⟩
theorem Cl.cut {w:World} {b off:Nat} {l:List Pb} (h:Cl w b off l) (k m:Nat):Cl w b (off+k * 2) ((l.drop k).take m):=by
 intro j hj;have hlen:((l.drop k).take m).length=min m (l.length - k):=by simp
 have:=h (k+j) (by omega);have e:gt ((l.drop k).take m) j=gt l (k+j):=by
  rw [fJ hj,fJ (by omega)];simp
 rw [e,show off+k * 2+j * 2=off+(k+j) * 2 by omega];exact this
theorem Cl.take {w:World} {b off:Nat} {l:List Pb} (h:Cl w b off l) (m:Nat):Cl w b off (l.take m):=by
 have:=h.cut 0 m;simpa using this
theorem wN:(Tryz.prog.info? 122).map (fun i=>(i.zero,i.size,i.bytes))=some (some (.agg #[.int .i64 0,.int .i64 0]),2,16):=by kernel_rfl
def Own (w:World) (base:Nat) (v:Value) (l:List Pb):Prop:=w.ownsRow base 122 2 v l.length (cs l)
theorem Own.nil (w:World) (base:Nat):Own w base (.slice none 0 0) []:=World.ownsRow_nil _ _ _ _
theorem Own.o {w:World} {base:Nat} {v:Value} {l:List Pb} (h:Own w base v l):(v=.slice none 0 0∧l=[])∨∃ g cap,v=.slice (some ⟨g,0,none⟩) l.length cap∧base≤g∧g<w.heap.size∧l.length≤cap∧cap≤9223372036854775807∧Cl w g 0 l:=by
 rcases h.2 with ⟨h0,h1⟩ | ⟨g,cap,cur,rfl,hb,hg,hc,hm,hs,ht⟩
 ·exact .inl ⟨h0,List.eq_nil_of_length_eq_zero h1⟩
 refine .inr ⟨g,cap,rfl,hb,(h.lt g rfl).2,hc,by unfold maxLen at hm;omega,fun j hj=>?_⟩;rw [Nat.zero_add,h.cellAt (j * 2) (by omega),h.cellAt (j * 2+1) (by omega)];exact lW l j hj
theorem Own.sl {w:World} {base:Nat} {v:Value} {l:List Pb} (h:Own w base v l):∃ a cap,v=.slice a l.length cap∧Sl w a l.length cap l:=by
 rcases h.o with ⟨rfl,rfl⟩ | ⟨g,cap,rfl,_,_,hc,hm,hW⟩
 ·exact ⟨none,0,rfl,.nil _⟩
 exact ⟨_,cap,rfl,.inr ⟨g,0,rfl,hW⟩,rfl,hc,hm,fun h=>by cases h⟩
theorem Own.keeps {w w1:World} {base:Nat} {v:Value} {l:List Pb} (h:Own w base v l) (hb:Below w.heap.size w w1):Own w1 base v l:=by
 obtain ⟨h1,h2⟩:=h;refine ⟨h1,?_⟩;rcases h2 with h0 | ⟨g,cap,cur,e,hbg,hh,r⟩
 ·exact .inl h0
 refine .inr ⟨g,cap,cur,e,hbg,?_,r⟩;have:g<w.heap.size:=by
  rcases Nat.lt_or_ge g w.heap.size with h' | h'
  ·exact h'
  rw [Array.getElem?_eq_none h'] at hh;cases hh
 rw [hb.block _ this];exact hh
theorem own_below {w w':World} {base:Nat} {v:Value} {l:List Pb} (h:Own w base v l) (hg:w.grownBy w' v.ownBlock) (hb:base≤w.heap.size):Below base w w' :=
 (Below.refl base w).grown hg hb fun k hk=>(h.lt k hk).1
theorem ou (w:World) {o:Oper} {a:Act} {K:Act→World→Prop} {Q:Exit→Act→World→Prop} (s x:Operand)
    (ho:o.op=.call { callee:=.builtin .append,args:=#[s,x],argTypes:=#[62,62] })
    (base:Nat) (v:Value) (l:List Pb) (hs:a.eval s=v) (hown:Own w base v l) (b:Nat) (y:Pb) (hx:a.eval x=.slice (some ⟨b,0,none⟩) 1 1) (hB:Bw w b y)
    (hn:l.length<8796093022208) (hbase:base≤w.heap.size)
    (h:∀ v' w',Own w' base v' (l++[y])→Below base w w'→w.grownBy w' v.ownBlock→K (a.put o.dst v') w'):o.wp Tryz.prog a w K Q:=by
 obtain ⟨i,hi,hz0,hz1,hz2⟩:=info_parts wN
 refine wp_append_own w s x 62 ho base 122 i (.agg #[.int .i64 0,.int .i64 0]) 2 16 Tryz.underlying62 hi hz0 hz1 hz2 rfl (by decide) v l.length (cs l) hs hown ⟨b,0,none⟩ 1 1 (cs [y]) hx rfl ?_ (lM _)
   (by unfold maxLen;omega) (by omega) hbase fun v' w' h1 h2 _=>h v' w' (by unfold Own;rw [iC,L_a];exact h1) (own_below hown h2 hbase) h2
 intro j u hu;unfold Addr.add
 match j,hu with
 | 0,hu=>simp [cs] at hu;subst hu;exact hB.c0
 | 1,hu=>simp [cs] at hu;subst hu;exact hB.c1
 | j+2,hu=>simp [cs] at hu
theorem eP (w:World) {ops:Array Oper} {rest:List Oper} {o:Oper} {a:Act} {Q:Exit→Act→World→Prop} (hgd:o.guard=none) (s x:Operand)
  (ho:o.op=.call { callee:=.builtin .append,args:=#[s,x],argTypes:=#[62,62] })
  (base:Nat) (v:Value) (l:List Pb) (hs:a.eval s=v) (hown:Own w base v l) (b:Nat) (y:Pb) (hx:a.eval x=.slice (some ⟨b,0,none⟩) 1 1) (hB:Bw w b y)
  (hn:l.length<8796093022208) (hbase:base≤w.heap.size)
  (h:∀ v' w',Own w' base v' (l++[y])→Below base w w'→w.grownBy w' v.ownBlock→wpList Tryz.prog ops Q rest (a.put o.dst v') w'):wpList Tryz.prog ops Q (o :: rest) a w :=
 wpList_plain hgd fun _ hK=>ou w s x ho base v l hs hown b y hx hB hn hbase fun v' w' h1 h2 h3=>hK _ _ (h v' w' h1 h2 h3)
theorem jF {w:World} {ops:Array Oper} {rest:List Oper} {o:Oper} {a:Act} {Q:Exit→Act→World→Prop} (s x:Operand) (_:o.op=.call { callee:=.builtin .append,args:=#[s,x],argTypes:=#[62,62] })
  (k:wpList Tryz.prog ops Q (o :: rest) a w):wpList Tryz.prog ops Q (o :: rest) a w:=k
end pb
section
open Go.RowKit dec
def uS (s:ByteArray):Tk:=⟨6,.empty,(s.size:Nat)⟩
def lQ (s:ByteArray):Int:=if 16384<s.size then 2 else 0
def dP (s:ByteArray):List Tk:=if 16384<s.size then [] else (lxs 0 false s.data.toList).1++[uS s]
def jA (s:ByteArray):List Pb:=if 16384<s.size then [] else (lxs 0 false s.data.toList).2.take 32
def LI (s:ByteArray) (a:Nat) (fe:Int) (ts:List Tk) (bs:List Pb):Prop :=
 ∃ (p:Nat) (f:Bool),a=p+sk false (s.data.toList.drop p)∧a≤s.size∧((f=true∧fe=(p:Nat))∨(f=false∧fe<(p:Nat)))∧ts++(lxs p f (s.data.toList.drop p)).1=(lxs 0 false s.data.toList).1∧∃ P,bs=P.take 32∧P++(lxs p f (s.data.toList.drop p)).2=(lxs 0 false s.data.toList).2
theorem yX (s:ByteArray) {p:Nat} (h:p≤s.size):p+sk false (s.data.toList.drop p)≤s.size:=by
 have:=zT false (s.data.toList.drop p);rw [List.length_drop,aI] at this;omega
theorem LI.start (s:ByteArray):LI s (0+sk false (s.data.toList.drop 0)) (-1) [] [] :=
 ⟨0,false,rfl,yX s zl,.inr ⟨rfl,by omega⟩,rfl,[],rfl,rfl⟩
theorem LI.over {s:ByteArray} {a:Nat} {fe:Int} {ts:List Tk} {bs:List Pb} (h:LI s a fe ts bs) (ha:¬ a<s.size):(lxs 0 false s.data.toList).1=ts∧(lxs 0 false s.data.toList).2.take 32=bs:=by
 obtain ⟨p,f,h1,h2,h3,h4,P,h5,h6⟩:=h;have hd:(s.data.toList.drop p).drop (sk false (s.data.toList.drop p))=[]:=by
  rw [List.drop_drop,← h1];exact List.drop_eq_nil_of_le (by rw [aI];omega)
 rw [iJ hd] at h4 h6;rw [L_n] at h4 h6;exact ⟨h4.symm,by rw [← h6,h5]⟩
theorem take_one {P:List Pb} {x:Pb} (h:(P.take 32).length<32):(P++[x]).take 32=P.take 32++[x]:=by
 rw [List.length_take] at h;rw [L_q (l:=P) (by omega),L_q (by rw [L_a,List.length_singleton];omega)]
theorem IZ {P:List Pb} {x:Pb} (h:¬ (P.take 32).length<32):(P++[x]).take 32=P.take 32:=by
 rw [List.length_take] at h;rw [List.take_append_of_le_length (by omega)]
theorem LI.step {s:ByteArray} {a:Nat} {fe:Int} {ts:List Tk} {bs:List Pb} (h:LI s a fe ts bs) (ha:a<s.size) {k:Int} {n:Nat} (hs:shp (s.data.toList.drop a)=(k,n)) {c:Int} (hc:flt k ((s.data.toList.drop a).take n)=c) :
    (1≤n∧a+n≤s.size)∧(c=0→k≠0∧LI s (a+n+sk false (s.data.toList.drop (a+n))) fe (ts++[⟨k,⟨(cont k ((s.data.toList.drop a).take n)).toArray⟩,(a:Nat)⟩]) bs)
      ∧ (c≠0→k=0→(a:Int)=fe→LI s (a+n+sk false (s.data.toList.drop (a+n))) ((a+n:Nat):Int) ts bs)
      ∧ (c≠0→¬ (k=0∧(a:Int)=fe)→bs.length<32→LI s (a+n+sk false (s.data.toList.drop (a+n))) (if k=0 then ((a+n:Nat):Int) else fe) ts (bs++[(((a:Nat):Int),c)]))
      ∧ (c≠0→¬ (k=0∧(a:Int)=fe)→¬ bs.length<32→LI s (a+n+sk false (s.data.toList.drop (a+n))) (if k=0 then ((a+n:Nat):Int) else fe) ts bs):=by
 obtain ⟨p,f,h1,h2,h3,h4,P,h5,h6⟩:=h;have hne:s.data.toList.drop a≠[]:=by
  intro e;have:=congrArg List.length e;rw [List.length_drop,aI,L_j] at this;omega
 have hd:(s.data.toList.drop p).drop (sk false (s.data.toList.drop p))=s.data.toList.drop a:=by rw [List.drop_drop,← h1]
 have hn1:=oL hne;have hn2:=oM (s.data.toList.drop a);rw [hs,List.length_drop,aI] at hn2;rw [hs] at hn1;simp only at hn1 hn2;have hst:=fZ hd hne p f;rw [hs] at hst;simp only [hc] at hst;rw [← h1,List.drop_drop] at hst;have hz:=yX s (p:=a+n) (by omega);have hlow:fe≤(p:Int):=by omega
 have hpa:p≤a:=by omega
 have hfe:(f=true∧sk false (s.data.toList.drop p)=0)↔(a:Int)=fe:=by
  rcases h3 with ⟨h3,h7⟩ | ⟨h3,h7⟩
  ·rw [h3];constructor
   ·rintro ⟨_,h8⟩;omega
   intro h8;exact ⟨rfl,by omega⟩
  rw [h3];constructor
  ·rintro ⟨h8,_⟩;cases h8
  intro h8;omega
 refine ⟨⟨hn1,by omega⟩,?_,?_,?_,?_⟩
 ·intro hc0;have hk:k≠0:=by
   rintro rfl;rw [Ch] at hc;omega
  rw [if_pos hc0,dF hk] at hst;refine ⟨hk,a+n,false,rfl,hz,.inr ⟨rfl,by omega⟩,?_,P,h5,?_⟩
  ·rw [← h4,hst];simp
  rw [← h6,hst]
 ·intro hc0 hk he;rw [if_neg hc0,if_pos ⟨hk,hfe.2 he⟩,dT hk] at hst;refine ⟨a+n,true,rfl,hz,.inl ⟨rfl,rfl⟩,?_,P,h5,?_⟩
  ·rw [← h4,hst]
  rw [← h6,hst]
 ·intro hc0 hk hl;rw [if_neg hc0,if_neg (fun h=>hk ⟨h.1,hfe.1 h.2⟩)] at hst;refine ⟨a+n,decide (k=0),rfl,hz,?_,?_,P++[(((a:Nat):Int),c)],?_,?_⟩
  ·by_cases h0:k=0
   ·exact .inl ⟨dT h0,by rw [if_pos h0]⟩
   exact .inr ⟨dF h0,by rw [if_neg h0];omega⟩
  ·rw [← h4,hst]
  ·rw [h5] at hl ⊢;rw [take_one hl]
  rw [← h6,hst];simp
 intro hc0 hk hl;rw [if_neg hc0,if_neg (fun h=>hk ⟨h.1,hfe.1 h.2⟩)] at hst;refine ⟨a+n,decide (k=0),rfl,hz,?_,?_,P++[(((a:Nat):Int),c)],?_,?_⟩
 ·by_cases h0:k=0
  ·exact .inl ⟨dT h0,by rw [if_pos h0]⟩
  exact .inr ⟨dF h0,by rw [if_neg h0];omega⟩
 ·rw [← h4,hst]
 ·rw [h5] at hl ⊢;rw [IZ hl]
 rw [← h6,hst];simp
theorem QH (s:ByteArray):(lxs 0 false s.data.toList).1.length≤s.size:=by
 have h1:=xO s.data.toList _ 0 zl (Fx s.data.toList 0 false s.data.toList rfl zl).1;have h2:=Fy _ (J3 0 false s.data.toList);rw [aI] at h1;omega
theorem LI.few {s:ByteArray} {a:Nat} {fe:Int} {ts:List Tk} {bs:List Pb} (h:LI s a fe ts bs):a≤s.size∧bs.length≤32∧ts.length≤s.size:=by
 obtain ⟨p,f,h1,h2,h3,h4,P,h5,h6⟩:=h;refine ⟨h2,by rw [h5,List.length_take];omega,?_⟩;have:=congrArg List.length h4;rw [L_a] at this;have:=QH s;omega
theorem Bd {w w':World} {B B2:Nat} {v u:Value} {ts:List Tk} {bs:List Pb} (h1:tk.Own w B v ts) (h2:pb.Own w B2 u bs) (hg:w.grownBy w' v.ownBlock):pb.Own w' B2 u bs:=by
 obtain ⟨e1,e2⟩:=h2;refine ⟨e1,?_⟩;rcases e2 with h0 | ⟨g,cap,cur,e,hbg,hh,r⟩
 ·exact .inl h0
 refine .inr ⟨g,cap,cur,e,hbg,?_,r⟩;have hlt:g<w.heap.size:=by
  rcases Nat.lt_or_ge g w.heap.size with h' | h'
  ·exact h'
  rw [Array.getElem?_eq_none h'] at hh;cases hh
 have hne:v.ownBlock≠some g:=by
  rcases h1.2 with ⟨rfl,_⟩ | ⟨g1,cap1,cur1,rfl,_,hh1,_⟩
  ·simp [Value.ownBlock]
  intro e2;have:g1=g:=by simpa [Value.ownBlock] using e2
  subst this;rw [hh] at hh1;simp at hh1
 rw [hg.block g hlt (Ne.symm hne)];exact hh
theorem Ar {w w':World} {B B2:Nat} {v u:Value} {ts:List Tk} {bs:List Pb} (h1:pb.Own w B v bs) (h2:tk.Own w B2 u ts) (hg:w.grownBy w' v.ownBlock):tk.Own w' B2 u ts:=by
 obtain ⟨e1,e2⟩:=h2;refine ⟨e1,?_⟩;rcases e2 with h0 | ⟨g,cap,cur,e,hbg,hh,r⟩
 ·exact .inl h0
 refine .inr ⟨g,cap,cur,e,hbg,?_,r⟩;have hlt:g<w.heap.size:=by
  rcases Nat.lt_or_ge g w.heap.size with h' | h'
  ·exact h'
  rw [Array.getElem?_eq_none h'] at hh;cases hh
 have hne:v.ownBlock≠some g:=by
  rcases h1.2 with ⟨rfl,_⟩ | ⟨g1,cap1,cur1,rfl,_,hh1,_⟩
  ·simp [Value.ownBlock]
  intro e2;have:g1=g:=by simpa [Value.ownBlock] using e2
  subst this;rw [hh] at hh1;simp at hh1
 rw [hg.block g hlt (Ne.symm hne)];exact hh
def TR (w w':World) (e:Ending) (s:ByteArray):Prop:=∃ v u,e=.returned (.tuple #[v,u,.int .i64 (lQ s)])∧tk.Own w' w.heap.size v (dP s)∧pb.Own w' w.heap.size u (jA s)∧Below w.heap.size w w'
theorem nH (s:ByteArray) (a n:Nat):(s.extract a (a+n)).data.toList=(s.data.toList.drop a).take n:=by
 rw [uP,show a+n - a=n by omega]
theorem Bf {l:List UInt8} {k:Int} {n:Nat} (h:shp l=(k,n)):k=0∨shp (l.take n)=(k,(l.take n).length):=by
 by_cases h0:k=0
 ·exact .inl h0
 right;have h1:=ug (l:=l) (by rw [h];exact h0) (.inl rfl:Sep []);rw [L_n,h] at h1;have h2:=oM l;rw [h] at h2;rw [h1,take_len h2]
theorem ext_size (s:ByteArray) {a n:Nat} (h:a+n≤s.size):(s.extract a (a+n)).size=n:=by
 rw [← aI,nH,List.length_take,List.length_drop,aI];omega
theorem mG {n x y:Nat} (h:x<n) (hy:x<y):n - (intOf (Value.int .i64 ((y:Nat):Int))).toNat<n - (intOf (Value.int .i64 ((x:Nat):Int))).toNat:=by
 show n - ((y:Nat):Int).toNat<n - ((x:Nat):Int).toNat;omega
theorem tail_size (s:ByteArray) (a:Nat):(s.extract a s.size).size≤s.size:=by
 rw [← aI (s.extract a s.size),uO,List.length_drop,aI];omega
theorem Gy (s:ByteArray) {i:Nat} (hi:i≤s.size) (W:World):(Instr.slice 9 (.string s) (some (.int .i64 (i:Nat))) none none).run Tryz.prog W=.ok (.string (s.extract i s.size)) W:=by
 rw [run_slice_string_from_if W 9 s .i64 _ dec.uy9,if_pos ⟨by omega,by omega⟩,Int.toNat_natCast]
theorem vI (a0:Option Addr) (n0 cap:Nat) (s:ByteArray) (w:World) (hS:Bs w a0 n0 cap s) (T:Tabs w) :
    Calls Tryz.prog 33 #[.slice a0 n0 cap] w fun e w' => TR w w' e s:=by
 have hn0:=hS.hn;by_cases hbig:16384<n0
 ·have q1:decide (16384<(n0:Int))=true:=dT (by omega);have hE:=Hy (show lQ s=2∧dP s=[]∧jA s=[] by unfold lQ dP jA;rw [if_pos (by omega),if_pos (by omega),if_pos (by omega)];exact ⟨rfl,rfl,rfl⟩);clear hS T hn0
  go_enter Tryz.func33,Tryz.ntmps33
  go_wp2_with fail;go_ret3;exact ⟨.slice none 0 0,.slice none 0 0,by rw [hE.o.1];rfl,by rw [hE.o.2.1];exact tk.Own.nil _ _,by rw [hE.o.2.2];exact pb.Own.nil _ _,b0 w⟩
 have q1:decide (16384<(n0:Int))=false:=dF (by omega);have hE:=Hy (show lQ s=0∧dP s=(lxs 0 false s.data.toList).1++[uS s]∧jA s=(lxs 0 false s.data.toList).2.take 32 by unfold lQ dP jA;rw [if_neg (by omega),if_neg (by omega),if_neg (by omega)];exact ⟨rfl,rfl,rfl⟩);have hz:s.size≤16384:=by omega
 have CV:=hS.str;have T0:=Hy T;have SK:=Hy (fun i hi W T=>mW s (by omega) i hi W T);have LS:=Hy (LI.start s);have Z0:=Hy hz;clear hS T hbig hn0
 go_enter Tryz.func33,Tryz.ntmps33
 go_wp2_with fail;refine (SK.o 0 zl _ T0.o).mono ?_;rintro e w1 ⟨rfl,b1⟩;have B1:=Hy b1;clear b1;generalize 0+sk false (s.data.toList.drop 0)=x0 at *;go_wp2_with fail
 go_loopw [2,3,6,7] (fun vl vb vf va wr => ∃ (x:Nat) (fe:Int) (ts:List Tk) (bs:List Pb),va=.int .i64 (x:Nat)∧vf=.int .i64 fe∧Hid (LI s x fe ts bs)∧Hid (tk.Own wr w.heap.size vl ts)∧Hid (pb.Own wr w.heap.size vb bs)∧Hid (Below w.heap.size w wr)) (fun _ _ _ va _=>s.size - (intOf va).toNat)
 case atStart=>exact ⟨x0,-1,[],[],rfl,rfl,LS,Hy (tk.Own.nil _ _),Hy (pb.Own.nil _ _),B1⟩
 case round =>
  obtain ⟨x,fe,ts,bs,rfl,rfl,hI,hO,hP,hb⟩:=hrel;have hfew:=hI.o.few;have hl8:=Hy (show ts.length<4398046511104 by have:=hfew.2.2;omega);have hb8:=Hy (show bs.length<8796093022208 by have:=hfew.2.1;omega);by_cases hc:x<s.size
  ·have q2:decide ((x:Int)<(s.size:Int))=true:=dT (by omega);obtain ⟨q,hq⟩:∃ q,shp (s.data.toList.drop x)=q:=⟨_,rfl⟩;obtain ⟨k,n⟩:=q;obtain ⟨c,hcd⟩:∃ c,flt k ((s.data.toList.drop x).take n)=c:=⟨_,rfl⟩;obtain ⟨⟨hn1,hn2⟩,s1,s2,s3,s4⟩:=hI.o.step hc hq hcd;replace s1:=Hy s1;replace s2:=Hy s2;replace s3:=Hy s3;replace s4:=Hy s4;have SC:=Hy (fun W T=>qN (s.extract x s.size) (L_f (tail_size s x) (by omega)) W T);rw [uO,hq] at SC;have SL:=fun W=>Ay s (i:=x) (j:=x+n) (x:=(x:Int)) (y:=(x:Int)+(n:Int)) rfl (by omega) (by omega) hn2 W;have ST:=fun W=>Gy s (i:=x) (Nat.le_of_lt hc) W;have hps:=ext_size s hn2;have FC:=Hy (fun W T=>zx k (s.extract x (x+n)) (by rw [hps];omega) (by rw [nH];exact Bf hq) W T);rw [nH,hcd] at FC;have CC:=Hy (fun h W=>tN k (s.extract x (x+n)) (by rw [hps];omega) h W);rw [nH] at CC;have hk4:=Hy (show k=4→2≤(s.extract x (x+n)).size by
     rintro rfl
     have h1:=Au ((Bf hq).resolve_left (by decide))
     rw [← nH,aI] at h1
     exact h1)
   have SK1:=Hy (fun W T=>(mW s (by omega) (x+n) hn2 W T:Calls Tryz.prog 84 #[.string s,.int .i64 ((x:Int)+(n:Int))] W fun e w' => e=.returned (.int .i64 ((x+n+sk false (s.data.toList.drop (x+n)):Nat):Int))∧Below W.heap.size W w'));have hge:=Hy (show x<x+n+sk false (s.data.toList.drop (x+n)) by omega);generalize x+n+sk false (s.data.toList.drop (x+n))=y at *;generalize s.extract x (x+n)=p at *;generalize s.extract x s.size=t at *;generalize (⟨(cont k ((s.data.toList.drop x).take n)).toArray⟩:ByteArray)=ct at *;have hxn:=Hy hn2;clear hq hcd hps hI;obtain ⟨ab,cb,rfl,hsb⟩:=hP.o.sl;generalize hm:bs.length=m at *;replace hm:=Hy hm;by_cases hc0:c=0
   ·subst hc0;obtain ⟨hk0,hI2⟩:=s1.o rfl;have qk:(k==0)=false:=by rw [L_m];exact hk0
    replace hI2:=Hy hI2;clear s1 s2 s3 s4 hk0 hsb;go_wp2_with fail;refine (SC.o _ (T0.o.stays hb.o)).mono ?_;rintro e w2 ⟨rfl,b2⟩;have B2:=Hy (ak hb.o b2);have O2:=Hy (hO.o.keeps b2);have P2:=Hy (hP.o.keeps b2);clear b2 hO hP hb;go_wp2_with fail;refine (FC.o _ (T0.o.stays B2.o)).mono ?_;rintro e w3 ⟨rfl,b3⟩;have B3:=Hy (ak B2.o b3);have O3:=Hy (O2.o.keeps b3);have P3:=Hy (P2.o.keeps b3);clear b3 O2 P2 B2;have CC1:=Hy (CC.o hk4.o w3);go_wp2_with fail;refine CC1.o.mono ?_;rintro e w4 ⟨rfl,rfl⟩;go_wp2_with (at_builtin;refine tk.jF (.tmp 45) (.tmp 52) rfl ?_;refine tk.eP _ rfl (.tmp 45) (.tmp 52) rfl w.heap.size _ _ rfl (O3.o.keeps (aj (b0 w4) _)) w4.heap.size ⟨k,ct,(x:Nat)⟩ rfl (tk.Bw.new w4 ⟨k,ct,(x:Nat)⟩ 119) hl8.o (by have:=B3.o.size;simp;omega) ?_;intro v2 w6 O6 b6 g6);have P6:=Hy (Bd (O3.o.keeps (aj (b0 w4) _)) (P3.o.keeps (aj (b0 w4) _)) g6);have B6:=Hy ((aj B3.o (.cells #[.int .i64 k,.string ct,.int .i64 (x:Nat)] 119)).trans b6);have O7:=Hy O6;clear b6 O6 g6;go_wp2_with fail;refine (SK1.o _ (T0.o.stays B6.o)).mono ?_;rintro e w7 ⟨rfl,b7⟩;have B7:=Hy (ak B6.o b7);have O8:=Hy (O7.o.keeps b7);have P8:=Hy (P6.o.keeps b7);clear b7;go_wp2_with fail;exact ⟨⟨y,fe,_,bs,rfl,rfl,hI2,O8,P8,B7⟩,mG hc hge.o⟩
   have qc:(c==0)=false:=by rw [L_m];exact hc0
   by_cases hk0:k=0
   ·subst hk0;by_cases hxe:(x:Int)=fe
    ·subst hxe;have hI2:=Hy (s2.o hc0 rfl rfl);clear s1 s2 s3 s4 hsb CC hk4;go_wp2_with fail;refine (SC.o _ (T0.o.stays hb.o)).mono ?_;rintro e w2 ⟨rfl,b2⟩;have B2:=Hy (ak hb.o b2);have O2:=Hy (hO.o.keeps b2);have P2:=Hy (hP.o.keeps b2);clear b2 hO hP hb;go_wp2_with fail;refine (FC.o _ (T0.o.stays B2.o)).mono ?_;rintro e w3 ⟨rfl,b3⟩;have B3:=Hy (ak B2.o b3);have O3:=Hy (O2.o.keeps b3);have P3:=Hy (P2.o.keeps b3);clear b3 O2 P2 B2;go_wp2_with fail;refine (SK1.o _ (T0.o.stays B3.o)).mono ?_;rintro e w7 ⟨rfl,b7⟩;have B7:=Hy (ak B3.o b7);have O8:=Hy (O3.o.keeps b7);have P8:=Hy (P3.o.keeps b7);clear b7;go_wp2_with fail;exact ⟨⟨y,_,ts,bs,rfl,rfl,hI2,O8,P8,B7⟩,mG hc hge.o⟩
    have qx:((x:Int)==fe)=false:=by rw [L_m];exact hxe
    by_cases hm32:m<32
    ·have qm:decide ((m:Int)<32)=true:=dT (by omega);have hI2:=Hy (s3.o hc0 (fun h=>hxe h.2) hm32);rw [if_pos rfl] at hI2;clear s1 s2 s3 s4 hsb CC hk4;go_wp2_with fail;refine (SC.o _ (T0.o.stays hb.o)).mono ?_;rintro e w2 ⟨rfl,b2⟩;have B2:=Hy (ak hb.o b2);have O2:=Hy (hO.o.keeps b2);have P2:=Hy (hP.o.keeps b2);clear b2 hO hP hb;go_wp2_with fail;refine (FC.o _ (T0.o.stays B2.o)).mono ?_;rintro e w3 ⟨rfl,b3⟩;have B3:=Hy (ak B2.o b3);have O3:=Hy (O2.o.keeps b3);have P3:=Hy (P2.o.keeps b3);clear b3 O2 P2 B2;go_wp2_with (at_builtin;refine pb.jF (.tmp 66) (.tmp 70) rfl ?_;refine pb.eP _ rfl (.tmp 66) (.tmp 70) rfl w.heap.size _ _ rfl (P3.o.keeps (aj (b0 w3) _)) w3.heap.size ((x:Nat),c) rfl (pb.Bw.new w3 ((x:Nat),c) 122) (by rw [hm.o];exact hb8.o) (by have:=B3.o.size;simp;omega) ?_;intro v2 w6 P6 b6 g6);have O6:=Hy (Ar (P3.o.keeps (aj (b0 w3) _)) (O3.o.keeps (aj (b0 w3) _)) g6);have B6:=Hy ((aj B3.o (.cells #[.int .i64 (x:Nat),.int .i64 c] 122)).trans b6);have P7:=Hy P6;clear b6 P6 g6;go_wp2_with fail;refine (SK1.o _ (T0.o.stays B6.o)).mono ?_;rintro e w7 ⟨rfl,b7⟩;have B7:=Hy (ak B6.o b7);have O8:=Hy (O6.o.keeps b7);have P8:=Hy (P7.o.keeps b7);clear b7;go_wp2_with fail;exact ⟨⟨y,_,ts,_,rfl,rfl,hI2,O8,P8,B7⟩,mG hc hge.o⟩
    have qm:decide ((m:Int)<32)=false:=dF (by omega);have hI2:=Hy (s4.o hc0 (fun h=>hxe h.2) hm32);rw [if_pos rfl] at hI2;clear s1 s2 s3 s4 hsb CC hk4;go_wp2_with fail;refine (SC.o _ (T0.o.stays hb.o)).mono ?_;rintro e w2 ⟨rfl,b2⟩;have B2:=Hy (ak hb.o b2);have O2:=Hy (hO.o.keeps b2);have P2:=Hy (hP.o.keeps b2);clear b2 hO hP hb;go_wp2_with fail;refine (FC.o _ (T0.o.stays B2.o)).mono ?_;rintro e w3 ⟨rfl,b3⟩;have B3:=Hy (ak B2.o b3);have O3:=Hy (O2.o.keeps b3);have P3:=Hy (P2.o.keeps b3);clear b3 O2 P2 B2;go_wp2_with fail;refine (SK1.o _ (T0.o.stays B3.o)).mono ?_;rintro e w7 ⟨rfl,b7⟩;have B7:=Hy (ak B3.o b7);have O8:=Hy (O3.o.keeps b7);have P8:=Hy (P3.o.keeps b7);clear b7;go_wp2_with fail;exact ⟨⟨y,_,ts,bs,rfl,rfl,hI2,O8,P8,B7⟩,mG hc hge.o⟩
   have qk:(k==0)=false:=by rw [L_m];exact hk0
   by_cases hm32:m<32
   ·have qm:decide ((m:Int)<32)=true:=dT (by omega);have hI2:=Hy (s3.o hc0 (fun h=>hk0 h.1) hm32);rw [if_neg hk0] at hI2;clear s1 s2 s3 s4 hsb CC hk4;go_wp2_with fail;refine (SC.o _ (T0.o.stays hb.o)).mono ?_;rintro e w2 ⟨rfl,b2⟩;have B2:=Hy (ak hb.o b2);have O2:=Hy (hO.o.keeps b2);have P2:=Hy (hP.o.keeps b2);clear b2 hO hP hb;go_wp2_with fail;refine (FC.o _ (T0.o.stays B2.o)).mono ?_;rintro e w3 ⟨rfl,b3⟩;have B3:=Hy (ak B2.o b3);have O3:=Hy (O2.o.keeps b3);have P3:=Hy (P2.o.keeps b3);clear b3 O2 P2 B2;go_wp2_with (at_builtin;refine pb.jF (.tmp 66) (.tmp 70) rfl ?_;refine pb.eP _ rfl (.tmp 66) (.tmp 70) rfl w.heap.size _ _ rfl (P3.o.keeps (aj (b0 w3) _)) w3.heap.size ((x:Nat),c) rfl (pb.Bw.new w3 ((x:Nat),c) 122) (by rw [hm.o];exact hb8.o) (by have:=B3.o.size;simp;omega) ?_;intro v2 w6 P6 b6 g6);have O6:=Hy (Ar (P3.o.keeps (aj (b0 w3) _)) (O3.o.keeps (aj (b0 w3) _)) g6);have B6:=Hy ((aj B3.o (.cells #[.int .i64 (x:Nat),.int .i64 c] 122)).trans b6);have P7:=Hy P6;clear b6 P6 g6;go_wp2_with fail;refine (SK1.o _ (T0.o.stays B6.o)).mono ?_;rintro e w7 ⟨rfl,b7⟩;have B7:=Hy (ak B6.o b7);have O8:=Hy (O6.o.keeps b7);have P8:=Hy (P7.o.keeps b7);clear b7;go_wp2_with fail;exact ⟨⟨y,_,ts,_,rfl,rfl,hI2,O8,P8,B7⟩,mG hc hge.o⟩
   have qm:decide ((m:Int)<32)=false:=dF (by omega);have hI2:=Hy (s4.o hc0 (fun h=>hk0 h.1) hm32);rw [if_neg hk0] at hI2;clear s1 s2 s3 s4 hsb CC hk4;go_wp2_with fail;refine (SC.o _ (T0.o.stays hb.o)).mono ?_;rintro e w2 ⟨rfl,b2⟩;have B2:=Hy (ak hb.o b2);have O2:=Hy (hO.o.keeps b2);have P2:=Hy (hP.o.keeps b2);clear b2 hO hP hb;go_wp2_with fail;refine (FC.o _ (T0.o.stays B2.o)).mono ?_;rintro e w3 ⟨rfl,b3⟩;have B3:=Hy (ak B2.o b3);have O3:=Hy (O2.o.keeps b3);have P3:=Hy (P2.o.keeps b3);clear b3 O2 P2 B2;go_wp2_with fail;refine (SK1.o _ (T0.o.stays B3.o)).mono ?_;rintro e w7 ⟨rfl,b7⟩;have B7:=Hy (ak B3.o b7);have O8:=Hy (O3.o.keeps b7);have P8:=Hy (P3.o.keeps b7);clear b7;go_wp2_with fail;exact ⟨⟨y,_,ts,bs,rfl,rfl,hI2,O8,P8,B7⟩,mG hc hge.o⟩
  have q2:decide ((x:Int)<(s.size:Int))=false:=dF (by omega);have hov:=hI.o.over hc;clear hI;rw [hov.1,hov.2] at hE;clear hov;go_wp2_with (at_builtin;refine tk.jF (.tmp 78) (.tmp 82) rfl ?_;refine tk.eP _ rfl (.tmp 78) (.tmp 82) rfl w.heap.size _ _ rfl (hO.o.keeps (aj (b0 wr) _)) wr.heap.size (uS s) rfl (tk.Bw.new wr (uS s) 119) hl8.o (by have:=hb.o.size;simp;omega) ?_;intro v2 w6 O6 b6 g6);have P6:=Hy (Bd (hO.o.keeps (aj (b0 wr) _)) (hP.o.keeps (aj (b0 wr) _)) g6);have B6:=Hy ((aj hb.o (.cells #[.int .i64 6,.string .empty,.int .i64 (s.size:Nat)] 119)).trans b6);go_ret3;exact ⟨_,_,by rw [hE.o.1];rfl,by rw [hE.o.2.1];exact O6,by rw [hE.o.2.2];exact P6.o,B6.o⟩
end
namespace pa
open Go.RowKit dec
def tyC (t:Ty) (ua:Option Addr) (uc:Nat):Array Value:=#[.int .i64 t.k,.slice ua t.un.length uc,.string t.of]
theorem Du (B:Nat) (w:World):Calls Tryz.prog 68 #[.pointer (some ⟨B,0,none⟩)] w fun e w' => e=.returned (.agg #[.pointer (some ⟨B,0,none⟩),.bool false])∧Below w.heap.size w w':=by
 go_enter Tryz.func68,Tryz.ntmps68
 go_wp2_with fail;refine bn wS dec.uy108 rfl rfl _ _ w.heap.size _ _ rfl (Blk.new w _ _) rfl ?_;exact ⟨rfl,aj (b0 w) _⟩
theorem mo {x:Tk} : x.t.size≤(so x).length:=by
 unfold so;split
 ·simp only [L_b,L_a,Array.length_toList];show x.t.data.size≤_;omega
 simp only [Array.length_toList];exact Nat.le_refl _
theorem En:∀ (l:List Tk),(∀ x ∈ l,pr x=true)→l.length≤(l.map fun x=>(so x).length).sum∧∀ x ∈ l,x.t.size≤(l.map fun x=>(so x).length).sum
 | [],_=>⟨Nat.zero_le _,fun x h=>by cases h⟩
 | y :: l,h=>by
  have h1:=En l fun x hx=>h x (L_h _ hx)
  have h2:=qR (h y (L_e ..))
  rw [L_p,List.sum_cons,L_b]
  refine ⟨by have:=h1.1;omega,fun x hx=>?_⟩
  rcases List.mem_cons.1 hx with rfl | hx
  ·have:=mo (x:=x)
   omega
  ·have:=h1.2 x hx
   omega
theorem RX {s:ByteArray} (h:¬ 16384<s.size):Tl (dP s):=by
 have hl:dP s=(lxs 0 false s.data.toList).1++[uS s]:=by unfold dP;rw [if_neg h]
 have h1:=En _ (J3 0 false s.data.toList);have h2:=xO s.data.toList _ 0 zl (Fx s.data.toList 0 false s.data.toList rfl zl).1;have h3:s.data.toList.length=s.size:=aI s;rw [hl];refine ⟨fun x hx=>?_,⟨_,_,rfl,rfl⟩,?_⟩
 ·rcases List.mem_append.1 hx with hx | hx
  ·have:=h1.2 x hx;omega
  rw [List.mem_singleton] at hx;subst hx;exact Nat.zero_le _
 rw [L_a,List.length_singleton];have:=h1.1;omega
theorem Gv {s:ByteArray} (h:lQ s=0):¬ 16384<s.size:=by
 unfold lQ at h;split at h
 ·cases h
 assumption
theorem SV {T:TypeId} {n:Nat} {d:TypeDesc} (hi:(Tryz.prog.info? T).map (·.size)=some n) (hu:Tryz.prog.underlying T=some d) (hd:nU d=true)
    {fn:Func} {R:Ending→World→Prop} {p t u:Tmp} (h:fn.results=#[.cell p T,.tmp t,.tmp u]) (tmps:Array Value) (w:World) (g:Nat) (T':TypeId) (cells:Array Value) (hp:tmps.getD p undef=.pointer (some ⟨g,0,none⟩))
    (hB:Blk w g T' cells) (hc:cells.size=n) (hR:R (.returned (.tuple #[.agg cells,tmps.getD t undef,tmps.getD u undef])) w):bodyPost Tryz.prog fn R .ret ⟨tmps,[]⟩ w:=by
 refine bodyPost_ret ?_ rfl hR;have hp':tmps[p]?.getD undef=.pointer (some ⟨g,0,none⟩):=by simpa using hp
 have hL:=run_loadVar_row (P:=Tryz.prog) w g T' T cells (0,0) d hB hu (by cases d <;> first | rfl | cases hd) (by rw [hc];exact hi);simp [results,h,hp',asAddr,hL]
structure Mo where
 ts:List Tb
 fs:List Fe
def jP (l:List Tk):Rs (List Fi):=if isT ⟨#[125]⟩ l=true then .ok [] l.tail else (lst fie ⟨#[44]⟩ l).bind fun fs r=>(need ⟨#[125]⟩ r).bind fun _ r=>.ok fs r
def iK (l:List Tk):Rs Int:=if isT ⟨#[107,101,101,112]⟩ l=true then int l.tail else .ok 0 l
def mQ (l:List Tk):Rs Tb :=
 (nma ⟨#[116,97,98,108,101]⟩ l).bind fun n r=>(nma ⟨#[111,102]⟩ r).bind fun e r=>(need ⟨#[123]⟩ r).bind fun _ r=>(jP r).bind fun fs r=>(iK r).bind fun k r=>(need ⟨#[59]⟩ r).bind fun _ r=>.ok ⟨n,e,fs,k⟩ r
def nD (l:List Tk):Rs Fe :=
 (nma ⟨#[102,101,97,116,117,114,101]⟩ l).bind fun n r=>(nma ⟨#[111,102]⟩ r).bind fun e r=>(need ⟨#[58]⟩ r).bind fun _ r=>(typ r).bind fun t r=>(need ⟨#[61]⟩ r).bind fun _ r=>(exR r).bind fun x r=>(need ⟨#[59]⟩ r).bind fun _ r=>.ok ⟨n,e,t,x⟩ r
def dD (m:Mo) (l:List Tk):Rs Mo :=
 if (hd l).t=⟨#[116,97,98,108,101]⟩ then (mQ l).bind fun t r=>.ok { m with ts:=m.ts++[t] } r
 else if (hd l).t=⟨#[102,101,97,116,117,114,101]⟩ then (nD l).bind fun f r=>.ok { m with fs:=m.fs++[f] } r
 else wrg l
def lvR:List Tk→List Tk
 | []=>[]
 | x :: l=>if x.k=6 then x :: l else if isT ⟨#[59]⟩ (x :: l)=true then l else lvR l
def fH:Nat→Mo→List Pb→List Tk→Option (Mo × List Pb)
 | 0,_,_,_=>none
 | f+1,m,b,l =>
  if (hd l).k=6 then some (m,b)
  else match dD m l with
   | .out=>none
   | .ok m' r=>fH f m' b r
   | .no a c r=>fH f m (b++[(a,c)]) (lvR r)
def Sx {α:Type} (x:Rs α) (l:List Tk):Prop :=
 match x with
 | .out=>True
 | .ok _ r=>r <:+ l
 | .no _ c r=>c≠0∧r <:+ l
theorem Sx.mono {α:Type} {x:Rs α} {l q:List Tk} (h:Sx x l) (hl:l <:+ q):Sx x q:=by
 cases x with
 | out=>trivial
 | ok v r=>exact List.IsSuffix.trans h hl
 | no a c r=>exact ⟨h.1,List.IsSuffix.trans h.2 hl⟩
theorem Sx.tail {α:Type} {x:Rs α} {l:List Tk} (h:Sx x l.tail):Sx x l:=h.mono (List.tail_suffix l)
theorem Sx.bind {α β:Type} {x:Rs α} {g:α→List Tk→Rs β} {l:List Tk} (h:Sx x l) (hg:∀ v r,x=.ok v r→Sx (g v r) r):Sx (x.bind g) l:=by
 cases x with
 | out=>trivial
 | ok v r=>exact (hg v r rfl).mono h
 | no a c r=>exact h
theorem bU {α:Type} (v:α) (l:List Tk):Sx (.ok v l:Rs α) l:=List.suffix_refl l
theorem lC {α:Type} (v:α) (l:List Tk):Sx (.ok v l.tail:Rs α) l:=List.tail_suffix l
theorem NJ {α:Type} (a c:Int) (l:List Tk) (hc:c≠0):Sx (.no a c l:Rs α) l:=⟨hc,List.suffix_refl l⟩
theorem oI {α:Type} (l:List Tk):Sx (wrg l:Rs α) l:=⟨by decide,List.suffix_refl l⟩
theorem cK (s:ByteArray) (l:List Tk):Sx (need s l) l:=by
 unfold need;split
 ·exact lC _ _
 exact oI _
theorem oJ (k:Int) (l:List Tk):Sx (tak k l) l:=by
 unfold tak;split
 ·exact lC _ _
 exact oI _
theorem mU (l:List Tk):Sx (nam l) l:=by
 unfold nam;split
 ·exact oJ _ _
 exact oI _
theorem mR (s:ByteArray) (l:List Tk):Sx (nma s l) l:=Sx.bind (cK _ _) fun _ _ _=>mU _
theorem oK (l:List Tk):Sx (int l) l:=Sx.bind (oJ _ _) fun _ _ _=>bU _ _
theorem OY (l:List Tk):Sx (nI l) l:=Sx.bind (oJ _ _) fun _ _ _=>bU _ _
theorem Sw (l:List Tk):Sx (fac l) l:=by
 refine Sx.bind (mU _) fun n r _=>?_;split
 ·split
  ·exact (Sx.bind (oK _) fun _ _ _=>bU _ _).tail.tail
  exact (Sx.bind (oK _) fun _ _ _=>bU _ _).tail
 exact bU _ _
theorem Ej {α:Type} {one:List Tk→Rs α} {s:ByteArray} (h1:∀ l,Sx (one l) l):∀ (f:Nat) (x:List α) (l:List Tk),Sx (more one s f x l) l
 | 0,_,_=>trivial
 | f+1,x,l=>by
  unfold more
  split
  ·exact (Sx.bind (h1 _) fun _ _ _=>Ej h1 f _ _).tail
  ·exact bU _ _
theorem I6 {α:Type} {one:List Tk→Rs α} {s:ByteArray} (h1:∀ l,Sx (one l) l) (l:List Tk):Sx (lst one s l) l:=Sx.bind (h1 _) fun _ _ _=>Ej h1 _ _ _
theorem vJ (l:List Tk):Sx (uni l) l:=by
 unfold uni;split
 ·refine (Sx.bind (I6 Sw _) fun u r _=>Sx.bind (cK _ _) fun _ r' _=>?_).tail;split
  ·exact bU _ _
  rename_i hc;exact NJ _ _ _ hc
 exact bU _ _
theorem Av (l:List Tk):Sx (typ l) l:=by
 unfold typ;split
 ·exact lC _ _
 split
 ·exact lC _ _
 split
 ·exact (Sx.bind (mU _) fun _ _ _=>bU _ _).tail
 split
 ·exact (Sx.bind (vJ _) fun _ _ _=>bU _ _).tail
 split
 ·exact (Sx.bind (vJ _) fun _ _ _=>bU _ _).tail
 exact oI _
theorem Sm (l:List Tk):Sx (win l) l:=by
 unfold win;split
 ·exact lC _ _
 iterate 3
   split
   · exact (Sx.bind (oK _) fun _ _ _=>bU _ _).tail
 exact oI _
theorem Sn (l:List Tk):Sx (key l) l:=by
 refine Sx.bind (mR _ _) fun n r _=>Sx.bind (oJ _ _) fun s r' hr=>?_;split
 ·exact bU _ _
 exact NJ _ _ _ (by decide)
theorem Vv:∀ (f:Nat) (i:Bool) (m:Md) (l:List Tk),Sx (pz f i m l) l:=by
 intro f
 induction f with
 | zero=>intro i m l;exact trivial
 | succ f ih =>
   intro i m l
   cases m with
   | ex =>
     simp only [pz]
     split
     · exact (Sx.bind (ih _ _ _) fun _ _ _=>Sx.bind (cK _ _) fun _ _ _=>Sx.bind (ih _ _ _) fun _ _ _=>Sx.bind (cK _ _) fun _ _ _=>Sx.bind (ih _ _ _) fun _ _ _=>bU _ _).tail
     · exact ih _ _ _
   | op least =>
     simp only [pz]
     split
     · exact (Sx.bind (ih _ _ _) fun _ _ _=>ih _ _ _).tail
     · exact Sx.bind (ih _ _ _) fun _ _ _=>ih _ _ _
   | tl least n y =>
     simp only [pz]
     split
     · exact bU _ _
     · split
       · exact ih _ _ _
       · exact (Sx.bind (ih _ _ _) fun _ _ _=>ih _ _ _).tail
   | ng =>
     simp only [pz]
     split
     · exact (Sx.bind (ih _ _ _) fun _ _ _=>bU _ _).tail
     · exact ih _ _ _
   | pa =>
     simp only [pz]
     exact Sx.bind (cK _ _) fun _ _ _=>Sx.bind (ih _ _ _) fun _ _ _=>Sx.bind (cK _ _) fun _ _ _=>bU _ _
   | rf =>
     simp only [pz]
     refine Sx.bind (mU _) fun n r _=>?_
     split
     · exact (Sx.bind (ih _ _ _) fun _ _ _=>bU _ _).tail
     · exact bU _ _
   | ag =>
     simp only [pz]
     refine Sx.bind (oJ _ _) fun op r _=>Sx.bind (cK _ _) fun _ r _=>Sx.bind (mU _) fun t r _=>Sx.bind (cK _ _) fun _ r _=>Sx.bind ?_ fun x r _=>Sx.bind ?_ fun p r _=>Sx.bind (Sm _) fun w r _=>Sx.bind ?_ fun y r _=>Sx.bind (cK _ _) fun _ _ _=>bU _ _
     · split
       · exact bU _ _
       · exact Sx.bind (ih _ _ _) fun _ _ _=>Sx.bind (cK _ _) fun _ _ _=>bU _ _
     · split
       · exact Sx.bind (oK _) fun _ _ _=>Sx.bind (cK _ _) fun _ _ _=>bU _ _
       · exact bU _ _
     · split
       · exact (ih _ _ _).tail
       · exact bU _ _
   | pr =>
     simp only [pz]
     split
     · exact Sx.bind (oK _) fun _ _ _=>Sx.bind (vJ _) fun _ _ _=>bU _ _
     split
     · exact Sx.bind (OY _) fun _ _ _=>Sx.bind (vJ _) fun _ _ _=>bU _ _
     split
     · exact Sx.bind (oJ _ _) fun _ _ _=>bU _ _
     split
     · exact lC _ _
     split
     · exact lC _ _
     split
     · exact Sn _
     split
     · exact (Sx.bind (ih _ _ _) fun _ _ _=>bU _ _).tail
     split
     · exact ih _ _ _
     split
     · exact Sx.bind (mU _) fun _ _ _=>bU _ _
     split
     · exact ih _ _ _
     · exact ih _ _ _
theorem I7 (l:List Tk):Sx (exR l) l:=Vv _ _ _ _
theorem Sq (l:List Tk):Sx (fie l) l:=Sx.bind (mU _) fun _ _ _=>Sx.bind (cK _ _) fun _ _ _=>Sx.bind (Av _) fun _ _ _=>bU _ _
theorem Ei (l:List Tk):Sx (jP l) l:=by
 unfold jP;split
 ·exact lC _ _
 exact Sx.bind (I6 Sq _) fun _ _ _=>Sx.bind (cK _ _) fun _ _ _=>bU _ _
theorem El (l:List Tk):Sx (iK l) l:=by
 unfold iK;split
 ·exact (oK _).tail
 exact bU _ _
theorem OV (l:List Tk):Sx (mQ l) l:=Sx.bind (mR _ _) fun _ _ _=>Sx.bind (mR _ _) fun _ _ _=>Sx.bind (cK _ _) fun _ _ _=>Sx.bind (Ei _) fun _ _ _=>Sx.bind (El _) fun _ _ _=>Sx.bind (cK _ _) fun _ _ _=>bU _ _
theorem OX (l:List Tk):Sx (nD l) l:=Sx.bind (mR _ _) fun _ _ _=>Sx.bind (mR _ _) fun _ _ _=>Sx.bind (cK _ _) fun _ _ _=>Sx.bind (Av _) fun _ _ _=>Sx.bind (cK _ _) fun _ _ _=>Sx.bind (I7 _) fun _ _ _=>Sx.bind (cK _ _) fun _ _ _=>bU _ _
theorem Em (m:Mo) (l:List Tk):Sx (dD m l) l:=by
 unfold dD;split
 ·exact Sx.bind (OV _) fun _ _ _=>bU _ _
 split
 ·exact Sx.bind (OX _) fun _ _ _=>bU _ _
 exact oI _
theorem OT (l:List Tk):jP l≠.out:=by
 unfold jP;split
 ·exact fun h=>by cases h
 exact aH (vW (fun _ _ _=>xu) o9 _) fun _ _ _=>aH (dZ _ _) fun _ _ _ h=>by cases h
theorem QL (l:List Tk):iK l≠.out:=by
 unfold iK;split
 ·exact int_ne _
 exact fun h=>by cases h
theorem Eh (l:List Tk):mQ l≠.out:=aH (jD _ _) fun _ _ _=>aH (jD _ _) fun _ _ _=>aH (dZ _ _) fun _ _ _=>aH (OT _) fun _ _ _=>aH (QL _) fun _ _ _=>aH (dZ _ _) fun _ _ _ h=>by cases h
theorem Ga (l:List Tk):nD l≠.out:=aH (jD _ _) fun _ _ _=>aH (jD _ _) fun _ _ _=>aH (dZ _ _) fun _ _ _=>aH (vH _) fun _ _ _=>aH (dZ _ _) fun _ _ _=>aH (Cq _) fun _ _ _=>aH (dZ _ _) fun _ _ _ h=>by cases h
theorem o7 (m:Mo) (l:List Tk):dD m l≠.out:=by
 unfold dD;split
 ·exact aH (Eh _) fun _ _ _ h=>by cases h
 split
 ·exact aH (Ga _) fun _ _ _ h=>by cases h
 exact fun h=>by cases h
theorem OQ {l r:List Tk} {v:Tb} (h:mQ l=.ok v r):r.length<l.length:=by
 obtain ⟨n,q,h1,h2⟩:=bind_ok h;have:=Bp h1;have h3:Sx ((nma ⟨#[111,102]⟩ q).bind fun e r=>(need ⟨#[123]⟩ r).bind fun _ r=>(jP r).bind fun fs r=>(iK r).bind fun k r=>(need ⟨#[59]⟩ r).bind fun _ r=>Rs.ok (⟨n,e,fs,k⟩:Tb) r) q:=Sx.bind (mR _ _) fun _ _ _=>Sx.bind (cK _ _) fun _ _ _=>Sx.bind (Ei _) fun _ _ _=>Sx.bind (El _) fun _ _ _=>Sx.bind (cK _ _) fun _ _ _=>bU _ _;rw [h2] at h3;have:=List.IsSuffix.length_le h3;omega
theorem QY {l r:List Tk} {v:Fe} (h:nD l=.ok v r):r.length<l.length:=by
 obtain ⟨n,q,h1,h2⟩:=bind_ok h;have:=Bp h1;have h3:Sx ((nma ⟨#[111,102]⟩ q).bind fun e r=>(need ⟨#[58]⟩ r).bind fun _ r=>(typ r).bind fun t r=>(need ⟨#[61]⟩ r).bind fun _ r=>(exR r).bind fun x r=>(need ⟨#[59]⟩ r).bind fun _ r=>Rs.ok (⟨n,e,t,x⟩:Fe) r) q:=Sx.bind (mR _ _) fun _ _ _=>Sx.bind (cK _ _) fun _ _ _=>Sx.bind (Av _) fun _ _ _=>Sx.bind (cK _ _) fun _ _ _=>Sx.bind (I7 _) fun _ _ _=>Sx.bind (cK _ _) fun _ _ _=>bU _ _;rw [h2] at h3;have:=List.IsSuffix.length_le h3;omega
theorem FH {m m':Mo} {l r:List Tk} (h:dD m l=.ok m' r):r.length<l.length:=by
 unfold dD at h;split at h
 ·obtain ⟨t,q,h1,h2⟩:=bind_ok h;cases h2;exact OQ h1
 split at h
 ·obtain ⟨t,q,h1,h2⟩:=bind_ok h;cases h2;exact QY h1
 cases h
theorem BG {l:List Tk} (h:l≠[]):lvR l=if (hd l).k=6 then l else if isT ⟨#[59]⟩ l=true then l.tail else lvR l.tail:=by
 cases l with
 | nil=>exact absurd rfl h
 | cons x l=>rfl
theorem BF:∀ (l:List Tk),(lvR l).length≤l.length
 | []=>Nat.le_refl _
 | x :: l=>by
  unfold lvR
  have:=BF l
  split
  ·exact Nat.le_refl _
  ·split <;> simp only [L_b] <;> omega
theorem TY {l:List Tk} (h:(hd l).k≠6):(lvR l).length<l.length:=by
 cases l with
 | nil=>exact absurd rfl h
 | cons x l =>
   have h':¬ x.k=6:=h
   unfold lvR
   rw [if_neg h']
   have:=BF l
   split <;> simp only [L_b] <;> omega
theorem JV {m:Mo} {l r:List Tk} {a c:Int} (h:dD m l=.no a c r) (hl:(hd l).k≠6):(lvR r).length<l.length:=by
 have hs:=Em m l;rw [h] at hs;have hs:r <:+ l:=hs.2;rcases Nat.lt_or_ge r.length l.length with h1 | h1
 ·exact Nat.lt_of_le_of_lt (BF _) h1
 have:r=l:=List.IsSuffix.eq_of_length_le hs h1;subst this;exact TY hl
theorem QM {m:Mo} {l r:List Tk} {a c:Int} (h:dD m l=.no a c r):c≠0:=by
 have hs:=Em m l;rw [h] at hs;exact hs.1
theorem yj:∀ (f:Nat) (m:Mo) (b:List Pb) (l:List Tk),l.length<f→fH f m b l≠none
 | 0,_,_,_,h=>by omega
 | f+1,m,b,l,h=>by
  unfold fH
  split
  ·exact fun h=>by cases h
  ·rename_i hk
   cases hi:dD m l with
   | out=>exact absurd hi (o7 _ _)
   | ok m' r=>exact yj f _ _ _ (by have:=FH hi;omega)
   | no a c r=>exact yj f _ _ _ (by have:=JV hi hk;omega)
inductive SimR (R:Int→Int→Prop):List Tk→List Tk→Prop where
 | last {x y:Tk} (hk:x.k=6) (hy:y.k=x.k) (ht:y.t=x.t) (ha:R x.a y.a):SimR R [x] [y]
 | cons {x y:Tk} {l r:List Tk} (hk:y.k=x.k) (ht:y.t=x.t) (ha:R x.a y.a) (h:SimR R l r):SimR R (x :: l) (y :: r)
theorem SimR.hk {R:Int→Int→Prop} {l r:List Tk} (h:SimR R l r):(hd r).k=(hd l).k:=by
 cases h with
 | last hk hy ht ha=>exact hy
 | cons hk ht ha h=>exact hk
theorem SimR.ht {R:Int→Int→Prop} {l r:List Tk} (h:SimR R l r):(hd r).t=(hd l).t:=by
 cases h with
 | last hk hy ht ha=>exact ht
 | cons hk ht ha h=>exact ht
theorem SimR.ha {R:Int→Int→Prop} {l r:List Tk} (h:SimR R l r):R (hd l).a (hd r).a:=by
 cases h with
 | last hk hy ht ha=>exact ha
 | cons hk ht ha h=>exact ha
theorem SimR.len {R:Int→Int→Prop} {l r:List Tk} (h:SimR R l r):r.length=l.length:=by
 induction h with
 | last hk hy ht ha=>rfl
 | cons hk ht ha h ih=>simp only [L_b,ih]
theorem SimR.tail {R:Int→Int→Prop} {l r:List Tk} (h:SimR R l r) (h6:(hd l).k≠6):SimR R l.tail r.tail:=by
 cases h with
 | last hk hy ht ha=>exact absurd hk h6
 | cons hk ht ha h=>exact h
theorem SimR.sT {R:Int→Int→Prop} {l r:List Tk} (h:SimR R l r) (s:ByteArray):isT s r=isT s l:=by
 unfold Go.Proofs.YtbahfelnbofjjaaGreatDoor.isT;rw [h.hk,h.ht]
theorem SimR.of {R:Int→Int→Prop} {l r:List Tk} (h:SimR R l r) {s:ByteArray} (hs:isT s l=true):SimR R l.tail r.tail:=h.tail (Ka hs)
inductive RSim {α:Type} (R:Int→Int→Prop):Rs α→Rs α→Prop where
 | out:RSim R .out .out
 | ok (v:α) {l r:List Tk} (h:SimR R l r):RSim R (.ok v l) (.ok v r)
 | no {a b:Int} (c:Int) {l r:List Tk} (ha:R a b) (h:SimR R l r):RSim R (.no a c l) (.no b c r)
theorem RSim.bind {α β:Type} {R:Int→Int→Prop} {x y:Rs α} {g k:α→List Tk→Rs β} (h:RSim R x y) (hg:∀ v l r,SimR R l r→RSim R (g v l) (k v r)):RSim R (x.bind g) (y.bind k):=by
 cases h with
 | out=>exact .out
 | ok v h=>exact hg v _ _ h
 | no c ha h=>exact .no c ha h
section
variable {R:Int→Int→Prop}
theorem lZ {α:Type} {l r:List Tk} (h:SimR R l r):RSim R (wrg l:Rs α) (wrg r):=.no 90 h.ha h
theorem dL {s:ByteArray} {l r:List Tk} (h:SimR R l r):RSim R (need s l) (need s r):=by
 unfold need;rw [h.sT];split
 ·rename_i t;exact .ok () (h.of t)
 exact lZ h
theorem mg {k:Int} (hk:k≠6) {l r:List Tk} (h:SimR R l r):RSim R (tak k l) (tak k r):=by
 unfold tak;rw [h.hk,h.ht];split
 ·rename_i t;exact .ok _ (h.tail (by rw [t];exact hk))
 exact lZ h
theorem kT {l r:List Tk} (h:SimR R l r):RSim R (nam l) (nam r):=by
 unfold nam;rw [h.ht];split
 ·exact mg (by decide) h
 exact lZ h
theorem oV {s:ByteArray} {l r:List Tk} (h:SimR R l r):RSim R (nma s l) (nma s r):=(dL h).bind fun _ _ _ h=>kT h
theorem mI {l r:List Tk} (h:SimR R l r):RSim R (int l) (int r):=(mg (by decide) h).bind fun _ _ _ h=>.ok _ h
theorem Nq {l r:List Tk} (h:SimR R l r):RSim R (nI l) (nI r):=(mg (by decide) h).bind fun _ _ _ h=>.ok _ h
theorem Q7 {l r:List Tk} (h:SimR R l r):RSim R (fac l) (fac r):=by
 refine (kT h).bind fun n l r h=>?_;rw [h.sT];split
 ·rename_i t;have h1:=h.of t;rw [h1.sT];split
  ·rename_i t1;exact (mI (h1.of t1)).bind fun _ _ _ h=>.ok _ h
  exact (mI h1).bind fun _ _ _ h=>.ok _ h
 exact .ok _ h
theorem Bv {α:Type} {one:List Tk→Rs α} {s:ByteArray} (h1:∀ {l r:List Tk},SimR R l r→RSim R (one l) (one r)):∀ (f:Nat) (x:List α) {l r:List Tk},SimR R l r→RSim R (more one s f x l) (more one s f x r)
 | 0,_,_,_,_=>.out
 | f+1,x,l,r,h=>by
  unfold more
  rw [h.sT]
  split
  ·rename_i t
   exact (h1 (h.of t)).bind fun y l r h=>Bv h1 f _ h
  ·exact .ok _ h
theorem Fj {α:Type} {one:List Tk→Rs α} {s:ByteArray} (h1:∀ {l r:List Tk},SimR R l r→RSim R (one l) (one r)) {l r:List Tk} (h:SimR R l r):RSim R (lst one s l) (lst one s r) :=
 (h1 h).bind fun y l r h=>by rw [h.len];exact Bv h1 _ _ h
theorem rY {l r:List Tk} (h:SimR R l r):RSim R (uni l) (uni r):=by
 unfold uni;rw [h.sT];split
 ·rename_i t;refine (Fj Q7 (h.of t)).bind fun u l' r' h' => (dL h').bind fun _ l' r' h' => ?_;split
  ·exact .ok _ h'
  exact .no _ h.ha h'
 exact .ok _ h
theorem Ea {l r:List Tk} (h:SimR R l r):RSim R (typ l) (typ r):=by
 unfold typ;simp only [h.sT];split
 ·rename_i t;exact .ok _ (h.of t)
 split
 ·rename_i t;exact .ok _ (h.of t)
 split
 ·rename_i t;exact (kT (h.of t)).bind fun _ _ _ h=>.ok _ h
 split
 ·rename_i t;exact (rY (h.of t)).bind fun _ _ _ h=>.ok _ h
 split
 ·rename_i t;exact (rY (h.of t)).bind fun _ _ _ h=>.ok _ h
 exact lZ h
theorem OD {l r:List Tk} (h:SimR R l r):RSim R (win l) (win r):=by
 unfold win;simp only [h.sT];split
 ·rename_i t;exact .ok _ (h.of t)
 iterate 3
   split
   · rename_i t;exact (mI (h.of t)).bind fun _ _ _ h=>.ok _ h
 exact lZ h
theorem QK {l r:List Tk} (h:SimR R l r):RSim R (key l) (key r):=by
 refine (oV h).bind fun n l r h=>(mg (by decide) h).bind fun s l' r' h' => ?_;split
 ·exact .ok _ h'
 exact .no _ h.ha h'
theorem Qb {n:Nat} {l r:List Tk} (h:SimR R l r):opr n r=opr n l:=by
 unfold opr;rw [show (fun s=>isT s r)=fun s=>isT s l from funext fun s=>h.sT s]
theorem Tc:∀ (f:Nat) (i:Bool) (m:Md) {l r:List Tk},SimR R l r→RSim R (pz f i m l) (pz f i m r):=by
 intro f
 induction f with
 | zero=>intro i m l r _;exact .out
 | succ f ih =>
   intro i m l r h
   cases m with
   | ex =>
     simp only [pz,h.sT]
     split
     · rename_i t
       exact (ih _ _ (h.of t)).bind fun _ _ _ h=>(dL h).bind fun _ _ _ h=>(ih _ _ h).bind fun _ _ _ h=>(dL h).bind fun _ _ _ h=>(ih _ _ h).bind fun _ _ _ h=>.ok _ h
     · exact ih _ _ h
   | op least =>
     simp only [pz,h.sT]
     split
     · rename_i t
       exact (ih _ _ (h.of t.2)).bind fun _ _ _ h=>ih _ _ h
     · exact (ih _ _ h).bind fun _ _ _ h=>ih _ _ h
   | tl least n y =>
     simp only [pz,Qb h]
     split
     · exact .ok _ h
     · split
       · exact ih _ _ h
       · rename_i t
         exact (ih _ _ (h.of (Bn t))).bind fun _ _ _ h=>ih _ _ h
   | ng =>
     simp only [pz,h.sT]
     split
     · rename_i t
       exact (ih _ _ (h.of t)).bind fun _ _ _ h=>.ok _ h
     · exact ih _ _ h
   | pa =>
     simp only [pz]
     exact (dL h).bind fun _ _ _ h=>(ih _ _ h).bind fun _ _ _ h=>(dL h).bind fun _ _ _ h=>.ok _ h
   | rf =>
     simp only [pz]
     refine (kT h).bind fun n l r h=>?_
     rw [h.sT]
     split
     · rename_i t
       exact (ih _ _ (h.of t)).bind fun _ _ _ h=>.ok _ h
     · exact .ok _ h
   | ag =>
     simp only [pz]
     refine (mg (by decide) h).bind fun op _ _ h=>(dL h).bind fun _ _ _ h=>(kT h).bind fun t _ _ h=>(dL h).bind fun _ l r h=>RSim.bind (x:=if op=⟨#[99,111,117,110,116]⟩ then .ok (bX 1) l else _) (y:=if op=⟨#[99,111,117,110,116]⟩ then .ok (bX 1) r else _) ?_ fun x l r h=>RSim.bind (x:=if op=⟨#[113,117,97,110,116,105,108,101]⟩∨op=⟨#[100,101,99,97,121]⟩ then _ else .ok 0 l) (y:=if op=⟨#[113,117,97,110,116,105,108,101]⟩∨op=⟨#[100,101,99,97,121]⟩ then _ else .ok 0 r) ?_ fun p l r h=>(OD h).bind fun w l r h=>RSim.bind (x:=if isT ⟨#[119,104,101,114,101]⟩ l=true then _ else _) (y:=if isT ⟨#[119,104,101,114,101]⟩ r=true then _ else _) ?_ fun y l r h=>(dL h).bind fun _ _ _ h=>.ok _ h
     · split
       · exact .ok _ h
       · exact (ih _ _ h).bind fun _ _ _ h=>(dL h).bind fun _ _ _ h=>.ok _ h
     · split
       · exact (mI h).bind fun _ _ _ h=>(dL h).bind fun _ _ _ h=>.ok _ h
       · exact .ok _ h
     · rw [h.sT]
       split
       · rename_i t;exact ih _ _ (h.of t)
       · exact .ok _ h
   | pr =>
     simp only [pz,h.sT,h.hk,h.ht]
     split
     · exact (mI h).bind fun _ _ _ h=>(rY h).bind fun _ _ _ h=>.ok _ h
     split
     · exact (Nq h).bind fun _ _ _ h=>(rY h).bind fun _ _ _ h=>.ok _ h
     split
     · exact (mg (by decide) h).bind fun _ _ _ h=>.ok _ h
     split
     · rename_i t;exact .ok _ (h.of t)
     split
     · rename_i t;exact .ok _ (h.of t)
     split
     · exact QK h
     split
     · rename_i t;exact (ih _ _ (h.of t)).bind fun _ _ _ h=>.ok _ h
     split
     · exact ih _ _ h
     split
     · exact (kT h).bind fun _ _ _ h=>.ok _ h
     split
     · exact ih _ _ h
     · exact ih _ _ h
theorem Rb {l r:List Tk} (h:SimR R l r):RSim R (exR l) (exR r):=by
 unfold exR;rw [h.len];exact Tc _ _ _ h
theorem QW {l r:List Tk} (h:SimR R l r):RSim R (fie l) (fie r):=(kT h).bind fun _ _ _ h=>(dL h).bind fun _ _ _ h=>(Ea h).bind fun _ _ _ h=>.ok _ h
theorem Lv {l r:List Tk} (h:SimR R l r):RSim R (jP l) (jP r):=by
 unfold jP;rw [h.sT];split
 ·rename_i t;exact .ok _ (h.of t)
 exact (Fj QW h).bind fun _ _ _ h=>(dL h).bind fun _ _ _ h=>.ok _ h
theorem MI {l r:List Tk} (h:SimR R l r):RSim R (iK l) (iK r):=by
 unfold iK;rw [h.sT];split
 ·rename_i t;exact mI (h.of t)
 exact .ok _ h
theorem Lu {l r:List Tk} (h:SimR R l r):RSim R (mQ l) (mQ r):=(oV h).bind fun _ _ _ h=>(oV h).bind fun _ _ _ h=>(dL h).bind fun _ _ _ h=>(Lv h).bind fun _ _ _ h=>(MI h).bind fun _ _ _ h=>(dL h).bind fun _ _ _ h=>.ok _ h
theorem Nn {l r:List Tk} (h:SimR R l r):RSim R (nD l) (nD r):=(oV h).bind fun _ _ _ h=>(oV h).bind fun _ _ _ h=>(dL h).bind fun _ _ _ h=>(Ea h).bind fun _ _ _ h=>(dL h).bind fun _ _ _ h=>(Rb h).bind fun _ _ _ h=>(dL h).bind fun _ _ _ h=>.ok _ h
theorem MN {m:Mo} {l r:List Tk} (h:SimR R l r):RSim R (dD m l) (dD m r):=by
 unfold dD;rw [h.ht];split
 ·exact (Lu h).bind fun _ _ _ h=>.ok _ h
 split
 ·exact (Nn h).bind fun _ _ _ h=>.ok _ h
 exact lZ h
theorem Qu {l r:List Tk} (h:SimR R l r):SimR R (lvR l) (lvR r):=by
 induction h with
 | last hk hy ht ha =>
   unfold lvR
   rw [if_pos hk,if_pos (hy.trans hk)]
   exact .last hk hy ht ha
 | @cons x y l r hk ht ha h ih =>
   have h':SimR R (x :: l) (y :: r):=.cons hk ht ha h
   unfold lvR
   rw [hk,h'.sT]
   split
   · exact h'
   · split
     · exact h
     · exact ih
inductive PbR (R:Int→Int→Prop):List Pb→List Pb→Prop where
 | nil:PbR R [] []
 | cons {a b c:Int} {l r:List Pb} (ha:R a b) (h:PbR R l r):PbR R ((a,c) :: l) ((b,c) :: r)
theorem PbR.push {l r:List Pb} (h:PbR R l r) {a b:Int} (c:Int) (ha:R a b):PbR R (l++[(a,c)]) (r++[(b,c)]):=by
 induction h with
 | nil=>exact .cons ha .nil
 | cons ha' h ih=>exact .cons ha' ih
theorem uE:∀ (f:Nat) (m:Mo) {b b':List Pb} {l r:List Tk},SimR R l r→PbR R b b'→∀ m1 p1,fH f m b l=some (m1,p1)→∃ p2,fH f m b' r=some (m1,p2)∧PbR R p1 p2
 | 0,_,_,_,_,_,_,_,_,_,h=>by cases h
 | f+1,m,b,b',l,r,h,hb,m1,p1,hm=>by
  unfold fH at hm ⊢
  rw [h.hk]
  split at hm
  ·rename_i h6
   cases hm
   rw [if_pos h6]
   exact ⟨_,rfl,hb⟩
  ·rename_i h6
   rw [if_neg h6]
   have hi:=MN (m:=m) h
   generalize dD m l=x at hi hm
   generalize dD m r=y at hi
   cases hi with
   | out=>cases hm
   | ok v h' => exact uE f v h' hb m1 p1 hm
   | no c ha h' => exact uE f m (Qu h') (hb.push c ha) m1 p1 hm
end
end pa
end Go.Proofs.YtbahfelnbofjjaaGreatDoor
