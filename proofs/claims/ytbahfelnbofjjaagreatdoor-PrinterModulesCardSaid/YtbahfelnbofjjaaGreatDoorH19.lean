/- Lists of tokens in memory. -/
import Derived.Deep.WholeRow
import Derived.Test.YtbahfelnbofjjaaGreatDoorH16
set_option maxRecDepth 100000
set_option maxHeartbeats 16000000
namespace Go.Proofs.YtbahfelnbofjjaaGreatDoor
namespace tk
open Go.RowKit dec
structure Bw (w:World) (b:Nat) (x:Tk):Prop where
 c0:w.cell? ⟨b,0,none⟩=some (.int .i64 (x).k)
 c1:w.cell? ⟨b,1,none⟩=some (.string (x).t)
 c2:w.cell? ⟨b,2,none⟩=some (.int .i64 (x).a)
theorem Bw.lt {w:World} {b:Nat} {x:Tk} (h:Bw w b x):b<w.heap.size:=block_lt_of_cell h.c0
theorem Bw.new (w:World) (x:Tk) (T:TypeId):Bw (w.alloc (.cells #[.int .i64 (x).k,.string (x).t,.int .i64 (x).a] T)) w.heap.size x:=⟨by simp [go_sem],by simp [go_sem],by simp [go_sem]⟩
theorem Bw.rH {w w1:World} {B b:Nat} {x:Tk} (h:Bw w b x) (hb:Below B w w1) (hl:b<B):Bw w1 b x :=
 ⟨(hb.cell hl).trans h.c0,(hb.cell hl).trans h.c1,(hb.cell hl).trans h.c2⟩
theorem Bw.keeps {w w1:World} {b:Nat} {x:Tk} (h:Bw w b x) (hb:Below w.heap.size w w1):Bw w1 b x:=h.rH hb h.lt
theorem Bw.past {w:World} {b:Nat} {x:Tk} (h:Bw w b x) (o:Obj):Bw (w.alloc o) b x:=h.keeps (aj (b0 w) o)
def cs:List Tk→List Value
 | []=>[]
 | x :: l=>.int .i64 (x).k :: .string (x).t :: .int .i64 (x).a :: cs l
theorem iC:∀ l r:List Tk,cs (l++r)=cs l++cs r
 | [],_=>rfl
 | x :: l,r=>by simp only [cs,L_g,iC l r]
theorem lM:∀ l:List Tk,∀ u ∈ cs l,u.oneCell'=true
 | [],u,h=>by simp [cs] at h
 | x :: l,u,h=>by
  simp only [cs,List.mem_cons] at h
  rcases h with rfl | rfl | rfl | h
  ·rfl
  ·rfl
  ·rfl
  ·exact lM l u h
def gt (l:List Tk) (j:Nat):Tk:=l.getD j ⟨0,.empty,0⟩
theorem jH {l:List Tk} {j:Nat} (h:j<l.length):gt l j ∈ l:=by
 unfold gt;rw [List.getD_eq_getElem?_getD,List.getElem?_eq_getElem h];exact List.getElem_mem h
theorem fJ {l:List Tk} {j:Nat} (h:j<l.length):gt l j=l[j]:=by
 unfold gt;rw [List.getD_eq_getElem?_getD,List.getElem?_eq_getElem h];rfl
theorem lW:∀ (l:List Tk) (j:Nat),j<l.length→(cs l)[j * 3]? = some (.int .i64 (gt l j).k)∧(cs l)[j * 3+1]? = some (.string (gt l j).t)∧(cs l)[j * 3+2]? = some (.int .i64 (gt l j).a)
 | [],j,h=>by simp at h
 | x :: l,0,_=>⟨rfl,rfl,rfl⟩
 | x :: l,j+1,h=>by
  have:=lW l j (by simpa using h)
  rw [show (j+1) * 3=j * 3+1+1+1 by omega]
  simp only [cs,sz4]
  exact this
theorem sQ {l:List Tk} {j:Nat} (h:j<l.length):l.drop j=gt l j :: l.drop (j+1):=by
 rw [fJ h];exact List.drop_eq_getElem_cons h
theorem gY {l:List Tk} {j:Nat} (h:j<l.length):l.take (j+1)=l.take j++[gt l j]:=by
 rw [fJ h,List.take_add_one,List.getElem?_eq_getElem h];rfl
def Cl (w:World) (b off:Nat) (l:List Tk):Prop:=∀ j,j<l.length→w.cell? ⟨b,off+j * 3,none⟩=some (.int .i64 (gt l j).k)∧w.cell? ⟨b,off+j * 3+1,none⟩=some (.string (gt l j).t)∧w.cell? ⟨b,off+j * 3+2,none⟩=some (.int .i64 (gt l j).a)
theorem Cl.keeps {w w1:World} {b off:Nat} {l:List Tk} (h:Cl w b off l) (hb:Below w.heap.size w w1):Cl w1 b off l:=fun j hj=>⟨dec.keeps hb (h j hj).1,dec.keeps hb (h j hj).2.1,dec.keeps hb (h j hj).2.2⟩
def At (w:World) (a:Option Addr) (l:List Tk):Prop:=l.length=0∨∃ b off,a=some ⟨b,off,none⟩∧Cl w b off l
theorem At.keeps {w w1:World} {a:Option Addr} {l:List Tk} (h:At w a l) (hb:Below w.heap.size w w1):At w1 a l:=h.imp id fun ⟨b,off,e,hB⟩=>⟨b,off,e,hB.keeps hb⟩
structure Sl (w:World) (a:Option Addr) (n cap:Nat) (l:List Tk):Prop where
 hat:At w a l
 hn:l.length=n
 hcap:n≤cap
 hmax:cap≤9223372036854775807
 hno:a=none→cap=0
theorem Sl.keeps {w w1:World} {a:Option Addr} {n cap:Nat} {l:List Tk} (h:Sl w a n cap l) (hb:Below w.heap.size w w1):Sl w1 a n cap l:={ h with hat:=h.hat.keeps hb }
theorem Sl.nil (w:World):Sl w none 0 0 []:=⟨.inl rfl,rfl,by omega,by omega,fun _=>rfl⟩
theorem Cl.cut {w:World} {b off:Nat} {l:List Tk} (h:Cl w b off l) (k m:Nat):Cl w b (off+k * 3) ((l.drop k).take m):=by
 intro j hj;have hlen:((l.drop k).take m).length=min m (l.length - k):=by simp
 have:=h (k+j) (by omega);have e:gt ((l.drop k).take m) j=gt l (k+j):=by
  rw [fJ hj,fJ (by omega)];simp
 rw [e,show off+k * 3+j * 3=off+(k+j) * 3 by omega];exact this
theorem Cl.take {w:World} {b off:Nat} {l:List Tk} (h:Cl w b off l) (m:Nat):Cl w b off (l.take m):=by
 have:=h.cut 0 m;simpa using this
theorem wN:(Tryz.prog.info? 119).map (fun i=>(i.zero,i.size,i.bytes))=some (some (.agg #[.int .i64 0,.string .empty,.int .i64 0]),3,32):=by kernel_rfl
def Own (w:World) (base:Nat) (v:Value) (l:List Tk):Prop:=w.ownsRow base 119 3 v l.length (cs l)
theorem Own.nil (w:World) (base:Nat):Own w base (.slice none 0 0) []:=World.ownsRow_nil _ _ _ _
theorem Own.o {w:World} {base:Nat} {v:Value} {l:List Tk} (h:Own w base v l):(v=.slice none 0 0∧l=[])∨∃ g cap,v=.slice (some ⟨g,0,none⟩) l.length cap∧base≤g∧g<w.heap.size∧l.length≤cap∧cap≤9223372036854775807∧Cl w g 0 l:=by
 rcases h.2 with ⟨h0,h1⟩ | ⟨g,cap,cur,rfl,hb,hg,hc,hm,hs,ht⟩
 ·exact .inl ⟨h0,List.eq_nil_of_length_eq_zero h1⟩
 refine .inr ⟨g,cap,rfl,hb,(h.lt g rfl).2,hc,by unfold maxLen at hm;omega,fun j hj=>?_⟩;rw [Nat.zero_add,h.cellAt (j * 3) (by omega),h.cellAt (j * 3+1) (by omega),h.cellAt (j * 3+2) (by omega)];exact lW l j hj
theorem Own.sl {w:World} {base:Nat} {v:Value} {l:List Tk} (h:Own w base v l):∃ a cap,v=.slice a l.length cap∧Sl w a l.length cap l:=by
 rcases h.o with ⟨rfl,rfl⟩ | ⟨g,cap,rfl,_,_,hc,hm,hW⟩
 ·exact ⟨none,0,rfl,.nil _⟩
 exact ⟨_,cap,rfl,.inr ⟨g,0,rfl,hW⟩,rfl,hc,hm,fun h=>by cases h⟩
theorem Own.keeps {w w1:World} {base:Nat} {v:Value} {l:List Tk} (h:Own w base v l) (hb:Below w.heap.size w w1):Own w1 base v l:=by
 obtain ⟨h1,h2⟩:=h;refine ⟨h1,?_⟩;rcases h2 with h0 | ⟨g,cap,cur,e,hbg,hh,r⟩
 ·exact .inl h0
 refine .inr ⟨g,cap,cur,e,hbg,?_,r⟩;have:g<w.heap.size:=by
  rcases Nat.lt_or_ge g w.heap.size with h' | h'
  ·exact h'
  rw [Array.getElem?_eq_none h'] at hh;cases hh
 rw [hb.block _ this];exact hh
theorem own_below {w w':World} {base:Nat} {v:Value} {l:List Tk} (h:Own w base v l) (hg:w.grownBy w' v.ownBlock) (hb:base≤w.heap.size):Below base w w' :=
 (Below.refl base w).grown hg hb fun k hk=>(h.lt k hk).1
theorem ou (w:World) {o:Oper} {a:Act} {K:Act→World→Prop} {Q:Exit→Act→World→Prop} (s x:Operand)
    (ho:o.op=.call { callee:=.builtin .append,args:=#[s,x],argTypes:=#[65,65] })
    (base:Nat) (v:Value) (l:List Tk) (hs:a.eval s=v) (hown:Own w base v l) (b:Nat) (y:Tk) (hx:a.eval x=.slice (some ⟨b,0,none⟩) 1 1) (hB:Bw w b y)
    (hn:l.length<4398046511104) (hbase:base≤w.heap.size)
    (h:∀ v' w',Own w' base v' (l++[y])→Below base w w'→w.grownBy w' v.ownBlock→K (a.put o.dst v') w'):o.wp Tryz.prog a w K Q:=by
 obtain ⟨i,hi,hz0,hz1,hz2⟩:=info_parts wN
 refine wp_append_own w s x 65 ho base 119 i (.agg #[.int .i64 0,.string .empty,.int .i64 0]) 3 32 Tryz.underlying65 hi hz0 hz1 hz2 rfl (by decide) v l.length (cs l) hs hown ⟨b,0,none⟩ 1 1 (cs [y]) hx rfl ?_ (lM _)
   (by unfold maxLen;omega) (by omega) hbase fun v' w' h1 h2 _=>h v' w' (by unfold Own;rw [iC,L_a];exact h1) (own_below hown h2 hbase) h2
 intro j u hu;unfold Addr.add
 match j,hu with
 | 0,hu=>simp [cs] at hu;subst hu;exact hB.c0
 | 1,hu=>simp [cs] at hu;subst hu;exact hB.c1
 | 2,hu=>simp [cs] at hu;subst hu;exact hB.c2
 | j+3,hu=>simp [cs] at hu
theorem eP (w:World) {ops:Array Oper} {rest:List Oper} {o:Oper} {a:Act} {Q:Exit→Act→World→Prop} (hgd:o.guard=none) (s x:Operand)
  (ho:o.op=.call { callee:=.builtin .append,args:=#[s,x],argTypes:=#[65,65] })
  (base:Nat) (v:Value) (l:List Tk) (hs:a.eval s=v) (hown:Own w base v l) (b:Nat) (y:Tk) (hx:a.eval x=.slice (some ⟨b,0,none⟩) 1 1) (hB:Bw w b y)
  (hn:l.length<4398046511104) (hbase:base≤w.heap.size)
  (h:∀ v' w',Own w' base v' (l++[y])→Below base w w'→w.grownBy w' v.ownBlock→wpList Tryz.prog ops Q rest (a.put o.dst v') w'):wpList Tryz.prog ops Q (o :: rest) a w :=
 wpList_plain hgd fun _ hK=>ou w s x ho base v l hs hown b y hx hB hn hbase fun v' w' h1 h2 h3=>hK _ _ (h v' w' h1 h2 h3)
theorem jF {w:World} {ops:Array Oper} {rest:List Oper} {o:Oper} {a:Act} {Q:Exit→Act→World→Prop} (s x:Operand) (_:o.op=.call { callee:=.builtin .append,args:=#[s,x],argTypes:=#[65,65] })
  (k:wpList Tryz.prog ops Q (o :: rest) a w):wpList Tryz.prog ops Q (o :: rest) a w:=k
end tk
section
open Go.RowKit dec
structure Mv (S B:Nat) (w w':World):Prop where
 os:w'.os=w.os
 tape:w'.tape=w.tape
 output:w'.output=w.output
 size:w.heap.size≤w'.heap.size
 block:∀ k,k<S→k≠B→w'.heap[k]? = w.heap[k]?
 c0:B<S→w'.cell? ⟨B,0,none⟩=w.cell? ⟨B,0,none⟩
theorem Mv.of {S B:Nat} {w w':World} (h:Below S w w'):Mv S B w w':=⟨h.os,h.tape,h.output,h.size,fun k hk _=>h.block k hk,fun hB=>h.cell (p:=⟨B,0,none⟩) hB⟩
theorem Mv.refl (S B:Nat) (w:World):Mv S B w w:=.of (Below.refl _ _)
theorem Mv.trans {S B:Nat} {a b c:World} (h:Mv S B a b) (k:Mv S B b c):Mv S B a c :=
 ⟨k.os.trans h.os,k.tape.trans h.tape,k.output.trans h.output,L_f h.size k.size,fun i hi hn=>(k.block i hi hn).trans (h.block i hi hn),fun hB=>(k.c0 hB).trans (h.c0 hB)⟩
theorem Mv.mono {S S' B:Nat} {w w':World} (h:Mv S B w w') (hS:S'≤S):Mv S' B w w':=⟨h.os,h.tape,h.output,h.size,fun k hk hn=>h.block k (Nat.lt_of_lt_of_le hk hS) hn,fun hB=>h.c0 (Nat.lt_of_lt_of_le hB hS)⟩
theorem Mv.below {S S' B:Nat} {w w':World} (h:Mv S B w w') (hB:S'≤B) (hS:S'≤S):Below S' w w':=⟨h.os,h.tape,h.output,h.size,fun k hk=>h.block k (by omega) (by omega)⟩
theorem Mv.next {B:Nat} {w a b:World} (h:Mv w.heap.size B w a) (k:Mv a.heap.size B a b):Mv w.heap.size B w b:=h.trans (k.mono h.size)
theorem Mv.bG {B:Nat} {w a b:World} (h:Mv w.heap.size B w a) (k:Below a.heap.size a b):Mv w.heap.size B w b:=h.next (.of k)
theorem Mv.up {S B:Nat} {w a b:World} (h:Mv S B w a) (k:Mv a.heap.size B a b) (hS:S≤w.heap.size):Mv S B w b:=h.trans (k.mono (L_f hS h.size))
theorem Mv.alloc {S B:Nat} {w a:World} (h:Mv S B w a) (hS:S≤w.heap.size) (o:Obj):Mv S B w (a.alloc o):=h.trans (.of ((Below.refl _ _).alloc (L_f hS h.size) o))
theorem Mv.put {S B:Nat} {w a:World} (h:Mv S B w a) (o:Nat) (v:Value) (ho:o≠0:=by decide):Mv S B w (a.setCell ⟨B,o,none⟩ v) :=
 h.trans ⟨rfl,rfl,rfl,by simp [World.setCell],fun k _ hn=>Below.heap_setCell _ _ _ _ hn,fun _=>World.cell?_setCell_other _ _ _ _ (fun h=>by have:=congrArg Addr.off h;simp only at this;omega)⟩
def KpT (ok:TypeId→Prop) (C:Nat) (w w':World):Prop:=∀ b T cs fr,C≤b→ok T→w.heap[b]? = some (.cells cs T fr)→w'.heap[b]? = w.heap[b]?
def Kp (C:Nat) (w w':World):Prop:=KpT (fun _=>True) C w w'
def Tg (w:World) (b:Nat) (T:TypeId):Prop:=∃ cs fr,w.heap[b]? = some (.cells cs T fr)
theorem fI {w:World} {b:Nat} {o:Obj} (h:w.heap[b]? = some o):b<w.heap.size:=by
 rcases Nat.lt_or_ge b w.heap.size with h' | h'
 ·exact h'
 rw [Array.getElem?_eq_none h'] at h;cases h
theorem KpT.tg {ok:TypeId→Prop} {C b:Nat} {w w':World} {T:TypeId} (k:KpT ok C w w') (hC:C≤b) (hok:ok T) (h:Tg w b T):Tg w' b T:=by
 obtain ⟨cs,fr,h⟩:=h;exact ⟨cs,fr,(k b T cs fr hC hok h).trans h⟩
theorem KpT.cell {ok:TypeId→Prop} {C b o:Nat} {w w':World} {T:TypeId} {v:Value} (k:KpT ok C w w') (hC:C≤b) (hok:ok T) (h:Tg w b T) (hc:w.cell? ⟨b,o,none⟩=some v):w'.cell? ⟨b,o,none⟩=some v:=by
 obtain ⟨cs,fr,h⟩:=h;exact (World.cell?_of_block (w:=w) (k b T cs fr hC hok h)).trans hc
theorem Mv.kp {B C:Nat} {w w':World} (h:Mv w.heap.size B w w') (hC:B<C):Kp C w w':=fun b _ _ _ hn _ hc=>h.block b (fI hc) (by omega)
theorem dO {C:Nat} {w w':World} (h:Below w.heap.size w w'):Kp C w w':=fun b _ _ _ _ _ hc=>h.block b (fI hc)
structure St (g:Nat) (w w':World):Prop where
 os:w'.os=w.os
 tape:w'.tape=w.tape
 output:w'.output=w.output
 size:w'.heap.size=w.heap.size
 block:∀ k,k≠g→w'.heap[k]? = w.heap[k]?
theorem St.mv {g S B:Nat} {w w':World} (h:St g w w') (hS:S≤g):Mv S B w w':=⟨h.os,h.tape,h.output,Nat.le_of_eq h.size.symm,fun k hk _=>h.block k (by omega),fun hB=>World.cell?_of_block (w:=w) (h.block B (by omega))⟩
theorem St.below {g S:Nat} {w w':World} (h:St g w w') (hS:S≤g):Below S w w':=⟨h.os,h.tape,h.output,Nat.le_of_eq h.size.symm,fun k hk=>h.block k (by omega)⟩
theorem St.kp {g C:Nat} {w w':World} (h:St g w w') (hC:g<C):Kp C w w':=fun b _ _ _ hn _ _=>h.block b (by omega)
def Blk (w:World) (g:Nat) (T:TypeId) (cs:Array Value):Prop:=w.heap[g]? = some (.cells cs T (0,0))
theorem Blk.lt {w:World} {g:Nat} {T:TypeId} {cs:Array Value} (h:Blk w g T cs):g<w.heap.size:=by
 rcases Nat.lt_or_ge g w.heap.size with h' | h'
 ·exact h'
 unfold Blk at h;rw [Array.getElem?_eq_none h'] at h;cases h
theorem Blk.new (w:World) (T:TypeId) (cs:Array Value):Blk (w.alloc (.cells cs T)) w.heap.size T cs:=Go.heap_alloc_new w _
theorem Blk.past {w:World} {g:Nat} {T:TypeId} {cs:Array Value} (h:Blk w g T cs) (o:Obj):Blk (w.alloc o) g T cs:=(Go.heap_alloc_old w o h.lt).trans h
theorem Blk.mv {S B:Nat} {w w':World} {g:Nat} {T:TypeId} {cs:Array Value} (h:Blk w g T cs) (M:Mv S B w w') (hn:g≠B) (hS:g<S):Blk w' g T cs:=(M.block g hS hn).trans h
theorem bv1 {w w':World} {B g:Nat} {T:TypeId} {cs:Array Value} (h:Go.RowKit.Hid (Blk w g T cs)) (M:Mv w.heap.size B w w') (b:Go.RowKit.Hid (B<g)):Go.RowKit.Hid (Blk w' g T cs):=h.o.mv M (Nat.ne_of_gt b.o) h.o.lt
theorem bv2 {w w':World} {B g X:Nat} {T:TypeId} {cs:Array Value} (h:Go.RowKit.Hid (Blk w g T cs)) (M:Mv w.heap.size B w w') (b:Go.RowKit.Hid (X+2≤g)) (F:B<X):Go.RowKit.Hid (Blk w' g T cs):=bv1 h M (by have:=b.o;unfold Go.RowKit.Hid;omega)
theorem Blk.below {S:Nat} {w w':World} {g:Nat} {T:TypeId} {cs:Array Value} (h:Blk w g T cs) (M:Below S w w') (hS:g<S):Blk w' g T cs:=(M.block g hS).trans h
theorem Blk.st {k g:Nat} {w w':World} {T:TypeId} {cs:Array Value} (h:Blk w g T cs) (M:St k w w') (hn:g≠k):Blk w' g T cs:=(M.block g hn).trans h
theorem Blk.cell {w:World} {g:Nat} {T:TypeId} {cs:Array Value} (h:Blk w g T cs) (j:Nat):w.cell? ⟨g,j,none⟩=cs[j]?:=cell_of_row w g j cs T (0,0) h
theorem Blk.free {w:World} {g:Nat} {T:TypeId} {cs:Array Value} (h:Blk w g T cs) (j:Nat):w.frozen? ⟨g,j,none⟩=false:=by
 unfold Blk at h;simp [World.frozen?,h]
theorem Blk.setCell {w:World} {g:Nat} {T:TypeId} {cs:Array Value} (h:Blk w g T cs) (j:Nat) (v:Value):Blk (w.setCell ⟨g,j,none⟩ v) g T (cs.setIfInBounds j v)∧St g w (w.setCell ⟨g,j,none⟩ v):=by
 refine ⟨?_,rfl,rfl,rfl,by simp [World.setCell],fun k hk=>Below.heap_setCell w ⟨g,j,none⟩ v k hk⟩;unfold Blk at *;simp [World.setCell,Array.getElem?_modify,h]
theorem jg (w:World) (g:Nat) (cs:Array Value):St g w (w.setRow g cs):=by
 refine ⟨rfl,rfl,rfl,by simp [World.setRow],fun k hk=>?_⟩;simp only [World.setRow,Array.getElem?_modify];rw [if_neg (fun e=>hk e.symm)]
theorem iE {w:World} {g:Nat} {T:TypeId} {old:Array Value} (h:Blk w g T old) (cs:Array Value):Blk (w.setRow g cs) g T cs:=by
 unfold Blk at *;simp [World.setRow,Array.getElem?_modify,h]
theorem Blk.tg {w:World} {g:Nat} {T:TypeId} {cs:Array Value} (h:Blk w g T cs):Tg w g T:=⟨cs,_,h⟩
def Us (C:Nat) (w:World) (a:Option Addr) (l:List un.Fa):Prop:=l.length=0∨∃ b off,a=some ⟨b,off,none⟩∧C≤b∧un.Cl w b off l∧Tg w b 82
theorem Us.kpT {ok:TypeId→Prop} {C:Nat} {w w':World} {a:Option Addr} {l:List un.Fa} (h:Us C w a l) (hok:ok 82) (k:KpT ok C w w'):Us C w' a l :=
 h.imp id fun ⟨b,off,e,hn,hC,ht⟩=>⟨b,off,e,hn,fun j hj=>⟨k.cell hn hok ht (hC j hj).1,k.cell hn hok ht (hC j hj).2⟩,k.tg hn hok ht⟩
theorem Us.kp {C:Nat} {w w':World} {a:Option Addr} {l:List un.Fa} (h:Us C w a l) (k:Kp C w w'):Us C w' a l:=h.kpT trivial k
theorem Us.less {C C':Nat} {w:World} {a:Option Addr} {l:List un.Fa} (h:Us C w a l) (hC:C'≤C):Us C' w a l:=h.imp id fun ⟨b,off,e,hn,hC⟩=>⟨b,off,e,by omega,hC⟩
theorem Us.nil (C:Nat) (w:World) (a:Option Addr):Us C w a []:=.inl rfl
structure Nd (w:World) (b off:Nat) (h:Hd) (ua:Option Addr) (uc:Nat) (aa:Option Addr) (an ac:Nat):Prop where
 c0:w.cell? ⟨b,off,none⟩=some (.int .i64 h.k)
 c1:w.cell? ⟨b,off+1,none⟩=some (.string h.op)
 c2:w.cell? ⟨b,off+2,none⟩=some (.string h.nm)
 c3:w.cell? ⟨b,off+3,none⟩=some (.string h.tb)
 c4:w.cell? ⟨b,off+4,none⟩=some (.int .i64 h.vk)
 c5:w.cell? ⟨b,off+5,none⟩=some (.int .i64 h.vn)
 c6:w.cell? ⟨b,off+6,none⟩=some (.string h.vs)
 c7:w.cell? ⟨b,off+7,none⟩=some (.slice ua h.un.length uc)
 c8:w.cell? ⟨b,off+8,none⟩=some (.int .i64 h.pa)
 c9:w.cell? ⟨b,off+9,none⟩=some (.int .i64 h.wk)
 c10:w.cell? ⟨b,off+10,none⟩=some (.int .i64 h.ws)
 c11:w.cell? ⟨b,off+11,none⟩=some (.slice aa an ac)
theorem Nd.kpT {ok:TypeId→Prop} {C:Nat} {w w':World} {b off:Nat} {h:Hd} {ua:Option Addr} {uc:Nat} {aa:Option Addr} {an ac:Nat} {T:TypeId} (N:Nd w b off h ua uc aa an ac) (hn:C≤b) (hok:ok T) (ht:Tg w b T) (k:KpT ok C w w'):Nd w' b off h ua uc aa an ac :=
 ⟨k.cell hn hok ht N.c0,k.cell hn hok ht N.c1,k.cell hn hok ht N.c2,k.cell hn hok ht N.c3,k.cell hn hok ht N.c4,k.cell hn hok ht N.c5,k.cell hn hok ht N.c6,k.cell hn hok ht N.c7,k.cell hn hok ht N.c8,k.cell hn hok ht N.c9,k.cell hn hok ht N.c10,k.cell hn hok ht N.c11⟩
def Fm (C:Nat) (w:World):Fo→Nat→Nat→Prop
 | .nil,_,_=>True
 | .cons h ar r,b,off=>(∃ ua uc aa ac,Nd w b off h ua uc aa ar.len ac∧Us C w ua h.un∧(ar.len=0∨∃ b' off',aa=some ⟨b',off',none⟩∧C≤b'∧Tg w b' 29∧Fm C w ar b' off'))∧Fm C w r b (off+12)
theorem Fm.kpT {ok:TypeId→Prop} {C:Nat} {w w':World} (h1:ok 82) (h2:ok 29) (k:KpT ok C w w'):∀ (F:Fo) (b off:Nat),C≤b→Tg w b 29→Fm C w F b off→Fm C w' F b off
 | .nil,_,_,_,_,_=>trivial
 | .cons h ar r,b,off,hn,ht,hF=>by
  obtain ⟨⟨ua,uc,aa,ac,N,U,A⟩,R⟩:=hF
  exact ⟨⟨ua,uc,aa,ac,N.kpT hn h2 ht k,U.kpT h1 k,A.imp id fun ⟨b',off',e,hn',ht',hF'⟩=>⟨b',off',e,hn',k.tg hn' h2 ht',Fm.kpT h1 h2 k ar b' off' hn' ht' hF'⟩⟩,Fm.kpT h1 h2 k r b (off+12) hn ht R⟩
theorem Fm.less {C C':Nat} {w:World} (hC:C'≤C):∀ (F:Fo) (b off:Nat),Fm C w F b off→Fm C' w F b off
 | .nil,_,_,_=>trivial
 | .cons h ar r,b,off,hF=>by
  obtain ⟨⟨ua,uc,aa,ac,N,U,A⟩,R⟩:=hF
  exact ⟨⟨ua,uc,aa,ac,N,U.less hC,A.imp id fun ⟨b',off',e,hn',ht',hF'⟩=>⟨b',off',e,by omega,ht',Fm.less hC ar b' off' hF'⟩⟩,Fm.less hC r b (off+12) R⟩
def As (C:Nat) (w:World) (a:Option Addr) (F:Fo):Prop:=F.len=0∨∃ b off,a=some ⟨b,off,none⟩∧C≤b∧Tg w b 29∧Fm C w F b off
theorem As.kpT {ok:TypeId→Prop} {C:Nat} {w w':World} {a:Option Addr} {F:Fo} (h1:ok 82) (h2:ok 29) (h:As C w a F) (k:KpT ok C w w'):As C w' a F :=
 h.imp id fun ⟨b,off,e,hn,ht,hF⟩=>⟨b,off,e,hn,k.tg hn h2 ht,Fm.kpT h1 h2 k F b off hn ht hF⟩
theorem As.kp {C:Nat} {w w':World} {a:Option Addr} {F:Fo} (h:As C w a F) (k:Kp C w w'):As C w' a F:=As.kpT trivial trivial h k
theorem As.less {C C':Nat} {w:World} {a:Option Addr} {F:Fo} (h:As C w a F) (hC:C'≤C):As C' w a F :=
 h.imp id fun ⟨b,off,e,hn,ht,hF⟩=>⟨b,off,e,by omega,ht,Fm.less hC F b off hF⟩
def exC (x:Ex) (ua:Option Addr) (uc:Nat) (aa:Option Addr) (ac:Nat):Array Value :=
 #[.int .i64 x.h.k,.string x.h.op,.string x.h.nm,.string x.h.tb,.int .i64 x.h.vk,.int .i64 x.h.vn,.string x.h.vs,.slice ua x.h.un.length uc,.int .i64 x.h.pa,.int .i64 x.h.wk,.int .i64 x.h.ws,.slice aa x.ar.len ac]
structure Ec (C:Nat) (w:World) (x:Ex) (ua:Option Addr) (aa:Option Addr):Prop where
 us:Us C w ua x.h.un
 ar:As C w aa x.ar
theorem Ec.kp {C:Nat} {w w':World} {x:Ex} {ua aa:Option Addr} (h:Ec C w x ua aa) (k:Kp C w w'):Ec C w' x ua aa:=⟨h.us.kp k,h.ar.kp k⟩
theorem Ec.kpT {ok:TypeId→Prop} {C:Nat} {w w':World} {x:Ex} {ua aa:Option Addr} (h1:ok 82) (h2:ok 29) (h:Ec C w x ua aa) (k:KpT ok C w w'):Ec C w' x ua aa:=⟨h.us.kpT h1 k,As.kpT h1 h2 h.ar k⟩
theorem Ec.less {C C':Nat} {w:World} {x:Ex} {ua aa:Option Addr} (h:Ec C w x ua aa) (hC:C'≤C):Ec C' w x ua aa:=⟨h.us.less hC,h.ar.less hC⟩
def Ev (C:Nat) (w:World) (v:Value) (x:Ex):Prop:=∃ ua uc aa ac,v=.agg (exC x ua uc aa ac)∧Ec C w x ua aa
def Tv (C:Nat) (w:World) (v:Value) (t:Ty):Prop:=∃ ua uc,v=.agg #[.int .i64 t.k,.slice ua t.un.length uc,.string t.of]∧Us C w ua t.un
def Uv (C:Nat) (w:World) (v:Value) (l:List un.Fa):Prop:=∃ ua uc,v=.slice ua l.length uc∧Us C w ua l
def Sv (_:Nat) (_:World) (v:Value) (s:ByteArray):Prop:=v=.string s
def Iv (_:Nat) (_:World) (v:Value) (n:Int):Prop:=v=.int .i64 n
def Nv (_:Nat) (_:World) (v:Value) (_:Unit):Prop:=v=.tuple #[]
def Wv (_:Nat) (_:World) (v:Value) (p:Int × Int):Prop:=v=.agg #[.int .i64 p.1,.int .i64 p.2]
def Fv (_:Nat) (_:World) (v:Value) (p:un.Fa):Prop:=v=.agg #[.string p.1,.int .i64 p.2]
def Dv (C:Nat) (w:World) (v:Value) (f:Fi):Prop:=∃ ua uc,v=.agg #[.string f.nm,.int .i64 f.ty.k,.slice ua f.ty.un.length uc,.string f.ty.of]∧Us C w ua f.ty.un
structure Tl (l:List Tk):Prop where
 sz:∀ x ∈ l,x.t.size≤1048576
 en:∃ r e,l=r++[e]∧e.k=6
 ln:l.length≤1048576
theorem Tl.ne {l:List Tk} (h:Tl l):l≠[]:=by
 obtain ⟨r,e,rfl,_⟩:=h.en;simp
theorem Tl.hd {l:List Tk} (h:Tl l):(hd l).t.size≤1048576:=by
 have:=h.ne
 cases l with
 | nil=>exact absurd rfl this
 | cons x r=>exact h.sz x (L_e ..)
theorem Tl.tail {l:List Tk} (h:Tl l) (hk:(Go.Proofs.YtbahfelnbofjjaaGreatDoor.hd l).k≠6):Tl l.tail:=by
 obtain ⟨r,e,rfl,he⟩:=h.en
 cases r with
 | nil=>exact absurd he hk
 | cons x r=>exact ⟨fun y hy=>h.sz y (L_h _ hy),⟨r,e,rfl,he⟩,by have:=h.ln;simp at this ⊢;omega⟩
theorem Ka {s:ByteArray} {l:List Tk} (h:isT s l=true):(hd l).k≠6:=by
 unfold isT at h;simp only [L_d,Bool.or_eq_true,L_c] at h;omega
theorem Tl.of {s:ByteArray} {l:List Tk} (h:Tl l) (hs:isT s l=true):Tl l.tail:=h.tail (Ka hs)
theorem Tg.setCell {w:World} {b:Nat} {T:TypeId} (h:Tg w b T) (a:Addr) (v:Value):Tg (w.setCell a v) b T:=by
 obtain ⟨cs,fr,h⟩:=h;unfold Tg World.setCell;simp only [Array.getElem?_modify,h];split
 ·exact ⟨_,_,rfl⟩
 exact ⟨_,_,rfl⟩
structure Ps (w:World) (B:Nat) (l:List Tk):Prop where
 mem:∃ (a:Option Addr) (n cap:Nat) (L:List Tk) (q:Nat),w.cell? ⟨B,0,none⟩=some (.slice a n cap)∧w.cell? ⟨B,1,none⟩=some (.int .i64 (q:Nat))∧w.frozen? ⟨B,1,none⟩=false∧tk.Sl w a n cap L∧(∀ b off,a=some ⟨b,off,none⟩→b<B)∧l=L.drop q
 tl:Tl l
 tb:∃ w0,Tabo w0∧Below w0.heap.size w0 w∧w0.heap.size≤B
 tag:Tg w B 117
theorem Ps.lt {w:World} {B:Nat} {l:List Tk} (h:Ps w B l):B<w.heap.size:=by
 obtain ⟨a,n,cap,L,q,c0,_⟩:=h.mem;exact block_lt_of_cell c0
theorem Ps.tabs {w:World} {B:Nat} {l:List Tk} (h:Ps w B l):Tabs w:=by
 obtain ⟨w0,T,hb,_⟩:=h.tb;exact (T.stays hb).t
theorem Cx {B:Nat} {w w':World} {b off:Nat} {l:List Tk} (h:tk.Cl w b off l) (hb:Below B w w') (hn:b<B):tk.Cl w' b off l:=fun j hj=>⟨(hb.cell hn).trans (h j hj).1,(hb.cell hn).trans (h j hj).2.1,(hb.cell hn).trans (h j hj).2.2⟩
theorem Ps.keep {w w1:World} {B:Nat} {l:List Tk} (h:Ps w B l) (hb:Below (B+1) w w1):Ps w1 B l:=by
 obtain ⟨a,n,cap,L,q,c0,c1,z,S,hn,e⟩:=h.mem;obtain ⟨w0,T,h0,hB⟩:=h.tb;exact ⟨⟨a,n,cap,L,q,(hb.cell (p:=⟨B,0,none⟩) ls).trans c0,(hb.cell (p:=⟨B,1,none⟩) ls).trans c1,by rw [hb.frozen (p:=⟨B,1,none⟩) ls];exact z,{ S with hat:=S.hat.imp id fun ⟨b,off,ea,hC⟩=>⟨b,off,ea,Cx hC hb (L_o (hn b off ea))⟩ },hn,e⟩,h.tl,⟨w0,T,h0.trans (hb.mono (by omega)),hB⟩,by
   obtain ⟨cs,fr,ht⟩:=h.tag
   exact ⟨cs,fr,(hb.block B ls).trans ht⟩⟩
theorem Ps.keeps {w w1:World} {B:Nat} {l:List Tk} (h:Ps w B l) (hb:Below w.heap.size w w1):Ps w1 B l:=h.keep (hb.mono h.lt)
theorem Ps.st {w w1:World} {B g:Nat} {l:List Tk} (h:Ps w B l) (hs:St g w w1) (hg:B<g):Ps w1 B l:=h.keep (hs.below hg)
theorem Ps.go {w:World} {B:Nat} {l:List Tk} (h:Ps w B l) (ht:Tl l.tail):∃ q:Nat,w.cell? ⟨B,1,none⟩=some (.int .i64 (q:Nat))∧w.frozen? ⟨B,1,none⟩=false∧q<9223372036854775807∧Ps (w.setCell ⟨B,1,none⟩ (.int .i64 ((q:Int)+1))) B l.tail:=by
 have hcast:∀ q:Nat,((q:Int)+1)=((q+1:Nat):Int):=fun _=>rfl;simp only [hcast];obtain ⟨a,n,cap,L,q,c0,c1,z,S,hn,e⟩:=h.mem;obtain ⟨w0,T,h0,hB⟩:=h.tb;have hk:Below B w (w.setCell ⟨B,1,none⟩ (.int .i64 ((q+1:Nat):Int))):=(Below.refl B w).setCell (p:=⟨B,1,none⟩) lr _;have hq:q<L.length:=by
  have:=h.tl.ne;rw [e] at this;apply Nat.lt_of_not_le;intro hle;exact this (List.drop_eq_nil_of_le hle)
 have h1:=S.hn;have h2:=S.hcap;have h3:=S.hmax;refine ⟨q,c1,z,by omega,⟨a,n,cap,L,q+1,?_,World.cell?_setCell_same _ _ _ c1,by rw [World.frozen?_setCell];exact z,{ S with hat:=?_ },hn,?_⟩,ht,⟨w0,T,?_,hB⟩,Tg.setCell h.tag _ _⟩
 ·rw [World.cell?_setCell_other _ _ _ _ (fun h=>by have:=congrArg Addr.off h;simp only at this;omega)];exact c0
 ·exact S.hat.imp id fun ⟨b,off,ea,hC⟩=>⟨b,off,ea,Cx hC hk (hn b off ea)⟩
 ·rw [e,List.tail_drop]
 exact h0.setCell (by exact hB) _
theorem Ps.now {w:World} {B:Nat} {l:List Tk} (h:Ps w B l):∃ (b off n cap q:Nat),w.cell? ⟨B,0,none⟩=some (.slice (some ⟨b,off,none⟩) n cap)∧w.cell? ⟨B,1,none⟩=some (.int .i64 (q:Nat))∧q<n∧n≤cap∧cap≤9223372036854775807
    ∧ w.cell? ⟨b,off+q * 3,none⟩=some (.int .i64 (hd l).k)∧w.cell? ⟨b,off+q * 3+1,none⟩=some (.string (hd l).t)∧w.cell? ⟨b,off+q * 3+2,none⟩=some (.int .i64 (hd l).a):=by
 obtain ⟨a,n,cap,L,q,c0,c1,z,S,hn,e⟩:=h.mem;have hq:q<L.length:=by
  have:=h.tl.ne;rw [e] at this;apply Nat.lt_of_not_le;intro hle;exact this (List.drop_eq_nil_of_le hle)
 have h1:=S.hn;obtain ⟨b,off,rfl,hC⟩:=S.hat.resolve_left (by omega);have hh:hd l=tk.gt L q:=by
  rw [e,tk.sQ hq];rfl
 rw [hh];exact ⟨b,off,n,cap,q,c0,c1,by omega,S.hcap,S.hmax,hC q hq⟩
def thr (a c:Int):Ending:=.panicked [{ v:=.iface 122 (.agg #[.int .i64 a,.int .i64 c]),recovered:=false }]
def Pst {α:Type} (B:Nat) (V:Nat→World→Value→α→Prop) (r:Rs α) (w:World) (e:Ending) (w':World):Prop :=
 match r with
 | .out=>True
 | .ok v l => ∃ u,e=.returned u∧V w.heap.size w' u v∧Ps w' B l∧Mv w.heap.size B w w'
 | .no a c l=>e=thr a c∧Ps w' B l∧Mv w.heap.size B w w'
theorem aO {α:Type} {B:Nat} {V:Nat→World→Value→α→Prop} {r:Rs α} {w w':World} {v:α} {l:List Tk} {u:Value} (h:r=.ok v l) (hv:V w.heap.size w' u v) (P:Ps w' B l) (M:Mv w.heap.size B w w'):Pst B V r w (.returned u) w':=by
 rw [h];exact ⟨u,rfl,hv,P,M⟩
theorem aD {α:Type} {B:Nat} {V:Nat→World→Value→α→Prop} {r:Rs α} {w w':World} {a c:Int} {l:List Tk} (h:r=.no a c l) (P:Ps w' B l) (M:Mv w.heap.size B w w'):Pst B V r w (thr a c) w':=by
 rw [h];exact ⟨rfl,P,M⟩
theorem aE {α:Type} {B:Nat} {V:Nat→World→Value→α→Prop} {r:Rs α} {w w':World} {a c:Int} {l:List Tk} (h:Go.RowKit.Hid (r=.no a c l∧Ps w' B l∧Mv w.heap.size B w w')):Pst B V r w (thr a c) w':=aD h.o.1 h.o.2.1 h.o.2.2
end
namespace pa
open Go.RowKit dec
theorem gH (B:Nat) (l:List Tk) (w:World) (h:Ps w B l) :
    Calls Tryz.prog 76 #[.pointer (some ⟨B,0,none⟩)] w fun e w' => e=.returned (.agg #[.int .i64 (hd l).k,.string (hd l).t,.int .i64 (hd l).a])∧Below w.heap.size w w':=by
 have B1:=Hy (aj (b0 w) (.cells #[.int .i64 0,.string ⟨#[]⟩,.int .i64 0] 119));obtain ⟨b,off,n,cap,q,c0,c1,hq,hc,hm,d0,d1,d2⟩:=(h.keeps B1.o).now;clear h B1;generalize hd l=x at *;obtain ⟨xk,xt,xa⟩:=x;simp only at d0 d1 d2;have q1:(q:Int)<(n:Int):=by omega
 go_enter Tryz.func76,Tryz.ntmps76
 go_wp2_with fail
 go_region
 all_goals (try go_wp2_with fail)
 simp [bodyPost,results,Tryz.results76,go_sem];exact (aj (b0 w) _).drew
theorem tf0 (k:Int) (t:ByteArray) (a:Int) (W:World):(Instr.field 119 (.agg #[.int .i64 k,.string t,.int .i64 a]) 0).run Tryz.prog W=.ok (.int .i64 k) W:=by kernel_rfl
theorem tf1 (k:Int) (t:ByteArray) (a:Int) (W:World):(Instr.field 119 (.agg #[.int .i64 k,.string t,.int .i64 a]) 1).run Tryz.prog W=.ok (.string t) W:=by kernel_rfl
theorem tf2 (k:Int) (t:ByteArray) (a:Int) (W:World):(Instr.field 119 (.agg #[.int .i64 k,.string t,.int .i64 a]) 2).run Tryz.prog W=.ok (.int .i64 a) W:=by kernel_rfl
def Say (v:Value) (w:World) (e:Ending) (w':World):Prop:=e=.returned v∧Below w.heap.size w w'
theorem jU (B:Nat) (l:List Tk) (w:World) (h:Ps w B l) :
    Calls Tryz.prog 132 #[.pointer (some ⟨B,0,none⟩)] w (Say (.agg #[.int .i64 (hd l).a,.int .i64 90]) w):=by
 have B1:=aj (b0 w) (.cells #[.int .i64 0,.int .i64 0] 122);have C1:=Hy (gH B l _ (h.keeps B1));replace B1:=Hy B1;clear h
 go_enter Tryz.func132,Tryz.ntmps132
 go_wp2_with fail;refine C1.o.mono ?_;rintro e w1 ⟨rfl,b1⟩;have c0:w1.cell? ⟨w.heap.size,0,none⟩=some (.int .i64 0):=by rw [b1.cell (p:=⟨w.heap.size,0,none⟩) (by simp)];simp [go_sem]
 have c1:w1.cell? ⟨w.heap.size,1,none⟩=some (.int .i64 0):=by rw [b1.cell (p:=⟨w.heap.size,1,none⟩) (by simp)];simp [go_sem]
 have z0:w1.frozen? ⟨w.heap.size,0,none⟩=false:=by rw [b1.frozen (p:=⟨w.heap.size,0,none⟩) (by simp)];simp [go_sem]
 have z1:w1.frozen? ⟨w.heap.size,1,none⟩=false:=by rw [b1.frozen (p:=⟨w.heap.size,1,none⟩) (by simp)];simp [go_sem]
 have B2:=Hy (ak B1.o b1);clear b1;have F:=tf2;go_wp2_with fail;simp [bodyPost,results,Tryz.results132,go_sem,c0,c1];refine ⟨rfl,(B2.o.setCell (p:=⟨w.heap.size,0,none⟩) lr _).setCell (p:=⟨w.heap.size,1,none⟩) lr _⟩
theorem jm (B:Nat) (s:ByteArray) (l:List Tk) (w:World) (h:Ps w B l) :
    Calls Tryz.prog 173 #[.pointer (some ⟨B,0,none⟩),.string s] w (Say (.bool (isT s l)) w):=by
 have C1:=Hy (gH B l w h);clear h;unfold isT;generalize hd l=x at *;obtain ⟨xk,xt,xa⟩:=x;simp only at C1 ⊢;have q3:(xt.toList==s.toList)=decide (xt=s):=by
  by_cases hs:xt=s
  ·subst hs;simp
  rw [dF hs,L_m];intro e;apply hs;rw [ByteArray.toList_eq,ByteArray.toList_eq] at e;cases xt;cases s;simp only [ByteArray.mk.injEq];exact Array.toList_inj.1 e
 go_enter Tryz.func173,Tryz.ntmps173
 go_wp2_with fail;refine C1.o.mono ?_;rintro e w1 ⟨rfl,b1⟩;have B1:=Hy b1;clear b1;go_wp2_with fail
 all_goals go_ret
 all_goals refine ⟨bA (by simp_all),aj B1.o _⟩
theorem jv (v:Value) (W:World):(Instr.makeInterface 122 v).run Tryz.prog W=.ok (.iface 122 v) W:=by kernel_rfl
theorem mW (B:Nat) (s:ByteArray) (l:List Tk) (w:World) (h:Ps w B l) :
    Calls Tryz.prog 124 #[.pointer (some ⟨B,0,none⟩),.string s] w fun e w' => e=.returned (.bool (isT s l))∧Ps w' B (if isT s l=true then l.tail else l)∧Mv w.heap.size B w w':=by
 have C1:=Hy (jm B s l w h);have P0:=Hy h;have ht:=Hy (fun hs=>h.tl.of (s:=s) hs);clear h;generalize isT s l=t at *
 go_enter Tryz.func124,Tryz.ntmps124
 go_wp2_with fail;refine C1.o.mono ?_;rintro e w1 ⟨rfl,b1⟩;have P1:=Hy (P0.o.keeps b1);have B1:=Hy b1;clear b1;cases t
 ·go_wp2_with fail;go_ret;exact ⟨rfl,P1.o,.of B1.o⟩
 obtain ⟨q,c1,z,hq,P2⟩:=P1.o.go (ht.o rfl);have f:=Hy (aP hq);replace P2:=Hy P2;go_wp2_with fail;go_ret;exact ⟨rfl,P2.o,(Mv.of B1.o).put _ _⟩
theorem aV (B:Nat) (s:ByteArray) (l:List Tk) (w:World) (h:Ps w B l) (ht:isT s l=true) :
    Calls Tryz.prog 124 #[.pointer (some ⟨B,0,none⟩),.string s] w fun e w' => e=.returned (.bool true)∧Ps w' B l.tail∧Mv w.heap.size B w w':=by
 have:=mW B s l w h;rw [ht] at this;exact this
theorem aK (B:Nat) (s:ByteArray) (l:List Tk) (w:World) (h:Ps w B l) (ht:isT s l=false) :
    Calls Tryz.prog 124 #[.pointer (some ⟨B,0,none⟩),.string s] w fun e w' => e=.returned (.bool false)∧Ps w' B l∧Mv w.heap.size B w w':=by
 have:=mW B s l w h;rw [ht] at this;exact this
theorem aW (B:Nat) (s:ByteArray) (l:List Tk) (w:World) (h:Ps w B l) :
    Calls Tryz.prog 126 #[.pointer (some ⟨B,0,none⟩),.string s] w (Pst B Nv (need s l) w):=by
 unfold need;cases ht:isT s l
 ·have C1:=Hy (aK B s l w h ht);clear h ht;rw [if_neg (by decide)]
  go_enter Tryz.func126,Tryz.ntmps126
  go_wp2_with fail;refine C1.o.mono ?_;rintro e w1 ⟨rfl,P1,M1⟩;have C2:=Hy (jU B l w1 P1);replace P1:=Hy P1;replace M1:=Hy M1;have F:=jv;go_wp2_with fail;refine C2.o.mono ?_;rintro e w2 ⟨rfl,b2⟩;have P2:=Hy (P1.o.keeps b2);have M2:=Hy (M1.o.bG b2);clear b2;go_wp2_with fail;exact ⟨rfl,aD rfl P2.o M2.o⟩
 have C1:=Hy (aV B s l w h ht);clear h ht;rw [if_pos rfl]
 go_enter Tryz.func126,Tryz.ntmps126
 go_wp2_with fail;refine C1.o.mono ?_;rintro e w1 ⟨rfl,P1,M1⟩;replace P1:=Hy P1;replace M1:=Hy M1;go_wp2_with fail;go_end0;exact aO rfl rfl P1.o M1.o
theorem kQ (B:Nat) (k:Int) (hk:k≠6) (l:List Tk) (w:World) (h:Ps w B l) :
    Calls Tryz.prog 178 #[.pointer (some ⟨B,0,none⟩),.int .i64 k] w (Pst B Sv (tak k l) w):=by
 have C1:=Hy (gH B l w h);have P0:=Hy h;have W1:=Hy (fun W=>jU B l W);have F:=jv;have HT:=Hy (fun hq:(hd l).k=k=>h.tl.tail (by rw [hq];exact hk));unfold tak wrg;generalize hd l=x at *;obtain ⟨xk,xt,xa⟩:=x;simp only at C1 W1 HT ⊢;clear h;by_cases hkk:xk=k
 ·have q1:(xk==k)=true:=by simp [hkk]
  have q2:(xk != k)=false:=by simp [hkk]
  rw [if_pos hkk];replace HT:=Hy (HT.o hkk);clear hkk
  go_enter Tryz.func178,Tryz.ntmps178
  go_wp2_with fail;refine C1.o.mono ?_;rintro e w1 ⟨rfl,b1⟩;have b2:=aj b1 (.cells #[.int .i64 xk,.string xt,.int .i64 xa] 119);have P1:=P0.o.keeps b2;obtain ⟨q,c1,z,hq,P2⟩:=P1.go HT.o;have M2:=Hy ((Mv.of (B:=B) b2).put 1 (.int .i64 ((q:Int)+1)));have hlt:=P1.lt;have hB1:¬ B=w1.heap.size:=by have:=P0.o.lt;have:=b1.size;omega
  have hB2:¬ w1.heap.size=B:=by omega
  have f:=Hy (aP hq);replace P2:=Hy P2;clear b1 b2 hlt;go_wp2_with fail;go_ret;exact aO rfl rfl P2.o M2.o
 have q1:(xk==k)=false:=by simp [hkk]
 have q2:(xk != k)=true:=by simp [hkk]
 rw [if_neg hkk];clear hkk
 go_enter Tryz.func178,Tryz.ntmps178
 go_wp2_with fail;refine C1.o.mono ?_;rintro e w1 ⟨rfl,b1⟩;have b2:=aj b1 (.cells #[.int .i64 xk,.string xt,.int .i64 xa] 119);have P1:=P0.o.keeps b2;have C2:=Hy (W1.o _ P1);have M1:=Hy (Mv.of (B:=B) b2);replace P1:=Hy P1;clear b1 b2;go_wp2_with fail;refine C2.o.mono ?_;rintro e w2 ⟨rfl,b2⟩;have P2:=Hy (P1.o.keeps b2);have M2:=Hy (M1.o.bG b2);clear b2;go_wp2_with fail;exact ⟨rfl,aD rfl P2.o M2.o⟩
end pa
section
open Go.RowKit dec
theorem bind_ok {α β:Type} {x:Rs α} {g:α→List Tk→Rs β} {v:β} {r:List Tk} (h:x.bind g=.ok v r):∃ u s,x=.ok u s∧g u s=.ok v r:=by
 cases x with
 | out=>cases h
 | ok u s=>exact ⟨u,s,rfl,h⟩
 | no a c s=>cases h
theorem aH {α β:Type} {x:Rs α} {g:α→List Tk→Rs β} (h1:x≠.out) (h2:∀ u s,x=.ok u s→g u s≠.out):x.bind g≠.out:=by
 cases x with
 | out=>exact absurd rfl h1
 | ok u s=>exact h2 u s rfl
 | no a c s=>exact fun h=>by cases h
theorem bH {α β:Type} {x:Rs α} {g:α→List Tk→Rs β} (h:x.bind g≠.out):x≠.out:=by
 rintro rfl;exact h rfl
theorem Uo {s:ByteArray} {l:List Tk} (h:isT s l=true):l≠[]:=by
 rintro rfl;unfold isT hd at h;simp at h
theorem bf {s:ByteArray} {l:List Tk} (h:isT s l=true):l.tail.length<l.length:=by
 cases l with
 | nil=>exact absurd rfl (Uo h)
 | cons x r=>simp
theorem Qn {s:ByteArray} {l r:List Tk} {u:Unit} (h:need s l=.ok u r):isT s l=true∧r=l.tail:=by
 unfold need at h;split at h
 ·rename_i hT;cases h;exact ⟨hT,rfl⟩
 cases h
theorem dV {s:ByteArray} {l r:List Tk} {u:Unit} (h:need s l=.ok u r):r.length<l.length:=by
 obtain ⟨h1,rfl⟩:=Qn h;exact bf h1
theorem dZ (s:ByteArray) (l:List Tk):need s l≠.out:=by
 unfold need wrg;split <;> exact fun h=>by cases h
theorem mP {k:Int} (hk:k≠6) {l r:List Tk} {v:ByteArray} (h:tak k l=.ok v r):r.length<l.length:=by
 unfold tak at h;split at h
 ·rename_i hT;cases h
  cases l with
  | nil=>exact absurd hT.symm hk
  | cons x r=>simp
 cases h
theorem oH (k:Int) (l:List Tk):tak k l≠.out:=by
 unfold tak wrg;split <;> exact fun h=>by cases h
theorem kG {l r:List Tk} {v:ByteArray} (h:nam l=.ok v r):r.length<l.length:=by
 unfold nam at h;split at h
 ·exact mP (by decide) h
 cases h
theorem fV (l:List Tk):nam l≠.out:=by
 unfold nam;split
 ·exact oH _ _
 exact fun h=>by cases h
theorem Bp {s:ByteArray} {l r:List Tk} {v:ByteArray} (h:nma s l=.ok v r):r.length<l.length:=by
 obtain ⟨_,q,h1,h2⟩:=bind_ok h;exact Nat.lt_trans (kG h2) (dV h1)
theorem jD (s:ByteArray) (l:List Tk):nma s l≠.out:=aH (dZ _ _) fun _ _ _=>fV _
theorem int_lt {l r:List Tk} {v:Int} (h:int l=.ok v r):r.length<l.length:=by
 obtain ⟨_,q,h1,h2⟩:=bind_ok h;cases h2;exact mP (by decide) h1
theorem int_ne (l:List Tk):int l≠.out:=aH (oH _ _) fun _ _ _ h=>by cases h
theorem Ri {l r:List Tk} {v:Int} (h:nI l=.ok v r):r.length<l.length:=by
 obtain ⟨_,q,h1,h2⟩:=bind_ok h;cases h2;exact mP (by decide) h1
theorem Gh (l:List Tk):nI l≠.out:=aH (oH _ _) fun _ _ _ h=>by cases h
theorem nG {l r:List Tk} {v:un.Fa} (h:fac l=.ok v r):r.length<l.length:=by
 obtain ⟨_,q,h1,h2⟩:=bind_ok h;have g1:=kG h1;split at h2
 ·rename_i t1;have g2:=bf t1;split at h2
  ·rename_i t2;have g3:=bf t2;obtain ⟨_,q',h3,h4⟩:=bind_ok h2;cases h4;have:=int_lt h3;omega
  obtain ⟨_,q',h3,h4⟩:=bind_ok h2;cases h4;have:=int_lt h3;omega
 cases h2;exact g1
theorem pF (l:List Tk):fac l≠.out:=by
 refine aH (fV _) fun n r _=>?_;split
 ·split
  ·exact aH (int_ne _) fun _ _ _ h=>by cases h
  exact aH (int_ne _) fun _ _ _ h=>by cases h
 exact fun h=>by cases h
theorem Fb {α:Type} {one:List Tk→Rs α} {s:ByteArray} (h1:∀ l v r,one l=.ok v r→r.length<l.length):∀ (f:Nat) (x:List α) (l:List Tk) (v:List α) (r:List Tk),more one s f x l=.ok v r→r.length≤l.length
 | 0,_,_,_,_,h=>by cases h
 | f+1,x,l,v,r,h=>by
  unfold more at h
  split at h
  ·rename_i t
   obtain ⟨y,q,h2,h3⟩:=bind_ok h
   have:=Fb h1 f _ _ _ _ h3
   have:=h1 _ _ _ h2
   have:=bf t
   omega
  ·cases h
   exact Nat.le_refl _
theorem EZ {α:Type} {one:List Tk→Rs α} {s:ByteArray} (h1:∀ l v r,one l=.ok v r→r.length<l.length) (h2:∀ l,one l≠.out):∀ (f:Nat) (x:List α) (l:List Tk),l.length<f→more one s f x l≠.out
 | 0,_,_,h=>by omega
 | f+1,x,l,h=>by
  unfold more
  split
  ·rename_i t
   refine aH (h2 _) fun y q h3=>EZ h1 h2 f _ _ ?_
   have:=h1 _ _ _ h3
   have:=bf t
   omega
  ·exact fun h=>by cases h
theorem T9 {α:Type} {one:List Tk→Rs α} {s:ByteArray} (h1:∀ l v r,one l=.ok v r→r.length<l.length) {l:List Tk} {v:List α} {r:List Tk} (h:lst one s l=.ok v r):r.length<l.length:=by
 obtain ⟨y,q,h2,h3⟩:=bind_ok h;have:=Fb h1 _ _ _ _ _ h3;have:=h1 _ _ _ h2;omega
theorem vW {α:Type} {one:List Tk→Rs α} {s:ByteArray} (h1:∀ l v r,one l=.ok v r→r.length<l.length) (h2:∀ l,one l≠.out) (l:List Tk):lst one s l≠.out :=
 aH (h2 _) fun _ _ _=>EZ h1 h2 _ _ _ ls
theorem vD {l r:List Tk} {v:List un.Fa} (h:uni l=.ok v r):r.length≤l.length:=by
 unfold uni at h;split at h
 ·rename_i t;obtain ⟨u,q,h1,h2⟩:=bind_ok h;obtain ⟨_,q',h3,h4⟩:=bind_ok h2;have:=bf t;have:=T9 (fun _ _ _=>nG) h1;have:=dV h3;split at h4
  ·cases h4;omega
  cases h4
 cases h;exact Nat.le_refl _
theorem lq (l:List Tk):uni l≠.out:=by
 unfold uni;split
 ·refine aH (vW (fun _ _ _=>nG) pF _) fun u r _=>aH (dZ _ _) fun _ r' _=>?_;split <;> exact fun h=>by cases h
 exact fun h=>by cases h
theorem RO {l r:List Tk} {v:Ty} (h:typ l=.ok v r):r.length<l.length:=by
 unfold typ at h;split at h
 ·rename_i t;cases h;exact bf t
 split at h
 ·rename_i t;cases h;exact bf t
 split at h
 ·rename_i t;obtain ⟨u,q,h1,h2⟩:=bind_ok h;cases h2;exact Nat.lt_trans (kG h1) (bf t)
 split at h
 ·rename_i t;obtain ⟨u,q,h1,h2⟩:=bind_ok h;cases h2;exact Nat.lt_of_le_of_lt (vD h1) (bf t)
 split at h
 ·rename_i t;obtain ⟨u,q,h1,h2⟩:=bind_ok h;cases h2;exact Nat.lt_of_le_of_lt (vD h1) (bf t)
 cases h
theorem vH (l:List Tk):typ l≠.out:=by
 unfold typ;split
 ·exact fun h=>by cases h
 split
 ·exact fun h=>by cases h
 split
 ·exact aH (fV _) fun _ _ _ h=>by cases h
 split
 ·exact aH (lq _) fun _ _ _ h=>by cases h
 split
 ·exact aH (lq _) fun _ _ _ h=>by cases h
 exact fun h=>by cases h
theorem IL {l r:List Tk} {v:Int × Int} (h:win l=.ok v r):r.length<l.length:=by
 unfold win at h;split at h
 ·rename_i t;cases h;exact bf t
 iterate 3
   split at h
   · rename_i t
     obtain ⟨u,q,h1,h2⟩:=bind_ok h
     cases h2
     exact Nat.lt_trans (int_lt h1) (bf t)
 cases h
theorem qE (l:List Tk):win l≠.out:=by
 unfold win;split
 ·exact fun h=>by cases h
 iterate 3
   split
   · exact aH (int_ne _) fun _ _ _ h=>by cases h
 exact fun h=>by cases h
theorem Uj {l r:List Tk} {v:Ex} (h:key l=.ok v r):r.length<l.length:=by
 obtain ⟨n,q,h1,h2⟩:=bind_ok h;obtain ⟨s,q',h3,h4⟩:=bind_ok h2;have:=Bp h1;have:=mP (by decide) h3;split at h4
 ·cases h4;omega
 cases h4
theorem J8 (l:List Tk):key l≠.out:=by
 refine aH (jD _ _) fun n r _=>aH (oH _ _) fun s r' _=>?_;split <;> exact fun h=>by cases h
def Md.le:Md→Nat
 | .tl _ _ _=>0
 | _=>1
theorem Bn {n:Nat} {l:List Tk} (h:opr n l≠.empty):isT (opr n l) l=true:=by
 unfold opr at h ⊢
 cases hf:(opL n).find? fun s=>isT s l with
 | none=>rw [hf] at h;exact absurd rfl h
 | some s=>exact (List.find?_eq_some_iff_append.1 hf).1
theorem oP:∀ (f:Nat) (i:Bool) (m:Md) (l:List Tk) (x:Ex) (r:List Tk),pz f i m l=.ok x r→r.length+m.le≤l.length:=by
 intro f
 induction f with
 | zero=>intro i m l x r h;cases h
 | succ f ih =>
   intro i m l x r h
   cases m with
   | ex =>
     simp only [pz] at h
     split at h
     · rename_i t
       obtain ⟨a,q1,h1,h⟩:=bind_ok h
       obtain ⟨_,q2,h2,h⟩:=bind_ok h
       obtain ⟨b,q3,h3,h⟩:=bind_ok h
       obtain ⟨_,q4,h4,h⟩:=bind_ok h
       obtain ⟨c,q5,h5,h⟩:=bind_ok h
       cases h
       have:=ih _ _ _ _ _ h1
       have:=ih _ _ _ _ _ h3
       have:=ih _ _ _ _ _ h5
       have:=dV h2
       have:=dV h4
       have:=bf t
       simp only [Md.le] at *
       omega
     · (have:=ih _ _ _ _ _ h;simp only [Md.le] at *;omega)
   | op least =>
     simp only [pz] at h
     split at h
     · rename_i t
       obtain ⟨a,q1,h1,h⟩:=bind_ok h
       have:=ih _ _ _ _ _ h1
       have:=ih _ _ _ _ _ h
       have:=bf t.2
       simp only [Md.le] at *
       omega
     · obtain ⟨a,q1,h1,h⟩:=bind_ok h
       have:=ih _ _ _ _ _ h1
       have:=ih _ _ _ _ _ h
       simp only [Md.le] at *
       omega
   | tl least n y =>
     simp only [pz] at h
     split at h
     · cases h
       exact Nat.le_refl _
     · split at h
       · (have:=ih _ _ _ _ _ h;simp only [Md.le] at *;omega)
       · rename_i t
         obtain ⟨a,q1,h1,h⟩:=bind_ok h
         have:=ih _ _ _ _ _ h1
         have:=ih _ _ _ _ _ h
         have:=bf (Bn t)
         simp only [Md.le] at *
         omega
   | ng =>
     simp only [pz] at h
     split at h
     · rename_i t
       obtain ⟨a,q1,h1,h⟩:=bind_ok h
       cases h
       have:=ih _ _ _ _ _ h1
       have:=bf t
       simp only [Md.le] at *
       omega
     · (have:=ih _ _ _ _ _ h;simp only [Md.le] at *;omega)
   | pa =>
     simp only [pz] at h
     obtain ⟨_,q1,h1,h⟩:=bind_ok h
     obtain ⟨a,q2,h2,h⟩:=bind_ok h
     obtain ⟨_,q3,h3,h⟩:=bind_ok h
     cases h
     have:=dV h1
     have:=ih _ _ _ _ _ h2
     have:=dV h3
     simp only [Md.le] at *
     omega
   | rf =>
     simp only [pz] at h
     obtain ⟨n,q1,h1,h⟩:=bind_ok h
     have:=kG h1
     split at h
     · rename_i t
       obtain ⟨a,q2,h2,h⟩:=bind_ok h
       cases h
       have:=ih _ _ _ _ _ h2
       have:=bf t
       simp only [Md.le] at *
       omega
     · cases h
       simp only [Md.le]
       omega
   | ag =>
     simp only [pz] at h
     obtain ⟨op,q1,h1,h⟩:=bind_ok h
     have g1:=mP (by decide) h1
     obtain ⟨_,q2,h2,h⟩:=bind_ok h
     have g2:=dV h2
     obtain ⟨t,q3,h3,h⟩:=bind_ok h
     have g3:=kG h3
     obtain ⟨_,q4,h4,h⟩:=bind_ok h
     have g4:=dV h4
     obtain ⟨a,q5,h5,h⟩:=bind_ok h
     have g5:q5.length≤q4.length:=by
       split at h5
       · cases h5;exact Nat.le_refl _
       · obtain ⟨_,p1,k1,h5⟩:=bind_ok h5
         obtain ⟨_,p2,k2,h5⟩:=bind_ok h5
         cases h5
         have:=ih _ _ _ _ _ k1
         have:=dV k2
         omega
     obtain ⟨n,q6,h6,h⟩:=bind_ok h
     have g6:q6.length≤q5.length:=by
       split at h6
       · obtain ⟨_,p1,k1,h6⟩:=bind_ok h6
         obtain ⟨_,p2,k2,h6⟩:=bind_ok h6
         cases h6
         have:=int_lt k1
         have:=dV k2
         omega
       · cases h6;exact Nat.le_refl _
     obtain ⟨w,q7,h7,h⟩:=bind_ok h
     have g7:=IL h7
     obtain ⟨b,q8,h8,h⟩:=bind_ok h
     have g8:q8.length≤q7.length:=by
       split at h8
       · rename_i t
         have:=ih _ _ _ _ _ h8
         have:=bf t
         omega
       · cases h8;exact Nat.le_refl _
     obtain ⟨_,q9,h9,h⟩:=bind_ok h
     have g9:=dV h9
     cases h
     simp only [Md.le]
     omega
   | pr =>
     simp only [pz] at h
     split at h
     · obtain ⟨n,q1,h1,h⟩:=bind_ok h
       obtain ⟨u,q2,h2,h⟩:=bind_ok h
       cases h
       have:=int_lt h1
       have:=vD h2
       simp only [Md.le]
       omega
     split at h
     · obtain ⟨n,q1,h1,h⟩:=bind_ok h
       obtain ⟨u,q2,h2,h⟩:=bind_ok h
       cases h
       have:=Ri h1
       have:=vD h2
       simp only [Md.le]
       omega
     split at h
     · obtain ⟨n,q1,h1,h⟩:=bind_ok h
       cases h
       have:=mP (by decide) h1
       simp only [Md.le]
       omega
     split at h
     · rename_i t;cases h;exact bf t
     split at h
     · rename_i t;cases h;exact bf t
     split at h
     · exact Uj h
     split at h
     · rename_i t
       obtain ⟨n,q1,h1,h⟩:=bind_ok h
       cases h
       have:=ih _ _ _ _ _ h1
       have:=bf t
       simp only [Md.le] at *
       omega
     split at h
     · (have:=ih _ _ _ _ _ h;simp only [Md.le] at *;omega)
     split at h
     · obtain ⟨n,q1,h1,h⟩:=bind_ok h
       cases h
       exact kG h1
     split at h
     · (have:=ih _ _ _ _ _ h;simp only [Md.le] at *;omega)
     · (have:=ih _ _ _ _ _ h;simp only [Md.le] at *;omega)
def Md.rk:Md→Nat
 | .tl _ n _=>n
 | .pa=>0
 | .ag=>0
 | .rf=>0
 | .pr=>1
 | .ng=>2
 | .op _=>3
 | .ex=>4
def Md.good:Md→Prop
 | .tl _ n _=>n≤6
 | .op n=>n≤6
 | _=>True
theorem VN:∀ (f:Nat) (i:Bool) (m:Md) (l:List Tk),m.good→8 * l.length+m.rk<f→pz f i m l≠.out:=by
 intro f
 induction f with
 | zero=>intro i m l _ h;omega
 | succ f ih =>
   intro i m l hg h
   cases m with
   | ex =>
     simp only [Md.rk] at h
     simp only [pz]
     split
     · rename_i t
       have g0:=bf t
       refine aH (ih _ _ _ trivial (by simp only [Md.rk];omega)) fun a q1 h1=>?_
       have g1:=oP _ _ _ _ _ _ h1
       refine aH (dZ _ _) fun _ q2 h2=>?_
       have g2:=dV h2
       refine aH (ih _ _ _ trivial (by simp only [Md.rk];omega)) fun a q3 h3=>?_
       have g3:=oP _ _ _ _ _ _ h3
       refine aH (dZ _ _) fun _ q4 h4=>?_
       have g4:=dV h4
       refine aH (ih _ _ _ trivial (by simp only [Md.rk];omega)) fun a q5 h5=>fun h=>by cases h
     · exact ih _ _ _ zl (by simp only [Md.rk];omega)
   | op least =>
     simp only [Md.rk] at h
     simp only [pz]
     split
     · rename_i t
       have g0:=bf t.2
       refine aH (ih _ _ _ (show 3≤6 by omega) (by simp only [Md.rk];omega)) fun a q1 h1=>?_
       have g1:=oP _ _ _ _ _ _ h1
       exact ih _ _ _ (show 3≤6 by omega) (by simp only [Md.rk];omega)
     · refine aH (ih _ _ _ trivial (by simp only [Md.rk];omega)) fun a q1 h1=>?_
       have g1:=oP _ _ _ _ _ _ h1
       simp only [Md.le] at g1
       exact ih _ _ _ (show 6≤6 by omega) (by simp only [Md.rk];omega)
   | tl least n y =>
     simp only [Md.rk] at h
     have hg:n≤6:=hg
     simp only [pz]
     split
     · exact fun h=>by cases h
     · split
       · exact ih _ _ _ (show n - 1≤6 by omega) (by simp only [Md.rk];omega)
       · rename_i t
         have g0:=bf (Bn t)
         refine aH (ih _ _ _ hg (by simp only [Md.rk];omega)) fun a q1 h1=>?_
         have g1:=oP _ _ _ _ _ _ h1
         refine ih _ _ _ ?_ ?_
         · show (if n=4 then 3 else n)≤6
           split <;> omega
         · simp only [Md.rk]
           split <;> omega
   | ng =>
     simp only [Md.rk] at h
     simp only [pz]
     split
     · rename_i t
       have g0:=bf t
       exact aH (ih _ _ _ trivial (by simp only [Md.rk];omega)) fun a q1 h1=>fun h=>by cases h
     · exact ih _ _ _ trivial (by simp only [Md.rk];omega)
   | pa =>
     simp only [Md.rk] at h
     simp only [pz]
     refine aH (dZ _ _) fun _ q1 h1=>?_
     have g1:=dV h1
     exact aH (ih _ _ _ trivial (by simp only [Md.rk];omega)) fun a q2 h2=>aH (dZ _ _) fun _ q1 h1=>fun h=>by cases h
   | rf =>
     simp only [Md.rk] at h
     simp only [pz]
     refine aH (fV _) fun n q1 h1=>?_
     have g1:=kG h1
     split
     · rename_i t
       have g0:=bf t
       exact aH (ih _ _ _ trivial (by simp only [Md.rk];omega)) fun a q1 h1=>fun h=>by cases h
     · exact fun h=>by cases h
   | ag =>
     simp only [Md.rk] at h
     simp only [pz]
     refine aH (oH _ _) fun op q1 h1=>?_
     have g1:=mP (by decide) h1
     refine aH (dZ _ _) fun _ q2 h2=>?_
     have g2:=dV h2
     refine aH (fV _) fun t q3 h3=>?_
     have g3:=kG h3
     refine aH (dZ _ _) fun _ q4 h4=>?_
     have g4:=dV h4
     refine aH ?_ fun a q5 h5=>?_
     · split
       · exact fun h=>by cases h
       · exact aH (ih _ _ _ trivial (by simp only [Md.rk];omega)) fun a p1 k1=>aH (dZ _ _) fun _ p2 k2=>fun h=>by cases h
     have g5:q5.length≤q4.length:=by
       split at h5
       · cases h5;exact Nat.le_refl _
       · obtain ⟨_,p1,k1,h5⟩:=bind_ok h5
         obtain ⟨_,p2,k2,h5⟩:=bind_ok h5
         cases h5
         have:=oP _ _ _ _ _ _ k1
         have:=dV k2
         omega
     refine aH ?_ fun n q6 h6=>?_
     · split
       · exact aH (int_ne _) fun a p1 k1=>aH (dZ _ _) fun _ p2 k2=>fun h=>by cases h
       · exact fun h=>by cases h
     have g6:q6.length≤q5.length:=by
       split at h6
       · obtain ⟨_,p1,k1,h6⟩:=bind_ok h6
         obtain ⟨_,p2,k2,h6⟩:=bind_ok h6
         cases h6
         have:=int_lt k1
         have:=dV k2
         omega
       · cases h6;exact Nat.le_refl _
     refine aH (qE _) fun w q7 h7=>?_
     have g7:=IL h7
     refine aH ?_ fun b q8 h8=>aH (dZ _ _) fun _ q9 h9=>fun h=>by cases h
     split
     · rename_i t
       have g0:=bf t
       exact ih _ _ _ trivial (by simp only [Md.rk];omega)
     · exact fun h=>by cases h
   | pr =>
     simp only [Md.rk] at h
     simp only [pz]
     split
     · exact aH (int_ne _) fun _ _ _=>aH (lq _) fun _ _ _ h=>by cases h
     split
     · exact aH (Gh _) fun _ _ _=>aH (lq _) fun _ _ _ h=>by cases h
     split
     · exact aH (oH _ _) fun _ _ _ h=>by cases h
     split
     · exact fun h=>by cases h
     split
     · exact fun h=>by cases h
     split
     · exact J8 _
     split
     · rename_i t
       have g0:=bf t
       exact aH (ih _ _ _ trivial (by simp only [Md.rk];omega)) fun a q1 h1=>fun h=>by cases h
     split
     · exact ih _ _ _ trivial (by simp only [Md.rk];omega)
     split
     · exact aH (fV _) fun _ _ _ h=>by cases h
     split
     · exact ih _ _ _ trivial (by simp only [Md.rk];omega)
     · exact ih _ _ _ trivial (by simp only [Md.rk];omega)
end
end Go.Proofs.YtbahfelnbofjjaaGreatDoor
