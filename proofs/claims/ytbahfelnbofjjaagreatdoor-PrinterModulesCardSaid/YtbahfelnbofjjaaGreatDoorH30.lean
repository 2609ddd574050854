/- Rows of elements of several cells. -/
import Derived.Test.YtbahfelnbofjjaaGreatDoorH27
set_option maxRecDepth 100000
set_option maxHeartbeats 16000000
namespace Go.Proofs.YtbahfelnbofjjaaGreatDoor
namespace pa
open Go.RowKit dec
structure Rw (T:TypeId) (k:Nat) (w:World) (base:Nat) (v:Value) (cs:List (List Value)):Prop where
 own:w.ownsRow base T k v cs.length cs.flatten
 len:∀ c ∈ cs,c.length=k
 one:∀ c ∈ cs,∀ u ∈ c,u.oneCell'=true
theorem Rw.nil (T:TypeId) (k:Nat) (w:World) (base:Nat):Rw T k w base (.slice none 0 0) []:=⟨World.ownsRow_nil _ _ _ _,fun _ h=>(by cases h),fun _ h=>(by cases h)⟩
theorem Rw.mv {T:TypeId} {k S B base:Nat} {w w':World} {v:Value} {cs:List (List Value)} (h:Rw T k w base v cs) (M:Mv S B w w') (hB:B<base) (hS:w.heap.size≤S):Rw T k w' base v cs:=by
 refine ⟨?_,h.len,h.one⟩;obtain ⟨h1,h2⟩:=h.own;refine ⟨h1,?_⟩;rcases h2 with h0 | ⟨g,cap,cur,e,hbg,hh,r⟩
 ·exact .inl h0
 refine .inr ⟨g,cap,cur,e,hbg,?_,r⟩;have:g<w.heap.size:=by
  rcases Nat.lt_or_ge g w.heap.size with h' | h'
  ·exact h'
  rw [Array.getElem?_eq_none h'] at hh;cases hh
 rw [M.block _ (by omega) (by omega)];exact hh
theorem Rw.keeps {T:TypeId} {k base:Nat} {w w':World} {v:Value} {cs:List (List Value)} (h:Rw T k w base v cs) (hb:Below w.heap.size w w'):Rw T k w' base v cs:=by
 refine ⟨?_,h.len,h.one⟩;obtain ⟨h1,h2⟩:=h.own;refine ⟨h1,?_⟩;rcases h2 with h0 | ⟨g,cap,cur,e,hbg,hh,r⟩
 ·exact .inl h0
 refine .inr ⟨g,cap,cur,e,hbg,?_,r⟩;have:g<w.heap.size:=by
  rcases Nat.lt_or_ge g w.heap.size with h' | h'
  ·exact h'
  rw [Array.getElem?_eq_none h'] at hh;cases hh
 rw [hb.block _ this];exact hh
theorem Rw.st {T:TypeId} {k base g0:Nat} {w w':World} {v:Value} {cs:List (List Value)} (h:Rw T k w base v cs) (M:St g0 w w') (hB:g0<base):Rw T k w' base v cs:=by
 refine ⟨?_,h.len,h.one⟩;obtain ⟨h1,h2⟩:=h.own;refine ⟨h1,?_⟩;rcases h2 with h0 | ⟨g,cap,cur,e,hbg,hh,r⟩
 ·exact .inl h0
 refine .inr ⟨g,cap,cur,e,hbg,?_,r⟩;rw [M.block _ (by omega)];exact hh
theorem uN {k:Nat} : ∀ {cs:List (List Value)},(∀ c ∈ cs,c.length=k)→cs.flatten.length=cs.length * k
 | [],_=>by simp
 | c :: cs,h=>by
  rw [List.flatten_cons,L_a,uN (cs:=cs) fun x hx=>h x (L_h _ hx),h c (L_e ..),L_b,Nat.add_mul]
  omega
theorem FU {k:Nat} : ∀ {cs:List (List Value)},(∀ c ∈ cs,c.length=k)→∀ (j i:Nat) (hj:j<cs.length),i<k→cs.flatten[j * k+i]? = cs[j][i]?
 | [],_,j,i,hj,_=>by cases hj
 | c :: cs,h,0,i,_,hi=>by
  rw [List.flatten_cons,Nat.zero_mul,Nat.zero_add,List.getElem?_append_left (by rw [h c (L_e ..)];exact hi)]
  rfl
 | c :: cs,h,j+1,i,hj,hi=>by
  have hc:=h c (L_e ..)
  rw [List.flatten_cons,List.getElem?_append_right (by rw [hc,Nat.add_mul];omega),hc,show (j+1) * k+i - k=j * k+i by rw [Nat.add_mul];omega]
  exact FU (fun x hx=>h x (L_h _ hx)) j i (by simpa using hj) hi
def RowAt {α:Type} (T:TypeId) (k C:Nat) (Q:World→List Value→α→Prop) (w:World) (a:Option Addr) (l:List α):Prop :=
 l.length=0∨∃ (b off:Nat) (cs:List (List Value)),a=some ⟨b,off,none⟩∧C≤b∧Tg w b T∧cs.length=l.length∧(∀ j i (hj:j<cs.length) (hi:i<k),∃ u,cs[j][i]? = some u∧w.cell? ⟨b,off+(j * k+i),none⟩=some u)∧∀ j (h1:j<cs.length) (h2:j<l.length),Q w cs[j] l[j]
theorem RowAt.kpT {α:Type} {T:TypeId} {ok:TypeId→Prop} {k C:Nat} {Q:World→List Value→α→Prop} {w w':World} {a:Option Addr} {l:List α} (h:RowAt T k C Q w a l) (hok:ok T) (K:KpT ok C w w') (hQ:∀ c x,Q w c x→Q w' c x):RowAt T k C Q w' a l :=
 h.imp id fun ⟨b,off,cs,e,hC,ht,hl,hc,hq⟩=>⟨b,off,cs,e,hC,K.tg hC hok ht,hl,fun j i hj hi=>by
  obtain ⟨u,h1,h2⟩:=hc j i hj hi
  exact ⟨u,h1,K.cell hC hok ht h2⟩,fun j h1 h2=>hQ _ _ (hq j h1 h2)⟩
theorem RowAt.less {α:Type} {T:TypeId} {k C C':Nat} {Q Q':World→List Value→α→Prop} {w:World} {a:Option Addr} {l:List α} (h:RowAt T k C Q w a l) (hC':C'≤C) (hQ:∀ c x,Q w c x→Q' w c x):RowAt T k C' Q' w a l :=
 h.imp id fun ⟨b,off,cs,e,hC,ht,hl,hc,hq⟩=>⟨b,off,cs,e,by omega,ht,hl,hc,fun j h1 h2=>hQ _ _ (hq j h1 h2)⟩
theorem Rw.tg {T:TypeId} {k base g:Nat} {w:World} {v:Value} {cs:List (List Value)} (h:Rw T k w base v cs) (hg:v.ownBlock=some g):Tg w g T:=by
 rcases h.own.2 with ⟨rfl,_⟩ | ⟨g',cap,cur,rfl,_,hh,_⟩
 ·cases hg
 cases hg;exact ⟨_,_,hh⟩
theorem Rw.grow {T:TypeId} {ok:TypeId→Prop} {k base:Nat} {w w':World} {v:Value} {cs:List (List Value)} (h:Rw T k w base v cs) (hg:w.grownBy w' v.ownBlock) (hok:¬ ok T) (C:Nat):KpT ok C w w':=by
 intro b T' cs' fr _ hT hb;refine hg.block b (fI hb) fun e=>?_;obtain ⟨cs2,fr2,h2⟩:=h.tg e.symm;rw [hb] at h2;cases h2;exact hok hT
theorem Rw.row {α:Type} {T:TypeId} {k base:Nat} {w:World} {v:Value} {cs:List (List Value)} {Q:World→List Value→α→Prop} {l:List α} (h:Rw T k w base v cs) (hl:cs.length=l.length) (hq:∀ j (h1:j<cs.length) (h2:j<l.length),Q w cs[j] l[j]) :
    ∃ a cap,v=.slice a l.length cap∧RowAt T k base Q w a l:=by
 rcases h.own.2 with ⟨h0,h1⟩ | ⟨g,cap,cur,rfl,hb,hg,hc,hm,hs,ht⟩
 ·rw [h0];rw [h1] at hl;exact ⟨none,0,by rw [← hl],.inl hl.symm⟩
 refine ⟨some ⟨g,0,none⟩,cap,by rw [hl],.inr ⟨g,0,cs,rfl,hb,⟨_,_,hg⟩,hl,fun j i hj hi=>?_,hq⟩⟩;have hlt:j * k+i<cs.flatten.length:=by
  rw [uN h.len]
  calc j * k+i<j * k+k:=by omega
    _=(j+1) * k:=by rw [Nat.add_mul];omega
    _≤cs.length * k:=Nat.mul_le_mul_right _ hj
 have hf:=FU h.len j i hj hi;have hil:i<cs[j].length:=by rw [h.len _ (List.getElem_mem hj)];exact hi
 refine ⟨cs[j][i],List.getElem?_eq_getElem hil,?_⟩;rw [Nat.zero_add,h.own.cellAt (j * k+i) (by rw [uN h.len] at hlt;exact hlt),hf];exact List.getElem?_eq_getElem hil
theorem uh {T:TypeId} {k base:Nat} {w w':World} {v:Value} {cs:List (List Value)} (h:Rw T k w base v cs) (hg:w.grownBy w' v.ownBlock) (hb:base≤w.heap.size):Below base w w' :=
 (Below.refl base w).grown hg hb fun x hx=>(h.own.lt x hx).1
structure Inf (T ST:TypeId) (k bytes:Nat) (z:Value):Prop where
 und:Tryz.prog.underlying ST=some (.slice T)
 inf:(Tryz.prog.info? T).map (fun i=>(i.zero,i.size,i.bytes))=some (some z,k,bytes)
 zs:z.cells.size=k
 pos:0<k
 small:bytes≤1024
theorem kN {T ST:TypeId} {k bytes:Nat} {z:Value} (I:Inf T ST k bytes z) (w:World) {o:Oper} {a:Act} {K:Act→World→Prop} {Q:Exit→Act→World→Prop} (s x:Operand)
    (ho:o.op=.call { callee:=.builtin .append,args:=#[s,x],argTypes:=#[ST,ST] })
    (base:Nat) (v:Value) (cs:List (List Value)) (hs:a.eval s=v) (hown:Rw T k w base v cs) (b:Nat) (T':TypeId) (ys:List Value) (hx:a.eval x=.slice (some ⟨b,0,none⟩) 1 1) (hB:Blk w b T' ys.toArray) (hy:ys.length=k) (h1:∀ u ∈ ys,u.oneCell'=true)
    (hn:cs.length<1048577) (hbase:base≤w.heap.size)
    (h:∀ v' w',Rw T k w' base v' (cs++[ys])→Below base w w'→w.grownBy w' v.ownBlock→K (a.put o.dst v') w'):o.wp Tryz.prog a w K Q:=by
 obtain ⟨i,hi,hz0,hz1,hz2⟩:=info_parts I.inf;have hby:(cs.length+1) * bytes≤140737488355328:=by
  have:=Nat.mul_le_mul (show cs.length+1≤1048577 by omega) I.small;omega
 refine wp_append_own w s x ST ho base T i z k bytes I.und hi hz0 hz1 hz2 I.zs I.pos v cs.length cs.flatten hs hown.own ⟨b,0,none⟩ 1 1 ys hx (by rw [hy,Nat.one_mul]) ?_ h1
   (by unfold maxLen;omega) hby hbase fun v' w' h2 h3 _=>h v' w' ⟨?_,?_,?_⟩ (uh hown h3 hbase) h3
 ·intro j u hu;have:=hB.cell j;have hadd:(⟨b,0,none⟩:Addr).add j=⟨b,j,none⟩:=by unfold Addr.add;split <;> simp_all
  rw [hadd,this,sz2];exact hu
 ·rw [L_a,List.length_singleton,List.flatten_append];simpa using h2
 ·intro c hc;rcases List.mem_append.1 hc with hc | hc
  ·exact hown.len c hc
  rw [List.mem_singleton] at hc;subst hc;exact hy
 intro c hc;rcases List.mem_append.1 hc with hc | hc
 ·exact hown.one c hc
 rw [List.mem_singleton] at hc;subst hc;exact h1
theorem mK {T ST:TypeId} {k bytes:Nat} {z:Value} (I:Inf T ST k bytes z) (w:World) {ops:Array Oper} {rest:List Oper} {o:Oper} {a:Act} {Q:Exit→Act→World→Prop} (hgd:o.guard=none) (s x:Operand)
  (ho:o.op=.call { callee:=.builtin .append,args:=#[s,x],argTypes:=#[ST,ST] })
  (base:Nat) (v:Value) (cs:List (List Value)) (hs:a.eval s=v) (hown:Rw T k w base v cs) (b:Nat) (T':TypeId) (ys:List Value) (hx:a.eval x=.slice (some ⟨b,0,none⟩) 1 1) (hB:Blk w b T' ys.toArray) (hy:ys.length=k) (h1:∀ u ∈ ys,u.oneCell'=true)
  (hn:cs.length<1048577) (hbase:base≤w.heap.size)
  (h:∀ v' w',Rw T k w' base v' (cs++[ys])→Below base w w'→w.grownBy w' v.ownBlock→wpList Tryz.prog ops Q rest (a.put o.dst v') w'):wpList Tryz.prog ops Q (o :: rest) a w :=
 wpList_plain hgd fun _ hK=>kN I w s x ho base v cs hs hown b T' ys hx hB hy h1 hn hbase fun v' w' h1 h2 h3=>hK _ _ (h v' w' h1 h2 h3)
theorem yE {ST:TypeId} {w:World} {ops:Array Oper} {rest:List Oper} {o:Oper} {a:Act} {Q:Exit→Act→World→Prop} (s x:Operand) (_:o.op=.call { callee:=.builtin .append,args:=#[s,x],argTypes:=#[ST,ST] })
  (k:wpList Tryz.prog ops Q (o :: rest) a w):wpList Tryz.prog ops Q (o :: rest) a w:=k
theorem zo:Inf 88 46 4 64 (.agg #[.string .empty,.int .i64 0,.slice none 0 0,.string .empty]):=⟨Tryz.underlying46,by kernel_rfl,rfl,by decide,by decide⟩
def FiQ (C:Nat) (w:World) (c:List Value) (f:Fi):Prop:=∃ ua uc,c=[.string f.nm,.int .i64 f.ty.k,.slice ua f.ty.un.length uc,.string f.ty.of]∧Us C w ua f.ty.un
theorem FiQ.kpT {ok:TypeId→Prop} {C:Nat} {w w':World} {c:List Value} {f:Fi} (h1:ok 82) (h:FiQ C w c f) (k:KpT ok C w w'):FiQ C w' c f:=by
 obtain ⟨ua,uc,e,U⟩:=h;exact ⟨ua,uc,e,U.kpT h1 k⟩
theorem FiQ.less {C C':Nat} {w:World} {c:List Value} {f:Fi} (h:FiQ C w c f) (hC:C'≤C):FiQ C' w c f:=by
 obtain ⟨ua,uc,e,U⟩:=h;exact ⟨ua,uc,e,U.less hC⟩
def FsA (C:Nat) (w:World) (a:Option Addr) (l:List Fi):Prop:=RowAt 88 4 C (FiQ C) w a l
theorem FsA.kpT {ok:TypeId→Prop} {C:Nat} {w w':World} {a:Option Addr} {l:List Fi} (h1:ok 82) (h2:ok 88) (h:FsA C w a l) (k:KpT ok C w w'):FsA C w' a l:=RowAt.kpT h h2 k fun _ _ hq=>FiQ.kpT h1 hq k
theorem FsA.less {C C':Nat} {w:World} {a:Option Addr} {l:List Fi} (h:FsA C w a l) (hC:C'≤C):FsA C' w a l:=RowAt.less h hC fun _ _ hq=>hq.less hC
def Fsv (C:Nat) (w:World) (v:Value) (l:List Fi):Prop:=∃ a cap,v=.slice a l.length cap∧FsA C w a l
def Each {α:Type} (Q:World→List Value→α→Prop) (w:World) (cs:List (List Value)) (l:List α):Prop:=cs.length=l.length∧∀ j (h1:j<cs.length) (h2:j<l.length),Q w cs[j] l[j]
theorem Each.nil {α:Type} (Q:World→List Value→α→Prop) (w:World):Each Q w [] ([]:List α):=⟨rfl,fun _ h=>absurd h (Nat.not_lt_zero _)⟩
theorem Each.map {α:Type} {Q:World→List Value→α→Prop} {w w':World} {cs:List (List Value)} {l:List α} (h:Each Q w cs l) (hQ:∀ c x,Q w c x→Q w' c x):Each Q w' cs l:=⟨h.1,fun j h1 h2=>hQ _ _ (h.2 j h1 h2)⟩
theorem Each.push {α:Type} {Q:World→List Value→α→Prop} {w:World} {cs:List (List Value)} {l:List α} (h:Each Q w cs l) {c:List Value} {x:α} (hc:Q w c x):Each Q w (cs++[c]) (l++[x]):=by
 refine ⟨by rw [L_a,L_a,h.1];rfl,fun j h1 h2=>?_⟩;have hl:=h.1;rw [L_a,List.length_singleton] at h1;by_cases hj:j<cs.length
 ·rw [List.getElem_append_left hj,List.getElem_append_left (by omega)];exact h.2 j hj (by omega)
 have e:j=cs.length:=by omega
 subst e;rw [List.getElem_append_right lr,List.getElem_append_right (by omega)];simpa [hl] using hc
theorem ME (B:Nat) (s:ByteArray) (l:List Tk) (w:World) (h:Ps w B l) (r:Rs (List Fi)) (hr:lst fie s l=r) (hne:r≠.out) :
    Calls Tryz.prog 183 #[.pointer (some ⟨B,0,none⟩),.string s,.func (.func 184) #[.pointer (some ⟨B,0,none⟩)] #[]] w (Pst B Fsv r w):=by
 have P:=Hy h;have hlt:=Hy h.lt;have HL:=Hy h.tl.ln;have M:=Hy (Mv.refl w.heap.size B w);have NE:=Hy hne;unfold lst at hr;have HR:=Hy hr;clear h hne hr
 go_enter Tryz.func183,Tryz.ntmps183
 go_wp2_with fail;refine (FX B l _ P.o _ rfl (o9 _)).mono ?_;rintro e w1 h1;rcases hG1:fie l with _ | ⟨v1,l1⟩ | ⟨a1,c1,l1⟩
 ·exact absurd hG1 (o9 _)
 rotate_left
 ·rw [hG1] at h1;obtain ⟨rfl,pp,mm⟩:=h1;unfold thr;have hno:=bno HR hG1;have PP:=Hy pp;have MM:=Hy (M.o.next mm);clear pp mm hG1;go_wp2_with fail;exact ⟨rfl,aD hno.o PP.o MM.o⟩
 rw [hG1] at h1;obtain ⟨u1,rfl,vv,pp,mm⟩:=h1;replace HR:=bok HR hG1;obtain ⟨ua,uc,rfl,U1⟩:=vv;have M1:=Hy (M.o.next mm);have hs1:=Hy (mm.size);have P1:=Hy pp;replace U1:=Hy U1;replace hG1:=Hy hG1;clear pp mm M P;have hlen:=Hy (show [v1].length+l1.length≤1048576 from by have:=xu hG1.o;have:=HL.o;simp only [List.length_singleton];omega);go_wp2_with (at_builtin;refine yE (ST:=46) (.tmp 7) (.tmp 10) rfl ?_;refine mK zo _ rfl (.tmp 7) (.tmp 10) rfl w.heap.size _ [] rfl (Rw.nil _ _ _ _) w1.heap.size 88 [.string v1.nm,.int .i64 v1.ty.k,.slice ua v1.ty.un.length uc,.string v1.ty.of] rfl (Blk.new w1 _ _) rfl (by simp [Value.oneCell']) (by decide) (by have:=hs1.o;simp;omega) ?_;intro v2 w2 O2 b2 g2);have b3:=(aj (b0 w1) (.cells #[.string v1.nm,.int .i64 v1.ty.k,.slice ua v1.ty.un.length uc,.string v1.ty.of] 88));have P2:=Hy ((P1.o.keeps b3).keep (b2.mono (by have:=hlt.o;omega)));have M2:=Hy ((M1.o.bG b3).trans (.of b2));replace O2:=Hy O2;have E2:=Hy ((Each.nil (FiQ w.heap.size) w2).push (show FiQ w.heap.size w2 [.string v1.nm,.int .i64 v1.ty.k,.slice ua v1.ty.un.length uc,.string v1.ty.of] v1 from ⟨ua,uc,rfl,(U1.o.kp (dO b3)).kpT (ok:=fun T=>T=82) rfl (Rw.grow (T:=88) (ok:=fun T=>T=82) (Rw.nil 88 4 _ w.heap.size) g2 (by decide) _)⟩));clear b2 b3 P1 M1 hs1 hG1 g2 U1
 go_loopg [6] (l1.length+1) (fun k v wr => ∃ (x:List Fi) (cs:List (List Value)) (l':List Tk),Hid (Rw 88 4 wr w.heap.size v cs)∧Hid (Each (FiQ w.heap.size) wr cs x)∧Hid (Ps wr B l')∧Hid (Mv w.heap.size B w wr)∧Hid (more fie s k x l'=r)∧Hid (x.length+l'.length≤1048576))
 case atStart=>exact ⟨[v1],[[.string v1.nm,.int .i64 v1.ty.k,.slice ua v1.ty.un.length uc,.string v1.ty.of]],l1,O2,E2,P2,M2,HR,hlen⟩
 case round =>
  clear O2 E2 P2 M2 HR hlen;obtain ⟨x,cs,l',O,E,P,M,HR,hlen⟩:=hrel;rcases gk with _ | gk
  ·exact absurd HR.o.symm NE.o
  cases ht:isT s l'
  ·have hok:=Hy (show Rs.ok x l'=r by rw [← HR.o];unfold more;rw [ht];rfl);have HT:=Hy ht;clear ht HR;go_wp2_with fail;refine (aK B s l' _ P.o HT.o).mono ?_;rintro e w3 ⟨rfl,pp,mm⟩;have P3:=Hy pp;have O3:=Hy (O.o.mv mm hlt.o lr);have M3:=Hy (M.o.next mm);have E3:=Hy (E.o.map fun c x h=>FiQ.kpT trivial h (mm.kp hlt.o));clear pp mm P O M E;go_wp2_with fail;go_ret;exact aO hok.o.symm (O3.o.row E3.o.1 E3.o.2) P3.o M3.o
  replace HR:=HR.o;unfold more at HR;rw [ht,if_pos rfl] at HR;replace HR:=Hy HR;have htl:=Hy (bf ht);have HT:=Hy ht;clear ht;go_wp2_with fail;refine (aV B s l' _ P.o HT.o).mono ?_;rintro e w3 ⟨rfl,pp,mm⟩;replace P:=Hy pp;have hs3:=Hy (L_f M.o.size mm.size);have O3:=Hy (O.o.mv mm hlt.o lr);have M3:=Hy (M.o.next mm);have E3:=Hy (E.o.map fun c x h=>FiQ.kpT trivial h (mm.kp hlt.o));clear pp mm O M E;go_wp2_with fail;refine (FX B l'.tail _ P.o _ rfl (o9 _)).mono ?_;rintro e w4 h1;rcases hG1:fie l'.tail with _ | ⟨v1,l1⟩ | ⟨a1,c1,l1⟩
  ·exact absurd hG1 (o9 _)
  rotate_left
  ·rw [hG1] at h1;obtain ⟨rfl,pp,mm⟩:=h1;unfold thr;have hno:=bno HR hG1;have PP:=Hy pp;have MM:=Hy (M3.o.next mm);clear pp mm hG1;go_wp2_with fail;exact ⟨rfl,aD hno.o PP.o MM.o⟩
  rw [hG1] at h1;obtain ⟨u1,rfl,vv,pp,mm⟩:=h1;replace HR:=bok HR hG1;obtain ⟨ua,uc,rfl,U1⟩:=vv;have hl2:=Hy (xu hG1);have O4:=Hy (O3.o.mv mm hlt.o lr);have M4:=Hy (M3.o.next mm);have E4:=Hy (E3.o.map fun c x h=>FiQ.kpT trivial h (mm.kp hlt.o));have hxl:=Hy (show cs.length<1048577 from by have:=hlen.o;have:=E4.o.1;omega);have hs1:=Hy M4.o.size;have P4:=Hy pp;have U4:=Hy (Us.less U1 hs3.o);clear pp mm hG1 M3 O3 P E3 U1;go_wp2_with (at_builtin;refine yE (ST:=46) (.tmp 15) (.tmp 18) rfl ?_;refine mK zo _ rfl (.tmp 15) (.tmp 18) rfl w.heap.size _ cs rfl (O4.o.keeps (aj (b0 w4) _)) w4.heap.size 88 [.string v1.nm,.int .i64 v1.ty.k,.slice ua v1.ty.un.length uc,.string v1.ty.of] rfl (Blk.new w4 _ _) rfl (by simp [Value.oneCell']) hxl.o (by have:=hs1.o;simp;omega) ?_;intro v2 w2 O2 b2 g2);have b3:=(aj (b0 w4) (.cells #[.string v1.nm,.int .i64 v1.ty.k,.slice ua v1.ty.un.length uc,.string v1.ty.of] 88));have P2:=Hy ((P4.o.keeps b3).keep (b2.mono (by have:=hlt.o;omega)));have M2:=Hy ((M4.o.bG b3).trans (.of b2));have E2:=Hy ((E4.o.map fun c x h=>FiQ.kpT (ok:=fun T=>T=82) rfl (FiQ.kpT trivial h (dO b3)) (Rw.grow (T:=88) (ok:=fun T=>T=82) (O4.o.keeps b3) g2 (by decide) _)).push (show FiQ w.heap.size w2 [.string v1.nm,.int .i64 v1.ty.k,.slice ua v1.ty.un.length uc,.string v1.ty.of] v1 from ⟨ua,uc,rfl,(U4.o.kp (dO b3)).kpT (ok:=fun T=>T=82) rfl (Rw.grow (T:=88) (ok:=fun T=>T=82) (O4.o.keeps b3) g2 (by decide) _)⟩));replace O2:=Hy O2;have hlen2:=Hy (show (x++[v1]).length+l1.length≤1048576 from by have:=hlen.o;have:=hl2.o;have:=htl.o;rw [L_a,List.length_singleton];omega);clear b2 b3 g2;go_wp2_with fail;go_roundg gk
  case measure=>omega
  case rel=>exact ⟨x++[v1],cs++[[.string v1.nm,.int .i64 v1.ty.k,.slice ua v1.ty.un.length uc,.string v1.ty.of]],l1,O2,E2,P2,M2,HR,hlen2⟩
theorem dJ:Inf 48 40 4 64 (.agg #[.string .empty,.string .empty,.slice none 0 0,.int .i64 0]):=⟨Tryz.underlying40,by kernel_rfl,rfl,by decide,by decide⟩
def zFe:Array Value:=#[.string .empty,.string .empty,.int .i64 0,.slice none 0 0,.string .empty,.int .i64 0,.string .empty,.string .empty,.string .empty,.int .i64 0,.int .i64 0,.string .empty,.slice none 0 0,.int .i64 0,.int .i64 0,.int .i64 0,.slice none 0 0,.int .i64 0]
theorem jG:Inf 51 41 18 248 (.agg zFe):=⟨Tryz.underlying41,by kernel_rfl,rfl,by decide,by decide⟩
theorem gF:(Tryz.prog.info? 48).map (·.size)=some 4:=by kernel_rfl
theorem iL:(Tryz.prog.info? 51).map (·.size)=some 18:=by kernel_rfl
theorem jN:(Tryz.prog.info? 43).map (·.size)=some 2:=by kernel_rfl
def TbQ (C:Nat) (w:World) (c:List Value) (t:Tb):Prop:=∃ a cap,c=[.string t.nm,.string t.en,.slice a t.fs.length cap,.int .i64 t.kp]∧FsA C w a t.fs
theorem TbQ.kpT {ok:TypeId→Prop} {C:Nat} {w w':World} {c:List Value} {t:Tb} (h1:ok 82) (h2:ok 88) (h:TbQ C w c t) (k:KpT ok C w w'):TbQ C w' c t:=by
 obtain ⟨a,cap,e,U⟩:=h;exact ⟨a,cap,e,U.kpT h1 h2 k⟩
theorem TbQ.less {C C':Nat} {w:World} {c:List Value} {t:Tb} (h:TbQ C w c t) (hC:C'≤C):TbQ C' w c t:=by
 obtain ⟨a,cap,e,U⟩:=h;exact ⟨a,cap,e,U.less hC⟩
def feC (f:Fe) (ua:Option Addr) (uc:Nat) (ub:Option Addr) (ud:Nat) (aa:Option Addr) (ac:Nat):List Value :=
 [.string f.nm,.string f.en,.int .i64 f.ty.k,.slice ua f.ty.un.length uc,.string f.ty.of,.int .i64 f.bo.h.k,.string f.bo.h.op,.string f.bo.h.nm,.string f.bo.h.tb,.int .i64 f.bo.h.vk,.int .i64 f.bo.h.vn,.string f.bo.h.vs,.slice ub f.bo.h.un.length ud,.int .i64 f.bo.h.pa,.int .i64 f.bo.h.wk,.int .i64 f.bo.h.ws,.slice aa f.bo.ar.len ac,.int .i64 0]
def FeQ (C:Nat) (w:World) (c:List Value) (f:Fe):Prop:=∃ ua uc ub ud aa ac,c=feC f ua uc ub ud aa ac∧Us C w ua f.ty.un∧Ec C w f.bo ub aa
theorem FeQ.kpT {ok:TypeId→Prop} {C:Nat} {w w':World} {c:List Value} {t:Fe} (h1:ok 82) (h2:ok 29) (h:FeQ C w c t) (k:KpT ok C w w'):FeQ C w' c t:=by
 obtain ⟨ua,uc,ub,ud,aa,ac,e,U,E⟩:=h;exact ⟨ua,uc,ub,ud,aa,ac,e,U.kpT h1 k,Ec.kpT h1 h2 E k⟩
theorem FeQ.less {C C':Nat} {w:World} {c:List Value} {t:Fe} (h:FeQ C w c t) (hC:C'≤C):FeQ C' w c t:=by
 obtain ⟨ua,uc,ub,ud,aa,ac,e,U,E⟩:=h;exact ⟨ua,uc,ub,ud,aa,ac,e,U.less hC,E.less hC⟩
theorem Rw.kpT {T:TypeId} {ok:TypeId→Prop} {k base C:Nat} {w w':World} {v:Value} {cs:List (List Value)} (h:Rw T k w base v cs) (K:KpT ok C w w') (hok:ok T) (hC:C≤base):Rw T k w' base v cs:=by
 refine ⟨?_,h.len,h.one⟩;obtain ⟨h1,h2⟩:=h.own;refine ⟨h1,?_⟩;rcases h2 with h0 | ⟨g,cap,cur,e,hbg,hh,r⟩
 ·exact .inl h0
 refine .inr ⟨g,cap,cur,e,hbg,?_,r⟩;rw [K g T cur (0,0) (by omega) hok hh];exact hh
structure Mm (base g:Nat) (w:World) (m:Mo):Prop where
 ex:∃ tv fv ct cf,Blk w g 43 #[tv,fv]∧Rw 48 4 w base tv ct∧Rw 51 18 w base fv cf∧Each (TbQ base) w ct m.ts∧Each (FeQ base) w cf m.fs
theorem Mm.mv {base g B:Nat} {w w':World} {m:Mo} (h:Mm base g w m) (M:Mv w.heap.size B w w') (hB:B<base) (hg:g≠B):Mm base g w' m:=by
 obtain ⟨tv,fv,ct,cf,b,r1,r2,e1,e2⟩:=h.ex;exact ⟨tv,fv,ct,cf,b.mv M hg b.lt,r1.mv M hB lr,r2.mv M hB lr,e1.map fun c x hq=>TbQ.kpT trivial trivial hq (M.kp hB),e2.map fun c x hq=>FeQ.kpT trivial trivial hq (M.kp hB)⟩
structure Mq (B g:Nat) (w w':World):Prop where
 size:w.heap.size≤w'.heap.size
 block:∀ k T cs fr,w.heap[k]? = some (.cells cs T fr)→k≠B→k≠g→T≠48→T≠51→w'.heap[k]? = w.heap[k]?
theorem Mq.mv {B g:Nat} {w w':World} (M:Mv w.heap.size B w w'):Mq B g w w':=⟨M.size,fun k _ _ _ hk hn _ _ _=>M.block k (fI hk) hn⟩
theorem Mq.trans {B g:Nat} {a b c:World} (h:Mq B g a b) (k:Mq B g b c):Mq B g a c :=
 ⟨L_f h.size k.size,fun i T cs fr hi hn hg h1 h2=>by
  have a1:=h.block i T cs fr hi hn hg h1 h2
  exact (k.block i T cs fr (a1.trans hi) hn hg h1 h2).trans a1⟩
theorem Ps.pass {w w1 w0:World} {B n cap:Nat} {ta:Option Addr} {l:List Tk} (h:Ps w B l) (c0:w.cell? ⟨B,0,none⟩=some (.slice ta n cap)) (hB:w1.heap[B]? = w.heap[B]?)
    (ht:∀ b off,ta=some ⟨b,off,none⟩→w1.heap[b]? = w.heap[b]?) (T:Tabo w0) (hb:Below w0.heap.size w0 w1) (hB0:w0.heap.size≤B):Ps w1 B l:=by
 obtain ⟨a,n',cap',L,q,d0,d1,z,S,hn,e⟩:=h.mem;rw [c0] at d0;cases d0;have hz:w1.frozen? ⟨B,1,none⟩=w.frozen? ⟨B,1,none⟩:=by simp only [World.frozen?,hB]
 refine ⟨⟨ta,n,cap,L,q,(World.cell?_of_block (w:=w) hB).trans c0,(World.cell?_of_block (w:=w) hB).trans d1,hz.trans z,{ S with hat:=S.hat.imp id fun ⟨b,off,ea,hC⟩=>⟨b,off,ea,fun j hj=>?_⟩ },hn,e⟩,h.tl,⟨w0,T,hb,hB0⟩,by
   obtain ⟨cs,fr,ht⟩:=h.tag
   exact ⟨cs,fr,hB.trans ht⟩⟩
 have hbk:=ht b off ea;exact ⟨(World.cell?_of_block (w:=w) hbk).trans (hC j hj).1,(World.cell?_of_block (w:=w) hbk).trans (hC j hj).2.1,(World.cell?_of_block (w:=w) hbk).trans (hC j hj).2.2⟩
structure Mf (w0:World) (base B g:Nat) (ta:Option Addr) (n cap:Nat) (w:World) (m:Mo) (l:List Tk):Prop where
 ps:Ps w B l
 cB:w.cell? ⟨B,0,none⟩=some (.slice ta n cap)
 tok:∀ b off,ta=some ⟨b,off,none⟩→b≠B∧b≠g∧Tg w b 119
 tabs:Tabo w0
 bel:Below w0.heap.size w0 w
 h1:w0.heap.size≤g
 h2:g<B
 h3:B<base
 h4:base≤w.heap.size
 mm:Mm base g w m
theorem Mf.step {w0:World} {base B g:Nat} {ta:Option Addr} {n cap:Nat} {w w':World} {m:Mo} {l l':List Tk} (h:Mf w0 base B g ta n cap w m l) (M:Mv w.heap.size B w w') (P:Ps w' B l'):Mf w0 base B g ta n cap w' m l' :=
 ⟨P,(M.c0 h.ps.lt).trans h.cB,fun b off e=>by
  obtain ⟨t1,t2,cs,fr,t3⟩:=h.tok b off e
  exact ⟨t1,t2,cs,fr,(M.block b (fI t3) t1).trans t3⟩,h.tabs,h.bel.trans (M.below (by have:=h.h1;have:=h.h2;omega) h.bel.size),h.h1,h.h2,h.h3,L_f h.h4 M.size,h.mm.mv M h.h3 (by have:=h.h2;omega)⟩
theorem Mf.zV {w0:World} {base B g:Nat} {ta:Option Addr} {n cap:Nat} {w w1 w2:World} {m:Mo} {l:List Tk} (h:Mf w0 base B g ta n cap w m l) (b1:Below w.heap.size w w1)
    {tv fv v':Value} {ct cf:List (List Value)} (hb:Blk w g 43 #[tv,fv]) (r1:Rw 48 4 w base tv ct) (r2:Rw 51 18 w base fv cf) (e1:Each (TbQ base) w ct m.ts) (e2:Each (FeQ base) w cf m.fs)
    (g2:w1.grownBy w2 tv.ownBlock) {c:List Value} {x:Tb} (O2:Rw 48 4 w2 base v' (ct++[c])) (hc:TbQ base w c x) :
    Mf w0 base B g ta n cap (w2.setCell ⟨g,0,none⟩ v') { m with ts:=m.ts++[x] } l∧Mq B g w (w2.setCell ⟨g,0,none⟩ v'):=by
 have h1:=h.h1;have h2:=h.h2;have h3:=h.h3;have h4:=h.h4;have s1:=b1.size;have K:KpT (fun T=>T≠48) 0 w1 w2:=Rw.grow (T:=48) (r1.keeps b1) g2 (by simp) 0;have B2:Below base w1 w2:=uh (r1.keeps b1) g2 (by omega);have M1:=h.step (Mv.of b1) (h.ps.keeps b1);have P2:=M1.ps.keep (B2.mono h3);have bk:=((hb.below b1 hb.lt).below B2 (by omega)).setCell 0 v';have hs:=bk.2;have K':∀ {ok:TypeId→Prop},(∀ T,ok T→T≠48)→KpT ok base w (w2.setCell ⟨g,0,none⟩ v'):=fun hok b T cs fr hC hT hcell=>by
  have a1:=b1.block b (fI hcell);have a2:=K b T cs fr zl (hok T hT) (a1.trans hcell);exact (hs.block b (by omega)).trans (a2.trans a1)
 have hBlk:(w2.setCell ⟨g,0,none⟩ v').heap[B]? = w1.heap[B]?:=(hs.block B (by omega)).trans (B2.block B h3);have hTok:∀ b off,ta=some ⟨b,off,none⟩→(w2.setCell ⟨g,0,none⟩ v').heap[b]? = w1.heap[b]?:=fun b off e=>by
  obtain ⟨t1,t2,cs,fr,t3⟩:=M1.tok b off e;exact (hs.block b t2).trans (K b _ cs fr zl (by decide) t3)
 have hbel:Below w0.heap.size w0 (w2.setCell ⟨g,0,none⟩ v'):=(M1.bel.trans (B2.mono (by omega))).trans (hs.below h1);have hsz:w.heap.size≤(w2.setCell ⟨g,0,none⟩ v').heap.size:=by have:=B2.size;have:=hs.size;omega
 refine ⟨⟨Ps.pass M1.ps M1.cB hBlk hTok h.tabs hbel (by omega),(World.cell?_of_block (w:=w1) hBlk).trans M1.cB,fun b off e=>?_,h.tabs,hbel,h1,h2,h3,by omega,⟨v',fv,ct++[c],cf,bk.1,?_,?_,?_,?_⟩⟩,hsz,fun k T cs fr hk hn hg hT1 hT2=>?_⟩
 ·obtain ⟨t1,t2,cs,fr,t3⟩:=M1.tok b off e;exact ⟨t1,t2,cs,fr,(hTok b off e).trans t3⟩
 ·exact O2.st hs (by omega)
 ·exact Rw.kpT (ok:=fun T=>T=51) r2 (K' (by rintro T rfl;decide)) rfl lr
 ·exact (e1.map fun c y hq=>TbQ.kpT (ok:=fun T=>T=82∨T=88) (.inl rfl) (.inr rfl) hq (K' (by rintro T (rfl | rfl) <;> decide))).push (TbQ.kpT (ok:=fun T=>T=82∨T=88) (.inl rfl) (.inr rfl) hc (K' (by rintro T (rfl | rfl) <;> decide)))
 ·exact e2.map fun c y hq=>FeQ.kpT (ok:=fun T=>T=82∨T=29) (.inl rfl) (.inr rfl) hq (K' (by rintro T (rfl | rfl) <;> decide))
 have a1:=b1.block k (fI hk);have a2:=K k T cs fr zl hT1 (a1.trans hk);exact (hs.block k hg).trans (a2.trans a1)
theorem Mf.VO {w0:World} {base B g:Nat} {ta:Option Addr} {n cap:Nat} {w w1 w2:World} {m:Mo} {l:List Tk} (h:Mf w0 base B g ta n cap w m l) (b1:Below w.heap.size w w1)
    {tv fv v':Value} {ct cf:List (List Value)} (hb:Blk w g 43 #[tv,fv]) (r1:Rw 48 4 w base tv ct) (r2:Rw 51 18 w base fv cf) (e1:Each (TbQ base) w ct m.ts) (e2:Each (FeQ base) w cf m.fs)
    (g2:w1.grownBy w2 fv.ownBlock) {c:List Value} {x:Fe} (O2:Rw 51 18 w2 base v' (cf++[c])) (hc:FeQ base w c x) :
    Mf w0 base B g ta n cap (w2.setCell ⟨g,1,none⟩ v') { m with fs:=m.fs++[x] } l∧Mq B g w (w2.setCell ⟨g,1,none⟩ v'):=by
 have h1:=h.h1;have h2:=h.h2;have h3:=h.h3;have h4:=h.h4;have s1:=b1.size;have K:KpT (fun T=>T≠51) 0 w1 w2:=Rw.grow (T:=51) (r2.keeps b1) g2 (by simp) 0;have B2:Below base w1 w2:=uh (r2.keeps b1) g2 (by omega);have M1:=h.step (Mv.of b1) (h.ps.keeps b1);have P2:=M1.ps.keep (B2.mono h3);have bk:=((hb.below b1 hb.lt).below B2 (by omega)).setCell 1 v';have hs:=bk.2;have K':∀ {ok:TypeId→Prop},(∀ T,ok T→T≠51)→KpT ok base w (w2.setCell ⟨g,1,none⟩ v'):=fun hok b T cs fr hC hT hcell=>by
  have a1:=b1.block b (fI hcell);have a2:=K b T cs fr zl (hok T hT) (a1.trans hcell);exact (hs.block b (by omega)).trans (a2.trans a1)
 have hBlk:(w2.setCell ⟨g,1,none⟩ v').heap[B]? = w1.heap[B]?:=(hs.block B (by omega)).trans (B2.block B h3);have hTok:∀ b off,ta=some ⟨b,off,none⟩→(w2.setCell ⟨g,1,none⟩ v').heap[b]? = w1.heap[b]?:=fun b off e=>by
  obtain ⟨t1,t2,cs,fr,t3⟩:=M1.tok b off e;exact (hs.block b t2).trans (K b _ cs fr zl (by decide) t3)
 have hbel:Below w0.heap.size w0 (w2.setCell ⟨g,1,none⟩ v'):=(M1.bel.trans (B2.mono (by omega))).trans (hs.below h1);have hsz:w.heap.size≤(w2.setCell ⟨g,1,none⟩ v').heap.size:=by have:=B2.size;have:=hs.size;omega
 refine ⟨⟨Ps.pass M1.ps M1.cB hBlk hTok h.tabs hbel (by omega),(World.cell?_of_block (w:=w1) hBlk).trans M1.cB,fun b off e=>?_,h.tabs,hbel,h1,h2,h3,by omega,⟨tv,v',ct,cf++[c],bk.1,?_,?_,?_,?_⟩⟩,hsz,fun k T cs fr hk hn hg hT1 hT2=>?_⟩
 ·obtain ⟨t1,t2,cs,fr,t3⟩:=M1.tok b off e;exact ⟨t1,t2,cs,fr,(hTok b off e).trans t3⟩
 ·exact Rw.kpT (ok:=fun T=>T=48) r1 (K' (by rintro T rfl;decide)) rfl lr
 ·exact O2.st hs (by omega)
 ·exact e1.map fun c y hq=>TbQ.kpT (ok:=fun T=>T=82∨T=88) (.inl rfl) (.inr rfl) hq (K' (by rintro T (rfl | rfl) <;> decide))
 ·exact (e2.map fun c y hq=>FeQ.kpT (ok:=fun T=>T=82∨T=29) (.inl rfl) (.inr rfl) hq (K' (by rintro T (rfl | rfl) <;> decide))).push (FeQ.kpT (ok:=fun T=>T=82∨T=29) (.inl rfl) (.inr rfl) hc (K' (by rintro T (rfl | rfl) <;> decide)))
 have a1:=b1.block k (fI hk);have a2:=K k T cs fr zl hT2 (a1.trans hk);exact (hs.block k hg).trans (a2.trans a1)
def Mst (w0:World) (base B g:Nat) (ta:Option Addr) (n cap:Nat) (m:Mo) (r:Rs Mo) (w:World) (e:Ending) (w':World):Prop :=
 match r with
 | .out=>True
 | .ok m' l=>e=.returned (.tuple #[])∧Mf w0 base B g ta n cap w' m' l∧Mq B g w w'
 | .no a c l=>e=thr a c∧Mf w0 base B g ta n cap w' m l∧Mq B g w w'
theorem eZ {w0:World} {base B g:Nat} {ta:Option Addr} {n cap:Nat} {m:Mo} {r:Rs Mo} {w w':World} {a c:Int} {l q:List Tk} (hf:Mf w0 base B g ta n cap w m q) (h:r=.no a c l) (P:Ps w' B l) (M:Mv w.heap.size B w w'):Mst w0 base B g ta n cap m r w (thr a c) w':=by
 rw [h];exact ⟨rfl,hf.step M P,.mv M⟩
theorem lJ {w0:World} {base B g:Nat} {ta:Option Addr} {n cap:Nat} {m m':Mo} {r:Rs Mo} {w w':World} {l:List Tk} (h:r=.ok m' l) (F:Mf w0 base B g ta n cap w' m' l) (Q:Mq B g w w'):Mst w0 base B g ta n cap m r w (.returned (.tuple #[])) w':=by
 rw [h];exact ⟨rfl,F,Q⟩
def spl (cs:Array Value):Nat→List Value→Array Value
 | _,[]=>cs
 | o,v :: r=>spl (cs.setIfInBounds o v) (o+1) r
theorem Blk.setCells {g:Nat} {T:TypeId} : ∀ (vs:List Value) (o:Nat) (w:World) (cs:Array Value),Blk w g T cs→Blk (w.setCells g o vs) g T (spl cs o vs)∧St g w (w.setCells g o vs)
 | [],_,_,_,h=>⟨h,rfl,rfl,rfl,rfl,fun _ _=>rfl⟩
 | v :: r,o,w,cs,h=>by
  have h1:=h.setCell o v
  have h2:=Blk.setCells r (o+1) _ _ h1.1
  exact ⟨h2.1,St.trans h1.2 h2.2⟩
def dQ:List Value→Nat→List Value→List Value
 | cs,_,[]=>cs
 | [],_,_=>[]
 | _ :: cs,0,v :: vs=>v :: dQ cs 0 vs
 | c :: cs,o+1,v :: vs=>c :: dQ cs o (v :: vs)
theorem fO (cs:List Value) (o:Nat):dQ cs o []=cs:=by cases cs <;> rfl
theorem jf:∀ (cs:List Value) (o:Nat) (v:Value) (r:List Value),dQ cs o (v :: r)=dQ (cs.set o v) (o+1) r
 | [],o,v,r=>by cases r <;> rfl
 | c :: cs,0,v,[]=>by simp [dQ,fO]
 | c :: cs,0,v,u :: r=>by simp [dQ]
 | c :: cs,o+1,v,[]=>by
  have:=jf cs o v []
  rw [fO] at this
  simp [dQ,fO,this]
 | c :: cs,o+1,v,u :: r=>by
  have:=jf cs o v (u :: r)
  simp [dQ,this]
theorem mV:∀ (vs:List Value) (cs:Array Value) (o:Nat),spl cs o vs=(dQ cs.toList o vs).toArray
 | [],cs,o=>by simp [spl,fO]
 | v :: r,cs,o=>by
  unfold spl
  rw [mV r,jf]
  simp
theorem tO {T:TypeId} {n:Nat} (hi:(Tryz.prog.info? T).map (·.size)=some n) {ops:Array Oper} {rest:List Oper} {o:Oper} {a:Act} {w:World} {Q:Exit→Act→World→Prop} (x y:Operand) (ho:o.op=.store T x y) (hgd:o.guard=none)
    (g off:Nat) (T':TypeId) (cells old:Array Value) (hx:a.eval x=.pointer (some ⟨g,off,none⟩)) (hy:a.eval y=.agg cells) (hB:Blk w g T' old) (hs:off+n≤old.size) (hc:cells.size=n) (h1:cells.all (·.oneCell')=true)
    (h:∀ w',Blk w' g T' (dQ old.toList off cells.toList).toArray→St g w w'→wpList Tryz.prog ops Q rest (a.put o.dst undef) w'):wpList Tryz.prog ops Q (o :: rest) a w:=by
 have hb:=Blk.setCells cells.toList off w old hB;rw [mV] at hb;refine wpList_store_mid hgd T x y ho g off cells hx hy (fun j hj=>⟨?_,hB.free _⟩) (by rw [hc];exact hi) h1 (h _ hb.1 hb.2);rw [hB.cell,Array.getElem?_eq_getElem (by omega)];rfl
end pa
end Go.Proofs.YtbahfelnbofjjaaGreatDoor
