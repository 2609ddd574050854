/-
  Without a pair of its parentheses a text is not read as the same; Slices of tokens; the law's helpers: call, opening, closing; Without a pair of its parentheses a text is no text of the same: the walk.
-/
import Derived.Test.YtbahfelnbofjjaaGreatDoorG31
set_option maxRecDepth 100000
set_option maxHeartbeats 16000000
namespace Go.Proofs.YtbahfelnbofjjaaGreatDoor
namespace ch
open Go.RowKit dec
theorem LW {l:List UInt8} (h:∀ c ∈ l,isD c=true):0≤jr l:=by
 cases l with
 | nil=>decide
 | cons c r =>
   have hc:=(jL c).1 (h c (List.mem_cons_self ..))
   have n45:¬ c.toNat=45:=by omega
   unfold jr
   split
   · rename_i v hv
     unfold Lib.atoiAll at hv
     simp only [n45] at hv
     split at hv
     · cases hv
     · cases hv
     · split at hv
       · cases hv
       · split at hv
         · cases hv
         · cases hv
           rw [if_neg (by exact id)]
           omega
   · exact Int.le_refl _
   · unfold Lib.atoiSat
     rw [if_neg (by simp;exact n45)]
     decide
theorem Sz {x:Tk} (h:pr x=true) (hk:x.k=2):0≤jr x.t.data.toList:=by
 have h1:=((gP x).1 h).1;rw [hk] at h1;have h2:so x=x.t.data.toList:=by unfold so;rw [if_neg (by omega)]
 rw [h2] at h1;exact LW (Eb h1).2
def sgn (s:ByteArray) (t:Tk):Prop:=t.k=5∧t.t=s
def tv (t:Tk):Int:=pv (kt t)
theorem MV {t:Tk} (h:sgn ⟨#[40]⟩ t):tv t=1:=by
 unfold tv pv kt;rw [if_pos h.1,if_pos h.2]
theorem KM {t:Tk} (h:sgn ⟨#[41]⟩ t):tv t = -1:=by
 unfold tv pv kt;rw [if_pos h.1,if_neg (show ¬ t.t=⟨#[40]⟩ by rw [h.2];decide),if_pos h.2]
theorem vY {t:Tk} (h1:¬ sgn ⟨#[40]⟩ t) (h2:¬ sgn ⟨#[41]⟩ t):tv t=0:=by
 unfold tv pv kt;by_cases hk:t.k=5
 ·rw [if_pos hk,if_neg (fun e=>h1 ⟨hk,e⟩),if_neg (fun e=>h2 ⟨hk,e⟩)]
 exact if_neg hk
def jT (l:List Tk) (j:Nat):Int:=((l.drop j).map tv).sum
theorem Ik {l:List Tk} {j:Nat} (h:j<l.length):jT l j=tv (tk.gt l j)+jT l (j+1):=by
 unfold jT;rw [List.drop_eq_getElem_cons h,List.map_cons,List.sum_cons,tk.dY h]
theorem KN {l:List Tk} {j:Nat} (h:l.length≤j):jT l j=0:=by
 unfold jT;rw [List.drop_eq_nil_of_le h];rfl
def Low (l:List Tk):Prop:=∀ j,jT l j≤0
def fO (l:List Tk) (i j:Nat):List Tk:=l.take i++(l.drop (i+1)).take (j - (i+1))++l.drop (j+1)
theorem Fq {l:List Tk} {i j:Nat} (h1:i<j) (h2:j<l.length):(fO l i j).length+2=l.length:=by
 unfold fO;simp only [List.length_append,List.length_take,List.length_drop];omega
theorem Fp {l:List Tk} {i j:Nat} {t:Tk} (h:t ∈ fO l i j):t ∈ l:=by
 unfold fO at h;rcases List.mem_append.1 h with h | h
 ·rcases List.mem_append.1 h with h | h
  ·exact List.mem_of_mem_take h
  exact List.mem_of_mem_drop (List.mem_of_mem_take h)
 exact List.mem_of_mem_drop h
theorem OE {l:List Tk} {e:Tk} {i j:Nat} (h1:i<j) (h2:j<l.length):fO (l++[e]) i j=fO l i j++[e]:=by
 unfold fO;rw [List.take_append_of_le_length (by omega),List.drop_append_of_le_length (by omega),List.drop_append_of_le_length (by omega),List.take_append_of_le_length (by rw [List.length_drop];omega)];simp only [List.append_assoc]
theorem tV (f:Tk→Nat):∀ (l:List Tk) (k:Nat),((l.drop (k+1)).map f).sum≤((l.drop k).map f).sum
 | [],k=>by simp
 | x :: l,0=>by simp
 | x :: l,k+1=>by rw [List.drop_succ_cons,List.drop_succ_cons];exact tV f l k
theorem pF (f:Tk→Nat) (l:List Tk) (k:Nat):((l.take k).map f).sum+((l.drop k).map f).sum=(l.map f).sum:=by
 rw [← List.sum_append,← List.map_append,List.take_append_drop]
theorem Nk (f:Tk→Nat) (l:List Tk) (i j:Nat) (h1:i<j):((fO l i j).map f).sum≤(l.map f).sum:=by
 have a:=pF f l i;have b:=tV f l i;have c:=pF f (l.drop (i+1)) (j - (i+1));rw [List.drop_drop,show i+1+(j - (i+1))=j by omega] at c;have d:=tV f l j;unfold fO;rw [List.map_append,List.map_append,List.sum_append,List.sum_append];omega
structure Txt (x:Ex) (l:List Tk):Prop where
 n:l.length=ctE x+1
 low:Low l
 small:l.length≤16385
 few:kG l
 cut:∀ i j,i<j→j<l.length→sgn ⟨#[41]⟩ (tk.gt l j)→kG (fO l i j)∧eB (fO l i j)=0 ∧
  ∀ b:ByteArray,eT (fO l i j)=b.data.toList→b.size≤16384∧∀ a,pa.dR (α:=Ex) ⟨h0,.nil⟩ pa.exR b≠(x,a,0)
theorem KR {x:Ex} (h:shE x=0) (hz:x.ar.sz≤3000) {s:ByteArray} (hs:s.data.toList=txE x):Txt x (cO s):=by
 have hw:=Co h hz;have g:=Ma (jy h);obtain ⟨L,e1,e2⟩:=xH g.w;rw [g.b,← hs] at e1;have hsz:s.size=(txE x).length:=by rw [← hs];exact (aI s).symm
 have hL:cO s=L++[iZ s]:=by rw [zT (by omega),e1]
 have hn:L.length=ctE x:=by
  have:=congrArg List.length e2;simpa [ctE] using this
 have hn':ctE x=(xkE x).length:=rfl;have hp:∀ y ∈ L,pr y=true:=by
  have:=vB 0 false s.data.toList;rw [e1] at this;exact this
 have c1:=qY s.data.toList _ 0 zl (xG s.data.toList 0 false s.data.toList rfl zl).1;rw [e1] at c1;simp only at c1;have c2:s.data.toList.length=s.size:=aI s;have c4:=pa.wh L hp;have te:tv (iZ s)=0:=vY (fun h=>absurd h.1 (show ¬ (6:Int)=5 by decide)) (fun h=>absurd h.1 (show ¬ (6:Int)=5 by decide));have hF:∀ t ∈ cO s,t.t.size≤1000000:=fun t ht=>by
  rw [hL] at ht;rcases List.mem_append.1 ht with ht | ht
  ·have:=c4.2 t ht;omega
  rw [List.mem_singleton] at ht;subst ht;show ByteArray.empty.size≤_;decide
 refine ⟨by rw [hL,List.length_append,List.length_singleton];omega,fun j=>?_,by rw [hL,List.length_append,List.length_singleton];omega,⟨hF,by rw [hL,List.length_append,List.length_singleton];omega⟩,fun i j h1 h2 h3=>?_⟩
 ·have bl:=(MO (jy h)).2 j;have e3:(xkE x).map (fun p=>pv p.2)=L.map tv:=by
   have:(xkE x).map (fun p=>pv p.2)=((xkE x).map (·.2)).map pv:=by rw [List.map_map];rfl
   rw [this,← e2,List.map_map];rfl
  rw [e3] at bl;have e4:((([iZ s]:List Tk).drop (j - L.length)).map tv).sum≤0:=by
   match j - L.length with
   | 0=>rw [List.drop_zero,List.map_singleton,te];decide
   | m+1=>simp
  have e5:jT (cO s) j=((L.map tv).drop j).sum+((([iZ s]:List Tk).drop (j - L.length)).map tv).sum:=by
   unfold jT;rw [hL,List.drop_append,List.map_append,List.sum_append,List.map_drop]
  rw [e5];omega
 have hjL:j<L.length:=by
  rcases Nat.lt_or_ge j L.length with h' | h'
  ·exact h'
  exfalso;have hj:j=L.length:=by rw [hL,List.length_append,List.length_singleton] at h2;omega
  rw [hL,hj,tk.dY (by rw [List.length_append,List.length_singleton];omega)] at h3;simp [iZ,sgn] at h3
 have hc:fO (cO s) i j=fO L i j++[iZ s]:=by rw [hL,OE h1 hjL]
 obtain ⟨R,hR⟩:∃ R,R=fO L i j:=⟨_,rfl⟩;have hRn:R.length+2=L.length:=by rw [hR];exact Fq h1 hjL
 have hRp:∀ y ∈ R,pr y=true:=fun y hy=>hp y (Fp (hR ▸ hy));have hst:gN (fO (cO s) i j)=R:=by rw [hc,← hR,FP]
 have q1:(R.map fun x=>(so x).length).sum≤(L.map fun x=>(so x).length).sum:=by
  rw [hR];exact Nk _ L i j h1
 have q2:=join_le R;have hj:=AV R 0 false hRp;have h4:joinL (fO (cO s) i j)=Lib.join (R.map so) [32]:=by unfold joinL;rw [hst]
 have h5:eB (fO (cO s) i j)=0:=by
  unfold eB;rw [h4,hst,if_pos (show iB R=true from List.all_eq_true.2 hRp),if_neg (by omega)]
 refine ⟨⟨fun t ht=>hF t (Fp ht),?_⟩,h5,fun b hb=>?_⟩
 ·have:=Fq (l:=cO s) h1 h2;have:(cO s).length=L.length+1:=by rw [hL,List.length_append,List.length_singleton]
  omega
 have hd:b.data.toList=Lib.join (R.map so) [32]:=by
  rw [← hb];unfold eT;rw [if_pos h5,h4]
 have hbz:b.size=(Lib.join (R.map so) [32]).length:=by rw [← aI,hd]
 have bz:¬ 16384<b.size:=by omega
 refine ⟨by omega,fun a ht=>?_⟩;rw [← hd] at hj;have hEb:gB b=0:=by unfold gB;rw [if_neg bz]
 have hBb:jw b=[]:=by unfold jw;rw [if_neg bz,hj.2];rfl
 have hTb:=zT bz;have hkt:(lxs 0 false b.data.toList).1.length=R.length:=by
  have:=congrArg List.length hj.1;simpa using this
 have hpb:∀ y ∈ (lxs 0 false b.data.toList).1,pr y=true:=vB 0 false b.data.toList;have hD:Dg (cO b):=fun t ht' hk=>by
  rw [hTb] at ht';rcases List.mem_append.1 ht' with ht' | ht'
  ·exact Sz (hpb t ht') hk
  rw [List.mem_singleton] at ht';subst ht';exact absurd hk (show ¬ (6:Int)=2 by decide)
 have hlen:(cO b).length=R.length+1:=by rw [hTb,List.length_append,List.length_singleton,hkt]
 unfold pa.dR at ht;rw [if_pos hEb,hBb] at ht;simp only at ht;split at ht
 ·rename_i y q hy;have hyx:y=x:=congrArg Prod.fst ht;subst hyx;unfold pa.jh at hy;obtain ⟨y',q',h1',h2'⟩:=bind_ok hy;obtain ⟨_,q'',h3',h4'⟩:=bind_ok h2';cases h4';have:=(Nz _ _ .ex _ _ _ h1' hD).2;simp only at this;omega
 ·rename_i a' c' l' hy;have:c'=0:=congrArg (fun p:Ex × Int × Int=>p.2.2) ht;exact absurd this (pa.RF (fun h=>pa.Rj h) hy)
 rename_i hy;exact absurd hy (pa.Fz (fun l=>pa.qM l) _)
end ch
namespace tk
open Go.RowKit dec
theorem HV (w:World) {o:Oper} {a:Act} {K:Act→World→Prop} {Q:Exit→Act→World→Prop} (s x:Operand)
    (ho:o.op=.call { callee:=.builtin .append,args:=#[s,x],argTypes:=#[65,65] })
    (base:Nat) (v:Value) (l:List Tk) (hs:a.eval s=v) (hown:Own w base v l) (ad:Option Addr) (n cap:Nat) (l2:List Tk) (hx:a.eval x=.slice ad n cap) (hS:Sl w ad n cap l2)
    (hn:l.length+n<4398046511104) (hbase:base≤w.heap.size)
    (h:∀ v' w',Own w' base v' (l++l2)→Below base w w'→w.grownBy w' v.ownBlock→K (a.put o.dst v') w'):o.wp Tryz.prog a w K Q:=by
 obtain ⟨i,hi,hz0,hz1,hz2⟩:=info_parts lG;have hln:=hS.hn
 cases ad with
 | none =>
   have h0:=hS.hno rfl
   have h1:=hS.hcap
   have hn0:n=0:=by omega
   subst h0
   subst hn0
   have hl2:l2=[]:=List.eq_nil_of_length_eq_zero hln
   subst hl2
   have hrun:=run_append_owned_none (P:=Tryz.prog) (w:=w) base 65 o.type 119 i 3 Tryz.underlying65 hi v l.length (cs l) hown
   unfold Oper.wp
   simp only [execOp,ho,resolve,invoke,builtin,Sem.run_bind,Sem.run_pure,Result.andThen_ok,List.map_toArray,List.map_cons,List.map_nil,hs,hx,hrun]
   exact h v w (by rw [List.append_nil];exact hown) (Below.refl _ _) ⟨rfl,rfl,rfl,Nat.le_refl _,fun _ _ _=>rfl⟩
 | some ad =>
   refine wp_append_own w s x 65 ho base 119 i (.agg #[.int .i64 0,.string .empty,.int .i64 0]) 3 32 Tryz.underlying65 hi hz0 hz1 hz2 rfl (by decide) v l.length (cs l) hs hown ad n cap (cs l2) hx (by rw [fq,hln]) ?_ (jc _)
     (by unfold maxLen;omega) (by omega) hbase fun v' w' h1 h2 _=>?_
   · intro j u hu
     have hj:j<l2.length * 3:=by
       rcases Nat.lt_or_ge j (cs l2).length with h' | h'
       · rwa [fq] at h'
       · rw [List.getElem?_eq_none h'] at hu;cases hu
     rcases hS.hat with h0 | ⟨b,off,e,hC⟩
     · omega
     · cases e
       have hp:(⟨b,off,none⟩:Addr).add j=⟨b,off+j,none⟩:=by
         unfold Addr.add
         by_cases h:j=0 <;> simp [h]
       rw [hp]
       obtain ⟨c0,c1,c2⟩:=hC (j / 3) (by omega)
       obtain ⟨e0,e1,e2⟩:=jq l2 (j / 3) (by omega)
       rcases (show j % 3=0∨j % 3=1∨j % 3=2 by omega) with hm | hm | hm
       · have ej:j / 3 * 3=j:=by omega
         rw [ej] at c0 e0
         rw [e0] at hu
         rw [c0,hu]
       · have ej:j / 3 * 3+1=j:=by omega
         rw [Nat.add_assoc,ej] at c1
         rw [ej] at e1
         rw [e1] at hu
         rw [c1,hu]
       · have ej:j / 3 * 3+2=j:=by omega
         rw [Nat.add_assoc,ej] at c2
         rw [ej] at e2
         rw [e2] at hu
         rw [c2,hu]
   · refine h v' w' ?_ (own_below hown h2 hbase) h2
     unfold Own
     rw [fu,List.length_append,hln]
     exact h1
end tk
namespace ch
open Go.RowKit dec
theorem sz3 (W:World):(Go.sizeOf 119).run Tryz.prog W=.ok 3 W:=by
 obtain ⟨i,h1,h2,h3,h4⟩:=info_parts tk.lG;rw [run_sizeOf W h1,show Tryz.prog.cellsOf 119=3 by kernel_rfl]
theorem KW (t e:TypeId) (ht:Tryz.prog.underlying t=some (.slice (Tryz.prog.elem t))) (he:Tryz.prog.elem t=e) (z:Nat) (hz:∀ W,(Go.sizeOf e).run Tryz.prog W=.ok z W) (a:Option Addr) (n cap m:Nat) (hm:m≤cap) (W:World) :
    (Instr.slice t (.slice a n cap) none (some (.int .i64 (m:Nat))) none).run Tryz.prog W=.ok (.slice a m cap) W:=by
 rw [run_slice_h W t a n cap ht .i64 _ (by omega) (by omega),he,hz,Int.toNat_natCast];have h:(if cap=0 then a else a.map (·.add (0 * z)))=a:=by
  rw [Nat.zero_mul];split
  ·rfl
  cases a with
  | none=>rfl
  | some a=>simp [Addr.add]
 show Result.ok (Value.slice (if cap=0 then a else a.map (·.add (0 * z))) (m - 0) (cap - 0)) W=_;rw [h];rfl
theorem FU (t e:TypeId) (ht:Tryz.prog.underlying t=some (.slice (Tryz.prog.elem t))) (he:Tryz.prog.elem t=e) (z:Nat) (hz:∀ W,(Go.sizeOf e).run Tryz.prog W=.ok z W) (a:Option Addr) (n cap m:Nat) (hm:m≤n) (W:World) :
    (Instr.slice t (.slice a n cap) (some (.int .i64 (m:Nat))) none none).run Tryz.prog W=.ok (.slice (if cap=m then a else a.map (·.add (m * z))) (n - m) (cap - m)) W:=by
 rw [run_slice_l W t a n cap ht .i64 _ (by omega) (by omega),he,hz,Int.toNat_natCast];rfl
theorem DW {w:World} {a:Option Addr} {n cap:Nat} {l:List Tk} (h:tk.Sl w a n cap l) {m:Nat} (hm:m≤n):tk.Sl w (if cap=m then a else a.map (·.add (m * 3))) (n - m) (cap - m) (l.drop m):=by
 have hn:=h.hn;have hc:=h.hcap;have hx:=h.hmax;refine ⟨?_,by rw [List.length_drop];omega,by omega,by omega,?_⟩
 ·by_cases h0:n=m
  ·exact .inl (by rw [List.length_drop];omega)
  rcases h.hat with h1 | ⟨b,off,rfl,hC⟩
  ·omega
  refine .inr ⟨b,off+m * 3,?_,?_⟩
  ·rw [if_neg (by omega)];by_cases h2:m=0
   ·subst h2;simp [Addr.add]
   simp [Addr.add,show ¬ m * 3=0 by omega]
  have:=hC.cut m (l.length - m);rw [List.take_of_length_le (by rw [List.length_drop];omega)] at this;exact this
 intro hn0;split at hn0
 ·have:=h.hno hn0;omega
 cases a with
 | none=>have:=h.hno rfl;omega
 | some a=>cases hn0
theorem FV (t e:TypeId) (ht:Tryz.prog.underlying t=some (.slice (Tryz.prog.elem t))) (he:Tryz.prog.elem t=e) (z:Nat) (hz:∀ W,(Go.sizeOf e).run Tryz.prog W=.ok z W) (a:Option Addr) (n cap i j:Nat) (h1:i≤j) (h2:j≤cap) (W:World) :
    (Instr.slice t (.slice a n cap) (some (.int .i64 (i:Nat))) (some (.int .i64 (j:Nat))) none).run Tryz.prog W=.ok (.slice (if cap=i then a else a.map (·.add (i * z))) (j - i) (cap - i)) W:=by
 rw [run_slice_lh W t a n cap ht .i64 .i64 _ _ (by omega) (by omega) (by omega),he,hz,Int.toNat_natCast,Int.toNat_natCast];rfl
theorem Je (t:Tk) (w:World):Calls Tryz.prog 92 #[.agg #[.int .i64 t.k,.string t.t,.int .i64 t.a]] w fun e w' => ∃ b,e=.returned (.bool b)∧Below w.heap.size w w':=by
 obtain ⟨k,s,a⟩:=t;simp only;have BB:=Hy (au (b0 w) (.cells #[.int .i64 k,.string s,.int .i64 a] 119));have G:=Blk.new w 119 #[.int .i64 k,.string s,.int .i64 a];have c0:=G.cell 0;have c1:=G.cell 1;simp only [sz2,sz3,sz4] at c0 c1;clear G
 go_enter Tryz.func92,Tryz.ntmps92
 go_upto_region 1 with fail
 generalize hw0:(w.alloc (.cells #[.int .i64 k,.string s,.int .i64 a] 119))=w0 at *;clear hw0;have SS:=Hy (show (w0.drew.cell? ⟨w.heap.size,0,none⟩=some (.int .i64 k)∧w0.drew.cell? ⟨w.heap.size,1,none⟩=some (.string s))∧Below w.heap.size w w0.drew from ⟨⟨c0,c1⟩,BB.o.drew⟩);by_cases hk:k=1
 ·have q1:=bB hk;by_cases ho:s=⟨[111,102].toArray⟩
  ·have q2:(s.toList==[111,102])=true:=by rw [eqL];exact dT ho
   clear hk ho;clear SS;have g0:=cell_regrown c0;have g1:=cell_regrown c1;refine wp_region_quiet_below (by kernel_rfl) (by kernel_rfl) ?_
   repeat (first | go_big_quiet_skip | (go_big_quiet_want;go_big_quiet_op;go_big_quiet_on))
   refine wpQuiet_nil ?_;intro w9 hw9;have B9:=Hy (aA BB.o (jd hw9));clear hw9;go_wp2_with fail;go_ret;exact ⟨_,rfl,B9.o⟩
  have q2:(s.toList==[111,102])=false:=by rw [eqL];exact dF ho
  by_cases hn:s=⟨[110,117,108,108].toArray⟩
  ·have q3:(s.toList==[110,117,108,108])=true:=by rw [eqL];exact dT hn
   clear hk ho hn;clear SS;have g0:=cell_regrown c0;have g1:=cell_regrown c1;refine wp_region_quiet_below (by kernel_rfl) (by kernel_rfl) ?_
   repeat (first | go_big_quiet_skip | (go_big_quiet_want;go_big_quiet_op;go_big_quiet_on))
   refine wpQuiet_nil ?_;intro w9 hw9;have B9:=Hy (aA BB.o (jd hw9));clear hw9;go_wp2_with fail;go_ret;exact ⟨_,rfl,B9.o⟩
  have q3:(s.toList==[110,117,108,108])=false:=by rw [eqL];exact dF hn
  clear hk ho hn;refine wp_region_held_drew (S:=fun w' => (w'.cell? ⟨w.heap.size,0,none⟩=some (.int .i64 k)∧w'.cell? ⟨w.heap.size,1,none⟩=some (.string s))∧Below w.heap.size w w') (by kernel_rfl) SS.o (fun hH=>?_);clear c0 c1 SS BB;refine ak 0 3 ?_ hH (fun w' hS=>?_) ?_;rotate_left
  ·go_simp;try with_reducible rfl
  simp only [sz0,sz1];refine ak 1 4 ?_ hH (fun w' hS=>?_) ?_;rotate_left
  ·have e0:=hS.1.1;go_simp;try with_reducible rfl
  simp only [sz0,sz1];refine ak 2 5 ?_ hH (fun w' hS=>?_) ?_;rotate_left
  ·go_simp;try with_reducible rfl
  simp only [sz0,sz1];refine ak 3 6 ?_ hH (fun w' hS=>?_) ?_;rotate_left
  ·go_simp;try with_reducible rfl
  simp only [sz0,sz1];refine ak 4 7 ?_ hH (fun w' hS=>?_) ?_;rotate_left
  ·go_simp;try with_reducible rfl
  simp only [sz0,sz1];refine ak 5 8 ?_ hH (fun w' hS=>?_) ?_;rotate_left
  ·have e1:=hS.1.2;go_simp;try with_reducible rfl
  simp only [sz0,sz1];refine ak 6 9 ?_ hH (fun w' hS=>?_) ?_;rotate_left
  ·go_simp;try with_reducible rfl
  simp only [sz0,sz1];refine ak 7 10 ?_ hH (fun w' hS=>?_) ?_;rotate_left
  ·go_simp;try with_reducible rfl
  simp only [sz0,sz1];refine ak 8 11 ?_ hH (fun w' hS=>?_) ?_;rotate_left
  ·go_simp;try with_reducible rfl
  simp only [sz0,sz1];refine ak 9 12 ?_ hH (fun w' hS=>?_) ?_;rotate_left
  ·have e1:=hS.1.2;go_simp;try with_reducible rfl
  simp only [sz0,sz1];refine ak 10 13 ?_ hH (fun w' hS=>?_) ?_;rotate_left
  ·go_simp;try with_reducible rfl
  simp only [sz0,sz1];refine ak 11 14 ?_ hH (fun w' hS=>?_) ?_;rotate_left
  ·go_simp;try with_reducible rfl
  simp only [sz0,sz1];refine ak 12 15 ?_ hH (fun w' hS=>?_) ?_;rotate_left
  ·go_simp;try with_reducible rfl
  simp only [sz0,sz1];refine ak 13 16 ?_ hH (fun w' hS=>?_) ?_;rotate_left
  ·go_simp;try with_reducible rfl
  simp only [sz0,sz1];refine ak 14 17 ?_ hH (fun w' hS=>?_) ?_;rotate_left
  ·have e1:=hS.1.2;go_simp;try with_reducible rfl
  simp only [sz0,sz1];refine aC 15 (fun K hK=>?_);go_simp;refine (qV _).mono ?_;rintro e w5 ⟨aq,rfl,A5,b5⟩;refine hK.o _ _ ⟨⟨dec.keeps b5 hH.1.1,dec.keeps b5 hH.1.2⟩,aA hH.2 b5⟩ (fun hH=>?_);clear hK K b5;refine aC 16 (fun K hK=>?_);go_simp;refine (rG s aq 10 ji (by decide) _ A5).mono ?_;rintro e w6 ⟨rfl,rfl⟩;refine hK.o _ _ hH (fun hH=>?_);clear hK K A5;generalize (ji.any fun t=>decide (t=s))=bq;refine ak 17 20 ?_ hH (fun w' hS=>?_) ?_;rotate_left
  ·go_simp;try with_reducible rfl
  simp only [sz0,sz1];refine ak 18 21 ?_ hH (fun w' hS=>?_) ?_;rotate_left
  ·go_simp;try with_reducible rfl
  simp only [sz0,sz1];refine ak 19 2 ?_ hH (fun w' hS=>?_) ?_;rotate_left
  ·go_simp;try with_reducible rfl
  simp only [sz0,sz1];refine wpAnyH_done (by kernel_rfl) ?_ _;go_wp2_with fail;go_ret;exact ⟨_,rfl,hH.2⟩
 have q1:=bg hk;clear hk;clear SS;have g0:=cell_regrown c0;have g1:=cell_regrown c1;refine wp_region_quiet_below (by kernel_rfl) (by kernel_rfl) ?_
 repeat (first | go_big_quiet_skip | (go_big_quiet_want;go_big_quiet_op;go_big_quiet_on))
 refine wpQuiet_nil ?_;intro w9 hw9;have B9:=Hy (aA BB.o (jd hw9));clear hw9;go_wp2_with fail;go_ret;exact ⟨_,rfl,B9.o⟩
theorem CY (l:List Tk) (a:Option Addr) (n c:Nat) (q0:Int) (hq:0≤q0∧q0≤9223372036854775807) (w:World) (hA:tk.Sl w a n c l) (hF:n≤100000):Calls Tryz.prog 36 #[.slice a n c,.int .i64 q0] w fun e w' => ∃ r:Int,e=.returned (.int .i64 r)∧(r<0∨∃ i:Nat,r=(i:Nat)∧i<l.length∧sgn ⟨#[40]⟩ (tk.gt l i))∧Below w.heap.size w w':=by
 have h1:=Hy hA;have hf:=Hy hF;clear hA hF
 go_enter Tryz.func36,Tryz.ntmps36
 go_wp2_with fail
 go_loopw [1,5] (fun vn vi wr => ∃ (q:Int) (j:Nat),vn=.int .i64 q∧vi=.int .i64 (j:Nat)∧Hid (0≤q∧q≤9223372036854775807)∧Hid (j≤n)∧Hid (Below w.heap.size w wr)) (fun _ vi _=>n - (intOf vi).toNat)
 case atStart=>exact ⟨q0,0,rfl,rfl,Hy hq,Hy zl,Hy (b0 w)⟩
 case round =>
  clear hq;obtain ⟨q,j,rfl,rfl,hq,hj,hb⟩:=hrel;by_cases hlt:j<n
  ·have q1:decide ((j:Int)<(n:Int))=true:=dT (by omega);have i1:(j:Int)<(n:Int):=by omega
   have hlt2:=Hy hlt;have hl:=h1.o.hn;have hlj:j<l.length:=by omega
   have f4:=Hy (aS (j:=j) (by have:=hf.o;omega));obtain ⟨b,off,hab,hC⟩:=(h1.o.keeps hb.o).hat.resolve_left (by omega);subst hab;obtain ⟨c0,c1,c2⟩:=hC j hlj;have hg:=Hy (show ∀ x,tk.gt l j=x→sgn ⟨#[40]⟩ x→∃ i:Nat,(j:Int)=(i:Nat)∧i<l.length∧sgn ⟨#[40]⟩ (tk.gt l i) from fun x e h=>⟨j,rfl,hlj,by rw [e];exact h⟩);have hp:=Hy (fun (d0:0<j)=>hC (j - 1) (by omega));clear hC hl hlj;generalize hx:tk.gt l j=x at *;replace hx:=Hy hx;obtain ⟨k,s,a⟩:=x;simp only at c0 c1 c2;by_cases hk:k=5
   ·have q2:=bB hk;by_cases ht:s=⟨[40].toArray⟩
    ·have q3:(s.toList==[40])=true:=by rw [eqL];exact dT ht
     have hs:=Hy (hg.o _ rfl ⟨hk,ht⟩);clear hk ht hg;by_cases h0:j=0
     ·subst h0;have q4:(((0:Nat):Int)==0)=true:=rfl;simp only [Nat.zero_mul,Nat.add_zero] at c0 c1 c2;clear hp;by_cases hz:q=0
      ·have q5:=bB hz;clear hz;go_wp2_with fail;go_ret;exact ⟨_,rfl,.inr hs.o,hb.o⟩
      have q5:=bg hz;have f6:wrap64 (q - 1)=q - 1:=by have:=hq.o;unfold wrap64;omega
      have hq2:=Hy (show 0≤q - 1∧q - 1≤9223372036854775807 from by have:=hq.o;omega);clear hz;go_wp2_with fail
      first | exact ⟨⟨q - 1,j+1,by first | rfl | exact congrArg (Value.int .i64) f6,congrArg (Value.int .i64) f4.o,hq2,Hy hlt2.o,hb⟩,aN hlt2.o f4.o⟩ | exact ⟨⟨q - 1,0+1,by first | rfl | exact congrArg (Value.int .i64) f6,rfl,hq2,Hy hlt2.o,hb⟩,aN hlt2.o rfl⟩
     have q4:((j:Int)==0)=false:=bg (by omega);have f5:wrap64 ((j:Int) - 1)=((j - 1:Nat):Int):=by have:=hf.o;unfold wrap64;omega
     obtain ⟨d0,d1,d2⟩:=hp.o (by omega);have i2:((j - 1:Nat):Int)<(n:Int):=by omega
     have i3:(0:Int)≤((j - 1:Nat):Int):=by omega
     clear hp h0;generalize tk.gt l (j - 1)=y at *;generalize j - 1=jj at *;obtain ⟨k2,s2,a2⟩:=y;simp only at d0 d1 d2;have CC:=Hy (Je ⟨k2,s2,a2⟩);go_wp2_with fail;refine (CC.o _).mono ?_;rintro e w5 ⟨bq,rfl,b5⟩;replace hb:=Hy (aA hb.o b5);clear b5 CC d0 d1 d2 c0 c1 c2;cases bq
     ·by_cases hz:q=0
      ·have q5:=bB hz;clear hz;go_wp2_with fail;go_ret;exact ⟨_,rfl,.inr hs.o,hb.o⟩
      have q5:=bg hz;have f6:wrap64 (q - 1)=q - 1:=by have:=hq.o;unfold wrap64;omega
      have hq2:=Hy (show 0≤q - 1∧q - 1≤9223372036854775807 from by have:=hq.o;omega);clear hz;go_wp2_with fail
      first | exact ⟨⟨q - 1,j+1,by first | rfl | exact congrArg (Value.int .i64) f6,congrArg (Value.int .i64) f4.o,hq2,Hy hlt2.o,hb⟩,aN hlt2.o f4.o⟩ | exact ⟨⟨q - 1,0+1,by first | rfl | exact congrArg (Value.int .i64) f6,rfl,hq2,Hy hlt2.o,hb⟩,aN hlt2.o rfl⟩
     go_wp2_with fail;exact ⟨⟨q,j+1,rfl,congrArg (Value.int .i64) f4.o,hq,Hy hlt2.o,hb⟩,aN hlt2.o f4.o⟩
    have q3:(s.toList==[40])=false:=by rw [eqL];exact dF ht
    clear hk ht hp hg;go_wp2_with fail;exact ⟨⟨q,j+1,rfl,congrArg (Value.int .i64) f4.o,hq,Hy hlt2.o,hb⟩,aN hlt2.o f4.o⟩
   have q2:=bg hk;clear hk hp hg;go_wp2_with fail;exact ⟨⟨q,j+1,rfl,congrArg (Value.int .i64) f4.o,hq,Hy hlt2.o,hb⟩,aN hlt2.o f4.o⟩
  have q1:decide ((j:Int)<(n:Int))=false:=dF (by omega);go_wp2_with fail;go_ret;exact ⟨-1,rfl,.inl (by decide),hb.o⟩
theorem Dq (l:List Tk) (a:Option Addr) (n c i0:Nat) (w:World) (hA:tk.Sl w a n c l) (hF:n≤100000) (hL:Low l) (hi:i0<l.length) (ho:sgn ⟨#[40]⟩ (tk.gt l i0)):Calls Tryz.prog 37 #[.slice a n c,.int .i64 (i0:Nat)] w fun e w' => ∃ r:Int,e=.returned (.int .i64 r)∧(∃ i:Nat,r=(i:Nat)∧i0<i∧i<l.length∧sgn ⟨#[41]⟩ (tk.gt l i))∧w=w':=by
 have h1:=Hy hA;have hf:=Hy hF;have hn:=Hy hA.hn;have hlo:=Hy hL;have hop:=Hy ho;have hat:=Hy hi;clear hA hF hL ho hi
 go_enter Tryz.func37,Tryz.ntmps37
 go_wp2_with fail
 go_loopw [5,6] (fun vo vi wr => ∃ (o:Int) (j:Nat),vo=.int .i64 o∧vi=.int .i64 (j:Nat)∧Hid (j≤n)∧Hid ((j=i0∧o=0)∨(i0<j∧1≤o∧o≤(j:Int)∧o+jT l j≤0))∧wr=w) (fun _ vi _=>n - (intOf vi).toNat)
 case atStart=>exact ⟨0,i0,rfl,rfl,Hy (by have:=hat.o;have:=hn.o;omega),Hy (.inl ⟨rfl,rfl⟩),rfl⟩
 case round =>
  obtain ⟨o,j,rfl,rfl,hj,hI,rfl⟩:=hrel;by_cases hlt:j<n
  ·have q1:decide ((j:Int)<(n:Int))=true:=dT (by omega);have i1:(j:Int)<(n:Int):=by omega
   have hlt2:=Hy hlt;have hlj:j<l.length:=by have:=hn.o;omega
   have f4:=Hy (aS (j:=j) (by have:=hf.o;omega));obtain ⟨b,off,hab,hC⟩:=h1.o.hat.resolve_left (by omega);subst hab;obtain ⟨c0,c1,c2⟩:=hC j hlj;have hts:=Hy (Ik hlj);have hjl:=Hy hlj;clear hC hlj;have hie:=Hy (show j=i0→sgn ⟨#[40]⟩ (tk.gt l j) from fun e=>by rw [e];exact hop.o);have hfin:=Hy (show ∀ x,tk.gt l j=x→sgn ⟨#[41]⟩ x→i0<j→∃ i:Nat,(j:Int)=(i:Nat)∧i0<i∧i<l.length∧sgn ⟨#[41]⟩ (tk.gt l i) from fun x e h h' => ⟨j,rfl,h',hjl.o,by rw [e];exact h⟩);generalize hx:tk.gt l j=x at *;replace hx:=Hy hx;obtain ⟨k,s,a⟩:=x;simp only at c0 c1 c2;have hLa:=Hy (hlo.o i0);by_cases hk:k=5
   ·have q2:=bB hk;by_cases ht:s=⟨[40].toArray⟩
    ·have q3:(s.toList==[40])=true:=by rw [eqL];exact dT ht
     have q4:(s.toList==[41])=false:=by rw [eqL];exact dF (by rw [ht];decide)
     have hv:=Hy (MV (t:=⟨k,s,a⟩) ⟨hk,ht⟩);have f6:=Hy (show wrap64 (o+1)=o+1 from by have:=hI.o;have:=hf.o;have:=hlt2.o;unfold wrap64;omega);have hI2:=Hy (show ((j+1=i0∧o+1=0)∨(i0<j+1∧1≤o+1∧o+1≤((j+1:Nat):Int)∧o+1+jT l (j+1)≤0)) from by
       right
       have h1:=hI.o
       have h2:=hts.o
       have h3:=hv.o
       have h4:=hLa.o
       rw [h3] at h2
       rcases h1 with ⟨h1,h5⟩ | ⟨h1,h5,h6,h7⟩
       · subst h1
         refine ⟨by omega,by omega,by omega,by omega⟩
       · refine ⟨by omega,by omega,by omega,by omega⟩)
     clear hk ht hv hI hts hie hfin hLa;have f7:=f6.o;go_wp2_with fail;exact ⟨⟨o+1,j+1,by first | rfl | exact congrArg (Value.int .i64) f6.o,congrArg (Value.int .i64) f4.o,Hy hlt2.o,Hy (hI2.o),by first | rfl | trivial⟩,aN hlt2.o f4.o⟩
    have q3:(s.toList==[40])=false:=by rw [eqL];exact dF ht
    have hn1:¬ sgn ⟨#[40]⟩ (⟨k,s,a⟩:Tk):=fun h=>ht h.2;by_cases hc:s=⟨[41].toArray⟩
    ·have q4:(s.toList==[41])=true:=by rw [eqL];exact dT hc
     have hv:=Hy (KM (t:=⟨k,s,a⟩) ⟨hk,hc⟩);have hne:j≠i0:=fun e=>hn1 (hie.o e);have hJ:=Hy (show i0<j∧1≤o∧o≤(j:Int)∧o - 1+jT l (j+1)≤0 from by
       have h1:=hI.o
       have h2:=hts.o
       have h3:=hv.o
       rw [h3] at h2
       rcases h1 with ⟨h1,_⟩ | ⟨h1,h4,h5,h6⟩
       · exact absurd h1 hne
       · exact ⟨h1,h4,h5,by omega⟩)
     have f6:=Hy (show wrap64 (o - 1)=o - 1 from by have:=hJ.o;have:=hf.o;have:=hlt2.o;unfold wrap64;omega);have f7:=f6.o;have hF:=Hy (hfin.o _ rfl ⟨hk,hc⟩ hJ.o.1);clear hk ht hc hv hI hts hie hfin hLa hn1 hne;by_cases hz:o - 1=0
     ·have q5:=bB hz;clear hz;go_wp2_with fail;go_ret;exact ⟨_,rfl,hF.o,by first | rfl | trivial⟩
     ·have hI2:=Hy (show ((j+1=i0∧o - 1=0)∨(i0<j+1∧1≤o - 1∧o - 1≤((j+1:Nat):Int)∧o - 1+jT l (j+1)≤0)) from by
        right
        have h1:=hJ.o
        refine ⟨by omega,by omega,by omega,by omega⟩)
      have q5:=bg hz;clear hz;go_wp2_with fail;exact ⟨⟨o - 1,j+1,by first | rfl | exact congrArg (Value.int .i64) f6.o,congrArg (Value.int .i64) f4.o,Hy hlt2.o,Hy (hI2.o),by first | rfl | trivial⟩,aN hlt2.o f4.o⟩
    have q4:(s.toList==[41])=false:=by rw [eqL];exact dF hc
    have hn2:¬ sgn ⟨#[41]⟩ (⟨k,s,a⟩:Tk):=fun h=>hc h.2;clear hk ht hc;have hv:=Hy (vY (t:=⟨k,s,a⟩) hn1 hn2);have hne:j≠i0:=fun e=>hn1 (hie.o e);have hI2:=Hy (show ((j+1=i0∧o=0)∨(i0<j+1∧1≤o∧o≤((j+1:Nat):Int)∧o+jT l (j+1)≤0)) from by
      right
      have h1:=hI.o
      have h2:=hts.o
      have h3:=hv.o
      rw [h3] at h2
      rcases h1 with ⟨h1,_⟩ | ⟨h1,h4,h5,h6⟩
      · exact absurd h1 hne
      · refine ⟨by omega,h4,by omega,by omega⟩)
    clear hn1 hn2 hne hv hI hts hie hfin hLa;go_wp2_with fail;exact ⟨⟨o,j+1,by first | rfl | exact congrArg (Value.int .i64) f6.o,congrArg (Value.int .i64) f4.o,Hy hlt2.o,Hy (hI2.o),by first | rfl | trivial⟩,aN hlt2.o f4.o⟩
   have q2:=bg hk;have hn1:¬ sgn ⟨#[40]⟩ (⟨k,s,a⟩:Tk):=fun h=>hk h.1;have hn2:¬ sgn ⟨#[41]⟩ (⟨k,s,a⟩:Tk):=fun h=>hk h.1;clear hk;have hv:=Hy (vY (t:=⟨k,s,a⟩) hn1 hn2);have hne:j≠i0:=fun e=>hn1 (hie.o e);have hI2:=Hy (show ((j+1=i0∧o=0)∨(i0<j+1∧1≤o∧o≤((j+1:Nat):Int)∧o+jT l (j+1)≤0)) from by
     right
     have h1:=hI.o
     have h2:=hts.o
     have h3:=hv.o
     rw [h3] at h2
     rcases h1 with ⟨h1,_⟩ | ⟨h1,h4,h5,h6⟩
     · exact absurd h1 hne
     · refine ⟨by omega,h4,by omega,by omega⟩)
   clear hn1 hn2 hne hv hI hts hie hfin hLa;go_wp2_with fail;exact ⟨⟨o,j+1,by first | rfl | exact congrArg (Value.int .i64) f6.o,congrArg (Value.int .i64) f4.o,Hy hlt2.o,Hy (hI2.o),by first | rfl | trivial⟩,aN hlt2.o f4.o⟩
  exfalso;have h1:=hI.o;have h2:=hat.o;have h3:=hn.o;have h4:=KN (l:=l) (j:=j) (by omega);rw [h4] at h1;omega
theorem Pz {s:ByteArray} {tr:Ex × Int × Int} (e:pa.dR (α:=Ex) ⟨h0,.nil⟩ pa.exR s=tr):tr.1.sm:=by
 subst e;unfold pa.dR;split
 ·split
  ·exact oU.sm
  split
  ·rename_i x l hx;unfold pa.jh at hx;obtain ⟨y,q,h1,h2⟩:=bind_ok hx;obtain ⟨_,q',h3,h4⟩:=bind_ok h2;cases h4;exact Sw _ _ .ex _ _ _ trivial h1
  ·exact oU.sm
  exact oU.sm
 exact oU.sm
theorem Iw (s:ByteArray) (x:Ex) (a1 c1:Int) (e:pa.dR (α:=Ex) ⟨h0,.nil⟩ pa.exR s=(x,a1,c1)) (a:Option Addr) (n c:Nat) (W:World) (hS:Bs W a n c s) (T:Tabo W) :
  Calls Tryz.prog 27 #[.slice a n c] W fun en w' => ∃ ua uc aa ac,en=.returned (.tuple #[.agg (exC x.h x.ar.len ua uc aa ac),.int .i64 a1,.int .i64 c1])∧Ec w' x ua uc aa ac∧Below W.heap.size W w' :=
 (pa.KO a n c s W hS T _ e).mono fun en w' ⟨v,he,V,b⟩=>by
  obtain ⟨ua,uc,aa,ac,hv,E⟩:=Oz V (Pz e)
  subst hv
  exact ⟨ua,uc,aa,ac,he,E,b⟩
theorem elT:Tryz.prog.underlying 65=some (.slice (Tryz.prog.elem 65))∧Tryz.prog.elem 65=119:=by
 have he:Tryz.prog.elem 65=119:=by kernel_rfl
 exact ⟨by rw [he];exact Tryz.underlying65,he⟩
theorem Nn {w:World} {a:Option Addr} {n cap:Nat} {l:List Tk} (h:tk.Sl w a n cap l) {i j:Nat} (hi:i≤j) (hj:j≤n):tk.Sl w (if cap=i then a else a.map (·.add (i * 3))) (j - i) (cap - i) ((l.drop i).take (j - i)) :=
 wS (DW h (show i≤n by omega)) (by omega)
theorem Cz (x:Ex) (n0:Int) (hi0:n0≤9223372036854775807) (ua aa:Option Addr) (uc ac:Nat) (w:World) (hx:x.szs) (hA:Ec w x ua uc aa ac) (T:Tabq w) (O:Opt w):Calls Tryz.prog 8 #[.agg (exC x.h x.ar.len ua uc aa ac),.int .i64 n0] w (Bl true w):=by
 have bb:=au (b0 w) (.cells (exC x.h x.ar.len ua uc aa ac) 29);have B:=Hy bb;have G1:=Hy (Blk.new w 29 (exC x.h x.ar.len ua uc aa ac));have CE:=Hy (fun (W:World) (b:Below w.heap.size w W)=>Dm W (T.stays b));have Fx:=Hy (fun (W:World) (b:Below w.heap.size w W)=>Ou x 100 ua aa uc ac W hx (by decide) (by decide) (hA.keeps b));have Sx:=Hy (fun (W:World) (b:Below w.heap.size w W)=>Gf x ua aa uc ac W hx (hA.keeps b));have Px:=Hy (fun (hz:x.ar.sz≤3000) (W:World) (b:Below w.heap.size w W)=>qA x ua aa uc ac W hx hz (hA.keeps b) (T.stays b));have XE:=Hy (fun (y:Ex) (va wa:Option Addr) (vc wc:Nat) (W:World) (b:Below w.heap.size w W) (hE:Ec W y va vc wa wc)=>IQ x y ua aa va wa uc ac vc wc W (hA.keeps b) hE);have TT:=Hy (fun (W:World) (b:Below w.heap.size w W)=>(T.stays b).t);have TO:=Hy (fun (W:World) (b:Below w.heap.size w W)=>(⟨(T.stays b).t,O.keeps b⟩:Tabo W));clear bb hx hA T O;unfold exC at *
 go_enter Tryz.func8,Tryz.ntmps8
 go_upto_region 1 with fail
 generalize hw0:(w.alloc (.cells #[.int .i64 x.h.k,.string x.h.op,.string x.h.nm,.string x.h.tb,.int .i64 x.h.vk,.int .i64 x.h.vn,.string x.h.vs,.slice ua x.h.un.length uc,.int .i64 x.h.pa,.int .i64 x.h.wk,.int .i64 x.h.ws,.slice aa x.ar.len ac] 29))=w0 at *;clear hw0;go_wp2_with fail;refine (CE.o _ B.o).mono ?_;rintro e w1 ⟨rfl,b1⟩;replace B:=Hy (aA B.o b1);replace G1:=Hy (G1.o.keeps b1);clear b1;clear CE
 go_upto_region 3 with fail
 go_cut [31] from 20 (fun v wx=>(v=.bool true∨(v=.bool false∧x.ar.sz≤3000∧shE x=0∧0≤n0))∧Hid (Below w1.heap.size w1 wx))
 case first =>
  have R:=Hy (b0 w1);go_wp2_with (refine aF aJ Tryz.underlying29 rfl (.tmp 2) rfl rfl _ _ _ rfl G1.o rfl ?_);refine (Fx.o _ B.o).mono ?_;rintro e w2 ⟨r1,rfl,-,hz1,b2⟩;replace B:=Hy (aA B.o b2);replace R:=Hy (aA R.o b2);replace G1:=Hy (G1.o.keeps b2);clear b2;by_cases hr1:r1<0
  ·have q1:=dT hr1;go_wp2_with fail
   go_meet
   case rel=>exact ⟨.inl rfl,Hy R.o⟩
  have q1:=dF hr1;have HZ1:=Hy (show x.ar.sz≤3000 from by have:=hz1 (by omega);omega);clear hz1;go_wp2_with (refine bC aJ Tryz.underlying29 rfl (.tmp 2) rfl rfl _ _ _ rfl G1.o rfl ?_);refine (Sx.o _ B.o).mono ?_;rintro e w3 ⟨rfl,b3⟩;replace B:=Hy (aA B.o b3);replace R:=Hy (aA R.o b3);replace G1:=Hy (G1.o.keeps b3);clear b3;generalize he1:shE x=e1 at *;clear he1;by_cases h1:e1=0
  ·subst h1;by_cases hq:n0<0
   ·have q4:=dT hq;go_wp2_with fail
    go_meet
    case rel=>exact ⟨.inl rfl,Hy R.o⟩
   have q4:=dF hq;go_wp2_with fail
   go_meet
   case rel=>exact ⟨.inr ⟨rfl,HZ1.o,by trivial,by omega⟩,Hy R.o⟩
  have q3:(e1 != 0)=true:=by simp [h1]
  replace h1:=Hy h1;go_wp2_with fail
  go_meet
  case rel=>exact ⟨.inl rfl,Hy R.o⟩
 case rest =>
  obtain ⟨hv,BW⟩:=hcut;replace B:=Hy (aA B.o BW.o);replace G1:=Hy (G1.o.keeps BW.o);clear BW Fx Sx;generalize wc=w3 at *;rcases hv with rfl | ⟨rfl,z1,h1,hn0⟩
  ·go_wp2_with fail;go_ret;exact ⟨rfl,B.o⟩
  have TX:=KR h1 z1 (yg (txE x));obtain ⟨hE,hB,-⟩:=Im (Ma (jy h1)) (yg (txE x)) (yx h1 z1);have CT:=Hy (RX _ hE hB _ rfl);have zz:(B8 (txE x)).size≤281474976710656:=by have k:=yx h1 z1;have e:=aI (B8 (txE x));rw [yg] at e;omega
  replace Px:=Hy (Px.o z1);rw [h1] at Px;simp only [txO,if_true] at Px;clear z1 h1 hE hB;generalize cO (B8 (txE x))=tl at *;generalize B8 (txE x)=s1 at *;obtain ⟨nl,hnl⟩:∃ k,tl.length=k:=⟨_,rfl⟩;rw [hnl] at CT;have hsm:=Hy (show nl≤16385 from hnl ▸ TX.small);have hlow:=Hy TX.low;have hcut:=Hy TX.cut;clear TX;replace hnl:=Hy hnl;have QP:=Hy (fun (W:World) (a:Option Addr) (c:Nat) (S:tk.Sl W a nl c tl)=>CY tl a nl c n0 ⟨hn0,hi0⟩ W S (by have:=hsm.o;omega));clear hn0 hi0;have QC:=Hy (fun (i:Nat) (hi:i<tl.length) (ho:sgn ⟨#[40]⟩ (tk.gt tl i)) (W:World) (a:Option Addr) (c:Nat) (S:tk.Sl W a nl c tl)=>Dq tl a nl c i W S (by have:=hsm.o;omega) hlow.o hi ho);unfold exC at *;go_wp2_with (refine aF aJ Tryz.underlying29 rfl (.tmp 2) rfl rfl _ _ _ rfl G1.o rfl ?_);refine (Px.o _ B.o).mono ?_;rintro e w4 ⟨rfl,b4⟩;replace B:=Hy (aA B.o b4);replace G1:=Hy (G1.o.keeps b4);clear b4;obtain ⟨w5,c5,hcv,hB,b5⟩:=gI w4 s1 zz;have BS:=Hy hB;replace B:=Hy (aA B.o b5);replace G1:=Hy (G1.o.keeps b5);clear hB b5;go_wp2_with fail;refine (CT.o _ _ _ _ BS.o (TT.o _ B.o)).mono ?_;rintro e w6 ⟨al,cl,ap,cp,rfl,sl,b6⟩;replace B:=Hy (aA B.o b6);replace G1:=Hy (G1.o.keeps b6);have SL:=Hy sl;clear sl;clear b6;clear CT BS Px hcv zz;skip;go_wp2_with fail;refine (QP.o _ _ _ SL.o).mono ?_;rintro e w7 ⟨r1,rfl,hr,b7⟩;replace B:=Hy (aA B.o b7);replace G1:=Hy (G1.o.keeps b7);replace SL:=Hy (SL.o.keeps b7);clear b7;clear QP;rcases hr with hr | ⟨i,rfl,hi,ho⟩
  ·have q1:=dT hr;clear hr QC SL hcut XE TO;go_wp2_with fail;go_ret;exact ⟨rfl,B.o⟩
  have q1:decide ((i:Int)<0)=false:=dF (by omega);replace QC:=Hy (QC.o i hi ho);have HI:=Hy hi;clear hi ho;go_wp2_with fail;refine (QC.o _ _ _ SL.o).mono ?_;rintro e w8 ⟨r2,rfl,⟨j,rfl,hij,hj,hc⟩,rfl⟩;obtain ⟨hF,hJ,hcu⟩:=hcut.o i j hij hj hc;clear QC hcut hc hlow;have q2:decide ((j:Int)<0)=false:=dF (by omega);have hjn:=Hy (show i<j∧j<nl∧nl≤16385 from ⟨hij,hnl.o ▸ hj,hsm.o⟩);obtain ⟨y,hy⟩:∃ b:ByteArray,eT (fO tl i j)=b.data.toList:=⟨⟨(eT (fO tl i j)).toArray⟩,rfl⟩;obtain ⟨-,hne⟩:=hcu y hy;clear hcu HI hij hj hsm;obtain ⟨tr,htr⟩:∃ t,pa.dR (α:=Ex) ⟨h0,.nil⟩ pa.exR y=t:=⟨_,rfl⟩;obtain ⟨v,a1,c1⟩:=tr;have hvx:=Hy (show c1=0→sxE x v=false from fun e=>by
    cases hs:sxE x v with
    | false=>rfl
    | true =>
      subst e
      rw [htr] at hne
      exact absurd (by rw [Nh.1 hs]) (hne a1))
  have CR:=Hy (Iw y v a1 c1 htr);have CJ:=Hy (Tv _ y hF hJ hy);clear hne htr hF hJ hy;generalize hcp:fO tl i j=rest at *;unfold fO at hcp
  go_upto_region 13 with fail
  obtain ⟨i1,hi1⟩:∃ k,k=i+1:=⟨_,rfl⟩;obtain ⟨j1,hj1⟩:∃ k,k=j+1:=⟨_,rfl⟩;rw [← hi1,← hj1] at hcp;have c1':=Hy (SL.o.hcap);have P1:=Hy (fun (W:World) (b:Below w7.heap.size w7 W)=>wS (SL.o.keeps b) (show i≤nl by have:=hjn.o;omega));have P2:=Hy (fun (W:World) (b:Below w7.heap.size w7 W)=>Nn (SL.o.keeps b) (show i1≤j by have:=hjn.o;omega) (show j≤nl by have:=hjn.o;omega));have P3:=Hy (fun (W:World) (b:Below w7.heap.size w7 W)=>DW (SL.o.keeps b) (show j1≤nl by have:=hjn.o;omega));have Y1:=Hy (fun W=>KW 65 119 elT.1 elT.2 3 sz3 al nl cl i (by have:=hjn.o;have:=c1'.o;omega) W);have Y2:=Hy (fun W=>FV 65 119 elT.1 elT.2 3 sz3 al nl cl i1 j (by have:=hjn.o;omega) (by have:=hjn.o;have:=c1'.o;omega) W);have Y3:=Hy (fun W=>FU 65 119 elT.1 elT.2 3 sz3 al nl cl j1 (by have:=hjn.o;omega) W);have f1:=Hy (show IntKind.i64.wrap ((i:Int)+1)=(i1:Int) from by have:=hjn.o;rw [IntKind.wrap_i64];omega);have f2:=Hy (show wrap64 ((j:Int)+1)=(j1:Int) from by have:=hjn.o;unfold wrap64;omega);have L1:=Hy (show ([]:List Tk).length+i<4398046511104 from by have:=hjn.o;simp only [List.length_nil];omega);have L2:=Hy (show (([]:List Tk)++tl.take i).length+(j - i1)<4398046511104 from by have:=hjn.o;simp only [List.length_append,List.length_nil,List.length_take];omega);have L3:=Hy (show ((([]:List Tk)++tl.take i)++(tl.drop i1).take (j - i1)).length+(nl - j1)<4398046511104 from by have:=hjn.o;simp only [List.length_append,List.length_nil,List.length_take];omega);have hrest:=Hy (show ((([]:List Tk)++tl.take i)++(tl.drop i1).take (j - i1))++tl.drop j1=rest from by rw [← hcp];rfl);clear hcp hi1 hj1;generalize hA2:(if cl=i1 then al else al.map (·.add (i1 * 3)))=a2 at *;generalize hA3:(if cl=j1 then al else al.map (·.add (j1 * 3)))=a3 at *;clear hA2 hA3;have GD:=(b0 w7).drew;refine wp_region_held_drew (S:=fun w' => Below w7.heap.size w7 w') (by kernel_rfl) GD (fun hH=>?_);clear GD;generalize w7.drew=W0 at *;refine ak 1 61 ?_ hH (fun w' hS=>?_) ?_;rotate_left
  ·go_simp;try with_reducible rfl
  simp only [sz0,sz1];refine ak 2 62 ?_ hH (fun w' hS=>?_) ?_;rotate_left
  ·go_simp;try with_reducible rfl
  simp only [sz0,sz1];refine ak 3 63 (.slice al i cl) hH (fun w' hS=>?_) ?_
  ·have e1:=Y1.o w';go_simp;first | done | (rw [e1];done) | (rw [e1];rfl)
  simp only [sz0,sz1];refine ak 5 65 ?_ hH (fun w' hS=>?_) ?_;rotate_left
  ·go_simp;try with_reducible rfl
  simp only [sz0,sz1];refine ak 6 66 ?_ hH (fun w' hS=>?_) ?_;rotate_left
  ·go_simp;try with_reducible rfl
  simp only [sz0,sz1];refine ak 7 67 (.int .i64 (i1:Int)) hH (fun w' hS=>?_) ?_
  ·go_simp;first | done | (exact f1.o;done) | (rw [f1.o];done) | (rw [IntWalk.i64_left,f1.o];done)
  simp only [sz0,sz1];refine ak 8 68 ?_ hH (fun w' hS=>?_) ?_;rotate_left
  ·go_simp;try with_reducible rfl
  simp only [sz0,sz1];refine ak 9 69 (.slice a2 (j - i1) (cl - i1)) hH (fun w' hS=>?_) ?_
  ·have e1:=Y2.o w';go_simp;first | done | (rw [e1];done) | (rw [e1];rfl)
  simp only [sz0,sz1];refine aC 0 (fun K hK=>?_);go_simp;have o1:=tk.Eh W0 w7.heap.size hH.size;have O1:=Hy o1;clear o1;refine hK.o _ _ (au hH _) (fun hH=>?_);clear hK K;refine aC 4 (fun K hK=>?_);refine tk.HV _ (.tmp 60) (.tmp 63) rfl w7.heap.size _ [] rfl O1.o al i cl _ rfl (P1.o _ hH) L1.o hH.size ?_;intro v6 y6 O6 b6 g6;replace O6:=Hy O6;refine hK.o _ _ (hH.trans b6) (fun hH=>?_);clear hK K b6 g6 O1 P1 L1;refine aC 10 (fun K hK=>?_);refine tk.HV _ (.tmp 64) (.tmp 69) rfl w7.heap.size _ _ rfl O6.o a2 (j - i1) (cl - i1) _ rfl (P2.o _ hH) L2.o hH.size ?_;intro v7 y7 O7 b7 g7;replace O7:=Hy O7;refine hK.o _ _ (hH.trans b7) (fun hH=>?_);clear hK K b7 g7 O6 P2 L2;refine ak 11 12 ?_ hH (fun w' hS=>?_) ?_;rotate_left
  ·go_simp;try with_reducible rfl
  simp only [sz0,sz1];refine wpAnyH_done (by kernel_rfl) ?_ _;have Y4:=Y3.o;replace P3:=Hy (P3.o _ hH);have D7:=Hy hH;clear hH Y1 Y2 Y3;have f3:=f2.o;go_wp2_with (at_builtin;refine pa.Oj (ST:=65) (.tmp 71) (.tmp 75) rfl ?_;refine tk.uz _ rfl (.tmp 71) (.tmp 75) rfl w7.heap.size _ _ rfl O7.o a3 (nl - j1) (cl - j1) _ rfl P3.o L3.o D7.o.size ?_;intro v8 y8 O8 b8 g8;have D8:=Hy (D7.o.trans b8);replace O8:=Hy O8;clear b8 g8);obtain ⟨a8,c8,rfl,S8⟩:=O8.o.sl;rw [hrest.o] at S8 ⊢;have SR:=Hy S8;have bD:=D8.o;replace B:=Hy (aA B.o bD);replace G1:=Hy (G1.o.keeps bD);clear bD S8 O8 D8 D7 O7 P3 L3 Y4 f3 f1 f2 SL hrest hjn;refine (CJ.o _ _ _ _ SR.o (TT.o _ B.o)).mono ?_;rintro e w9 ⟨aj,kj,cj,rfl,sj,b9⟩;replace B:=Hy (aA B.o b9);replace G1:=Hy (G1.o.keeps b9);have SJ:=Hy sj;clear sj;clear b9;go_wp2_with fail;refine (CR.o _ _ _ _ SJ.o (TO.o _ B.o)).mono ?_;rintro e w10 ⟨va,vc,wa,wc,rfl,E,b10⟩;replace B:=Hy (aA B.o b10);replace G1:=Hy (G1.o.keeps b10);have EY:=Hy E;clear E;clear b10;clear SR SJ CJ CR;unfold exC at *;by_cases hc1:c1=0
  ·subst hc1;replace hvx:=Hy (hvx.o rfl);go_wp2_with (first | (refine aL aJ (.tmp 15) (.tmp 85) rfl rfl _ _ _ _ rfl rfl (Blk.new _ _ _) rfl rfl (aQ _ _ _ _ _ _) ?_;intro w11 L s3;have b:=(au (b0 w10) _).trans (s3.below lr);have L1:=Hy L;replace B:=Hy (aA B.o b);replace G1:=Hy (G1.o.keeps b);replace EY:=Hy (EY.o.keeps b);clear L s3 b) | (refine bC aJ Tryz.underlying29 rfl (.tmp 2) rfl rfl _ _ _ rfl G1.o rfl ?_) | (refine bC aJ Tryz.underlying29 rfl (.tmp 15) rfl rfl _ _ _ rfl L1.o rfl ?_));replace XE:=Hy (XE.o v _ _ _ _ _ B.o EY.o);rw [hvx.o] at XE;refine (XE.o).mono ?_;rintro e w12 ⟨rfl,b12⟩;replace B:=Hy (aA B.o b12);clear b12;go_wp2_with fail;go_ret;exact ⟨rfl,B.o⟩
  have q5:(c1 != 0)=true:=by simp [hc1]
  clear hc1;go_wp2_with (first | (refine aL aJ (.tmp 15) (.tmp 85) rfl rfl _ _ _ _ rfl rfl (Blk.new _ _ _) rfl rfl (aQ _ _ _ _ _ _) ?_;intro w11 L s3;have b:=(au (b0 w10) _).trans (s3.below lr);have L1:=Hy L;replace B:=Hy (aA B.o b);replace G1:=Hy (G1.o.keeps b);replace EY:=Hy (EY.o.keeps b);clear L s3 b) | (refine bC aJ Tryz.underlying29 rfl (.tmp 2) rfl rfl _ _ _ rfl G1.o rfl ?_) | (refine bC aJ Tryz.underlying29 rfl (.tmp 15) rfl rfl _ _ _ rfl L1.o rfl ?_));go_ret;exact ⟨rfl,B.o⟩
end ch
end Go.Proofs.YtbahfelnbofjjaaGreatDoor
