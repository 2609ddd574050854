/- An item. -/
import Derived.Maps.OwnSet
import Derived.Test.YtbahfelnbofjjaaGreatDoorH29
import Derived.Test.YtbahfelnbofjjaaGreatDoorH31
set_option maxRecDepth 100000
set_option maxHeartbeats 16000000
namespace Go.Proofs.YtbahfelnbofjjaaGreatDoor
namespace pa
open Go.RowKit dec
theorem N9:Tryz.prog.underlying 166=some (.map 9 124):=by kernel_rfl
def fnT (B:Nat):Value:=.func (.func 134) #[.pointer (some ⟨B,0,none⟩)] #[]
def fnF (B:Nat):Value:=.func (.func 135) #[.pointer (some ⟨B,0,none⟩)] #[]
def dI (n:Int):DataW Unit:=.lit (.int .i64 n)
theorem Cu {a b:Int} (h:dI a=dI b):a=b:=by
 unfold dI at h;cases h;rfl
open Classical in
noncomputable def fnE (B:Nat) (v:Value):Option (DataW Unit × List MemPlace) :=
 if v=.nilFunc then some (dI 0,[]) else if v=fnT B then some (dI 1,[]) else if v=fnF B then some (dI 2,[]) else none
theorem QT (B:Nat):fnE B .nilFunc=some (dI 0,[]):=by simp [fnE]
theorem WJ (B:Nat):fnE B (fnT B)=some (dI 1,[]):=by simp [fnE,fnT]
theorem WK (B:Nat):fnE B (fnF B)=some (dI 2,[]):=by simp [fnE,fnT,fnF]
theorem FQ {B:Nat} {v:Value} {n:Int} {ps:List MemPlace} (h:fnE B v=some (dI n,ps)):(n=1→v=fnT B)∧(n=2→v=fnF B):=by
 unfold fnE at h;split at h
 ·simp only [Option.some.injEq,Prod.mk.injEq] at h;have:=Cu h.1;exact ⟨fun e=>by omega,fun e=>by omega⟩
 split at h
 ·rename_i h2;simp only [Option.some.injEq,Prod.mk.injEq] at h;have:=Cu h.1;exact ⟨fun _=>h2,fun e=>by omega⟩
 split at h
 ·rename_i h3;simp only [Option.some.injEq,Prod.mk.injEq] at h;have:=Cu h.1;exact ⟨fun e=>by omega,fun _=>h3⟩
 cases h
theorem aC {B b n:Nat} {D:DataW Unit} {w:World} {ops:Array Oper} {rest:List Oper} {o:Oper} {a:Act} {Q:Exit→Act→World→Prop} (hg:o.guard=none) (m x v:Operand) (hop:o.op=.insert 166 m x v)
    (hm:a.eval m=.map (some b)) (h:w.ownsMap Tryz.prog 9 (fnE B) b n D) (hn:n<maxLen) (s:ByteArray) (val:Value) (hx:a.eval x=.string s) (hs:s.size≤maxLen) (hv:a.eval v=val) (d:DataW Unit) (hval:fnE B val=some (d,[]))
    (hK:∀ w',w'.ownsMap Tryz.prog 9 (fnE B) b (n+1) (D.put (un.kS s) d)→w.grownBy w' (some b)→wpList Tryz.prog ops Q rest (a.put o.dst undef) w'):wpList Tryz.prog ops Q (o :: rest) a w:=by
 refine wpList_plain hg fun K' hK' => ?_;obtain ⟨w',hrun,r1,r2⟩:=h.update un.K9 N9 hn (un.rJ hs) hval;unfold Oper.wp;simp [execOp,hop,hm,hx,hv,hrun,Result.andThen];exact hK' _ _ (hK w' r1 r2)
theorem Vl (w:World):(zeroValue 124).run Tryz.prog w=.ok .nilFunc w:=by kernel_rfl
def itD:DataW Unit:=((DataW.map []).put (un.kS ⟨#[116,97,98,108,101]⟩) (dI 1)).put (un.kS ⟨#[102,101,97,116,117,114,101]⟩) (dI 2)
theorem Ib:Maps.IsMap (DataW.map []:DataW Unit):=⟨[],rfl⟩
theorem zY {a b:ByteArray} (h:a≠b):un.kS a≠un.kS b:=fun e=>h (un.vZ e)
theorem Ul:Maps.has itD (un.kS ⟨#[116,97,98,108,101]⟩)=true∧itD.atKey (un.kS ⟨#[116,97,98,108,101]⟩) (dI 0)=dI 1:=by
 unfold itD;rw [Maps.has_put_other (zY (by decide)),Maps.has_put_same Ib (un.ny (by decide)),Maps.atKey_put_other (zY (by decide)),Maps.atKey_put_same Ib (un.ny (by decide))];exact ⟨rfl,rfl⟩
theorem Um:Maps.has itD (un.kS ⟨#[102,101,97,116,117,114,101]⟩)=true∧itD.atKey (un.kS ⟨#[102,101,97,116,117,114,101]⟩) (dI 0)=dI 2:=by
 unfold itD;rw [Maps.has_put_same (Ib.put _ _) (un.ny (by decide)),Maps.atKey_put_same (Ib.put _ _) (un.ny (by decide))];exact ⟨rfl,rfl⟩
theorem Wz {s:ByteArray} (h1:s≠⟨#[116,97,98,108,101]⟩) (h2:s≠⟨#[102,101,97,116,117,114,101]⟩):Maps.has itD (un.kS s)=false:=by
 unfold itD;rw [Maps.has_put_other (zY h2),Maps.has_put_other (zY h1)];rfl
theorem Qv {B b n:Nat} {w:World} (h:w.ownsMap Tryz.prog 9 (fnE B) b n itD) (s:ByteArray) (hs:s.size≤maxLen) :
    ∃ v,(Instr.lookup 166 (.map (some b)) (.string s) true).run Tryz.prog w=.ok (.tuple #[v,.bool (decide (s=⟨#[116,97,98,108,101]⟩) || decide (s=⟨#[102,101,97,116,117,114,101]⟩))]) w∧(s=⟨#[116,97,98,108,101]⟩→v=fnT B)∧(s=⟨#[102,101,97,116,117,114,101]⟩→v=fnF B):=by
 obtain ⟨v,ps,hrun,hv⟩:=h.look_ok un.K9 N9 (Vl w) (QT B) (un.rJ hs);refine ⟨v,?_,fun e=>?_,fun e=>?_⟩
 ·rw [hrun];by_cases h1:s=⟨#[116,97,98,108,101]⟩
  ·subst h1;rw [Ul.1];rfl
  by_cases h2:s=⟨#[102,101,97,116,117,114,101]⟩
  ·subst h2;rw [Um.1];rfl
  rw [Wz h1 h2,dF h1,dF h2];rfl
 ·subst e;rw [Ul.2] at hv;exact (FQ hv).1 rfl
 subst e;rw [Um.2] at hv;exact (FQ hv).2 rfl
theorem Uk (w0:World) (base B g:Nat) (ta:Option Addr) (n cap:Nat) (m:Mo) (l:List Tk) (w:World) (h:Mf w0 base B g ta n cap w m l) (hn1:m.ts.length<1048577) (hn2:m.fs.length<1048577) :
    Calls Tryz.prog 79 #[.pointer (some ⟨B,0,none⟩),.pointer (some ⟨g,0,none⟩)] w (Mst w0 base B g ta n cap m (dD m l) w):=by
 have P:=Hy h.ps;have HF:=Hy h;replace hn1:=Hy hn1;replace hn2:=Hy hn2;have F:=tf1;have hmm:=@run_makeMap Tryz.prog;have F2:=jv;have hsz:=Hy (show (hd l).t.size≤maxLen from by have:=h.ps.tl.hd;unfold maxLen;omega);have hmf:∀ (fn:Fn) (first cap:Array Value) (w:World),(Instr.makeFunc fn first cap).run Tryz.prog w=.ok (.func fn first cap) w:=fun _ _ _ _=>rfl;clear h
 go_enter Tryz.func79,Tryz.ntmps79
 go_wp2_with (first | (refine aC (B:=B) rfl (.tmp 7) (.const _) (.tmp 9) rfl rfl (World.ownsMap_made w _ _ _) (by decide) ⟨#[116,97,98,108,101]⟩ (fnT B) rfl (by decide) rfl _ (WJ B) ?_;intro wa Oa ga) | (refine aC (B:=B) rfl (.tmp 7) (.const _) (.tmp 11) rfl rfl Oa (by decide) ⟨#[102,101,97,116,117,114,101]⟩ (fnF B) rfl (by decide) rfl _ (WK B) ?_;intro wb Ob gb));have bb:=(((aj (b0 w) (.map #[] 0)).grown ga (by simp) (fun k hk=>by cases hk;exact Nat.le_refl _)).grown gb (by have:=ga.size;simp at this;omega) (fun k hk=>by cases hk;exact Nat.le_refl _));replace P:=Hy (P.o.keeps bb);have M:=Hy (Mv.of (B:=B) bb);replace Ob:=Hy Ob;clear Oa ga gb bb;refine (gH B l wb P.o).mono ?_;rintro e w1 ⟨rfl,b1⟩;obtain ⟨v,hl,hT,hV⟩:=Qv (Ob.o.kept (un.gT b1) (by simp)) (hd l).t hsz.o;replace P:=Hy (P.o.keeps b1);replace M:=Hy (M.o.bG b1);have HF1:=Hy (HF.o.step M.o P.o);clear Ob b1;by_cases h1:(hd l).t=⟨#[116,97,98,108,101]⟩
 ·have q1:(decide ((hd l).t=⟨#[116,97,98,108,101]⟩) || decide ((hd l).t=⟨#[102,101,97,116,117,114,101]⟩))=true:=by simp [h1]
  rw [q1] at hl;obtain rfl:=hT h1;have hI:=Hy (show dD m l=(mQ l).bind fun t r=>.ok { m with ts:=m.ts++[t] } r from by unfold dD;rw [if_pos h1]);unfold fnT at hl;clear q1 hT hV h1;generalize hx:hd l=x at *;clear hx;go_wp2_with fail;refine (OM w0 base B g ta n cap m l w1 HF1.o hn1.o _ rfl (Eh l)).mono ?_;rintro e w2 k2;rw [← hI.o] at k2;rcases hG:dD m l with _ | ⟨m',l2⟩ | ⟨a,c,l2⟩
  ·exact absurd hG (o7 m l)
  ·rw [hG] at k2;obtain ⟨rfl,F9,Q9⟩:=k2;have F9:=Hy F9;have Q9:=Hy Q9;go_wp2_with fail;go_end0;exact lJ hG F9.o ((Mq.mv M.o).trans Q9.o)
  rw [hG] at k2;obtain ⟨rfl,F9,Q9⟩:=k2;have F9:=Hy F9;have Q9:=Hy Q9;unfold thr;go_wp2_with fail;exact ⟨rfl,rfl,F9.o,(Mq.mv M.o).trans Q9.o⟩
 by_cases h2:(hd l).t=⟨#[102,101,97,116,117,114,101]⟩
 ·have q1:(decide ((hd l).t=⟨#[116,97,98,108,101]⟩) || decide ((hd l).t=⟨#[102,101,97,116,117,114,101]⟩))=true:=by simp [h2]
  rw [q1] at hl;obtain rfl:=hV h2;have hI:=Hy (show dD m l=(nD l).bind fun f r=>.ok { m with fs:=m.fs++[f] } r from by unfold dD;rw [if_neg h1,if_pos h2]);unfold fnF at hl;clear q1 hT hV h1 h2;generalize hx:hd l=x at *;clear hx;go_wp2_with fail;refine (KJ w0 base B g ta n cap m l w1 HF1.o hn2.o _ rfl (Ga l)).mono ?_;rintro e w2 k2;rw [← hI.o] at k2;rcases hG:dD m l with _ | ⟨m',l2⟩ | ⟨a,c,l2⟩
  ·exact absurd hG (o7 m l)
  ·rw [hG] at k2;obtain ⟨rfl,F9,Q9⟩:=k2;have F9:=Hy F9;have Q9:=Hy Q9;go_wp2_with fail;go_end0;exact lJ hG F9.o ((Mq.mv M.o).trans Q9.o)
  rw [hG] at k2;obtain ⟨rfl,F9,Q9⟩:=k2;have F9:=Hy F9;have Q9:=Hy Q9;unfold thr;go_wp2_with fail;exact ⟨rfl,rfl,F9.o,(Mq.mv M.o).trans Q9.o⟩
 have q1:(decide ((hd l).t=⟨#[116,97,98,108,101]⟩) || decide ((hd l).t=⟨#[102,101,97,116,117,114,101]⟩))=false:=by simp [h1,h2]
 rw [q1] at hl;have hI:=Hy (show dD m l=wrg l from by unfold dD;rw [if_neg h1,if_neg h2]);clear q1 hT hV h1 h2;have C2:=Hy (jU B l w1 P.o);generalize hx:hd l=x at *;go_wp2_with fail;refine C2.o.mono ?_;rintro e w2 ⟨rfl,b2⟩;have P2:=Hy (P.o.keeps b2);have M2:=Hy (M.o.bG b2);clear b2 C2;go_wp2_with fail;refine ⟨rfl,eZ HF.o ?_ P2.o M2.o⟩;rw [hI.o,wrg,hx]
theorem J7 (B:Nat) (l:List Tk) (w:World) (h:Ps w B l) :
    Calls Tryz.prog 80 #[.pointer (some ⟨B,0,none⟩)] w fun e w' => e=.returned (.tuple #[])∧Ps w' B (lvR l)∧Mv w.heap.size B w w':=by
 have P:=Hy h;have M:=Hy (Mv.refl w.heap.size B w);have F:=tf0;clear h
 go_enter Tryz.func80,Tryz.ntmps80
 go_wp2_with fail
 go_loopg [] (l.length) (fun k wr => ∃ (l':List Tk),Hid (Ps wr B l')∧Hid (Mv w.heap.size B w wr)∧Hid (lvR l'=lvR l)∧Hid (l'.length≤k))
 case atStart=>exact ⟨l,P,M,Hy rfl,Hy lr⟩
 case round =>
  clear P M;obtain ⟨l',P,M,HL,hk⟩:=hrel;rcases gk with _ | gk
  ·exact absurd (List.eq_nil_of_length_eq_zero (Nat.le_zero.1 hk.o)) P.o.tl.ne
  have C1:=Hy (gH B l' _ P.o);go_wp2_with fail;refine C1.o.mono ?_;rintro e w1 ⟨rfl,b1⟩;have P1:=Hy (P.o.keeps b1);have M1:=Hy (M.o.bG b1);clear b1 C1 P M;by_cases h6:(hd l').k=6
  ·have q1:((hd l').k != 6)=false:=by simp [h6]
   have e1:=Hy (show lvR l'=l' from by rw [BG P1.o.tl.ne,if_pos h6]);clear h6;generalize hd l'=x at *;go_wp2_with fail;go_end0;rw [← HL.o,e1.o];exact ⟨rfl,P1.o,M1.o⟩
  have q1:((hd l').k != 6)=true:=by simp [h6]
  cases ht:isT ⟨#[59]⟩ l'
  ·have e1:=Hy (show lvR l'=lvR l'.tail from by rw [BG P1.o.tl.ne,if_neg h6,ht,if_neg (by decide)]);have HT:=Hy (P1.o.tl.tail h6);have hle:=Hy (show l'.tail.length+1≤l'.length from by have:=P1.o.tl.ne;cases l' with | nil=>exact absurd rfl this | cons x r=>simp);have hF:=Hy ht;clear h6 ht;generalize hx:hd l'=x at *;clear hx;go_wp2_with fail;refine (aK B ⟨#[59]⟩ l' _ P1.o hF.o).mono ?_;rintro e w2 ⟨rfl,pp,mm⟩;obtain ⟨q,c1,z,hq,P2⟩:=pp.go HT.o;have f:=Hy (aP hq);replace P2:=Hy P2;have M2:=Hy ((M1.o.next mm).put 1 (.int .i64 ((q:Int)+1)));clear pp mm P1 M1 hF HT;go_wp2_with fail;go_roundg gk
   case measure=>have:=hle.o;have:=hk.o;omega
   case rel=>exact ⟨l'.tail,P2,M2,Hy (e1.o.symm.trans HL.o),Hy (by have:=hle.o;have:=hk.o;omega)⟩
  have e1:=Hy (show lvR l'=l'.tail from by rw [BG P1.o.tl.ne,if_neg h6,ht,if_pos rfl]);have hT:=Hy ht;clear h6 ht;generalize hx:hd l'=x at *;clear hx;go_wp2_with fail;refine (aV B ⟨#[59]⟩ l' _ P1.o hT.o).mono ?_;rintro e w2 ⟨rfl,pp,mm⟩;have P2:=Hy pp;have M2:=Hy (M1.o.next mm);clear pp mm P1 M1;go_wp2_with fail;go_end0;rw [← HL.o,e1.o];exact ⟨rfl,P2.o,M2.o⟩
end pa
namespace pb
open Go.RowKit Go.Sort Go.Lib dec
def cP (a b:Pb):Int:=Lib.compareInt a.1 b.1
theorem Nu (x y:Pb) (W:World) :
    Calls Tryz.prog 82 #[.agg #[.int .i64 x.1,.int .i64 x.2],.agg #[.int .i64 y.1,.int .i64 y.2]] W fun e w' => e=.returned (.int .i64 (cP x y))∧∃ q os',w'=grow (W.drewN q) os':=by
 have hcon:=Hy (fun W' => Tryz.cmp_Compare_int x.1 y.1 W');have hW:=un.Og W (.cells #[.int .i64 x.1,.int .i64 x.2] 122) (.cells #[.int .i64 y.1,.int .i64 y.2] 122);unfold cP;generalize Lib.compareInt x.1 y.1=r at hcon ⊢
 go_enter Tryz.func82,Tryz.ntmps82
 go_wp2_with fail;refine (hcon.o _).mono ?_;rintro e w' ⟨rfl,rfl⟩;go_wp2_with fail;go_ret;obtain ⟨os,ho⟩:=hW;exact ⟨rfl,0,os,ho⟩
def enP (x:Pb):List Value:=[.int .i64 x.1,.int .i64 x.2]
theorem vU (x y:Pb):ltOf cP x y=decide (x.1<y.1):=by
 show decide (cP x y<0)=_;unfold cP Lib.compareInt;by_cases h:x.1<y.1
 ·simp [h]
 by_cases h2:y.1<x.1 <;> simp [h,h2]
theorem Pf:SWO (ltOf cP) where
 irrefl x:=by rw [vU];simp
 trans x y z h1 h2:=by rw [vU] at *;simp at *;omega
 ntrans x y z h1 h2:=by rw [vU] at *;simp at *;omega
def oq (l:List Pb):Prop:=l.Pairwise fun x y=>x.1≤y.1
theorem oh (blk off size:Nat) (w:World):CmpLays Tryz.prog 82 #[] enP 2 cP blk off size w:=by
 intro m os dk _ x y;exact Nu x y _
theorem nA {w:World} {g:Nat} {l:List Pb} (h:Cl w g 0 l) (hf:∀ j,w.frozen? ⟨g,j,none⟩=false):HoldsK enP 2 w g 0 l.toArray:=by
 intro j hj;have hj':j<l.length * 2:=by simpa using hj
 have hd:j / 2<l.length:=by omega
 obtain ⟨c0,c1⟩:=h (j / 2) hd;rw [get_flatK enP 2 _ _ (by simpa using hj')];have e1:l.toArray[j / 2]! = gt l (j / 2):=by
  rw [fJ hd];simp [hd]
 rw [e1];rcases Nat.mod_two_eq_zero_or_one j with hm | hm
 ·have:0+j / 2 * 2=0+j:=by omega
  rw [this] at c0;rw [hm];exact ⟨c0,hf _⟩
 have:0+j / 2 * 2+1=0+j:=by omega
 rw [this] at c1;rw [hm];exact ⟨c1,hf _⟩
theorem uX {w:World} {g:Nat} {d:Array Pb} (h:HoldsK enP 2 w g 0 d):Cl w g 0 d.toList:=by
 intro j hj;have hj':j<d.size:=by simpa using hj
 have e1:d[j]! = gt d.toList j:=by
  rw [fJ hj];simp [hj']
 have h0:=(h.cell (c:=0) hj' (by decide)).1;have h1:=(h.cell (c:=1) hj' (by decide)).1;rw [e1] at h0 h1;exact ⟨h0,h1⟩
theorem tY (base:Nat) (v:Value) (l:List Pb) (w:World) (hO:Own w base v l) (hn:l.length<5864062014805) :
    Calls Tryz.prog 81 #[v,.func (.func 82) #[] #[]] w fun e w' => e=.returned (.tuple #[])∧∃ a cap s,v=.slice a l.length cap∧s.Perm l∧oq s∧Sl w' a l.length cap s∧w.grownBy w' v.ownBlock∧(∀ x,v.ownBlock=some x→Tg w x 122∧base≤x):=by
 rcases hO.2 with ⟨rfl,h0⟩ | ⟨g,cap,cur,rfl,hbg,hh,hc,hm,hsz0,_⟩
 ·obtain rfl:l=[]:=List.eq_nil_of_length_eq_zero h0;have hS:=AnyF.slices_SortFunc_none (P:=Tryz.prog) (ρ:=Tryz.sortPr_ren) { Tryz.sortPr with } none 0 (.func (.func 82) #[] #[]) w;refine (show Calls Tryz.prog 81 _ _ _ from hS).mono ?_;rintro e w' ⟨rfl,rfl⟩;exact ⟨rfl,none,0,[],rfl,List.Perm.refl _,by simp [oq],.nil _,⟨rfl,rfl,rfl,Nat.le_refl _,fun _ _ _=>rfl⟩,fun x h=>by cases h⟩
 have eg:∀ args w,(callFunc 82 args).run Tryz.prog w=.ok (.enter 82 args) w:=enters_of Tryz.func82 (by kernel_rfl) rfl;have hg:g<w.heap.size:=fI hh;have hF:∀ j,w.frozen? ⟨g,j,none⟩=false:=fun j=>by simp [World.frozen?,hh]
 have hC:Cl w g 0 l:=fun j hj=>by
  rw [Nat.zero_add,hO.cellAt (j * 2) (by omega),hO.cellAt (j * 2+1) (by omega)];exact lW l j hj
 have hcon:=AnyQ.slices_SortFunc Tryz.sortPr 2 Tryz.isAgg122 Tryz.sizeOf122 enP (fun _=>rfl) (fun x v hv=>by simp [enP] at hv;rcases hv with rfl | rfl <;> rfl) cP Pf 82 #[] g 0 cap l.toArray w eg (oh g 0 _ w) (nA hC hF) hg (by simp;omega);simp only [List.size_toArray] at hcon;refine (show Calls Tryz.prog 81 _ _ _ from hcon).mono ?_;rintro e w' ⟨rfl,d',n,os,hp,hs,rfl⟩;have hsz:d'.size=l.length:=by have:=hp.1;simpa using this
 have hpl:d'.toList.Perm l:=by
  have:=hp.2.2;simp only [← hsz,Array.extract_size] at this;simpa [hsz] using this
 have hH:HoldsK enP 2 (sortWorldK enP 2 w g 0 n d' os) g 0 d':=holdsK_grow enP 2 _ os g 0 d' (by unfold putRowK;simpa using hg) (holdsK_putRowK enP 2 (Sort.ahead w n) g 0 l.toArray d' (holdsK_ahead enP 2 w n g 0 _ (nA hC hF)) (by simpa using hsz));refine ⟨rfl,_,cap,d'.toList,rfl,hpl,?_,⟨.inr ⟨g,0,rfl,uX hH⟩,by simpa using hsz,hc,by unfold maxLen at hm;omega,fun h=>by cases h⟩,un.tJ _,fun x h=>by cases h;exact ⟨⟨_,_,hh⟩,hbg⟩⟩;unfold oq;rw [List.pairwise_iff_getElem];intro i j hi hj hij;have h1:=hs i j zl hij (by rw [← hsz];simpa using hj);rw [vU] at h1;simp at hi hj;simp [hi,hj] at h1;simpa using h1
end pb
namespace pa
open Go.RowKit dec
theorem KpT.mono {ok ok':TypeId→Prop} {C C':Nat} {w w':World} (h:KpT ok C w w') (hok:∀ T,ok' T→ok T) (hC:C≤C'):KpT ok' C' w w':=fun b T cs fr hb hT hc=>h b T cs fr (L_f hC hb) (hok T hT) hc
theorem Mf.kp {w0:World} {base B g:Nat} {ta:Option Addr} {n cap:Nat} {m:Mo} {l:List Tk} {w w':World} (h:Mf w0 base B g ta n cap w m l) (K:KpT (fun T=>T≠122) 0 w w') (hb:Below w0.heap.size w w'):Mf w0 base B g ta n cap w' m l:=by
 have h1:=h.h1;have h2:=h.h2;have h3:=h.h3;obtain ⟨tv,fv,ct,cf,b,r1,r2,e1,e2⟩:=h.mm.ex;have hB:w'.heap[B]? = w.heap[B]?:=by
  obtain ⟨cs,fr,ht⟩:=h.ps.tag;exact K B _ cs fr zl (by decide) ht
 have hT:∀ b off,ta=some ⟨b,off,none⟩→w'.heap[b]? = w.heap[b]?:=fun b off e=>by
  obtain ⟨t1,t2,cs,fr,t3⟩:=h.tok b off e;exact K b _ cs fr zl (by decide) t3
 refine ⟨Ps.pass h.ps h.cB hB hT h.tabs (h.bel.trans hb) (by omega),(World.cell?_of_block (w:=w) hB).trans h.cB,fun b off e=>?_,h.tabs,h.bel.trans hb,h1,h2,h3,by have:=h.h4;have:=hb.size;omega,⟨tv,fv,ct,cf,(K g _ _ _ zl (by decide) b).trans b,?_,?_,?_,?_⟩⟩
 ·obtain ⟨t1,t2,t3⟩:=h.tok b off e;exact ⟨t1,t2,K.tg zl (by decide) t3⟩
 ·exact Rw.kpT r1 K (by decide) zl
 ·exact Rw.kpT r2 K (by decide) zl
 ·exact e1.map fun c y hq=>TbQ.kpT (ok:=fun T=>T≠122) (by decide) (by decide) hq (KpT.mono K (fun _ h=>h) zl)
 exact e2.map fun c y hq=>FeQ.kpT (ok:=fun T=>T≠122) (by decide) (by decide) hq (KpT.mono K (fun _ h=>h) zl)
theorem Mf.Te {w0:World} {base B g k:Nat} {ta:Option Addr} {n cap:Nat} {m:Mo} {l:List Tk} {w w':World} {cs:Array Value} (h:Mf w0 base B g ta n cap w m l) (hs:St k w w') (hb:Blk w k 122 cs) (hk:base≤k):Mf w0 base B g ta n cap w' m l :=
 h.kp (St.kpT hs hb (by simp) 0) (hs.below (by have:=h.h1;have:=h.h2;have:=h.h3;omega))
theorem EK {w w':World} {base:Nat} {v:Value} {l:List Pb} (hO:pb.Own w base v l) (hg:w.grownBy w' v.ownBlock):KpT (fun T=>T≠122) 0 w w':=fun b T cs fr _ hT hc=>hg.block b (fI hc) (by
 intro e
 rcases hO.2 with ⟨rfl,_⟩ | ⟨g,cap,cur,rfl,_,hh,_⟩
 ·cases e
 ·cases e
  rw [hh] at hc
  cases hc
  exact hT rfl)
theorem He {w w':World} {base B g:Nat} {v:Value} {l:List Pb} (hO:pb.Own w base v l) (Q:Mq B g w w') (hB:Tg w B 117) (hg:Tg w g 43):pb.Own w' base v l:=by
 obtain ⟨h1,h2⟩:=hO;refine ⟨h1,?_⟩;rcases h2 with h0 | ⟨k,cap,cur,e,hbg,hh,r⟩
 ·exact .inl h0
 refine .inr ⟨k,cap,cur,e,hbg,?_,r⟩;rw [Q.block k _ cur (0,0) hh ?_ ?_ (by decide) (by decide)]
 ·exact hh
 ·rintro rfl;obtain ⟨cs,fr,ht⟩:=hB;rw [ht] at hh;cases hh
 rintro rfl;obtain ⟨cs,fr,ht⟩:=hg;rw [ht] at hh;cases hh
theorem JQ (bp:Nat) (w0:World) (base B g:Nat) (ta:Option Addr) (n cap:Nat) (m:Mo) (l:List Tk) (w:World) (h:Mf w0 base B g ta n cap w m l) (hn1:m.ts.length<1048577) (hn2:m.fs.length<1048577) (hp:Blk w bp 106 #[.pointer (some ⟨B,0,none⟩)]) :
    Calls Tryz.prog 78 #[.pointer (some ⟨bp,0,none⟩),.pointer (some ⟨g,0,none⟩)] w (Mst w0 base B g ta n cap m (dD m l) w):=by
 have I:=Hy (Uk w0 base B g ta n cap m l w h hn1 hn2);have e0:w.cell? ⟨bp,0,none⟩=some (.pointer (some ⟨B,0,none⟩)):=hp.cell 0;clear h hp
 go_enter Tryz.func78,Tryz.ntmps78
 go_wp2_with fail;refine I.o.mono ?_;rintro e w2 k2;rcases hG:dD m l with _ | ⟨m',l2⟩ | ⟨a,c,l2⟩
 ·exact absurd hG (o7 m l)
 ·rw [hG] at k2;obtain ⟨rfl,F9,Q9⟩:=k2;have F9:=Hy F9;have Q9:=Hy Q9;go_wp2_with fail;go_end0;exact lJ hG F9.o Q9.o
 rw [hG] at k2;obtain ⟨rfl,F9,Q9⟩:=k2;have F9:=Hy F9;have Q9:=Hy Q9;unfold thr;go_wp2_with fail;refine ⟨rfl,?_⟩
 first | exact ⟨rfl,F9.o,Q9.o⟩ | (rw [hG];exact ⟨rfl,F9.o,Q9.o⟩)
theorem Vb (bp:Nat) {w0:World} {base B g:Nat} {ta:Option Addr} {n cap:Nat} {m m':Mo} {l l':List Tk} {w:World} (h:Mf w0 base B g ta n cap w m l) (hn1:m.ts.length<1048577) (hn2:m.fs.length<1048577) (hp:Blk w bp 106 #[.pointer (some ⟨B,0,none⟩)]) (hG:dD m l=.ok m' l') :
    Calls Tryz.prog 77 #[.func (.func 78) #[] #[.pointer (some ⟨bp,0,none⟩),.pointer (some ⟨g,0,none⟩)]] w fun e w' => e=.returned (.agg #[.int .i64 0,.int .i64 0])∧Mf w0 base B g ta n cap w' m' l'∧Mq B g w w':=by
 have bb:=aj (b0 w) (.cells #[.int .i64 0,.int .i64 0] 122);have h1:=h.step (Mv.of bb) (h.ps.keeps bb);have hI:=JQ bp w0 base B g ta n cap m l _ h1 hn1 hn2 (hp.past _);rw [hG] at hI;have hBg:B<w.heap.size:=h.ps.lt;have hg:g<w.heap.size:=Nat.lt_trans h.h2 hBg;have n1:w.heap.size≠B:=Nat.ne_of_gt hBg;have n2:w.heap.size≠g:=Nat.ne_of_gt hg;have hY:∀ w',Mq B g (w.alloc (.cells #[.int .i64 0,.int .i64 0] 122)) w'→Blk w' w.heap.size 122 #[.int .i64 0,.int .i64 0]:=fun w' Q=>by
  have:=Q.block w.heap.size 122 _ (0,0) (Blk.new w 122 #[.int .i64 0,.int .i64 0]) n1 n2 (by decide) (by decide);exact this.trans (Blk.new w _ _)
 refine (IE 78 _ w (fun w' => Mf w0 base B g ta n cap w' m' l'∧Mq B g (w.alloc (.cells #[.int .i64 0,.int .i64 0] 122)) w') (fun w' hY' => hY w' hY'.2) hI (fun _=>rfl)).mono ?_;rintro e w'' ⟨w',⟨F',Q'⟩,S',rfl⟩;have hsz:=Q'.size;simp at hsz;refine ⟨rfl,F'.Te S' (hY w' Q') h.h4,by have:=S'.size;omega,fun k T cs fr hk hn hg' t1 t2=>?_⟩;have hlt:=fI hk;have a1:=Go.heap_alloc_old w (.cells #[.int .i64 0,.int .i64 0] 122) hlt;have a2:=Q'.block k T cs fr (a1.trans hk) hn hg' t1 t2;exact (S'.block k (by omega)).trans (a2.trans a1)
theorem Vd (bp:Nat) {w0:World} {base B g:Nat} {ta:Option Addr} {n cap:Nat} {m:Mo} {l l':List Tk} {w:World} (h:Mf w0 base B g ta n cap w m l) (hn1:m.ts.length<1048577) (hn2:m.fs.length<1048577) (hp:Blk w bp 106 #[.pointer (some ⟨B,0,none⟩)]) {a c:Int} (hG:dD m l=.no a c l') :
    Calls Tryz.prog 77 #[.func (.func 78) #[] #[.pointer (some ⟨bp,0,none⟩),.pointer (some ⟨g,0,none⟩)]] w fun e w' => e=.returned (.agg #[.int .i64 a,.int .i64 c])∧Mf w0 base B g ta n cap w' m l'∧Mq B g w w':=by
 have bb:=aj (b0 w) (.cells #[.int .i64 0,.int .i64 0] 122);have h1:=h.step (Mv.of bb) (h.ps.keeps bb);have hI:=JQ bp w0 base B g ta n cap m l _ h1 hn1 hn2 (hp.past _);rw [hG] at hI;have hBg:B<w.heap.size:=h.ps.lt;have hg:g<w.heap.size:=Nat.lt_trans h.h2 hBg;have n1:w.heap.size≠B:=Nat.ne_of_gt hBg;have n2:w.heap.size≠g:=Nat.ne_of_gt hg;have hY:∀ w',Mq B g (w.alloc (.cells #[.int .i64 0,.int .i64 0] 122)) w'→Blk w' w.heap.size 122 #[.int .i64 0,.int .i64 0]:=fun w' Q=>by
  have:=Q.block w.heap.size 122 _ (0,0) (Blk.new w 122 #[.int .i64 0,.int .i64 0]) n1 n2 (by decide) (by decide);exact this.trans (Blk.new w _ _)
 refine (IG 78 _ w a c (fun w' => Mf w0 base B g ta n cap w' m l'∧Mq B g (w.alloc (.cells #[.int .i64 0,.int .i64 0] 122)) w') (fun w' hY' => hY w' hY'.2) hI (fun _=>rfl)).mono ?_;rintro e w'' ⟨w',⟨F',Q'⟩,S',rfl⟩;have hsz:=Q'.size;simp at hsz;refine ⟨rfl,F'.Te S' (hY w' Q') h.h4,by have:=S'.size;omega,fun k T cs fr hk hn hg' t1 t2=>?_⟩;have hlt:=fI hk;have a1:=Go.heap_alloc_old w (.cells #[.int .i64 0,.int .i64 0] 122) hlt;have a2:=Q'.block k T cs fr (a1.trans hk) hn hg' t1 t2;exact (S'.block k (by omega)).trans (a2.trans a1)
def Hq (s:ByteArray):Option (Mo × List Pb):=fH ((dP s).length+1) ⟨[],[]⟩ (jA s) (dP s)
def Mov (C:Nat) (w:World) (v:Value) (m:Mo):Prop:=∃ ta tc fa fc,v=.agg #[.slice ta m.ts.length tc,.slice fa m.fs.length fc]∧RowAt 48 4 C (TbQ C) w ta m.ts∧RowAt 51 18 C (FeQ C) w fa m.fs
def zM:Array Value:=#[.slice none 0 0,.slice none 0 0]
def Pbv (w:World) (u:Value) (b:List Pb):Prop:=∃ p a c,p.Perm b∧pb.oq p∧u=.slice a (min b.length 32) c∧pb.Sl w a (min b.length 32) c (p.take 32)
theorem LC (a:Option Addr) (n c:Nat) (h:n≤c) (W:World):(Instr.slice 62 (.slice a n c) none (some (.int .i64 (min (n:Int) 32))) none).run Tryz.prog W=.ok (.slice a (min n 32) c) W:=by
 have hel:Tryz.prog.elem 62=122:=by kernel_rfl
 have h1:=run_slice_h (P:=Tryz.prog) (w:=W) 62 a n c (by rw [hel];exact Tryz.underlying62) .i64 (min (n:Int) 32) (by omega) (by omega);have e:(min (n:Int) 32).toNat=min n 32:=by omega
 rw [h1,hel,Tryz.sizeOf122,e];simp [Result.andThen,sliced];intro _
 cases a with
 | none=>rfl
 | some x=>simp only [Option.map_some,Option.some.injEq];unfold Addr.add;split <;> simp_all
theorem MP {m m':Mo} {l r:List Tk} (h:dD m l=.ok m' r):m'.ts.length+m'.fs.length=m.ts.length+m.fs.length+1:=by
 unfold dD at h;split at h
 ·obtain ⟨t,q,h1,h2⟩:=bind_ok h;cases h2;simp;omega
 split at h
 ·obtain ⟨t,q,h1,h2⟩:=bind_ok h;cases h2;simp;omega
 cases h
theorem Ho (a0:Option Addr) (n0 cap:Nat) (s:ByteArray) (w:World) (hS:Bs w a0 n0 cap s) (T:Tabo w) (he:lQ s=0) (m9:Mo) (b9:List Pb) (hm:Hq s=some (m9,b9)) :
    Calls Tryz.prog 32 #[.slice a0 n0 cap] w fun e w' => ∃ v u,e=.returned (.tuple #[v,u,.int .i64 0])∧Mov w.heap.size w' v m9∧Pbv w' u b9∧Below w.heap.size w w':=by
 have bb:=aj (b0 w) (.cells zM 43);have R:=Hy (Blk.new w 43 zM);have TC:=Hy (vI a0 n0 cap s _ (hS.keeps bb) (T.stays bb).t);have T0:=Hy T;have BB:=Hy bb;have HM:=Hy hm;have hz:=Hy (RX (Gv he));clear hS T bb hm
 go_enter Tryz.func32,Tryz.ntmps32
 go_wp2_with fail;refine TC.o.mono ?_;rintro e w2 ⟨vt,vb,rfl,Ot,Ob,b2⟩;have R2:=Hy (R.o.below b2 R.o.lt);have B2:=Hy (ak BB.o b2);have hs2:=Hy (show w.heap.size+1≤w2.heap.size from by have:=b2.size;simpa using this);rw [show (w.alloc (.cells zM 43)).heap.size=w.heap.size+1 by simp] at Ot Ob;obtain ⟨ta,tcap,rfl,St0⟩:=Ot.sl;replace Ob:=Hy Ob;rw [he];have hOt:∀ b off,ta=some ⟨b,off,none⟩→w.heap.size+1≤b∧b<w2.heap.size∧Tg w2 b 119:=fun b off e=>by
  rcases Ot.2 with ⟨h1,_⟩ | ⟨g',cp,cur,h1,hbg,hh,_⟩
  ·injection h1 with i1
   rw [i1] at e;cases e
  injection h1 with i1
  rw [i1] at e;cases e;exact ⟨hbg,fI hh,_,_,hh⟩
 have pc:=aj (aj (b0 w2) (.cells #[.slice ta (dP s).length tcap,.int .i64 0] 117)) (.cells #[.pointer (some ⟨w2.heap.size,0,none⟩)] 106);have BP:=(Blk.new w2 117 #[.slice ta (dP s).length tcap,.int .i64 0]).past (.cells #[.pointer (some ⟨w2.heap.size,0,none⟩)] 106);have BQ:Blk ((w2.alloc (.cells #[.slice ta (dP s).length tcap,.int .i64 0] 117)).alloc (.cells #[.pointer (some ⟨w2.heap.size,0,none⟩)] 106)) (w2.heap.size+1) 106 #[.pointer (some ⟨w2.heap.size,0,none⟩)]:=by
  have:=Blk.new (w2.alloc (.cells #[.slice ta (dP s).length tcap,.int .i64 0] 117)) 106 #[.pointer (some ⟨w2.heap.size,0,none⟩)];simpa using this
 have P3:Ps ((w2.alloc (.cells #[.slice ta (dP s).length tcap,.int .i64 0] 117)).alloc (.cells #[.pointer (some ⟨w2.heap.size,0,none⟩)] 106)) w2.heap.size (dP s) :=
   ⟨⟨ta,(dP s).length,tcap,dP s,0,BP.cell 0,BP.cell 1,BP.free 1,St0.keeps pc,fun b off hb=>(hOt b off hb).2.1,rfl⟩,hz.o,⟨w2,T0.o.stays B2.o,pc,Nat.le_refl _⟩,BP.tg⟩
 have F3:=Hy (show Mf w (w2.heap.size+2) w2.heap.size w.heap.size ta (dP s).length tcap ((w2.alloc (.cells #[.slice ta (dP s).length tcap,.int .i64 0] 117)).alloc (.cells #[.pointer (some ⟨w2.heap.size,0,none⟩)] 106)) ⟨[],[]⟩ (dP s) from
   ⟨P3,BP.cell 0,fun b off e=>by
     obtain ⟨h1,h2,cs,fr,h3⟩:=hOt b off e
     exact ⟨by omega,by omega,cs,fr,(pc.block b h2).trans h3⟩,T0.o,ak B2.o pc,Nat.le_refl _,by have:=hs2.o;omega,by omega,by simp,⟨.slice none 0 0,.slice none 0 0,[],[],R2.o.below pc R2.o.lt,Rw.nil _ _ _ _,Rw.nil _ _ _ _,Each.nil _ _,Each.nil _ _⟩⟩)
 have O3:=Hy (Ob.o.keeps pc);have BQ3:=Hy BQ;have hlen:=Hy (show ([]:List Tb).length+([]:List Fe).length+(dP s).length≤1048576∧(jA s).length+(dP s).length≤1048608 from by
   have h1:=hz.o.ln
   have h2:(jA s).length≤32:=by unfold jA;split <;> simp [List.length_take];omega
   exact ⟨by simpa using h1,by omega⟩)
 clear pc BP BQ P3 hOt St0 Ot Ob TC R R2 BB T0;go_wp2_with fail;generalize ((w2.alloc (.cells #[.slice ta (dP s).length tcap,.int .i64 0] 117)).alloc (.cells #[.pointer (some ⟨w2.heap.size,0,none⟩)] 106))=w3 at *;have hmf:∀ (fn:Fn) (first cap:Array Value) (w:World),(Instr.makeFunc fn first cap).run Tryz.prog w=.ok (.func fn first cap) w:=fun _ _ _ _=>rfl;have F0:=tf0
 go_loopg [3] ((dP s).length+1) (fun k v wr => ∃ (m:Mo) (b:List Pb) (l:List Tk),Hid (Mf w (w2.heap.size+2) w2.heap.size w.heap.size ta (dP s).length tcap wr m l)∧Hid (pb.Own wr (w.heap.size+1) v b)∧Hid (Blk wr (w2.heap.size+1) 106 #[.pointer (some ⟨w2.heap.size,0,none⟩)])∧Hid (fH k m b l=some (m9,b9))∧Hid (m.ts.length+m.fs.length+l.length≤1048576∧b.length+l.length≤1048608))
 case atStart=>exact ⟨⟨[],[]⟩,jA s,dP s,F3,O3,BQ3,HM,hlen⟩
 case round =>
  clear F3 O3 BQ3 HM hlen;obtain ⟨m,b,l,F,O,Q,HM,hlen⟩:=hrel;rcases gk with _ | gk
  ·exact absurd HM.o (by simp [fH])
  have e0:wr.cell? ⟨w2.heap.size+1,0,none⟩=some (.pointer (some ⟨w2.heap.size,0,none⟩)):=Q.o.cell 0;go_wp2_with fail;refine (gH w2.heap.size l _ F.o.ps).mono ?_;rintro e w4 ⟨rfl,b4⟩;have F4:=Hy (F.o.step (Mv.of b4) (F.o.ps.keeps b4));have O4:=Hy (O.o.keeps b4);have Q4:=Hy (Q.o.below b4 Q.o.lt);clear b4 F O Q e0;by_cases h6:(hd l).k=6
  ·have q1:((hd l).k != 6)=false:=by simp [h6]
   obtain ⟨rfl,rfl⟩:m=m9∧b=b9:=by simpa [fH,h6] using HM.o
   clear h6 HM;generalize hd l=x at *;go_wp2_with fail;refine (pb.tY (w.heap.size+1) _ b w4 O4.o (by have:=hlen.o;omega)).mono ?_;rintro e w5 ⟨rfl,a5,c5,p,rfl,hp,hs,S5,g5,hT5⟩;have F5:=F4.o.kp (EK O4.o g5) ((Below.refl w.heap.size w4).grown g5 F4.o.bel.size (fun k hk=>by have:=(hT5 k hk).2;omega));obtain ⟨tv,fv,ct,cf,bM,r1,r2,e1,e2⟩:=F5.mm.ex;obtain ⟨ra,rc,rfl,RA⟩:=r1.row e1.1 e1.2;obtain ⟨fa,fc,rfl,FA⟩:=r2.row e2.1 e2.2;have hne:∀ x,a5=some x→x.block≠w.heap.size:=fun x hx=>by
    subst hx;have:=(hT5 x.block rfl).2;omega
   have sl:=LC a5 b.length c5 S5.hcap;have hbel:=Hy F5.bel;have hbase:=Hy (show w.heap.size<w2.heap.size+2 from by have:=hs2.o;omega);replace RA:=Hy RA;replace FA:=Hy FA;replace S5:=Hy S5;replace hne:=Hy hne;clear r1 r2 e1 e2 F5 g5 hT5 F4 O4 Q4;go_wp2_with fail;refine wp_region_held_drew (S:=fun w' => Blk w' w.heap.size 43 #[.slice ra m.ts.length rc,.slice fa m.fs.length fc]) (by kernel_rfl) bM (fun hH=>?_);refine bg 0 38 (.agg #[.slice ra m.ts.length rc,.slice fa m.fs.length fc]) rfl (by kernel_rfl) rfl (fun _ _ _ h=>h) rfl hH (fun w' hS=>aY jN dec.uy43 rfl (.tmp 2) rfl _ _ _ rfl hS rfl) ?_;simp only [sz];refine au 1 39 ?_ hH (fun w' hS=>?_) ?_;rotate_left;(·go_simp;try rfl);simp only [sz];refine au 2 40 ?_ hH (fun w' hS=>?_) ?_;rotate_left;(·go_simp;try rfl);simp only [sz];refine au 3 41 ?_ hH (fun w' hS=>?_) ?_;rotate_left;(·go_simp;try rfl);simp only [sz];refine au 4 42 ?_ hH (fun w' hS=>?_) ?_;rotate_left;(·go_simp;try rfl);simp only [sz];refine au 5 43 ?_ hH (fun w' hS=>?_) ?_;rotate_left;(·go_simp;try rfl);simp only [sz];refine aA 6 (fun K hK=>?_);refine JE jN (.tmp 2) (.tmp 38) rfl _ _ _ _ rfl rfl hH rfl rfl (by simp [Value.oneCell']) ?_;intro w9 hb9 hs9;refine hK.o _ _ hb9 (fun hH=>?_);clear hK K;simp only [Act.put];refine au 7 3 ?_ hH (fun w' hS=>?_) ?_;rotate_left;(·go_simp;try rfl);simp only [sz];refine au 8 4 ?_ hH (fun w' hS=>?_) ?_;rotate_left;(·go_simp;try rfl);simp only [sz];refine wpAnyH_done (by kernel_rfl) ?_ _;go_wp2_with fail;have K9:Kp (w2.heap.size+2) w5 w9:=hs9.kp hbase.o;refine SV jN dec.uy43 rfl rfl _ _ _ _ _ rfl hb9 rfl ?_;refine ⟨_,_,rfl,⟨ra,rc,fa,fc,rfl,(RA.o.kpT trivial K9 fun c x hq=>TbQ.kpT trivial trivial hq K9).less (Nat.le_of_lt hbase.o) fun c x hq=>hq.less (Nat.le_of_lt hbase.o),(FA.o.kpT trivial K9 fun c x hq=>FeQ.kpT trivial trivial hq K9).less (Nat.le_of_lt hbase.o) fun c x hq=>hq.less (Nat.le_of_lt hbase.o)⟩,⟨p,a5,c5,hp,hs,rfl,?_,?_,?_,S5.o.hmax,S5.o.hno⟩,hbel.o.drew.trans (hs9.below lr)⟩
   ·rcases S5.o.hat with h0 | ⟨bk,off,ea,hC⟩
    ·exact .inl (by rw [List.length_take];omega)
    refine .inr ⟨bk,off,ea,fun j hj=>?_⟩;have hbk:=hs9.block bk (hne.o _ ea);have:=hC.take 32 j hj;exact ⟨(World.cell?_of_block (w:=w5.drew) hbk).trans this.1,(World.cell?_of_block (w:=w5.drew) hbk).trans this.2⟩
   ·rw [List.length_take,S5.o.hn];omega
   have:=S5.o.hcap;omega
  have q1:((hd l).k != 6)=true:=by simp [h6]
  have HM2:=HM.o;rw [fH,if_neg h6] at HM2;have H6:=Hy h6;clear h6 HM;generalize hx:hd l=x at *;replace hx:=Hy hx;have Bg:Tg w4 w.heap.size 43:=by
   obtain ⟨tv,fv,ct,cf,bM,_⟩:=F4.o.mm.ex;exact bM.tg
  replace Bg:=Hy Bg;rcases hG:dD m l with _ | ⟨m',l2⟩ | ⟨a,c,l2⟩
  ·exact absurd hG (o7 m l)
  ·rw [hG] at HM2;replace HM2:=Hy HM2;have h1:=Hy (FH hG);have h2:=Hy (MP hG);have GG:=Hy hG;clear hG;go_wp2_with fail;refine (Vb (w2.heap.size+1) F4.o (by have:=hlen.o;omega) (by have:=hlen.o;omega) Q4.o GG.o).mono ?_;rintro e w5 ⟨rfl,F5,Q5⟩;have O5:=Hy (He O4.o Q5 F4.o.ps.tag Bg.o);have P5:=Hy (show Blk w5 (w2.heap.size+1) 106 #[.pointer (some ⟨w2.heap.size,0,none⟩)] from (Q5.block _ _ _ _ Q4.o (by omega) (by have:=hs2.o;omega) (by decide) (by decide)).trans Q4.o);replace F5:=Hy F5;clear Q5 F4 O4 Q4 Bg;go_wp2_with (refine aF wT (.tmp 7) (.tmp 26) rfl rfl _ _ _ _ rfl rfl (Blk.new _ _ _) rfl rfl (by simp [Value.oneCell']) ?_;intro w6 L hs;have c1:w6.cell? ⟨w5.heap.size,1,none⟩=some (.int .i64 0):=L.cell 1);have bb:=(aj (b0 w5) (.cells #[.int .i64 0,.int .i64 0] 122)).trans (hs.below lr);go_roundg gk
   case measure=>omega
   case rel=>exact ⟨m',b,l2,Hy (F5.o.step (Mv.of bb) (F5.o.ps.keeps bb)),Hy (O5.o.keeps bb),Hy (P5.o.below bb P5.o.lt),HM2,Hy (by have:=hlen.o;have:=h1.o;have:=h2.o;omega)⟩
  rw [hG] at HM2;replace HM2:=Hy HM2;have h1:=Hy (JV hG (by rw [hx.o];exact H6.o));have q2:(c != 0)=true:=by simp [QM hG]
  have GG:=Hy hG;clear hG;go_wp2_with fail;refine (Vd (w2.heap.size+1) F4.o (by have:=hlen.o;omega) (by have:=hlen.o;omega) Q4.o GG.o).mono ?_;rintro e w5 ⟨rfl,F5,Q5⟩;have O5:=Hy (He O4.o Q5 F4.o.ps.tag Bg.o);have P5:=Hy (show Blk w5 (w2.heap.size+1) 106 #[.pointer (some ⟨w2.heap.size,0,none⟩)] from (Q5.block _ _ _ _ Q4.o (by omega) (by have:=hs2.o;omega) (by decide) (by decide)).trans Q4.o);replace F5:=Hy F5;clear Q5 F4 O4 Q4 Bg;have hb1:=Hy (show b.length<8796093022208 from by have:=hlen.o;omega);have hww:=Hy (show w.heap.size+1≤w5.heap.size from by have:=F5.o.h4;have:=F5.o.h2;omega);go_wp2_with (first | (refine aG wT Tryz.underlying122 rfl (.tmp 7) rfl rfl _ _ _ rfl L rfl ?_) | (refine aF wT (.tmp 7) (.tmp 26) rfl rfl _ _ _ _ rfl rfl (Blk.new _ _ _) rfl rfl (by simp [Value.oneCell']) ?_;intro w6 L hs;have c1:w6.cell? ⟨w5.heap.size,1,none⟩=some (.int .i64 c):=L.cell 1;have bb:=(aj (b0 w5) (.cells #[.int .i64 0,.int .i64 0] 122)).trans (hs.below lr)) | (at_builtin;refine pb.jF (.tmp 30) (.tmp 32) rfl ?_;refine pb.eP _ rfl (.tmp 30) (.tmp 32) rfl (w.heap.size+1) _ b rfl (O5.o.keeps (aj bb _)) w6.heap.size (a,c) rfl (pb.Bw.new _ (a,c) _) hb1.o (by have:=hww.o;have:=bb.size;simp;omega) ?_;intro v7 w7 O7 b7 g7;have b6:=aj bb (.cells #[.int .i64 a,.int .i64 c] 122);have K7:=EK (O5.o.keeps b6) g7;have P7:=(K7 _ _ _ _ zl (by decide) (P5.o.below b6 P5.o.lt)).trans (P5.o.below b6 P5.o.lt);have F7:=Hy ((F5.o.step (Mv.of b6) (F5.o.ps.keeps b6)).kp K7 (b7.mono (by omega)));have e7:w7.cell? ⟨w2.heap.size+1,0,none⟩=some (.pointer (some ⟨w2.heap.size,0,none⟩)):=Blk.cell P7 0;replace P7:=Hy P7;replace O7:=Hy O7;clear K7 b6 b7 g7));refine (J7 w2.heap.size l2 w7 F7.o.ps).mono ?_;rintro e w8 ⟨rfl,P8,M8⟩;have F8:=Hy (F7.o.step M8 P8);have Bg:Tg w7 w.heap.size 43:=by
   obtain ⟨tv,fv,ct,cf,bM,_⟩:=F7.o.mm.ex;exact bM.tg
  have O8:=Hy (He O7.o (Mq.mv (g:=w.heap.size) M8) F7.o.ps.tag Bg);have Q8:=Hy (show Blk w8 (w2.heap.size+1) 106 #[.pointer (some ⟨w2.heap.size,0,none⟩)] from Blk.mv P7.o M8 (by omega) (Blk.lt P7.o));clear P8 M8 F7 O7 P7 Bg e7;go_wp2_with fail;go_roundg gk
  case measure=>omega
  case rel=>exact ⟨m,b++[(a,c)],lvR l2,F8,O8,Q8,HM2,Hy (by have:=hlen.o;have:=h1.o;rw [L_a,List.length_singleton];omega)⟩
theorem Qt {s:ByteArray} {f:Nat} {x:Mo × List Pb} (h:fH f ⟨[],[]⟩ (jA s) (dP s)=some x):Hq s=some x:=by
 unfold Hq
 cases hm:fH ((dP s).length+1) ⟨[],[]⟩ (jA s) (dP s) with
 | none=>exact absurd hm (yj _ _ _ _ ls)
 | some y=>rw [Mt hm h]
end pa
namespace ch
open Go.RowKit dec
theorem zm:∀ (Q:List (List Pc × List UInt8)) (p:Nat),(∀ q ∈ Q,Gd q.1 q.2) →
  (lxs p false (Q.map fun q=>q.2++[10]).flatten).1.map kt=(Q.map (·.1)).flatten.map (·.2)∧(lxs p false (Q.map fun q=>q.2++[10]).flatten).2=[]
 | [],p,_=>by
  show (lxs p false []).1.map kt=_∧(lxs p false []).2=[]
  rw [lex_nil]
  exact ⟨rfl,rfl⟩
 | q :: Q,p,h=>by
  have g:=h q (L_e ..)
  obtain ⟨L,e,k⟩:=sG q.1 true p [] g.w (.inl rfl)
  rw [L_n,lex_nil,L_n,g.b] at e
  have e0:((q :: Q).map fun q=>q.2++[10]).flatten=q.2++10 :: (Q.map fun q=>q.2++[10]).flatten:=by
   rw [L_p,List.flatten_cons,L_i]
   rfl
  obtain ⟨i1,i2⟩:=zm Q (p+q.2.length+1) fun y hy=>h y (L_h _ hy)
  rw [e0,J4,e]
  refine ⟨?_,by rw [i2];rfl⟩
  show (L++_).map kt=_
  rw [List.map_append,k,i1,L_p,List.flatten_cons,List.map_append]
theorem uH {α:Type} {e:α→Int} {t:α→List UInt8} : ∀ {l:List α},(lnR e t l).1=0→(∀ x ∈ l,e x=0)∧(lnR e t l).2=(l.map fun x=>t x++[10]).flatten
 | [],_=>⟨fun x hx=>by (cases hx),rfl⟩
 | x :: r,h=>by
  by_cases h1:e x=0
  ·by_cases h2:(lnR e t r).1=0
   ·obtain ⟨i1,i2⟩:=uH h2
    refine ⟨fun y hy=>?_,?_⟩
    ·rcases List.mem_cons.1 hy with rfl | hy
     ·exact h1
     ·exact i1 y hy
    ·unfold lnR
     rw [if_neg (by rw [h1];decide),if_neg (by rw [h2];decide),i2,L_p,List.flatten_cons,L_i]
     rfl
   ·unfold lnR at h
    rw [if_neg (by rw [h1];decide),if_pos h2] at h
    exact absurd h h2
  ·unfold lnR at h
   rw [if_pos h1] at h
   exact absurd h h1
structure MoO (ts:List Tb) (gs:List Fe):Prop where
 t:∀ t ∈ ts,tbE t=0
 g:∀ f ∈ gs,pfE f=0
 x:(moR ts gs).2=(ts.map fun t=>tbT t++[10]).flatten++(gs.map fun f=>feT f++[10]).flatten
 n:(moR ts gs).2.length≤16384
theorem BD {ts:List Tb} {gs:List Fe} (h:(moR ts gs).1=0):MoO ts gs:=by
 by_cases h1:(lnR tbE tbT ts).1=0
 ·by_cases h2:(lnR pfE feT gs).1=0
  ·by_cases h3:16384<((lnR tbE tbT ts).2++(lnR pfE feT gs).2).length
   ·unfold moR at h;rw [if_neg (by rw [h1];decide),if_neg (by rw [h2];decide),if_pos h3] at h;cases h
   have e:(moR ts gs).2=(lnR tbE tbT ts).2++(lnR pfE feT gs).2:=by
    unfold moR;rw [if_neg (by rw [h1];decide),if_neg (by rw [h2];decide),if_neg h3]
   obtain ⟨i1,i2⟩:=uH h1;obtain ⟨j1,j2⟩:=uH h2;exact ⟨i1,j1,by rw [e,i2,j2],by rw [e];omega⟩
  unfold moR at h;rw [if_neg (by rw [h1];decide),if_pos h2] at h;exact absurd h h2
 unfold moR at h;rw [if_pos h1] at h;exact absurd h h1
theorem BA {ts:List Tb} {gs:List Fe} (h:(moR ts gs).1=0) {s:ByteArray} (hs:s.data.toList=(moR ts gs).2) :
    lQ s=0∧jA s=[]∧pa.Hq s=some (⟨ts,gs.map pfe⟩,[]):=by
 have O:=BD h;have hsz:s.size=(moR ts gs).2.length:=by rw [← hs];exact (aI s).symm
 have hz:¬ 16384<s.size:=by have:=O.n;omega
 have hE:lQ s=0:=by unfold lQ;rw [if_neg hz]
 obtain ⟨i1,i2⟩:=zm (ts.map (fun t=>(tbK t,tbT t))++gs.map fun f=>(feK f,feT f)) 0 fun q hq=>by
  rcases List.mem_append.1 hq with hq | hq
  ·obtain ⟨t,ht,rfl⟩:=List.mem_map.1 hq;exact Sg (xL (O.t t ht))
  obtain ⟨f,hf,rfl⟩:=List.mem_map.1 hq;exact UJ (O.g f hf)
 have e1:((ts.map (fun t=>(tbK t,tbT t))++gs.map fun f=>(feK f,feT f)).map fun q=>q.2++[10]).flatten=s.data.toList:=by
  rw [hs,O.x,List.map_append,List.map_map,List.map_map,List.flatten_append];rfl
 have e2:((ts.map (fun t=>(tbK t,tbT t))++gs.map fun f=>(feK f,feT f)).map (·.1)).flatten=tsL ts++gsL gs:=by
  rw [List.map_append,List.map_map,List.map_map,List.flatten_append];rfl
 rw [e1] at i1 i2;rw [e2] at i1;have hB:jA s=[]:=by unfold jA;rw [if_neg hz,i2];rfl
 refine ⟨hE,hB,?_⟩;have S:pa.SimR (fun _ _=>True) (tkl (tsL ts++gsL gs)++[⟨6,.empty,0⟩]) (dP s):=by
  rw [Ll hz];exact ED (e:=⟨6,.empty,0⟩) (e':=uS s) rfl rfl rfl ((RY _).trans i1.symm)
 have e3:pa.fH (ts.length+(gs.length+1)) ⟨[],[]⟩ [] (tkl (tsL ts++gsL gs)++[⟨6,.empty,0⟩])=some (⟨ts,gs.map pfe⟩,[]):=by
  rw [dU,L_i,JN ts _ _ _ _ fun t ht=>xL (O.t t ht),JO gs _ _ _ _ O.g];rfl
 obtain ⟨q,h3,h4⟩:=pa.uE _ _ S .nil _ _ e3;refine pa.Qt (f:=ts.length+(gs.length+1)) ?_;rw [hB,h3];cases h4;rfl
end ch
end Go.Proofs.YtbahfelnbofjjaaGreatDoor
