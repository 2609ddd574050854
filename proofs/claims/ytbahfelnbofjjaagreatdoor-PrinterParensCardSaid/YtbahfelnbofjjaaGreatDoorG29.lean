/-
  A whole source as an expression or a type; A module as plain data: items, what is left out; what is read is the head of the tokens; Tokens that differ in their offsets alone are read alike; More steps change no answer; what is read depends on the tokens that are read and on the one behind them; What the parser reads from the pieces of an expression of proper form: this expression; The parser's steps, with as many steps as it takes; Every expression of proper form is read back from its pieces; Every expression of proper form is read back from its pieces: nodes, rows, the whole; What is printed is read back: whole texts of expressions and types; What is parsed is short throughout; What the parser has built, as what the printer and the checker read; parser.Expr and parser.Type over what has been printed.
-/
import Derived.Test.YtbahfelnbofjjaaGreatDoorG27
import Derived.Test.YtbahfelnbofjjaaGreatDoorG28
set_option maxRecDepth 100000
set_option maxHeartbeats 16000000
namespace Go.Proofs.YtbahfelnbofjjaaGreatDoor
namespace pa
open Go.RowKit dec
structure Off (B g:Nat) (w w':World):Prop where
 os:w'.os=w.os
 tape:w'.tape=w.tape
 output:w'.output=w.output
 size:w.heap.size≤w'.heap.size
 block:∀ k,k<w.heap.size→k≠B→k≠g→w'.heap[k]? = w.heap[k]?
theorem Off.mv {B g:Nat} {w w':World} (h:Mv w.heap.size B w w'):Off B g w w':=⟨h.os,h.tape,h.output,h.size,fun k hk hn _=>h.block k hk hn⟩
theorem Off.st {B g:Nat} {w a b:World} (h:Off B g w a) (k:St g a b):Off B g w b :=
 ⟨k.os.trans h.os,k.tape.trans h.tape,k.output.trans h.output,by rw [k.size];exact h.size,fun i hi hn hg=>(k.block i hg).trans (h.block i hi hn hg)⟩
theorem Off.blk {B g k:Nat} {w w':World} {T:TypeId} {cs:Array Value} (h:Off B g w w') (b:Blk w k T cs) (h1:k≠B) (h2:k≠g):Blk w' k T cs:=(h.block k b.lt h1 h2).trans b
theorem Off.below {B g S:Nat} {w w':World} (h:Off B g w w') (h1:S≤B) (h2:S≤g) (h3:S≤w.heap.size):Below S w w':=⟨h.os,h.tape,h.output,h.size,fun k hk=>h.block k (by omega) (by omega) (by omega)⟩
def tyC (t:Ty) (ua:Option Addr) (uc:Nat):Array Value:=#[.int .i64 t.k,.slice ua t.un.length uc,.string t.of]
theorem CG (B:Nat) (w:World):Calls Tryz.prog 68 #[.pointer (some ⟨B,0,none⟩)] w fun e w' => e=.returned (.agg #[.pointer (some ⟨B,0,none⟩),.bool false])∧Below w.heap.size w w':=by
 go_enter Tryz.func68,Tryz.ntmps68
 go_wp2_with fail;refine bK vH Tryz.underlying108 rfl rfl _ _ w.heap.size _ _ rfl (Blk.new w _ _) rfl ?_;exact ⟨rfl,au (b0 w) _⟩
theorem J4 (B:Nat) (l:List Tk) (w:World) (h:Ps w B l):Calls Tryz.prog 67 #[.pointer (some ⟨B,0,none⟩)] w (Pst B Ev (exR l) w):=by
 have P:=Hy (h.keeps (au (b0 w) (.cells zE 29)));have R:=Hy (Blk.new w 29 zE);have hlt:=Hy h.lt;have OC:=Hy (fun W=>CG B W);clear h
 go_enter Tryz.func67,Tryz.ntmps67
 go_wp2_with fail;refine (OC.o _).mono ?_;rintro e w1 ⟨rfl,b1⟩;replace P:=Hy (P.o.keeps b1);replace R:=Hy (R.o.below b1 R.o.lt);have M:=Hy (Mv.of (B:=B) (aA (au (b0 w) (.cells zE 29)) b1));clear b1;go_wp2_with fail;refine (Ri B l w1 P.o).mono ?_;rintro e w2 h2;have hw:=Hy R.o.lt;rcases hG:exR l with _ | ⟨x,l2⟩ | ⟨a,c,l2⟩
 ·exact absurd hG (qM l)
 ·rw [hG] at h2;obtain ⟨u,rfl,⟨ua,uc,aa,ac,rfl,E⟩,pp,mm⟩:=h2;replace R:=Hy (R.o.mv mm (by have:=hlt.o;omega) R.o.lt);replace M:=Hy (M.o.next mm);replace P:=Hy pp;replace E:=Hy E;have hGG:=Hy hG;clear pp mm hG;go_wp2_with (refine aO (.tmp 2) (.tmp 5) rfl rfl _ _ _ _ rfl rfl R.o rfl rfl (aQ _ _ _ _ _) ?_;intro w9 hb9 hs9);refine aW rfl _ _ _ _ _ rfl hb9 rfl ?_
  first | exact aR hGG.o ⟨ua,uc,aa,ac,rfl,(E.o.kp (hs9.kp hw.o)).less (Nat.le_of_lt hw.o)⟩ (P.o.st hs9 hlt.o) (M.o.trans (hs9.mv lr)) | exact aR rfl ⟨ua,uc,aa,ac,rfl,(E.o.kp (hs9.kp hw.o)).less (Nat.le_of_lt hw.o)⟩ (P.o.st hs9 hlt.o) (M.o.trans (hs9.mv lr))
 rw [hG] at h2;obtain ⟨rfl,pp,mm⟩:=h2;replace M:=Hy (M.o.next mm);replace P:=Hy pp;have hGG:=Hy hG;unfold thr;clear pp mm hG;go_wp2_with fail
 first | exact ⟨rfl,aH hGG.o P.o M.o⟩ | exact ⟨rfl,aH rfl P.o M.o⟩
def jh {α:Type} (one:List Tk→Rs α) (l:List Tk):Rs α:=(one l).bind fun x r=>(ny r).bind fun _ r=>.ok x r
theorem rU (l:List Tk):ny l≠.out:=by
 unfold ny wrg;split <;> exact fun h=>by cases h
theorem Fz {α:Type} {one:List Tk→Rs α} (h:∀ l,one l≠.out) (l:List Tk):jh one l≠.out:=aP (h l) fun _ _ _=>aP (rU _) fun _ _ _ h=>by cases h
def InE (C g:Nat) (w':World) (x:Ex):Prop:=∃ (ua:Option Addr) (uc:Nat) (aa:Option Addr) (ac:Nat),Blk w' g 29 (exC x ua uc aa ac)∧Ec C w' x ua aa
def ClE (B g:Nat) (r:Rs Ex) (w:World) (e:Ending) (w':World):Prop :=
 match r with
 | .out=>True
 | .ok x _=>e=.returned (.tuple #[])∧InE w.heap.size g w' x∧Off B g w w'
 | .no a c _=>e=thr a c∧Blk w' g 29 zE∧Off B g w w'
theorem OG (B bf bp g:Nat) (l:List Tk) (w:World) (h:Ps w B l) (hf:Blk w bf 110 #[.func (.func 67) #[] #[]]) (hp:Blk w bp 106 #[.pointer (some ⟨B,0,none⟩)]) (hv:Blk w g 29 zE) (_h1:bf≠B) (h2:bp≠B) (h3:g≠B) :
    Calls Tryz.prog 122 #[.pointer (some ⟨bf,0,none⟩),.pointer (some ⟨bp,0,none⟩),.pointer (some ⟨g,0,none⟩)] w (ClE B g (jh exR l) w):=by
 have P:=Hy h;have R:=Hy hv;have HP:=Hy hp;have e0:w.cell? ⟨bf,0,none⟩=some (.func (.func 67) #[] #[]):=hf.cell 0;have e1:w.cell? ⟨bp,0,none⟩=some (.pointer (some ⟨B,0,none⟩)):=hp.cell 0;have N2:=Hy h2;have N3:=Hy h3;have hgl:=Hy hv.lt;have HBW:=Hy h.lt;clear h hf hv hp _h1 h2 h3
 go_enter Tryz.func122,Tryz.ntmps122
 go_wp2_with fail;refine (J4 B l w P.o).mono ?_;rintro e w1 k1;rcases hG:exR l with _ | ⟨x,l1⟩ | ⟨a,c,l1⟩
 ·exact absurd hG (qM l)
 ·rw [hG] at k1;obtain ⟨u,rfl,⟨ua,uc,aa,ac,rfl,E⟩,pp,mm⟩:=k1;have hal:=Hy (show jh exR l=(ny l1).bind fun _ r=>.ok x r by unfold jh;rw [hG];rfl);have R1:=Hy (R.o.mv mm N3.o R.o.lt);have HP1:=Hy (HP.o.mv mm N2.o HP.o.lt);have M1:=Hy mm;have P1:=Hy pp;have E1:=Hy E;have hs1:=Hy mm.size;clear pp mm hG E e0 e1 P R HP;go_wp2_with (refine aL aJ (.tmp 3) (.tmp 6) rfl rfl _ _ _ _ rfl rfl (Blk.new _ _ _) rfl rfl (aQ _ _ _ _ _) ?_;intro w2 L3 hs;have bb:=(au (b0 w1) _).trans (hs.below lr);replace L3:=Hy L3;have R2:=Hy (R1.o.below bb R1.o.lt);have HP2:=Hy (HP1.o.below bb HP1.o.lt);have P2:=Hy (P1.o.keeps bb);have M2:=Hy (M1.o.cu bb);have E2:=Hy (E1.o.kp (dG bb));clear bb hs P1 R1 HP1 M1 E1;have e1:=HP2.o.cell 0);refine (TH B l1 w2 P2.o _ rfl (rU _)).mono ?_;rintro e w3 k3;rcases hG:ny l1 with _ | ⟨y,l2⟩ | ⟨a,c,l2⟩
  ·exact absurd hG (rU _)
  ·rw [hG] at k3;obtain ⟨u,rfl,vv,pp,mm⟩:=k3;obtain rfl:u=.tuple #[]:=vv;have hfin:=Hy (show jh exR l=.ok x l2 by rw [hal.o,hG];rfl);have hB2:=Hy P2.o.lt;have R3:=Hy (R2.o.mv mm N3.o R2.o.lt);have L4:=Hy (L3.o.mv mm (by have:=hs1.o;have:=HBW.o;omega) L3.o.lt);have M3:=Hy (M2.o.next mm);have E3:=Hy (E2.o.kp (mm.kp HBW.o));clear pp mm hG e1;go_wp2_with (first | (refine aF aJ Tryz.underlying29 rfl (.tmp 3) rfl rfl _ _ _ rfl L4.o rfl ?_) | (refine aL aJ (.tmp 2) (.tmp 9) rfl rfl _ _ _ _ rfl rfl R3.o rfl rfl (aQ _ _ _ _ _) ?_;intro w9 hb9 hs9));go_end0;rw [hfin.o];exact ⟨rfl,⟨ua,uc,aa,ac,hb9,E3.o.kp (hs9.kp hgl.o)⟩,(Off.mv M3.o).st hs9⟩
  rw [hG] at k3;obtain ⟨rfl,pp,mm⟩:=k3;have hfin:=Hy (show jh exR l=.no a c l2 by rw [hal.o,hG];rfl);have R3:=Hy (R2.o.mv mm N3.o R2.o.lt);have M3:=Hy (M2.o.next mm);unfold thr;clear pp mm hG e1;go_wp2_with fail;refine ⟨rfl,?_⟩;rw [hfin.o];exact ⟨rfl,R3.o,Off.mv M3.o⟩
 rw [hG] at k1;obtain ⟨rfl,pp,mm⟩:=k1;have hfin:=Hy (show jh exR l=.no a c l1 by unfold jh;rw [hG];rfl);have R3:=Hy (R.o.mv mm N3.o R.o.lt);have M3:=Hy mm;unfold thr;clear pp mm hG e0 e1;go_wp2_with fail;refine ⟨rfl,?_⟩;rw [hfin.o];exact ⟨rfl,R3.o,Off.mv M3.o⟩
theorem lM {x:Tk} : x.t.size≤(so x).length:=by
 unfold so;split
 ·simp only [List.length_cons,List.length_append,Array.length_toList];show x.t.data.size≤_;omega
 simp only [Array.length_toList];exact Nat.le_refl _
theorem wh:∀ (l:List Tk),(∀ x ∈ l,pr x=true)→l.length≤(l.map fun x=>(so x).length).sum∧∀ x ∈ l,x.t.size≤(l.map fun x=>(so x).length).sum
 | [],_=>⟨Nat.zero_le _,fun x h=>by cases h⟩
 | y :: l,h=>by
  have h1:=wh l fun x hx=>h x (List.mem_cons_of_mem _ hx)
  have h2:=uU (h y (List.mem_cons_self ..))
  rw [List.map_cons,List.sum_cons,List.length_cons]
  refine ⟨by have:=h1.1;omega,fun x hx=>?_⟩
  rcases List.mem_cons.1 hx with rfl | hx
  ·have:=lM (x:=x)
   omega
  ·have:=h1.2 x hx
   omega
theorem zU {s:ByteArray} (h:¬ 16384<s.size):Tl (cO s):=by
 have hl:cO s=(lxs 0 false s.data.toList).1++[iZ s]:=by unfold cO;rw [if_neg h]
 have h1:=wh _ (vB 0 false s.data.toList);have h2:=qY s.data.toList _ 0 zl (xG s.data.toList 0 false s.data.toList rfl zl).1;have h3:s.data.toList.length=s.size:=aI s;rw [hl];refine ⟨fun x hx=>?_,⟨_,_,rfl,rfl⟩,?_⟩
 ·rcases List.mem_append.1 hx with hx | hx
  ·have:=h1.2 x hx;omega
  rw [List.mem_singleton] at hx;subst hx;exact Nat.zero_le _
 rw [List.length_append,List.length_singleton];have:=h1.1;omega
theorem FN {s:ByteArray} (h:gB s=0):¬ 16384<s.size:=by
 unfold gB at h;split at h
 ·cases h
 assumption
def dR {α:Type} (z:α) (one:List Tk→Rs α) (s:ByteArray):α × Int × Int :=
 if gB s=0 then
  match jw s with
  | q :: _=>(z,q.1,q.2)
  | [] =>
   match jh one (cO s) with
   | .ok x _=>(x,0,0)
   | .no a c _=>(z,a,c)
   | .out=>(z,0,0)
 else (z,0,gB s)
theorem Il {α:Type} {z:α} {one:List Tk→Rs α} {s:ByteArray} {q:Pb} {qs:List Pb} (h:gB s=0) (hb:jw s=q :: qs):dR z one s=(z,q.1,q.2):=by
 unfold dR;rw [if_pos h,hb]
theorem MZ {α:Type} {z:α} {one:List Tk→Rs α} {s:ByteArray} {x:α} {l:List Tk} (h:gB s=0) (hb:jw s=[]) (ha:jh one (cO s)=.ok x l):dR z one s=(x,0,0):=by
 unfold dR;rw [if_pos h,hb];simp only [ha]
theorem Na {α:Type} {z:α} {one:List Tk→Rs α} {s:ByteArray} {a c:Int} {l:List Tk} (h:gB s=0) (hb:jw s=[]) (ha:jh one (cO s)=.no a c l):dR z one s=(z,a,c):=by
 unfold dR;rw [if_pos h,hb];simp only [ha]
theorem qy {T:TypeId} {n:Nat} {d:TypeDesc} (hi:(Tryz.prog.info? T).map (·.size)=some n) (hu:Tryz.prog.underlying T=some d) (hd:oH d=true)
    {fn:Func} {R:Ending→World→Prop} {p t u:Tmp} (h:fn.results=#[.cell p T,.tmp t,.tmp u]) (tmps:Array Value) (w:World) (g:Nat) (T':TypeId) (cells:Array Value) (hp:tmps.getD p undef=.pointer (some ⟨g,0,none⟩))
    (hB:Blk w g T' cells) (hc:cells.size=n) (hR:R (.returned (.tuple #[.agg cells,tmps.getD t undef,tmps.getD u undef])) w):bodyPost Tryz.prog fn R .ret ⟨tmps,[]⟩ w:=by
 refine bodyPost_ret ?_ rfl hR;have hp':tmps[p]?.getD undef=.pointer (some ⟨g,0,none⟩):=by simpa using hp
 have hL:=run_loadVar_row (P:=Tryz.prog) w g T' T cells (0,0) d hB hu (by cases d <;> first | rfl | cases hd) (by rw [hc];exact hi);simp [results,h,hp',asAddr,hL]
theorem KF (a0:Option Addr) (n0 cap:Nat) (s:ByteArray) (w:World) (hS:Bs w a0 n0 cap s) (T:Tabo w) (tr:Ex × Int × Int) (hTT:dR (α:=Ex) ⟨h0,.nil⟩ exR s=tr) :
    Calls Tryz.prog 66 #[.slice a0 n0 cap,.func (.func 67) #[] #[]] w fun e w' => ∃ v,e=.returned (.tuple #[v,.int .i64 tr.2.1,.int .i64 tr.2.2])∧Ev w.heap.size w' v tr.1∧Below w.heap.size w w':=by
 replace hTT:=Hy hTT;have bb:=au (au (b0 w) (.cells #[.func (.func 67) #[] #[]] 110)) (.cells zE 29);have HF:=Hy ((Blk.new w 110 #[.func (.func 67) #[] #[]]).past (.cells zE 29));have R:=Hy (by have:=Blk.new (w.alloc (.cells #[.func (.func 67) #[] #[]] 110)) 29 zE;simpa using this:Blk ((w.alloc (.cells #[.func (.func 67) #[] #[]] 110)).alloc (.cells zE 29)) (w.heap.size+1) 29 zE);have TC:=Hy (uK a0 n0 cap s _ (hS.keeps bb) (T.stays bb).t);have T0:=Hy (T.stays bb);have B0:=Hy bb;have hsz:=Hy (by simp:((w.alloc (.cells #[.func (.func 67) #[] #[]] 110)).alloc (.cells zE 29)).heap.size=w.heap.size+2);clear hS T bb
 go_enter Tryz.func66,Tryz.ntmps66
 go_wp2_with fail;refine TC.o.mono ?_;rintro e w2 ⟨vt,vb,rfl,Ot,Ob,b2⟩;have B2:=Hy (aA B0.o b2);have HF2:=Hy (HF.o.below b2 HF.o.lt);have R2:=Hy (R.o.below b2 R.o.lt);have T2:=Hy (T0.o.stays b2);have hs2:=Hy (show w.heap.size+2≤w2.heap.size from by have:=b2.size;have:=hsz.o;omega);replace Ot:=Hy Ot;replace Ob:=Hy Ob;clear b2 TC T0 B0 HF R hsz;by_cases ht0:gB s=0
 ·have hz:=Hy (FN ht0);have hE0:=Hy ht0;rw [ht0];clear ht0;rcases hB:jw s with _ | ⟨q,qs⟩
  ·have hBB:=Hy hB;rw [hB] at Ob;clear hB;obtain ⟨va,vcap,rfl,_⟩:=Ob.o.sl;obtain ⟨ta,tcap,rfl,St0⟩:=Ot.o.sl;have Sx:=Hy St0;have q0:decide (0<([]:List Pb).length)=false:=rfl;simp only [List.length_nil];have pc:=au (au (b0 w2) (.cells #[.slice ta (cO s).length tcap,.int .i64 0] 117)) (.cells #[.pointer (some ⟨w2.heap.size,0,none⟩)] 106);have BP:=(Blk.new w2 117 #[.slice ta (cO s).length tcap,.int .i64 0]).past (.cells #[.pointer (some ⟨w2.heap.size,0,none⟩)] 106);have BQ:Blk ((w2.alloc (.cells #[.slice ta (cO s).length tcap,.int .i64 0] 117)).alloc (.cells #[.pointer (some ⟨w2.heap.size,0,none⟩)] 106)) (w2.heap.size+1) 106 #[.pointer (some ⟨w2.heap.size,0,none⟩)]:=by
    have:=Blk.new (w2.alloc (.cells #[.slice ta (cO s).length tcap,.int .i64 0] 117)) 106 #[.pointer (some ⟨w2.heap.size,0,none⟩)];simpa using this
   have P3:Hid (Ps ((w2.alloc (.cells #[.slice ta (cO s).length tcap,.int .i64 0] 117)).alloc (.cells #[.pointer (some ⟨w2.heap.size,0,none⟩)] 106)) w2.heap.size (cO s)):=Hy ⟨⟨ta,(cO s).length,tcap,cO s,0,BP.cell 0,BP.cell 1,BP.free 1,St0.keeps pc,fun b off hb=>by
     rcases St0.hat with hn | ⟨b',off',e',hC⟩
     · exact absurd (List.eq_nil_of_length_eq_zero hn) (zU hz.o).ne
     · rw [hb] at e'
       cases e'
       have:=(hC 0 (by have:=(zU hz.o).ne;cases hq:cO s with | nil=>exact absurd hq this | cons x r=>simp)).1
       exact block_lt_of_cell this,rfl⟩,zU hz.o,⟨w2,T2.o,pc,Nat.le_refl _⟩,BP.tg⟩
   have HF3:=Hy (HF2.o.below pc HF2.o.lt);have R3:=Hy (R2.o.below pc R2.o.lt);have BQ3:=Hy BQ;have B3:=Hy (aA B2.o pc);have hs3:=Hy (by simp:((w2.alloc (.cells #[.slice ta (cO s).length tcap,.int .i64 0] 117)).alloc (.cells #[.pointer (some ⟨w2.heap.size,0,none⟩)] 106)).heap.size=w2.heap.size+2);have hmf:∀ (fn:Fn) (first cap:Array Value) (w:World),(Instr.makeFunc fn first cap).run Tryz.prog w=.ok (.func fn first cap) w:=fun _ _ _ _=>rfl;clear pc BP BQ St0 Sx Ob Ot HF2 R2 B2 T2;go_wp2_with fail;generalize ((w2.alloc (.cells #[.slice ta (cO s).length tcap,.int .i64 0] 117)).alloc (.cells #[.pointer (some ⟨w2.heap.size,0,none⟩)] 106))=w3 at *;have hgn:=Hy (show w.heap.size+1≠w2.heap.size from by have:=hs2.o;omega);have CA:=Hy (OG w2.heap.size w.heap.size (w2.heap.size+1) (w.heap.size+1) (cO s) (w3.alloc (.cells #[.int .i64 0,.int .i64 0] 122)) (P3.o.keeps (au (b0 w3) _)) (HF3.o.past _) (BQ3.o.past _) (R3.o.past _) (by have:=hs2.o;omega) (by omega) hgn.o);have hYY:∀ w',Off w2.heap.size (w.heap.size+1) (w3.alloc (.cells #[.int .i64 0,.int .i64 0] 122)) w'→Blk w' w3.heap.size 122 #[.int .i64 0,.int .i64 0]:=fun w' O=>O.blk (Blk.new w3 _ _) (by have:=hs3.o;omega) (by have:=hs2.o;have:=hs3.o;omega);rcases hA:jh exR (cO s) with _ | ⟨x,l1⟩ | ⟨a,c,l1⟩
   ·exact absurd hA (Fz (qM) _)
   ·have hT:=Hy (show tr=(x,0,0) from by rw [← hTT.o];exact MZ hE0.o hBB.o hA);rw [hA] at CA;clear hA;refine (Hu 122 #[.pointer (some ⟨w.heap.size,0,none⟩),.pointer (some ⟨w2.heap.size+1,0,none⟩),.pointer (some ⟨w.heap.size+1,0,none⟩)] w3 (fun w' => InE (w3.alloc (.cells #[.int .i64 0,.int .i64 0] 122)).heap.size (w.heap.size+1) w' x∧Off w2.heap.size (w.heap.size+1) (w3.alloc (.cells #[.int .i64 0,.int .i64 0] 122)) w') (fun w' h=>hYY w' h.2) CA.o (fun _=>rfl)).mono ?_;rintro e w5 ⟨w4,⟨⟨ua,uc,aa,ac,I4,E4⟩,O4⟩,S5,rfl⟩;have I5:=Hy (I4.st S5 (by have:=hs2.o;have:=hs3.o;omega));have E5:=Hy ((E4.kp (S5.kp (by simp))).less (show w.heap.size+2≤_ by simp;have:=hs2.o;have:=hs3.o;omega));have B5:=Hy (B3.o.trans ((((Below.refl w.heap.size w3).alloc (by have:=hs2.o;have:=hs3.o;omega) (.cells #[.int .i64 0,.int .i64 0] 122)).trans (O4.below (by have:=hs2.o;omega) (by omega) (by simp;have:=hs2.o;have:=hs3.o;omega))).trans (S5.below (by have:=hs2.o;have:=hs3.o;omega))));have hs5:=Hy (show w.heap.size+2≤w5.heap.size from by have:=S5.size;have:=O4.size;simp at this;have:=hs2.o;have:=hs3.o;omega);clear CA hYY I4 O4 S5 E4 P3 HF3 R3 BQ3 B3;go_wp2_with fail;have bb:=au (b0 w5) (.cells #[.int .i64 0,.int .i64 0] 122);have SS:=Hy (show Blk (w5.alloc (.cells #[.int .i64 0,.int .i64 0] 122)).drew (w.heap.size+1) 29 (exC x ua uc aa ac)∧Blk (w5.alloc (.cells #[.int .i64 0,.int .i64 0] 122)).drew w5.heap.size 122 #[.int .i64 0,.int .i64 0] from ⟨I5.o.past _,Blk.new w5 _ _⟩);refine wp_region_held_drew (S:=fun w' => Blk w' (w.heap.size+1) 29 (exC x ua uc aa ac)∧Blk w' w5.heap.size 122 #[.int .i64 0,.int .i64 0]) (by kernel_rfl) SS.o (fun hH=>?_);refine aZ 0 40 (.agg (exC x ua uc aa ac)) rfl (by kernel_rfl) rfl (fun _ _ _ h=>h) rfl hH (fun w' hS=>aY aJ Tryz.underlying29 rfl (.tmp 4) rfl _ _ _ rfl hS.1 rfl) ?_;simp only [sz0,sz1];refine ak 1 41 ?_ hH (fun w' hS=>?_) ?_;rotate_left
    ·go_simp;try with_reducible rfl
    simp only [sz0,sz1];refine ak 2 42 ?_ hH (fun w' hS=>?_) ?_;rotate_left
    ·have e1:=hS.2.cell 0;go_simp;try with_reducible rfl
    simp only [sz0,sz1];refine ak 3 43 ?_ hH (fun w' hS=>?_) ?_;rotate_left
    ·go_simp;try with_reducible rfl
    simp only [sz0,sz1];refine ak 4 44 ?_ hH (fun w' hS=>?_) ?_;rotate_left
    ·have e1:=hS.2.cell 1;go_simp;try with_reducible rfl
    simp only [sz0,sz1];refine aC 5 (fun K hK=>?_);refine qB aJ (.tmp 4) (.tmp 40) rfl _ _ _ _ rfl rfl hH.1 rfl rfl (aQ _ _ _ _ _) ?_;intro w9 hb9 hs9;refine hK.o _ _ ⟨hb9,hH.2.st hs9 (by have:=hs5.o;omega)⟩ (fun hH=>?_);clear hK K;have E7:=Hy ((E5.o.kp (dG bb)).kp (hs9.kp (by omega)));have B9:=Hy (((B5.o.trans (bb.mono (by have:=hs5.o;omega))).drew).trans (hs9.below (Nat.le_succ _)));replace hb9:=Hy hb9;clear hs9 SS bb;simp only [Act.put];refine ak 6 5 ?_ hH (fun w' hS=>?_) ?_;rotate_left
    ·go_simp;try with_reducible rfl
    simp only [sz0,sz1];refine ak 7 6 ?_ hH (fun w' hS=>?_) ?_;rotate_left
    ·go_simp;try with_reducible rfl
    simp only [sz0,sz1];clear hH;refine wpAnyH_done (by kernel_rfl) ?_ _;go_wp2_with fail;refine qy aJ Tryz.underlying29 rfl rfl _ _ _ _ _ rfl hb9.o rfl ?_;rw [hT.o];exact ⟨_,rfl,⟨ua,uc,aa,ac,rfl,E7.o.less (by omega)⟩,B9.o⟩
   have hT:=Hy (show tr=(⟨h0,.nil⟩,a,c) from by rw [← hTT.o];exact Na hE0.o hBB.o hA);rw [hA] at CA;clear hA;refine (Hw 122 #[.pointer (some ⟨w.heap.size,0,none⟩),.pointer (some ⟨w2.heap.size+1,0,none⟩),.pointer (some ⟨w.heap.size+1,0,none⟩)] w3 a c (fun w' => Blk w' (w.heap.size+1) 29 zE∧Off w2.heap.size (w.heap.size+1) (w3.alloc (.cells #[.int .i64 0,.int .i64 0] 122)) w') (fun w' h=>hYY w' h.2) CA.o (fun _=>rfl)).mono ?_;rintro e w5 ⟨w4,⟨I4,O4⟩,S5,rfl⟩;have I5:=Hy (I4.st S5 (by have:=hs2.o;have:=hs3.o;omega));have B5:=Hy (B3.o.trans ((((Below.refl w.heap.size w3).alloc (by have:=hs2.o;have:=hs3.o;omega) (.cells #[.int .i64 0,.int .i64 0] 122)).trans (O4.below (by have:=hs2.o;omega) (by omega) (by simp;have:=hs2.o;have:=hs3.o;omega))).trans (S5.below (by have:=hs2.o;have:=hs3.o;omega))));have hs5:=Hy (show w.heap.size+2≤w5.heap.size from by have:=S5.size;have:=O4.size;simp at this;have:=hs2.o;have:=hs3.o;omega);clear CA hYY I4 O4 S5 P3 HF3 R3 BQ3 B3;go_wp2_with fail;have bb:=au (b0 w5) (.cells #[.int .i64 a,.int .i64 c] 122);have SS:=Hy (show Blk (w5.alloc (.cells #[.int .i64 a,.int .i64 c] 122)).drew (w.heap.size+1) 29 (zE)∧Blk (w5.alloc (.cells #[.int .i64 a,.int .i64 c] 122)).drew w5.heap.size 122 #[.int .i64 a,.int .i64 c] from ⟨I5.o.past _,Blk.new w5 _ _⟩);refine wp_region_held_drew (S:=fun w' => Blk w' (w.heap.size+1) 29 (zE)∧Blk w' w5.heap.size 122 #[.int .i64 a,.int .i64 c]) (by kernel_rfl) SS.o (fun hH=>?_);refine aZ 0 40 (.agg (zE)) rfl (by kernel_rfl) rfl (fun _ _ _ h=>h) rfl hH (fun w' hS=>aY aJ Tryz.underlying29 rfl (.tmp 4) rfl _ _ _ rfl hS.1 rfl) ?_;simp only [sz0,sz1];refine ak 1 41 ?_ hH (fun w' hS=>?_) ?_;rotate_left
   ·go_simp;try with_reducible rfl
   simp only [sz0,sz1];refine ak 2 42 ?_ hH (fun w' hS=>?_) ?_;rotate_left
   ·have e1:=hS.2.cell 0;go_simp;try with_reducible rfl
   simp only [sz0,sz1];refine ak 3 43 ?_ hH (fun w' hS=>?_) ?_;rotate_left
   ·go_simp;try with_reducible rfl
   simp only [sz0,sz1];refine ak 4 44 ?_ hH (fun w' hS=>?_) ?_;rotate_left
   ·have e1:=hS.2.cell 1;go_simp;try with_reducible rfl
   simp only [sz0,sz1];refine aC 5 (fun K hK=>?_);refine qB aJ (.tmp 4) (.tmp 40) rfl _ _ _ _ rfl rfl hH.1 rfl rfl (by simp [zE,Value.oneCell']) ?_;intro w9 hb9 hs9;refine hK.o _ _ ⟨hb9,hH.2.st hs9 (by have:=hs5.o;omega)⟩ (fun hH=>?_);clear hK K;have B9:=Hy (((B5.o.trans (bb.mono (by have:=hs5.o;omega))).drew).trans (hs9.below (Nat.le_succ _)));replace hb9:=Hy hb9;clear hs9 SS bb;simp only [Act.put];refine ak 6 5 ?_ hH (fun w' hS=>?_) ?_;rotate_left
   ·go_simp;try with_reducible rfl
   simp only [sz0,sz1];refine ak 7 6 ?_ hH (fun w' hS=>?_) ?_;rotate_left
   ·go_simp;try with_reducible rfl
   simp only [sz0,sz1];clear hH;refine wpAnyH_done (by kernel_rfl) ?_ _;go_wp2_with fail;refine qy aJ Tryz.underlying29 rfl rfl _ _ _ _ _ rfl hb9.o rfl ?_;rw [hT.o];exact ⟨_,rfl,⟨none,0,none,0,rfl,⟨.inl rfl,.inl rfl⟩⟩,B9.o⟩
  have hT:=Hy (show tr=(⟨h0,.nil⟩,q.1,q.2) from by rw [← hTT.o];exact Il hE0.o hB);rw [hB] at Ob;clear hB;rcases Ob.o.o with ⟨_,hnil⟩ | ⟨g,vcap,rfl,hbg,hg,hlc,hcm,hC⟩
  ·cases hnil
  have c0:w2.cell? ⟨g,0,none⟩=some (.int .i64 q.1):=(hC 0 (by simp)).1;have c1:w2.cell? ⟨g,1,none⟩=some (.int .i64 q.2):=(hC 0 (by simp)).2;have hgn:=Hy (show g≠w.heap.size+1 from by simp at hbg;omega);obtain ⟨N,hN⟩:∃ N,(q :: qs).length=N:=⟨_,rfl⟩;have hN0:0<N:=by rw [← hN];simp
  rw [hN];have q0:decide ((0:Int)<(N:Int))=true:=dT (by omega);have q1:(0:Int)<(N:Int):=by omega
  clear hN hC hlc hcm hbg Ob Ot;go_wp2_with fail;have SS:=Hy (show Blk w2.drew (w.heap.size+1) 29 (zE)∧w2.drew.cell? ⟨g,0,none⟩=some (.int .i64 q.1)∧w2.drew.cell? ⟨g,1,none⟩=some (.int .i64 q.2) from ⟨R2.o,c0,c1⟩);clear c0 c1;refine wp_region_held_drew (S:=fun w' => Blk w' (w.heap.size+1) 29 (zE)∧w'.cell? ⟨g,0,none⟩=some (.int .i64 q.1)∧w'.cell? ⟨g,1,none⟩=some (.int .i64 q.2)) (by kernel_rfl) SS.o (fun hH=>?_);refine aZ 0 26 (.agg (zE)) rfl (by kernel_rfl) rfl (fun _ _ _ h=>h) rfl hH (fun w' hS=>aY aJ Tryz.underlying29 rfl (.tmp 4) rfl _ _ _ rfl hS.1 rfl) ?_;simp only [sz0,sz1];refine ak 1 27 ?_ hH (fun w' hS=>?_) ?_;rotate_left
  ·go_simp;try with_reducible rfl
  simp only [sz0,sz1];refine ak 2 28 ?_ hH (fun w' hS=>?_) ?_;rotate_left
  ·go_simp;try with_reducible rfl
  simp only [sz0,sz1];refine ak 3 29 ?_ hH (fun w' hS=>?_) ?_;rotate_left
  ·go_simp;try with_reducible rfl
  simp only [sz0,sz1];refine ak 4 30 ?_ hH (fun w' hS=>?_) ?_;rotate_left
  ·have e1:=hS.2.1;go_simp;try with_reducible rfl
  simp only [sz0,sz1];refine ak 5 31 ?_ hH (fun w' hS=>?_) ?_;rotate_left
  ·go_simp;try with_reducible rfl
  simp only [sz0,sz1];refine ak 6 32 ?_ hH (fun w' hS=>?_) ?_;rotate_left
  ·go_simp;try with_reducible rfl
  simp only [sz0,sz1];refine ak 7 33 ?_ hH (fun w' hS=>?_) ?_;rotate_left
  ·go_simp;try with_reducible rfl
  simp only [sz0,sz1];refine ak 8 34 ?_ hH (fun w' hS=>?_) ?_;rotate_left
  ·have e1:=hS.2.2;go_simp;try with_reducible rfl
  simp only [sz0,sz1];refine aC 9 (fun K hK=>?_);refine qB aJ (.tmp 4) (.tmp 26) rfl _ _ _ _ rfl rfl hH.1 rfl rfl (by simp [zE,Value.oneCell']) ?_;intro w9 hb9 hs9;refine hK.o _ _ ⟨hb9,(World.cell?_of_block (w:=w2.drew) (hs9.block g hgn.o)).trans hH.2.1,(World.cell?_of_block (w:=w2.drew) (hs9.block g hgn.o)).trans hH.2.2⟩ (fun hH=>?_);clear hK K;have B9:=Hy (B2.o.drew.trans (hs9.below (Nat.le_succ _)));replace hb9:=Hy hb9;clear hs9 SS;simp only [Act.put];refine ak 10 5 ?_ hH (fun w' hS=>?_) ?_;rotate_left
  ·go_simp;try with_reducible rfl
  simp only [sz0,sz1];refine ak 11 6 ?_ hH (fun w' hS=>?_) ?_;rotate_left
  ·go_simp;try with_reducible rfl
  simp only [sz0,sz1];clear hH;refine wpAnyH_done (by kernel_rfl) ?_ _;go_wp2_with fail;refine qy aJ Tryz.underlying29 rfl rfl _ _ _ _ _ rfl hb9.o rfl ?_;rw [hT.o];exact ⟨_,rfl,⟨none,0,none,0,rfl,⟨.inl rfl,.inl rfl⟩⟩,B9.o⟩
 have q1:(gB s != 0)=true:=by simp [ht0]
 have hT:=Hy (show tr=(⟨h0,.nil⟩,0,gB s) from by rw [← hTT.o];unfold dR;rw [if_neg ht0]);clear ht0 hTT;generalize gB s=te at *;go_wp2_with (first | (refine aF aJ Tryz.underlying29 rfl (.tmp 4) rfl rfl _ _ _ rfl R2.o rfl ?_) | (refine aL aJ (.tmp 4) (.tmp 20) rfl rfl _ _ _ _ rfl rfl R2.o rfl rfl (by simp [zE,Value.oneCell']) ?_;intro w9 hb9 hs9));refine qy aJ Tryz.underlying29 rfl rfl _ _ _ _ _ rfl hb9 rfl ?_;rw [hT.o];exact ⟨_,rfl,⟨none,0,none,0,rfl,⟨.inl rfl,.inl rfl⟩⟩,B2.o.trans (hs9.below (Nat.le_succ _))⟩
theorem KO (a0:Option Addr) (n0 cap:Nat) (s:ByteArray) (w:World) (hS:Bs w a0 n0 cap s) (T:Tabo w) (tr:Ex × Int × Int) (hTT:dR (α:=Ex) ⟨h0,.nil⟩ exR s=tr) :
    Calls Tryz.prog 27 #[.slice a0 n0 cap] w fun e w' => ∃ v,e=.returned (.tuple #[v,.int .i64 tr.2.1,.int .i64 tr.2.2])∧Ev w.heap.size w' v tr.1∧Below w.heap.size w w':=by
 have bb:=au (b0 w) (.cells zE 29);have WC:=Hy (KF a0 n0 cap s _ (hS.keeps bb) (T.stays bb) tr hTT);have R:=Hy (Blk.new w 29 zE);have BB:=Hy bb;clear hS T hTT bb
 go_enter Tryz.func27,Tryz.ntmps27
 go_wp2_with fail;refine WC.o.mono ?_;rintro e w1 ⟨v,rfl,V,b1⟩;have R1:=Hy (R.o.below b1 R.o.lt);have B1:=Hy (aA BB.o b1);have hsz:=Hy (by simp:(w.alloc (.cells zE 29)).heap.size=w.heap.size+1);obtain ⟨ua,uc,aa,ac,rfl,E⟩:=V;have E9:=Hy (hsz.o ▸ E);clear b1 E WC R BB;go_wp2_with (refine aL aJ (.tmp 2) (.tmp 7) rfl rfl _ _ _ _ rfl rfl R1.o rfl rfl (aQ _ _ _ _ _) ?_;intro w9 hb9 hs9);refine qy aJ Tryz.underlying29 rfl rfl _ _ _ _ _ rfl hb9 rfl ?_;exact ⟨_,rfl,⟨ua,uc,aa,ac,rfl,(E9.o.kp (hs9.kp ls)).less (Nat.le_succ _)⟩,B1.o.trans (hs9.below lr)⟩
def Sx {α:Type} (x:Rs α) (l:List Tk):Prop :=
 match x with
 | .out=>True
 | .ok _ r=>r <:+ l
 | .no _ c r=>c≠0∧r <:+ l
theorem Sx.mono {α:Type} {x:Rs α} {l q:List Tk} (h:Sx x l) (hl:l <:+ q):Sx x q:=by
 cases x with
 | out=>trivial
 | ok v r=>exact List.IsSuffix.trans h hl
 | no a c r=>exact ⟨h.1,List.IsSuffix.trans h.2 hl⟩
theorem Sx.tail {α:Type} {x:Rs α} {l:List Tk} (h:Sx x l.tail):Sx x l:=h.mono (List.tail_suffix l)
theorem Sx.bind {α β:Type} {x:Rs α} {g:α→List Tk→Rs β} {l:List Tk} (h:Sx x l) (hg:∀ v r,x=.ok v r→Sx (g v r) r):Sx (x.bind g) l:=by
 cases x with
 | out=>trivial
 | ok v r=>exact (hg v r rfl).mono h
 | no a c r=>exact h
theorem dK {α:Type} (v:α) (l:List Tk):Sx (.ok v l:Rs α) l:=List.suffix_refl l
theorem pX {α:Type} (v:α) (l:List Tk):Sx (.ok v l.tail:Rs α) l:=List.tail_suffix l
theorem Mc {α:Type} (a c:Int) (l:List Tk) (hc:c≠0):Sx (.no a c l:Rs α) l:=⟨hc,List.suffix_refl l⟩
theorem uM {α:Type} (l:List Tk):Sx (wrg l:Rs α) l:=⟨by decide,List.suffix_refl l⟩
theorem gM (s:ByteArray) (l:List Tk):Sx (need s l) l:=by
 unfold need;split
 ·exact pX _ _
 exact uM _
theorem nM (k:Int) (l:List Tk):Sx (tak k l) l:=by
 unfold tak;split
 ·exact pX _ _
 exact uM _
theorem pY (l:List Tk):Sx (nam l) l:=by
 unfold nam;split
 ·exact nM _ _
 exact uM _
theorem PO (s:ByteArray) (l:List Tk):Sx (nma s l) l:=Sx.bind (gM _ _) fun _ _ _=>pY _
theorem p8 (l:List Tk):Sx (int l) l:=Sx.bind (nM _ _) fun _ _ _=>dK _ _
theorem Ng (l:List Tk):Sx (tY l) l:=Sx.bind (nM _ _) fun _ _ _=>dK _ _
theorem PV (l:List Tk):Sx (fac l) l:=by
 refine Sx.bind (pY _) fun n r _=>?_;split
 ·split
  ·exact (Sx.bind (p8 _) fun _ _ _=>dK _ _).tail.tail
  exact (Sx.bind (p8 _) fun _ _ _=>dK _ _).tail
 exact dK _ _
theorem DR {α:Type} {one:List Tk→Rs α} {s:ByteArray} (h1:∀ l,Sx (one l) l):∀ (f:Nat) (x:List α) (l:List Tk),Sx (more one s f x l) l
 | 0,_,_=>trivial
 | f+1,x,l=>by
  unfold more
  split
  ·exact (Sx.bind (h1 _) fun _ _ _=>DR h1 f _ _).tail
  ·exact dK _ _
theorem PS {α:Type} {one:List Tk→Rs α} {s:ByteArray} (h1:∀ l,Sx (one l) l) (l:List Tk):Sx (lst one s l) l:=Sx.bind (h1 _) fun _ _ _=>DR h1 _ _ _
theorem Iu (l:List Tk):Sx (uni l) l:=by
 unfold uni;split
 ·refine (Sx.bind (PS PV _) fun u r _=>Sx.bind (gM _ _) fun _ r' _=>?_).tail;split
  ·exact dK _ _
  rename_i hc;exact Mc _ _ _ hc
 exact dK _ _
theorem PN (l:List Tk):Sx (win l) l:=by
 unfold win;split
 ·exact pX _ _
 iterate 3
   split
   · exact (Sx.bind (p8 _) fun _ _ _=>dK _ _).tail
 exact uM _
theorem PU (l:List Tk):Sx (key l) l:=by
 refine Sx.bind (PO _ _) fun n r _=>Sx.bind (nM _ _) fun s r' hr=>?_;split
 ·exact dK _ _
 exact Mc _ _ _ (by decide)
theorem RY:∀ (f:Nat) (i:Bool) (m:Md) (l:List Tk),Sx (pz f i m l) l:=by
 intro f
 induction f with
 | zero=>intro i m l;exact trivial
 | succ f ih =>
   intro i m l
   cases m with
   | ex =>
     simp only [pz]
     split
     · exact (Sx.bind (ih _ _ _) fun _ _ _=>Sx.bind (gM _ _) fun _ _ _=>Sx.bind (ih _ _ _) fun _ _ _=>Sx.bind (gM _ _) fun _ _ _=>Sx.bind (ih _ _ _) fun _ _ _=>dK _ _).tail
     · exact ih _ _ _
   | op least =>
     simp only [pz]
     split
     · exact (Sx.bind (ih _ _ _) fun _ _ _=>ih _ _ _).tail
     · exact Sx.bind (ih _ _ _) fun _ _ _=>ih _ _ _
   | tl least n y =>
     simp only [pz]
     split
     · exact dK _ _
     · split
       · exact ih _ _ _
       · exact (Sx.bind (ih _ _ _) fun _ _ _=>ih _ _ _).tail
   | ng =>
     simp only [pz]
     split
     · exact (Sx.bind (ih _ _ _) fun _ _ _=>dK _ _).tail
     · exact ih _ _ _
   | pa =>
     simp only [pz]
     exact Sx.bind (gM _ _) fun _ _ _=>Sx.bind (ih _ _ _) fun _ _ _=>Sx.bind (gM _ _) fun _ _ _=>dK _ _
   | rf =>
     simp only [pz]
     refine Sx.bind (pY _) fun n r _=>?_
     split
     · exact (Sx.bind (ih _ _ _) fun _ _ _=>dK _ _).tail
     · exact dK _ _
   | ag =>
     simp only [pz]
     refine Sx.bind (nM _ _) fun op r _=>Sx.bind (gM _ _) fun _ r _=>Sx.bind (pY _) fun t r _=>Sx.bind (gM _ _) fun _ r _=>Sx.bind ?_ fun x r _=>Sx.bind ?_ fun p r _=>Sx.bind (PN _) fun w r _=>Sx.bind ?_ fun y r _=>Sx.bind (gM _ _) fun _ _ _=>dK _ _
     · split
       · exact dK _ _
       · exact Sx.bind (ih _ _ _) fun _ _ _=>Sx.bind (gM _ _) fun _ _ _=>dK _ _
     · split
       · exact Sx.bind (p8 _) fun _ _ _=>Sx.bind (gM _ _) fun _ _ _=>dK _ _
       · exact dK _ _
     · split
       · exact (ih _ _ _).tail
       · exact dK _ _
   | pr =>
     simp only [pz]
     split
     · exact Sx.bind (p8 _) fun _ _ _=>Sx.bind (Iu _) fun _ _ _=>dK _ _
     split
     · exact Sx.bind (Ng _) fun _ _ _=>Sx.bind (Iu _) fun _ _ _=>dK _ _
     split
     · exact Sx.bind (nM _ _) fun _ _ _=>dK _ _
     split
     · exact pX _ _
     split
     · exact pX _ _
     split
     · exact PU _
     split
     · exact (Sx.bind (ih _ _ _) fun _ _ _=>dK _ _).tail
     split
     · exact ih _ _ _
     split
     · exact Sx.bind (pY _) fun _ _ _=>dK _ _
     split
     · exact ih _ _ _
     · exact ih _ _ _
theorem PW (l:List Tk):Sx (exR l) l:=RY _ _ _ _
inductive SimR (R:Int→Int→Prop):List Tk→List Tk→Prop where
 | last {x y:Tk} (hk:x.k=6) (hy:y.k=x.k) (ht:y.t=x.t) (ha:R x.a y.a):SimR R [x] [y]
 | cons {x y:Tk} {l r:List Tk} (hk:y.k=x.k) (ht:y.t=x.t) (ha:R x.a y.a) (h:SimR R l r):SimR R (x :: l) (y :: r)
section
variable {R:Int→Int→Prop}
end
section
variable {t1 t2:List Tk}
end
end pa
namespace ch
open Go.RowKit dec
def tkl (K:List Pc):List Tk:=K.map tk0
variable {i:Bool} {l r r1 r2 r':List Tk} {x y z:Ex} {least n:Nat}
def rnk:Nat→Int
 | 0=>1
 | 1=>2
 | 2=>3
 | 3=>4
 | 4=>6
 | 5=>7
 | _=>8
variable {i:Bool} {x:Ex} {K:List Pc}
variable {i:Bool} {g:Hd} {K:List Ok'} {F:Fo}
theorem Ea {e e':Tk} (he:e.k=6) (hk:e'.k=e.k) (ht:e'.t=e.t):∀ {l r:List Tk},l.map kt=r.map kt→pa.SimR (fun _ _=>True) (l++[e]) (r++[e'])
 | [],[],_=>.last he hk ht trivial
 | x :: l,y :: r,h=>by
  rw [List.map_cons,List.map_cons] at h
  obtain ⟨h1,h2⟩:=List.cons.inj h
  obtain ⟨h3,h4⟩:=Prod.mk.inj h1
  exact .cons h3.symm h4.symm trivial (Ea he hk ht h2)
 | [],y :: r,h=>by cases h
 | x :: l,[],h=>by cases h
theorem PD (K:List Pc):(tkl K).map kt=K.map (·.2):=by
 unfold tkl;rw [List.map_map];rfl
theorem Im {K:List Pc} {T:List UInt8} (g:Gd K T) {s:ByteArray} (hs:s.data.toList=T) (hl:T.length≤16384) :
    gB s=0∧jw s=[]∧pa.SimR (fun _ _=>True) (tkl K++[⟨6,.empty,0⟩]) (cO s):=by
 obtain ⟨L,a,b⟩:=xH g.w;rw [g.b,← hs] at a;have hz:¬16384<s.size:=by
  have:s.data.toList.length=s.size:=aI s;rw [hs] at this;omega
 refine ⟨by unfold gB;rw [if_neg hz],by unfold jw;rw [if_neg hz,a];rfl,?_⟩;unfold cO;rw [if_neg hz,a];exact Ea (e:=⟨6,.empty,0⟩) (e':=iZ s) rfl rfl rfl ((PD K).trans b.symm)
end ch
section
open Go.RowKit dec
def Fo.sm:Fo→Prop
 | .nil=>True
 | .cons h ar r=>h.un.length≤1048576∧ar.len≤1048576∧ar.sm∧r.sm
def Ex.sm (x:Ex):Prop:=x.h.un.length≤1048576∧x.ar.len≤1048576∧x.ar.sm
theorem sm1 {h:Hd} {x:Ex} (hu:h.un=[]) (hx:x.sm):Ex.sm ⟨h,.cons x.h x.ar .nil⟩:=by
 refine ⟨by rw [hu];decide,by simp [Fo.len],hx.1,hx.2.1,hx.2.2,trivial⟩
theorem sm2 {h:Hd} {x y:Ex} (hu:h.un=[]) (hx:x.sm) (hy:y.sm):Ex.sm ⟨h,.cons x.h x.ar (.cons y.h y.ar .nil)⟩:=by
 refine ⟨by rw [hu];decide,by simp [Fo.len],hx.1,hx.2.1,hx.2.2,hy.1,hy.2.1,hy.2.2,trivial⟩
theorem sm3 {h:Hd} {x y z:Ex} (hu:h.un=[]) (hx:x.sm) (hy:y.sm) (hz:z.sm):Ex.sm ⟨h,.cons x.h x.ar (.cons y.h y.ar (.cons z.h z.ar .nil))⟩:=by
 refine ⟨by rw [hu];decide,by simp [Fo.len],hx.1,hx.2.1,hx.2.2,hy.1,hy.2.1,hy.2.2,hz.1,hz.2.1,hz.2.2,trivial⟩
theorem sm0 {h:Hd} (hu:h.un.length≤1048576):Ex.sm ⟨h,.nil⟩:=⟨hu,by simp [Fo.len],trivial⟩
theorem OP {op:ByteArray} {x y:Ex} (hx:x.sm) (hy:y.sm):(bV op x y).sm:=by
 unfold bV;split
 ·exact sm2 rfl hx hy
 exact sm2 rfl hx hy
theorem N9 (u:List un.Fa):(un.nL u).length≤4:=by
 unfold un.nL;split
 ·rename_i h;exact (un.Ep h).2.2
 exact Nat.zero_le _
theorem Ih {l r:List Tk} {u:List un.Fa} (h:uni l=.ok u r):u.length≤1048576:=by
 unfold uni at h;split at h
 ·obtain ⟨v,q,h1,h2⟩:=bind_ok h;obtain ⟨_,q',h3,h4⟩:=bind_ok h2;split at h4
  ·cases h4;have:=N9 v;omega
  cases h4
 cases h;exact Nat.zero_le _
def Md.sm:Md→Prop
 | .tl _ _ y=>y.sm
 | _=>True
theorem vS (n:Int):(dP n).sm:=sm0 (by simp [h0])
theorem Sw:∀ (f:Nat) (i:Bool) (m:Md) (l:List Tk) (x:Ex) (r:List Tk),m.sm→pz f i m l=.ok x r→x.sm:=by
 intro f
 induction f with
 | zero=>intro i m l x r _ h;cases h
 | succ f ih =>
   intro i m l x r hm h
   cases m with
   | ex =>
     simp only [pz] at h
     split at h
     · obtain ⟨a,q1,h1,h⟩:=bind_ok h
       obtain ⟨_,q2,h2,h⟩:=bind_ok h
       obtain ⟨b,q3,h3,h⟩:=bind_ok h
       obtain ⟨_,q4,h4,h⟩:=bind_ok h
       obtain ⟨c,q5,h5,h⟩:=bind_ok h
       cases h
       exact sm3 rfl (ih _ _ _ _ _ (by exact trivial) h1) (ih _ _ _ _ _ (by exact trivial) h3) (ih _ _ _ _ _ (by exact trivial) h5)
     · exact ih _ _ _ _ _ (by exact trivial) h
   | op least =>
     simp only [pz] at h
     split at h
     · obtain ⟨a,q1,h1,h⟩:=bind_ok h
       exact ih _ (.tl _ _ _) _ _ _ (sm1 rfl (ih _ _ _ _ _ (by exact trivial) h1)) h
     · obtain ⟨a,q1,h1,h⟩:=bind_ok h
       exact ih _ (.tl _ _ _) _ _ _ (ih _ _ _ _ _ (by exact trivial) h1) h
   | tl least n y =>
     simp only [pz] at h
     split at h
     · cases h
       exact hm
     · split at h
       · exact ih _ (.tl _ (n - 1) y) _ _ _ (by exact hm) h
       · obtain ⟨a,q1,h1,h⟩:=bind_ok h
         exact ih _ (.tl _ _ _) _ _ _ (OP hm (ih _ _ _ _ _ (by exact trivial) h1)) h
   | ng =>
     simp only [pz] at h
     split at h
     · obtain ⟨a,q1,h1,h⟩:=bind_ok h
       cases h
       exact sm1 rfl (ih _ _ _ _ _ (by exact trivial) h1)
     · exact ih _ _ _ _ _ (by exact trivial) h
   | pa =>
     simp only [pz] at h
     obtain ⟨_,q1,h1,h⟩:=bind_ok h
     obtain ⟨a,q2,h2,h⟩:=bind_ok h
     obtain ⟨_,q3,h3,h⟩:=bind_ok h
     cases h
     exact ih _ _ _ _ _ (by exact trivial) h2
   | rf =>
     simp only [pz] at h
     obtain ⟨n,q1,h1,h⟩:=bind_ok h
     split at h
     · obtain ⟨a,q2,h2,h⟩:=bind_ok h
       cases h
       exact sm1 rfl (ih _ _ _ _ _ (by exact trivial) h2)
     · cases h
       exact sm0 (by simp [h0])
   | ag =>
     simp only [pz] at h
     obtain ⟨op,q1,h1,h⟩:=bind_ok h
     obtain ⟨_,q2,h2,h⟩:=bind_ok h
     obtain ⟨t,q3,h3,h⟩:=bind_ok h
     obtain ⟨_,q4,h4,h⟩:=bind_ok h
     obtain ⟨a,q5,h5,h⟩:=bind_ok h
     have g5:a.sm:=by
       split at h5
       · cases h5;exact vS 1
       · obtain ⟨_,p1,k1,h5⟩:=bind_ok h5
         obtain ⟨_,p2,k2,h5⟩:=bind_ok h5
         cases h5
         exact ih _ _ _ _ _ (by exact trivial) k1
     obtain ⟨n,q6,h6,h⟩:=bind_ok h
     obtain ⟨w,q7,h7,h⟩:=bind_ok h
     obtain ⟨b,q8,h8,h⟩:=bind_ok h
     have g8:b.sm:=by
       split at h8
       · exact ih _ _ _ _ _ (by exact trivial) h8
       · cases h8;exact vS 1
     obtain ⟨_,q9,h9,h⟩:=bind_ok h
     cases h
     exact sm2 rfl g5 g8
   | pr =>
     simp only [pz] at h
     split at h
     · obtain ⟨n,q1,h1,h⟩:=bind_ok h
       obtain ⟨u,q2,h2,h⟩:=bind_ok h
       cases h
       exact sm0 (Ih h2)
     split at h
     · obtain ⟨n,q1,h1,h⟩:=bind_ok h
       obtain ⟨u,q2,h2,h⟩:=bind_ok h
       cases h
       exact sm0 (Ih h2)
     split at h
     · obtain ⟨n,q1,h1,h⟩:=bind_ok h
       cases h
       exact sm0 (by simp [h0])
     split at h
     · cases h;exact vS 1
     split at h
     · cases h;exact vS 0
     split at h
     · obtain ⟨n,q,h1,h2⟩:=bind_ok h
       obtain ⟨s,q',h3,h4⟩:=bind_ok h2
       split at h4
       · cases h4
         exact sm0 (by simp [h0])
       · cases h4
     split at h
     · obtain ⟨n,q1,h1,h⟩:=bind_ok h
       cases h
       exact sm1 rfl (ih _ _ _ _ _ (by exact trivial) h1)
     split at h
     · exact ih _ _ _ _ _ (by exact trivial) h
     split at h
     · obtain ⟨n,q1,h1,h⟩:=bind_ok h
       cases h
       exact sm0 (by simp [h0])
     split at h
     · exact ih _ _ _ _ _ (by exact trivial) h
     · exact ih _ _ _ _ _ (by exact trivial) h
end
namespace ch
open Go.RowKit dec
theorem DI {C:Nat} {w:World} {a:Option Addr} {l:List un.Fa} (h:Us C w a l) (hl:l.length≤1048576) (c:Nat):un.Sl w a l.length c l :=
 ⟨h.imp id fun ⟨b,off,e,_,hC,_⟩=>⟨b,off,e,hC⟩,rfl,Nat.zero_le _,by omega,trivial⟩
theorem Lh {w:World} {b off:Nat} {h:Hd} {ua:Option Addr} {uc:Nat} {aa:Option Addr} {an ac:Nat} (N:Nd w b off h ua uc aa an ac):w.rangeAt b off (exC h an ua uc aa ac).toList:=by
 obtain ⟨n0,n1,n2,n3,n4,n5,n6,n7,n8,n9,n10,n11⟩:=N;intro j v hv;simp only [exC] at hv
 match j,hv with
 | 0,hv=>cases hv;exact n0
 | 1,hv=>cases hv;exact n1
 | 2,hv=>cases hv;exact n2
 | 3,hv=>cases hv;exact n3
 | 4,hv=>cases hv;exact n4
 | 5,hv=>cases hv;exact n5
 | 6,hv=>cases hv;exact n6
 | 7,hv=>cases hv;exact n7
 | 8,hv=>cases hv;exact n8
 | 9,hv=>cases hv;exact n9
 | 10,hv=>cases hv;exact n10
 | 11,hv=>cases hv;exact n11
 | j+12,hv=>simp at hv
theorem xP {C:Nat} {w:World} : ∀ (F:Fo) (b off:Nat),Fm C w F b off→F.sm→FoV w F b off
 | .nil,_,_,_,_=>trivial
 | .cons h ar r,b,off,hF,hs=>by
  obtain ⟨⟨ua,uc,aa,ac,N,U,A⟩,R⟩:=hF
  obtain ⟨s1,s2,s3,s4⟩:=hs
  exact ⟨⟨ua,uc,aa,ac,Lh N,DI U s1 uc,⟨Nat.zero_le _,by omega,trivial⟩,A.imp id fun ⟨b',off',e,_,_,hF'⟩=>⟨b',off',e,xP ar b' off' hF' s3⟩⟩,xP r b (off+12) R s4⟩
theorem OT {C:Nat} {w:World} {a:Option Addr} {F:Fo} (h:As C w a F) (hl:F.len≤1048576) (hs:F.sm) (c:Nat):Fs w a F.len c F :=
 ⟨h.imp id fun ⟨b,off,e,_,_,hF⟩=>⟨b,off,e,xP F b off hF hs⟩,rfl,Nat.zero_le _,by omega,trivial⟩
theorem OB {C:Nat} {w:World} {x:Ex} {ua aa:Option Addr} (h:Go.Proofs.YtbahfelnbofjjaaGreatDoor.Ec C w x ua aa) (hs:x.sm) (uc ac:Nat):Ec w x ua uc aa ac :=
 ⟨DI h.us hs.1 uc,OT h.ar hs.2.1 hs.2.2 ac⟩
theorem Oz {C:Nat} {w:World} {v:Value} {x:Ex} (h:Ev C w v x) (hs:x.sm):∃ ua uc aa ac,v=.agg (exC x.h x.ar.len ua uc aa ac)∧Ec w x ua uc aa ac:=by
 obtain ⟨ua,uc,aa,ac,e,U⟩:=h;exact ⟨ua,uc,aa,ac,e,OB U hs uc ac⟩
theorem uL:∀ (F:Fo) (n:Int),0≤n→n+(F.sz:Int)≤1000000→szA F n=n+(F.sz:Int)
 | .nil,n,_,_=>by simp [szA,Fo.sz]
 | .cons h ar r,n,h0,hn=>by
  have e:(Fo.cons h ar r).sz=ar.sz+r.sz+1:=rfl
  rw [e] at hn ⊢
  have k:wrap64 (n+szA ar 1)=n+1+(ar.sz:Int):=by
   rw [uL ar 1 (by omega) (by omega)]
   unfold wrap64
   omega
  show szA r (wrap64 (n+szA ar 1))=_
  rw [k,uL r _ (by omega) (by omega)]
  omega
theorem yx {x:Ex} (h:shE x=0) (hz:x.ar.sz≤3000):(txE x).length≤16384:=by
 have f:=DL (jy h);have k:szE x=1+(x.ar.sz:Int):=uL x.ar 1 (by omega) (by omega);have h64:¬ (64<szE x∨12<dpE x):=fun c=>by
  unfold shE at h;rw [if_pos c] at h;cases h
 omega
theorem yg (l:List UInt8):(B8 l).data.toList=l:=rfl
end ch
end Go.Proofs.YtbahfelnbofjjaaGreatDoor
