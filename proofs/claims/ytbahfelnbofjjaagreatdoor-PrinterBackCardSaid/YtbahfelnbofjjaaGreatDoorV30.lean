/-
  A whole source as an expression or a type; A module as plain data: items, what is left out; what is read is the head of the tokens.
-/
import Derived.Test.YtbahfelnbofjjaaGreatDoorV28
import Derived.Test.YtbahfelnbofjjaaGreatDoorV29
set_option maxRecDepth 100000
set_option maxHeartbeats 16000000
namespace Go.Proofs.YtbahfelnbofjjaaGreatDoor
namespace pa
open Go.RowKit dec
structure Off (B g:Nat) (w w':World):Prop where
 os:w'.os=w.os
 tape:w'.tape=w.tape
 output:w'.output=w.output
 size:w.heap.size≤w'.heap.size
 block:∀ k,k<w.heap.size→k≠B→k≠g→w'.heap[k]? = w.heap[k]?
theorem Off.mv {B g:Nat} {w w':World} (h:Mv w.heap.size B w w'):Off B g w w':=⟨h.os,h.tape,h.output,h.size,fun k hk hn _=>h.block k hk hn⟩
theorem Off.st {B g:Nat} {w a b:World} (h:Off B g w a) (k:St g a b):Off B g w b :=
 ⟨k.os.trans h.os,k.tape.trans h.tape,k.output.trans h.output,by rw [k.size];exact h.size,fun i hi hn hg=>(k.block i hg).trans (h.block i hi hn hg)⟩
theorem Off.blk {B g k:Nat} {w w':World} {T:TypeId} {cs:Array Value} (h:Off B g w w') (b:Blk w k T cs) (h1:k≠B) (h2:k≠g):Blk w' k T cs:=(h.block k b.lt h1 h2).trans b
theorem Off.below {B g S:Nat} {w w':World} (h:Off B g w w') (h1:S≤B) (h2:S≤g) (h3:S≤w.heap.size):Below S w w':=⟨h.os,h.tape,h.output,h.size,fun k hk=>h.block k (by omega) (by omega) (by omega)⟩
def tyC (t:Ty) (ua:Option Addr) (uc:Nat):Array Value:=#[.int .i64 t.k,.slice ua t.un.length uc,.string t.of]
def zT:Array Value:=#[.int .i64 0,.slice none 0 0,.string ⟨#[]⟩]
theorem uN (t:Ty) (ua:Option Addr) (uc:Nat):(tyC t ua uc).all (·.oneCell')=true:=by simp [tyC,Value.oneCell']
theorem Bt (B:Nat) (w:World):Calls Tryz.prog 68 #[.pointer (some ⟨B,0,none⟩)] w fun e w' => e=.returned (.agg #[.pointer (some ⟨B,0,none⟩),.bool false])∧Below w.heap.size w w':=by
 go_enter Tryz.func68,Tryz.ntmps68
 go_wp2_with fail;refine bC tZ Tryz.underlying108 rfl rfl _ _ w.heap.size _ _ rfl (Blk.new w _ _) rfl ?_;exact ⟨rfl,ak (b0 w) _⟩
theorem Jm (B:Nat) (l:List Tk) (w:World) (h:Ps w B l):Calls Tryz.prog 67 #[.pointer (some ⟨B,0,none⟩)] w (Pst B Ev (exR l) w):=by
 have P:=Hy (h.keeps (ak (b0 w) (.cells zE 29)));have R:=Hy (Blk.new w 29 zE);have hlt:=Hy h.lt;have OC:=Hy (fun W=>Bt B W);clear h
 go_enter Tryz.func67,Tryz.ntmps67
 go_wp2_with fail;refine (OC.o _).mono ?_;rintro e w1 ⟨rfl,b1⟩;replace P:=Hy (P.o.keeps b1);replace R:=Hy (R.o.below b1 R.o.lt);have M:=Hy (Mv.of (B:=B) (au (ak (b0 w) (.cells zE 29)) b1));clear b1;go_wp2_with fail;refine (Q7 B l w1 P.o).mono ?_;rintro e w2 h2;have hw:=Hy R.o.lt;rcases hG:exR l with _ | ⟨x,l2⟩ | ⟨a,c,l2⟩
 ·exact absurd hG (pI l)
 ·rw [hG] at h2;obtain ⟨u,rfl,⟨ua,uc,aa,ac,rfl,E⟩,pp,mm⟩:=h2;replace R:=Hy (R.o.mv mm (by have:=hlt.o;omega) R.o.lt);replace M:=Hy (M.o.next mm);replace P:=Hy pp;replace E:=Hy E;have hGG:=Hy hG;clear pp mm hG;go_wp2_with (refine aN (.tmp 2) (.tmp 5) rfl rfl _ _ _ _ rfl rfl R.o rfl rfl (aM _ _ _ _ _) ?_;intro w9 hb9 hs9);refine aW rfl _ _ _ _ _ rfl hb9 rfl ?_
  first | exact aP hGG.o ⟨ua,uc,aa,ac,rfl,(E.o.kp (hs9.kp hw.o)).less (Nat.le_of_lt hw.o)⟩ (P.o.st hs9 hlt.o) (M.o.trans (hs9.mv lr)) | exact aP rfl ⟨ua,uc,aa,ac,rfl,(E.o.kp (hs9.kp hw.o)).less (Nat.le_of_lt hw.o)⟩ (P.o.st hs9 hlt.o) (M.o.trans (hs9.mv lr))
 rw [hG] at h2;obtain ⟨rfl,pp,mm⟩:=h2;replace M:=Hy (M.o.next mm);replace P:=Hy pp;have hGG:=Hy hG;unfold thr;clear pp mm hG;go_wp2_with fail
 first | exact ⟨rfl,aH hGG.o P.o M.o⟩ | exact ⟨rfl,aH rfl P.o M.o⟩
def fI {α:Type} (one:List Tk→Rs α) (l:List Tk):Rs α:=(one l).bind fun x r=>(lM r).bind fun _ r=>.ok x r
theorem nG (l:List Tk):lM l≠.out:=by
 unfold lM wrg;split <;> exact fun h=>by cases h
theorem Eb {α:Type} {one:List Tk→Rs α} (h:∀ l,one l≠.out) (l:List Tk):fI one l≠.out:=aO (h l) fun _ _ _=>aO (nG _) fun _ _ _ h=>by cases h
def InE (C g:Nat) (w':World) (x:Ex):Prop:=∃ (ua:Option Addr) (uc:Nat) (aa:Option Addr) (ac:Nat),Blk w' g 29 (exC x ua uc aa ac)∧Ec C w' x ua aa
def ClE (B g:Nat) (r:Rs Ex) (w:World) (e:Ending) (w':World):Prop :=
 match r with
 | .out=>True
 | .ok x _=>e=.returned (.tuple #[])∧InE w.heap.size g w' x∧Off B g w w'
 | .no a c _=>e=thr a c∧Blk w' g 29 zE∧Off B g w w'
theorem Ol (B bf bp g:Nat) (l:List Tk) (w:World) (h:Ps w B l) (hf:Blk w bf 110 #[.func (.func 67) #[] #[]]) (hp:Blk w bp 106 #[.pointer (some ⟨B,0,none⟩)]) (hv:Blk w g 29 zE) (_h1:bf≠B) (h2:bp≠B) (h3:g≠B) :
    Calls Tryz.prog 122 #[.pointer (some ⟨bf,0,none⟩),.pointer (some ⟨bp,0,none⟩),.pointer (some ⟨g,0,none⟩)] w (ClE B g (fI exR l) w):=by
 have P:=Hy h;have R:=Hy hv;have HP:=Hy hp;have e0:w.cell? ⟨bf,0,none⟩=some (.func (.func 67) #[] #[]):=hf.cell 0;have e1:w.cell? ⟨bp,0,none⟩=some (.pointer (some ⟨B,0,none⟩)):=hp.cell 0;have N2:=Hy h2;have N3:=Hy h3;have hgl:=Hy hv.lt;have HBW:=Hy h.lt;clear h hf hv hp _h1 h2 h3
 go_enter Tryz.func122,Tryz.ntmps122
 go_wp2_with fail;refine (Jm B l w P.o).mono ?_;rintro e w1 k1;rcases hG:exR l with _ | ⟨x,l1⟩ | ⟨a,c,l1⟩
 ·exact absurd hG (pI l)
 ·rw [hG] at k1;obtain ⟨u,rfl,⟨ua,uc,aa,ac,rfl,E⟩,pp,mm⟩:=k1;have hal:=Hy (show fI exR l=(lM l1).bind fun _ r=>.ok x r by unfold fI;rw [hG];rfl);have R1:=Hy (R.o.mv mm N3.o R.o.lt);have HP1:=Hy (HP.o.mv mm N2.o HP.o.lt);have M1:=Hy mm;have P1:=Hy pp;have E1:=Hy E;have hs1:=Hy mm.size;clear pp mm hG E e0 e1 P R HP;go_wp2_with (refine aD aF (.tmp 3) (.tmp 6) rfl rfl _ _ _ _ rfl rfl (Blk.new _ _ _) rfl rfl (aM _ _ _ _ _) ?_;intro w2 L3 hs;have bb:=(ak (b0 w1) _).trans (hs.below lr);replace L3:=Hy L3;have R2:=Hy (R1.o.below bb R1.o.lt);have HP2:=Hy (HP1.o.below bb HP1.o.lt);have P2:=Hy (P1.o.keeps bb);have M2:=Hy (M1.o.bZ bb);have E2:=Hy (E1.o.kp (dB bb));clear bb hs P1 R1 HP1 M1 E1;have e1:=HP2.o.cell 0);refine (LQ B l1 w2 P2.o _ rfl (nG _)).mono ?_;rintro e w3 k3;rcases hG:lM l1 with _ | ⟨y,l2⟩ | ⟨a,c,l2⟩
  ·exact absurd hG (nG _)
  ·rw [hG] at k3;obtain ⟨u,rfl,vv,pp,mm⟩:=k3;obtain rfl:u=.tuple #[]:=vv;have hfin:=Hy (show fI exR l=.ok x l2 by rw [hal.o,hG];rfl);have hB2:=Hy P2.o.lt;have R3:=Hy (R2.o.mv mm N3.o R2.o.lt);have L4:=Hy (L3.o.mv mm (by have:=hs1.o;have:=HBW.o;omega) L3.o.lt);have M3:=Hy (M2.o.next mm);have E3:=Hy (E2.o.kp (mm.kp HBW.o));clear pp mm hG e1;go_wp2_with (first | (refine aB aF Tryz.underlying29 rfl (.tmp 3) rfl rfl _ _ _ rfl L4.o rfl ?_) | (refine aD aF (.tmp 2) (.tmp 9) rfl rfl _ _ _ _ rfl rfl R3.o rfl rfl (aM _ _ _ _ _) ?_;intro w9 hb9 hs9));go_end0;rw [hfin.o];exact ⟨rfl,⟨ua,uc,aa,ac,hb9,E3.o.kp (hs9.kp hgl.o)⟩,(Off.mv M3.o).st hs9⟩
  rw [hG] at k3;obtain ⟨rfl,pp,mm⟩:=k3;have hfin:=Hy (show fI exR l=.no a c l2 by rw [hal.o,hG];rfl);have R3:=Hy (R2.o.mv mm N3.o R2.o.lt);have M3:=Hy (M2.o.next mm);unfold thr;clear pp mm hG e1;go_wp2_with fail;refine ⟨rfl,?_⟩;rw [hfin.o];exact ⟨rfl,R3.o,Off.mv M3.o⟩
 rw [hG] at k1;obtain ⟨rfl,pp,mm⟩:=k1;have hfin:=Hy (show fI exR l=.no a c l1 by unfold fI;rw [hG];rfl);have R3:=Hy (R.o.mv mm N3.o R.o.lt);have M3:=Hy mm;unfold thr;clear pp mm hG e0 e1;go_wp2_with fail;refine ⟨rfl,?_⟩;rw [hfin.o];exact ⟨rfl,R3.o,Off.mv M3.o⟩
def InT (C g:Nat) (w':World) (x:Ty):Prop:=∃ (ua:Option Addr) (uc:Nat),Blk w' g 31 (tyC x ua uc)∧Us C w' ua x.un
def ClT (B g:Nat) (r:Rs Ty) (w:World) (e:Ending) (w':World):Prop :=
 match r with
 | .out=>True
 | .ok x _=>e=.returned (.tuple #[])∧InT w.heap.size g w' x∧Off B g w w'
 | .no a c _=>e=thr a c∧Blk w' g 31 zT∧Off B g w w'
theorem Oj (B bf bp g:Nat) (l:List Tk) (w:World) (h:Ps w B l) (hf:Blk w bf 113 #[.func (.func 74) #[] #[]]) (hp:Blk w bp 106 #[.pointer (some ⟨B,0,none⟩)]) (hv:Blk w g 31 zT) (_h1:bf≠B) (h2:bp≠B) (h3:g≠B) :
    Calls Tryz.prog 129 #[.pointer (some ⟨bf,0,none⟩),.pointer (some ⟨bp,0,none⟩),.pointer (some ⟨g,0,none⟩)] w (ClT B g (fI typ l) w):=by
 have P:=Hy h;have R:=Hy hv;have HP:=Hy hp;have e0:w.cell? ⟨bf,0,none⟩=some (.func (.func 74) #[] #[]):=hf.cell 0;have e1:w.cell? ⟨bp,0,none⟩=some (.pointer (some ⟨B,0,none⟩)):=hp.cell 0;have N2:=Hy h2;have N3:=Hy h3;have hgl:=Hy hv.lt;have HBW:=Hy h.lt;clear h hf hv hp _h1 h2 h3
 go_enter Tryz.func129,Tryz.ntmps129
 go_wp2_with fail;refine (OV B l w P.o _ rfl (yT _)).mono ?_;rintro e w1 k1;rcases hG:typ l with _ | ⟨x,l1⟩ | ⟨a,c,l1⟩
 ·exact absurd hG (yT l)
 ·rw [hG] at k1;obtain ⟨u,rfl,⟨ua,uc,rfl,E⟩,pp,mm⟩:=k1;have hal:=Hy (show fI typ l=(lM l1).bind fun _ r=>.ok x r by unfold fI;rw [hG];rfl);have R1:=Hy (R.o.mv mm N3.o R.o.lt);have HP1:=Hy (HP.o.mv mm N2.o HP.o.lt);have M1:=Hy mm;have P1:=Hy pp;have E1:=Hy E;have hs1:=Hy mm.size;clear pp mm hG E e0 e1 P R HP;go_wp2_with (refine aD aZ (.tmp 3) (.tmp 6) rfl rfl _ _ _ _ rfl rfl (Blk.new _ _ _) rfl rfl (uN _ _ _) ?_;intro w2 L3 hs;have bb:=(ak (b0 w1) _).trans (hs.below lr);replace L3:=Hy L3;have R2:=Hy (R1.o.below bb R1.o.lt);have HP2:=Hy (HP1.o.below bb HP1.o.lt);have P2:=Hy (P1.o.keeps bb);have M2:=Hy (M1.o.bZ bb);have E2:=Hy (E1.o.kp (dB bb));clear bb hs P1 R1 HP1 M1 E1;have e1:=HP2.o.cell 0);refine (LQ B l1 w2 P2.o _ rfl (nG _)).mono ?_;rintro e w3 k3;rcases hG:lM l1 with _ | ⟨y,l2⟩ | ⟨a,c,l2⟩
  ·exact absurd hG (nG _)
  ·rw [hG] at k3;obtain ⟨u,rfl,vv,pp,mm⟩:=k3;obtain rfl:u=.tuple #[]:=vv;have hfin:=Hy (show fI typ l=.ok x l2 by rw [hal.o,hG];rfl);have hB2:=Hy P2.o.lt;have R3:=Hy (R2.o.mv mm N3.o R2.o.lt);have L4:=Hy (L3.o.mv mm (by have:=hs1.o;have:=HBW.o;omega) L3.o.lt);have M3:=Hy (M2.o.next mm);have E3:=Hy (E2.o.kp (mm.kp HBW.o));clear pp mm hG e1;go_wp2_with (first | (refine aB aZ Tryz.underlying31 rfl (.tmp 3) rfl rfl _ _ _ rfl L4.o rfl ?_) | (refine aD aZ (.tmp 2) (.tmp 9) rfl rfl _ _ _ _ rfl rfl R3.o rfl rfl (uN _ _ _) ?_;intro w9 hb9 hs9));go_end0;rw [hfin.o];exact ⟨rfl,⟨ua,uc,hb9,E3.o.kp (hs9.kp hgl.o)⟩,(Off.mv M3.o).st hs9⟩
  rw [hG] at k3;obtain ⟨rfl,pp,mm⟩:=k3;have hfin:=Hy (show fI typ l=.no a c l2 by rw [hal.o,hG];rfl);have R3:=Hy (R2.o.mv mm N3.o R2.o.lt);have M3:=Hy (M2.o.next mm);unfold thr;clear pp mm hG e1;go_wp2_with fail;refine ⟨rfl,?_⟩;rw [hfin.o];exact ⟨rfl,R3.o,Off.mv M3.o⟩
 rw [hG] at k1;obtain ⟨rfl,pp,mm⟩:=k1;have hfin:=Hy (show fI typ l=.no a c l1 by unfold fI;rw [hG];rfl);have R3:=Hy (R.o.mv mm N3.o R.o.lt);have M3:=Hy mm;unfold thr;clear pp mm hG e0 e1;go_wp2_with fail;refine ⟨rfl,?_⟩;rw [hfin.o];exact ⟨rfl,R3.o,Off.mv M3.o⟩
theorem Ms {x:Tk} : x.t.size≤(so x).length:=by
 unfold so;split
 ·simp only [List.length_cons,List.length_append,Array.length_toList];show x.t.data.size≤_;omega
 simp only [Array.length_toList];exact Nat.le_refl _
theorem Ct:∀ (l:List Tk),(∀ x ∈ l,pr x=true)→l.length≤(l.map fun x=>(so x).length).sum∧∀ x ∈ l,x.t.size≤(l.map fun x=>(so x).length).sum
 | [],_=>⟨Nat.zero_le _,fun x h=>by cases h⟩
 | y :: l,h=>by
  have h1:=Ct l fun x hx=>h x (List.mem_cons_of_mem _ hx)
  have h2:=tF (h y (List.mem_cons_self ..))
  rw [List.map_cons,List.sum_cons,List.length_cons]
  refine ⟨by have:=h1.1;omega,fun x hx=>?_⟩
  rcases List.mem_cons.1 hx with rfl | hx
  ·have:=Ms (x:=x)
   omega
  ·have:=h1.2 x hx
   omega
theorem mM {s:ByteArray} (h:¬ 16384<s.size):Tl (dh s):=by
 have hl:dh s=(lxs 0 false s.data.toList).1++[vW s]:=by unfold dh;rw [if_neg h]
 have h1:=Ct _ (Iw 0 false s.data.toList);have h2:=uQ s.data.toList _ 0 zl (Dq s.data.toList 0 false s.data.toList rfl zl).1;have h3:s.data.toList.length=s.size:=aJ s;rw [hl];refine ⟨fun x hx=>?_,⟨_,_,rfl,rfl⟩,?_⟩
 ·rcases List.mem_append.1 hx with hx | hx
  ·have:=h1.2 x hx;omega
  rw [List.mem_singleton] at hx;subst hx;exact Nat.zero_le _
 rw [List.length_append,List.length_singleton];have:=h1.1;omega
theorem sV {s:ByteArray} (h:eP s=0):¬ 16384<s.size:=by
 unfold eP at h;split at h
 ·cases h
 assumption
def dM {α:Type} (z:α) (one:List Tk→Rs α) (s:ByteArray):α × Int × Int :=
 if eP s=0 then
  match iW s with
  | q :: _=>(z,q.1,q.2)
  | [] =>
   match fI one (dh s) with
   | .ok x _=>(x,0,0)
   | .no a c _=>(z,a,c)
   | .out=>(z,0,0)
 else (z,0,eP s)
theorem xu {α:Type} {z:α} {one:List Tk→Rs α} {s:ByteArray} {q:Pb} {qs:List Pb} (h:eP s=0) (hb:iW s=q :: qs):dM z one s=(z,q.1,q.2):=by
 unfold dM;rw [if_pos h,hb]
theorem uO {α:Type} {z:α} {one:List Tk→Rs α} {s:ByteArray} {x:α} {l:List Tk} (h:eP s=0) (hb:iW s=[]) (ha:fI one (dh s)=.ok x l):dM z one s=(x,0,0):=by
 unfold dM;rw [if_pos h,hb];simp only [ha]
theorem Cq {α:Type} {z:α} {one:List Tk→Rs α} {s:ByteArray} {a c:Int} {l:List Tk} (h:eP s=0) (hb:iW s=[]) (ha:fI one (dh s)=.no a c l):dM z one s=(z,a,c):=by
 unfold dM;rw [if_pos h,hb];simp only [ha]
theorem iN {T:TypeId} {n:Nat} {d:TypeDesc} (hi:(Tryz.prog.info? T).map (·.size)=some n) (hu:Tryz.prog.underlying T=some d) (hd:nP d=true)
    {fn:Func} {R:Ending→World→Prop} {p t u:Tmp} (h:fn.results=#[.cell p T,.tmp t,.tmp u]) (tmps:Array Value) (w:World) (g:Nat) (T':TypeId) (cells:Array Value) (hp:tmps.getD p undef=.pointer (some ⟨g,0,none⟩))
    (hB:Blk w g T' cells) (hc:cells.size=n) (hR:R (.returned (.tuple #[.agg cells,tmps.getD t undef,tmps.getD u undef])) w):bodyPost Tryz.prog fn R .ret ⟨tmps,[]⟩ w:=by
 refine bodyPost_ret ?_ rfl hR;have hp':tmps[p]?.getD undef=.pointer (some ⟨g,0,none⟩):=by simpa using hp
 have hL:=run_loadVar_row (P:=Tryz.prog) w g T' T cells (0,0) d hB hu (by cases d <;> first | rfl | cases hd) (by rw [hc];exact hi);simp [results,h,hp',asAddr,hL]
theorem JV (a0:Option Addr) (n0 cap:Nat) (s:ByteArray) (w:World) (hS:Bs w a0 n0 cap s) (T:Tabo w) (tr:Ex × Int × Int) (hTT:dM (α:=Ex) ⟨h0,.nil⟩ exR s=tr) :
    Calls Tryz.prog 66 #[.slice a0 n0 cap,.func (.func 67) #[] #[]] w fun e w' => ∃ v,e=.returned (.tuple #[v,.int .i64 tr.2.1,.int .i64 tr.2.2])∧Ev w.heap.size w' v tr.1∧Below w.heap.size w w':=by
 replace hTT:=Hy hTT;have bb:=ak (ak (b0 w) (.cells #[.func (.func 67) #[] #[]] 110)) (.cells zE 29);have HF:=Hy ((Blk.new w 110 #[.func (.func 67) #[] #[]]).past (.cells zE 29));have R:=Hy (by have:=Blk.new (w.alloc (.cells #[.func (.func 67) #[] #[]] 110)) 29 zE;simpa using this:Blk ((w.alloc (.cells #[.func (.func 67) #[] #[]] 110)).alloc (.cells zE 29)) (w.heap.size+1) 29 zE);have TC:=Hy (sU a0 n0 cap s _ (hS.keeps bb) (T.stays bb).t);have T0:=Hy (T.stays bb);have B0:=Hy bb;have hsz:=Hy (by simp:((w.alloc (.cells #[.func (.func 67) #[] #[]] 110)).alloc (.cells zE 29)).heap.size=w.heap.size+2);clear hS T bb
 go_enter Tryz.func66,Tryz.ntmps66
 go_wp2_with fail;refine TC.o.mono ?_;rintro e w2 ⟨vt,vb,rfl,Ot,Ob,b2⟩;have B2:=Hy (au B0.o b2);have HF2:=Hy (HF.o.below b2 HF.o.lt);have R2:=Hy (R.o.below b2 R.o.lt);have T2:=Hy (T0.o.stays b2);have hs2:=Hy (show w.heap.size+2≤w2.heap.size from by have:=b2.size;have:=hsz.o;omega);replace Ot:=Hy Ot;replace Ob:=Hy Ob;clear b2 TC T0 B0 HF R hsz;by_cases ht0:eP s=0
 ·have hz:=Hy (sV ht0);have hE0:=Hy ht0;rw [ht0];clear ht0;rcases hB:iW s with _ | ⟨q,qs⟩
  ·have hBB:=Hy hB;rw [hB] at Ob;clear hB;obtain ⟨va,vcap,rfl,_⟩:=Ob.o.sl;obtain ⟨ta,tcap,rfl,St0⟩:=Ot.o.sl;have Sx:=Hy St0;have q0:decide (0<([]:List Pb).length)=false:=rfl;simp only [List.length_nil];have pc:=ak (ak (b0 w2) (.cells #[.slice ta (dh s).length tcap,.int .i64 0] 117)) (.cells #[.pointer (some ⟨w2.heap.size,0,none⟩)] 106);have BP:=(Blk.new w2 117 #[.slice ta (dh s).length tcap,.int .i64 0]).past (.cells #[.pointer (some ⟨w2.heap.size,0,none⟩)] 106);have BQ:Blk ((w2.alloc (.cells #[.slice ta (dh s).length tcap,.int .i64 0] 117)).alloc (.cells #[.pointer (some ⟨w2.heap.size,0,none⟩)] 106)) (w2.heap.size+1) 106 #[.pointer (some ⟨w2.heap.size,0,none⟩)]:=by
    have:=Blk.new (w2.alloc (.cells #[.slice ta (dh s).length tcap,.int .i64 0] 117)) 106 #[.pointer (some ⟨w2.heap.size,0,none⟩)];simpa using this
   have P3:Hid (Ps ((w2.alloc (.cells #[.slice ta (dh s).length tcap,.int .i64 0] 117)).alloc (.cells #[.pointer (some ⟨w2.heap.size,0,none⟩)] 106)) w2.heap.size (dh s)):=Hy ⟨⟨ta,(dh s).length,tcap,dh s,0,BP.cell 0,BP.cell 1,BP.free 1,St0.keeps pc,fun b off hb=>by
     rcases St0.hat with hn | ⟨b',off',e',hC⟩
     · exact absurd (List.eq_nil_of_length_eq_zero hn) (mM hz.o).ne
     · rw [hb] at e'
       cases e'
       have:=(hC 0 (by have:=(mM hz.o).ne;cases hq:dh s with | nil=>exact absurd hq this | cons x r=>simp)).1
       exact block_lt_of_cell this,rfl⟩,mM hz.o,⟨w2,T2.o,pc,Nat.le_refl _⟩,BP.tg⟩
   have HF3:=Hy (HF2.o.below pc HF2.o.lt);have R3:=Hy (R2.o.below pc R2.o.lt);have BQ3:=Hy BQ;have B3:=Hy (au B2.o pc);have hs3:=Hy (by simp:((w2.alloc (.cells #[.slice ta (dh s).length tcap,.int .i64 0] 117)).alloc (.cells #[.pointer (some ⟨w2.heap.size,0,none⟩)] 106)).heap.size=w2.heap.size+2);have hmf:∀ (fn:Fn) (first cap:Array Value) (w:World),(Instr.makeFunc fn first cap).run Tryz.prog w=.ok (.func fn first cap) w:=fun _ _ _ _=>rfl;clear pc BP BQ St0 Sx Ob Ot HF2 R2 B2 T2;go_wp2_with fail;generalize ((w2.alloc (.cells #[.slice ta (dh s).length tcap,.int .i64 0] 117)).alloc (.cells #[.pointer (some ⟨w2.heap.size,0,none⟩)] 106))=w3 at *;have hgn:=Hy (show w.heap.size+1≠w2.heap.size from by have:=hs2.o;omega);have CA:=Hy (Ol w2.heap.size w.heap.size (w2.heap.size+1) (w.heap.size+1) (dh s) (w3.alloc (.cells #[.int .i64 0,.int .i64 0] 122)) (P3.o.keeps (ak (b0 w3) _)) (HF3.o.past _) (BQ3.o.past _) (R3.o.past _) (by have:=hs2.o;omega) (by omega) hgn.o);have hYY:∀ w',Off w2.heap.size (w.heap.size+1) (w3.alloc (.cells #[.int .i64 0,.int .i64 0] 122)) w'→Blk w' w3.heap.size 122 #[.int .i64 0,.int .i64 0]:=fun w' O=>O.blk (Blk.new w3 _ _) (by have:=hs3.o;omega) (by have:=hs2.o;have:=hs3.o;omega);rcases hA:fI exR (dh s) with _ | ⟨x,l1⟩ | ⟨a,c,l1⟩
   ·exact absurd hA (Eb (pI) _)
   ·have hT:=Hy (show tr=(x,0,0) from by rw [← hTT.o];exact uO hE0.o hBB.o hA);rw [hA] at CA;clear hA;refine (uG 122 #[.pointer (some ⟨w.heap.size,0,none⟩),.pointer (some ⟨w2.heap.size+1,0,none⟩),.pointer (some ⟨w.heap.size+1,0,none⟩)] w3 (fun w' => InE (w3.alloc (.cells #[.int .i64 0,.int .i64 0] 122)).heap.size (w.heap.size+1) w' x∧Off w2.heap.size (w.heap.size+1) (w3.alloc (.cells #[.int .i64 0,.int .i64 0] 122)) w') (fun w' h=>hYY w' h.2) CA.o (fun _=>rfl)).mono ?_;rintro e w5 ⟨w4,⟨⟨ua,uc,aa,ac,I4,E4⟩,O4⟩,S5,rfl⟩;have I5:=Hy (I4.st S5 (by have:=hs2.o;have:=hs3.o;omega));have E5:=Hy ((E4.kp (S5.kp (by simp))).less (show w.heap.size+2≤_ by simp;have:=hs2.o;have:=hs3.o;omega));have B5:=Hy (B3.o.trans ((((Below.refl w.heap.size w3).alloc (by have:=hs2.o;have:=hs3.o;omega) (.cells #[.int .i64 0,.int .i64 0] 122)).trans (O4.below (by have:=hs2.o;omega) (by omega) (by simp;have:=hs2.o;have:=hs3.o;omega))).trans (S5.below (by have:=hs2.o;have:=hs3.o;omega))));have hs5:=Hy (show w.heap.size+2≤w5.heap.size from by have:=S5.size;have:=O4.size;simp at this;have:=hs2.o;have:=hs3.o;omega);clear CA hYY I4 O4 S5 E4 P3 HF3 R3 BQ3 B3;go_wp2_with fail;have bb:=ak (b0 w5) (.cells #[.int .i64 0,.int .i64 0] 122);have SS:=Hy (show Blk (w5.alloc (.cells #[.int .i64 0,.int .i64 0] 122)).drew (w.heap.size+1) 29 (exC x ua uc aa ac)∧Blk (w5.alloc (.cells #[.int .i64 0,.int .i64 0] 122)).drew w5.heap.size 122 #[.int .i64 0,.int .i64 0] from ⟨I5.o.past _,Blk.new w5 _ _⟩);refine wp_region_held_drew (S:=fun w' => Blk w' (w.heap.size+1) 29 (exC x ua uc aa ac)∧Blk w' w5.heap.size 122 #[.int .i64 0,.int .i64 0]) (by kernel_rfl) SS.o (fun hH=>?_);refine aj 0 40 (.agg (exC x ua uc aa ac)) rfl (by kernel_rfl) rfl (fun _ _ _ h=>h) rfl hH (fun w' hS=>aV aF Tryz.underlying29 rfl (.tmp 4) rfl _ _ _ rfl hS.1 rfl) ?_;simp only [sz0,sz1];refine aj 1 41 ?_ rfl (by kernel_rfl) rfl (fun _ _ _ h=>h) rfl hH (fun w' hS=>?_) ?_;rotate_left
    ·go_simp;try with_reducible rfl
    simp only [sz0,sz1];refine aj 2 42 ?_ rfl (by kernel_rfl) rfl (fun _ _ _ h=>h) rfl hH (fun w' hS=>?_) ?_;rotate_left
    ·have e1:=hS.2.cell 0;go_simp;try with_reducible rfl
    simp only [sz0,sz1];refine aj 3 43 ?_ rfl (by kernel_rfl) rfl (fun _ _ _ h=>h) rfl hH (fun w' hS=>?_) ?_;rotate_left
    ·go_simp;try with_reducible rfl
    simp only [sz0,sz1];refine aj 4 44 ?_ rfl (by kernel_rfl) rfl (fun _ _ _ h=>h) rfl hH (fun w' hS=>?_) ?_;rotate_left
    ·have e1:=hS.2.cell 1;go_simp;try with_reducible rfl
    simp only [sz0,sz1];refine av (i:=5) rfl (by kernel_rfl) rfl (fun K hK=>?_);refine jh aF (.tmp 4) (.tmp 40) rfl _ _ _ _ rfl rfl hH.1 rfl rfl (aM _ _ _ _ _) ?_;intro w9 hb9 hs9;refine hK.o _ _ ⟨hb9,hH.2.st hs9 (by have:=hs5.o;omega)⟩ (fun hH=>?_);clear hK K;have E7:=Hy ((E5.o.kp (dB bb)).kp (hs9.kp (by omega)));have B9:=Hy (((B5.o.trans (bb.mono (by have:=hs5.o;omega))).drew).trans (hs9.below (Nat.le_succ _)));replace hb9:=Hy hb9;clear hs9 SS bb;simp only [Act.put];refine aj 6 5 ?_ rfl (by kernel_rfl) rfl (fun _ _ _ h=>h) rfl hH (fun w' hS=>?_) ?_;rotate_left
    ·go_simp;try with_reducible rfl
    simp only [sz0,sz1];refine aj 7 6 ?_ rfl (by kernel_rfl) rfl (fun _ _ _ h=>h) rfl hH (fun w' hS=>?_) ?_;rotate_left
    ·go_simp;try with_reducible rfl
    simp only [sz0,sz1];clear hH;refine wpAnyH_done (by kernel_rfl) ?_ _;go_wp2_with fail;refine iN aF Tryz.underlying29 rfl rfl _ _ _ _ _ rfl hb9.o rfl ?_;rw [hT.o];exact ⟨_,rfl,⟨ua,uc,aa,ac,rfl,E7.o.less (by omega)⟩,B9.o⟩
   have hT:=Hy (show tr=(⟨h0,.nil⟩,a,c) from by rw [← hTT.o];exact Cq hE0.o hBB.o hA);rw [hA] at CA;clear hA;refine (uH 122 #[.pointer (some ⟨w.heap.size,0,none⟩),.pointer (some ⟨w2.heap.size+1,0,none⟩),.pointer (some ⟨w.heap.size+1,0,none⟩)] w3 a c (fun w' => Blk w' (w.heap.size+1) 29 zE∧Off w2.heap.size (w.heap.size+1) (w3.alloc (.cells #[.int .i64 0,.int .i64 0] 122)) w') (fun w' h=>hYY w' h.2) CA.o (fun _=>rfl)).mono ?_;rintro e w5 ⟨w4,⟨I4,O4⟩,S5,rfl⟩;have I5:=Hy (I4.st S5 (by have:=hs2.o;have:=hs3.o;omega));have B5:=Hy (B3.o.trans ((((Below.refl w.heap.size w3).alloc (by have:=hs2.o;have:=hs3.o;omega) (.cells #[.int .i64 0,.int .i64 0] 122)).trans (O4.below (by have:=hs2.o;omega) (by omega) (by simp;have:=hs2.o;have:=hs3.o;omega))).trans (S5.below (by have:=hs2.o;have:=hs3.o;omega))));have hs5:=Hy (show w.heap.size+2≤w5.heap.size from by have:=S5.size;have:=O4.size;simp at this;have:=hs2.o;have:=hs3.o;omega);clear CA hYY I4 O4 S5 P3 HF3 R3 BQ3 B3;go_wp2_with fail;have bb:=ak (b0 w5) (.cells #[.int .i64 a,.int .i64 c] 122);have SS:=Hy (show Blk (w5.alloc (.cells #[.int .i64 a,.int .i64 c] 122)).drew (w.heap.size+1) 29 (zE)∧Blk (w5.alloc (.cells #[.int .i64 a,.int .i64 c] 122)).drew w5.heap.size 122 #[.int .i64 a,.int .i64 c] from ⟨I5.o.past _,Blk.new w5 _ _⟩);refine wp_region_held_drew (S:=fun w' => Blk w' (w.heap.size+1) 29 (zE)∧Blk w' w5.heap.size 122 #[.int .i64 a,.int .i64 c]) (by kernel_rfl) SS.o (fun hH=>?_);refine aj 0 40 (.agg (zE)) rfl (by kernel_rfl) rfl (fun _ _ _ h=>h) rfl hH (fun w' hS=>aV aF Tryz.underlying29 rfl (.tmp 4) rfl _ _ _ rfl hS.1 rfl) ?_;simp only [sz0,sz1];refine aj 1 41 ?_ rfl (by kernel_rfl) rfl (fun _ _ _ h=>h) rfl hH (fun w' hS=>?_) ?_;rotate_left
   ·go_simp;try with_reducible rfl
   simp only [sz0,sz1];refine aj 2 42 ?_ rfl (by kernel_rfl) rfl (fun _ _ _ h=>h) rfl hH (fun w' hS=>?_) ?_;rotate_left
   ·have e1:=hS.2.cell 0;go_simp;try with_reducible rfl
   simp only [sz0,sz1];refine aj 3 43 ?_ rfl (by kernel_rfl) rfl (fun _ _ _ h=>h) rfl hH (fun w' hS=>?_) ?_;rotate_left
   ·go_simp;try with_reducible rfl
   simp only [sz0,sz1];refine aj 4 44 ?_ rfl (by kernel_rfl) rfl (fun _ _ _ h=>h) rfl hH (fun w' hS=>?_) ?_;rotate_left
   ·have e1:=hS.2.cell 1;go_simp;try with_reducible rfl
   simp only [sz0,sz1];refine av (i:=5) rfl (by kernel_rfl) rfl (fun K hK=>?_);refine jh aF (.tmp 4) (.tmp 40) rfl _ _ _ _ rfl rfl hH.1 rfl rfl (by simp [zE,Value.oneCell']) ?_;intro w9 hb9 hs9;refine hK.o _ _ ⟨hb9,hH.2.st hs9 (by have:=hs5.o;omega)⟩ (fun hH=>?_);clear hK K;have B9:=Hy (((B5.o.trans (bb.mono (by have:=hs5.o;omega))).drew).trans (hs9.below (Nat.le_succ _)));replace hb9:=Hy hb9;clear hs9 SS bb;simp only [Act.put];refine aj 6 5 ?_ rfl (by kernel_rfl) rfl (fun _ _ _ h=>h) rfl hH (fun w' hS=>?_) ?_;rotate_left
   ·go_simp;try with_reducible rfl
   simp only [sz0,sz1];refine aj 7 6 ?_ rfl (by kernel_rfl) rfl (fun _ _ _ h=>h) rfl hH (fun w' hS=>?_) ?_;rotate_left
   ·go_simp;try with_reducible rfl
   simp only [sz0,sz1];clear hH;refine wpAnyH_done (by kernel_rfl) ?_ _;go_wp2_with fail;refine iN aF Tryz.underlying29 rfl rfl _ _ _ _ _ rfl hb9.o rfl ?_;rw [hT.o];exact ⟨_,rfl,⟨none,0,none,0,rfl,⟨.inl rfl,.inl rfl⟩⟩,B9.o⟩
  have hT:=Hy (show tr=(⟨h0,.nil⟩,q.1,q.2) from by rw [← hTT.o];exact xu hE0.o hB);rw [hB] at Ob;clear hB;rcases Ob.o.o with ⟨_,hnil⟩ | ⟨g,vcap,rfl,hbg,hg,hlc,hcm,hC⟩
  ·cases hnil
  have c0:w2.cell? ⟨g,0,none⟩=some (.int .i64 q.1):=(hC 0 (by simp)).1;have c1:w2.cell? ⟨g,1,none⟩=some (.int .i64 q.2):=(hC 0 (by simp)).2;have hgn:=Hy (show g≠w.heap.size+1 from by simp at hbg;omega);obtain ⟨N,hN⟩:∃ N,(q :: qs).length=N:=⟨_,rfl⟩;have hN0:0<N:=by rw [← hN];simp
  rw [hN];have q0:decide ((0:Int)<(N:Int))=true:=dT (by omega);have q1:(0:Int)<(N:Int):=by omega
  clear hN hC hlc hcm hbg Ob Ot;go_wp2_with fail;have SS:=Hy (show Blk w2.drew (w.heap.size+1) 29 (zE)∧w2.drew.cell? ⟨g,0,none⟩=some (.int .i64 q.1)∧w2.drew.cell? ⟨g,1,none⟩=some (.int .i64 q.2) from ⟨R2.o,c0,c1⟩);clear c0 c1;refine wp_region_held_drew (S:=fun w' => Blk w' (w.heap.size+1) 29 (zE)∧w'.cell? ⟨g,0,none⟩=some (.int .i64 q.1)∧w'.cell? ⟨g,1,none⟩=some (.int .i64 q.2)) (by kernel_rfl) SS.o (fun hH=>?_);refine aj 0 26 (.agg (zE)) rfl (by kernel_rfl) rfl (fun _ _ _ h=>h) rfl hH (fun w' hS=>aV aF Tryz.underlying29 rfl (.tmp 4) rfl _ _ _ rfl hS.1 rfl) ?_;simp only [sz0,sz1];refine aj 1 27 ?_ rfl (by kernel_rfl) rfl (fun _ _ _ h=>h) rfl hH (fun w' hS=>?_) ?_;rotate_left
  ·go_simp;try with_reducible rfl
  simp only [sz0,sz1];refine aj 2 28 ?_ rfl (by kernel_rfl) rfl (fun _ _ _ h=>h) rfl hH (fun w' hS=>?_) ?_;rotate_left
  ·go_simp;try with_reducible rfl
  simp only [sz0,sz1];refine aj 3 29 ?_ rfl (by kernel_rfl) rfl (fun _ _ _ h=>h) rfl hH (fun w' hS=>?_) ?_;rotate_left
  ·go_simp;try with_reducible rfl
  simp only [sz0,sz1];refine aj 4 30 ?_ rfl (by kernel_rfl) rfl (fun _ _ _ h=>h) rfl hH (fun w' hS=>?_) ?_;rotate_left
  ·have e1:=hS.2.1;go_simp;try with_reducible rfl
  simp only [sz0,sz1];refine aj 5 31 ?_ rfl (by kernel_rfl) rfl (fun _ _ _ h=>h) rfl hH (fun w' hS=>?_) ?_;rotate_left
  ·go_simp;try with_reducible rfl
  simp only [sz0,sz1];refine aj 6 32 ?_ rfl (by kernel_rfl) rfl (fun _ _ _ h=>h) rfl hH (fun w' hS=>?_) ?_;rotate_left
  ·go_simp;try with_reducible rfl
  simp only [sz0,sz1];refine aj 7 33 ?_ rfl (by kernel_rfl) rfl (fun _ _ _ h=>h) rfl hH (fun w' hS=>?_) ?_;rotate_left
  ·go_simp;try with_reducible rfl
  simp only [sz0,sz1];refine aj 8 34 ?_ rfl (by kernel_rfl) rfl (fun _ _ _ h=>h) rfl hH (fun w' hS=>?_) ?_;rotate_left
  ·have e1:=hS.2.2;go_simp;try with_reducible rfl
  simp only [sz0,sz1];refine av (i:=9) rfl (by kernel_rfl) rfl (fun K hK=>?_);refine jh aF (.tmp 4) (.tmp 26) rfl _ _ _ _ rfl rfl hH.1 rfl rfl (by simp [zE,Value.oneCell']) ?_;intro w9 hb9 hs9;refine hK.o _ _ ⟨hb9,(World.cell?_of_block (w:=w2.drew) (hs9.block g hgn.o)).trans hH.2.1,(World.cell?_of_block (w:=w2.drew) (hs9.block g hgn.o)).trans hH.2.2⟩ (fun hH=>?_);clear hK K;have B9:=Hy (B2.o.drew.trans (hs9.below (Nat.le_succ _)));replace hb9:=Hy hb9;clear hs9 SS;simp only [Act.put];refine aj 10 5 ?_ rfl (by kernel_rfl) rfl (fun _ _ _ h=>h) rfl hH (fun w' hS=>?_) ?_;rotate_left
  ·go_simp;try with_reducible rfl
  simp only [sz0,sz1];refine aj 11 6 ?_ rfl (by kernel_rfl) rfl (fun _ _ _ h=>h) rfl hH (fun w' hS=>?_) ?_;rotate_left
  ·go_simp;try with_reducible rfl
  simp only [sz0,sz1];clear hH;refine wpAnyH_done (by kernel_rfl) ?_ _;go_wp2_with fail;refine iN aF Tryz.underlying29 rfl rfl _ _ _ _ _ rfl hb9.o rfl ?_;rw [hT.o];exact ⟨_,rfl,⟨none,0,none,0,rfl,⟨.inl rfl,.inl rfl⟩⟩,B9.o⟩
 have q1:(eP s != 0)=true:=by simp [ht0]
 have hT:=Hy (show tr=(⟨h0,.nil⟩,0,eP s) from by rw [← hTT.o];unfold dM;rw [if_neg ht0]);clear ht0 hTT;generalize eP s=te at *;go_wp2_with (first | (refine aB aF Tryz.underlying29 rfl (.tmp 4) rfl rfl _ _ _ rfl R2.o rfl ?_) | (refine aD aF (.tmp 4) (.tmp 20) rfl rfl _ _ _ _ rfl rfl R2.o rfl rfl (by simp [zE,Value.oneCell']) ?_;intro w9 hb9 hs9));refine iN aF Tryz.underlying29 rfl rfl _ _ _ _ _ rfl hb9 rfl ?_;rw [hT.o];exact ⟨_,rfl,⟨none,0,none,0,rfl,⟨.inl rfl,.inl rfl⟩⟩,B2.o.trans (hs9.below (Nat.le_succ _))⟩
theorem J3 (a0:Option Addr) (n0 cap:Nat) (s:ByteArray) (w:World) (hS:Bs w a0 n0 cap s) (T:Tabo w) (tr:Ex × Int × Int) (hTT:dM (α:=Ex) ⟨h0,.nil⟩ exR s=tr) :
    Calls Tryz.prog 27 #[.slice a0 n0 cap] w fun e w' => ∃ v,e=.returned (.tuple #[v,.int .i64 tr.2.1,.int .i64 tr.2.2])∧Ev w.heap.size w' v tr.1∧Below w.heap.size w w':=by
 have bb:=ak (b0 w) (.cells zE 29);have WC:=Hy (JV a0 n0 cap s _ (hS.keeps bb) (T.stays bb) tr hTT);have R:=Hy (Blk.new w 29 zE);have BB:=Hy bb;clear hS T hTT bb
 go_enter Tryz.func27,Tryz.ntmps27
 go_wp2_with fail;refine WC.o.mono ?_;rintro e w1 ⟨v,rfl,V,b1⟩;have R1:=Hy (R.o.below b1 R.o.lt);have B1:=Hy (au BB.o b1);have hsz:=Hy (by simp:(w.alloc (.cells zE 29)).heap.size=w.heap.size+1);obtain ⟨ua,uc,aa,ac,rfl,E⟩:=V;have E9:=Hy (hsz.o ▸ E);clear b1 E WC R BB;go_wp2_with (refine aD aF (.tmp 2) (.tmp 7) rfl rfl _ _ _ _ rfl rfl R1.o rfl rfl (aM _ _ _ _ _) ?_;intro w9 hb9 hs9);refine iN aF Tryz.underlying29 rfl rfl _ _ _ _ _ rfl hb9 rfl ?_;exact ⟨_,rfl,⟨ua,uc,aa,ac,rfl,(E9.o.kp (hs9.kp ls)).less (Nat.le_succ _)⟩,B1.o.trans (hs9.below lr)⟩
theorem JU (a0:Option Addr) (n0 cap:Nat) (s:ByteArray) (w:World) (hS:Bs w a0 n0 cap s) (T:Tabo w) (tr:Ty × Int × Int) (hTT:dM (α:=Ty) ⟨0,[],.empty⟩ typ s=tr) :
    Calls Tryz.prog 73 #[.slice a0 n0 cap,.func (.func 74) #[] #[]] w fun e w' => ∃ v,e=.returned (.tuple #[v,.int .i64 tr.2.1,.int .i64 tr.2.2])∧Tv w.heap.size w' v tr.1∧Below w.heap.size w w':=by
 replace hTT:=Hy hTT;have bb:=ak (ak (b0 w) (.cells #[.func (.func 74) #[] #[]] 113)) (.cells zT 31);have HF:=Hy ((Blk.new w 113 #[.func (.func 74) #[] #[]]).past (.cells zT 31));have R:=Hy (by have:=Blk.new (w.alloc (.cells #[.func (.func 74) #[] #[]] 113)) 31 zT;simpa using this:Blk ((w.alloc (.cells #[.func (.func 74) #[] #[]] 113)).alloc (.cells zT 31)) (w.heap.size+1) 31 zT);have TC:=Hy (sU a0 n0 cap s _ (hS.keeps bb) (T.stays bb).t);have T0:=Hy (T.stays bb);have B0:=Hy bb;have hsz:=Hy (by simp:((w.alloc (.cells #[.func (.func 74) #[] #[]] 113)).alloc (.cells zT 31)).heap.size=w.heap.size+2);clear hS T bb
 go_enter Tryz.func73,Tryz.ntmps73
 go_wp2_with fail;refine TC.o.mono ?_;rintro e w2 ⟨vt,vb,rfl,Ot,Ob,b2⟩;have B2:=Hy (au B0.o b2);have HF2:=Hy (HF.o.below b2 HF.o.lt);have R2:=Hy (R.o.below b2 R.o.lt);have T2:=Hy (T0.o.stays b2);have hs2:=Hy (show w.heap.size+2≤w2.heap.size from by have:=b2.size;have:=hsz.o;omega);replace Ot:=Hy Ot;replace Ob:=Hy Ob;clear b2 TC T0 B0 HF R hsz;by_cases ht0:eP s=0
 ·have hz:=Hy (sV ht0);have hE0:=Hy ht0;rw [ht0];clear ht0;rcases hB:iW s with _ | ⟨q,qs⟩
  ·have hBB:=Hy hB;rw [hB] at Ob;clear hB;obtain ⟨va,vcap,rfl,_⟩:=Ob.o.sl;obtain ⟨ta,tcap,rfl,St0⟩:=Ot.o.sl;have Sx:=Hy St0;have q0:decide (0<([]:List Pb).length)=false:=rfl;simp only [List.length_nil];have pc:=ak (ak (b0 w2) (.cells #[.slice ta (dh s).length tcap,.int .i64 0] 117)) (.cells #[.pointer (some ⟨w2.heap.size,0,none⟩)] 106);have BP:=(Blk.new w2 117 #[.slice ta (dh s).length tcap,.int .i64 0]).past (.cells #[.pointer (some ⟨w2.heap.size,0,none⟩)] 106);have BQ:Blk ((w2.alloc (.cells #[.slice ta (dh s).length tcap,.int .i64 0] 117)).alloc (.cells #[.pointer (some ⟨w2.heap.size,0,none⟩)] 106)) (w2.heap.size+1) 106 #[.pointer (some ⟨w2.heap.size,0,none⟩)]:=by
    have:=Blk.new (w2.alloc (.cells #[.slice ta (dh s).length tcap,.int .i64 0] 117)) 106 #[.pointer (some ⟨w2.heap.size,0,none⟩)];simpa using this
   have P3:Hid (Ps ((w2.alloc (.cells #[.slice ta (dh s).length tcap,.int .i64 0] 117)).alloc (.cells #[.pointer (some ⟨w2.heap.size,0,none⟩)] 106)) w2.heap.size (dh s)):=Hy ⟨⟨ta,(dh s).length,tcap,dh s,0,BP.cell 0,BP.cell 1,BP.free 1,St0.keeps pc,fun b off hb=>by
     rcases St0.hat with hn | ⟨b',off',e',hC⟩
     · exact absurd (List.eq_nil_of_length_eq_zero hn) (mM hz.o).ne
     · rw [hb] at e'
       cases e'
       have:=(hC 0 (by have:=(mM hz.o).ne;cases hq:dh s with | nil=>exact absurd hq this | cons x r=>simp)).1
       exact block_lt_of_cell this,rfl⟩,mM hz.o,⟨w2,T2.o,pc,Nat.le_refl _⟩,BP.tg⟩
   have HF3:=Hy (HF2.o.below pc HF2.o.lt);have R3:=Hy (R2.o.below pc R2.o.lt);have BQ3:=Hy BQ;have B3:=Hy (au B2.o pc);have hs3:=Hy (by simp:((w2.alloc (.cells #[.slice ta (dh s).length tcap,.int .i64 0] 117)).alloc (.cells #[.pointer (some ⟨w2.heap.size,0,none⟩)] 106)).heap.size=w2.heap.size+2);have hmf:∀ (fn:Fn) (first cap:Array Value) (w:World),(Instr.makeFunc fn first cap).run Tryz.prog w=.ok (.func fn first cap) w:=fun _ _ _ _=>rfl;clear pc BP BQ St0 Sx Ob Ot HF2 R2 B2 T2;go_wp2_with fail;generalize ((w2.alloc (.cells #[.slice ta (dh s).length tcap,.int .i64 0] 117)).alloc (.cells #[.pointer (some ⟨w2.heap.size,0,none⟩)] 106))=w3 at *;have hgn:=Hy (show w.heap.size+1≠w2.heap.size from by have:=hs2.o;omega);have CA:=Hy (Oj w2.heap.size w.heap.size (w2.heap.size+1) (w.heap.size+1) (dh s) (w3.alloc (.cells #[.int .i64 0,.int .i64 0] 122)) (P3.o.keeps (ak (b0 w3) _)) (HF3.o.past _) (BQ3.o.past _) (R3.o.past _) (by have:=hs2.o;omega) (by omega) hgn.o);have hYY:∀ w',Off w2.heap.size (w.heap.size+1) (w3.alloc (.cells #[.int .i64 0,.int .i64 0] 122)) w'→Blk w' w3.heap.size 122 #[.int .i64 0,.int .i64 0]:=fun w' O=>O.blk (Blk.new w3 _ _) (by have:=hs3.o;omega) (by have:=hs2.o;have:=hs3.o;omega);rcases hA:fI typ (dh s) with _ | ⟨x,l1⟩ | ⟨a,c,l1⟩
   ·exact absurd hA (Eb (yT) _)
   ·have hT:=Hy (show tr=(x,0,0) from by rw [← hTT.o];exact uO hE0.o hBB.o hA);rw [hA] at CA;clear hA;refine (uG 129 #[.pointer (some ⟨w.heap.size,0,none⟩),.pointer (some ⟨w2.heap.size+1,0,none⟩),.pointer (some ⟨w.heap.size+1,0,none⟩)] w3 (fun w' => InT (w3.alloc (.cells #[.int .i64 0,.int .i64 0] 122)).heap.size (w.heap.size+1) w' x∧Off w2.heap.size (w.heap.size+1) (w3.alloc (.cells #[.int .i64 0,.int .i64 0] 122)) w') (fun w' h=>hYY w' h.2) CA.o (fun _=>rfl)).mono ?_;rintro e w5 ⟨w4,⟨⟨ua,uc,I4,E4⟩,O4⟩,S5,rfl⟩;have I5:=Hy (I4.st S5 (by have:=hs2.o;have:=hs3.o;omega));have E5:=Hy ((E4.kp (S5.kp (by simp))).less (show w.heap.size+2≤_ by simp;have:=hs2.o;have:=hs3.o;omega));have B5:=Hy (B3.o.trans ((((Below.refl w.heap.size w3).alloc (by have:=hs2.o;have:=hs3.o;omega) (.cells #[.int .i64 0,.int .i64 0] 122)).trans (O4.below (by have:=hs2.o;omega) (by omega) (by simp;have:=hs2.o;have:=hs3.o;omega))).trans (S5.below (by have:=hs2.o;have:=hs3.o;omega))));have hs5:=Hy (show w.heap.size+2≤w5.heap.size from by have:=S5.size;have:=O4.size;simp at this;have:=hs2.o;have:=hs3.o;omega);clear CA hYY I4 O4 S5 E4 P3 HF3 R3 BQ3 B3;go_wp2_with fail;have bb:=ak (b0 w5) (.cells #[.int .i64 0,.int .i64 0] 122);have SS:=Hy (show Blk (w5.alloc (.cells #[.int .i64 0,.int .i64 0] 122)).drew (w.heap.size+1) 31 (tyC x ua uc)∧Blk (w5.alloc (.cells #[.int .i64 0,.int .i64 0] 122)).drew w5.heap.size 122 #[.int .i64 0,.int .i64 0] from ⟨I5.o.past _,Blk.new w5 _ _⟩);refine wp_region_held_drew (S:=fun w' => Blk w' (w.heap.size+1) 31 (tyC x ua uc)∧Blk w' w5.heap.size 122 #[.int .i64 0,.int .i64 0]) (by kernel_rfl) SS.o (fun hH=>?_);refine aj 0 40 (.agg (tyC x ua uc)) rfl (by kernel_rfl) rfl (fun _ _ _ h=>h) rfl hH (fun w' hS=>aV aZ Tryz.underlying31 rfl (.tmp 4) rfl _ _ _ rfl hS.1 rfl) ?_;simp only [sz0,sz1];refine aj 1 41 ?_ rfl (by kernel_rfl) rfl (fun _ _ _ h=>h) rfl hH (fun w' hS=>?_) ?_;rotate_left
    ·go_simp;try with_reducible rfl
    simp only [sz0,sz1];refine aj 2 42 ?_ rfl (by kernel_rfl) rfl (fun _ _ _ h=>h) rfl hH (fun w' hS=>?_) ?_;rotate_left
    ·have e1:=hS.2.cell 0;go_simp;try with_reducible rfl
    simp only [sz0,sz1];refine aj 3 43 ?_ rfl (by kernel_rfl) rfl (fun _ _ _ h=>h) rfl hH (fun w' hS=>?_) ?_;rotate_left
    ·go_simp;try with_reducible rfl
    simp only [sz0,sz1];refine aj 4 44 ?_ rfl (by kernel_rfl) rfl (fun _ _ _ h=>h) rfl hH (fun w' hS=>?_) ?_;rotate_left
    ·have e1:=hS.2.cell 1;go_simp;try with_reducible rfl
    simp only [sz0,sz1];refine av (i:=5) rfl (by kernel_rfl) rfl (fun K hK=>?_);refine jh aZ (.tmp 4) (.tmp 40) rfl _ _ _ _ rfl rfl hH.1 rfl rfl (uN _ _ _) ?_;intro w9 hb9 hs9;refine hK.o _ _ ⟨hb9,hH.2.st hs9 (by have:=hs5.o;omega)⟩ (fun hH=>?_);clear hK K;have E7:=Hy ((E5.o.kp (dB bb)).kp (hs9.kp (by omega)));have B9:=Hy (((B5.o.trans (bb.mono (by have:=hs5.o;omega))).drew).trans (hs9.below (Nat.le_succ _)));replace hb9:=Hy hb9;clear hs9 SS bb;simp only [Act.put];refine aj 6 5 ?_ rfl (by kernel_rfl) rfl (fun _ _ _ h=>h) rfl hH (fun w' hS=>?_) ?_;rotate_left
    ·go_simp;try with_reducible rfl
    simp only [sz0,sz1];refine aj 7 6 ?_ rfl (by kernel_rfl) rfl (fun _ _ _ h=>h) rfl hH (fun w' hS=>?_) ?_;rotate_left
    ·go_simp;try with_reducible rfl
    simp only [sz0,sz1];clear hH;refine wpAnyH_done (by kernel_rfl) ?_ _;go_wp2_with fail;refine iN aZ Tryz.underlying31 rfl rfl _ _ _ _ _ rfl hb9.o rfl ?_;rw [hT.o];exact ⟨_,rfl,⟨ua,uc,rfl,E7.o.less (by omega)⟩,B9.o⟩
   have hT:=Hy (show tr=(⟨0,[],.empty⟩,a,c) from by rw [← hTT.o];exact Cq hE0.o hBB.o hA);rw [hA] at CA;clear hA;refine (uH 129 #[.pointer (some ⟨w.heap.size,0,none⟩),.pointer (some ⟨w2.heap.size+1,0,none⟩),.pointer (some ⟨w.heap.size+1,0,none⟩)] w3 a c (fun w' => Blk w' (w.heap.size+1) 31 zT∧Off w2.heap.size (w.heap.size+1) (w3.alloc (.cells #[.int .i64 0,.int .i64 0] 122)) w') (fun w' h=>hYY w' h.2) CA.o (fun _=>rfl)).mono ?_;rintro e w5 ⟨w4,⟨I4,O4⟩,S5,rfl⟩;have I5:=Hy (I4.st S5 (by have:=hs2.o;have:=hs3.o;omega));have B5:=Hy (B3.o.trans ((((Below.refl w.heap.size w3).alloc (by have:=hs2.o;have:=hs3.o;omega) (.cells #[.int .i64 0,.int .i64 0] 122)).trans (O4.below (by have:=hs2.o;omega) (by omega) (by simp;have:=hs2.o;have:=hs3.o;omega))).trans (S5.below (by have:=hs2.o;have:=hs3.o;omega))));have hs5:=Hy (show w.heap.size+2≤w5.heap.size from by have:=S5.size;have:=O4.size;simp at this;have:=hs2.o;have:=hs3.o;omega);clear CA hYY I4 O4 S5 P3 HF3 R3 BQ3 B3;go_wp2_with fail;have bb:=ak (b0 w5) (.cells #[.int .i64 a,.int .i64 c] 122);have SS:=Hy (show Blk (w5.alloc (.cells #[.int .i64 a,.int .i64 c] 122)).drew (w.heap.size+1) 31 (zT)∧Blk (w5.alloc (.cells #[.int .i64 a,.int .i64 c] 122)).drew w5.heap.size 122 #[.int .i64 a,.int .i64 c] from ⟨I5.o.past _,Blk.new w5 _ _⟩);refine wp_region_held_drew (S:=fun w' => Blk w' (w.heap.size+1) 31 (zT)∧Blk w' w5.heap.size 122 #[.int .i64 a,.int .i64 c]) (by kernel_rfl) SS.o (fun hH=>?_);refine aj 0 40 (.agg (zT)) rfl (by kernel_rfl) rfl (fun _ _ _ h=>h) rfl hH (fun w' hS=>aV aZ Tryz.underlying31 rfl (.tmp 4) rfl _ _ _ rfl hS.1 rfl) ?_;simp only [sz0,sz1];refine aj 1 41 ?_ rfl (by kernel_rfl) rfl (fun _ _ _ h=>h) rfl hH (fun w' hS=>?_) ?_;rotate_left
   ·go_simp;try with_reducible rfl
   simp only [sz0,sz1];refine aj 2 42 ?_ rfl (by kernel_rfl) rfl (fun _ _ _ h=>h) rfl hH (fun w' hS=>?_) ?_;rotate_left
   ·have e1:=hS.2.cell 0;go_simp;try with_reducible rfl
   simp only [sz0,sz1];refine aj 3 43 ?_ rfl (by kernel_rfl) rfl (fun _ _ _ h=>h) rfl hH (fun w' hS=>?_) ?_;rotate_left
   ·go_simp;try with_reducible rfl
   simp only [sz0,sz1];refine aj 4 44 ?_ rfl (by kernel_rfl) rfl (fun _ _ _ h=>h) rfl hH (fun w' hS=>?_) ?_;rotate_left
   ·have e1:=hS.2.cell 1;go_simp;try with_reducible rfl
   simp only [sz0,sz1];refine av (i:=5) rfl (by kernel_rfl) rfl (fun K hK=>?_);refine jh aZ (.tmp 4) (.tmp 40) rfl _ _ _ _ rfl rfl hH.1 rfl rfl (by simp [zT,Value.oneCell']) ?_;intro w9 hb9 hs9;refine hK.o _ _ ⟨hb9,hH.2.st hs9 (by have:=hs5.o;omega)⟩ (fun hH=>?_);clear hK K;have B9:=Hy (((B5.o.trans (bb.mono (by have:=hs5.o;omega))).drew).trans (hs9.below (Nat.le_succ _)));replace hb9:=Hy hb9;clear hs9 SS bb;simp only [Act.put];refine aj 6 5 ?_ rfl (by kernel_rfl) rfl (fun _ _ _ h=>h) rfl hH (fun w' hS=>?_) ?_;rotate_left
   ·go_simp;try with_reducible rfl
   simp only [sz0,sz1];refine aj 7 6 ?_ rfl (by kernel_rfl) rfl (fun _ _ _ h=>h) rfl hH (fun w' hS=>?_) ?_;rotate_left
   ·go_simp;try with_reducible rfl
   simp only [sz0,sz1];clear hH;refine wpAnyH_done (by kernel_rfl) ?_ _;go_wp2_with fail;refine iN aZ Tryz.underlying31 rfl rfl _ _ _ _ _ rfl hb9.o rfl ?_;rw [hT.o];exact ⟨_,rfl,⟨none,0,rfl,.inl rfl⟩,B9.o⟩
  have hT:=Hy (show tr=(⟨0,[],.empty⟩,q.1,q.2) from by rw [← hTT.o];exact xu hE0.o hB);rw [hB] at Ob;clear hB;rcases Ob.o.o with ⟨_,hnil⟩ | ⟨g,vcap,rfl,hbg,hg,hlc,hcm,hC⟩
  ·cases hnil
  have c0:w2.cell? ⟨g,0,none⟩=some (.int .i64 q.1):=(hC 0 (by simp)).1;have c1:w2.cell? ⟨g,1,none⟩=some (.int .i64 q.2):=(hC 0 (by simp)).2;have hgn:=Hy (show g≠w.heap.size+1 from by simp at hbg;omega);obtain ⟨N,hN⟩:∃ N,(q :: qs).length=N:=⟨_,rfl⟩;have hN0:0<N:=by rw [← hN];simp
  rw [hN];have q0:decide ((0:Int)<(N:Int))=true:=dT (by omega);have q1:(0:Int)<(N:Int):=by omega
  clear hN hC hlc hcm hbg Ob Ot;go_wp2_with fail;have SS:=Hy (show Blk w2.drew (w.heap.size+1) 31 (zT)∧w2.drew.cell? ⟨g,0,none⟩=some (.int .i64 q.1)∧w2.drew.cell? ⟨g,1,none⟩=some (.int .i64 q.2) from ⟨R2.o,c0,c1⟩);clear c0 c1;refine wp_region_held_drew (S:=fun w' => Blk w' (w.heap.size+1) 31 (zT)∧w'.cell? ⟨g,0,none⟩=some (.int .i64 q.1)∧w'.cell? ⟨g,1,none⟩=some (.int .i64 q.2)) (by kernel_rfl) SS.o (fun hH=>?_);refine aj 0 26 (.agg (zT)) rfl (by kernel_rfl) rfl (fun _ _ _ h=>h) rfl hH (fun w' hS=>aV aZ Tryz.underlying31 rfl (.tmp 4) rfl _ _ _ rfl hS.1 rfl) ?_;simp only [sz0,sz1];refine aj 1 27 ?_ rfl (by kernel_rfl) rfl (fun _ _ _ h=>h) rfl hH (fun w' hS=>?_) ?_;rotate_left
  ·go_simp;try with_reducible rfl
  simp only [sz0,sz1];refine aj 2 28 ?_ rfl (by kernel_rfl) rfl (fun _ _ _ h=>h) rfl hH (fun w' hS=>?_) ?_;rotate_left
  ·go_simp;try with_reducible rfl
  simp only [sz0,sz1];refine aj 3 29 ?_ rfl (by kernel_rfl) rfl (fun _ _ _ h=>h) rfl hH (fun w' hS=>?_) ?_;rotate_left
  ·go_simp;try with_reducible rfl
  simp only [sz0,sz1];refine aj 4 30 ?_ rfl (by kernel_rfl) rfl (fun _ _ _ h=>h) rfl hH (fun w' hS=>?_) ?_;rotate_left
  ·have e1:=hS.2.1;go_simp;try with_reducible rfl
  simp only [sz0,sz1];refine aj 5 31 ?_ rfl (by kernel_rfl) rfl (fun _ _ _ h=>h) rfl hH (fun w' hS=>?_) ?_;rotate_left
  ·go_simp;try with_reducible rfl
  simp only [sz0,sz1];refine aj 6 32 ?_ rfl (by kernel_rfl) rfl (fun _ _ _ h=>h) rfl hH (fun w' hS=>?_) ?_;rotate_left
  ·go_simp;try with_reducible rfl
  simp only [sz0,sz1];refine aj 7 33 ?_ rfl (by kernel_rfl) rfl (fun _ _ _ h=>h) rfl hH (fun w' hS=>?_) ?_;rotate_left
  ·go_simp;try with_reducible rfl
  simp only [sz0,sz1];refine aj 8 34 ?_ rfl (by kernel_rfl) rfl (fun _ _ _ h=>h) rfl hH (fun w' hS=>?_) ?_;rotate_left
  ·have e1:=hS.2.2;go_simp;try with_reducible rfl
  simp only [sz0,sz1];refine av (i:=9) rfl (by kernel_rfl) rfl (fun K hK=>?_);refine jh aZ (.tmp 4) (.tmp 26) rfl _ _ _ _ rfl rfl hH.1 rfl rfl (by simp [zT,Value.oneCell']) ?_;intro w9 hb9 hs9;refine hK.o _ _ ⟨hb9,(World.cell?_of_block (w:=w2.drew) (hs9.block g hgn.o)).trans hH.2.1,(World.cell?_of_block (w:=w2.drew) (hs9.block g hgn.o)).trans hH.2.2⟩ (fun hH=>?_);clear hK K;have B9:=Hy (B2.o.drew.trans (hs9.below (Nat.le_succ _)));replace hb9:=Hy hb9;clear hs9 SS;simp only [Act.put];refine aj 10 5 ?_ rfl (by kernel_rfl) rfl (fun _ _ _ h=>h) rfl hH (fun w' hS=>?_) ?_;rotate_left
  ·go_simp;try with_reducible rfl
  simp only [sz0,sz1];refine aj 11 6 ?_ rfl (by kernel_rfl) rfl (fun _ _ _ h=>h) rfl hH (fun w' hS=>?_) ?_;rotate_left
  ·go_simp;try with_reducible rfl
  simp only [sz0,sz1];clear hH;refine wpAnyH_done (by kernel_rfl) ?_ _;go_wp2_with fail;refine iN aZ Tryz.underlying31 rfl rfl _ _ _ _ _ rfl hb9.o rfl ?_;rw [hT.o];exact ⟨_,rfl,⟨none,0,rfl,.inl rfl⟩,B9.o⟩
 have q1:(eP s != 0)=true:=by simp [ht0]
 have hT:=Hy (show tr=(⟨0,[],.empty⟩,0,eP s) from by rw [← hTT.o];unfold dM;rw [if_neg ht0]);clear ht0 hTT;generalize eP s=te at *;go_wp2_with (first | (refine aB aZ Tryz.underlying31 rfl (.tmp 4) rfl rfl _ _ _ rfl R2.o rfl ?_) | (refine aD aZ (.tmp 4) (.tmp 20) rfl rfl _ _ _ _ rfl rfl R2.o rfl rfl (by simp [zT,Value.oneCell']) ?_;intro w9 hb9 hs9));refine iN aZ Tryz.underlying31 rfl rfl _ _ _ _ _ rfl hb9 rfl ?_;rw [hT.o];exact ⟨_,rfl,⟨none,0,rfl,.inl rfl⟩,B2.o.trans (hs9.below (Nat.le_succ _))⟩
theorem J2 (a0:Option Addr) (n0 cap:Nat) (s:ByteArray) (w:World) (hS:Bs w a0 n0 cap s) (T:Tabo w) (tr:Ty × Int × Int) (hTT:dM (α:=Ty) ⟨0,[],.empty⟩ typ s=tr) :
    Calls Tryz.prog 30 #[.slice a0 n0 cap] w fun e w' => ∃ v,e=.returned (.tuple #[v,.int .i64 tr.2.1,.int .i64 tr.2.2])∧Tv w.heap.size w' v tr.1∧Below w.heap.size w w':=by
 have bb:=ak (b0 w) (.cells zT 31);have WC:=Hy (JU a0 n0 cap s _ (hS.keeps bb) (T.stays bb) tr hTT);have R:=Hy (Blk.new w 31 zT);have BB:=Hy bb;clear hS T hTT bb
 go_enter Tryz.func30,Tryz.ntmps30
 go_wp2_with fail;refine WC.o.mono ?_;rintro e w1 ⟨v,rfl,V,b1⟩;have R1:=Hy (R.o.below b1 R.o.lt);have B1:=Hy (au BB.o b1);have hsz:=Hy (by simp:(w.alloc (.cells zT 31)).heap.size=w.heap.size+1);obtain ⟨ua,uc,rfl,E⟩:=V;have E9:=Hy (hsz.o ▸ E);clear b1 E WC R BB;go_wp2_with (refine aD aZ (.tmp 2) (.tmp 7) rfl rfl _ _ _ _ rfl rfl R1.o rfl rfl (by simp [Value.oneCell']) ?_;intro w9 hb9 hs9);refine iN aZ Tryz.underlying31 rfl rfl _ _ _ _ _ rfl hb9 rfl ?_;exact ⟨_,rfl,⟨ua,uc,rfl,(E9.o.kp (hs9.kp ls)).less (Nat.le_succ _)⟩,B1.o.trans (hs9.below lr)⟩
def Sx {α:Type} (x:Rs α) (l:List Tk):Prop :=
 match x with
 | .out=>True
 | .ok _ r=>r <:+ l
 | .no _ c r=>c≠0∧r <:+ l
end pa
end Go.Proofs.YtbahfelnbofjjaaGreatDoor
