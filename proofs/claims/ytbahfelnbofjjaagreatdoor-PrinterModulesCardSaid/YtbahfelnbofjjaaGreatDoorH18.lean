/- Modules in memory. -/
import Derived.Lib.Builder
import Derived.Test.YtbahfelnbofjjaaGreatDoorH17
import Derived.Test.YtbahfelnbofjjaaGreatDoorSxH
set_option maxRecDepth 100000
set_option maxHeartbeats 16000000
namespace Go.Proofs.YtbahfelnbofjjaaGreatDoor
namespace ch
open Go.RowKit dec
def moC (ta:Option Addr) (tn tc:Nat) (ga:Option Addr) (gn gc:Nat):Array Value:=#[.slice ta tn tc,.slice ga gn gc]
def acT {α:Type} (t:α→List UInt8) (l:List α):List UInt8:=(l.map fun x=>t x++[10]).flatten
theorem qA {α:Type} (t:α→List UInt8) {l:List α} {j:Nat} (h:j<l.length):acT t (l.take (j+1))=(acT t (l.take j)++t l[j])++[10]:=by
 unfold acT;rw [List.take_succ_eq_append_getElem h,List.map_append,List.flatten_append];simp
theorem uI {α:Type} (e:α→Int) (t:α→List UInt8):∀ (l:List α) (j:Nat),j≤l.length→(∀ x ∈ l.take j,e x=0)→lnR e t l=if (lnR e t (l.drop j)).1≠0 then ((lnR e t (l.drop j)).1,[]) else (0,acT t (l.take j)++(lnR e t (l.drop j)).2)
 | l,0,_,_=>by
  rw [List.drop_zero]
  have h:∀ l:List α,(lnR e t l).1≠0→(lnR e t l).2=[]:=by
   intro l
   cases l with
   | nil=>intro h;exact absurd rfl h
   | cons x r =>
    intro h
    unfold lnR at h ⊢
    split
    ·rfl
    ·split
     ·rfl
     ·rename_i h1 h2
      rw [if_neg h1,if_neg h2] at h
      exact absurd rfl h
  by_cases h0:(lnR e t l).1≠0
  ·rw [if_pos h0,← h l h0]
  ·rw [if_neg h0]
   have:(lnR e t l).1=0:=Decidable.not_not.1 h0
   show lnR e t l=(0,[]++(lnR e t l).2)
   rw [List.nil_append,← this]
 | [],j+1,h,_=>by simp at h
 | x :: r,j+1,h,hx=>by
  have h0:e x=0:=hx x (by simp)
  have ih:=uI e t r j (by simpa using h) (fun y hy=>hx y (by simp [hy]))
  rw [List.drop_succ_cons,List.take_succ_cons]
  show (if e x≠0 then (e x,[]) else if (lnR e t r).1≠0 then ((lnR e t r).1,[]) else (0,t x++10 :: (lnR e t r).2))=_
  rw [if_neg (by rw [h0];decide),ih]
  by_cases h1:(lnR e t (r.drop j)).1≠0
  ·rw [if_pos h1,if_pos h1]
   simp only
   rw [if_pos h1]
  ·rw [if_neg h1,if_neg h1]
   simp only
   rw [if_neg (by decide)]
   unfold acT
   simp
theorem Fq {α:Type} (e:α→Int) (t:α→List UInt8) {l:List α} {j:Nat} (h:j<l.length) (hx:∀ x ∈ l.take j,e x=0) (h0:e l[j]≠0):lnR e t l=(e l[j],[]):=by
 rw [uI e t l j (Nat.le_of_lt h) hx,List.drop_eq_getElem_cons h];have:lnR e t (l[j] :: l.drop (j+1))=(e l[j],[]):=by unfold lnR;rw [if_pos h0]
 rw [this];simp only;rw [if_pos h0]
theorem Fu {α:Type} (e:α→Int) (t:α→List UInt8) {l:List α} (hx:∀ x ∈ l,e x=0):lnR e t l=(0,acT t l):=by
 rw [uI e t l l.length lr (by rw [List.take_length];exact hx),List.drop_length,List.take_length];show (0,acT t l++[])=_;rw [L_n]
theorem Ee {α:Type} {e:α→Int} {l:List α} {j:Nat} (h:j<l.length) (hx:∀ x ∈ l.take j,e x=0) (h0:e l[j]=0):∀ x ∈ l.take (j+1),e x=0:=by
 intro x hm;rw [List.take_succ_eq_append_getElem h] at hm;rcases List.mem_append.1 hm with hm | hm
 ·exact hx x hm
 rw [List.mem_singleton] at hm;rw [hm];exact h0
theorem pO {α:Type} (t:α→List UInt8) (k:Nat):∀ l:List α,(∀ x ∈ l,(t x).length≤k)→(acT t l).length≤(k+1) * l.length
 | [],_=>Nat.zero_le _
 | x :: l,h=>by
  have h1:=h x (L_e ..)
  have h2:=pO t k l fun y hy=>h y (L_h _ hy)
  have e:acT t (x :: l)=(t x++[10])++acT t l:=rfl
  rw [e,L_a,L_a]
  simp only [L_b,L_j,Nat.mul_add]
  omega
structure Mv' (w:World) (ta:Option Addr) (tc:Nat) (ga:Option Addr) (gc:Nat) (ts:List Tb) (gs:List Fe):Prop where
 t:Tbs' w ta ts.length tc ts
 g:Fes w ga gs.length gc gs
 tz:∀ t ∈ ts,t.sz
 gz:∀ f ∈ gs,f.sz
 tl:ts.length≤20
 gl:gs.length≤20
theorem jN:(Tryz.prog.info? 43).map (·.size)=some 2:=by kernel_rfl
theorem p8 {f:Fe} (h:pfE f=0):name f.nm=true∧name f.en=true∧tyE f.ty=0∧shE f.bo=0:=by
 unfold pfE at h;by_cases h1:name f.nm=false
 ·rw [if_pos h1] at h;cases h
 by_cases h2:name f.en=false
 ·rw [if_neg h1,if_pos h2] at h;cases h
 rw [if_neg h1,if_neg h2] at h;by_cases h3:tyE f.ty≠0
 ·rw [if_pos h3] at h;exact absurd h h3
 rw [if_neg h3] at h;exact ⟨by simpa using h1,by simpa using h2,Decidable.not_not.1 h3,h⟩
theorem jB {e:Int} (h:e=0) (t:List UInt8):txO e t=B8 t:=if_pos h
theorem oD {e:Int} (h:e≠0) (t:List UInt8):txO e t=.empty:=if_neg h
abbrev TB:TypeId:=151
abbrev TU:TypeId:=5
theorem VA:(Tryz.prog.info? TB).map (·.size)=some 2:=by kernel_rfl
theorem Je:∃ j,Tryz.prog.info? TB=some j∧j.size≠0:=by
 have h:=VA
 cases hi:Tryz.prog.info? TB with
 | none=>rw [hi] at h;cases h
 | some j =>
   rw [hi] at h
   have:j.size=2:=Option.some.inj h
   exact ⟨j,rfl,by omega⟩
theorem Wt:liesAt Tryz.prog Tryz.prog.depth TB (2 / Tryz.prog.cellsOf TB) 0 TB 1=true:=by kernel_rfl
def Bu (B b:Nat) (l:List UInt8) (w:World):Prop:=Lib.IsBuilder TB TU B b (un.bv l) w
theorem JB {w w1:World} {B:Nat} {v:Value} {n:Nat} {cs:List Value} (h:w.ownsRow B TU 1 v n cs) (hb:Below w.heap.size w w1):w1.ownsRow B TU 1 v n cs:=by
 obtain ⟨h1,h2⟩:=h;refine ⟨h1,?_⟩;rcases h2 with h0 | ⟨g,cap,cur,e,hbg,hh,r⟩
 ·exact .inl h0
 refine .inr ⟨g,cap,cur,e,hbg,?_,r⟩;have:g<w.heap.size:=by
  rcases Nat.lt_or_ge g w.heap.size with h' | h'
  ·exact h'
  rw [Array.getElem?_eq_none h'] at hh;cases hh
 rw [hb.block _ this];exact hh
theorem qD {w w1:World} {B b:Nat} {p:Value} {bs:List Value} (h:Lib.BuilderAt TB TU B b p bs w) (hb:Below w.heap.size w w1):Lib.BuilderAt TB TU B b p bs w1:=by
 have hlt:=h.lt;obtain ⟨h1,v,h2,h3,h4⟩:=h;exact ⟨h1,v,by rw [hb.block _ hlt];exact h2,JB h3 hb,h4⟩
theorem Bu.keeps {w w1:World} {B b:Nat} {l:List UInt8} (h:Bu B b l w) (hb:Below w.heap.size w w1):Bu B b l w1:=h.imp (fun k=>qD k hb) (fun k=>qD k hb)
theorem KZ (b:Nat) (w:World) (h0:w.cell? ⟨b,0,none⟩=some (.pointer (some ⟨b,0,none⟩))) :
    Calls Tryz.prog 166 #[.pointer (some ⟨b,0,none⟩)] w fun e w' => e=.returned (.tuple #[])∧w'=w:=by
 obtain ⟨j,hj,_⟩:=Je
 go_enter Tryz.func166,Tryz.ntmps166
 go_wp2;rw [Lib.run_neq_ptr_same w _ Tryz.underlying149 hj];go_wp2;go_end0;exact ⟨rfl,rfl⟩
theorem Iw (b:Nat) (w:World) (h0:w.cell? ⟨b,0,none⟩=some (.pointer none)) (hsh:w.shape? b=some (TB,2)) (hfz:w.frozen? ⟨b,0,none⟩=false) :
    Calls Tryz.prog 166 #[.pointer (some ⟨b,0,none⟩)] w fun e w' => e=.returned (.tuple #[])∧w'=w.setCell ⟨b,0,none⟩ (.pointer (some ⟨b,0,none⟩)):=by
 obtain ⟨j,hj,hjs⟩:=Je
 go_enter Tryz.func166,Tryz.ntmps166
 go_wp2;rw [Lib.run_to_unsafe w ⟨b,0,none⟩ Tryz.underlying149 Tryz.underlying239 hj hjs hsh (Nat.zero_lt_succ 1)];simp only [Result.andThen];rw [Oper.upon_value];go_wp2;rw [run_callFunc_extern Tryz.func236 (by kernel_rfl) (by kernel_rfl) (by kernel_rfl) (e:=Extern.AbiNoEscape.same) (by kernel_rfl)];rw [Lib.run_noEscape];simp only [Result.andThen];rw [Oper.upon_value];go_wp2;rw [Lib.run_from_unsafe w ⟨b,0,none⟩ Tryz.underlying239 Tryz.underlying149 hj hsh Wt];simp only [Result.andThen];rw [Oper.upon_value];go_wp2;go_end0;exact ⟨rfl,rfl⟩
theorem Ns (B b:Nat) (bs:List Value) (w:World) (h:Lib.IsBuilder TB TU B b bs w) :
    Calls Tryz.prog 166 #[.pointer (some ⟨b,0,none⟩)] w fun e w' => e=.returned (.tuple #[])∧Lib.BuilderAt TB TU B b (.pointer (some ⟨b,0,none⟩)) bs w'∧Below B w w':=by
 rcases h with h | h
 ·refine (Iw b w h.cell0 h.shape h.frozen0).mono ?_;rintro e w' ⟨rfl,rfl⟩;exact ⟨rfl,h.used _,(Below.refl B w).setCell (p:=⟨b,0,none⟩) h.1 _⟩
 refine (KZ b w h.cell0).mono ?_;rintro e w' ⟨rfl,rfl⟩;exact ⟨rfl,h,Below.refl B _⟩
theorem yU (B b:Nat) (l:List UInt8) (s:ByteArray) (w:World) (h:Bu B b l w) (hl:l.length+s.size≤140737488355328) (hB:B≤w.heap.size) :
    Calls Tryz.prog 117 #[.pointer (some ⟨b,0,none⟩),.string s] w fun e w' => e=.returned (.tuple #[.int .i64 s.size,.nilIface])∧Bu B b (l++s.data.toList) w'∧Below B w w':=by
 have C:=Hy (Ns B b _ w h);clear h
 go_enter Tryz.func117,Tryz.ntmps117
 go_wp2_with fail;refine C.o.mono ?_;rintro e w1 ⟨rfl,⟨k1,v,k2,k3,k4⟩,b1⟩;have c1:w1.cell? ⟨b,1,none⟩=some v:=by rw [Lib.cell_of_heap k2];rfl
 have K2:=Hy k2;have K3:=Hy k3;have K4:=Hy k4;have B1:=Hy b1;have hs1:=Hy (show B≤w1.heap.size by have:=b1.size;omega);have hbl:=un.K8 l;have HL:=Hy (show (un.bv l).length+s.size≤140737488355328 by omega);obtain ⟨i,hi,hz0,hz1,hz2⟩:=info_parts un.Oc;have KB:=Hy k1;clear k1 k2 k3 k4 b1 C hl hbl;go_wp2_with (at_builtin;refine Lib.wpList_append_own_string _ rfl (.tmp 12) (.tmp 13) 56 9 rfl B TU i dec.uy56 dec.uy9 hi hz0 hz1 hz2 _ _ _ rfl K3.o s rfl (by have:=HL.o;unfold maxLen;omega) HL.o hs1.o ?_);intro vn w2 O2 hg _;have hlt:b<w1.heap.size:=Lib.BuilderAt.lt (T:=TB) (e:=TU) ⟨KB.o,v,K2.o,K3.o,K4.o⟩;have hb2:w2.heap[b]? = some (.cells #[.pointer (some ⟨b,0,none⟩),v] TB (0,0)):=by
  rw [hg.block b hlt (fun e=>K4.o e.symm)];exact K2.o
 have d0:w2.cell? ⟨b,0,none⟩=some (.pointer (some ⟨b,0,none⟩)):=by rw [Lib.cell_of_heap hb2];rfl
 have d1:w2.cell? ⟨b,1,none⟩=some v:=by rw [Lib.cell_of_heap hb2];rfl
 have f1:w2.frozen? ⟨b,1,none⟩=false:=Lib.frozen_of_heap hb2 1;obtain ⟨ao,n',cap,rfl⟩:∃ ao n' cap,vn=.slice ao n' cap:=by
  rcases O2.2 with ⟨hv,_⟩ | ⟨g,cap,cur,hv,_⟩
  ·exact ⟨_,_,_,hv⟩
  exact ⟨_,_,_,hv⟩
 have hR:=Hy (Lib.BuilderAt.put (T:=TB) (e:=TU) KB.o hb2 (bs':=un.bv (l++s.data.toList)) (by rw [un.zD,L_a,← un.tC,Lib.strCells_length];exact O2) (by decide));have hW:=Hy ((B1.o.grown hg hs1.o (fun k hk=>(K3.o.lt k hk).1)).setCell (p:=⟨b,1,none⟩) KB.o (.slice ao n' cap));clear O2 hg hb2 hlt;go_wp2_with fail
 go_ret2
 exact ⟨rfl,.inr hR.o,hW.o⟩
theorem La (w:World):Bu w.heap.size w.heap.size [] (w.alloc (.cells #[.pointer none,.slice none 0 0] TB)):=Lib.fresh_isBuilder TB TU w
theorem zG (B b:Nat) (l:List UInt8) (w:World) (h:Bu B b l w) (hB:B≤w.heap.size) :
  Calls Tryz.prog 118 #[.pointer (some ⟨b,0,none⟩)] w fun e w' => e=.returned (.string (B8 l))∧Below B w w':=Tryz.Builder_String_any B b l w h hB
theorem QD (l:List Tb) (a:Option Addr) (c:Nat) (w:World) (hA:Tbs' w a l.length c l) (hz:∀ x ∈ l,x.sz) (hl:l.length≤20) (T:Tabq w):Calls Tryz.prog 61 #[.slice a l.length c,.func (.func 20) #[] #[]] w (Tx (txO (lnR tbE tbT l).1 (lnR tbE tbT l).2) (lnR tbE tbT l).1 w):=by
 have B0:=Hy (aj (b0 w) (.cells #[.pointer none,.slice none 0 0] TB));have U0:=Hy (La w);have HA:=Hy hA;have HT:=Hy T;have HZ:=Hy hz;have hll:=Hy hl;clear hA T hz hl
 go_enter Tryz.func61,Tryz.ntmps61
 go_wp2_with fail
 go_loopw [13] (fun vi wr => ∃ j:Nat,vi=.int .i64 (j:Nat)∧Hid (j≤l.length)∧Hid (∀ x ∈ l.take j,tbE x=0)∧Hid (Below w.heap.size w wr)∧Hid (Bu w.heap.size w.heap.size (acT tbT (l.take j)) wr)) (fun vi _=>l.length - (intOf vi).toNat)
 case atStart=>exact ⟨0,rfl,Hy zl,Hy (fun x hx=>by cases hx),B0,U0⟩
 case round =>
  clear U0 B0;obtain ⟨j,rfl,hj,hz,hb,hu⟩:=hrel;by_cases hlt:j<l.length
  ·have q1:decide ((j:Int)<(l.length:Int))=true:=dT (by omega);have i1:(j:Int)<(l.length:Int):=by omega
   have htl:=hll.o;have f4:=Hy (aP (j:=j) (by omega));obtain ⟨bk,off,rfl,hC⟩:=HA.o.hat.resolve_left (by omega);obtain ⟨cs,hcs,R1,xa,xc,rfl,F1⟩:=hC j hlt;replace R1:=Hy (aJ R1 hb.o);have hxz:=HZ.o _ (List.getElem_mem hlt);have CT:=Hy (fun (W:World) (b:Below w.heap.size w W)=>lU l[j] xa xc W hxz (F1.keeps b) (HT.o.stays b));have hal:=pO tbT 4000 (l.take j) (fun x hx=>oG (hz.o x hx));rw [List.length_take,Nat.min_eq_left (Nat.le_of_lt hlt)] at hal;have hal2:=Hy (show (acT tbT (l.take j)).length≤30000000 by have:4001 * j≤4001 * 20:=Nat.mul_le_mul_left _ (by omega);omega);have hnx:=Hy (qA tbT hlt);have hlt2:=Hy hlt;have hHit:=Hy (fun h0=>Fq tbE tbT hlt hz.o h0);have hTk:=Hy (fun h0=>Ee (e:=tbE) hlt hz.o h0);have hTL:=Hy (fun (h0:tbE l[j]=0)=>(show (tbT l[j]).length≤4000 from by have hx:=List.getElem_mem hlt;exact oG h0));obtain ⟨PP,hPP⟩:∃ p,p=acT tbT (l.take j):=⟨_,rfl⟩;rw [← hPP] at hu hal2 hnx;clear hC hj hz hcs hal htl hxz hPP;generalize hx:l[j]=x at *;clear hx;unfold tbC at *;go_wp2_with (first | (refine bS gF dec.uy48 rfl (.tmp 15) rfl rfl bk (off+j * 4) #[.string x.nm,.string x.en,.slice xa x.fs.length xc,.int .i64 x.kp] rfl R1.o rfl ?_) | (refine aF gF (.tmp 8) (.tmp 16) rfl rfl _ _ _ _ rfl rfl (Blk.new _ _ _) rfl rfl (by simp [Value.oneCell']) ?_;intro w5 L5 hs5;have bb5:=(aj (b0 wr) _).trans (hs5.below lr)) | (refine aG gF dec.uy48 rfl (.tmp 8) rfl rfl _ _ _ rfl L5 rfl ?_));have B5:=Hy (hb.o.trans (bb5.mono hb.o.size));have U5:=Hy (hu.o.keeps bb5);clear bb5 hs5 L5 R1 hb hu;refine (CT.o _ B5.o).mono ?_;rintro e w1 ⟨rfl,b1⟩;have B1:=Hy (ak B5.o b1);have U1:=Hy (U5.o.keeps b1);clear b1 CT B5 U5;by_cases h0:tbE x≠0
   ·have q:(tbE x != 0)=true:=by simp [h0]
    have hR:=Hy (hHit.o h0);replace h0:=Hy h0;clear hHit hTk hTL hal2 U1;generalize tbE x=ex at *;go_wp2_with fail
    go_ret2
    exact fK (by rw [hR.o,oD h0.o];rfl) (by rw [hR.o]) B1.o
   have h00:tbE x=0:=Decidable.not_not.1 h0;have q:(tbE x != 0)=false:=by rw [h00];rfl
   have hl9:=hTL.o h00;have hk:=Hy (hTk.o h00);rw [jB h00];have A1:=dz ((tbT x)) ([10]) (by first | omega | (simp only [L_a];omega) | (simp only [L_b,L_j];omega) | (simp only [L_b,L_a,L_j];omega) | decide) (by first | omega | (simp only [L_a];omega) | (simp only [L_b,L_j];omega) | (simp only [L_b,L_a,L_j];omega) | decide);replace A1:∀ W,(Op.stringOp .add (B8 (tbT x)) ⟨#[10]⟩).run Tryz.prog W=.ok (.string (B8 ((tbT x)++[10]))) W:=A1;have CW:=Hy (fun (W:World) (b:Below w.heap.size w W) (u:Bu w.heap.size w.heap.size PP W)=>yU w.heap.size w.heap.size PP (B8 ((tbT x)++[10])) W u (by rw [mJ,L_a];have:=hal2.o;simp only [L_b,L_j];omega) b.size);have hU2:=Hy (show PP++(B8 ((tbT x)++[10])).data.toList=acT tbT (l.take (j+1)) by rw [hnx.o,bZ,L_i]);clear h0 h00 hl9 hHit hTk hTL hal2 hnx;generalize tbE x=ex at *;generalize B8 ((tbT x)++[10])=x1 at *;generalize B8 (tbT x)=x4 at *;go_wp2_with fail;refine (CW.o _ B1.o U1.o).mono ?_;rintro e w2 ⟨rfl,u2,b2⟩;have B2:=Hy (B1.o.trans b2);have U2:=Hy (hU2.o ▸ u2);clear b2 u2 CW U1;go_wp2_with fail;exact ⟨⟨j+1,congrArg (Value.int .i64) f4.o,hlt2,hk,B2,U2⟩,aU hlt2.o f4.o⟩
  have q1:decide ((j:Int)<(l.length:Int))=false:=dF (by omega);have hz':∀ x ∈ l,tbE x=0:=by have:=hz.o;rwa [L_q (by omega:l.length≤j)] at this
  have hR:=Hy (Fu tbE tbT hz');have hu':Bu w.heap.size w.heap.size (acT tbT l) wr:=by have:=hu.o;rwa [L_q (by omega:l.length≤j)] at this
  have CS:=Hy (zG _ _ _ wr hu' hb.o.size);clear hz hz' hu hu' hj;go_wp2_with fail;refine CS.o.mono ?_;rintro e w2 ⟨rfl,b2⟩;have B2:=Hy (hb.o.trans b2);clear b2 CS;go_wp2_with fail
  go_ret2
  exact fK (by rw [hR.o,jB rfl]) (by rw [hR.o]) B2.o
theorem QE (l:List Fe) (a:Option Addr) (c:Nat) (w:World) (hA:Fes w a l.length c l) (hz:∀ x ∈ l,x.sz) (hl:l.length≤20) (T:Tabq w):Calls Tryz.prog 62 #[.slice a l.length c,.func (.func 22) #[] #[]] w (Tx (txO (lnR pfE feT l).1 (lnR pfE feT l).2) (lnR pfE feT l).1 w):=by
 have B0:=Hy (aj (b0 w) (.cells #[.pointer none,.slice none 0 0] TB));have U0:=Hy (La w);have HA:=Hy hA;have HT:=Hy T;have HZ:=Hy hz;have hll:=Hy hl;clear hA T hz hl
 go_enter Tryz.func62,Tryz.ntmps62
 go_wp2_with fail
 go_loopw [13] (fun vi wr => ∃ j:Nat,vi=.int .i64 (j:Nat)∧Hid (j≤l.length)∧Hid (∀ x ∈ l.take j,pfE x=0)∧Hid (Below w.heap.size w wr)∧Hid (Bu w.heap.size w.heap.size (acT feT (l.take j)) wr)) (fun vi _=>l.length - (intOf vi).toNat)
 case atStart=>exact ⟨0,rfl,Hy zl,Hy (fun x hx=>by cases hx),B0,U0⟩
 case round =>
  clear U0 B0;obtain ⟨j,rfl,hj,hz,hb,hu⟩:=hrel;by_cases hlt:j<l.length
  ·have q1:decide ((j:Int)<(l.length:Int))=true:=dT (by omega);have i1:(j:Int)<(l.length:Int):=by omega
   have htl:=hll.o;have f4:=Hy (aP (j:=j) (by omega));obtain ⟨bk,off,rfl,hC⟩:=HA.o.hat.resolve_left (by omega);obtain ⟨cs,hcs,R1,xa,xc,va,vc,wa,wc,rfl,V1,E1⟩:=hC j hlt;replace R1:=Hy (aJ R1 hb.o);have hxz:=HZ.o _ (List.getElem_mem hlt);have CT:=Hy (fun (W:World) (b:Below w.heap.size w W)=>qU l[j] xa va wa xc vc wc W hxz (V1.keeps b) (E1.keeps b) (HT.o.stays b));have hal:=pO feT 1000000 (l.take j) (fun x hx=>(by obtain ⟨y1,y2,y3,y4⟩:=p8 (hz.o x hx);exact pE y1 y2 y3 y4 (HZ.o x (List.mem_of_mem_take hx)).few));rw [List.length_take,Nat.min_eq_left (Nat.le_of_lt hlt)] at hal;have hal2:=Hy (show (acT feT (l.take j)).length≤30000000 by have:1000001 * j≤1000001 * 20:=Nat.mul_le_mul_left _ (by omega);omega);have hnx:=Hy (qA feT hlt);have hlt2:=Hy hlt;have hHit:=Hy (fun h0=>Fq pfE feT hlt hz.o h0);have hTk:=Hy (fun h0=>Ee (e:=pfE) hlt hz.o h0);have hTL:=Hy (fun (h0:pfE l[j]=0)=>(show (feT l[j]).length≤1000000 from by have hx:=List.getElem_mem hlt;exact (by obtain ⟨y1,y2,y3,y4⟩:=p8 h0;exact pE y1 y2 y3 y4 (HZ.o _ hx).few)));obtain ⟨PP,hPP⟩:∃ p,p=acT feT (l.take j):=⟨_,rfl⟩;rw [← hPP] at hu hal2 hnx;clear hC hj hz hcs hal htl hxz hPP;generalize hx:l[j]=x at *;clear hx;unfold feC at *;go_wp2_with (first | (refine bS iL dec.uy51 rfl (.tmp 15) rfl rfl bk (off+j * 18) #[.string x.nm,.string x.en,.int .i64 x.ty.k,.slice xa x.ty.un.length xc,.string x.ty.of,.int .i64 x.bo.h.k,.string x.bo.h.op,.string x.bo.h.nm,.string x.bo.h.tb,.int .i64 x.bo.h.vk,.int .i64 x.bo.h.vn,.string x.bo.h.vs,.slice va x.bo.h.un.length vc,.int .i64 x.bo.h.pa,.int .i64 x.bo.h.wk,.int .i64 x.bo.h.ws,.slice wa x.bo.ar.len wc,.int .i64 x.vr] rfl R1.o rfl ?_) | (refine aF iL (.tmp 8) (.tmp 16) rfl rfl _ _ _ _ rfl rfl (Blk.new _ _ _) rfl rfl (by simp [Value.oneCell']) ?_;intro w5 L5 hs5;have bb5:=(aj (b0 wr) _).trans (hs5.below lr)) | (refine aG iL dec.uy51 rfl (.tmp 8) rfl rfl _ _ _ rfl L5 rfl ?_));have B5:=Hy (hb.o.trans (bb5.mono hb.o.size));have U5:=Hy (hu.o.keeps bb5);clear bb5 hs5 L5 R1 hb hu;refine (CT.o _ B5.o).mono ?_;rintro e w1 ⟨rfl,b1⟩;have B1:=Hy (ak B5.o b1);have U1:=Hy (U5.o.keeps b1);clear b1 CT B5 U5;by_cases h0:pfE x≠0
   ·have q:(pfE x != 0)=true:=by simp [h0]
    have hR:=Hy (hHit.o h0);replace h0:=Hy h0;clear hHit hTk hTL hal2 U1;generalize pfE x=ex at *;go_wp2_with fail
    go_ret2
    exact fK (by rw [hR.o,oD h0.o];rfl) (by rw [hR.o]) B1.o
   have h00:pfE x=0:=Decidable.not_not.1 h0;have q:(pfE x != 0)=false:=by rw [h00];rfl
   have hl9:=hTL.o h00;have hk:=Hy (hTk.o h00);rw [jB h00];have A1:=dz ((feT x)) ([10]) (by first | omega | (simp only [L_a];omega) | (simp only [L_b,L_j];omega) | (simp only [L_b,L_a,L_j];omega) | decide) (by first | omega | (simp only [L_a];omega) | (simp only [L_b,L_j];omega) | (simp only [L_b,L_a,L_j];omega) | decide);replace A1:∀ W,(Op.stringOp .add (B8 (feT x)) ⟨#[10]⟩).run Tryz.prog W=.ok (.string (B8 ((feT x)++[10]))) W:=A1;have CW:=Hy (fun (W:World) (b:Below w.heap.size w W) (u:Bu w.heap.size w.heap.size PP W)=>yU w.heap.size w.heap.size PP (B8 ((feT x)++[10])) W u (by rw [mJ,L_a];have:=hal2.o;simp only [L_b,L_j];omega) b.size);have hU2:=Hy (show PP++(B8 ((feT x)++[10])).data.toList=acT feT (l.take (j+1)) by rw [hnx.o,bZ,L_i]);clear h0 h00 hl9 hHit hTk hTL hal2 hnx;generalize pfE x=ex at *;generalize B8 ((feT x)++[10])=x1 at *;generalize B8 (feT x)=x4 at *;go_wp2_with fail;refine (CW.o _ B1.o U1.o).mono ?_;rintro e w2 ⟨rfl,u2,b2⟩;have B2:=Hy (B1.o.trans b2);have U2:=Hy (hU2.o ▸ u2);clear b2 u2 CW U1;go_wp2_with fail;exact ⟨⟨j+1,congrArg (Value.int .i64) f4.o,hlt2,hk,B2,U2⟩,aU hlt2.o f4.o⟩
  have q1:decide ((j:Int)<(l.length:Int))=false:=dF (by omega);have hz':∀ x ∈ l,pfE x=0:=by have:=hz.o;rwa [L_q (by omega:l.length≤j)] at this
  have hR:=Hy (Fu pfE feT hz');have hu':Bu w.heap.size w.heap.size (acT feT l) wr:=by have:=hu.o;rwa [L_q (by omega:l.length≤j)] at this
  have CS:=Hy (zG _ _ _ wr hu' hb.o.size);clear hz hz' hu hu' hj;go_wp2_with fail;refine CS.o.mono ?_;rintro e w2 ⟨rfl,b2⟩;have B2:=Hy (hb.o.trans b2);clear b2 CS;go_wp2_with fail
  go_ret2
  exact fK (by rw [hR.o,jB rfl]) (by rw [hR.o]) B2.o
theorem yw {α:Type} (e:α→Int) (t:α→List UInt8) (k:Nat):∀ l:List α,(∀ x ∈ l,e x=0→(t x).length≤k)→(lnR e t l).2.length≤(k+1) * l.length
 | [],_=>Nat.zero_le _
 | x :: r,h=>by
  have ih:=yw e t k r fun y hy=>h y (L_h _ hy)
  unfold lnR
  split
  ·exact Nat.zero_le _
  ·rename_i h0
   split
   ·exact Nat.zero_le _
   ·have:=h x (L_e ..) (Decidable.not_not.1 h0)
    simp only [L_a,L_b,Nat.mul_add]
    omega
theorem LW (ts:List Tb) (gs:List Fe) (ta ga:Option Addr) (tc gc:Nat) (w:World) (hM:Mv' w ta tc ga gc ts gs) (T:Tabq w):Calls Tryz.prog 24 #[.agg (moC ta ts.length tc ga gs.length gc)] w (Tx (txO (moR ts gs).1 (moR ts gs).2) (moR ts gs).1 w):=by
 have bb:=aj (b0 w) (.cells (moC ta ts.length tc ga gs.length gc) 43);have B0:=Hy bb;have G:=Hy (Blk.new w 43 (moC ta ts.length tc ga gs.length gc));have C1:=Hy (fun (W:World) (b:Below w.heap.size w W)=>QD ts ta tc W (Tbs'.keeps hM.t b) hM.tz hM.tl (T.stays b));have C2:=Hy (fun (W:World) (b:Below w.heap.size w W)=>QE gs ga gc W (Fes.keeps hM.g b) hM.gz hM.gl (T.stays b));have HR:=Hy (show moR ts gs=if (lnR tbE tbT ts).1≠0 then ((lnR tbE tbT ts).1,[]) else if (lnR pfE feT gs).1≠0 then ((lnR pfE feT gs).1,[]) else if 16384<((lnR tbE tbT ts).2++(lnR pfE feT gs).2).length then (2,[]) else (0,(lnR tbE tbT ts).2++(lnR pfE feT gs).2) from rfl);have z1:=yw tbE tbT 4000 ts (fun x _ h=>oG h);have z2:=yw pfE feT 1000000 gs (fun x hx h=>by obtain ⟨y1,y2,y3,y4⟩:=p8 h;exact pE y1 y2 y3 y4 (hM.gz x hx).few);have y1:(lnR tbE tbT ts).2.length≤100000:=by have h1:=hM.tl;have:4001 * ts.length≤4001 * 20:=Nat.mul_le_mul_left _ h1;omega
 have y2:(lnR pfE feT gs).2.length≤30000000:=by have h1:=hM.gl;have:1000001 * gs.length≤1000001 * 20:=Nat.mul_le_mul_left _ h1;omega
 clear bb hM T z1 z2;generalize moR ts gs=MR at *;generalize (lnR tbE tbT ts).1=e1 at *;generalize (lnR pfE feT gs).1=e2 at *;generalize (lnR tbE tbT ts).2=t1 at *;generalize (lnR pfE feT gs).2=t2 at *;unfold moC at *
 go_enter Tryz.func24,Tryz.ntmps24
 go_upto_region 1 with fail
 generalize hw0:(w.alloc (.cells #[.slice ta ts.length tc,.slice ga gs.length gc] 43))=w0 at *;generalize hg2:w.heap.size=g2 at G ⊢;clear hw0 hg2;have a0:=G.o.cell 0;simp only [sz2,sz3] at a0;go_wp2_with fail;refine (C1.o _ B0.o).mono ?_;rintro e w1 ⟨rfl,b1⟩;have B1:=Hy (ak B0.o b1);replace G:=Hy (G.o.keeps b1);clear b1 C1 a0;by_cases h0:e1≠0
 ·have q:(e1 != 0)=true:=by simp [h0]
  have hR:=Hy (show MR=(e1,[]) by rw [HR.o,if_pos h0]);replace h0:=Hy h0;clear HR y1 y2;go_wp2_with fail
  go_ret2
  exact fK (by rw [hR.o,oD h0.o];rfl) (by rw [hR.o]) B1.o
 have h00:e1=0:=Decidable.not_not.1 h0;have q:(e1 != 0)=false:=by rw [h00];rfl
 replace HR:=Hy (HR.o.trans (if_neg h0));rw [jB h00];clear h0;subst h00;have a1:=G.o.cell 1;simp only [sz2,sz3,sz4] at a1;go_wp2_with fail;refine (C2.o _ B1.o).mono ?_;rintro e w2 ⟨rfl,b2⟩;have B2:=Hy (ak B1.o b2);clear b2 C2 a1;by_cases h0:e2≠0
 ·have q5:(e2 != 0)=true:=by simp [h0]
  have hR:=Hy (show MR=(e2,[]) by rw [HR.o,if_pos h0]);replace h0:=Hy h0;clear HR y1 y2;go_wp2_with fail
  go_ret2
  exact fK (by rw [hR.o,oD h0.o];rfl) (by rw [hR.o]) B2.o
 have h00:e2=0:=Decidable.not_not.1 h0;have q5:(e2 != 0)=false:=by rw [h00];rfl
 replace HR:=Hy (HR.o.trans (if_neg h0));rw [jB h00];clear h0;subst h00;have A1:=dz (t1) (t2) (by first | omega | (simp only [L_a];omega) | (simp only [L_b,L_j];omega) | (simp only [L_b,L_a,L_j];omega) | decide) (by first | omega | (simp only [L_a];omega) | (simp only [L_b,L_j];omega) | (simp only [L_b,L_a,L_j];omega) | decide);replace A1:∀ W,(Op.stringOp .add (B8 t1) (B8 t2)).run Tryz.prog W=.ok (.string (B8 (t1++t2))) W:=A1;have hsz:(B8 (t1++t2)).size=(t1++t2).length:=mJ _;generalize t1++t2=SS at *;generalize hss:B8 SS=ss at *;obtain ⟨bl,hbl⟩:∃ bl:Bool,bl=decide (16384<SS.length):=⟨_,rfl⟩;have q2:decide ((16384:Int)<(ss.size:Int))=bl:=by rw [hbl,hsz];exact decide_eq_decide.2 (by omega)
 have q3:decide (16384<ss.size)=bl:=by rw [hbl,hsz]
 replace hbl:=Hy hbl;replace hss:=Hy hss;clear hsz y1 y2;cases bl
 ·have hR:=Hy (show MR=(0,SS) by rw [HR.o,if_neg (by have:=hbl.o;simp at this;omega)]);go_wp2_with fail
  go_ret2
  exact fK (by rw [hR.o,jB rfl,hss.o]) (by rw [hR.o]) B2.o
 have hR:=Hy (show MR=(2,[]) by rw [HR.o,if_pos (by have:=hbl.o;simpa using this)]);go_wp2_with fail
 go_ret2
 exact fK (by rw [hR.o,oD (show ¬ ((2:Int),([]:List UInt8)).1=0 by decide)];rfl) (by rw [hR.o]) B2.o
theorem Nk (ts:List Tb) (gs:List Fe) (ta ga:Option Addr) (tc gc:Nat) (w:World) (hT:Tbs' w ta ts.length tc ts) (hG:Fes w ga gs.length gc gs) (tz:∀ x ∈ ts,x.sz) (gz:∀ x ∈ gs,x.nm.size≤140737488355328∧x.en.size≤140737488355328∧x.ty.of.size≤140737488355328∧x.bo.szs):Calls Tryz.prog 19 #[.agg (moC ta ts.length tc ga gs.length gc)] w fun e w' => ∃ b:Bool,e=.returned (.bool b)∧(b=true→ts.length≤20∧gs.length≤20∧∀ x ∈ gs,x.bo.ar.sz≤3000)∧Below w.heap.size w w':=by
 have bb:=aj (b0 w) (.cells (moC ta ts.length tc ga gs.length gc) 43);have B0:=Hy bb;have G:=Hy (Blk.new w 43 (moC ta ts.length tc ga gs.length gc));have HT:=Hy (Tbs'.keeps hT bb);have HG:=Hy (Fes.keeps hG bb);have TZ:=Hy tz;have GZ:=Hy gz;clear bb hT hG tz gz;unfold moC at *
 go_enter Tryz.func19,Tryz.ntmps19
 go_upto_region 1 with fail
 generalize hw0:(w.alloc (.cells #[.slice ta ts.length tc,.slice ga gs.length gc] 43))=w0 at *;generalize hg2:w.heap.size=g2 at G ⊢;clear hw0 hg2;go_wp2_with fail
 go_loopw [3] (fun vi wr => ∃ j:Nat,vi=.int .i64 (j:Nat)∧Hid (j≤ts.length∧j≤21)∧Hid (Below w0.heap.size w0 wr)) (fun vi _=>30 - (intOf vi).toNat)
 case atStart=>exact ⟨0,rfl,Hy ⟨Nat.zero_le _,Nat.zero_le _⟩,Hy (b0 w0)⟩
 case round =>
  obtain ⟨j,rfl,hj,hb⟩:=hrel;have Bw:=Hy (ak B0.o hb.o);replace G:=Hy (G.o.keeps hb.o);replace HT:=Hy (Tbs'.keeps HT.o hb.o);replace HG:=Hy (Fes.keeps HG.o hb.o);have c0:=G.o.cell 0;simp only [sz2,sz3] at c0;by_cases hlt:j<ts.length∧j<21
  ·obtain ⟨hlt,h21⟩:=hlt;have q1:decide ((j:Int)<(ts.length:Int))=true:=dT (by omega);have q2:decide ((j:Int)<21)=true:=dT (by omega);have q2':decide (j<21)=true:=dT h21;have i1:(j:Int)<(ts.length:Int):=by omega
   have f4:=Hy (aP (j:=j) (by omega));obtain ⟨bk,off,rfl,hC⟩:=HT.o.hat.resolve_left (by omega);obtain ⟨cs,hcs,R1,xa,xc,rfl,F1⟩:=hC j hlt;replace R1:=Hy R1;have hxz:=TZ.o _ (List.getElem_mem hlt);have CT:=Hy (Ck ts[j] xa xc wr hxz F1);have hlt2:=Hy hlt;have h22:=Hy h21;clear hC hj hcs hxz F1;generalize ts[j]=x at *;go_wp2_with (refine bS gF dec.uy48 rfl (.tmp 19) rfl rfl bk (off+j * 4) (tbC x xa xc) rfl R1.o rfl ?_);refine CT.o.mono ?_;rintro e w1 ⟨bq,rfl,-,b1⟩;have B1:=Hy (ak Bw.o b1);have hb1:=Hy (ak hb.o b1);clear b1 CT c0;cases bq
   ·go_wp2_with fail;go_ret;exact ⟨false,rfl,fun h=>(by cases h),B1.o⟩
   go_wp2_with fail;exact ⟨⟨j+1,rfl,Hy ⟨hlt2.o,by have:=h22.o;omega⟩,hb1⟩,by have:=h22.o;simp only [intOf];omega⟩
  have hX:(decide ((j:Int)<(ts.length:Int)) && decide ((j:Int)<21))=false:=by rw [Bool.and_eq_false_iff,decide_eq_false_iff_not,decide_eq_false_iff_not];omega
  by_cases hl2:j<ts.length
  ·have q1:decide ((j:Int)<(ts.length:Int))=true:=dT (by omega);have q2:decide ((j:Int)<21)=false:=dF (by omega);have q2':decide (j<21)=false:=dF (by omega);have hL:=Hy (show 21≤ts.length by omega);replace hlt:=Hy hlt;clear hX;have hl3:=Hy hl2;clear hl2;go_wp2_with fail
   go_loopw [4] (fun vi wx => ∃ i:Nat,vi=.int .i64 (i:Nat)∧Hid (i≤gs.length∧i≤21)∧Hid (∀ x ∈ gs.take i,x.bo.ar.sz≤3000)∧Hid (Below wr.heap.size wr wx)) (fun vi _=>30 - (intOf vi).toNat)
   case atStart=>exact ⟨0,rfl,Hy ⟨Nat.zero_le _,Nat.zero_le _⟩,Hy (fun x hx=>by cases hx),Hy (b0 wr)⟩
   case round =>
    obtain ⟨i,rfl,hi,hfz,hd⟩:=hrel;replace Bw:=Hy (ak Bw.o hd.o);replace G:=Hy (G.o.keeps hd.o);replace HG:=Hy (Fes.keeps HG.o hd.o);clear c0 q1 q2 q2';have c0:=G.o.cell 0;simp only [sz2,sz3] at c0;have c1:=G.o.cell 1;simp only [sz2,sz3,sz4] at c1;by_cases hlu:i<gs.length∧i<21
    ·obtain ⟨hlu,h21⟩:=hlu;have q1:decide ((i:Int)<(gs.length:Int))=true:=dT (by omega);have q2:decide ((i:Int)<21)=true:=dT (by omega);have q2':decide (i<21)=true:=dT h21;have i1:(i:Int)<(gs.length:Int):=by omega
     have f4:=Hy (aP (j:=i) (by omega));obtain ⟨bk,off,rfl,hC⟩:=HG.o.hat.resolve_left (by omega);obtain ⟨cs,hcs,R1,xa,xc,va,vc,wa,wc,rfl,V1,E1⟩:=hC i hlu;replace R1:=Hy R1;have hxz:=GZ.o _ (List.getElem_mem hlu);have CT:=Hy (pq gs[i] xa va wa xc vc wc _ hxz.1 hxz.2.1 hxz.2.2.1 hxz.2.2.2 V1 E1);have hlt2:=Hy hlu;have h22:=Hy h21;have hTk:=Hy (fun (h:gs[i].bo.ar.sz≤3000)=>(show ∀ x ∈ gs.take (i+1),x.bo.ar.sz≤3000 from fun x hm=>by
       rw [List.take_succ_eq_append_getElem hlu] at hm
       rcases List.mem_append.1 hm with hm | hm
       · exact hfz.o x hm
       · rw [List.mem_singleton] at hm;rw [hm];exact h))
     clear hC hi hcs hxz V1 E1 hfz c0;generalize gs[i]=x at *;go_wp2_with (refine bS iL dec.uy51 rfl (.tmp 37) rfl rfl bk (off+i * 18) (feC x xa xc va vc wa wc) rfl R1.o rfl ?_);refine CT.o.mono ?_;rintro e w1 ⟨bq,rfl,hbq,b1⟩;have B1:=Hy (ak Bw.o b1);have hb1:=Hy (ak hd.o b1);clear b1 CT c1;cases bq
     ·go_wp2_with fail;go_ret;exact ⟨false,rfl,fun h=>(by cases h),B1.o⟩
     have hk:=Hy (hTk.o (by have:=hbq rfl;omega));clear hTk hbq;go_wp2_with fail;exact ⟨⟨i+1,rfl,Hy ⟨hlt2.o,by have:=h22.o;omega⟩,hk,hb1⟩,by have:=h22.o;simp only [intOf];omega⟩
    by_cases hl4:i<gs.length
    ·have q1:decide ((i:Int)<(gs.length:Int))=true:=dT (by omega);have q2:decide ((i:Int)<21)=false:=dF (by omega);have q2':decide (i<21)=false:=dF (by omega);replace hlu:=Hy hlu;have hl5:=Hy hl4;clear hl4;have p1:decide ((ts.length:Int)≤20)=false:=dF (by have:=hL.o;omega);have p1':decide (ts.length≤20)=false:=dF (by have:=hL.o;omega);go_wp2_with fail;go_ret;exact ⟨false,rfl,fun h=>(by cases h),Bw.o⟩
    have q1:decide ((i:Int)<(gs.length:Int))=false:=dF (by omega);replace hlu:=Hy hlu;have hl5:=Hy hl4;clear hl4;have p1:decide ((ts.length:Int)≤20)=false:=dF (by have:=hL.o;omega);have p1':decide (ts.length≤20)=false:=dF (by have:=hL.o;omega);go_wp2_with fail;go_ret;exact ⟨false,rfl,fun h=>(by cases h),Bw.o⟩
  have q1:decide ((j:Int)<(ts.length:Int))=false:=dF (by omega);replace hlt:=Hy hlt;clear hX;have hl3:=Hy hl2;clear hl2;go_wp2_with fail
  go_loopw [4] (fun vi wx => ∃ i:Nat,vi=.int .i64 (i:Nat)∧Hid (i≤gs.length∧i≤21)∧Hid (∀ x ∈ gs.take i,x.bo.ar.sz≤3000)∧Hid (Below wr.heap.size wr wx)) (fun vi _=>30 - (intOf vi).toNat)
  case atStart=>exact ⟨0,rfl,Hy ⟨Nat.zero_le _,Nat.zero_le _⟩,Hy (fun x hx=>by cases hx),Hy (b0 wr)⟩
  case round =>
   obtain ⟨i,rfl,hi,hfz,hd⟩:=hrel;replace Bw:=Hy (ak Bw.o hd.o);replace G:=Hy (G.o.keeps hd.o);replace HG:=Hy (Fes.keeps HG.o hd.o);clear c0 q1;have c0:=G.o.cell 0;simp only [sz2,sz3] at c0;have c1:=G.o.cell 1;simp only [sz2,sz3,sz4] at c1;by_cases hlu:i<gs.length∧i<21
   ·obtain ⟨hlu,h21⟩:=hlu;have q1:decide ((i:Int)<(gs.length:Int))=true:=dT (by omega);have q2:decide ((i:Int)<21)=true:=dT (by omega);have q2':decide (i<21)=true:=dT h21;have i1:(i:Int)<(gs.length:Int):=by omega
    have f4:=Hy (aP (j:=i) (by omega));obtain ⟨bk,off,rfl,hC⟩:=HG.o.hat.resolve_left (by omega);obtain ⟨cs,hcs,R1,xa,xc,va,vc,wa,wc,rfl,V1,E1⟩:=hC i hlu;replace R1:=Hy R1;have hxz:=GZ.o _ (List.getElem_mem hlu);have CT:=Hy (pq gs[i] xa va wa xc vc wc _ hxz.1 hxz.2.1 hxz.2.2.1 hxz.2.2.2 V1 E1);have hlt2:=Hy hlu;have h22:=Hy h21;have hTk:=Hy (fun (h:gs[i].bo.ar.sz≤3000)=>(show ∀ x ∈ gs.take (i+1),x.bo.ar.sz≤3000 from fun x hm=>by
      rw [List.take_succ_eq_append_getElem hlu] at hm
      rcases List.mem_append.1 hm with hm | hm
      · exact hfz.o x hm
      · rw [List.mem_singleton] at hm;rw [hm];exact h))
    clear hC hi hcs hxz V1 E1 hfz c0;generalize gs[i]=x at *;go_wp2_with (refine bS iL dec.uy51 rfl (.tmp 37) rfl rfl bk (off+i * 18) (feC x xa xc va vc wa wc) rfl R1.o rfl ?_);refine CT.o.mono ?_;rintro e w1 ⟨bq,rfl,hbq,b1⟩;have B1:=Hy (ak Bw.o b1);have hb1:=Hy (ak hd.o b1);clear b1 CT c1;cases bq
    ·go_wp2_with fail;go_ret;exact ⟨false,rfl,fun h=>(by cases h),B1.o⟩
    have hk:=Hy (hTk.o (by have:=hbq rfl;omega));clear hTk hbq;go_wp2_with fail;exact ⟨⟨i+1,rfl,Hy ⟨hlt2.o,by have:=h22.o;omega⟩,hk,hb1⟩,by have:=h22.o;simp only [intOf];omega⟩
   by_cases hl4:i<gs.length
   ·have q1:decide ((i:Int)<(gs.length:Int))=true:=dT (by omega);have q2:decide ((i:Int)<21)=false:=dF (by omega);have q2':decide (i<21)=false:=dF (by omega);replace hlu:=Hy hlu;have hl5:=Hy hl4;clear hl4;by_cases ht20:ts.length≤20
    ·have p1:decide ((ts.length:Int)≤20)=true:=dT (by omega);have p1':decide (ts.length≤20)=true:=dT ht20;have HT20:=Hy ht20;clear ht20;by_cases hg20:gs.length≤20
     ·have p2:decide ((gs.length:Int)≤20)=true:=dT (by omega);have p2':decide (gs.length≤20)=true:=dT hg20;have HG20:=Hy hg20;clear hg20;go_wp2_with fail;go_ret;exact ⟨true,rfl,fun _=>⟨HT20.o,HG20.o,fun x hx=>hfz.o x (by rw [L_q (by have:=hlu.o;have:=HG20.o;omega)];exact hx)⟩,Bw.o⟩
     have p2:decide ((gs.length:Int)≤20)=false:=dF (by omega);have p2':decide (gs.length≤20)=false:=dF hg20;replace hg20:=Hy hg20;go_wp2_with fail;go_ret;exact ⟨false,rfl,fun h=>(by cases h),Bw.o⟩
    have p1:decide ((ts.length:Int)≤20)=false:=dF (by omega);have p1':decide (ts.length≤20)=false:=dF ht20;replace ht20:=Hy ht20;go_wp2_with fail;go_ret;exact ⟨false,rfl,fun h=>(by cases h),Bw.o⟩
   have q1:decide ((i:Int)<(gs.length:Int))=false:=dF (by omega);replace hlu:=Hy hlu;have hl5:=Hy hl4;clear hl4;by_cases ht20:ts.length≤20
   ·have p1:decide ((ts.length:Int)≤20)=true:=dT (by omega);have p1':decide (ts.length≤20)=true:=dT ht20;have HT20:=Hy ht20;clear ht20;by_cases hg20:gs.length≤20
    ·have p2:decide ((gs.length:Int)≤20)=true:=dT (by omega);have p2':decide (gs.length≤20)=true:=dT hg20;have HG20:=Hy hg20;clear hg20;go_wp2_with fail;go_ret;exact ⟨true,rfl,fun _=>⟨HT20.o,HG20.o,fun x hx=>hfz.o x (by rw [L_q (by have:=hlu.o;have:=HG20.o;omega)];exact hx)⟩,Bw.o⟩
    have p2:decide ((gs.length:Int)≤20)=false:=dF (by omega);have p2':decide (gs.length≤20)=false:=dF hg20;replace hg20:=Hy hg20;go_wp2_with fail;go_ret;exact ⟨false,rfl,fun h=>(by cases h),Bw.o⟩
   have p1:decide ((ts.length:Int)≤20)=false:=dF (by omega);have p1':decide (ts.length≤20)=false:=dF ht20;replace ht20:=Hy ht20;go_wp2_with fail;go_ret;exact ⟨false,rfl,fun h=>(by cases h),Bw.o⟩
def sxF:Fo→Fo→Bool
 | .nil,.nil=>true
 | .cons h ar r,.cons g br s=>(flR h g && (decide (ar.len=br.len) && sxF ar br)) && sxF r s
 | _,_=>false
def sxE (x y:Ex):Bool:=flR x.h y.h && (decide (x.ar.len=y.ar.len) && sxF x.ar y.ar)
theorem FV {h g:Hd} : flR h g=true↔h=g:=by
 unfold flR;rw [L_d,L_c];constructor
 ·rintro ⟨a,b⟩;exact kZ a b
 rintro rfl;exact ⟨rfl,by unfold same;simp⟩
theorem xM:∀ F G:Fo,sxF F G=true↔F=G
 | .nil,.nil=>⟨fun _=>rfl,fun _=>rfl⟩
 | .nil,.cons a b c=>⟨fun h=>by simp [sxF] at h,fun h=>by cases h⟩
 | .cons a b c,.nil=>⟨fun h=>by simp [sxF] at h,fun h=>by cases h⟩
 | .cons h ar r,.cons g br s=>by
  simp only [sxF,L_d,L_c]
  rw [FV,xM ar br,xM r s]
  constructor
  ·rintro ⟨⟨rfl,_,rfl⟩,rfl⟩
   rfl
  ·intro e
   cases e
   exact ⟨⟨rfl,rfl,rfl⟩,rfl⟩
theorem OZ {x y:Ex} : sxE x y=true↔x=y:=by
 unfold sxE;rw [L_d,L_d,L_c,FV,xM];constructor
 ·rintro ⟨h,_,e⟩;cases x;cases y;simp only at h e;subst h e;rfl
 rintro rfl;exact ⟨rfl,rfl,rfl⟩
theorem Sy {F G:Fo} {j:Nat} (hF:j<F.len) (hG:j<G.len):sxF (F.drop j) (G.drop j)=(sxE (F.nth j) (G.nth j) && sxF (F.drop (j+1)) (G.drop (j+1))):=by
 rw [jS F j hF,jS G j hG];rfl
theorem GI (n:Nat) (IH:∀ (x y:Ex) (ua aa ub ab:Option Addr) (uc ac ud ad:Nat) (w:World),x.ar.sz<n→Ec w x ua uc aa ac→Ec w y ub ud ab ad→Calls Tryz.prog 28 #[.agg (exC x.h x.ar.len ua uc aa ac),.agg (exC y.h y.ar.len ub ud ab ad)] w (Bl (sxE x y) w))
    (x y:Ex) (ua aa ub ab:Option Addr) (uc ac ud ad:Nat) (w:World) (hz:x.ar.sz=n) (hA:Ec w x ua uc aa ac) (hB:Ec w y ub ud ab ad):Calls Tryz.prog 28 #[.agg (exC x.h x.ar.len ua uc aa ac),.agg (exC y.h y.ar.len ub ud ab ad)] w (Bl (sxE x y) w):=by
 have bb:=bB w (.cells (exC x.h x.ar.len ua uc aa ac) 29) (.cells (exC y.h y.ar.len ub ud ab ad) 29);have B0:=Hy bb;have GG:=eH w (exC x.h x.ar.len ua uc aa ac) (exC y.h y.ar.len ub ud ab ad) 29 29;have G:=Hy GG.1;have H:=Hy GG.2;have HA:=Hy (hA.keeps bb);have HB:=Hy (hB.keeps bb);have IH':=Hy IH;have HZ:=Hy hz;have CF:=Hy (fun (W:World) (S:Ec W x ua uc aa ac) (R:Ec W y ub ud ab ad)=>Nb x.h y.h x.ar.len y.ar.len ua ub aa ab uc ud ac ad W S.us R.us);have hmax:=Hy (show x.ar.len≤9223372036854775807 from by have:=hA.ar.hcap;have:=hA.ar.hmax;omega);have hE:=Hy (show sxE x y=(flR x.h y.h && (decide (x.ar.len=y.ar.len) && sxF x.ar y.ar)) from rfl);clear bb hA hB IH hz GG
 go_enter Tryz.func28,Tryz.ntmps28
 go_upto_region 1 with fail
 generalize hw0:((w.alloc (.cells (exC x.h x.ar.len ua uc aa ac) 29)).alloc (.cells (exC y.h y.ar.len ub ud ab ad) 29))=w0 at *;generalize hg3:w.heap.size+1=g3 at H ⊢;generalize hg2:w.heap.size=g2 at G ⊢;clear hw0 hg2 hg3;generalize flR x.h y.h=R at *;go_wp2_with (first | (refine aG aN dec.uy29 rfl (.tmp 2) rfl rfl _ _ _ rfl G.o rfl ?_) | (refine aG aN dec.uy29 rfl (.tmp 3) rfl rfl _ _ _ rfl H.o rfl ?_));refine (CF.o _ HA.o HB.o).mono ?_;rintro e w1 ⟨rfl,b1⟩;have B1:=Hy (ak B0.o b1);replace G:=Hy (G.o.keeps b1);replace H:=Hy (H.o.keeps b1);replace HA:=Hy (HA.o.keeps b1);replace HB:=Hy (HB.o.keeps b1);clear b1;clear CF;have c11:=G.o.cell 11;have d11:=H.o.cell 11;simp only [exC,sz2,sz3,sz4] at c11 d11;cases R
 ·go_wp2_with fail;go_ret;exact aL (by rw [hE.o];rfl) B1.o
 by_cases hn:x.ar.len=y.ar.len
 ·have q2:((x.ar.len:Int) != (y.ar.len:Int))=false:=by simp [hn]
  have hE2:sxE x y=sxF x.ar y.ar:=by rw [hE.o,dT hn];rfl
  replace hE2:=Hy hE2;replace hn:=Hy hn;clear hE;go_wp2_with fail
  go_loopw [5] (fun vi wr => ∃ j:Nat,vi=.int .i64 (j:Nat)∧Hid (j≤x.ar.len)∧Hid (sxF x.ar y.ar=sxF (x.ar.drop j) (y.ar.drop j))∧Hid (Below w1.heap.size w1 wr)) (fun vi _=>x.ar.len - (intOf vi).toNat)
  case atStart=>exact ⟨0,rfl,Hy zl,Hy (by rw [drop_zero,drop_zero]),Hy (b0 w1)⟩
  case round =>
   clear c11 d11;obtain ⟨j,rfl,hj,hR,hb⟩:=hrel;have Bw:=Hy (ak B1.o hb.o);replace G:=Hy (G.o.keeps hb.o);replace H:=Hy (H.o.keeps hb.o);replace HA:=Hy (HA.o.keeps hb.o);replace HB:=Hy (HB.o.keeps hb.o);have c11:=G.o.cell 11;simp only [exC,sz2,sz3,sz4] at c11;by_cases hlt:j<x.ar.len
   ·have hlb:j<y.ar.len:=by have:=hn.o;omega
    have q1:decide ((j:Int)<(x.ar.len:Int))=true:=dT (by omega);have i1:(j:Int)<(x.ar.len:Int):=by omega
    have i2:(j:Int)<(y.ar.len:Int):=by omega
    have f4:=Hy (aP (j:=j) (by have:=hmax.o;omega));obtain ⟨bk,off,va,va2,vc,vc2,rfl,R1,E1⟩:=HA.o.ar.at hlt;obtain ⟨bl,ofg,wa,wa2,wc,wc2,rfl,R2,E2⟩:=HB.o.ar.at hlb;replace R1:=Hy R1;replace E1:=Hy E1;replace R2:=Hy R2;replace E2:=Hy E2;have hR2:=Hy (hR.o.trans (Sy hlt hlb));have hsz:=Hy (kE x.ar j hlt);have hlt2:=Hy hlt;clear HA HB hj hlb;generalize hy:x.ar.nth j=p at *;generalize hz:y.ar.nth j=q at *;clear hy hz
    go_upto_region 6 with fail
    clear c11
    go_cut [37] from 26 to 37 (fun v wx=>v=.bool (!sxE p q)∧Hid (Below wr.heap.size wr wx))
    case first =>
     refine wp_region_held_drew (S:=fun w' => Below wr.heap.size wr w') (by kernel_rfl) (b0 wr).drew (fun hH=>?_);refine au 0 26 ?_ hH (fun w' hS=>?_) ?_;rotate_left;(·go_simp;try rfl);simp only [sz];refine au 1 27 ?_ hH (fun w' hS=>?_) ?_;rotate_left;(·have m11:=(G.o.keeps hS).cell 11;simp only [exC,sz2,sz3,sz4] at m11;go_simp;try rfl);simp only [sz];refine au 2 28 ?_ hH (fun w' hS=>?_) ?_;rotate_left;(·go_simp;try rfl);simp only [sz];refine au 3 29 ?_ hH (fun w' hS=>?_) ?_;rotate_left;(·go_simp;try rfl);simp only [sz];refine bg 4 30 (.agg (exC p.h p.ar.len va va2 vc vc2)) rfl (by kernel_rfl) rfl (fun _ _ _ h=>h) rfl hH (fun w' hS=>dn aN dec.uy29 rfl (.tmp 29) rfl bk (off+j * 12) (exC p.h p.ar.len va va2 vc vc2) rfl (aJ R1.o hS) rfl) ?_;simp only [sz];refine au 5 31 ?_ hH (fun w' hS=>?_) ?_;rotate_left;(·go_simp;try rfl);simp only [sz];refine au 6 32 ?_ hH (fun w' hS=>?_) ?_;rotate_left;(·have m11:=(H.o.keeps hS).cell 11;simp only [exC,sz2,sz3,sz4] at m11;go_simp;try rfl);simp only [sz];refine au 7 33 ?_ hH (fun w' hS=>?_) ?_;rotate_left;(·go_simp;try rfl);simp only [sz];refine au 8 34 ?_ hH (fun w' hS=>?_) ?_;rotate_left;(·go_simp;try rfl);simp only [sz];refine bg 9 35 (.agg (exC q.h q.ar.len wa wa2 wc wc2)) rfl (by kernel_rfl) rfl (fun _ _ _ h=>h) rfl hH (fun w' hS=>dn aN dec.uy29 rfl (.tmp 34) rfl bl (ofg+j * 12) (exC q.h q.ar.len wa wa2 wc wc2) rfl (aJ R2.o hS) rfl) ?_;simp only [sz];generalize wr.drew=yy at *;refine aA 10 (fun K hK=>?_);go_simp;refine (IH'.o p q va vc wa wc va2 vc2 wa2 wc2 _ (by have:=hsz.o;have:=HZ.o;omega) (E1.o.keeps hH) (E2.o.keeps hH)).mono ?_;rintro e y71 ⟨rfl,b71⟩;skip;refine hK.o _ _ (ak hH b71) (fun hH=>?_);clear hK K;clear b71;refine au 11 37 ?_ hH (fun w' hS=>?_) ?_;rotate_left;(·go_simp;try rfl);simp only [sz];refine wpAnyH_done (by kernel_rfl) ?_ _;go_wp2_with fail
     go_meet
     case rel=>exact ⟨rfl,Hy hH⟩
    case rest =>
     obtain ⟨rfl,BW⟩:=hcut;have Bx:=Hy (ak Bw.o BW.o);have hb6:=Hy (ak hb.o BW.o);clear BW;generalize sxE p q=fy at *;cases fy
     ·go_wp2_with fail;go_ret;exact aL (by rw [hE2.o,hR2.o,L_k]) Bx.o
     go_wp2_with fail;exact ⟨⟨j+1,congrArg (Value.int .i64) f4.o,hlt2,Hy (hR2.o.trans (L_l _)),hb6⟩,aU hlt2.o f4.o⟩
   have q1:decide ((j:Int)<(x.ar.len:Int))=false:=dF (by omega);have hT:=Hy (show sxF x.ar y.ar=true from by rw [hR.o,jo _ _ (by omega),jo _ _ (by have:=hn.o;omega)];rfl);clear hR;go_wp2_with fail;go_ret;exact aL (by rw [hE2.o,hT.o]) Bw.o
 have q2:((x.ar.len:Int) != (y.ar.len:Int))=true:=by simp;omega
 have q3:=dF hn;replace hn:=Hy hn;go_wp2_with fail;go_ret;exact aL (by rw [hE.o,q3];rfl) B1.o
theorem Jj (x y:Ex) (ua aa ub ab:Option Addr) (uc ac ud ad:Nat) (w:World) (hA:Ec w x ua uc aa ac) (hB:Ec w y ub ud ab ad):Calls Tryz.prog 28 #[.agg (exC x.h x.ar.len ua uc aa ac),.agg (exC y.h y.ar.len ub ud ab ad)] w (Bl (sxE x y) w):=by
 have key:∀ n,∀ (x y:Ex) (ua aa ub ab:Option Addr) (uc ac ud ad:Nat) (w:World),x.ar.sz<n→Ec w x ua uc aa ac→Ec w y ub ud ab ad→Calls Tryz.prog 28 #[.agg (exC x.h x.ar.len ua uc aa ac),.agg (exC y.h y.ar.len ub ud ab ad)] w (Bl (sxE x y) w):=by
  intro n
  induction n with
  | zero=>intro x y ua aa ub ab uc ac ud ad w h;exact absurd h (Nat.not_lt_zero _)
  | succ n ih =>
    intro x y ua aa ub ab uc ac ud ad w h hA hB
    exact GI x.ar.sz (fun x' y' ua' aa' ub' ab' uc' ac' ud' ad' w' h' => ih x' y' ua' aa' ub' ab' uc' ac' ud' ad' w' (by omega)) x y ua aa ub ab uc ac ud ad w rfl hA hB
 exact key _ x y ua aa ub ab uc ac ud ad w ls hA hB
end ch
end Go.Proofs.YtbahfelnbofjjaaGreatDoor
