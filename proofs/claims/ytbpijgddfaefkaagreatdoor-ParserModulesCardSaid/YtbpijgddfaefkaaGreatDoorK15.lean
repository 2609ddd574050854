/-
  attempt: a function is called, and the problem that it reports is caught; The loop over a source, as plain data; lexer.Tokens.
-/
import Derived.Recover
import Derived.Test.YtbpijgddfaefkaaGreatDoorK14
set_option maxRecDepth 100000
set_option maxHeartbeats 16000000
namespace Go.Proofs.YtbpijgddfaefkaaGreatDoor
namespace pa
open Go.RowKit dec
theorem sN:(Tryz.prog.info? 72).map (·.size)=some 2:=by kernel_rfl
theorem gW {T:TypeId} {n:Nat} (hi:(Tryz.prog.info? T).map (·.size)=some n) (x y:Operand) {o:Oper} {a:Act} {w:World} {K:Act→World→Prop} {Q:Exit→Act→World→Prop} (ho:o.op=.store T x y)
  (g:Nat) (T':TypeId) (cells old:Array Value) (hx:a.eval x=.pointer (some ⟨g,0,none⟩)) (hy:a.eval y=.agg cells) (hB:Blk w g T' old) (hs:old.size=n) (hc:cells.size=n) (h1:cells.all (·.oneCell')=true)
  (h:∀ w',Blk w' g T' cells→St g w w'→K (a.put o.dst undef) w'):o.wp Tryz.prog a w K Q :=
 wp_store_row T x y ho g cells hx hy T' old hB (by rw [hc];exact hi) (by omega) h1 (h _ (jY hB cells) (lC w g cells))
theorem Il (v:Value) (w:World):(binOp .neq 20 (.iface 72 v) .nilIface).run Tryz.prog w=.ok (.bool true) w:=by kernel_rfl
theorem zI (v:Value) (w:World):(Instr.typeAssert (.iface 72 v) 20 72 false).run Tryz.prog w=.ok v w:=by kernel_rfl
theorem Ik (w:World):(binOp .neq 20 .nilIface .nilIface).run Tryz.prog w=.ok (.bool false) w:=by kernel_rfl
theorem MH (g:Nat) (a c:Int) (w:World) (hB:Blk w g 72 #[.int .i64 0,.int .i64 0]) :
    CallsD Tryz.prog 72 #[.pointer (some ⟨g,0,none⟩)] (.panicking [{ v:=.iface 72 (.agg #[.int .i64 a,.int .i64 c]),recovered:=false }]) w fun e u' w' =>
      e=.returned (.tuple #[])∧u'=.panicking [{ v:=.iface 72 (.agg #[.int .i64 a,.int .i64 c]),recovered:=true }]∧w'=(w.setCell ⟨g,0,none⟩ (.int .i64 a)).setCell ⟨g,1,none⟩ (.int .i64 c):=by
 have c0:=hB.cell 0;have c1:=hB.cell 1;have z0:=hB.free 0;have z1:=hB.free 1;simp only [sz2,sz3,sz4] at c0 c1;refine callsD_of_wpS Tryz.func72 rfl fun c₀ cs hu=>?_;apply wpS_seq;apply wpS_region;simp [wpOpsS,go_sem,recoverD,hu,Tryz.ntmps72,Exit.thenS];apply wpS_seq;apply wpS_region;simp [wpOpsS,go_sem,Exit.thenS,Il];refine wpS_cond (t:=true) (by simp [Act.eval]) ?_;simp only [if_true];apply wpS_region;simp [wpOpsS,go_sem,zI,c0,c1,z0,z1,bodyPostS,results,Tryz.results72]
theorem OE (g:Nat) (w:World) :
    CallsD Tryz.prog 72 #[.pointer (some ⟨g,0,none⟩)] .returning w fun e u' w' => e=.returned (.tuple #[])∧u'=.returning∧w'=w:=by
 refine callsD_of_wpS Tryz.func72 rfl fun c₀ cs hu=>?_;apply wpS_seq;apply wpS_region;simp [wpOpsS,go_sem,recoverD,hu,Tryz.ntmps72,Exit.thenS];apply wpS_seq;apply wpS_region;simp [wpOpsS,go_sem,Exit.thenS,Ik];refine wpS_cond (t:=false) (by simp [Act.eval]) ?_;simp only [Bool.false_eq_true,if_false];refine wpS_of_wp (wp_skip ?_);cases c₀
 simp_all [bodyPostS,results,Tryz.results72]
theorem nX (M:FuncId) (caps:Array Value) (w:World) (Y:World→Prop)
    (hY:∀ w',Y w'→Blk w' w.heap.size 72 #[.int .i64 0,.int .i64 0])
    (hc:Calls Tryz.prog M caps (w.alloc (.cells #[.int .i64 0,.int .i64 0] 72)) (fun e w' => e=.returned (.tuple #[])∧Y w')) (hM:∀ (w:World),(callFunc M caps).run Tryz.prog w=.ok (.enter M caps) w) :
    Calls Tryz.prog 25 #[.func (.func M) #[] caps] w fun e w'' => ∃ w',Y w'∧St w.heap.size w' w''∧e=.returned (.agg #[.int .i64 0,.int .i64 0]):=by
 have hmf:∀ (fn:Fn) (first cap:Array Value) (w:World),(Instr.makeFunc fn first cap).run Tryz.prog w=.ok (.func fn first cap) w:=fun _ _ _ _=>rfl;have HC:=Hy hc;have HY:=Hy hY;clear hc hY
 go_enter_defers Tryz.func25,Tryz.ntmps25
 go_wp2_with fail;refine HC.o.mono ?_;rintro e w3 ⟨rfl,y3⟩;have B3:=Hy (HY.o w3 y3);replace y3:=Hy y3;go_wp2_with (first | (refine aH sN Tryz.underlying72 rfl (.tmp 2) rfl rfl _ _ _ rfl B3.o rfl ?_) | (refine aA sN (.tmp 2) (.tmp 6) rfl rfl _ _ _ _ rfl rfl B3.o rfl rfl (by simp [Value.oneCell']) ?_;intro w9 hb9 hs9));refine leaves_cons (f:=72) (args:=#[.pointer (some ⟨w.heap.size,0,none⟩)]) (by simp) (by simp [go_sem]) ?_;refine (OE w.heap.size _).mono ?_;rintro e u' w'' ⟨rfl,rfl,rfl⟩;have c0:w''.cell? ⟨w.heap.size,0,none⟩=some (.int .i64 0):=hb9.cell 0;have c1:w''.cell? ⟨w.heap.size,1,none⟩=some (.int .i64 0):=hb9.cell 1;simp [Leaves,settle,results,Tryz.results25,go_sem,c0,c1];exact ⟨w3,y3.o,hs9⟩
theorem nY (M:FuncId) (caps:Array Value) (w:World) (a c:Int) (Y:World→Prop)
    (hY:∀ w',Y w'→Blk w' w.heap.size 72 #[.int .i64 0,.int .i64 0])
    (hc:Calls Tryz.prog M caps (w.alloc (.cells #[.int .i64 0,.int .i64 0] 72)) (fun e w' => e=thr a c∧Y w')) (hM:∀ (w:World),(callFunc M caps).run Tryz.prog w=.ok (.enter M caps) w) :
    Calls Tryz.prog 25 #[.func (.func M) #[] caps] w fun e w'' => ∃ w',Y w'∧St w.heap.size w' w''∧e=.returned (.agg #[.int .i64 a,.int .i64 c]):=by
 have hmf:∀ (fn:Fn) (first cap:Array Value) (w:World),(Instr.makeFunc fn first cap).run Tryz.prog w=.ok (.func fn first cap) w:=fun _ _ _ _=>rfl;have HC:=Hy hc;have HY:=Hy hY;clear hc hY
 go_enter_defers Tryz.func25,Tryz.ntmps25
 go_wp2_with fail;refine HC.o.mono ?_;rintro e w3 ⟨rfl,y3⟩;have B3:=Hy (HY.o w3 y3);replace y3:=Hy y3;unfold thr;go_wp2_with fail;refine leaves_cons (f:=72) (args:=#[.pointer (some ⟨w.heap.size,0,none⟩)]) (by simp) (by simp [go_sem]) ?_;refine (MH w.heap.size a c _ B3.o).mono ?_;rintro e u' w'' ⟨rfl,rfl,rfl⟩;have k0:=B3.o.setCell 0 (.int .i64 a);have k1:=k0.1.setCell 1 (.int .i64 c);have c0:((w3.setCell ⟨w.heap.size,0,none⟩ (.int .i64 a)).setCell ⟨w.heap.size,1,none⟩ (.int .i64 c)).cell? ⟨w.heap.size,0,none⟩=some (.int .i64 a):=k1.1.cell 0;have c1:((w3.setCell ⟨w.heap.size,0,none⟩ (.int .i64 a)).setCell ⟨w.heap.size,1,none⟩ (.int .i64 c)).cell? ⟨w.heap.size,1,none⟩=some (.int .i64 c):=k1.1.cell 1;have S9:=St.trans k0.2 k1.2;generalize (w3.setCell ⟨w.heap.size,0,none⟩ (.int .i64 a)).setCell ⟨w.heap.size,1,none⟩ (.int .i64 c)=w9 at *;simp [Leaves,settle,results,Tryz.results25,go_sem,c0,c1];exact ⟨w3,y3.o,S9⟩
end pa
section
open Go.RowKit dec
def lS (s:ByteArray):Tk:=⟨6,.empty,(s.size:Nat)⟩
def dR (s:ByteArray):Int:=if 16384<s.size then 2 else 0
def aW (s:ByteArray):List Tk:=if 16384<s.size then [] else (lxs 0 false s.data.toList).1++[lS s]
def dn (s:ByteArray):List Pb:=if 16384<s.size then [] else (lxs 0 false s.data.toList).2.take 32
def LI (s:ByteArray) (a:Nat) (fe:Int) (ts:List Tk) (bs:List Pb):Prop :=
 ∃ (p:Nat) (f:Bool),a=p+sk false (s.data.toList.drop p)∧a≤s.size∧((f=true∧fe=(p:Nat))∨(f=false∧fe<(p:Nat)))∧ts++(lxs p f (s.data.toList.drop p)).1=(lxs 0 false s.data.toList).1∧∃ P,bs=P.take 32∧P++(lxs p f (s.data.toList.drop p)).2=(lxs 0 false s.data.toList).2
theorem uW (s:ByteArray) {p:Nat} (h:p≤s.size):p+sk false (s.data.toList.drop p)≤s.size:=by
 have:=Cj false (s.data.toList.drop p);rw [List.length_drop,aM] at this;omega
theorem LI.start (s:ByteArray):LI s (0+sk false (s.data.toList.drop 0)) (-1) [] [] :=
 ⟨0,false,rfl,uW s zl,.inr ⟨rfl,by omega⟩,rfl,[],rfl,rfl⟩
theorem LI.over {s:ByteArray} {a:Nat} {fe:Int} {ts:List Tk} {bs:List Pb} (h:LI s a fe ts bs) (ha:¬ a<s.size):(lxs 0 false s.data.toList).1=ts∧(lxs 0 false s.data.toList).2.take 32=bs:=by
 obtain ⟨p,f,h1,h2,h3,h4,P,h5,h6⟩:=h;have hd:(s.data.toList.drop p).drop (sk false (s.data.toList.drop p))=[]:=by
  rw [List.drop_drop,← h1];exact List.drop_eq_nil_of_le (by rw [aM];omega)
 rw [nJ hd] at h4 h6;rw [List.append_nil] at h4 h6;exact ⟨h4.symm,by rw [← h6,h5]⟩
theorem take_one {P:List Pb} {x:Pb} (h:(P.take 32).length<32):(P++[x]).take 32=P.take 32++[x]:=by
 rw [List.length_take] at h;rw [List.take_of_length_le (l:=P) (by omega),List.take_of_length_le (by rw [List.length_append,List.length_singleton];omega)]
theorem DK {P:List Pb} {x:Pb} (h:¬ (P.take 32).length<32):(P++[x]).take 32=P.take 32:=by
 rw [List.length_take] at h;rw [List.take_append_of_le_length (by omega)]
theorem LI.step {s:ByteArray} {a:Nat} {fe:Int} {ts:List Tk} {bs:List Pb} (h:LI s a fe ts bs) (ha:a<s.size) {k:Int} {n:Nat} (hs:shp (s.data.toList.drop a)=(k,n)) {c:Int} (hc:flt k ((s.data.toList.drop a).take n)=c) :
    (1≤n∧a+n≤s.size)∧(c=0→k≠0∧LI s (a+n+sk false (s.data.toList.drop (a+n))) fe (ts++[⟨k,⟨(cont k ((s.data.toList.drop a).take n)).toArray⟩,(a:Nat)⟩]) bs)
      ∧ (c≠0→k=0→(a:Int)=fe→LI s (a+n+sk false (s.data.toList.drop (a+n))) ((a+n:Nat):Int) ts bs)
      ∧ (c≠0→¬ (k=0∧(a:Int)=fe)→bs.length<32→LI s (a+n+sk false (s.data.toList.drop (a+n))) (if k=0 then ((a+n:Nat):Int) else fe) ts (bs++[(((a:Nat):Int),c)]))
      ∧ (c≠0→¬ (k=0∧(a:Int)=fe)→¬ bs.length<32→LI s (a+n+sk false (s.data.toList.drop (a+n))) (if k=0 then ((a+n:Nat):Int) else fe) ts bs):=by
 obtain ⟨p,f,h1,h2,h3,h4,P,h5,h6⟩:=h;have hne:s.data.toList.drop a≠[]:=by
  intro e;have:=congrArg List.length e;rw [List.length_drop,aM,List.length_nil] at this;omega
 have hd:(s.data.toList.drop p).drop (sk false (s.data.toList.drop p))=s.data.toList.drop a:=by rw [List.drop_drop,← h1]
 have hn1:=kg hne;have hn2:=mF (s.data.toList.drop a);rw [hs,List.length_drop,aM] at hn2;rw [hs] at hn1;simp only at hn1 hn2;have hst:=nI hd hne p f;rw [hs] at hst;simp only [hc] at hst;rw [← h1,List.drop_drop] at hst;have hz:=uW s (p:=a+n) (by omega);have hlow:fe≤(p:Int):=by omega
 have hpa:p≤a:=by omega
 have hfe:(f=true∧sk false (s.data.toList.drop p)=0)↔(a:Int)=fe:=by
  rcases h3 with ⟨h3,h7⟩ | ⟨h3,h7⟩
  ·rw [h3];constructor
   ·rintro ⟨_,h8⟩;omega
   intro h8;exact ⟨rfl,by omega⟩
  rw [h3];constructor
  ·rintro ⟨h8,_⟩;cases h8
  intro h8;omega
 refine ⟨⟨hn1,by omega⟩,?_,?_,?_,?_⟩
 ·intro hc0;have hk:k≠0:=by
   rintro rfl;rw [lg] at hc;omega
  rw [if_pos hc0,dF hk] at hst;refine ⟨hk,a+n,false,rfl,hz,.inr ⟨rfl,by omega⟩,?_,P,h5,?_⟩
  ·rw [← h4,hst];simp
  rw [← h6,hst]
 ·intro hc0 hk he;rw [if_neg hc0,if_pos ⟨hk,hfe.2 he⟩,dT hk] at hst;refine ⟨a+n,true,rfl,hz,.inl ⟨rfl,rfl⟩,?_,P,h5,?_⟩
  ·rw [← h4,hst]
  rw [← h6,hst]
 ·intro hc0 hk hl;rw [if_neg hc0,if_neg (fun h=>hk ⟨h.1,hfe.1 h.2⟩)] at hst;refine ⟨a+n,decide (k=0),rfl,hz,?_,?_,P++[(((a:Nat):Int),c)],?_,?_⟩
  ·by_cases h0:k=0
   ·exact .inl ⟨dT h0,by rw [if_pos h0]⟩
   exact .inr ⟨dF h0,by rw [if_neg h0];omega⟩
  ·rw [← h4,hst]
  ·rw [h5] at hl ⊢;rw [take_one hl]
  rw [← h6,hst];simp
 intro hc0 hk hl;rw [if_neg hc0,if_neg (fun h=>hk ⟨h.1,hfe.1 h.2⟩)] at hst;refine ⟨a+n,decide (k=0),rfl,hz,?_,?_,P++[(((a:Nat):Int),c)],?_,?_⟩
 ·by_cases h0:k=0
  ·exact .inl ⟨dT h0,by rw [if_pos h0]⟩
  exact .inr ⟨dF h0,by rw [if_neg h0];omega⟩
 ·rw [← h4,hst]
 ·rw [h5] at hl ⊢;rw [DK hl]
 rw [← h6,hst];simp
theorem Lx (s:ByteArray):(lxs 0 false s.data.toList).1.length≤s.size:=by
 have h1:=tX s.data.toList _ 0 zl (AU s.data.toList 0 false s.data.toList rfl zl).1;have h2:=AV _ (yE 0 false s.data.toList);rw [aM] at h1;omega
theorem LI.few {s:ByteArray} {a:Nat} {fe:Int} {ts:List Tk} {bs:List Pb} (h:LI s a fe ts bs):a≤s.size∧bs.length≤32∧ts.length≤s.size:=by
 obtain ⟨p,f,h1,h2,h3,h4,P,h5,h6⟩:=h;refine ⟨h2,by rw [h5,List.length_take];omega,?_⟩;have:=congrArg List.length h4;rw [List.length_append] at this;have:=Lx s;omega
theorem nH {w w':World} {B B2:Nat} {v u:Value} {ts:List Tk} {bs:List Pb} (h1:tk.Own w B v ts) (h2:pb.Own w B2 u bs) (hg:w.grownBy w' v.ownBlock):pb.Own w' B2 u bs:=by
 obtain ⟨e1,e2⟩:=h2;refine ⟨e1,?_⟩;rcases e2 with h0 | ⟨g,cap,cur,e,hbg,hh,r⟩
 ·exact .inl h0
 refine .inr ⟨g,cap,cur,e,hbg,?_,r⟩;have hlt:g<w.heap.size:=by
  rcases Nat.lt_or_ge g w.heap.size with h' | h'
  ·exact h'
  rw [Array.getElem?_eq_none h'] at hh;cases hh
 have hne:v.ownBlock≠some g:=by
  rcases h1.2 with ⟨rfl,_⟩ | ⟨g1,cap1,cur1,rfl,_,hh1,_⟩
  ·simp [Value.ownBlock]
  intro e2;have:g1=g:=by simpa [Value.ownBlock] using e2
  subst this;rw [hh] at hh1;simp at hh1
 rw [hg.block g hlt (Ne.symm hne)];exact hh
theorem mZ {w w':World} {B B2:Nat} {v u:Value} {ts:List Tk} {bs:List Pb} (h1:pb.Own w B v bs) (h2:tk.Own w B2 u ts) (hg:w.grownBy w' v.ownBlock):tk.Own w' B2 u ts:=by
 obtain ⟨e1,e2⟩:=h2;refine ⟨e1,?_⟩;rcases e2 with h0 | ⟨g,cap,cur,e,hbg,hh,r⟩
 ·exact .inl h0
 refine .inr ⟨g,cap,cur,e,hbg,?_,r⟩;have hlt:g<w.heap.size:=by
  rcases Nat.lt_or_ge g w.heap.size with h' | h'
  ·exact h'
  rw [Array.getElem?_eq_none h'] at hh;cases hh
 have hne:v.ownBlock≠some g:=by
  rcases h1.2 with ⟨rfl,_⟩ | ⟨g1,cap1,cur1,rfl,_,hh1,_⟩
  ·simp [Value.ownBlock]
  intro e2;have:g1=g:=by simpa [Value.ownBlock] using e2
  subst this;rw [hh] at hh1;simp at hh1
 rw [hg.block g hlt (Ne.symm hne)];exact hh
def TR (w w':World) (e:Ending) (s:ByteArray):Prop:=∃ v u,e=.returned (.tuple #[v,u,.int .i64 (dR s)])∧tk.Own w' w.heap.size v (aW s)∧pb.Own w' w.heap.size u (dn s)∧Below w.heap.size w w'
theorem eU (s:ByteArray) (a n:Nat):(s.extract a (a+n)).data.toList=(s.data.toList.drop a).take n:=by
 rw [qO,show a+n - a=n by omega]
theorem xW {l:List UInt8} {k:Int} {n:Nat} (h:shp l=(k,n)):k=0∨shp (l.take n)=(k,(l.take n).length):=by
 by_cases h0:k=0
 ·exact .inl h0
 right;have h1:=xI (l:=l) (by rw [h];exact h0) (.inl rfl:Sep []);rw [List.append_nil,h] at h1;have h2:=mF l;rw [h] at h2;rw [h1,take_len h2]
theorem ext_size (s:ByteArray) {a n:Nat} (h:a+n≤s.size):(s.extract a (a+n)).size=n:=by
 rw [← aM,eU,List.length_take,List.length_drop,aM];omega
theorem fG {n x y:Nat} (h:x<n) (hy:x<y):n - (intOf (Value.int .i64 ((y:Nat):Int))).toNat<n - (intOf (Value.int .i64 ((x:Nat):Int))).toNat:=by
 show n - ((y:Nat):Int).toNat<n - ((x:Nat):Int).toNat;omega
theorem tail_size (s:ByteArray) (a:Nat):(s.extract a s.size).size≤s.size:=by
 rw [← aM (s.extract a s.size),qN,List.length_drop,aM];omega
theorem Ci (s:ByteArray) {i:Nat} (hi:i≤s.size) (W:World):(Instr.slice 9 (.string s) (some (.int .i64 (i:Nat))) none none).run Tryz.prog W=.ok (.string (s.extract i s.size)) W:=by
 rw [run_slice_string_from_if W 9 s .i64 _ Tryz.underlying9,if_pos ⟨by omega,by omega⟩,Int.toNat_natCast]
theorem mX (a0:Option Addr) (n0 cap:Nat) (s:ByteArray) (w:World) (hS:Bs w a0 n0 cap s) (T:Tabs w) :
    Calls Tryz.prog 23 #[.slice a0 n0 cap] w fun e w' => TR w w' e s:=by
 have hn0:=hS.hn;by_cases hbig:16384<n0
 ·have q1:decide (16384<(n0:Int))=true:=dT (by omega);have hE:=Hy (show dR s=2∧aW s=[]∧dn s=[] by unfold dR aW dn;rw [if_pos (by omega),if_pos (by omega),if_pos (by omega)];exact ⟨rfl,rfl,rfl⟩);clear hS T hn0
  go_enter Tryz.func23,Tryz.ntmps23
  go_wp2_with fail;go_ret3;exact ⟨.slice none 0 0,.slice none 0 0,by rw [hE.o.1];rfl,by rw [hE.o.2.1];exact tk.Own.nil _ _,by rw [hE.o.2.2];exact pb.Own.nil _ _,b0 w⟩
 have q1:decide (16384<(n0:Int))=false:=dF (by omega);have hE:=Hy (show dR s=0∧aW s=(lxs 0 false s.data.toList).1++[lS s]∧dn s=(lxs 0 false s.data.toList).2.take 32 by unfold dR aW dn;rw [if_neg (by omega),if_neg (by omega),if_neg (by omega)];exact ⟨rfl,rfl,rfl⟩);have hz:s.size≤16384:=by omega
 have CV:=hS.str;have T0:=Hy T;have SK:=Hy (fun i hi W T=>kP s (by omega) i hi W T);have LS:=Hy (LI.start s);have Z0:=Hy hz;clear hS T hbig hn0
 go_enter Tryz.func23,Tryz.ntmps23
 go_wp2_with fail;refine (SK.o 0 zl _ T0.o).mono ?_;rintro e w1 ⟨rfl,b1⟩;have B1:=Hy b1;clear b1;generalize 0+sk false (s.data.toList.drop 0)=x0 at *;go_wp2_with fail
 go_loopw [2,3,6,7] (fun vl vb vf va wr => ∃ (x:Nat) (fe:Int) (ts:List Tk) (bs:List Pb),va=.int .i64 (x:Nat)∧vf=.int .i64 fe∧Hid (LI s x fe ts bs)∧Hid (tk.Own wr w.heap.size vl ts)∧Hid (pb.Own wr w.heap.size vb bs)∧Hid (Below w.heap.size w wr)) (fun _ _ _ va _=>s.size - (intOf va).toNat)
 case atStart=>exact ⟨x0,-1,[],[],rfl,rfl,LS,Hy (tk.Own.nil _ _),Hy (pb.Own.nil _ _),B1⟩
 case round =>
  obtain ⟨x,fe,ts,bs,rfl,rfl,hI,hO,hP,hb⟩:=hrel;have hfew:=hI.o.few;have hl8:=Hy (show ts.length<4398046511104 by have:=hfew.2.2;omega);have hb8:=Hy (show bs.length<8796093022208 by have:=hfew.2.1;omega);by_cases hc:x<s.size
  ·have q2:decide ((x:Int)<(s.size:Int))=true:=dT (by omega);obtain ⟨q,hq⟩:∃ q,shp (s.data.toList.drop x)=q:=⟨_,rfl⟩;obtain ⟨k,n⟩:=q;obtain ⟨c,hcd⟩:∃ c,flt k ((s.data.toList.drop x).take n)=c:=⟨_,rfl⟩;obtain ⟨⟨hn1,hn2⟩,s1,s2,s3,s4⟩:=hI.o.step hc hq hcd;replace s1:=Hy s1;replace s2:=Hy s2;replace s3:=Hy s3;replace s4:=Hy s4;have SC:=Hy (fun W T=>vg (s.extract x s.size) (Nat.le_trans (tail_size s x) (by omega)) W T);rw [qN,hq] at SC;have SL:=fun W=>xA s (i:=x) (j:=x+n) (x:=(x:Int)) (y:=(x:Int)+(n:Int)) rfl (by omega) (by omega) hn2 W;have ST:=fun W=>Ci s (i:=x) (Nat.le_of_lt hc) W;have hps:=ext_size s hn2;have FC:=Hy (fun W T=>vM k (s.extract x (x+n)) (by rw [hps];omega) (by rw [eU];exact xW hq) W T);rw [eU,hcd] at FC;have CC:=Hy (fun h W=>qA k (s.extract x (x+n)) (by rw [hps];omega) h W);rw [eU] at CC;have hk4:=Hy (show k=4→2≤(s.extract x (x+n)).size by
     rintro rfl
     have h1:=xg ((xW hq).resolve_left (by decide))
     rw [← eU,aM] at h1
     exact h1)
   have SK1:=Hy (fun W T=>(kP s (by omega) (x+n) hn2 W T:Calls Tryz.prog 68 #[.string s,.int .i64 ((x:Int)+(n:Int))] W fun e w' => e=.returned (.int .i64 ((x+n+sk false (s.data.toList.drop (x+n)):Nat):Int))∧Below W.heap.size W w'));have hge:=Hy (show x<x+n+sk false (s.data.toList.drop (x+n)) by omega);generalize x+n+sk false (s.data.toList.drop (x+n))=y at *;generalize s.extract x (x+n)=p at *;generalize s.extract x s.size=t at *;generalize (⟨(cont k ((s.data.toList.drop x).take n)).toArray⟩:ByteArray)=ct at *;have hxn:=Hy hn2;clear hq hcd hps hI;obtain ⟨ab,cb,rfl,hsb⟩:=hP.o.sl;generalize hm:bs.length=m at *;replace hm:=Hy hm;by_cases hc0:c=0
   ·subst hc0;obtain ⟨hk0,hI2⟩:=s1.o rfl;have qk:(k==0)=false:=by rw [beq_eq_false_iff_ne];exact hk0
    replace hI2:=Hy hI2;clear s1 s2 s3 s4 hk0 hsb;go_wp2_with fail;refine (SC.o _ (T0.o.stays hb.o)).mono ?_;rintro e w2 ⟨rfl,b2⟩;have B2:=Hy (aD hb.o b2);have O2:=Hy (hO.o.keeps b2);have P2:=Hy (hP.o.keeps b2);clear b2 hO hP hb;go_wp2_with fail;refine (FC.o _ (T0.o.stays B2.o)).mono ?_;rintro e w3 ⟨rfl,b3⟩;have B3:=Hy (aD B2.o b3);have O3:=Hy (O2.o.keeps b3);have P3:=Hy (P2.o.keeps b3);clear b3 O2 P2 B2;have CC1:=Hy (CC.o hk4.o w3);go_wp2_with fail;refine CC1.o.mono ?_;rintro e w4 ⟨rfl,rfl⟩;go_wp2_with (at_builtin;refine tk.dD (.tmp 45) (.tmp 52) rfl ?_;refine tk.bL _ rfl (.tmp 45) (.tmp 52) rfl w.heap.size _ _ rfl (O3.o.keeps (aj (b0 w4) _)) w4.heap.size ⟨k,ct,(x:Nat)⟩ rfl (tk.Bw.new w4 ⟨k,ct,(x:Nat)⟩ 69) hl8.o (by have:=B3.o.size;simp;omega) ?_;intro v2 w6 O6 b6 g6);have P6:=Hy (nH (O3.o.keeps (aj (b0 w4) _)) (P3.o.keeps (aj (b0 w4) _)) g6);have B6:=Hy ((aj B3.o (.cells #[.int .i64 k,.string ct,.int .i64 (x:Nat)] 69)).trans b6);have O7:=Hy O6;clear b6 O6 g6;go_wp2_with fail;refine (SK1.o _ (T0.o.stays B6.o)).mono ?_;rintro e w7 ⟨rfl,b7⟩;have B7:=Hy (aD B6.o b7);have O8:=Hy (O7.o.keeps b7);have P8:=Hy (P6.o.keeps b7);clear b7;go_wp2_with fail;exact ⟨⟨y,fe,_,bs,rfl,rfl,hI2,O8,P8,B7⟩,fG hc hge.o⟩
   have qc:(c==0)=false:=by rw [beq_eq_false_iff_ne];exact hc0
   by_cases hk0:k=0
   ·subst hk0;by_cases hxe:(x:Int)=fe
    ·subst hxe;have hI2:=Hy (s2.o hc0 rfl rfl);clear s1 s2 s3 s4 hsb CC hk4;go_wp2_with fail;refine (SC.o _ (T0.o.stays hb.o)).mono ?_;rintro e w2 ⟨rfl,b2⟩;have B2:=Hy (aD hb.o b2);have O2:=Hy (hO.o.keeps b2);have P2:=Hy (hP.o.keeps b2);clear b2 hO hP hb;go_wp2_with fail;refine (FC.o _ (T0.o.stays B2.o)).mono ?_;rintro e w3 ⟨rfl,b3⟩;have B3:=Hy (aD B2.o b3);have O3:=Hy (O2.o.keeps b3);have P3:=Hy (P2.o.keeps b3);clear b3 O2 P2 B2;go_wp2_with fail;refine (SK1.o _ (T0.o.stays B3.o)).mono ?_;rintro e w7 ⟨rfl,b7⟩;have B7:=Hy (aD B3.o b7);have O8:=Hy (O3.o.keeps b7);have P8:=Hy (P3.o.keeps b7);clear b7;go_wp2_with fail;exact ⟨⟨y,_,ts,bs,rfl,rfl,hI2,O8,P8,B7⟩,fG hc hge.o⟩
    have qx:((x:Int)==fe)=false:=by rw [beq_eq_false_iff_ne];exact hxe
    by_cases hm32:m<32
    ·have qm:decide ((m:Int)<32)=true:=dT (by omega);have hI2:=Hy (s3.o hc0 (fun h=>hxe h.2) hm32);rw [if_pos rfl] at hI2;clear s1 s2 s3 s4 hsb CC hk4;go_wp2_with fail;refine (SC.o _ (T0.o.stays hb.o)).mono ?_;rintro e w2 ⟨rfl,b2⟩;have B2:=Hy (aD hb.o b2);have O2:=Hy (hO.o.keeps b2);have P2:=Hy (hP.o.keeps b2);clear b2 hO hP hb;go_wp2_with fail;refine (FC.o _ (T0.o.stays B2.o)).mono ?_;rintro e w3 ⟨rfl,b3⟩;have B3:=Hy (aD B2.o b3);have O3:=Hy (O2.o.keeps b3);have P3:=Hy (P2.o.keeps b3);clear b3 O2 P2 B2;go_wp2_with (at_builtin;refine pb.dD (.tmp 66) (.tmp 70) rfl ?_;refine pb.bL _ rfl (.tmp 66) (.tmp 70) rfl w.heap.size _ _ rfl (P3.o.keeps (aj (b0 w3) _)) w3.heap.size ((x:Nat),c) rfl (pb.Bw.new w3 ((x:Nat),c) 72) (by rw [hm.o];exact hb8.o) (by have:=B3.o.size;simp;omega) ?_;intro v2 w6 P6 b6 g6);have O6:=Hy (mZ (P3.o.keeps (aj (b0 w3) _)) (O3.o.keeps (aj (b0 w3) _)) g6);have B6:=Hy ((aj B3.o (.cells #[.int .i64 (x:Nat),.int .i64 c] 72)).trans b6);have P7:=Hy P6;clear b6 P6 g6;go_wp2_with fail;refine (SK1.o _ (T0.o.stays B6.o)).mono ?_;rintro e w7 ⟨rfl,b7⟩;have B7:=Hy (aD B6.o b7);have O8:=Hy (O6.o.keeps b7);have P8:=Hy (P7.o.keeps b7);clear b7;go_wp2_with fail;exact ⟨⟨y,_,ts,_,rfl,rfl,hI2,O8,P8,B7⟩,fG hc hge.o⟩
    have qm:decide ((m:Int)<32)=false:=dF (by omega);have hI2:=Hy (s4.o hc0 (fun h=>hxe h.2) hm32);rw [if_pos rfl] at hI2;clear s1 s2 s3 s4 hsb CC hk4;go_wp2_with fail;refine (SC.o _ (T0.o.stays hb.o)).mono ?_;rintro e w2 ⟨rfl,b2⟩;have B2:=Hy (aD hb.o b2);have O2:=Hy (hO.o.keeps b2);have P2:=Hy (hP.o.keeps b2);clear b2 hO hP hb;go_wp2_with fail;refine (FC.o _ (T0.o.stays B2.o)).mono ?_;rintro e w3 ⟨rfl,b3⟩;have B3:=Hy (aD B2.o b3);have O3:=Hy (O2.o.keeps b3);have P3:=Hy (P2.o.keeps b3);clear b3 O2 P2 B2;go_wp2_with fail;refine (SK1.o _ (T0.o.stays B3.o)).mono ?_;rintro e w7 ⟨rfl,b7⟩;have B7:=Hy (aD B3.o b7);have O8:=Hy (O3.o.keeps b7);have P8:=Hy (P3.o.keeps b7);clear b7;go_wp2_with fail;exact ⟨⟨y,_,ts,bs,rfl,rfl,hI2,O8,P8,B7⟩,fG hc hge.o⟩
   have qk:(k==0)=false:=by rw [beq_eq_false_iff_ne];exact hk0
   by_cases hm32:m<32
   ·have qm:decide ((m:Int)<32)=true:=dT (by omega);have hI2:=Hy (s3.o hc0 (fun h=>hk0 h.1) hm32);rw [if_neg hk0] at hI2;clear s1 s2 s3 s4 hsb CC hk4;go_wp2_with fail;refine (SC.o _ (T0.o.stays hb.o)).mono ?_;rintro e w2 ⟨rfl,b2⟩;have B2:=Hy (aD hb.o b2);have O2:=Hy (hO.o.keeps b2);have P2:=Hy (hP.o.keeps b2);clear b2 hO hP hb;go_wp2_with fail;refine (FC.o _ (T0.o.stays B2.o)).mono ?_;rintro e w3 ⟨rfl,b3⟩;have B3:=Hy (aD B2.o b3);have O3:=Hy (O2.o.keeps b3);have P3:=Hy (P2.o.keeps b3);clear b3 O2 P2 B2;go_wp2_with (at_builtin;refine pb.dD (.tmp 66) (.tmp 70) rfl ?_;refine pb.bL _ rfl (.tmp 66) (.tmp 70) rfl w.heap.size _ _ rfl (P3.o.keeps (aj (b0 w3) _)) w3.heap.size ((x:Nat),c) rfl (pb.Bw.new w3 ((x:Nat),c) 72) (by rw [hm.o];exact hb8.o) (by have:=B3.o.size;simp;omega) ?_;intro v2 w6 P6 b6 g6);have O6:=Hy (mZ (P3.o.keeps (aj (b0 w3) _)) (O3.o.keeps (aj (b0 w3) _)) g6);have B6:=Hy ((aj B3.o (.cells #[.int .i64 (x:Nat),.int .i64 c] 72)).trans b6);have P7:=Hy P6;clear b6 P6 g6;go_wp2_with fail;refine (SK1.o _ (T0.o.stays B6.o)).mono ?_;rintro e w7 ⟨rfl,b7⟩;have B7:=Hy (aD B6.o b7);have O8:=Hy (O6.o.keeps b7);have P8:=Hy (P7.o.keeps b7);clear b7;go_wp2_with fail;exact ⟨⟨y,_,ts,_,rfl,rfl,hI2,O8,P8,B7⟩,fG hc hge.o⟩
   have qm:decide ((m:Int)<32)=false:=dF (by omega);have hI2:=Hy (s4.o hc0 (fun h=>hk0 h.1) hm32);rw [if_neg hk0] at hI2;clear s1 s2 s3 s4 hsb CC hk4;go_wp2_with fail;refine (SC.o _ (T0.o.stays hb.o)).mono ?_;rintro e w2 ⟨rfl,b2⟩;have B2:=Hy (aD hb.o b2);have O2:=Hy (hO.o.keeps b2);have P2:=Hy (hP.o.keeps b2);clear b2 hO hP hb;go_wp2_with fail;refine (FC.o _ (T0.o.stays B2.o)).mono ?_;rintro e w3 ⟨rfl,b3⟩;have B3:=Hy (aD B2.o b3);have O3:=Hy (O2.o.keeps b3);have P3:=Hy (P2.o.keeps b3);clear b3 O2 P2 B2;go_wp2_with fail;refine (SK1.o _ (T0.o.stays B3.o)).mono ?_;rintro e w7 ⟨rfl,b7⟩;have B7:=Hy (aD B3.o b7);have O8:=Hy (O3.o.keeps b7);have P8:=Hy (P3.o.keeps b7);clear b7;go_wp2_with fail;exact ⟨⟨y,_,ts,bs,rfl,rfl,hI2,O8,P8,B7⟩,fG hc hge.o⟩
  have q2:decide ((x:Int)<(s.size:Int))=false:=dF (by omega);have hov:=hI.o.over hc;clear hI;rw [hov.1,hov.2] at hE;clear hov;go_wp2_with (at_builtin;refine tk.dD (.tmp 78) (.tmp 82) rfl ?_;refine tk.bL _ rfl (.tmp 78) (.tmp 82) rfl w.heap.size _ _ rfl (hO.o.keeps (aj (b0 wr) _)) wr.heap.size (lS s) rfl (tk.Bw.new wr (lS s) 69) hl8.o (by have:=hb.o.size;simp;omega) ?_;intro v2 w6 O6 b6 g6);have P6:=Hy (nH (hO.o.keeps (aj (b0 wr) _)) (hP.o.keeps (aj (b0 wr) _)) g6);have B6:=Hy ((aj hb.o (.cells #[.int .i64 6,.string .empty,.int .i64 (s.size:Nat)] 69)).trans b6);go_ret3;exact ⟨_,_,by rw [hE.o.1];rfl,by rw [hE.o.2.1];exact O6,by rw [hE.o.2.2];exact P6.o,B6.o⟩
end
end Go.Proofs.YtbpijgddfaefkaaGreatDoor
