/-
  parser.Module; The statements' helpers that make expressions; What the sources of the examples are read as; The reference's sameUnit and SameType: of equal ones; The reference's SameExpr: of equal ones; The reference's SameProblems: of equal ones; The reference's sameTable: of equal ones.
-/
import Derived.Test.YtbpijgddfaefkaaGreatDoorK19
set_option maxRecDepth 100000
set_option maxHeartbeats 16000000
namespace Go.Proofs.YtbpijgddfaefkaaGreatDoor
namespace pa
open Go.RowKit dec
def oO (s:ByteArray):Option (Mo × List Pb):=eT ((aW s).length+1) ⟨[],[]⟩ (dn s) (aW s)
def Mov (C:Nat) (w:World) (v:Value) (m:Mo):Prop:=∃ ta tc fa fc,v=.agg #[.slice ta m.ts.length tc,.slice fa m.fs.length fc]∧RowAt 85 4 C (TbQ C) w ta m.ts∧RowAt 88 18 C (FeQ C) w fa m.fs
def zM:Array Value:=#[.slice none 0 0,.slice none 0 0]
def Pbv (w:World) (u:Value) (b:List Pb):Prop:=∃ p a c,p.Perm b∧pb.fE p∧u=.slice a (min b.length 32) c∧pb.Sl w a (min b.length 32) c (p.take 32)
theorem Gy (a:Option Addr) (n c:Nat) (h:n≤c) (W:World):(Instr.slice 28 (.slice a n c) none (some (.int .i64 (min (n:Int) 32))) none).run Tryz.prog W=.ok (.slice a (min n 32) c) W:=by
 have hel:Tryz.prog.elem 28=72:=by kernel_rfl
 have h1:=run_slice_h (P:=Tryz.prog) (w:=W) 28 a n c (by rw [hel];exact Tryz.underlying28) .i64 (min (n:Int) 32) (by omega) (by omega);have e:(min (n:Int) 32).toNat=min n 32:=by omega
 rw [h1,hel,Tryz.sizeOf72,e];simp [Result.andThen,sliced];intro _
 cases a with
 | none=>rfl
 | some x=>simp only [Option.map_some,Option.some.injEq];unfold Addr.add;split <;> simp_all
theorem qJ {m m':Mo} {l r:List Tk} (h:bU m l=.ok m' r):m'.ts.length+m'.fs.length=m.ts.length+m.fs.length+1:=by
 unfold bU at h;split at h
 ·obtain ⟨t,q,h1,h2⟩:=bind_ok h;cases h2;simp;omega
 split at h
 ·obtain ⟨t,q,h1,h2⟩:=bind_ok h;cases h2;simp;omega
 cases h
theorem rZ (a0:Option Addr) (n0 cap:Nat) (s:ByteArray) (w:World) (hS:Bs w a0 n0 cap s) (T:Tabs w) (he:dR s=0) (m9:Mo) (b9:List Pb) (hm:oO s=some (m9,b9)) :
    Calls Tryz.prog 7 #[.slice a0 n0 cap] w fun e w' => ∃ v u,e=.returned (.tuple #[v,u,.int .i64 0])∧Mov w.heap.size w' v m9∧Pbv w' u b9∧Below w.heap.size w w':=by
 have bb:=aj (b0 w) (.cells zM 27);have R:=Hy (Blk.new w 27 zM);have TC:=Hy (mX a0 n0 cap s _ (hS.keeps bb) (T.stays bb));have T0:=Hy T;have BB:=Hy bb;have HM:=Hy hm;have hz:=Hy (iI (jX he));clear hS T bb hm
 go_enter Tryz.func7,Tryz.ntmps7
 go_wp2_with fail;refine TC.o.mono ?_;rintro e w2 ⟨vt,vb,rfl,Ot,Ob,b2⟩;have R2:=Hy (R.o.below b2 R.o.lt);have B2:=Hy (aD BB.o b2);have hs2:=Hy (show w.heap.size+1≤w2.heap.size from by have:=b2.size;simpa using this);rw [show (w.alloc (.cells zM 27)).heap.size=w.heap.size+1 by simp] at Ot Ob;obtain ⟨ta,tcap,rfl,St0⟩:=Ot.sl;replace Ob:=Hy Ob;rw [he];have hOt:∀ b off,ta=some ⟨b,off,none⟩→w.heap.size+1≤b∧b<w2.heap.size∧Tg w2 b 69:=fun b off e=>by
  rcases Ot.2 with ⟨h1,_⟩ | ⟨g',cp,cur,h1,hbg,hh,_⟩
  ·injection h1 with i1
   rw [i1] at e;cases e
  injection h1 with i1
  rw [i1] at e;cases e;exact ⟨hbg,bR hh,_,_,hh⟩
 have pc:=aj (aj (b0 w2) (.cells #[.slice ta (aW s).length tcap,.int .i64 0] 67)) (.cells #[.pointer (some ⟨w2.heap.size,0,none⟩)] 65);have BP:=(Blk.new w2 67 #[.slice ta (aW s).length tcap,.int .i64 0]).past (.cells #[.pointer (some ⟨w2.heap.size,0,none⟩)] 65);have BQ:Blk ((w2.alloc (.cells #[.slice ta (aW s).length tcap,.int .i64 0] 67)).alloc (.cells #[.pointer (some ⟨w2.heap.size,0,none⟩)] 65)) (w2.heap.size+1) 65 #[.pointer (some ⟨w2.heap.size,0,none⟩)]:=by
  have:=Blk.new (w2.alloc (.cells #[.slice ta (aW s).length tcap,.int .i64 0] 67)) 65 #[.pointer (some ⟨w2.heap.size,0,none⟩)];simpa using this
 have P3:Ps ((w2.alloc (.cells #[.slice ta (aW s).length tcap,.int .i64 0] 67)).alloc (.cells #[.pointer (some ⟨w2.heap.size,0,none⟩)] 65)) w2.heap.size (aW s) :=
   ⟨⟨ta,(aW s).length,tcap,aW s,0,BP.cell 0,BP.cell 1,BP.free 1,St0.keeps pc,fun b off hb=>(hOt b off hb).2.1,rfl⟩,hz.o,⟨w2,T0.o.stays B2.o,pc,Nat.le_refl _⟩,BP.tg⟩
 have F3:=Hy (show Mf w (w2.heap.size+2) w2.heap.size w.heap.size ta (aW s).length tcap ((w2.alloc (.cells #[.slice ta (aW s).length tcap,.int .i64 0] 67)).alloc (.cells #[.pointer (some ⟨w2.heap.size,0,none⟩)] 65)) ⟨[],[]⟩ (aW s) from
   ⟨P3,BP.cell 0,fun b off e=>by
     obtain ⟨h1,h2,cs,fr,h3⟩:=hOt b off e
     exact ⟨by omega,by omega,cs,fr,(pc.block b h2).trans h3⟩,T0.o,aD B2.o pc,Nat.le_refl _,by have:=hs2.o;omega,by omega,by simp,⟨.slice none 0 0,.slice none 0 0,[],[],R2.o.below pc R2.o.lt,Rw.nil _ _ _ _,Rw.nil _ _ _ _,Each.nil _ _,Each.nil _ _⟩⟩)
 have O3:=Hy (Ob.o.keeps pc);have BQ3:=Hy BQ;have hlen:=Hy (show ([]:List Tb).length+([]:List Fe).length+(aW s).length≤1048576∧(dn s).length+(aW s).length≤1048608 from by
   have h1:=hz.o.ln
   have h2:(dn s).length≤32:=by unfold dn;split <;> simp [List.length_take];omega
   exact ⟨by simpa using h1,by omega⟩)
 clear pc BP BQ P3 hOt St0 Ot Ob TC R R2 BB T0;go_wp2_with fail;generalize ((w2.alloc (.cells #[.slice ta (aW s).length tcap,.int .i64 0] 67)).alloc (.cells #[.pointer (some ⟨w2.heap.size,0,none⟩)] 65))=w3 at *;have hmf:∀ (fn:Fn) (first cap:Array Value) (w:World),(Instr.makeFunc fn first cap).run Tryz.prog w=.ok (.func fn first cap) w:=fun _ _ _ _=>rfl;have F0:=tf0
 go_loopg [3] ((aW s).length+1) (fun k v wr => ∃ (m:Mo) (b:List Pb) (l:List Tk),Hid (Mf w (w2.heap.size+2) w2.heap.size w.heap.size ta (aW s).length tcap wr m l)∧Hid (pb.Own wr (w.heap.size+1) v b)∧Hid (Blk wr (w2.heap.size+1) 65 #[.pointer (some ⟨w2.heap.size,0,none⟩)])∧Hid (eT k m b l=some (m9,b9))∧Hid (m.ts.length+m.fs.length+l.length≤1048576∧b.length+l.length≤1048608))
 case atStart=>exact ⟨⟨[],[]⟩,dn s,aW s,F3,O3,BQ3,HM,hlen⟩
 case round =>
  clear F3 O3 BQ3 HM hlen;obtain ⟨m,b,l,F,O,Q,HM,hlen⟩:=hrel;rcases gk with _ | gk
  ·exact absurd HM.o (by simp [eT])
  have e0:wr.cell? ⟨w2.heap.size+1,0,none⟩=some (.pointer (some ⟨w2.heap.size,0,none⟩)):=Q.o.cell 0;go_wp2_with fail;refine (eO w2.heap.size l _ F.o.ps).mono ?_;rintro e w4 ⟨rfl,b4⟩;have F4:=Hy (F.o.step (Mv.of b4) (F.o.ps.keeps b4));have O4:=Hy (O.o.keeps b4);have Q4:=Hy (Q.o.below b4 Q.o.lt);clear b4 F O Q e0;by_cases h6:(hd l).k=6
  ·have q1:((hd l).k != 6)=false:=by simp [h6]
   obtain ⟨rfl,rfl⟩:m=m9∧b=b9:=by simpa [eT,h6] using HM.o
   clear h6 HM;generalize hd l=x at *;go_wp2_with fail;refine (pb.qE (w.heap.size+1) _ b w4 O4.o (by have:=hlen.o;omega)).mono ?_;rintro e w5 ⟨rfl,a5,c5,p,rfl,hp,hs,S5,g5,hT5⟩;have F5:=F4.o.kp (Ap O4.o g5) ((Below.refl w.heap.size w4).grown g5 F4.o.bel.size (fun k hk=>by have:=(hT5 k hk).2;omega));obtain ⟨tv,fv,ct,cf,bM,r1,r2,e1,e2⟩:=F5.mm.ex;obtain ⟨ra,rc,rfl,RA⟩:=r1.row e1.1 e1.2;obtain ⟨fa,fc,rfl,FA⟩:=r2.row e2.1 e2.2;have hne:∀ x,a5=some x→x.block≠w.heap.size:=fun x hx=>by
    subst hx;have:=(hT5 x.block rfl).2;omega
   have sl:=Gy a5 b.length c5 S5.hcap;have hbel:=Hy F5.bel;have hbase:=Hy (show w.heap.size<w2.heap.size+2 from by have:=hs2.o;omega);replace RA:=Hy RA;replace FA:=Hy FA;replace S5:=Hy S5;replace hne:=Hy hne;clear r1 r2 e1 e2 F5 g5 hT5 F4 O4 Q4;go_wp2_with fail;refine wp_region_held_drew (S:=fun w' => Blk w' w.heap.size 27 #[.slice ra m.ts.length rc,.slice fa m.fs.length fc]) (by kernel_rfl) bM (fun hH=>?_);refine aB 0 38 (.agg #[.slice ra m.ts.length rc,.slice fa m.fs.length fc]) rfl (by kernel_rfl) rfl (fun _ _ _ h=>h) rfl hH (fun w' hS=>bE jr Tryz.underlying27 rfl (.tmp 2) rfl _ _ _ rfl hS rfl) ?_;simp only [sz0,sz1];refine aB 1 39 ?_ rfl (by kernel_rfl) rfl (fun _ _ _ h=>h) rfl hH (fun w' hS=>?_) ?_;rotate_left
   ·go_simp;try with_reducible rfl
   simp only [sz0,sz1];refine aB 2 40 ?_ rfl (by kernel_rfl) rfl (fun _ _ _ h=>h) rfl hH (fun w' hS=>?_) ?_;rotate_left
   ·go_simp;try with_reducible rfl
   simp only [sz0,sz1];refine aB 3 41 ?_ rfl (by kernel_rfl) rfl (fun _ _ _ h=>h) rfl hH (fun w' hS=>?_) ?_;rotate_left
   ·go_simp;try with_reducible rfl
   simp only [sz0,sz1];refine aB 4 42 ?_ rfl (by kernel_rfl) rfl (fun _ _ _ h=>h) rfl hH (fun w' hS=>?_) ?_;rotate_left
   ·go_simp;try with_reducible rfl
   simp only [sz0,sz1];refine aB 5 43 ?_ rfl (by kernel_rfl) rfl (fun _ _ _ h=>h) rfl hH (fun w' hS=>?_) ?_;rotate_left
   ·go_simp;try with_reducible rfl
   simp only [sz0,sz1];refine ak (i:=6) rfl (by kernel_rfl) rfl (fun K hK=>?_);refine gW jr (.tmp 2) (.tmp 38) rfl _ _ _ _ rfl rfl hH rfl rfl (by simp [Value.oneCell']) ?_;intro w9 hb9 hs9;refine hK.o _ _ hb9 (fun hH=>?_);clear hK K;simp only [Act.put];refine aB 7 3 ?_ rfl (by kernel_rfl) rfl (fun _ _ _ h=>h) rfl hH (fun w' hS=>?_) ?_;rotate_left
   ·go_simp;try with_reducible rfl
   simp only [sz0,sz1];refine aB 8 4 ?_ rfl (by kernel_rfl) rfl (fun _ _ _ h=>h) rfl hH (fun w' hS=>?_) ?_;rotate_left
   ·go_simp;try with_reducible rfl
   simp only [sz0,sz1];refine wpAnyH_done (by kernel_rfl) ?_ _;go_wp2_with fail;have K9:Kp (w2.heap.size+2) w5 w9:=hs9.kp hbase.o;refine gD jr Tryz.underlying27 rfl rfl _ _ _ _ _ rfl hb9 rfl ?_;refine ⟨_,_,rfl,⟨ra,rc,fa,fc,rfl,(RA.o.kpT trivial K9 fun c x hq=>TbQ.kpT trivial trivial hq K9).less (Nat.le_of_lt hbase.o) fun c x hq=>hq.less (Nat.le_of_lt hbase.o),(FA.o.kpT trivial K9 fun c x hq=>FeQ.kpT trivial trivial hq K9).less (Nat.le_of_lt hbase.o) fun c x hq=>hq.less (Nat.le_of_lt hbase.o)⟩,⟨p,a5,c5,hp,hs,rfl,?_,?_,?_,S5.o.hmax,S5.o.hno⟩,hbel.o.drew.trans (hs9.below lr)⟩
   ·rcases S5.o.hat with h0 | ⟨bk,off,ea,hC⟩
    ·exact .inl (by rw [List.length_take];omega)
    refine .inr ⟨bk,off,ea,fun j hj=>?_⟩;have hbk:=hs9.block bk (hne.o _ ea);have:=hC.take 32 j hj;exact ⟨(World.cell?_of_block (w:=w5.drew) hbk).trans this.1,(World.cell?_of_block (w:=w5.drew) hbk).trans this.2⟩
   ·rw [List.length_take,S5.o.hn];omega
   have:=S5.o.hcap;omega
  have q1:((hd l).k != 6)=true:=by simp [h6]
  have HM2:=HM.o;rw [eT,if_neg h6] at HM2;have H6:=Hy h6;clear h6 HM;generalize hx:hd l=x at *;replace hx:=Hy hx;have Bg:Tg w4 w.heap.size 27:=by
   obtain ⟨tv,fv,ct,cf,bM,_⟩:=F4.o.mm.ex;exact bM.tg
  replace Bg:=Hy Bg;rcases hG:bU m l with _ | ⟨m',l2⟩ | ⟨a,c,l2⟩
  ·exact absurd hG (jI m l)
  ·rw [hG] at HM2;replace HM2:=Hy HM2;have h1:=Hy (mK hG);have h2:=Hy (qJ hG);have GG:=Hy hG;clear hG;go_wp2_with fail;refine (Pf (w2.heap.size+1) F4.o (by have:=hlen.o;omega) (by have:=hlen.o;omega) Q4.o GG.o).mono ?_;rintro e w5 ⟨rfl,F5,Q5⟩;have O5:=Hy (CF O4.o Q5 F4.o.ps.tag Bg.o);have P5:=Hy (show Blk w5 (w2.heap.size+1) 65 #[.pointer (some ⟨w2.heap.size,0,none⟩)] from (Q5.block _ _ _ _ Q4.o (by omega) (by have:=hs2.o;omega) (by decide) (by decide)).trans Q4.o);replace F5:=Hy F5;clear Q5 F4 O4 Q4 Bg;go_wp2_with (refine aA sN (.tmp 7) (.tmp 26) rfl rfl _ _ _ _ rfl rfl (Blk.new _ _ _) rfl rfl (by simp [Value.oneCell']) ?_;intro w6 L hs;have c1:w6.cell? ⟨w5.heap.size,1,none⟩=some (.int .i64 0):=L.cell 1);have bb:=(aj (b0 w5) (.cells #[.int .i64 0,.int .i64 0] 72)).trans (hs.below lr);go_roundg gk
   case measure=>omega
   case rel=>exact ⟨m',b,l2,Hy (F5.o.step (Mv.of bb) (F5.o.ps.keeps bb)),Hy (O5.o.keeps bb),Hy (P5.o.below bb P5.o.lt),HM2,Hy (by have:=hlen.o;have:=h1.o;have:=h2.o;omega)⟩
  rw [hG] at HM2;replace HM2:=Hy HM2;have h1:=Hy (oP hG (by rw [hx.o];exact H6.o));have q2:(c != 0)=true:=by simp [LU hG]
  have GG:=Hy hG;clear hG;go_wp2_with fail;refine (Pg (w2.heap.size+1) F4.o (by have:=hlen.o;omega) (by have:=hlen.o;omega) Q4.o GG.o).mono ?_;rintro e w5 ⟨rfl,F5,Q5⟩;have O5:=Hy (CF O4.o Q5 F4.o.ps.tag Bg.o);have P5:=Hy (show Blk w5 (w2.heap.size+1) 65 #[.pointer (some ⟨w2.heap.size,0,none⟩)] from (Q5.block _ _ _ _ Q4.o (by omega) (by have:=hs2.o;omega) (by decide) (by decide)).trans Q4.o);replace F5:=Hy F5;clear Q5 F4 O4 Q4 Bg;have hb1:=Hy (show b.length<8796093022208 from by have:=hlen.o;omega);have hww:=Hy (show w.heap.size+1≤w5.heap.size from by have:=F5.o.h4;have:=F5.o.h2;omega);go_wp2_with (first | (refine aH sN Tryz.underlying72 rfl (.tmp 7) rfl rfl _ _ _ rfl L rfl ?_) | (refine aA sN (.tmp 7) (.tmp 26) rfl rfl _ _ _ _ rfl rfl (Blk.new _ _ _) rfl rfl (by simp [Value.oneCell']) ?_;intro w6 L hs;have c1:w6.cell? ⟨w5.heap.size,1,none⟩=some (.int .i64 c):=L.cell 1;have bb:=(aj (b0 w5) (.cells #[.int .i64 0,.int .i64 0] 72)).trans (hs.below lr)) | (at_builtin;refine pb.dD (.tmp 30) (.tmp 32) rfl ?_;refine pb.bL _ rfl (.tmp 30) (.tmp 32) rfl (w.heap.size+1) _ b rfl (O5.o.keeps (aj bb _)) w6.heap.size (a,c) rfl (pb.Bw.new _ (a,c) _) hb1.o (by have:=hww.o;have:=bb.size;simp;omega) ?_;intro v7 w7 O7 b7 g7;have b6:=aj bb (.cells #[.int .i64 a,.int .i64 c] 72);have K7:=Ap (O5.o.keeps b6) g7;have P7:=(K7 _ _ _ _ zl (by decide) (P5.o.below b6 P5.o.lt)).trans (P5.o.below b6 P5.o.lt);have F7:=Hy ((F5.o.step (Mv.of b6) (F5.o.ps.keeps b6)).kp K7 (b7.mono (by omega)));have e7:w7.cell? ⟨w2.heap.size+1,0,none⟩=some (.pointer (some ⟨w2.heap.size,0,none⟩)):=Blk.cell P7 0;replace P7:=Hy P7;replace O7:=Hy O7;clear K7 b6 b7 g7));refine (Fu w2.heap.size l2 w7 F7.o.ps).mono ?_;rintro e w8 ⟨rfl,P8,M8⟩;have F8:=Hy (F7.o.step M8 P8);have Bg:Tg w7 w.heap.size 27:=by
   obtain ⟨tv,fv,ct,cf,bM,_⟩:=F7.o.mm.ex;exact bM.tg
  have O8:=Hy (CF O7.o (Mq.mv (g:=w.heap.size) M8) F7.o.ps.tag Bg);have Q8:=Hy (show Blk w8 (w2.heap.size+1) 65 #[.pointer (some ⟨w2.heap.size,0,none⟩)] from Blk.mv P7.o M8 (by omega) (Blk.lt P7.o));clear P8 M8 F7 O7 P7 Bg e7;go_wp2_with fail;go_roundg gk
  case measure=>omega
  case rel=>exact ⟨m,b++[(a,c)],lvR l2,F8,O8,Q8,HM2,Hy (by have:=hlen.o;have:=h1.o;rw [List.length_append,List.length_singleton];omega)⟩
theorem jB (w:World):Calls Tryz.prog 40 #[] w fun e w' => e=.returned (.agg (exC (aS 1) none 0 none 0))∧Below w.heap.size w w':=by
 go_enter Tryz.func40,Tryz.ntmps40
 go_wp2_with fail;refine aF rfl _ _ w.heap.size _ _ rfl (Blk.new w _ _) rfl ?_;exact ⟨rfl,aj (b0 w) _⟩
theorem tQ (s:ByteArray) (w:World):Calls Tryz.prog 39 #[.string s] w fun e w' => e=.returned (.agg (exC (jw s) none 0 none 0))∧Below w.heap.size w w':=by
 go_enter Tryz.func39,Tryz.ntmps39
 go_wp2_with fail;refine aF rfl _ _ w.heap.size _ _ rfl (Blk.new w _ _) rfl ?_;exact ⟨rfl,aj (b0 w) _⟩
theorem uR (n:Int) (w:World):Calls Tryz.prog 42 #[.int .i64 n] w fun e w' => e=.returned (.agg (exC (gP 2 n []) none 0 none 0))∧Below w.heap.size w w':=by
 go_enter Tryz.func42,Tryz.ntmps42
 go_wp2_with fail;refine aF rfl _ _ w.heap.size _ _ rfl (Blk.new w _ _) rfl ?_;exact ⟨rfl,aj (b0 w) _⟩
def tV (op:ByteArray) (x y:Ex):Ex:=⟨{ h0 with k:=7,op:=op },.cons x.h x.ar (.cons y.h y.ar .nil)⟩
theorem zO (op:ByteArray) (x:Ex) (uax:Option Addr) (ucx:Nat) (aax:Option Addr) (acx:Nat) (y:Ex) (uay:Option Addr) (ucy:Nat) (aay:Option Addr) (acy:Nat) (C:Nat) (w:World) (E:Ec C w x uax aax) (E2:Ec C w y uay aay) (hC:C≤w.heap.size) :
    Calls Tryz.prog 41 #[.string op,.agg (exC x uax ucx aax acx),.agg (exC y uay ucy aay acy)] w fun e w' =>
    ∃ aa ac,e=.returned (.agg (exC (tV op x y) none 0 aa ac))∧Ec C w' (tV op x y) none aa∧Below w.heap.size w w':=by
 have EH:=Hy E;have EH2:=Hy E2;clear E E2;unfold tV;unfold exC
 go_enter Tryz.func41,Tryz.ntmps41
 go_wp2_with fail;refine aF rfl _ _ (w.heap.size+2) _ _ rfl (by have:=(Blk.new ((w.alloc (.cells (ex1 x uax ucx aax acx) 43)).alloc (.cells (ex1 y uay ucy aay acy) 43)) 43 (exC ⟨{ h0 with k:=7,op:=op },.cons x.h x.ar (.cons y.h y.ar .nil)⟩ none 0 (some ⟨w.heap.size+3,0,none⟩) 2)).past (.cells (ex2 x uax ucx aax acx y uay ucy aay acy) 43);rw [show ((w.alloc (.cells (ex1 x uax ucx aax acx) 43)).alloc (.cells (ex1 y uay ucy aay acy) 43)).heap.size=w.heap.size+2 by simp] at this;exact this) rfl ?_;refine ⟨some ⟨w.heap.size+3,0,none⟩,2,rfl,⟨.inl rfl,?_⟩,aj (aj (aj (aj (b0 w) _) _) _) _⟩;have hB:=Blk.new (((w.alloc (.cells (ex1 x uax ucx aax acx) 43)).alloc (.cells (ex1 y uay ucy aay acy) 43)).alloc (.cells (exC ⟨{ h0 with k:=7,op:=op },.cons x.h x.ar (.cons y.h y.ar .nil)⟩ none 0 (some ⟨w.heap.size+3,0,none⟩) 2) 43)) 43 (ex2 x uax ucx aax acx y uay ucy aay acy);rw [show (((w.alloc (.cells (ex1 x uax ucx aax acx) 43)).alloc (.cells (ex1 y uay ucy aay acy) 43)).alloc (.cells (exC ⟨{ h0 with k:=7,op:=op },.cons x.h x.ar (.cons y.h y.ar .nil)⟩ none 0 (some ⟨w.heap.size+3,0,none⟩) 2) 43)).heap.size=w.heap.size+3 by simp] at hB;have hk:=aG (C:=C) (aj (aj (aj (aj (b0 w) (.cells (ex1 x uax ucx aax acx) 43)) (.cells (ex1 y uay ucy aay acy) 43)) (.cells (exC ⟨{ h0 with k:=7,op:=op },.cons x.h x.ar (.cons y.h y.ar .nil)⟩ none 0 (some ⟨w.heap.size+3,0,none⟩) 2) 43)) (.cells (ex2 x uax ucx aax acx y uay ucy aay acy) 43));exact fA hB (EH.o.kp hk) (EH2.o.kp hk) (by omega)
def eS1:ByteArray:=⟨#[49,32,43,32,50,32,42,32,97]⟩
def eS2:ByteArray:=⟨#[97,32,100,101,102,97,117,108,116,32,98,32,100,101,102,97,117,108,116,32,49,46,53]⟩
def eS3:ByteArray:=⟨#[99,111,117,110,116,40,116,44,32,97,108,108,32,119,104,101,114,101,32,120,41]⟩
def eS4:ByteArray:=⟨#[97,32,60,32,98,32,60,32,99]⟩
def eS5:ByteArray:=⟨#[99,111,117,110,116,40,116,44,32,97,108,108]⟩
def eS6:ByteArray:=⟨#[49,32,91,109,94,57,93]⟩
def eS7:ByteArray:=⟨#[100,101,99,32,91,101,117,114,32,42,32,104,94,45,49,93]⟩
def eS8:ByteArray:=⟨#[116,97,98,108,101,32,116,32,111,102,32,117,32,123,32,110,58,32,105,110,116,32,125,59,32,116,97,98,108,101,32,120,32,111,102,59,32,102,101,97,116,117,114,101,32,102,32,111,102,32,117,58,32,105,110,116,32,61,32,49,59]⟩
def eX1:Ex:=tV ⟨#[43]⟩ (gP 2 1 []) (tV ⟨#[42]⟩ (gP 2 2 []) (jw ⟨#[97]⟩))
def eXi:Ex:=⟨{ h0 with k:=9 },.cons (jw ⟨#[97]⟩).h (jw ⟨#[97]⟩).ar (.cons (jw ⟨#[98]⟩).h (jw ⟨#[98]⟩).ar .nil)⟩
def eXh:Ex:=gP 3 1500000 []
def eX2:Ex:=⟨{ h0 with k:=9 },.cons eXi.h eXi.ar (.cons eXh.h eXh.ar .nil)⟩
def eX3:Ex:=⟨{ h0 with k:=5,op:=⟨#[99,111,117,110,116]⟩,tb:=⟨#[116]⟩,wk:=1 },.cons (aS 1).h (aS 1).ar (.cons (nO ⟨#[120]⟩).h (nO ⟨#[120]⟩).ar .nil)⟩
def zX:Ex:=⟨h0,.nil⟩
def eT7:Ty:=⟨3,[(⟨#[101,117,114]⟩,1),(⟨#[104]⟩,-1)],.empty⟩
def eM8:Mo:=⟨[⟨⟨#[116]⟩,⟨#[117]⟩,[⟨⟨#[110]⟩,⟨2,[],.empty⟩⟩],0⟩],[⟨⟨#[102]⟩,⟨#[117]⟩,⟨2,[],.empty⟩,gP 2 1 []⟩]⟩
theorem ev1:fH (α:=Ex) ⟨h0,.nil⟩ exR eS1=(eX1,0,0):=by kernel_rfl
theorem ev2:fH (α:=Ex) ⟨h0,.nil⟩ exR eS2=(eX2,0,0):=by kernel_rfl
theorem ev3:fH (α:=Ex) ⟨h0,.nil⟩ exR eS3=(eX3,0,0):=by kernel_rfl
theorem ev4:fH (α:=Ex) ⟨h0,.nil⟩ exR eS4=(zX,6,90):=by kernel_rfl
theorem ev5:fH (α:=Ex) ⟨h0,.nil⟩ exR eS5=(zX,12,90):=by kernel_rfl
theorem ev6:fH (α:=Ex) ⟨h0,.nil⟩ exR eS6=(zX,2,70):=by kernel_rfl
theorem ev7:fH (α:=Ty) ⟨0,[],.empty⟩ typ eS7=(eT7,0,0):=by kernel_rfl
theorem ev8:oO eS8=some (eM8,[(35,90)]):=by kernel_rfl
theorem ek8:dR eS8=0:=by kernel_rfl
theorem vw (C D:Nat) (l:List un.Fa) (ua ub:Option Addr) (uc ud:Nat) (w:World) (hA:Us C w ua l) (hB:Us D w ub l) (hn:l.length≤1048576) :
    Calls Tryz.prog 53 #[.slice ua l.length uc,.slice ub l.length ud] w (Say (.bool true) w):=by
 have h1:=Hy hA;have h2:=Hy hB;have hN:=Hy hn;clear hA hB hn;have qn:((l.length:Int) != (l.length:Int))=false:=by simp
 go_enter Tryz.func53,Tryz.ntmps53
 go_wp2_with fail
 go_loopw [5] (fun i wr => ∃ j:Nat,i=.int .i64 (j:Nat)∧Hid (j≤l.length)∧Below w.heap.size w wr) (fun i _=>l.length - (intOf i).toNat)
 case atStart=>exact ⟨0,rfl,Hy zl,b0 w⟩
 case round =>
  obtain ⟨j,rfl,hj,hb⟩:=hrel;by_cases hlt:j<l.length
  ·have q1:decide ((j:Int)<(l.length:Int))=true:=dT (by omega);obtain ⟨bk,off,rfl,_,hC,_⟩:=(h1.o.kp (aG hb)).resolve_left (by omega);obtain ⟨bk2,off2,rfl,_,hD,_⟩:=(h2.o.kp (aG hb)).resolve_left (by omega);obtain ⟨c0,c1⟩:=hC j (by omega);obtain ⟨d0,d1⟩:=hD j (by omega);have f4:=Hy (aV (j:=j) (by have:=hN.o;omega));have hbh:=Hy hb;have i1:(j:Int)<(l.length:Int):=by omega
   clear hC hD h1 h2 hj hb;generalize un.gt l j=x at *;go_wp2_with fail
   go_region
   go_wp2_with fail;refine ⟨⟨j+1,congrArg (Value.int .i64) f4.o,Hy hlt,hbh.o.drew⟩,aU hlt f4.o⟩
  have q1:decide ((j:Int)<(l.length:Int))=false:=dF (by omega);have hbh:=Hy hb;clear h1 h2 hj hb;go_wp2_with fail;go_ret;exact ⟨rfl,hbh.o⟩
theorem oJ (C D:Nat) (t:Ty) (ua ub:Option Addr) (uc ud:Nat) (w:World) (hA:Us C w ua t.un) (hB:Us D w ub t.un) (hn:t.un.length≤1048576) :
    Calls Tryz.prog 17 #[.agg (tyC t ua uc),.agg (tyC t ub ud)] w (Say (.bool true) w):=by
 have bb:=aj (aj (b0 w) (.cells (tyC t ua uc) 47)) (.cells (tyC t ub ud) 47);have C1:=Hy (vw C D t.un ua ub uc ud _ (hA.kp (aG bb)) (hB.kp (aG bb)) hn);have BB:=Hy bb;clear hA hB bb hn;unfold tyC at *;obtain ⟨tk,tu,tof⟩:=t;simp only at C1 BB ⊢
 go_enter Tryz.func17,Tryz.ntmps17
 go_wp2_with fail;refine C1.o.mono ?_;rintro e w1 ⟨rfl,b1⟩;have B1:=Hy (aD BB.o b1);clear b1;go_wp2_with fail;go_ret;exact ⟨rfl,B1.o⟩
end pa
section
open Go.RowKit dec
def Fo.sm:Fo→Prop
 | .nil=>True
 | .cons h ar r=>h.un.length≤1048576∧ar.len≤1048576∧ar.sm∧r.sm
def Fo.nth:Fo→Nat→Ex
 | .nil,_=>⟨h0,.nil⟩
 | .cons h ar _,0=>⟨h,ar⟩
 | .cons _ _ r,j+1=>r.nth j
def Fo.sz:Fo→Nat
 | .nil=>0
 | .cons _ ar r=>ar.sz+r.sz+1
theorem EL:∀ (F:Fo) (j:Nat),j<F.len→(F.nth j).ar.sz<F.sz
 | .nil,_,h=>absurd h (Nat.not_lt_zero _)
 | .cons h ar r,0,_=>by
  simp only [Fo.nth,Fo.sz]
  omega
 | .cons h ar r,j+1,hj=>by
  have:=EL r j (by simpa [Fo.len] using hj)
  simp only [Fo.nth,Fo.sz]
  omega
theorem EM:∀ (F:Fo) (j:Nat),F.sm→j<F.len→(F.nth j).h.un.length≤1048576∧(F.nth j).ar.len≤1048576∧(F.nth j).ar.sm
 | .nil,_,_,h=>absurd h (Nat.not_lt_zero _)
 | .cons h ar r,0,hs,_=>⟨hs.1,hs.2.1,hs.2.2.1⟩
 | .cons h ar r,j+1,hs,hj=>EM r j hs.2.2.2 (by simpa [Fo.len] using hj)
theorem Di {C:Nat} {w:World} : ∀ (F:Fo) (b off j:Nat),Fm C w F b off→j<F.len→∃ ua uc aa ac,Nd w b (off+j * 12) (F.nth j).h ua uc aa (F.nth j).ar.len ac∧Ec C w (F.nth j) ua aa
 | .nil,_,_,_,_,h=>absurd h (Nat.not_lt_zero _)
 | .cons h ar r,b,off,0,hF,_=>by
  obtain ⟨⟨ua,uc,aa,ac,N,U,A⟩,R⟩:=hF
  exact ⟨ua,uc,aa,ac,by simpa [Fo.nth] using N,U,A⟩
 | .cons h ar r,b,off,j+1,hF,hj=>by
  have:=Di r b (off+12) j hF.2 (by simpa [Fo.len] using hj)
  rw [show off+(j+1) * 12=off+12+j * 12 by omega]
  exact this
theorem yw {w:World} {b off:Nat} {x:Ex} {ua:Option Addr} {uc:Nat} {aa:Option Addr} {ac:Nat} (N:Nd w b off x.h ua uc aa x.ar.len ac):w.rangeAt b off (exC x ua uc aa ac).toList:=by
 intro j v hv;have hj:j<12:=by
  have:=(List.getElem?_eq_some_iff.1 hv).1;simpa [exC] using this
 match j,hj with
 | 0,_=>simp [exC] at hv;rw [← hv];exact N.c0
 | 1,_=>simp [exC] at hv;rw [← hv];exact N.c1
 | 2,_=>simp [exC] at hv;rw [← hv];exact N.c2
 | 3,_=>simp [exC] at hv;rw [← hv];exact N.c3
 | 4,_=>simp [exC] at hv;rw [← hv];exact N.c4
 | 5,_=>simp [exC] at hv;rw [← hv];exact N.c5
 | 6,_=>simp [exC] at hv;rw [← hv];exact N.c6
 | 7,_=>simp [exC] at hv;rw [← hv];exact N.c7
 | 8,_=>simp [exC] at hv;rw [← hv];exact N.c8
 | 9,_=>simp [exC] at hv;rw [← hv];exact N.c9
 | 10,_=>simp [exC] at hv;rw [← hv];exact N.c10
 | 11,_=>simp [exC] at hv;rw [← hv];exact N.c11
end
namespace pa
open Go.RowKit dec
theorem gH {T:TypeId} {n:Nat} {d:TypeDesc} (hi:(Tryz.prog.info? T).map (·.size)=some n) (hu:Tryz.prog.underlying T=some d) (hd:d.isRow=true) {oi:Oper} {a:Act} {w:World} (x:Operand) (ho:oi.op=.load T x)
    (b o:Nat) (cells:Array Value) (hx:a.eval x=.pointer (some ⟨b,o,none⟩)) (hR:w.rangeAt b o cells.toList) (hc:cells.size=n):(execOp a.eval oi).run Tryz.prog w=.ok (.value (.agg cells)) w:=by
 unfold execOp;have:=run_loadVar_mid (P:=Tryz.prog) w b o T cells.toList d hR hu hd (by rw [Array.length_toList,hc];exact hi);simp only [ho,hx,Instr.loadAt,Instr.sureAddr,Sem.run_bind,Sem.run_pure,Result.andThen_ok,this,Array.toArray_toList]
theorem fI {w w':World} {b o:Nat} {cs:List Value} (h:w.rangeAt b o cs) (hb:Below w.heap.size w w'):w'.rangeAt b o cs:=fun j v hv=>dec.keeps hb (h j v hv)
theorem Cm (n:Nat) (IH:∀ (C D:Nat) (x:Ex) (ua aa ub ab:Option Addr) (uc ac ud ad:Nat) (w:World),x.ar.sz<n→x.h.un.length≤1048576→x.ar.len≤1048576→x.ar.sm→Ec C w x ua aa→Ec D w x ub ab→Calls Tryz.prog 16 #[.agg (exC x ua uc aa ac),.agg (exC x ub ud ab ad)] w (Say (.bool true) w))
    (C D:Nat) (x:Ex) (ua aa ub ab:Option Addr) (uc ac ud ad:Nat) (w:World) (hz:x.ar.sz=n) (hu:x.h.un.length≤1048576) (hl:x.ar.len≤1048576) (hs:x.ar.sm) (hA:Ec C w x ua aa) (hB:Ec D w x ub ab) :
    Calls Tryz.prog 16 #[.agg (exC x ua uc aa ac),.agg (exC x ub ud ab ad)] w (Say (.bool true) w):=by
 have bb:=aj (aj (b0 w) (.cells (exC x ua uc aa ac) 43)) (.cells (exC x ub ud ab ad) 43);have A1:=Hy hA;have A2:=Hy hB;have C1:=Hy (vw C D x.h.un ua ub uc ud _ (hA.us.kp (aG bb)) (hB.us.kp (aG bb)) hu);have BB:=Hy bb;have G1:=Hy ((Blk.new w 43 (exC x ua uc aa ac)).past (.cells (exC x ub ud ab ad) 43));have G2:=Hy (by have:=Blk.new (w.alloc (.cells (exC x ua uc aa ac) 43)) 43 (exC x ub ud ab ad);simpa using this:Blk ((w.alloc (.cells (exC x ua uc aa ac) 43)).alloc (.cells (exC x ub ud ab ad) 43)) (w.heap.size+1) 43 (exC x ub ud ab ad));have IH':=Hy IH;have HZ:=Hy hz;have HL:=Hy hl;have HS:=Hy hs;clear hA hB bb hu hl hs hz IH;unfold exC at *
 go_enter Tryz.func16,Tryz.ntmps16
 go_wp2_with fail;refine C1.o.mono ?_;rintro e w1 ⟨rfl,b1⟩;have B1:=Hy (aD BB.o b1);replace G1:=Hy (G1.o.below b1 G1.o.lt);replace G2:=Hy (G2.o.below b1 G2.o.lt);clear b1 BB C1;go_wp2_with fail
 go_loopw [5] (fun i wr => ∃ j:Nat,i=.int .i64 (j:Nat)∧Hid (j≤x.ar.len)∧Hid (Blk wr w.heap.size 43 #[.int .i64 x.h.k,.string x.h.op,.string x.h.nm,.string x.h.tb,.int .i64 x.h.vk,.int .i64 x.h.vn,.string x.h.vs,.slice ua x.h.un.length uc,.int .i64 x.h.pa,.int .i64 x.h.wk,.int .i64 x.h.ws,.slice aa x.ar.len ac])∧Hid (Blk wr (w.heap.size+1) 43 #[.int .i64 x.h.k,.string x.h.op,.string x.h.nm,.string x.h.tb,.int .i64 x.h.vk,.int .i64 x.h.vn,.string x.h.vs,.slice ub x.h.un.length ud,.int .i64 x.h.pa,.int .i64 x.h.wk,.int .i64 x.h.ws,.slice ab x.ar.len ad])∧Hid (Below w.heap.size w wr)) (fun i _=>x.ar.len - (intOf i).toNat)
 case atStart=>exact ⟨0,rfl,Hy zl,G1,G2,B1⟩
 case round =>
  clear G1 G2 B1;obtain ⟨j,rfl,hj,G1,G2,hb⟩:=hrel;have g1:=G1.o.cell 11;have g2:=G2.o.cell 11;simp only [sz2,sz3,sz4] at g1 g2;by_cases hlt:j<x.ar.len
  ·have q1:decide ((j:Int)<(x.ar.len:Int))=true:=dT (by omega);obtain ⟨bk,off,rfl,_,_,hF⟩:=(A1.o.kp (aG hb.o)).ar.resolve_left (by omega);obtain ⟨bk2,off2,rfl,_,_,hF2⟩:=(A2.o.kp (aG hb.o)).ar.resolve_left (by omega);obtain ⟨va,vc,wa,wc,N1,E1⟩:=Di _ _ _ j hF hlt;obtain ⟨vb,vd,wb,wd,N2,E2⟩:=Di _ _ _ j hF2 hlt;have R1:=yw N1;have R2:=yw N2;have f4:=Hy (aV (j:=j) (by have:=HL.o;omega));have hsz:=Hy (EL x.ar j hlt);have hsm:=Hy (EM x.ar j HS.o hlt);have i1:(j:Int)<(x.ar.len:Int):=by omega
   replace E1:=Hy E1;replace E2:=Hy E2;clear hF hF2 N1 N2 A1 A2 hj;generalize x.ar.nth j=y at *;have SS:=Hy (show (Blk wr.drew w.heap.size 43 #[.int .i64 x.h.k,.string x.h.op,.string x.h.nm,.string x.h.tb,.int .i64 x.h.vk,.int .i64 x.h.vn,.string x.h.vs,.slice ua x.h.un.length uc,.int .i64 x.h.pa,.int .i64 x.h.wk,.int .i64 x.h.ws,.slice (some ⟨bk,off,none⟩) x.ar.len ac]∧Blk wr.drew (w.heap.size+1) 43 #[.int .i64 x.h.k,.string x.h.op,.string x.h.nm,.string x.h.tb,.int .i64 x.h.vk,.int .i64 x.h.vn,.string x.h.vs,.slice ub x.h.un.length ud,.int .i64 x.h.pa,.int .i64 x.h.wk,.int .i64 x.h.ws,.slice (some ⟨bk2,off2,none⟩) x.ar.len ad])∧wr.drew.rangeAt bk (off+j * 12) (exC y va vc wa wc).toList∧wr.drew.rangeAt bk2 (off2+j * 12) (exC y vb vd wb wd).toList from ⟨⟨G1.o,G2.o⟩,R1,R2⟩);clear R1 R2;go_wp2_with fail;clear g1 g2;refine wp_region_held_drew (S:=fun w' => (Blk w' w.heap.size 43 #[.int .i64 x.h.k,.string x.h.op,.string x.h.nm,.string x.h.tb,.int .i64 x.h.vk,.int .i64 x.h.vn,.string x.h.vs,.slice ua x.h.un.length uc,.int .i64 x.h.pa,.int .i64 x.h.wk,.int .i64 x.h.ws,.slice (some ⟨bk,off,none⟩) x.ar.len ac]∧Blk w' (w.heap.size+1) 43 #[.int .i64 x.h.k,.string x.h.op,.string x.h.nm,.string x.h.tb,.int .i64 x.h.vk,.int .i64 x.h.vn,.string x.h.vs,.slice ub x.h.un.length ud,.int .i64 x.h.pa,.int .i64 x.h.wk,.int .i64 x.h.ws,.slice (some ⟨bk2,off2,none⟩) x.ar.len ad])∧w'.rangeAt bk (off+j * 12) (exC y va vc wa wc).toList∧w'.rangeAt bk2 (off2+j * 12) (exC y vb vd wb wd).toList) (by kernel_rfl) SS.o (fun hH=>?_);refine aB 0 77 ?_ rfl (by kernel_rfl) rfl (fun _ _ _ h=>h) rfl hH (fun w' hS=>?_) ?_;rotate_left
   ·go_simp;try with_reducible rfl
   simp only [sz0,sz1];refine aB 1 78 ?_ rfl (by kernel_rfl) rfl (fun _ _ _ h=>h) rfl hH (fun w' hS=>?_) ?_;rotate_left
   ·have e1:=hS.1.1.cell 11;simp only [sz2,sz3,sz4] at e1;go_simp;try with_reducible rfl
   simp only [sz0,sz1];refine aB 2 79 ?_ rfl (by kernel_rfl) rfl (fun _ _ _ h=>h) rfl hH (fun w' hS=>?_) ?_;rotate_left
   ·go_simp;try with_reducible rfl
   simp only [sz0,sz1];refine aB 3 80 ?_ rfl (by kernel_rfl) rfl (fun _ _ _ h=>h) rfl hH (fun w' hS=>?_) ?_;rotate_left
   ·go_simp;try with_reducible rfl
   simp only [sz0,sz1];refine aB 4 81 (.agg (exC y va vc wa wc)) rfl (by kernel_rfl) rfl (fun _ _ _ h=>h) rfl hH (fun w' hS=>gH aK Tryz.underlying43 rfl (.tmp 80) rfl _ _ _ rfl hS.2.1 rfl) ?_;simp only [sz0,sz1];refine aB 5 82 ?_ rfl (by kernel_rfl) rfl (fun _ _ _ h=>h) rfl hH (fun w' hS=>?_) ?_;rotate_left
   ·go_simp;try with_reducible rfl
   simp only [sz0,sz1];refine aB 6 83 ?_ rfl (by kernel_rfl) rfl (fun _ _ _ h=>h) rfl hH (fun w' hS=>?_) ?_;rotate_left
   ·have e1:=hS.1.2.cell 11;simp only [sz2,sz3,sz4] at e1;go_simp;try with_reducible rfl
   simp only [sz0,sz1];refine aB 7 84 ?_ rfl (by kernel_rfl) rfl (fun _ _ _ h=>h) rfl hH (fun w' hS=>?_) ?_;rotate_left
   ·go_simp;try with_reducible rfl
   simp only [sz0,sz1];refine aB 8 85 ?_ rfl (by kernel_rfl) rfl (fun _ _ _ h=>h) rfl hH (fun w' hS=>?_) ?_;rotate_left
   ·go_simp;try with_reducible rfl
   simp only [sz0,sz1];refine aB 9 86 (.agg (exC y vb vd wb wd)) rfl (by kernel_rfl) rfl (fun _ _ _ h=>h) rfl hH (fun w' hS=>gH aK Tryz.underlying43 rfl (.tmp 85) rfl _ _ _ rfl hS.2.2 rfl) ?_;simp only [sz0,sz1];refine ak (i:=10) rfl (by kernel_rfl) rfl (fun K hK=>?_);go_simp;refine (IH'.o C D y va wa vb wb vc wc vd wd _ (by have:=hsz.o;have:=HZ.o;omega) hsm.o.1 hsm.o.2.1 hsm.o.2.2 (E1.o.kp (aG (b0 wr).drew)) (E2.o.kp (aG (b0 wr).drew))).mono ?_;rintro e w5 ⟨rfl,b5⟩;refine hK.o _ _ ⟨⟨hH.1.1.below b5 hH.1.1.lt,hH.1.2.below b5 hH.1.2.lt⟩,fI hH.2.1 b5,fI hH.2.2 b5⟩ (fun hH=>?_);clear hK K;have G3:=Hy hH.1.1;have G4:=Hy hH.1.2;have B5:=Hy (hb.o.drew.trans (b5.mono hb.o.size));clear b5 SS;refine aB 11 88 ?_ rfl (by kernel_rfl) rfl (fun _ _ _ h=>h) rfl hH (fun w' hS=>?_) ?_;rotate_left
   ·go_simp;try with_reducible rfl
   simp only [sz0,sz1];clear hH;refine wpAnyH_done (by kernel_rfl) ?_ _;go_wp2_with fail;refine ⟨⟨j+1,congrArg (Value.int .i64) f4.o,Hy hlt,G3,G4,B5⟩,aU hlt f4.o⟩
  have q1:decide ((j:Int)<(x.ar.len:Int))=false:=dF (by omega);clear A1 A2 hj;go_wp2_with fail;go_ret;exact ⟨rfl,hb.o⟩
theorem lD (C D:Nat) (x:Ex) (ua aa ub ab:Option Addr) (uc ac ud ad:Nat) (w:World) (hu:x.h.un.length≤1048576) (hl:x.ar.len≤1048576) (hs:x.ar.sm) (hA:Ec C w x ua aa) (hB:Ec D w x ub ab) :
    Calls Tryz.prog 16 #[.agg (exC x ua uc aa ac),.agg (exC x ub ud ab ad)] w (Say (.bool true) w):=by
 have key:∀ n,∀ (C D:Nat) (x:Ex) (ua aa ub ab:Option Addr) (uc ac ud ad:Nat) (w:World),x.ar.sz<n→x.h.un.length≤1048576→x.ar.len≤1048576→x.ar.sm→Ec C w x ua aa→Ec D w x ub ab→Calls Tryz.prog 16 #[.agg (exC x ua uc aa ac),.agg (exC x ub ud ab ad)] w (Say (.bool true) w):=by
  intro n
  induction n with
  | zero=>intro C D x ua aa ub ab uc ac ud ad w h;exact absurd h (Nat.not_lt_zero _)
  | succ n ih =>
    intro C D x ua aa ub ab uc ac ud ad w h hu hl hs hA hB
    exact Cm x.ar.sz (fun C' D' x' ua' aa' ub' ab' uc' ac' ud' ad' w' h' => ih C' D' x' ua' aa' ub' ab' uc' ac' ud' ad' w' (by omega)) C D x ua aa ub ab uc ac ud ad w rfl hu hl hs hA hB
 exact key _ C D x ua aa ub ab uc ac ud ad w ls hu hl hs hA hB
theorem Ep (l:List Pb) (a b:Option Addr) (n c d:Nat) (w:World) (hA:pb.Sl w a n c l) (hB:pb.Sl w b n d l) (hn:n≤1048576) :
    Calls Tryz.prog 10 #[.slice a n c,.slice b n d] w (Say (.bool true) w):=by
 have h1:=Hy hA;have h2:=Hy hB;have hN:=Hy hn;clear hA hB hn;have qn:((n:Int) != (n:Int))=false:=by simp
 go_enter Tryz.func10,Tryz.ntmps10
 go_wp2_with fail
 go_loopw [5] (fun i wr => ∃ j:Nat,i=.int .i64 (j:Nat)∧Hid (j≤n)∧Below w.heap.size w wr) (fun i _=>n - (intOf i).toNat)
 case atStart=>exact ⟨0,rfl,Hy zl,b0 w⟩
 case round =>
  obtain ⟨j,rfl,hj,hb⟩:=hrel;by_cases hlt:j<n
  ·have q1:decide ((j:Int)<(n:Int))=true:=dT (by omega);have s1:=h1.o.keeps hb;have s2:=h2.o.keeps hb;have hln:=s1.hn;obtain ⟨bk,off,rfl,hC⟩:=s1.hat.resolve_left (by omega);obtain ⟨bk2,off2,rfl,hD⟩:=s2.hat.resolve_left (by omega);obtain ⟨c0,c1⟩:=hC j (by omega);obtain ⟨d0,d1⟩:=hD j (by omega);have f4:=Hy (aV (j:=j) (by have:=hN.o;omega));have hbh:=Hy hb;have i1:(j:Int)<(n:Int):=by omega
   clear hC hD h1 h2 hj hb s1 s2 hln;generalize pb.gt l j=x at *;go_wp2_with fail
   go_region
   go_wp2_with fail;refine ⟨⟨j+1,congrArg (Value.int .i64) f4.o,Hy hlt,hbh.o.drew⟩,aU hlt f4.o⟩
  have q1:decide ((j:Int)<(n:Int))=false:=dF (by omega);have hbh:=Hy hb;clear h1 h2 hj hb;go_wp2_with fail;go_ret;exact ⟨rfl,hbh.o⟩
theorem NI {w:World} {b o:Nat} {x y z:Value} (h0:w.cell? ⟨b,o,none⟩=some x) (h1:w.cell? ⟨b,o+1,none⟩=some y) (h2:w.cell? ⟨b,o+2,none⟩=some z):w.rangeAt b o [x,y,z]:=by
 intro j v hv;have hj:j<3:=by
  have:=(List.getElem?_eq_some_iff.1 hv).1;simpa using this
 match j,hj with
 | 0,_=>simp at hv;rw [← hv];exact h0
 | 1,_=>simp at hv;rw [← hv];exact h1
 | 2,_=>simp at hv;rw [← hv];exact h2
theorem FH {C:Nat} {w:World} {a:Option Addr} {l:List Fi} (h:FsA C w a l) (j:Nat) (hj:j<l.length):∃ bk off ua uc,a=some ⟨bk,off,none⟩∧w.cell? ⟨bk,off+j * 4,none⟩=some (.string l[j].nm)∧w.rangeAt bk (off+j * 4+1) (tyC l[j].ty ua uc).toList∧Us C w ua l[j].ty.un:=by
 rcases h with h | ⟨b,off,cs,e,_,_,hl,hc,hq⟩
 ·omega
 obtain ⟨ua,uc,e2,U⟩:=hq j (by omega) hj;have k:∀ i (hi:i<4) u,[Value.string l[j].nm,.int .i64 l[j].ty.k,.slice ua l[j].ty.un.length uc,.string l[j].ty.of][i]? = some u→w.cell? ⟨b,off+j * 4+i,none⟩=some u:=fun i hi u hu=>by
  obtain ⟨v,h1,h2⟩:=hc j i (by omega) hi;rw [e2,hu] at h1;cases h1;rw [Nat.add_assoc];exact h2
 exact ⟨b,off,ua,uc,e,k 0 (by decide) _ rfl,NI (k 1 (by decide) _ rfl) (k 2 (by decide) _ rfl) (k 3 (by decide) _ rfl),U⟩
theorem Ck (C D:Nat) (t:Tb) (aa ab:Option Addr) (ac ad:Nat) (w:World) (hA:FsA C w aa t.fs) (hB:FsA D w ab t.fs) (hn:t.fs.length≤1048576) (hu:∀ f ∈ t.fs,f.ty.un.length≤1048576) :
    Calls Tryz.prog 38 #[.agg #[.string t.nm,.string t.en,.slice aa t.fs.length ac,.int .i64 t.kp],.agg #[.string t.nm,.string t.en,.slice ab t.fs.length ad,.int .i64 t.kp]] w (Say (.bool true) w):=by
 have A1:=Hy hA;have A2:=Hy hB;have BB:=Hy (aj (aj (b0 w) (.cells #[.string t.nm,.string t.en,.slice aa t.fs.length ac,.int .i64 t.kp] 85)) (.cells #[.string t.nm,.string t.en,.slice ab t.fs.length ad,.int .i64 t.kp] 85));have G1:=Hy ((Blk.new w 85 #[.string t.nm,.string t.en,.slice aa t.fs.length ac,.int .i64 t.kp]).past (.cells #[.string t.nm,.string t.en,.slice ab t.fs.length ad,.int .i64 t.kp] 85));have G2:=Hy (by have:=Blk.new (w.alloc (.cells #[.string t.nm,.string t.en,.slice aa t.fs.length ac,.int .i64 t.kp] 85)) 85 #[.string t.nm,.string t.en,.slice ab t.fs.length ad,.int .i64 t.kp];simpa using this:Blk ((w.alloc (.cells #[.string t.nm,.string t.en,.slice aa t.fs.length ac,.int .i64 t.kp] 85)).alloc (.cells #[.string t.nm,.string t.en,.slice ab t.fs.length ad,.int .i64 t.kp] 85)) (w.heap.size+1) 85 #[.string t.nm,.string t.en,.slice ab t.fs.length ad,.int .i64 t.kp]);have HL:=Hy hn;have HU:=Hy hu;clear hA hB hn hu
 go_enter Tryz.func38,Tryz.ntmps38
 go_wp2_with fail
 go_loopw [5] (fun i wr => ∃ j:Nat,i=.int .i64 (j:Nat)∧Hid (j≤t.fs.length)∧Hid (Blk wr w.heap.size 85 #[.string t.nm,.string t.en,.slice aa t.fs.length ac,.int .i64 t.kp])∧Hid (Blk wr (w.heap.size+1) 85 #[.string t.nm,.string t.en,.slice ab t.fs.length ad,.int .i64 t.kp])∧Hid (Below w.heap.size w wr)) (fun i _=>t.fs.length - (intOf i).toNat)
 case atStart=>exact ⟨0,rfl,Hy zl,G1,G2,BB⟩
 case round =>
  clear G1 G2 BB;obtain ⟨j,rfl,hj,G1,G2,hb⟩:=hrel;have g1:=G1.o.cell 2;have g2:=G2.o.cell 2;simp only [sz2,sz3,sz4] at g1 g2;by_cases hlt:j<t.fs.length
  ·have q1:decide ((j:Int)<(t.fs.length:Int))=true:=dT (by omega);have f4:=Hy (aV (j:=j) (by have:=HL.o;omega));have hsm:=Hy (HU.o t.fs[j] (List.getElem_mem hlt));have i1:(j:Int)<(t.fs.length:Int):=by omega
   have A3:=FsA.kpT trivial trivial A1.o (aG (C:=C) hb.o);have A4:=FsA.kpT trivial trivial A2.o (aG (C:=D) hb.o);obtain ⟨bk,off,va,vc,rfl,N1,R1,U1⟩:=FH A3 j hlt;obtain ⟨bk2,off2,vb,vd,rfl,N2,R2,U2⟩:=FH A4 j hlt;replace U1:=Hy U1;replace U2:=Hy U2;clear A1 A2 A3 A4 hj;generalize t.fs[j]=f at *;have SS:=Hy (show (Blk wr.drew w.heap.size 85 #[.string t.nm,.string t.en,.slice (some ⟨bk,off,none⟩) t.fs.length ac,.int .i64 t.kp]∧Blk wr.drew (w.heap.size+1) 85 #[.string t.nm,.string t.en,.slice (some ⟨bk2,off2,none⟩) t.fs.length ad,.int .i64 t.kp])∧(wr.drew.cell? ⟨bk,off+j * 4,none⟩=some (.string f.nm)∧wr.drew.cell? ⟨bk2,off2+j * 4,none⟩=some (.string f.nm))∧wr.drew.rangeAt bk (off+j * 4+1) (tyC f.ty va vc).toList∧wr.drew.rangeAt bk2 (off2+j * 4+1) (tyC f.ty vb vd).toList from ⟨⟨G1.o,G2.o⟩,⟨N1,N2⟩,R1,R2⟩);clear R1 R2 N1 N2;go_wp2_with fail;clear g1 g2;refine wp_region_held_drew (S:=fun w' => (Blk w' w.heap.size 85 #[.string t.nm,.string t.en,.slice (some ⟨bk,off,none⟩) t.fs.length ac,.int .i64 t.kp]∧Blk w' (w.heap.size+1) 85 #[.string t.nm,.string t.en,.slice (some ⟨bk2,off2,none⟩) t.fs.length ad,.int .i64 t.kp])∧(w'.cell? ⟨bk,off+j * 4,none⟩=some (.string f.nm)∧w'.cell? ⟨bk2,off2+j * 4,none⟩=some (.string f.nm))∧w'.rangeAt bk (off+j * 4+1) (tyC f.ty va vc).toList∧w'.rangeAt bk2 (off2+j * 4+1) (tyC f.ty vb vd).toList) (by kernel_rfl) SS.o (fun hH=>?_);refine aB 0 41 ?_ rfl (by kernel_rfl) rfl (fun _ _ _ h=>h) rfl hH (fun w' hS=>?_) ?_;rotate_left
   ·go_simp;try with_reducible rfl
   simp only [sz0,sz1];refine aB 1 42 ?_ rfl (by kernel_rfl) rfl (fun _ _ _ h=>h) rfl hH (fun w' hS=>?_) ?_;rotate_left
   ·have e1:=hS.1.1.cell 2;simp only [sz2,sz3,sz4] at e1;go_simp;try with_reducible rfl
   simp only [sz0,sz1];refine aB 2 43 ?_ rfl (by kernel_rfl) rfl (fun _ _ _ h=>h) rfl hH (fun w' hS=>?_) ?_;rotate_left
   ·go_simp;try with_reducible rfl
   simp only [sz0,sz1];refine aB 3 44 ?_ rfl (by kernel_rfl) rfl (fun _ _ _ h=>h) rfl hH (fun w' hS=>?_) ?_;rotate_left
   ·go_simp;try with_reducible rfl
   simp only [sz0,sz1];refine aB 4 45 ?_ rfl (by kernel_rfl) rfl (fun _ _ _ h=>h) rfl hH (fun w' hS=>?_) ?_;rotate_left
   ·go_simp;try with_reducible rfl
   simp only [sz0,sz1];refine aB 5 46 ?_ rfl (by kernel_rfl) rfl (fun _ _ _ h=>h) rfl hH (fun w' hS=>?_) ?_;rotate_left
   ·have e1:=hS.2.1.1;go_simp;try with_reducible rfl
   simp only [sz0,sz1];refine aB 6 47 ?_ rfl (by kernel_rfl) rfl (fun _ _ _ h=>h) rfl hH (fun w' hS=>?_) ?_;rotate_left
   ·go_simp;try with_reducible rfl
   simp only [sz0,sz1];refine aB 7 48 ?_ rfl (by kernel_rfl) rfl (fun _ _ _ h=>h) rfl hH (fun w' hS=>?_) ?_;rotate_left
   ·have e1:=hS.1.2.cell 2;simp only [sz2,sz3,sz4] at e1;go_simp;try with_reducible rfl
   simp only [sz0,sz1];refine aB 8 49 ?_ rfl (by kernel_rfl) rfl (fun _ _ _ h=>h) rfl hH (fun w' hS=>?_) ?_;rotate_left
   ·go_simp;try with_reducible rfl
   simp only [sz0,sz1];refine aB 9 50 ?_ rfl (by kernel_rfl) rfl (fun _ _ _ h=>h) rfl hH (fun w' hS=>?_) ?_;rotate_left
   ·go_simp;try with_reducible rfl
   simp only [sz0,sz1];refine aB 10 51 ?_ rfl (by kernel_rfl) rfl (fun _ _ _ h=>h) rfl hH (fun w' hS=>?_) ?_;rotate_left
   ·go_simp;try with_reducible rfl
   simp only [sz0,sz1];refine aB 11 52 ?_ rfl (by kernel_rfl) rfl (fun _ _ _ h=>h) rfl hH (fun w' hS=>?_) ?_;rotate_left
   ·have e1:=hS.2.1.2;go_simp;try with_reducible rfl
   simp only [sz0,sz1];refine aB 12 53 ?_ rfl (by kernel_rfl) rfl (fun _ _ _ h=>h) rfl hH (fun w' hS=>?_) ?_;rotate_left
   ·go_simp;try with_reducible rfl
   simp only [sz0,sz1];refine aB 13 54 ?_ rfl (by kernel_rfl) rfl (fun _ _ _ h=>h) rfl hH (fun w' hS=>?_) ?_;rotate_left
   ·go_simp;try with_reducible rfl
   simp only [sz0,sz1];refine aB 14 55 ?_ rfl (by kernel_rfl) rfl (fun _ _ _ h=>h) rfl hH (fun w' hS=>?_) ?_;rotate_left
   ·go_simp;try with_reducible rfl
   simp only [sz0,sz1];refine aB 15 56 ?_ rfl (by kernel_rfl) rfl (fun _ _ _ h=>h) rfl hH (fun w' hS=>?_) ?_;rotate_left
   ·have e1:=hS.1.1.cell 2;simp only [sz2,sz3,sz4] at e1;go_simp;try with_reducible rfl
   simp only [sz0,sz1];refine aB 16 57 ?_ rfl (by kernel_rfl) rfl (fun _ _ _ h=>h) rfl hH (fun w' hS=>?_) ?_;rotate_left
   ·go_simp;try with_reducible rfl
   simp only [sz0,sz1];refine aB 17 58 ?_ rfl (by kernel_rfl) rfl (fun _ _ _ h=>h) rfl hH (fun w' hS=>?_) ?_;rotate_left
   ·go_simp;try with_reducible rfl
   simp only [sz0,sz1];refine aB 18 59 ?_ rfl (by kernel_rfl) rfl (fun _ _ _ h=>h) rfl hH (fun w' hS=>?_) ?_;rotate_left
   ·go_simp;try with_reducible rfl
   simp only [sz0,sz1];refine aB 19 60 (.agg (tyC f.ty va vc)) rfl (by kernel_rfl) rfl (fun _ _ _ h=>h) rfl hH (fun w' hS=>gH bq Tryz.underlying47 rfl (.tmp 59) rfl _ _ _ rfl hS.2.2.1 rfl) ?_;simp only [sz0,sz1];refine aB 20 61 ?_ rfl (by kernel_rfl) rfl (fun _ _ _ h=>h) rfl hH (fun w' hS=>?_) ?_;rotate_left
   ·go_simp;try with_reducible rfl
   simp only [sz0,sz1];refine aB 21 62 ?_ rfl (by kernel_rfl) rfl (fun _ _ _ h=>h) rfl hH (fun w' hS=>?_) ?_;rotate_left
   ·have e1:=hS.1.2.cell 2;simp only [sz2,sz3,sz4] at e1;go_simp;try with_reducible rfl
   simp only [sz0,sz1];refine aB 22 63 ?_ rfl (by kernel_rfl) rfl (fun _ _ _ h=>h) rfl hH (fun w' hS=>?_) ?_;rotate_left
   ·go_simp;try with_reducible rfl
   simp only [sz0,sz1];refine aB 23 64 ?_ rfl (by kernel_rfl) rfl (fun _ _ _ h=>h) rfl hH (fun w' hS=>?_) ?_;rotate_left
   ·go_simp;try with_reducible rfl
   simp only [sz0,sz1];refine aB 24 65 ?_ rfl (by kernel_rfl) rfl (fun _ _ _ h=>h) rfl hH (fun w' hS=>?_) ?_;rotate_left
   ·go_simp;try with_reducible rfl
   simp only [sz0,sz1];refine aB 25 66 (.agg (tyC f.ty vb vd)) rfl (by kernel_rfl) rfl (fun _ _ _ h=>h) rfl hH (fun w' hS=>gH bq Tryz.underlying47 rfl (.tmp 65) rfl _ _ _ rfl hS.2.2.2 rfl) ?_;simp only [sz0,sz1];refine ak (i:=26) rfl (by kernel_rfl) rfl (fun K hK=>?_);go_simp;refine (oJ C D f.ty va vb vc vd _ (U1.o.kp (aG (b0 wr).drew)) (U2.o.kp (aG (b0 wr).drew)) hsm.o).mono ?_;rintro e w5 ⟨rfl,b5⟩;refine hK.o _ _ ⟨⟨hH.1.1.below b5 hH.1.1.lt,hH.1.2.below b5 hH.1.2.lt⟩,⟨dec.keeps b5 hH.2.1.1,dec.keeps b5 hH.2.1.2⟩,fI hH.2.2.1 b5,fI hH.2.2.2 b5⟩ (fun hH=>?_);clear hK K;have G3:=Hy hH.1.1;have G4:=Hy hH.1.2;have B5:=Hy (hb.o.drew.trans (b5.mono hb.o.size));clear b5 SS;refine aB 27 68 ?_ rfl (by kernel_rfl) rfl (fun _ _ _ h=>h) rfl hH (fun w' hS=>?_) ?_;rotate_left
   ·go_simp;try with_reducible rfl
   simp only [sz0,sz1];refine aB 28 69 ?_ rfl (by kernel_rfl) rfl (fun _ _ _ h=>h) rfl hH (fun w' hS=>?_) ?_;rotate_left
   ·go_simp;try with_reducible rfl
   simp only [sz0,sz1];clear hH;refine wpAnyH_done (by kernel_rfl) ?_ _;go_wp2_with fail;refine ⟨⟨j+1,congrArg (Value.int .i64) f4.o,Hy hlt,G3,G4,B5⟩,aU hlt f4.o⟩
  have q1:decide ((j:Int)<(t.fs.length:Int))=false:=dF (by omega);clear A1 A2 hj;go_wp2_with fail;go_ret;exact ⟨rfl,hb.o⟩
end pa
end Go.Proofs.YtbpijgddfaefkaaGreatDoor
