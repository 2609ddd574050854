/-
  parser.Module; The statements' helpers that make expressions; What the sources of the examples are read as; The reference's sameUnit and SameType: of equal ones; The reference's SameExpr: of equal ones; What is parsed is short throughout; The reference's SameModule: of equal ones; Tokens that differ in their offsets alone are read alike; More steps change no answer; what is read depends on the tokens that are read and on the one behind them; A source between parentheses is read as the source; What is parsed as a module is short throughout.
-/
import Derived.Test.YtbpijgddfaefkaaGreatDoorV19
set_option maxRecDepth 100000
set_option maxHeartbeats 16000000
namespace Go.Proofs.YtbpijgddfaefkaaGreatDoor.pa
open Go.RowKit dec
def JW (s:ByteArray):Option (Mo × List Pb):=oI ((aU s).length+1) ⟨[],[]⟩ (dL s) (aU s)
def Mov (C:Nat) (w:World) (v:Value) (m:Mo):Prop:=∃ ta tc fa fc,v=.agg #[.slice ta m.ts.length tc,.slice fa m.fs.length fc]∧RowAt 85 4 C (TbQ C) w ta m.ts∧RowAt 88 18 C (FeQ C) w fa m.fs
def zM:Array Value:=#[.slice none 0 0,.slice none 0 0]
def Pbv (w:World) (u:Value) (b:List Pb):Prop:=∃ p a c,p.Perm b∧pb.kI p∧u=.slice a (min b.length 32) c∧pb.Sl w a (min b.length 32) c (p.take 32)
theorem DL (a:Option Addr) (n c:Nat) (h:n≤c) (W:World):(Instr.slice 28 (.slice a n c) none (some (.int .i64 (min (n:Int) 32))) none).run Tryz.prog W=.ok (.slice a (min n 32) c) W:=by
 have hel:Tryz.prog.elem 28=72:=by kernel_rfl
 have h1:=run_slice_h (P:=Tryz.prog) (w:=W) 28 a n c (by rw [hel];exact Tryz.underlying28) .i64 (min (n:Int) 32) (by omega) (by omega)
 have e:(min (n:Int) 32).toNat=min n 32:=by omega
 rw [h1,hel,Tryz.sizeOf72,e]
 simp [Result.andThen,sliced]
 intro _
 cases a with
 | none=>rfl
 | some x=>simp only [Option.map_some,Option.some.injEq];unfold Addr.add;split <;> simp_all
theorem EF {m m':Mo} {l r:List Tk} (h:dS m l=.ok m' r):m'.ts.length+m'.fs.length=m.ts.length+m.fs.length+1:=by
 unfold dS at h
 split at h
 ·obtain ⟨t,q,h1,h2⟩:=bind_ok h
  cases h2
  simp
  omega
 ·split at h
  ·obtain ⟨t,q,h1,h2⟩:=bind_ok h
   cases h2
   simp
   omega
  ·cases h
theorem Ae (a0:Option Addr) (n0 cap:Nat) (s:ByteArray) (w:World) (hS:Bs w a0 n0 cap s) (T:Tabs w) (he:cO s=0) (m9:Mo) (b9:List Pb) (hm:JW s=some (m9,b9)) :
  Calls Tryz.prog 7 #[.slice a0 n0 cap] w fun e w' => ∃ v u,e=.returned (.tuple #[v,u,.int .i64 0])∧Mov w.heap.size w' v m9∧Pbv w' u b9∧Below w.heap.size w w':=by
 have bb:=aj (b0 w) (.cells zM 27)
 have R:=Hy (Blk.new w 27 zM)
 have TC:=Hy (lD a0 n0 cap s _ (hS.keeps bb) (T.stays bb))
 have T0:=Hy T
 have BB:=Hy bb
 have HM:=Hy hm
 have hz:=Hy (gN (jq he))
 clear hS T bb hm
 go_enter Tryz.func7,Tryz.ntmps7
 go_wp2_with fail
 refine TC.o.mono ?_
 rintro e w2 ⟨vt,vb,rfl,Ot,Ob,b2⟩
 have R2:=Hy (R.o.below b2 R.o.lt)
 have B2:=Hy (aD BB.o b2)
 have hs2:=Hy (show w.heap.size+1≤w2.heap.size from by have:=b2.size;simpa using this)
 rw [show (w.alloc (.cells zM 27)).heap.size=w.heap.size+1 by simp] at Ot Ob
 obtain ⟨ta,tcap,rfl,St0⟩:=Ot.sl
 replace Ob:=Hy Ob
 rw [he]
 have hOt:∀ b off,ta=some ⟨b,off,none⟩→w.heap.size+1≤b∧b<w2.heap.size∧Tg w2 b 69:=fun b off e=>by
  rcases Ot.2 with ⟨h1,_⟩ | ⟨g',cp,cur,h1,hbg,hh,_⟩
  ·injection h1 with i1
   rw [i1] at e
   cases e
  ·injection h1 with i1
   rw [i1] at e
   cases e
   exact ⟨hbg,dh hh,_,_,hh⟩
 have pc:=aj (aj (b0 w2) (.cells #[.slice ta (aU s).length tcap,.int .i64 0] 67)) (.cells #[.pointer (some ⟨w2.heap.size,0,none⟩)] 65)
 have BP:=(Blk.new w2 67 #[.slice ta (aU s).length tcap,.int .i64 0]).past (.cells #[.pointer (some ⟨w2.heap.size,0,none⟩)] 65)
 have BQ:Blk ((w2.alloc (.cells #[.slice ta (aU s).length tcap,.int .i64 0] 67)).alloc (.cells #[.pointer (some ⟨w2.heap.size,0,none⟩)] 65)) (w2.heap.size+1) 65 #[.pointer (some ⟨w2.heap.size,0,none⟩)]:=by
  have:=Blk.new (w2.alloc (.cells #[.slice ta (aU s).length tcap,.int .i64 0] 67)) 65 #[.pointer (some ⟨w2.heap.size,0,none⟩)]
  simpa using this
 have P3:Ps ((w2.alloc (.cells #[.slice ta (aU s).length tcap,.int .i64 0] 67)).alloc (.cells #[.pointer (some ⟨w2.heap.size,0,none⟩)] 65)) w2.heap.size (aU s) :=
  ⟨⟨ta,(aU s).length,tcap,aU s,0,BP.cell 0,BP.cell 1,BP.free 1,St0.keeps pc,fun b off hb=>(hOt b off hb).2.1,rfl⟩,hz.o,⟨w2,T0.o.stays B2.o,pc,Nat.le_refl _⟩,BP.tg⟩
 have F3:=Hy (show Mf w (w2.heap.size+2) w2.heap.size w.heap.size ta (aU s).length tcap ((w2.alloc (.cells #[.slice ta (aU s).length tcap,.int .i64 0] 67)).alloc (.cells #[.pointer (some ⟨w2.heap.size,0,none⟩)] 65)) ⟨[],[]⟩ (aU s) from
  ⟨P3,BP.cell 0,fun b off e=>by
   obtain ⟨h1,h2,cs,fr,h3⟩:=hOt b off e
   exact ⟨by omega,by omega,cs,fr,(pc.block b h2).trans h3⟩,T0.o,aD B2.o pc,Nat.le_refl _,by have:=hs2.o;omega,by omega,by simp,⟨.slice none 0 0,.slice none 0 0,[],[],R2.o.below pc R2.o.lt,Rw.nil _ _ _ _,Rw.nil _ _ _ _,Each.nil _ _,Each.nil _ _⟩⟩)
 have O3:=Hy (Ob.o.keeps pc)
 have BQ3:=Hy BQ
 have hlen:=Hy (show ([]:List Tb).length+([]:List Fe).length+(aU s).length≤1048576∧(dL s).length+(aU s).length≤1048608 from by
  have h1:=hz.o.ln
  have h2:(dL s).length≤32:=by unfold dL;split <;> simp [List.length_take];omega
  exact ⟨by simpa using h1,by omega⟩)
 clear pc BP BQ P3 hOt St0 Ot Ob TC R R2 BB T0
 go_wp2_with fail
 generalize ((w2.alloc (.cells #[.slice ta (aU s).length tcap,.int .i64 0] 67)).alloc (.cells #[.pointer (some ⟨w2.heap.size,0,none⟩)] 65))=w3 at *
 have hmf:∀ (fn:Fn) (first cap:Array Value) (w:World),(Instr.makeFunc fn first cap).run Tryz.prog w=.ok (.func fn first cap) w:=fun _ _ _ _=>rfl
 have F0:=tf0
 go_loopg [3] ((aU s).length+1) (fun k v wr => ∃ (m:Mo) (b:List Pb) (l:List Tk),Hid (Mf w (w2.heap.size+2) w2.heap.size w.heap.size ta (aU s).length tcap wr m l)∧Hid (pb.Own wr (w.heap.size+1) v b)∧Hid (Blk wr (w2.heap.size+1) 65 #[.pointer (some ⟨w2.heap.size,0,none⟩)])∧Hid (oI k m b l=some (m9,b9))∧Hid (m.ts.length+m.fs.length+l.length≤1048576∧b.length+l.length≤1048608))
 case atStart=>exact ⟨⟨[],[]⟩,dL s,aU s,F3,O3,BQ3,HM,hlen⟩
 case round =>
  clear F3 O3 BQ3 HM hlen
  obtain ⟨m,b,l,F,O,Q,HM,hlen⟩:=hrel
  rcases gk with _ | gk
  ·exact absurd HM.o (by simp [oI])
  have e0:wr.cell? ⟨w2.heap.size+1,0,none⟩=some (.pointer (some ⟨w2.heap.size,0,none⟩)):=Q.o.cell 0
  go_wp2_with fail
  refine (dV w2.heap.size l _ F.o.ps).mono ?_
  rintro e w4 ⟨rfl,b4⟩
  have F4:=Hy (F.o.step (Mv.of b4) (F.o.ps.keeps b4))
  have O4:=Hy (O.o.keeps b4)
  have Q4:=Hy (Q.o.below b4 Q.o.lt)
  clear b4 F O Q e0
  by_cases h6:(hd l).k=6
  ·have q1:((hd l).k != 6)=false:=by simp [h6]
   obtain ⟨rfl,rfl⟩:m=m9∧b=b9:=by simpa [oI,h6] using HM.o
   clear h6 HM
   generalize hd l=x at *
   go_wp2_with fail
   refine (pb.oz (w.heap.size+1) _ b w4 O4.o (by have:=hlen.o;omega)).mono ?_
   rintro e w5 ⟨rfl,a5,c5,p,rfl,hp,hs,S5,g5,hT5⟩
   have F5:=F4.o.kp (yB O4.o g5) ((Below.refl w.heap.size w4).grown g5 F4.o.bel.size (fun k hk=>by have:=(hT5 k hk).2;omega))
   obtain ⟨tv,fv,ct,cf,bM,r1,r2,e1,e2⟩:=F5.mm.ex
   obtain ⟨ra,rc,rfl,RA⟩:=r1.row e1.1 e1.2
   obtain ⟨fa,fc,rfl,FA⟩:=r2.row e2.1 e2.2
   have hne:∀ x,a5=some x→x.block≠w.heap.size:=fun x hx=>by
    subst hx
    have:=(hT5 x.block rfl).2
    omega
   have sl:=DL a5 b.length c5 S5.hcap
   have hbel:=Hy F5.bel
   have hbase:=Hy (show w.heap.size<w2.heap.size+2 from by have:=hs2.o;omega)
   replace RA:=Hy RA
   replace FA:=Hy FA
   replace S5:=Hy S5
   replace hne:=Hy hne
   clear r1 r2 e1 e2 F5 g5 hT5 F4 O4 Q4
   go_wp2_with fail
   refine wp_region_held_drew (S:=fun w' => Blk w' w.heap.size 27 #[.slice ra m.ts.length rc,.slice fa m.fs.length fc]) (by kernel_rfl) bM (fun hH=>?_)
   refine aA 0 38 (.agg #[.slice ra m.ts.length rc,.slice fa m.fs.length fc]) rfl (by kernel_rfl) rfl (fun _ _ _ h=>h) rfl hH (fun w' hS=>bC uj Tryz.underlying27 rfl (.tmp 2) rfl _ _ _ rfl hS rfl) ?_
   simp only [List.set_cons_zero,List.set_cons_succ]
   refine aA 1 39 ?_ rfl (by kernel_rfl) rfl (fun _ _ _ h=>h) rfl hH (fun w' hS=>?_) ?_
   rotate_left
   ·go_simp;first | done | with_reducible rfl
   simp only [List.set_cons_zero,List.set_cons_succ]
   refine aA 2 40 ?_ rfl (by kernel_rfl) rfl (fun _ _ _ h=>h) rfl hH (fun w' hS=>?_) ?_
   rotate_left
   ·go_simp;first | done | with_reducible rfl
   simp only [List.set_cons_zero,List.set_cons_succ]
   refine aA 3 41 ?_ rfl (by kernel_rfl) rfl (fun _ _ _ h=>h) rfl hH (fun w' hS=>?_) ?_
   rotate_left
   ·go_simp;first | done | with_reducible rfl
   simp only [List.set_cons_zero,List.set_cons_succ]
   refine aA 4 42 ?_ rfl (by kernel_rfl) rfl (fun _ _ _ h=>h) rfl hH (fun w' hS=>?_) ?_
   rotate_left
   ·go_simp;first | done | with_reducible rfl
   simp only [List.set_cons_zero,List.set_cons_succ]
   refine aA 5 43 ?_ rfl (by kernel_rfl) rfl (fun _ _ _ h=>h) rfl hH (fun w' hS=>?_) ?_
   rotate_left
   ·go_simp;first | done | with_reducible rfl
   simp only [List.set_cons_zero,List.set_cons_succ]
   refine av (i:=6) rfl (by kernel_rfl) rfl (fun K hK=>?_)
   refine eT uj (.tmp 2) (.tmp 38) rfl _ _ _ _ rfl rfl hH rfl rfl (by simp [Value.oneCell']) ?_
   intro w9 hb9 hs9
   refine hK.o _ _ hb9 (fun hH=>?_)
   clear hK K
   simp only [Act.put]
   refine aA 7 3 ?_ rfl (by kernel_rfl) rfl (fun _ _ _ h=>h) rfl hH (fun w' hS=>?_) ?_
   rotate_left
   ·go_simp;first | done | with_reducible rfl
   simp only [List.set_cons_zero,List.set_cons_succ]
   refine aA 8 4 ?_ rfl (by kernel_rfl) rfl (fun _ _ _ h=>h) rfl hH (fun w' hS=>?_) ?_
   rotate_left
   ·go_simp;first | done | with_reducible rfl
   simp only [List.set_cons_zero,List.set_cons_succ]
   refine wpAnyH_done (by kernel_rfl) ?_ _
   go_wp2_with fail
   have K9:Kp (w2.heap.size+2) w5 w9:=hs9.kp hbase.o
   refine dM uj Tryz.underlying27 rfl rfl _ _ _ _ _ rfl hb9 rfl ?_
   refine ⟨_,_,rfl,⟨ra,rc,fa,fc,rfl,(RA.o.kpT trivial K9 fun c x hq=>TbQ.kpT trivial trivial hq K9).less (Nat.le_of_lt hbase.o) fun c x hq=>hq.less (Nat.le_of_lt hbase.o),(FA.o.kpT trivial K9 fun c x hq=>FeQ.kpT trivial trivial hq K9).less (Nat.le_of_lt hbase.o) fun c x hq=>hq.less (Nat.le_of_lt hbase.o)⟩,⟨p,a5,c5,hp,hs,rfl,?_,?_,?_,S5.o.hmax,S5.o.hno⟩,hbel.o.drew.trans (hs9.below (Nat.le_refl _))⟩
   ·rcases S5.o.hat with h0 | ⟨bk,off,ea,hC⟩
    ·exact .inl (by rw [List.length_take];omega)
    ·refine .inr ⟨bk,off,ea,fun j hj=>?_⟩
     have hbk:=hs9.block bk (hne.o _ ea)
     have:=hC.take 32 j hj
     exact ⟨(World.cell?_of_block (w:=w5.drew) hbk).trans this.1,(World.cell?_of_block (w:=w5.drew) hbk).trans this.2⟩
   ·rw [List.length_take,S5.o.hn]
    omega
   ·have:=S5.o.hcap
    omega
  ·have q1:((hd l).k != 6)=true:=by simp [h6]
   have HM2:=HM.o
   rw [oI,if_neg h6] at HM2
   have H6:=Hy h6
   clear h6 HM
   generalize hx:hd l=x at *
   replace hx:=Hy hx
   have Bg:Tg w4 w.heap.size 27:=by
    obtain ⟨tv,fv,ct,cf,bM,_⟩:=F4.o.mm.ex
    exact bM.tg
   replace Bg:=Hy Bg
   rcases hG:dS m l with _ | ⟨m',l2⟩ | ⟨a,c,l2⟩
   ·exact absurd hG (nQ m l)
   ·rw [hG] at HM2
    replace HM2:=Hy HM2
    have h1:=Hy (IG hG)
    have h2:=Hy (EF hG)
    have GG:=Hy hG
    clear hG
    go_wp2_with fail
    refine (KN (w2.heap.size+1) F4.o (by have:=hlen.o;omega) (by have:=hlen.o;omega) Q4.o GG.o).mono ?_
    rintro e w5 ⟨rfl,F5,Q5⟩
    have O5:=Hy (zW O4.o Q5 F4.o.ps.tag Bg.o)
    have P5:=Hy (show Blk w5 (w2.heap.size+1) 65 #[.pointer (some ⟨w2.heap.size,0,none⟩)] from (Q5.block _ _ _ _ Q4.o (by omega) (by have:=hs2.o;omega) (by decide) (by decide)).trans Q4.o)
    replace F5:=Hy F5
    clear Q5 F4 O4 Q4 Bg
    go_wp2_with (refine aB qz (.tmp 7) (.tmp 26) rfl rfl _ _ _ _ rfl rfl (Blk.new _ _ _) rfl rfl (by simp [Value.oneCell']) ?_;intro w6 L hs;have c1:w6.cell? ⟨w5.heap.size,1,none⟩=some (.int .i64 0):=L.cell 1)
    have bb:=(aj (b0 w5) (.cells #[.int .i64 0,.int .i64 0] 72)).trans (hs.below (Nat.le_refl _))
    go_roundg gk
    case measure=>omega
    case rel=>exact ⟨m',b,l2,Hy (F5.o.step (Mv.of bb) (F5.o.ps.keeps bb)),Hy (O5.o.keeps bb),Hy (P5.o.below bb P5.o.lt),HM2,Hy (by have:=hlen.o;have:=h1.o;have:=h2.o;omega)⟩
   ·rw [hG] at HM2
    replace HM2:=Hy HM2
    have h1:=Hy (JY hG (by rw [hx.o];exact H6.o))
    have q2:(c != 0)=true:=by simp [IE hG]
    have GG:=Hy hG
    clear hG
    go_wp2_with fail
    refine (KO (w2.heap.size+1) F4.o (by have:=hlen.o;omega) (by have:=hlen.o;omega) Q4.o GG.o).mono ?_
    rintro e w5 ⟨rfl,F5,Q5⟩
    have O5:=Hy (zW O4.o Q5 F4.o.ps.tag Bg.o)
    have P5:=Hy (show Blk w5 (w2.heap.size+1) 65 #[.pointer (some ⟨w2.heap.size,0,none⟩)] from (Q5.block _ _ _ _ Q4.o (by omega) (by have:=hs2.o;omega) (by decide) (by decide)).trans Q4.o)
    replace F5:=Hy F5
    clear Q5 F4 O4 Q4 Bg
    have hb1:=Hy (show b.length<8796093022208 from by have:=hlen.o;omega)
    have hww:=Hy (show w.heap.size+1≤w5.heap.size from by have:=F5.o.h4;have:=F5.o.h2;omega)
    go_wp2_with (first | (refine aL qz Tryz.underlying72 rfl (.tmp 7) rfl rfl _ _ _ rfl L rfl ?_) | (refine aB qz (.tmp 7) (.tmp 26) rfl rfl _ _ _ _ rfl rfl (Blk.new _ _ _) rfl rfl (by simp [Value.oneCell']) ?_;intro w6 L hs;have c1:w6.cell? ⟨w5.heap.size,1,none⟩=some (.int .i64 c):=L.cell 1;have bb:=(aj (b0 w5) (.cells #[.int .i64 0,.int .i64 0] 72)).trans (hs.below (Nat.le_refl _))) | (at_builtin;refine pb.dU (.tmp 30) (.tmp 32) rfl ?_;refine pb.bK _ rfl (.tmp 30) (.tmp 32) rfl (w.heap.size+1) _ b rfl (O5.o.keeps (aj bb _)) w6.heap.size (a,c) rfl (pb.Bw.new _ (a,c) _) hb1.o (by have:=hww.o;have:=bb.size;simp;omega) ?_;intro v7 w7 O7 b7 g7;have b6:=aj bb (.cells #[.int .i64 a,.int .i64 c] 72);have K7:=yB (O5.o.keeps b6) g7;have P7:=(K7 _ _ _ _ (Nat.zero_le _) (by decide) (P5.o.below b6 P5.o.lt)).trans (P5.o.below b6 P5.o.lt);have F7:=Hy ((F5.o.step (Mv.of b6) (F5.o.ps.keeps b6)).kp K7 (b7.mono (by omega)));have e7:w7.cell? ⟨w2.heap.size+1,0,none⟩=some (.pointer (some ⟨w2.heap.size,0,none⟩)):=Blk.cell P7 0;replace P7:=Hy P7;replace O7:=Hy O7;clear K7 b6 b7 g7))
    refine (Cu w2.heap.size l2 w7 F7.o.ps).mono ?_
    rintro e w8 ⟨rfl,P8,M8⟩
    have F8:=Hy (F7.o.step M8 P8)
    have Bg:Tg w7 w.heap.size 27:=by
     obtain ⟨tv,fv,ct,cf,bM,_⟩:=F7.o.mm.ex
     exact bM.tg
    have O8:=Hy (zW O7.o (Mq.mv (g:=w.heap.size) M8) F7.o.ps.tag Bg)
    have Q8:=Hy (show Blk w8 (w2.heap.size+1) 65 #[.pointer (some ⟨w2.heap.size,0,none⟩)] from Blk.mv P7.o M8 (by omega) (Blk.lt P7.o))
    clear P8 M8 F7 O7 P7 Bg e7
    go_wp2_with fail
    go_roundg gk
    case measure=>omega
    case rel=>exact ⟨m,b++[(a,c)],lvR l2,F8,O8,Q8,HM2,Hy (by have:=hlen.o;have:=h1.o;rw [List.length_append,List.length_singleton];omega)⟩
theorem iU (w:World):Calls Tryz.prog 40 #[] w fun e w' => e=.returned (.agg (exC (aS 1) none 0 none 0))∧Below w.heap.size w w':=by
 go_enter Tryz.func40,Tryz.ntmps40
 go_wp2_with fail
 refine aF rfl _ _ w.heap.size _ _ rfl (Blk.new w _ _) rfl ?_
 exact ⟨rfl,aj (b0 w) _⟩
theorem qN (s:ByteArray) (w:World):Calls Tryz.prog 39 #[.string s] w fun e w' => e=.returned (.agg (exC (iQ s) none 0 none 0))∧Below w.heap.size w w':=by
 go_enter Tryz.func39,Tryz.ntmps39
 go_wp2_with fail
 refine aF rfl _ _ w.heap.size _ _ rfl (Blk.new w _ _) rfl ?_
 exact ⟨rfl,aj (b0 w) _⟩
theorem rW (n:Int) (w:World):Calls Tryz.prog 42 #[.int .i64 n] w fun e w' => e=.returned (.agg (exC (fM 2 n []) none 0 none 0))∧Below w.heap.size w w':=by
 go_enter Tryz.func42,Tryz.ntmps42
 go_wp2_with fail
 refine aF rfl _ _ w.heap.size _ _ rfl (Blk.new w _ _) rfl ?_
 exact ⟨rfl,aj (b0 w) _⟩
def qP (op:ByteArray) (x y:Ex):Ex:=⟨{ h0 with k:=7,op:=op },.cons x.h x.ar (.cons y.h y.ar .nil)⟩
theorem xP (op:ByteArray) (x:Ex) (uax:Option Addr) (ucx:Nat) (aax:Option Addr) (acx:Nat) (y:Ex) (uay:Option Addr) (ucy:Nat) (aay:Option Addr) (acy:Nat) (C:Nat) (w:World) (E:Ec C w x uax aax) (E2:Ec C w y uay aay) (hC:C≤w.heap.size) :
  Calls Tryz.prog 41 #[.string op,.agg (exC x uax ucx aax acx),.agg (exC y uay ucy aay acy)] w fun e w' =>
  ∃ aa ac,e=.returned (.agg (exC (qP op x y) none 0 aa ac))∧Ec C w' (qP op x y) none aa∧Below w.heap.size w w':=by
 have EH:=Hy E
 have EH2:=Hy E2
 clear E E2
 unfold qP
 unfold exC
 go_enter Tryz.func41,Tryz.ntmps41
 go_wp2_with fail
 refine aF rfl _ _ (w.heap.size+2) _ _ rfl (by have:=(Blk.new ((w.alloc (.cells (ex1 x uax ucx aax acx) 43)).alloc (.cells (ex1 y uay ucy aay acy) 43)) 43 (exC ⟨{ h0 with k:=7,op:=op },.cons x.h x.ar (.cons y.h y.ar .nil)⟩ none 0 (some ⟨w.heap.size+3,0,none⟩) 2)).past (.cells (ex2 x uax ucx aax acx y uay ucy aay acy) 43);rw [show ((w.alloc (.cells (ex1 x uax ucx aax acx) 43)).alloc (.cells (ex1 y uay ucy aay acy) 43)).heap.size=w.heap.size+2 by simp] at this;exact this) rfl ?_
 refine ⟨some ⟨w.heap.size+3,0,none⟩,2,rfl,⟨.inl rfl,?_⟩,aj (aj (aj (aj (b0 w) _) _) _) _⟩
 have hB:=Blk.new (((w.alloc (.cells (ex1 x uax ucx aax acx) 43)).alloc (.cells (ex1 y uay ucy aay acy) 43)).alloc (.cells (exC ⟨{ h0 with k:=7,op:=op },.cons x.h x.ar (.cons y.h y.ar .nil)⟩ none 0 (some ⟨w.heap.size+3,0,none⟩) 2) 43)) 43 (ex2 x uax ucx aax acx y uay ucy aay acy)
 rw [show (((w.alloc (.cells (ex1 x uax ucx aax acx) 43)).alloc (.cells (ex1 y uay ucy aay acy) 43)).alloc (.cells (exC ⟨{ h0 with k:=7,op:=op },.cons x.h x.ar (.cons y.h y.ar .nil)⟩ none 0 (some ⟨w.heap.size+3,0,none⟩) 2) 43)).heap.size=w.heap.size+3 by simp] at hB
 have hk:=aK (C:=C) (aj (aj (aj (aj (b0 w) (.cells (ex1 x uax ucx aax acx) 43)) (.cells (ex1 y uay ucy aay acy) 43)) (.cells (exC ⟨{ h0 with k:=7,op:=op },.cons x.h x.ar (.cons y.h y.ar .nil)⟩ none 0 (some ⟨w.heap.size+3,0,none⟩) 2) 43)) (.cells (ex2 x uax ucx aax acx y uay ucy aay acy) 43))
 exact eF hB (EH.o.kp hk) (EH2.o.kp hk) (by omega)
def eS1:ByteArray:=⟨#[49,32,43,32,50,32,42,32,97]⟩
def eS2:ByteArray:=⟨#[97,32,100,101,102,97,117,108,116,32,98,32,100,101,102,97,117,108,116,32,49,46,53]⟩
def eS3:ByteArray:=⟨#[99,111,117,110,116,40,116,44,32,97,108,108,32,119,104,101,114,101,32,120,41]⟩
def eS4:ByteArray:=⟨#[97,32,60,32,98,32,60,32,99]⟩
def eS5:ByteArray:=⟨#[99,111,117,110,116,40,116,44,32,97,108,108]⟩
def eS6:ByteArray:=⟨#[49,32,91,109,94,57,93]⟩
def eS7:ByteArray:=⟨#[100,101,99,32,91,101,117,114,32,42,32,104,94,45,49,93]⟩
def eS8:ByteArray:=⟨#[116,97,98,108,101,32,116,32,111,102,32,117,32,123,32,110,58,32,105,110,116,32,125,59,32,116,97,98,108,101,32,120,32,111,102,59,32,102,101,97,116,117,114,101,32,102,32,111,102,32,117,58,32,105,110,116,32,61,32,49,59]⟩
def eX1:Ex:=qP ⟨#[43]⟩ (fM 2 1 []) (qP ⟨#[42]⟩ (fM 2 2 []) (iQ ⟨#[97]⟩))
def eXi:Ex:=⟨{ h0 with k:=9 },.cons (iQ ⟨#[97]⟩).h (iQ ⟨#[97]⟩).ar (.cons (iQ ⟨#[98]⟩).h (iQ ⟨#[98]⟩).ar .nil)⟩
def eXh:Ex:=fM 3 1500000 []
def eX2:Ex:=⟨{ h0 with k:=9 },.cons eXi.h eXi.ar (.cons eXh.h eXh.ar .nil)⟩
def eX3:Ex:=⟨{ h0 with k:=5,op:=⟨#[99,111,117,110,116]⟩,tb:=⟨#[116]⟩,wk:=1 },.cons (aS 1).h (aS 1).ar (.cons (lX ⟨#[120]⟩).h (lX ⟨#[120]⟩).ar .nil)⟩
def zX:Ex:=⟨h0,.nil⟩
def eT7:Ty:=⟨3,[(⟨#[101,117,114]⟩,1),(⟨#[104]⟩,-1)],.empty⟩
def eM8:Mo:=⟨[⟨⟨#[116]⟩,⟨#[117]⟩,[⟨⟨#[110]⟩,⟨2,[],.empty⟩⟩],0⟩],[⟨⟨#[102]⟩,⟨#[117]⟩,⟨2,[],.empty⟩,fM 2 1 []⟩]⟩
theorem ev1:dn (α:=Ex) ⟨h0,.nil⟩ exR eS1=(eX1,0,0):=by kernel_rfl
theorem ev2:dn (α:=Ex) ⟨h0,.nil⟩ exR eS2=(eX2,0,0):=by kernel_rfl
theorem ev3:dn (α:=Ex) ⟨h0,.nil⟩ exR eS3=(eX3,0,0):=by kernel_rfl
theorem ev4:dn (α:=Ex) ⟨h0,.nil⟩ exR eS4=(zX,6,90):=by kernel_rfl
theorem ev5:dn (α:=Ex) ⟨h0,.nil⟩ exR eS5=(zX,12,90):=by kernel_rfl
theorem ev6:dn (α:=Ex) ⟨h0,.nil⟩ exR eS6=(zX,2,70):=by kernel_rfl
theorem ev7:dn (α:=Ty) ⟨0,[],.empty⟩ typ eS7=(eT7,0,0):=by kernel_rfl
theorem ev8:JW eS8=some (eM8,[(35,90)]):=by kernel_rfl
theorem ek8:cO eS8=0:=by kernel_rfl
theorem sH (C D:Nat) (l:List un.Fa) (ua ub:Option Addr) (uc ud:Nat) (w:World) (hA:Us C w ua l) (hB:Us D w ub l) (hn:l.length≤1048576) :
  Calls Tryz.prog 53 #[.slice ua l.length uc,.slice ub l.length ud] w (Say (.bool true) w):=by
 have h1:=Hy hA
 have h2:=Hy hB
 have hN:=Hy hn
 clear hA hB hn
 have qn:((l.length:Int) != (l.length:Int))=false:=by simp
 go_enter Tryz.func53,Tryz.ntmps53
 go_wp2_with fail
 go_loopw [5] (fun i wr => ∃ j:Nat,i=.int .i64 (j:Nat)∧Hid (j≤l.length)∧Below w.heap.size w wr) (fun i _=>l.length - (intOf i).toNat)
 case atStart=>exact ⟨0,rfl,Hy (Nat.zero_le _),b0 w⟩
 case round =>
  obtain ⟨j,rfl,hj,hb⟩:=hrel
  by_cases hlt:j<l.length
  ·have q1:decide ((j:Int)<(l.length:Int))=true:=decide_eq_true (by omega)
   obtain ⟨bk,off,rfl,_,hC,_⟩:=(h1.o.kp (aK hb)).resolve_left (by omega)
   obtain ⟨bk2,off2,rfl,_,hD,_⟩:=(h2.o.kp (aK hb)).resolve_left (by omega)
   obtain ⟨c0,c1⟩:=hC j (by omega)
   obtain ⟨d0,d1⟩:=hD j (by omega)
   have f4:=Hy (aX (j:=j) (by have:=hN.o;omega))
   have hbh:=Hy hb
   have i1:(j:Int)<(l.length:Int):=by omega
   clear hC hD h1 h2 hj hb
   generalize un.gt l j=x at *
   go_wp2_with fail
   go_region
   go_wp2_with fail
   refine ⟨⟨j+1,congrArg (Value.int .i64) f4.o,Hy hlt,hbh.o.drew⟩,aW hlt f4.o⟩
  ·have q1:decide ((j:Int)<(l.length:Int))=false:=decide_eq_false (by omega)
   have hbh:=Hy hb
   clear h1 h2 hj hb
   go_wp2_with fail
   go_ret
   exact ⟨rfl,hbh.o⟩
theorem sI (C D:Nat) (t:Ty) (ua ub:Option Addr) (uc ud:Nat) (w:World) (hA:Us C w ua t.un) (hB:Us D w ub t.un) (hn:t.un.length≤1048576) :
  Calls Tryz.prog 17 #[.agg (tyC t ua uc),.agg (tyC t ub ud)] w (Say (.bool true) w):=by
 have bb:=aj (aj (b0 w) (.cells (tyC t ua uc) 47)) (.cells (tyC t ub ud) 47)
 have C1:=Hy (sH C D t.un ua ub uc ud _ (hA.kp (aK bb)) (hB.kp (aK bb)) hn)
 have BB:=Hy bb
 clear hA hB bb hn
 unfold tyC at *
 obtain ⟨tk,tu,tof⟩:=t
 simp only at C1 BB ⊢
 go_enter Tryz.func17,Tryz.ntmps17
 go_wp2_with fail
 refine C1.o.mono ?_
 rintro e w1 ⟨rfl,b1⟩
 have B1:=Hy (aD BB.o b1)
 clear b1
 go_wp2_with fail
 go_ret
 exact ⟨rfl,B1.o⟩
end Go.Proofs.YtbpijgddfaefkaaGreatDoor.pa
namespace Go.Proofs.YtbpijgddfaefkaaGreatDoor
open Go.RowKit dec
def Fo.sm:Fo→Prop
 | .nil=>True
 | .cons h ar r=>h.un.length≤1048576∧ar.len≤1048576∧ar.sm∧r.sm
def Fo.nth:Fo→Nat→Ex
 | .nil,_=>⟨h0,.nil⟩
 | .cons h ar _,0=>⟨h,ar⟩
 | .cons _ _ r,j+1=>r.nth j
def Fo.sz:Fo→Nat
 | .nil=>0
 | .cons _ ar r=>ar.sz+r.sz+1
theorem Ca:∀ (F:Fo) (j:Nat),j<F.len→(F.nth j).ar.sz<F.sz
 | .nil,_,h=>absurd h (Nat.not_lt_zero _)
 | .cons h ar r,0,_=>by
  simp only [Fo.nth,Fo.sz]
  omega
 | .cons h ar r,j+1,hj=>by
  have:=Ca r j (by simpa [Fo.len] using hj)
  simp only [Fo.nth,Fo.sz]
  omega
theorem Cb:∀ (F:Fo) (j:Nat),F.sm→j<F.len→(F.nth j).h.un.length≤1048576∧(F.nth j).ar.len≤1048576∧(F.nth j).ar.sm
 | .nil,_,_,h=>absurd h (Nat.not_lt_zero _)
 | .cons h ar r,0,hs,_=>⟨hs.1,hs.2.1,hs.2.2.1⟩
 | .cons h ar r,j+1,hs,hj=>Cb r j hs.2.2.2 (by simpa [Fo.len] using hj)
theorem Ao {C:Nat} {w:World} : ∀ (F:Fo) (b off j:Nat),Fm C w F b off→j<F.len→∃ ua uc aa ac,Nd w b (off+j * 12) (F.nth j).h ua uc aa (F.nth j).ar.len ac∧Ec C w (F.nth j) ua aa
 | .nil,_,_,_,_,h=>absurd h (Nat.not_lt_zero _)
 | .cons h ar r,b,off,0,hF,_=>by
  obtain ⟨⟨ua,uc,aa,ac,N,U,A⟩,R⟩:=hF
  exact ⟨ua,uc,aa,ac,by simpa [Fo.nth] using N,U,A⟩
 | .cons h ar r,b,off,j+1,hF,hj=>by
  have:=Ao r b (off+12) j hF.2 (by simpa [Fo.len] using hj)
  rw [show off+(j+1) * 12=off+12+j * 12 by omega]
  exact this
theorem vO {w:World} {b off:Nat} {x:Ex} {ua:Option Addr} {uc:Nat} {aa:Option Addr} {ac:Nat} (N:Nd w b off x.h ua uc aa x.ar.len ac):w.rangeAt b off (exC x ua uc aa ac).toList:=by
 intro j v hv
 have hj:j<12:=by
  have:=(List.getElem?_eq_some_iff.1 hv).1
  simpa [exC] using this
 match j,hj with
 | 0,_=>simp [exC] at hv;rw [← hv];exact N.c0
 | 1,_=>simp [exC] at hv;rw [← hv];exact N.c1
 | 2,_=>simp [exC] at hv;rw [← hv];exact N.c2
 | 3,_=>simp [exC] at hv;rw [← hv];exact N.c3
 | 4,_=>simp [exC] at hv;rw [← hv];exact N.c4
 | 5,_=>simp [exC] at hv;rw [← hv];exact N.c5
 | 6,_=>simp [exC] at hv;rw [← hv];exact N.c6
 | 7,_=>simp [exC] at hv;rw [← hv];exact N.c7
 | 8,_=>simp [exC] at hv;rw [← hv];exact N.c8
 | 9,_=>simp [exC] at hv;rw [← hv];exact N.c9
 | 10,_=>simp [exC] at hv;rw [← hv];exact N.c10
 | 11,_=>simp [exC] at hv;rw [← hv];exact N.c11
end Go.Proofs.YtbpijgddfaefkaaGreatDoor
namespace Go.Proofs.YtbpijgddfaefkaaGreatDoor.pa
open Go.RowKit dec
theorem nW {T:TypeId} {n:Nat} {d:TypeDesc} (hi:(Tryz.prog.info? T).map (·.size)=some n) (hu:Tryz.prog.underlying T=some d) (hd:d.isRow=true) {oi:Oper} {a:Act} {w:World} (x:Operand) (ho:oi.op=.load T x)
  (b o:Nat) (cells:Array Value) (hx:a.eval x=.pointer (some ⟨b,o,none⟩)) (hR:w.rangeAt b o cells.toList) (hc:cells.size=n):(execOp a.eval oi).run Tryz.prog w=.ok (.value (.agg cells)) w:=by
 unfold execOp
 have:=run_loadVar_mid (P:=Tryz.prog) w b o T cells.toList d hR hu hd (by rw [Array.length_toList,hc];exact hi)
 simp only [ho,hx,Instr.loadAt,Instr.sureAddr,Sem.run_bind,Sem.run_pure,Result.andThen_ok,this,Array.toArray_toList]
theorem nZ {w w':World} {b o:Nat} {cs:List Value} (h:w.rangeAt b o cs) (hb:Below w.heap.size w w'):w'.rangeAt b o cs:=fun j v hv=>dec.keeps hb (h j v hv)
theorem zI (n:Nat) (IH:∀ (C D:Nat) (x:Ex) (ua aa ub ab:Option Addr) (uc ac ud ad:Nat) (w:World),x.ar.sz<n→x.h.un.length≤1048576→x.ar.len≤1048576→x.ar.sm→Ec C w x ua aa→Ec D w x ub ab→Calls Tryz.prog 16 #[.agg (exC x ua uc aa ac),.agg (exC x ub ud ab ad)] w (Say (.bool true) w))
  (C D:Nat) (x:Ex) (ua aa ub ab:Option Addr) (uc ac ud ad:Nat) (w:World) (hz:x.ar.sz=n) (hu:x.h.un.length≤1048576) (hl:x.ar.len≤1048576) (hs:x.ar.sm) (hA:Ec C w x ua aa) (hB:Ec D w x ub ab) :
  Calls Tryz.prog 16 #[.agg (exC x ua uc aa ac),.agg (exC x ub ud ab ad)] w (Say (.bool true) w):=by
 have bb:=aj (aj (b0 w) (.cells (exC x ua uc aa ac) 43)) (.cells (exC x ub ud ab ad) 43)
 have A1:=Hy hA
 have A2:=Hy hB
 have C1:=Hy (sH C D x.h.un ua ub uc ud _ (hA.us.kp (aK bb)) (hB.us.kp (aK bb)) hu)
 have BB:=Hy bb
 have G1:=Hy ((Blk.new w 43 (exC x ua uc aa ac)).past (.cells (exC x ub ud ab ad) 43))
 have G2:=Hy (by have:=Blk.new (w.alloc (.cells (exC x ua uc aa ac) 43)) 43 (exC x ub ud ab ad);simpa using this:Blk ((w.alloc (.cells (exC x ua uc aa ac) 43)).alloc (.cells (exC x ub ud ab ad) 43)) (w.heap.size+1) 43 (exC x ub ud ab ad))
 have IH':=Hy IH
 have HZ:=Hy hz
 have HL:=Hy hl
 have HS:=Hy hs
 clear hA hB bb hu hl hs hz IH
 unfold exC at *
 go_enter Tryz.func16,Tryz.ntmps16
 go_wp2_with fail
 refine C1.o.mono ?_
 rintro e w1 ⟨rfl,b1⟩
 have B1:=Hy (aD BB.o b1)
 replace G1:=Hy (G1.o.below b1 G1.o.lt)
 replace G2:=Hy (G2.o.below b1 G2.o.lt)
 clear b1 BB C1
 go_wp2_with fail
 go_loopw [5] (fun i wr => ∃ j:Nat,i=.int .i64 (j:Nat)∧Hid (j≤x.ar.len)∧Hid (Blk wr w.heap.size 43 #[.int .i64 x.h.k,.string x.h.op,.string x.h.nm,.string x.h.tb,.int .i64 x.h.vk,.int .i64 x.h.vn,.string x.h.vs,.slice ua x.h.un.length uc,.int .i64 x.h.pa,.int .i64 x.h.wk,.int .i64 x.h.ws,.slice aa x.ar.len ac])∧Hid (Blk wr (w.heap.size+1) 43 #[.int .i64 x.h.k,.string x.h.op,.string x.h.nm,.string x.h.tb,.int .i64 x.h.vk,.int .i64 x.h.vn,.string x.h.vs,.slice ub x.h.un.length ud,.int .i64 x.h.pa,.int .i64 x.h.wk,.int .i64 x.h.ws,.slice ab x.ar.len ad])∧Hid (Below w.heap.size w wr)) (fun i _=>x.ar.len - (intOf i).toNat)
 case atStart=>exact ⟨0,rfl,Hy (Nat.zero_le _),G1,G2,B1⟩
 case round =>
  clear G1 G2 B1
  obtain ⟨j,rfl,hj,G1,G2,hb⟩:=hrel
  have g1:=G1.o.cell 11
  have g2:=G2.o.cell 11
  simp only [List.getElem?_toArray,List.getElem?_cons_zero,List.getElem?_cons_succ] at g1 g2
  by_cases hlt:j<x.ar.len
  ·have q1:decide ((j:Int)<(x.ar.len:Int))=true:=decide_eq_true (by omega)
   obtain ⟨bk,off,rfl,_,_,hF⟩:=(A1.o.kp (aK hb.o)).ar.resolve_left (by omega)
   obtain ⟨bk2,off2,rfl,_,_,hF2⟩:=(A2.o.kp (aK hb.o)).ar.resolve_left (by omega)
   obtain ⟨va,vc,wa,wc,N1,E1⟩:=Ao _ _ _ j hF hlt
   obtain ⟨vb,vd,wb,wd,N2,E2⟩:=Ao _ _ _ j hF2 hlt
   have R1:=vO N1
   have R2:=vO N2
   have f4:=Hy (aX (j:=j) (by have:=HL.o;omega))
   have hsz:=Hy (Ca x.ar j hlt)
   have hsm:=Hy (Cb x.ar j HS.o hlt)
   have i1:(j:Int)<(x.ar.len:Int):=by omega
   replace E1:=Hy E1
   replace E2:=Hy E2
   clear hF hF2 N1 N2 A1 A2 hj
   generalize x.ar.nth j=y at *
   have SS:=Hy (show (Blk wr.drew w.heap.size 43 #[.int .i64 x.h.k,.string x.h.op,.string x.h.nm,.string x.h.tb,.int .i64 x.h.vk,.int .i64 x.h.vn,.string x.h.vs,.slice ua x.h.un.length uc,.int .i64 x.h.pa,.int .i64 x.h.wk,.int .i64 x.h.ws,.slice (some ⟨bk,off,none⟩) x.ar.len ac]∧Blk wr.drew (w.heap.size+1) 43 #[.int .i64 x.h.k,.string x.h.op,.string x.h.nm,.string x.h.tb,.int .i64 x.h.vk,.int .i64 x.h.vn,.string x.h.vs,.slice ub x.h.un.length ud,.int .i64 x.h.pa,.int .i64 x.h.wk,.int .i64 x.h.ws,.slice (some ⟨bk2,off2,none⟩) x.ar.len ad])∧wr.drew.rangeAt bk (off+j * 12) (exC y va vc wa wc).toList∧wr.drew.rangeAt bk2 (off2+j * 12) (exC y vb vd wb wd).toList from ⟨⟨G1.o,G2.o⟩,R1,R2⟩)
   clear R1 R2
   go_wp2_with fail
   clear g1 g2
   refine wp_region_held_drew (S:=fun w' => (Blk w' w.heap.size 43 #[.int .i64 x.h.k,.string x.h.op,.string x.h.nm,.string x.h.tb,.int .i64 x.h.vk,.int .i64 x.h.vn,.string x.h.vs,.slice ua x.h.un.length uc,.int .i64 x.h.pa,.int .i64 x.h.wk,.int .i64 x.h.ws,.slice (some ⟨bk,off,none⟩) x.ar.len ac]∧Blk w' (w.heap.size+1) 43 #[.int .i64 x.h.k,.string x.h.op,.string x.h.nm,.string x.h.tb,.int .i64 x.h.vk,.int .i64 x.h.vn,.string x.h.vs,.slice ub x.h.un.length ud,.int .i64 x.h.pa,.int .i64 x.h.wk,.int .i64 x.h.ws,.slice (some ⟨bk2,off2,none⟩) x.ar.len ad])∧w'.rangeAt bk (off+j * 12) (exC y va vc wa wc).toList∧w'.rangeAt bk2 (off2+j * 12) (exC y vb vd wb wd).toList) (by kernel_rfl) SS.o (fun hH=>?_)
   refine aA 0 77 ?_ rfl (by kernel_rfl) rfl (fun _ _ _ h=>h) rfl hH (fun w' hS=>?_) ?_
   rotate_left
   ·go_simp;first | done | with_reducible rfl
   simp only [List.set_cons_zero,List.set_cons_succ]
   refine aA 1 78 ?_ rfl (by kernel_rfl) rfl (fun _ _ _ h=>h) rfl hH (fun w' hS=>?_) ?_
   rotate_left
   ·have e1:=hS.1.1.cell 11;simp only [List.getElem?_toArray,List.getElem?_cons_zero,List.getElem?_cons_succ] at e1;go_simp;first | done | with_reducible rfl
   simp only [List.set_cons_zero,List.set_cons_succ]
   refine aA 2 79 ?_ rfl (by kernel_rfl) rfl (fun _ _ _ h=>h) rfl hH (fun w' hS=>?_) ?_
   rotate_left
   ·go_simp;first | done | with_reducible rfl
   simp only [List.set_cons_zero,List.set_cons_succ]
   refine aA 3 80 ?_ rfl (by kernel_rfl) rfl (fun _ _ _ h=>h) rfl hH (fun w' hS=>?_) ?_
   rotate_left
   ·go_simp;first | done | with_reducible rfl
   simp only [List.set_cons_zero,List.set_cons_succ]
   refine aA 4 81 (.agg (exC y va vc wa wc)) rfl (by kernel_rfl) rfl (fun _ _ _ h=>h) rfl hH (fun w' hS=>nW aH Tryz.underlying43 rfl (.tmp 80) rfl _ _ _ rfl hS.2.1 rfl) ?_
   simp only [List.set_cons_zero,List.set_cons_succ]
   refine aA 5 82 ?_ rfl (by kernel_rfl) rfl (fun _ _ _ h=>h) rfl hH (fun w' hS=>?_) ?_
   rotate_left
   ·go_simp;first | done | with_reducible rfl
   simp only [List.set_cons_zero,List.set_cons_succ]
   refine aA 6 83 ?_ rfl (by kernel_rfl) rfl (fun _ _ _ h=>h) rfl hH (fun w' hS=>?_) ?_
   rotate_left
   ·have e1:=hS.1.2.cell 11;simp only [List.getElem?_toArray,List.getElem?_cons_zero,List.getElem?_cons_succ] at e1;go_simp;first | done | with_reducible rfl
   simp only [List.set_cons_zero,List.set_cons_succ]
   refine aA 7 84 ?_ rfl (by kernel_rfl) rfl (fun _ _ _ h=>h) rfl hH (fun w' hS=>?_) ?_
   rotate_left
   ·go_simp;first | done | with_reducible rfl
   simp only [List.set_cons_zero,List.set_cons_succ]
   refine aA 8 85 ?_ rfl (by kernel_rfl) rfl (fun _ _ _ h=>h) rfl hH (fun w' hS=>?_) ?_
   rotate_left
   ·go_simp;first | done | with_reducible rfl
   simp only [List.set_cons_zero,List.set_cons_succ]
   refine aA 9 86 (.agg (exC y vb vd wb wd)) rfl (by kernel_rfl) rfl (fun _ _ _ h=>h) rfl hH (fun w' hS=>nW aH Tryz.underlying43 rfl (.tmp 85) rfl _ _ _ rfl hS.2.2 rfl) ?_
   simp only [List.set_cons_zero,List.set_cons_succ]
   refine av (i:=10) rfl (by kernel_rfl) rfl (fun K hK=>?_)
   go_simp
   refine (IH'.o C D y va wa vb wb vc wc vd wd _ (by have:=hsz.o;have:=HZ.o;omega) hsm.o.1 hsm.o.2.1 hsm.o.2.2 (E1.o.kp (aK (b0 wr).drew)) (E2.o.kp (aK (b0 wr).drew))).mono ?_
   rintro e w5 ⟨rfl,b5⟩
   refine hK.o _ _ ⟨⟨hH.1.1.below b5 hH.1.1.lt,hH.1.2.below b5 hH.1.2.lt⟩,nZ hH.2.1 b5,nZ hH.2.2 b5⟩ (fun hH=>?_)
   clear hK K
   have G3:=Hy hH.1.1
   have G4:=Hy hH.1.2
   have B5:=Hy (hb.o.drew.trans (b5.mono hb.o.size))
   clear b5 SS
   refine aA 11 88 ?_ rfl (by kernel_rfl) rfl (fun _ _ _ h=>h) rfl hH (fun w' hS=>?_) ?_
   rotate_left
   ·go_simp;first | done | with_reducible rfl
   simp only [List.set_cons_zero,List.set_cons_succ]
   clear hH
   refine wpAnyH_done (by kernel_rfl) ?_ _
   go_wp2_with fail
   refine ⟨⟨j+1,congrArg (Value.int .i64) f4.o,Hy hlt,G3,G4,B5⟩,aW hlt f4.o⟩
  ·have q1:decide ((j:Int)<(x.ar.len:Int))=false:=decide_eq_false (by omega)
   clear A1 A2 hj
   go_wp2_with fail
   go_ret
   exact ⟨rfl,hb.o⟩
theorem j6 (C D:Nat) (x:Ex) (ua aa ub ab:Option Addr) (uc ac ud ad:Nat) (w:World) (hu:x.h.un.length≤1048576) (hl:x.ar.len≤1048576) (hs:x.ar.sm) (hA:Ec C w x ua aa) (hB:Ec D w x ub ab) :
  Calls Tryz.prog 16 #[.agg (exC x ua uc aa ac),.agg (exC x ub ud ab ad)] w (Say (.bool true) w):=by
 have key:∀ n,∀ (C D:Nat) (x:Ex) (ua aa ub ab:Option Addr) (uc ac ud ad:Nat) (w:World),x.ar.sz<n→x.h.un.length≤1048576→x.ar.len≤1048576→x.ar.sm→Ec C w x ua aa→Ec D w x ub ab→Calls Tryz.prog 16 #[.agg (exC x ua uc aa ac),.agg (exC x ub ud ab ad)] w (Say (.bool true) w):=by
  intro n
  induction n with
  | zero=>intro C D x ua aa ub ab uc ac ud ad w h;exact absurd h (Nat.not_lt_zero _)
  | succ n ih =>
   intro C D x ua aa ub ab uc ac ud ad w h hu hl hs hA hB
   exact zI x.ar.sz (fun C' D' x' ua' aa' ub' ab' uc' ac' ud' ad' w' h' => ih C' D' x' ua' aa' ub' ab' uc' ac' ud' ad' w' (by omega)) C D x ua aa ub ab uc ac ud ad w rfl hu hl hs hA hB
 exact key _ C D x ua aa ub ab uc ac ud ad w (Nat.lt_succ_self _) hu hl hs hA hB
end Go.Proofs.YtbpijgddfaefkaaGreatDoor.pa
namespace Go.Proofs.YtbpijgddfaefkaaGreatDoor
open Go.RowKit dec
def Ex.sm (x:Ex):Prop:=x.h.un.length≤1048576∧x.ar.len≤1048576∧x.ar.sm
theorem sm1 {h:Hd} {x:Ex} (hu:h.un=[]) (hx:x.sm):Ex.sm ⟨h,.cons x.h x.ar .nil⟩:=by
 refine ⟨by rw [hu];decide,by simp [Fo.len],hx.1,hx.2.1,hx.2.2,trivial⟩
theorem sm2 {h:Hd} {x y:Ex} (hu:h.un=[]) (hx:x.sm) (hy:y.sm):Ex.sm ⟨h,.cons x.h x.ar (.cons y.h y.ar .nil)⟩:=by
 refine ⟨by rw [hu];decide,by simp [Fo.len],hx.1,hx.2.1,hx.2.2,hy.1,hy.2.1,hy.2.2,trivial⟩
theorem sm3 {h:Hd} {x y z:Ex} (hu:h.un=[]) (hx:x.sm) (hy:y.sm) (hz:z.sm):Ex.sm ⟨h,.cons x.h x.ar (.cons y.h y.ar (.cons z.h z.ar .nil))⟩:=by
 refine ⟨by rw [hu];decide,by simp [Fo.len],hx.1,hx.2.1,hx.2.2,hy.1,hy.2.1,hy.2.2,hz.1,hz.2.1,hz.2.2,trivial⟩
theorem sm0 {h:Hd} (hu:h.un.length≤1048576):Ex.sm ⟨h,.nil⟩:=⟨hu,by simp [Fo.len],trivial⟩
theorem Je {op:ByteArray} {x y:Ex} (hx:x.sm) (hy:y.sm):(aT op x y).sm:=by
 unfold aT
 split
 ·exact sm2 rfl hx hy
 ·exact sm2 rfl hx hy
theorem Ih (u:List un.Fa):(un.nL u).length≤4:=by
 unfold un.nL
 split
 ·rename_i h
  exact (un.Ii h).2.2
 ·exact Nat.zero_le _
theorem pG {l r:List Tk} {u:List un.Fa} (h:uni l=.ok u r):u.length≤1048576:=by
 unfold uni at h
 split at h
 ·obtain ⟨v,q,h1,h2⟩:=bind_ok h
  obtain ⟨_,q',h3,h4⟩:=bind_ok h2
  split at h4
  ·cases h4
   have:=Ih v
   omega
  ·cases h4
 ·cases h
  exact Nat.zero_le _
theorem Jm {l r:List Tk} {t:Ty} (h:typ l=.ok t r):t.un.length≤1048576:=by
 unfold typ at h
 split at h
 ·cases h;exact Nat.zero_le _
 split at h
 ·cases h;exact Nat.zero_le _
 split at h
 ·obtain ⟨u,q,h1,h2⟩:=bind_ok h
  cases h2;exact Nat.zero_le _
 split at h
 ·obtain ⟨u,q,h1,h2⟩:=bind_ok h
  cases h2;exact pG h1
 split at h
 ·obtain ⟨u,q,h1,h2⟩:=bind_ok h
  cases h2;exact pG h1
 ·cases h
def Md.sm:Md→Prop
 | .tl _ _ y=>y.sm
 | _=>True
theorem qH (n:Int):(aS n).sm:=sm0 (by simp [h0])
theorem Lx:∀ (f:Nat) (i:Bool) (m:Md) (l:List Tk) (x:Ex) (r:List Tk),m.sm→pz f i m l=.ok x r→x.sm:=by
 intro f
 induction f with
 | zero=>intro i m l x r _ h;cases h
 | succ f ih =>
  intro i m l x r hm h
  cases m with
  | ex =>
   simp only [pz] at h
   split at h
   ·obtain ⟨a,q1,h1,h⟩:=bind_ok h
    obtain ⟨_,q2,h2,h⟩:=bind_ok h
    obtain ⟨b,q3,h3,h⟩:=bind_ok h
    obtain ⟨_,q4,h4,h⟩:=bind_ok h
    obtain ⟨c,q5,h5,h⟩:=bind_ok h
    cases h
    exact sm3 rfl (ih _ _ _ _ _ (by exact trivial) h1) (ih _ _ _ _ _ (by exact trivial) h3) (ih _ _ _ _ _ (by exact trivial) h5)
   ·exact ih _ _ _ _ _ (by exact trivial) h
  | op least =>
   simp only [pz] at h
   split at h
   ·obtain ⟨a,q1,h1,h⟩:=bind_ok h
    exact ih _ (.tl _ _ _) _ _ _ (sm1 rfl (ih _ _ _ _ _ (by exact trivial) h1)) h
   ·obtain ⟨a,q1,h1,h⟩:=bind_ok h
    exact ih _ (.tl _ _ _) _ _ _ (ih _ _ _ _ _ (by exact trivial) h1) h
  | tl least n y =>
   simp only [pz] at h
   split at h
   ·cases h
    exact hm
   ·split at h
    ·exact ih _ (.tl _ (n - 1) y) _ _ _ (by exact hm) h
    ·obtain ⟨a,q1,h1,h⟩:=bind_ok h
     exact ih _ (.tl _ _ _) _ _ _ (Je hm (ih _ _ _ _ _ (by exact trivial) h1)) h
  | ng =>
   simp only [pz] at h
   split at h
   ·obtain ⟨a,q1,h1,h⟩:=bind_ok h
    cases h
    exact sm1 rfl (ih _ _ _ _ _ (by exact trivial) h1)
   ·exact ih _ _ _ _ _ (by exact trivial) h
  | pa =>
   simp only [pz] at h
   obtain ⟨_,q1,h1,h⟩:=bind_ok h
   obtain ⟨a,q2,h2,h⟩:=bind_ok h
   obtain ⟨_,q3,h3,h⟩:=bind_ok h
   cases h
   exact ih _ _ _ _ _ (by exact trivial) h2
  | rf =>
   simp only [pz] at h
   obtain ⟨n,q1,h1,h⟩:=bind_ok h
   split at h
   ·obtain ⟨a,q2,h2,h⟩:=bind_ok h
    cases h
    exact sm1 rfl (ih _ _ _ _ _ (by exact trivial) h2)
   ·cases h
    exact sm0 (by simp [h0])
  | ag =>
   simp only [pz] at h
   obtain ⟨op,q1,h1,h⟩:=bind_ok h
   obtain ⟨_,q2,h2,h⟩:=bind_ok h
   obtain ⟨t,q3,h3,h⟩:=bind_ok h
   obtain ⟨_,q4,h4,h⟩:=bind_ok h
   obtain ⟨a,q5,h5,h⟩:=bind_ok h
   have g5:a.sm:=by
    split at h5
    ·cases h5;exact qH 1
    ·obtain ⟨_,p1,k1,h5⟩:=bind_ok h5
     obtain ⟨_,p2,k2,h5⟩:=bind_ok h5
     cases h5
     exact ih _ _ _ _ _ (by exact trivial) k1
   obtain ⟨n,q6,h6,h⟩:=bind_ok h
   obtain ⟨w,q7,h7,h⟩:=bind_ok h
   obtain ⟨b,q8,h8,h⟩:=bind_ok h
   have g8:b.sm:=by
    split at h8
    ·exact ih _ _ _ _ _ (by exact trivial) h8
    ·cases h8;exact qH 1
   obtain ⟨_,q9,h9,h⟩:=bind_ok h
   cases h
   exact sm2 rfl g5 g8
  | pr =>
   simp only [pz] at h
   split at h
   ·obtain ⟨n,q1,h1,h⟩:=bind_ok h
    obtain ⟨u,q2,h2,h⟩:=bind_ok h
    cases h
    exact sm0 (pG h2)
   split at h
   ·obtain ⟨n,q1,h1,h⟩:=bind_ok h
    obtain ⟨u,q2,h2,h⟩:=bind_ok h
    cases h
    exact sm0 (pG h2)
   split at h
   ·obtain ⟨n,q1,h1,h⟩:=bind_ok h
    cases h
    exact sm0 (by simp [h0])
   split at h
   ·cases h;exact qH 1
   split at h
   ·cases h;exact qH 0
   split at h
   ·obtain ⟨n,q,h1,h2⟩:=bind_ok h
    obtain ⟨s,q',h3,h4⟩:=bind_ok h2
    split at h4
    ·cases h4
     exact sm0 (by simp [h0])
    ·cases h4
   split at h
   ·obtain ⟨n,q1,h1,h⟩:=bind_ok h
    cases h
    exact sm1 rfl (ih _ _ _ _ _ (by exact trivial) h1)
   split at h
   ·exact ih _ _ _ _ _ (by exact trivial) h
   split at h
   ·obtain ⟨n,q1,h1,h⟩:=bind_ok h
    cases h
    exact sm0 (by simp [h0])
   split at h
   ·exact ih _ _ _ _ _ (by exact trivial) h
   ·exact ih _ _ _ _ _ (by exact trivial) h
end Go.Proofs.YtbpijgddfaefkaaGreatDoor
namespace Go.Proofs.YtbpijgddfaefkaaGreatDoor.pa
open Go.RowKit dec
theorem JE {α:Type} {T:TypeId} {k C:Nat} {Q:World→List Value→α→Prop} {w:World} {a:Option Addr} {l:List α} (h:RowAt T k C Q w a l) (hk:∀ c x,Q w c x→c.length=k) (j:Nat) (hj:j<l.length):∃ b off c,a=some ⟨b,off,none⟩∧w.rangeAt b (off+j * k) c∧Q w c l[j]:=by
 rcases h with h | ⟨b,off,cs,e,_,_,hl,hc,hq⟩
 ·omega
 have q:=hq j (by omega) hj
 refine ⟨b,off,_,e,fun i v hv=>?_,q⟩
 have hi:i<k:=by
  have:=(List.getElem?_eq_some_iff.1 hv).1
  rw [hk _ _ q] at this
  exact this
 obtain ⟨u,h1,h2⟩:=hc j i (by omega) hi
 rw [hv] at h1
 cases h1
 rw [Nat.add_assoc]
 exact h2
def Mo.sm (m:Mo):Prop:=m.ts.length≤1048576∧m.fs.length≤1048576∧(∀ t ∈ m.ts,t.fs.length≤1048576∧∀ f ∈ t.fs,f.ty.un.length≤1048576)∧∀ f ∈ m.fs,f.ty.un.length≤1048576∧f.bo.sm
inductive SimR (R:Int→Int→Prop):List Tk→List Tk→Prop where
 | last {x y:Tk} (hk:x.k=6) (hy:y.k=x.k) (ht:y.t=x.t) (ha:R x.a y.a):SimR R [x] [y]
 | cons {x y:Tk} {l r:List Tk} (hk:y.k=x.k) (ht:y.t=x.t) (ha:R x.a y.a) (h:SimR R l r):SimR R (x :: l) (y :: r)
theorem SimR.hk {R:Int→Int→Prop} {l r:List Tk} (h:SimR R l r):(hd r).k=(hd l).k:=by
 cases h with
 | last hk hy ht ha=>exact hy
 | cons hk ht ha h=>exact hk
theorem SimR.ht {R:Int→Int→Prop} {l r:List Tk} (h:SimR R l r):(hd r).t=(hd l).t:=by
 cases h with
 | last hk hy ht ha=>exact ht
 | cons hk ht ha h=>exact ht
theorem SimR.ha {R:Int→Int→Prop} {l r:List Tk} (h:SimR R l r):R (hd l).a (hd r).a:=by
 cases h with
 | last hk hy ht ha=>exact ha
 | cons hk ht ha h=>exact ha
theorem SimR.len {R:Int→Int→Prop} {l r:List Tk} (h:SimR R l r):r.length=l.length:=by
 induction h with
 | last hk hy ht ha=>rfl
 | cons hk ht ha h ih=>simp only [List.length_cons,ih]
theorem SimR.tail {R:Int→Int→Prop} {l r:List Tk} (h:SimR R l r) (h6:(hd l).k≠6):SimR R l.tail r.tail:=by
 cases h with
 | last hk hy ht ha=>exact absurd hk h6
 | cons hk ht ha h=>exact h
theorem SimR.sT {R:Int→Int→Prop} {l r:List Tk} (h:SimR R l r) (s:ByteArray):isT s r=isT s l:=by
 unfold Go.Proofs.YtbpijgddfaefkaaGreatDoor.isT
 rw [h.hk,h.ht]
theorem SimR.of {R:Int→Int→Prop} {l r:List Tk} (h:SimR R l r) {s:ByteArray} (hs:isT s l=true):SimR R l.tail r.tail:=h.tail (Cx hs)
inductive RSim {α:Type} (R:Int→Int→Prop):Rs α→Rs α→Prop where
 | out:RSim R .out .out
 | ok (v:α) {l r:List Tk} (h:SimR R l r):RSim R (.ok v l) (.ok v r)
 | no {a b:Int} (c:Int) {l r:List Tk} (ha:R a b) (h:SimR R l r):RSim R (.no a c l) (.no b c r)
theorem RSim.bind {α β:Type} {R:Int→Int→Prop} {x y:Rs α} {g k:α→List Tk→Rs β} (h:RSim R x y) (hg:∀ v l r,SimR R l r→RSim R (g v l) (k v r)):RSim R (x.bind g) (y.bind k):=by
 cases h with
 | out=>exact .out
 | ok v h=>exact hg v _ _ h
 | no c ha h=>exact .no c ha h
section
variable {R:Int→Int→Prop}
inductive PbR (R:Int→Int→Prop):List Pb→List Pb→Prop where
 | nil:PbR R [] []
 | cons {a b c:Int} {l r:List Pb} (ha:R a b) (h:PbR R l r):PbR R ((a,c) :: l) ((b,c) :: r)
theorem PbR.push {l r:List Pb} (h:PbR R l r) {a b:Int} (c:Int) (ha:R a b):PbR R (l++[(a,c)]) (r++[(b,c)]):=by
 induction h with
 | nil=>exact .cons ha .nil
 | cons ha' h ih=>exact .cons ha' ih
theorem PbR.len {l r:List Pb} (h:PbR R l r):r.length=l.length:=by
 induction h with
 | nil=>rfl
 | cons ha h ih=>simp only [List.length_cons,ih]
end
def RM {α:Type} (x y:Rs α):Prop:=x≠.out→y=x
theorem RM.refl {α:Type} (x:Rs α):RM x x:=fun _=>rfl
theorem RM.bind {α β:Type} {x y:Rs α} {g k:α→List Tk→Rs β} (h:RM x y) (hg:∀ v q,RM (g v q) (k v q)):RM (x.bind g) (y.bind k):=by
 intro hn
 rw [h (bF hn)]
 cases x with
 | out=>exact absurd rfl hn
 | ok v q=>exact hg v q hn
 | no a c q=>rfl
theorem GN {f g:Nat} (ih:∀ i m l,RM (pz f i m l) (pz g i m l)) (i:Bool) (m:Md) (l:List Tk):RM (pz (f+1) i m l) (pz (g+1) i m l):=by
 cases m with
 | ex =>
  simp only [pz]
  split
  ·exact (ih _ _ _).bind fun _ _=>(RM.refl _).bind fun _ _=>(ih _ _ _).bind fun _ _=>(RM.refl _).bind fun _ _=>(ih _ _ _).bind fun _ _=>RM.refl _
  ·exact ih _ _ _
 | op least =>
  simp only [pz]
  split
  ·exact (ih _ _ _).bind fun _ _=>ih _ _ _
  ·exact (ih _ _ _).bind fun _ _=>ih _ _ _
 | tl least n y =>
  simp only [pz]
  split
  ·exact RM.refl _
  ·split
   ·exact ih _ _ _
   ·exact (ih _ _ _).bind fun _ _=>ih _ _ _
 | ng =>
  simp only [pz]
  split
  ·exact (ih _ _ _).bind fun _ _=>RM.refl _
  ·exact ih _ _ _
 | pa =>
  simp only [pz]
  exact (RM.refl _).bind fun _ _=>(ih _ _ _).bind fun _ _=>(RM.refl _).bind fun _ _=>RM.refl _
 | rf =>
  simp only [pz]
  refine (RM.refl _).bind fun n r=>?_
  split
  ·exact (ih _ _ _).bind fun _ _=>RM.refl _
  ·exact RM.refl _
 | ag =>
  simp only [pz]
  refine (RM.refl _).bind fun op _=>(RM.refl _).bind fun _ _=>(RM.refl _).bind fun t _=>(RM.refl _).bind fun _ l=>RM.bind ?_ fun x l=>(RM.refl _).bind fun p l=>(RM.refl _).bind fun w l=>RM.bind ?_ fun y l=>RM.refl _
  ·split
   ·exact RM.refl _
   ·exact (ih _ _ _).bind fun _ _=>RM.refl _
  ·split
   ·exact ih _ _ _
   ·exact RM.refl _
 | pr =>
  simp only [pz]
  split
  ·exact RM.refl _
  split
  ·exact RM.refl _
  split
  ·exact RM.refl _
  split
  ·exact RM.refl _
  split
  ·exact RM.refl _
  split
  ·exact RM.refl _
  split
  ·exact (ih _ _ _).bind fun _ _=>RM.refl _
  split
  ·exact ih _ _ _
  split
  ·exact RM.refl _
  split
  ·exact ih _ _ _
  ·exact ih _ _ _
theorem zU:∀ (f g:Nat),f≤g→∀ i m l,RM (pz f i m l) (pz g i m l)
 | 0,_,_,_,_,_=>fun h=>absurd rfl h
 | f+1,0,h,_,_,_=>by omega
 | f+1,g+1,h,i,m,l=>GN (zU f g (by omega)) i m l
theorem BG {f g:Nat} {i:Bool} {m:Md} {l:List Tk} (h1:pz f i m l≠.out) (h2:pz g i m l≠.out):pz f i m l=pz g i m l:=by
 rcases Nat.le_total f g with h | h
 ·exact (zU f g h i m l h1).symm
 ·exact zU g f h i m l h2
theorem EG {l r:List Tk} (hk:(hd r).k=(hd l).k) (ht:(hd r).t=(hd l).t) (s:ByteArray):isT s r=isT s l:=by
 unfold isT
 rw [hk,ht]
def Stp (l:List Tk):Prop:=((hd l).k=6∧(hd l).t=.empty)∨((hd l).k=5∧(hd l).t=⟨#[41]⟩)∨((hd l).k=5∧(hd l).t=⟨#[59]⟩)
theorem Stp.sT {l:List Tk} (h:Stp l) {s:ByteArray} (h1:s≠⟨#[41]⟩) (h2:s≠⟨#[59]⟩):isT s l=false:=by
 unfold Go.Proofs.YtbpijgddfaefkaaGreatDoor.isT
 rcases h with ⟨hk,ht⟩ | ⟨hk,ht⟩ | ⟨hk,ht⟩
 ·rw [hk];rfl
 ·rw [hk,ht,decide_eq_false (p:=(⟨#[41]⟩:ByteArray)=s) (fun e=>h1 e.symm)];rfl
 ·rw [hk,ht,decide_eq_false (p:=(⟨#[59]⟩:ByteArray)=s) (fun e=>h2 e.symm)];rfl
theorem Stp.hk {l:List Tk} (h:Stp l):(hd l).k=6∨(hd l).k=5:=by
 rcases h with ⟨hk,ht⟩ | ⟨hk,ht⟩ | ⟨hk,ht⟩
 ·exact .inl hk
 ·exact .inr hk
 ·exact .inr hk
theorem Stp.ag {l:List Tk} (h:Stp l):agg (hd l).t=false:=by
 rcases h with ⟨hk,ht⟩ | ⟨hk,ht⟩ | ⟨hk,ht⟩ <;> rw [ht] <;> decide
inductive Loc (t1 t2:List Tk):List Tk→List Tk→Prop where
 | base:Loc t1 t2 t1 t2
 | cons {x y:Tk} {l r:List Tk} (hk:y.k=x.k) (ht:y.t=x.t) (h:Loc t1 t2 l r):Loc t1 t2 (x :: l) (y :: r)
theorem Loc.le {t1 t2 l r:List Tk} (h:Loc t1 t2 l r):t1.length≤l.length:=by
 induction h with
 | base=>exact Nat.le_refl _
 | cons hk ht h ih=>exact Nat.le_succ_of_le ih
structure Ends (t1 t2:List Tk):Prop where
 l:Stp t1
 r:Stp t2
 p:isT ⟨#[41]⟩ t1=false
section
variable {t1 t2:List Tk}
theorem Loc.sT (E:Ends t1 t2) {l r:List Tk} (h:Loc t1 t2 l r) {s:ByteArray} (h1:s≠⟨#[41]⟩:=by decide) (h2:s≠⟨#[59]⟩:=by decide):isT s r=isT s l:=by
 cases h with
 | base=>rw [E.l.sT h1 h2,E.r.sT h1 h2]
 | @cons x y l r hk ht h=>exact EG (l:=x :: l) (r:=y :: r) hk ht s
theorem Loc.of (E:Ends t1 t2) {l r:List Tk} (h:Loc t1 t2 l r) {s:ByteArray} (t:Go.Proofs.YtbpijgddfaefkaaGreatDoor.isT s l=true) (h2:s≠⟨#[59]⟩:=by decide):Loc t1 t2 l.tail r.tail:=by
 cases h with
 | base =>
  exfalso
  by_cases h1:s=⟨#[41]⟩
  ·subst h1
   rw [E.p] at t
   cases t
  ·rw [E.l.sT h1 h2] at t
   cases t
 | cons hk ht h=>exact h
theorem Loc.ag (E:Ends t1 t2) {l r:List Tk} (h:Loc t1 t2 l r):agg (hd r).t=agg (hd l).t:=by
 cases h with
 | base=>rw [E.l.ag,E.r.ag]
 | cons hk ht h=>rw [show (hd (_ :: _)).t=_ from ht];rfl
def RL (t1 t2:List Tk) {α:Type} (x y:Rs α):Prop:=∀ v q,x=.ok v q→∃ q',y=.ok v q'∧Loc t1 t2 q q'
theorem RL.bind {α β:Type} {x y:Rs α} {g k:α→List Tk→Rs β} (h:RL t1 t2 x y) (hg:∀ v q q',Loc t1 t2 q q'→RL t1 t2 (g v q) (k v q')):RL t1 t2 (x.bind g) (y.bind k):=by
 intro v q e
 obtain ⟨u,s,h1,h2⟩:=bind_ok e
 obtain ⟨s',h3,h4⟩:=h u s h1
 obtain ⟨q',h5,h6⟩:=hg u s s' h4 v q h2
 exact ⟨q',by rw [h3];exact h5,h6⟩
end
theorem lV {s t:ByteArray} {a:Int} {l:List Tk} : isT s (⟨5,t,a⟩ :: l)=decide (t=s):=by
 unfold isT hd
 simp
theorem Loc.map {t1 t2:List Tk} (d:Nat):∀ C:List Tk,Loc t1 t2 (C++t1) (C.map (shT d)++t2)
 | []=>.base
 | _ :: C=>.cons rfl rfl (Loc.map d C)
theorem Dp {α:Type} {one:List Tk→Rs α} {l r:List Tk} {v:α} (h:dF one l=.ok v r):one l=.ok v r∧(hd r).k=6:=by
 obtain ⟨u,q,h1,h2⟩:=bind_ok h
 obtain ⟨_,q2,h3,h4⟩:=bind_ok h2
 cases h4
 unfold jX at h3
 split at h3
 ·rename_i hk
  cases h3
  exact ⟨h1,hk⟩
 ·cases h3
theorem Loc.left {t1 t2 l r:List Tk} (h:Loc t1 t2 l r):∃ C,l=C++t1:=by
 induction h with
 | base=>exact ⟨[],rfl⟩
 | @cons x y l r hk ht h ih =>
  obtain ⟨C,e⟩:=ih
  exact ⟨x :: C,by rw [e];rfl⟩
theorem pJ {s:ByteArray} {x:Ex} {a c:Int} (h:dn (α:=Ex) ⟨h0,.nil⟩ exR s=(x,a,c)):x.sm:=by
 have hz:Ex.sm ⟨h0,.nil⟩:=sm0 (by simp [h0])
 unfold dn at h
 split at h
 ·cases hb:dL s with
  | cons q qs=>rw [hb] at h;cases h;exact hz
  | nil =>
   rw [hb] at h
   cases ha:dF exR (aU s) with
   | out=>rw [ha] at h;cases h;exact hz
   | ok v r =>
    rw [ha] at h
    cases h
    obtain ⟨h1,_⟩:=Dp ha
    exact Lx _ _ .ex _ _ _ trivial h1
   | no a' c' r=>rw [ha] at h;cases h;exact hz
 ·cases h;exact hz
end Go.Proofs.YtbpijgddfaefkaaGreatDoor.pa
