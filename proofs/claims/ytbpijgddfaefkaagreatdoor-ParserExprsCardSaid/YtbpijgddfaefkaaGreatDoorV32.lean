/-
  ParserExprs: for all sources, of which the first 2000 bytes count, Expr and Type of package parser answer what the reference answers, and the examples are as written.
-/
import Derived.Test.YtbpijgddfaefkaaGreatDoorV31
set_option maxRecDepth 100000
set_option maxHeartbeats 16000000
namespace Go.Proofs.YtbpijgddfaefkaaGreatDoor.rr
open Go.RowKit dec pa
theorem mq (B:Nat) (r:Nat) (h1:1≤r) (h5:r≤5) (h3:r≠3) (l:List Tk) (i:Bool) (a c:Int) (w:World) (h:Rp w B l i a c) (G:List Tk→Int→Prop) (hG:Sht G l c) (HO:COp G) (NX:∀ w,Rp w B l i a c→Calls Tryz.prog 91 #[.pointer (some ⟨B,0,none⟩),.int .i64 ((r:Int)+1)] w (Qst B Ev (Z i (.op (r+1)) l) l i a c w)) :
  Calls Tryz.prog 91 #[.pointer (some ⟨B,0,none⟩),.int .i64 ((r:Nat):Int)] w (Qst B Ev (Z i (.op r) l) l i a c w):=by
 have gB:=Hy h.lt
 have bb:=aj (b0 w) (.cells #[.int .i64 0,.string ⟨#[]⟩,.string ⟨#[]⟩,.string ⟨#[]⟩,.int .i64 0,.int .i64 0,.string ⟨#[]⟩,.slice none 0 0,.int .i64 0,.int .i64 0,.int .i64 0,.slice none 0 0] 43)
 have P:=Hy (h.keeps bb)
 have M:=Hy (Mx.of (B:=B) bb)
 have L2:=Hy (Blk.new w 43 #[.int .i64 0,.string ⟨#[]⟩,.string ⟨#[]⟩,.string ⟨#[]⟩,.int .i64 0,.int .i64 0,.string ⟨#[]⟩,.slice none 0 0,.int .i64 0,.int .i64 0,.int .i64 0,.slice none 0 0])
 clear h bb
 have HO0:=Hy HO
 have NX0:=Hy NX
 have HG:=Hy hG
 clear HO NX hG
 have q6:((r:Int)==6)=false:=by rw [beq_eq_false_iff_ne];omega
 have q3:((r:Int)==3)=false:=by rw [beq_eq_false_iff_ne];omega
 have w1:wrap64 ((r:Int)+1)=(r:Int)+1:=by unfold wrap64;omega
 have w2:IntKind.i64.wrap ((r:Int)+1)=(r:Int)+1:=by rw [IntKind.wrap_i64];omega
 have HR:=Hy (show 1≤r∧r≤5∧r≠3 from ⟨h1,h5,h3⟩)
 clear h1 h5 h3
 go_enter Tryz.func91,Tryz.ntmps91
 go_wp2_with fail
 have hz1:=Hy L2.o.lt
 refine (NX0.o _ P.o).mono ?_
 rintro e w1 ⟨u1,x1,l1,a1,c1,rfl,v1,pp,mm,af1⟩
 have AF1:=Hy af1
 clear af1
 replace L2:=Hy (ak L2.o mm (by have:=gB.o;omega) L2.o.lt)
 replace M:=Hy (M.o.nx mm)
 replace P:=Hy pp
 clear pp mm
 obtain ⟨ua1,uc1,aa1,ac1,rfl,U1⟩:=v1
 have V1:=Hy U1
 clear U1
 replace V1:=Hy (V1.o.less (Nat.succ_le_of_lt hz1.o))
 have VQ:=Hy (fB (q:=fun b=>w.heap.size+1≤b∧b≠w1.heap.size) V1.o (fun b h1 h2=>⟨h1,by omega⟩))
 clear V1
 go_wp2_with ((refine aB aH (.tmp 5) (.tmp 24) rfl rfl _ _ _ _ rfl rfl (Blk.new _ _ _) rfl rfl (aG _ _ _ _ _) ?_;intro w1L L hs;have bb:=(aj (b0 w1) _).trans (hs.below (Nat.le_refl _));have gB5:=Hy P.o.lt;have hw5:=Hy (show w.heap.size<w1.heap.size from L2.o.lt);have L5:=Hy L;replace L2:=Hy (L2.o.below bb L2.o.lt);replace VQ:=Hy (VQ.o.keep (bL bb));replace P:=Hy (P.o.keeps bb);replace M:=Hy (M.o.nx (.of bb));clear bb hs L))
 have ZR:=Hy (fun y l9 a9 c9 (h:Aft (Z i (.tl r (r+1) x1) l1) l1 a1 c1 y l9 a9 c9)=>show Aft (Z i (.op r) l) l a c y l9 a9 c9 from (by rw [Dt i HR.o.1 HR.o.2.1 (fun h=>HR.o.2.2 h.1)];exact AF1.o.bind h))
 have AF0:=Hy (show c1=0→c=0∧l1.length<l.length from fun hc=>by
  subst hc
  have h0:=AF1.o.fine (eG (m:=.op (r+1)) (by have:=HR.o;show r+1≤6;omega))
  have h1:=gM h0.2.1
  simp only [Md.le] at h1
  exact ⟨h0.1,by omega⟩)
 clear AF1 NX0
 refine (jw B r HR.o.1 HR.o.2.1 l1 i a1 c1 _ P.o).mono ?_
 rintro e w2 ⟨rfl,pp,mm⟩
 replace L2:=Hy (ak L2.o mm (by have:=gB.o;omega) L2.o.lt)
 replace VQ:=Hy (VQ.o.keep (bQ mm (by have:=gB.o;rintro ⟨h,_⟩;omega)))
 replace L5:=Hy (ak L5.o mm (by have:=gB5.o;omega) L5.o.lt)
 replace M:=Hy (M.o.nx mm)
 replace P:=Hy pp
 clear pp mm
 go_wp2_with fail
 have hl5:=Hy (show w.heap.size<w1.heap.size from hw5.o)
 generalize w1.heap.size=g5 at *
 go_loopg [6] (l1.length+1) (fun k vo wr => ∃ (x:Ex) (ua aa:Option Addr) (uc ac:Nat) (l':List Tk) (a' c':Int),vo=.string (opF r l' c')∧Hid (Rp wr B (Otl r l' c') i a' c')∧Hid (Mx w.heap.size B w wr)∧Hid (Blk wr w.heap.size 43 #[.int .i64 0,.string ⟨#[]⟩,.string ⟨#[]⟩,.string ⟨#[]⟩,.int .i64 0,.int .i64 0,.string ⟨#[]⟩,.slice none 0 0,.int .i64 0,.int .i64 0,.int .i64 0,.slice none 0 0])∧Hid (Blk wr g5 43 (exC x ua uc aa ac))∧Hid (EcQ (fun b=>w.heap.size+1≤b∧b≠g5) wr x ua aa)∧Hid (∀ y l9 a9 c9,Aft (Z i (.tl r (r+1) x) l') l' a' c' y l9 a9 c9→Aft (Z i (.op r) l) l a c y l9 a9 c9)∧Hid (0<k∧(c'=0→l'.length<k∧c=0∧l'.length<l.length)))
 case atStart=>exact ⟨x1,ua1,aa1,uc1,ac1,l1,a1,c1,rfl,P,M,L2,L5,VQ,ZR,Hy ⟨Nat.succ_pos _,fun hc=>⟨Nat.lt_succ_self _,AF0.o hc⟩⟩⟩
 case round =>
  clear P M L2 L5 VQ ZR AF0
  obtain ⟨x,ua,aa,uc,ac,l',a',c',rfl,P,M,L2,L5,V,ZR,hk⟩:=hrel
  rcases gk with _ | gk
  ·exact absurd hk.o.1 (Nat.lt_irrefl _)
  by_cases ho:opF r l' c'=.empty
  ·have q8:(opF r l' c' != ByteArray.empty)=false:=by rw [ho];rfl
   have AE:=Hy (ZR.o x (Otl r l' c') a' c' (by
    have e:Otl r l' c'=l':=by unfold Otl;rw [if_pos ho]
    rw [e]
    by_cases hc:c'=0
    ·rw [mF i (n:=r) (by have:=HR.o;omega),if_pos (by unfold opF at ho;rw [if_pos hc] at ho;exact ho)]
     exact .pure _ _ _ _
    ·exact .still _ _ _ hc _))
   have q9:(opF r l' c').toList.isEmpty=true:=by rw [ho];exact FR
   clear ZR hk ho
   generalize opF r l' c'=op at *
   generalize Otl r l' c'=lo at *
   go_wp2_with (first | (refine aL aH Tryz.underlying43 rfl (.tmp 5) rfl rfl _ _ _ rfl L5.o rfl ?_) | (refine aB aH (.tmp 4) (.tmp 44) rfl rfl _ _ _ _ rfl rfl L2.o rfl rfl (aG _ _ _ _ _) ?_;intro w9 hb9 hs9))
   refine aF rfl _ _ _ _ _ rfl hb9 rfl ?_
   exact ⟨_,x,lo,a',c',rfl,iR (fA V.o fun b h=>h.1) hs9,P.o.st hs9 gB.o,M.o.trans (.st hs9 (.inr (Nat.le_refl _))),AE.o⟩
  ·obtain ⟨hc0,ho1,ho2,ho3⟩:=vI ho
   subst hc0
   have q9:(opF r l' 0).toList.isEmpty=false:=CU ho
   have hdf:=Hy (yE (r:=r) HR.o.1 HR.o.2.1 _ (yC ho2))
   rw [← ho1] at hdf
   have HT:=Hy (jN ho2)
   have HO1:=Hy ho1
   have HO2:=Hy ho2
   rw [ho3] at P
   have hne:=P.o.tl.ne
   have htl:=Hy (aR (jN ho2))
   have hc00:=Hy (hk.o.2 (by trivial)).2.1
   have hl2:=Hy (show 1≤l'.tail.length from by cases hq:l'.tail with
    | nil=>exact absurd hq hne
    | cons _ _=>simp)
   clear ho1 ho2 ho3 hne ho
   have HC:=Hy (show ∀ W,Rp W B l'.tail i a' 0→Calls Tryz.prog 91 #[.pointer (some ⟨B,0,none⟩),.int .i64 ((r:Int)+1)] W (Qst B Ev (Z i (.op (r+1)) l'.tail) l'.tail i a' 0 W) from fun W hW=>HO0.o (r+1) (by omega) (by have:=HR.o;omega) B i l'.tail a' 0 W hW (HG.o l'.tail 0 hc00.o (fun _=>by have:=htl.o;have:=(hk.o.2 (by trivial)).2.2;omega)))
   generalize opF r l' 0=op at *
   go_wp2_with fail
   replace P:=Hy (P.o.keeps (b0 _).drew)
   replace M:=Hy (M.o.nx (.of (b0 wr).drew))
   replace L2:=Hy (L2.o.below (b0 wr).drew L2.o.lt)
   replace L5:=Hy (L5.o.below (b0 wr).drew L5.o.lt)
   replace V:=Hy (V.o.keep (bL (b0 wr).drew))
   refine wp_region_held_drew (S:=fun _=>True) (by kernel_rfl) trivial (fun hH=>?_)
   refine aA 0 30 ?_ rfl (by kernel_rfl) rfl (fun _ _ _ h=>h) rfl hH (fun w' hS=>?_) ?_
   rotate_left
   ·go_simp;first | done | with_reducible rfl
   simp only [List.set_cons_zero,List.set_cons_succ]
   refine aA 2 32 ?_ rfl (by kernel_rfl) rfl (fun _ _ _ h=>h) rfl hH (fun w' hS=>?_) ?_
   rotate_left
   ·go_simp;first | done | with_reducible rfl
   simp only [List.set_cons_zero,List.set_cons_succ]
   refine aA 3 33 ?_ rfl (by kernel_rfl) rfl (fun _ _ _ h=>h) rfl hH (fun w' hS=>?_) ?_
   rotate_left
   ·go_simp;first | done | with_reducible rfl
   simp only [List.set_cons_zero,List.set_cons_succ]
   refine aA 4 34 ?_ rfl (by kernel_rfl) rfl (fun _ _ _ h=>h) rfl hH (fun w' hS=>?_) ?_
   rotate_left
   ·go_simp;first | done | with_reducible rfl
   simp only [List.set_cons_zero,List.set_cons_succ]
   skip
   refine bN (i:=1) (j:=5) rfl rfl (by kernel_rfl) rfl rfl (fun K hK=>?_) (fun K hK=>?_)
   ·refine eO (.tmp 5) rfl _ _ _ rfl L5.o rfl ?_
    refine hK.o _ _ trivial (fun hH=>?_)
    clear hK K
    refine av (i:=5) rfl (by kernel_rfl) rfl (fun K hK=>?_)
    go_simp
    refine (HC.o _ P.o).mono ?_
    rintro e w3 ⟨u3,x3,l3,a3,c3,rfl,v3,pp,mm,af3⟩
    obtain ⟨ua3,uc3,aa3,ac3,rfl,E3⟩:=v3
    have hz3:=L2.o.lt
    have hz5:=L5.o.lt
    have V3:=Hy (fB (q:=fun b=>w.heap.size+1≤b∧b≠g5) E3 (fun b h1 _=>⟨by omega,by omega⟩))
    have AF3:=Hy af3
    clear af3 E3
    replace L2:=Hy (ak L2.o mm (by have:=gB.o;omega) L2.o.lt)
    replace L5:=Hy (ak L5.o mm (by have:=gB5.o;omega) L5.o.lt)
    replace V:=Hy (V.o.keep (bQ mm (by have:=gB.o;rintro ⟨h,_⟩;omega)))
    replace M:=Hy (M.o.nx mm)
    replace P:=Hy pp
    clear pp mm hz3 hz5
    refine hK.o _ _ trivial (fun hH=>?_)
    clear hK K
    refine av (i:=6) rfl (by kernel_rfl) rfl (fun K hK=>?_)
    simp only [exC]
    go_simp
    refine hK.o _ _ trivial (fun hH=>?_)
    clear hK K
    refine av (i:=7) rfl (by kernel_rfl) rfl (fun K hK=>?_)
    go_simp
    refine hK.o _ _ trivial (fun hH=>?_)
    clear hK K
    refine av (i:=8) rfl (by kernel_rfl) rfl (fun K hK=>?_)
    refine bZ (.tmp 5) (.tmp 37) rfl _ _ _ _ rfl rfl (L5.o.past _) rfl rfl (by simp [Value.oneCell']) ?_
    intro w9 hb9 hs9
    refine hK.o _ _ trivial (fun hH=>?_)
    clear hK K
    have hB:=Blk.new w3 43 (ex2 x ua uc aa ac x3 ua3 uc3 aa3 ac3)
    have bb:=aj (b0 w3) (.cells (ex2 x ua uc aa ac x3 ua3 uc3 aa3 ac3) 43)
    have hlt5:=hl5.o
    have L5':=Hy (show Blk w9 g5 43 (exC (aT op x x3) none 0 (some ⟨w3.heap.size,0,none⟩) 2) from by unfold aT;rw [if_neg hdf.o];exact hb9)
    have hz2:=L2.o.lt
    have hz5:=L5.o.lt
    have V':=Hy (show EcQ (fun b=>w.heap.size+1≤b∧b≠g5) w9 (aT op x x3) none (some ⟨w3.heap.size,0,none⟩) from by
     have A9:EcQ (fun b=>w.heap.size+1≤b∧b≠g5) _ ⟨{ h0 with k:=7,op:=op },.cons x.h x.ar (.cons x3.h x3.ar .nil)⟩ none (some ⟨w3.heap.size,0,none⟩):=⟨.inl rfl,nU hB (V.o.keep (bL bb)) (V3.o.keep (bL bb)) ⟨by omega,by omega⟩⟩
     unfold aT
     rw [if_neg hdf.o]
     exact A9.keep (eu hs9 (by rintro ⟨_,h⟩;exact h rfl)))
    have L2':=Hy ((L2.o.past (.cells (ex2 x ua uc aa ac x3 ua3 uc3 aa3 ac3) 43)).st hs9 (by omega))
    have P':=Hy ((P.o.keeps bb).st hs9 gB5.o)
    have M':=Hy ((M.o.nx (.of bb)).trans (.st hs9 (.inr (Nat.le_of_lt hlt5))))
    have HK2:=Hy (show 0<gk∧(c3=0→l3.length<gk∧c=0∧l3.length<l.length) from by
     have h1:=(hk.o.2 (by trivial))
     have h2:=hl2.o
     have h3:=htl.o
     refine ⟨by omega,fun hc=>?_⟩
     subst hc
     have h4:=gM (AF3.o.fine (eG (m:=.op (r+1)) (by have:=HR.o;show r+1≤6;omega))).2.1
     simp only [Md.le] at h4
     exact ⟨by omega,h1.2.1,by omega⟩)
    have ZR2:=Hy (show ∀ y l9 a9 c9,Aft (Z i (.tl r (r+1) (aT op x x3)) l3) l3 a3 c3 y l9 a9 c9→Aft (Z i (.op r) l) l a c y l9 a9 c9 from fun y l9 a9 c9 h=>ZR.o _ _ _ _ (by rw [mF i (n:=r) (by have:=HR.o;omega),if_neg HO2.o];exact .tl rfl (AF3.o.bind (by rw [if_neg HR.o.2.2,← HO1.o];exact h))))
    clear hB bb hs9 hb9 L5 V V3 L2 P M ZR hk hlt5 AF3 hz2 hz5
    refine wpAnyH_done (by kernel_rfl) ?_ _
    go_wp2_with fail
    refine (jw B r HR.o.1 HR.o.2.1 l3 i a3 c3 _ P'.o).mono ?_
    rintro e w10 ⟨rfl,pp,mm⟩
    have L2:=Hy (ak L2'.o mm (by have:=gB.o;omega) L2'.o.lt)
    have L5:=Hy (ak L5'.o mm (by have:=gB5.o;omega) L5'.o.lt)
    have V:=Hy (V'.o.keep (bQ mm (by have:=gB.o;rintro ⟨h,_⟩;omega)))
    have M:=Hy (M'.o.nx mm)
    have P:=Hy pp
    clear pp mm P' M' L2' L5' V'
    go_wp2_with fail
    go_roundg gk
    case measure=>omega
    case rel=>exact ⟨aT op x x3,none,some ⟨w3.heap.size,0,none⟩,0,2,l3,a3,c3,rfl,P,M,L2,L5,V,ZR2,HK2⟩
   ·go_simp
    refine (HC.o _ P.o).mono ?_
    rintro e w3 ⟨u3,x3,l3,a3,c3,rfl,v3,pp,mm,af3⟩
    obtain ⟨ua3,uc3,aa3,ac3,rfl,E3⟩:=v3
    have hz3:=L2.o.lt
    have hz5:=L5.o.lt
    have V3:=Hy (fB (q:=fun b=>w.heap.size+1≤b∧b≠g5) E3 (fun b h1 _=>⟨by omega,by omega⟩))
    have AF3:=Hy af3
    clear af3 E3
    replace L2:=Hy (ak L2.o mm (by have:=gB.o;omega) L2.o.lt)
    replace L5:=Hy (ak L5.o mm (by have:=gB5.o;omega) L5.o.lt)
    replace V:=Hy (V.o.keep (bQ mm (by have:=gB.o;rintro ⟨h,_⟩;omega)))
    replace M:=Hy (M.o.nx mm)
    replace P:=Hy pp
    clear pp mm hz3 hz5
    refine hK.o _ _ trivial (fun hH=>?_)
    clear hK K
    refine av (i:=1) rfl (by kernel_rfl) rfl (fun K hK=>?_)
    refine eO (.tmp 5) rfl _ _ _ rfl L5.o rfl ?_
    refine hK.o _ _ trivial (fun hH=>?_)
    clear hK K
    refine av (i:=6) rfl (by kernel_rfl) rfl (fun K hK=>?_)
    simp only [exC]
    go_simp
    refine hK.o _ _ trivial (fun hH=>?_)
    clear hK K
    refine av (i:=7) rfl (by kernel_rfl) rfl (fun K hK=>?_)
    go_simp
    refine hK.o _ _ trivial (fun hH=>?_)
    clear hK K
    refine av (i:=8) rfl (by kernel_rfl) rfl (fun K hK=>?_)
    refine bZ (.tmp 5) (.tmp 37) rfl _ _ _ _ rfl rfl (L5.o.past _) rfl rfl (by simp [Value.oneCell']) ?_
    intro w9 hb9 hs9
    refine hK.o _ _ trivial (fun hH=>?_)
    clear hK K
    have hB:=Blk.new w3 43 (ex2 x ua uc aa ac x3 ua3 uc3 aa3 ac3)
    have bb:=aj (b0 w3) (.cells (ex2 x ua uc aa ac x3 ua3 uc3 aa3 ac3) 43)
    have hlt5:=hl5.o
    have L5':=Hy (show Blk w9 g5 43 (exC (aT op x x3) none 0 (some ⟨w3.heap.size,0,none⟩) 2) from by unfold aT;rw [if_neg hdf.o];exact hb9)
    have hz2:=L2.o.lt
    have hz5:=L5.o.lt
    have V':=Hy (show EcQ (fun b=>w.heap.size+1≤b∧b≠g5) w9 (aT op x x3) none (some ⟨w3.heap.size,0,none⟩) from by
     have A9:EcQ (fun b=>w.heap.size+1≤b∧b≠g5) _ ⟨{ h0 with k:=7,op:=op },.cons x.h x.ar (.cons x3.h x3.ar .nil)⟩ none (some ⟨w3.heap.size,0,none⟩):=⟨.inl rfl,nU hB (V.o.keep (bL bb)) (V3.o.keep (bL bb)) ⟨by omega,by omega⟩⟩
     unfold aT
     rw [if_neg hdf.o]
     exact A9.keep (eu hs9 (by rintro ⟨_,h⟩;exact h rfl)))
    have L2':=Hy ((L2.o.past (.cells (ex2 x ua uc aa ac x3 ua3 uc3 aa3 ac3) 43)).st hs9 (by omega))
    have P':=Hy ((P.o.keeps bb).st hs9 gB5.o)
    have M':=Hy ((M.o.nx (.of bb)).trans (.st hs9 (.inr (Nat.le_of_lt hlt5))))
    have HK2:=Hy (show 0<gk∧(c3=0→l3.length<gk∧c=0∧l3.length<l.length) from by
     have h1:=(hk.o.2 (by trivial))
     have h2:=hl2.o
     have h3:=htl.o
     refine ⟨by omega,fun hc=>?_⟩
     subst hc
     have h4:=gM (AF3.o.fine (eG (m:=.op (r+1)) (by have:=HR.o;show r+1≤6;omega))).2.1
     simp only [Md.le] at h4
     exact ⟨by omega,h1.2.1,by omega⟩)
    have ZR2:=Hy (show ∀ y l9 a9 c9,Aft (Z i (.tl r (r+1) (aT op x x3)) l3) l3 a3 c3 y l9 a9 c9→Aft (Z i (.op r) l) l a c y l9 a9 c9 from fun y l9 a9 c9 h=>ZR.o _ _ _ _ (by rw [mF i (n:=r) (by have:=HR.o;omega),if_neg HO2.o];exact .tl rfl (AF3.o.bind (by rw [if_neg HR.o.2.2,← HO1.o];exact h))))
    clear hB bb hs9 hb9 L5 V V3 L2 P M ZR hk hlt5 AF3 hz2 hz5
    refine wpAnyH_done (by kernel_rfl) ?_ _
    go_wp2_with fail
    refine (jw B r HR.o.1 HR.o.2.1 l3 i a3 c3 _ P'.o).mono ?_
    rintro e w10 ⟨rfl,pp,mm⟩
    have L2:=Hy (ak L2'.o mm (by have:=gB.o;omega) L2'.o.lt)
    have L5:=Hy (ak L5'.o mm (by have:=gB5.o;omega) L5'.o.lt)
    have V:=Hy (V'.o.keep (bQ mm (by have:=gB.o;rintro ⟨h,_⟩;omega)))
    have M:=Hy (M'.o.nx mm)
    have P:=Hy pp
    clear pp mm P' M' L2' L5' V'
    go_wp2_with fail
    go_roundg gk
    case measure=>omega
    case rel=>exact ⟨aT op x x3,none,some ⟨w3.heap.size,0,none⟩,0,2,l3,a3,c3,rfl,P,M,L2,L5,V,ZR2,HK2⟩
structure At (l:List Tk) (c:Int):Prop where
 ex:∀ (B:Nat) (i:Bool) (a:Int) (w:World),Rp w B l i a c→Calls Tryz.prog 48 #[.pointer (some ⟨B,0,none⟩)] w (Qst B Ev (Z i .ex l) l i a c w)
 ng:∀ (B:Nat) (i:Bool) (a:Int) (w:World),Rp w B l i a c→Calls Tryz.prog 146 #[.pointer (some ⟨B,0,none⟩)] w (Qst B Ev (Z i .ng l) l i a c w)
 op:∀ (r:Nat),1≤r→r≤6→∀ (B:Nat) (i:Bool) (a:Int) (w:World),Rp w B l i a c→Calls Tryz.prog 91 #[.pointer (some ⟨B,0,none⟩),.int .i64 (r:Nat)] w (Qst B Ev (Z i (.op r) l) l i a c w)
theorem zk (G:List Tk→Int→Prop) (HX:CEx G) (HN:CNg G) (HO:COp G) (l:List Tk) (c:Int) (hG:Sht G l c):At l c:=by
 have wd:∀ (B:Nat) (i:Bool) (a:Int),c=0→(hd l).k=1→∀ w,Rp w B l i a c→Calls Tryz.prog 224 #[.pointer (some ⟨B,0,none⟩)] w (Qst B Ev (Z i .pr l) l i a c w) :=
  fun B i a hc hk w h=>Jj B l i a c w h hc hk G hG HX fun hi w h=>Mr B l i a c w h hc hi G hG HX
 have pr:∀ (B:Nat) (i:Bool) (a:Int) (w:World),Rp w B l i a c→Calls Tryz.prog 184 #[.pointer (some ⟨B,0,none⟩)] w (Qst B Ev (Z i .pr l) l i a c w) :=
  fun B i a w h=>JK B l i a c w h G hG HX (wd B i a)
 have ng:∀ (B:Nat) (i:Bool) (a:Int) (w:World),Rp w B l i a c→Calls Tryz.prog 146 #[.pointer (some ⟨B,0,none⟩)] w (Qst B Ev (Z i .ng l) l i a c w) :=
  fun B i a w h=>Gc B l i a c w h G hG HN (pr B i a)
 have o6:∀ (B:Nat) (i:Bool) (a:Int) (w:World),Rp w B l i a c→Calls Tryz.prog 91 #[.pointer (some ⟨B,0,none⟩),.int .i64 ((6:Nat):Int)] w (Qst B Ev (Z i (.op 6) l) l i a c w) :=
  fun B i a w h=>Dl B l i a c w h (ng B i a)
 have o5:∀ (B:Nat) (i:Bool) (a:Int) (w:World),Rp w B l i a c→Calls Tryz.prog 91 #[.pointer (some ⟨B,0,none⟩),.int .i64 ((5:Nat):Int)] w (Qst B Ev (Z i (.op 5) l) l i a c w) :=
  fun B i a w h=>mq B 5 (by decide) (by decide) (by decide) l i a c w h G hG HO (o6 B i a)
 have o4:∀ (B:Nat) (i:Bool) (a:Int) (w:World),Rp w B l i a c→Calls Tryz.prog 91 #[.pointer (some ⟨B,0,none⟩),.int .i64 ((4:Nat):Int)] w (Qst B Ev (Z i (.op 4) l) l i a c w) :=
  fun B i a w h=>mq B 4 (by decide) (by decide) (by decide) l i a c w h G hG HO (o5 B i a)
 have o3:∀ (B:Nat) (i:Bool) (a:Int) (w:World),Rp w B l i a c→Calls Tryz.prog 91 #[.pointer (some ⟨B,0,none⟩),.int .i64 ((3:Nat):Int)] w (Qst B Ev (Z i (.op 3) l) l i a c w) :=
  fun B i a w h=>Dm B l i a c w h G hG HO (o4 B i a)
 have o2:∀ (B:Nat) (i:Bool) (a:Int) (w:World),Rp w B l i a c→Calls Tryz.prog 91 #[.pointer (some ⟨B,0,none⟩),.int .i64 ((2:Nat):Int)] w (Qst B Ev (Z i (.op 2) l) l i a c w) :=
  fun B i a w h=>mq B 2 (by decide) (by decide) (by decide) l i a c w h G hG HO (o3 B i a)
 have o1:∀ (B:Nat) (i:Bool) (a:Int) (w:World),Rp w B l i a c→Calls Tryz.prog 91 #[.pointer (some ⟨B,0,none⟩),.int .i64 ((1:Nat):Int)] w (Qst B Ev (Z i (.op 1) l) l i a c w) :=
  fun B i a w h=>mq B 1 (by decide) (by decide) (by decide) l i a c w h G hG HO (o2 B i a)
 refine ⟨fun B i a w h=>KE B l i a c w h G hG HX HO (o1 B i a),ng,fun r h1 h6=>?_⟩
 obtain rfl | rfl | rfl | rfl | rfl | rfl:r=1∨r=2∨r=3∨r=4∨r=5∨r=6:=by omega
 ·exact o1
 ·exact o2
 ·exact o3
 ·exact o4
 ·exact o5
 ·exact o6
theorem qI:∀ (N:Nat) (l:List Tk) (c:Int),(c=0→l.length<N)→At l c
 | 0,l,c,h=>zk (fun _ _=>False) (fun _ _ _ _ _ _ _ h=>h.elim) (fun _ _ _ _ _ _ _ h=>h.elim) (fun _ _ _ _ _ _ _ _ _ _ h=>h.elim) l c fun _ _ hc _=>absurd (h hc) (Nat.not_lt_zero _)
 | N+1,l,c,h=>zk (fun l' c' => c'=0→l'.length<N) (fun B i l' a c' w hp hl=>(qI N l' c' hl).ex B i a w hp) (fun B i l' a c' w hp hl=>(qI N l' c' hl).ng B i a w hp) (fun r h1 h6 B i l' a c' w hp hl=>(qI N l' c' hl).op r h1 h6 B i a w hp) l c
  fun l' c' hc hl h0=>by
   have h1:=h hc
   have h2:=hl h0
   omega
theorem KF (B:Nat) (l:List Tk) (i:Bool) (a c:Int) (w:World) (h:Rp w B l i a c):Calls Tryz.prog 48 #[.pointer (some ⟨B,0,none⟩)] w (Qst B Ev (Z i .ex l) l i a c w) :=
 (qI (l.length+1) l c fun _=>Nat.lt_succ_self _).ex B i a w h
theorem Dq {α:Type} (one:List Tk→Rs α) (l:List Tk):dF one l=(one l).bind fun x r=>(tkk 6 r).bind fun _ r=>.ok x r:=by
 unfold dF
 refine congrArg _ (funext fun x=>funext fun r=>?_)
 unfold jX tkk
 split
 ·rw [if_pos rfl]
  rfl
 ·rfl
theorem BD (a0:Option Addr) (n0 cap:Nat) (s:ByteArray) (w:World) (hS:Bs w a0 n0 cap s) (tr:Ex × Int × Int) (hTT:dn (α:=Ex) ⟨h0,.nil⟩ exR s=tr) :
  Calls Tryz.prog 13 #[.slice a0 n0 cap] w fun e w' => ∃ v,e=.returned (.tuple #[v,.int .i64 tr.2.1,.int .i64 tr.2.2])∧Ev w.heap.size w' v tr.1∧Below w.heap.size w w':=by
 replace hTT:=Hy hTT
 have bb:=aj (b0 w) (.cells #[.int .i64 0,.string ⟨#[]⟩,.string ⟨#[]⟩,.string ⟨#[]⟩,.int .i64 0,.int .i64 0,.string ⟨#[]⟩,.slice none 0 0,.int .i64 0,.int .i64 0,.int .i64 0,.slice none 0 0] 43)
 have SC:=Hy (r9 a0 n0 cap s _ (hS.keeps bb))
 have L2:=Hy (Blk.new w 43 #[.int .i64 0,.string ⟨#[]⟩,.string ⟨#[]⟩,.string ⟨#[]⟩,.int .i64 0,.int .i64 0,.string ⟨#[]⟩,.slice none 0 0,.int .i64 0,.int .i64 0,.int .i64 0,.slice none 0 0])
 have BB:=Hy bb
 have hsz:=Hy (by simp:(w.alloc (.cells #[.int .i64 0,.string ⟨#[]⟩,.string ⟨#[]⟩,.string ⟨#[]⟩,.int .i64 0,.int .i64 0,.string ⟨#[]⟩,.slice none 0 0,.int .i64 0,.int .i64 0,.int .i64 0,.slice none 0 0] 43)).heap.size=w.heap.size+1)
 clear hS bb
 go_enter Tryz.func13,Tryz.ntmps13
 go_wp2_with fail
 refine SC.o.mono ?_
 rintro e w2 ⟨v,a,c,rfl,b2,hq⟩
 have B2:=Hy (aD BB.o b2)
 replace L2:=Hy (L2.o.below b2 L2.o.lt)
 have hs2:=Hy (show w.heap.size+1≤w2.heap.size from by have:=b2.size;have:=hsz.o;omega)
 rcases hq with ⟨B,rfl,rfl,rfl,hB,hE,hb,hp⟩ | ⟨hc,rfl,hT⟩
 rotate_left
 ·have q1:(c != 0)=true:=bne_iff_ne.2 hc
  have HT:=Hy (show tr=(⟨h0,.nil⟩,a,c) from by rw [← hTT.o];exact hT _ _ _)
  clear SC BB b2 hc hT hTT
  go_wp2_with (refine aB aH (.tmp 2) (.tmp 17) rfl rfl _ _ _ _ rfl rfl L2.o rfl rfl (by simp [Value.oneCell']) ?_;intro w9 hb9 hs9)
  refine dM aH Tryz.underlying43 rfl rfl _ _ _ _ _ rfl hb9 rfl ?_
  rw [HT.o]
  exact ⟨_,rfl,⟨none,0,none,0,rfl,⟨.inl rfl,.inl rfl⟩⟩,B2.o.trans (hs9.below (Nat.le_refl _))⟩
 have gB:=Hy (show w.heap.size<B from by have:=hsz.o;omega)
 have P:=Hy hp
 have gB2:=Hy hp.lt
 have hE0:=Hy hE
 have hBB:=Hy hb
 have M:=Hy (Mx.refl w2.heap.size B w2)
 clear SC BB b2 hB hsz hp hE hb
 go_wp2_with fail
 refine (KF B (aU s) false 0 0 _ P.o).mono ?_
 rintro e w3 ⟨u3,x3,l3,a3,c3,rfl,v3,pp,mm,af3⟩
 obtain ⟨ua3,uc3,aa3,ac3,rfl,E3⟩:=v3
 have V3:=Hy E3
 clear E3
 have AF3:=Hy af3
 replace L2:=Hy (ak L2.o mm (by have:=gB.o;omega) L2.o.lt)
 replace M:=Hy (M.o.nx mm)
 replace P:=Hy pp
 have hs3:=Hy (show w2.heap.size≤w3.heap.size from mm.size)
 clear pp mm af3
 go_wp2_with (refine aB aH (.tmp 8) (.tmp 21) rfl rfl _ _ _ _ rfl rfl (Blk.new _ _ _) rfl rfl (aG _ _ _ _ _) ?_;intro w4 L hs;have bb:=(aj (b0 w3) _).trans (hs.below (Nat.le_refl _));have L8:=Hy L;replace L2:=Hy (L2.o.below bb L2.o.lt);replace V3:=Hy (V3.o.kp (aK bb));replace P:=Hy (P.o.keeps bb);replace M:=Hy (M.o.nx (.of bb));clear bb hs L)
 refine (gP B l3 false a3 c3 6 _ P.o).mono ?_
 rintro e w5 ⟨u5,x5,l5,a5,c5,rfl,⟨rfl,zs5⟩,pp,mm,af5⟩
 have AF:=Hy (show Aft (dF exR (aU s)) (aU s) 0 0 x3 l5 a5 c5 from by rw [Dq,MF];exact AF3.o.bind (af5.bind (.pure _ _ _ _)))
 replace L2:=Hy (ak L2.o mm (by have:=gB.o;omega) L2.o.lt)
 replace L8:=Hy (ak L8.o mm (by have:=gB2.o;have:=hs3.o;omega) L8.o.lt)
 replace V3:=Hy (V3.o.kp (mm.kp gB2.o))
 replace M:=Hy (M.o.nx mm)
 replace P:=Hy pp
 clear pp mm af5 AF3 zs5
 have BF:=Hy (B2.o.trans (M.o.below (S':=w.heap.size) (Nat.le_of_lt gB.o) (by have:=hs2.o;omega)))
 obtain ⟨bk,off,n,cap',hb,_⟩:=P.o.now
 have e2:=hb.cell 2
 have e3:=hb.cell 3
 simp only [List.getElem?_toArray,List.getElem?_cons_zero,List.getElem?_cons_succ] at e2 e3
 clear hb
 rcases hA:dF exR (aU s) with _ | ⟨x,l1⟩ | ⟨b,d,l1⟩
 ·exact absurd hA (nV (jW) _)
 ·have hT:=Hy (show tr=(x,0,0) from by rw [← hTT.o];exact nJ hE0.o hBB.o hA)
  rw [hA] at AF
  have h9:=AF.o
  unfold Aft at h9
  rw [if_pos rfl] at h9
  obtain ⟨rfl,-,-,rfl⟩:=h9
  clear AF hA hTT e2
  go_wp2_with (first | (refine aL aH Tryz.underlying43 rfl (.tmp 8) rfl rfl _ _ _ rfl L8.o rfl ?_) | (refine aB aH (.tmp 2) (.tmp 41) rfl rfl _ _ _ _ rfl rfl L2.o rfl rfl (aG _ _ _ _ _) ?_;intro w9 hb9 hs9))
  refine dM aH Tryz.underlying43 rfl rfl _ _ _ _ _ rfl hb9 rfl ?_
  rw [hT.o]
  exact ⟨_,rfl,⟨ua3,uc3,aa3,ac3,rfl,(V3.o.kp (hs9.kp (by have:=hs2.o;omega))).less (by have:=hs2.o;omega)⟩,BF.o.trans (hs9.below (Nat.le_refl _))⟩
 ·have hT:=Hy (show tr=(⟨h0,.nil⟩,b,d) from by rw [← hTT.o];exact nK hE0.o hBB.o hA)
  rw [hA] at AF
  have h9:=AF.o
  unfold Aft at h9
  rw [if_pos rfl] at h9
  obtain ⟨rfl,rfl,hd⟩:=h9
  have q2:(c5 != 0)=true:=bne_iff_ne.2 hd
  clear AF hA hTT hd
  go_wp2_with fail
  have SS:=Hy (show Blk w5.drew w.heap.size 43 #[.int .i64 0,.string ⟨#[]⟩,.string ⟨#[]⟩,.string ⟨#[]⟩,.int .i64 0,.int .i64 0,.string ⟨#[]⟩,.slice none 0 0,.int .i64 0,.int .i64 0,.int .i64 0,.slice none 0 0]∧w5.drew.cell? ⟨B,2,none⟩=some (.int .i64 a5)∧w5.drew.cell? ⟨B,3,none⟩=some (.int .i64 c5) from ⟨L2.o,e2,e3⟩)
  clear e2 e3
  refine wp_region_held_drew (S:=fun w' => Blk w' w.heap.size 43 #[.int .i64 0,.string ⟨#[]⟩,.string ⟨#[]⟩,.string ⟨#[]⟩,.int .i64 0,.int .i64 0,.string ⟨#[]⟩,.slice none 0 0,.int .i64 0,.int .i64 0,.int .i64 0,.slice none 0 0]∧w'.cell? ⟨B,2,none⟩=some (.int .i64 a5)∧w'.cell? ⟨B,3,none⟩=some (.int .i64 c5)) (by kernel_rfl) SS.o (fun hH=>?_)
  refine aA 0 30 ?_ rfl (by kernel_rfl) rfl (fun _ _ _ h=>h) rfl hH (fun w' hS=>?_) ?_
  rotate_left
  ·go_simp;first | done | with_reducible rfl
  simp only [List.set_cons_zero,List.set_cons_succ]
  refine aA 1 31 ?_ rfl (by kernel_rfl) rfl (fun _ _ _ h=>h) rfl hH (fun w' hS=>?_) ?_
  rotate_left
  ·go_simp;first | done | with_reducible rfl
  simp only [List.set_cons_zero,List.set_cons_succ]
  refine aA 2 32 ?_ rfl (by kernel_rfl) rfl (fun _ _ _ h=>h) rfl hH (fun w' hS=>?_) ?_
  rotate_left
  ·go_simp;first | done | with_reducible rfl
  simp only [List.set_cons_zero,List.set_cons_succ]
  refine aA 3 33 ?_ rfl (by kernel_rfl) rfl (fun _ _ _ h=>h) rfl hH (fun w' hS=>?_) ?_
  rotate_left
  ·go_simp;first | done | with_reducible rfl
  simp only [List.set_cons_zero,List.set_cons_succ]
  refine aA 4 34 ?_ rfl (by kernel_rfl) rfl (fun _ _ _ h=>h) rfl hH (fun w' hS=>?_) ?_
  rotate_left
  ·go_simp;first | done | with_reducible rfl
  simp only [List.set_cons_zero,List.set_cons_succ]
  refine aA 5 35 ?_ rfl (by kernel_rfl) rfl (fun _ _ _ h=>h) rfl hH (fun w' hS=>?_) ?_
  rotate_left
  ·have e1:=hS.2.1;go_simp;first | done | with_reducible rfl
  simp only [List.set_cons_zero,List.set_cons_succ]
  refine aA 6 36 ?_ rfl (by kernel_rfl) rfl (fun _ _ _ h=>h) rfl hH (fun w' hS=>?_) ?_
  rotate_left
  ·go_simp;first | done | with_reducible rfl
  simp only [List.set_cons_zero,List.set_cons_succ]
  refine aA 7 37 ?_ rfl (by kernel_rfl) rfl (fun _ _ _ h=>h) rfl hH (fun w' hS=>?_) ?_
  rotate_left
  ·go_simp;first | done | with_reducible rfl
  simp only [List.set_cons_zero,List.set_cons_succ]
  refine aA 8 38 ?_ rfl (by kernel_rfl) rfl (fun _ _ _ h=>h) rfl hH (fun w' hS=>?_) ?_
  rotate_left
  ·go_simp;first | done | with_reducible rfl
  simp only [List.set_cons_zero,List.set_cons_succ]
  refine aA 9 39 ?_ rfl (by kernel_rfl) rfl (fun _ _ _ h=>h) rfl hH (fun w' hS=>?_) ?_
  rotate_left
  ·go_simp;first | done | with_reducible rfl
  simp only [List.set_cons_zero,List.set_cons_succ]
  refine aA 10 40 ?_ rfl (by kernel_rfl) rfl (fun _ _ _ h=>h) rfl hH (fun w' hS=>?_) ?_
  rotate_left
  ·have e1:=hS.2.2;go_simp;first | done | with_reducible rfl
  simp only [List.set_cons_zero,List.set_cons_succ]
  refine av (i:=11) rfl (by kernel_rfl) rfl (fun K hK=>?_)
  refine eT aH (.tmp 2) (.tmp 30) rfl _ _ _ _ rfl rfl hH.1 rfl rfl (by simp [Value.oneCell']) ?_
  intro w9 hb9 hs9
  refine hK.o _ _ ⟨hb9,(World.cell?_of_block (w:=w5.drew) (hs9.block B (by have:=gB.o;omega))).trans hH.2.1,(World.cell?_of_block (w:=w5.drew) (hs9.block B (by have:=gB.o;omega))).trans hH.2.2⟩ (fun hH=>?_)
  clear hK K
  have B9:=Hy (BF.o.drew.trans (hs9.below (Nat.le_refl _)))
  replace hb9:=Hy hb9
  clear hs9 SS
  simp only [Act.put]
  refine aA 12 3 ?_ rfl (by kernel_rfl) rfl (fun _ _ _ h=>h) rfl hH (fun w' hS=>?_) ?_
  rotate_left
  ·go_simp;first | done | with_reducible rfl
  simp only [List.set_cons_zero,List.set_cons_succ]
  refine aA 13 4 ?_ rfl (by kernel_rfl) rfl (fun _ _ _ h=>h) rfl hH (fun w' hS=>?_) ?_
  rotate_left
  ·go_simp;first | done | with_reducible rfl
  simp only [List.set_cons_zero,List.set_cons_succ]
  clear hH
  refine wpAnyH_done (by kernel_rfl) ?_ _
  go_wp2_with fail
  refine dM aH Tryz.underlying43 rfl rfl _ _ _ _ _ rfl hb9.o rfl ?_
  rw [hT.o]
  exact ⟨_,rfl,⟨none,0,none,0,rfl,⟨.inl rfl,.inl rfl⟩⟩,B9.o⟩
theorem Br (a0:Option Addr) (n0 cap:Nat) (s:ByteArray) (w:World) (hS:Bs w a0 n0 cap s) (tr:Ty × Int × Int) (hTT:dn (α:=Ty) ⟨0,[],.empty⟩ typ s=tr) :
  Calls Tryz.prog 15 #[.slice a0 n0 cap] w fun e w' => ∃ v,e=.returned (.tuple #[v,.int .i64 tr.2.1,.int .i64 tr.2.2])∧Tv w.heap.size w' v tr.1∧Below w.heap.size w w':=by
 replace hTT:=Hy hTT
 have bb:=aj (b0 w) (.cells #[.int .i64 0,.slice none 0 0,.string ⟨#[]⟩] 47)
 have SC:=Hy (r9 a0 n0 cap s _ (hS.keeps bb))
 have L2:=Hy (Blk.new w 47 #[.int .i64 0,.slice none 0 0,.string ⟨#[]⟩])
 have BB:=Hy bb
 have hsz:=Hy (by simp:(w.alloc (.cells #[.int .i64 0,.slice none 0 0,.string ⟨#[]⟩] 47)).heap.size=w.heap.size+1)
 clear hS bb
 go_enter Tryz.func15,Tryz.ntmps15
 go_wp2_with fail
 refine SC.o.mono ?_
 rintro e w2 ⟨v,a,c,rfl,b2,hq⟩
 have B2:=Hy (aD BB.o b2)
 replace L2:=Hy (L2.o.below b2 L2.o.lt)
 have hs2:=Hy (show w.heap.size+1≤w2.heap.size from by have:=b2.size;have:=hsz.o;omega)
 rcases hq with ⟨B,rfl,rfl,rfl,hB,hE,hb,hp⟩ | ⟨hc,rfl,hT⟩
 rotate_left
 ·have q1:(c != 0)=true:=bne_iff_ne.2 hc
  have HT:=Hy (show tr=(⟨0,[],.empty⟩,a,c) from by rw [← hTT.o];exact hT _ _ _)
  clear SC BB b2 hc hT hTT
  go_wp2_with (refine aB aV (.tmp 2) (.tmp 17) rfl rfl _ _ _ _ rfl rfl L2.o rfl rfl (by simp [Value.oneCell']) ?_;intro w9 hb9 hs9)
  refine dM aV Tryz.underlying47 rfl rfl _ _ _ _ _ rfl hb9 rfl ?_
  rw [HT.o]
  exact ⟨_,rfl,⟨none,0,rfl,.inl rfl⟩,B2.o.trans (hs9.below (Nat.le_refl _))⟩
 have gB:=Hy (show w.heap.size<B from by have:=hsz.o;omega)
 have P:=Hy hp
 have gB2:=Hy hp.lt
 have hE0:=Hy hE
 have hBB:=Hy hb
 have M:=Hy (Mx.refl w2.heap.size B w2)
 clear SC BB b2 hB hsz hp hE hb
 go_wp2_with fail
 refine (Jl B (aU s) false 0 0 _ P.o).mono ?_
 rintro e w3 ⟨u3,x3,l3,a3,c3,rfl,v3,pp,mm,af3⟩
 obtain ⟨ua3,uc3,rfl,E3⟩:=v3
 have V3:=Hy E3
 clear E3
 have AF3:=Hy af3
 replace L2:=Hy (ak L2.o mm (by have:=gB.o;omega) L2.o.lt)
 replace M:=Hy (M.o.nx mm)
 replace P:=Hy pp
 have hs3:=Hy (show w2.heap.size≤w3.heap.size from mm.size)
 clear pp mm af3
 go_wp2_with (refine aB aV (.tmp 8) (.tmp 21) rfl rfl _ _ _ _ rfl rfl (Blk.new _ _ _) rfl rfl (by simp [Value.oneCell']) ?_;intro w4 L hs;have bb:=(aj (b0 w3) _).trans (hs.below (Nat.le_refl _));have L8:=Hy L;replace L2:=Hy (L2.o.below bb L2.o.lt);replace V3:=Hy (V3.o.kp (aK bb));replace P:=Hy (P.o.keeps bb);replace M:=Hy (M.o.nx (.of bb));clear bb hs L)
 refine (gP B l3 false a3 c3 6 _ P.o).mono ?_
 rintro e w5 ⟨u5,x5,l5,a5,c5,rfl,⟨rfl,zs5⟩,pp,mm,af5⟩
 have AF:=Hy (show Aft (dF typ (aU s)) (aU s) 0 0 x3 l5 a5 c5 from by rw [Dq];exact AF3.o.bind (af5.bind (.pure _ _ _ _)))
 replace L2:=Hy (ak L2.o mm (by have:=gB.o;omega) L2.o.lt)
 replace L8:=Hy (ak L8.o mm (by have:=gB2.o;have:=hs3.o;omega) L8.o.lt)
 replace V3:=Hy (V3.o.kp (mm.kp gB2.o))
 replace M:=Hy (M.o.nx mm)
 replace P:=Hy pp
 clear pp mm af5 AF3 zs5
 have BF:=Hy (B2.o.trans (M.o.below (S':=w.heap.size) (Nat.le_of_lt gB.o) (by have:=hs2.o;omega)))
 obtain ⟨bk,off,n,cap',hb,_⟩:=P.o.now
 have e2:=hb.cell 2
 have e3:=hb.cell 3
 simp only [List.getElem?_toArray,List.getElem?_cons_zero,List.getElem?_cons_succ] at e2 e3
 clear hb
 rcases hA:dF typ (aU s) with _ | ⟨x,l1⟩ | ⟨b,d,l1⟩
 ·exact absurd hA (nV (fun l=>jd l) _)
 ·have hT:=Hy (show tr=(x,0,0) from by rw [← hTT.o];exact nJ hE0.o hBB.o hA)
  rw [hA] at AF
  have h9:=AF.o
  unfold Aft at h9
  rw [if_pos rfl] at h9
  obtain ⟨rfl,-,-,rfl⟩:=h9
  clear AF hA hTT e2
  go_wp2_with (first | (refine aL aV Tryz.underlying47 rfl (.tmp 8) rfl rfl _ _ _ rfl L8.o rfl ?_) | (refine aB aV (.tmp 2) (.tmp 41) rfl rfl _ _ _ _ rfl rfl L2.o rfl rfl (by simp [Value.oneCell']) ?_;intro w9 hb9 hs9))
  refine dM aV Tryz.underlying47 rfl rfl _ _ _ _ _ rfl hb9 rfl ?_
  rw [hT.o]
  exact ⟨_,rfl,⟨ua3,uc3,rfl,(V3.o.kp (hs9.kp (by have:=hs2.o;omega))).less (by have:=hs2.o;omega)⟩,BF.o.trans (hs9.below (Nat.le_refl _))⟩
 ·have hT:=Hy (show tr=(⟨0,[],.empty⟩,b,d) from by rw [← hTT.o];exact nK hE0.o hBB.o hA)
  rw [hA] at AF
  have h9:=AF.o
  unfold Aft at h9
  rw [if_pos rfl] at h9
  obtain ⟨rfl,rfl,hd⟩:=h9
  have q2:(c5 != 0)=true:=bne_iff_ne.2 hd
  clear AF hA hTT hd
  go_wp2_with fail
  have SS:=Hy (show Blk w5.drew w.heap.size 47 #[.int .i64 0,.slice none 0 0,.string ⟨#[]⟩]∧w5.drew.cell? ⟨B,2,none⟩=some (.int .i64 a5)∧w5.drew.cell? ⟨B,3,none⟩=some (.int .i64 c5) from ⟨L2.o,e2,e3⟩)
  clear e2 e3
  refine wp_region_held_drew (S:=fun w' => Blk w' w.heap.size 47 #[.int .i64 0,.slice none 0 0,.string ⟨#[]⟩]∧w'.cell? ⟨B,2,none⟩=some (.int .i64 a5)∧w'.cell? ⟨B,3,none⟩=some (.int .i64 c5)) (by kernel_rfl) SS.o (fun hH=>?_)
  refine aA 0 30 ?_ rfl (by kernel_rfl) rfl (fun _ _ _ h=>h) rfl hH (fun w' hS=>?_) ?_
  rotate_left
  ·go_simp;first | done | with_reducible rfl
  simp only [List.set_cons_zero,List.set_cons_succ]
  refine aA 1 31 ?_ rfl (by kernel_rfl) rfl (fun _ _ _ h=>h) rfl hH (fun w' hS=>?_) ?_
  rotate_left
  ·go_simp;first | done | with_reducible rfl
  simp only [List.set_cons_zero,List.set_cons_succ]
  refine aA 2 32 ?_ rfl (by kernel_rfl) rfl (fun _ _ _ h=>h) rfl hH (fun w' hS=>?_) ?_
  rotate_left
  ·go_simp;first | done | with_reducible rfl
  simp only [List.set_cons_zero,List.set_cons_succ]
  refine aA 3 33 ?_ rfl (by kernel_rfl) rfl (fun _ _ _ h=>h) rfl hH (fun w' hS=>?_) ?_
  rotate_left
  ·go_simp;first | done | with_reducible rfl
  simp only [List.set_cons_zero,List.set_cons_succ]
  refine aA 4 34 ?_ rfl (by kernel_rfl) rfl (fun _ _ _ h=>h) rfl hH (fun w' hS=>?_) ?_
  rotate_left
  ·go_simp;first | done | with_reducible rfl
  simp only [List.set_cons_zero,List.set_cons_succ]
  refine aA 5 35 ?_ rfl (by kernel_rfl) rfl (fun _ _ _ h=>h) rfl hH (fun w' hS=>?_) ?_
  rotate_left
  ·have e1:=hS.2.1;go_simp;first | done | with_reducible rfl
  simp only [List.set_cons_zero,List.set_cons_succ]
  refine aA 6 36 ?_ rfl (by kernel_rfl) rfl (fun _ _ _ h=>h) rfl hH (fun w' hS=>?_) ?_
  rotate_left
  ·go_simp;first | done | with_reducible rfl
  simp only [List.set_cons_zero,List.set_cons_succ]
  refine aA 7 37 ?_ rfl (by kernel_rfl) rfl (fun _ _ _ h=>h) rfl hH (fun w' hS=>?_) ?_
  rotate_left
  ·go_simp;first | done | with_reducible rfl
  simp only [List.set_cons_zero,List.set_cons_succ]
  refine aA 8 38 ?_ rfl (by kernel_rfl) rfl (fun _ _ _ h=>h) rfl hH (fun w' hS=>?_) ?_
  rotate_left
  ·go_simp;first | done | with_reducible rfl
  simp only [List.set_cons_zero,List.set_cons_succ]
  refine aA 9 39 ?_ rfl (by kernel_rfl) rfl (fun _ _ _ h=>h) rfl hH (fun w' hS=>?_) ?_
  rotate_left
  ·go_simp;first | done | with_reducible rfl
  simp only [List.set_cons_zero,List.set_cons_succ]
  refine aA 10 40 ?_ rfl (by kernel_rfl) rfl (fun _ _ _ h=>h) rfl hH (fun w' hS=>?_) ?_
  rotate_left
  ·have e1:=hS.2.2;go_simp;first | done | with_reducible rfl
  simp only [List.set_cons_zero,List.set_cons_succ]
  refine av (i:=11) rfl (by kernel_rfl) rfl (fun K hK=>?_)
  refine eT aV (.tmp 2) (.tmp 30) rfl _ _ _ _ rfl rfl hH.1 rfl rfl (by simp [Value.oneCell']) ?_
  intro w9 hb9 hs9
  refine hK.o _ _ ⟨hb9,(World.cell?_of_block (w:=w5.drew) (hs9.block B (by have:=gB.o;omega))).trans hH.2.1,(World.cell?_of_block (w:=w5.drew) (hs9.block B (by have:=gB.o;omega))).trans hH.2.2⟩ (fun hH=>?_)
  clear hK K
  have B9:=Hy (BF.o.drew.trans (hs9.below (Nat.le_refl _)))
  replace hb9:=Hy hb9
  clear hs9 SS
  simp only [Act.put]
  refine aA 12 3 ?_ rfl (by kernel_rfl) rfl (fun _ _ _ h=>h) rfl hH (fun w' hS=>?_) ?_
  rotate_left
  ·go_simp;first | done | with_reducible rfl
  simp only [List.set_cons_zero,List.set_cons_succ]
  refine aA 13 4 ?_ rfl (by kernel_rfl) rfl (fun _ _ _ h=>h) rfl hH (fun w' hS=>?_) ?_
  rotate_left
  ·go_simp;first | done | with_reducible rfl
  simp only [List.set_cons_zero,List.set_cons_succ]
  clear hH
  refine wpAnyH_done (by kernel_rfl) ?_ _
  go_wp2_with fail
  refine dM aV Tryz.underlying47 rfl rfl _ _ _ _ _ rfl hb9.o rfl ?_
  rw [hT.o]
  exact ⟨_,rfl,⟨none,0,rfl,.inl rfl⟩,B9.o⟩
end Go.Proofs.YtbpijgddfaefkaaGreatDoor.rr
namespace Go.Proofs.YtbpijgddfaefkaaGreatDoor.pa
open Go.RowKit dec
theorem Gd {s:ByteArray} {x:Ty} {a c:Int} (h:dn (α:=Ty) ⟨0,[],.empty⟩ typ s=(x,a,c)):x.un.length≤1048576:=by
 unfold dn at h
 split at h
 ·cases hb:dL s with
  | cons q qs=>rw [hb] at h;cases h;exact Nat.zero_le _
  | nil =>
   rw [hb] at h
   cases ha:dF typ (aU s) with
   | out=>rw [ha] at h;cases h;exact Nat.zero_le _
   | ok v r =>
    rw [ha] at h
    cases h
    obtain ⟨h1,_⟩:=Dp ha
    exact Jm h1
   | no a' c' r=>rw [ha] at h;cases h;exact Nat.zero_le _
 ·cases h;exact Nat.zero_le _
theorem zq (a0:Option Addr) (n0 c0:Nat) (s0:ByteArray) (a1:Option Addr) (n1 c1:Nat) (s1:ByteArray) (w:World) (hS0:Bs w a0 n0 c0 s0) (hS1:Bs w a1 n1 c1 s1) (T:Tabs w) (EXA:ExA) :
  Calls Tryz.prog 4 #[.slice a0 n0 c0,.slice a1 n1 c1] w fun e w' => e=.returned (.bool true)∧Below w.heap.size w w':=by
 have T0:=Hy T
 have EX:=Hy EXA
 have FW:=Hy (y5 a0 n0 c0 2000 s0 w hS0)
 have GW:=Hy (y5 a1 n1 c1 2000 s1 w hS1)
 have X0:=Hy (Dj hS0 2000)
 have Y0:=Hy (Dj hS1 2000)
 obtain ⟨x,hx⟩:∃ x,oM 2000 s0=x:=⟨_,rfl⟩
 obtain ⟨y,hy⟩:∃ x,oM 2000 s1=x:=⟨_,rfl⟩
 rw [hx] at FW X0
 rw [hy] at GW Y0
 obtain ⟨⟨ex,ea,ec⟩,hE⟩:∃ t,dn (α:=Ex) ⟨h0,.nil⟩ exR x=t:=⟨_,rfl⟩
 obtain ⟨⟨ty,ta,tc⟩,hT⟩:∃ t,dn (α:=Ty) ⟨0,[],.empty⟩ typ y=t:=⟨_,rfl⟩
 have HE:=Hy hE
 have HT:=Hy hT
 have SE:=Hy (pJ hE)
 have ST:=Hy (Gd hT)
 clear T EXA hS0 hS1 hE hT hx hy
 go_enter Tryz.func4,Tryz.ntmps4
 go_wp2_with fail
 refine FW.o.mono ?_
 rintro e w0 ⟨rfl,hw0⟩
 subst w0
 go_wp2_with fail
 refine GW.o.mono ?_
 rintro e w0 ⟨rfl,hw0⟩
 subst w0
 clear FW GW
 go_wp2_with fail
 refine (iq _ _ _ x _ X0.o T0.o _ HE.o).mono ?_
 rintro e w1 ⟨v,rfl,⟨ua1,uc1,aa1,ac1,rfl,E⟩,b⟩
 have E1:=Hy E
 have B1:=Hy b
 clear b E
 go_wp2_with (refine aB aH (.tmp 7) (.tmp 26) rfl rfl _ _ _ _ rfl rfl (Blk.new _ _ _) rfl rfl (aG _ _ _ _ _) ?_;intro w2 L s3;have b:=(aj (b0 w1) _).trans (s3.below (Nat.le_refl _));have L7:=Hy L;replace B1:=Hy (aD B1.o b);replace E1:=Hy (E1.o.kp (aK b));clear L s3 b)
 refine (rr.BD _ _ _ x _ (X0.o.keeps B1.o) _ HE.o).mono ?_
 rintro e w3 ⟨v,rfl,⟨ua2,uc2,aa2,ac2,rfl,E⟩,b⟩
 have E2:=Hy E
 replace B1:=Hy (aD B1.o b)
 replace L7:=Hy (L7.o.below b L7.o.lt)
 replace E1:=Hy (E1.o.kp (aK b))
 clear b E
 go_wp2_with (refine aB aH (.tmp 10) (.tmp 32) rfl rfl _ _ _ _ rfl rfl (Blk.new _ _ _) rfl rfl (aG _ _ _ _ _) ?_;intro w4 L s3;have b:=(aj (b0 w3) _).trans (s3.below (Nat.le_refl _));have L10:=Hy L;replace B1:=Hy (aD B1.o b);replace L7:=Hy (L7.o.below b L7.o.lt);replace E1:=Hy (E1.o.kp (aK b));replace E2:=Hy (E2.o.kp (aK b));clear L s3 b)
 refine (uL _ _ _ y _ (Y0.o.keeps B1.o) (T0.o.stays B1.o) _ HT.o).mono ?_
 rintro e w5 ⟨v,rfl,⟨ua3,uc3,rfl,E⟩,b⟩
 have E3:=Hy E
 replace B1:=Hy (aD B1.o b)
 replace L7:=Hy (L7.o.below b L7.o.lt)
 replace L10:=Hy (L10.o.below b L10.o.lt)
 replace E1:=Hy (E1.o.kp (aK b))
 replace E2:=Hy (E2.o.kp (aK b))
 clear b E
 go_wp2_with (refine aB aV (.tmp 13) (.tmp 38) rfl rfl _ _ _ _ rfl rfl (Blk.new _ _ _) rfl rfl (by simp [Value.oneCell']) ?_;intro w6 L s3;have b:=(aj (b0 w5) _).trans (s3.below (Nat.le_refl _));have L13:=Hy L;replace B1:=Hy (aD B1.o b);replace L7:=Hy (L7.o.below b L7.o.lt);replace L10:=Hy (L10.o.below b L10.o.lt);replace E1:=Hy (E1.o.kp (aK b));replace E2:=Hy (E2.o.kp (aK b));replace E3:=Hy (E3.o.kp (aK b));clear L s3 b)
 refine (rr.Br _ _ _ y _ (Y0.o.keeps B1.o) _ HT.o).mono ?_
 rintro e w7 ⟨v,rfl,⟨ua4,uc4,rfl,E⟩,b⟩
 have E4:=Hy E
 replace B1:=Hy (aD B1.o b)
 replace L7:=Hy (L7.o.below b L7.o.lt)
 replace L10:=Hy (L10.o.below b L10.o.lt)
 replace L13:=Hy (L13.o.below b L13.o.lt)
 replace E1:=Hy (E1.o.kp (aK b))
 replace E2:=Hy (E2.o.kp (aK b))
 replace E3:=Hy (E3.o.kp (aK b))
 clear b E
 have q1:(ec==ec)=true:=beq_self_eq_true _
 have q2:(ea==ea)=true:=beq_self_eq_true _
 have q3:(tc==tc)=true:=beq_self_eq_true _
 have q4:(ta==ta)=true:=beq_self_eq_true _
 go_wp2_with (first | (refine aB aV (.tmp 16) (.tmp 44) rfl rfl _ _ _ _ rfl rfl (Blk.new _ _ _) rfl rfl (by simp [Value.oneCell']) ?_;intro w8 L s3;have b:=(aj (b0 w7) _).trans (s3.below (Nat.le_refl _));have L16:=Hy L;replace B1:=Hy (aD B1.o b);replace L7:=Hy (L7.o.below b L7.o.lt);replace L10:=Hy (L10.o.below b L10.o.lt);replace L13:=Hy (L13.o.below b L13.o.lt);replace E1:=Hy (E1.o.kp (aK b));replace E2:=Hy (E2.o.kp (aK b));replace E3:=Hy (E3.o.kp (aK b));replace E4:=Hy (E4.o.kp (aK b));clear L s3 b) | (refine iI aH Tryz.underlying43 rfl (.tmp 7) rfl (by first | rfl | decide | kernel_rfl) _ _ _ rfl L7.o rfl ?_) | (refine iI aH Tryz.underlying43 rfl (.tmp 10) rfl (by first | rfl | decide | kernel_rfl) _ _ _ rfl L10.o rfl ?_) | (refine iI aV Tryz.underlying47 rfl (.tmp 13) rfl (by first | rfl | decide | kernel_rfl) _ _ _ rfl L13.o rfl ?_) | (refine iI aV Tryz.underlying47 rfl (.tmp 16) rfl (by first | rfl | decide | kernel_rfl) _ _ _ rfl L16.o rfl ?_))
 refine (j6 _ _ ex ua1 aa1 ua2 aa2 uc1 ac1 uc2 ac2 _ SE.o.1 SE.o.2.1 SE.o.2.2 E1.o E2.o).mono ?_
 rintro e w9 ⟨rfl,b⟩
 replace B1:=Hy (aD B1.o b)
 replace L7:=Hy (L7.o.below b L7.o.lt)
 replace L10:=Hy (L10.o.below b L10.o.lt)
 replace L13:=Hy (L13.o.below b L13.o.lt)
 replace L16:=Hy (L16.o.below b L16.o.lt)
 replace E3:=Hy (E3.o.kp (aK b))
 replace E4:=Hy (E4.o.kp (aK b))
 clear b
 go_wp2_with (first | (refine iI aV Tryz.underlying47 rfl (.tmp 13) rfl (by first | rfl | decide | kernel_rfl) _ _ _ rfl L13.o rfl ?_) | (refine iI aV Tryz.underlying47 rfl (.tmp 16) rfl (by first | rfl | decide | kernel_rfl) _ _ _ rfl L16.o rfl ?_))
 refine (sI _ _ ty ua3 ua4 uc3 uc4 _ E3.o E4.o ST.o).mono ?_
 rintro e w10 ⟨rfl,b⟩
 replace B1:=Hy (aD B1.o b)
 clear b
 go_wp2_with fail
 refine (EX.o _ (T0.o.stays B1.o)).mono ?_
 rintro e w11 ⟨rfl,b⟩
 replace B1:=Hy (aD B1.o b)
 clear b
 go_wp2_with fail
 go_ret
 exact ⟨rfl,B1.o⟩
end Go.Proofs.YtbpijgddfaefkaaGreatDoor.pa
namespace Go.Proofs.YtbpijgddfaefkaaGreatDoor.parserExprs
open Go.ChangeShapes Go.WideShapes Go.ChangeAt Go.RowKit Go.Joins
open Go.ChangeMaps (open_string shut_string)
theorem lifted (os:Os) (started:os.Started) (H:Type) (enc:TypeId × Value→H) :
  ReturnsInHanded {} Tryz.checked os 4 .any (fun w args=>(Rows.parserExprsSpec.pre enc Tryz.prog Tryz.f4 [] false w args∧laidMetH Tryz.prog qj w)∧sizedMet enc Tryz.prog Tryz.f4 (OpenSpec.ofChange Rows.parserExprsSpec) false w args)
   (Rows.parserExprsSpec.post enc Tryz.prog Tryz.f4 false true false false):=by
 refine returnsInHanded_of_change_and (C:=Tryz.checked) (X:=fun w _=>laidMetH Tryz.prog qj w) (fun _ _ _ hh h=>h.of_heap hh) own started (by kernel_rfl) Tryz.func4
  (ChangeSpec.witness_shaped (enc:=enc) (C:=Tryz.checked) (os:=os) (X:=fun w _=>laidMetH Tryz.prog qj w) false (World.doorLaid Tryz.prog 93 os) #[.slice none 0 0,.slice none 0 0] 8 rfl (World.shaped_of_RefB (by kernel_rfl) (by kernel_rfl)) (by kernel_rfl) (by kernel_rfl) (by kernel_rfl) (ES os _)) ?_
 intro Z base args ds gs before hval0 hW hcnd hsz hL _
 have hval:∀ (j:Nat) t v,Tryz.f4.params[j]? = some t→args[j]? = some v→Value.okWide Tryz.prog Z .any base t v:=hval0
 have hW':=hW
 obtain ⟨p,q,hA0,hV,rfl,hfz,hnd⟩:=hW
 have hA:DataW.TrodAll enc Tryz.prog Z 0 (fun _=>true) true Tryz.f4.params.toList args.toList ds p:=hA0
 rw [Tryz.params4] at hA hval hsz
 obtain ⟨v0,vs0,d0,ds0,p0,q0,hargs,rfl,rfl,h0,r0⟩:=trodAll_cons hA
 obtain ⟨v1,vs1,d1,ds1,p1,q1,rfl,rfl,rfl,h1,r1⟩:=trodAll_cons r0
 obtain ⟨rfl,rfl,rfl⟩:=trodAll_nil r1
 obtain rfl:args=#[v0,v1]:=by cases args;simp_all
 obtain ⟨rfl,rfl⟩:=trodVars_none hV
 obtain ⟨a0,len0,cap0,rfl⟩:=okWide_slice Tryz.underlying22 (hval 0 22 v0 rfl rfl)
 have k0:=h0
 have lt0:∀ x ∈ p0,x.block<Z.heap.size:=by obtain ⟨m,hm⟩:=k0;exact DataW.trod_lt m _ _ _ hm
 have hL0:∃ s,Bs Z a0 len0 cap0 s:=by
  obtain ⟨fuel,hf⟩:=h0
  refine FT (by simpa [Value.cells] using hf) (fun elems spare he=>?_)
  subst he
  exact sized_slice hsz (j:=0) (t:=22) rfl rfl Tryz.underlying22
 obtain ⟨s0,hL0⟩:=hL0
 obtain ⟨a1,len1,cap1,rfl⟩:=okWide_slice Tryz.underlying22 (hval 1 22 v1 rfl rfl)
 have k1:=h1
 have lt1:∀ x ∈ p1,x.block<Z.heap.size:=by obtain ⟨m,hm⟩:=k1;exact DataW.trod_lt m _ _ _ hm
 have hL1:∃ s,Bs Z a1 len1 cap1 s:=by
  obtain ⟨fuel,hf⟩:=h1
  refine FT (by simpa [Value.cells] using hf) (fun elems spare he=>?_)
  subst he
  exact sized_slice hsz (j:=1) (t:=22) rfl rfl Tryz.underlying22
 obtain ⟨s1,hL1⟩:=hL1
 clear hA0 hval0
 simp only [List.append_nil] at hW'
 refine (pa.zq _ _ _ _ _ _ _ _ Z hL0 hL1 (uN hL) pa.xH).mono fun e Z' ⟨he,bel⟩=>?_
 subst he
 exact ⟨_,rfl,_,_,_,[],_,[],hW',trodAll_mk1 (shut_bool Tryz.underlying4 _),(trodAll_cons_mk (Below.trod laidOut (by kernel_rfl) (of_decide_eq_true (by kernel_rfl)) k0 bel lt0) (trodAll_cons_mk (Below.trod laidOut (by kernel_rfl) (of_decide_eq_true (by kernel_rfl)) k1 bel lt1) trodAll_mk0)),rfl,bel.frame _,fun h=>by cases h⟩
theorem over:Rows.ParserExprsSaid :=
 OpenClaim.holds_of_wide 4 Tryz.f4 rfl rfl rfl rfl rfl rfl rfl ⟨rfl,rfl,rfl,rfl,rfl⟩ rfl rfl rfl rfl rfl (by kernel_rfl) Tryz.func4 (by kernel_rfl)
  (of_decide_eq_true (by kernel_rfl)) (by unfold Func.isWrapper;first | (rw [if_pos (by decide +kernel)];kernel_rfl) | (rw [if_neg (by decide +kernel)];exact ⟨rfl,rfl⟩))
  (fun os started H enc _=>lifted os started H enc)
theorem proved:Rows.ParserExprsCardSaid :=
 Claim7.holds_tied_plain_at .later [] [.data,.data,.data,.sentinel,.sentinel,.data,.data,.data] true _ true
  over (fun _ h=>by cases h) (by kernel_rfl) (fun _ h=>by cases h) parserExprs_row_tie rfl ⟨rfl,rfl⟩ (by kernel_rfl) rfl
  (fun f fn hf hfn=>by
   obtain rfl:f=4:=Option.some.inj ((show Tryz.prog.funcNamed "asof/asoflaw09.ParserExprs" = some 4 by kernel_rfl).symm.trans hf) |>.symm
   obtain rfl:fn=Tryz.f4:=(Option.some.inj (Tryz.func4.symm.trans hfn)).symm
   exact ⟨by kernel_rfl,fun j t ht=>by
    rw [Tryz.params4] at ht
    have hm:t ∈ [22,22]:=by simpa using Array.mem_of_getElem? ht
    have hall:([22,22].all fun u => !Tryz.prog.wantsStandIn u)=true:=by kernel_rfl
    exact (show Tryz.prog.wantsStandIn t=false by simpa using List.all_eq_true.1 hall t hm)⟩)
  (by kernel_rfl)
#print axioms proved
end Go.Proofs.YtbpijgddfaefkaaGreatDoor.parserExprs
