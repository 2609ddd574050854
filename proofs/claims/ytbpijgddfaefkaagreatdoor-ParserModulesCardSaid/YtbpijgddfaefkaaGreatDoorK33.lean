/-
  The reference's reader: operations of a rank that is not that of comparisons; The reference's reader: expressions of any length; The reference's reader: fields and features.
-/
import Derived.Test.YtbpijgddfaefkaaGreatDoorK32
set_option maxRecDepth 100000
set_option maxHeartbeats 16000000
namespace Go.Proofs.YtbpijgddfaefkaaGreatDoor
namespace rr
open Go.RowKit dec pa
theorem nV (B:Nat) (r:Nat) (h1:1≤r) (h5:r≤5) (h3:r≠3) (l:List Tk) (i:Bool) (a c:Int) (w:World) (h:Rp w B l i a c) (G:List Tk→Int→Prop) (hG:Sht G l c) (HO:COp G) (NX:∀ w,Rp w B l i a c→Calls Tryz.prog 91 #[.pointer (some ⟨B,0,none⟩),.int .i64 ((r:Int)+1)] w (Qst B Ev (Z i (.op (r+1)) l) l i a c w)) :
    Calls Tryz.prog 91 #[.pointer (some ⟨B,0,none⟩),.int .i64 ((r:Nat):Int)] w (Qst B Ev (Z i (.op r) l) l i a c w):=by
 have gB:=Hy h.lt;have bb:=aj (b0 w) (.cells #[.int .i64 0,.string ⟨#[]⟩,.string ⟨#[]⟩,.string ⟨#[]⟩,.int .i64 0,.int .i64 0,.string ⟨#[]⟩,.slice none 0 0,.int .i64 0,.int .i64 0,.int .i64 0,.slice none 0 0] 43);have P:=Hy (h.keeps bb);have M:=Hy (Mx.of (B:=B) bb);have L2:=Hy (Blk.new w 43 #[.int .i64 0,.string ⟨#[]⟩,.string ⟨#[]⟩,.string ⟨#[]⟩,.int .i64 0,.int .i64 0,.string ⟨#[]⟩,.slice none 0 0,.int .i64 0,.int .i64 0,.int .i64 0,.slice none 0 0]);clear h bb;have HO0:=Hy HO;have NX0:=Hy NX;have HG:=Hy hG;clear HO NX hG;have q6:((r:Int)==6)=false:=by rw [beq_eq_false_iff_ne];omega
 have q3:((r:Int)==3)=false:=by rw [beq_eq_false_iff_ne];omega
 have w1:wrap64 ((r:Int)+1)=(r:Int)+1:=by unfold wrap64;omega
 have w2:IntKind.i64.wrap ((r:Int)+1)=(r:Int)+1:=by rw [IntKind.wrap_i64];omega
 have HR:=Hy (show 1≤r∧r≤5∧r≠3 from ⟨h1,h5,h3⟩);clear h1 h5 h3
 go_enter Tryz.func91,Tryz.ntmps91
 go_wp2_with fail;have hz1:=Hy L2.o.lt;refine (NX0.o _ P.o).mono ?_;rintro e w1 ⟨u1,x1,l1,a1,c1,rfl,v1,pp,mm,af1⟩;have AF1:=Hy af1;clear af1;replace L2:=bk1 L2 mm gB;replace M:=Hy (M.o.nx mm);replace P:=Hy pp;clear pp mm;obtain ⟨ua1,uc1,aa1,ac1,rfl,U1⟩:=v1;have V1:=Hy U1;clear U1;replace V1:=Hy (V1.o.less (Nat.succ_le_of_lt hz1.o));have VQ:=Hy (fU (q:=fun b=>w.heap.size+1≤b∧b≠w1.heap.size) V1.o (fun b h1 h2=>⟨h1,by omega⟩));clear V1;go_wp2_with ((refine aA aK (.tmp 5) (.tmp 24) rfl rfl _ _ _ _ rfl rfl (Blk.new _ _ _) rfl rfl (aJ _ _ _ _ _) ?_;intro w1L L hs;have bb:=(aj (b0 w1) _).trans (hs.below lr);have gB5:=Hy P.o.lt;have hw5:=Hy (show w.heap.size<w1.heap.size from L2.o.lt);have L5:=Hy L;replace L2:=Hy (L2.o.below bb L2.o.lt);replace VQ:=Hy (VQ.o.keep (bT bb));replace P:=Hy (P.o.keeps bb);replace M:=Hy (M.o.nx (.of bb));clear bb hs L));have ZR:=Hy (fun y l9 a9 c9 (h:Aft (Z i (.tl r (r+1) x1) l1) l1 a1 c1 y l9 a9 c9)=>show Aft (Z i (.op r) l) l a c y l9 a9 c9 from (by rw [Gj i HR.o.1 HR.o.2.1 (fun h=>HR.o.2.2 h.1)];exact AF1.o.bind h));have AF0:=Hy (show c1=0→c=0∧l1.length<l.length from fun hc=>by
   subst hc
   have h0:=AF1.o.fine (fC (m:=.op (r+1)) (by have:=HR.o;show r+1≤6;omega))
   have h1:=iH h0.2.1
   simp only [Md.le] at h1
   exact ⟨h0.1,by omega⟩)
 clear AF1 NX0;refine (j3 B r HR.o.1 HR.o.2.1 l1 i a1 c1 _ P.o).mono ?_;rintro e w2 ⟨rfl,pp,mm⟩;replace L2:=bk1 L2 mm gB;replace VQ:=Hy (VQ.o.keep (bY mm (by have:=gB.o;rintro ⟨h,_⟩;omega)));replace L5:=bk1 L5 mm gB5;replace M:=Hy (M.o.nx mm);replace P:=Hy pp;clear pp mm;go_wp2_with fail;have hl5:=Hy (show w.heap.size<w1.heap.size from hw5.o);generalize w1.heap.size=g5 at *
 go_loopg [6] (l1.length+1) (fun k vo wr => ∃ (x:Ex) (ua aa:Option Addr) (uc ac:Nat) (l':List Tk) (a' c':Int),vo=.string (opF r l' c')∧Hid (Rp wr B (Otl r l' c') i a' c')∧Hid (Mx w.heap.size B w wr)∧Hid (Blk wr w.heap.size 43 #[.int .i64 0,.string ⟨#[]⟩,.string ⟨#[]⟩,.string ⟨#[]⟩,.int .i64 0,.int .i64 0,.string ⟨#[]⟩,.slice none 0 0,.int .i64 0,.int .i64 0,.int .i64 0,.slice none 0 0])∧Hid (Blk wr g5 43 (exC x ua uc aa ac))∧Hid (EcQ (fun b=>w.heap.size+1≤b∧b≠g5) wr x ua aa)∧Hid (∀ y l9 a9 c9,Aft (Z i (.tl r (r+1) x) l') l' a' c' y l9 a9 c9→Aft (Z i (.op r) l) l a c y l9 a9 c9)∧Hid (0<k∧(c'=0→l'.length<k∧c=0∧l'.length<l.length)))
 case atStart=>exact ⟨x1,ua1,aa1,uc1,ac1,l1,a1,c1,rfl,P,M,L2,L5,VQ,ZR,Hy ⟨Nat.succ_pos _,fun hc=>⟨Nat.lt_succ_self _,AF0.o hc⟩⟩⟩
 case round =>
  clear P M L2 L5 VQ ZR AF0;obtain ⟨x,ua,aa,uc,ac,l',a',c',rfl,P,M,L2,L5,V,ZR,hk⟩:=hrel;rcases gk with _ | gk
  ·exact absurd hk.o.1 (Nat.lt_irrefl _)
  by_cases ho:opF r l' c'=.empty
  ·have q8:(opF r l' c' != ByteArray.empty)=false:=by rw [ho];rfl
   have AE:=Hy (ZR.o x (Otl r l' c') a' c' (by
     have e:Otl r l' c'=l':=by unfold Otl;rw [if_pos ho]
     rw [e]
     by_cases hc:c'=0
     · rw [nZ i (n:=r) (by have:=HR.o;omega),if_pos (by unfold opF at ho;rw [if_pos hc] at ho;exact ho)]
       exact .pure _ _ _ _
     · exact .still _ _ _ hc _))
   have q9:(opF r l' c').toList.isEmpty=true:=by rw [ho];exact Jo
   clear ZR hk ho;generalize opF r l' c'=op at *;generalize Otl r l' c'=lo at *;go_wp2_with (first | (refine aH aK Tryz.underlying43 rfl (.tmp 5) rfl rfl _ _ _ rfl L5.o rfl ?_) | (refine aA aK (.tmp 4) (.tmp 44) rfl rfl _ _ _ _ rfl rfl L2.o rfl rfl (aJ _ _ _ _ _) ?_;intro w9 hb9 hs9));refine aF rfl _ _ _ _ _ rfl hb9 rfl ?_;exact ⟨_,x,lo,a',c',rfl,jy (fT V.o fun b h=>h.1) hs9,P.o.st hs9 gB.o,M.o.trans (.st hs9 (.inr lr)),AE.o⟩
  obtain ⟨hc0,ho1,ho2,ho3⟩:=yg ho;subst hc0;have q9:(opF r l' 0).toList.isEmpty=false:=FP ho;have hdf:=Hy (Au (r:=r) HR.o.1 HR.o.2.1 _ (Aq ho2));rw [← ho1] at hdf;have HT:=Hy (jl ho2);have HO1:=Hy ho1;have HO2:=Hy ho2;rw [ho3] at P;have hne:=P.o.tl.ne;have htl:=Hy (aP (jl ho2));have hc00:=Hy (hk.o.2 (by trivial)).2.1
  have hl2:=Hy (show 1≤l'.tail.length from by cases hq:l'.tail with
    | nil=>exact absurd hq hne
    | cons _ _=>simp)
  clear ho1 ho2 ho3 hne ho;have HC:=Hy (show ∀ W,Rp W B l'.tail i a' 0→Calls Tryz.prog 91 #[.pointer (some ⟨B,0,none⟩),.int .i64 ((r:Int)+1)] W (Qst B Ev (Z i (.op (r+1)) l'.tail) l'.tail i a' 0 W) from fun W hW=>HO0.o (r+1) (by omega) (by have:=HR.o;omega) B i l'.tail a' 0 W hW (HG.o l'.tail 0 hc00.o (fun _=>by have:=htl.o;have:=(hk.o.2 (by trivial)).2.2;omega)));generalize opF r l' 0=op at *;go_wp2_with fail;replace P:=Hy (P.o.keeps (b0 _).drew);replace M:=Hy (M.o.nx (.of (b0 wr).drew));replace L2:=Hy (L2.o.below (b0 wr).drew L2.o.lt);replace L5:=Hy (L5.o.below (b0 wr).drew L5.o.lt);replace V:=Hy (V.o.keep (bT (b0 wr).drew));refine wp_region_held_drew (S:=fun _=>True) (by kernel_rfl) trivial (fun hH=>?_);refine aB 0 30 ?_ rfl (by kernel_rfl) rfl (fun _ _ _ h=>h) rfl hH (fun w' hS=>?_) ?_;rotate_left
  ·go_simp;try with_reducible rfl
  simp only [sz0,sz1];refine aB 2 32 ?_ rfl (by kernel_rfl) rfl (fun _ _ _ h=>h) rfl hH (fun w' hS=>?_) ?_;rotate_left
  ·go_simp;try with_reducible rfl
  simp only [sz0,sz1];refine aB 3 33 ?_ rfl (by kernel_rfl) rfl (fun _ _ _ h=>h) rfl hH (fun w' hS=>?_) ?_;rotate_left
  ·go_simp;try with_reducible rfl
  simp only [sz0,sz1];refine aB 4 34 ?_ rfl (by kernel_rfl) rfl (fun _ _ _ h=>h) rfl hH (fun w' hS=>?_) ?_;rotate_left
  ·go_simp;try with_reducible rfl
  simp only [sz0,sz1];skip;refine bI (i:=1) (j:=5) rfl rfl (by kernel_rfl) rfl rfl (fun K hK=>?_) (fun K hK=>?_)
  ·refine fF (.tmp 5) rfl _ _ _ rfl L5.o rfl ?_;refine hK.o _ _ trivial (fun hH=>?_);clear hK K;refine ak (i:=5) rfl (by kernel_rfl) rfl (fun K hK=>?_);go_simp;refine (HC.o _ P.o).mono ?_;rintro e w3 ⟨u3,x3,l3,a3,c3,rfl,v3,pp,mm,af3⟩;obtain ⟨ua3,uc3,aa3,ac3,rfl,E3⟩:=v3;have hz3:=L2.o.lt;have hz5:=L5.o.lt;have V3:=Hy (fU (q:=fun b=>w.heap.size+1≤b∧b≠g5) E3 (fun b h1 _=>⟨by omega,by omega⟩));have AF3:=Hy af3;clear af3 E3;replace L2:=bk1 L2 mm gB;replace L5:=bk1 L5 mm gB5;replace V:=Hy (V.o.keep (bY mm (by have:=gB.o;rintro ⟨h,_⟩;omega)));replace M:=Hy (M.o.nx mm);replace P:=Hy pp;clear pp mm hz3 hz5;refine hK.o _ _ trivial (fun hH=>?_);clear hK K;refine ak (i:=6) rfl (by kernel_rfl) rfl (fun K hK=>?_);simp only [exC];go_simp;refine hK.o _ _ trivial (fun hH=>?_);clear hK K;refine ak (i:=7) rfl (by kernel_rfl) rfl (fun K hK=>?_);go_simp;refine hK.o _ _ trivial (fun hH=>?_);clear hK K;refine ak (i:=8) rfl (by kernel_rfl) rfl (fun K hK=>?_);refine dG (.tmp 5) (.tmp 37) rfl _ _ _ _ rfl rfl (L5.o.past _) rfl rfl (by simp [Value.oneCell']) ?_;intro w9 hb9 hs9;refine hK.o _ _ trivial (fun hH=>?_);clear hK K;have hB:=Blk.new w3 43 (ex2 x ua uc aa ac x3 ua3 uc3 aa3 ac3);have bb:=aj (b0 w3) (.cells (ex2 x ua uc aa ac x3 ua3 uc3 aa3 ac3) 43);have hlt5:=hl5.o;have L5':=Hy (show Blk w9 g5 43 (exC (aT op x x3) none 0 (some ⟨w3.heap.size,0,none⟩) 2) from by unfold aT;rw [if_neg hdf.o];exact hb9);have hz2:=L2.o.lt;have hz5:=L5.o.lt;have V':=Hy (show EcQ (fun b=>w.heap.size+1≤b∧b≠g5) w9 (aT op x x3) none (some ⟨w3.heap.size,0,none⟩) from by
     have A9:EcQ (fun b=>w.heap.size+1≤b∧b≠g5) _ ⟨{ h0 with k:=7,op:=op },.cons x.h x.ar (.cons x3.h x3.ar .nil)⟩ none (some ⟨w3.heap.size,0,none⟩):=⟨.inl rfl,qj hB (V.o.keep (bT bb)) (V3.o.keep (bT bb)) ⟨by omega,by omega⟩⟩
     unfold aT
     rw [if_neg hdf.o]
     exact A9.keep (fu hs9 (by rintro ⟨_,h⟩;exact h rfl)))
   have L2':=Hy ((L2.o.past (.cells (ex2 x ua uc aa ac x3 ua3 uc3 aa3 ac3) 43)).st hs9 (by omega));have P':=Hy ((P.o.keeps bb).st hs9 gB5.o);have M':=Hy ((M.o.nx (.of bb)).trans (.st hs9 (.inr (Nat.le_of_lt hlt5))));have HK2:=Hy (show 0<gk∧(c3=0→l3.length<gk∧c=0∧l3.length<l.length) from by
     have h1:=(hk.o.2 (by trivial))
     have h2:=hl2.o
     have h3:=htl.o
     refine ⟨by omega,fun hc=>?_⟩
     subst hc
     have h4:=iH (AF3.o.fine (fC (m:=.op (r+1)) (by have:=HR.o;show r+1≤6;omega))).2.1
     simp only [Md.le] at h4
     exact ⟨by omega,h1.2.1,by omega⟩)
   have ZR2:=Hy (show ∀ y l9 a9 c9,Aft (Z i (.tl r (r+1) (aT op x x3)) l3) l3 a3 c3 y l9 a9 c9→Aft (Z i (.op r) l) l a c y l9 a9 c9 from fun y l9 a9 c9 h=>ZR.o _ _ _ _ (by rw [nZ i (n:=r) (by have:=HR.o;omega),if_neg HO2.o];exact .tl rfl (AF3.o.bind (by rw [if_neg HR.o.2.2,← HO1.o];exact h))));clear hB bb hs9 hb9 L5 V V3 L2 P M ZR hk hlt5 AF3 hz2 hz5;refine wpAnyH_done (by kernel_rfl) ?_ _;go_wp2_with fail;refine (j3 B r HR.o.1 HR.o.2.1 l3 i a3 c3 _ P'.o).mono ?_;rintro e w10 ⟨rfl,pp,mm⟩;have L2:=Hy (gG L2'.o mm (by have:=gB.o;omega) L2'.o.lt);have L5:=Hy (gG L5'.o mm (by have:=gB5.o;omega) L5'.o.lt);have V:=Hy (V'.o.keep (bY mm (by have:=gB.o;rintro ⟨h,_⟩;omega)));have M:=Hy (M'.o.nx mm);have P:=Hy pp;clear pp mm P' M' L2' L5' V';go_wp2_with fail;go_roundg gk
   case measure=>omega
   case rel=>exact ⟨aT op x x3,none,some ⟨w3.heap.size,0,none⟩,0,2,l3,a3,c3,rfl,P,M,L2,L5,V,ZR2,HK2⟩
  go_simp;refine (HC.o _ P.o).mono ?_;rintro e w3 ⟨u3,x3,l3,a3,c3,rfl,v3,pp,mm,af3⟩;obtain ⟨ua3,uc3,aa3,ac3,rfl,E3⟩:=v3;have hz3:=L2.o.lt;have hz5:=L5.o.lt;have V3:=Hy (fU (q:=fun b=>w.heap.size+1≤b∧b≠g5) E3 (fun b h1 _=>⟨by omega,by omega⟩));have AF3:=Hy af3;clear af3 E3;replace L2:=bk1 L2 mm gB;replace L5:=bk1 L5 mm gB5;replace V:=Hy (V.o.keep (bY mm (by have:=gB.o;rintro ⟨h,_⟩;omega)));replace M:=Hy (M.o.nx mm);replace P:=Hy pp;clear pp mm hz3 hz5;refine hK.o _ _ trivial (fun hH=>?_);clear hK K;refine ak (i:=1) rfl (by kernel_rfl) rfl (fun K hK=>?_);refine fF (.tmp 5) rfl _ _ _ rfl L5.o rfl ?_;refine hK.o _ _ trivial (fun hH=>?_);clear hK K;refine ak (i:=6) rfl (by kernel_rfl) rfl (fun K hK=>?_);simp only [exC];go_simp;refine hK.o _ _ trivial (fun hH=>?_);clear hK K;refine ak (i:=7) rfl (by kernel_rfl) rfl (fun K hK=>?_);go_simp;refine hK.o _ _ trivial (fun hH=>?_);clear hK K;refine ak (i:=8) rfl (by kernel_rfl) rfl (fun K hK=>?_);refine dG (.tmp 5) (.tmp 37) rfl _ _ _ _ rfl rfl (L5.o.past _) rfl rfl (by simp [Value.oneCell']) ?_;intro w9 hb9 hs9;refine hK.o _ _ trivial (fun hH=>?_);clear hK K;have hB:=Blk.new w3 43 (ex2 x ua uc aa ac x3 ua3 uc3 aa3 ac3);have bb:=aj (b0 w3) (.cells (ex2 x ua uc aa ac x3 ua3 uc3 aa3 ac3) 43);have hlt5:=hl5.o;have L5':=Hy (show Blk w9 g5 43 (exC (aT op x x3) none 0 (some ⟨w3.heap.size,0,none⟩) 2) from by unfold aT;rw [if_neg hdf.o];exact hb9);have hz2:=L2.o.lt;have hz5:=L5.o.lt;have V':=Hy (show EcQ (fun b=>w.heap.size+1≤b∧b≠g5) w9 (aT op x x3) none (some ⟨w3.heap.size,0,none⟩) from by
    have A9:EcQ (fun b=>w.heap.size+1≤b∧b≠g5) _ ⟨{ h0 with k:=7,op:=op },.cons x.h x.ar (.cons x3.h x3.ar .nil)⟩ none (some ⟨w3.heap.size,0,none⟩):=⟨.inl rfl,qj hB (V.o.keep (bT bb)) (V3.o.keep (bT bb)) ⟨by omega,by omega⟩⟩
    unfold aT
    rw [if_neg hdf.o]
    exact A9.keep (fu hs9 (by rintro ⟨_,h⟩;exact h rfl)))
  have L2':=Hy ((L2.o.past (.cells (ex2 x ua uc aa ac x3 ua3 uc3 aa3 ac3) 43)).st hs9 (by omega));have P':=Hy ((P.o.keeps bb).st hs9 gB5.o);have M':=Hy ((M.o.nx (.of bb)).trans (.st hs9 (.inr (Nat.le_of_lt hlt5))));have HK2:=Hy (show 0<gk∧(c3=0→l3.length<gk∧c=0∧l3.length<l.length) from by
    have h1:=(hk.o.2 (by trivial))
    have h2:=hl2.o
    have h3:=htl.o
    refine ⟨by omega,fun hc=>?_⟩
    subst hc
    have h4:=iH (AF3.o.fine (fC (m:=.op (r+1)) (by have:=HR.o;show r+1≤6;omega))).2.1
    simp only [Md.le] at h4
    exact ⟨by omega,h1.2.1,by omega⟩)
  have ZR2:=Hy (show ∀ y l9 a9 c9,Aft (Z i (.tl r (r+1) (aT op x x3)) l3) l3 a3 c3 y l9 a9 c9→Aft (Z i (.op r) l) l a c y l9 a9 c9 from fun y l9 a9 c9 h=>ZR.o _ _ _ _ (by rw [nZ i (n:=r) (by have:=HR.o;omega),if_neg HO2.o];exact .tl rfl (AF3.o.bind (by rw [if_neg HR.o.2.2,← HO1.o];exact h))));clear hB bb hs9 hb9 L5 V V3 L2 P M ZR hk hlt5 AF3 hz2 hz5;refine wpAnyH_done (by kernel_rfl) ?_ _;go_wp2_with fail;refine (j3 B r HR.o.1 HR.o.2.1 l3 i a3 c3 _ P'.o).mono ?_;rintro e w10 ⟨rfl,pp,mm⟩;have L2:=Hy (gG L2'.o mm (by have:=gB.o;omega) L2'.o.lt);have L5:=Hy (gG L5'.o mm (by have:=gB5.o;omega) L5'.o.lt);have V:=Hy (V'.o.keep (bY mm (by have:=gB.o;rintro ⟨h,_⟩;omega)));have M:=Hy (M'.o.nx mm);have P:=Hy pp;clear pp mm P' M' L2' L5' V';go_wp2_with fail;go_roundg gk
  case measure=>omega
  case rel=>exact ⟨aT op x x3,none,some ⟨w3.heap.size,0,none⟩,0,2,l3,a3,c3,rfl,P,M,L2,L5,V,ZR2,HK2⟩
structure At (l:List Tk) (c:Int):Prop where
 ex:∀ (B:Nat) (i:Bool) (a:Int) (w:World),Rp w B l i a c→Calls Tryz.prog 48 #[.pointer (some ⟨B,0,none⟩)] w (Qst B Ev (Z i .ex l) l i a c w)
 ng:∀ (B:Nat) (i:Bool) (a:Int) (w:World),Rp w B l i a c→Calls Tryz.prog 146 #[.pointer (some ⟨B,0,none⟩)] w (Qst B Ev (Z i .ng l) l i a c w)
 op:∀ (r:Nat),1≤r→r≤6→∀ (B:Nat) (i:Bool) (a:Int) (w:World),Rp w B l i a c→Calls Tryz.prog 91 #[.pointer (some ⟨B,0,none⟩),.int .i64 (r:Nat)] w (Qst B Ev (Z i (.op r) l) l i a c w)
theorem BD (G:List Tk→Int→Prop) (HX:CEx G) (HN:CNg G) (HO:COp G) (l:List Tk) (c:Int) (hG:Sht G l c):At l c:=by
 have wd:∀ (B:Nat) (i:Bool) (a:Int),c=0→(hd l).k=1→∀ w,Rp w B l i a c→Calls Tryz.prog 224 #[.pointer (some ⟨B,0,none⟩)] w (Qst B Ev (Z i .pr l) l i a c w) :=
   fun B i a hc hk w h=>MO B l i a c w h hc hk G hG HX fun hi w h=>Qy B l i a c w h hc hi G hG HX
 have pr:∀ (B:Nat) (i:Bool) (a:Int) (w:World),Rp w B l i a c→Calls Tryz.prog 184 #[.pointer (some ⟨B,0,none⟩)] w (Qst B Ev (Z i .pr l) l i a c w) :=
   fun B i a w h=>NR B l i a c w h G hG HX (wd B i a)
 have ng:∀ (B:Nat) (i:Bool) (a:Int) (w:World),Rp w B l i a c→Calls Tryz.prog 146 #[.pointer (some ⟨B,0,none⟩)] w (Qst B Ev (Z i .ng l) l i a c w) :=
   fun B i a w h=>Jy B l i a c w h G hG HN (pr B i a)
 have o6:∀ (B:Nat) (i:Bool) (a:Int) (w:World),Rp w B l i a c→Calls Tryz.prog 91 #[.pointer (some ⟨B,0,none⟩),.int .i64 ((6:Nat):Int)] w (Qst B Ev (Z i (.op 6) l) l i a c w) :=
   fun B i a w h=>Gf B l i a c w h (ng B i a)
 have o5:∀ (B:Nat) (i:Bool) (a:Int) (w:World),Rp w B l i a c→Calls Tryz.prog 91 #[.pointer (some ⟨B,0,none⟩),.int .i64 ((5:Nat):Int)] w (Qst B Ev (Z i (.op 5) l) l i a c w) :=
   fun B i a w h=>nV B 5 (by decide) (by decide) (by decide) l i a c w h G hG HO (o6 B i a)
 have o4:∀ (B:Nat) (i:Bool) (a:Int) (w:World),Rp w B l i a c→Calls Tryz.prog 91 #[.pointer (some ⟨B,0,none⟩),.int .i64 ((4:Nat):Int)] w (Qst B Ev (Z i (.op 4) l) l i a c w) :=
   fun B i a w h=>nV B 4 (by decide) (by decide) (by decide) l i a c w h G hG HO (o5 B i a)
 have o3:∀ (B:Nat) (i:Bool) (a:Int) (w:World),Rp w B l i a c→Calls Tryz.prog 91 #[.pointer (some ⟨B,0,none⟩),.int .i64 ((3:Nat):Int)] w (Qst B Ev (Z i (.op 3) l) l i a c w) :=
   fun B i a w h=>Gg B l i a c w h G hG HO (o4 B i a)
 have o2:∀ (B:Nat) (i:Bool) (a:Int) (w:World),Rp w B l i a c→Calls Tryz.prog 91 #[.pointer (some ⟨B,0,none⟩),.int .i64 ((2:Nat):Int)] w (Qst B Ev (Z i (.op 2) l) l i a c w) :=
   fun B i a w h=>nV B 2 (by decide) (by decide) (by decide) l i a c w h G hG HO (o3 B i a)
 have o1:∀ (B:Nat) (i:Bool) (a:Int) (w:World),Rp w B l i a c→Calls Tryz.prog 91 #[.pointer (some ⟨B,0,none⟩),.int .i64 ((1:Nat):Int)] w (Qst B Ev (Z i (.op 1) l) l i a c w) :=
   fun B i a w h=>nV B 1 (by decide) (by decide) (by decide) l i a c w h G hG HO (o2 B i a)
 refine ⟨fun B i a w h=>OM B l i a c w h G hG HX HO (o1 B i a),ng,fun r h1 h6=>?_⟩;obtain rfl | rfl | rfl | rfl | rfl | rfl:r=1∨r=2∨r=3∨r=4∨r=5∨r=6:=by omega
 ·exact o1
 ·exact o2
 ·exact o3
 ·exact o4
 ·exact o5
 exact o6
theorem tH:∀ (N:Nat) (l:List Tk) (c:Int),(c=0→l.length<N)→At l c
 | 0,l,c,h=>BD (fun _ _=>False) (fun _ _ _ _ _ _ _ h=>h.elim) (fun _ _ _ _ _ _ _ h=>h.elim) (fun _ _ _ _ _ _ _ _ _ _ h=>h.elim) l c fun _ _ hc _=>absurd (h hc) (Nat.not_lt_zero _)
 | N+1,l,c,h=>BD (fun l' c' => c'=0→l'.length<N) (fun B i l' a c' w hp hl=>(tH N l' c' hl).ex B i a w hp) (fun B i l' a c' w hp hl=>(tH N l' c' hl).ng B i a w hp) (fun r h1 h6 B i l' a c' w hp hl=>(tH N l' c' hl).op r h1 h6 B i a w hp) l c
  fun l' c' hc hl h0=>by
   have h1:=h hc
   have h2:=hl h0
   omega
theorem OO (B:Nat) (l:List Tk) (i:Bool) (a c:Int) (w:World) (h:Rp w B l i a c):Calls Tryz.prog 48 #[.pointer (some ⟨B,0,none⟩)] w (Qst B Ev (Z i .ex l) l i a c w) :=
 (tH (l.length+1) l c fun _=>Nat.lt_succ_self _).ex B i a w h
def Fiv (C:Nat) (w:World) (v:Value) (f:Fi):Prop:=∃ cs,v=.agg cs.toArray∧FiQ C w cs f
def Fev (C:Nat) (w:World) (v:Value) (f:Fe):Prop:=∃ cs,v=.agg cs.toArray∧FeQ C w cs f
theorem kr {s:ByteArray} {l l1 l2:List Tk} {a c a1 c1 a2 c2:Int} {u:Unit} {x:ByteArray} (h1:Aft (need s l) l a c u l1 a1 c1) (h2:Aft (nam l1) l1 a1 c1 x l2 a2 c2):Aft (nma s l) l a c x l2 a2 c2:=h1.bind h2
theorem qd (B:Nat) (l:List Tk) (i:Bool) (a c:Int) (w:World) (h:Rp w B l i a c) :
    Calls Tryz.prog 85 #[.pointer (some ⟨B,0,none⟩)] w (Qst B Fiv (fie l) l i a c w):=by
 have gB:=Hy h.lt;have bb:=aj (b0 w) (.cells #[.string ⟨#[]⟩,.int .i64 0,.slice none 0 0,.string ⟨#[]⟩] 140);have P:=Hy (h.keeps bb);have M:=Hy (Mx.of (B:=B) bb);have L2:=Hy (Blk.new w 140 #[.string ⟨#[]⟩,.int .i64 0,.slice none 0 0,.string ⟨#[]⟩]);clear h bb
 go_enter Tryz.func85,Tryz.ntmps85
 go_wp2_with fail;refine (gF B l i a c _ P.o).mono ?_;rintro e w1 ⟨u1,x1,l1,a1,c1,rfl,v1,pp,mm,af1⟩;have AF1:=Hy af1;clear af1;replace L2:=bk1 L2 mm gB;replace M:=Hy (M.o.nx mm);replace P:=Hy pp;clear pp mm;obtain rfl:u1=.string x1:=v1;have h23:=Hy (show w.heap.size<w1.heap.size from L2.o.lt);go_wp2_with (refine aA qb (.tmp 3) (.tmp 6) rfl rfl _ _ _ _ rfl rfl (Blk.new _ _ _) rfl rfl (by simp [Value.oneCell']) ?_;intro w1L L hs;have bb:=(aj (b0 w1) _).trans (hs.below lr);have gB3:=Hy P.o.lt;have hw3:=Hy (show w.heap.size<w1.heap.size from L2.o.lt);have L3:=Hy L;replace L2:=Hy (L2.o.below bb L2.o.lt);replace P:=Hy (P.o.keeps bb);replace M:=Hy (M.o.nx (.of bb));clear bb hs L);generalize w1.heap.size=g3 at *;refine (bn B 5 ⟨#[58]⟩ pw28 (by decide) l1 i a1 c1 _ P.o).mono ?_;rintro e w2 ⟨u2,x2,l2,a2,c2,rfl,v2,pp,mm,af2⟩;have AF2:=Hy af2;clear af2;replace L2:=bk1 L2 mm gB;replace L3:=bk2 L3 mm gB h23;replace M:=Hy (M.o.nx mm);replace P:=Hy pp;clear pp mm;obtain rfl:u2=.tuple #[]:=v2;go_wp2_with fail;have hz3:=Hy L3.o.lt;refine (Dz B l2 i a2 c2 _ P.o).mono ?_;rintro e w3 ⟨u3,x3,l3,a3,c3,rfl,v3,pp,mm,af3⟩;have AF3:=Hy af3;clear af3;replace L2:=bk1 L2 mm gB;replace L3:=bk2 L3 mm gB h23;replace M:=Hy (M.o.nx mm);replace P:=Hy pp;clear pp mm;obtain ⟨ua3,uc3,rfl,U3⟩:=v3;have V3:=Hy (U3.less (Nat.succ_le_of_lt hz3.o));clear U3 hz3;go_wp2_with (first | (refine bZ bq (.tmp 11) (.tmp 10) rfl rfl g3 1 _ _ _ rfl rfl L3.o (by simp) rfl (by simp [Value.oneCell']) ?_;intro w4W hb9 hs9;replace L2:=Hy (L2.o.st hs9 (by have:=h23.o;omega));replace P:=Hy (P.o.st hs9 (by have:=gB.o;have:=h23.o;omega));replace M:=Hy (M.o.trans (.st hs9 (.inr (by have:=h23.o;omega))));replace V3:=Hy (V3.o.kp (hs9.kp ls));replace L3:=Hy (show Blk _ g3 140 #[.string x1,.int .i64 x3.k,.slice ua3 x3.un.length uc3,.string x3.of] from hb9);clear hb9 hs9) | (refine aH qb Tryz.underlying140 rfl (.tmp 3) rfl rfl _ _ _ rfl L3.o rfl ?_) | (refine aA qb (.tmp 2) (.tmp 12) rfl rfl _ _ _ _ rfl rfl L2.o rfl rfl (by simp [Value.oneCell']) ?_;intro w9 hb9 hs9));refine bO qb Tryz.underlying140 rfl rfl _ _ _ _ _ rfl hb9 rfl ?_;exact ⟨_,⟨x1,x3⟩,l3,a3,c3,rfl,⟨_,rfl,ua3,uc3,rfl,(V3.o.kp (hs9.kp (by have:=h23.o;omega))).less (by have:=h23.o;omega)⟩,P.o.st hs9 gB.o,M.o.trans (.st hs9 (.inr lr)),by unfold fie;exact AF1.o.bind (AF2.o.bind (AF3.o.bind (.pure _ _ _ _)))⟩
theorem FL (B:Nat) (l:List Tk) (i:Bool) (a c:Int) (w:World) (h:Rp w B l i a c) (hi:i=false) :
    Calls Tryz.prog 35 #[.pointer (some ⟨B,0,none⟩)] w (Qst B Fev (gu l) l i a c w):=by
 have gB:=Hy h.lt;have bb:=aj (b0 w) (.cells #[.string ⟨#[]⟩,.string ⟨#[]⟩,.int .i64 0,.slice none 0 0,.string ⟨#[]⟩,.int .i64 0,.string ⟨#[]⟩,.string ⟨#[]⟩,.string ⟨#[]⟩,.int .i64 0,.int .i64 0,.string ⟨#[]⟩,.slice none 0 0,.int .i64 0,.int .i64 0,.int .i64 0,.slice none 0 0,.int .i64 0] 88);have P:=Hy (h.keeps bb);have M:=Hy (Mx.of (B:=B) bb);have L2:=Hy (Blk.new w 88 #[.string ⟨#[]⟩,.string ⟨#[]⟩,.int .i64 0,.slice none 0 0,.string ⟨#[]⟩,.int .i64 0,.string ⟨#[]⟩,.string ⟨#[]⟩,.string ⟨#[]⟩,.int .i64 0,.int .i64 0,.string ⟨#[]⟩,.slice none 0 0,.int .i64 0,.int .i64 0,.int .i64 0,.slice none 0 0,.int .i64 0]);clear h bb;subst hi
 go_enter Tryz.func35,Tryz.ntmps35
 go_wp2_with fail;refine (bn B 1 ⟨#[102,101,97,116,117,114,101]⟩ pw29 (by decide) l false a c _ P.o).mono ?_;rintro e w1 ⟨u1,x1,l1,a1,c1,rfl,v1,pp,mm,af1⟩;have AF1:=Hy af1;clear af1;replace L2:=bk1 L2 mm gB;replace M:=Hy (M.o.nx mm);replace P:=Hy pp;clear pp mm;obtain rfl:u1=.tuple #[]:=v1;go_wp2_with fail;refine (gF B l1 false a1 c1 _ P.o).mono ?_;rintro e w2 ⟨u2,x2,l2,a2,c2,rfl,v2,pp,mm,af2⟩;have AF2:=Hy af2;clear af2;replace L2:=bk1 L2 mm gB;replace M:=Hy (M.o.nx mm);replace P:=Hy pp;clear pp mm;obtain rfl:u2=.string x2:=v2;have h23:=Hy (show w.heap.size<w2.heap.size from L2.o.lt);go_wp2_with (refine aA gQ (.tmp 3) (.tmp 8) rfl rfl _ _ _ _ rfl rfl (Blk.new _ _ _) rfl rfl (by simp [Value.oneCell']) ?_;intro w2L L hs;have bb:=(aj (b0 w2) _).trans (hs.below lr);have gB3:=Hy P.o.lt;have hw3:=Hy (show w.heap.size<w2.heap.size from L2.o.lt);have L3:=Hy L;replace L2:=Hy (L2.o.below bb L2.o.lt);replace P:=Hy (P.o.keeps bb);replace M:=Hy (M.o.nx (.of bb));clear bb hs L);generalize w2.heap.size=g3 at *;refine (bn B 1 ⟨#[111,102]⟩ pw21 (by decide) l2 false a2 c2 _ P.o).mono ?_;rintro e w3 ⟨u3,x3,l3,a3,c3,rfl,v3,pp,mm,af3⟩;have AF3:=Hy af3;clear af3;replace L2:=bk1 L2 mm gB;replace L3:=bk2 L3 mm gB h23;replace M:=Hy (M.o.nx mm);replace P:=Hy pp;clear pp mm;obtain rfl:u3=.tuple #[]:=v3;go_wp2_with fail;refine (gF B l3 false a3 c3 _ P.o).mono ?_;rintro e w4 ⟨u4,x4,l4,a4,c4,rfl,v4,pp,mm,af4⟩;have AF4:=Hy af4;clear af4;replace L2:=bk1 L2 mm gB;replace L3:=bk2 L3 mm gB h23;replace M:=Hy (M.o.nx mm);replace P:=Hy pp;clear pp mm;obtain rfl:u4=.string x4:=v4;have f1:=L3.o.cell 1;have f2:=L3.o.free 1;simp only [sz2,sz3,sz4] at f1;go_wp2_with fail;obtain ⟨hb9,hs9⟩:=L3.o.setCell 1 (.string x4);replace L2:=Hy (L2.o.st hs9 (by have:=h23.o;omega));replace P:=Hy (P.o.st hs9 (by have:=gB.o;have:=h23.o;omega));replace M:=Hy (M.o.trans (.st hs9 (.inr (by have:=h23.o;omega))));replace L3:=Hy (show Blk _ g3 88 #[.string x2,.string x4,.int .i64 0,.slice none 0 0,.string ⟨#[]⟩,.int .i64 0,.string ⟨#[]⟩,.string ⟨#[]⟩,.string ⟨#[]⟩,.int .i64 0,.int .i64 0,.string ⟨#[]⟩,.slice none 0 0,.int .i64 0,.int .i64 0,.int .i64 0,.slice none 0 0,.int .i64 0] from hb9);clear hb9 hs9 f1 f2;generalize w4.setCell ⟨g3,1,none⟩ (.string x4)=w4S at *;refine (bn B 5 ⟨#[58]⟩ pw28 (by decide) l4 false a4 c4 _ P.o).mono ?_;rintro e w5 ⟨u5,x5,l5,a5,c5,rfl,v5,pp,mm,af5⟩;have AF5:=Hy af5;clear af5;replace L2:=bk1 L2 mm gB;replace L3:=bk2 L3 mm gB h23;replace M:=Hy (M.o.nx mm);replace P:=Hy pp;clear pp mm;obtain rfl:u5=.tuple #[]:=v5;go_wp2_with fail;have hz6:=Hy L3.o.lt;refine (Dz B l5 false a5 c5 _ P.o).mono ?_;rintro e w6 ⟨u6,x6,l6,a6,c6,rfl,v6,pp,mm,af6⟩;have AF6:=Hy af6;clear af6;replace L2:=bk1 L2 mm gB;replace L3:=bk2 L3 mm gB h23;replace M:=Hy (M.o.nx mm);replace P:=Hy pp;clear pp mm;obtain ⟨ua6,uc6,rfl,U6⟩:=v6;have V6:=Hy (U6.less (Nat.succ_le_of_lt hz6.o));clear U6 hz6;go_wp2_with (refine bZ bq (.tmp 18) (.tmp 17) rfl rfl g3 2 _ _ _ rfl rfl L3.o (by simp) rfl (by simp [Value.oneCell']) ?_;intro w7W hb9 hs9;replace L2:=Hy (L2.o.st hs9 (by have:=h23.o;omega));replace P:=Hy (P.o.st hs9 (by have:=gB.o;have:=h23.o;omega));replace M:=Hy (M.o.trans (.st hs9 (.inr (by have:=h23.o;omega))));replace V6:=Hy (V6.o.kp (hs9.kp ls));replace L3:=Hy (show Blk _ g3 88 #[.string x2,.string x4,.int .i64 x6.k,.slice ua6 x6.un.length uc6,.string x6.of,.int .i64 0,.string ⟨#[]⟩,.string ⟨#[]⟩,.string ⟨#[]⟩,.int .i64 0,.int .i64 0,.string ⟨#[]⟩,.slice none 0 0,.int .i64 0,.int .i64 0,.int .i64 0,.slice none 0 0,.int .i64 0] from hb9);clear hb9 hs9);refine (bn B 5 ⟨#[61]⟩ pw30 (by decide) l6 false a6 c6 _ P.o).mono ?_;rintro e w8 ⟨u8,x8,l8,a8,c8,rfl,v8,pp,mm,af8⟩;have AF8:=Hy af8;clear af8;replace L2:=bk1 L2 mm gB;replace L3:=bk2 L3 mm gB h23;replace V6:=Hy (V6.o.kp (mm.kp (by have:=gB.o;have:=h23.o;omega)));replace M:=Hy (M.o.nx mm);replace P:=Hy pp;clear pp mm;obtain rfl:u8=.tuple #[]:=v8;go_wp2_with fail;have hz9:=Hy L3.o.lt;refine (OO B l8 false a8 c8 _ P.o).mono ?_;rintro e w9 ⟨u9,x9,l9,a9,c9,rfl,v9,pp,mm,af9⟩;have AF9:=Hy af9;clear af9;replace L2:=bk1 L2 mm gB;replace L3:=bk2 L3 mm gB h23;replace V6:=Hy (V6.o.kp (mm.kp (by have:=gB.o;have:=h23.o;omega)));replace M:=Hy (M.o.nx mm);replace P:=Hy pp;clear pp mm;obtain ⟨ua9,uc9,aa9,ac9,rfl,U9⟩:=v9;have V9:=Hy (U9.less (Nat.succ_le_of_lt hz9.o));clear U9 hz9;go_wp2_with (refine bZ aK (.tmp 23) (.tmp 22) rfl rfl g3 5 _ _ _ rfl rfl L3.o (by simp) rfl (by simp [Value.oneCell',exC]) ?_;intro w10W hb9 hs9;replace L2:=Hy (L2.o.st hs9 (by have:=h23.o;omega));replace P:=Hy (P.o.st hs9 (by have:=gB.o;have:=h23.o;omega));replace M:=Hy (M.o.trans (.st hs9 (.inr (by have:=h23.o;omega))));replace V6:=Hy (V6.o.kp (hs9.kp ls));replace V9:=Hy (V9.o.kp (hs9.kp ls));replace L3:=Hy (show Blk _ g3 88 #[.string x2,.string x4,.int .i64 x6.k,.slice ua6 x6.un.length uc6,.string x6.of,.int .i64 x9.h.k,.string x9.h.op,.string x9.h.nm,.string x9.h.tb,.int .i64 x9.h.vk,.int .i64 x9.h.vn,.string x9.h.vs,.slice ua9 x9.h.un.length uc9,.int .i64 x9.h.pa,.int .i64 x9.h.wk,.int .i64 x9.h.ws,.slice aa9 x9.ar.len ac9,.int .i64 0] from hb9);clear hb9 hs9);refine (bn B 5 ⟨#[59]⟩ pw31 (by decide) l9 false a9 c9 _ P.o).mono ?_;rintro e w11 ⟨u11,x11,l11,a11,c11,rfl,v11,pp,mm,af11⟩;have AF11:=Hy af11;clear af11;replace L2:=bk1 L2 mm gB;replace L3:=bk2 L3 mm gB h23;replace V6:=Hy (V6.o.kp (mm.kp (by have:=gB.o;have:=h23.o;omega)));replace V9:=Hy (V9.o.kp (mm.kp (by have:=gB.o;have:=h23.o;omega)));replace M:=Hy (M.o.nx mm);replace P:=Hy pp;clear pp mm;obtain rfl:u11=.tuple #[]:=v11;go_wp2_with (first | (refine aH gQ Tryz.underlying88 rfl (.tmp 3) rfl rfl _ _ _ rfl L3.o rfl ?_) | (refine aA gQ (.tmp 2) (.tmp 26) rfl rfl _ _ _ _ rfl rfl L2.o rfl rfl (by simp [Value.oneCell']) ?_;intro w9 hb9 hs9));have AFX:=Hy (show Aft (exR l8) l8 a8 c8 x9 l9 a9 c9 from by rw [QE];exact AF9.o);refine bO gQ Tryz.underlying88 rfl rfl _ _ _ _ _ rfl hb9 rfl ?_;exact ⟨_,⟨x2,x4,x6,x9⟩,l11,a11,c11,rfl,⟨_,rfl,ua6,uc6,ua9,uc9,aa9,ac9,rfl,(V6.o.kp (hs9.kp (by have:=h23.o;omega))).less (by have:=h23.o;omega),(V9.o.kp (hs9.kp (by have:=h23.o;omega))).less (by have:=h23.o;omega)⟩,P.o.st hs9 gB.o,M.o.trans (.st hs9 (.inr lr)),by unfold gu;exact (kr AF1.o AF2.o).bind ((kr AF3.o AF4.o).bind (AF5.o.bind (AF6.o.bind (AF8.o.bind (AFX.o.bind (AF11.o.bind (.pure _ _ _ _)))))))⟩
end rr
end Go.Proofs.YtbpijgddfaefkaaGreatDoor
