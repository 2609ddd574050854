/- Methods of a scope. -/
import Derived.Recover
import Derived.Test.YtbahfelnbofjjaaGreatDoorH25
set_option maxRecDepth 100000
set_option maxHeartbeats 16000000
namespace Go.Proofs.YtbahfelnbofjjaaGreatDoor
namespace pa
open Go.RowKit dec
theorem wm {m:Nat} (h:m<6):wrap64 ((m:Int) - 1)=(m:Int) - 1:=by unfold wrap64;omega
theorem uU {s:ByteArray} (h:s.toList.isEmpty=true):s=.empty:=by
 have h1:s.toList=[]:=List.isEmpty_iff.1 h;rw [ByteArray.toList_eq] at h1;cases s;simp only at h1;have:=Array.toList_eq_nil_iff.1 h1;rw [this];rfl
theorem Qe (f:Nat) (H:∀ k,k≤f→Rd k) (B:Nat) (i:Bool) (n:Nat) (hn:n≤6) (l:List Tk) (w:World) (h:Ps w B l) (r:Rs Ex) (hr:pz (f+1) i (.op n) l=r) (hne:r≠.out) :
    Calls Tryz.prog 125 #[.agg #[.pointer (some ⟨B,0,none⟩),.bool i],.int .i64 (n:Nat)] w (Pst B Ev r w):=by
 have P:=Hy (h.keeps (aj (aj (b0 w) (.cells #[.pointer (some ⟨B,0,none⟩),.bool i] 108)) (.cells zE 29)));have F:=Hy (Fr.start i h.lt);have NE:=Hy hne;have R:=H f lr;simp only [pz] at hr;have HR:=Hy hr;have HN:=Hy hn;clear h hne hr hn;by_cases h3:n≤3
 ·cases ht:isT ⟨#[110,111,116]⟩ l
  ·replace HR:=HR.o;rw [if_neg (fun h=>by rw [ht] at h;exact absurd h.2 (by decide))] at HR;replace HR:=Hy HR;have HT:=Hy ht;clear ht;have q1:decide ((n:Int)≤3)=true:=dT (by omega);clear h3
   go_enter Tryz.func125,Tryz.ntmps125
   go_wp2_with fail;refine (aK B ⟨#[110,111,116]⟩ l _ P.o HT.o).mono ?_;rintro e w1 ⟨rfl,pp,mm⟩;replace F:=nFr F mm;replace P:=Hy pp;clear pp mm;have e0:=F.o.c0;have e1:=F.o.c1;go_wp2_with fail;have hF:=Hy F.o.lt;refine (R.ng B i l _ P.o (bH (by rw [HR.o];exact NE.o))).mono ?_;rintro e w2 h2;rcases hG2:pz f i .ng l with _ | ⟨v2,l2⟩ | ⟨a2,c2,l2⟩
   ·exact bou HR hG2 NE
   rotate_left
   ·rw [hG2] at h2;obtain ⟨rfl,pp,mm⟩:=h2;unfold thr;have hn:=b3 HR hG2 pp (F.o.next mm).mv;clear pp mm hG2 e0 e1;go_wp2_with fail;exact ⟨rfl,aE hn⟩
   rw [hG2] at h2;obtain ⟨u2,rfl,vv,pp,mm⟩:=h2;replace HR:=bok HR hG2;replace F:=nFr F mm;replace P:=Hy pp;clear pp mm hG2;have V2:=Hy vv;clear vv;clear e0 e1;obtain ⟨ua2,uc2,aa2,ac2,rfl,E2⟩:=V2.o;replace E2:=Hy (Ec.less E2 hF.o);clear V2 hF;go_wp2_with (refine aM (.tmp 4) (.tmp 18) rfl rfl _ _ _ _ rfl rfl F.o.rz rfl rfl (aR _ _ _ _ _) ?_;intro wz hb9 hs9;replace F:=Hy (F.o.set hs9 hb9);replace P:=Hy (P.o.st hs9 (L_o F.o.hB));replace E2:=Hy (E2.o.kp (hs9.kp (by omega)));clear hb9 hs9);dsimp only [Act.put]
   go_loopg [5] f (fun k v wr => ∃ (m:Nat) (x:Ex) (ua:Option Addr) (uc:Nat) (aa:Option Addr) (ac:Nat) (l':List Tk),v=.int .i64 ((m:Int) - 1)∧Hid (m≤6)∧Hid (Fr w wr B i (exC x ua uc aa ac))∧Hid (Ec (w.heap.size+2) wr x ua aa)∧Hid (Ps wr B l')∧Hid (pz k i (.tl n m x) l'=r)∧Hid (k≤f))
   case atStart=>exact ⟨6,_,ua2,uc2,aa2,ac2,_,rfl,Hy (by decide),F,E2,P,HR,Hy lr⟩
   case round =>
    clear F P HR E2;obtain ⟨m,x,ua,uc,aa,ac,l',rfl,hm,F,E,P,HR,hk⟩:=hrel;rcases gk with _ | gk
    ·exact absurd HR.o.symm NE.o
    by_cases hc:m≤n
    ·have hok:=Hy (show Rs.ok x l'=r by rw [← HR.o];simp only [pz];rw [if_pos hc]);have q1:decide ((n:Int)≤(m:Int) - 1)=false:=dF (by omega);clear HR hm hk hc;go_wp2_with (first | (refine aZ (.tmp 4) rfl rfl _ _ _ rfl F.o.rz rfl ?_) | (refine aM (.tmp 4) (.tmp 41) rfl rfl _ _ _ _ rfl rfl F.o.rz rfl rfl (aR _ _ _ _ _) ?_;intro wz hb9 hs9));have F9:=F.o.set hs9 hb9;have P9:=P.o.st hs9 (L_o F.o.hB);refine aS rfl _ _ _ _ _ rfl hb9 rfl ?_;exact aO hok.o.symm ⟨ua,uc,aa,ac,rfl,(E.o.kp (hs9.kp (by omega))).less (by omega)⟩ P9 F9.mv
    rcases m with _ | m
    ·exact absurd zl hc
    have q1:decide ((n:Int)≤((m+1:Nat):Int) - 1)=true:=dT (by omega);have q2:(((m+1:Nat):Int) - 1)=(m:Int):=by omega
    have hm6:=Hy (show m<6 by have:=hm.o;omega);have hnm:=Hy (show ¬ m+1≤n from hc);rw [q2] at q1;have q3:decide (n≤m)=true:=dT (by omega);have q4:n≤m:=by omega
    rw [q2];clear hc hm q2;have e0:=F.o.c0;have e1:=F.o.c1;go_wp2_with fail;refine (eU B i m hm6.o l' wr P.o).mono ?_;rintro e w2 ⟨rfl,pp,mm⟩;have P2:=Hy pp;have F2:=Hy (F.o.next mm);have E2:=Hy (E.o.kp (mm.kp (Nat.lt_of_lt_of_le F.o.hB (Nat.le_add_right _ 2))));clear pp mm e0 e1 P F E;go_wp2_with fail;obtain ⟨go,hgo⟩:∃ go,go=gk+1:=⟨_,rfl⟩;have hgf:=Hy (show go≤f from by rw [hgo];exact hk.o);replace hgo:=Hy hgo;have hgk:=Hy (show gk+1≤go from Nat.le_of_eq hgo.o.symm)
    go_loopg [6] (gk+1) (fun k v w3 => ∃ (x:Ex) (ua:Option Addr) (uc:Nat) (aa:Option Addr) (ac:Nat) (l':List Tk),v=.string (opr m l')∧Hid (Fr w w3 B i (exC x ua uc aa ac))∧Hid (Ec (w.heap.size+2) w3 x ua aa)∧Hid (Opp B m l' w3)∧Hid (pz k i (.tl n (m+1) x) l'=r)∧Hid (k≤go))
    case atStart=>exact ⟨x,ua,uc,aa,ac,l',rfl,F2,E2,P2,HR,hgk⟩
    case round =>
     clear F2 E2 P2 HR hgk q1 q3 q4;obtain ⟨x,ua,uc,aa,ac,l',rfl,F,E,P,HR,hk3⟩:=hrel;rcases gk with _ | gk
     ·exact absurd HR.o.symm NE.o
     by_cases hop:opr m l'=.empty
     ·have t1:(opr m l').toList.isEmpty=true:=by rw [hop,ByteArray.toList_eq];rfl
      have HR2:=Hy (show pz gk i (.tl n m x) l'=r from by rw [← HR.o];simp only [pz];rw [if_neg hnm.o,Nat.add_sub_cancel,if_pos hop]);have P3:Hid (Ps wr B l'):=Hy (by have:=P.o;unfold Opp at this;rw [if_pos hop] at this;exact this);clear hop HR P;generalize opr m l'=s at *;go_wp2_with fail;go_roundg gk
      case measure=>have h1:=hgo.o;have h2:=hk3.o;omega
      case rel=>exact ⟨m,x,ua,uc,aa,ac,l',congrArg (Value.int .i64) (wm hm6.o),Hy (Nat.le_of_lt hm6.o),F,E,P3,HR2,Hy (by have h1:=hgf.o;have h2:=hk3.o;omega)⟩
     have t1:(opr m l').toList.isEmpty=false:=by
      cases hb:(opr m l').toList.isEmpty
      ·rfl
      exact absurd (uU hb) hop
     have HR2:=Hy (show ((pz gk i (.op (m+1)) l'.tail).bind fun y r=>pz gk i (.tl n (if m+1=4 then 3 else m+1) (bC (opr m l') x y)) r)=r from by rw [← HR.o];simp only [pz];rw [if_neg hnm.o,Nat.add_sub_cancel,if_neg hop]);have P3:Hid (Ps wr B l'.tail):=Hy (by have:=P.o;unfold Opp at this;rw [if_neg hop] at this;exact this);have Rk:=H gk (by have h1:=hgf.o;have h2:=hk3.o;omega);have hkf:=Hy (show gk≤f from by have h1:=hgf.o;have h2:=hk3.o;omega);have hkg:=Hy (show gk+1≤go from hk3.o);clear hop HR P hk3;generalize opr m l'=s at *;go_wp2_with fail;have SS:=Hy (show Blk wr.drew w.heap.size 108 #[.pointer (some ⟨B,0,none⟩),.bool i] from F.o.sc);replace P3:=Hy (P3.o.keeps (b0 _).drew);replace E:=Hy (E.o.kp (dO (b0 wr).drew));replace F:=Hy (F.o.next (Mv.of (B:=B) (b0 wr).drew));have f4:=aP (j:=m) (by have:=hm6.o;omega);replace f4:=Hy f4;refine wp_region_held_drew (S:=fun w' => Blk w' w.heap.size 108 #[.pointer (some ⟨B,0,none⟩),.bool i]) (by kernel_rfl) SS.o (fun hH=>?_);clear SS;refine au 0 32 ?_ hH (fun w' hS=>?_) ?_;rotate_left;(·go_simp;try rfl);simp only [sz];refine bg 2 34 (.agg #[.pointer (some ⟨B,0,none⟩),.bool i]) rfl (by kernel_rfl) rfl (fun _ _ _ h=>h) rfl hH (fun w' hS=>aY wS dec.uy108 rfl (.tmp 2) rfl _ _ _ rfl hS rfl) ?_;simp only [sz];refine au 3 35 ?_ hH (fun w' hS=>?_) ?_;rotate_left;(·go_simp;try rfl);simp only [sz];refine au 4 36 (.int .i64 ((m+1:Nat):Int)) hH (fun w' hS=>?_) ?_
     ·go_simp;first | done | with_reducible rfl | (have h6:=hm6.o;rw [IntKind.wrap_i64];omega)
     simp only [sz];refine dN (i:=1) (j:=5) rfl rfl (by kernel_rfl) rfl rfl (fun K hK=>?_) (fun K hK=>?_)
     ·refine mE (.tmp 4) rfl _ _ _ rfl F.o.rz rfl ?_;refine hK.o _ _ hH (fun hH=>?_);clear hK K;refine aA 5 (fun K hK=>?_);go_simp;refine (Rk.op B i (m+1) l'.tail _ (by have:=hm6.o;omega) P3.o (bH (by rw [HR2.o];exact NE.o))).mono ?_;rintro e w4 h4;rcases hG4:pz gk i (.op (m+1)) l'.tail with _ | ⟨y,l4⟩ | ⟨a4,c4,l4⟩
      ·exact absurd (by rw [← HR2.o,hG4];rfl) NE.o
      rotate_left
      ·rw [hG4] at h4;obtain ⟨rfl,pp,mm⟩:=h4;unfold thr;exact ⟨rfl,aD (by rw [← HR2.o,hG4];rfl) pp (F.o.next mm).mv⟩
      rw [hG4] at h4;obtain ⟨uy,rfl,vv,pp,mm⟩:=h4;obtain ⟨uay,ucy,aay,acy,rfl,EY⟩:=vv;have hB:=F.o.hB;replace EY:=Hy (Ec.less EY F.o.lt);have HR3:=Hy (show pz gk i (.tl n (if m+1=4 then 3 else m+1) (bC s x y)) l4=r by rw [← HR2.o,hG4];rfl);replace E:=Hy (E.o.kp (mm.kp (show B<w.heap.size+2 by omega)));replace hH:=hH.mv mm (by omega) hH.lt;replace F:=nFr F mm;have P4:=Hy pp;clear pp mm hG4 HR2 hB;refine hK.o _ _ hH (fun hH=>?_);clear hK K;refine aA 6 (fun K hK=>?_);go_simp;have hC:=Hy F.o.lt;refine (gK s x ua uc aa ac y uay ucy aay acy (w.heap.size+2) w4 E.o EY.o hC.o).mono ?_;rintro e wU ⟨aaU,acU,rfl,EU,bb⟩;replace EU:=Hy EU;replace hH:=hH.below bb hH.lt;replace F:=Hy (F.o.bG bb);replace P4:=Hy (P4.o.keeps bb);clear bb E EY hC;refine hK.o _ _ hH (fun hH=>?_);clear hK K;refine aA 7 (fun K hK=>?_);refine iH (.tmp 4) (.tmp 38) rfl _ _ _ _ rfl rfl F.o.rz rfl rfl (aR _ _ _ _ _) ?_;intro w9 hb9 hs9;refine hK.o _ _ (hH.st hs9 (by omega)) (fun hH=>?_);clear hK K;replace F:=Hy (F.o.set hs9 hb9);replace P4:=Hy (P4.o.st hs9 (by have:=F.o.hB;omega));replace EU:=Hy (EU.o.kp (hs9.kp (by omega)));clear hb9 hs9 hH;refine wpAnyH_done (by kernel_rfl) ?_ _;by_cases hm3:m=3
      ·have q5:((m:Int)==3)=true:=by simp;omega
       have q6:=Hy (show wrap64 ((m:Int) - 1)=((3:Nat):Int) - 1 from by rw [wm hm6.o,hm3]);have HR4:=Hy (show pz gk i (.tl n 3 (bC s x y)) l4=r from by rw [← HR3.o,if_pos (by omega)]);clear hm3 HR3;go_wp2_with fail;go_roundg gk
       case measure=>have h1:=hgo.o;have h2:=hkg.o;omega
       case rel=>exact ⟨3,bC s x y,none,0,aaU,acU,l4,congrArg (Value.int .i64) q6.o,Hy (by decide),F,EU,P4,HR4,hkf⟩
      have q5:((m:Int)==3)=false:=by simp;omega
      have HR4:=Hy (show pz gk i (.tl n (m+1) (bC s x y)) l4=r from by rw [← HR3.o,if_neg (by omega)]);clear hm3 HR3;have e0:=F.o.c0;have e1:=F.o.c1;go_wp2_with fail;refine (eU B i m hm6.o l4 w9 P4.o).mono ?_;rintro e w7 ⟨rfl,pp,mm⟩;have P5:=Hy pp;have F5:=Hy (F.o.next mm);have E5:=Hy (EU.o.kp (mm.kp (Nat.lt_of_lt_of_le F.o.hB (Nat.le_add_right _ 2))));clear pp mm e0 e1;go_wp2_with fail;go_roundg gk
      case measure=>omega
      case rel=>exact ⟨bC s x y,none,0,aaU,acU,l4,rfl,F5,E5,P5,HR4,Hy (by have:=hkg.o;omega)⟩
     go_simp;refine (Rk.op B i (m+1) l'.tail _ (by have:=hm6.o;omega) P3.o (bH (by rw [HR2.o];exact NE.o))).mono ?_;rintro e w4 h4;rcases hG4:pz gk i (.op (m+1)) l'.tail with _ | ⟨y,l4⟩ | ⟨a4,c4,l4⟩
     ·exact absurd (by rw [← HR2.o,hG4];rfl) NE.o
     rotate_left
     ·rw [hG4] at h4;obtain ⟨rfl,pp,mm⟩:=h4;unfold thr;exact ⟨rfl,aD (by rw [← HR2.o,hG4];rfl) pp (F.o.next mm).mv⟩
     rw [hG4] at h4;obtain ⟨uy,rfl,vv,pp,mm⟩:=h4;obtain ⟨uay,ucy,aay,acy,rfl,EY⟩:=vv;have hB:=F.o.hB;replace EY:=Hy (Ec.less EY F.o.lt);have HR3:=Hy (show pz gk i (.tl n (if m+1=4 then 3 else m+1) (bC s x y)) l4=r by rw [← HR2.o,hG4];rfl);replace E:=Hy (E.o.kp (mm.kp (show B<w.heap.size+2 by omega)));replace hH:=hH.mv mm (by omega) hH.lt;replace F:=nFr F mm;have P4:=Hy pp;clear pp mm hG4 HR2 hB;refine hK.o _ _ hH (fun hH=>?_);clear hK K;refine aA 1 (fun K hK=>?_);refine mE (.tmp 4) rfl _ _ _ rfl F.o.rz rfl ?_;refine hK.o _ _ hH (fun hH=>?_);clear hK K;refine aA 6 (fun K hK=>?_);go_simp;have hC:=Hy F.o.lt;refine (gK s x ua uc aa ac y uay ucy aay acy (w.heap.size+2) w4 E.o EY.o hC.o).mono ?_;rintro e wU ⟨aaU,acU,rfl,EU,bb⟩;replace EU:=Hy EU;replace hH:=hH.below bb hH.lt;replace F:=Hy (F.o.bG bb);replace P4:=Hy (P4.o.keeps bb);clear bb E EY hC;refine hK.o _ _ hH (fun hH=>?_);clear hK K;refine aA 7 (fun K hK=>?_);refine iH (.tmp 4) (.tmp 38) rfl _ _ _ _ rfl rfl F.o.rz rfl rfl (aR _ _ _ _ _) ?_;intro w9 hb9 hs9;refine hK.o _ _ (hH.st hs9 (by omega)) (fun hH=>?_);clear hK K;replace F:=Hy (F.o.set hs9 hb9);replace P4:=Hy (P4.o.st hs9 (by have:=F.o.hB;omega));replace EU:=Hy (EU.o.kp (hs9.kp (by omega)));clear hb9 hs9 hH;refine wpAnyH_done (by kernel_rfl) ?_ _;by_cases hm3:m=3
     ·have q5:((m:Int)==3)=true:=by simp;omega
      have q6:=Hy (show wrap64 ((m:Int) - 1)=((3:Nat):Int) - 1 from by rw [wm hm6.o,hm3]);have HR4:=Hy (show pz gk i (.tl n 3 (bC s x y)) l4=r from by rw [← HR3.o,if_pos (by omega)]);clear hm3 HR3;go_wp2_with fail;go_roundg gk
      case measure=>have h1:=hgo.o;have h2:=hkg.o;omega
      case rel=>exact ⟨3,bC s x y,none,0,aaU,acU,l4,congrArg (Value.int .i64) q6.o,Hy (by decide),F,EU,P4,HR4,hkf⟩
     have q5:((m:Int)==3)=false:=by simp;omega
     have HR4:=Hy (show pz gk i (.tl n (m+1) (bC s x y)) l4=r from by rw [← HR3.o,if_neg (by omega)]);clear hm3 HR3;have e0:=F.o.c0;have e1:=F.o.c1;go_wp2_with fail;refine (eU B i m hm6.o l4 w9 P4.o).mono ?_;rintro e w7 ⟨rfl,pp,mm⟩;have P5:=Hy pp;have F5:=Hy (F.o.next mm);have E5:=Hy (EU.o.kp (mm.kp (Nat.lt_of_lt_of_le F.o.hB (Nat.le_add_right _ 2))));clear pp mm e0 e1;go_wp2_with fail;go_roundg gk
     case measure=>omega
     case rel=>exact ⟨bC s x y,none,0,aaU,acU,l4,rfl,F5,E5,P5,HR4,Hy (by have:=hkg.o;omega)⟩
  replace HR:=HR.o;rw [if_pos ⟨h3,ht⟩] at HR;replace HR:=Hy HR;have HT:=Hy ht;clear ht;have q1:decide ((n:Int)≤3)=true:=dT (by omega);clear h3
  go_enter Tryz.func125,Tryz.ntmps125
  go_wp2_with fail;refine (aV B ⟨#[110,111,116]⟩ l _ P.o HT.o).mono ?_;rintro e w1 ⟨rfl,pp,mm⟩;replace F:=nFr F mm;replace P:=Hy pp;clear pp mm;have e0:=F.o.c0;have e1:=F.o.c1;go_wp2_with fail;have hF:=Hy F.o.lt;refine (R.op B i 3 l.tail _ (by decide) P.o (bH (by rw [HR.o];exact NE.o))).mono ?_;rintro e w2 h2;rcases hG2:pz f i (.op 3) l.tail with _ | ⟨v2,l2⟩ | ⟨a2,c2,l2⟩
  ·exact bou HR hG2 NE
  rotate_left
  ·rw [hG2] at h2;obtain ⟨rfl,pp,mm⟩:=h2;unfold thr;have hn:=b3 HR hG2 pp (F.o.next mm).mv;clear pp mm hG2 e0 e1;go_wp2_with fail;exact ⟨rfl,aE hn⟩
  rw [hG2] at h2;obtain ⟨u2,rfl,vv,pp,mm⟩:=h2;replace HR:=bok HR hG2;replace F:=nFr F mm;replace P:=Hy pp;clear pp mm hG2;have V2:=Hy vv;clear vv;clear e0 e1;obtain ⟨ua2,uc2,aa2,ac2,rfl,E2⟩:=V2.o;replace E2:=Hy (Ec.less E2 hF.o);clear V2 hF;go_wp2_with fail;have hC:=Hy F.o.lt;refine (lu ⟨#[110,111,116]⟩ v2 ua2 uc2 aa2 ac2 (w.heap.size+2) w2 E2.o hC.o).mono ?_;rintro e wU ⟨aaU,acU,rfl,EU,bb⟩;replace EU:=Hy EU;replace F:=Hy (F.o.bG bb);replace P:=Hy (P.o.keeps bb);clear bb E2 hC;go_wp2_with (refine aM (.tmp 4) (.tmp 16) rfl rfl _ _ _ _ rfl rfl F.o.rz rfl rfl (aR _ _ _ _ _) ?_;intro wz hb9 hs9;replace F:=Hy (F.o.set hs9 hb9);replace P:=Hy (P.o.st hs9 (L_o F.o.hB));replace EU:=Hy (EU.o.kp (hs9.kp (by omega)));clear hb9 hs9)
  go_loopg [5] f (fun k v wr => ∃ (m:Nat) (x:Ex) (ua:Option Addr) (uc:Nat) (aa:Option Addr) (ac:Nat) (l':List Tk),v=.int .i64 ((m:Int) - 1)∧Hid (m≤6)∧Hid (Fr w wr B i (exC x ua uc aa ac))∧Hid (Ec (w.heap.size+2) wr x ua aa)∧Hid (Ps wr B l')∧Hid (pz k i (.tl n m x) l'=r)∧Hid (k≤f))
  case atStart=>exact ⟨3,_,none,0,aaU,acU,_,rfl,Hy (by decide),F,EU,P,HR,Hy lr⟩
  case round =>
   clear F P HR EU;obtain ⟨m,x,ua,uc,aa,ac,l',rfl,hm,F,E,P,HR,hk⟩:=hrel;rcases gk with _ | gk
   ·exact absurd HR.o.symm NE.o
   by_cases hc:m≤n
   ·have hok:=Hy (show Rs.ok x l'=r by rw [← HR.o];simp only [pz];rw [if_pos hc]);have q1:decide ((n:Int)≤(m:Int) - 1)=false:=dF (by omega);clear HR hm hk hc;go_wp2_with (first | (refine aZ (.tmp 4) rfl rfl _ _ _ rfl F.o.rz rfl ?_) | (refine aM (.tmp 4) (.tmp 41) rfl rfl _ _ _ _ rfl rfl F.o.rz rfl rfl (aR _ _ _ _ _) ?_;intro wz hb9 hs9));have F9:=F.o.set hs9 hb9;have P9:=P.o.st hs9 (L_o F.o.hB);refine aS rfl _ _ _ _ _ rfl hb9 rfl ?_;exact aO hok.o.symm ⟨ua,uc,aa,ac,rfl,(E.o.kp (hs9.kp (by omega))).less (by omega)⟩ P9 F9.mv
   rcases m with _ | m
   ·exact absurd zl hc
   have q1:decide ((n:Int)≤((m+1:Nat):Int) - 1)=true:=dT (by omega);have q2:(((m+1:Nat):Int) - 1)=(m:Int):=by omega
   have hm6:=Hy (show m<6 by have:=hm.o;omega);have hnm:=Hy (show ¬ m+1≤n from hc);rw [q2] at q1;have q3:decide (n≤m)=true:=dT (by omega);have q4:n≤m:=by omega
   rw [q2];clear hc hm q2;have e0:=F.o.c0;have e1:=F.o.c1;go_wp2_with fail;refine (eU B i m hm6.o l' wr P.o).mono ?_;rintro e w2 ⟨rfl,pp,mm⟩;have P2:=Hy pp;have F2:=Hy (F.o.next mm);have E2:=Hy (E.o.kp (mm.kp (Nat.lt_of_lt_of_le F.o.hB (Nat.le_add_right _ 2))));clear pp mm e0 e1 P F E;go_wp2_with fail;obtain ⟨go,hgo⟩:∃ go,go=gk+1:=⟨_,rfl⟩;have hgf:=Hy (show go≤f from by rw [hgo];exact hk.o);replace hgo:=Hy hgo;have hgk:=Hy (show gk+1≤go from Nat.le_of_eq hgo.o.symm)
   go_loopg [6] (gk+1) (fun k v w3 => ∃ (x:Ex) (ua:Option Addr) (uc:Nat) (aa:Option Addr) (ac:Nat) (l':List Tk),v=.string (opr m l')∧Hid (Fr w w3 B i (exC x ua uc aa ac))∧Hid (Ec (w.heap.size+2) w3 x ua aa)∧Hid (Opp B m l' w3)∧Hid (pz k i (.tl n (m+1) x) l'=r)∧Hid (k≤go))
   case atStart=>exact ⟨x,ua,uc,aa,ac,l',rfl,F2,E2,P2,HR,hgk⟩
   case round =>
    clear F2 E2 P2 HR hgk q1 q3 q4;obtain ⟨x,ua,uc,aa,ac,l',rfl,F,E,P,HR,hk3⟩:=hrel;rcases gk with _ | gk
    ·exact absurd HR.o.symm NE.o
    by_cases hop:opr m l'=.empty
    ·have t1:(opr m l').toList.isEmpty=true:=by rw [hop,ByteArray.toList_eq];rfl
     have HR2:=Hy (show pz gk i (.tl n m x) l'=r from by rw [← HR.o];simp only [pz];rw [if_neg hnm.o,Nat.add_sub_cancel,if_pos hop]);have P3:Hid (Ps wr B l'):=Hy (by have:=P.o;unfold Opp at this;rw [if_pos hop] at this;exact this);clear hop HR P;generalize opr m l'=s at *;go_wp2_with fail;go_roundg gk
     case measure=>have h1:=hgo.o;have h2:=hk3.o;omega
     case rel=>exact ⟨m,x,ua,uc,aa,ac,l',congrArg (Value.int .i64) (wm hm6.o),Hy (Nat.le_of_lt hm6.o),F,E,P3,HR2,Hy (by have h1:=hgf.o;have h2:=hk3.o;omega)⟩
    have t1:(opr m l').toList.isEmpty=false:=by
     cases hb:(opr m l').toList.isEmpty
     ·rfl
     exact absurd (uU hb) hop
    have HR2:=Hy (show ((pz gk i (.op (m+1)) l'.tail).bind fun y r=>pz gk i (.tl n (if m+1=4 then 3 else m+1) (bC (opr m l') x y)) r)=r from by rw [← HR.o];simp only [pz];rw [if_neg hnm.o,Nat.add_sub_cancel,if_neg hop]);have P3:Hid (Ps wr B l'.tail):=Hy (by have:=P.o;unfold Opp at this;rw [if_neg hop] at this;exact this);have Rk:=H gk (by have h1:=hgf.o;have h2:=hk3.o;omega);have hkf:=Hy (show gk≤f from by have h1:=hgf.o;have h2:=hk3.o;omega);have hkg:=Hy (show gk+1≤go from hk3.o);clear hop HR P hk3;generalize opr m l'=s at *;go_wp2_with fail;have SS:=Hy (show Blk wr.drew w.heap.size 108 #[.pointer (some ⟨B,0,none⟩),.bool i] from F.o.sc);replace P3:=Hy (P3.o.keeps (b0 _).drew);replace E:=Hy (E.o.kp (dO (b0 wr).drew));replace F:=Hy (F.o.next (Mv.of (B:=B) (b0 wr).drew));have f4:=aP (j:=m) (by have:=hm6.o;omega);replace f4:=Hy f4;refine wp_region_held_drew (S:=fun w' => Blk w' w.heap.size 108 #[.pointer (some ⟨B,0,none⟩),.bool i]) (by kernel_rfl) SS.o (fun hH=>?_);clear SS;refine au 0 32 ?_ hH (fun w' hS=>?_) ?_;rotate_left;(·go_simp;try rfl);simp only [sz];refine bg 2 34 (.agg #[.pointer (some ⟨B,0,none⟩),.bool i]) rfl (by kernel_rfl) rfl (fun _ _ _ h=>h) rfl hH (fun w' hS=>aY wS dec.uy108 rfl (.tmp 2) rfl _ _ _ rfl hS rfl) ?_;simp only [sz];refine au 3 35 ?_ hH (fun w' hS=>?_) ?_;rotate_left;(·go_simp;try rfl);simp only [sz];refine au 4 36 (.int .i64 ((m+1:Nat):Int)) hH (fun w' hS=>?_) ?_
    ·go_simp;first | done | with_reducible rfl | (have h6:=hm6.o;rw [IntKind.wrap_i64];omega)
    simp only [sz];refine dN (i:=1) (j:=5) rfl rfl (by kernel_rfl) rfl rfl (fun K hK=>?_) (fun K hK=>?_)
    ·refine mE (.tmp 4) rfl _ _ _ rfl F.o.rz rfl ?_;refine hK.o _ _ hH (fun hH=>?_);clear hK K;refine aA 5 (fun K hK=>?_);go_simp;refine (Rk.op B i (m+1) l'.tail _ (by have:=hm6.o;omega) P3.o (bH (by rw [HR2.o];exact NE.o))).mono ?_;rintro e w4 h4;rcases hG4:pz gk i (.op (m+1)) l'.tail with _ | ⟨y,l4⟩ | ⟨a4,c4,l4⟩
     ·exact absurd (by rw [← HR2.o,hG4];rfl) NE.o
     rotate_left
     ·rw [hG4] at h4;obtain ⟨rfl,pp,mm⟩:=h4;unfold thr;exact ⟨rfl,aD (by rw [← HR2.o,hG4];rfl) pp (F.o.next mm).mv⟩
     rw [hG4] at h4;obtain ⟨uy,rfl,vv,pp,mm⟩:=h4;obtain ⟨uay,ucy,aay,acy,rfl,EY⟩:=vv;have hB:=F.o.hB;replace EY:=Hy (Ec.less EY F.o.lt);have HR3:=Hy (show pz gk i (.tl n (if m+1=4 then 3 else m+1) (bC s x y)) l4=r by rw [← HR2.o,hG4];rfl);replace E:=Hy (E.o.kp (mm.kp (show B<w.heap.size+2 by omega)));replace hH:=hH.mv mm (by omega) hH.lt;replace F:=nFr F mm;have P4:=Hy pp;clear pp mm hG4 HR2 hB;refine hK.o _ _ hH (fun hH=>?_);clear hK K;refine aA 6 (fun K hK=>?_);go_simp;have hC:=Hy F.o.lt;refine (gK s x ua uc aa ac y uay ucy aay acy (w.heap.size+2) w4 E.o EY.o hC.o).mono ?_;rintro e wU ⟨aaU,acU,rfl,EU,bb⟩;replace EU:=Hy EU;replace hH:=hH.below bb hH.lt;replace F:=Hy (F.o.bG bb);replace P4:=Hy (P4.o.keeps bb);clear bb E EY hC;refine hK.o _ _ hH (fun hH=>?_);clear hK K;refine aA 7 (fun K hK=>?_);refine iH (.tmp 4) (.tmp 38) rfl _ _ _ _ rfl rfl F.o.rz rfl rfl (aR _ _ _ _ _) ?_;intro w9 hb9 hs9;refine hK.o _ _ (hH.st hs9 (by omega)) (fun hH=>?_);clear hK K;replace F:=Hy (F.o.set hs9 hb9);replace P4:=Hy (P4.o.st hs9 (by have:=F.o.hB;omega));replace EU:=Hy (EU.o.kp (hs9.kp (by omega)));clear hb9 hs9 hH;refine wpAnyH_done (by kernel_rfl) ?_ _;by_cases hm3:m=3
     ·have q5:((m:Int)==3)=true:=by simp;omega
      have q6:=Hy (show wrap64 ((m:Int) - 1)=((3:Nat):Int) - 1 from by rw [wm hm6.o,hm3]);have HR4:=Hy (show pz gk i (.tl n 3 (bC s x y)) l4=r from by rw [← HR3.o,if_pos (by omega)]);clear hm3 HR3;go_wp2_with fail;go_roundg gk
      case measure=>have h1:=hgo.o;have h2:=hkg.o;omega
      case rel=>exact ⟨3,bC s x y,none,0,aaU,acU,l4,congrArg (Value.int .i64) q6.o,Hy (by decide),F,EU,P4,HR4,hkf⟩
     have q5:((m:Int)==3)=false:=by simp;omega
     have HR4:=Hy (show pz gk i (.tl n (m+1) (bC s x y)) l4=r from by rw [← HR3.o,if_neg (by omega)]);clear hm3 HR3;have e0:=F.o.c0;have e1:=F.o.c1;go_wp2_with fail;refine (eU B i m hm6.o l4 w9 P4.o).mono ?_;rintro e w7 ⟨rfl,pp,mm⟩;have P5:=Hy pp;have F5:=Hy (F.o.next mm);have E5:=Hy (EU.o.kp (mm.kp (Nat.lt_of_lt_of_le F.o.hB (Nat.le_add_right _ 2))));clear pp mm e0 e1;go_wp2_with fail;go_roundg gk
     case measure=>omega
     case rel=>exact ⟨bC s x y,none,0,aaU,acU,l4,rfl,F5,E5,P5,HR4,Hy (by have:=hkg.o;omega)⟩
    go_simp;refine (Rk.op B i (m+1) l'.tail _ (by have:=hm6.o;omega) P3.o (bH (by rw [HR2.o];exact NE.o))).mono ?_;rintro e w4 h4;rcases hG4:pz gk i (.op (m+1)) l'.tail with _ | ⟨y,l4⟩ | ⟨a4,c4,l4⟩
    ·exact absurd (by rw [← HR2.o,hG4];rfl) NE.o
    rotate_left
    ·rw [hG4] at h4;obtain ⟨rfl,pp,mm⟩:=h4;unfold thr;exact ⟨rfl,aD (by rw [← HR2.o,hG4];rfl) pp (F.o.next mm).mv⟩
    rw [hG4] at h4;obtain ⟨uy,rfl,vv,pp,mm⟩:=h4;obtain ⟨uay,ucy,aay,acy,rfl,EY⟩:=vv;have hB:=F.o.hB;replace EY:=Hy (Ec.less EY F.o.lt);have HR3:=Hy (show pz gk i (.tl n (if m+1=4 then 3 else m+1) (bC s x y)) l4=r by rw [← HR2.o,hG4];rfl);replace E:=Hy (E.o.kp (mm.kp (show B<w.heap.size+2 by omega)));replace hH:=hH.mv mm (by omega) hH.lt;replace F:=nFr F mm;have P4:=Hy pp;clear pp mm hG4 HR2 hB;refine hK.o _ _ hH (fun hH=>?_);clear hK K;refine aA 1 (fun K hK=>?_);refine mE (.tmp 4) rfl _ _ _ rfl F.o.rz rfl ?_;refine hK.o _ _ hH (fun hH=>?_);clear hK K;refine aA 6 (fun K hK=>?_);go_simp;have hC:=Hy F.o.lt;refine (gK s x ua uc aa ac y uay ucy aay acy (w.heap.size+2) w4 E.o EY.o hC.o).mono ?_;rintro e wU ⟨aaU,acU,rfl,EU,bb⟩;replace EU:=Hy EU;replace hH:=hH.below bb hH.lt;replace F:=Hy (F.o.bG bb);replace P4:=Hy (P4.o.keeps bb);clear bb E EY hC;refine hK.o _ _ hH (fun hH=>?_);clear hK K;refine aA 7 (fun K hK=>?_);refine iH (.tmp 4) (.tmp 38) rfl _ _ _ _ rfl rfl F.o.rz rfl rfl (aR _ _ _ _ _) ?_;intro w9 hb9 hs9;refine hK.o _ _ (hH.st hs9 (by omega)) (fun hH=>?_);clear hK K;replace F:=Hy (F.o.set hs9 hb9);replace P4:=Hy (P4.o.st hs9 (by have:=F.o.hB;omega));replace EU:=Hy (EU.o.kp (hs9.kp (by omega)));clear hb9 hs9 hH;refine wpAnyH_done (by kernel_rfl) ?_ _;by_cases hm3:m=3
    ·have q5:((m:Int)==3)=true:=by simp;omega
     have q6:=Hy (show wrap64 ((m:Int) - 1)=((3:Nat):Int) - 1 from by rw [wm hm6.o,hm3]);have HR4:=Hy (show pz gk i (.tl n 3 (bC s x y)) l4=r from by rw [← HR3.o,if_pos (by omega)]);clear hm3 HR3;go_wp2_with fail;go_roundg gk
     case measure=>have h1:=hgo.o;have h2:=hkg.o;omega
     case rel=>exact ⟨3,bC s x y,none,0,aaU,acU,l4,congrArg (Value.int .i64) q6.o,Hy (by decide),F,EU,P4,HR4,hkf⟩
    have q5:((m:Int)==3)=false:=by simp;omega
    have HR4:=Hy (show pz gk i (.tl n (m+1) (bC s x y)) l4=r from by rw [← HR3.o,if_neg (by omega)]);clear hm3 HR3;have e0:=F.o.c0;have e1:=F.o.c1;go_wp2_with fail;refine (eU B i m hm6.o l4 w9 P4.o).mono ?_;rintro e w7 ⟨rfl,pp,mm⟩;have P5:=Hy pp;have F5:=Hy (F.o.next mm);have E5:=Hy (EU.o.kp (mm.kp (Nat.lt_of_lt_of_le F.o.hB (Nat.le_add_right _ 2))));clear pp mm e0 e1;go_wp2_with fail;go_roundg gk
    case measure=>omega
    case rel=>exact ⟨bC s x y,none,0,aaU,acU,l4,rfl,F5,E5,P5,HR4,Hy (by have:=hkg.o;omega)⟩
 replace HR:=HR.o;rw [if_neg (fun h=>h3 h.1)] at HR;replace HR:=Hy HR;have q1:decide ((n:Int)≤3)=false:=dF (by omega);clear h3
 go_enter Tryz.func125,Tryz.ntmps125
 go_wp2_with fail;have hF:=Hy F.o.lt;refine (R.ng B i l _ P.o (bH (by rw [HR.o];exact NE.o))).mono ?_;rintro e w1 h1;rcases hG1:pz f i .ng l with _ | ⟨v1,l1⟩ | ⟨a1,c1,l1⟩
 ·exact bou HR hG1 NE
 rotate_left
 ·rw [hG1] at h1;obtain ⟨rfl,pp,mm⟩:=h1;unfold thr;have hn:=b3 HR hG1 pp (F.o.next mm).mv;clear pp mm hG1;go_wp2_with fail;exact ⟨rfl,aE hn⟩
 rw [hG1] at h1;obtain ⟨u1,rfl,vv,pp,mm⟩:=h1;replace HR:=bok HR hG1;replace F:=nFr F mm;replace P:=Hy pp;clear pp mm hG1;have V1:=Hy vv;clear vv;obtain ⟨ua1,uc1,aa1,ac1,rfl,E1⟩:=V1.o;replace E1:=Hy (Ec.less E1 hF.o);clear V1 hF;go_wp2_with (refine aM (.tmp 4) (.tmp 18) rfl rfl _ _ _ _ rfl rfl F.o.rz rfl rfl (aR _ _ _ _ _) ?_;intro wz hb9 hs9;replace F:=Hy (F.o.set hs9 hb9);replace P:=Hy (P.o.st hs9 (L_o F.o.hB));replace E1:=Hy (E1.o.kp (hs9.kp (by omega)));clear hb9 hs9);dsimp only [Act.put]
 go_loopg [5] f (fun k v wr => ∃ (m:Nat) (x:Ex) (ua:Option Addr) (uc:Nat) (aa:Option Addr) (ac:Nat) (l':List Tk),v=.int .i64 ((m:Int) - 1)∧Hid (m≤6)∧Hid (Fr w wr B i (exC x ua uc aa ac))∧Hid (Ec (w.heap.size+2) wr x ua aa)∧Hid (Ps wr B l')∧Hid (pz k i (.tl n m x) l'=r)∧Hid (k≤f))
 case atStart=>exact ⟨6,_,ua1,uc1,aa1,ac1,_,rfl,Hy (by decide),F,E1,P,HR,Hy lr⟩
 case round =>
  clear F P HR E1;obtain ⟨m,x,ua,uc,aa,ac,l',rfl,hm,F,E,P,HR,hk⟩:=hrel;rcases gk with _ | gk
  ·exact absurd HR.o.symm NE.o
  by_cases hc:m≤n
  ·have hok:=Hy (show Rs.ok x l'=r by rw [← HR.o];simp only [pz];rw [if_pos hc]);have q1:decide ((n:Int)≤(m:Int) - 1)=false:=dF (by omega);clear HR hm hk hc;go_wp2_with (first | (refine aZ (.tmp 4) rfl rfl _ _ _ rfl F.o.rz rfl ?_) | (refine aM (.tmp 4) (.tmp 41) rfl rfl _ _ _ _ rfl rfl F.o.rz rfl rfl (aR _ _ _ _ _) ?_;intro wz hb9 hs9));have F9:=F.o.set hs9 hb9;have P9:=P.o.st hs9 (L_o F.o.hB);refine aS rfl _ _ _ _ _ rfl hb9 rfl ?_;exact aO hok.o.symm ⟨ua,uc,aa,ac,rfl,(E.o.kp (hs9.kp (by omega))).less (by omega)⟩ P9 F9.mv
  rcases m with _ | m
  ·exact absurd zl hc
  have q1:decide ((n:Int)≤((m+1:Nat):Int) - 1)=true:=dT (by omega);have q2:(((m+1:Nat):Int) - 1)=(m:Int):=by omega
  have hm6:=Hy (show m<6 by have:=hm.o;omega);have hnm:=Hy (show ¬ m+1≤n from hc);rw [q2] at q1;have q3:decide (n≤m)=true:=dT (by omega);have q4:n≤m:=by omega
  rw [q2];clear hc hm q2;have e0:=F.o.c0;have e1:=F.o.c1;go_wp2_with fail;refine (eU B i m hm6.o l' wr P.o).mono ?_;rintro e w2 ⟨rfl,pp,mm⟩;have P2:=Hy pp;have F2:=Hy (F.o.next mm);have E2:=Hy (E.o.kp (mm.kp (Nat.lt_of_lt_of_le F.o.hB (Nat.le_add_right _ 2))));clear pp mm e0 e1 P F E;go_wp2_with fail;obtain ⟨go,hgo⟩:∃ go,go=gk+1:=⟨_,rfl⟩;have hgf:=Hy (show go≤f from by rw [hgo];exact hk.o);replace hgo:=Hy hgo;have hgk:=Hy (show gk+1≤go from Nat.le_of_eq hgo.o.symm)
  go_loopg [6] (gk+1) (fun k v w3 => ∃ (x:Ex) (ua:Option Addr) (uc:Nat) (aa:Option Addr) (ac:Nat) (l':List Tk),v=.string (opr m l')∧Hid (Fr w w3 B i (exC x ua uc aa ac))∧Hid (Ec (w.heap.size+2) w3 x ua aa)∧Hid (Opp B m l' w3)∧Hid (pz k i (.tl n (m+1) x) l'=r)∧Hid (k≤go))
  case atStart=>exact ⟨x,ua,uc,aa,ac,l',rfl,F2,E2,P2,HR,hgk⟩
  case round =>
   clear F2 E2 P2 HR hgk q1 q3 q4;obtain ⟨x,ua,uc,aa,ac,l',rfl,F,E,P,HR,hk3⟩:=hrel;rcases gk with _ | gk
   ·exact absurd HR.o.symm NE.o
   by_cases hop:opr m l'=.empty
   ·have t1:(opr m l').toList.isEmpty=true:=by rw [hop,ByteArray.toList_eq];rfl
    have HR2:=Hy (show pz gk i (.tl n m x) l'=r from by rw [← HR.o];simp only [pz];rw [if_neg hnm.o,Nat.add_sub_cancel,if_pos hop]);have P3:Hid (Ps wr B l'):=Hy (by have:=P.o;unfold Opp at this;rw [if_pos hop] at this;exact this);clear hop HR P;generalize opr m l'=s at *;go_wp2_with fail;go_roundg gk
    case measure=>have h1:=hgo.o;have h2:=hk3.o;omega
    case rel=>exact ⟨m,x,ua,uc,aa,ac,l',congrArg (Value.int .i64) (wm hm6.o),Hy (Nat.le_of_lt hm6.o),F,E,P3,HR2,Hy (by have h1:=hgf.o;have h2:=hk3.o;omega)⟩
   have t1:(opr m l').toList.isEmpty=false:=by
    cases hb:(opr m l').toList.isEmpty
    ·rfl
    exact absurd (uU hb) hop
   have HR2:=Hy (show ((pz gk i (.op (m+1)) l'.tail).bind fun y r=>pz gk i (.tl n (if m+1=4 then 3 else m+1) (bC (opr m l') x y)) r)=r from by rw [← HR.o];simp only [pz];rw [if_neg hnm.o,Nat.add_sub_cancel,if_neg hop]);have P3:Hid (Ps wr B l'.tail):=Hy (by have:=P.o;unfold Opp at this;rw [if_neg hop] at this;exact this);have Rk:=H gk (by have h1:=hgf.o;have h2:=hk3.o;omega);have hkf:=Hy (show gk≤f from by have h1:=hgf.o;have h2:=hk3.o;omega);have hkg:=Hy (show gk+1≤go from hk3.o);clear hop HR P hk3;generalize opr m l'=s at *;go_wp2_with fail;have SS:=Hy (show Blk wr.drew w.heap.size 108 #[.pointer (some ⟨B,0,none⟩),.bool i] from F.o.sc);replace P3:=Hy (P3.o.keeps (b0 _).drew);replace E:=Hy (E.o.kp (dO (b0 wr).drew));replace F:=Hy (F.o.next (Mv.of (B:=B) (b0 wr).drew));have f4:=aP (j:=m) (by have:=hm6.o;omega);replace f4:=Hy f4;refine wp_region_held_drew (S:=fun w' => Blk w' w.heap.size 108 #[.pointer (some ⟨B,0,none⟩),.bool i]) (by kernel_rfl) SS.o (fun hH=>?_);clear SS;refine au 0 32 ?_ hH (fun w' hS=>?_) ?_;rotate_left;(·go_simp;try rfl);simp only [sz];refine bg 2 34 (.agg #[.pointer (some ⟨B,0,none⟩),.bool i]) rfl (by kernel_rfl) rfl (fun _ _ _ h=>h) rfl hH (fun w' hS=>aY wS dec.uy108 rfl (.tmp 2) rfl _ _ _ rfl hS rfl) ?_;simp only [sz];refine au 3 35 ?_ hH (fun w' hS=>?_) ?_;rotate_left;(·go_simp;try rfl);simp only [sz];refine au 4 36 (.int .i64 ((m+1:Nat):Int)) hH (fun w' hS=>?_) ?_
   ·go_simp;first | done | with_reducible rfl | (have h6:=hm6.o;rw [IntKind.wrap_i64];omega)
   simp only [sz];refine dN (i:=1) (j:=5) rfl rfl (by kernel_rfl) rfl rfl (fun K hK=>?_) (fun K hK=>?_)
   ·refine mE (.tmp 4) rfl _ _ _ rfl F.o.rz rfl ?_;refine hK.o _ _ hH (fun hH=>?_);clear hK K;refine aA 5 (fun K hK=>?_);go_simp;refine (Rk.op B i (m+1) l'.tail _ (by have:=hm6.o;omega) P3.o (bH (by rw [HR2.o];exact NE.o))).mono ?_;rintro e w4 h4;rcases hG4:pz gk i (.op (m+1)) l'.tail with _ | ⟨y,l4⟩ | ⟨a4,c4,l4⟩
    ·exact absurd (by rw [← HR2.o,hG4];rfl) NE.o
    rotate_left
    ·rw [hG4] at h4;obtain ⟨rfl,pp,mm⟩:=h4;unfold thr;exact ⟨rfl,aD (by rw [← HR2.o,hG4];rfl) pp (F.o.next mm).mv⟩
    rw [hG4] at h4;obtain ⟨uy,rfl,vv,pp,mm⟩:=h4;obtain ⟨uay,ucy,aay,acy,rfl,EY⟩:=vv;have hB:=F.o.hB;replace EY:=Hy (Ec.less EY F.o.lt);have HR3:=Hy (show pz gk i (.tl n (if m+1=4 then 3 else m+1) (bC s x y)) l4=r by rw [← HR2.o,hG4];rfl);replace E:=Hy (E.o.kp (mm.kp (show B<w.heap.size+2 by omega)));replace hH:=hH.mv mm (by omega) hH.lt;replace F:=nFr F mm;have P4:=Hy pp;clear pp mm hG4 HR2 hB;refine hK.o _ _ hH (fun hH=>?_);clear hK K;refine aA 6 (fun K hK=>?_);go_simp;have hC:=Hy F.o.lt;refine (gK s x ua uc aa ac y uay ucy aay acy (w.heap.size+2) w4 E.o EY.o hC.o).mono ?_;rintro e wU ⟨aaU,acU,rfl,EU,bb⟩;replace EU:=Hy EU;replace hH:=hH.below bb hH.lt;replace F:=Hy (F.o.bG bb);replace P4:=Hy (P4.o.keeps bb);clear bb E EY hC;refine hK.o _ _ hH (fun hH=>?_);clear hK K;refine aA 7 (fun K hK=>?_);refine iH (.tmp 4) (.tmp 38) rfl _ _ _ _ rfl rfl F.o.rz rfl rfl (aR _ _ _ _ _) ?_;intro w9 hb9 hs9;refine hK.o _ _ (hH.st hs9 (by omega)) (fun hH=>?_);clear hK K;replace F:=Hy (F.o.set hs9 hb9);replace P4:=Hy (P4.o.st hs9 (by have:=F.o.hB;omega));replace EU:=Hy (EU.o.kp (hs9.kp (by omega)));clear hb9 hs9 hH;refine wpAnyH_done (by kernel_rfl) ?_ _;by_cases hm3:m=3
    ·have q5:((m:Int)==3)=true:=by simp;omega
     have q6:=Hy (show wrap64 ((m:Int) - 1)=((3:Nat):Int) - 1 from by rw [wm hm6.o,hm3]);have HR4:=Hy (show pz gk i (.tl n 3 (bC s x y)) l4=r from by rw [← HR3.o,if_pos (by omega)]);clear hm3 HR3;go_wp2_with fail;go_roundg gk
     case measure=>have h1:=hgo.o;have h2:=hkg.o;omega
     case rel=>exact ⟨3,bC s x y,none,0,aaU,acU,l4,congrArg (Value.int .i64) q6.o,Hy (by decide),F,EU,P4,HR4,hkf⟩
    have q5:((m:Int)==3)=false:=by simp;omega
    have HR4:=Hy (show pz gk i (.tl n (m+1) (bC s x y)) l4=r from by rw [← HR3.o,if_neg (by omega)]);clear hm3 HR3;have e0:=F.o.c0;have e1:=F.o.c1;go_wp2_with fail;refine (eU B i m hm6.o l4 w9 P4.o).mono ?_;rintro e w7 ⟨rfl,pp,mm⟩;have P5:=Hy pp;have F5:=Hy (F.o.next mm);have E5:=Hy (EU.o.kp (mm.kp (Nat.lt_of_lt_of_le F.o.hB (Nat.le_add_right _ 2))));clear pp mm e0 e1;go_wp2_with fail;go_roundg gk
    case measure=>omega
    case rel=>exact ⟨bC s x y,none,0,aaU,acU,l4,rfl,F5,E5,P5,HR4,Hy (by have:=hkg.o;omega)⟩
   go_simp;refine (Rk.op B i (m+1) l'.tail _ (by have:=hm6.o;omega) P3.o (bH (by rw [HR2.o];exact NE.o))).mono ?_;rintro e w4 h4;rcases hG4:pz gk i (.op (m+1)) l'.tail with _ | ⟨y,l4⟩ | ⟨a4,c4,l4⟩
   ·exact absurd (by rw [← HR2.o,hG4];rfl) NE.o
   rotate_left
   ·rw [hG4] at h4;obtain ⟨rfl,pp,mm⟩:=h4;unfold thr;exact ⟨rfl,aD (by rw [← HR2.o,hG4];rfl) pp (F.o.next mm).mv⟩
   rw [hG4] at h4;obtain ⟨uy,rfl,vv,pp,mm⟩:=h4;obtain ⟨uay,ucy,aay,acy,rfl,EY⟩:=vv;have hB:=F.o.hB;replace EY:=Hy (Ec.less EY F.o.lt);have HR3:=Hy (show pz gk i (.tl n (if m+1=4 then 3 else m+1) (bC s x y)) l4=r by rw [← HR2.o,hG4];rfl);replace E:=Hy (E.o.kp (mm.kp (show B<w.heap.size+2 by omega)));replace hH:=hH.mv mm (by omega) hH.lt;replace F:=nFr F mm;have P4:=Hy pp;clear pp mm hG4 HR2 hB;refine hK.o _ _ hH (fun hH=>?_);clear hK K;refine aA 1 (fun K hK=>?_);refine mE (.tmp 4) rfl _ _ _ rfl F.o.rz rfl ?_;refine hK.o _ _ hH (fun hH=>?_);clear hK K;refine aA 6 (fun K hK=>?_);go_simp;have hC:=Hy F.o.lt;refine (gK s x ua uc aa ac y uay ucy aay acy (w.heap.size+2) w4 E.o EY.o hC.o).mono ?_;rintro e wU ⟨aaU,acU,rfl,EU,bb⟩;replace EU:=Hy EU;replace hH:=hH.below bb hH.lt;replace F:=Hy (F.o.bG bb);replace P4:=Hy (P4.o.keeps bb);clear bb E EY hC;refine hK.o _ _ hH (fun hH=>?_);clear hK K;refine aA 7 (fun K hK=>?_);refine iH (.tmp 4) (.tmp 38) rfl _ _ _ _ rfl rfl F.o.rz rfl rfl (aR _ _ _ _ _) ?_;intro w9 hb9 hs9;refine hK.o _ _ (hH.st hs9 (by omega)) (fun hH=>?_);clear hK K;replace F:=Hy (F.o.set hs9 hb9);replace P4:=Hy (P4.o.st hs9 (by have:=F.o.hB;omega));replace EU:=Hy (EU.o.kp (hs9.kp (by omega)));clear hb9 hs9 hH;refine wpAnyH_done (by kernel_rfl) ?_ _;by_cases hm3:m=3
   ·have q5:((m:Int)==3)=true:=by simp;omega
    have q6:=Hy (show wrap64 ((m:Int) - 1)=((3:Nat):Int) - 1 from by rw [wm hm6.o,hm3]);have HR4:=Hy (show pz gk i (.tl n 3 (bC s x y)) l4=r from by rw [← HR3.o,if_pos (by omega)]);clear hm3 HR3;go_wp2_with fail;go_roundg gk
    case measure=>have h1:=hgo.o;have h2:=hkg.o;omega
    case rel=>exact ⟨3,bC s x y,none,0,aaU,acU,l4,congrArg (Value.int .i64) q6.o,Hy (by decide),F,EU,P4,HR4,hkf⟩
   have q5:((m:Int)==3)=false:=by simp;omega
   have HR4:=Hy (show pz gk i (.tl n (m+1) (bC s x y)) l4=r from by rw [← HR3.o,if_neg (by omega)]);clear hm3 HR3;have e0:=F.o.c0;have e1:=F.o.c1;go_wp2_with fail;refine (eU B i m hm6.o l4 w9 P4.o).mono ?_;rintro e w7 ⟨rfl,pp,mm⟩;have P5:=Hy pp;have F5:=Hy (F.o.next mm);have E5:=Hy (EU.o.kp (mm.kp (Nat.lt_of_lt_of_le F.o.hB (Nat.le_add_right _ 2))));clear pp mm e0 e1;go_wp2_with fail;go_roundg gk
   case measure=>omega
   case rel=>exact ⟨bC s x y,none,0,aaU,acU,l4,rfl,F5,E5,P5,HR4,Hy (by have:=hkg.o;omega)⟩
theorem SX:∀ f,Rd f:=by
 intro f
 induction f using Nat.strongRecOn with
 | _ f ih =>
   rcases f with _ | f
   · exact ⟨fun _ _ _ _ _ h=>absurd rfl h,fun _ _ _ _ _ h=>absurd rfl h,fun _ _ _ _ _ h=>absurd rfl h,fun _ _ _ _ _ h=>absurd rfl h,fun _ _ _ _ _ h=>absurd rfl h,fun _ _ _ _ _ h=>absurd rfl h,fun _ _ _ _ _ _ _ h=>absurd rfl h⟩
   · have R:=ih f ls
     have H:∀ k,k≤f→Rd k:=fun k hk=>ih k (Nat.lt_succ_of_le hk)
     exact ⟨fun B i l w h hn=>Ra f R B i l w h _ rfl hn,fun B i l w h hn=>Ql f R B i l w h _ rfl hn,fun B i l w h hn=>PV f R B i l w h _ rfl hn,fun B i l w h hn=>PZ f R B i l w h _ rfl hn,
       fun B i l w h hn=>Rx f R B i l w h _ rfl hn,fun B i l w h hn=>PD f R B i l w h _ rfl hn,fun B i n l w hm h hn=>Qe f H B i n hm l w h _ rfl hn⟩
def exR (l:List Tk):Rs Ex:=pz (8 * l.length+5) false .ex l
theorem Cq (l:List Tk):exR l≠.out:=VN _ _ _ _ trivial (by simp only [Md.rk];omega)
theorem UL (B:Nat) (l:List Tk) (w:World) (h:Ps w B l):Calls Tryz.prog 69 #[.agg #[.pointer (some ⟨B,0,none⟩),.bool false]] w (Pst B Ev (exR l) w):=(SX _).ex B false l w h (Cq l)
theorem wT:(Tryz.prog.info? 122).map (·.size)=some 2:=by kernel_rfl
theorem JE {T:TypeId} {n:Nat} (hi:(Tryz.prog.info? T).map (·.size)=some n) (x y:Operand) {o:Oper} {a:Act} {w:World} {K:Act→World→Prop} {Q:Exit→Act→World→Prop} (ho:o.op=.store T x y)
  (g:Nat) (T':TypeId) (cells old:Array Value) (hx:a.eval x=.pointer (some ⟨g,0,none⟩)) (hy:a.eval y=.agg cells) (hB:Blk w g T' old) (hs:old.size=n) (hc:cells.size=n) (h1:cells.all (·.oneCell')=true)
  (h:∀ w',Blk w' g T' cells→St g w w'→K (a.put o.dst undef) w'):o.wp Tryz.prog a w K Q :=
 wp_store_row T x y ho g cells hx hy T' old hB (by rw [hc];exact hi) (by omega) h1 (h _ (iE hB cells) (jg w g cells))
theorem MS (v:Value) (w:World):(binOp .neq 20 (.iface 122 v) .nilIface).run Tryz.prog w=.ok (.bool true) w:=by kernel_rfl
theorem DX (v:Value) (w:World):(Instr.typeAssert (.iface 122 v) 20 122 false).run Tryz.prog w=.ok v w:=by kernel_rfl
theorem MQ (w:World):(binOp .neq 20 .nilIface .nilIface).run Tryz.prog w=.ok (.bool false) w:=by kernel_rfl
theorem Rm (g:Nat) (a c:Int) (w:World) (hB:Blk w g 122 #[.int .i64 0,.int .i64 0]) :
    CallsD Tryz.prog 133 #[.pointer (some ⟨g,0,none⟩)] (.panicking [{ v:=.iface 122 (.agg #[.int .i64 a,.int .i64 c]),recovered:=false }]) w fun e u' w' =>
      e=.returned (.tuple #[])∧u'=.panicking [{ v:=.iface 122 (.agg #[.int .i64 a,.int .i64 c]),recovered:=true }]∧w'=(w.setCell ⟨g,0,none⟩ (.int .i64 a)).setCell ⟨g,1,none⟩ (.int .i64 c):=by
 have c0:=hB.cell 0;have c1:=hB.cell 1;have z0:=hB.free 0;have z1:=hB.free 1;simp only [sz2,sz3,sz4] at c0 c1;refine callsD_of_wpS Tryz.func133 rfl fun c₀ cs hu=>?_;apply wpS_seq;apply wpS_region;simp [wpOpsS,go_sem,recoverD,hu,Tryz.ntmps133,Exit.thenS];apply wpS_seq;apply wpS_region;simp [wpOpsS,go_sem,Exit.thenS,MS];refine wpS_cond (t:=true) (by simp [Act.eval]) ?_;simp only [if_true];apply wpS_region;simp [wpOpsS,go_sem,DX,c0,c1,z0,z1,bodyPostS,results,Tryz.results133]
theorem Uu (g:Nat) (w:World) :
    CallsD Tryz.prog 133 #[.pointer (some ⟨g,0,none⟩)] .returning w fun e u' w' => e=.returned (.tuple #[])∧u'=.returning∧w'=w:=by
 refine callsD_of_wpS Tryz.func133 rfl fun c₀ cs hu=>?_;apply wpS_seq;apply wpS_region;simp [wpOpsS,go_sem,recoverD,hu,Tryz.ntmps133,Exit.thenS];apply wpS_seq;apply wpS_region;simp [wpOpsS,go_sem,Exit.thenS,MQ];refine wpS_cond (t:=false) (by simp [Act.eval]) ?_;simp only [Bool.false_eq_true,if_false];refine wpS_of_wp (wp_skip ?_);cases c₀
 simp_all [bodyPostS,results,Tryz.results133]
theorem IE (M:FuncId) (caps:Array Value) (w:World) (Y:World→Prop)
    (hY:∀ w',Y w'→Blk w' w.heap.size 122 #[.int .i64 0,.int .i64 0])
    (hc:Calls Tryz.prog M caps (w.alloc (.cells #[.int .i64 0,.int .i64 0] 122)) (fun e w' => e=.returned (.tuple #[])∧Y w')) (hM:∀ (w:World),(callFunc M caps).run Tryz.prog w=.ok (.enter M caps) w) :
    Calls Tryz.prog 77 #[.func (.func M) #[] caps] w fun e w'' => ∃ w',Y w'∧St w.heap.size w' w''∧e=.returned (.agg #[.int .i64 0,.int .i64 0]):=by
 have hmf:∀ (fn:Fn) (first cap:Array Value) (w:World),(Instr.makeFunc fn first cap).run Tryz.prog w=.ok (.func fn first cap) w:=fun _ _ _ _=>rfl;have HC:=Hy hc;have HY:=Hy hY;clear hc hY
 go_enter_defers Tryz.func77,Tryz.ntmps77
 go_wp2_with fail;refine HC.o.mono ?_;rintro e w3 ⟨rfl,y3⟩;have B3:=Hy (HY.o w3 y3);replace y3:=Hy y3;go_wp2_with (first | (refine aG wT Tryz.underlying122 rfl (.tmp 2) rfl rfl _ _ _ rfl B3.o rfl ?_) | (refine aF wT (.tmp 2) (.tmp 6) rfl rfl _ _ _ _ rfl rfl B3.o rfl rfl (by simp [Value.oneCell']) ?_;intro w9 hb9 hs9));refine leaves_cons (f:=133) (args:=#[.pointer (some ⟨w.heap.size,0,none⟩)]) (by simp) (by simp [go_sem]) ?_;refine (Uu w.heap.size _).mono ?_;rintro e u' w'' ⟨rfl,rfl,rfl⟩;have c0:w''.cell? ⟨w.heap.size,0,none⟩=some (.int .i64 0):=hb9.cell 0;have c1:w''.cell? ⟨w.heap.size,1,none⟩=some (.int .i64 0):=hb9.cell 1;simp [Leaves,settle,results,Tryz.results77,go_sem,c0,c1];exact ⟨w3,y3.o,hs9⟩
theorem IG (M:FuncId) (caps:Array Value) (w:World) (a c:Int) (Y:World→Prop)
    (hY:∀ w',Y w'→Blk w' w.heap.size 122 #[.int .i64 0,.int .i64 0])
    (hc:Calls Tryz.prog M caps (w.alloc (.cells #[.int .i64 0,.int .i64 0] 122)) (fun e w' => e=thr a c∧Y w')) (hM:∀ (w:World),(callFunc M caps).run Tryz.prog w=.ok (.enter M caps) w) :
    Calls Tryz.prog 77 #[.func (.func M) #[] caps] w fun e w'' => ∃ w',Y w'∧St w.heap.size w' w''∧e=.returned (.agg #[.int .i64 a,.int .i64 c]):=by
 have hmf:∀ (fn:Fn) (first cap:Array Value) (w:World),(Instr.makeFunc fn first cap).run Tryz.prog w=.ok (.func fn first cap) w:=fun _ _ _ _=>rfl;have HC:=Hy hc;have HY:=Hy hY;clear hc hY
 go_enter_defers Tryz.func77,Tryz.ntmps77
 go_wp2_with fail;refine HC.o.mono ?_;rintro e w3 ⟨rfl,y3⟩;have B3:=Hy (HY.o w3 y3);replace y3:=Hy y3;unfold thr;go_wp2_with fail;refine leaves_cons (f:=133) (args:=#[.pointer (some ⟨w.heap.size,0,none⟩)]) (by simp) (by simp [go_sem]) ?_;refine (Rm w.heap.size a c _ B3.o).mono ?_;rintro e u' w'' ⟨rfl,rfl,rfl⟩;have k0:=B3.o.setCell 0 (.int .i64 a);have k1:=k0.1.setCell 1 (.int .i64 c);have c0:((w3.setCell ⟨w.heap.size,0,none⟩ (.int .i64 a)).setCell ⟨w.heap.size,1,none⟩ (.int .i64 c)).cell? ⟨w.heap.size,0,none⟩=some (.int .i64 a):=k1.1.cell 0;have c1:((w3.setCell ⟨w.heap.size,0,none⟩ (.int .i64 a)).setCell ⟨w.heap.size,1,none⟩ (.int .i64 c)).cell? ⟨w.heap.size,1,none⟩=some (.int .i64 c):=k1.1.cell 1;have S9:=St.trans k0.2 k1.2;generalize (w3.setCell ⟨w.heap.size,0,none⟩ (.int .i64 a)).setCell ⟨w.heap.size,1,none⟩ (.int .i64 c)=w9 at *;simp [Leaves,settle,results,Tryz.results77,go_sem,c0,c1];exact ⟨w3,y3.o,S9⟩
end pa
end Go.Proofs.YtbahfelnbofjjaaGreatDoor
