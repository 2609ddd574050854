/-
  Methods of a scope: what each step does, by what the steps below it do; Methods of a scope: references, keys, conditional expressions.
-/
import Derived.Test.YtbpijgddfaefkaaGreatDoorV10
set_option maxRecDepth 100000
set_option maxHeartbeats 16000000
namespace Go.Proofs.YtbpijgddfaefkaaGreatDoor.pa
open Go.RowKit dec
structure Rd (f:Nat):Prop where
 ex:∀ (B:Nat) (i:Bool) (l:List Tk) (w:World),Ps w B l→pz f i .ex l≠.out→Calls Tryz.prog 46 #[.agg #[.pointer (some ⟨B,0,none⟩),.bool i]] w (Pst B Ev (pz f i .ex l) w)
 ng:∀ (B:Nat) (i:Bool) (l:List Tk) (w:World),Ps w B l→pz f i .ng l≠.out→Calls Tryz.prog 143 #[.agg #[.pointer (some ⟨B,0,none⟩),.bool i]] w (Pst B Ev (pz f i .ng l) w)
 pr:∀ (B:Nat) (i:Bool) (l:List Tk) (w:World),Ps w B l→pz f i .pr l≠.out→Calls Tryz.prog 183 #[.agg #[.pointer (some ⟨B,0,none⟩),.bool i]] w (Pst B Ev (pz f i .pr l) w)
 pa:∀ (B:Nat) (i:Bool) (l:List Tk) (w:World),Ps w B l→pz f i .pa l≠.out→Calls Tryz.prog 220 #[.agg #[.pointer (some ⟨B,0,none⟩),.bool i]] w (Pst B Ev (pz f i .pa l) w)
 ag:∀ (B:Nat) (i:Bool) (l:List Tk) (w:World),Ps w B l→pz f i .ag l≠.out→Calls Tryz.prog 222 #[.agg #[.pointer (some ⟨B,0,none⟩),.bool i]] w (Pst B Ev (pz f i .ag l) w)
 rf:∀ (B:Nat) (i:Bool) (l:List Tk) (w:World),Ps w B l→pz f i .rf l≠.out→Calls Tryz.prog 223 #[.agg #[.pointer (some ⟨B,0,none⟩),.bool i]] w (Pst B Ev (pz f i .rf l) w)
 op:∀ (B:Nat) (i:Bool) (n:Nat) (l:List Tk) (w:World),n≤6→Ps w B l→pz f i (.op n) l≠.out→Calls Tryz.prog 89 #[.agg #[.pointer (some ⟨B,0,none⟩),.bool i],.int .i64 (n:Nat)] w (Pst B Ev (pz f i (.op n) l) w)
theorem H8 (f:Nat) (R:Rd f) (B:Nat) (i:Bool) (l:List Tk) (w:World) (h:Ps w B l) (r:Rs Ex) (hr:pz (f+1) i .ng l=r) (hne:r≠.out) :
  Calls Tryz.prog 143 #[.agg #[.pointer (some ⟨B,0,none⟩),.bool i]] w (Pst B Ev r w):=by
 have P:=Hy (h.keeps (aj (aj (b0 w) (.cells #[.pointer (some ⟨B,0,none⟩),.bool i] 99)) (.cells zE 43)))
 have F:=Hy (Fr.start i h.lt)
 have NE:=Hy hne
 simp only [pz] at hr
 have HR:=Hy hr
 clear h hne hr
 cases ht:isT ⟨#[45]⟩ l
 ·replace HR:=HR.o
  rw [ht,if_neg (by decide),← iF (pz f i .pr l)] at HR
  replace HR:=Hy HR
  have HT:=Hy ht
  clear ht
  go_enter Tryz.func143,Tryz.ntmps143
  go_wp2_with fail
  refine (aN B ⟨#[45]⟩ l _ P.o HT.o).mono ?_
  rintro e w1 ⟨rfl,pp,mm⟩
  replace F:=Hy (F.o.next mm)
  replace P:=Hy pp
  clear pp mm
  have e0:=F.o.c0
  have e1:=F.o.c1
  go_wp2_with fail
  have hF:=Hy F.o.lt
  refine (R.pr B i l _ P.o (bF (by rw [HR.o];exact NE.o))).mono ?_
  rintro e w2 h2
  rcases hG2:pz f i .pr l with _ | ⟨v2,l2⟩ | ⟨a2,c2,l2⟩
  ·exact absurd (by rw [← HR.o,hG2];rfl) NE.o
  rotate_left
  ·rw [hG2] at h2
   obtain ⟨rfl,pp,mm⟩:=h2
   unfold thr
   have hno:=Hy (show r=.no a2 c2 l2 by rw [← HR.o,hG2];rfl)
   have PP:=Hy pp
   have MM:=Hy ((F.o.next mm).mv)
   clear pp mm hG2 e0 e1
   go_wp2_with fail
   exact ⟨rfl,aI hno.o PP.o MM.o⟩
  rw [hG2] at h2
  obtain ⟨u2,rfl,vv,pp,mm⟩:=h2
  replace HR:=HR.o
  rw [hG2] at HR
  simp only [aC] at HR
  replace HR:=Hy HR
  replace F:=Hy (F.o.next mm)
  replace P:=Hy pp
  clear pp mm hG2
  have V2:=Hy vv
  clear vv
  clear e0 e1
  obtain ⟨ua2,uc2,aa2,ac2,rfl,E2⟩:=V2.o
  replace E2:=Hy (Ec.less E2 hF.o)
  clear V2 hF
  go_wp2_with (refine aP (.tmp 2) (.tmp 10) rfl rfl _ _ _ _ rfl rfl F.o.rz rfl rfl (aG _ _ _ _ _) ?_;intro w9 hb9 hs9)
  have F9:=F.o.set hs9 hb9
  have P9:=P.o.st hs9 (Nat.lt_succ_of_lt F.o.hB)
  refine aF rfl _ _ _ _ _ rfl hb9 rfl ?_
  exact aQ HR.o.symm ⟨ua2,uc2,aa2,ac2,rfl,(E2.o.kp (hs9.kp (by omega))).less (by omega)⟩ P9 F9.mv
 ·replace HR:=HR.o
  rw [ht,if_pos rfl] at HR
  replace HR:=Hy HR
  have HT:=Hy ht
  clear ht
  go_enter Tryz.func143,Tryz.ntmps143
  go_wp2_with fail
  refine (aY B ⟨#[45]⟩ l _ P.o HT.o).mono ?_
  rintro e w1 ⟨rfl,pp,mm⟩
  replace F:=Hy (F.o.next mm)
  replace P:=Hy pp
  clear pp mm
  have e0:=F.o.c0
  have e1:=F.o.c1
  go_wp2_with fail
  have hF:=Hy F.o.lt
  refine (R.ng B i l.tail _ P.o (bF (by rw [HR.o];exact NE.o))).mono ?_
  rintro e w2 h2
  rcases hG2:pz f i .ng l.tail with _ | ⟨v2,l2⟩ | ⟨a2,c2,l2⟩
  ·exact absurd (by rw [← HR.o,hG2];rfl) NE.o
  rotate_left
  ·rw [hG2] at h2
   obtain ⟨rfl,pp,mm⟩:=h2
   unfold thr
   have hno:=Hy (show r=.no a2 c2 l2 by rw [← HR.o,hG2];rfl)
   have PP:=Hy pp
   have MM:=Hy ((F.o.next mm).mv)
   clear pp mm hG2 e0 e1
   go_wp2_with fail
   exact ⟨rfl,aI hno.o PP.o MM.o⟩
  rw [hG2] at h2
  obtain ⟨u2,rfl,vv,pp,mm⟩:=h2
  replace HR:=HR.o
  rw [hG2] at HR
  simp only [aC] at HR
  replace HR:=Hy HR
  replace F:=Hy (F.o.next mm)
  replace P:=Hy pp
  clear pp mm hG2
  have V2:=Hy vv
  clear vv
  clear e0 e1
  obtain ⟨ua2,uc2,aa2,ac2,rfl,E2⟩:=V2.o
  replace E2:=Hy (Ec.less E2 hF.o)
  clear V2 hF
  go_wp2_with fail
  have hC:=Hy F.o.lt
  refine (mJ ⟨#[45]⟩ v2 ua2 uc2 aa2 ac2 (w.heap.size+2) w2 E2.o hC.o).mono ?_
  rintro e wU ⟨aaU,acU,rfl,EU,bb⟩
  replace EU:=Hy EU
  replace F:=Hy (F.o.bn bb)
  replace P:=Hy (P.o.keeps bb)
  clear bb
  go_wp2_with (refine aP (.tmp 2) (.tmp 8) rfl rfl _ _ _ _ rfl rfl F.o.rz rfl rfl (aG _ _ _ _ _) ?_;intro w9 hb9 hs9)
  have F9:=F.o.set hs9 hb9
  have P9:=P.o.st hs9 (Nat.lt_succ_of_lt F.o.hB)
  refine aF rfl _ _ _ _ _ rfl hb9 rfl ?_
  exact aQ HR.o.symm ⟨none,0,aaU,acU,rfl,(EU.o.kp (hs9.kp (by omega))).less (by omega)⟩ P9 F9.mv
theorem G9 (f:Nat) (R:Rd f) (B:Nat) (i:Bool) (l:List Tk) (w:World) (h:Ps w B l) (r:Rs Ex) (hr:pz (f+1) i .pa l=r) (hne:r≠.out) :
  Calls Tryz.prog 220 #[.agg #[.pointer (some ⟨B,0,none⟩),.bool i]] w (Pst B Ev r w):=by
 have P:=Hy (h.keeps (aj (aj (b0 w) (.cells #[.pointer (some ⟨B,0,none⟩),.bool i] 99)) (.cells zE 43)))
 have F:=Hy (Fr.start i h.lt)
 have NE:=Hy hne
 simp only [pz] at hr
 have HR:=Hy hr
 clear h hne hr
 go_enter Tryz.func220,Tryz.ntmps220
 go_wp2_with fail
 have hF:=Hy F.o.lt
 refine (aZ B ⟨#[40]⟩ l _ P.o).mono ?_
 rintro e w1 h1
 rcases hG1:need ⟨#[40]⟩ l with _ | ⟨v1,l1⟩ | ⟨a1,c1,l1⟩
 ·exact absurd (by rw [← HR.o,hG1];rfl) NE.o
 rotate_left
 ·rw [hG1] at h1
  obtain ⟨rfl,pp,mm⟩:=h1
  unfold thr
  have hno:=Hy (show r=.no a1 c1 l1 by rw [← HR.o,hG1];rfl)
  have PP:=Hy pp
  have MM:=Hy ((F.o.next mm).mv)
  clear pp mm hG1
  go_wp2_with fail
  exact ⟨rfl,aI hno.o PP.o MM.o⟩
 rw [hG1] at h1
 obtain ⟨u1,rfl,vv,pp,mm⟩:=h1
 replace HR:=HR.o
 rw [hG1] at HR
 simp only [aC] at HR
 replace HR:=Hy HR
 replace F:=Hy (F.o.next mm)
 replace P:=Hy pp
 clear pp mm hG1
 obtain rfl:u1=.tuple #[]:=vv
 clear hF
 have e0:=F.o.c0
 have e1:=F.o.c1
 go_wp2_with fail
 have hF:=Hy F.o.lt
 refine (R.ex B i l1 _ P.o (bF (by rw [HR.o];exact NE.o))).mono ?_
 rintro e w2 h2
 rcases hG2:pz f i .ex l1 with _ | ⟨v2,l2⟩ | ⟨a2,c2,l2⟩
 ·exact absurd (by rw [← HR.o,hG2];rfl) NE.o
 rotate_left
 ·rw [hG2] at h2
  obtain ⟨rfl,pp,mm⟩:=h2
  unfold thr
  have hno:=Hy (show r=.no a2 c2 l2 by rw [← HR.o,hG2];rfl)
  have PP:=Hy pp
  have MM:=Hy ((F.o.next mm).mv)
  clear pp mm hG2 e0 e1
  go_wp2_with fail
  exact ⟨rfl,aI hno.o PP.o MM.o⟩
 rw [hG2] at h2
 obtain ⟨u2,rfl,vv,pp,mm⟩:=h2
 replace HR:=HR.o
 rw [hG2] at HR
 simp only [aC] at HR
 replace HR:=Hy HR
 replace F:=Hy (F.o.next mm)
 replace P:=Hy pp
 clear pp mm hG2
 have V2:=Hy vv
 clear vv
 clear e0 e1
 obtain ⟨ua2,uc2,aa2,ac2,rfl,E2⟩:=V2.o
 replace E2:=Hy (Ec.less E2 hF.o)
 clear V2 hF
 go_wp2_with (refine aP (.tmp 3) (.tmp 8) rfl rfl _ _ _ _ rfl rfl (Blk.new _ _ _) rfl rfl (aG _ _ _ _ _) ?_;intro w2L L3 hs;have bb:=(aj (b0 w2) _).trans (hs.below (Nat.le_refl _));replace L3:=Hy L3;have gB3:=Hy (show B<w2.heap.size from by have:=F.o.lt;have:=F.o.hB;omega);have gF3:=Hy F.o.lt;replace F:=Hy (F.o.bn bb);replace E2:=Hy (E2.o.kp (aK bb));replace P:=Hy (P.o.keeps bb);clear bb hs;have e0:=F.o.c0;have e1:=F.o.c1)
 have hF:=Hy F.o.lt
 refine (aZ B ⟨#[41]⟩ l2 _ P.o).mono ?_
 rintro e w3 h3
 rcases hG3:need ⟨#[41]⟩ l2 with _ | ⟨v3,l3⟩ | ⟨a3,c3,l3⟩
 ·exact absurd (by rw [← HR.o,hG3];rfl) NE.o
 rotate_left
 ·rw [hG3] at h3
  obtain ⟨rfl,pp,mm⟩:=h3
  unfold thr
  have hno:=Hy (show r=.no a3 c3 l3 by rw [← HR.o,hG3];rfl)
  have PP:=Hy pp
  have MM:=Hy ((F.o.next mm).mv)
  clear pp mm hG3 e0 e1
  go_wp2_with fail
  exact ⟨rfl,aI hno.o PP.o MM.o⟩
 rw [hG3] at h3
 obtain ⟨u3,rfl,vv,pp,mm⟩:=h3
 replace HR:=HR.o
 rw [hG3] at HR
 simp only [aC] at HR
 replace HR:=Hy HR
 replace F:=Hy (F.o.next mm)
 replace E2:=Hy (E2.o.kp (mm.kp (Nat.lt_of_lt_of_le F.o.hB (Nat.le_add_right _ 2))))
 replace L3:=Hy (L3.o.mv mm (by have:=gB3.o;omega) L3.o.lt)
 replace P:=Hy pp
 clear pp mm hG3
 obtain rfl:u3=.tuple #[]:=vv
 clear e0 e1
 clear hF
 go_wp2_with (first | (refine bg (.tmp 3) rfl rfl _ _ _ rfl L3.o rfl ?_) | (refine aP (.tmp 2) (.tmp 12) rfl rfl _ _ _ _ rfl rfl F.o.rz rfl rfl (aG _ _ _ _ _) ?_;intro w9 hb9 hs9))
 have F9:=F.o.set hs9 hb9
 have P9:=P.o.st hs9 (Nat.lt_succ_of_lt F.o.hB)
 refine aF rfl _ _ _ _ _ rfl hb9 rfl ?_
 exact aQ HR.o.symm ⟨ua2,uc2,aa2,ac2,rfl,(E2.o.kp (hs9.kp (by omega))).less (by omega)⟩ P9 F9.mv
theorem St.trans {g:Nat} {a b c:World} (h:St g a b) (k:St g b c):St g a c:=⟨k.os.trans h.os,k.tape.trans h.tape,k.output.trans h.output,k.size.trans h.size,fun i hi=>(k.block i hi).trans (h.block i hi)⟩
theorem GI (f:Nat) (R:Rd f) (B:Nat) (i:Bool) (l:List Tk) (w:World) (h:Ps w B l) (r:Rs Ex) (hr:pz (f+1) i .rf l=r) (hne:r≠.out) :
  Calls Tryz.prog 223 #[.agg #[.pointer (some ⟨B,0,none⟩),.bool i]] w (Pst B Ev r w):=by
 have P:=Hy (h.keeps (aj (aj (b0 w) (.cells #[.pointer (some ⟨B,0,none⟩),.bool i] 99)) (.cells zE 43)))
 have F:=Hy (Fr.start i h.lt)
 have NE:=Hy hne
 simp only [pz] at hr
 have HR:=Hy hr
 clear h hne hr
 go_enter Tryz.func223,Tryz.ntmps223
 go_wp2_with fail
 have hF:=Hy F.o.lt
 refine (jO B l _ P.o _ rfl (dJ _)).mono ?_
 rintro e w1 h1
 rcases hG1:nam l with _ | ⟨v1,l1⟩ | ⟨a1,c1,l1⟩
 ·exact absurd (by rw [← HR.o,hG1];rfl) NE.o
 rotate_left
 ·rw [hG1] at h1
  obtain ⟨rfl,pp,mm⟩:=h1
  unfold thr
  have hno:=Hy (show r=.no a1 c1 l1 by rw [← HR.o,hG1];rfl)
  have PP:=Hy pp
  have MM:=Hy ((F.o.next mm).mv)
  clear pp mm hG1
  go_wp2_with fail
  exact ⟨rfl,aI hno.o PP.o MM.o⟩
 rw [hG1] at h1
 obtain ⟨u1,rfl,vv,pp,mm⟩:=h1
 replace HR:=HR.o
 rw [hG1] at HR
 simp only [aC] at HR
 replace HR:=Hy HR
 replace F:=Hy (F.o.next mm)
 replace P:=Hy pp
 clear pp mm hG1
 obtain rfl:u1=.string v1:=vv
 clear hF
 cases ht:isT ⟨#[111,102]⟩ l1
 ·replace HR:=HR.o
  rw [ht,if_neg (by decide)] at HR
  replace HR:=Hy HR
  have HT:=Hy ht
  clear ht
  have e0:=F.o.c0
  have e1:=F.o.c1
  go_wp2_with fail
  refine (aN B ⟨#[111,102]⟩ l1 _ P.o HT.o).mono ?_
  rintro e w2 ⟨rfl,pp,mm⟩
  replace F:=Hy (F.o.next mm)
  replace P:=Hy pp
  clear pp mm
  clear e0 e1
  go_wp2_with (refine aP (.tmp 2) (.tmp 16) rfl rfl _ _ _ _ rfl rfl F.o.rz rfl rfl (by simp [Value.oneCell']) ?_;intro w9 hb9 hs9)
  have F9:=F.o.set hs9 hb9
  have P9:=P.o.st hs9 (Nat.lt_succ_of_lt F.o.hB)
  refine aF rfl _ _ _ _ _ rfl hb9 rfl ?_
  exact aQ HR.o.symm ⟨none,0,none,0,rfl,⟨.inl rfl,.inl rfl⟩⟩ P9 F9.mv
 ·replace HR:=HR.o
  rw [ht,if_pos rfl] at HR
  replace HR:=Hy HR
  have HT:=Hy ht
  clear ht
  have e0:=F.o.c0
  have e1:=F.o.c1
  go_wp2_with fail
  refine (aY B ⟨#[111,102]⟩ l1 _ P.o HT.o).mono ?_
  rintro e w2 ⟨rfl,pp,mm⟩
  replace F:=Hy (F.o.next mm)
  replace P:=Hy pp
  clear pp mm
  clear e0 e1
  have e0:=F.o.c0
  have e1:=F.o.c1
  go_wp2_with fail
  have hF:=Hy F.o.lt
  refine (R.pa B i l1.tail _ P.o (bF (by rw [HR.o];exact NE.o))).mono ?_
  rintro e w3 h3
  rcases hG3:pz f i .pa l1.tail with _ | ⟨v3,l3⟩ | ⟨a3,c3,l3⟩
  ·exact absurd (by rw [← HR.o,hG3];rfl) NE.o
  rotate_left
  ·rw [hG3] at h3
   obtain ⟨rfl,pp,mm⟩:=h3
   unfold thr
   have hno:=Hy (show r=.no a3 c3 l3 by rw [← HR.o,hG3];rfl)
   have PP:=Hy pp
   have MM:=Hy ((F.o.next mm).mv)
   clear pp mm hG3 e0 e1
   go_wp2_with fail
   exact ⟨rfl,aI hno.o PP.o MM.o⟩
  rw [hG3] at h3
  obtain ⟨u3,rfl,vv,pp,mm⟩:=h3
  replace HR:=HR.o
  rw [hG3] at HR
  simp only [aC] at HR
  replace HR:=Hy HR
  replace F:=Hy (F.o.next mm)
  replace P:=Hy pp
  clear pp mm hG3
  have V3:=Hy vv
  clear vv
  clear e0 e1
  obtain ⟨ua3,uc3,aa3,ac3,rfl,E3⟩:=V3.o
  replace E3:=Hy (Ec.less E3 hF.o)
  clear V3 hF
  simp only [exC]
  go_wp2_with (refine aP (.tmp 2) (.tmp 14) rfl rfl _ _ _ _ rfl rfl (F.o.alloc _).rz rfl rfl (by simp [Value.oneCell']) ?_;intro w9 hb9 hs9)
  have hB:=Blk.new w3 43 (ex1 v3 ua3 uc3 aa3 ac3)
  have bb:=aj (b0 w3) (.cells (ex1 v3 ua3 uc3 aa3 ac3) 43)
  have F9:=(F.o.alloc (.cells (ex1 v3 ua3 uc3 aa3 ac3) 43)).set hs9 hb9
  have P9:=(P.o.keeps bb).st hs9 (Nat.lt_succ_of_lt F.o.hB)
  have A9:=((rR hB (E3.o.kp (aK bb)) F.o.lt).kp (hs9.kp (by omega))).less (show w.heap.size≤w.heap.size+2 by omega)
  refine aF rfl _ _ _ _ _ rfl hb9 rfl ?_
  exact aQ HR.o.symm ⟨none,0,some ⟨w3.heap.size,0,none⟩,1,rfl,⟨.inl rfl,A9⟩⟩ P9 F9.mv
theorem LX (B:Nat) (i:Bool) (l:List Tk) (w:World) (h:Ps w B l) (r:Rs Ex) (hr:key l=r) (hne:r≠.out) :
  Calls Tryz.prog 219 #[.agg #[.pointer (some ⟨B,0,none⟩),.bool i]] w (Pst B Ev r w):=by
 have P:=Hy (h.keeps (aj (aj (b0 w) (.cells #[.pointer (some ⟨B,0,none⟩),.bool i] 99)) (.cells zE 43)))
 have F:=Hy (Fr.start i h.lt)
 have NE:=Hy hne
 have F2:=fH
 unfold key at hr
 have HR:=Hy hr
 clear h hne hr
 go_enter Tryz.func219,Tryz.ntmps219
 go_wp2_with fail
 have hF:=Hy F.o.lt
 refine (gV B ⟨#[64]⟩ l _ P.o _ rfl (gT _ _)).mono ?_
 rintro e w1 h1
 rcases hG1:nma ⟨#[64]⟩ l with _ | ⟨v1,l1⟩ | ⟨a1,c1,l1⟩
 ·exact absurd (by rw [← HR.o,hG1];rfl) NE.o
 rotate_left
 ·rw [hG1] at h1
  obtain ⟨rfl,pp,mm⟩:=h1
  unfold thr
  have hno:=Hy (show r=.no a1 c1 l1 by rw [← HR.o,hG1];rfl)
  have PP:=Hy pp
  have MM:=Hy ((F.o.next mm).mv)
  clear pp mm hG1
  go_wp2_with fail
  exact ⟨rfl,aI hno.o PP.o MM.o⟩
 rw [hG1] at h1
 obtain ⟨u1,rfl,vv,pp,mm⟩:=h1
 replace HR:=HR.o
 rw [hG1] at HR
 simp only [aC] at HR
 replace HR:=Hy HR
 replace F:=Hy (F.o.next mm)
 replace P:=Hy pp
 clear pp mm hG1
 obtain rfl:u1=.string v1:=vv
 clear hF
 have bb:=aj (b0 w1) (.cells #[.int .i64 1,.string ⟨#[]⟩,.string v1,.string ⟨#[]⟩,.int .i64 0,.int .i64 0,.string ⟨#[]⟩,.slice none 0 0,.int .i64 0,.int .i64 0,.int .i64 0,.slice none 0 0] 43)
 have L3:=Hy (Blk.new w1 43 #[.int .i64 1,.string ⟨#[]⟩,.string v1,.string ⟨#[]⟩,.int .i64 0,.int .i64 0,.string ⟨#[]⟩,.slice none 0 0,.int .i64 0,.int .i64 0,.int .i64 0,.slice none 0 0])
 have gB3:=Hy (show w.heap.size+1<w1.heap.size from by have:=F.o.lt;omega)
 replace F:=Hy (F.o.bn bb)
 replace P:=Hy (P.o.keeps bb)
 clear bb
 have C1:=Hy (dV B l1 _ P.o)
 have F1:=tf2
 have e0:=F.o.c0
 have e1:=F.o.c1
 have SZ:=Hy (fun v l2=>oq (k:=4) (l:=l1) (v:=v) (r:=l2) P.o.tl)
 generalize (hd l1).k=xk at *
 generalize (hd l1).t=xt at *
 generalize (hd l1).a=xa at *
 go_wp2_with fail
 refine (C1.o).mono ?_
 rintro e w2 ⟨rfl,b⟩
 have mm:=Mv.of (B:=B) b
 replace F:=Hy (F.o.next mm)
 replace L3:=Hy (L3.o.mv mm (by have:=gB3.o;have:=F.o.hB;omega) L3.o.lt)
 replace P:=Hy (P.o.keeps b)
 clear mm b
 clear e0 e1
 have e0:=F.o.c0
 have e1:=F.o.c1
 go_wp2_with fail
 clear C1 F1
 have hF:=Hy F.o.lt
 refine (iV B 4 (by decide) l1 _ P.o).mono ?_
 rintro e w3 h3
 rcases hG3:tak 4 l1 with _ | ⟨v3,l3⟩ | ⟨a3,c3,l3⟩
 ·exact absurd (by rw [← HR.o,hG3];rfl) NE.o
 rotate_left
 ·rw [hG3] at h3
  obtain ⟨rfl,pp,mm⟩:=h3
  unfold thr
  have hno:=Hy (show r=.no a3 c3 l3 by rw [← HR.o,hG3];rfl)
  have PP:=Hy pp
  have MM:=Hy ((F.o.next mm).mv)
  clear pp mm hG3 e0 e1
  go_wp2_with fail
  exact ⟨rfl,aI hno.o PP.o MM.o⟩
 rw [hG3] at h3
 obtain ⟨u3,rfl,vv,pp,mm⟩:=h3
 replace HR:=HR.o
 rw [hG3] at HR
 simp only [aC] at HR
 replace HR:=Hy HR
 replace F:=Hy (F.o.next mm)
 replace L3:=Hy (L3.o.mv mm (by have:=gB3.o;have:=F.o.hB;omega) L3.o.lt)
 replace P:=Hy pp
 have hsz:=Hy (SZ.o _ _ hG3)
 clear pp mm hG3
 obtain rfl:u3=.string v3:=vv
 clear e0 e1
 clear hF
 have c4:=L3.o.cell 4
 have c5:=L3.o.cell 5
 have c6:=L3.o.cell 6
 have z4:=L3.o.free 4
 have z5:=L3.o.free 5
 have z6:=L3.o.free 6
 have k4:=L3.o.setCell 4 (.int .i64 5)
 have k5:=k4.1.setCell 5 (.int .i64 0)
 have k6:=k5.1.setCell 6 (.string v3)
 have S6:=Hy (St.trans (St.trans k4.2 k5.2) k6.2)
 have L6:=Hy (show Blk _ w1.heap.size 43 (exC (iB v1 v3) none 0 none 0) from k6.1)
 clear k4 k5 k6
 go_wp2_with fail
 replace P:=Hy (P.o.st S6.o (by have:=gB3.o;have:=F.o.hB;omega))
 replace F:=Hy (F.o.st S6.o gB3.o)
 clear c4 c5 c6 z4 z5 z6 S6 L3
 generalize ((w3.setCell ⟨w1.heap.size,4,none⟩ (.int .i64 5)).setCell ⟨w1.heap.size,5,none⟩ (.int .i64 0)).setCell ⟨w1.heap.size,6,none⟩ (.string v3)=w4 at *
 generalize w1.heap.size=g3 at *
 refine (nD 5 0 v3 hsz.o w4).mono ?_
 rintro e w5 ⟨rfl,bb⟩
 replace F:=Hy (F.o.bn bb)
 replace P:=Hy (P.o.keeps bb)
 replace L6:=Hy (L6.o.below bb L6.o.lt)
 clear bb
 by_cases hk:ck ⟨5,0,v3⟩=0
 ·have q1:(ck ⟨5,0,v3⟩ != 0)=false:=by simp [hk]
  replace HR:=HR.o
  rw [if_pos hk] at HR
  replace HR:=Hy HR
  clear hk
  generalize ck ⟨5,0,v3⟩=ce at *
  go_wp2_with (first | (refine bg (.tmp 3) rfl rfl _ _ _ rfl L6.o rfl ?_) | (refine aP (.tmp 2) (.tmp 25) rfl rfl _ _ _ _ rfl rfl F.o.rz rfl rfl (aG _ _ _ _ _) ?_;intro w9 hb9 hs9))
  have F9:=F.o.set hs9 hb9
  have P9:=P.o.st hs9 (Nat.lt_succ_of_lt F.o.hB)
  refine aF rfl _ _ _ _ _ rfl hb9 rfl ?_
  exact aQ HR.o.symm ⟨none,0,none,0,rfl,⟨.inl rfl,.inl rfl⟩⟩ P9 F9.mv
 ·have q1:(ck ⟨5,0,v3⟩ != 0)=true:=by simp [hk]
  replace HR:=HR.o
  rw [if_neg hk] at HR
  replace HR:=Hy HR
  clear hk
  generalize ck ⟨5,0,v3⟩=ce at *
  go_wp2_with fail
  exact ⟨rfl,aI HR.o.symm P.o F.o.mv⟩
theorem I6 (f:Nat) (R:Rd f) (B:Nat) (i:Bool) (l:List Tk) (w:World) (h:Ps w B l) (r:Rs Ex) (hr:pz (f+1) i .ex l=r) (hne:r≠.out) :
  Calls Tryz.prog 46 #[.agg #[.pointer (some ⟨B,0,none⟩),.bool i]] w (Pst B Ev r w):=by
 have P:=Hy (h.keeps (aj (aj (b0 w) (.cells #[.pointer (some ⟨B,0,none⟩),.bool i] 99)) (.cells zE 43)))
 have F:=Hy (Fr.start i h.lt)
 have NE:=Hy hne
 simp only [pz] at hr
 have HR:=Hy hr
 clear h hne hr
 cases ht:isT ⟨#[105,102]⟩ l
 ·replace HR:=HR.o
  rw [ht,if_neg (by decide),← iF (pz f i (.op 0) l)] at HR
  replace HR:=Hy HR
  have HT:=Hy ht
  clear ht
  go_enter Tryz.func46,Tryz.ntmps46
  go_wp2_with fail
  refine (aN B ⟨#[105,102]⟩ l _ P.o HT.o).mono ?_
  rintro e w1 ⟨rfl,pp,mm⟩
  replace F:=Hy (F.o.next mm)
  replace P:=Hy pp
  clear pp mm
  have e0:=F.o.c0
  have e1:=F.o.c1
  go_wp2_with fail
  have hF:=Hy F.o.lt
  refine (R.op B i 0 l _ (Nat.zero_le _) P.o (bF (by rw [HR.o];exact NE.o))).mono ?_
  rintro e w2 h2
  rcases hG2:pz f i (.op 0) l with _ | ⟨v2,l2⟩ | ⟨a2,c2,l2⟩
  ·exact absurd (by rw [← HR.o,hG2];rfl) NE.o
  rotate_left
  ·rw [hG2] at h2
   obtain ⟨rfl,pp,mm⟩:=h2
   unfold thr
   have hno:=Hy (show r=.no a2 c2 l2 by rw [← HR.o,hG2];rfl)
   have PP:=Hy pp
   have MM:=Hy ((F.o.next mm).mv)
   clear pp mm hG2 e0 e1
   go_wp2_with fail
   exact ⟨rfl,aI hno.o PP.o MM.o⟩
  rw [hG2] at h2
  obtain ⟨u2,rfl,vv,pp,mm⟩:=h2
  replace HR:=HR.o
  rw [hG2] at HR
  simp only [aC] at HR
  replace HR:=Hy HR
  replace F:=Hy (F.o.next mm)
  replace P:=Hy pp
  clear pp mm hG2
  have V2:=Hy vv
  clear vv
  clear e0 e1
  obtain ⟨ua2,uc2,aa2,ac2,rfl,E2⟩:=V2.o
  replace E2:=Hy (Ec.less E2 hF.o)
  clear V2 hF
  go_wp2_with (refine aP (.tmp 2) (.tmp 10) rfl rfl _ _ _ _ rfl rfl F.o.rz rfl rfl (aG _ _ _ _ _) ?_;intro w9 hb9 hs9)
  have F9:=F.o.set hs9 hb9
  have P9:=P.o.st hs9 (Nat.lt_succ_of_lt F.o.hB)
  refine aF rfl _ _ _ _ _ rfl hb9 rfl ?_
  exact aQ HR.o.symm ⟨ua2,uc2,aa2,ac2,rfl,(E2.o.kp (hs9.kp (by omega))).less (by omega)⟩ P9 F9.mv
 ·replace HR:=HR.o
  rw [ht,if_pos rfl] at HR
  replace HR:=Hy HR
  have HT:=Hy ht
  clear ht
  go_enter Tryz.func46,Tryz.ntmps46
  go_wp2_with fail
  refine (aY B ⟨#[105,102]⟩ l _ P.o HT.o).mono ?_
  rintro e w1 ⟨rfl,pp,mm⟩
  replace F:=Hy (F.o.next mm)
  replace P:=Hy pp
  clear pp mm
  have e0:=F.o.c0
  have e1:=F.o.c1
  go_wp2_with fail
  have hF:=Hy F.o.lt
  refine (R.ex B i l.tail _ P.o (bF (by rw [HR.o];exact NE.o))).mono ?_
  rintro e w2 h2
  rcases hG2:pz f i .ex l.tail with _ | ⟨v2,l2⟩ | ⟨a2,c2,l2⟩
  ·exact absurd (by rw [← HR.o,hG2];rfl) NE.o
  rotate_left
  ·rw [hG2] at h2
   obtain ⟨rfl,pp,mm⟩:=h2
   unfold thr
   have hno:=Hy (show r=.no a2 c2 l2 by rw [← HR.o,hG2];rfl)
   have PP:=Hy pp
   have MM:=Hy ((F.o.next mm).mv)
   clear pp mm hG2 e0 e1
   go_wp2_with fail
   exact ⟨rfl,aI hno.o PP.o MM.o⟩
  rw [hG2] at h2
  obtain ⟨u2,rfl,vv,pp,mm⟩:=h2
  replace HR:=HR.o
  rw [hG2] at HR
  simp only [aC] at HR
  replace HR:=Hy HR
  replace F:=Hy (F.o.next mm)
  replace P:=Hy pp
  clear pp mm hG2
  have V2:=Hy vv
  clear vv
  clear e0 e1
  obtain ⟨ua2,uc2,aa2,ac2,rfl,E2⟩:=V2.o
  replace E2:=Hy (Ec.less E2 hF.o)
  clear V2 hF
  go_wp2_with (refine aP (.tmp 3) (.tmp 12) rfl rfl _ _ _ _ rfl rfl (Blk.new _ _ _) rfl rfl (aG _ _ _ _ _) ?_;intro w2L L3 hs;have bb:=(aj (b0 w2) _).trans (hs.below (Nat.le_refl _));replace L3:=Hy L3;have gB3:=Hy (show B<w2.heap.size from by have:=F.o.lt;have:=F.o.hB;omega);have gF3:=Hy F.o.lt;replace F:=Hy (F.o.bn bb);replace E2:=Hy (E2.o.kp (aK bb));replace P:=Hy (P.o.keeps bb);clear bb hs;have e0:=F.o.c0;have e1:=F.o.c1)
  have hF:=Hy F.o.lt
  refine (aZ B ⟨#[116,104,101,110]⟩ l2 _ P.o).mono ?_
  rintro e w3 h3
  rcases hG3:need ⟨#[116,104,101,110]⟩ l2 with _ | ⟨v3,l3⟩ | ⟨a3,c3,l3⟩
  ·exact absurd (by rw [← HR.o,hG3];rfl) NE.o
  rotate_left
  ·rw [hG3] at h3
   obtain ⟨rfl,pp,mm⟩:=h3
   unfold thr
   have hno:=Hy (show r=.no a3 c3 l3 by rw [← HR.o,hG3];rfl)
   have PP:=Hy pp
   have MM:=Hy ((F.o.next mm).mv)
   clear pp mm hG3 e0 e1
   go_wp2_with fail
   exact ⟨rfl,aI hno.o PP.o MM.o⟩
  rw [hG3] at h3
  obtain ⟨u3,rfl,vv,pp,mm⟩:=h3
  replace HR:=HR.o
  rw [hG3] at HR
  simp only [aC] at HR
  replace HR:=Hy HR
  replace F:=Hy (F.o.next mm)
  replace E2:=Hy (E2.o.kp (mm.kp (Nat.lt_of_lt_of_le F.o.hB (Nat.le_add_right _ 2))))
  replace L3:=Hy (L3.o.mv mm (by have:=gB3.o;omega) L3.o.lt)
  replace P:=Hy pp
  clear pp mm hG3
  obtain rfl:u3=.tuple #[]:=vv
  clear e0 e1
  clear hF
  have e0:=F.o.c0
  have e1:=F.o.c1
  go_wp2_with fail
  have hF:=Hy F.o.lt
  refine (R.ex B i l3 _ P.o (bF (by rw [HR.o];exact NE.o))).mono ?_
  rintro e w4 h4
  rcases hG4:pz f i .ex l3 with _ | ⟨v4,l4⟩ | ⟨a4,c4,l4⟩
  ·exact absurd (by rw [← HR.o,hG4];rfl) NE.o
  rotate_left
  ·rw [hG4] at h4
   obtain ⟨rfl,pp,mm⟩:=h4
   unfold thr
   have hno:=Hy (show r=.no a4 c4 l4 by rw [← HR.o,hG4];rfl)
   have PP:=Hy pp
   have MM:=Hy ((F.o.next mm).mv)
   clear pp mm hG4 e0 e1
   go_wp2_with fail
   exact ⟨rfl,aI hno.o PP.o MM.o⟩
  rw [hG4] at h4
  obtain ⟨u4,rfl,vv,pp,mm⟩:=h4
  replace HR:=HR.o
  rw [hG4] at HR
  simp only [aC] at HR
  replace HR:=Hy HR
  replace F:=Hy (F.o.next mm)
  replace E2:=Hy (E2.o.kp (mm.kp (Nat.lt_of_lt_of_le F.o.hB (Nat.le_add_right _ 2))))
  replace L3:=Hy (L3.o.mv mm (by have:=gB3.o;omega) L3.o.lt)
  replace P:=Hy pp
  clear pp mm hG4
  have V4:=Hy vv
  clear vv
  clear e0 e1
  obtain ⟨ua4,uc4,aa4,ac4,rfl,E4⟩:=V4.o
  replace E4:=Hy (Ec.less E4 hF.o)
  clear V4 hF
  go_wp2_with (refine aP (.tmp 4) (.tmp 17) rfl rfl _ _ _ _ rfl rfl (Blk.new _ _ _) rfl rfl (aG _ _ _ _ _) ?_;intro w4L L4 hs;have bb:=(aj (b0 w4) _).trans (hs.below (Nat.le_refl _));replace L4:=Hy L4;have gB4:=Hy (show B<w4.heap.size from by have:=F.o.lt;have:=F.o.hB;omega);have gF4:=Hy F.o.lt;replace F:=Hy (F.o.bn bb);replace E2:=Hy (E2.o.kp (aK bb));replace L3:=Hy (L3.o.below bb L3.o.lt);replace E4:=Hy (E4.o.kp (aK bb));replace P:=Hy (P.o.keeps bb);clear bb hs;have e0:=F.o.c0;have e1:=F.o.c1)
  have hF:=Hy F.o.lt
  refine (aZ B ⟨#[101,108,115,101]⟩ l4 _ P.o).mono ?_
  rintro e w5 h5
  rcases hG5:need ⟨#[101,108,115,101]⟩ l4 with _ | ⟨v5,l5⟩ | ⟨a5,c5,l5⟩
  ·exact absurd (by rw [← HR.o,hG5];rfl) NE.o
  rotate_left
  ·rw [hG5] at h5
   obtain ⟨rfl,pp,mm⟩:=h5
   unfold thr
   have hno:=Hy (show r=.no a5 c5 l5 by rw [← HR.o,hG5];rfl)
   have PP:=Hy pp
   have MM:=Hy ((F.o.next mm).mv)
   clear pp mm hG5 e0 e1
   go_wp2_with fail
   exact ⟨rfl,aI hno.o PP.o MM.o⟩
  rw [hG5] at h5
  obtain ⟨u5,rfl,vv,pp,mm⟩:=h5
  replace HR:=HR.o
  rw [hG5] at HR
  simp only [aC] at HR
  replace HR:=Hy HR
  replace F:=Hy (F.o.next mm)
  replace E2:=Hy (E2.o.kp (mm.kp (Nat.lt_of_lt_of_le F.o.hB (Nat.le_add_right _ 2))))
  replace L3:=Hy (L3.o.mv mm (by have:=gB3.o;omega) L3.o.lt)
  replace E4:=Hy (E4.o.kp (mm.kp (Nat.lt_of_lt_of_le F.o.hB (Nat.le_add_right _ 2))))
  replace L4:=Hy (L4.o.mv mm (by have:=gB4.o;omega) L4.o.lt)
  replace P:=Hy pp
  clear pp mm hG5
  obtain rfl:u5=.tuple #[]:=vv
  clear e0 e1
  clear hF
  go_wp2_with fail
  have SS:=Hy (show Blk w5.drew w2.heap.size 43 (exC v2 ua2 uc2 aa2 ac2)∧Blk w5.drew w4.heap.size 43 (exC v4 ua4 uc4 aa4 ac4)∧Blk w5.drew w.heap.size 99 #[.pointer (some ⟨B,0,none⟩),.bool i] from ⟨L3.o,L4.o,F.o.sc⟩)
  replace P:=Hy (P.o.keeps (b0 _).drew)
  have MD:=Mv.of (B:=B) (b0 w5).drew
  replace E2:=Hy (E2.o.kp (aK (b0 w5).drew))
  replace E4:=Hy (E4.o.kp (aK (b0 w5).drew))
  replace F:=Hy (F.o.next MD)
  have hg3:=Hy L3.o.lt
  have hg4:=Hy L4.o.lt
  clear MD L3 L4
  refine wp_region_held_drew (S:=fun w' => Blk w' w2.heap.size 43 (exC v2 ua2 uc2 aa2 ac2)∧Blk w' w4.heap.size 43 (exC v4 ua4 uc4 aa4 ac4)∧Blk w' w.heap.size 99 #[.pointer (some ⟨B,0,none⟩),.bool i]) (by kernel_rfl) SS.o (fun hH=>?_)
  clear SS
  refine aA 0 21 (.agg (exC v2 ua2 uc2 aa2 ac2)) rfl (by kernel_rfl) rfl (fun _ _ _ h=>h) rfl hH (fun w' hS=>bC aH Tryz.underlying43 rfl (.tmp 3) rfl _ _ _ rfl hS.1 rfl) ?_
  simp only [List.set_cons_zero,List.set_cons_succ]
  refine aA 1 22 (.agg (exC v4 ua4 uc4 aa4 ac4)) rfl (by kernel_rfl) rfl (fun _ _ _ h=>h) rfl hH (fun w' hS=>bC aH Tryz.underlying43 rfl (.tmp 4) rfl _ _ _ rfl hS.2.1 rfl) ?_
  simp only [List.set_cons_zero,List.set_cons_succ]
  refine aA 2 23 (.agg #[.pointer (some ⟨B,0,none⟩),.bool i]) rfl (by kernel_rfl) rfl (fun _ _ _ h=>h) rfl hH (fun w' hS=>bC qy Tryz.underlying99 rfl (.tmp 1) rfl _ _ _ rfl hS.2.2 rfl) ?_
  simp only [List.set_cons_zero,List.set_cons_succ]
  refine av (i:=3) rfl (by kernel_rfl) rfl (fun K hK=>?_)
  go_simp
  refine (R.ex B i l5 _ P.o (bF (by rw [HR.o];exact NE.o))).mono ?_
  rintro e w6 h6
  rcases hG6:pz f i .ex l5 with _ | ⟨v6,l6⟩ | ⟨a6,c6,l6⟩
  ·exact absurd (by rw [← HR.o,hG6];rfl) NE.o
  rotate_left
  ·rw [hG6] at h6
   obtain ⟨rfl,pp,mm⟩:=h6
   unfold thr
   exact ⟨rfl,aI (by rw [← HR.o,hG6];rfl) pp (F.o.next mm).mv⟩
  rw [hG6] at h6
  obtain ⟨u6,rfl,vv,pp,mm⟩:=h6
  obtain ⟨ua6,uc6,aa6,ac6,rfl,E6⟩:=vv
  have hB:=F.o.hB
  replace E6:=Hy (Ec.less E6 F.o.lt)
  replace HR:=Hy (show Rs.ok (ifE v2 v4 v6) l6=r by rw [← HR.o,hG6];rfl)
  replace E2:=Hy (E2.o.kp (mm.kp (show B<w.heap.size+2 by omega)))
  replace E4:=Hy (E4.o.kp (mm.kp (show B<w.heap.size+2 by omega)))
  replace hH:=And.intro (hH.1.mv mm (by have:=gB3.o;omega) hH.1.lt) (And.intro (hH.2.1.mv mm (by have:=gB4.o;omega) hH.2.1.lt) (hH.2.2.mv mm (by omega) hH.2.2.lt))
  replace F:=Hy (F.o.next mm)
  replace P:=Hy pp
  clear pp mm hG6 hB
  refine hK.o _ _ hH (fun hH=>?_)
  clear hK K
  refine av (i:=4) rfl (by kernel_rfl) rfl (fun K hK=>?_)
  simp only [exC]
  go_simp
  refine hK.o _ _ ⟨hH.1.past _,hH.2.1.past _,hH.2.2.past _⟩ (fun hH=>?_)
  clear hK K
  refine av (i:=5) rfl (by kernel_rfl) rfl (fun K hK=>?_)
  go_simp
  refine hK.o _ _ hH (fun hH=>?_)
  clear hK K
  refine av (i:=6) rfl (by kernel_rfl) rfl (fun K hK=>?_)
  refine bZ (.tmp 2) (.tmp 26) rfl _ _ _ _ rfl rfl (F.o.alloc _).rz rfl rfl (by simp [Value.oneCell']) ?_
  intro w9 hb9 hs9
  have h1:=gF3.o
  have h2:=gF4.o
  refine hK.o _ _ ⟨hH.1.st hs9 (by omega),hH.2.1.st hs9 (by omega),hH.2.2.st hs9 (by omega)⟩ (fun hH=>?_)
  clear hK K
  have hB:=Blk.new w6 43 (ex3 v2 ua2 uc2 aa2 ac2 v4 ua4 uc4 aa4 ac4 v6 ua6 uc6 aa6 ac6)
  have bb:=aj (b0 w6) (.cells (ex3 v2 ua2 uc2 aa2 ac2 v4 ua4 uc4 aa4 ac4 v6 ua6 uc6 aa6 ac6) 43)
  have F9:=Hy ((F.o.alloc (.cells (ex3 v2 ua2 uc2 aa2 ac2 v4 ua4 uc4 aa4 ac4 v6 ua6 uc6 aa6 ac6) 43)).set hs9 hb9)
  have P9:=Hy ((P.o.keeps bb).st hs9 (Nat.lt_succ_of_lt F.o.hB))
  have A9:=Hy (((KP hB (E2.o.kp (aK bb)) (E4.o.kp (aK bb)) (E6.o.kp (aK bb)) F.o.lt).kp (hs9.kp (by omega))).less (show w.heap.size≤w.heap.size+2 by omega))
  replace hb9:=Hy hb9
  clear hB bb hs9 hH h1 h2
  refine wpAnyH_done (by kernel_rfl) ?_ _
  go_wp2_with fail
  refine aF rfl _ _ _ _ _ rfl hb9.o rfl ?_
  exact aQ HR.o.symm ⟨none,0,some ⟨w6.heap.size,0,none⟩,3,rfl,⟨.inl rfl,A9.o⟩⟩ P9.o F9.o.mv
end Go.Proofs.YtbpijgddfaefkaaGreatDoor.pa
