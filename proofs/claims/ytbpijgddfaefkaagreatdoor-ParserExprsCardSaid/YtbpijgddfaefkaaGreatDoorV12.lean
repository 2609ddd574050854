/-
  Methods of a scope: what begins an expression.
-/
import Derived.Test.YtbpijgddfaefkaaGreatDoorV11
set_option maxRecDepth 100000
set_option maxHeartbeats 16000000
namespace Go.Proofs.YtbpijgddfaefkaaGreatDoor.pa
open Go.RowKit dec
theorem KR (s:ByteArray):agg s=([[99,111,117,110,116],[115,117,109],[109,101,97,110],[109,105,110],[109,97,120],[102,105,114,115,116],[108,97,115,116],[100,105,115,116,105,110,99,116],[113,117,97,110,116,105,108,101],[100,101,99,97,121]]:List (List UInt8)).any fun l=>s.toList==l:=by
 unfold agg
 simp only [List.any_cons,List.any_nil,str_eq]
theorem sS (s:ByteArray) (w:World):Calls Tryz.prog 221 #[.string s] w fun e w' => e=.returned (.bool (agg s))∧Below w.heap.size w w':=by
 rw [KR]
 go_enter Tryz.func221,Tryz.ntmps221
 go_wp2
 all_goals go_ret
 all_goals refine ⟨bB ?_,b0 w⟩
 all_goals first | (rename_i h1 h2;rw [h1] at h2;cases h2;done) | (simp [*];done)
theorem GV (f:Nat) (R:Rd f) (B:Nat) (i:Bool) (l:List Tk) (w:World) (h:Ps w B l) (r:Rs Ex) (hr:pz (f+1) i .pr l=r) (hne:r≠.out) :
  Calls Tryz.prog 183 #[.agg #[.pointer (some ⟨B,0,none⟩),.bool i]] w (Pst B Ev r w):=by
 have P:=Hy (h.keeps (aj (aj (b0 w) (.cells #[.pointer (some ⟨B,0,none⟩),.bool i] 99)) (.cells zE 43)))
 have F:=Hy (Fr.start i h.lt)
 have NE:=Hy hne
 simp only [pz] at hr
 have HR:=Hy hr
 clear h hne hr
 have C1:=Hy (dV B l _ P.o)
 have F1:=tf0
 have F2:=tf1
 generalize hk:(hd l).k=xk at *
 generalize (hd l).a=xa at *
 generalize (hd l).t=xt at C1
 clear hk
 by_cases hk0:xk=2
 ·have q0:(xk==2)=true:=by simp [hk0]
  replace HR:=HR.o
  rw [if_pos hk0] at HR
  replace HR:=Hy HR
  clear hk0
  go_enter Tryz.func183,Tryz.ntmps183
  go_wp2_with fail
  refine (C1.o).mono ?_
  rintro e w1 ⟨rfl,b⟩
  have mm:=Mv.of (B:=B) b
  replace F:=Hy (F.o.next mm)
  replace P:=Hy (P.o.keeps b)
  clear mm b
  have e0:=F.o.c0
  have e1:=F.o.c1
  go_wp2_with fail
  clear e0 e1
  have SS:=Hy (show Blk w1.drew w.heap.size 99 #[.pointer (some ⟨B,0,none⟩),.bool i] from F.o.sc)
  replace P:=Hy (P.o.keeps (b0 _).drew)
  replace F:=Hy (F.o.next (Mv.of (B:=B) (b0 w1).drew))
  refine wp_region_held_drew (S:=fun w' => Blk w' w.heap.size 99 #[.pointer (some ⟨B,0,none⟩),.bool i]) (by kernel_rfl) SS.o (fun hH=>?_)
  clear SS
  refine aA 0 9 ?_ rfl (by kernel_rfl) rfl (fun _ _ _ h=>h) rfl hH (fun w' hS=>?_) ?_
  rotate_left
  ·go_simp;first | done | with_reducible rfl
  simp only [List.set_cons_zero,List.set_cons_succ]
  refine aA 4 13 ?_ rfl (by kernel_rfl) rfl (fun _ _ _ h=>h) rfl hH (fun w' hS=>?_) ?_
  rotate_left
  ·go_simp;first | done | with_reducible rfl
  simp only [List.set_cons_zero,List.set_cons_succ]
  refine aA 1 10 ?_ rfl (by kernel_rfl) rfl (fun _ _ _ h=>h) rfl hH (fun w' hS=>?_) ?_
  rotate_left
  ·have e1:=hS.cell 0;go_simp;first | done | with_reducible rfl
  simp only [List.set_cons_zero,List.set_cons_succ]
  refine aA 5 14 ?_ rfl (by kernel_rfl) rfl (fun _ _ _ h=>h) rfl hH (fun w' hS=>?_) ?_
  rotate_left
  ·have e1:=hS.cell 0;go_simp;first | done | with_reducible rfl
  simp only [List.set_cons_zero,List.set_cons_succ]
  refine av (i:=2) rfl (by kernel_rfl) rfl (fun K hK=>?_)
  go_simp
  refine (dH B l _ P.o _ rfl (int_ne _)).mono ?_
  rintro e wc1 hc1
  rcases hGc1:int l with _ | ⟨vc1,lc1⟩ | ⟨ac1,cc1,lc1⟩
  ·exact absurd (by rw [← HR.o,hGc1];rfl) NE.o
  rotate_left
  ·rw [hGc1] at hc1
   obtain ⟨rfl,pp,mm⟩:=hc1
   unfold thr
   exact ⟨rfl,aI (by rw [← HR.o,hGc1];rfl) pp (F.o.next mm).mv⟩
  rw [hGc1] at hc1
  obtain ⟨uc1,rfl,vv,pp,mm⟩:=hc1
  replace HR:=HR.o
  rw [hGc1] at HR
  simp only [aC] at HR
  replace HR:=Hy HR
  have hB:=F.o.hB
  have hF:=Hy F.o.lt
  replace hH:=hH.mv mm (by omega) hH.lt
  replace F:=Hy (F.o.next mm)
  replace P:=Hy pp
  clear pp mm hGc1 hB
  obtain rfl:uc1=.int .i64 vc1:=vv
  clear hF
  refine hK.o _ _ hH (fun hH=>?_)
  clear hK K
  refine aA 3 12 ?_ rfl (by kernel_rfl) rfl (fun _ _ _ h=>h) rfl hH (fun w' hS=>?_) ?_
  rotate_left
  ·go_simp;first | done | with_reducible rfl
  simp only [List.set_cons_zero,List.set_cons_succ]
  refine av (i:=6) rfl (by kernel_rfl) rfl (fun K hK=>?_)
  go_simp
  refine (pE B lc1 _ P.o _ rfl (jc _)).mono ?_
  rintro e wc2 hc2
  rcases hGc2:uni lc1 with _ | ⟨vc2,lc2⟩ | ⟨ac2,cc2,lc2⟩
  ·exact absurd (by rw [← HR.o,hGc2];rfl) NE.o
  rotate_left
  ·rw [hGc2] at hc2
   obtain ⟨rfl,pp,mm⟩:=hc2
   unfold thr
   exact ⟨rfl,aI (by rw [← HR.o,hGc2];rfl) pp (F.o.next mm).mv⟩
  rw [hGc2] at hc2
  obtain ⟨uc2,rfl,vv,pp,mm⟩:=hc2
  replace HR:=HR.o
  rw [hGc2] at HR
  simp only [aC] at HR
  replace HR:=Hy HR
  have hB:=F.o.hB
  have hF:=Hy F.o.lt
  replace hH:=hH.mv mm (by omega) hH.lt
  replace F:=Hy (F.o.next mm)
  replace P:=Hy pp
  clear pp mm hGc2 hB
  obtain ⟨ua,uc,rfl,U⟩:=vv
  replace U:=Hy (Us.less U hF.o)
  clear hF
  refine hK.o _ _ hH (fun hH=>?_)
  clear hK K
  refine av (i:=7) rfl (by kernel_rfl) rfl (fun K hK=>?_)
  go_simp
  refine hK.o _ _ hH (fun hH=>?_)
  clear hK K
  refine av (i:=8) rfl (by kernel_rfl) rfl (fun K hK=>?_)
  refine bZ (.tmp 2) (.tmp 16) rfl _ _ _ _ rfl rfl F.o.rz rfl rfl (by simp [Value.oneCell']) ?_
  intro w9 hb9 hs9
  refine hK.o _ _ (hH.st hs9 (by omega)) (fun hH=>?_)
  clear hK K
  have F9:=Hy (F.o.set hs9 hb9)
  have P9:=Hy (P.o.st hs9 (Nat.lt_succ_of_lt F.o.hB))
  have U9:=Hy ((Us.kp U.o (hs9.kp (by omega))).less (show w.heap.size≤w.heap.size+2 by omega))
  replace hb9:=Hy hb9
  clear hs9 hH
  refine wpAnyH_done (by kernel_rfl) ?_ _
  go_wp2_with fail
  refine aF rfl _ _ _ _ _ rfl hb9.o rfl ?_
  exact aQ HR.o.symm ⟨ua,uc,none,0,rfl,⟨U9.o,.inl rfl⟩⟩ P9.o F9.o.mv
 ·have q0:(xk==2)=false:=by simp [hk0]
  replace HR:=HR.o
  rw [if_neg hk0] at HR
  replace HR:=Hy HR
  clear hk0
  by_cases hk1:xk=3
  ·have q1:(xk==3)=true:=by simp [hk1]
   replace HR:=HR.o
   rw [if_pos hk1] at HR
   replace HR:=Hy HR
   clear hk1
   go_enter Tryz.func183,Tryz.ntmps183
   go_wp2_with fail
   refine (C1.o).mono ?_
   rintro e w1 ⟨rfl,b⟩
   have mm:=Mv.of (B:=B) b
   replace F:=Hy (F.o.next mm)
   replace P:=Hy (P.o.keeps b)
   clear mm b
   have e0:=F.o.c0
   have e1:=F.o.c1
   go_wp2_with fail
   clear e0 e1
   have SS:=Hy (show Blk w1.drew w.heap.size 99 #[.pointer (some ⟨B,0,none⟩),.bool i] from F.o.sc)
   replace P:=Hy (P.o.keeps (b0 _).drew)
   replace F:=Hy (F.o.next (Mv.of (B:=B) (b0 w1).drew))
   refine wp_region_held_drew (S:=fun w' => Blk w' w.heap.size 99 #[.pointer (some ⟨B,0,none⟩),.bool i]) (by kernel_rfl) SS.o (fun hH=>?_)
   clear SS
   refine aA 0 19 ?_ rfl (by kernel_rfl) rfl (fun _ _ _ h=>h) rfl hH (fun w' hS=>?_) ?_
   rotate_left
   ·go_simp;first | done | with_reducible rfl
   simp only [List.set_cons_zero,List.set_cons_succ]
   refine aA 4 23 ?_ rfl (by kernel_rfl) rfl (fun _ _ _ h=>h) rfl hH (fun w' hS=>?_) ?_
   rotate_left
   ·go_simp;first | done | with_reducible rfl
   simp only [List.set_cons_zero,List.set_cons_succ]
   refine aA 1 20 ?_ rfl (by kernel_rfl) rfl (fun _ _ _ h=>h) rfl hH (fun w' hS=>?_) ?_
   rotate_left
   ·have e1:=hS.cell 0;go_simp;first | done | with_reducible rfl
   simp only [List.set_cons_zero,List.set_cons_succ]
   refine aA 5 24 ?_ rfl (by kernel_rfl) rfl (fun _ _ _ h=>h) rfl hH (fun w' hS=>?_) ?_
   rotate_left
   ·have e1:=hS.cell 0;go_simp;first | done | with_reducible rfl
   simp only [List.set_cons_zero,List.set_cons_succ]
   refine av (i:=2) rfl (by kernel_rfl) rfl (fun K hK=>?_)
   go_simp
   refine (Dc B l _ P.o _ rfl (zf _)).mono ?_
   rintro e wc1 hc1
   rcases hGc1:jY l with _ | ⟨vc1,lc1⟩ | ⟨ac1,cc1,lc1⟩
   ·exact absurd (by rw [← HR.o,hGc1];rfl) NE.o
   rotate_left
   ·rw [hGc1] at hc1
    obtain ⟨rfl,pp,mm⟩:=hc1
    unfold thr
    exact ⟨rfl,aI (by rw [← HR.o,hGc1];rfl) pp (F.o.next mm).mv⟩
   rw [hGc1] at hc1
   obtain ⟨uc1,rfl,vv,pp,mm⟩:=hc1
   replace HR:=HR.o
   rw [hGc1] at HR
   simp only [aC] at HR
   replace HR:=Hy HR
   have hB:=F.o.hB
   have hF:=Hy F.o.lt
   replace hH:=hH.mv mm (by omega) hH.lt
   replace F:=Hy (F.o.next mm)
   replace P:=Hy pp
   clear pp mm hGc1 hB
   obtain rfl:uc1=.int .i64 vc1:=vv
   clear hF
   refine hK.o _ _ hH (fun hH=>?_)
   clear hK K
   refine aA 3 22 ?_ rfl (by kernel_rfl) rfl (fun _ _ _ h=>h) rfl hH (fun w' hS=>?_) ?_
   rotate_left
   ·go_simp;first | done | with_reducible rfl
   simp only [List.set_cons_zero,List.set_cons_succ]
   refine av (i:=6) rfl (by kernel_rfl) rfl (fun K hK=>?_)
   go_simp
   refine (pE B lc1 _ P.o _ rfl (jc _)).mono ?_
   rintro e wc2 hc2
   rcases hGc2:uni lc1 with _ | ⟨vc2,lc2⟩ | ⟨ac2,cc2,lc2⟩
   ·exact absurd (by rw [← HR.o,hGc2];rfl) NE.o
   rotate_left
   ·rw [hGc2] at hc2
    obtain ⟨rfl,pp,mm⟩:=hc2
    unfold thr
    exact ⟨rfl,aI (by rw [← HR.o,hGc2];rfl) pp (F.o.next mm).mv⟩
   rw [hGc2] at hc2
   obtain ⟨uc2,rfl,vv,pp,mm⟩:=hc2
   replace HR:=HR.o
   rw [hGc2] at HR
   simp only [aC] at HR
   replace HR:=Hy HR
   have hB:=F.o.hB
   have hF:=Hy F.o.lt
   replace hH:=hH.mv mm (by omega) hH.lt
   replace F:=Hy (F.o.next mm)
   replace P:=Hy pp
   clear pp mm hGc2 hB
   obtain ⟨ua,uc,rfl,U⟩:=vv
   replace U:=Hy (Us.less U hF.o)
   clear hF
   refine hK.o _ _ hH (fun hH=>?_)
   clear hK K
   refine av (i:=7) rfl (by kernel_rfl) rfl (fun K hK=>?_)
   go_simp
   refine hK.o _ _ hH (fun hH=>?_)
   clear hK K
   refine av (i:=8) rfl (by kernel_rfl) rfl (fun K hK=>?_)
   refine bZ (.tmp 2) (.tmp 26) rfl _ _ _ _ rfl rfl F.o.rz rfl rfl (by simp [Value.oneCell']) ?_
   intro w9 hb9 hs9
   refine hK.o _ _ (hH.st hs9 (by omega)) (fun hH=>?_)
   clear hK K
   have F9:=Hy (F.o.set hs9 hb9)
   have P9:=Hy (P.o.st hs9 (Nat.lt_succ_of_lt F.o.hB))
   have U9:=Hy ((Us.kp U.o (hs9.kp (by omega))).less (show w.heap.size≤w.heap.size+2 by omega))
   replace hb9:=Hy hb9
   clear hs9 hH
   refine wpAnyH_done (by kernel_rfl) ?_ _
   go_wp2_with fail
   refine aF rfl _ _ _ _ _ rfl hb9.o rfl ?_
   exact aQ HR.o.symm ⟨ua,uc,none,0,rfl,⟨U9.o,.inl rfl⟩⟩ P9.o F9.o.mv
  ·have q1:(xk==3)=false:=by simp [hk1]
   replace HR:=HR.o
   rw [if_neg hk1] at HR
   replace HR:=Hy HR
   clear hk1
   by_cases hk2:xk=4
   ·have q2:(xk==4)=true:=by simp [hk2]
    replace HR:=HR.o
    rw [if_pos hk2] at HR
    replace HR:=Hy HR
    clear hk2
    go_enter Tryz.func183,Tryz.ntmps183
    go_wp2_with fail
    refine (C1.o).mono ?_
    rintro e w1 ⟨rfl,b⟩
    have mm:=Mv.of (B:=B) b
    replace F:=Hy (F.o.next mm)
    replace P:=Hy (P.o.keeps b)
    clear mm b
    have e0:=F.o.c0
    have e1:=F.o.c1
    go_wp2_with fail
    have hF:=Hy F.o.lt
    refine (iV B 4 (by decide) l _ P.o).mono ?_
    rintro e w2 h2
    rcases hG2:tak 4 l with _ | ⟨v2,l2⟩ | ⟨a2,c2,l2⟩
    ·exact absurd (by rw [← HR.o,hG2];rfl) NE.o
    rotate_left
    ·rw [hG2] at h2
     obtain ⟨rfl,pp,mm⟩:=h2
     unfold thr
     have hno:=Hy (show r=.no a2 c2 l2 by rw [← HR.o,hG2];rfl)
     have PP:=Hy pp
     have MM:=Hy ((F.o.next mm).mv)
     clear pp mm hG2 e0 e1
     go_wp2_with fail
     exact ⟨rfl,aI hno.o PP.o MM.o⟩
    rw [hG2] at h2
    obtain ⟨u2,rfl,vv,pp,mm⟩:=h2
    replace HR:=HR.o
    rw [hG2] at HR
    simp only [aC] at HR
    replace HR:=Hy HR
    replace F:=Hy (F.o.next mm)
    replace P:=Hy pp
    clear pp mm hG2
    obtain rfl:u2=.string v2:=vv
    clear e0 e1
    clear hF
    go_wp2_with (refine aP (.tmp 2) (.tmp 33) rfl rfl _ _ _ _ rfl rfl F.o.rz rfl rfl (by simp [Value.oneCell']) ?_;intro w9 hb9 hs9)
    have F9:=F.o.set hs9 hb9
    have P9:=P.o.st hs9 (Nat.lt_succ_of_lt F.o.hB)
    refine aF rfl _ _ _ _ _ rfl hb9 rfl ?_
    exact aQ HR.o.symm ⟨none,0,none,0,rfl,⟨.inl rfl,.inl rfl⟩⟩ P9 F9.mv
   ·have q2:(xk==4)=false:=by simp [hk2]
    replace HR:=HR.o
    rw [if_neg hk2] at HR
    replace HR:=Hy HR
    clear hk2
    cases hk3:isT ⟨#[116,114,117,101]⟩ l
    ·replace HR:=HR.o
     rw [hk3,if_neg (by decide)] at HR
     replace HR:=Hy HR
     have H3:=Hy hk3
     clear hk3
     cases hk4:isT ⟨#[102,97,108,115,101]⟩ l
     ·replace HR:=HR.o
      rw [hk4,if_neg (by decide)] at HR
      replace HR:=Hy HR
      have H4:=Hy hk4
      clear hk4
      cases hk5:isT ⟨#[64]⟩ l
      ·replace HR:=HR.o
       rw [hk5,if_neg (by decide)] at HR
       replace HR:=Hy HR
       have H5:=Hy hk5
       clear hk5
       cases hk6:isT ⟨#[110,117,108,108]⟩ l
       ·replace HR:=HR.o
        rw [hk6,if_neg (by decide)] at HR
        replace HR:=Hy HR
        have H6:=Hy hk6
        clear hk6
        cases hk7:isT ⟨#[40]⟩ l
        ·replace HR:=HR.o
         rw [hk7,if_neg (by decide)] at HR
         replace HR:=Hy HR
         have H7:=Hy hk7
         clear hk7
         cases i
         ·replace HR:=HR.o
          rw [if_neg (by decide)] at HR
          replace HR:=Hy HR
          cases hk9:agg (hd l).t
          ·replace HR:=HR.o
           rw [hk9,if_neg (by decide)] at HR
           replace HR:=Hy HR
           have H9:=Hy hk9
           clear hk9
           replace HR:=HR.o
           rw [← iF (pz f false .rf l)] at HR
           replace HR:=Hy HR
           go_enter Tryz.func183,Tryz.ntmps183
           go_wp2_with fail
           refine (C1.o).mono ?_
           rintro e w1 ⟨rfl,b⟩
           have mm:=Mv.of (B:=B) b
           replace F:=Hy (F.o.next mm)
           replace P:=Hy (P.o.keeps b)
           clear mm b
           have e0:=F.o.c0
           have e1:=F.o.c1
           go_wp2_with fail
           refine (aN B ⟨#[116,114,117,101]⟩ l _ P.o H3.o).mono ?_
           rintro e w2 ⟨rfl,pp,mm⟩
           replace F:=Hy (F.o.next mm)
           replace P:=Hy pp
           clear pp mm
           clear e0 e1
           have e0:=F.o.c0
           have e1:=F.o.c1
           go_wp2_with fail
           refine (aN B ⟨#[102,97,108,115,101]⟩ l _ P.o H4.o).mono ?_
           rintro e w3 ⟨rfl,pp,mm⟩
           replace F:=Hy (F.o.next mm)
           replace P:=Hy pp
           clear pp mm
           clear e0 e1
           have e0:=F.o.c0
           have e1:=F.o.c1
           go_wp2_with fail
           have CI:=fZ B ⟨#[64]⟩ l _ P.o
           rw [H5.o] at CI
           replace CI:=Hy CI
           refine (CI.o).mono ?_
           rintro e w4 ⟨rfl,b⟩
           have mm:=Mv.of (B:=B) b
           replace F:=Hy (F.o.next mm)
           replace P:=Hy (P.o.keeps b)
           clear mm b
           clear e0 e1
           clear CI
           have e0:=F.o.c0
           have e1:=F.o.c1
           go_wp2_with fail
           refine (aN B ⟨#[110,117,108,108]⟩ l _ P.o H6.o).mono ?_
           rintro e w5 ⟨rfl,pp,mm⟩
           replace F:=Hy (F.o.next mm)
           replace P:=Hy pp
           clear pp mm
           clear e0 e1
           have e0:=F.o.c0
           have e1:=F.o.c1
           go_wp2_with fail
           have CI:=fZ B ⟨#[40]⟩ l _ P.o
           rw [H7.o] at CI
           replace CI:=Hy CI
           refine (CI.o).mono ?_
           rintro e w6 ⟨rfl,b⟩
           have mm:=Mv.of (B:=B) b
           replace F:=Hy (F.o.next mm)
           replace P:=Hy (P.o.keeps b)
           clear mm b
           clear e0 e1
           clear CI
           have e0:=F.o.c0
           have e1:=F.o.c1
           go_wp2_with fail
           have C2:=Hy (dV B l _ P.o)
           generalize (hd l).k=xk2 at C2
           generalize (hd l).a=xa2 at C2
           refine (C2.o).mono ?_
           rintro e w7 ⟨rfl,b⟩
           have mm:=Mv.of (B:=B) b
           replace F:=Hy (F.o.next mm)
           replace P:=Hy (P.o.keeps b)
           clear mm b
           clear e0 e1
           go_wp2_with fail
           have C3:=sS (hd l).t w7
           rw [H9.o] at C3
           replace C3:=Hy C3
           refine (C3.o).mono ?_
           rintro e w8 ⟨rfl,b⟩
           have mm:=Mv.of (B:=B) b
           replace F:=Hy (F.o.next mm)
           replace P:=Hy (P.o.keeps b)
           clear mm b
           clear C2 C3
           have e0:=F.o.c0
           have e1:=F.o.c1
           go_wp2_with fail
           have hF:=Hy F.o.lt
           refine (R.rf B false l _ P.o (bF (by rw [HR.o];exact NE.o))).mono ?_
           rintro e w9 h9
           rcases hG9:pz f false .rf l with _ | ⟨v9,l9⟩ | ⟨a9,c9,l9⟩
           ·exact absurd (by rw [← HR.o,hG9];rfl) NE.o
           rotate_left
           ·rw [hG9] at h9
            obtain ⟨rfl,pp,mm⟩:=h9
            unfold thr
            have hno:=Hy (show r=.no a9 c9 l9 by rw [← HR.o,hG9];rfl)
            have PP:=Hy pp
            have MM:=Hy ((F.o.next mm).mv)
            clear pp mm hG9 e0 e1
            go_wp2_with fail
            exact ⟨rfl,aI hno.o PP.o MM.o⟩
           rw [hG9] at h9
           obtain ⟨u9,rfl,vv,pp,mm⟩:=h9
           replace HR:=HR.o
           rw [hG9] at HR
           simp only [aC] at HR
           replace HR:=Hy HR
           replace F:=Hy (F.o.next mm)
           replace P:=Hy pp
           clear pp mm hG9
           have V9:=Hy vv
           clear vv
           clear e0 e1
           obtain ⟨ua9,uc9,aa9,ac9,rfl,E9⟩:=V9.o
           replace E9:=Hy (Ec.less E9 hF.o)
           clear V9 hF
           go_wp2_with (refine aP (.tmp 2) (.tmp 79) rfl rfl _ _ _ _ rfl rfl F.o.rz rfl rfl (aG _ _ _ _ _) ?_;intro w9 hb9 hs9)
           have F9:=F.o.set hs9 hb9
           have P9:=P.o.st hs9 (Nat.lt_succ_of_lt F.o.hB)
           refine aF rfl _ _ _ _ _ rfl hb9 rfl ?_
           exact aQ HR.o.symm ⟨ua9,uc9,aa9,ac9,rfl,(E9.o.kp (hs9.kp (by omega))).less (by omega)⟩ P9 F9.mv
          ·replace HR:=HR.o
           rw [hk9,if_pos rfl,← iF (pz f false .ag l)] at HR
           replace HR:=Hy HR
           have H9:=Hy hk9
           clear hk9
           go_enter Tryz.func183,Tryz.ntmps183
           go_wp2_with fail
           refine (C1.o).mono ?_
           rintro e w1 ⟨rfl,b⟩
           have mm:=Mv.of (B:=B) b
           replace F:=Hy (F.o.next mm)
           replace P:=Hy (P.o.keeps b)
           clear mm b
           have e0:=F.o.c0
           have e1:=F.o.c1
           go_wp2_with fail
           refine (aN B ⟨#[116,114,117,101]⟩ l _ P.o H3.o).mono ?_
           rintro e w2 ⟨rfl,pp,mm⟩
           replace F:=Hy (F.o.next mm)
           replace P:=Hy pp
           clear pp mm
           clear e0 e1
           have e0:=F.o.c0
           have e1:=F.o.c1
           go_wp2_with fail
           refine (aN B ⟨#[102,97,108,115,101]⟩ l _ P.o H4.o).mono ?_
           rintro e w3 ⟨rfl,pp,mm⟩
           replace F:=Hy (F.o.next mm)
           replace P:=Hy pp
           clear pp mm
           clear e0 e1
           have e0:=F.o.c0
           have e1:=F.o.c1
           go_wp2_with fail
           have CI:=fZ B ⟨#[64]⟩ l _ P.o
           rw [H5.o] at CI
           replace CI:=Hy CI
           refine (CI.o).mono ?_
           rintro e w4 ⟨rfl,b⟩
           have mm:=Mv.of (B:=B) b
           replace F:=Hy (F.o.next mm)
           replace P:=Hy (P.o.keeps b)
           clear mm b
           clear e0 e1
           clear CI
           have e0:=F.o.c0
           have e1:=F.o.c1
           go_wp2_with fail
           refine (aN B ⟨#[110,117,108,108]⟩ l _ P.o H6.o).mono ?_
           rintro e w5 ⟨rfl,pp,mm⟩
           replace F:=Hy (F.o.next mm)
           replace P:=Hy pp
           clear pp mm
           clear e0 e1
           have e0:=F.o.c0
           have e1:=F.o.c1
           go_wp2_with fail
           have CI:=fZ B ⟨#[40]⟩ l _ P.o
           rw [H7.o] at CI
           replace CI:=Hy CI
           refine (CI.o).mono ?_
           rintro e w6 ⟨rfl,b⟩
           have mm:=Mv.of (B:=B) b
           replace F:=Hy (F.o.next mm)
           replace P:=Hy (P.o.keeps b)
           clear mm b
           clear e0 e1
           clear CI
           have e0:=F.o.c0
           have e1:=F.o.c1
           go_wp2_with fail
           have C2:=Hy (dV B l _ P.o)
           generalize (hd l).k=xk2 at C2
           generalize (hd l).a=xa2 at C2
           refine (C2.o).mono ?_
           rintro e w7 ⟨rfl,b⟩
           have mm:=Mv.of (B:=B) b
           replace F:=Hy (F.o.next mm)
           replace P:=Hy (P.o.keeps b)
           clear mm b
           clear e0 e1
           go_wp2_with fail
           have C3:=sS (hd l).t w7
           rw [H9.o] at C3
           replace C3:=Hy C3
           refine (C3.o).mono ?_
           rintro e w8 ⟨rfl,b⟩
           have mm:=Mv.of (B:=B) b
           replace F:=Hy (F.o.next mm)
           replace P:=Hy (P.o.keeps b)
           clear mm b
           clear C2 C3
           have e0:=F.o.c0
           have e1:=F.o.c1
           go_wp2_with fail
           have hF:=Hy F.o.lt
           refine (R.ag B false l _ P.o (bF (by rw [HR.o];exact NE.o))).mono ?_
           rintro e w9 h9
           rcases hG9:pz f false .ag l with _ | ⟨v9,l9⟩ | ⟨a9,c9,l9⟩
           ·exact absurd (by rw [← HR.o,hG9];rfl) NE.o
           rotate_left
           ·rw [hG9] at h9
            obtain ⟨rfl,pp,mm⟩:=h9
            unfold thr
            have hno:=Hy (show r=.no a9 c9 l9 by rw [← HR.o,hG9];rfl)
            have PP:=Hy pp
            have MM:=Hy ((F.o.next mm).mv)
            clear pp mm hG9 e0 e1
            go_wp2_with fail
            exact ⟨rfl,aI hno.o PP.o MM.o⟩
           rw [hG9] at h9
           obtain ⟨u9,rfl,vv,pp,mm⟩:=h9
           replace HR:=HR.o
           rw [hG9] at HR
           simp only [aC] at HR
           replace HR:=Hy HR
           replace F:=Hy (F.o.next mm)
           replace P:=Hy pp
           clear pp mm hG9
           have V9:=Hy vv
           clear vv
           clear e0 e1
           obtain ⟨ua9,uc9,aa9,ac9,rfl,E9⟩:=V9.o
           replace E9:=Hy (Ec.less E9 hF.o)
           clear V9 hF
           go_wp2_with (refine aP (.tmp 2) (.tmp 77) rfl rfl _ _ _ _ rfl rfl F.o.rz rfl rfl (aG _ _ _ _ _) ?_;intro w9 hb9 hs9)
           have F9:=F.o.set hs9 hb9
           have P9:=P.o.st hs9 (Nat.lt_succ_of_lt F.o.hB)
           refine aF rfl _ _ _ _ _ rfl hb9 rfl ?_
           exact aQ HR.o.symm ⟨ua9,uc9,aa9,ac9,rfl,(E9.o.kp (hs9.kp (by omega))).less (by omega)⟩ P9 F9.mv
         ·replace HR:=HR.o
          rw [if_pos rfl] at HR
          replace HR:=Hy HR
          go_enter Tryz.func183,Tryz.ntmps183
          go_wp2_with fail
          refine (C1.o).mono ?_
          rintro e w1 ⟨rfl,b⟩
          have mm:=Mv.of (B:=B) b
          replace F:=Hy (F.o.next mm)
          replace P:=Hy (P.o.keeps b)
          clear mm b
          have e0:=F.o.c0
          have e1:=F.o.c1
          go_wp2_with fail
          refine (aN B ⟨#[116,114,117,101]⟩ l _ P.o H3.o).mono ?_
          rintro e w2 ⟨rfl,pp,mm⟩
          replace F:=Hy (F.o.next mm)
          replace P:=Hy pp
          clear pp mm
          clear e0 e1
          have e0:=F.o.c0
          have e1:=F.o.c1
          go_wp2_with fail
          refine (aN B ⟨#[102,97,108,115,101]⟩ l _ P.o H4.o).mono ?_
          rintro e w3 ⟨rfl,pp,mm⟩
          replace F:=Hy (F.o.next mm)
          replace P:=Hy pp
          clear pp mm
          clear e0 e1
          have e0:=F.o.c0
          have e1:=F.o.c1
          go_wp2_with fail
          have CI:=fZ B ⟨#[64]⟩ l _ P.o
          rw [H5.o] at CI
          replace CI:=Hy CI
          refine (CI.o).mono ?_
          rintro e w4 ⟨rfl,b⟩
          have mm:=Mv.of (B:=B) b
          replace F:=Hy (F.o.next mm)
          replace P:=Hy (P.o.keeps b)
          clear mm b
          clear e0 e1
          clear CI
          have e0:=F.o.c0
          have e1:=F.o.c1
          go_wp2_with fail
          refine (aN B ⟨#[110,117,108,108]⟩ l _ P.o H6.o).mono ?_
          rintro e w5 ⟨rfl,pp,mm⟩
          replace F:=Hy (F.o.next mm)
          replace P:=Hy pp
          clear pp mm
          clear e0 e1
          have e0:=F.o.c0
          have e1:=F.o.c1
          go_wp2_with fail
          have CI:=fZ B ⟨#[40]⟩ l _ P.o
          rw [H7.o] at CI
          replace CI:=Hy CI
          refine (CI.o).mono ?_
          rintro e w6 ⟨rfl,b⟩
          have mm:=Mv.of (B:=B) b
          replace F:=Hy (F.o.next mm)
          replace P:=Hy (P.o.keeps b)
          clear mm b
          clear e0 e1
          clear CI
          have e0:=F.o.c0
          have e1:=F.o.c1
          go_wp2_with fail
          have hF:=Hy F.o.lt
          refine (jO B l _ P.o _ rfl (dJ _)).mono ?_
          rintro e w7 h7
          rcases hG7:nam l with _ | ⟨v7,l7⟩ | ⟨a7,c7,l7⟩
          ·exact absurd (by rw [← HR.o,hG7];rfl) NE.o
          rotate_left
          ·rw [hG7] at h7
           obtain ⟨rfl,pp,mm⟩:=h7
           unfold thr
           have hno:=Hy (show r=.no a7 c7 l7 by rw [← HR.o,hG7];rfl)
           have PP:=Hy pp
           have MM:=Hy ((F.o.next mm).mv)
           clear pp mm hG7 e0 e1
           go_wp2_with fail
           exact ⟨rfl,aI hno.o PP.o MM.o⟩
          rw [hG7] at h7
          obtain ⟨u7,rfl,vv,pp,mm⟩:=h7
          replace HR:=HR.o
          rw [hG7] at HR
          simp only [aC] at HR
          replace HR:=Hy HR
          replace F:=Hy (F.o.next mm)
          replace P:=Hy pp
          clear pp mm hG7
          obtain rfl:u7=.string v7:=vv
          clear e0 e1
          clear hF
          go_wp2_with (refine aP (.tmp 2) (.tmp 69) rfl rfl _ _ _ _ rfl rfl F.o.rz rfl rfl (by simp [Value.oneCell']) ?_;intro w9 hb9 hs9)
          have F9:=F.o.set hs9 hb9
          have P9:=P.o.st hs9 (Nat.lt_succ_of_lt F.o.hB)
          refine aF rfl _ _ _ _ _ rfl hb9 rfl ?_
          exact aQ HR.o.symm ⟨none,0,none,0,rfl,⟨.inl rfl,.inl rfl⟩⟩ P9 F9.mv
        ·replace HR:=HR.o
         rw [hk7,if_pos rfl,← iF (pz f i .pa l)] at HR
         replace HR:=Hy HR
         have H7:=Hy hk7
         clear hk7
         go_enter Tryz.func183,Tryz.ntmps183
         go_wp2_with fail
         refine (C1.o).mono ?_
         rintro e w1 ⟨rfl,b⟩
         have mm:=Mv.of (B:=B) b
         replace F:=Hy (F.o.next mm)
         replace P:=Hy (P.o.keeps b)
         clear mm b
         have e0:=F.o.c0
         have e1:=F.o.c1
         go_wp2_with fail
         refine (aN B ⟨#[116,114,117,101]⟩ l _ P.o H3.o).mono ?_
         rintro e w2 ⟨rfl,pp,mm⟩
         replace F:=Hy (F.o.next mm)
         replace P:=Hy pp
         clear pp mm
         clear e0 e1
         have e0:=F.o.c0
         have e1:=F.o.c1
         go_wp2_with fail
         refine (aN B ⟨#[102,97,108,115,101]⟩ l _ P.o H4.o).mono ?_
         rintro e w3 ⟨rfl,pp,mm⟩
         replace F:=Hy (F.o.next mm)
         replace P:=Hy pp
         clear pp mm
         clear e0 e1
         have e0:=F.o.c0
         have e1:=F.o.c1
         go_wp2_with fail
         have CI:=fZ B ⟨#[64]⟩ l _ P.o
         rw [H5.o] at CI
         replace CI:=Hy CI
         refine (CI.o).mono ?_
         rintro e w4 ⟨rfl,b⟩
         have mm:=Mv.of (B:=B) b
         replace F:=Hy (F.o.next mm)
         replace P:=Hy (P.o.keeps b)
         clear mm b
         clear e0 e1
         clear CI
         have e0:=F.o.c0
         have e1:=F.o.c1
         go_wp2_with fail
         refine (aN B ⟨#[110,117,108,108]⟩ l _ P.o H6.o).mono ?_
         rintro e w5 ⟨rfl,pp,mm⟩
         replace F:=Hy (F.o.next mm)
         replace P:=Hy pp
         clear pp mm
         clear e0 e1
         have e0:=F.o.c0
         have e1:=F.o.c1
         go_wp2_with fail
         have CI:=fZ B ⟨#[40]⟩ l _ P.o
         rw [H7.o] at CI
         replace CI:=Hy CI
         refine (CI.o).mono ?_
         rintro e w6 ⟨rfl,b⟩
         have mm:=Mv.of (B:=B) b
         replace F:=Hy (F.o.next mm)
         replace P:=Hy (P.o.keeps b)
         clear mm b
         clear e0 e1
         clear CI
         have e0:=F.o.c0
         have e1:=F.o.c1
         go_wp2_with fail
         have hF:=Hy F.o.lt
         refine (R.pa B i l _ P.o (bF (by rw [HR.o];exact NE.o))).mono ?_
         rintro e w7 h7
         rcases hG7:pz f i .pa l with _ | ⟨v7,l7⟩ | ⟨a7,c7,l7⟩
         ·exact absurd (by rw [← HR.o,hG7];rfl) NE.o
         rotate_left
         ·rw [hG7] at h7
          obtain ⟨rfl,pp,mm⟩:=h7
          unfold thr
          have hno:=Hy (show r=.no a7 c7 l7 by rw [← HR.o,hG7];rfl)
          have PP:=Hy pp
          have MM:=Hy ((F.o.next mm).mv)
          clear pp mm hG7 e0 e1
          go_wp2_with fail
          exact ⟨rfl,aI hno.o PP.o MM.o⟩
         rw [hG7] at h7
         obtain ⟨u7,rfl,vv,pp,mm⟩:=h7
         replace HR:=HR.o
         rw [hG7] at HR
         simp only [aC] at HR
         replace HR:=Hy HR
         replace F:=Hy (F.o.next mm)
         replace P:=Hy pp
         clear pp mm hG7
         have V7:=Hy vv
         clear vv
         clear e0 e1
         obtain ⟨ua7,uc7,aa7,ac7,rfl,E7⟩:=V7.o
         replace E7:=Hy (Ec.less E7 hF.o)
         clear V7 hF
         go_wp2_with (refine aP (.tmp 2) (.tmp 62) rfl rfl _ _ _ _ rfl rfl F.o.rz rfl rfl (aG _ _ _ _ _) ?_;intro w9 hb9 hs9)
         have F9:=F.o.set hs9 hb9
         have P9:=P.o.st hs9 (Nat.lt_succ_of_lt F.o.hB)
         refine aF rfl _ _ _ _ _ rfl hb9 rfl ?_
         exact aQ HR.o.symm ⟨ua7,uc7,aa7,ac7,rfl,(E7.o.kp (hs9.kp (by omega))).less (by omega)⟩ P9 F9.mv
       ·replace HR:=HR.o
        rw [hk6,if_pos rfl] at HR
        replace HR:=Hy HR
        have H6:=Hy hk6
        clear hk6
        go_enter Tryz.func183,Tryz.ntmps183
        go_wp2_with fail
        refine (C1.o).mono ?_
        rintro e w1 ⟨rfl,b⟩
        have mm:=Mv.of (B:=B) b
        replace F:=Hy (F.o.next mm)
        replace P:=Hy (P.o.keeps b)
        clear mm b
        have e0:=F.o.c0
        have e1:=F.o.c1
        go_wp2_with fail
        refine (aN B ⟨#[116,114,117,101]⟩ l _ P.o H3.o).mono ?_
        rintro e w2 ⟨rfl,pp,mm⟩
        replace F:=Hy (F.o.next mm)
        replace P:=Hy pp
        clear pp mm
        clear e0 e1
        have e0:=F.o.c0
        have e1:=F.o.c1
        go_wp2_with fail
        refine (aN B ⟨#[102,97,108,115,101]⟩ l _ P.o H4.o).mono ?_
        rintro e w3 ⟨rfl,pp,mm⟩
        replace F:=Hy (F.o.next mm)
        replace P:=Hy pp
        clear pp mm
        clear e0 e1
        have e0:=F.o.c0
        have e1:=F.o.c1
        go_wp2_with fail
        have CI:=fZ B ⟨#[64]⟩ l _ P.o
        rw [H5.o] at CI
        replace CI:=Hy CI
        refine (CI.o).mono ?_
        rintro e w4 ⟨rfl,b⟩
        have mm:=Mv.of (B:=B) b
        replace F:=Hy (F.o.next mm)
        replace P:=Hy (P.o.keeps b)
        clear mm b
        clear e0 e1
        clear CI
        have e0:=F.o.c0
        have e1:=F.o.c1
        go_wp2_with fail
        refine (aY B ⟨#[110,117,108,108]⟩ l _ P.o H6.o).mono ?_
        rintro e w5 ⟨rfl,pp,mm⟩
        replace F:=Hy (F.o.next mm)
        replace P:=Hy pp
        clear pp mm
        clear e0 e1
        have e0:=F.o.c0
        have e1:=F.o.c1
        go_wp2_with fail
        have hF:=Hy F.o.lt
        refine (R.pa B i l.tail _ P.o (bF (by rw [HR.o];exact NE.o))).mono ?_
        rintro e w6 h6
        rcases hG6:pz f i .pa l.tail with _ | ⟨v6,l6⟩ | ⟨a6,c6,l6⟩
        ·exact absurd (by rw [← HR.o,hG6];rfl) NE.o
        rotate_left
        ·rw [hG6] at h6
         obtain ⟨rfl,pp,mm⟩:=h6
         unfold thr
         have hno:=Hy (show r=.no a6 c6 l6 by rw [← HR.o,hG6];rfl)
         have PP:=Hy pp
         have MM:=Hy ((F.o.next mm).mv)
         clear pp mm hG6 e0 e1
         go_wp2_with fail
         exact ⟨rfl,aI hno.o PP.o MM.o⟩
        rw [hG6] at h6
        obtain ⟨u6,rfl,vv,pp,mm⟩:=h6
        replace HR:=HR.o
        rw [hG6] at HR
        simp only [aC] at HR
        replace HR:=Hy HR
        replace F:=Hy (F.o.next mm)
        replace P:=Hy pp
        clear pp mm hG6
        have V6:=Hy vv
        clear vv
        clear e0 e1
        obtain ⟨ua6,uc6,aa6,ac6,rfl,E6⟩:=V6.o
        replace E6:=Hy (Ec.less E6 hF.o)
        clear V6 hF
        go_wp2_with fail
        have hC:=Hy F.o.lt
        refine (mJ ⟨#[110,117,108,108]⟩ v6 ua6 uc6 aa6 ac6 (w.heap.size+2) w6 E6.o hC.o).mono ?_
        rintro e wU ⟨aaU,acU,rfl,EU,bb⟩
        replace EU:=Hy EU
        replace F:=Hy (F.o.bn bb)
        replace P:=Hy (P.o.keeps bb)
        clear bb
        go_wp2_with (refine aP (.tmp 2) (.tmp 56) rfl rfl _ _ _ _ rfl rfl F.o.rz rfl rfl (aG _ _ _ _ _) ?_;intro w9 hb9 hs9)
        have F9:=F.o.set hs9 hb9
        have P9:=P.o.st hs9 (Nat.lt_succ_of_lt F.o.hB)
        refine aF rfl _ _ _ _ _ rfl hb9 rfl ?_
        exact aQ HR.o.symm ⟨none,0,aaU,acU,rfl,(EU.o.kp (hs9.kp (by omega))).less (by omega)⟩ P9 F9.mv
      ·replace HR:=HR.o
       rw [hk5,if_pos rfl,← iF (key l)] at HR
       replace HR:=Hy HR
       have H5:=Hy hk5
       clear hk5
       go_enter Tryz.func183,Tryz.ntmps183
       go_wp2_with fail
       refine (C1.o).mono ?_
       rintro e w1 ⟨rfl,b⟩
       have mm:=Mv.of (B:=B) b
       replace F:=Hy (F.o.next mm)
       replace P:=Hy (P.o.keeps b)
       clear mm b
       have e0:=F.o.c0
       have e1:=F.o.c1
       go_wp2_with fail
       refine (aN B ⟨#[116,114,117,101]⟩ l _ P.o H3.o).mono ?_
       rintro e w2 ⟨rfl,pp,mm⟩
       replace F:=Hy (F.o.next mm)
       replace P:=Hy pp
       clear pp mm
       clear e0 e1
       have e0:=F.o.c0
       have e1:=F.o.c1
       go_wp2_with fail
       refine (aN B ⟨#[102,97,108,115,101]⟩ l _ P.o H4.o).mono ?_
       rintro e w3 ⟨rfl,pp,mm⟩
       replace F:=Hy (F.o.next mm)
       replace P:=Hy pp
       clear pp mm
       clear e0 e1
       have e0:=F.o.c0
       have e1:=F.o.c1
       go_wp2_with fail
       have CI:=fZ B ⟨#[64]⟩ l _ P.o
       rw [H5.o] at CI
       replace CI:=Hy CI
       refine (CI.o).mono ?_
       rintro e w4 ⟨rfl,b⟩
       have mm:=Mv.of (B:=B) b
       replace F:=Hy (F.o.next mm)
       replace P:=Hy (P.o.keeps b)
       clear mm b
       clear e0 e1
       clear CI
       have e0:=F.o.c0
       have e1:=F.o.c1
       go_wp2_with fail
       have hF:=Hy F.o.lt
       refine (LX B i l _ P.o _ rfl (Cv _)).mono ?_
       rintro e w5 h5
       rcases hG5:key l with _ | ⟨v5,l5⟩ | ⟨a5,c5,l5⟩
       ·exact absurd (by rw [← HR.o,hG5];rfl) NE.o
       rotate_left
       ·rw [hG5] at h5
        obtain ⟨rfl,pp,mm⟩:=h5
        unfold thr
        have hno:=Hy (show r=.no a5 c5 l5 by rw [← HR.o,hG5];rfl)
        have PP:=Hy pp
        have MM:=Hy ((F.o.next mm).mv)
        clear pp mm hG5 e0 e1
        go_wp2_with fail
        exact ⟨rfl,aI hno.o PP.o MM.o⟩
       rw [hG5] at h5
       obtain ⟨u5,rfl,vv,pp,mm⟩:=h5
       replace HR:=HR.o
       rw [hG5] at HR
       simp only [aC] at HR
       replace HR:=Hy HR
       replace F:=Hy (F.o.next mm)
       replace P:=Hy pp
       clear pp mm hG5
       have V5:=Hy vv
       clear vv
       clear e0 e1
       obtain ⟨ua5,uc5,aa5,ac5,rfl,E5⟩:=V5.o
       replace E5:=Hy (Ec.less E5 hF.o)
       clear V5 hF
       go_wp2_with (refine aP (.tmp 2) (.tmp 49) rfl rfl _ _ _ _ rfl rfl F.o.rz rfl rfl (aG _ _ _ _ _) ?_;intro w9 hb9 hs9)
       have F9:=F.o.set hs9 hb9
       have P9:=P.o.st hs9 (Nat.lt_succ_of_lt F.o.hB)
       refine aF rfl _ _ _ _ _ rfl hb9 rfl ?_
       exact aQ HR.o.symm ⟨ua5,uc5,aa5,ac5,rfl,(E5.o.kp (hs9.kp (by omega))).less (by omega)⟩ P9 F9.mv
     ·replace HR:=HR.o
      rw [hk4,if_pos rfl] at HR
      replace HR:=Hy HR
      have H4:=Hy hk4
      clear hk4
      go_enter Tryz.func183,Tryz.ntmps183
      go_wp2_with fail
      refine (C1.o).mono ?_
      rintro e w1 ⟨rfl,b⟩
      have mm:=Mv.of (B:=B) b
      replace F:=Hy (F.o.next mm)
      replace P:=Hy (P.o.keeps b)
      clear mm b
      have e0:=F.o.c0
      have e1:=F.o.c1
      go_wp2_with fail
      refine (aN B ⟨#[116,114,117,101]⟩ l _ P.o H3.o).mono ?_
      rintro e w2 ⟨rfl,pp,mm⟩
      replace F:=Hy (F.o.next mm)
      replace P:=Hy pp
      clear pp mm
      clear e0 e1
      have e0:=F.o.c0
      have e1:=F.o.c1
      go_wp2_with fail
      refine (aY B ⟨#[102,97,108,115,101]⟩ l _ P.o H4.o).mono ?_
      rintro e w3 ⟨rfl,pp,mm⟩
      replace F:=Hy (F.o.next mm)
      replace P:=Hy pp
      clear pp mm
      clear e0 e1
      go_wp2_with fail
      have CB:=Hy (kH 0 w3)
      refine (CB.o).mono ?_
      rintro e w4 ⟨rfl,b⟩
      have mm:=Mv.of (B:=B) b
      replace F:=Hy (F.o.next mm)
      replace P:=Hy (P.o.keeps b)
      clear mm b
      go_wp2_with (refine aP (.tmp 2) (.tmp 43) rfl rfl _ _ _ _ rfl rfl F.o.rz rfl rfl (aG _ _ _ _ _) ?_;intro w9 hb9 hs9)
      have F9:=F.o.set hs9 hb9
      have P9:=P.o.st hs9 (Nat.lt_succ_of_lt F.o.hB)
      refine aF rfl _ _ _ _ _ rfl hb9 rfl ?_
      exact aQ HR.o.symm ⟨none,0,none,0,rfl,jm _ _ _⟩ P9 F9.mv
    ·replace HR:=HR.o
     rw [hk3,if_pos rfl] at HR
     replace HR:=Hy HR
     have H3:=Hy hk3
     clear hk3
     go_enter Tryz.func183,Tryz.ntmps183
     go_wp2_with fail
     refine (C1.o).mono ?_
     rintro e w1 ⟨rfl,b⟩
     have mm:=Mv.of (B:=B) b
     replace F:=Hy (F.o.next mm)
     replace P:=Hy (P.o.keeps b)
     clear mm b
     have e0:=F.o.c0
     have e1:=F.o.c1
     go_wp2_with fail
     refine (aY B ⟨#[116,114,117,101]⟩ l _ P.o H3.o).mono ?_
     rintro e w2 ⟨rfl,pp,mm⟩
     replace F:=Hy (F.o.next mm)
     replace P:=Hy pp
     clear pp mm
     clear e0 e1
     go_wp2_with fail
     have CB:=Hy (kH 1 w2)
     refine (CB.o).mono ?_
     rintro e w3 ⟨rfl,b⟩
     have mm:=Mv.of (B:=B) b
     replace F:=Hy (F.o.next mm)
     replace P:=Hy (P.o.keeps b)
     clear mm b
     go_wp2_with (refine aP (.tmp 2) (.tmp 38) rfl rfl _ _ _ _ rfl rfl F.o.rz rfl rfl (aG _ _ _ _ _) ?_;intro w9 hb9 hs9)
     have F9:=F.o.set hs9 hb9
     have P9:=P.o.st hs9 (Nat.lt_succ_of_lt F.o.hB)
     refine aF rfl _ _ _ _ _ rfl hb9 rfl ?_
     exact aQ HR.o.symm ⟨none,0,none,0,rfl,jm _ _ _⟩ P9 F9.mv
end Go.Proofs.YtbpijgddfaefkaaGreatDoor.pa
