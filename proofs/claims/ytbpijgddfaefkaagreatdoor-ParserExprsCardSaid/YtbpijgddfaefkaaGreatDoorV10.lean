/-
  A window; a type; a field; Expressions that are made of others; An operator of a rank.
-/
import Derived.Test.YtbpijgddfaefkaaGreatDoorV09
set_option maxRecDepth 100000
set_option maxHeartbeats 16000000
namespace Go.Proofs.YtbpijgddfaefkaaGreatDoor.pa
open Go.RowKit dec
theorem lu (B:Nat) (l:List Tk) (w:World) (h:Ps w B l) (r:Rs (Int × Int)) (hr:win l=r) (hne:r≠.out) :
  Calls Tryz.prog 250 #[.pointer (some ⟨B,0,none⟩)] w (Pst B Wv r w):=by
 have P:=Hy h
 have M:=Hy (Mv.refl w.heap.size B w)
 have NE:=Hy hne
 unfold win wrg at hr
 have HR:=Hy hr
 clear h hne hr
 have b1:=aj (b0 w) (.cells #[.int .i64 0,.int .i64 0] 40)
 have hlt:=Hy P.o.lt
 replace P:=Hy (P.o.keeps b1)
 replace M:=Hy (Mv.of (B:=B) b1)
 have R:=Hy (Blk.new w 40 #[.int .i64 0,.int .i64 0])
 have F2:=fH
 clear b1
 cases ht0:isT ⟨#[97,108,108]⟩ l
 ·replace HR:=HR.o
  rw [ht0,if_neg (by decide)] at HR
  replace HR:=Hy HR
  replace ht0:=Hy ht0
  cases ht1:isT ⟨#[115,108,105,100,105,110,103]⟩ l
  ·replace HR:=HR.o
   rw [ht1,if_neg (by decide)] at HR
   replace HR:=Hy HR
   replace ht1:=Hy ht1
   cases ht2:isT ⟨#[116,117,109,98,108,105,110,103]⟩ l
   ·replace HR:=HR.o
    rw [ht2,if_neg (by decide)] at HR
    replace HR:=Hy HR
    replace ht2:=Hy ht2
    cases ht3:isT ⟨#[115,101,115,115,105,111,110]⟩ l
    ·replace HR:=HR.o
     rw [ht3,if_neg (by decide)] at HR
     replace HR:=Hy HR
     replace ht3:=Hy ht3
     go_enter Tryz.func250,Tryz.ntmps250
     go_wp2_with fail
     refine (aN B ⟨#[97,108,108]⟩ l _ P.o ht0.o).mono ?_
     rintro e w1 ⟨rfl,pp,mm⟩
     replace M:=Hy (M.o.next mm)
     replace R:=Hy (R.o.mv mm (by have:=hlt.o;omega) R.o.lt)
     replace P:=Hy pp
     clear pp mm
     go_wp2_with fail
     refine (aN B ⟨#[115,108,105,100,105,110,103]⟩ l _ P.o ht1.o).mono ?_
     rintro e w2 ⟨rfl,pp,mm⟩
     replace M:=Hy (M.o.next mm)
     replace R:=Hy (R.o.mv mm (by have:=hlt.o;omega) R.o.lt)
     replace P:=Hy pp
     clear pp mm
     go_wp2_with fail
     refine (aN B ⟨#[116,117,109,98,108,105,110,103]⟩ l _ P.o ht2.o).mono ?_
     rintro e w3 ⟨rfl,pp,mm⟩
     replace M:=Hy (M.o.next mm)
     replace R:=Hy (R.o.mv mm (by have:=hlt.o;omega) R.o.lt)
     replace P:=Hy pp
     clear pp mm
     go_wp2_with fail
     refine (aN B ⟨#[115,101,115,115,105,111,110]⟩ l _ P.o ht3.o).mono ?_
     rintro e w4 ⟨rfl,pp,mm⟩
     replace M:=Hy (M.o.next mm)
     replace R:=Hy (R.o.mv mm (by have:=hlt.o;omega) R.o.lt)
     replace P:=Hy pp
     clear pp mm
     have C9:=Hy (fO B l _ P.o)
     go_wp2_with fail
     refine (C9.o).mono ?_
     rintro e w5 ⟨rfl,b⟩
     have mm:=Mv.of (B:=B) b
     replace M:=Hy (M.o.next mm)
     replace R:=Hy (R.o.mv mm (by have:=hlt.o;omega) R.o.lt)
     replace P:=Hy (P.o.keeps b)
     clear mm b
     go_wp2_with fail
     exact ⟨rfl,aI HR.o.symm P.o M.o⟩
    ·replace HR:=HR.o
     rw [ht3,if_pos rfl] at HR
     replace HR:=Hy HR
     replace ht3:=Hy ht3
     go_enter Tryz.func250,Tryz.ntmps250
     go_wp2_with fail
     refine (aN B ⟨#[97,108,108]⟩ l _ P.o ht0.o).mono ?_
     rintro e w1 ⟨rfl,pp,mm⟩
     replace M:=Hy (M.o.next mm)
     replace R:=Hy (R.o.mv mm (by have:=hlt.o;omega) R.o.lt)
     replace P:=Hy pp
     clear pp mm
     go_wp2_with fail
     refine (aN B ⟨#[115,108,105,100,105,110,103]⟩ l _ P.o ht1.o).mono ?_
     rintro e w2 ⟨rfl,pp,mm⟩
     replace M:=Hy (M.o.next mm)
     replace R:=Hy (R.o.mv mm (by have:=hlt.o;omega) R.o.lt)
     replace P:=Hy pp
     clear pp mm
     go_wp2_with fail
     refine (aN B ⟨#[116,117,109,98,108,105,110,103]⟩ l _ P.o ht2.o).mono ?_
     rintro e w3 ⟨rfl,pp,mm⟩
     replace M:=Hy (M.o.next mm)
     replace R:=Hy (R.o.mv mm (by have:=hlt.o;omega) R.o.lt)
     replace P:=Hy pp
     clear pp mm
     go_wp2_with fail
     refine (aY B ⟨#[115,101,115,115,105,111,110]⟩ l _ P.o ht3.o).mono ?_
     rintro e w4 ⟨rfl,pp,mm⟩
     replace M:=Hy (M.o.next mm)
     replace R:=Hy (R.o.mv mm (by have:=hlt.o;omega) R.o.lt)
     replace P:=Hy pp
     clear pp mm
     go_wp2_with fail
     refine (dH B l.tail _ P.o _ rfl (int_ne _)).mono ?_
     rintro e w5 h5
     rcases hG5:int l.tail with _ | ⟨v5,l5⟩ | ⟨a5,c5,l5⟩
     ·exact absurd (by rw [← HR.o,hG5];rfl) NE.o
     rotate_left
     ·rw [hG5] at h5
      obtain ⟨rfl,pp,mm⟩:=h5
      unfold thr
      have hno:=Hy (show r=.no a5 c5 l5 by rw [← HR.o,hG5];rfl)
      have PP:=Hy pp
      have MM:=Hy (M.o.next mm)
      clear pp mm hG5
      go_wp2_with fail
      exact ⟨rfl,aI hno.o PP.o MM.o⟩
     rw [hG5] at h5
     obtain ⟨u5,rfl,vv,pp,mm⟩:=h5
     replace HR:=HR.o
     rw [hG5] at HR
     simp only [aC] at HR
     replace HR:=Hy HR
     replace M:=Hy (M.o.next mm)
     replace R:=Hy (R.o.mv mm (by have:=hlt.o;omega) R.o.lt)
     replace P:=Hy pp
     clear pp mm hG5
     obtain rfl:u5=.int .i64 v5:=vv
     go_wp2_with (refine aB dQ (.tmp 2) (.tmp 24) rfl rfl _ _ _ _ rfl rfl R.o rfl rfl (by simp [Value.oneCell']) ?_;intro w9 hb9 hs9)
     have P9:=Hy (P.o.st hs9 hlt.o)
     have M9:=Hy (M.o.trans (hs9.mv (Nat.le_refl _)))
     refine bO dQ Tryz.underlying40 rfl rfl _ _ _ _ _ rfl hb9 rfl ?_
     exact aQ HR.o.symm rfl P9.o M9.o
   ·replace HR:=HR.o
    rw [ht2,if_pos rfl] at HR
    replace HR:=Hy HR
    replace ht2:=Hy ht2
    go_enter Tryz.func250,Tryz.ntmps250
    go_wp2_with fail
    refine (aN B ⟨#[97,108,108]⟩ l _ P.o ht0.o).mono ?_
    rintro e w1 ⟨rfl,pp,mm⟩
    replace M:=Hy (M.o.next mm)
    replace R:=Hy (R.o.mv mm (by have:=hlt.o;omega) R.o.lt)
    replace P:=Hy pp
    clear pp mm
    go_wp2_with fail
    refine (aN B ⟨#[115,108,105,100,105,110,103]⟩ l _ P.o ht1.o).mono ?_
    rintro e w2 ⟨rfl,pp,mm⟩
    replace M:=Hy (M.o.next mm)
    replace R:=Hy (R.o.mv mm (by have:=hlt.o;omega) R.o.lt)
    replace P:=Hy pp
    clear pp mm
    go_wp2_with fail
    refine (aY B ⟨#[116,117,109,98,108,105,110,103]⟩ l _ P.o ht2.o).mono ?_
    rintro e w3 ⟨rfl,pp,mm⟩
    replace M:=Hy (M.o.next mm)
    replace R:=Hy (R.o.mv mm (by have:=hlt.o;omega) R.o.lt)
    replace P:=Hy pp
    clear pp mm
    go_wp2_with fail
    refine (dH B l.tail _ P.o _ rfl (int_ne _)).mono ?_
    rintro e w4 h4
    rcases hG4:int l.tail with _ | ⟨v4,l4⟩ | ⟨a4,c4,l4⟩
    ·exact absurd (by rw [← HR.o,hG4];rfl) NE.o
    rotate_left
    ·rw [hG4] at h4
     obtain ⟨rfl,pp,mm⟩:=h4
     unfold thr
     have hno:=Hy (show r=.no a4 c4 l4 by rw [← HR.o,hG4];rfl)
     have PP:=Hy pp
     have MM:=Hy (M.o.next mm)
     clear pp mm hG4
     go_wp2_with fail
     exact ⟨rfl,aI hno.o PP.o MM.o⟩
    rw [hG4] at h4
    obtain ⟨u4,rfl,vv,pp,mm⟩:=h4
    replace HR:=HR.o
    rw [hG4] at HR
    simp only [aC] at HR
    replace HR:=Hy HR
    replace M:=Hy (M.o.next mm)
    replace R:=Hy (R.o.mv mm (by have:=hlt.o;omega) R.o.lt)
    replace P:=Hy pp
    clear pp mm hG4
    obtain rfl:u4=.int .i64 v4:=vv
    go_wp2_with (refine aB dQ (.tmp 2) (.tmp 18) rfl rfl _ _ _ _ rfl rfl R.o rfl rfl (by simp [Value.oneCell']) ?_;intro w9 hb9 hs9)
    have P9:=Hy (P.o.st hs9 hlt.o)
    have M9:=Hy (M.o.trans (hs9.mv (Nat.le_refl _)))
    refine bO dQ Tryz.underlying40 rfl rfl _ _ _ _ _ rfl hb9 rfl ?_
    exact aQ HR.o.symm rfl P9.o M9.o
  ·replace HR:=HR.o
   rw [ht1,if_pos rfl] at HR
   replace HR:=Hy HR
   replace ht1:=Hy ht1
   go_enter Tryz.func250,Tryz.ntmps250
   go_wp2_with fail
   refine (aN B ⟨#[97,108,108]⟩ l _ P.o ht0.o).mono ?_
   rintro e w1 ⟨rfl,pp,mm⟩
   replace M:=Hy (M.o.next mm)
   replace R:=Hy (R.o.mv mm (by have:=hlt.o;omega) R.o.lt)
   replace P:=Hy pp
   clear pp mm
   go_wp2_with fail
   refine (aY B ⟨#[115,108,105,100,105,110,103]⟩ l _ P.o ht1.o).mono ?_
   rintro e w2 ⟨rfl,pp,mm⟩
   replace M:=Hy (M.o.next mm)
   replace R:=Hy (R.o.mv mm (by have:=hlt.o;omega) R.o.lt)
   replace P:=Hy pp
   clear pp mm
   go_wp2_with fail
   refine (dH B l.tail _ P.o _ rfl (int_ne _)).mono ?_
   rintro e w3 h3
   rcases hG3:int l.tail with _ | ⟨v3,l3⟩ | ⟨a3,c3,l3⟩
   ·exact absurd (by rw [← HR.o,hG3];rfl) NE.o
   rotate_left
   ·rw [hG3] at h3
    obtain ⟨rfl,pp,mm⟩:=h3
    unfold thr
    have hno:=Hy (show r=.no a3 c3 l3 by rw [← HR.o,hG3];rfl)
    have PP:=Hy pp
    have MM:=Hy (M.o.next mm)
    clear pp mm hG3
    go_wp2_with fail
    exact ⟨rfl,aI hno.o PP.o MM.o⟩
   rw [hG3] at h3
   obtain ⟨u3,rfl,vv,pp,mm⟩:=h3
   replace HR:=HR.o
   rw [hG3] at HR
   simp only [aC] at HR
   replace HR:=Hy HR
   replace M:=Hy (M.o.next mm)
   replace R:=Hy (R.o.mv mm (by have:=hlt.o;omega) R.o.lt)
   replace P:=Hy pp
   clear pp mm hG3
   obtain rfl:u3=.int .i64 v3:=vv
   go_wp2_with (refine aB dQ (.tmp 2) (.tmp 12) rfl rfl _ _ _ _ rfl rfl R.o rfl rfl (by simp [Value.oneCell']) ?_;intro w9 hb9 hs9)
   have P9:=Hy (P.o.st hs9 hlt.o)
   have M9:=Hy (M.o.trans (hs9.mv (Nat.le_refl _)))
   refine bO dQ Tryz.underlying40 rfl rfl _ _ _ _ _ rfl hb9 rfl ?_
   exact aQ HR.o.symm rfl P9.o M9.o
 ·replace HR:=HR.o
  rw [ht0,if_pos rfl] at HR
  replace HR:=Hy HR
  replace ht0:=Hy ht0
  go_enter Tryz.func250,Tryz.ntmps250
  go_wp2_with fail
  refine (aY B ⟨#[97,108,108]⟩ l _ P.o ht0.o).mono ?_
  rintro e w1 ⟨rfl,pp,mm⟩
  replace M:=Hy (M.o.next mm)
  replace R:=Hy (R.o.mv mm (by have:=hlt.o;omega) R.o.lt)
  replace P:=Hy pp
  clear pp mm
  go_wp2_with (refine aB dQ (.tmp 2) (.tmp 6) rfl rfl _ _ _ _ rfl rfl R.o rfl rfl (by simp [Value.oneCell']) ?_;intro w9 hb9 hs9)
  have P9:=Hy (P.o.st hs9 hlt.o)
  have M9:=Hy (M.o.trans (hs9.mv (Nat.le_refl _)))
  refine bO dQ Tryz.underlying40 rfl rfl _ _ _ _ _ rfl hb9 rfl ?_
  exact aQ HR.o.symm rfl P9.o M9.o
theorem uK (B:Nat) (l:List Tk) (w:World) (h:Ps w B l) (r:Rs Ty) (hr:typ l=r) (hne:r≠.out) :
  Calls Tryz.prog 51 #[.pointer (some ⟨B,0,none⟩)] w (Pst B Tv r w):=by
 have P:=Hy h
 have M:=Hy (Mv.refl w.heap.size B w)
 have NE:=Hy hne
 unfold typ wrg at hr
 have HR:=Hy hr
 clear h hne hr
 have b1:=aj (b0 w) (.cells #[.int .i64 0,.slice none 0 0,.string ⟨#[]⟩] 47)
 have hlt:=Hy P.o.lt
 replace P:=Hy (P.o.keeps b1)
 replace M:=Hy (Mv.of (B:=B) b1)
 have R:=Hy (Blk.new w 47 #[.int .i64 0,.slice none 0 0,.string ⟨#[]⟩])
 have F2:=fH
 clear b1
 cases ht0:isT ⟨#[98,111,111,108]⟩ l
 ·replace HR:=HR.o
  rw [ht0,if_neg (by decide)] at HR
  replace HR:=Hy HR
  replace ht0:=Hy ht0
  cases ht1:isT ⟨#[116,101,120,116]⟩ l
  ·replace HR:=HR.o
   rw [ht1,if_neg (by decide)] at HR
   replace HR:=Hy HR
   replace ht1:=Hy ht1
   cases ht2:isT ⟨#[107,101,121]⟩ l
   ·replace HR:=HR.o
    rw [ht2,if_neg (by decide)] at HR
    replace HR:=Hy HR
    replace ht2:=Hy ht2
    cases ht3:isT ⟨#[105,110,116]⟩ l
    ·replace HR:=HR.o
     rw [ht3,if_neg (by decide)] at HR
     replace HR:=Hy HR
     replace ht3:=Hy ht3
     cases ht4:isT ⟨#[100,101,99]⟩ l
     ·replace HR:=HR.o
      rw [ht4,if_neg (by decide)] at HR
      replace HR:=Hy HR
      replace ht4:=Hy ht4
      go_enter Tryz.func51,Tryz.ntmps51
      go_wp2_with fail
      refine (aN B ⟨#[98,111,111,108]⟩ l _ P.o ht0.o).mono ?_
      rintro e w1 ⟨rfl,pp,mm⟩
      replace M:=Hy (M.o.next mm)
      replace R:=Hy (R.o.mv mm (by have:=hlt.o;omega) R.o.lt)
      replace P:=Hy pp
      clear pp mm
      go_wp2_with fail
      refine (aN B ⟨#[116,101,120,116]⟩ l _ P.o ht1.o).mono ?_
      rintro e w2 ⟨rfl,pp,mm⟩
      replace M:=Hy (M.o.next mm)
      replace R:=Hy (R.o.mv mm (by have:=hlt.o;omega) R.o.lt)
      replace P:=Hy pp
      clear pp mm
      go_wp2_with fail
      refine (aN B ⟨#[107,101,121]⟩ l _ P.o ht2.o).mono ?_
      rintro e w3 ⟨rfl,pp,mm⟩
      replace M:=Hy (M.o.next mm)
      replace R:=Hy (R.o.mv mm (by have:=hlt.o;omega) R.o.lt)
      replace P:=Hy pp
      clear pp mm
      go_wp2_with fail
      refine (aN B ⟨#[105,110,116]⟩ l _ P.o ht3.o).mono ?_
      rintro e w4 ⟨rfl,pp,mm⟩
      replace M:=Hy (M.o.next mm)
      replace R:=Hy (R.o.mv mm (by have:=hlt.o;omega) R.o.lt)
      replace P:=Hy pp
      clear pp mm
      go_wp2_with fail
      refine (aN B ⟨#[100,101,99]⟩ l _ P.o ht4.o).mono ?_
      rintro e w5 ⟨rfl,pp,mm⟩
      replace M:=Hy (M.o.next mm)
      replace R:=Hy (R.o.mv mm (by have:=hlt.o;omega) R.o.lt)
      replace P:=Hy pp
      clear pp mm
      have C9:=Hy (fO B l _ P.o)
      go_wp2_with fail
      refine (C9.o).mono ?_
      rintro e w6 ⟨rfl,b⟩
      have mm:=Mv.of (B:=B) b
      replace M:=Hy (M.o.next mm)
      replace R:=Hy (R.o.mv mm (by have:=hlt.o;omega) R.o.lt)
      replace P:=Hy (P.o.keeps b)
      clear mm b
      go_wp2_with fail
      exact ⟨rfl,aI HR.o.symm P.o M.o⟩
     ·replace HR:=HR.o
      rw [ht4,if_pos rfl] at HR
      replace HR:=Hy HR
      replace ht4:=Hy ht4
      go_enter Tryz.func51,Tryz.ntmps51
      go_wp2_with fail
      refine (aN B ⟨#[98,111,111,108]⟩ l _ P.o ht0.o).mono ?_
      rintro e w1 ⟨rfl,pp,mm⟩
      replace M:=Hy (M.o.next mm)
      replace R:=Hy (R.o.mv mm (by have:=hlt.o;omega) R.o.lt)
      replace P:=Hy pp
      clear pp mm
      go_wp2_with fail
      refine (aN B ⟨#[116,101,120,116]⟩ l _ P.o ht1.o).mono ?_
      rintro e w2 ⟨rfl,pp,mm⟩
      replace M:=Hy (M.o.next mm)
      replace R:=Hy (R.o.mv mm (by have:=hlt.o;omega) R.o.lt)
      replace P:=Hy pp
      clear pp mm
      go_wp2_with fail
      refine (aN B ⟨#[107,101,121]⟩ l _ P.o ht2.o).mono ?_
      rintro e w3 ⟨rfl,pp,mm⟩
      replace M:=Hy (M.o.next mm)
      replace R:=Hy (R.o.mv mm (by have:=hlt.o;omega) R.o.lt)
      replace P:=Hy pp
      clear pp mm
      go_wp2_with fail
      refine (aN B ⟨#[105,110,116]⟩ l _ P.o ht3.o).mono ?_
      rintro e w4 ⟨rfl,pp,mm⟩
      replace M:=Hy (M.o.next mm)
      replace R:=Hy (R.o.mv mm (by have:=hlt.o;omega) R.o.lt)
      replace P:=Hy pp
      clear pp mm
      go_wp2_with fail
      refine (aY B ⟨#[100,101,99]⟩ l _ P.o ht4.o).mono ?_
      rintro e w5 ⟨rfl,pp,mm⟩
      replace M:=Hy (M.o.next mm)
      replace R:=Hy (R.o.mv mm (by have:=hlt.o;omega) R.o.lt)
      replace P:=Hy pp
      clear pp mm
      go_wp2_with fail
      have hg:=Hy R.o.lt
      refine (pE B l.tail _ P.o _ rfl (jc _)).mono ?_
      rintro e w6 h6
      rcases hG6:uni l.tail with _ | ⟨v6,l6⟩ | ⟨a6,c6,l6⟩
      ·exact absurd (by rw [← HR.o,hG6];rfl) NE.o
      rotate_left
      ·rw [hG6] at h6
       obtain ⟨rfl,pp,mm⟩:=h6
       unfold thr
       have hno:=Hy (show r=.no a6 c6 l6 by rw [← HR.o,hG6];rfl)
       have PP:=Hy pp
       have MM:=Hy (M.o.next mm)
       clear pp mm hG6
       go_wp2_with fail
       exact ⟨rfl,aI hno.o PP.o MM.o⟩
      rw [hG6] at h6
      obtain ⟨u6,rfl,vv,pp,mm⟩:=h6
      replace HR:=HR.o
      rw [hG6] at HR
      simp only [aC] at HR
      replace HR:=Hy HR
      replace M:=Hy (M.o.next mm)
      replace R:=Hy (R.o.mv mm (by have:=hlt.o;omega) R.o.lt)
      replace P:=Hy pp
      clear pp mm hG6
      have V6:=Hy vv
      clear vv
      obtain ⟨ua,uc,rfl,U⟩:=V6.o
      replace U:=Hy (Us.less U hg.o)
      clear V6
      go_wp2_with (refine aB aV (.tmp 2) (.tmp 28) rfl rfl _ _ _ _ rfl rfl R.o rfl rfl (by simp [Value.oneCell']) ?_;intro w9 hb9 hs9)
      have P9:=Hy (P.o.st hs9 hlt.o)
      have M9:=Hy (M.o.trans (hs9.mv (Nat.le_refl _)))
      have U9:=Hy ((Us.kp U.o (hs9.kp (Nat.lt_succ_self _))).less (Nat.le_succ _))
      refine bO aV Tryz.underlying47 rfl rfl _ _ _ _ _ rfl hb9 rfl ?_
      exact aQ HR.o.symm ⟨ua,uc,rfl,U9.o⟩ P9.o M9.o
    ·replace HR:=HR.o
     rw [ht3,if_pos rfl] at HR
     replace HR:=Hy HR
     replace ht3:=Hy ht3
     go_enter Tryz.func51,Tryz.ntmps51
     go_wp2_with fail
     refine (aN B ⟨#[98,111,111,108]⟩ l _ P.o ht0.o).mono ?_
     rintro e w1 ⟨rfl,pp,mm⟩
     replace M:=Hy (M.o.next mm)
     replace R:=Hy (R.o.mv mm (by have:=hlt.o;omega) R.o.lt)
     replace P:=Hy pp
     clear pp mm
     go_wp2_with fail
     refine (aN B ⟨#[116,101,120,116]⟩ l _ P.o ht1.o).mono ?_
     rintro e w2 ⟨rfl,pp,mm⟩
     replace M:=Hy (M.o.next mm)
     replace R:=Hy (R.o.mv mm (by have:=hlt.o;omega) R.o.lt)
     replace P:=Hy pp
     clear pp mm
     go_wp2_with fail
     refine (aN B ⟨#[107,101,121]⟩ l _ P.o ht2.o).mono ?_
     rintro e w3 ⟨rfl,pp,mm⟩
     replace M:=Hy (M.o.next mm)
     replace R:=Hy (R.o.mv mm (by have:=hlt.o;omega) R.o.lt)
     replace P:=Hy pp
     clear pp mm
     go_wp2_with fail
     refine (aY B ⟨#[105,110,116]⟩ l _ P.o ht3.o).mono ?_
     rintro e w4 ⟨rfl,pp,mm⟩
     replace M:=Hy (M.o.next mm)
     replace R:=Hy (R.o.mv mm (by have:=hlt.o;omega) R.o.lt)
     replace P:=Hy pp
     clear pp mm
     go_wp2_with fail
     have hg:=Hy R.o.lt
     refine (pE B l.tail _ P.o _ rfl (jc _)).mono ?_
     rintro e w5 h5
     rcases hG5:uni l.tail with _ | ⟨v5,l5⟩ | ⟨a5,c5,l5⟩
     ·exact absurd (by rw [← HR.o,hG5];rfl) NE.o
     rotate_left
     ·rw [hG5] at h5
      obtain ⟨rfl,pp,mm⟩:=h5
      unfold thr
      have hno:=Hy (show r=.no a5 c5 l5 by rw [← HR.o,hG5];rfl)
      have PP:=Hy pp
      have MM:=Hy (M.o.next mm)
      clear pp mm hG5
      go_wp2_with fail
      exact ⟨rfl,aI hno.o PP.o MM.o⟩
     rw [hG5] at h5
     obtain ⟨u5,rfl,vv,pp,mm⟩:=h5
     replace HR:=HR.o
     rw [hG5] at HR
     simp only [aC] at HR
     replace HR:=Hy HR
     replace M:=Hy (M.o.next mm)
     replace R:=Hy (R.o.mv mm (by have:=hlt.o;omega) R.o.lt)
     replace P:=Hy pp
     clear pp mm hG5
     have V5:=Hy vv
     clear vv
     obtain ⟨ua,uc,rfl,U⟩:=V5.o
     replace U:=Hy (Us.less U hg.o)
     clear V5
     go_wp2_with (refine aB aV (.tmp 2) (.tmp 22) rfl rfl _ _ _ _ rfl rfl R.o rfl rfl (by simp [Value.oneCell']) ?_;intro w9 hb9 hs9)
     have P9:=Hy (P.o.st hs9 hlt.o)
     have M9:=Hy (M.o.trans (hs9.mv (Nat.le_refl _)))
     have U9:=Hy ((Us.kp U.o (hs9.kp (Nat.lt_succ_self _))).less (Nat.le_succ _))
     refine bO aV Tryz.underlying47 rfl rfl _ _ _ _ _ rfl hb9 rfl ?_
     exact aQ HR.o.symm ⟨ua,uc,rfl,U9.o⟩ P9.o M9.o
   ·replace HR:=HR.o
    rw [ht2,if_pos rfl] at HR
    replace HR:=Hy HR
    replace ht2:=Hy ht2
    go_enter Tryz.func51,Tryz.ntmps51
    go_wp2_with fail
    refine (aN B ⟨#[98,111,111,108]⟩ l _ P.o ht0.o).mono ?_
    rintro e w1 ⟨rfl,pp,mm⟩
    replace M:=Hy (M.o.next mm)
    replace R:=Hy (R.o.mv mm (by have:=hlt.o;omega) R.o.lt)
    replace P:=Hy pp
    clear pp mm
    go_wp2_with fail
    refine (aN B ⟨#[116,101,120,116]⟩ l _ P.o ht1.o).mono ?_
    rintro e w2 ⟨rfl,pp,mm⟩
    replace M:=Hy (M.o.next mm)
    replace R:=Hy (R.o.mv mm (by have:=hlt.o;omega) R.o.lt)
    replace P:=Hy pp
    clear pp mm
    go_wp2_with fail
    refine (aY B ⟨#[107,101,121]⟩ l _ P.o ht2.o).mono ?_
    rintro e w3 ⟨rfl,pp,mm⟩
    replace M:=Hy (M.o.next mm)
    replace R:=Hy (R.o.mv mm (by have:=hlt.o;omega) R.o.lt)
    replace P:=Hy pp
    clear pp mm
    go_wp2_with fail
    refine (jO B l.tail _ P.o _ rfl (dJ _)).mono ?_
    rintro e w4 h4
    rcases hG4:nam l.tail with _ | ⟨v4,l4⟩ | ⟨a4,c4,l4⟩
    ·exact absurd (by rw [← HR.o,hG4];rfl) NE.o
    rotate_left
    ·rw [hG4] at h4
     obtain ⟨rfl,pp,mm⟩:=h4
     unfold thr
     have hno:=Hy (show r=.no a4 c4 l4 by rw [← HR.o,hG4];rfl)
     have PP:=Hy pp
     have MM:=Hy (M.o.next mm)
     clear pp mm hG4
     go_wp2_with fail
     exact ⟨rfl,aI hno.o PP.o MM.o⟩
    rw [hG4] at h4
    obtain ⟨u4,rfl,vv,pp,mm⟩:=h4
    replace HR:=HR.o
    rw [hG4] at HR
    simp only [aC] at HR
    replace HR:=Hy HR
    replace M:=Hy (M.o.next mm)
    replace R:=Hy (R.o.mv mm (by have:=hlt.o;omega) R.o.lt)
    replace P:=Hy pp
    clear pp mm hG4
    obtain rfl:u4=.string v4:=vv
    go_wp2_with (refine aB aV (.tmp 2) (.tmp 16) rfl rfl _ _ _ _ rfl rfl R.o rfl rfl (by simp [Value.oneCell']) ?_;intro w9 hb9 hs9)
    have P9:=Hy (P.o.st hs9 hlt.o)
    have M9:=Hy (M.o.trans (hs9.mv (Nat.le_refl _)))
    refine bO aV Tryz.underlying47 rfl rfl _ _ _ _ _ rfl hb9 rfl ?_
    exact aQ HR.o.symm ⟨none,0,rfl,Us.nil _ _ _⟩ P9.o M9.o
  ·replace HR:=HR.o
   rw [ht1,if_pos rfl] at HR
   replace HR:=Hy HR
   replace ht1:=Hy ht1
   go_enter Tryz.func51,Tryz.ntmps51
   go_wp2_with fail
   refine (aN B ⟨#[98,111,111,108]⟩ l _ P.o ht0.o).mono ?_
   rintro e w1 ⟨rfl,pp,mm⟩
   replace M:=Hy (M.o.next mm)
   replace R:=Hy (R.o.mv mm (by have:=hlt.o;omega) R.o.lt)
   replace P:=Hy pp
   clear pp mm
   go_wp2_with fail
   refine (aY B ⟨#[116,101,120,116]⟩ l _ P.o ht1.o).mono ?_
   rintro e w2 ⟨rfl,pp,mm⟩
   replace M:=Hy (M.o.next mm)
   replace R:=Hy (R.o.mv mm (by have:=hlt.o;omega) R.o.lt)
   replace P:=Hy pp
   clear pp mm
   go_wp2_with (refine aB aV (.tmp 2) (.tmp 10) rfl rfl _ _ _ _ rfl rfl R.o rfl rfl (by simp [Value.oneCell']) ?_;intro w9 hb9 hs9)
   have P9:=Hy (P.o.st hs9 hlt.o)
   have M9:=Hy (M.o.trans (hs9.mv (Nat.le_refl _)))
   refine bO aV Tryz.underlying47 rfl rfl _ _ _ _ _ rfl hb9 rfl ?_
   exact aQ HR.o.symm ⟨none,0,rfl,Us.nil _ _ _⟩ P9.o M9.o
 ·replace HR:=HR.o
  rw [ht0,if_pos rfl] at HR
  replace HR:=Hy HR
  replace ht0:=Hy ht0
  go_enter Tryz.func51,Tryz.ntmps51
  go_wp2_with fail
  refine (aY B ⟨#[98,111,111,108]⟩ l _ P.o ht0.o).mono ?_
  rintro e w1 ⟨rfl,pp,mm⟩
  replace M:=Hy (M.o.next mm)
  replace R:=Hy (R.o.mv mm (by have:=hlt.o;omega) R.o.lt)
  replace P:=Hy pp
  clear pp mm
  go_wp2_with (refine aB aV (.tmp 2) (.tmp 6) rfl rfl _ _ _ _ rfl rfl R.o rfl rfl (by simp [Value.oneCell']) ?_;intro w9 hb9 hs9)
  have P9:=Hy (P.o.st hs9 hlt.o)
  have M9:=Hy (M.o.trans (hs9.mv (Nat.le_refl _)))
  refine bO aV Tryz.underlying47 rfl rfl _ _ _ _ _ rfl hb9 rfl ?_
  exact aQ HR.o.symm ⟨none,0,rfl,Us.nil _ _ _⟩ P9.o M9.o
def fie (l:List Tk):Rs Fi:=(nam l).bind fun n r=>(need ⟨#[58]⟩ r).bind fun _ r=>(typ r).bind fun t r=>.ok ⟨n,t⟩ r
theorem qB {l r:List Tk} {v:Fi} (h:fie l=.ok v r):r.length<l.length:=by
 obtain ⟨n,q,h1,h⟩:=bind_ok h
 obtain ⟨_,q2,h2,h⟩:=bind_ok h
 obtain ⟨t,q3,h3,h⟩:=bind_ok h
 cases h
 have:=iO h1
 have:=bE h2
 have:=Jo h3
 omega
theorem kX (l:List Tk):fie l≠.out:=aM (dJ _) fun _ _ _=>aM (bD _ _) fun _ _ _=>aM (jd _) fun _ _ _ h=>by cases h
theorem yZ (B:Nat) (l:List Tk) (w:World) (h:Ps w B l) (r:Rs Fi) (hr:fie l=r) (hne:r≠.out) :
  Calls Tryz.prog 122 #[.pointer (some ⟨B,0,none⟩)] w (Pst B Dv r w):=by
 have P:=Hy h
 have M:=Hy (Mv.refl w.heap.size B w)
 have NE:=Hy hne
 unfold fie at hr
 have HR:=Hy hr
 clear h hne hr
 have b1:=aj (b0 w) (.cells #[.string ⟨#[]⟩,.int .i64 0,.slice none 0 0,.string ⟨#[]⟩] 140)
 have hlt:=Hy P.o.lt
 replace P:=Hy (P.o.keeps b1)
 replace M:=Hy (Mv.of (B:=B) b1)
 have R:=Hy (Blk.new w 140 #[.string ⟨#[]⟩,.int .i64 0,.slice none 0 0,.string ⟨#[]⟩])
 have F2:=fH
 clear b1
 go_enter Tryz.func122,Tryz.ntmps122
 go_wp2_with fail
 refine (jO B l _ P.o _ rfl (dJ _)).mono ?_
 rintro e w1 h1
 rcases hG1:nam l with _ | ⟨v1,l1⟩ | ⟨a1,c1,l1⟩
 ·exact absurd (by rw [← HR.o,hG1];rfl) NE.o
 rotate_left
 ·rw [hG1] at h1
  obtain ⟨rfl,pp,mm⟩:=h1
  unfold thr
  have hno:=Hy (show r=.no a1 c1 l1 by rw [← HR.o,hG1];rfl)
  have PP:=Hy pp
  have MM:=Hy (M.o.next mm)
  clear pp mm hG1
  go_wp2_with fail
  exact ⟨rfl,aI hno.o PP.o MM.o⟩
 rw [hG1] at h1
 obtain ⟨u1,rfl,vv,pp,mm⟩:=h1
 replace HR:=HR.o
 rw [hG1] at HR
 simp only [aC] at HR
 replace HR:=Hy HR
 replace M:=Hy (M.o.next mm)
 replace R:=Hy (R.o.mv mm (by have:=hlt.o;omega) R.o.lt)
 replace P:=Hy pp
 clear pp mm hG1
 obtain rfl:u1=.string v1:=vv
 go_wp2_with fail
 refine (aZ B ⟨#[58]⟩ l1 _ P.o).mono ?_
 rintro e w2 h2
 rcases hG2:need ⟨#[58]⟩ l1 with _ | ⟨v2,l2⟩ | ⟨a2,c2,l2⟩
 ·exact absurd (by rw [← HR.o,hG2];rfl) NE.o
 rotate_left
 ·rw [hG2] at h2
  obtain ⟨rfl,pp,mm⟩:=h2
  unfold thr
  have hno:=Hy (show r=.no a2 c2 l2 by rw [← HR.o,hG2];rfl)
  have PP:=Hy pp
  have MM:=Hy (M.o.next mm)
  clear pp mm hG2
  go_wp2_with fail
  exact ⟨rfl,aI hno.o PP.o MM.o⟩
 rw [hG2] at h2
 obtain ⟨u2,rfl,vv,pp,mm⟩:=h2
 replace HR:=HR.o
 rw [hG2] at HR
 simp only [aC] at HR
 replace HR:=Hy HR
 replace M:=Hy (M.o.next mm)
 replace R:=Hy (R.o.mv mm (by have:=hlt.o;omega) R.o.lt)
 replace P:=Hy pp
 clear pp mm hG2
 obtain rfl:u2=.tuple #[]:=vv
 have hg:=Hy R.o.lt
 go_wp2_with fail
 refine (uK B l2 _ P.o _ rfl (jd _)).mono ?_
 rintro e w3 h3
 rcases hG3:typ l2 with _ | ⟨v3,l3⟩ | ⟨a3,c3,l3⟩
 ·exact absurd (by rw [← HR.o,hG3];rfl) NE.o
 rotate_left
 ·rw [hG3] at h3
  obtain ⟨rfl,pp,mm⟩:=h3
  unfold thr
  have hno:=Hy (show r=.no a3 c3 l3 by rw [← HR.o,hG3];rfl)
  have PP:=Hy pp
  have MM:=Hy (M.o.next mm)
  clear pp mm hG3
  go_wp2_with fail
  exact ⟨rfl,aI hno.o PP.o MM.o⟩
 rw [hG3] at h3
 obtain ⟨u3,rfl,vv,pp,mm⟩:=h3
 replace HR:=HR.o
 rw [hG3] at HR
 simp only [aC] at HR
 replace HR:=Hy HR
 replace M:=Hy (M.o.next mm)
 replace R:=Hy (R.o.mv mm (by have:=hlt.o;omega) R.o.lt)
 replace P:=Hy pp
 clear pp mm hG3
 have V3:=Hy vv
 clear vv
 obtain ⟨ua,uc,rfl,U⟩:=V3.o
 replace U:=Hy (Us.less U hg.o)
 clear V3
 go_wp2_with (refine aB FL (.tmp 2) (.tmp 11) rfl rfl _ _ _ _ rfl rfl R.o rfl rfl (by simp [Value.oneCell']) ?_;intro w9 hb9 hs9)
 have P9:=Hy (P.o.st hs9 hlt.o)
 have M9:=Hy (M.o.trans (hs9.mv (Nat.le_refl _)))
 have U9:=Hy ((Us.kp U.o (hs9.kp (Nat.lt_succ_self _))).less (Nat.le_succ _))
 refine bO FL Tryz.underlying140 rfl rfl _ _ _ _ _ rfl hb9 rfl ?_
 exact aQ HR.o.symm ⟨ua,uc,rfl,U9.o⟩ P9.o M9.o
theorem str_eq (a:ByteArray) (l:List UInt8):(a.toList==l)=decide (a=⟨l.toArray⟩):=by
 rw [ByteArray.toList_eq]
 by_cases hs:a=⟨l.toArray⟩
 ·subst hs
  simp
 ·rw [decide_eq_false hs,beq_eq_false_iff_ne]
  intro e
  apply hs
  cases a
  simp only at e
  rw [← e]
def ex1 (x:Ex) (uax:Option Addr) (ucx:Nat) (aax:Option Addr) (acx:Nat):Array Value:=#[.int .i64 x.h.k,.string x.h.op,.string x.h.nm,.string x.h.tb,.int .i64 x.h.vk,.int .i64 x.h.vn,.string x.h.vs,.slice uax x.h.un.length ucx,.int .i64 x.h.pa,.int .i64 x.h.wk,.int .i64 x.h.ws,.slice aax x.ar.len acx]
theorem rR {C:Nat} {w:World} {g:Nat} {x:Ex} {uax:Option Addr} {ucx:Nat} {aax:Option Addr} {acx:Nat} (hB:Blk w g 43 (ex1 x uax ucx aax acx)) (Ex:Ec C w x uax aax) (hC:C≤g):As C w (some ⟨g,0,none⟩) (.cons x.h x.ar .nil) :=
 .inr ⟨g,0,rfl,hC,hB.tg,⟨⟨uax,ucx,aax,acx,⟨hB.cell (0),hB.cell (0+1),hB.cell (0+2),hB.cell (0+3),hB.cell (0+4),hB.cell (0+5),hB.cell (0+6),hB.cell (0+7),hB.cell (0+8),hB.cell (0+9),hB.cell (0+10),hB.cell (0+11)⟩,Ex.us,Ex.ar⟩,trivial⟩⟩
def ex2 (x:Ex) (uax:Option Addr) (ucx:Nat) (aax:Option Addr) (acx:Nat) (y:Ex) (uay:Option Addr) (ucy:Nat) (aay:Option Addr) (acy:Nat):Array Value:=#[.int .i64 x.h.k,.string x.h.op,.string x.h.nm,.string x.h.tb,.int .i64 x.h.vk,.int .i64 x.h.vn,.string x.h.vs,.slice uax x.h.un.length ucx,.int .i64 x.h.pa,.int .i64 x.h.wk,.int .i64 x.h.ws,.slice aax x.ar.len acx,.int .i64 y.h.k,.string y.h.op,.string y.h.nm,.string y.h.tb,.int .i64 y.h.vk,.int .i64 y.h.vn,.string y.h.vs,.slice uay y.h.un.length ucy,.int .i64 y.h.pa,.int .i64 y.h.wk,.int .i64 y.h.ws,.slice aay y.ar.len acy]
theorem eF {C:Nat} {w:World} {g:Nat} {x:Ex} {uax:Option Addr} {ucx:Nat} {aax:Option Addr} {acx:Nat} {y:Ex} {uay:Option Addr} {ucy:Nat} {aay:Option Addr} {acy:Nat} (hB:Blk w g 43 (ex2 x uax ucx aax acx y uay ucy aay acy)) (Ex:Ec C w x uax aax) (Ey:Ec C w y uay aay) (hC:C≤g):As C w (some ⟨g,0,none⟩) (.cons x.h x.ar (.cons y.h y.ar .nil)) :=
 .inr ⟨g,0,rfl,hC,hB.tg,⟨⟨uax,ucx,aax,acx,⟨hB.cell (0),hB.cell (0+1),hB.cell (0+2),hB.cell (0+3),hB.cell (0+4),hB.cell (0+5),hB.cell (0+6),hB.cell (0+7),hB.cell (0+8),hB.cell (0+9),hB.cell (0+10),hB.cell (0+11)⟩,Ex.us,Ex.ar⟩,⟨⟨uay,ucy,aay,acy,⟨hB.cell (0+12),hB.cell (0+12+1),hB.cell (0+12+2),hB.cell (0+12+3),hB.cell (0+12+4),hB.cell (0+12+5),hB.cell (0+12+6),hB.cell (0+12+7),hB.cell (0+12+8),hB.cell (0+12+9),hB.cell (0+12+10),hB.cell (0+12+11)⟩,Ey.us,Ey.ar⟩,trivial⟩⟩⟩
def ex3 (x:Ex) (uax:Option Addr) (ucx:Nat) (aax:Option Addr) (acx:Nat) (y:Ex) (uay:Option Addr) (ucy:Nat) (aay:Option Addr) (acy:Nat) (z:Ex) (uaz:Option Addr) (ucz:Nat) (aaz:Option Addr) (acz:Nat):Array Value:=#[.int .i64 x.h.k,.string x.h.op,.string x.h.nm,.string x.h.tb,.int .i64 x.h.vk,.int .i64 x.h.vn,.string x.h.vs,.slice uax x.h.un.length ucx,.int .i64 x.h.pa,.int .i64 x.h.wk,.int .i64 x.h.ws,.slice aax x.ar.len acx,.int .i64 y.h.k,.string y.h.op,.string y.h.nm,.string y.h.tb,.int .i64 y.h.vk,.int .i64 y.h.vn,.string y.h.vs,.slice uay y.h.un.length ucy,.int .i64 y.h.pa,.int .i64 y.h.wk,.int .i64 y.h.ws,.slice aay y.ar.len acy,.int .i64 z.h.k,.string z.h.op,.string z.h.nm,.string z.h.tb,.int .i64 z.h.vk,.int .i64 z.h.vn,.string z.h.vs,.slice uaz z.h.un.length ucz,.int .i64 z.h.pa,.int .i64 z.h.wk,.int .i64 z.h.ws,.slice aaz z.ar.len acz]
theorem KP {C:Nat} {w:World} {g:Nat} {x:Ex} {uax:Option Addr} {ucx:Nat} {aax:Option Addr} {acx:Nat} {y:Ex} {uay:Option Addr} {ucy:Nat} {aay:Option Addr} {acy:Nat} {z:Ex} {uaz:Option Addr} {ucz:Nat} {aaz:Option Addr} {acz:Nat} (hB:Blk w g 43 (ex3 x uax ucx aax acx y uay ucy aay acy z uaz ucz aaz acz)) (Ex:Ec C w x uax aax) (Ey:Ec C w y uay aay) (Ez:Ec C w z uaz aaz) (hC:C≤g):As C w (some ⟨g,0,none⟩) (.cons x.h x.ar (.cons y.h y.ar (.cons z.h z.ar .nil))) :=
 .inr ⟨g,0,rfl,hC,hB.tg,⟨⟨uax,ucx,aax,acx,⟨hB.cell (0),hB.cell (0+1),hB.cell (0+2),hB.cell (0+3),hB.cell (0+4),hB.cell (0+5),hB.cell (0+6),hB.cell (0+7),hB.cell (0+8),hB.cell (0+9),hB.cell (0+10),hB.cell (0+11)⟩,Ex.us,Ex.ar⟩,⟨⟨uay,ucy,aay,acy,⟨hB.cell (0+12),hB.cell (0+12+1),hB.cell (0+12+2),hB.cell (0+12+3),hB.cell (0+12+4),hB.cell (0+12+5),hB.cell (0+12+6),hB.cell (0+12+7),hB.cell (0+12+8),hB.cell (0+12+9),hB.cell (0+12+10),hB.cell (0+12+11)⟩,Ey.us,Ey.ar⟩,⟨⟨uaz,ucz,aaz,acz,⟨hB.cell (0+12+12),hB.cell (0+12+12+1),hB.cell (0+12+12+2),hB.cell (0+12+12+3),hB.cell (0+12+12+4),hB.cell (0+12+12+5),hB.cell (0+12+12+6),hB.cell (0+12+12+7),hB.cell (0+12+12+8),hB.cell (0+12+12+9),hB.cell (0+12+12+10),hB.cell (0+12+12+11)⟩,Ez.us,Ez.ar⟩,trivial⟩⟩⟩⟩
theorem kH (n:Int) (w:World):Calls Tryz.prog 218 #[.int .i64 n] w fun e w' => e=.returned (.agg (exC (aS n) none 0 none 0))∧Below w.heap.size w w':=by
 go_enter Tryz.func218,Tryz.ntmps218
 go_wp2_with fail
 refine aF rfl _ _ w.heap.size _ _ rfl (Blk.new w _ _) rfl ?_
 exact ⟨rfl,aj (b0 w) _⟩
theorem jm (C:Nat) (n:Int) (w:World):Ec C w (aS n) none none:=⟨.inl rfl,.inl rfl⟩
theorem mJ (op:ByteArray) (x:Ex) (uax:Option Addr) (ucx:Nat) (aax:Option Addr) (acx:Nat) (C:Nat) (w:World) (E:Ec C w x uax aax) (hC:C≤w.heap.size):Calls Tryz.prog 142 #[.string op,.agg (exC x uax ucx aax acx)] w fun e w' =>
  ∃ aa ac,e=.returned (.agg (exC (fu op x) none 0 aa ac))∧Ec C w' (fu op x) none aa∧Below w.heap.size w w':=by
 have EH:=Hy E
 clear E
 unfold exC
 go_enter Tryz.func142,Tryz.ntmps142
 go_wp2_with fail
 refine aF rfl _ _ (w.heap.size+1) _ _ rfl (by have:=(Blk.new (w.alloc (.cells (ex1 x uax ucx aax acx) 43)) 43 (exC (fu op x) none 0 (some ⟨w.heap.size+2,0,none⟩) 1)).past (.cells (ex1 x uax ucx aax acx) 43);rw [show (w.alloc (.cells (ex1 x uax ucx aax acx) 43)).heap.size=w.heap.size+1 by simp] at this;exact this) rfl ?_
 refine ⟨some ⟨w.heap.size+2,0,none⟩,1,rfl,⟨.inl rfl,?_⟩,aj (aj (aj (b0 w) _) _) _⟩
 have hB:=Blk.new ((w.alloc (.cells (ex1 x uax ucx aax acx) 43)).alloc (.cells (exC (fu op x) none 0 (some ⟨w.heap.size+2,0,none⟩) 1) 43)) 43 (ex1 x uax ucx aax acx)
 rw [show ((w.alloc (.cells (ex1 x uax ucx aax acx) 43)).alloc (.cells (exC (fu op x) none 0 (some ⟨w.heap.size+2,0,none⟩) 1) 43)).heap.size=w.heap.size+2 by simp] at hB
 exact rR hB (EH.o.kp (aK (aj (aj (aj (b0 w) _) _) _))) (by omega)
theorem gK (op:ByteArray) (x:Ex) (uax:Option Addr) (ucx:Nat) (aax:Option Addr) (acx:Nat) (y:Ex) (uay:Option Addr) (ucy:Nat) (aay:Option Addr) (acy:Nat) (C:Nat) (w:World) (E:Ec C w x uax aax) (E2:Ec C w y uay aay) (hC:C≤w.heap.size) :
  Calls Tryz.prog 145 #[.string op,.agg (exC x uax ucx aax acx),.agg (exC y uay ucy aay acy)] w fun e w' =>
  ∃ aa ac,e=.returned (.agg (exC (aT op x y) none 0 aa ac))∧Ec C w' (aT op x y) none aa∧Below w.heap.size w w':=by
 have EH:=Hy E
 have EH2:=Hy E2
 clear E E2
 have q0:=str_eq op [100,101,102,97,117,108,116]
 unfold aT
 by_cases hop:op=⟨#[100,101,102,97,117,108,116]⟩
 ·rw [if_pos hop]
  rw [decide_eq_true hop] at q0
  clear hop
  unfold exC
  go_enter Tryz.func145,Tryz.ntmps145
  go_wp2_with fail
  refine aF rfl _ _ (w.heap.size+2) _ _ rfl (by have:=(Blk.new ((w.alloc (.cells (ex1 x uax ucx aax acx) 43)).alloc (.cells (ex1 y uay ucy aay acy) 43)) 43 (exC ⟨{ h0 with k:=9 },.cons x.h x.ar (.cons y.h y.ar .nil)⟩ none 0 (some ⟨w.heap.size+3,0,none⟩) 2)).past (.cells (ex2 x uax ucx aax acx y uay ucy aay acy) 43);rw [show ((w.alloc (.cells (ex1 x uax ucx aax acx) 43)).alloc (.cells (ex1 y uay ucy aay acy) 43)).heap.size=w.heap.size+2 by simp] at this;exact this) rfl ?_
  refine ⟨some ⟨w.heap.size+3,0,none⟩,2,rfl,⟨.inl rfl,?_⟩,aj (aj (aj (aj (b0 w) _) _) _) _⟩
  have hB:=Blk.new (((w.alloc (.cells (ex1 x uax ucx aax acx) 43)).alloc (.cells (ex1 y uay ucy aay acy) 43)).alloc (.cells (exC ⟨{ h0 with k:=9 },.cons x.h x.ar (.cons y.h y.ar .nil)⟩ none 0 (some ⟨w.heap.size+3,0,none⟩) 2) 43)) 43 (ex2 x uax ucx aax acx y uay ucy aay acy)
  rw [show (((w.alloc (.cells (ex1 x uax ucx aax acx) 43)).alloc (.cells (ex1 y uay ucy aay acy) 43)).alloc (.cells (exC ⟨{ h0 with k:=9 },.cons x.h x.ar (.cons y.h y.ar .nil)⟩ none 0 (some ⟨w.heap.size+3,0,none⟩) 2) 43)).heap.size=w.heap.size+3 by simp] at hB
  have hk:=aK (C:=C) (aj (aj (aj (aj (b0 w) (.cells (ex1 x uax ucx aax acx) 43)) (.cells (ex1 y uay ucy aay acy) 43)) (.cells (exC ⟨{ h0 with k:=9 },.cons x.h x.ar (.cons y.h y.ar .nil)⟩ none 0 (some ⟨w.heap.size+3,0,none⟩) 2) 43)) (.cells (ex2 x uax ucx aax acx y uay ucy aay acy) 43))
  exact eF hB (EH.o.kp hk) (EH2.o.kp hk) (by omega)
 ·rw [if_neg hop]
  rw [decide_eq_false hop] at q0
  clear hop
  unfold exC
  go_enter Tryz.func145,Tryz.ntmps145
  go_wp2_with fail
  refine aF rfl _ _ (w.heap.size+2) _ _ rfl (by have:=(Blk.new ((w.alloc (.cells (ex1 x uax ucx aax acx) 43)).alloc (.cells (ex1 y uay ucy aay acy) 43)) 43 (exC ⟨{ h0 with k:=7,op:=op },.cons x.h x.ar (.cons y.h y.ar .nil)⟩ none 0 (some ⟨w.heap.size+3,0,none⟩) 2)).past (.cells (ex2 x uax ucx aax acx y uay ucy aay acy) 43);rw [show ((w.alloc (.cells (ex1 x uax ucx aax acx) 43)).alloc (.cells (ex1 y uay ucy aay acy) 43)).heap.size=w.heap.size+2 by simp] at this;exact this) rfl ?_
  refine ⟨some ⟨w.heap.size+3,0,none⟩,2,rfl,⟨.inl rfl,?_⟩,aj (aj (aj (aj (b0 w) _) _) _) _⟩
  have hB:=Blk.new (((w.alloc (.cells (ex1 x uax ucx aax acx) 43)).alloc (.cells (ex1 y uay ucy aay acy) 43)).alloc (.cells (exC ⟨{ h0 with k:=7,op:=op },.cons x.h x.ar (.cons y.h y.ar .nil)⟩ none 0 (some ⟨w.heap.size+3,0,none⟩) 2) 43)) 43 (ex2 x uax ucx aax acx y uay ucy aay acy)
  rw [show (((w.alloc (.cells (ex1 x uax ucx aax acx) 43)).alloc (.cells (ex1 y uay ucy aay acy) 43)).alloc (.cells (exC ⟨{ h0 with k:=7,op:=op },.cons x.h x.ar (.cons y.h y.ar .nil)⟩ none 0 (some ⟨w.heap.size+3,0,none⟩) 2) 43)).heap.size=w.heap.size+3 by simp] at hB
  have hk:=aK (C:=C) (aj (aj (aj (aj (b0 w) (.cells (ex1 x uax ucx aax acx) 43)) (.cells (ex1 y uay ucy aay acy) 43)) (.cells (exC ⟨{ h0 with k:=7,op:=op },.cons x.h x.ar (.cons y.h y.ar .nil)⟩ none 0 (some ⟨w.heap.size+3,0,none⟩) 2) 43)) (.cells (ex2 x uax ucx aax acx y uay ucy aay acy) 43))
  exact eF hB (EH.o.kp hk) (EH2.o.kp hk) (by omega)
def iN (n j:Nat) (l:List Tk):Prop:=∀ k (hk:k<(opL n).length),k<j→isT (opL n)[k] l=false
theorem yD {n j:Nat} {l:List Tk} (h:iN n j l) (hj:j<(opL n).length) (ht:isT (opL n)[j] l=true):opr n l=(opL n)[j]:=by
 unfold opr
 have:(opL n).find? (fun s=>isT s l)=some (opL n)[j]:=by
  rw [List.find?_eq_some_iff_getElem]
  refine ⟨ht,j,hj,rfl,fun k hk=>?_⟩
  rw [h k (by omega) hk]
  rfl
 rw [this]
 rfl
theorem vH {n:Nat} {l:List Tk} (h:iN n (opL n).length l):opr n l=.empty:=by
 unfold opr
 have:(opL n).find? (fun s=>isT s l)=none:=by
  rw [List.find?_eq_none]
  intro x hx
  obtain ⟨k,hk,rfl⟩:=List.getElem_of_mem hx
  rw [h k hk hk]
  decide
 rw [this]
 rfl
theorem BS:∀ (n:Nat),∀ x ∈ opL n,x≠.empty:=by
 intro n x hx
 rcases n with _ | _ | _ | _ | _ | n <;> simp only [opL,List.mem_cons,List.not_mem_nil,or_false] at hx
 all_goals (rcases hx with rfl | rfl | rfl | rfl) <;> (intro e;have:=congrArg (fun b:ByteArray=>b.size) e;revert this;decide)
theorem rE (n:Nat):(opL n).length≤4:=by
 rcases n with _ | _ | _ | _ | _ | n <;> simp [opL]
def Opp (B n:Nat) (l:List Tk) (w':World):Prop:=Ps w' B (if opr n l=.empty then l else l.tail)
theorem dx (B:Nat) (i:Bool) (n:Nat) (hn:n<6) (l:List Tk) (w:World) (h:Ps w B l) :
  Calls Tryz.prog 144 #[.agg #[.pointer (some ⟨B,0,none⟩),.bool i],.int .i64 (n:Nat)] w fun e w' => e=.returned (.string (opr n l))∧Opp B n l w'∧Mv w.heap.size B w w':=by
 have hlt:=Hy h.lt
 obtain ⟨w0,T,h0,hB⟩:=h.tb
 obtain ⟨b,off,cap,hc,hcs⟩:=T.ops n hn
 have h0':=h0.trans ((aj (b0 w) (.cells #[.pointer (some ⟨B,0,none⟩),.bool i] 99)).mono h0.size)
 have c0:=(h0'.cell (p:=⟨4,n,none⟩) (block_lt_of_cell hc)).trans hc
 have P:=Hy (h.keeps (aj (b0 w) (.cells #[.pointer (some ⟨B,0,none⟩),.bool i] 99)))
 have M:=Hy (Mv.of (B:=B) (aj (b0 w) (.cells #[.pointer (some ⟨B,0,none⟩),.bool i] 99)))
 have SC:=Hy (Blk.new w 99 #[.pointer (some ⟨B,0,none⟩),.bool i])
 have H0:=Hy h0'
 have HC:=Hy hcs
 have HB:=Hy hB
 have h4:=Hy (rE n)
 have q1:(n:Int)<6:=by omega
 have q2:(0:Int)≤(n:Int):=by omega
 clear h T h0 h0' hc hcs hB
 go_enter Tryz.func144,Tryz.ntmps144
 go_wp2_with fail
 clear c0 q1 q2
 obtain ⟨N,hN⟩:∃ N,(opL n).length=N:=⟨_,rfl⟩
 have NN:=Hy hN
 rw [hN] at h4
 rw [hN]
 clear hN
 go_loopw [11] (fun x wr => ∃ j:Nat,x=.int .i64 (j:Nat)∧Hid (j≤N)∧Hid (iN n j l)∧Hid (Ps wr B l)∧Hid (Mv w.heap.size B w wr)∧Hid (Blk wr w.heap.size 99 #[.pointer (some ⟨B,0,none⟩),.bool i])∧Hid (Below w0.heap.size w0 wr)) (fun x _=>N - (intOf x).toNat)
 case atStart=>exact ⟨0,rfl,Hy (Nat.zero_le _),Hy (fun k _ hk=>absurd hk (Nat.not_lt_zero _)),P,M,SC,H0⟩
 case round =>
  clear P M SC H0
  obtain ⟨j,rfl,hj,hF,P,M,SC,H0⟩:=hrel
  by_cases hc:j<N
  ·have hjl:j<(opL n).length:=by have:=NN.o;omega
   have c1:=(H0.o.cell (p:=⟨b,off+j,none⟩) (block_lt_of_cell (HC.o j hjl))).trans (HC.o j hjl)
   have q2:decide ((j:Int)<(N:Int))=true:=decide_eq_true (by omega)
   have q3:(j:Int)<(N:Int):=by omega
   have q4:(0:Int)≤(j:Int):=by omega
   have f4:=Hy (aX (j:=j) (by have:=h4.o;omega))
   have e0:=SC.o.cell 0
   cases ht:isT (opL n)[j] l
   ·have hF2:=Hy (show iN n (j+1) l from fun k hk hkj=>by
     rcases Nat.lt_succ_iff_lt_or_eq.1 hkj with h | rfl
     ·exact hF.o k hk h
     ·exact ht)
    have HT:=Hy ht
    clear ht hF
    generalize (opL n)[j]=s at *
    go_wp2_with fail
    refine (aN B s l _ P.o HT.o).mono ?_
    rintro e w3 ⟨rfl,pp,mm⟩
    have P3:=Hy pp
    have SC3:=Hy (SC.o.mv mm (by have:=hlt.o;omega) SC.o.lt)
    have M3:=Hy (M.o.next mm)
    have H3:=Hy (H0.o.trans (mm.below HB.o (by have:=H0.o.size;omega)))
    clear pp mm P SC M H0 e0 c1
    go_wp2_with fail
    exact ⟨⟨j+1,congrArg (Value.int .i64) f4.o,Hy hc,hF2,P3,M3,SC3,H3⟩,aW hc f4.o⟩
   ·have hO:=Hy (yD hF.o hjl ht)
    have hne:=Hy (BS n _ (List.getElem_mem hjl))
    have HT:=Hy ht
    clear ht hF
    generalize (opL n)[j]=s at *
    go_wp2_with fail
    refine (aY B s l _ P.o HT.o).mono ?_
    rintro e w3 ⟨rfl,pp,mm⟩
    have P3:=Hy pp
    have M3:=Hy (M.o.next mm)
    clear pp mm P SC M H0 e0 c1
    go_wp2_with fail
    go_ret
    refine ⟨by rw [hO.o];rfl,?_,M3.o⟩
    unfold Opp
    rw [if_neg (by rw [hO.o];exact hne.o)]
    exact P3.o
  ·have hO:=Hy (vH (n:=n) (l:=l) (fun k hk h=>hF.o k hk (by have:=NN.o;omega)))
   have q2:decide ((j:Int)<(N:Int))=false:=decide_eq_false (by omega)
   clear hF
   go_wp2_with fail
   go_ret
   refine ⟨by rw [hO.o];rfl,?_,M.o⟩
   unfold Opp
   rw [if_pos hO.o]
   exact P.o
end Go.Proofs.YtbpijgddfaefkaaGreatDoor.pa
