/-
  Methods of a scope: an aggregate.
-/
import Derived.Test.YtbpijgddfaefkaaGreatDoorV12
set_option maxRecDepth 100000
set_option maxHeartbeats 16000000
namespace Go.Proofs.YtbpijgddfaefkaaGreatDoor.pa
open Go.RowKit dec
theorem Av (n:Int) (w:World):Calls Tryz.prog 218 #[.int .i64 n] w fun e w' => e=.returned (.agg #[.int .i64 1,.string ⟨#[]⟩,.string ⟨#[]⟩,.string ⟨#[]⟩,.int .i64 1,.int .i64 n,.string ⟨#[]⟩,.slice none 0 0,.int .i64 0,.int .i64 0,.int .i64 0,.slice none 0 0])∧Below w.heap.size w w':=kH n w
theorem oV {α β γ:Type} (x:Rs α) (g:α→List Tk→Rs β) (h:β→List Tk→Rs γ):(x.bind g).bind h=x.bind fun v r=>(g v r).bind h:=by cases x <;> rfl
theorem Jg (f:Nat) (R:Rd f) (B:Nat) (i:Bool) (l:List Tk) (w:World) (h:Ps w B l) (r:Rs Ex) (hr:pz (f+1) i .ag l=r) (hne:r≠.out) :
  Calls Tryz.prog 222 #[.agg #[.pointer (some ⟨B,0,none⟩),.bool i]] w (Pst B Ev r w):=by
 have P:=Hy (h.keeps (aj (aj (b0 w) (.cells #[.pointer (some ⟨B,0,none⟩),.bool i] 99)) (.cells zE 43)))
 have F:=Hy (Fr.start i h.lt)
 have NE:=Hy hne
 simp only [pz] at hr
 have HR:=Hy hr
 clear h hne hr
 go_enter Tryz.func222,Tryz.ntmps222
 go_wp2_with fail
 have hF:=Hy F.o.lt
 refine (iV B 1 (by decide) l _ P.o).mono ?_
 rintro e w1 h1
 rcases hG1:tak 1 l with _ | ⟨v1,l1⟩ | ⟨a1,c1,l1⟩
 ·exact absurd (by rw [← HR.o,hG1];rfl) NE.o
 rotate_left
 ·rw [hG1] at h1
  obtain ⟨rfl,pp,mm⟩:=h1
  unfold thr
  have hno:=Hy (show r=.no a1 c1 l1 by rw [← HR.o,hG1];rfl)
  have PP:=Hy pp
  have MM:=Hy ((F.o.next mm).mv)
  clear pp mm hG1
  go_wp2_with fail
  exact ⟨rfl,aI hno.o PP.o MM.o⟩
 rw [hG1] at h1
 obtain ⟨u1,rfl,vv,pp,mm⟩:=h1
 replace HR:=HR.o
 rw [hG1] at HR
 simp only [aC] at HR
 replace HR:=Hy HR
 replace F:=Hy (F.o.next mm)
 replace P:=Hy pp
 clear pp mm hG1
 obtain rfl:u1=.string v1:=vv
 clear hF
 have bb:=aj (b0 w1) (.cells #[.int .i64 5,.string v1,.string ⟨#[]⟩,.string ⟨#[]⟩,.int .i64 0,.int .i64 0,.string ⟨#[]⟩,.slice none 0 0,.int .i64 0,.int .i64 0,.int .i64 0,.slice none 0 0] 43)
 have gB3:=Hy F.o.lt
 replace F:=Hy (F.o.bn bb)
 replace P:=Hy (P.o.keeps bb)
 clear bb
 have L3:=Hy (Blk.new w1 43 #[.int .i64 5,.string v1,.string ⟨#[]⟩,.string ⟨#[]⟩,.int .i64 0,.int .i64 0,.string ⟨#[]⟩,.slice none 0 0,.int .i64 0,.int .i64 0,.int .i64 0,.slice none 0 0])
 have e0:=F.o.c0
 have e1:=F.o.c1
 go_wp2_with fail
 generalize w1.alloc (.cells #[.int .i64 5,.string v1,.string ⟨#[]⟩,.string ⟨#[]⟩,.int .i64 0,.int .i64 0,.string ⟨#[]⟩,.slice none 0 0,.int .i64 0,.int .i64 0,.int .i64 0,.slice none 0 0] 43)=w1a at *
 generalize w1.heap.size=g3 at *
 have hF:=Hy F.o.lt
 refine (aZ B ⟨#[40]⟩ l1 _ P.o).mono ?_
 rintro e w2 h2
 rcases hG2:need ⟨#[40]⟩ l1 with _ | ⟨v2,l2⟩ | ⟨a2,c2,l2⟩
 ·exact absurd (by rw [← HR.o,hG2];rfl) NE.o
 rotate_left
 ·rw [hG2] at h2
  obtain ⟨rfl,pp,mm⟩:=h2
  unfold thr
  have hno:=Hy (show r=.no a2 c2 l2 by rw [← HR.o,hG2];rfl)
  have PP:=Hy pp
  have MM:=Hy ((F.o.next mm).mv)
  clear pp mm hG2 e0 e1
  go_wp2_with fail
  exact ⟨rfl,aI hno.o PP.o MM.o⟩
 rw [hG2] at h2
 obtain ⟨u2,rfl,vv,pp,mm⟩:=h2
 replace HR:=HR.o
 rw [hG2] at HR
 simp only [aC] at HR
 replace HR:=Hy HR
 replace F:=Hy (F.o.next mm)
 replace L3:=Hy (L3.o.mv mm (by have:=gB3.o;have:=F.o.hB;omega) L3.o.lt)
 replace P:=Hy pp
 clear pp mm hG2
 obtain rfl:u2=.tuple #[]:=vv
 clear e0 e1
 clear hF
 have e0:=F.o.c0
 have e1:=F.o.c1
 go_wp2_with fail
 have hF:=Hy F.o.lt
 refine (jO B l2 _ P.o _ rfl (dJ _)).mono ?_
 rintro e w3 h3
 rcases hG3:nam l2 with _ | ⟨v3,l3⟩ | ⟨a3,c3,l3⟩
 ·exact absurd (by rw [← HR.o,hG3];rfl) NE.o
 rotate_left
 ·rw [hG3] at h3
  obtain ⟨rfl,pp,mm⟩:=h3
  unfold thr
  have hno:=Hy (show r=.no a3 c3 l3 by rw [← HR.o,hG3];rfl)
  have PP:=Hy pp
  have MM:=Hy ((F.o.next mm).mv)
  clear pp mm hG3 e0 e1
  go_wp2_with fail
  exact ⟨rfl,aI hno.o PP.o MM.o⟩
 rw [hG3] at h3
 obtain ⟨u3,rfl,vv,pp,mm⟩:=h3
 replace HR:=HR.o
 rw [hG3] at HR
 simp only [aC] at HR
 replace HR:=Hy HR
 replace F:=Hy (F.o.next mm)
 replace L3:=Hy (L3.o.mv mm (by have:=gB3.o;have:=F.o.hB;omega) L3.o.lt)
 replace P:=Hy pp
 clear pp mm hG3
 obtain rfl:u3=.string v3:=vv
 clear e0 e1
 clear hF
 have c3:=L3.o.cell 3
 have z3:=L3.o.free 3
 have k3:=L3.o.setCell 3 (.string v3)
 have SK:=k3.2
 replace F:=Hy (F.o.st SK gB3.o)
 replace P:=Hy (P.o.st SK (by have:=gB3.o;have:=F.o.hB;omega))
 replace L3:=Hy (show Blk (w3.setCell ⟨g3,3,none⟩ (.string v3)) g3 43 #[.int .i64 5,.string v1,.string ⟨#[]⟩,.string v3,.int .i64 0,.int .i64 0,.string ⟨#[]⟩,.slice none 0 0,.int .i64 0,.int .i64 0,.int .i64 0,.slice none 0 0] from k3.1)
 clear SK k3
 have e0:=F.o.c0
 have e1:=F.o.c1
 go_wp2_with fail
 clear c3 z3
 generalize (w3.setCell ⟨g3,3,none⟩ (.string v3))=w3s at *
 have hF:=Hy F.o.lt
 refine (aZ B ⟨#[44]⟩ l3 _ P.o).mono ?_
 rintro e w4 h4
 rcases hG4:need ⟨#[44]⟩ l3 with _ | ⟨v4,l4⟩ | ⟨a4,c4,l4⟩
 ·exact absurd (by rw [← HR.o,hG4];rfl) NE.o
 rotate_left
 ·rw [hG4] at h4
  obtain ⟨rfl,pp,mm⟩:=h4
  unfold thr
  have hno:=Hy (show r=.no a4 c4 l4 by rw [← HR.o,hG4];rfl)
  have PP:=Hy pp
  have MM:=Hy ((F.o.next mm).mv)
  clear pp mm hG4 e0 e1
  go_wp2_with fail
  exact ⟨rfl,aI hno.o PP.o MM.o⟩
 rw [hG4] at h4
 obtain ⟨u4,rfl,vv,pp,mm⟩:=h4
 replace HR:=HR.o
 rw [hG4] at HR
 simp only [aC] at HR
 replace HR:=Hy HR
 replace F:=Hy (F.o.next mm)
 replace L3:=Hy (L3.o.mv mm (by have:=gB3.o;have:=F.o.hB;omega) L3.o.lt)
 replace P:=Hy pp
 clear pp mm hG4
 obtain rfl:u4=.tuple #[]:=vv
 clear e0 e1
 clear hF
 have e0:=F.o.c0
 have e1:=F.o.c1
 have bb:=aj (b0 w4) (.cells #[.pointer (some ⟨B,0,none⟩),.bool true] 99)
 have gB4:=Hy (show w.heap.size+2≤w4.heap.size from F.o.lt)
 have n43:=Hy (show w4.heap.size≠g3 from by have:=L3.o.lt;omega)
 replace F:=Hy (F.o.bn bb)
 replace L3:=Hy (L3.o.below bb L3.o.lt)
 replace P:=Hy (P.o.keeps bb)
 clear bb
 have L4:=Hy (Blk.new w4 99 #[.pointer (some ⟨B,0,none⟩),.bool true])
 go_wp2_with fail
 clear e0 e1
 generalize w4.alloc (.cells #[.pointer (some ⟨B,0,none⟩),.bool true] 99)=w4a at *
 generalize w4.heap.size=g4 at *
 have CB:=Hy (fun W=>Av 1 W)
 refine (CB.o _).mono ?_
 rintro e w5 ⟨rfl,b⟩
 have mm:=Mv.of (B:=B) b
 replace F:=Hy (F.o.next mm)
 replace L3:=Hy (L3.o.mv mm (by have:=gB3.o;have:=F.o.hB;omega) L3.o.lt)
 replace L4:=Hy (L4.o.mv mm (by have:=gB4.o;have:=F.o.hB;omega) L4.o.lt)
 replace P:=Hy (P.o.keeps b)
 clear mm b
 go_wp2_with fail
 refine (CB.o _).mono ?_
 rintro e w6 ⟨rfl,b⟩
 have mm:=Mv.of (B:=B) b
 replace F:=Hy (F.o.next mm)
 replace L3:=Hy (L3.o.mv mm (by have:=gB3.o;have:=F.o.hB;omega) L3.o.lt)
 replace L4:=Hy (L4.o.mv mm (by have:=gB4.o;have:=F.o.hB;omega) L4.o.lt)
 replace P:=Hy (P.o.keeps b)
 clear mm b
 clear CB
 have bb:=aj (aj (b0 w6) (.cells #[.int .i64 1,.string ⟨#[]⟩,.string ⟨#[]⟩,.string ⟨#[]⟩,.int .i64 1,.int .i64 1,.string ⟨#[]⟩,.slice none 0 0,.int .i64 0,.int .i64 0,.int .i64 0,.slice none 0 0] 43)) (.cells #[.int .i64 1,.string ⟨#[]⟩,.string ⟨#[]⟩,.string ⟨#[]⟩,.int .i64 1,.int .i64 1,.string ⟨#[]⟩,.slice none 0 0,.int .i64 0,.int .i64 0,.int .i64 0,.slice none 0 0] 43)
 have gB5:=Hy (show w.heap.size+2≤w6.heap.size from F.o.lt)
 have n53:=Hy (show w6.heap.size≠g3 from by have:=L3.o.lt;omega)
 have n54:=Hy (show w6.heap.size≠g4 from by have:=L4.o.lt;omega)
 have gB6:=Hy (show w.heap.size+2≤w6.heap.size+1 from by have:=gB5.o;omega)
 have n63:=Hy (show w6.heap.size+1≠g3 from by have:=L3.o.lt;omega)
 have n64:=Hy (show w6.heap.size+1≠g4 from by have:=L4.o.lt;omega)
 have gC3:=Hy (show g3<w6.heap.size+2 from by have:=L3.o.lt;omega)
 have gCB:=Hy (show B<w6.heap.size+2 from by have:=P.o.lt;omega)
 replace F:=Hy (F.o.bn bb)
 replace L3:=Hy (L3.o.below bb L3.o.lt)
 replace L4:=Hy (L4.o.below bb L4.o.lt)
 replace P:=Hy (P.o.keeps bb)
 clear bb
 have L5:=Hy ((Blk.new w6 43 #[.int .i64 1,.string ⟨#[]⟩,.string ⟨#[]⟩,.string ⟨#[]⟩,.int .i64 1,.int .i64 1,.string ⟨#[]⟩,.slice none 0 0,.int .i64 0,.int .i64 0,.int .i64 0,.slice none 0 0]).past (.cells #[.int .i64 1,.string ⟨#[]⟩,.string ⟨#[]⟩,.string ⟨#[]⟩,.int .i64 1,.int .i64 1,.string ⟨#[]⟩,.slice none 0 0,.int .i64 0,.int .i64 0,.int .i64 0,.slice none 0 0] 43))
 have L6:=Hy (by have:=Blk.new (w6.alloc (.cells #[.int .i64 1,.string ⟨#[]⟩,.string ⟨#[]⟩,.string ⟨#[]⟩,.int .i64 1,.int .i64 1,.string ⟨#[]⟩,.slice none 0 0,.int .i64 0,.int .i64 0,.int .i64 0,.slice none 0 0] 43)) 43 #[.int .i64 1,.string ⟨#[]⟩,.string ⟨#[]⟩,.string ⟨#[]⟩,.int .i64 1,.int .i64 1,.string ⟨#[]⟩,.slice none 0 0,.int .i64 0,.int .i64 0,.int .i64 0,.slice none 0 0];simpa using this:Blk ((w6.alloc (.cells #[.int .i64 1,.string ⟨#[]⟩,.string ⟨#[]⟩,.string ⟨#[]⟩,.int .i64 1,.int .i64 1,.string ⟨#[]⟩,.slice none 0 0,.int .i64 0,.int .i64 0,.int .i64 0,.slice none 0 0] 43)).alloc (.cells #[.int .i64 1,.string ⟨#[]⟩,.string ⟨#[]⟩,.string ⟨#[]⟩,.int .i64 1,.int .i64 1,.string ⟨#[]⟩,.slice none 0 0,.int .i64 0,.int .i64 0,.int .i64 0,.slice none 0 0] 43)) (w6.heap.size+1) 43 #[.int .i64 1,.string ⟨#[]⟩,.string ⟨#[]⟩,.string ⟨#[]⟩,.int .i64 1,.int .i64 1,.string ⟨#[]⟩,.slice none 0 0,.int .i64 0,.int .i64 0,.int .i64 0,.slice none 0 0])
 have HC:=Hy (show w6.heap.size+2≤((w6.alloc (.cells #[.int .i64 1,.string ⟨#[]⟩,.string ⟨#[]⟩,.string ⟨#[]⟩,.int .i64 1,.int .i64 1,.string ⟨#[]⟩,.slice none 0 0,.int .i64 0,.int .i64 0,.int .i64 0,.slice none 0 0] 43)).alloc (.cells #[.int .i64 1,.string ⟨#[]⟩,.string ⟨#[]⟩,.string ⟨#[]⟩,.int .i64 1,.int .i64 1,.string ⟨#[]⟩,.slice none 0 0,.int .i64 0,.int .i64 0,.int .i64 0,.slice none 0 0] 43)).heap.size from by simp)
 by_cases hv:v1=⟨#[99,111,117,110,116]⟩
 ·have hquantile:¬ v1=⟨#[113,117,97,110,116,105,108,101]⟩:=by rw [hv];decide
  have hdecay:¬ v1=⟨#[100,101,99,97,121]⟩:=by rw [hv];decide
  have hqd:¬ (v1=⟨#[113,117,97,110,116,105,108,101]⟩∨v1=⟨#[100,101,99,97,121]⟩):=fun h=>h.elim hquantile hdecay
  have scount:(v1.toList==[99,111,117,110,116])=true:=by rw [str_eq];exact decide_eq_true hv
  have tcount:(v1.toList != [99,111,117,110,116])=false:=by rw [bne,scount];rfl
  have squantile:(v1.toList==[113,117,97,110,116,105,108,101])=false:=by rw [str_eq];exact decide_eq_false hquantile
  have tquantile:(v1.toList != [113,117,97,110,116,105,108,101])=true:=by rw [bne,squantile];rfl
  have sdecay:(v1.toList==[100,101,99,97,121])=false:=by rw [str_eq];exact decide_eq_false hdecay
  have tdecay:(v1.toList != [100,101,99,97,121])=true:=by rw [bne,sdecay];rfl
  have d1:=L3.o.cell 1
  have e2:=L4.o.cell 0
  have e3:=L4.o.cell 1
  have e0:=F.o.c0
  have e1:=F.o.c1
  replace HR:=HR.o
  simp only [if_pos hv,if_neg hqd,aC] at HR
  replace HR:=Hy HR
  clear hv hqd hquantile hdecay
  go_wp2_with fail
  generalize (w6.alloc (.cells #[.int .i64 1,.string ⟨#[]⟩,.string ⟨#[]⟩,.string ⟨#[]⟩,.int .i64 1,.int .i64 1,.string ⟨#[]⟩,.slice none 0 0,.int .i64 0,.int .i64 0,.int .i64 0,.slice none 0 0] 43)).alloc (.cells #[.int .i64 1,.string ⟨#[]⟩,.string ⟨#[]⟩,.string ⟨#[]⟩,.int .i64 1,.int .i64 1,.string ⟨#[]⟩,.slice none 0 0,.int .i64 0,.int .i64 0,.int .i64 0,.slice none 0 0] 43)=w7 at *
  generalize hg5:w6.heap.size=g5 at *
  clear hg5
  clear d1 e2 e3
  have hF:=Hy F.o.lt
  refine (lu B l4 _ P.o _ rfl (iK _)).mono ?_
  rintro e w7 h7
  rcases hG7:win l4 with _ | ⟨v7,l7⟩ | ⟨a7,c7,l7⟩
  ·exact absurd (by rw [← HR.o,hG7];rfl) NE.o
  rotate_left
  ·rw [hG7] at h7
   obtain ⟨rfl,pp,mm⟩:=h7
   unfold thr
   have hno:=Hy (show r=.no a7 c7 l7 by rw [← HR.o,hG7];rfl)
   have PP:=Hy pp
   have MM:=Hy ((F.o.next mm).mv)
   clear pp mm hG7 e0 e1
   go_wp2_with fail
   exact ⟨rfl,aI hno.o PP.o MM.o⟩
  rw [hG7] at h7
  obtain ⟨u7,rfl,vv,pp,mm⟩:=h7
  replace HR:=HR.o
  rw [hG7] at HR
  simp only [aC] at HR
  replace HR:=Hy HR
  replace F:=Hy (F.o.next mm)
  replace L3:=Hy (L3.o.mv mm (by have:=gB3.o;have:=F.o.hB;omega) L3.o.lt)
  replace L4:=Hy (L4.o.mv mm (by have:=gB4.o;have:=F.o.hB;omega) L4.o.lt)
  replace L5:=Hy (L5.o.mv mm (by have:=gB5.o;have:=F.o.hB;omega) L5.o.lt)
  replace L6:=Hy (L6.o.mv mm (by have:=gB6.o;have:=F.o.hB;omega) L6.o.lt)
  replace HC:=Hy (Nat.le_trans HC.o mm.size)
  replace P:=Hy pp
  clear pp mm hG7
  have V7:=Hy vv
  clear vv
  clear e0 e1
  clear hF
  obtain rfl:u7=.agg #[.int .i64 v7.1,.int .i64 v7.2]:=V7.o
  clear V7
  have c9:=L3.o.cell 9
  have z9:=L3.o.free 9
  have c10:=L3.o.cell 10
  have z10:=L3.o.free 10
  have k9:=L3.o.setCell 9 (.int .i64 v7.1)
  have k10:=k9.1.setCell 10 (.int .i64 v7.2)
  have SK:=St.trans k9.2 k10.2
  replace F:=Hy (F.o.st SK gB3.o)
  replace L4:=Hy (L4.o.st SK n43.o)
  replace L5:=Hy (L5.o.st SK n53.o)
  replace L6:=Hy (L6.o.st SK n63.o)
  replace HC:=Hy (Nat.le_trans HC.o (Nat.le_of_eq SK.size.symm))
  replace P:=Hy (P.o.st SK (by have:=gB3.o;have:=F.o.hB;omega))
  replace L3:=Hy (show Blk ((w7.setCell ⟨g3,9,none⟩ (.int .i64 v7.1)).setCell ⟨g3,10,none⟩ (.int .i64 v7.2)) g3 43 #[.int .i64 5,.string v1,.string ⟨#[]⟩,.string v3,.int .i64 0,.int .i64 0,.string ⟨#[]⟩,.slice none 0 0,.int .i64 0,.int .i64 v7.1,.int .i64 v7.2,.slice none 0 0] from k10.1)
  clear SK k9 k10
  have e0:=F.o.c0
  have e1:=F.o.c1
  go_wp2_with fail
  clear c9 z9 c10 z10
  generalize ((w7.setCell ⟨g3,9,none⟩ (.int .i64 v7.1)).setCell ⟨g3,10,none⟩ (.int .i64 v7.2))=w9s at *
  clear scount tcount squantile tquantile sdecay tdecay
  cases ht:isT ⟨#[119,104,101,114,101]⟩ l7
  ·replace HR:=HR.o
   rw [ht,if_neg (by decide)] at HR
   simp only [aC] at HR
   replace HR:=Hy HR
   have HT:=Hy ht
   clear ht
   refine (aN B ⟨#[119,104,101,114,101]⟩ l7 _ P.o HT.o).mono ?_
   rintro e w8 ⟨rfl,pp,mm⟩
   replace F:=Hy (F.o.next mm)
   replace L3:=Hy (L3.o.mv mm (by have:=gB3.o;have:=F.o.hB;omega) L3.o.lt)
   replace L4:=Hy (L4.o.mv mm (by have:=gB4.o;have:=F.o.hB;omega) L4.o.lt)
   replace L5:=Hy (L5.o.mv mm (by have:=gB5.o;have:=F.o.hB;omega) L5.o.lt)
   replace L6:=Hy (L6.o.mv mm (by have:=gB6.o;have:=F.o.hB;omega) L6.o.lt)
   replace HC:=Hy (Nat.le_trans HC.o mm.size)
   replace P:=Hy pp
   clear pp mm
   clear e0 e1
   have e0:=F.o.c0
   have e1:=F.o.c1
   go_wp2_with fail
   have hF:=Hy F.o.lt
   refine (aZ B ⟨#[41]⟩ l7 _ P.o).mono ?_
   rintro e w9 h9
   rcases hG9:need ⟨#[41]⟩ l7 with _ | ⟨v9,l9⟩ | ⟨a9,c9,l9⟩
   ·exact absurd (by rw [← HR.o,hG9];rfl) NE.o
   rotate_left
   ·rw [hG9] at h9
    obtain ⟨rfl,pp,mm⟩:=h9
    unfold thr
    have hno:=Hy (show r=.no a9 c9 l9 by rw [← HR.o,hG9];rfl)
    have PP:=Hy pp
    have MM:=Hy ((F.o.next mm).mv)
    clear pp mm hG9 e0 e1
    go_wp2_with fail
    exact ⟨rfl,aI hno.o PP.o MM.o⟩
   rw [hG9] at h9
   obtain ⟨u9,rfl,vv,pp,mm⟩:=h9
   replace HR:=HR.o
   rw [hG9] at HR
   simp only [aC] at HR
   replace HR:=Hy HR
   replace F:=Hy (F.o.next mm)
   replace L3:=Hy (L3.o.mv mm (by have:=gB3.o;have:=F.o.hB;omega) L3.o.lt)
   replace L4:=Hy (L4.o.mv mm (by have:=gB4.o;have:=F.o.hB;omega) L4.o.lt)
   replace L5:=Hy (L5.o.mv mm (by have:=gB5.o;have:=F.o.hB;omega) L5.o.lt)
   replace L6:=Hy (L6.o.mv mm (by have:=gB6.o;have:=F.o.hB;omega) L6.o.lt)
   replace HC:=Hy (Nat.le_trans HC.o mm.size)
   replace P:=Hy pp
   clear pp mm hG9
   obtain rfl:u9=.tuple #[]:=vv
   clear e0 e1
   clear hF
   have bb:=aj (b0 w9) (.cells (ex2 (aS 1) none 0 none 0 (aS 1) none 0 none 0) 43)
   have L3p:=L3.o.past (.cells (ex2 (aS 1) none 0 none 0 (aS 1) none 0 none 0) 43)
   have c11:=L3p.cell 11
   have z11:=L3p.free 11
   have kk:=L3p.setCell 11 (.slice (some ⟨w9.heap.size,0,none⟩) 2 2)
   have L9:=Hy (show Blk _ g3 43 #[.int .i64 5,.string v1,.string ⟨#[]⟩,.string v3,.int .i64 0,.int .i64 0,.string ⟨#[]⟩,.slice none 0 0,.int .i64 0,.int .i64 v7.1,.int .i64 v7.2,.slice (some ⟨w9.heap.size,0,none⟩) 2 2] from kk.1)
   have F8:=Hy ((F.o.bn bb).st kk.2 gB3.o)
   have P8:=Hy ((P.o.keeps bb).st kk.2 (by have:=gB3.o;have:=F.o.hB;omega))
   have A8:=Hy (((eF (C:=g5+2) (Blk.new w9 43 (ex2 (aS 1) none 0 none 0 (aS 1) none 0 none 0)) (jm _ _ _) (jm _ _ _) HC.o).kp (kk.2.kp gC3.o)).less (show w.heap.size+2≤g5+2 by have:=gB5.o;omega))
   have L5':=Hy (show Blk w9 g5 43 (exC (aS 1) none 0 none 0) from L5.o)
   have L6':=Hy (show Blk w9 (g5+1) 43 (exC (aS 1) none 0 none 0) from L6.o)
   clear bb L3p kk
   unfold ex2 at c11 z11 L9 F8 P8 A8
   go_wp2_with (first | (refine bg (.tmp 5) rfl rfl _ _ _ rfl L5'.o rfl ?_) | (refine bg (.tmp 6) rfl rfl _ _ _ rfl L6'.o rfl ?_;simp only [exC]) | (refine bg (.tmp 3) rfl rfl _ _ _ rfl L9.o rfl ?_) | (refine aP (.tmp 2) (.tmp 65) rfl rfl _ _ _ _ rfl rfl F8.o.rz rfl rfl (by simp [Value.oneCell']) ?_;intro wz hb9 hs9))
   have F9:=F8.o.set hs9 hb9
   have P9:=P8.o.st hs9 (Nat.lt_succ_of_lt F8.o.hB)
   refine aF rfl _ _ _ _ _ rfl hb9 rfl ?_
   exact aQ HR.o.symm ⟨none,0,some ⟨w9.heap.size,0,none⟩,2,rfl,⟨.inl rfl,(A8.o.kp (hs9.kp (by omega))).less (by omega)⟩⟩ P9 F9.mv
  ·replace HR:=HR.o
   rw [ht,if_pos rfl] at HR
   replace HR:=Hy HR
   have HT:=Hy ht
   clear ht
   refine (aY B ⟨#[119,104,101,114,101]⟩ l7 _ P.o HT.o).mono ?_
   rintro e w8 ⟨rfl,pp,mm⟩
   replace F:=Hy (F.o.next mm)
   replace L3:=Hy (L3.o.mv mm (by have:=gB3.o;have:=F.o.hB;omega) L3.o.lt)
   replace L4:=Hy (L4.o.mv mm (by have:=gB4.o;have:=F.o.hB;omega) L4.o.lt)
   replace L5:=Hy (L5.o.mv mm (by have:=gB5.o;have:=F.o.hB;omega) L5.o.lt)
   replace L6:=Hy (L6.o.mv mm (by have:=gB6.o;have:=F.o.hB;omega) L6.o.lt)
   replace HC:=Hy (Nat.le_trans HC.o mm.size)
   replace P:=Hy pp
   clear pp mm
   clear e0 e1
   have e2:=L4.o.cell 0
   have e3:=L4.o.cell 1
   go_wp2_with fail
   clear e2 e3
   have hF:=Hy HC.o
   refine (R.ex B true l7.tail _ P.o (bF (by rw [HR.o];exact NE.o))).mono ?_
   rintro e w9 h9
   rcases hG9:pz f true .ex l7.tail with _ | ⟨v9,l9⟩ | ⟨a9,c9,l9⟩
   ·exact absurd (by rw [← HR.o,hG9];rfl) NE.o
   rotate_left
   ·rw [hG9] at h9
    obtain ⟨rfl,pp,mm⟩:=h9
    unfold thr
    have hno:=Hy (show r=.no a9 c9 l9 by rw [← HR.o,hG9];rfl)
    have PP:=Hy pp
    have MM:=Hy ((F.o.next mm).mv)
    clear pp mm hG9
    go_wp2_with fail
    exact ⟨rfl,aI hno.o PP.o MM.o⟩
   rw [hG9] at h9
   obtain ⟨u9,rfl,vv,pp,mm⟩:=h9
   replace HR:=HR.o
   rw [hG9] at HR
   simp only [aC] at HR
   replace HR:=Hy HR
   replace F:=Hy (F.o.next mm)
   replace L3:=Hy (L3.o.mv mm (by have:=gB3.o;have:=F.o.hB;omega) L3.o.lt)
   replace L4:=Hy (L4.o.mv mm (by have:=gB4.o;have:=F.o.hB;omega) L4.o.lt)
   replace L5:=Hy (L5.o.mv mm (by have:=gB5.o;have:=F.o.hB;omega) L5.o.lt)
   replace L6:=Hy (L6.o.mv mm (by have:=gB6.o;have:=F.o.hB;omega) L6.o.lt)
   replace HC:=Hy (Nat.le_trans HC.o mm.size)
   replace P:=Hy pp
   clear pp mm hG9
   have V9:=Hy vv
   clear vv
   obtain ⟨ua9,uc9,aa9,ac9,rfl,E9⟩:=V9.o
   replace E9:=Hy (Ec.less E9 hF.o)
   clear V9 hF
   go_wp2_with (refine aP (.tmp 6) (.tmp 57) rfl rfl _ _ _ _ rfl rfl L6.o rfl rfl (aG _ _ _ _ _) ?_;intro w9A hb hs;replace L6:=Hy hb;replace F:=Hy (F.o.st hs gB6.o);replace L3:=Hy (L3.o.st hs (fun h=>n63.o h.symm));replace L4:=Hy (L4.o.st hs (fun h=>n64.o h.symm));replace L5:=Hy (L5.o.st hs (by omega));replace HC:=Hy (Nat.le_trans HC.o (Nat.le_of_eq hs.size.symm));replace E9:=Hy (E9.o.kp (hs.kp (by omega)));replace P:=Hy (P.o.st hs (by have:=gB6.o;have:=F.o.hB;omega));clear hb hs;have e0:=F.o.c0;have e1:=F.o.c1)
   have hF:=Hy F.o.lt
   refine (aZ B ⟨#[41]⟩ l9 _ P.o).mono ?_
   rintro e w10 h10
   rcases hG10:need ⟨#[41]⟩ l9 with _ | ⟨v10,l10⟩ | ⟨a10,c10,l10⟩
   ·exact absurd (by rw [← HR.o,hG10];rfl) NE.o
   rotate_left
   ·rw [hG10] at h10
    obtain ⟨rfl,pp,mm⟩:=h10
    unfold thr
    have hno:=Hy (show r=.no a10 c10 l10 by rw [← HR.o,hG10];rfl)
    have PP:=Hy pp
    have MM:=Hy ((F.o.next mm).mv)
    clear pp mm hG10 e0 e1
    go_wp2_with fail
    exact ⟨rfl,aI hno.o PP.o MM.o⟩
   rw [hG10] at h10
   obtain ⟨u10,rfl,vv,pp,mm⟩:=h10
   replace HR:=HR.o
   rw [hG10] at HR
   simp only [aC] at HR
   replace HR:=Hy HR
   replace F:=Hy (F.o.next mm)
   replace L3:=Hy (L3.o.mv mm (by have:=gB3.o;have:=F.o.hB;omega) L3.o.lt)
   replace L4:=Hy (L4.o.mv mm (by have:=gB4.o;have:=F.o.hB;omega) L4.o.lt)
   replace L5:=Hy (L5.o.mv mm (by have:=gB5.o;have:=F.o.hB;omega) L5.o.lt)
   replace L6:=Hy (L6.o.mv mm (by have:=gB6.o;have:=F.o.hB;omega) L6.o.lt)
   replace HC:=Hy (Nat.le_trans HC.o mm.size)
   replace E9:=Hy (E9.o.kp (mm.kp (by have:=gCB.o;omega)))
   replace P:=Hy pp
   clear pp mm hG10
   obtain rfl:u10=.tuple #[]:=vv
   clear e0 e1
   clear hF
   have bb:=aj (b0 w10) (.cells (ex2 (aS 1) none 0 none 0 v9 ua9 uc9 aa9 ac9) 43)
   have L3p:=L3.o.past (.cells (ex2 (aS 1) none 0 none 0 v9 ua9 uc9 aa9 ac9) 43)
   have c11:=L3p.cell 11
   have z11:=L3p.free 11
   have kk:=L3p.setCell 11 (.slice (some ⟨w10.heap.size,0,none⟩) 2 2)
   have L9:=Hy (show Blk _ g3 43 #[.int .i64 5,.string v1,.string ⟨#[]⟩,.string v3,.int .i64 0,.int .i64 0,.string ⟨#[]⟩,.slice none 0 0,.int .i64 0,.int .i64 v7.1,.int .i64 v7.2,.slice (some ⟨w10.heap.size,0,none⟩) 2 2] from kk.1)
   have F8:=Hy ((F.o.bn bb).st kk.2 gB3.o)
   have P8:=Hy ((P.o.keeps bb).st kk.2 (by have:=gB3.o;have:=F.o.hB;omega))
   have A8:=Hy (((eF (C:=g5+2) (Blk.new w10 43 (ex2 (aS 1) none 0 none 0 v9 ua9 uc9 aa9 ac9)) (jm _ _ _) (E9.o.kp (aK bb)) HC.o).kp (kk.2.kp gC3.o)).less (show w.heap.size+2≤g5+2 by have:=gB5.o;omega))
   have L5':=Hy (show Blk w10 g5 43 (exC (aS 1) none 0 none 0) from L5.o)
   have L6':=Hy (show Blk w10 (g5+1) 43 (exC v9 ua9 uc9 aa9 ac9) from L6.o)
   clear bb L3p kk
   unfold ex2 at c11 z11 L9 F8 P8 A8
   go_wp2_with (first | (refine bg (.tmp 5) rfl rfl _ _ _ rfl L5'.o rfl ?_) | (refine bg (.tmp 6) rfl rfl _ _ _ rfl L6'.o rfl ?_;simp only [exC]) | (refine bg (.tmp 3) rfl rfl _ _ _ rfl L9.o rfl ?_) | (refine aP (.tmp 2) (.tmp 65) rfl rfl _ _ _ _ rfl rfl F8.o.rz rfl rfl (by simp [Value.oneCell']) ?_;intro wz hb9 hs9))
   have F9:=F8.o.set hs9 hb9
   have P9:=P8.o.st hs9 (Nat.lt_succ_of_lt F8.o.hB)
   refine aF rfl _ _ _ _ _ rfl hb9 rfl ?_
   exact aQ HR.o.symm ⟨none,0,some ⟨w10.heap.size,0,none⟩,2,rfl,⟨.inl rfl,(A8.o.kp (hs9.kp (by omega))).less (by omega)⟩⟩ P9 F9.mv
 ·have hcount:=hv
  clear hv
  by_cases hv:v1=⟨#[113,117,97,110,116,105,108,101]⟩
  ·have hdecay:¬ v1=⟨#[100,101,99,97,121]⟩:=by rw [hv];decide
   have hqd:(v1=⟨#[113,117,97,110,116,105,108,101]⟩∨v1=⟨#[100,101,99,97,121]⟩):=.inl hv
   have scount:(v1.toList==[99,111,117,110,116])=false:=by rw [str_eq];exact decide_eq_false hcount
   have tcount:(v1.toList != [99,111,117,110,116])=true:=by rw [bne,scount];rfl
   have squantile:(v1.toList==[113,117,97,110,116,105,108,101])=true:=by rw [str_eq];exact decide_eq_true hv
   have tquantile:(v1.toList != [113,117,97,110,116,105,108,101])=false:=by rw [bne,squantile];rfl
   have sdecay:(v1.toList==[100,101,99,97,121])=false:=by rw [str_eq];exact decide_eq_false hdecay
   have tdecay:(v1.toList != [100,101,99,97,121])=true:=by rw [bne,sdecay];rfl
   have d1:=L3.o.cell 1
   have e2:=L4.o.cell 0
   have e3:=L4.o.cell 1
   have e0:=F.o.c0
   have e1:=F.o.c1
   replace HR:=HR.o
   simp only [if_neg hcount,if_pos hqd,aC,oV] at HR
   replace HR:=Hy HR
   clear hv hqd hcount hdecay
   go_wp2_with fail
   generalize (w6.alloc (.cells #[.int .i64 1,.string ⟨#[]⟩,.string ⟨#[]⟩,.string ⟨#[]⟩,.int .i64 1,.int .i64 1,.string ⟨#[]⟩,.slice none 0 0,.int .i64 0,.int .i64 0,.int .i64 0,.slice none 0 0] 43)).alloc (.cells #[.int .i64 1,.string ⟨#[]⟩,.string ⟨#[]⟩,.string ⟨#[]⟩,.int .i64 1,.int .i64 1,.string ⟨#[]⟩,.slice none 0 0,.int .i64 0,.int .i64 0,.int .i64 0,.slice none 0 0] 43)=w7 at *
   generalize hg5:w6.heap.size=g5 at *
   clear hg5
   clear d1 e2 e3
   have hF:=Hy HC.o
   refine (R.ex B true l4 _ P.o (bF (by rw [HR.o];exact NE.o))).mono ?_
   rintro e w7 h7
   rcases hG7:pz f true .ex l4 with _ | ⟨v7,l7⟩ | ⟨a7,c7,l7⟩
   ·exact absurd (by rw [← HR.o,hG7];rfl) NE.o
   rotate_left
   ·rw [hG7] at h7
    obtain ⟨rfl,pp,mm⟩:=h7
    unfold thr
    have hno:=Hy (show r=.no a7 c7 l7 by rw [← HR.o,hG7];rfl)
    have PP:=Hy pp
    have MM:=Hy ((F.o.next mm).mv)
    clear pp mm hG7 e0 e1
    go_wp2_with fail
    exact ⟨rfl,aI hno.o PP.o MM.o⟩
   rw [hG7] at h7
   obtain ⟨u7,rfl,vv,pp,mm⟩:=h7
   replace HR:=HR.o
   rw [hG7] at HR
   simp only [aC] at HR
   replace HR:=Hy HR
   replace F:=Hy (F.o.next mm)
   replace L3:=Hy (L3.o.mv mm (by have:=gB3.o;have:=F.o.hB;omega) L3.o.lt)
   replace L4:=Hy (L4.o.mv mm (by have:=gB4.o;have:=F.o.hB;omega) L4.o.lt)
   replace L5:=Hy (L5.o.mv mm (by have:=gB5.o;have:=F.o.hB;omega) L5.o.lt)
   replace L6:=Hy (L6.o.mv mm (by have:=gB6.o;have:=F.o.hB;omega) L6.o.lt)
   replace HC:=Hy (Nat.le_trans HC.o mm.size)
   replace P:=Hy pp
   clear pp mm hG7
   have V7:=Hy vv
   clear vv
   clear e0 e1
   obtain ⟨ua7,uc7,aa7,ac7,rfl,E7⟩:=V7.o
   replace E7:=Hy (Ec.less E7 hF.o)
   clear V7 hF
   go_wp2_with (refine aP (.tmp 5) (.tmp 30) rfl rfl _ _ _ _ rfl rfl L5.o rfl rfl (aG _ _ _ _ _) ?_;intro w7A hb hs;replace L5:=Hy hb;replace F:=Hy (F.o.st hs gB5.o);replace L3:=Hy (L3.o.st hs (fun h=>n53.o h.symm));replace L4:=Hy (L4.o.st hs (fun h=>n54.o h.symm));replace L6:=Hy (L6.o.st hs (by omega));replace HC:=Hy (Nat.le_trans HC.o (Nat.le_of_eq hs.size.symm));replace E7:=Hy (E7.o.kp (hs.kp (by omega)));replace P:=Hy (P.o.st hs (by have:=gB5.o;have:=F.o.hB;omega));clear hb hs;have e0:=F.o.c0;have e1:=F.o.c1;have d1:=L3.o.cell 1)
   have hF:=Hy F.o.lt
   refine (aZ B ⟨#[44]⟩ l7 _ P.o).mono ?_
   rintro e w8 h8
   rcases hG8:need ⟨#[44]⟩ l7 with _ | ⟨v8,l8⟩ | ⟨a8,c8,l8⟩
   ·exact absurd (by rw [← HR.o,hG8];rfl) NE.o
   rotate_left
   ·rw [hG8] at h8
    obtain ⟨rfl,pp,mm⟩:=h8
    unfold thr
    have hno:=Hy (show r=.no a8 c8 l8 by rw [← HR.o,hG8];rfl)
    have PP:=Hy pp
    have MM:=Hy ((F.o.next mm).mv)
    clear pp mm hG8 e0 e1
    go_wp2_with fail
    exact ⟨rfl,aI hno.o PP.o MM.o⟩
   rw [hG8] at h8
   obtain ⟨u8,rfl,vv,pp,mm⟩:=h8
   replace HR:=HR.o
   rw [hG8] at HR
   simp only [aC] at HR
   replace HR:=Hy HR
   replace F:=Hy (F.o.next mm)
   replace L3:=Hy (L3.o.mv mm (by have:=gB3.o;have:=F.o.hB;omega) L3.o.lt)
   replace L4:=Hy (L4.o.mv mm (by have:=gB4.o;have:=F.o.hB;omega) L4.o.lt)
   replace L5:=Hy (L5.o.mv mm (by have:=gB5.o;have:=F.o.hB;omega) L5.o.lt)
   replace L6:=Hy (L6.o.mv mm (by have:=gB6.o;have:=F.o.hB;omega) L6.o.lt)
   replace HC:=Hy (Nat.le_trans HC.o mm.size)
   replace E7:=Hy (E7.o.kp (mm.kp (by have:=gCB.o;omega)))
   replace P:=Hy pp
   clear pp mm hG8
   obtain rfl:u8=.tuple #[]:=vv
   clear e0 e1
   clear hF
   clear d1
   have d1:=L3.o.cell 1
   have e0:=F.o.c0
   have e1:=F.o.c1
   go_wp2_with fail
   clear d1
   have hF:=Hy F.o.lt
   refine (dH B l8 _ P.o _ rfl (int_ne _)).mono ?_
   rintro e w9 h9
   rcases hG9:int l8 with _ | ⟨v9,l9⟩ | ⟨a9,c9,l9⟩
   ·exact absurd (by rw [← HR.o,hG9];rfl) NE.o
   rotate_left
   ·rw [hG9] at h9
    obtain ⟨rfl,pp,mm⟩:=h9
    unfold thr
    have hno:=Hy (show r=.no a9 c9 l9 by rw [← HR.o,hG9];rfl)
    have PP:=Hy pp
    have MM:=Hy ((F.o.next mm).mv)
    clear pp mm hG9 e0 e1
    go_wp2_with fail
    exact ⟨rfl,aI hno.o PP.o MM.o⟩
   rw [hG9] at h9
   obtain ⟨u9,rfl,vv,pp,mm⟩:=h9
   replace HR:=HR.o
   rw [hG9] at HR
   simp only [aC] at HR
   replace HR:=Hy HR
   replace F:=Hy (F.o.next mm)
   replace L3:=Hy (L3.o.mv mm (by have:=gB3.o;have:=F.o.hB;omega) L3.o.lt)
   replace L4:=Hy (L4.o.mv mm (by have:=gB4.o;have:=F.o.hB;omega) L4.o.lt)
   replace L5:=Hy (L5.o.mv mm (by have:=gB5.o;have:=F.o.hB;omega) L5.o.lt)
   replace L6:=Hy (L6.o.mv mm (by have:=gB6.o;have:=F.o.hB;omega) L6.o.lt)
   replace HC:=Hy (Nat.le_trans HC.o mm.size)
   replace E7:=Hy (E7.o.kp (mm.kp (by have:=gCB.o;omega)))
   replace P:=Hy pp
   clear pp mm hG9
   obtain rfl:u9=.int .i64 v9:=vv
   clear e0 e1
   clear hF
   have c8:=L3.o.cell 8
   have z8:=L3.o.free 8
   have k8:=L3.o.setCell 8 (.int .i64 v9)
   have SK:=k8.2
   replace F:=Hy (F.o.st SK gB3.o)
   replace L4:=Hy (L4.o.st SK n43.o)
   replace L5:=Hy (L5.o.st SK n53.o)
   replace L6:=Hy (L6.o.st SK n63.o)
   replace HC:=Hy (Nat.le_trans HC.o (Nat.le_of_eq SK.size.symm))
   replace E7:=Hy (E7.o.kp (SK.kp gC3.o))
   replace P:=Hy (P.o.st SK (by have:=gB3.o;have:=F.o.hB;omega))
   replace L3:=Hy (show Blk (w9.setCell ⟨g3,8,none⟩ (.int .i64 v9)) g3 43 #[.int .i64 5,.string v1,.string ⟨#[]⟩,.string v3,.int .i64 0,.int .i64 0,.string ⟨#[]⟩,.slice none 0 0,.int .i64 v9,.int .i64 0,.int .i64 0,.slice none 0 0] from k8.1)
   clear SK k8
   have e0:=F.o.c0
   have e1:=F.o.c1
   go_wp2_with fail
   clear c8 z8
   generalize (w9.setCell ⟨g3,8,none⟩ (.int .i64 v9))=w8s at *
   have hF:=Hy F.o.lt
   refine (aZ B ⟨#[44]⟩ l9 _ P.o).mono ?_
   rintro e w10 h10
   rcases hG10:need ⟨#[44]⟩ l9 with _ | ⟨v10,l10⟩ | ⟨a10,c10,l10⟩
   ·exact absurd (by rw [← HR.o,hG10];rfl) NE.o
   rotate_left
   ·rw [hG10] at h10
    obtain ⟨rfl,pp,mm⟩:=h10
    unfold thr
    have hno:=Hy (show r=.no a10 c10 l10 by rw [← HR.o,hG10];rfl)
    have PP:=Hy pp
    have MM:=Hy ((F.o.next mm).mv)
    clear pp mm hG10 e0 e1
    go_wp2_with fail
    exact ⟨rfl,aI hno.o PP.o MM.o⟩
   rw [hG10] at h10
   obtain ⟨u10,rfl,vv,pp,mm⟩:=h10
   replace HR:=HR.o
   rw [hG10] at HR
   simp only [aC] at HR
   replace HR:=Hy HR
   replace F:=Hy (F.o.next mm)
   replace L3:=Hy (L3.o.mv mm (by have:=gB3.o;have:=F.o.hB;omega) L3.o.lt)
   replace L4:=Hy (L4.o.mv mm (by have:=gB4.o;have:=F.o.hB;omega) L4.o.lt)
   replace L5:=Hy (L5.o.mv mm (by have:=gB5.o;have:=F.o.hB;omega) L5.o.lt)
   replace L6:=Hy (L6.o.mv mm (by have:=gB6.o;have:=F.o.hB;omega) L6.o.lt)
   replace HC:=Hy (Nat.le_trans HC.o mm.size)
   replace E7:=Hy (E7.o.kp (mm.kp (by have:=gCB.o;omega)))
   replace P:=Hy pp
   clear pp mm hG10
   obtain rfl:u10=.tuple #[]:=vv
   clear e0 e1
   clear hF
   have e0:=F.o.c0
   have e1:=F.o.c1
   go_wp2_with fail
   have hF:=Hy F.o.lt
   refine (lu B l10 _ P.o _ rfl (iK _)).mono ?_
   rintro e w11 h11
   rcases hG11:win l10 with _ | ⟨v11,l11⟩ | ⟨a11,c11,l11⟩
   ·exact absurd (by rw [← HR.o,hG11];rfl) NE.o
   rotate_left
   ·rw [hG11] at h11
    obtain ⟨rfl,pp,mm⟩:=h11
    unfold thr
    have hno:=Hy (show r=.no a11 c11 l11 by rw [← HR.o,hG11];rfl)
    have PP:=Hy pp
    have MM:=Hy ((F.o.next mm).mv)
    clear pp mm hG11 e0 e1
    go_wp2_with fail
    exact ⟨rfl,aI hno.o PP.o MM.o⟩
   rw [hG11] at h11
   obtain ⟨u11,rfl,vv,pp,mm⟩:=h11
   replace HR:=HR.o
   rw [hG11] at HR
   simp only [aC] at HR
   replace HR:=Hy HR
   replace F:=Hy (F.o.next mm)
   replace L3:=Hy (L3.o.mv mm (by have:=gB3.o;have:=F.o.hB;omega) L3.o.lt)
   replace L4:=Hy (L4.o.mv mm (by have:=gB4.o;have:=F.o.hB;omega) L4.o.lt)
   replace L5:=Hy (L5.o.mv mm (by have:=gB5.o;have:=F.o.hB;omega) L5.o.lt)
   replace L6:=Hy (L6.o.mv mm (by have:=gB6.o;have:=F.o.hB;omega) L6.o.lt)
   replace HC:=Hy (Nat.le_trans HC.o mm.size)
   replace E7:=Hy (E7.o.kp (mm.kp (by have:=gCB.o;omega)))
   replace P:=Hy pp
   clear pp mm hG11
   have V11:=Hy vv
   clear vv
   clear e0 e1
   clear hF
   obtain rfl:u11=.agg #[.int .i64 v11.1,.int .i64 v11.2]:=V11.o
   clear V11
   have c9:=L3.o.cell 9
   have z9:=L3.o.free 9
   have c10:=L3.o.cell 10
   have z10:=L3.o.free 10
   have k9:=L3.o.setCell 9 (.int .i64 v11.1)
   have k10:=k9.1.setCell 10 (.int .i64 v11.2)
   have SK:=St.trans k9.2 k10.2
   replace F:=Hy (F.o.st SK gB3.o)
   replace L4:=Hy (L4.o.st SK n43.o)
   replace L5:=Hy (L5.o.st SK n53.o)
   replace L6:=Hy (L6.o.st SK n63.o)
   replace HC:=Hy (Nat.le_trans HC.o (Nat.le_of_eq SK.size.symm))
   replace E7:=Hy (E7.o.kp (SK.kp gC3.o))
   replace P:=Hy (P.o.st SK (by have:=gB3.o;have:=F.o.hB;omega))
   replace L3:=Hy (show Blk ((w11.setCell ⟨g3,9,none⟩ (.int .i64 v11.1)).setCell ⟨g3,10,none⟩ (.int .i64 v11.2)) g3 43 #[.int .i64 5,.string v1,.string ⟨#[]⟩,.string v3,.int .i64 0,.int .i64 0,.string ⟨#[]⟩,.slice none 0 0,.int .i64 v9,.int .i64 v11.1,.int .i64 v11.2,.slice none 0 0] from k10.1)
   clear SK k9 k10
   have e0:=F.o.c0
   have e1:=F.o.c1
   go_wp2_with fail
   clear c9 z9 c10 z10
   generalize ((w11.setCell ⟨g3,9,none⟩ (.int .i64 v11.1)).setCell ⟨g3,10,none⟩ (.int .i64 v11.2))=w9s at *
   clear scount tcount squantile tquantile sdecay tdecay
   cases ht:isT ⟨#[119,104,101,114,101]⟩ l11
   ·replace HR:=HR.o
    rw [ht,if_neg (by decide)] at HR
    simp only [aC] at HR
    replace HR:=Hy HR
    have HT:=Hy ht
    clear ht
    refine (aN B ⟨#[119,104,101,114,101]⟩ l11 _ P.o HT.o).mono ?_
    rintro e w12 ⟨rfl,pp,mm⟩
    replace F:=Hy (F.o.next mm)
    replace L3:=Hy (L3.o.mv mm (by have:=gB3.o;have:=F.o.hB;omega) L3.o.lt)
    replace L4:=Hy (L4.o.mv mm (by have:=gB4.o;have:=F.o.hB;omega) L4.o.lt)
    replace L5:=Hy (L5.o.mv mm (by have:=gB5.o;have:=F.o.hB;omega) L5.o.lt)
    replace L6:=Hy (L6.o.mv mm (by have:=gB6.o;have:=F.o.hB;omega) L6.o.lt)
    replace HC:=Hy (Nat.le_trans HC.o mm.size)
    replace E7:=Hy (E7.o.kp (mm.kp (by have:=gCB.o;omega)))
    replace P:=Hy pp
    clear pp mm
    clear e0 e1
    have e0:=F.o.c0
    have e1:=F.o.c1
    go_wp2_with fail
    have hF:=Hy F.o.lt
    refine (aZ B ⟨#[41]⟩ l11 _ P.o).mono ?_
    rintro e w13 h13
    rcases hG13:need ⟨#[41]⟩ l11 with _ | ⟨v13,l13⟩ | ⟨a13,c13,l13⟩
    ·exact absurd (by rw [← HR.o,hG13];rfl) NE.o
    rotate_left
    ·rw [hG13] at h13
     obtain ⟨rfl,pp,mm⟩:=h13
     unfold thr
     have hno:=Hy (show r=.no a13 c13 l13 by rw [← HR.o,hG13];rfl)
     have PP:=Hy pp
     have MM:=Hy ((F.o.next mm).mv)
     clear pp mm hG13 e0 e1
     go_wp2_with fail
     exact ⟨rfl,aI hno.o PP.o MM.o⟩
    rw [hG13] at h13
    obtain ⟨u13,rfl,vv,pp,mm⟩:=h13
    replace HR:=HR.o
    rw [hG13] at HR
    simp only [aC] at HR
    replace HR:=Hy HR
    replace F:=Hy (F.o.next mm)
    replace L3:=Hy (L3.o.mv mm (by have:=gB3.o;have:=F.o.hB;omega) L3.o.lt)
    replace L4:=Hy (L4.o.mv mm (by have:=gB4.o;have:=F.o.hB;omega) L4.o.lt)
    replace L5:=Hy (L5.o.mv mm (by have:=gB5.o;have:=F.o.hB;omega) L5.o.lt)
    replace L6:=Hy (L6.o.mv mm (by have:=gB6.o;have:=F.o.hB;omega) L6.o.lt)
    replace HC:=Hy (Nat.le_trans HC.o mm.size)
    replace E7:=Hy (E7.o.kp (mm.kp (by have:=gCB.o;omega)))
    replace P:=Hy pp
    clear pp mm hG13
    obtain rfl:u13=.tuple #[]:=vv
    clear e0 e1
    clear hF
    have bb:=aj (b0 w13) (.cells (ex2 v7 ua7 uc7 aa7 ac7 (aS 1) none 0 none 0) 43)
    have L3p:=L3.o.past (.cells (ex2 v7 ua7 uc7 aa7 ac7 (aS 1) none 0 none 0) 43)
    have c11:=L3p.cell 11
    have z11:=L3p.free 11
    have kk:=L3p.setCell 11 (.slice (some ⟨w13.heap.size,0,none⟩) 2 2)
    have L9:=Hy (show Blk _ g3 43 #[.int .i64 5,.string v1,.string ⟨#[]⟩,.string v3,.int .i64 0,.int .i64 0,.string ⟨#[]⟩,.slice none 0 0,.int .i64 v9,.int .i64 v11.1,.int .i64 v11.2,.slice (some ⟨w13.heap.size,0,none⟩) 2 2] from kk.1)
    have F8:=Hy ((F.o.bn bb).st kk.2 gB3.o)
    have P8:=Hy ((P.o.keeps bb).st kk.2 (by have:=gB3.o;have:=F.o.hB;omega))
    have A8:=Hy (((eF (C:=g5+2) (Blk.new w13 43 (ex2 v7 ua7 uc7 aa7 ac7 (aS 1) none 0 none 0)) (E7.o.kp (aK bb)) (jm _ _ _) HC.o).kp (kk.2.kp gC3.o)).less (show w.heap.size+2≤g5+2 by have:=gB5.o;omega))
    have L5':=Hy (show Blk w13 g5 43 (exC v7 ua7 uc7 aa7 ac7) from L5.o)
    have L6':=Hy (show Blk w13 (g5+1) 43 (exC (aS 1) none 0 none 0) from L6.o)
    clear bb L3p kk
    unfold ex2 at c11 z11 L9 F8 P8 A8
    go_wp2_with (first | (refine bg (.tmp 5) rfl rfl _ _ _ rfl L5'.o rfl ?_) | (refine bg (.tmp 6) rfl rfl _ _ _ rfl L6'.o rfl ?_;simp only [exC]) | (refine bg (.tmp 3) rfl rfl _ _ _ rfl L9.o rfl ?_) | (refine aP (.tmp 2) (.tmp 65) rfl rfl _ _ _ _ rfl rfl F8.o.rz rfl rfl (by simp [Value.oneCell']) ?_;intro wz hb9 hs9))
    have F9:=F8.o.set hs9 hb9
    have P9:=P8.o.st hs9 (Nat.lt_succ_of_lt F8.o.hB)
    refine aF rfl _ _ _ _ _ rfl hb9 rfl ?_
    exact aQ HR.o.symm ⟨none,0,some ⟨w13.heap.size,0,none⟩,2,rfl,⟨.inl rfl,(A8.o.kp (hs9.kp (by omega))).less (by omega)⟩⟩ P9 F9.mv
   ·replace HR:=HR.o
    rw [ht,if_pos rfl] at HR
    replace HR:=Hy HR
    have HT:=Hy ht
    clear ht
    refine (aY B ⟨#[119,104,101,114,101]⟩ l11 _ P.o HT.o).mono ?_
    rintro e w12 ⟨rfl,pp,mm⟩
    replace F:=Hy (F.o.next mm)
    replace L3:=Hy (L3.o.mv mm (by have:=gB3.o;have:=F.o.hB;omega) L3.o.lt)
    replace L4:=Hy (L4.o.mv mm (by have:=gB4.o;have:=F.o.hB;omega) L4.o.lt)
    replace L5:=Hy (L5.o.mv mm (by have:=gB5.o;have:=F.o.hB;omega) L5.o.lt)
    replace L6:=Hy (L6.o.mv mm (by have:=gB6.o;have:=F.o.hB;omega) L6.o.lt)
    replace HC:=Hy (Nat.le_trans HC.o mm.size)
    replace E7:=Hy (E7.o.kp (mm.kp (by have:=gCB.o;omega)))
    replace P:=Hy pp
    clear pp mm
    clear e0 e1
    have e2:=L4.o.cell 0
    have e3:=L4.o.cell 1
    go_wp2_with fail
    clear e2 e3
    have hF:=Hy HC.o
    refine (R.ex B true l11.tail _ P.o (bF (by rw [HR.o];exact NE.o))).mono ?_
    rintro e w13 h13
    rcases hG13:pz f true .ex l11.tail with _ | ⟨v13,l13⟩ | ⟨a13,c13,l13⟩
    ·exact absurd (by rw [← HR.o,hG13];rfl) NE.o
    rotate_left
    ·rw [hG13] at h13
     obtain ⟨rfl,pp,mm⟩:=h13
     unfold thr
     have hno:=Hy (show r=.no a13 c13 l13 by rw [← HR.o,hG13];rfl)
     have PP:=Hy pp
     have MM:=Hy ((F.o.next mm).mv)
     clear pp mm hG13
     go_wp2_with fail
     exact ⟨rfl,aI hno.o PP.o MM.o⟩
    rw [hG13] at h13
    obtain ⟨u13,rfl,vv,pp,mm⟩:=h13
    replace HR:=HR.o
    rw [hG13] at HR
    simp only [aC] at HR
    replace HR:=Hy HR
    replace F:=Hy (F.o.next mm)
    replace L3:=Hy (L3.o.mv mm (by have:=gB3.o;have:=F.o.hB;omega) L3.o.lt)
    replace L4:=Hy (L4.o.mv mm (by have:=gB4.o;have:=F.o.hB;omega) L4.o.lt)
    replace L5:=Hy (L5.o.mv mm (by have:=gB5.o;have:=F.o.hB;omega) L5.o.lt)
    replace L6:=Hy (L6.o.mv mm (by have:=gB6.o;have:=F.o.hB;omega) L6.o.lt)
    replace HC:=Hy (Nat.le_trans HC.o mm.size)
    replace E7:=Hy (E7.o.kp (mm.kp (by have:=gCB.o;omega)))
    replace P:=Hy pp
    clear pp mm hG13
    have V13:=Hy vv
    clear vv
    obtain ⟨ua13,uc13,aa13,ac13,rfl,E13⟩:=V13.o
    replace E13:=Hy (Ec.less E13 hF.o)
    clear V13 hF
    go_wp2_with (refine aP (.tmp 6) (.tmp 57) rfl rfl _ _ _ _ rfl rfl L6.o rfl rfl (aG _ _ _ _ _) ?_;intro w13A hb hs;replace L6:=Hy hb;replace F:=Hy (F.o.st hs gB6.o);replace L3:=Hy (L3.o.st hs (fun h=>n63.o h.symm));replace L4:=Hy (L4.o.st hs (fun h=>n64.o h.symm));replace L5:=Hy (L5.o.st hs (by omega));replace HC:=Hy (Nat.le_trans HC.o (Nat.le_of_eq hs.size.symm));replace E7:=Hy (E7.o.kp (hs.kp (by omega)));replace E13:=Hy (E13.o.kp (hs.kp (by omega)));replace P:=Hy (P.o.st hs (by have:=gB6.o;have:=F.o.hB;omega));clear hb hs;have e0:=F.o.c0;have e1:=F.o.c1)
    have hF:=Hy F.o.lt
    refine (aZ B ⟨#[41]⟩ l13 _ P.o).mono ?_
    rintro e w14 h14
    rcases hG14:need ⟨#[41]⟩ l13 with _ | ⟨v14,l14⟩ | ⟨a14,c14,l14⟩
    ·exact absurd (by rw [← HR.o,hG14];rfl) NE.o
    rotate_left
    ·rw [hG14] at h14
     obtain ⟨rfl,pp,mm⟩:=h14
     unfold thr
     have hno:=Hy (show r=.no a14 c14 l14 by rw [← HR.o,hG14];rfl)
     have PP:=Hy pp
     have MM:=Hy ((F.o.next mm).mv)
     clear pp mm hG14 e0 e1
     go_wp2_with fail
     exact ⟨rfl,aI hno.o PP.o MM.o⟩
    rw [hG14] at h14
    obtain ⟨u14,rfl,vv,pp,mm⟩:=h14
    replace HR:=HR.o
    rw [hG14] at HR
    simp only [aC] at HR
    replace HR:=Hy HR
    replace F:=Hy (F.o.next mm)
    replace L3:=Hy (L3.o.mv mm (by have:=gB3.o;have:=F.o.hB;omega) L3.o.lt)
    replace L4:=Hy (L4.o.mv mm (by have:=gB4.o;have:=F.o.hB;omega) L4.o.lt)
    replace L5:=Hy (L5.o.mv mm (by have:=gB5.o;have:=F.o.hB;omega) L5.o.lt)
    replace L6:=Hy (L6.o.mv mm (by have:=gB6.o;have:=F.o.hB;omega) L6.o.lt)
    replace HC:=Hy (Nat.le_trans HC.o mm.size)
    replace E7:=Hy (E7.o.kp (mm.kp (by have:=gCB.o;omega)))
    replace E13:=Hy (E13.o.kp (mm.kp (by have:=gCB.o;omega)))
    replace P:=Hy pp
    clear pp mm hG14
    obtain rfl:u14=.tuple #[]:=vv
    clear e0 e1
    clear hF
    have bb:=aj (b0 w14) (.cells (ex2 v7 ua7 uc7 aa7 ac7 v13 ua13 uc13 aa13 ac13) 43)
    have L3p:=L3.o.past (.cells (ex2 v7 ua7 uc7 aa7 ac7 v13 ua13 uc13 aa13 ac13) 43)
    have c11:=L3p.cell 11
    have z11:=L3p.free 11
    have kk:=L3p.setCell 11 (.slice (some ⟨w14.heap.size,0,none⟩) 2 2)
    have L9:=Hy (show Blk _ g3 43 #[.int .i64 5,.string v1,.string ⟨#[]⟩,.string v3,.int .i64 0,.int .i64 0,.string ⟨#[]⟩,.slice none 0 0,.int .i64 v9,.int .i64 v11.1,.int .i64 v11.2,.slice (some ⟨w14.heap.size,0,none⟩) 2 2] from kk.1)
    have F8:=Hy ((F.o.bn bb).st kk.2 gB3.o)
    have P8:=Hy ((P.o.keeps bb).st kk.2 (by have:=gB3.o;have:=F.o.hB;omega))
    have A8:=Hy (((eF (C:=g5+2) (Blk.new w14 43 (ex2 v7 ua7 uc7 aa7 ac7 v13 ua13 uc13 aa13 ac13)) (E7.o.kp (aK bb)) (E13.o.kp (aK bb)) HC.o).kp (kk.2.kp gC3.o)).less (show w.heap.size+2≤g5+2 by have:=gB5.o;omega))
    have L5':=Hy (show Blk w14 g5 43 (exC v7 ua7 uc7 aa7 ac7) from L5.o)
    have L6':=Hy (show Blk w14 (g5+1) 43 (exC v13 ua13 uc13 aa13 ac13) from L6.o)
    clear bb L3p kk
    unfold ex2 at c11 z11 L9 F8 P8 A8
    go_wp2_with (first | (refine bg (.tmp 5) rfl rfl _ _ _ rfl L5'.o rfl ?_) | (refine bg (.tmp 6) rfl rfl _ _ _ rfl L6'.o rfl ?_;simp only [exC]) | (refine bg (.tmp 3) rfl rfl _ _ _ rfl L9.o rfl ?_) | (refine aP (.tmp 2) (.tmp 65) rfl rfl _ _ _ _ rfl rfl F8.o.rz rfl rfl (by simp [Value.oneCell']) ?_;intro wz hb9 hs9))
    have F9:=F8.o.set hs9 hb9
    have P9:=P8.o.st hs9 (Nat.lt_succ_of_lt F8.o.hB)
    refine aF rfl _ _ _ _ _ rfl hb9 rfl ?_
    exact aQ HR.o.symm ⟨none,0,some ⟨w14.heap.size,0,none⟩,2,rfl,⟨.inl rfl,(A8.o.kp (hs9.kp (by omega))).less (by omega)⟩⟩ P9 F9.mv
  ·have hquantile:=hv
   clear hv
   by_cases hv:v1=⟨#[100,101,99,97,121]⟩
   ·have hqd:(v1=⟨#[113,117,97,110,116,105,108,101]⟩∨v1=⟨#[100,101,99,97,121]⟩):=.inr hv
    have scount:(v1.toList==[99,111,117,110,116])=false:=by rw [str_eq];exact decide_eq_false hcount
    have tcount:(v1.toList != [99,111,117,110,116])=true:=by rw [bne,scount];rfl
    have squantile:(v1.toList==[113,117,97,110,116,105,108,101])=false:=by rw [str_eq];exact decide_eq_false hquantile
    have tquantile:(v1.toList != [113,117,97,110,116,105,108,101])=true:=by rw [bne,squantile];rfl
    have sdecay:(v1.toList==[100,101,99,97,121])=true:=by rw [str_eq];exact decide_eq_true hv
    have tdecay:(v1.toList != [100,101,99,97,121])=false:=by rw [bne,sdecay];rfl
    have d1:=L3.o.cell 1
    have e2:=L4.o.cell 0
    have e3:=L4.o.cell 1
    have e0:=F.o.c0
    have e1:=F.o.c1
    replace HR:=HR.o
    simp only [if_neg hcount,if_pos hqd,aC,oV] at HR
    replace HR:=Hy HR
    clear hv hqd hcount hquantile
    go_wp2_with fail
    generalize (w6.alloc (.cells #[.int .i64 1,.string ⟨#[]⟩,.string ⟨#[]⟩,.string ⟨#[]⟩,.int .i64 1,.int .i64 1,.string ⟨#[]⟩,.slice none 0 0,.int .i64 0,.int .i64 0,.int .i64 0,.slice none 0 0] 43)).alloc (.cells #[.int .i64 1,.string ⟨#[]⟩,.string ⟨#[]⟩,.string ⟨#[]⟩,.int .i64 1,.int .i64 1,.string ⟨#[]⟩,.slice none 0 0,.int .i64 0,.int .i64 0,.int .i64 0,.slice none 0 0] 43)=w7 at *
    generalize hg5:w6.heap.size=g5 at *
    clear hg5
    clear d1 e2 e3
    have hF:=Hy HC.o
    refine (R.ex B true l4 _ P.o (bF (by rw [HR.o];exact NE.o))).mono ?_
    rintro e w7 h7
    rcases hG7:pz f true .ex l4 with _ | ⟨v7,l7⟩ | ⟨a7,c7,l7⟩
    ·exact absurd (by rw [← HR.o,hG7];rfl) NE.o
    rotate_left
    ·rw [hG7] at h7
     obtain ⟨rfl,pp,mm⟩:=h7
     unfold thr
     have hno:=Hy (show r=.no a7 c7 l7 by rw [← HR.o,hG7];rfl)
     have PP:=Hy pp
     have MM:=Hy ((F.o.next mm).mv)
     clear pp mm hG7 e0 e1
     go_wp2_with fail
     exact ⟨rfl,aI hno.o PP.o MM.o⟩
    rw [hG7] at h7
    obtain ⟨u7,rfl,vv,pp,mm⟩:=h7
    replace HR:=HR.o
    rw [hG7] at HR
    simp only [aC] at HR
    replace HR:=Hy HR
    replace F:=Hy (F.o.next mm)
    replace L3:=Hy (L3.o.mv mm (by have:=gB3.o;have:=F.o.hB;omega) L3.o.lt)
    replace L4:=Hy (L4.o.mv mm (by have:=gB4.o;have:=F.o.hB;omega) L4.o.lt)
    replace L5:=Hy (L5.o.mv mm (by have:=gB5.o;have:=F.o.hB;omega) L5.o.lt)
    replace L6:=Hy (L6.o.mv mm (by have:=gB6.o;have:=F.o.hB;omega) L6.o.lt)
    replace HC:=Hy (Nat.le_trans HC.o mm.size)
    replace P:=Hy pp
    clear pp mm hG7
    have V7:=Hy vv
    clear vv
    clear e0 e1
    obtain ⟨ua7,uc7,aa7,ac7,rfl,E7⟩:=V7.o
    replace E7:=Hy (Ec.less E7 hF.o)
    clear V7 hF
    go_wp2_with (refine aP (.tmp 5) (.tmp 30) rfl rfl _ _ _ _ rfl rfl L5.o rfl rfl (aG _ _ _ _ _) ?_;intro w7A hb hs;replace L5:=Hy hb;replace F:=Hy (F.o.st hs gB5.o);replace L3:=Hy (L3.o.st hs (fun h=>n53.o h.symm));replace L4:=Hy (L4.o.st hs (fun h=>n54.o h.symm));replace L6:=Hy (L6.o.st hs (by omega));replace HC:=Hy (Nat.le_trans HC.o (Nat.le_of_eq hs.size.symm));replace E7:=Hy (E7.o.kp (hs.kp (by omega)));replace P:=Hy (P.o.st hs (by have:=gB5.o;have:=F.o.hB;omega));clear hb hs;have e0:=F.o.c0;have e1:=F.o.c1;have d1:=L3.o.cell 1)
    have hF:=Hy F.o.lt
    refine (aZ B ⟨#[44]⟩ l7 _ P.o).mono ?_
    rintro e w8 h8
    rcases hG8:need ⟨#[44]⟩ l7 with _ | ⟨v8,l8⟩ | ⟨a8,c8,l8⟩
    ·exact absurd (by rw [← HR.o,hG8];rfl) NE.o
    rotate_left
    ·rw [hG8] at h8
     obtain ⟨rfl,pp,mm⟩:=h8
     unfold thr
     have hno:=Hy (show r=.no a8 c8 l8 by rw [← HR.o,hG8];rfl)
     have PP:=Hy pp
     have MM:=Hy ((F.o.next mm).mv)
     clear pp mm hG8 e0 e1
     go_wp2_with fail
     exact ⟨rfl,aI hno.o PP.o MM.o⟩
    rw [hG8] at h8
    obtain ⟨u8,rfl,vv,pp,mm⟩:=h8
    replace HR:=HR.o
    rw [hG8] at HR
    simp only [aC] at HR
    replace HR:=Hy HR
    replace F:=Hy (F.o.next mm)
    replace L3:=Hy (L3.o.mv mm (by have:=gB3.o;have:=F.o.hB;omega) L3.o.lt)
    replace L4:=Hy (L4.o.mv mm (by have:=gB4.o;have:=F.o.hB;omega) L4.o.lt)
    replace L5:=Hy (L5.o.mv mm (by have:=gB5.o;have:=F.o.hB;omega) L5.o.lt)
    replace L6:=Hy (L6.o.mv mm (by have:=gB6.o;have:=F.o.hB;omega) L6.o.lt)
    replace HC:=Hy (Nat.le_trans HC.o mm.size)
    replace E7:=Hy (E7.o.kp (mm.kp (by have:=gCB.o;omega)))
    replace P:=Hy pp
    clear pp mm hG8
    obtain rfl:u8=.tuple #[]:=vv
    clear e0 e1
    clear hF
    clear d1
    have d1:=L3.o.cell 1
    have e0:=F.o.c0
    have e1:=F.o.c1
    go_wp2_with fail
    clear d1
    have hF:=Hy F.o.lt
    refine (dH B l8 _ P.o _ rfl (int_ne _)).mono ?_
    rintro e w9 h9
    rcases hG9:int l8 with _ | ⟨v9,l9⟩ | ⟨a9,c9,l9⟩
    ·exact absurd (by rw [← HR.o,hG9];rfl) NE.o
    rotate_left
    ·rw [hG9] at h9
     obtain ⟨rfl,pp,mm⟩:=h9
     unfold thr
     have hno:=Hy (show r=.no a9 c9 l9 by rw [← HR.o,hG9];rfl)
     have PP:=Hy pp
     have MM:=Hy ((F.o.next mm).mv)
     clear pp mm hG9 e0 e1
     go_wp2_with fail
     exact ⟨rfl,aI hno.o PP.o MM.o⟩
    rw [hG9] at h9
    obtain ⟨u9,rfl,vv,pp,mm⟩:=h9
    replace HR:=HR.o
    rw [hG9] at HR
    simp only [aC] at HR
    replace HR:=Hy HR
    replace F:=Hy (F.o.next mm)
    replace L3:=Hy (L3.o.mv mm (by have:=gB3.o;have:=F.o.hB;omega) L3.o.lt)
    replace L4:=Hy (L4.o.mv mm (by have:=gB4.o;have:=F.o.hB;omega) L4.o.lt)
    replace L5:=Hy (L5.o.mv mm (by have:=gB5.o;have:=F.o.hB;omega) L5.o.lt)
    replace L6:=Hy (L6.o.mv mm (by have:=gB6.o;have:=F.o.hB;omega) L6.o.lt)
    replace HC:=Hy (Nat.le_trans HC.o mm.size)
    replace E7:=Hy (E7.o.kp (mm.kp (by have:=gCB.o;omega)))
    replace P:=Hy pp
    clear pp mm hG9
    obtain rfl:u9=.int .i64 v9:=vv
    clear e0 e1
    clear hF
    have c8:=L3.o.cell 8
    have z8:=L3.o.free 8
    have k8:=L3.o.setCell 8 (.int .i64 v9)
    have SK:=k8.2
    replace F:=Hy (F.o.st SK gB3.o)
    replace L4:=Hy (L4.o.st SK n43.o)
    replace L5:=Hy (L5.o.st SK n53.o)
    replace L6:=Hy (L6.o.st SK n63.o)
    replace HC:=Hy (Nat.le_trans HC.o (Nat.le_of_eq SK.size.symm))
    replace E7:=Hy (E7.o.kp (SK.kp gC3.o))
    replace P:=Hy (P.o.st SK (by have:=gB3.o;have:=F.o.hB;omega))
    replace L3:=Hy (show Blk (w9.setCell ⟨g3,8,none⟩ (.int .i64 v9)) g3 43 #[.int .i64 5,.string v1,.string ⟨#[]⟩,.string v3,.int .i64 0,.int .i64 0,.string ⟨#[]⟩,.slice none 0 0,.int .i64 v9,.int .i64 0,.int .i64 0,.slice none 0 0] from k8.1)
    clear SK k8
    have e0:=F.o.c0
    have e1:=F.o.c1
    go_wp2_with fail
    clear c8 z8
    generalize (w9.setCell ⟨g3,8,none⟩ (.int .i64 v9))=w8s at *
    have hF:=Hy F.o.lt
    refine (aZ B ⟨#[44]⟩ l9 _ P.o).mono ?_
    rintro e w10 h10
    rcases hG10:need ⟨#[44]⟩ l9 with _ | ⟨v10,l10⟩ | ⟨a10,c10,l10⟩
    ·exact absurd (by rw [← HR.o,hG10];rfl) NE.o
    rotate_left
    ·rw [hG10] at h10
     obtain ⟨rfl,pp,mm⟩:=h10
     unfold thr
     have hno:=Hy (show r=.no a10 c10 l10 by rw [← HR.o,hG10];rfl)
     have PP:=Hy pp
     have MM:=Hy ((F.o.next mm).mv)
     clear pp mm hG10 e0 e1
     go_wp2_with fail
     exact ⟨rfl,aI hno.o PP.o MM.o⟩
    rw [hG10] at h10
    obtain ⟨u10,rfl,vv,pp,mm⟩:=h10
    replace HR:=HR.o
    rw [hG10] at HR
    simp only [aC] at HR
    replace HR:=Hy HR
    replace F:=Hy (F.o.next mm)
    replace L3:=Hy (L3.o.mv mm (by have:=gB3.o;have:=F.o.hB;omega) L3.o.lt)
    replace L4:=Hy (L4.o.mv mm (by have:=gB4.o;have:=F.o.hB;omega) L4.o.lt)
    replace L5:=Hy (L5.o.mv mm (by have:=gB5.o;have:=F.o.hB;omega) L5.o.lt)
    replace L6:=Hy (L6.o.mv mm (by have:=gB6.o;have:=F.o.hB;omega) L6.o.lt)
    replace HC:=Hy (Nat.le_trans HC.o mm.size)
    replace E7:=Hy (E7.o.kp (mm.kp (by have:=gCB.o;omega)))
    replace P:=Hy pp
    clear pp mm hG10
    obtain rfl:u10=.tuple #[]:=vv
    clear e0 e1
    clear hF
    have e0:=F.o.c0
    have e1:=F.o.c1
    go_wp2_with fail
    have hF:=Hy F.o.lt
    refine (lu B l10 _ P.o _ rfl (iK _)).mono ?_
    rintro e w11 h11
    rcases hG11:win l10 with _ | ⟨v11,l11⟩ | ⟨a11,c11,l11⟩
    ·exact absurd (by rw [← HR.o,hG11];rfl) NE.o
    rotate_left
    ·rw [hG11] at h11
     obtain ⟨rfl,pp,mm⟩:=h11
     unfold thr
     have hno:=Hy (show r=.no a11 c11 l11 by rw [← HR.o,hG11];rfl)
     have PP:=Hy pp
     have MM:=Hy ((F.o.next mm).mv)
     clear pp mm hG11 e0 e1
     go_wp2_with fail
     exact ⟨rfl,aI hno.o PP.o MM.o⟩
    rw [hG11] at h11
    obtain ⟨u11,rfl,vv,pp,mm⟩:=h11
    replace HR:=HR.o
    rw [hG11] at HR
    simp only [aC] at HR
    replace HR:=Hy HR
    replace F:=Hy (F.o.next mm)
    replace L3:=Hy (L3.o.mv mm (by have:=gB3.o;have:=F.o.hB;omega) L3.o.lt)
    replace L4:=Hy (L4.o.mv mm (by have:=gB4.o;have:=F.o.hB;omega) L4.o.lt)
    replace L5:=Hy (L5.o.mv mm (by have:=gB5.o;have:=F.o.hB;omega) L5.o.lt)
    replace L6:=Hy (L6.o.mv mm (by have:=gB6.o;have:=F.o.hB;omega) L6.o.lt)
    replace HC:=Hy (Nat.le_trans HC.o mm.size)
    replace E7:=Hy (E7.o.kp (mm.kp (by have:=gCB.o;omega)))
    replace P:=Hy pp
    clear pp mm hG11
    have V11:=Hy vv
    clear vv
    clear e0 e1
    clear hF
    obtain rfl:u11=.agg #[.int .i64 v11.1,.int .i64 v11.2]:=V11.o
    clear V11
    have c9:=L3.o.cell 9
    have z9:=L3.o.free 9
    have c10:=L3.o.cell 10
    have z10:=L3.o.free 10
    have k9:=L3.o.setCell 9 (.int .i64 v11.1)
    have k10:=k9.1.setCell 10 (.int .i64 v11.2)
    have SK:=St.trans k9.2 k10.2
    replace F:=Hy (F.o.st SK gB3.o)
    replace L4:=Hy (L4.o.st SK n43.o)
    replace L5:=Hy (L5.o.st SK n53.o)
    replace L6:=Hy (L6.o.st SK n63.o)
    replace HC:=Hy (Nat.le_trans HC.o (Nat.le_of_eq SK.size.symm))
    replace E7:=Hy (E7.o.kp (SK.kp gC3.o))
    replace P:=Hy (P.o.st SK (by have:=gB3.o;have:=F.o.hB;omega))
    replace L3:=Hy (show Blk ((w11.setCell ⟨g3,9,none⟩ (.int .i64 v11.1)).setCell ⟨g3,10,none⟩ (.int .i64 v11.2)) g3 43 #[.int .i64 5,.string v1,.string ⟨#[]⟩,.string v3,.int .i64 0,.int .i64 0,.string ⟨#[]⟩,.slice none 0 0,.int .i64 v9,.int .i64 v11.1,.int .i64 v11.2,.slice none 0 0] from k10.1)
    clear SK k9 k10
    have e0:=F.o.c0
    have e1:=F.o.c1
    go_wp2_with fail
    clear c9 z9 c10 z10
    generalize ((w11.setCell ⟨g3,9,none⟩ (.int .i64 v11.1)).setCell ⟨g3,10,none⟩ (.int .i64 v11.2))=w9s at *
    clear scount tcount squantile tquantile sdecay tdecay
    cases ht:isT ⟨#[119,104,101,114,101]⟩ l11
    ·replace HR:=HR.o
     rw [ht,if_neg (by decide)] at HR
     simp only [aC] at HR
     replace HR:=Hy HR
     have HT:=Hy ht
     clear ht
     refine (aN B ⟨#[119,104,101,114,101]⟩ l11 _ P.o HT.o).mono ?_
     rintro e w12 ⟨rfl,pp,mm⟩
     replace F:=Hy (F.o.next mm)
     replace L3:=Hy (L3.o.mv mm (by have:=gB3.o;have:=F.o.hB;omega) L3.o.lt)
     replace L4:=Hy (L4.o.mv mm (by have:=gB4.o;have:=F.o.hB;omega) L4.o.lt)
     replace L5:=Hy (L5.o.mv mm (by have:=gB5.o;have:=F.o.hB;omega) L5.o.lt)
     replace L6:=Hy (L6.o.mv mm (by have:=gB6.o;have:=F.o.hB;omega) L6.o.lt)
     replace HC:=Hy (Nat.le_trans HC.o mm.size)
     replace E7:=Hy (E7.o.kp (mm.kp (by have:=gCB.o;omega)))
     replace P:=Hy pp
     clear pp mm
     clear e0 e1
     have e0:=F.o.c0
     have e1:=F.o.c1
     go_wp2_with fail
     have hF:=Hy F.o.lt
     refine (aZ B ⟨#[41]⟩ l11 _ P.o).mono ?_
     rintro e w13 h13
     rcases hG13:need ⟨#[41]⟩ l11 with _ | ⟨v13,l13⟩ | ⟨a13,c13,l13⟩
     ·exact absurd (by rw [← HR.o,hG13];rfl) NE.o
     rotate_left
     ·rw [hG13] at h13
      obtain ⟨rfl,pp,mm⟩:=h13
      unfold thr
      have hno:=Hy (show r=.no a13 c13 l13 by rw [← HR.o,hG13];rfl)
      have PP:=Hy pp
      have MM:=Hy ((F.o.next mm).mv)
      clear pp mm hG13 e0 e1
      go_wp2_with fail
      exact ⟨rfl,aI hno.o PP.o MM.o⟩
     rw [hG13] at h13
     obtain ⟨u13,rfl,vv,pp,mm⟩:=h13
     replace HR:=HR.o
     rw [hG13] at HR
     simp only [aC] at HR
     replace HR:=Hy HR
     replace F:=Hy (F.o.next mm)
     replace L3:=Hy (L3.o.mv mm (by have:=gB3.o;have:=F.o.hB;omega) L3.o.lt)
     replace L4:=Hy (L4.o.mv mm (by have:=gB4.o;have:=F.o.hB;omega) L4.o.lt)
     replace L5:=Hy (L5.o.mv mm (by have:=gB5.o;have:=F.o.hB;omega) L5.o.lt)
     replace L6:=Hy (L6.o.mv mm (by have:=gB6.o;have:=F.o.hB;omega) L6.o.lt)
     replace HC:=Hy (Nat.le_trans HC.o mm.size)
     replace E7:=Hy (E7.o.kp (mm.kp (by have:=gCB.o;omega)))
     replace P:=Hy pp
     clear pp mm hG13
     obtain rfl:u13=.tuple #[]:=vv
     clear e0 e1
     clear hF
     have bb:=aj (b0 w13) (.cells (ex2 v7 ua7 uc7 aa7 ac7 (aS 1) none 0 none 0) 43)
     have L3p:=L3.o.past (.cells (ex2 v7 ua7 uc7 aa7 ac7 (aS 1) none 0 none 0) 43)
     have c11:=L3p.cell 11
     have z11:=L3p.free 11
     have kk:=L3p.setCell 11 (.slice (some ⟨w13.heap.size,0,none⟩) 2 2)
     have L9:=Hy (show Blk _ g3 43 #[.int .i64 5,.string v1,.string ⟨#[]⟩,.string v3,.int .i64 0,.int .i64 0,.string ⟨#[]⟩,.slice none 0 0,.int .i64 v9,.int .i64 v11.1,.int .i64 v11.2,.slice (some ⟨w13.heap.size,0,none⟩) 2 2] from kk.1)
     have F8:=Hy ((F.o.bn bb).st kk.2 gB3.o)
     have P8:=Hy ((P.o.keeps bb).st kk.2 (by have:=gB3.o;have:=F.o.hB;omega))
     have A8:=Hy (((eF (C:=g5+2) (Blk.new w13 43 (ex2 v7 ua7 uc7 aa7 ac7 (aS 1) none 0 none 0)) (E7.o.kp (aK bb)) (jm _ _ _) HC.o).kp (kk.2.kp gC3.o)).less (show w.heap.size+2≤g5+2 by have:=gB5.o;omega))
     have L5':=Hy (show Blk w13 g5 43 (exC v7 ua7 uc7 aa7 ac7) from L5.o)
     have L6':=Hy (show Blk w13 (g5+1) 43 (exC (aS 1) none 0 none 0) from L6.o)
     clear bb L3p kk
     unfold ex2 at c11 z11 L9 F8 P8 A8
     go_wp2_with (first | (refine bg (.tmp 5) rfl rfl _ _ _ rfl L5'.o rfl ?_) | (refine bg (.tmp 6) rfl rfl _ _ _ rfl L6'.o rfl ?_;simp only [exC]) | (refine bg (.tmp 3) rfl rfl _ _ _ rfl L9.o rfl ?_) | (refine aP (.tmp 2) (.tmp 65) rfl rfl _ _ _ _ rfl rfl F8.o.rz rfl rfl (by simp [Value.oneCell']) ?_;intro wz hb9 hs9))
     have F9:=F8.o.set hs9 hb9
     have P9:=P8.o.st hs9 (Nat.lt_succ_of_lt F8.o.hB)
     refine aF rfl _ _ _ _ _ rfl hb9 rfl ?_
     exact aQ HR.o.symm ⟨none,0,some ⟨w13.heap.size,0,none⟩,2,rfl,⟨.inl rfl,(A8.o.kp (hs9.kp (by omega))).less (by omega)⟩⟩ P9 F9.mv
    ·replace HR:=HR.o
     rw [ht,if_pos rfl] at HR
     replace HR:=Hy HR
     have HT:=Hy ht
     clear ht
     refine (aY B ⟨#[119,104,101,114,101]⟩ l11 _ P.o HT.o).mono ?_
     rintro e w12 ⟨rfl,pp,mm⟩
     replace F:=Hy (F.o.next mm)
     replace L3:=Hy (L3.o.mv mm (by have:=gB3.o;have:=F.o.hB;omega) L3.o.lt)
     replace L4:=Hy (L4.o.mv mm (by have:=gB4.o;have:=F.o.hB;omega) L4.o.lt)
     replace L5:=Hy (L5.o.mv mm (by have:=gB5.o;have:=F.o.hB;omega) L5.o.lt)
     replace L6:=Hy (L6.o.mv mm (by have:=gB6.o;have:=F.o.hB;omega) L6.o.lt)
     replace HC:=Hy (Nat.le_trans HC.o mm.size)
     replace E7:=Hy (E7.o.kp (mm.kp (by have:=gCB.o;omega)))
     replace P:=Hy pp
     clear pp mm
     clear e0 e1
     have e2:=L4.o.cell 0
     have e3:=L4.o.cell 1
     go_wp2_with fail
     clear e2 e3
     have hF:=Hy HC.o
     refine (R.ex B true l11.tail _ P.o (bF (by rw [HR.o];exact NE.o))).mono ?_
     rintro e w13 h13
     rcases hG13:pz f true .ex l11.tail with _ | ⟨v13,l13⟩ | ⟨a13,c13,l13⟩
     ·exact absurd (by rw [← HR.o,hG13];rfl) NE.o
     rotate_left
     ·rw [hG13] at h13
      obtain ⟨rfl,pp,mm⟩:=h13
      unfold thr
      have hno:=Hy (show r=.no a13 c13 l13 by rw [← HR.o,hG13];rfl)
      have PP:=Hy pp
      have MM:=Hy ((F.o.next mm).mv)
      clear pp mm hG13
      go_wp2_with fail
      exact ⟨rfl,aI hno.o PP.o MM.o⟩
     rw [hG13] at h13
     obtain ⟨u13,rfl,vv,pp,mm⟩:=h13
     replace HR:=HR.o
     rw [hG13] at HR
     simp only [aC] at HR
     replace HR:=Hy HR
     replace F:=Hy (F.o.next mm)
     replace L3:=Hy (L3.o.mv mm (by have:=gB3.o;have:=F.o.hB;omega) L3.o.lt)
     replace L4:=Hy (L4.o.mv mm (by have:=gB4.o;have:=F.o.hB;omega) L4.o.lt)
     replace L5:=Hy (L5.o.mv mm (by have:=gB5.o;have:=F.o.hB;omega) L5.o.lt)
     replace L6:=Hy (L6.o.mv mm (by have:=gB6.o;have:=F.o.hB;omega) L6.o.lt)
     replace HC:=Hy (Nat.le_trans HC.o mm.size)
     replace E7:=Hy (E7.o.kp (mm.kp (by have:=gCB.o;omega)))
     replace P:=Hy pp
     clear pp mm hG13
     have V13:=Hy vv
     clear vv
     obtain ⟨ua13,uc13,aa13,ac13,rfl,E13⟩:=V13.o
     replace E13:=Hy (Ec.less E13 hF.o)
     clear V13 hF
     go_wp2_with (refine aP (.tmp 6) (.tmp 57) rfl rfl _ _ _ _ rfl rfl L6.o rfl rfl (aG _ _ _ _ _) ?_;intro w13A hb hs;replace L6:=Hy hb;replace F:=Hy (F.o.st hs gB6.o);replace L3:=Hy (L3.o.st hs (fun h=>n63.o h.symm));replace L4:=Hy (L4.o.st hs (fun h=>n64.o h.symm));replace L5:=Hy (L5.o.st hs (by omega));replace HC:=Hy (Nat.le_trans HC.o (Nat.le_of_eq hs.size.symm));replace E7:=Hy (E7.o.kp (hs.kp (by omega)));replace E13:=Hy (E13.o.kp (hs.kp (by omega)));replace P:=Hy (P.o.st hs (by have:=gB6.o;have:=F.o.hB;omega));clear hb hs;have e0:=F.o.c0;have e1:=F.o.c1)
     have hF:=Hy F.o.lt
     refine (aZ B ⟨#[41]⟩ l13 _ P.o).mono ?_
     rintro e w14 h14
     rcases hG14:need ⟨#[41]⟩ l13 with _ | ⟨v14,l14⟩ | ⟨a14,c14,l14⟩
     ·exact absurd (by rw [← HR.o,hG14];rfl) NE.o
     rotate_left
     ·rw [hG14] at h14
      obtain ⟨rfl,pp,mm⟩:=h14
      unfold thr
      have hno:=Hy (show r=.no a14 c14 l14 by rw [← HR.o,hG14];rfl)
      have PP:=Hy pp
      have MM:=Hy ((F.o.next mm).mv)
      clear pp mm hG14 e0 e1
      go_wp2_with fail
      exact ⟨rfl,aI hno.o PP.o MM.o⟩
     rw [hG14] at h14
     obtain ⟨u14,rfl,vv,pp,mm⟩:=h14
     replace HR:=HR.o
     rw [hG14] at HR
     simp only [aC] at HR
     replace HR:=Hy HR
     replace F:=Hy (F.o.next mm)
     replace L3:=Hy (L3.o.mv mm (by have:=gB3.o;have:=F.o.hB;omega) L3.o.lt)
     replace L4:=Hy (L4.o.mv mm (by have:=gB4.o;have:=F.o.hB;omega) L4.o.lt)
     replace L5:=Hy (L5.o.mv mm (by have:=gB5.o;have:=F.o.hB;omega) L5.o.lt)
     replace L6:=Hy (L6.o.mv mm (by have:=gB6.o;have:=F.o.hB;omega) L6.o.lt)
     replace HC:=Hy (Nat.le_trans HC.o mm.size)
     replace E7:=Hy (E7.o.kp (mm.kp (by have:=gCB.o;omega)))
     replace E13:=Hy (E13.o.kp (mm.kp (by have:=gCB.o;omega)))
     replace P:=Hy pp
     clear pp mm hG14
     obtain rfl:u14=.tuple #[]:=vv
     clear e0 e1
     clear hF
     have bb:=aj (b0 w14) (.cells (ex2 v7 ua7 uc7 aa7 ac7 v13 ua13 uc13 aa13 ac13) 43)
     have L3p:=L3.o.past (.cells (ex2 v7 ua7 uc7 aa7 ac7 v13 ua13 uc13 aa13 ac13) 43)
     have c11:=L3p.cell 11
     have z11:=L3p.free 11
     have kk:=L3p.setCell 11 (.slice (some ⟨w14.heap.size,0,none⟩) 2 2)
     have L9:=Hy (show Blk _ g3 43 #[.int .i64 5,.string v1,.string ⟨#[]⟩,.string v3,.int .i64 0,.int .i64 0,.string ⟨#[]⟩,.slice none 0 0,.int .i64 v9,.int .i64 v11.1,.int .i64 v11.2,.slice (some ⟨w14.heap.size,0,none⟩) 2 2] from kk.1)
     have F8:=Hy ((F.o.bn bb).st kk.2 gB3.o)
     have P8:=Hy ((P.o.keeps bb).st kk.2 (by have:=gB3.o;have:=F.o.hB;omega))
     have A8:=Hy (((eF (C:=g5+2) (Blk.new w14 43 (ex2 v7 ua7 uc7 aa7 ac7 v13 ua13 uc13 aa13 ac13)) (E7.o.kp (aK bb)) (E13.o.kp (aK bb)) HC.o).kp (kk.2.kp gC3.o)).less (show w.heap.size+2≤g5+2 by have:=gB5.o;omega))
     have L5':=Hy (show Blk w14 g5 43 (exC v7 ua7 uc7 aa7 ac7) from L5.o)
     have L6':=Hy (show Blk w14 (g5+1) 43 (exC v13 ua13 uc13 aa13 ac13) from L6.o)
     clear bb L3p kk
     unfold ex2 at c11 z11 L9 F8 P8 A8
     go_wp2_with (first | (refine bg (.tmp 5) rfl rfl _ _ _ rfl L5'.o rfl ?_) | (refine bg (.tmp 6) rfl rfl _ _ _ rfl L6'.o rfl ?_;simp only [exC]) | (refine bg (.tmp 3) rfl rfl _ _ _ rfl L9.o rfl ?_) | (refine aP (.tmp 2) (.tmp 65) rfl rfl _ _ _ _ rfl rfl F8.o.rz rfl rfl (by simp [Value.oneCell']) ?_;intro wz hb9 hs9))
     have F9:=F8.o.set hs9 hb9
     have P9:=P8.o.st hs9 (Nat.lt_succ_of_lt F8.o.hB)
     refine aF rfl _ _ _ _ _ rfl hb9 rfl ?_
     exact aQ HR.o.symm ⟨none,0,some ⟨w14.heap.size,0,none⟩,2,rfl,⟨.inl rfl,(A8.o.kp (hs9.kp (by omega))).less (by omega)⟩⟩ P9 F9.mv
   ·have hdecay:=hv
    clear hv
    have hqd:¬ (v1=⟨#[113,117,97,110,116,105,108,101]⟩∨v1=⟨#[100,101,99,97,121]⟩):=fun h=>h.elim hquantile hdecay
    have scount:(v1.toList==[99,111,117,110,116])=false:=by rw [str_eq];exact decide_eq_false hcount
    have tcount:(v1.toList != [99,111,117,110,116])=true:=by rw [bne,scount];rfl
    have squantile:(v1.toList==[113,117,97,110,116,105,108,101])=false:=by rw [str_eq];exact decide_eq_false hquantile
    have tquantile:(v1.toList != [113,117,97,110,116,105,108,101])=true:=by rw [bne,squantile];rfl
    have sdecay:(v1.toList==[100,101,99,97,121])=false:=by rw [str_eq];exact decide_eq_false hdecay
    have tdecay:(v1.toList != [100,101,99,97,121])=true:=by rw [bne,sdecay];rfl
    have d1:=L3.o.cell 1
    have e2:=L4.o.cell 0
    have e3:=L4.o.cell 1
    have e0:=F.o.c0
    have e1:=F.o.c1
    replace HR:=HR.o
    simp only [if_neg hcount,if_neg hqd,aC,oV] at HR
    replace HR:=Hy HR
    clear hqd hcount hquantile hdecay
    go_wp2_with fail
    generalize (w6.alloc (.cells #[.int .i64 1,.string ⟨#[]⟩,.string ⟨#[]⟩,.string ⟨#[]⟩,.int .i64 1,.int .i64 1,.string ⟨#[]⟩,.slice none 0 0,.int .i64 0,.int .i64 0,.int .i64 0,.slice none 0 0] 43)).alloc (.cells #[.int .i64 1,.string ⟨#[]⟩,.string ⟨#[]⟩,.string ⟨#[]⟩,.int .i64 1,.int .i64 1,.string ⟨#[]⟩,.slice none 0 0,.int .i64 0,.int .i64 0,.int .i64 0,.slice none 0 0] 43)=w7 at *
    generalize hg5:w6.heap.size=g5 at *
    clear hg5
    clear d1 e2 e3
    have hF:=Hy HC.o
    refine (R.ex B true l4 _ P.o (bF (by rw [HR.o];exact NE.o))).mono ?_
    rintro e w7 h7
    rcases hG7:pz f true .ex l4 with _ | ⟨v7,l7⟩ | ⟨a7,c7,l7⟩
    ·exact absurd (by rw [← HR.o,hG7];rfl) NE.o
    rotate_left
    ·rw [hG7] at h7
     obtain ⟨rfl,pp,mm⟩:=h7
     unfold thr
     have hno:=Hy (show r=.no a7 c7 l7 by rw [← HR.o,hG7];rfl)
     have PP:=Hy pp
     have MM:=Hy ((F.o.next mm).mv)
     clear pp mm hG7 e0 e1
     go_wp2_with fail
     exact ⟨rfl,aI hno.o PP.o MM.o⟩
    rw [hG7] at h7
    obtain ⟨u7,rfl,vv,pp,mm⟩:=h7
    replace HR:=HR.o
    rw [hG7] at HR
    simp only [aC] at HR
    replace HR:=Hy HR
    replace F:=Hy (F.o.next mm)
    replace L3:=Hy (L3.o.mv mm (by have:=gB3.o;have:=F.o.hB;omega) L3.o.lt)
    replace L4:=Hy (L4.o.mv mm (by have:=gB4.o;have:=F.o.hB;omega) L4.o.lt)
    replace L5:=Hy (L5.o.mv mm (by have:=gB5.o;have:=F.o.hB;omega) L5.o.lt)
    replace L6:=Hy (L6.o.mv mm (by have:=gB6.o;have:=F.o.hB;omega) L6.o.lt)
    replace HC:=Hy (Nat.le_trans HC.o mm.size)
    replace P:=Hy pp
    clear pp mm hG7
    have V7:=Hy vv
    clear vv
    clear e0 e1
    obtain ⟨ua7,uc7,aa7,ac7,rfl,E7⟩:=V7.o
    replace E7:=Hy (Ec.less E7 hF.o)
    clear V7 hF
    go_wp2_with (refine aP (.tmp 5) (.tmp 30) rfl rfl _ _ _ _ rfl rfl L5.o rfl rfl (aG _ _ _ _ _) ?_;intro w7A hb hs;replace L5:=Hy hb;replace F:=Hy (F.o.st hs gB5.o);replace L3:=Hy (L3.o.st hs (fun h=>n53.o h.symm));replace L4:=Hy (L4.o.st hs (fun h=>n54.o h.symm));replace L6:=Hy (L6.o.st hs (by omega));replace HC:=Hy (Nat.le_trans HC.o (Nat.le_of_eq hs.size.symm));replace E7:=Hy (E7.o.kp (hs.kp (by omega)));replace P:=Hy (P.o.st hs (by have:=gB5.o;have:=F.o.hB;omega));clear hb hs;have e0:=F.o.c0;have e1:=F.o.c1;have d1:=L3.o.cell 1)
    have hF:=Hy F.o.lt
    refine (aZ B ⟨#[44]⟩ l7 _ P.o).mono ?_
    rintro e w8 h8
    rcases hG8:need ⟨#[44]⟩ l7 with _ | ⟨v8,l8⟩ | ⟨a8,c8,l8⟩
    ·exact absurd (by rw [← HR.o,hG8];rfl) NE.o
    rotate_left
    ·rw [hG8] at h8
     obtain ⟨rfl,pp,mm⟩:=h8
     unfold thr
     have hno:=Hy (show r=.no a8 c8 l8 by rw [← HR.o,hG8];rfl)
     have PP:=Hy pp
     have MM:=Hy ((F.o.next mm).mv)
     clear pp mm hG8 e0 e1
     go_wp2_with fail
     exact ⟨rfl,aI hno.o PP.o MM.o⟩
    rw [hG8] at h8
    obtain ⟨u8,rfl,vv,pp,mm⟩:=h8
    replace HR:=HR.o
    rw [hG8] at HR
    simp only [aC] at HR
    replace HR:=Hy HR
    replace F:=Hy (F.o.next mm)
    replace L3:=Hy (L3.o.mv mm (by have:=gB3.o;have:=F.o.hB;omega) L3.o.lt)
    replace L4:=Hy (L4.o.mv mm (by have:=gB4.o;have:=F.o.hB;omega) L4.o.lt)
    replace L5:=Hy (L5.o.mv mm (by have:=gB5.o;have:=F.o.hB;omega) L5.o.lt)
    replace L6:=Hy (L6.o.mv mm (by have:=gB6.o;have:=F.o.hB;omega) L6.o.lt)
    replace HC:=Hy (Nat.le_trans HC.o mm.size)
    replace E7:=Hy (E7.o.kp (mm.kp (by have:=gCB.o;omega)))
    replace P:=Hy pp
    clear pp mm hG8
    obtain rfl:u8=.tuple #[]:=vv
    clear e0 e1
    clear hF
    clear d1
    have d1:=L3.o.cell 1
    have e0:=F.o.c0
    have e1:=F.o.c1
    go_wp2_with fail
    clear d1
    have hF:=Hy F.o.lt
    refine (lu B l8 _ P.o _ rfl (iK _)).mono ?_
    rintro e w9 h9
    rcases hG9:win l8 with _ | ⟨v9,l9⟩ | ⟨a9,c9,l9⟩
    ·exact absurd (by rw [← HR.o,hG9];rfl) NE.o
    rotate_left
    ·rw [hG9] at h9
     obtain ⟨rfl,pp,mm⟩:=h9
     unfold thr
     have hno:=Hy (show r=.no a9 c9 l9 by rw [← HR.o,hG9];rfl)
     have PP:=Hy pp
     have MM:=Hy ((F.o.next mm).mv)
     clear pp mm hG9 e0 e1
     go_wp2_with fail
     exact ⟨rfl,aI hno.o PP.o MM.o⟩
    rw [hG9] at h9
    obtain ⟨u9,rfl,vv,pp,mm⟩:=h9
    replace HR:=HR.o
    rw [hG9] at HR
    simp only [aC] at HR
    replace HR:=Hy HR
    replace F:=Hy (F.o.next mm)
    replace L3:=Hy (L3.o.mv mm (by have:=gB3.o;have:=F.o.hB;omega) L3.o.lt)
    replace L4:=Hy (L4.o.mv mm (by have:=gB4.o;have:=F.o.hB;omega) L4.o.lt)
    replace L5:=Hy (L5.o.mv mm (by have:=gB5.o;have:=F.o.hB;omega) L5.o.lt)
    replace L6:=Hy (L6.o.mv mm (by have:=gB6.o;have:=F.o.hB;omega) L6.o.lt)
    replace HC:=Hy (Nat.le_trans HC.o mm.size)
    replace E7:=Hy (E7.o.kp (mm.kp (by have:=gCB.o;omega)))
    replace P:=Hy pp
    clear pp mm hG9
    have V9:=Hy vv
    clear vv
    clear e0 e1
    clear hF
    obtain rfl:u9=.agg #[.int .i64 v9.1,.int .i64 v9.2]:=V9.o
    clear V9
    have c9:=L3.o.cell 9
    have z9:=L3.o.free 9
    have c10:=L3.o.cell 10
    have z10:=L3.o.free 10
    have k9:=L3.o.setCell 9 (.int .i64 v9.1)
    have k10:=k9.1.setCell 10 (.int .i64 v9.2)
    have SK:=St.trans k9.2 k10.2
    replace F:=Hy (F.o.st SK gB3.o)
    replace L4:=Hy (L4.o.st SK n43.o)
    replace L5:=Hy (L5.o.st SK n53.o)
    replace L6:=Hy (L6.o.st SK n63.o)
    replace HC:=Hy (Nat.le_trans HC.o (Nat.le_of_eq SK.size.symm))
    replace E7:=Hy (E7.o.kp (SK.kp gC3.o))
    replace P:=Hy (P.o.st SK (by have:=gB3.o;have:=F.o.hB;omega))
    replace L3:=Hy (show Blk ((w9.setCell ⟨g3,9,none⟩ (.int .i64 v9.1)).setCell ⟨g3,10,none⟩ (.int .i64 v9.2)) g3 43 #[.int .i64 5,.string v1,.string ⟨#[]⟩,.string v3,.int .i64 0,.int .i64 0,.string ⟨#[]⟩,.slice none 0 0,.int .i64 0,.int .i64 v9.1,.int .i64 v9.2,.slice none 0 0] from k10.1)
    clear SK k9 k10
    have e0:=F.o.c0
    have e1:=F.o.c1
    go_wp2_with fail
    clear c9 z9 c10 z10
    generalize ((w9.setCell ⟨g3,9,none⟩ (.int .i64 v9.1)).setCell ⟨g3,10,none⟩ (.int .i64 v9.2))=w9s at *
    clear scount tcount squantile tquantile sdecay tdecay
    cases ht:isT ⟨#[119,104,101,114,101]⟩ l9
    ·replace HR:=HR.o
     rw [ht,if_neg (by decide)] at HR
     simp only [aC] at HR
     replace HR:=Hy HR
     have HT:=Hy ht
     clear ht
     refine (aN B ⟨#[119,104,101,114,101]⟩ l9 _ P.o HT.o).mono ?_
     rintro e w10 ⟨rfl,pp,mm⟩
     replace F:=Hy (F.o.next mm)
     replace L3:=Hy (L3.o.mv mm (by have:=gB3.o;have:=F.o.hB;omega) L3.o.lt)
     replace L4:=Hy (L4.o.mv mm (by have:=gB4.o;have:=F.o.hB;omega) L4.o.lt)
     replace L5:=Hy (L5.o.mv mm (by have:=gB5.o;have:=F.o.hB;omega) L5.o.lt)
     replace L6:=Hy (L6.o.mv mm (by have:=gB6.o;have:=F.o.hB;omega) L6.o.lt)
     replace HC:=Hy (Nat.le_trans HC.o mm.size)
     replace E7:=Hy (E7.o.kp (mm.kp (by have:=gCB.o;omega)))
     replace P:=Hy pp
     clear pp mm
     clear e0 e1
     have e0:=F.o.c0
     have e1:=F.o.c1
     go_wp2_with fail
     have hF:=Hy F.o.lt
     refine (aZ B ⟨#[41]⟩ l9 _ P.o).mono ?_
     rintro e w11 h11
     rcases hG11:need ⟨#[41]⟩ l9 with _ | ⟨v11,l11⟩ | ⟨a11,c11,l11⟩
     ·exact absurd (by rw [← HR.o,hG11];rfl) NE.o
     rotate_left
     ·rw [hG11] at h11
      obtain ⟨rfl,pp,mm⟩:=h11
      unfold thr
      have hno:=Hy (show r=.no a11 c11 l11 by rw [← HR.o,hG11];rfl)
      have PP:=Hy pp
      have MM:=Hy ((F.o.next mm).mv)
      clear pp mm hG11 e0 e1
      go_wp2_with fail
      exact ⟨rfl,aI hno.o PP.o MM.o⟩
     rw [hG11] at h11
     obtain ⟨u11,rfl,vv,pp,mm⟩:=h11
     replace HR:=HR.o
     rw [hG11] at HR
     simp only [aC] at HR
     replace HR:=Hy HR
     replace F:=Hy (F.o.next mm)
     replace L3:=Hy (L3.o.mv mm (by have:=gB3.o;have:=F.o.hB;omega) L3.o.lt)
     replace L4:=Hy (L4.o.mv mm (by have:=gB4.o;have:=F.o.hB;omega) L4.o.lt)
     replace L5:=Hy (L5.o.mv mm (by have:=gB5.o;have:=F.o.hB;omega) L5.o.lt)
     replace L6:=Hy (L6.o.mv mm (by have:=gB6.o;have:=F.o.hB;omega) L6.o.lt)
     replace HC:=Hy (Nat.le_trans HC.o mm.size)
     replace E7:=Hy (E7.o.kp (mm.kp (by have:=gCB.o;omega)))
     replace P:=Hy pp
     clear pp mm hG11
     obtain rfl:u11=.tuple #[]:=vv
     clear e0 e1
     clear hF
     have bb:=aj (b0 w11) (.cells (ex2 v7 ua7 uc7 aa7 ac7 (aS 1) none 0 none 0) 43)
     have L3p:=L3.o.past (.cells (ex2 v7 ua7 uc7 aa7 ac7 (aS 1) none 0 none 0) 43)
     have c11:=L3p.cell 11
     have z11:=L3p.free 11
     have kk:=L3p.setCell 11 (.slice (some ⟨w11.heap.size,0,none⟩) 2 2)
     have L9:=Hy (show Blk _ g3 43 #[.int .i64 5,.string v1,.string ⟨#[]⟩,.string v3,.int .i64 0,.int .i64 0,.string ⟨#[]⟩,.slice none 0 0,.int .i64 0,.int .i64 v9.1,.int .i64 v9.2,.slice (some ⟨w11.heap.size,0,none⟩) 2 2] from kk.1)
     have F8:=Hy ((F.o.bn bb).st kk.2 gB3.o)
     have P8:=Hy ((P.o.keeps bb).st kk.2 (by have:=gB3.o;have:=F.o.hB;omega))
     have A8:=Hy (((eF (C:=g5+2) (Blk.new w11 43 (ex2 v7 ua7 uc7 aa7 ac7 (aS 1) none 0 none 0)) (E7.o.kp (aK bb)) (jm _ _ _) HC.o).kp (kk.2.kp gC3.o)).less (show w.heap.size+2≤g5+2 by have:=gB5.o;omega))
     have L5':=Hy (show Blk w11 g5 43 (exC v7 ua7 uc7 aa7 ac7) from L5.o)
     have L6':=Hy (show Blk w11 (g5+1) 43 (exC (aS 1) none 0 none 0) from L6.o)
     clear bb L3p kk
     unfold ex2 at c11 z11 L9 F8 P8 A8
     go_wp2_with (first | (refine bg (.tmp 5) rfl rfl _ _ _ rfl L5'.o rfl ?_) | (refine bg (.tmp 6) rfl rfl _ _ _ rfl L6'.o rfl ?_;simp only [exC]) | (refine bg (.tmp 3) rfl rfl _ _ _ rfl L9.o rfl ?_) | (refine aP (.tmp 2) (.tmp 65) rfl rfl _ _ _ _ rfl rfl F8.o.rz rfl rfl (by simp [Value.oneCell']) ?_;intro wz hb9 hs9))
     have F9:=F8.o.set hs9 hb9
     have P9:=P8.o.st hs9 (Nat.lt_succ_of_lt F8.o.hB)
     refine aF rfl _ _ _ _ _ rfl hb9 rfl ?_
     exact aQ HR.o.symm ⟨none,0,some ⟨w11.heap.size,0,none⟩,2,rfl,⟨.inl rfl,(A8.o.kp (hs9.kp (by omega))).less (by omega)⟩⟩ P9 F9.mv
    ·replace HR:=HR.o
     rw [ht,if_pos rfl] at HR
     replace HR:=Hy HR
     have HT:=Hy ht
     clear ht
     refine (aY B ⟨#[119,104,101,114,101]⟩ l9 _ P.o HT.o).mono ?_
     rintro e w10 ⟨rfl,pp,mm⟩
     replace F:=Hy (F.o.next mm)
     replace L3:=Hy (L3.o.mv mm (by have:=gB3.o;have:=F.o.hB;omega) L3.o.lt)
     replace L4:=Hy (L4.o.mv mm (by have:=gB4.o;have:=F.o.hB;omega) L4.o.lt)
     replace L5:=Hy (L5.o.mv mm (by have:=gB5.o;have:=F.o.hB;omega) L5.o.lt)
     replace L6:=Hy (L6.o.mv mm (by have:=gB6.o;have:=F.o.hB;omega) L6.o.lt)
     replace HC:=Hy (Nat.le_trans HC.o mm.size)
     replace E7:=Hy (E7.o.kp (mm.kp (by have:=gCB.o;omega)))
     replace P:=Hy pp
     clear pp mm
     clear e0 e1
     have e2:=L4.o.cell 0
     have e3:=L4.o.cell 1
     go_wp2_with fail
     clear e2 e3
     have hF:=Hy HC.o
     refine (R.ex B true l9.tail _ P.o (bF (by rw [HR.o];exact NE.o))).mono ?_
     rintro e w11 h11
     rcases hG11:pz f true .ex l9.tail with _ | ⟨v11,l11⟩ | ⟨a11,c11,l11⟩
     ·exact absurd (by rw [← HR.o,hG11];rfl) NE.o
     rotate_left
     ·rw [hG11] at h11
      obtain ⟨rfl,pp,mm⟩:=h11
      unfold thr
      have hno:=Hy (show r=.no a11 c11 l11 by rw [← HR.o,hG11];rfl)
      have PP:=Hy pp
      have MM:=Hy ((F.o.next mm).mv)
      clear pp mm hG11
      go_wp2_with fail
      exact ⟨rfl,aI hno.o PP.o MM.o⟩
     rw [hG11] at h11
     obtain ⟨u11,rfl,vv,pp,mm⟩:=h11
     replace HR:=HR.o
     rw [hG11] at HR
     simp only [aC] at HR
     replace HR:=Hy HR
     replace F:=Hy (F.o.next mm)
     replace L3:=Hy (L3.o.mv mm (by have:=gB3.o;have:=F.o.hB;omega) L3.o.lt)
     replace L4:=Hy (L4.o.mv mm (by have:=gB4.o;have:=F.o.hB;omega) L4.o.lt)
     replace L5:=Hy (L5.o.mv mm (by have:=gB5.o;have:=F.o.hB;omega) L5.o.lt)
     replace L6:=Hy (L6.o.mv mm (by have:=gB6.o;have:=F.o.hB;omega) L6.o.lt)
     replace HC:=Hy (Nat.le_trans HC.o mm.size)
     replace E7:=Hy (E7.o.kp (mm.kp (by have:=gCB.o;omega)))
     replace P:=Hy pp
     clear pp mm hG11
     have V11:=Hy vv
     clear vv
     obtain ⟨ua11,uc11,aa11,ac11,rfl,E11⟩:=V11.o
     replace E11:=Hy (Ec.less E11 hF.o)
     clear V11 hF
     go_wp2_with (refine aP (.tmp 6) (.tmp 57) rfl rfl _ _ _ _ rfl rfl L6.o rfl rfl (aG _ _ _ _ _) ?_;intro w11A hb hs;replace L6:=Hy hb;replace F:=Hy (F.o.st hs gB6.o);replace L3:=Hy (L3.o.st hs (fun h=>n63.o h.symm));replace L4:=Hy (L4.o.st hs (fun h=>n64.o h.symm));replace L5:=Hy (L5.o.st hs (by omega));replace HC:=Hy (Nat.le_trans HC.o (Nat.le_of_eq hs.size.symm));replace E7:=Hy (E7.o.kp (hs.kp (by omega)));replace E11:=Hy (E11.o.kp (hs.kp (by omega)));replace P:=Hy (P.o.st hs (by have:=gB6.o;have:=F.o.hB;omega));clear hb hs;have e0:=F.o.c0;have e1:=F.o.c1)
     have hF:=Hy F.o.lt
     refine (aZ B ⟨#[41]⟩ l11 _ P.o).mono ?_
     rintro e w12 h12
     rcases hG12:need ⟨#[41]⟩ l11 with _ | ⟨v12,l12⟩ | ⟨a12,c12,l12⟩
     ·exact absurd (by rw [← HR.o,hG12];rfl) NE.o
     rotate_left
     ·rw [hG12] at h12
      obtain ⟨rfl,pp,mm⟩:=h12
      unfold thr
      have hno:=Hy (show r=.no a12 c12 l12 by rw [← HR.o,hG12];rfl)
      have PP:=Hy pp
      have MM:=Hy ((F.o.next mm).mv)
      clear pp mm hG12 e0 e1
      go_wp2_with fail
      exact ⟨rfl,aI hno.o PP.o MM.o⟩
     rw [hG12] at h12
     obtain ⟨u12,rfl,vv,pp,mm⟩:=h12
     replace HR:=HR.o
     rw [hG12] at HR
     simp only [aC] at HR
     replace HR:=Hy HR
     replace F:=Hy (F.o.next mm)
     replace L3:=Hy (L3.o.mv mm (by have:=gB3.o;have:=F.o.hB;omega) L3.o.lt)
     replace L4:=Hy (L4.o.mv mm (by have:=gB4.o;have:=F.o.hB;omega) L4.o.lt)
     replace L5:=Hy (L5.o.mv mm (by have:=gB5.o;have:=F.o.hB;omega) L5.o.lt)
     replace L6:=Hy (L6.o.mv mm (by have:=gB6.o;have:=F.o.hB;omega) L6.o.lt)
     replace HC:=Hy (Nat.le_trans HC.o mm.size)
     replace E7:=Hy (E7.o.kp (mm.kp (by have:=gCB.o;omega)))
     replace E11:=Hy (E11.o.kp (mm.kp (by have:=gCB.o;omega)))
     replace P:=Hy pp
     clear pp mm hG12
     obtain rfl:u12=.tuple #[]:=vv
     clear e0 e1
     clear hF
     have bb:=aj (b0 w12) (.cells (ex2 v7 ua7 uc7 aa7 ac7 v11 ua11 uc11 aa11 ac11) 43)
     have L3p:=L3.o.past (.cells (ex2 v7 ua7 uc7 aa7 ac7 v11 ua11 uc11 aa11 ac11) 43)
     have c11:=L3p.cell 11
     have z11:=L3p.free 11
     have kk:=L3p.setCell 11 (.slice (some ⟨w12.heap.size,0,none⟩) 2 2)
     have L9:=Hy (show Blk _ g3 43 #[.int .i64 5,.string v1,.string ⟨#[]⟩,.string v3,.int .i64 0,.int .i64 0,.string ⟨#[]⟩,.slice none 0 0,.int .i64 0,.int .i64 v9.1,.int .i64 v9.2,.slice (some ⟨w12.heap.size,0,none⟩) 2 2] from kk.1)
     have F8:=Hy ((F.o.bn bb).st kk.2 gB3.o)
     have P8:=Hy ((P.o.keeps bb).st kk.2 (by have:=gB3.o;have:=F.o.hB;omega))
     have A8:=Hy (((eF (C:=g5+2) (Blk.new w12 43 (ex2 v7 ua7 uc7 aa7 ac7 v11 ua11 uc11 aa11 ac11)) (E7.o.kp (aK bb)) (E11.o.kp (aK bb)) HC.o).kp (kk.2.kp gC3.o)).less (show w.heap.size+2≤g5+2 by have:=gB5.o;omega))
     have L5':=Hy (show Blk w12 g5 43 (exC v7 ua7 uc7 aa7 ac7) from L5.o)
     have L6':=Hy (show Blk w12 (g5+1) 43 (exC v11 ua11 uc11 aa11 ac11) from L6.o)
     clear bb L3p kk
     unfold ex2 at c11 z11 L9 F8 P8 A8
     go_wp2_with (first | (refine bg (.tmp 5) rfl rfl _ _ _ rfl L5'.o rfl ?_) | (refine bg (.tmp 6) rfl rfl _ _ _ rfl L6'.o rfl ?_;simp only [exC]) | (refine bg (.tmp 3) rfl rfl _ _ _ rfl L9.o rfl ?_) | (refine aP (.tmp 2) (.tmp 65) rfl rfl _ _ _ _ rfl rfl F8.o.rz rfl rfl (by simp [Value.oneCell']) ?_;intro wz hb9 hs9))
     have F9:=F8.o.set hs9 hb9
     have P9:=P8.o.st hs9 (Nat.lt_succ_of_lt F8.o.hB)
     refine aF rfl _ _ _ _ _ rfl hb9 rfl ?_
     exact aQ HR.o.symm ⟨none,0,some ⟨w12.heap.size,0,none⟩,2,rfl,⟨.inl rfl,(A8.o.kp (hs9.kp (by omega))).less (by omega)⟩⟩ P9 F9.mv
end Go.Proofs.YtbpijgddfaefkaaGreatDoor.pa
