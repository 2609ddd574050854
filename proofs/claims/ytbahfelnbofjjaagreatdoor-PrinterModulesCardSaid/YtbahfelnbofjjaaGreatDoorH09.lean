/- checker. -/
import Derived.Test.YtbahfelnbofjjaaGreatDoorH08
set_option maxRecDepth 100000
set_option maxHeartbeats 16000000
namespace Go.Proofs.YtbahfelnbofjjaaGreatDoor
namespace ch
open Go.RowKit dec
theorem nR {a b:ByteArray} (h:a≠b):(a.toList==b.toList)=false:=by rw [un.xC,dF h]
theorem nS {a b:ByteArray} (h:a=b):(a.toList==b.toList)=true:=by rw [un.xC,dT h]
theorem dB {a b:Int} (h:a≠b):(a==b)=false:=by rw [eqI,dF h]
theorem dG {a b:Int} (h:a=b):(a==b)=true:=by rw [eqI,dT h]
def dS (k:Int) (n:Nat) (h g:Hd):Bool:=decide (((n:Nat):Int)=k) && same h g
theorem gQ (k:Int) (h g:Hd) (n m:Nat) (ua ub aa ab:Option Addr) (uc ud ac ad:Nat) (w:World) (hU:un.Sl w ua h.un.length uc h.un) (hV:un.Sl w ub g.un.length ud g.un) :
    Calls Tryz.prog 261 #[.agg (exC h n ua uc aa ac),.agg (exC g m ub ud ab ad),.int .i64 k] w (Bl (dS k n h g) w):=by
 have bb:=bB w (.cells (exC h n ua uc aa ac) 29) (.cells (exC g m ub ud ab ad) 29);have B0:=Hy bb;have GG:=eH w (exC h n ua uc aa ac) (exC g m ub ud ab ad) 29 29;have G1:=Hy GG.1;have G2:=Hy GG.2;have CS:=Hy (un.LJ _ _ _ _ _ _ _ _ _ (hU.keeps bb) (hV.keeps bb));have hE:dS k n h g=dS k n h g:=rfl
 conv at hE=>rhs;unfold dS same
 replace hE:=Hy hE;clear hU hV bb GG;unfold exC at *;by_cases hk:((n:Nat):Int)=k
 ·have qn:=dG hk;replace hE:=hE.o;simp only [dT hk,L_l] at hE;replace hE:=Hy hE;clear hk;by_cases e0:h.op=g.op
  ·have qhop:=nS e0;replace hE:=hE.o;simp only [dT e0,L_l] at hE;replace hE:=Hy hE;clear e0;by_cases e1:h.nm=g.nm
   ·have qhnm:=nS e1;replace hE:=hE.o;simp only [dT e1,L_l] at hE;replace hE:=Hy hE;clear e1;by_cases e2:h.tb=g.tb
    ·have qhtb:=nS e2;replace hE:=hE.o;simp only [dT e2,L_l] at hE;replace hE:=Hy hE;clear e2;by_cases e3:h.vk=g.vk
     ·have qhvk:=dG e3;replace hE:=hE.o;simp only [dT e3,L_l] at hE;replace hE:=Hy hE;clear e3;by_cases e4:h.vn=g.vn
      ·have qhvn:=dG e4;replace hE:=hE.o;simp only [dT e4,L_l] at hE;replace hE:=Hy hE;clear e4;by_cases e5:h.vs=g.vs
       ·have qhvs:=nS e5;replace hE:=hE.o;simp only [dT e5,L_l] at hE;replace hE:=Hy hE;clear e5
        go_enter Tryz.func261,Tryz.ntmps261
        go_wp2_with fail;refine (CS.o).mono ?_;rintro e w1 ⟨rfl,b1⟩;have B1:=Hy (ak B0.o b1);replace G1:=Hy (G1.o.keeps b1);replace G2:=Hy (G2.o.keeps b1);have c6:=G1.o.cell 6;have c7:=G1.o.cell 7;have c8:=G1.o.cell 8;have c9:=G1.o.cell 9;have c10:=G1.o.cell 10;simp only [sz2,sz3,sz4] at c6 c7 c8 c9 c10;have d6:=G2.o.cell 6;have d7:=G2.o.cell 7;have d8:=G2.o.cell 8;have d9:=G2.o.cell 9;have d10:=G2.o.cell 10;simp only [sz2,sz3,sz4] at d6 d7 d8 d9 d10;clear b1 CS;have hu:decide (h.un=g.un)=un.jK h.un g.un:=rfl;replace hE:=hE.o;rw [hu] at hE;replace hE:=Hy hE;clear hu;generalize un.jK h.un g.un=u at *;cases u
        ·replace hE:=hE.o;simp only [L_k] at hE;replace hE:=Hy hE;go_wp2_with fail;go_ret;exact aL (by rw [hE.o]) B1.o
        replace hE:=hE.o;simp only [L_l] at hE;replace hE:=Hy hE;by_cases e0:h.pa=g.pa
        ·have qhpa:=dG e0;replace hE:=hE.o;simp only [dT e0,L_l] at hE;replace hE:=Hy hE;clear e0;by_cases e1:h.wk=g.wk
         ·have qhwk:=dG e1;replace hE:=hE.o;simp only [dT e1,L_l] at hE;replace hE:=Hy hE;clear e1;by_cases e2:h.ws=g.ws
          ·have qhws:=dG e2;replace hE:=hE.o;simp only [dT e2] at hE;replace hE:=Hy hE;clear e2;go_wp2_with fail;go_ret;exact aL (by rw [hE.o]) B1.o
          have qhws:=dB e2;replace hE:=hE.o;simp only [dF e2] at hE;replace hE:=Hy hE;clear e2;go_wp2_with fail;go_ret;exact aL (by rw [hE.o]) B1.o
         have qhwk:=dB e1;replace hE:=hE.o;simp only [dF e1,L_k] at hE;replace hE:=Hy hE;clear e1;go_wp2_with fail;go_ret;exact aL (by rw [hE.o]) B1.o
        have qhpa:=dB e0;replace hE:=hE.o;simp only [dF e0,L_k] at hE;replace hE:=Hy hE;clear e0;go_wp2_with fail;go_ret;exact aL (by rw [hE.o]) B1.o
       have qhvs:=nR e5;replace hE:=hE.o;simp only [dF e5,L_k] at hE;replace hE:=Hy hE;clear e5
       go_enter Tryz.func261,Tryz.ntmps261
       go_wp2_with fail;go_ret;exact aL (by rw [hE.o]) B0.o
      have qhvn:=dB e4;replace hE:=hE.o;simp only [dF e4,L_k] at hE;replace hE:=Hy hE;clear e4
      go_enter Tryz.func261,Tryz.ntmps261
      go_wp2_with fail;go_ret;exact aL (by rw [hE.o]) B0.o
     have qhvk:=dB e3;replace hE:=hE.o;simp only [dF e3,L_k] at hE;replace hE:=Hy hE;clear e3
     go_enter Tryz.func261,Tryz.ntmps261
     go_wp2_with fail;go_ret;exact aL (by rw [hE.o]) B0.o
    have qhtb:=nR e2;replace hE:=hE.o;simp only [dF e2,L_k] at hE;replace hE:=Hy hE;clear e2
    go_enter Tryz.func261,Tryz.ntmps261
    go_wp2_with fail;go_ret;exact aL (by rw [hE.o]) B0.o
   have qhnm:=nR e1;replace hE:=hE.o;simp only [dF e1,L_k] at hE;replace hE:=Hy hE;clear e1
   go_enter Tryz.func261,Tryz.ntmps261
   go_wp2_with fail;go_ret;exact aL (by rw [hE.o]) B0.o
  have qhop:=nR e0;replace hE:=hE.o;simp only [dF e0,L_k] at hE;replace hE:=Hy hE;clear e0
  go_enter Tryz.func261,Tryz.ntmps261
  go_wp2_with fail;go_ret;exact aL (by rw [hE.o]) B0.o
 have qn:=dB hk;replace hE:=hE.o;simp only [dF hk,L_k] at hE;replace hE:=Hy hE;clear hk
 go_enter Tryz.func261,Tryz.ntmps261
 go_wp2_with fail;go_ret;exact aL (by rw [hE.o]) B0.o
structure _root_.Go.Proofs.YtbahfelnbofjjaaGreatDoor.Hd.sz (h:Hd):Prop where
 op:h.op.size≤140737488355328
 nm:h.nm.size≤140737488355328
 tb:h.tb.size≤140737488355328
 vs:h.vs.size≤140737488355328
def iI (k:Int) (n:Nat) (h:Hd):Bool:=name h.nm && dS k n h { h0 with nm:=h.nm }
theorem nW (k:Int) (h:Hd) (n:Nat) (ua aa:Option Addr) (uc ac:Nat) (w:World) (hs:h.sz) (hU:un.Sl w ua h.un.length uc h.un) (T:Tabs w) :
    Calls Tryz.prog 262 #[.agg (exC h n ua uc aa ac),.int .i64 k] w (Bl (iI k n h) w):=by
 have bb:=aj (b0 w) (.cells (exC h n ua uc aa ac) 29);have B0:=Hy bb;have G:=Hy (Blk.new w 29 (exC h n ua uc aa ac));have T0:=Hy (T.stays bb);have S0:=Hy (hU.keeps bb);have HZ:=Hy hs;clear hU T bb hs;have CH:=Hy (fun W S=>(show Calls Tryz.prog 261 #[.agg #[.int .i64 h.k,.string h.op,.string h.nm,.string h.tb,.int .i64 h.vk,.int .i64 h.vn,.string h.vs,.slice ua h.un.length uc,.int .i64 h.pa,.int .i64 h.wk,.int .i64 h.ws,.slice aa n ac],.agg #[.int .i64 0,.string ⟨#[]⟩,.string h.nm,.string ⟨#[]⟩,.int .i64 0,.int .i64 0,.string ⟨#[]⟩,.slice none 0 0,.int .i64 0,.int .i64 0,.int .i64 0,.slice none 0 0],.int .i64 k] W (Bl (dS k n h { h0 with nm:=h.nm }) W) from gQ k h { h0 with nm:=h.nm } n 0 ua none aa none uc 0 ac 0 W S (un.Sl.nil _)));have CN:=Hy (fun W T=>gI h.nm HZ.o.nm W T);have hE:iI k n h=iI k n h:=rfl
 conv at hE=>rhs;unfold iI
 replace hE:=Hy hE;unfold exC at *;generalize name h.nm=m at *;generalize dS k n h { h0 with nm:=h.nm } = r at *
 go_enter Tryz.func262,Tryz.ntmps262
 go_wp2_with fail;refine (CN.o _ T0.o).mono ?_;rintro e w1 ⟨rfl,b1⟩;have B1:=Hy (ak B0.o b1);replace S0:=Hy (S0.o.keeps b1);replace G:=Hy (G.o.keeps b1);have c2:=G.o.cell 2;simp only [sz2,sz3,sz4] at c2;clear b1 CN;cases m
 ·go_wp2_with fail;go_ret;exact aL (by rw [hE.o];try rfl) B1.o
 go_wp2_with (first | (refine eO aN dec.uy29 rfl (.tmp 2) rfl rfl _ _ _ rfl G.o rfl ?_) | (refine aG aN dec.uy29 rfl (.tmp 2) rfl rfl _ _ _ rfl G.o rfl ?_));refine (CH.o _ S0.o).mono ?_;rintro e w2 ⟨rfl,b2⟩;have B2:=Hy (ak B1.o b2);clear b2 CH;go_wp2_with fail;go_ret;exact aL (by rw [hE.o];try rfl) B2.o
theorem KI (p:Int) (h:Hd) (n:Nat) (ua aa:Option Addr) (uc ac:Nat) (w:World) (hs:h.sz) (hU:un.Sl w ua h.un.length uc h.un) (T:Tabs w) :
    Calls Tryz.prog 208 #[.int .i64 p,.agg (exC h n ua uc aa ac)] w (Bl (decide (p=1) && iI 0 n h) w):=by
 have bb:=aj (b0 w) (.cells (exC h n ua uc aa ac) 29);have B0:=Hy bb;have G:=Hy (Blk.new w 29 (exC h n ua uc aa ac));have T0:=Hy (T.stays bb);have S0:=Hy (hU.keeps bb);have HZ:=Hy hs;clear hU T bb hs;have C:=Hy (nW 0 h n ua aa uc ac _ HZ.o S0.o T0.o);obtain ⟨r,hr⟩:∃ r,r=(decide (p=1) && iI 0 n h):=⟨_,rfl⟩;rw [← hr];replace hr:=Hy hr;unfold exC at *;generalize iI 0 n h=m at *;by_cases hp:p=1
 ·have q:=dG hp;replace hr:=Hy (hr.o.trans (by rw [dT hp,L_l]));clear hp
  go_enter Tryz.func208,Tryz.ntmps208
  go_wp2_with fail;refine (C.o).mono ?_;rintro e w1 ⟨rfl,b1⟩;have B1:=Hy (ak B0.o b1);clear b1 C;go_wp2_with fail;go_ret;exact aL hr.o.symm B1.o
 have q:=dB hp;replace hr:=Hy (hr.o.trans (by rw [dF hp,L_k]));clear hp C
 go_enter Tryz.func208,Tryz.ntmps208
 go_wp2_with fail;go_ret;exact aL hr.o.symm B0.o
theorem DR (p:Int) (h:Hd) (n:Nat) (ua aa:Option Addr) (uc ac:Nat) (w:World) (hs:h.sz) (hU:un.Sl w ua h.un.length uc h.un) (T:Tabs w) :
    Calls Tryz.prog 209 #[.int .i64 p,.agg (exC h n ua uc aa ac)] w (Bl (decide (p=0) && iI 0 n h) w):=by
 have bb:=aj (b0 w) (.cells (exC h n ua uc aa ac) 29);have B0:=Hy bb;have G:=Hy (Blk.new w 29 (exC h n ua uc aa ac));have T0:=Hy (T.stays bb);have S0:=Hy (hU.keeps bb);have HZ:=Hy hs;clear hU T bb hs;have C:=Hy (nW 0 h n ua aa uc ac _ HZ.o S0.o T0.o);obtain ⟨r,hr⟩:∃ r,r=(decide (p=0) && iI 0 n h):=⟨_,rfl⟩;rw [← hr];replace hr:=Hy hr;unfold exC at *;generalize iI 0 n h=m at *;by_cases hp:p=0
 ·have q:=dG hp;replace hr:=Hy (hr.o.trans (by rw [dT hp,L_l]));clear hp
  go_enter Tryz.func209,Tryz.ntmps209
  go_wp2_with fail;refine (C.o).mono ?_;rintro e w1 ⟨rfl,b1⟩;have B1:=Hy (ak B0.o b1);clear b1 C;go_wp2_with fail;go_ret;exact aL hr.o.symm B1.o
 have q:=dB hp;replace hr:=Hy (hr.o.trans (by rw [dF hp,L_k]));clear hp C
 go_enter Tryz.func209,Tryz.ntmps209
 go_wp2_with fail;go_ret;exact aL hr.o.symm B0.o
theorem Hr (p:Int) (h:Hd) (n:Nat) (ua aa:Option Addr) (uc ac:Nat) (w:World) (hs:h.sz) (hU:un.Sl w ua h.un.length uc h.un) (T:Tabs w) :
    Calls Tryz.prog 210 #[.int .i64 p,.agg (exC h n ua uc aa ac)] w (Bl (decide (p=0) && iI 1 n h) w):=by
 have bb:=aj (b0 w) (.cells (exC h n ua uc aa ac) 29);have B0:=Hy bb;have G:=Hy (Blk.new w 29 (exC h n ua uc aa ac));have T0:=Hy (T.stays bb);have S0:=Hy (hU.keeps bb);have HZ:=Hy hs;clear hU T bb hs;have C:=Hy (nW 1 h n ua aa uc ac _ HZ.o S0.o T0.o);obtain ⟨r,hr⟩:∃ r,r=(decide (p=0) && iI 1 n h):=⟨_,rfl⟩;rw [← hr];replace hr:=Hy hr;unfold exC at *;generalize iI 1 n h=m at *;by_cases hp:p=0
 ·have q:=dG hp;replace hr:=Hy (hr.o.trans (by rw [dT hp,L_l]));clear hp
  go_enter Tryz.func210,Tryz.ntmps210
  go_wp2_with fail;refine (C.o).mono ?_;rintro e w1 ⟨rfl,b1⟩;have B1:=Hy (ak B0.o b1);clear b1 C;go_wp2_with fail;go_ret;exact aL hr.o.symm B1.o
 have q:=dB hp;replace hr:=Hy (hr.o.trans (by rw [dF hp,L_k]));clear hp C
 go_enter Tryz.func210,Tryz.ntmps210
 go_wp2_with fail;go_ret;exact aL hr.o.symm B0.o
theorem Iz (p:Int) (h:Hd) (n:Nat) (ua aa:Option Addr) (uc ac:Nat) (w:World) (hs:h.sz) (hU:un.Sl w ua h.un.length uc h.un) (T:Tabs w) :
    Calls Tryz.prog 214 #[.int .i64 p,.agg (exC h n ua uc aa ac)] w (Bl (dS 3 n h h0) w):=by
 have bb:=aj (b0 w) (.cells (exC h n ua uc aa ac) 29);have B0:=Hy bb;have G:=Hy (Blk.new w 29 (exC h n ua uc aa ac));have T0:=Hy (T.stays bb);have S0:=Hy (hU.keeps bb);have HZ:=Hy hs;clear hU T bb hs;have CH:=Hy (fun W S=>(show Calls Tryz.prog 261 #[.agg #[.int .i64 h.k,.string h.op,.string h.nm,.string h.tb,.int .i64 h.vk,.int .i64 h.vn,.string h.vs,.slice ua h.un.length uc,.int .i64 h.pa,.int .i64 h.wk,.int .i64 h.ws,.slice aa n ac],.agg #[.int .i64 0,.string ⟨#[]⟩,.string ⟨#[]⟩,.string ⟨#[]⟩,.int .i64 0,.int .i64 0,.string ⟨#[]⟩,.slice none 0 0,.int .i64 0,.int .i64 0,.int .i64 0,.slice none 0 0],.int .i64 3] W (Bl (dS 3 n h h0) W) from gQ 3 h h0 n 0 ua none aa none uc 0 ac 0 W S (un.Sl.nil _)));unfold exC at *;generalize dS 3 n h h0=m at *
 go_enter Tryz.func214,Tryz.ntmps214
 go_wp2_with fail;refine (CH.o _ S0.o).mono ?_;rintro e w1 ⟨rfl,b1⟩;have B1:=Hy (ak B0.o b1);clear b1 CH;go_wp2_with fail;go_ret;exact aL rfl B1.o
theorem Cm (p:Int) (h:Hd) (n:Nat) (ua aa:Option Addr) (uc ac:Nat) (w:World) (hs:h.sz) (hU:un.Sl w ua h.un.length uc h.un) (T:Tabs w) :
    Calls Tryz.prog 215 #[.int .i64 p,.agg (exC h n ua uc aa ac)] w (Bl (dS 2 n h h0) w):=by
 have bb:=aj (b0 w) (.cells (exC h n ua uc aa ac) 29);have B0:=Hy bb;have G:=Hy (Blk.new w 29 (exC h n ua uc aa ac));have T0:=Hy (T.stays bb);have S0:=Hy (hU.keeps bb);have HZ:=Hy hs;clear hU T bb hs;have CH:=Hy (fun W S=>(show Calls Tryz.prog 261 #[.agg #[.int .i64 h.k,.string h.op,.string h.nm,.string h.tb,.int .i64 h.vk,.int .i64 h.vn,.string h.vs,.slice ua h.un.length uc,.int .i64 h.pa,.int .i64 h.wk,.int .i64 h.ws,.slice aa n ac],.agg #[.int .i64 0,.string ⟨#[]⟩,.string ⟨#[]⟩,.string ⟨#[]⟩,.int .i64 0,.int .i64 0,.string ⟨#[]⟩,.slice none 0 0,.int .i64 0,.int .i64 0,.int .i64 0,.slice none 0 0],.int .i64 2] W (Bl (dS 2 n h h0) W) from gQ 2 h h0 n 0 ua none aa none uc 0 ac 0 W S (un.Sl.nil _)));unfold exC at *;generalize dS 2 n h h0=m at *
 go_enter Tryz.func215,Tryz.ntmps215
 go_wp2_with fail;refine (CH.o _ S0.o).mono ?_;rintro e w1 ⟨rfl,b1⟩;have B1:=Hy (ak B0.o b1);clear b1 CH;go_wp2_with fail;go_ret;exact aL rfl B1.o
theorem lu (p:Int) (h:Hd) (n:Nat) (ua aa:Option Addr) (uc ac:Nat) (w:World) (hs:h.sz) (hU:un.Sl w ua h.un.length uc h.un) (T:Tabs w) :
    Calls Tryz.prog 212 #[.int .i64 p,.agg (exC h n ua uc aa ac)] w (Bl (pR h.op && dS 1 n h { h0 with op:=h.op }) w):=by
 have bb:=aj (b0 w) (.cells (exC h n ua uc aa ac) 29);have B0:=Hy bb;have G:=Hy (Blk.new w 29 (exC h n ua uc aa ac));have T0:=Hy (T.stays bb);have S0:=Hy (hU.keeps bb);have HZ:=Hy hs;clear hU T bb hs;have CH:=Hy (fun W S=>(show Calls Tryz.prog 261 #[.agg #[.int .i64 h.k,.string h.op,.string h.nm,.string h.tb,.int .i64 h.vk,.int .i64 h.vn,.string h.vs,.slice ua h.un.length uc,.int .i64 h.pa,.int .i64 h.wk,.int .i64 h.ws,.slice aa n ac],.agg #[.int .i64 0,.string h.op,.string ⟨#[]⟩,.string ⟨#[]⟩,.int .i64 0,.int .i64 0,.string ⟨#[]⟩,.slice none 0 0,.int .i64 0,.int .i64 0,.int .i64 0,.slice none 0 0],.int .i64 1] W (Bl (dS 1 n h { h0 with op:=h.op }) W) from gQ 1 h { h0 with op:=h.op } n 0 ua none aa none uc 0 ac 0 W S (un.Sl.nil _)));obtain ⟨r,hr⟩:∃ r,r=(pR h.op && dS 1 n h { h0 with op:=h.op }):=⟨_,rfl⟩;rw [← hr];replace hr:=Hy hr;unfold exC at *;generalize dS 1 n h { h0 with op:=h.op } = m at *
 go_enter Tryz.func212,Tryz.ntmps212
 go_wp2_with fail
 all_goals first
   | (exfalso;simp_all;done)
   | (refine (CH.o _ S0.o).mono ?_;rintro e w1 ⟨rfl,b1⟩;have B1:=Hy (ak B0.o b1);clear b1 CH;go_wp2_with fail;go_ret;refine aL ?_ B1.o;rw [hr.o,show pR h.op=true by (simp only [eqL] at *;unfold pR;simp_all)];rfl)
   | (go_ret;refine aL ?_ B0.o;rw [hr.o,show pR h.op=false by (simp only [eqL] at *;unfold pR;simp_all)];rfl)
theorem gK (p:Int) (h:Hd) (n:Nat) (ua aa:Option Addr) (uc ac:Nat) (w:World) (hs:h.sz) (hU:un.Sl w ua h.un.length uc h.un) (T:Tabs w) :
    Calls Tryz.prog 213 #[.int .i64 p,.agg (exC h n ua uc aa ac)] w (Bl (qy h.op && dS 2 n h { h0 with op:=h.op }) w):=by
 have bb:=aj (b0 w) (.cells (exC h n ua uc aa ac) 29);have B0:=Hy bb;have G:=Hy (Blk.new w 29 (exC h n ua uc aa ac));have T0:=Hy (T.stays bb);have S0:=Hy (hU.keeps bb);have HZ:=Hy hs;clear hU T bb hs;have CH:=Hy (fun W S=>(show Calls Tryz.prog 261 #[.agg #[.int .i64 h.k,.string h.op,.string h.nm,.string h.tb,.int .i64 h.vk,.int .i64 h.vn,.string h.vs,.slice ua h.un.length uc,.int .i64 h.pa,.int .i64 h.wk,.int .i64 h.ws,.slice aa n ac],.agg #[.int .i64 0,.string h.op,.string ⟨#[]⟩,.string ⟨#[]⟩,.int .i64 0,.int .i64 0,.string ⟨#[]⟩,.slice none 0 0,.int .i64 0,.int .i64 0,.int .i64 0,.slice none 0 0],.int .i64 2] W (Bl (dS 2 n h { h0 with op:=h.op }) W) from gQ 2 h { h0 with op:=h.op } n 0 ua none aa none uc 0 ac 0 W S (un.Sl.nil _)));obtain ⟨r,hr⟩:∃ r,r=(qy h.op && dS 2 n h { h0 with op:=h.op }):=⟨_,rfl⟩;rw [← hr];replace hr:=Hy hr;unfold exC at *;generalize dS 2 n h { h0 with op:=h.op } = m at *
 go_enter Tryz.func213,Tryz.ntmps213
 go_wp2_with fail
 all_goals first
   | (exfalso;simp_all;done)
   | (refine (CH.o _ S0.o).mono ?_;rintro e w1 ⟨rfl,b1⟩;have B1:=Hy (ak B0.o b1);clear b1 CH;go_wp2_with fail;go_ret;refine aL ?_ B1.o;rw [hr.o,show qy h.op=true by (simp only [eqL] at *;unfold qy;simp_all)];rfl)
   | (go_ret;refine aL ?_ B0.o;rw [hr.o,show qy h.op=false by (simp only [eqL] at *;unfold qy;simp_all)];rfl)
theorem DF (op:ByteArray) (p:Int) (w:World):Calls Tryz.prog 263 #[.string op,.int .i64 p] w (Bl (iG op p) w):=by
 go_enter Tryz.func263,Tryz.ntmps263
 go_wp2_with fail
 all_goals first
   | (exfalso;simp_all;done)
   | (go_ret;refine aL ?_ (b0 w);simp only [eqL,eqI] at *;unfold iG;simp_all;done)
   | (go_ret;refine aL ?_ (b0 w);simp only [eqL] at *;unfold iG;simp_all;omega)
theorem BJ (k n:Int) (w:World):Calls Tryz.prog 264 #[.agg #[.int .i64 k,.int .i64 n]] w (Bl (jd k n) w):=by
 go_enter Tryz.func264,Tryz.ntmps264
 go_wp2_with fail
 all_goals first
   | (exfalso;simp_all;done)
   | (go_ret;refine aL ?_ (aj (b0 w) _);simp only [eqI] at *;unfold jd;simp_all;done)
   | (go_ret;refine aL ?_ (aj (b0 w) _);simp only [eqI] at *;unfold jd;simp_all;omega)
theorem Ia (h:Hd) (n:Nat) (ua aa:Option Addr) (uc ac:Nat) (w:World):Calls Tryz.prog 265 #[.agg (exC h n ua uc aa ac)] w (Bl (bY h) w):=by
 unfold exC;by_cases h1:h.k=1
 ·have q1:=dG h1;by_cases h2:h.vk=1
  ·have q2:=dG h2;by_cases h3:h.vn=1
   ·have q3:=dG h3;by_cases h4:h.vs=.empty
    ·have q4:h.vs.toList.isEmpty=true:=by rw [eqE,dT h4]
     have hr:=Hy (show bY h=true by unfold bY;simp [h1,h2,h3,h4]);clear h1 h2 h3 h4
     go_enter Tryz.func265,Tryz.ntmps265
     go_wp2_with fail;go_ret;exact aL hr.o.symm (aj (b0 w) _)
    have q4:h.vs.toList.isEmpty=false:=by rw [eqE,dF h4]
    have hr:=Hy (show bY h=false by unfold bY;simp [h4]);clear h1 h2 h3 h4
    go_enter Tryz.func265,Tryz.ntmps265
    go_wp2_with fail;go_ret;exact aL hr.o.symm (aj (b0 w) _)
   have q3:=dB h3;have hr:=Hy (show bY h=false by unfold bY;simp [h3]);clear h1 h2 h3
   go_enter Tryz.func265,Tryz.ntmps265
   go_wp2_with fail;go_ret;exact aL hr.o.symm (aj (b0 w) _)
  have q2:=dB h2;have hr:=Hy (show bY h=false by unfold bY;simp [h2]);clear h1 h2
  go_enter Tryz.func265,Tryz.ntmps265
  go_wp2_with fail;go_ret;exact aL hr.o.symm (aj (b0 w) _)
 have q1:=dB h1;have hr:=Hy (show bY h=false by unfold bY;simp [h1]);clear h1
 go_enter Tryz.func265,Tryz.ntmps265
 go_wp2_with fail;go_ret;exact aL hr.o.symm (aj (b0 w) _)
theorem sU (h:Hd) (n:Nat) (ua aa:Option Addr) (uc ac:Nat) (w:World):Calls Tryz.prog 260 #[.agg (exC h n ua uc aa ac)] w fun e w' => e=.returned (.agg (tyC ⟨h.vk,h.un,h.nm⟩ ua uc))∧Below w.heap.size w w':=by
 unfold exC
 go_enter Tryz.func260,Tryz.ntmps260
 go_wp2_with fail;exact bn dx dec.uy31 rfl Tryz.results260 _ _ _ _ (tyC ⟨h.vk,h.un,h.nm⟩ ua uc) rfl (eH w _ _ _ _).2 rfl ⟨rfl,bB w _ _⟩
def yx (n:Nat) (h:Hd):Bool:=(decide (ck ⟨h.vk,h.vn,h.vs⟩=0) && decide (0≤h.vn)) && (decide (tyE ⟨h.vk,h.un,h.nm⟩=0) && dS 0 n h { h0 with nm:=h.nm,vk:=h.vk,vn:=h.vn,vs:=h.vs,un:=h.un })
theorem Dz (p:Int) (h:Hd) (n:Nat) (ua aa:Option Addr) (uc ac:Nat) (w:World) (hs:h.sz) (hU:un.Sl w ua h.un.length uc h.un) (T:Tabs w) :
    Calls Tryz.prog 207 #[.int .i64 p,.agg (exC h n ua uc aa ac)] w (Bl (yx n h) w):=by
 have bb:=aj (b0 w) (.cells (exC h n ua uc aa ac) 29);have B0:=Hy bb;have G:=Hy (Blk.new w 29 (exC h n ua uc aa ac));have T0:=Hy (T.stays bb);have S0:=Hy (hU.keeps bb);have HZ:=Hy hs;clear hU T bb hs;have CH:=Hy (fun W S=>(show Calls Tryz.prog 261 #[.agg #[.int .i64 h.k,.string h.op,.string h.nm,.string h.tb,.int .i64 h.vk,.int .i64 h.vn,.string h.vs,.slice ua h.un.length uc,.int .i64 h.pa,.int .i64 h.wk,.int .i64 h.ws,.slice aa n ac],.agg #[.int .i64 0,.string ⟨#[]⟩,.string h.nm,.string ⟨#[]⟩,.int .i64 h.vk,.int .i64 h.vn,.string h.vs,.slice ua h.un.length uc,.int .i64 0,.int .i64 0,.int .i64 0,.slice none 0 0],.int .i64 0] W (Bl (dS 0 n h { h0 with nm:=h.nm,vk:=h.vk,vn:=h.vn,vs:=h.vs,un:=h.un }) W) from gQ 0 h { h0 with nm:=h.nm,vk:=h.vk,vn:=h.vn,vs:=h.vs,un:=h.un } n 0 ua ua aa none uc uc ac 0 W S (S)));have CC:=Hy (fun W=>fA h.vk h.vn h.vs HZ.o.vs W);have CL:=Hy (fun W=>sU h n ua aa uc ac W);have CT:=Hy (fun W S T=>tQ ⟨h.vk,h.un,h.nm⟩ ua uc W S HZ.o.nm T);have hE:yx n h=yx n h:=rfl
 conv at hE=>rhs;unfold yx
 replace hE:=Hy hE;unfold exC at *;generalize dS 0 n h { h0 with nm:=h.nm,vk:=h.vk,vn:=h.vn,vs:=h.vs,un:=h.un } = r at *;generalize tyE ⟨h.vk,h.un,h.nm⟩=t at *;generalize ck ⟨h.vk,h.vn,h.vs⟩=c at *
 go_enter Tryz.func207,Tryz.ntmps207
 go_wp2_with fail;refine (CC.o _).mono ?_;rintro e w1 ⟨rfl,b1⟩;have B1:=Hy (ak B0.o b1);replace S0:=Hy (S0.o.keeps b1);replace T0:=Hy (T0.o.stays b1);replace G:=Hy (G.o.keeps b1);have c0:=G.o.cell 0;have c1:=G.o.cell 1;have c2:=G.o.cell 2;have c3:=G.o.cell 3;have c4:=G.o.cell 4;have c5:=G.o.cell 5;have c6:=G.o.cell 6;have c7:=G.o.cell 7;have c8:=G.o.cell 8;have c9:=G.o.cell 9;have c10:=G.o.cell 10;have c11:=G.o.cell 11;simp only [sz2,sz3,sz4] at c0 c1 c2 c3 c4 c5 c6 c7 c8 c9 c10 c11;clear b1 CC;by_cases hc:c=0
 ·have qc:=dG hc;replace hE:=hE.o;rw [dT hc,L_l] at hE;replace hE:=Hy hE;clear hc;by_cases hn:0≤h.vn
  ·have qn:decide (0≤h.vn)=true:=dT hn;replace hE:=hE.o;rw [dT hn,L_l] at hE;replace hE:=Hy hE;go_wp2_with (first | (refine eO aN dec.uy29 rfl (.tmp 3) rfl rfl _ _ _ rfl G.o rfl ?_) | (refine aG aN dec.uy29 rfl (.tmp 3) rfl rfl _ _ _ rfl G.o rfl ?_));refine (CL.o _).mono ?_;rintro e w2 ⟨rfl,b2⟩;have B2:=Hy (ak B1.o b2);replace S0:=Hy (S0.o.keeps b2);replace T0:=Hy (T0.o.stays b2);replace G:=Hy (G.o.keeps b2);clear b2 CL;go_wp2_with fail;refine (CT.o _ S0.o T0.o).mono ?_;rintro e w3 ⟨rfl,b3⟩;have B3:=Hy (ak B2.o b3);replace S0:=Hy (S0.o.keeps b3);replace G:=Hy (G.o.keeps b3);have d0:=G.o.cell 0;have d1:=G.o.cell 1;have d2:=G.o.cell 2;have d3:=G.o.cell 3;have d4:=G.o.cell 4;have d5:=G.o.cell 5;have d6:=G.o.cell 6;have d7:=G.o.cell 7;have d8:=G.o.cell 8;have d9:=G.o.cell 9;have d10:=G.o.cell 10;have d11:=G.o.cell 11;simp only [sz2,sz3,sz4] at d0 d1 d2 d3 d4 d5 d6 d7 d8 d9 d10 d11;clear b3 CT;by_cases ht:t=0
   ·have qt:=dG ht;replace hE:=hE.o;rw [dT ht,L_l] at hE;replace hE:=Hy hE;clear ht;have RV:=Hy (bV G.o 4 [.int .i64 h.vk,.int .i64 h.vn,.string h.vs] rfl);go_wp2_with (first | (refine eO aN dec.uy29 rfl (.tmp 3) rfl rfl _ _ _ rfl G.o rfl ?_) | (refine eG Oe Tryz.underlying23 rfl (.tmp 25) rfl rfl w.heap.size 4 #[.int .i64 h.vk,.int .i64 h.vn,.string h.vs] rfl RV.o rfl ?_));refine (CH.o _ S0.o).mono ?_;rintro e w4 ⟨rfl,b4⟩;have B4:=Hy (ak B3.o b4);clear b4 CH;go_wp2_with fail;go_ret;exact aL (by rw [hE.o];try rfl) B4.o
   have qt:=dB ht;replace hE:=hE.o;rw [dF ht,L_k] at hE;replace hE:=Hy hE;clear ht;go_wp2_with fail;go_ret;exact aL (by rw [hE.o];try rfl) B3.o
  have qn:decide (0≤h.vn)=false:=dF hn;replace hE:=hE.o;rw [dF hn,L_k] at hE;replace hE:=Hy hE;go_wp2_with fail;go_ret;exact aL (by rw [hE.o];try rfl) B1.o
 have qc:=dB hc;replace hE:=hE.o;rw [dF hc,L_k,L_k] at hE;replace hE:=Hy hE;clear hc;go_wp2_with fail;go_ret;exact aL (by rw [hE.o];try rfl) B1.o
def yS (p:Int) (n:Nat) (h g:Hd):Bool:=decide (p=0) && (name h.tb && (iG h.op h.pa && (jd h.wk h.ws && (dS 2 n h { h0 with op:=h.op,tb:=h.tb,pa:=h.pa,wk:=h.wk,ws:=h.ws } && (!decide (h.op=⟨#[99,111,117,110,116]⟩) || bY g)))))
theorem zR (p:Int) (h:Hd) (n:Nat) (ua aa:Option Addr) (uc ac:Nat) (w:World) (hs:h.sz) (hU:un.Sl w ua h.un.length uc h.un) (F:Fo) (hA:Fs w aa n ac F) (g:Hd) (hg:(F.nth 0).h=g) (T:Tabs w) :
    Calls Tryz.prog 211 #[.int .i64 p,.agg (exC h n ua uc aa ac)] w (Bl (yS p n h g) w):=by
 have bb:=aj (b0 w) (.cells (exC h n ua uc aa ac) 29);have B0:=Hy bb;have G:=Hy (Blk.new w 29 (exC h n ua uc aa ac));have T0:=Hy (T.stays bb);have S0:=Hy (hU.keeps bb);have HZ:=Hy hs;clear hU T bb hs;have A0:=Hy (Fs.keeps hA B0.o);clear hA;have CH:=Hy (fun W S=>(show Calls Tryz.prog 261 #[.agg #[.int .i64 h.k,.string h.op,.string h.nm,.string h.tb,.int .i64 h.vk,.int .i64 h.vn,.string h.vs,.slice ua h.un.length uc,.int .i64 h.pa,.int .i64 h.wk,.int .i64 h.ws,.slice aa n ac],.agg #[.int .i64 0,.string h.op,.string ⟨#[]⟩,.string h.tb,.int .i64 0,.int .i64 0,.string ⟨#[]⟩,.slice none 0 0,.int .i64 h.pa,.int .i64 h.wk,.int .i64 h.ws,.slice none 0 0],.int .i64 2] W (Bl (dS 2 n h { h0 with op:=h.op,tb:=h.tb,pa:=h.pa,wk:=h.wk,ws:=h.ws }) W) from gQ 2 h { h0 with op:=h.op,tb:=h.tb,pa:=h.pa,wk:=h.wk,ws:=h.ws } n 0 ua none aa none uc 0 ac 0 W S (un.Sl.nil _)));have CN:=Hy (fun W T=>gI h.tb HZ.o.tb W T);have CP:=Hy (fun W=>DF h.op h.pa W);have CW:=Hy (fun W=>BJ h.wk h.ws W);have CI:=Hy Ia;have hE:yS p n h g=yS p n h g:=rfl
 conv at hE=>rhs;unfold yS
 replace hE:=Hy hE;have h2:dS 2 n h { h0 with op:=h.op,tb:=h.tb,pa:=h.pa,wk:=h.wk,ws:=h.ws } = true→n=2:=fun e=>by unfold dS at e;rw [L_d,L_c] at e;exact Int.ofNat.inj e.1
 unfold exC at *;generalize dS 2 n h { h0 with op:=h.op,tb:=h.tb,pa:=h.pa,wk:=h.wk,ws:=h.ws } = r at *;generalize name h.tb=m at *;generalize iG h.op h.pa=pp at *;generalize jd h.wk h.ws=ww at *;replace h2:=Hy h2;by_cases hp:p=0
 ·have qp:=dG hp;replace hE:=hE.o;rw [dT hp,L_l] at hE;replace hE:=Hy hE;clear hp
  go_enter Tryz.func211,Tryz.ntmps211
  go_wp2_with fail;refine (CN.o _ T0.o).mono ?_;rintro e w1 ⟨rfl,b1⟩;have B1:=Hy (ak B0.o b1);replace S0:=Hy (S0.o.keeps b1);replace A0:=Hy (A0.o.keeps b1);replace G:=Hy (G.o.keeps b1);have c1:=G.o.cell 1;have c3:=G.o.cell 3;have c6:=G.o.cell 6;have c7:=G.o.cell 7;have c8:=G.o.cell 8;have c9:=G.o.cell 9;have c10:=G.o.cell 10;have c11:=G.o.cell 11;simp only [sz2,sz3,sz4] at c1 c3 c6 c7 c8 c9 c10 c11;clear b1 CN;cases m
  ·replace hE:=hE.o;rw [L_k] at hE;replace hE:=Hy hE;go_wp2_with fail;go_ret;exact aL (by rw [hE.o];try rfl) B1.o
  replace hE:=hE.o;rw [L_l] at hE;replace hE:=Hy hE;go_wp2_with fail;refine (CP.o _).mono ?_;rintro e w2 ⟨rfl,b2⟩;have B2:=Hy (ak B1.o b2);replace S0:=Hy (S0.o.keeps b2);replace A0:=Hy (A0.o.keeps b2);replace G:=Hy (G.o.keeps b2);have d1:=G.o.cell 1;have d3:=G.o.cell 3;have d6:=G.o.cell 6;have d7:=G.o.cell 7;have d8:=G.o.cell 8;have d9:=G.o.cell 9;have d10:=G.o.cell 10;have d11:=G.o.cell 11;simp only [sz2,sz3,sz4] at d1 d3 d6 d7 d8 d9 d10 d11;clear b2 CP;cases pp
  ·replace hE:=hE.o;rw [L_k] at hE;replace hE:=Hy hE;go_wp2_with fail;go_ret;exact aL (by rw [hE.o];try rfl) B2.o
  replace hE:=hE.o;rw [L_l] at hE;replace hE:=Hy hE;have RW:=Hy (bV G.o 9 [.int .i64 h.wk,.int .i64 h.ws] rfl);go_wp2_with (first | (refine eG jM dec.uy26 rfl (.tmp 20) rfl rfl w.heap.size 9 #[.int .i64 h.wk,.int .i64 h.ws] rfl RW.o rfl ?_));refine (CW.o _).mono ?_;rintro e w3 ⟨rfl,b3⟩;have B3:=Hy (ak B2.o b3);replace S0:=Hy (S0.o.keeps b3);replace A0:=Hy (A0.o.keeps b3);replace G:=Hy (G.o.keeps b3);have x1:=G.o.cell 1;have x3:=G.o.cell 3;have x6:=G.o.cell 6;have x7:=G.o.cell 7;have x8:=G.o.cell 8;have x9:=G.o.cell 9;have x10:=G.o.cell 10;have x11:=G.o.cell 11;simp only [sz2,sz3,sz4] at x1 x3 x6 x7 x8 x9 x10 x11;clear b3 CW;cases ww
  ·replace hE:=hE.o;rw [L_k] at hE;replace hE:=Hy hE;go_wp2_with fail;go_ret;exact aL (by rw [hE.o];try rfl) B3.o
  replace hE:=hE.o;rw [L_l] at hE;replace hE:=Hy hE;have RW2:=Hy (bV G.o 9 [.int .i64 h.wk,.int .i64 h.ws] rfl);go_wp2_with (first | (refine eO aN dec.uy29 rfl (.tmp 3) rfl rfl _ _ _ rfl G.o rfl ?_) | (refine eG jM dec.uy26 rfl (.tmp 32) rfl rfl w.heap.size 9 #[.int .i64 h.wk,.int .i64 h.ws] rfl RW2.o rfl ?_));refine (CH.o _ S0.o).mono ?_;rintro e w4 ⟨rfl,b4⟩;have B4:=Hy (ak B3.o b4);replace A0:=Hy (A0.o.keeps b4);replace G:=Hy (G.o.keeps b4);have y1:=G.o.cell 1;have y3:=G.o.cell 3;have y8:=G.o.cell 8;have y11:=G.o.cell 11;simp only [sz2,sz3,sz4] at y1 y3 y8 y11;clear b4 CH;cases r
  ·replace hE:=hE.o;rw [L_k] at hE;replace hE:=Hy hE;go_wp2_with fail;go_ret;exact aL (by rw [hE.o];try rfl) B4.o
  replace hE:=hE.o;rw [L_l] at hE;replace hE:=Hy hE;by_cases ho:h.op=⟨#[99,111,117,110,116]⟩
  ·have qo:(h.op.toList==[99,111,117,110,116])=true:=by rw [eqL];exact dT ho
   have qo2:(!h.op.toList==[99,111,117,110,116])=false:=by rw [qo];rfl
   replace hE:=hE.o;rw [dT ho] at hE;replace hE:=Hy hE;replace ho:=Hy ho;have hn2:=h2.o rfl;have hF2:F.len=2:=by have:=A0.o.hn;omega
   subst hn2;obtain ⟨bk,off,va,vc,wa,wc,rfl,R1,E1⟩:=A0.o.at (j:=0) (by omega);replace R1:=Hy R1;clear hF2;have hgx:=Hy hg;clear hg;generalize F.nth 0=y at *;go_wp2_with (first | (refine eG aN dec.uy29 rfl (.tmp 44) rfl rfl bk off (exC y.h y.ar.len va vc wa wc) rfl (by simpa using R1.o) rfl ?_));refine (CI.o y.h y.ar.len va wa vc wc _).mono ?_;rintro e w5 ⟨rfl,b5⟩;have B5:=Hy (ak B4.o b5);clear b5 CI;go_wp2_with fail;go_ret;exact aL (by rw [hE.o,← hgx.o];rfl) B5.o
  have qo:(h.op.toList==[99,111,117,110,116])=false:=by rw [eqL];exact dF ho
  have qo2:(!h.op.toList==[99,111,117,110,116])=true:=by rw [qo];rfl
  replace hE:=hE.o;rw [dF ho] at hE;replace hE:=Hy hE;clear ho;go_wp2_with fail;go_ret;exact aL (by rw [hE.o];try rfl) B4.o
 have qp:=dB hp;replace hE:=hE.o;rw [dF hp,L_k] at hE;replace hE:=Hy hE;clear hp
 go_enter Tryz.func211,Tryz.ntmps211
 go_wp2_with fail;go_ret;exact aL (by rw [hE.o];try rfl) B0.o
def _root_.Go.Proofs.YtbahfelnbofjjaaGreatDoor.Fo.szs:Fo→Prop
 | .nil=>True
 | .cons h ar r=>h.sz∧ar.szs∧r.szs
structure _root_.Go.Proofs.YtbahfelnbofjjaaGreatDoor.Ex.szs (x:Ex):Prop where
 h:x.h.sz
 ar:x.ar.szs
theorem WC:h0.sz:=⟨by decide,by decide,by decide,by decide⟩
theorem sD:∀ (F:Fo) (j:Nat),F.szs→(F.nth j).szs
 | .nil,_,_=>⟨WC,trivial⟩
 | .cons _ _ _,0,hs=>⟨hs.1,hs.2.1⟩
 | .cons _ _ r,j+1,hs=>sD r j hs.2.2
theorem KF {F:Fo} {j:Nat} (h:j<F.len) (i:Bool):fmA i (F.drop j)=(fmE i (F.nth j) && fmA i (F.drop (j+1))):=by
 rw [jS F j h];show (_ && (_ && _))=((_ && _) && _);rw [Bool.and_assoc]
theorem xq (i:Bool) (x:Ex):fmE i x=(cO i x.h x.ar.len (x.ar.nth 0).h && fmA (i || decide (x.h.k=5)) x.ar):=rfl
theorem kI (k:Int) (n:Nat) (h g:Hd) (m:Nat) (hk:k=(m:Nat)):dS k n h g=(same h g && decide (n=m)):=by
 unfold dS;rw [Bool.and_comm];congr 1;rw [hk,decide_eq_decide];omega
theorem Wo {h:Hd} (hk:h.k=1) (i:Bool) (n:Nat) (g:Hd):yx n h=cO i h n g:=by
 unfold cO yx MC;rw [if_pos hk,kI 0 n h _ 0 rfl];simp only [Bool.and_assoc]
theorem Wn {h:Hd} (hk:h.k=2) {p:Int} (n:Nat) (g:Hd):(decide (p=1) && iI 0 n h)=cO (decide (p=1)) h n g:=by
 unfold cO iI p9;rw [if_neg (by omega),if_pos hk,kI 0 n h _ 0 rfl];simp only [Bool.and_assoc]
theorem Wm {h:Hd} (hk:h.k=3) {p:Int} (hp:p=0∨p=1) (n:Nat) (g:Hd):(decide (p=0) && iI 0 n h)=cO (decide (p=1)) h n g:=by
 unfold cO iI p9;rw [if_neg (by omega),if_neg (by omega),if_pos hk,kI 0 n h _ 0 rfl,show decide (p=0) = !decide (p=1) by rcases hp with rfl | rfl <;> rfl];simp only [Bool.and_assoc]
theorem Wj {h:Hd} (hk:h.k=4) {p:Int} (hp:p=0∨p=1) (n:Nat) (g:Hd):(decide (p=0) && iI 1 n h)=cO (decide (p=1)) h n g:=by
 unfold cO iI p9;rw [if_neg (by omega),if_neg (by omega),if_neg (by omega),if_pos hk,kI 1 n h _ 1 rfl,show decide (p=0) = !decide (p=1) by rcases hp with rfl | rfl <;> rfl];simp only [Bool.and_assoc]
theorem Wi {h:Hd} (hk:h.k=5) {p:Int} (hp:p=0∨p=1) (n:Nat) (g:Hd):yS p n h g=cO (decide (p=1)) h n g:=by
 unfold cO yS ND;rw [if_neg (by omega),if_neg (by omega),if_neg (by omega),if_neg (by omega),if_pos hk,kI 2 n h _ 2 rfl,show decide (p=0) = !decide (p=1) by rcases hp with rfl | rfl <;> rfl];simp only [Bool.and_assoc]
theorem Wh {h:Hd} (hk:h.k=6) (i:Bool) (n:Nat) (g:Hd):(pR h.op && dS 1 n h { h0 with op:=h.op })=cO i h n g:=by
 unfold cO;rw [if_neg (by omega),if_neg (by omega),if_neg (by omega),if_neg (by omega),if_neg (by omega),if_pos hk,kI 1 n h _ 1 rfl]
theorem Wd {h:Hd} (hk:h.k=7) (i:Bool) (n:Nat) (g:Hd):(qy h.op && dS 2 n h { h0 with op:=h.op })=cO i h n g:=by
 unfold cO;rw [if_neg (by omega),if_neg (by omega),if_neg (by omega),if_neg (by omega),if_neg (by omega),if_neg (by omega),if_pos hk,kI 2 n h _ 2 rfl]
theorem V8 {h:Hd} (hk:h.k=8) (i:Bool) (n:Nat) (g:Hd):dS 3 n h h0=cO i h n g:=by
 unfold cO;rw [if_neg (by omega),if_neg (by omega),if_neg (by omega),if_neg (by omega),if_neg (by omega),if_neg (by omega),if_neg (by omega),if_pos hk,kI 3 n h _ 3 rfl]
theorem VZ {h:Hd} (hk:h.k=9) (i:Bool) (n:Nat) (g:Hd):dS 2 n h h0=cO i h n g:=by
 unfold cO;rw [if_neg (by omega),if_neg (by omega),if_neg (by omega),if_neg (by omega),if_neg (by omega),if_neg (by omega),if_neg (by omega),if_neg (by omega),if_pos hk,kI 2 n h _ 2 rfl]
theorem TD {h:Hd} (hk:¬ (1≤h.k∧h.k≤9)) (i:Bool) (n:Nat) (g:Hd):cO i h n g=false:=by
 unfold cO;rw [if_neg (by omega),if_neg (by omega),if_neg (by omega),if_neg (by omega),if_neg (by omega),if_neg (by omega),if_neg (by omega),if_neg (by omega),if_neg (by omega)]
theorem Ij (p:Int) (x:Ex) (ua aa:Option Addr) (uc ac b:Nat) (w:World) (hM:Mp w b (ruL p)) (hk:¬ (1≤x.h.k∧x.h.k≤9)):Calls Tryz.prog 148 #[.agg (exC x.h x.ar.len ua uc aa ac),.map (some b)] w (Bl (fmE (decide (p=1)) x) w):=by
 have bb:=aj (b0 w) (.cells (exC x.h x.ar.len ua uc aa ac) 29);have B0:=Hy bb;have hl:=GJ iQ (hM.keeps bb) RB x.h.k hk;have hF:=Hy (show fmE (decide (p=1)) x=false by rw [xq,TD hk,L_k]);clear bb hM hk;unfold exC at *
 go_enter Tryz.func148,Tryz.ntmps148
 go_wp2_with fail;go_ret;exact aL (by rw [hF.o]) B0.o
theorem iA (n:Nat) (IH:∀ (p:Int) (x:Ex) (ua aa:Option Addr) (uc ac b:Nat) (w:World),x.ar.sz<n→(p=0∨p=1)→x.szs→Ec w x ua uc aa ac→Mp w b (ruL p)→Tabs w→Calls Tryz.prog 148 #[.agg (exC x.h x.ar.len ua uc aa ac),.map (some b)] w (Bl (fmE (decide (p=1)) x) w))
    (p:Int) (x:Ex) (ua aa:Option Addr) (uc ac b:Nat) (w:World) (hz:x.ar.sz=n) (hp:p=0∨p=1) (hs:x.szs) (hE:Ec w x ua uc aa ac) (hM:Mp w b (ruL p)) (T:Tabs w) (f9:FuncId) (m9:Nat) (hc9:x.h.k=((m9+1:Nat):Int)) (hv9:(ruL p)[m9]? = some (ruF f9 p)) (h5:x.h.k≠5) (hcf:∀ (av:Array Value) (W:World),(callFunc f9 av).run Tryz.prog W=.ok (.enter f9 av) W)
    (C9:∀ W:World,un.Sl W ua x.h.un.length uc x.h.un→Fs W aa x.ar.len ac x.ar→Tabs W→Calls Tryz.prog f9 #[.int .i64 p,.agg (exC x.h x.ar.len ua uc aa ac)] W (Bl (cO (decide (p=1)) x.h x.ar.len (x.ar.nth 0).h) W)):Calls Tryz.prog 148 #[.agg (exC x.h x.ar.len ua uc aa ac),.map (some b)] w (Bl (fmE (decide (p=1)) x) w):=by
 have bb:=aj (b0 w) (.cells (exC x.h x.ar.len ua uc aa ac) 29);have B0:=Hy bb;have G:=Hy (Blk.new w 29 (exC x.h x.ar.len ua uc aa ac));have T0:=Hy (T.stays bb);have E0:=Hy (hE.keeps bb);have M0:=Hy (hM.keeps bb);have hl:=vP iQ M0.o x.h.k m9 hc9 (ruF f9 p) hv9;have C:=Hy C9;have hq:(x.h.k==5)=false:=dB h5;have hF:=Hy (show fmE (decide (p=1)) x=(cO (decide (p=1)) x.h x.ar.len (x.ar.nth 0).h && fmA (decide (p=1)) x.ar) by rw [xq];congr 2;simp [h5]);have HS:=Hy hs.ar;have HP:=Hy hp;have IH':=Hy IH;have HZ:=Hy hz;have hL:=Hy (show x.ar.len≤9223372036854775807 by have:=hE.ar.hcap;have:=hE.ar.hmax;omega);clear bb T hE hM hs hp IH hz C9 hc9 hv9 h5;unfold exC at *;unfold ruF at hl;generalize cO (decide (p=1)) x.h x.ar.len (x.ar.nth 0).h=nd at *
 go_enter Tryz.func148,Tryz.ntmps148
 go_wp2_with (first | (refine eO aN dec.uy29 rfl (.tmp 2) rfl rfl _ _ _ rfl G.o rfl ?_));refine (C.o _ E0.o.us E0.o.ar T0.o).mono ?_;rintro e w1 ⟨rfl,b1⟩;have B1:=Hy (ak B0.o b1);replace T0:=Hy (T0.o.stays b1);replace E0:=Hy (E0.o.keeps b1);replace G:=Hy (G.o.keeps b1);replace M0:=Hy (M0.o.keeps b1);have c0:=G.o.cell 0;have c11:=G.o.cell 11;simp only [sz2,sz3,sz4] at c0 c11;clear b1 C hl;cases nd
 ·replace hF:=Hy (hF.o.trans (L_k _));go_wp2_with fail;go_ret;exact aL (by rw [hF.o]) B1.o
 replace hF:=Hy (hF.o.trans (L_l _));go_wp2_with fail;have hI:=Hy (show fmA (decide (p=1)) x.ar=fmA (decide (p=1)) (x.ar.drop 0) by rw [drop_zero]);have B9:=B1;have M9:=M0;clear c0 c11
 go_loopw [31] (fun vi wr => ∃ (j:Nat),vi=.int .i64 (j:Nat)∧Hid (j≤x.ar.len)∧Hid (fmA (decide (p=1)) x.ar=fmA (decide (p=1)) (x.ar.drop j))∧Hid (Below w.heap.size w wr)∧Hid (Tabs wr)∧Hid (Ec wr x ua uc aa ac)∧Hid (Mp wr b (ruL p))) (fun vi _=>x.ar.len - (intOf vi).toNat)
 case atStart=>exact ⟨0,rfl,Hy zl,hI,B9,T0,E0,M9⟩
 case round =>
  clear hI B9 T0 E0 M9;obtain ⟨j,rfl,hj,hI,hb,T0,E0,M0⟩:=hrel;by_cases hlt:j<x.ar.len
  ·have q1:decide ((j:Int)<(x.ar.len:Int))=true:=dT (by omega);obtain ⟨bk,off,va,vc,wa,wc,rfl,R1,E1⟩:=E0.o.ar.at hlt;have f4:=Hy (aP (j:=j) (by have:=hL.o;omega));have i1:(j:Int)<(x.ar.len:Int):=by omega
   replace hI:=Hy (hI.o.trans (KF hlt _));have hsz:=Hy (kE x.ar j hlt);have hss:=Hy (sD x.ar j HS.o);replace R1:=Hy R1;replace E1:=Hy E1;clear hj;generalize x.ar.nth j=y at *;go_wp2_with (first | (refine bS aN dec.uy29 rfl (.tmp 33) rfl rfl bk (off+j * 12) (exC y.h y.ar.len va vc wa wc) rfl R1.o rfl ?_) | (refine aF aN (.tmp 8) (.tmp 34) rfl rfl _ _ _ _ rfl rfl (Blk.new _ _ _) rfl rfl (aR _ _ _ _ _ _) ?_;intro w5 L5 hs5;have bb5:=(aj (b0 wr) _).trans (hs5.below lr)) | (refine aG aN dec.uy29 rfl (.tmp 8) rfl rfl _ _ _ rfl L5 rfl ?_));have B5:=Hy (ak hb.o bb5);have X5:=Hy (E1.o.keeps bb5);have T5:=Hy (T0.o.stays bb5);have M5:=Hy (M0.o.keeps bb5);have E5:=Hy (E0.o.keeps bb5);clear bb5 hs5 L5 R1 E1 T0 M0 E0 hb;have CF:Calls Tryz.prog 148 #[.agg (exC y.h y.ar.len va vc wa wc),.map (some b)] w5 (Bl (fmE (decide (p=1)) y) w5):=IH'.o p y va wa vc wc b w5 (by have:=hsz.o;have:=HZ.o;omega) HP.o hss.o X5.o M5.o T5.o;refine CF.mono ?_;rintro e w6 ⟨rfl,b6⟩;have B6:=Hy (ak B5.o b6);have T6:=Hy (T5.o.stays b6);have M6:=Hy (M5.o.keeps b6);have E6:=Hy (E5.o.keeps b6);clear b6 B5 X5 T5 M5 E5;generalize fmE (decide (p=1)) y=f at *;cases f
   ·replace hF:=Hy (hF.o.trans (hI.o.trans (L_k _)));go_wp2_with fail;go_ret;exact aL (by rw [hF.o]) B6.o
   replace hI:=Hy (hI.o.trans (L_l _));go_wp2_with fail;exact ⟨⟨j+1,congrArg (Value.int .i64) f4.o,Hy hlt,hI,B6,T6,E6,M6⟩,aU hlt f4.o⟩
  have q1:decide ((j:Int)<(x.ar.len:Int))=false:=dF (by omega);replace hF:=Hy (show fmE (decide (p=1)) x=true by rw [hF.o,hI.o,jo _ _ (by omega)];rfl);clear hj hI;go_wp2_with fail;go_ret;exact aL (by rw [hF.o]) hb.o
theorem Ky (n:Nat) (IH:∀ (p:Int) (x:Ex) (ua aa:Option Addr) (uc ac b:Nat) (w:World),x.ar.sz<n→(p=0∨p=1)→x.szs→Ec w x ua uc aa ac→Mp w b (ruL p)→Tabs w→Calls Tryz.prog 148 #[.agg (exC x.h x.ar.len ua uc aa ac),.map (some b)] w (Bl (fmE (decide (p=1)) x) w))
  (p:Int) (x:Ex) (ua aa:Option Addr) (uc ac b:Nat) (w:World) (hz:x.ar.sz=n) (hp:p=0∨p=1) (hs:x.szs) (hE:Ec w x ua uc aa ac) (hM:Mp w b (ruL p)) (T:Tabs w) (hk:x.h.k=1):Calls Tryz.prog 148 #[.agg (exC x.h x.ar.len ua uc aa ac),.map (some b)] w (Bl (fmE (decide (p=1)) x) w) :=
 iA n IH p x ua aa uc ac b w hz hp hs hE hM T 207 0 (by rw [hk];rfl) rfl (by omega) (fun _ _=>by go_simp) fun W hU hA T=>by have:=Dz p x.h x.ar.len ua aa uc ac W hs.h hU T;rw [Wo hk _ _ _] at this;exact this
theorem Kw (n:Nat) (IH:∀ (p:Int) (x:Ex) (ua aa:Option Addr) (uc ac b:Nat) (w:World),x.ar.sz<n→(p=0∨p=1)→x.szs→Ec w x ua uc aa ac→Mp w b (ruL p)→Tabs w→Calls Tryz.prog 148 #[.agg (exC x.h x.ar.len ua uc aa ac),.map (some b)] w (Bl (fmE (decide (p=1)) x) w))
  (p:Int) (x:Ex) (ua aa:Option Addr) (uc ac b:Nat) (w:World) (hz:x.ar.sz=n) (hp:p=0∨p=1) (hs:x.szs) (hE:Ec w x ua uc aa ac) (hM:Mp w b (ruL p)) (T:Tabs w) (hk:x.h.k=2):Calls Tryz.prog 148 #[.agg (exC x.h x.ar.len ua uc aa ac),.map (some b)] w (Bl (fmE (decide (p=1)) x) w) :=
 iA n IH p x ua aa uc ac b w hz hp hs hE hM T 208 1 (by rw [hk];rfl) rfl (by omega) (fun _ _=>by go_simp) fun W hU hA T=>by have:=KI p x.h x.ar.len ua aa uc ac W hs.h hU T;rw [Wn hk _ _] at this;exact this
theorem Kv (n:Nat) (IH:∀ (p:Int) (x:Ex) (ua aa:Option Addr) (uc ac b:Nat) (w:World),x.ar.sz<n→(p=0∨p=1)→x.szs→Ec w x ua uc aa ac→Mp w b (ruL p)→Tabs w→Calls Tryz.prog 148 #[.agg (exC x.h x.ar.len ua uc aa ac),.map (some b)] w (Bl (fmE (decide (p=1)) x) w))
  (p:Int) (x:Ex) (ua aa:Option Addr) (uc ac b:Nat) (w:World) (hz:x.ar.sz=n) (hp:p=0∨p=1) (hs:x.szs) (hE:Ec w x ua uc aa ac) (hM:Mp w b (ruL p)) (T:Tabs w) (hk:x.h.k=3):Calls Tryz.prog 148 #[.agg (exC x.h x.ar.len ua uc aa ac),.map (some b)] w (Bl (fmE (decide (p=1)) x) w) :=
 iA n IH p x ua aa uc ac b w hz hp hs hE hM T 209 2 (by rw [hk];rfl) rfl (by omega) (fun _ _=>by go_simp) fun W hU hA T=>by have:=DR p x.h x.ar.len ua aa uc ac W hs.h hU T;rw [Wm hk hp _ _] at this;exact this
theorem Ku (n:Nat) (IH:∀ (p:Int) (x:Ex) (ua aa:Option Addr) (uc ac b:Nat) (w:World),x.ar.sz<n→(p=0∨p=1)→x.szs→Ec w x ua uc aa ac→Mp w b (ruL p)→Tabs w→Calls Tryz.prog 148 #[.agg (exC x.h x.ar.len ua uc aa ac),.map (some b)] w (Bl (fmE (decide (p=1)) x) w))
  (p:Int) (x:Ex) (ua aa:Option Addr) (uc ac b:Nat) (w:World) (hz:x.ar.sz=n) (hp:p=0∨p=1) (hs:x.szs) (hE:Ec w x ua uc aa ac) (hM:Mp w b (ruL p)) (T:Tabs w) (hk:x.h.k=4):Calls Tryz.prog 148 #[.agg (exC x.h x.ar.len ua uc aa ac),.map (some b)] w (Bl (fmE (decide (p=1)) x) w) :=
 iA n IH p x ua aa uc ac b w hz hp hs hE hM T 210 3 (by rw [hk];rfl) rfl (by omega) (fun _ _=>by go_simp) fun W hU hA T=>by have:=Hr p x.h x.ar.len ua aa uc ac W hs.h hU T;rw [Wj hk hp _ _] at this;exact this
theorem Kt (n:Nat) (IH:∀ (p:Int) (x:Ex) (ua aa:Option Addr) (uc ac b:Nat) (w:World),x.ar.sz<n→(p=0∨p=1)→x.szs→Ec w x ua uc aa ac→Mp w b (ruL p)→Tabs w→Calls Tryz.prog 148 #[.agg (exC x.h x.ar.len ua uc aa ac),.map (some b)] w (Bl (fmE (decide (p=1)) x) w))
    (p:Int) (x:Ex) (ua aa:Option Addr) (uc ac b:Nat) (w:World) (hz:x.ar.sz=n) (hp:p=0∨p=1) (hs:x.szs) (hE:Ec w x ua uc aa ac) (hM:Mp w b (ruL p)) (T:Tabs w) (hk:x.h.k=5):Calls Tryz.prog 148 #[.agg (exC x.h x.ar.len ua uc aa ac),.map (some b)] w (Bl (fmE (decide (p=1)) x) w):=by
 have bb:=aj (b0 w) (.cells (exC x.h x.ar.len ua uc aa ac) 29);have B0:=Hy bb;have G:=Hy (Blk.new w 29 (exC x.h x.ar.len ua uc aa ac));have T0:=Hy (T.stays bb);have E0:=Hy (hE.keeps bb);have M0:=Hy (hM.keeps bb);have hl:=vP iQ M0.o x.h.k 4 (by rw [hk];rfl) (ruF 211 p) rfl;have C:=Hy (fun (W:World) (hU:un.Sl W ua x.h.un.length uc x.h.un) (hA:Fs W aa x.ar.len ac x.ar) (T:Tabs W)=>(show Calls Tryz.prog 211 #[.int .i64 p,.agg #[.int .i64 x.h.k,.string x.h.op,.string x.h.nm,.string x.h.tb,.int .i64 x.h.vk,.int .i64 x.h.vn,.string x.h.vs,.slice ua x.h.un.length uc,.int .i64 x.h.pa,.int .i64 x.h.wk,.int .i64 x.h.ws,.slice aa x.ar.len ac]] W (Bl (cO (decide (p=1)) x.h x.ar.len (x.ar.nth 0).h) W) by have:=zR p x.h x.ar.len ua aa uc ac W hs.h hU x.ar hA _ rfl T;rw [Wi hk hp _ _] at this;exact this));have hq:(x.h.k==5)=true:=dG hk;have hF:=Hy (show fmE (decide (p=1)) x=(cO (decide (p=1)) x.h x.ar.len (x.ar.nth 0).h && fmA (true) x.ar) by rw [xq];congr 2;simp [hk]);have HS:=Hy hs.ar;have HP:=Hy hp;have IH':=Hy IH;have HZ:=Hy hz;have hL:=Hy (show x.ar.len≤9223372036854775807 by have:=hE.ar.hcap;have:=hE.ar.hmax;omega);clear bb T hE hM hk hs hp IH hz;unfold exC at *;unfold ruF at hl;generalize cO (decide (p=1)) x.h x.ar.len (x.ar.nth 0).h=nd at *
 go_enter Tryz.func148,Tryz.ntmps148
 go_wp2_with (first | (refine eO aN dec.uy29 rfl (.tmp 2) rfl rfl _ _ _ rfl G.o rfl ?_));refine (C.o _ E0.o.us E0.o.ar T0.o).mono ?_;rintro e w1 ⟨rfl,b1⟩;have B1:=Hy (ak B0.o b1);replace T0:=Hy (T0.o.stays b1);replace E0:=Hy (E0.o.keeps b1);replace G:=Hy (G.o.keeps b1);replace M0:=Hy (M0.o.keeps b1);have c0:=G.o.cell 0;have c11:=G.o.cell 11;simp only [sz2,sz3,sz4] at c0 c11;clear b1 C hl;cases nd
 ·replace hF:=Hy (hF.o.trans (L_k _));go_wp2_with fail;go_ret;exact aL (by rw [hF.o]) B1.o
 replace hF:=Hy (hF.o.trans (L_l _));go_wp2_with fail;have RC:=za 1;refine (RC _).mono ?_;rintro e w7 ⟨b2,rfl,hb2,m2,b7⟩;have B7:=Hy (ak B1.o b7);replace T0:=Hy (T0.o.stays b7);replace E0:=Hy (E0.o.keeps b7);replace G:=Hy (G.o.keeps b7);have M7:=Hy m2;have e11:=G.o.cell 11;simp only [sz2,sz3,sz4] at e11;clear b7 m2 hb2 RC M0;go_wp2_with fail;have hI:=Hy (show fmA (true) x.ar=fmA (true) (x.ar.drop 0) by rw [drop_zero]);have B9:=B7;have M9:=M7;clear c0 c11 e11
 go_loopw [31] (fun vi wr => ∃ (j:Nat),vi=.int .i64 (j:Nat)∧Hid (j≤x.ar.len)∧Hid (fmA (true) x.ar=fmA (true) (x.ar.drop j))∧Hid (Below w.heap.size w wr)∧Hid (Tabs wr)∧Hid (Ec wr x ua uc aa ac)∧Hid (Mp wr b2 (ruL 1))) (fun vi _=>x.ar.len - (intOf vi).toNat)
 case atStart=>exact ⟨0,rfl,Hy zl,hI,B9,T0,E0,M9⟩
 case round =>
  clear hI B9 T0 E0 M9;obtain ⟨j,rfl,hj,hI,hb,T0,E0,M0⟩:=hrel;by_cases hlt:j<x.ar.len
  ·have q1:decide ((j:Int)<(x.ar.len:Int))=true:=dT (by omega);obtain ⟨bk,off,va,vc,wa,wc,rfl,R1,E1⟩:=E0.o.ar.at hlt;have f4:=Hy (aP (j:=j) (by have:=hL.o;omega));have i1:(j:Int)<(x.ar.len:Int):=by omega
   replace hI:=Hy (hI.o.trans (KF hlt _));have hsz:=Hy (kE x.ar j hlt);have hss:=Hy (sD x.ar j HS.o);replace R1:=Hy R1;replace E1:=Hy E1;clear hj;generalize x.ar.nth j=y at *;go_wp2_with (first | (refine bS aN dec.uy29 rfl (.tmp 33) rfl rfl bk (off+j * 12) (exC y.h y.ar.len va vc wa wc) rfl R1.o rfl ?_) | (refine aF aN (.tmp 8) (.tmp 34) rfl rfl _ _ _ _ rfl rfl (Blk.new _ _ _) rfl rfl (aR _ _ _ _ _ _) ?_;intro w5 L5 hs5;have bb5:=(aj (b0 wr) _).trans (hs5.below lr)) | (refine aG aN dec.uy29 rfl (.tmp 8) rfl rfl _ _ _ rfl L5 rfl ?_));have B5:=Hy (ak hb.o bb5);have X5:=Hy (E1.o.keeps bb5);have T5:=Hy (T0.o.stays bb5);have M5:=Hy (M0.o.keeps bb5);have E5:=Hy (E0.o.keeps bb5);clear bb5 hs5 L5 R1 E1 T0 M0 E0 hb;have CF:Calls Tryz.prog 148 #[.agg (exC y.h y.ar.len va vc wa wc),.map (some b2)] w5 (Bl (fmE (true) y) w5):=IH'.o 1 y va wa vc wc b2 w5 (by have:=hsz.o;have:=HZ.o;omega) (.inr rfl) hss.o X5.o M5.o T5.o;refine CF.mono ?_;rintro e w6 ⟨rfl,b6⟩;have B6:=Hy (ak B5.o b6);have T6:=Hy (T5.o.stays b6);have M6:=Hy (M5.o.keeps b6);have E6:=Hy (E5.o.keeps b6);clear b6 B5 X5 T5 M5 E5;generalize fmE (true) y=f at *;cases f
   ·replace hF:=Hy (hF.o.trans (hI.o.trans (L_k _)));go_wp2_with fail;go_ret;exact aL (by rw [hF.o]) B6.o
   replace hI:=Hy (hI.o.trans (L_l _));go_wp2_with fail;exact ⟨⟨j+1,congrArg (Value.int .i64) f4.o,Hy hlt,hI,B6,T6,E6,M6⟩,aU hlt f4.o⟩
  have q1:decide ((j:Int)<(x.ar.len:Int))=false:=dF (by omega);replace hF:=Hy (show fmE (decide (p=1)) x=true by rw [hF.o,hI.o,jo _ _ (by omega)];rfl);clear hj hI;go_wp2_with fail;go_ret;exact aL (by rw [hF.o]) hb.o
theorem Kr (n:Nat) (IH:∀ (p:Int) (x:Ex) (ua aa:Option Addr) (uc ac b:Nat) (w:World),x.ar.sz<n→(p=0∨p=1)→x.szs→Ec w x ua uc aa ac→Mp w b (ruL p)→Tabs w→Calls Tryz.prog 148 #[.agg (exC x.h x.ar.len ua uc aa ac),.map (some b)] w (Bl (fmE (decide (p=1)) x) w))
  (p:Int) (x:Ex) (ua aa:Option Addr) (uc ac b:Nat) (w:World) (hz:x.ar.sz=n) (hp:p=0∨p=1) (hs:x.szs) (hE:Ec w x ua uc aa ac) (hM:Mp w b (ruL p)) (T:Tabs w) (hk:x.h.k=6):Calls Tryz.prog 148 #[.agg (exC x.h x.ar.len ua uc aa ac),.map (some b)] w (Bl (fmE (decide (p=1)) x) w) :=
 iA n IH p x ua aa uc ac b w hz hp hs hE hM T 212 5 (by rw [hk];rfl) rfl (by omega) (fun _ _=>by go_simp) fun W hU hA T=>by have:=lu p x.h x.ar.len ua aa uc ac W hs.h hU T;rw [Wh hk _ _ _] at this;exact this
theorem Kq (n:Nat) (IH:∀ (p:Int) (x:Ex) (ua aa:Option Addr) (uc ac b:Nat) (w:World),x.ar.sz<n→(p=0∨p=1)→x.szs→Ec w x ua uc aa ac→Mp w b (ruL p)→Tabs w→Calls Tryz.prog 148 #[.agg (exC x.h x.ar.len ua uc aa ac),.map (some b)] w (Bl (fmE (decide (p=1)) x) w))
  (p:Int) (x:Ex) (ua aa:Option Addr) (uc ac b:Nat) (w:World) (hz:x.ar.sz=n) (hp:p=0∨p=1) (hs:x.szs) (hE:Ec w x ua uc aa ac) (hM:Mp w b (ruL p)) (T:Tabs w) (hk:x.h.k=7):Calls Tryz.prog 148 #[.agg (exC x.h x.ar.len ua uc aa ac),.map (some b)] w (Bl (fmE (decide (p=1)) x) w) :=
 iA n IH p x ua aa uc ac b w hz hp hs hE hM T 213 6 (by rw [hk];rfl) rfl (by omega) (fun _ _=>by go_simp) fun W hU hA T=>by have:=gK p x.h x.ar.len ua aa uc ac W hs.h hU T;rw [Wd hk _ _ _] at this;exact this
theorem Ko (n:Nat) (IH:∀ (p:Int) (x:Ex) (ua aa:Option Addr) (uc ac b:Nat) (w:World),x.ar.sz<n→(p=0∨p=1)→x.szs→Ec w x ua uc aa ac→Mp w b (ruL p)→Tabs w→Calls Tryz.prog 148 #[.agg (exC x.h x.ar.len ua uc aa ac),.map (some b)] w (Bl (fmE (decide (p=1)) x) w))
  (p:Int) (x:Ex) (ua aa:Option Addr) (uc ac b:Nat) (w:World) (hz:x.ar.sz=n) (hp:p=0∨p=1) (hs:x.szs) (hE:Ec w x ua uc aa ac) (hM:Mp w b (ruL p)) (T:Tabs w) (hk:x.h.k=8):Calls Tryz.prog 148 #[.agg (exC x.h x.ar.len ua uc aa ac),.map (some b)] w (Bl (fmE (decide (p=1)) x) w) :=
 iA n IH p x ua aa uc ac b w hz hp hs hE hM T 214 7 (by rw [hk];rfl) rfl (by omega) (fun _ _=>by go_simp) fun W hU hA T=>by have:=Iz p x.h x.ar.len ua aa uc ac W hs.h hU T;rw [V8 hk _ _ _] at this;exact this
theorem Km (n:Nat) (IH:∀ (p:Int) (x:Ex) (ua aa:Option Addr) (uc ac b:Nat) (w:World),x.ar.sz<n→(p=0∨p=1)→x.szs→Ec w x ua uc aa ac→Mp w b (ruL p)→Tabs w→Calls Tryz.prog 148 #[.agg (exC x.h x.ar.len ua uc aa ac),.map (some b)] w (Bl (fmE (decide (p=1)) x) w))
  (p:Int) (x:Ex) (ua aa:Option Addr) (uc ac b:Nat) (w:World) (hz:x.ar.sz=n) (hp:p=0∨p=1) (hs:x.szs) (hE:Ec w x ua uc aa ac) (hM:Mp w b (ruL p)) (T:Tabs w) (hk:x.h.k=9):Calls Tryz.prog 148 #[.agg (exC x.h x.ar.len ua uc aa ac),.map (some b)] w (Bl (fmE (decide (p=1)) x) w) :=
 iA n IH p x ua aa uc ac b w hz hp hs hE hM T 215 8 (by rw [hk];rfl) rfl (by omega) (fun _ _=>by go_simp) fun W hU hA T=>by have:=Cm p x.h x.ar.len ua aa uc ac W hs.h hU T;rw [VZ hk _ _ _] at this;exact this
theorem DK (p:Int) (x:Ex) (ua aa:Option Addr) (uc ac b:Nat) (w:World) (hp:p=0∨p=1) (hs:x.szs) (hE:Ec w x ua uc aa ac) (hM:Mp w b (ruL p)) (T:Tabs w):Calls Tryz.prog 148 #[.agg (exC x.h x.ar.len ua uc aa ac),.map (some b)] w (Bl (fmE (decide (p=1)) x) w):=by
 have key:∀ n,∀ (p:Int) (x:Ex) (ua aa:Option Addr) (uc ac b:Nat) (w:World),x.ar.sz<n→(p=0∨p=1)→x.szs→Ec w x ua uc aa ac→Mp w b (ruL p)→Tabs w→Calls Tryz.prog 148 #[.agg (exC x.h x.ar.len ua uc aa ac),.map (some b)] w (Bl (fmE (decide (p=1)) x) w):=by
  intro n
  induction n with
  | zero=>intro p x ua aa uc ac b w h;exact absurd h (Nat.not_lt_zero _)
  | succ n ih =>
    intro p x ua aa uc ac b w h hp hs hE hM T
    have ih':=fun p' x' ua' aa' uc' ac' b' w' (h':x'.ar.sz<x.ar.sz)=>ih p' x' ua' aa' uc' ac' b' w' (by omega)
    by_cases hk:1≤x.h.k∧x.h.k≤9
    · rcases (show x.h.k=1∨x.h.k=2∨x.h.k=3∨x.h.k=4∨x.h.k=5∨x.h.k=6∨x.h.k=7∨x.h.k=8∨x.h.k=9 by omega) with h1 | h1 | h1 | h1 | h1 | h1 | h1 | h1 | h1
      · exact Ky x.ar.sz ih' p x ua aa uc ac b w rfl hp hs hE hM T h1
      · exact Kw x.ar.sz ih' p x ua aa uc ac b w rfl hp hs hE hM T h1
      · exact Kv x.ar.sz ih' p x ua aa uc ac b w rfl hp hs hE hM T h1
      · exact Ku x.ar.sz ih' p x ua aa uc ac b w rfl hp hs hE hM T h1
      · exact Kt x.ar.sz ih' p x ua aa uc ac b w rfl hp hs hE hM T h1
      · exact Kr x.ar.sz ih' p x ua aa uc ac b w rfl hp hs hE hM T h1
      · exact Kq x.ar.sz ih' p x ua aa uc ac b w rfl hp hs hE hM T h1
      · exact Ko x.ar.sz ih' p x ua aa uc ac b w rfl hp hs hE hM T h1
      · exact Km x.ar.sz ih' p x ua aa uc ac b w rfl hp hs hE hM T h1
    · exact Ij p x ua aa uc ac b w hM hk
 exact key _ p x ua aa uc ac b w ls hp hs hE hM T
end ch
end Go.Proofs.YtbahfelnbofjjaaGreatDoor
