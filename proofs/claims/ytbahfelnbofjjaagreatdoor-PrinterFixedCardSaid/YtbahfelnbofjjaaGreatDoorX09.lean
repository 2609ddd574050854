/-
  checker.hasOnly: an expression has a number of operands, and what another one has; The rules of proper form of the kinds of expressions, in the program; The rules of aggregates and literals, in the program.
-/
import Derived.Test.YtbahfelnbofjjaaGreatDoorX08
set_option maxRecDepth 100000
set_option maxHeartbeats 16000000
namespace Go.Proofs.YtbahfelnbofjjaaGreatDoor
namespace ch
open Go.RowKit dec
theorem lJ {a b:ByteArray} (h:a≠b):(a.toList==b.toList)=false:=by rw [un.xw,dF h]
theorem lK {a b:ByteArray} (h:a=b):(a.toList==b.toList)=true:=by rw [un.xw,dT h]
theorem bW {a b:Int} (h:a≠b):(a==b)=false:=by rw [eqI,dF h]
theorem dx {a b:Int} (h:a=b):(a==b)=true:=by rw [eqI,dT h]
def dw (k:Int) (n:Nat) (h g:Hd):Bool:=decide (((n:Nat):Int)=k) && same h g
theorem fI (k:Int) (h g:Hd) (n m:Nat) (ua ub aa ab:Option Addr) (uc ud ac ad:Nat) (w:World) (hU:un.Sl w ua h.un.length uc h.un) (hV:un.Sl w ub g.un.length ud g.un) :
    Calls Tryz.prog 261 #[.agg (exC h n ua uc aa ac),.agg (exC g m ub ud ab ad),.int .i64 k] w (Bl (dw k n h g) w):=by
 have bb:=bX w (.cells (exC h n ua uc aa ac) 29) (.cells (exC g m ub ud ab ad) 29);have B0:=Hy bb;have GG:=eO w (exC h n ua uc aa ac) (exC g m ub ud ab ad) 29 29;have G1:=Hy GG.1;have G2:=Hy GG.2;have CS:=Hy (un.Iz _ _ _ _ _ _ _ _ _ (hU.keeps bb) (hV.keeps bb));have hE:dw k n h g=dw k n h g:=rfl
 conv at hE=>rhs;unfold dw same
 replace hE:=Hy hE;clear hU hV bb GG;unfold exC at *;by_cases hk:((n:Nat):Int)=k
 ·have qn:=dx hk;replace hE:=hE.o;simp only [dT hk,Bool.true_and] at hE;replace hE:=Hy hE;clear hk;by_cases e0:h.op=g.op
  ·have qhop:=lK e0;replace hE:=hE.o;simp only [dT e0,Bool.true_and] at hE;replace hE:=Hy hE;clear e0;by_cases e1:h.nm=g.nm
   ·have qhnm:=lK e1;replace hE:=hE.o;simp only [dT e1,Bool.true_and] at hE;replace hE:=Hy hE;clear e1;by_cases e2:h.tb=g.tb
    ·have qhtb:=lK e2;replace hE:=hE.o;simp only [dT e2,Bool.true_and] at hE;replace hE:=Hy hE;clear e2;by_cases e3:h.vk=g.vk
     ·have qhvk:=dx e3;replace hE:=hE.o;simp only [dT e3,Bool.true_and] at hE;replace hE:=Hy hE;clear e3;by_cases e4:h.vn=g.vn
      ·have qhvn:=dx e4;replace hE:=hE.o;simp only [dT e4,Bool.true_and] at hE;replace hE:=Hy hE;clear e4;by_cases e5:h.vs=g.vs
       ·have qhvs:=lK e5;replace hE:=hE.o;simp only [dT e5,Bool.true_and] at hE;replace hE:=Hy hE;clear e5
        go_enter Tryz.func261,Tryz.ntmps261
        go_wp2_with fail;refine (CS.o).mono ?_;rintro e w1 ⟨rfl,b1⟩;have B1:=Hy (au B0.o b1);replace G1:=Hy (G1.o.keeps b1);replace G2:=Hy (G2.o.keeps b1);have c6:=G1.o.cell 6;have c7:=G1.o.cell 7;have c8:=G1.o.cell 8;have c9:=G1.o.cell 9;have c10:=G1.o.cell 10;simp only [sz2,sz3,sz4] at c6 c7 c8 c9 c10;have d6:=G2.o.cell 6;have d7:=G2.o.cell 7;have d8:=G2.o.cell 8;have d9:=G2.o.cell 9;have d10:=G2.o.cell 10;simp only [sz2,sz3,sz4] at d6 d7 d8 d9 d10;clear b1 CS;have hu:decide (h.un=g.un)=un.jW h.un g.un:=rfl;replace hE:=hE.o;rw [hu] at hE;replace hE:=Hy hE;clear hu;generalize un.jW h.un g.un=u at *;cases u
        ·replace hE:=hE.o;simp only [Bool.false_and] at hE;replace hE:=Hy hE;go_wp2_with fail;go_ret;exact aG (by rw [hE.o]) B1.o
        replace hE:=hE.o;simp only [Bool.true_and] at hE;replace hE:=Hy hE;by_cases e0:h.pa=g.pa
        ·have qhpa:=dx e0;replace hE:=hE.o;simp only [dT e0,Bool.true_and] at hE;replace hE:=Hy hE;clear e0;by_cases e1:h.wk=g.wk
         ·have qhwk:=dx e1;replace hE:=hE.o;simp only [dT e1,Bool.true_and] at hE;replace hE:=Hy hE;clear e1;by_cases e2:h.ws=g.ws
          ·have qhws:=dx e2;replace hE:=hE.o;simp only [dT e2] at hE;replace hE:=Hy hE;clear e2;go_wp2_with fail;go_ret;exact aG (by rw [hE.o]) B1.o
          have qhws:=bW e2;replace hE:=hE.o;simp only [dF e2] at hE;replace hE:=Hy hE;clear e2;go_wp2_with fail;go_ret;exact aG (by rw [hE.o]) B1.o
         have qhwk:=bW e1;replace hE:=hE.o;simp only [dF e1,Bool.false_and] at hE;replace hE:=Hy hE;clear e1;go_wp2_with fail;go_ret;exact aG (by rw [hE.o]) B1.o
        have qhpa:=bW e0;replace hE:=hE.o;simp only [dF e0,Bool.false_and] at hE;replace hE:=Hy hE;clear e0;go_wp2_with fail;go_ret;exact aG (by rw [hE.o]) B1.o
       have qhvs:=lJ e5;replace hE:=hE.o;simp only [dF e5,Bool.false_and] at hE;replace hE:=Hy hE;clear e5
       go_enter Tryz.func261,Tryz.ntmps261
       go_wp2_with fail;go_ret;exact aG (by rw [hE.o]) B0.o
      have qhvn:=bW e4;replace hE:=hE.o;simp only [dF e4,Bool.false_and] at hE;replace hE:=Hy hE;clear e4
      go_enter Tryz.func261,Tryz.ntmps261
      go_wp2_with fail;go_ret;exact aG (by rw [hE.o]) B0.o
     have qhvk:=bW e3;replace hE:=hE.o;simp only [dF e3,Bool.false_and] at hE;replace hE:=Hy hE;clear e3
     go_enter Tryz.func261,Tryz.ntmps261
     go_wp2_with fail;go_ret;exact aG (by rw [hE.o]) B0.o
    have qhtb:=lJ e2;replace hE:=hE.o;simp only [dF e2,Bool.false_and] at hE;replace hE:=Hy hE;clear e2
    go_enter Tryz.func261,Tryz.ntmps261
    go_wp2_with fail;go_ret;exact aG (by rw [hE.o]) B0.o
   have qhnm:=lJ e1;replace hE:=hE.o;simp only [dF e1,Bool.false_and] at hE;replace hE:=Hy hE;clear e1
   go_enter Tryz.func261,Tryz.ntmps261
   go_wp2_with fail;go_ret;exact aG (by rw [hE.o]) B0.o
  have qhop:=lJ e0;replace hE:=hE.o;simp only [dF e0,Bool.false_and] at hE;replace hE:=Hy hE;clear e0
  go_enter Tryz.func261,Tryz.ntmps261
  go_wp2_with fail;go_ret;exact aG (by rw [hE.o]) B0.o
 have qn:=bW hk;replace hE:=hE.o;simp only [dF hk,Bool.false_and] at hE;replace hE:=Hy hE;clear hk
 go_enter Tryz.func261,Tryz.ntmps261
 go_wp2_with fail;go_ret;exact aG (by rw [hE.o]) B0.o
structure _root_.Go.Proofs.YtbahfelnbofjjaaGreatDoor.Hd.sz (h:Hd):Prop where
 op:h.op.size≤140737488355328
 nm:h.nm.size≤140737488355328
 tb:h.tb.size≤140737488355328
 vs:h.vs.size≤140737488355328
def gI (k:Int) (n:Nat) (h:Hd):Bool:=name h.nm && dw k n h { h0 with nm:=h.nm }
theorem lQ (k:Int) (h:Hd) (n:Nat) (ua aa:Option Addr) (uc ac:Nat) (w:World) (hs:h.sz) (hU:un.Sl w ua h.un.length uc h.un) (T:Tabs w) :
    Calls Tryz.prog 262 #[.agg (exC h n ua uc aa ac),.int .i64 k] w (Bl (gI k n h) w):=by
 have bb:=aj (b0 w) (.cells (exC h n ua uc aa ac) 29);have B0:=Hy bb;have G:=Hy (Blk.new w 29 (exC h n ua uc aa ac));have T0:=Hy (T.stays bb);have S0:=Hy (hU.keeps bb);have HZ:=Hy hs;clear hU T bb hs;have CH:=Hy (fun W S=>(show Calls Tryz.prog 261 #[.agg #[.int .i64 h.k,.string h.op,.string h.nm,.string h.tb,.int .i64 h.vk,.int .i64 h.vn,.string h.vs,.slice ua h.un.length uc,.int .i64 h.pa,.int .i64 h.wk,.int .i64 h.ws,.slice aa n ac],.agg #[.int .i64 0,.string ⟨#[]⟩,.string h.nm,.string ⟨#[]⟩,.int .i64 0,.int .i64 0,.string ⟨#[]⟩,.slice none 0 0,.int .i64 0,.int .i64 0,.int .i64 0,.slice none 0 0],.int .i64 k] W (Bl (dw k n h { h0 with nm:=h.nm }) W) from fI k h { h0 with nm:=h.nm } n 0 ua none aa none uc 0 ac 0 W S (un.Sl.nil _)));have CN:=Hy (fun W T=>iD h.nm HZ.o.nm W T);have hE:gI k n h=gI k n h:=rfl
 conv at hE=>rhs;unfold gI
 replace hE:=Hy hE;unfold exC at *;generalize name h.nm=m at *;generalize dw k n h { h0 with nm:=h.nm } = r at *
 go_enter Tryz.func262,Tryz.ntmps262
 go_wp2_with fail;refine (CN.o _ T0.o).mono ?_;rintro e w1 ⟨rfl,b1⟩;have B1:=Hy (au B0.o b1);replace S0:=Hy (S0.o.keeps b1);replace G:=Hy (G.o.keeps b1);have c2:=G.o.cell 2;simp only [sz2,sz3,sz4] at c2;clear b1 CN;cases m
 ·go_wp2_with fail;go_ret;exact aG (by rw [hE.o];try rfl) B1.o
 go_wp2_with (first | (refine bg aF Tryz.underlying29 rfl (.tmp 2) rfl rfl _ _ _ rfl G.o rfl ?_) | (refine aH aF Tryz.underlying29 rfl (.tmp 2) rfl rfl _ _ _ rfl G.o rfl ?_));refine (CH.o _ S0.o).mono ?_;rintro e w2 ⟨rfl,b2⟩;have B2:=Hy (au B1.o b2);clear b2 CH;go_wp2_with fail;go_ret;exact aG (by rw [hE.o];try rfl) B2.o
theorem GI (p:Int) (h:Hd) (n:Nat) (ua aa:Option Addr) (uc ac:Nat) (w:World) (hs:h.sz) (hU:un.Sl w ua h.un.length uc h.un) (T:Tabs w) :
    Calls Tryz.prog 208 #[.int .i64 p,.agg (exC h n ua uc aa ac)] w (Bl (decide (p=1) && gI 0 n h) w):=by
 have bb:=aj (b0 w) (.cells (exC h n ua uc aa ac) 29);have B0:=Hy bb;have G:=Hy (Blk.new w 29 (exC h n ua uc aa ac));have T0:=Hy (T.stays bb);have S0:=Hy (hU.keeps bb);have HZ:=Hy hs;clear hU T bb hs;have C:=Hy (lQ 0 h n ua aa uc ac _ HZ.o S0.o T0.o);obtain ⟨r,hr⟩:∃ r,r=(decide (p=1) && gI 0 n h):=⟨_,rfl⟩;rw [← hr];replace hr:=Hy hr;unfold exC at *;generalize gI 0 n h=m at *;by_cases hp:p=1
 ·have q:=dx hp;replace hr:=Hy (hr.o.trans (by rw [dT hp,Bool.true_and]));clear hp
  go_enter Tryz.func208,Tryz.ntmps208
  go_wp2_with fail;refine (C.o).mono ?_;rintro e w1 ⟨rfl,b1⟩;have B1:=Hy (au B0.o b1);clear b1 C;go_wp2_with fail;go_ret;exact aG hr.o.symm B1.o
 have q:=bW hp;replace hr:=Hy (hr.o.trans (by rw [dF hp,Bool.false_and]));clear hp C
 go_enter Tryz.func208,Tryz.ntmps208
 go_wp2_with fail;go_ret;exact aG hr.o.symm B0.o
theorem Ap (p:Int) (h:Hd) (n:Nat) (ua aa:Option Addr) (uc ac:Nat) (w:World) (hs:h.sz) (hU:un.Sl w ua h.un.length uc h.un) (T:Tabs w) :
    Calls Tryz.prog 209 #[.int .i64 p,.agg (exC h n ua uc aa ac)] w (Bl (decide (p=0) && gI 0 n h) w):=by
 have bb:=aj (b0 w) (.cells (exC h n ua uc aa ac) 29);have B0:=Hy bb;have G:=Hy (Blk.new w 29 (exC h n ua uc aa ac));have T0:=Hy (T.stays bb);have S0:=Hy (hU.keeps bb);have HZ:=Hy hs;clear hU T bb hs;have C:=Hy (lQ 0 h n ua aa uc ac _ HZ.o S0.o T0.o);obtain ⟨r,hr⟩:∃ r,r=(decide (p=0) && gI 0 n h):=⟨_,rfl⟩;rw [← hr];replace hr:=Hy hr;unfold exC at *;generalize gI 0 n h=m at *;by_cases hp:p=0
 ·have q:=dx hp;replace hr:=Hy (hr.o.trans (by rw [dT hp,Bool.true_and]));clear hp
  go_enter Tryz.func209,Tryz.ntmps209
  go_wp2_with fail;refine (C.o).mono ?_;rintro e w1 ⟨rfl,b1⟩;have B1:=Hy (au B0.o b1);clear b1 C;go_wp2_with fail;go_ret;exact aG hr.o.symm B1.o
 have q:=bW hp;replace hr:=Hy (hr.o.trans (by rw [dF hp,Bool.false_and]));clear hp C
 go_enter Tryz.func209,Tryz.ntmps209
 go_wp2_with fail;go_ret;exact aG hr.o.symm B0.o
theorem Dm (p:Int) (h:Hd) (n:Nat) (ua aa:Option Addr) (uc ac:Nat) (w:World) (hs:h.sz) (hU:un.Sl w ua h.un.length uc h.un) (T:Tabs w) :
    Calls Tryz.prog 210 #[.int .i64 p,.agg (exC h n ua uc aa ac)] w (Bl (decide (p=0) && gI 1 n h) w):=by
 have bb:=aj (b0 w) (.cells (exC h n ua uc aa ac) 29);have B0:=Hy bb;have G:=Hy (Blk.new w 29 (exC h n ua uc aa ac));have T0:=Hy (T.stays bb);have S0:=Hy (hU.keeps bb);have HZ:=Hy hs;clear hU T bb hs;have C:=Hy (lQ 1 h n ua aa uc ac _ HZ.o S0.o T0.o);obtain ⟨r,hr⟩:∃ r,r=(decide (p=0) && gI 1 n h):=⟨_,rfl⟩;rw [← hr];replace hr:=Hy hr;unfold exC at *;generalize gI 1 n h=m at *;by_cases hp:p=0
 ·have q:=dx hp;replace hr:=Hy (hr.o.trans (by rw [dT hp,Bool.true_and]));clear hp
  go_enter Tryz.func210,Tryz.ntmps210
  go_wp2_with fail;refine (C.o).mono ?_;rintro e w1 ⟨rfl,b1⟩;have B1:=Hy (au B0.o b1);clear b1 C;go_wp2_with fail;go_ret;exact aG hr.o.symm B1.o
 have q:=bW hp;replace hr:=Hy (hr.o.trans (by rw [dF hp,Bool.false_and]));clear hp C
 go_enter Tryz.func210,Tryz.ntmps210
 go_wp2_with fail;go_ret;exact aG hr.o.symm B0.o
theorem DX (p:Int) (h:Hd) (n:Nat) (ua aa:Option Addr) (uc ac:Nat) (w:World) (hs:h.sz) (hU:un.Sl w ua h.un.length uc h.un) (T:Tabs w) :
    Calls Tryz.prog 214 #[.int .i64 p,.agg (exC h n ua uc aa ac)] w (Bl (dw 3 n h h0) w):=by
 have bb:=aj (b0 w) (.cells (exC h n ua uc aa ac) 29);have B0:=Hy bb;have G:=Hy (Blk.new w 29 (exC h n ua uc aa ac));have T0:=Hy (T.stays bb);have S0:=Hy (hU.keeps bb);have HZ:=Hy hs;clear hU T bb hs;have CH:=Hy (fun W S=>(show Calls Tryz.prog 261 #[.agg #[.int .i64 h.k,.string h.op,.string h.nm,.string h.tb,.int .i64 h.vk,.int .i64 h.vn,.string h.vs,.slice ua h.un.length uc,.int .i64 h.pa,.int .i64 h.wk,.int .i64 h.ws,.slice aa n ac],.agg #[.int .i64 0,.string ⟨#[]⟩,.string ⟨#[]⟩,.string ⟨#[]⟩,.int .i64 0,.int .i64 0,.string ⟨#[]⟩,.slice none 0 0,.int .i64 0,.int .i64 0,.int .i64 0,.slice none 0 0],.int .i64 3] W (Bl (dw 3 n h h0) W) from fI 3 h h0 n 0 ua none aa none uc 0 ac 0 W S (un.Sl.nil _)));unfold exC at *;generalize dw 3 n h h0=m at *
 go_enter Tryz.func214,Tryz.ntmps214
 go_wp2_with fail;refine (CH.o _ S0.o).mono ?_;rintro e w1 ⟨rfl,b1⟩;have B1:=Hy (au B0.o b1);clear b1 CH;go_wp2_with fail;go_ret;exact aG rfl B1.o
theorem zy (p:Int) (h:Hd) (n:Nat) (ua aa:Option Addr) (uc ac:Nat) (w:World) (hs:h.sz) (hU:un.Sl w ua h.un.length uc h.un) (T:Tabs w) :
    Calls Tryz.prog 215 #[.int .i64 p,.agg (exC h n ua uc aa ac)] w (Bl (dw 2 n h h0) w):=by
 have bb:=aj (b0 w) (.cells (exC h n ua uc aa ac) 29);have B0:=Hy bb;have G:=Hy (Blk.new w 29 (exC h n ua uc aa ac));have T0:=Hy (T.stays bb);have S0:=Hy (hU.keeps bb);have HZ:=Hy hs;clear hU T bb hs;have CH:=Hy (fun W S=>(show Calls Tryz.prog 261 #[.agg #[.int .i64 h.k,.string h.op,.string h.nm,.string h.tb,.int .i64 h.vk,.int .i64 h.vn,.string h.vs,.slice ua h.un.length uc,.int .i64 h.pa,.int .i64 h.wk,.int .i64 h.ws,.slice aa n ac],.agg #[.int .i64 0,.string ⟨#[]⟩,.string ⟨#[]⟩,.string ⟨#[]⟩,.int .i64 0,.int .i64 0,.string ⟨#[]⟩,.slice none 0 0,.int .i64 0,.int .i64 0,.int .i64 0,.slice none 0 0],.int .i64 2] W (Bl (dw 2 n h h0) W) from fI 2 h h0 n 0 ua none aa none uc 0 ac 0 W S (un.Sl.nil _)));unfold exC at *;generalize dw 2 n h h0=m at *
 go_enter Tryz.func215,Tryz.ntmps215
 go_wp2_with fail;refine (CH.o _ S0.o).mono ?_;rintro e w1 ⟨rfl,b1⟩;have B1:=Hy (au B0.o b1);clear b1 CH;go_wp2_with fail;go_ret;exact aG rfl B1.o
theorem j3 (p:Int) (h:Hd) (n:Nat) (ua aa:Option Addr) (uc ac:Nat) (w:World) (hs:h.sz) (hU:un.Sl w ua h.un.length uc h.un) (T:Tabs w) :
    Calls Tryz.prog 212 #[.int .i64 p,.agg (exC h n ua uc aa ac)] w (Bl (mY h.op && dw 1 n h { h0 with op:=h.op }) w):=by
 have bb:=aj (b0 w) (.cells (exC h n ua uc aa ac) 29);have B0:=Hy bb;have G:=Hy (Blk.new w 29 (exC h n ua uc aa ac));have T0:=Hy (T.stays bb);have S0:=Hy (hU.keeps bb);have HZ:=Hy hs;clear hU T bb hs;have CH:=Hy (fun W S=>(show Calls Tryz.prog 261 #[.agg #[.int .i64 h.k,.string h.op,.string h.nm,.string h.tb,.int .i64 h.vk,.int .i64 h.vn,.string h.vs,.slice ua h.un.length uc,.int .i64 h.pa,.int .i64 h.wk,.int .i64 h.ws,.slice aa n ac],.agg #[.int .i64 0,.string h.op,.string ⟨#[]⟩,.string ⟨#[]⟩,.int .i64 0,.int .i64 0,.string ⟨#[]⟩,.slice none 0 0,.int .i64 0,.int .i64 0,.int .i64 0,.slice none 0 0],.int .i64 1] W (Bl (dw 1 n h { h0 with op:=h.op }) W) from fI 1 h { h0 with op:=h.op } n 0 ua none aa none uc 0 ac 0 W S (un.Sl.nil _)));obtain ⟨r,hr⟩:∃ r,r=(mY h.op && dw 1 n h { h0 with op:=h.op }):=⟨_,rfl⟩;rw [← hr];replace hr:=Hy hr;unfold exC at *;generalize dw 1 n h { h0 with op:=h.op } = m at *
 go_enter Tryz.func212,Tryz.ntmps212
 go_wp2_with fail
 all_goals first
   | (exfalso;simp_all;done)
   | (refine (CH.o _ S0.o).mono ?_;rintro e w1 ⟨rfl,b1⟩;have B1:=Hy (au B0.o b1);clear b1 CH;go_wp2_with fail;go_ret;refine aG ?_ B1.o;rw [hr.o,show mY h.op=true by (simp only [eqL] at *;unfold mY;simp_all)];rfl)
   | (go_ret;refine aG ?_ B0.o;rw [hr.o,show mY h.op=false by (simp only [eqL] at *;unfold mY;simp_all)];rfl)
theorem fG (p:Int) (h:Hd) (n:Nat) (ua aa:Option Addr) (uc ac:Nat) (w:World) (hs:h.sz) (hU:un.Sl w ua h.un.length uc h.un) (T:Tabs w) :
    Calls Tryz.prog 213 #[.int .i64 p,.agg (exC h n ua uc aa ac)] w (Bl (nP h.op && dw 2 n h { h0 with op:=h.op }) w):=by
 have bb:=aj (b0 w) (.cells (exC h n ua uc aa ac) 29);have B0:=Hy bb;have G:=Hy (Blk.new w 29 (exC h n ua uc aa ac));have T0:=Hy (T.stays bb);have S0:=Hy (hU.keeps bb);have HZ:=Hy hs;clear hU T bb hs;have CH:=Hy (fun W S=>(show Calls Tryz.prog 261 #[.agg #[.int .i64 h.k,.string h.op,.string h.nm,.string h.tb,.int .i64 h.vk,.int .i64 h.vn,.string h.vs,.slice ua h.un.length uc,.int .i64 h.pa,.int .i64 h.wk,.int .i64 h.ws,.slice aa n ac],.agg #[.int .i64 0,.string h.op,.string ⟨#[]⟩,.string ⟨#[]⟩,.int .i64 0,.int .i64 0,.string ⟨#[]⟩,.slice none 0 0,.int .i64 0,.int .i64 0,.int .i64 0,.slice none 0 0],.int .i64 2] W (Bl (dw 2 n h { h0 with op:=h.op }) W) from fI 2 h { h0 with op:=h.op } n 0 ua none aa none uc 0 ac 0 W S (un.Sl.nil _)));obtain ⟨r,hr⟩:∃ r,r=(nP h.op && dw 2 n h { h0 with op:=h.op }):=⟨_,rfl⟩;rw [← hr];replace hr:=Hy hr;unfold exC at *;generalize dw 2 n h { h0 with op:=h.op } = m at *
 go_enter Tryz.func213,Tryz.ntmps213
 go_wp2_with fail
 all_goals first
   | (exfalso;simp_all;done)
   | (refine (CH.o _ S0.o).mono ?_;rintro e w1 ⟨rfl,b1⟩;have B1:=Hy (au B0.o b1);clear b1 CH;go_wp2_with fail;go_ret;refine aG ?_ B1.o;rw [hr.o,show nP h.op=true by (simp only [eqL] at *;unfold nP;simp_all)];rfl)
   | (go_ret;refine aG ?_ B0.o;rw [hr.o,show nP h.op=false by (simp only [eqL] at *;unfold nP;simp_all)];rfl)
theorem Ah (op:ByteArray) (p:Int) (w:World):Calls Tryz.prog 263 #[.string op,.int .i64 p] w (Bl (gG op p) w):=by
 go_enter Tryz.func263,Tryz.ntmps263
 go_wp2_with fail
 all_goals first
   | (exfalso;simp_all;done)
   | (go_ret;refine aG ?_ (b0 w);simp only [eqL,eqI] at *;unfold gG;simp_all;done)
   | (go_ret;refine aG ?_ (b0 w);simp only [eqL] at *;unfold gG;simp_all;omega)
theorem yV (k n:Int) (w:World):Calls Tryz.prog 264 #[.agg #[.int .i64 k,.int .i64 n]] w (Bl (gZ k n) w):=by
 go_enter Tryz.func264,Tryz.ntmps264
 go_wp2_with fail
 all_goals first
   | (exfalso;simp_all;done)
   | (go_ret;refine aG ?_ (aj (b0 w) _);simp only [eqI] at *;unfold gZ;simp_all;done)
   | (go_ret;refine aG ?_ (aj (b0 w) _);simp only [eqI] at *;unfold gZ;simp_all;omega)
theorem Du (h:Hd) (n:Nat) (ua aa:Option Addr) (uc ac:Nat) (w:World):Calls Tryz.prog 265 #[.agg (exC h n ua uc aa ac)] w (Bl (bU h) w):=by
 unfold exC;by_cases h1:h.k=1
 ·have q1:=dx h1;by_cases h2:h.vk=1
  ·have q2:=dx h2;by_cases h3:h.vn=1
   ·have q3:=dx h3;by_cases h4:h.vs=.empty
    ·have q4:h.vs.toList.isEmpty=true:=by rw [eqE,dT h4]
     have hr:=Hy (show bU h=true by unfold bU;simp [h1,h2,h3,h4]);clear h1 h2 h3 h4
     go_enter Tryz.func265,Tryz.ntmps265
     go_wp2_with fail;go_ret;exact aG hr.o.symm (aj (b0 w) _)
    have q4:h.vs.toList.isEmpty=false:=by rw [eqE,dF h4]
    have hr:=Hy (show bU h=false by unfold bU;simp [h4]);clear h1 h2 h3 h4
    go_enter Tryz.func265,Tryz.ntmps265
    go_wp2_with fail;go_ret;exact aG hr.o.symm (aj (b0 w) _)
   have q3:=bW h3;have hr:=Hy (show bU h=false by unfold bU;simp [h3]);clear h1 h2 h3
   go_enter Tryz.func265,Tryz.ntmps265
   go_wp2_with fail;go_ret;exact aG hr.o.symm (aj (b0 w) _)
  have q2:=bW h2;have hr:=Hy (show bU h=false by unfold bU;simp [h2]);clear h1 h2
  go_enter Tryz.func265,Tryz.ntmps265
  go_wp2_with fail;go_ret;exact aG hr.o.symm (aj (b0 w) _)
 have q1:=bW h1;have hr:=Hy (show bU h=false by unfold bU;simp [h1]);clear h1
 go_enter Tryz.func265,Tryz.ntmps265
 go_wp2_with fail;go_ret;exact aG hr.o.symm (aj (b0 w) _)
theorem pY (h:Hd) (n:Nat) (ua aa:Option Addr) (uc ac:Nat) (w:World):Calls Tryz.prog 260 #[.agg (exC h n ua uc aa ac)] w fun e w' => e=.returned (.agg (tyC ⟨h.vk,h.un,h.nm⟩ ua uc))∧Below w.heap.size w w':=by
 unfold exC
 go_enter Tryz.func260,Tryz.ntmps260
 go_wp2_with fail;exact bG pQ Tryz.underlying31 rfl Tryz.results260 _ _ _ _ (tyC ⟨h.vk,h.un,h.nm⟩ ua uc) rfl (eO w _ _ _ _).2 rfl ⟨rfl,bX w _ _⟩
def uw (n:Nat) (h:Hd):Bool:=(decide (ck ⟨h.vk,h.vn,h.vs⟩=0) && decide (0≤h.vn)) && (decide (tyE ⟨h.vk,h.un,h.nm⟩=0) && dw 0 n h { h0 with nm:=h.nm,vk:=h.vk,vn:=h.vn,vs:=h.vs,un:=h.un })
theorem Af (p:Int) (h:Hd) (n:Nat) (ua aa:Option Addr) (uc ac:Nat) (w:World) (hs:h.sz) (hU:un.Sl w ua h.un.length uc h.un) (T:Tabs w) :
    Calls Tryz.prog 207 #[.int .i64 p,.agg (exC h n ua uc aa ac)] w (Bl (uw n h) w):=by
 have bb:=aj (b0 w) (.cells (exC h n ua uc aa ac) 29);have B0:=Hy bb;have G:=Hy (Blk.new w 29 (exC h n ua uc aa ac));have T0:=Hy (T.stays bb);have S0:=Hy (hU.keeps bb);have HZ:=Hy hs;clear hU T bb hs;have CH:=Hy (fun W S=>(show Calls Tryz.prog 261 #[.agg #[.int .i64 h.k,.string h.op,.string h.nm,.string h.tb,.int .i64 h.vk,.int .i64 h.vn,.string h.vs,.slice ua h.un.length uc,.int .i64 h.pa,.int .i64 h.wk,.int .i64 h.ws,.slice aa n ac],.agg #[.int .i64 0,.string ⟨#[]⟩,.string h.nm,.string ⟨#[]⟩,.int .i64 h.vk,.int .i64 h.vn,.string h.vs,.slice ua h.un.length uc,.int .i64 0,.int .i64 0,.int .i64 0,.slice none 0 0],.int .i64 0] W (Bl (dw 0 n h { h0 with nm:=h.nm,vk:=h.vk,vn:=h.vn,vs:=h.vs,un:=h.un }) W) from fI 0 h { h0 with nm:=h.nm,vk:=h.vk,vn:=h.vn,vs:=h.vs,un:=h.un } n 0 ua ua aa none uc uc ac 0 W S (S)));have CC:=Hy (fun W=>dX h.vk h.vn h.vs HZ.o.vs W);have CL:=Hy (fun W=>pY h n ua aa uc ac W);have CT:=Hy (fun W S T=>xL ⟨h.vk,h.un,h.nm⟩ ua uc W S HZ.o.nm T);have hE:uw n h=uw n h:=rfl
 conv at hE=>rhs;unfold uw
 replace hE:=Hy hE;unfold exC at *;generalize dw 0 n h { h0 with nm:=h.nm,vk:=h.vk,vn:=h.vn,vs:=h.vs,un:=h.un } = r at *;generalize tyE ⟨h.vk,h.un,h.nm⟩=t at *;generalize ck ⟨h.vk,h.vn,h.vs⟩=c at *
 go_enter Tryz.func207,Tryz.ntmps207
 go_wp2_with fail;refine (CC.o _).mono ?_;rintro e w1 ⟨rfl,b1⟩;have B1:=Hy (au B0.o b1);replace S0:=Hy (S0.o.keeps b1);replace T0:=Hy (T0.o.stays b1);replace G:=Hy (G.o.keeps b1);have c0:=G.o.cell 0;have c1:=G.o.cell 1;have c2:=G.o.cell 2;have c3:=G.o.cell 3;have c4:=G.o.cell 4;have c5:=G.o.cell 5;have c6:=G.o.cell 6;have c7:=G.o.cell 7;have c8:=G.o.cell 8;have c9:=G.o.cell 9;have c10:=G.o.cell 10;have c11:=G.o.cell 11;simp only [sz2,sz3,sz4] at c0 c1 c2 c3 c4 c5 c6 c7 c8 c9 c10 c11;clear b1 CC;by_cases hc:c=0
 ·have qc:=dx hc;replace hE:=hE.o;rw [dT hc,Bool.true_and] at hE;replace hE:=Hy hE;clear hc;by_cases hn:0≤h.vn
  ·have qn:decide (0≤h.vn)=true:=dT hn;replace hE:=hE.o;rw [dT hn,Bool.true_and] at hE;replace hE:=Hy hE;go_wp2_with (first | (refine bg aF Tryz.underlying29 rfl (.tmp 3) rfl rfl _ _ _ rfl G.o rfl ?_) | (refine aH aF Tryz.underlying29 rfl (.tmp 3) rfl rfl _ _ _ rfl G.o rfl ?_));refine (CL.o _).mono ?_;rintro e w2 ⟨rfl,b2⟩;have B2:=Hy (au B1.o b2);replace S0:=Hy (S0.o.keeps b2);replace T0:=Hy (T0.o.stays b2);replace G:=Hy (G.o.keeps b2);clear b2 CL;go_wp2_with fail;refine (CT.o _ S0.o T0.o).mono ?_;rintro e w3 ⟨rfl,b3⟩;have B3:=Hy (au B2.o b3);replace S0:=Hy (S0.o.keeps b3);replace G:=Hy (G.o.keeps b3);have d0:=G.o.cell 0;have d1:=G.o.cell 1;have d2:=G.o.cell 2;have d3:=G.o.cell 3;have d4:=G.o.cell 4;have d5:=G.o.cell 5;have d6:=G.o.cell 6;have d7:=G.o.cell 7;have d8:=G.o.cell 8;have d9:=G.o.cell 9;have d10:=G.o.cell 10;have d11:=G.o.cell 11;simp only [sz2,sz3,sz4] at d0 d1 d2 d3 d4 d5 d6 d7 d8 d9 d10 d11;clear b3 CT;by_cases ht:t=0
   ·have qt:=dx ht;replace hE:=hE.o;rw [dT ht,Bool.true_and] at hE;replace hE:=Hy hE;clear ht;have RV:=Hy (kE G.o 4 [.int .i64 h.vk,.int .i64 h.vn,.string h.vs] rfl);go_wp2_with (first | (refine bg aF Tryz.underlying29 rfl (.tmp 3) rfl rfl _ _ _ rfl G.o rfl ?_) | (refine nQ J4 Tryz.underlying23 rfl (.tmp 25) rfl rfl w.heap.size 4 #[.int .i64 h.vk,.int .i64 h.vn,.string h.vs] rfl RV.o rfl ?_));refine (CH.o _ S0.o).mono ?_;rintro e w4 ⟨rfl,b4⟩;have B4:=Hy (au B3.o b4);clear b4 CH;go_wp2_with fail;go_ret;exact aG (by rw [hE.o];try rfl) B4.o
   have qt:=bW ht;replace hE:=hE.o;rw [dF ht,Bool.false_and] at hE;replace hE:=Hy hE;clear ht;go_wp2_with fail;go_ret;exact aG (by rw [hE.o];try rfl) B3.o
  have qn:decide (0≤h.vn)=false:=dF hn;replace hE:=hE.o;rw [dF hn,Bool.false_and] at hE;replace hE:=Hy hE;go_wp2_with fail;go_ret;exact aG (by rw [hE.o];try rfl) B1.o
 have qc:=bW hc;replace hE:=hE.o;rw [dF hc,Bool.false_and,Bool.false_and] at hE;replace hE:=Hy hE;clear hc;go_wp2_with fail;go_ret;exact aG (by rw [hE.o];try rfl) B1.o
def vg (p:Int) (n:Nat) (h g:Hd):Bool:=decide (p=0) && (name h.tb && (gG h.op h.pa && (gZ h.wk h.ws && (dw 2 n h { h0 with op:=h.op,tb:=h.tb,pa:=h.pa,wk:=h.wk,ws:=h.ws } && (!decide (h.op=⟨#[99,111,117,110,116]⟩) || bU g)))))
theorem wN (p:Int) (h:Hd) (n:Nat) (ua aa:Option Addr) (uc ac:Nat) (w:World) (hs:h.sz) (hU:un.Sl w ua h.un.length uc h.un) (F:Fo) (hA:Fs w aa n ac F) (g:Hd) (hg:(F.nth 0).h=g) (T:Tabs w) :
    Calls Tryz.prog 211 #[.int .i64 p,.agg (exC h n ua uc aa ac)] w (Bl (vg p n h g) w):=by
 have bb:=aj (b0 w) (.cells (exC h n ua uc aa ac) 29);have B0:=Hy bb;have G:=Hy (Blk.new w 29 (exC h n ua uc aa ac));have T0:=Hy (T.stays bb);have S0:=Hy (hU.keeps bb);have HZ:=Hy hs;clear hU T bb hs;have A0:=Hy (Fs.keeps hA B0.o);clear hA;have CH:=Hy (fun W S=>(show Calls Tryz.prog 261 #[.agg #[.int .i64 h.k,.string h.op,.string h.nm,.string h.tb,.int .i64 h.vk,.int .i64 h.vn,.string h.vs,.slice ua h.un.length uc,.int .i64 h.pa,.int .i64 h.wk,.int .i64 h.ws,.slice aa n ac],.agg #[.int .i64 0,.string h.op,.string ⟨#[]⟩,.string h.tb,.int .i64 0,.int .i64 0,.string ⟨#[]⟩,.slice none 0 0,.int .i64 h.pa,.int .i64 h.wk,.int .i64 h.ws,.slice none 0 0],.int .i64 2] W (Bl (dw 2 n h { h0 with op:=h.op,tb:=h.tb,pa:=h.pa,wk:=h.wk,ws:=h.ws }) W) from fI 2 h { h0 with op:=h.op,tb:=h.tb,pa:=h.pa,wk:=h.wk,ws:=h.ws } n 0 ua none aa none uc 0 ac 0 W S (un.Sl.nil _)));have CN:=Hy (fun W T=>iD h.tb HZ.o.tb W T);have CP:=Hy (fun W=>Ah h.op h.pa W);have CW:=Hy (fun W=>yV h.wk h.ws W);have CI:=Hy Du;have hE:vg p n h g=vg p n h g:=rfl
 conv at hE=>rhs;unfold vg
 replace hE:=Hy hE;have h2:dw 2 n h { h0 with op:=h.op,tb:=h.tb,pa:=h.pa,wk:=h.wk,ws:=h.ws } = true→n=2:=fun e=>by unfold dw at e;rw [Bool.and_eq_true,decide_eq_true_eq] at e;exact Int.ofNat.inj e.1
 unfold exC at *;generalize dw 2 n h { h0 with op:=h.op,tb:=h.tb,pa:=h.pa,wk:=h.wk,ws:=h.ws } = r at *;generalize name h.tb=m at *;generalize gG h.op h.pa=pp at *;generalize gZ h.wk h.ws=ww at *;replace h2:=Hy h2;by_cases hp:p=0
 ·have qp:=dx hp;replace hE:=hE.o;rw [dT hp,Bool.true_and] at hE;replace hE:=Hy hE;clear hp
  go_enter Tryz.func211,Tryz.ntmps211
  go_wp2_with fail;refine (CN.o _ T0.o).mono ?_;rintro e w1 ⟨rfl,b1⟩;have B1:=Hy (au B0.o b1);replace S0:=Hy (S0.o.keeps b1);replace A0:=Hy (A0.o.keeps b1);replace G:=Hy (G.o.keeps b1);have c1:=G.o.cell 1;have c3:=G.o.cell 3;have c6:=G.o.cell 6;have c7:=G.o.cell 7;have c8:=G.o.cell 8;have c9:=G.o.cell 9;have c10:=G.o.cell 10;have c11:=G.o.cell 11;simp only [sz2,sz3,sz4] at c1 c3 c6 c7 c8 c9 c10 c11;clear b1 CN;cases m
  ·replace hE:=hE.o;rw [Bool.false_and] at hE;replace hE:=Hy hE;go_wp2_with fail;go_ret;exact aG (by rw [hE.o];try rfl) B1.o
  replace hE:=hE.o;rw [Bool.true_and] at hE;replace hE:=Hy hE;go_wp2_with fail;refine (CP.o _).mono ?_;rintro e w2 ⟨rfl,b2⟩;have B2:=Hy (au B1.o b2);replace S0:=Hy (S0.o.keeps b2);replace A0:=Hy (A0.o.keeps b2);replace G:=Hy (G.o.keeps b2);have d1:=G.o.cell 1;have d3:=G.o.cell 3;have d6:=G.o.cell 6;have d7:=G.o.cell 7;have d8:=G.o.cell 8;have d9:=G.o.cell 9;have d10:=G.o.cell 10;have d11:=G.o.cell 11;simp only [sz2,sz3,sz4] at d1 d3 d6 d7 d8 d9 d10 d11;clear b2 CP;cases pp
  ·replace hE:=hE.o;rw [Bool.false_and] at hE;replace hE:=Hy hE;go_wp2_with fail;go_ret;exact aG (by rw [hE.o];try rfl) B2.o
  replace hE:=hE.o;rw [Bool.true_and] at hE;replace hE:=Hy hE;have RW:=Hy (kE G.o 9 [.int .i64 h.wk,.int .i64 h.ws] rfl);go_wp2_with (first | (refine nQ iQ Tryz.underlying26 rfl (.tmp 20) rfl rfl w.heap.size 9 #[.int .i64 h.wk,.int .i64 h.ws] rfl RW.o rfl ?_));refine (CW.o _).mono ?_;rintro e w3 ⟨rfl,b3⟩;have B3:=Hy (au B2.o b3);replace S0:=Hy (S0.o.keeps b3);replace A0:=Hy (A0.o.keeps b3);replace G:=Hy (G.o.keeps b3);have x1:=G.o.cell 1;have x3:=G.o.cell 3;have x6:=G.o.cell 6;have x7:=G.o.cell 7;have x8:=G.o.cell 8;have x9:=G.o.cell 9;have x10:=G.o.cell 10;have x11:=G.o.cell 11;simp only [sz2,sz3,sz4] at x1 x3 x6 x7 x8 x9 x10 x11;clear b3 CW;cases ww
  ·replace hE:=hE.o;rw [Bool.false_and] at hE;replace hE:=Hy hE;go_wp2_with fail;go_ret;exact aG (by rw [hE.o];try rfl) B3.o
  replace hE:=hE.o;rw [Bool.true_and] at hE;replace hE:=Hy hE;have RW2:=Hy (kE G.o 9 [.int .i64 h.wk,.int .i64 h.ws] rfl);go_wp2_with (first | (refine bg aF Tryz.underlying29 rfl (.tmp 3) rfl rfl _ _ _ rfl G.o rfl ?_) | (refine nQ iQ Tryz.underlying26 rfl (.tmp 32) rfl rfl w.heap.size 9 #[.int .i64 h.wk,.int .i64 h.ws] rfl RW2.o rfl ?_));refine (CH.o _ S0.o).mono ?_;rintro e w4 ⟨rfl,b4⟩;have B4:=Hy (au B3.o b4);replace A0:=Hy (A0.o.keeps b4);replace G:=Hy (G.o.keeps b4);have y1:=G.o.cell 1;have y3:=G.o.cell 3;have y8:=G.o.cell 8;have y11:=G.o.cell 11;simp only [sz2,sz3,sz4] at y1 y3 y8 y11;clear b4 CH;cases r
  ·replace hE:=hE.o;rw [Bool.false_and] at hE;replace hE:=Hy hE;go_wp2_with fail;go_ret;exact aG (by rw [hE.o];try rfl) B4.o
  replace hE:=hE.o;rw [Bool.true_and] at hE;replace hE:=Hy hE;by_cases ho:h.op=⟨#[99,111,117,110,116]⟩
  ·have qo:(h.op.toList==[99,111,117,110,116])=true:=by rw [eqL];exact dT ho
   have qo2:(!h.op.toList==[99,111,117,110,116])=false:=by rw [qo];rfl
   replace hE:=hE.o;rw [dT ho] at hE;replace hE:=Hy hE;replace ho:=Hy ho;have hn2:=h2.o rfl;have hF2:F.len=2:=by have:=A0.o.hn;omega
   subst hn2;obtain ⟨bk,off,va,vc,wa,wc,rfl,R1,E1⟩:=A0.o.at (j:=0) (by omega);replace R1:=Hy R1;clear hF2;have hgx:=Hy hg;clear hg;generalize F.nth 0=y at *;go_wp2_with (first | (refine nQ aF Tryz.underlying29 rfl (.tmp 44) rfl rfl bk off (exC y.h y.ar.len va vc wa wc) rfl (by simpa using R1.o) rfl ?_));refine (CI.o y.h y.ar.len va wa vc wc _).mono ?_;rintro e w5 ⟨rfl,b5⟩;have B5:=Hy (au B4.o b5);clear b5 CI;go_wp2_with fail;go_ret;exact aG (by rw [hE.o,← hgx.o];rfl) B5.o
  have qo:(h.op.toList==[99,111,117,110,116])=false:=by rw [eqL];exact dF ho
  have qo2:(!h.op.toList==[99,111,117,110,116])=true:=by rw [qo];rfl
  replace hE:=hE.o;rw [dF ho] at hE;replace hE:=Hy hE;clear ho;go_wp2_with fail;go_ret;exact aG (by rw [hE.o];try rfl) B4.o
 have qp:=bW hp;replace hE:=hE.o;rw [dF hp,Bool.false_and] at hE;replace hE:=Hy hE;clear hp
 go_enter Tryz.func211,Tryz.ntmps211
 go_wp2_with fail;go_ret;exact aG (by rw [hE.o];try rfl) B0.o
end ch
end Go.Proofs.YtbahfelnbofjjaaGreatDoor
