/-
  The reference's rule of proper form of one node; The reference's rule of one node and that of package checker.
-/
import Derived.Test.YtbahfelnbofjjaaGreatDoorG17
import Derived.Test.YtbahfelnbofjjaaGreatDoorG18
set_option maxRecDepth 100000
set_option maxHeartbeats 16000000
namespace Go.Proofs.YtbahfelnbofjjaaGreatDoor
namespace ch
open Go.RowKit dec
def ow:List ByteArray:=[⟨#[45]⟩,⟨#[110,111,116]⟩,⟨#[110,117,108,108]⟩]
def nmG (h:Hd):Hd:={ h0 with k:=h.k,nm:=h.nm }
def opG (h:Hd):Hd:={ h0 with k:=h.k,op:=h.op }
def sW (h:Hd):Bool:=name h.nm && flR h (nmG h)
def oI (h:Hd):Bool:=flR h (opG h)
def arN (k:Int):Int:=if k=4 then 1 else if k=5 then 2 else if k=6 then 1 else if k=7 then 2 else if k=8 then 3 else if k=9 then 2 else 0
def gF (i:Bool) (h:Hd):Bool :=
 if h.k=1 then oJ h else if h.k=2 then i && sW h else if h.k=3 then !i && sW h else if h.k=4 then !i && sW h else if h.k=5 then !i && mY h
 else if h.k=6 then oI h && (ow.any fun t=>decide (t=h.op)) else if h.k=7 then oI h && (opsL.any fun t=>decide (t=h.op))
 else if h.k=8 then oI h && decide (h.op=.empty) else if h.k=9 then oI h && decide (h.op=.empty) else false
def No (k:Int) (b:Bool) (w:World) (e:Ending) (w':World):Prop:=e=.returned (.tuple #[.int .i64 k,.bool b])∧Below w.heap.size w w'
theorem iw {k k':Int} {b b':Bool} {w w':World} (h:k=k'∧b=b') (hb:Below w.heap.size w w'):No k' b' w (.returned (.tuple #[.int .i64 k,.bool b])) w':=by
 obtain ⟨rfl,rfl⟩:=h;exact ⟨rfl,hb⟩
theorem MI (s:ByteArray):s.toList.isEmpty=decide (s=.empty):=by
 rw [show s.toList.isEmpty=(s.toList==[]) from by cases s.toList <;> rfl];exact eqL s []
theorem IY (i:Bool) (h:Hd) (n:Nat) (ua aa:Option Addr) (uc ac:Nat) (w:World) (hs:h.vs.size≤140737488355328) (hU:un.Sl w ua h.un.length uc h.un):Calls Tryz.prog 121 #[.agg (exC h n ua uc aa ac),.bool i] w (No (arN h.k) (gF i h) w):=by
 have bb:=au (b0 w) (.cells (exC h n ua uc aa ac) 29);have B0:=Hy bb;have G:=Hy (Blk.new w 29 (exC h n ua uc aa ac));have S0:=Hy (hU.keeps bb);have CN:=Hy (fun (W:World)=>mV h.nm W);have CF:=Hy (fun (W:World) (S:un.Sl W ua h.un.length uc h.un)=>(show Calls Tryz.prog 70 #[.agg #[.int .i64 h.k,.string h.op,.string h.nm,.string h.tb,.int .i64 h.vk,.int .i64 h.vn,.string h.vs,.slice ua h.un.length uc,.int .i64 h.pa,.int .i64 h.wk,.int .i64 h.ws,.slice aa n ac],.agg #[.int .i64 h.k,.string ⟨#[]⟩,.string h.nm,.string ⟨#[]⟩,.int .i64 0,.int .i64 0,.string ⟨#[]⟩,.slice none 0 0,.int .i64 0,.int .i64 0,.int .i64 0,.slice none 0 0]] W (Bl (flR h (nmG h)) W) from kF h (nmG h) n 0 ua none aa none uc 0 ac 0 W S (un.Sl.nil W)));have CO:=Hy (fun (W:World) (S:un.Sl W ua h.un.length uc h.un)=>(show Calls Tryz.prog 70 #[.agg #[.int .i64 h.k,.string h.op,.string h.nm,.string h.tb,.int .i64 h.vk,.int .i64 h.vn,.string h.vs,.slice ua h.un.length uc,.int .i64 h.pa,.int .i64 h.wk,.int .i64 h.ws,.slice aa n ac],.agg #[.int .i64 h.k,.string h.op,.string ⟨#[]⟩,.string ⟨#[]⟩,.int .i64 0,.int .i64 0,.string ⟨#[]⟩,.slice none 0 0,.int .i64 0,.int .i64 0,.int .i64 0,.slice none 0 0]] W (Bl (oI h) W) from kF h (opG h) n 0 ua none aa none uc 0 ac 0 W S (un.Sl.nil W)));have CL:=Hy (fun (W:World) (S:un.Sl W ua h.un.length uc h.un)=>(show Calls Tryz.prog 170 #[.agg #[.int .i64 h.k,.string h.op,.string h.nm,.string h.tb,.int .i64 h.vk,.int .i64 h.vn,.string h.vs,.slice ua h.un.length uc,.int .i64 h.pa,.int .i64 h.wk,.int .i64 h.ws,.slice aa n ac]] W (Bl (oJ h) W) from Ak h n ua aa uc ac W hs S));have CA:=Hy (fun (W:World) (S:un.Sl W ua h.un.length uc h.un)=>(show Calls Tryz.prog 171 #[.agg #[.int .i64 h.k,.string h.op,.string h.nm,.string h.tb,.int .i64 h.vk,.int .i64 h.vn,.string h.vs,.slice ua h.un.length uc,.int .i64 h.pa,.int .i64 h.wk,.int .i64 h.ws,.slice aa n ac]] W (Bl (mY h) W) from xq h n ua aa uc ac W S));have C1:=Hy (fun (W:World)=>ze W);have C2:=Hy (fun (a:Option Addr) (W:World) (S:SsV W a opsL)=>(show Calls Tryz.prog 146 #[.string h.op,.slice a 10 10] W (Bl (opsL.any fun t=>decide (t=h.op)) W) from (rG h.op a 10 opsL (by decide) W S).mono fun _ _ hh=>⟨hh.1,hh.2 ▸ b0 W⟩));have C3:=Hy (fun (a:Option Addr) (W:World) (S:SsV W a ow)=>(show Calls Tryz.prog 146 #[.string h.op,.slice a 3 3] W (Bl (ow.any fun t=>decide (t=h.op)) W) from (rG h.op a 3 ow (by decide) W S).mono fun _ _ hh=>⟨hh.1,hh.2 ▸ b0 W⟩));have hN:sW h=(name h.nm && flR h (nmG h)):=rfl;replace hN:=Hy hN;clear hU bb hs;unfold exC at *;generalize name h.nm=N at *;generalize flR h (nmG h)=F at *;generalize hr:oI h=R at *;replace hr:=Hy hr;generalize hm:sW h=M at *;replace hm:=Hy hm;generalize hl:oJ h=L at *;replace hl:=Hy hl;generalize hg:mY h=A at *;replace hg:=Hy hg;generalize ho:(opsL.any fun t=>decide (t=h.op))=O at *;replace ho:=Hy ho;generalize hu:(ow.any fun t=>decide (t=h.op))=U at *;replace hu:=Hy hu
 go_enter Tryz.func121,Tryz.ntmps121
 go_upto_region 1 with fail
 generalize hw0:(w.alloc (.cells #[.int .i64 h.k,.string h.op,.string h.nm,.string h.tb,.int .i64 h.vk,.int .i64 h.vn,.string h.vs,.slice ua h.un.length uc,.int .i64 h.pa,.int .i64 h.wk,.int .i64 h.ws,.slice aa n ac] 29))=w0 at *;clear hw0
 go_cut [6] from 8 to 20 (fun v wx=>v=.bool M∧Hid (Below w0.heap.size w0 wx))
 case first =>
  have c2:=G.o.cell 2;simp only [sz2,sz3,sz4] at c2;go_wp2_with fail;have D0:=Hy (b0 w0);refine (CN.o _).mono ?_;rintro e w1 ⟨rfl,b1⟩;have B1:=Hy (aA D0.o b1);replace G:=Hy (G.o.keeps b1);replace S0:=Hy (S0.o.keeps b1);clear b1;have d0:=G.o.cell 0;have d2:=G.o.cell 2;simp only [sz2,sz3,sz4] at d0 d2;cases N
  ·go_wp2_with fail
   go_meet
   case rel=>exact ⟨congrArg Value.bool (by rw [hN.o];rfl),B1⟩
  go_wp2_with (first | (refine aF aJ Tryz.underlying29 rfl (.tmp 2) rfl rfl _ _ _ rfl G.o rfl ?_) | (refine bC aJ Tryz.underlying29 rfl (.tmp 2) rfl rfl _ _ _ rfl G.o rfl ?_));refine (CF.o _ S0.o).mono ?_;rintro e w2 ⟨rfl,b2⟩;have B2:=Hy (aA B1.o b2);replace G:=Hy (G.o.keeps b2);replace S0:=Hy (S0.o.keeps b2);clear b2;go_wp2_with fail
  go_meet
  case rel=>exact ⟨congrArg Value.bool (by rw [hN.o];rfl),B2⟩
 case rest =>
  obtain ⟨rfl,BW⟩:=hcut;generalize wc=w3 at *;have bw:=BW.o;clear BW hN CN CF;have B3:=Hy (aA B0.o bw);replace G:=Hy (G.o.keeps bw);replace S0:=Hy (S0.o.keeps bw);clear bw;have c0:=G.o.cell 0;have c1:=G.o.cell 1;simp only [sz2,sz3,sz4] at c0 c1;go_wp2_with (first | (refine aF aJ Tryz.underlying29 rfl (.tmp 2) rfl rfl _ _ _ rfl G.o rfl ?_) | (refine bC aJ Tryz.underlying29 rfl (.tmp 2) rfl rfl _ _ _ rfl G.o rfl ?_));refine (CO.o _ S0.o).mono ?_;rintro e w4 ⟨rfl,b4⟩;have B4:=Hy (aA B3.o b4);replace G:=Hy (G.o.keeps b4);replace S0:=Hy (S0.o.keeps b4);clear b4;have c0:=G.o.cell 0;have c1:=G.o.cell 1;simp only [sz2,sz3,sz4] at c0 c1;clear CO;by_cases hk1:h.k=1
  ·have q1:=bB hk1;replace hk1:=Hy hk1;go_wp2_with (first | (refine aF aJ Tryz.underlying29 rfl (.tmp 2) rfl rfl _ _ _ rfl G.o rfl ?_) | (refine bC aJ Tryz.underlying29 rfl (.tmp 2) rfl rfl _ _ _ rfl G.o rfl ?_));refine (CL.o _ S0.o).mono ?_;rintro e w5 ⟨rfl,b5⟩;have B5:=Hy (aA B4.o b5);replace G:=Hy (G.o.keeps b5);replace S0:=Hy (S0.o.keeps b5);clear b5;go_wp2_with fail
   go_ret2
   exact iw (by unfold arN gF;simp [hk1.o,hl.o]) B5.o
  have q1:=bg hk1;replace hk1:=Hy hk1;by_cases hk2:h.k=2
  ·have q2:=bB hk2;replace hk2:=Hy hk2;cases i
   ·go_wp2_with fail
    go_ret2
    exact iw (by unfold arN gF;simp [hk2.o,hm.o]) B4.o
   go_wp2_with fail
   go_ret2
   exact iw (by unfold arN gF;simp [hk2.o,hm.o]) B4.o
  have q2:=bg hk2;replace hk2:=Hy hk2;by_cases hk3:h.k=3
  ·have q3:=bB hk3;replace hk3:=Hy hk3;cases i
   ·go_wp2_with fail
    go_ret2
    exact iw (by unfold arN gF;simp [hk3.o,hm.o]) B4.o
   go_wp2_with fail
   go_ret2
   exact iw (by unfold arN gF;simp [hk3.o,hm.o]) B4.o
  have q3:=bg hk3;replace hk3:=Hy hk3;by_cases hk4:h.k=4
  ·have q4:=bB hk4;replace hk4:=Hy hk4;cases i
   ·go_wp2_with fail
    go_ret2
    exact iw (by unfold arN gF;simp [hk4.o,hm.o]) B4.o
   go_wp2_with fail
   go_ret2
   exact iw (by unfold arN gF;simp [hk4.o,hm.o]) B4.o
  have q4:=bg hk4;replace hk4:=Hy hk4;by_cases hk5:h.k=5
  ·have q5:=bB hk5;replace hk5:=Hy hk5;cases i
   ·go_wp2_with (first | (refine aF aJ Tryz.underlying29 rfl (.tmp 2) rfl rfl _ _ _ rfl G.o rfl ?_) | (refine bC aJ Tryz.underlying29 rfl (.tmp 2) rfl rfl _ _ _ rfl G.o rfl ?_));refine (CA.o _ S0.o).mono ?_;rintro e w5 ⟨rfl,b5⟩;have B5:=Hy (aA B4.o b5);replace G:=Hy (G.o.keeps b5);replace S0:=Hy (S0.o.keeps b5);clear b5;go_wp2_with fail
    go_ret2
    exact iw (by unfold arN gF;simp [hk5.o,hg.o]) B5.o
   go_wp2_with fail
   go_ret2
   exact iw (by unfold arN gF;simp [hk5.o]) B4.o
  have q5:=bg hk5;replace hk5:=Hy hk5;by_cases hk6:h.k=6
  ·have q6:=bB hk6;replace hk6:=Hy hk6;cases R
   ·go_wp2_with fail
    go_ret2
    exact iw (by unfold arN gF;simp [hk6.o,hr.o]) B4.o
   go_wp2_with fail;have bu:=au (b0 w4) (.cells (ow.map Value.string).toArray 9);refine (C3.o _ _ (zX (l:=ow) (Blk.new _ _ _))).mono ?_;rintro e w5 ⟨rfl,b5⟩;have B5:=Hy (aA (aA B4.o bu) b5);clear b5 bu;go_wp2_with fail
   go_ret2
   exact iw (by unfold arN gF;simp [hk6.o,hr.o,hu.o]) B5.o
  have q6:=bg hk6;replace hk6:=Hy hk6;by_cases hk7:h.k=7
  ·have q7:=bB hk7;replace hk7:=Hy hk7
   go_upto_region 17 with fail
   go_cut [4,5] from 72 to 79 (fun va vb wx=>va=.int .i64 2∧vb=.bool (R && O)∧Hid (Below w4.heap.size w4 wx))
   case first =>
    refine wp_region_held_drew (S:=fun w' => Below w4.heap.size w4 w') (by kernel_rfl) (b0 w4).drew (fun hH=>?_);refine ak 0 72 ?_ hH (fun w' hS=>?_) ?_;rotate_left
    ·go_simp;try with_reducible rfl
    simp only [sz0,sz1];refine ak 1 73 ?_ hH (fun w' hS=>?_) ?_;rotate_left
    ·go_simp;try with_reducible rfl
    simp only [sz0,sz1];generalize w4.drew=yy at *;cases R
    ·refine aB (i:=2) (d:=74) rfl (by kernel_rfl) (by kernel_rfl) (by kernel_rfl) rfl (fun _ _ _ h=>h) rfl hH ?_;simp only [sz0,sz1];refine aB (i:=3) (d:=75) rfl (by kernel_rfl) (by kernel_rfl) (by kernel_rfl) rfl (fun _ _ _ h=>h) rfl hH ?_;simp only [sz0,sz1];refine bG (i:=4) rfl (by kernel_rfl) rfl hH ?_;go_simp;refine bG (i:=5) rfl (by kernel_rfl) rfl hH ?_;go_simp;refine ak 6 78 ?_ hH (fun w' hS=>?_) ?_;rotate_left
     ·go_simp;try with_reducible rfl
     simp only [sz0,sz1];refine ak 7 4 ?_ hH (fun w' hS=>?_) ?_;rotate_left
     ·go_simp;try with_reducible rfl
     simp only [sz0,sz1];refine ak 8 5 ?_ hH (fun w' hS=>?_) ?_;rotate_left
     ·go_simp;try with_reducible rfl
     simp only [sz0,sz1];refine wpAnyH_done (by kernel_rfl) ?_ _;go_wp2_with fail
     go_meet
     case rel=>exact ⟨rfl,rfl,Hy hH⟩
    refine ak 2 74 ?_ hH (fun w' hS=>?_) ?_;rotate_left
    ·go_simp;try with_reducible rfl
    simp only [sz0,sz1];refine ak 3 75 ?_ hH (fun w' hS=>?_) ?_;rotate_left
    ·have m1:=(G.o.keeps hS).cell 1;simp only [sz2,sz3,sz4] at m1;go_simp;try with_reducible rfl
    simp only [sz0,sz1];refine aC 4 (fun K hK=>?_);go_simp;refine (C1.o _).mono ?_;rintro e y71 ⟨ag,rfl,sag,b71⟩;skip;refine hK.o _ _ (aA hH b71) (fun hH=>?_);clear hK K;have SA:=Hy sag;clear b71 sag;refine aC 5 (fun K hK=>?_);go_simp;refine (C2.o ag _ SA.o).mono ?_;rintro e y72 ⟨rfl,b72⟩;skip;refine hK.o _ _ (aA hH b72) (fun hH=>?_);clear hK K;replace SA:=Hy (SA.o.keeps b72);clear b72;refine ak 6 78 ?_ hH (fun w' hS=>?_) ?_;rotate_left
    ·go_simp;try with_reducible rfl
    simp only [sz0,sz1];refine ak 7 4 ?_ hH (fun w' hS=>?_) ?_;rotate_left
    ·go_simp;try with_reducible rfl
    simp only [sz0,sz1];refine ak 8 5 ?_ hH (fun w' hS=>?_) ?_;rotate_left
    ·go_simp;try with_reducible rfl
    simp only [sz0,sz1];refine wpAnyH_done (by kernel_rfl) ?_ _;go_wp2_with fail
    go_meet
    case rel=>exact ⟨rfl,rfl,Hy hH⟩
   case rest =>
    obtain ⟨rfl,rfl,BW⟩:=hcut;have Bx:=Hy (aA B4.o BW.o);go_wp2_with fail
    go_ret2
    exact iw (by unfold arN gF;simp [hk7.o,hr.o,ho.o]) Bx.o
  have q7:=bg hk7;replace hk7:=Hy hk7;by_cases hk8:h.k=8
  ·have q8:=bB hk8;replace hk8:=Hy hk8
   go_upto_region 19 with fail
   go_cut [4,5] from 81 to 87 (fun va vb wx=>va=.int .i64 3∧vb=.bool (R && decide (h.op=.empty))∧Hid (Below w4.heap.size w4 wx))
   case first =>
    refine wp_region_held_drew (S:=fun w' => Below w4.heap.size w4 w') (by kernel_rfl) (b0 w4).drew (fun hH=>?_);refine ak 0 81 ?_ hH (fun w' hS=>?_) ?_;rotate_left
    ·go_simp;try with_reducible rfl
    simp only [sz0,sz1];refine ak 1 82 ?_ hH (fun w' hS=>?_) ?_;rotate_left
    ·go_simp;try with_reducible rfl
    simp only [sz0,sz1];generalize w4.drew=yy at *;cases R
    ·refine aB (i:=2) (d:=83) rfl (by kernel_rfl) (by kernel_rfl) (by kernel_rfl) rfl (fun _ _ _ h=>h) rfl hH ?_;simp only [sz0,sz1];refine aB (i:=3) (d:=84) rfl (by kernel_rfl) (by kernel_rfl) (by kernel_rfl) rfl (fun _ _ _ h=>h) rfl hH ?_;simp only [sz0,sz1];refine aB (i:=4) (d:=85) rfl (by kernel_rfl) (by kernel_rfl) (by kernel_rfl) rfl (fun _ _ _ h=>h) rfl hH ?_;simp only [sz0,sz1];refine ak 5 86 ?_ hH (fun w' hS=>?_) ?_;rotate_left
     ·go_simp;try with_reducible rfl
     simp only [sz0,sz1];refine ak 6 4 ?_ hH (fun w' hS=>?_) ?_;rotate_left
     ·go_simp;try with_reducible rfl
     simp only [sz0,sz1];refine ak 7 5 ?_ hH (fun w' hS=>?_) ?_;rotate_left
     ·go_simp;try with_reducible rfl
     simp only [sz0,sz1];refine wpAnyH_done (by kernel_rfl) ?_ _;go_wp2_with fail
     go_meet
     case rel=>exact ⟨rfl,rfl,Hy hH⟩
    refine ak 2 83 ?_ hH (fun w' hS=>?_) ?_;rotate_left
    ·go_simp;try with_reducible rfl
    simp only [sz0,sz1];refine ak 3 84 ?_ hH (fun w' hS=>?_) ?_;rotate_left
    ·have m1:=(G.o.keeps hS).cell 1;simp only [sz2,sz3,sz4] at m1;go_simp;try with_reducible rfl
    simp only [sz0,sz1];refine ak 4 85 ?_ hH (fun w' hS=>?_) ?_;rotate_left
    ·go_simp;try with_reducible rfl
    simp only [sz0,sz1];refine ak 5 86 ?_ hH (fun w' hS=>?_) ?_;rotate_left
    ·go_simp;try with_reducible rfl
    simp only [sz0,sz1];refine ak 6 4 ?_ hH (fun w' hS=>?_) ?_;rotate_left
    ·go_simp;try with_reducible rfl
    simp only [sz0,sz1];refine ak 7 5 ?_ hH (fun w' hS=>?_) ?_;rotate_left
    ·go_simp;try with_reducible rfl
    simp only [sz0,sz1];refine wpAnyH_done (by kernel_rfl) ?_ _;go_wp2_with fail
    go_meet
    case rel=>exact ⟨rfl,congrArg Value.bool (MI h.op),Hy hH⟩
   case rest =>
    obtain ⟨rfl,rfl,BW⟩:=hcut;have Bx:=Hy (aA B4.o BW.o);go_wp2_with fail
    go_ret2
    exact iw (by unfold arN gF;simp [hk8.o,hr.o]) Bx.o
  have q8:=bg hk8;replace hk8:=Hy hk8;by_cases hk9:h.k=9
  ·have q9:=bB hk9;replace hk9:=Hy hk9
   go_upto_region 21 with fail
   go_cut [4,5] from 89 to 95 (fun va vb wx=>va=.int .i64 2∧vb=.bool (R && decide (h.op=.empty))∧Hid (Below w4.heap.size w4 wx))
   case first =>
    refine wp_region_held_drew (S:=fun w' => Below w4.heap.size w4 w') (by kernel_rfl) (b0 w4).drew (fun hH=>?_);refine ak 0 89 ?_ hH (fun w' hS=>?_) ?_;rotate_left
    ·go_simp;try with_reducible rfl
    simp only [sz0,sz1];refine ak 1 90 ?_ hH (fun w' hS=>?_) ?_;rotate_left
    ·go_simp;try with_reducible rfl
    simp only [sz0,sz1];generalize w4.drew=yy at *;cases R
    ·refine aB (i:=2) (d:=91) rfl (by kernel_rfl) (by kernel_rfl) (by kernel_rfl) rfl (fun _ _ _ h=>h) rfl hH ?_;simp only [sz0,sz1];refine aB (i:=3) (d:=92) rfl (by kernel_rfl) (by kernel_rfl) (by kernel_rfl) rfl (fun _ _ _ h=>h) rfl hH ?_;simp only [sz0,sz1];refine aB (i:=4) (d:=93) rfl (by kernel_rfl) (by kernel_rfl) (by kernel_rfl) rfl (fun _ _ _ h=>h) rfl hH ?_;simp only [sz0,sz1];refine ak 5 94 ?_ hH (fun w' hS=>?_) ?_;rotate_left
     ·go_simp;try with_reducible rfl
     simp only [sz0,sz1];refine ak 6 4 ?_ hH (fun w' hS=>?_) ?_;rotate_left
     ·go_simp;try with_reducible rfl
     simp only [sz0,sz1];refine ak 7 5 ?_ hH (fun w' hS=>?_) ?_;rotate_left
     ·go_simp;try with_reducible rfl
     simp only [sz0,sz1];refine wpAnyH_done (by kernel_rfl) ?_ _;go_wp2_with fail
     go_meet
     case rel=>exact ⟨rfl,rfl,Hy hH⟩
    refine ak 2 91 ?_ hH (fun w' hS=>?_) ?_;rotate_left
    ·go_simp;try with_reducible rfl
    simp only [sz0,sz1];refine ak 3 92 ?_ hH (fun w' hS=>?_) ?_;rotate_left
    ·have m1:=(G.o.keeps hS).cell 1;simp only [sz2,sz3,sz4] at m1;go_simp;try with_reducible rfl
    simp only [sz0,sz1];refine ak 4 93 ?_ hH (fun w' hS=>?_) ?_;rotate_left
    ·go_simp;try with_reducible rfl
    simp only [sz0,sz1];refine ak 5 94 ?_ hH (fun w' hS=>?_) ?_;rotate_left
    ·go_simp;try with_reducible rfl
    simp only [sz0,sz1];refine ak 6 4 ?_ hH (fun w' hS=>?_) ?_;rotate_left
    ·go_simp;try with_reducible rfl
    simp only [sz0,sz1];refine ak 7 5 ?_ hH (fun w' hS=>?_) ?_;rotate_left
    ·go_simp;try with_reducible rfl
    simp only [sz0,sz1];refine wpAnyH_done (by kernel_rfl) ?_ _;go_wp2_with fail
    go_meet
    case rel=>exact ⟨rfl,congrArg Value.bool (MI h.op),Hy hH⟩
   case rest =>
    obtain ⟨rfl,rfl,BW⟩:=hcut;have Bx:=Hy (aA B4.o BW.o);go_wp2_with fail
    go_ret2
    exact iw (by unfold arN gF;simp [hk9.o,hr.o]) Bx.o
  have q9:=bg hk9;replace hk9:=Hy hk9;go_wp2_with fail
  go_ret2
  exact iw (by unfold arN gF;simp [hk1.o,hk2.o,hk3.o,hk4.o,hk5.o,hk6.o,hk7.o,hk8.o,hk9.o]) B4.o
theorem wW (h:Hd):sW h=mF h:=by
 unfold sW mF;rw [GR (h:=h) (g:=nmG h) rfl];rfl
theorem wV (h:Hd):oI h=same h { h0 with op:=h.op }:=by
 unfold oI;rw [GR (h:=h) (g:=opG h) rfl];rfl
theorem Po (op:ByteArray):(ow.any fun t=>decide (t=op))=lq op:=by
 unfold ow lq;simp only [List.any_cons,List.any_nil,Bool.or_false,eq_comm (b:=op)]
theorem RA (op:ByteArray):(opsL.any fun t=>decide (t=op))=lD op:=by
 unfold opsL lD;simp only [List.any_cons,List.any_nil,Bool.or_false,eq_comm (b:=op)]
theorem Qm (op:ByteArray) (p:Int):((ji.any fun t=>decide (t=op)) && (decide (p≤dR op) && decide (min (dR op) 1≤p)))=ig op p:=by
 by_cases h1:op=⟨#[113,117,97,110,116,105,108,101]⟩
 ·subst h1;rw [show dR ⟨#[113,117,97,110,116,105,108,101]⟩=1000 from by decide,show (ji.any fun t=>decide (t=(⟨#[113,117,97,110,116,105,108,101]⟩:ByteArray)))=true from by decide,show ig ⟨#[113,117,97,110,116,105,108,101]⟩ p=(decide (1≤p) && decide (p≤1000)) from rfl];show (true && (decide (p≤1000) && decide (1≤p)))=_;rw [Bool.true_and,Bool.and_comm]
 by_cases h2:op=⟨#[100,101,99,97,121]⟩
 ·subst h2;rw [show dR ⟨#[100,101,99,97,121]⟩=1073741824 from by decide,show (ji.any fun t=>decide (t=(⟨#[100,101,99,97,121]⟩:ByteArray)))=true from by decide,show ig ⟨#[100,101,99,97,121]⟩ p=(decide (1≤p) && decide (p≤1073741824)) from rfl];show (true && (decide (p≤1073741824) && decide (1≤p)))=_;rw [Bool.true_and,Bool.and_comm]
 have ht:dR op=0:=by unfold dR;rw [if_neg h2,if_neg h1]
 rw [ht];have e:(decide (p≤0) && decide (min (0:Int) 1≤p))=decide (p=0):=by
  rw [show min (0:Int) 1=0 from rfl,← Bool.decide_and];exact decide_eq_decide.2 ⟨fun h=>by omega,fun h=>by omega⟩
 rw [e];unfold ig;by_cases h3:op=⟨#[99,111,117,110,116]⟩∨op=⟨#[115,117,109]⟩∨op=⟨#[109,101,97,110]⟩∨op=⟨#[109,105,110]⟩∨op=⟨#[109,97,120]⟩∨op=⟨#[102,105,114,115,116]⟩∨op=⟨#[108,97,115,116]⟩∨op=⟨#[100,105,115,116,105,110,99,116]⟩
 ·rw [if_pos h3];have:(ji.any fun t=>decide (t=op))=true:=by
   rcases h3 with h | h | h | h | h | h | h | h <;> subst h <;> decide
  rw [this,Bool.true_and]
 rw [if_neg h3,if_neg h1,if_neg h2];have:(ji.any fun t=>decide (t=op))=false:=by
  rw [List.any_eq_false];intro t hm h4;have h5:=of_decide_eq_true h4;subst h5;unfold ji at hm;simp only [List.mem_cons,List.not_mem_nil,or_false] at hm;have h3:=not_or.1 h3;have h6:=not_or.1 h3.2;have h7:=not_or.1 h6.2;have h8:=not_or.1 h7.2;have h9:=not_or.1 h8.2;have ha:=not_or.1 h9.2;have hb:=not_or.1 ha.2;rcases hm with h | h | h | h | h | h | h | h | h | h
  ·exact h3.1 h
  ·exact h6.1 h
  ·exact h7.1 h
  ·exact h8.1 h
  ·exact h9.1 h
  ·exact ha.1 h
  ·exact hb.1 h
  ·exact hb.2 h
  ·exact h1 h
  exact h2 h
 rw [this,Bool.false_and]
theorem Qh {h:Hd} (e:h.k=5):mY h=Cg h:=by
 unfold mY Gm Cg;rw [GR (g:=yh h) e,← Qm];show _=(name h.tb && _);generalize (ji.any fun t=>decide (t=h.op))=a;generalize name h.tb=b;generalize gJ h.wk h.ws=c;generalize decide (h.pa≤dR h.op)=d;generalize decide (min (dR h.op) 1≤h.pa)=f;show ((a && (b && (c && (d && f)))) && same h { h0 with op:=h.op,tb:=h.tb,pa:=h.pa,wk:=h.wk,ws:=h.ws })=_;generalize same h { h0 with op:=h.op,tb:=h.tb,pa:=h.pa,wk:=h.wk,ws:=h.ws } = s;cases a <;> cases b <;> cases c <;> cases d <;> cases f <;> rfl
def qO (h:Hd) (b:Bool):Bool:=!decide (h.k=5) || (!decide (h.op=⟨#[99,111,117,110,116]⟩) || b)
theorem J8 (h:Hd):(oI h && decide (h.op=.empty))=same h h0:=by
 rw [wV];unfold same;show ((decide (h.op=h.op) && _) && decide (h.op=.empty))=(decide (h.op=.empty) && _);rw [dT rfl,Bool.true_and,Bool.and_comm]
theorem Qw (i:Bool) (h:Hd) (n:Nat) (g:Hd):(gF i h && (decide ((n:Int)=arN h.k) && qO h (bS g)))=bU i h n g:=by
 have d0:decide ((n:Int)=0)=decide (n=0):=decide_eq_decide.2 (by omega);have d1:decide ((n:Int)=1)=decide (n=1):=decide_eq_decide.2 (by omega);have d2:decide ((n:Int)=2)=decide (n=2):=decide_eq_decide.2 (by omega);have d3:decide ((n:Int)=3)=decide (n=3):=decide_eq_decide.2 (by omega);have hc:h.k≠5→qO h (bS g)=true:=fun e=>by unfold qO;rw [dF e];rfl
 unfold bU gF arN;by_cases k1:h.k=1
 ·rw [if_pos k1,if_pos k1,hc (by omega),Qf k1,if_neg (by omega),if_neg (by omega),if_neg (by omega),if_neg (by omega),if_neg (by omega),if_neg (by omega),d0,Bool.and_true]
 rw [if_neg k1,if_neg k1];by_cases k2:h.k=2
 ·rw [if_pos k2,if_pos k2,hc (by omega),wW,if_neg (by omega),if_neg (by omega),if_neg (by omega),if_neg (by omega),if_neg (by omega),if_neg (by omega),d0,Bool.and_true,Bool.and_assoc]
 rw [if_neg k2,if_neg k2];by_cases k3:h.k=3
 ·rw [if_pos k3,if_pos k3,hc (by omega),wW,if_neg (by omega),if_neg (by omega),if_neg (by omega),if_neg (by omega),if_neg (by omega),if_neg (by omega),d0,Bool.and_true,Bool.and_assoc]
 rw [if_neg k3,if_neg k3];by_cases k4:h.k=4
 ·rw [if_pos k4,if_pos k4,hc (by omega),wW,if_pos k4,d1,Bool.and_true,Bool.and_assoc]
 rw [if_neg k4,if_neg k4,if_neg k4];by_cases k5:h.k=5
 ·rw [if_pos k5,if_pos k5,if_pos k5,Qh k5,d2];unfold qO;rw [dT k5,Bool.and_assoc];rfl
 rw [if_neg k5,if_neg k5,if_neg k5,hc k5];by_cases k6:h.k=6
 ·rw [if_pos k6,if_pos k6,if_pos k6,Po,wV,d1,Bool.and_true];generalize lq h.op=a;generalize same h { h0 with op:=h.op } = b;cases a <;> cases b <;> rfl
 rw [if_neg k6,if_neg k6,if_neg k6];by_cases k7:h.k=7
 ·rw [if_pos k7,if_pos k7,if_pos k7,RA,wV,d2,Bool.and_true];generalize lD h.op=a;generalize same h { h0 with op:=h.op } = b;cases a <;> cases b <;> rfl
 rw [if_neg k7,if_neg k7,if_neg k7];by_cases k8:h.k=8
 ·rw [if_pos k8,if_pos k8,if_pos k8,J8,d3,Bool.and_true]
 rw [if_neg k8,if_neg k8,if_neg k8];by_cases k9:h.k=9
 ·rw [if_pos k9,if_pos k9,if_pos k9,J8,d2,Bool.and_true]
 rw [if_neg k9,if_neg k9,if_neg k9];rfl
theorem Py {i:Bool} {g k:Hd} {n:Nat} (hf:bU i g n k=true):Gb g n=bS g:=by
 unfold Gb flR bS;by_cases hk:g.k=1
 ·unfold bU at hf;rw [if_pos hk] at hf;simp only [xC,Bool.and_eq_true,decide_eq_true_eq,same] at hf;obtain ⟨⟨_,_,ht,ho,_,htb,_,_,hpa,hwk,hws⟩,rfl⟩:=hf;rw [show decide (g.k=dU.h.k)=true from dT hk,dT hk,Bool.true_and,Bool.true_and,dT rfl,Bool.and_true];unfold same;by_cases hv:g.vk=1
  ·have hnm:g.nm=.empty:=by
    unfold tyE at ht;dsimp only at ht;by_cases e:g.nm=.empty
    ·exact e
    rw [if_neg (by omega),if_neg (by omega),if_pos ⟨by omega,e⟩] at ht;cases ht
   have hun:g.un=[]:=by
    unfold tyE num at ht;dsimp only at ht;by_cases e:g.un=[]
    ·exact e
    have:0<g.un.length:=List.length_pos_iff.2 e;rw [if_neg (by omega),if_neg (by omega),if_neg (by rintro ⟨_,h⟩;exact h hnm),if_pos ⟨by rw [hv];rfl,this⟩] at ht;cases ht
   rw [ho,hnm,htb,hun,hpa,hwk,hws];show (true && (true && (true && ((decide (g.vk=1) && (decide (g.vn=1) && decide (g.vs=.empty))) && (true && (true && (true && true)))))))=_;simp only [Bool.true_and,Bool.and_true]
  rw [show decide (g.vk=dU.h.vk)=false from dF hv,dF hv];simp only [Bool.false_and,Bool.and_false]
 rw [show decide (g.k=dU.h.k)=false from dF hk,dF hk];rfl
end ch
end Go.Proofs.YtbahfelnbofjjaaGreatDoor
