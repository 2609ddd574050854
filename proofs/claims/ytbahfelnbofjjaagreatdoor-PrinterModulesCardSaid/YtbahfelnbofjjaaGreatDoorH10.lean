/- checker. -/
import Derived.Test.YtbahfelnbofjjaaGreatDoorH09
set_option maxRecDepth 100000
set_option maxHeartbeats 16000000
namespace Go.Proofs.YtbahfelnbofjjaaGreatDoor
namespace ch
open Go.RowKit dec
theorem Dt (p:Int) (hp:p=0∨p=1) (x:Ex) (ua aa:Option Addr) (uc ac:Nat) (w:World) (hs:x.szs) (hE:Ec w x ua uc aa ac) (T:Tabs w):Calls Tryz.prog 95 #[.int .i64 p,.agg (exC x.h x.ar.len ua uc aa ac)] w (Bl (fmE (decide (p=1)) x) w):=by
 have bb:=aj (b0 w) (.cells (exC x.h x.ar.len ua uc aa ac) 29);have B0:=Hy bb;have G:=Hy (Blk.new w 29 (exC x.h x.ar.len ua uc aa ac));have CR:=Hy (za p);have CF:=Hy (fun (W:World) (b:Nat) (hW:Below w.heap.size w W) (hM:Mp W b (ruL p))=>DK p x ua aa uc ac b W hp hs (hE.keeps hW) hM (T.stays hW));clear bb T hE hs hp;unfold exC at *
 go_enter Tryz.func95,Tryz.ntmps95
 go_wp2_with fail;refine wp_region_held_drew (S:=fun w' => Blk w' w.heap.size 29 #[.int .i64 x.h.k,.string x.h.op,.string x.h.nm,.string x.h.tb,.int .i64 x.h.vk,.int .i64 x.h.vn,.string x.h.vs,.slice ua x.h.un.length uc,.int .i64 x.h.pa,.int .i64 x.h.wk,.int .i64 x.h.ws,.slice aa x.ar.len ac]∧Below w.heap.size w w') (by kernel_rfl) ⟨G.o.drew,B0.o.drew⟩ (fun hH=>?_);refine bg 0 5 (.agg #[.int .i64 x.h.k,.string x.h.op,.string x.h.nm,.string x.h.tb,.int .i64 x.h.vk,.int .i64 x.h.vn,.string x.h.vs,.slice ua x.h.un.length uc,.int .i64 x.h.pa,.int .i64 x.h.wk,.int .i64 x.h.ws,.slice aa x.ar.len ac]) rfl (by kernel_rfl) rfl (fun _ _ _ h=>h) rfl hH (fun w' hS=>aY aN dec.uy29 rfl (.tmp 3) rfl _ _ _ rfl hS.1 rfl) ?_;simp only [sz];refine au 1 6 ?_ hH (fun w' hS=>?_) ?_;rotate_left;(·go_simp;try rfl);simp only [sz];refine aA 2 (fun K hK=>?_);go_simp;refine (CR.o _).mono ?_;rintro e w6 ⟨b,rfl,hb,m,b6⟩;refine hK.o _ _ ⟨hH.1.keeps b6,ak hH.2 b6⟩ (fun hH=>?_);clear hK K;refine BZ (fun w' => Mp w' b (ruL p)) m hH (fun hH=>?_);clear m b6 hb;refine aA 3 (fun K hK=>?_);go_simp;refine (CF.o _ b hH.1.2 hH.2).mono ?_;rintro e w7 ⟨rfl,b7⟩;refine hK.o _ _ ⟨⟨hH.1.1.keeps b7,ak hH.1.2 b7⟩,hH.2.keeps b7⟩ (fun hH=>?_);clear hK K b7;refine au 4 4 ?_ hH (fun w' hS=>?_) ?_;rotate_left;(·go_simp;try rfl);simp only [sz];refine wpAnyH_done (by kernel_rfl) ?_ _;have B9:=Hy hH.1.2;clear hH CF CR G B0;go_wp2_with fail;go_ret;exact aL rfl B9.o
theorem Gz (x:Ex) (ua aa:Option Addr) (uc ac:Nat) (w:World) (hs:x.szs) (hE:Ec w x ua uc aa ac) (T:Tabs w):Calls Tryz.prog 38 #[.agg (exC x.h x.ar.len ua uc aa ac)] w (Num (shE x) w):=by
 have bb:=aj (b0 w) (.cells (exC x.h x.ar.len ua uc aa ac) 29);have B0:=Hy bb;have G:=Hy (Blk.new w 29 (exC x.h x.ar.len ua uc aa ac));have E0:=Hy (hE.keeps bb);have T0:=Hy (T.stays bb);have C1:=Hy (fun W hA=>pW x ua aa uc ac W hA);have C2:=Hy (fun W hA=>KX x ua aa uc ac W hA);have C3:=Hy (fun W hE T=>(show Calls Tryz.prog 95 #[.int .i64 0,.agg (exC x.h x.ar.len ua uc aa ac)] W (Bl (fmE false x) W) from Dt 0 (.inl rfl) x ua aa uc ac W hs hE T));clear bb T hE hs;have hE:shE x=shE x:=rfl
 conv at hE=>rhs;unfold shE
 replace hE:=Hy hE;unfold exC at *;generalize szE x=sz at *;generalize dpE x=dp at *;generalize fmE false x=f at *
 go_enter Tryz.func38,Tryz.ntmps38
 go_wp2_with (first | (refine eO aN dec.uy29 rfl (.tmp 1) rfl rfl _ _ _ rfl G.o rfl ?_));refine (C1.o _ E0.o.ar).mono ?_;rintro e w1 ⟨rfl,b1⟩;have B1:=Hy (ak B0.o b1);replace E0:=Hy (E0.o.keeps b1);replace T0:=Hy (T0.o.stays b1);replace G:=Hy (G.o.keeps b1);clear b1 C1;by_cases h1:64<sz
 ·have q1:decide (64<sz)=true:=dT h1;replace hE:=Hy (hE.o.trans (if_pos (.inl h1)));go_wp2_with (first | (refine eO aN dec.uy29 rfl (.tmp 1) rfl rfl _ _ _ rfl G.o rfl ?_));go_ret;exact bK (by rw [hE.o]) B1.o
 have q1:decide (64<sz)=false:=dF h1;go_wp2_with (first | (refine eO aN dec.uy29 rfl (.tmp 1) rfl rfl _ _ _ rfl G.o rfl ?_));refine (C2.o _ E0.o.ar).mono ?_;rintro e w2 ⟨rfl,b2⟩;have B2:=Hy (ak B1.o b2);replace E0:=Hy (E0.o.keeps b2);replace T0:=Hy (T0.o.stays b2);replace G:=Hy (G.o.keeps b2);clear b2 C2;by_cases h2:12<dp
 ·have q2:decide (12<dp)=true:=dT h2;replace hE:=Hy (hE.o.trans (if_pos (.inr h2)));go_wp2_with (first | (refine eO aN dec.uy29 rfl (.tmp 1) rfl rfl _ _ _ rfl G.o rfl ?_));go_ret;exact bK (by rw [hE.o]) B2.o
 have q2:decide (12<dp)=false:=dF h2;replace hE:=Hy (hE.o.trans (if_neg (by omega)));go_wp2_with (first | (refine eO aN dec.uy29 rfl (.tmp 1) rfl rfl _ _ _ rfl G.o rfl ?_));refine (C3.o _ E0.o T0.o).mono ?_;rintro e w3 ⟨rfl,b3⟩;have B3:=Hy (ak B2.o b3);clear b3 C3;cases f
 ·replace hE:=Hy (hE.o.trans (if_neg (by decide)));go_wp2_with fail;go_ret;exact bK (by rw [hE.o]) B3.o
 replace hE:=Hy (hE.o.trans (if_pos rfl));go_wp2_with fail;go_ret;exact bK (by rw [hE.o]) B3.o
def Pr (t:ByteArray) (r:Int) (w:World) (e:Ending) (w':World):Prop:=e=.returned (.agg #[.string t,.int .i64 r])∧Below w.heap.size w w'
theorem aQ:(Tryz.prog.info? 90).map (·.size)=some 2:=by kernel_rfl
def nT:Nat→ByteArray
 | 1=>⟨#[98,111,111,108]⟩
 | 2=>⟨#[105,110,116]⟩
 | 3=>⟨#[100,101,99]⟩
 | 4=>⟨#[116,101,120,116]⟩
 | _=>⟨#[107,101,121]⟩
def mM:Nat→ByteArray
 | 2=>⟨#[115,108,105,100,105,110,103]⟩
 | 3=>⟨#[116,117,109,98,108,105,110,103]⟩
 | 4=>⟨#[115,101,115,115,105,111,110]⟩
 | _=>⟨#[97,108,108]⟩
structure Tabq (w:World):Prop where
 t:Tabs w
 ty:∀ j,1≤j→j<6→w.cell? ⟨0,j,none⟩=some (.string (nT j))
 wi:∀ j,1≤j→j<5→w.cell? ⟨3,j,none⟩=some (.string (mM j))
theorem Tabq.stays {w w':World} (h:Tabq w) (hb:Below w.heap.size w w'):Tabq w':=⟨h.t.stays hb,fun j h1 h2=>dec.keeps hb (h.ty j h1 h2),fun j h1 h2=>dec.keeps hb (h.wi j h1 h2)⟩
theorem OL {w:World} (T:Tabs w):un.Tabs w:=⟨T.ten,T.syn,T.ran⟩
def uB (u:List un.Fa):List UInt8:=if u=[] then [] else 91 :: (un.fT u++[93])
theorem RN {u:List un.Fa} (h:Un u):(∀ x ∈ u,-9223372036854775808≤x.2∧x.2≤9223372036854775807)∧(∀ x ∈ u,x.1.size≤1048576)∧u.length<5864062014805∧(un.fT u).length≤200:=by
 refine ⟨fun x hx=>?_,fun x hx=>?_,?_,un.KM h.o⟩
 ·have:=rO h hx;omega
 ·have:=dM (h.n x hx);rw [aI] at this;omega
 have:=h.o.le;omega
theorem qG (u:List un.Fa) (hu:Un u) (a:Option Addr) (n cap:Nat) (w:World) (hS:un.Sl w a n cap u) (T:Tabs w):Calls Tryz.prog 113 #[.slice a n cap] w (Sr (B8 (uB u)) w):=by
 obtain ⟨f1,f2,f3,f4⟩:=RN hu;have hn:=hS.hn;by_cases h:n=0
 ·have hu0:u=[]:=List.eq_nil_of_length_eq_zero (by omega);have hR:=Hy (show B8 (uB u)=.empty by rw [hu0];rfl);have q:=dG (show (n:Int)=0 by omega);clear hu f1 f2 f3 f4 hn hS T hu0;replace h:=Hy h
  go_enter Tryz.func113,Tryz.ntmps113
  go_wp2_with fail;go_ret;exact nM hR.o.symm (b0 w)
 have q:=dB (show (n:Int)≠0 by omega);have hne:u≠[]:=fun e=>h (by rw [e] at hn;exact hn.symm);have C:=Hy (un.qh a n cap u w hS f1 f2 f3 (by omega) (OL T));have A1:=dz [91] (un.fT u) (by decide) (by omega);have A2:=dz (91 :: un.fT u) [93] (by simp;omega) (by decide);have hR:=Hy (show B8 (uB u)=B8 (91 :: un.fT u++[93]) by unfold uB;rw [if_neg hne];rfl);replace A1:∀ W,(Op.stringOp .add ⟨#[91]⟩ (B8 (un.fT u))).run Tryz.prog W=.ok (.string (B8 (91 :: un.fT u))) W:=A1;replace A2:∀ W,(Op.stringOp .add (B8 (91 :: un.fT u)) ⟨#[93]⟩).run Tryz.prog W=.ok (.string (B8 (91 :: un.fT u++[93]))) W:=A2;have hC:B8 (un.fT u)=⟨(un.fT u).toArray⟩:=rfl;rw [← hC] at C;clear hC hu f1 f2 f3 f4 hn hS T hne;replace h:=Hy h;rw [hR.o];clear hR;generalize B8 (un.fT u)=s1 at *;generalize B8 (91 :: un.fT u)=s2 at *;generalize B8 (91 :: un.fT u++[93])=s3 at *
 go_enter Tryz.func113,Tryz.ntmps113
 go_wp2_with fail;refine C.o.mono ?_;rintro e w1 ⟨rfl,b1⟩;have B1:=Hy b1;clear b1 C;go_wp2_with fail;go_ret;exact nM rfl B1.o
theorem xG (t:List UInt8) (r q:Int) (w:World) (ht:t.length≤100000000):Calls Tryz.prog 158 #[.agg #[.string (B8 t),.int .i64 r],.int .i64 q] w (Sr (B8 (par r q t)) w):=by
 have A1:=dz [40] t (by decide) (by omega);have A2:=dz (40 :: t) [41] (by simp;omega) (by decide);replace A1:∀ W,(Op.stringOp .add ⟨#[40]⟩ (B8 t)).run Tryz.prog W=.ok (.string (B8 (40 :: t))) W:=A1;replace A2:∀ W,(Op.stringOp .add (B8 (40 :: t)) ⟨#[41]⟩).run Tryz.prog W=.ok (.string (B8 (40 :: (t++[41])))) W:=A2;have bb:=Hy (aj (b0 w) (.cells #[.string (B8 t),.int .i64 r] 90));by_cases h:r<q
 ·have hR:=Hy (show B8 (par r q t)=B8 (40 :: (t++[41])) by unfold par;rw [if_pos h]);have q1:decide (r<q)=true:=dT h;rw [hR.o];clear hR ht;generalize B8 t=s1 at *;generalize B8 (40 :: t)=s2 at *;generalize B8 (40 :: (t++[41]))=s3 at *
  go_enter Tryz.func158,Tryz.ntmps158
  go_wp2_with fail;go_ret;exact nM rfl bb.o
 have hR:=Hy (show B8 (par r q t)=B8 t by unfold par;rw [if_neg h]);have q1:decide (r<q)=false:=dF h;rw [hR.o];clear hR ht A1 A2;generalize B8 t=s1 at *
 go_enter Tryz.func158,Tryz.ntmps158
 go_wp2_with fail;go_ret;exact nM rfl bb.o
def rkP (op:ByteArray):Int:=if op=⟨#[100,101,102,97,117,108,116]⟩ then 1 else rkO op
theorem GL (op:ByteArray) (w:World):Calls Tryz.prog 226 #[.string op] w (Num (rkP op) w):=by
 have hR:rkP op=rkP op:=rfl
 conv at hR=>rhs;unfold rkP rkO
 have e1:=eqL op [100,101,102,97,117,108,116];have e2:=eqL op [111,114];have e3:=eqL op [97,110,100];have e4:=eqL op [43];have e5:=eqL op [45];have e6:=eqL op [42];have e7:=eqL op [47];replace hR:=Hy hR;by_cases h1:op=⟨#[100,101,102,97,117,108,116]⟩
 ·rw [dT h1] at e1;replace hR:=Hy (hR.o.trans (if_pos h1));replace h1:=Hy h1;clear e2 e3 e4 e5 e6 e7
  go_enter Tryz.func226,Tryz.ntmps226
  go_wp2_with fail;go_ret;exact bK hR.o.symm (b0 w)
 rw [dF h1] at e1;replace hR:=Hy (hR.o.trans (if_neg h1));replace h1:=Hy h1;by_cases h2:op=⟨#[111,114]⟩
 ·rw [dT h2] at e2;replace hR:=Hy (hR.o.trans (if_pos h2));replace h2:=Hy h2;clear e3 e4 e5 e6 e7
  go_enter Tryz.func226,Tryz.ntmps226
  go_wp2_with fail;go_ret;exact bK hR.o.symm (b0 w)
 rw [dF h2] at e2;replace hR:=Hy (hR.o.trans (if_neg h2));replace h2:=Hy h2;by_cases h3:op=⟨#[97,110,100]⟩
 ·rw [dT h3] at e3;replace hR:=Hy (hR.o.trans (if_pos h3));replace h3:=Hy h3;clear e4 e5 e6 e7
  go_enter Tryz.func226,Tryz.ntmps226
  go_wp2_with fail;go_ret;exact bK hR.o.symm (b0 w)
 rw [dF h3] at e3;replace hR:=Hy (hR.o.trans (if_neg h3));replace h3:=Hy h3;by_cases h4:op=⟨#[43]⟩
 ·rw [dT h4] at e4;replace hR:=Hy (hR.o.trans (if_pos (.inl h4)));replace h4:=Hy h4;clear e5 e6 e7
  go_enter Tryz.func226,Tryz.ntmps226
  go_wp2_with fail;go_ret;exact bK hR.o.symm (b0 w)
 rw [dF h4] at e4;by_cases h5:op=⟨#[45]⟩
 ·rw [dT h5] at e5;replace hR:=Hy (hR.o.trans (if_pos (.inr h5)));replace h4:=Hy h4;replace h5:=Hy h5;clear e6 e7
  go_enter Tryz.func226,Tryz.ntmps226
  go_wp2_with fail;go_ret;exact bK hR.o.symm (b0 w)
 rw [dF h5] at e5;replace hR:=Hy (hR.o.trans (if_neg (fun h=>h.elim h4 h5)));replace h4:=Hy h4;replace h5:=Hy h5;by_cases h6:op=⟨#[42]⟩
 ·rw [dT h6] at e6;replace hR:=Hy (hR.o.trans (if_pos (.inl h6)));replace h6:=Hy h6;clear e7
  go_enter Tryz.func226,Tryz.ntmps226
  go_wp2_with fail;go_ret;exact bK hR.o.symm (b0 w)
 rw [dF h6] at e6;by_cases h7:op=⟨#[47]⟩
 ·rw [dT h7] at e7;replace hR:=Hy (hR.o.trans (if_pos (.inr h7)));replace h6:=Hy h6;replace h7:=Hy h7
  go_enter Tryz.func226,Tryz.ntmps226
  go_wp2_with fail;go_ret;exact bK hR.o.symm (b0 w)
 rw [dF h7] at e7;replace hR:=Hy (hR.o.trans (if_neg (fun h=>h.elim h6 h7)));replace h6:=Hy h6;replace h7:=Hy h7
 go_enter Tryz.func226,Tryz.ntmps226
 go_wp2_with fail;go_ret;exact bK hR.o.symm (b0 w)
theorem iT (a:Option Addr) (n cap:Nat) (l:List ByteArray) (w:World) (hS:Ss w a n cap l) (hm:n≤1000000) (hz:(wrd l).length≤100000000):Calls Tryz.prog 155 #[.slice a n cap] w (Pr (B8 (wrd l)) 9 w):=by
 have bb:=aj (b0 w) (.cells #[.string .empty,.int .i64 0] 90);have C:=Hy (fE a n cap l _ (hS.keeps bb) hm hz);have BB:=Hy bb;have G:=Hy (Blk.new w 90 #[.string .empty,.int .i64 0]);clear hS hm hz bb;generalize B8 (wrd l)=s at *
 go_enter Tryz.func155,Tryz.ntmps155
 go_wp2_with fail;refine C.o.mono ?_;rintro e w1 ⟨rfl,b1⟩;have B1:=Hy (ak BB.o b1);have G1:=Hy (G.o.keeps b1);clear b1 C G BB;go_wp2_with (refine aF aQ (.tmp 2) (.tmp 5) rfl rfl _ _ _ _ rfl rfl G1.o rfl rfl (by simp [Value.oneCell']) ?_;intro w9 hb9 hs9);refine bn aQ dec.uy90 rfl rfl _ _ _ _ _ rfl hb9 rfl ?_;exact ⟨rfl,B1.o.trans (hs9.below lr)⟩
theorem cu {s:ByteArray} (l:List ByteArray) (h:s≠.empty):wrd (s :: l)=s.data.toList++Lib.joinTail [32] ((nel l).map (·.data.toList)):=by
 unfold wrd nel;rw [List.filter_cons,if_pos (dT h),L_p,Lib.join_cons]
theorem tail_cons (s:ByteArray) (l:List ByteArray) (h:s≠.empty):Lib.joinTail [32] ((nel (s :: l)).map (·.data.toList))=32 :: s.data.toList++Lib.joinTail [32] ((nel l).map (·.data.toList)):=by
 unfold nel;rw [List.filter_cons,if_pos (dT h)];simp [Lib.joinTail]
theorem iy (s:ByteArray) (l:List ByteArray) (h:s=.empty):Lib.joinTail [32] ((nel (s :: l)).map (·.data.toList))=Lib.joinTail [32] ((nel l).map (·.data.toList)):=by
 unfold nel;rw [List.filter_cons,if_neg (by simp [h])]
theorem tail_nil:Lib.joinTail [32] ((nel []).map (·.data.toList))=[]:=rfl
theorem eB {l:List UInt8} (h:l≠[]):B8 l≠.empty:=fun e=>h (congrArg (fun b:ByteArray=>b.data.toList) e)
theorem yD (n:Int):Lib.itoa n≠[]:=by
 unfold Lib.itoa;split
 ·exact List.cons_ne_nil _ _
 obtain ⟨c,q,e⟩:=jT n.toNat;rw [e];exact List.cons_ne_nil _ _
theorem rM (n:Int) (h0:0≤n) (h1:n≤1152921504606846976) (w:World) (T:Tabs w):Calls Tryz.prog 56 #[.int .i64 n] w (Sr (B8 (Lib.itoa n)) w):=(qg n (by omega) (by omega) w T).mono fun _ _ h=>h
theorem xI (k n:Int) (hw:jd k n=true) (w:World) (T:Tabq w):Calls Tryz.prog 157 #[.agg #[.int .i64 k,.int .i64 n]] w (Sr (B8 (wiT k n)) w):=by
 have bb:=aj (b0 w) (.cells #[.int .i64 k,.int .i64 n] 26);have BB:=Hy bb;rcases lS hw with ⟨rfl,rfl⟩ | ⟨hk,h2,h3⟩
 ·have c0:=(T.stays bb).wi 1 (by decide) (by decide);have hR:=Hy (show B8 (wiT 1 0)=mM 1 from rfl);generalize mM 1=s at *;clear T hw bb;rw [hR.o]
  go_enter Tryz.func157,Tryz.ntmps157
  go_wp2_with fail;go_ret;exact nM rfl BB.o
 obtain ⟨j,rfl,hj⟩:∃ j:Nat,k=(j:Nat)∧(j=2∨j=3∨j=4):=⟨k.toNat,by omega,by omega⟩;have c0:=(T.stays bb).wi j (by omega) (by omega);have q1:(j:Int)<5:=by omega
 have q2:(0:Int)≤(j:Int):=by omega
 have q3:=dB (show (j:Int)≠1 by omega);have T1:=Hy (T.stays bb).t;have I:=Hy (fun (W:World) (T:Tabs W)=>rM n (by omega) (by omega) W T);have hl:=iV n (by omega) (by omega);have hne:mM j≠.empty:=by
  rcases hj with rfl | rfl | rfl <;> exact fun e=>absurd (congrArg (fun b:ByteArray=>b.size) e) (by decide)
 have hW:wrd [mM j,B8 (Lib.itoa n)]=wiT (j:Int) n:=by
  rw [cu _ hne,tail_cons _ _ (eB (yD n)),tail_nil,L_n,bZ];rcases hj with rfl | rfl | rfl
  ·show [115,108,105,100,105,110,103]++32 :: Lib.itoa n=[115,108,105,100,105,110,103,32]++Lib.itoa n;simp
  ·show [116,117,109,98,108,105,110,103]++32 :: Lib.itoa n=[116,117,109,98,108,105,110,103,32]++Lib.itoa n;simp
  show [115,101,115,115,105,111,110]++32 :: Lib.itoa n=[115,101,115,115,105,111,110,32]++Lib.itoa n;simp
 have hz:(wrd [mM j,B8 (Lib.itoa n)]).length≤100000000:=by rw [hW];have:=xJ hw;omega
 have C:=Hy (fun (W:World) (a:Option Addr) (h:Ss W a 2 2 [mM j,B8 (Lib.itoa n)])=>fE a 2 2 _ W h (by decide) hz);rw [hW] at C;have N:=Hy (fun (W:World)=>Ss.new W [mM j,B8 (Lib.itoa n)] 2 #[.string (mM j),.string (B8 (Lib.itoa n))] rfl rfl (by decide) 9);clear T hw bb hz hW hl hne h2 h3 hk hj;generalize mM j=s1 at *;generalize B8 (Lib.itoa n)=s2 at *;generalize B8 (wiT (j:Int) n)=s3 at *
 go_enter Tryz.func157,Tryz.ntmps157
 go_wp2_with fail;refine (I.o _ T1.o).mono ?_;rintro e w1 ⟨rfl,b1⟩;have B1:=Hy (ak BB.o b1);clear b1 I c0;go_wp2_with fail;refine (C.o _ _ (N.o _)).mono ?_;rintro e w2 ⟨rfl,b2⟩;have B2:=Hy (ak (aj B1.o _) b2);clear b2 C N;go_wp2_with fail;go_ret;exact nM rfl B2.o
theorem oC (j:Nat):nT j≠.empty:=by
 unfold nT;split <;> exact fun e=>absurd (congrArg (fun b:ByteArray=>b.size) e) (by decide)
theorem OI {t:Ty} (h:tyE t=0):∃ j:Nat,t.k=(j:Nat)∧1≤j∧j<6∧Un t.un∧wrd [nT j,t.of,B8 (uB t.un)]=tyT t:=by
 have hub:∀ u:List un.Fa,Lib.joinTail [32] ((nel [B8 (uB u)]).map (·.data.toList))=uT u:=by
  intro u;by_cases hu:u=[]
  ·have e0:B8 (uB u)=.empty:=by rw [hu];rfl
   rw [e0,iy _ _ rfl,hu];rfl
  have hne:uB u≠[]:=by unfold uB;rw [if_neg hu];exact List.cons_ne_nil _ _
  rw [tail_cons _ _ (eB hne),tail_nil,L_n,bZ];unfold uB uT;rw [if_neg hu,if_neg hu]
 rcases fF h with (rfl | rfl) | ⟨s,rfl,hs⟩ | ⟨u,rfl | rfl,hu⟩
 ·exact ⟨1,rfl,by decide,by decide,⟨un.Ok.nil,fun x hx=>by cases hx⟩,by rw [cu _ (oC 1),iy _ _ rfl,hub];rfl⟩
 ·exact ⟨4,rfl,by decide,by decide,⟨un.Ok.nil,fun x hx=>by cases hx⟩,by rw [cu _ (oC 4),iy _ _ rfl,hub];rfl⟩
 ·refine ⟨5,rfl,by decide,by decide,⟨un.Ok.nil,fun x hx=>by cases hx⟩,?_⟩;have hne:s≠.empty:=by
   intro e;rw [e] at hs;exact absurd hs (by rw [show name .empty=false by kernel_rfl];decide)
  rw [cu _ (oC 5),tail_cons _ _ hne,hub];show [107,101,121]++(32 :: s.data.toList++[])=[107,101,121,32]++s.data.toList;simp
 ·exact ⟨2,rfl,by decide,by decide,hu,by rw [cu _ (oC 2),iy _ _ rfl,hub];rfl⟩
 exact ⟨3,rfl,by decide,by decide,hu,by rw [cu _ (oC 3),iy _ _ rfl,hub];rfl⟩
theorem qH (t:Ty) (ua:Option Addr) (uc:Nat) (w:World) (ht:tyE t=0) (hU:un.Sl w ua t.un.length uc t.un) (T:Tabq w):Calls Tryz.prog 53 #[.agg (tyC t ua uc)] w (Sr (B8 (tyT t)) w):=by
 obtain ⟨j,hk,h1,h6,hu,hW⟩:=OI ht;have bb:=aj (b0 w) (.cells (tyC t ua uc) 31);have BB:=Hy bb;have G:=Hy (Blk.new w 31 (tyC t ua uc));have CU:=Hy (fun (W:World) (b:Below w.heap.size w W)=>qG t.un hu ua t.un.length uc W (hU.keeps b) (T.stays b).t);have CT:=Hy (fun (W:World) (b:Below w.heap.size w W)=>(T.stays b).ty j h1 h6);have hz:(wrd [nT j,t.of,B8 (uB t.un)]).length≤100000000:=by rw [hW];have:=xK ht;omega
 have C:=Hy (fun (W:World) (a:Option Addr) (h:Ss W a 3 3 [nT j,t.of,B8 (uB t.un)])=>fE a 3 3 _ W h (by decide) hz);rw [hW] at C;have N:=Hy (fun (W:World)=>Ss.new W [nT j,t.of,B8 (uB t.un)] 3 #[.string (nT j),.string t.of,.string (B8 (uB t.un))] rfl rfl (by decide) 9);have q1:(j:Int)<6:=by omega
 have q2:(0:Int)≤(j:Int):=by omega
 unfold tyC at *;rw [hk] at *;clear T bb hz hW hU ht hu h1 h6 hk;generalize nT j=s1 at *;generalize B8 (uB t.un)=s2 at *;generalize B8 (tyT t)=s3 at *;generalize t.of=so at *;generalize t.un.length=ul at *
 go_enter Tryz.func53,Tryz.ntmps53
 go_wp2_with fail;refine wp_region_held_drew (S:=fun w' => Blk w' w.heap.size 31 #[.int .i64 (j:Nat),.slice ua ul uc,.string so]∧Below w.heap.size w w') (by kernel_rfl) ⟨G.o.drew,BB.o.drew⟩ (fun hH=>?_);refine au 0 3 ?_ hH (fun w' hS=>?_) ?_;rotate_left;(·go_simp;try rfl);simp only [sz];refine au 1 4 ?_ hH (fun w' hS=>?_) ?_;rotate_left;(·have e1:=hS.1.cell 0;simp only [sz2,sz3] at e1;go_simp;try rfl);simp only [sz];refine au 2 5 ?_ hH (fun w' hS=>?_) ?_;rotate_left;(·go_simp;try rfl);simp only [sz];refine au 3 6 ?_ hH (fun w' hS=>?_) ?_;rotate_left;(·have c0:=CT.o _ hS.2;go_simp;try rfl);simp only [sz];refine au 4 7 ?_ hH (fun w' hS=>?_) ?_;rotate_left;(·go_simp;try rfl);simp only [sz];refine au 5 8 ?_ hH (fun w' hS=>?_) ?_;rotate_left;(·have e1:=hS.1.cell 2;simp only [sz2,sz3,sz4] at e1;go_simp;try rfl);simp only [sz];refine au 6 9 ?_ hH (fun w' hS=>?_) ?_;rotate_left;(·go_simp;try rfl);simp only [sz];refine au 7 10 ?_ hH (fun w' hS=>?_) ?_;rotate_left;(·have e1:=hS.1.cell 1;simp only [sz2,sz3,sz4] at e1;go_simp;try rfl);simp only [sz];refine aA 8 (fun K hK=>?_);go_simp;refine (CU.o _ hH.2).mono ?_;rintro e w7 ⟨rfl,b7⟩;refine hK.o _ _ ⟨hH.1.keeps b7,ak hH.2 b7⟩ (fun hH=>?_);clear hK K;refine aA 9 (fun K hK=>?_);go_simp;have hNN:=N.o w7;refine hK.o _ _ ⟨hH.1.keeps (aj (b0 _) _),aj hH.2 _⟩ (fun hH=>?_);clear hK K;refine aA 10 (fun K hK=>?_);go_simp;refine (C.o _ _ hNN).mono ?_;rintro e w8 ⟨rfl,b8⟩;refine hK.o _ _ ⟨hH.1.keeps b8,ak hH.2 b8⟩ (fun hH=>?_);clear hK K;refine au 11 2 ?_ hH (fun w' hS=>?_) ?_;rotate_left;(·go_simp;try rfl);simp only [sz];refine wpAnyH_done (by kernel_rfl) ?_ _;have B9:=Hy hH.2;clear hH;go_wp2_with fail;go_ret;exact nM rfl B9.o
theorem jW {T:TypeId} {n:Nat} (hi:(Tryz.prog.info? T).map (·.size)=some n) (x y:Operand) {o:Oper} {a:Act} {w:World} {K:Act→World→Prop} {Q:Exit→Act→World→Prop} (ho:o.op=.store T x y)
  (g:Nat) (T':TypeId) (cells old:Array Value) (hx:a.eval x=.pointer (some ⟨g,0,none⟩)) (hy:a.eval y=.agg cells) (hB:Blk w g T' old) (hs:old.size=n) (hc:cells.size=n) (h1:cells.all (·.oneCell')=true)
  (h:∀ w',Blk w' g T' cells→St g w w'→K (a.put o.dst undef) w'):o.wp Tryz.prog a w K Q :=
 wp_store_row T x y ho g cells hx hy T' old hB (by rw [hc];exact hi) (by omega) h1 (h _ (iE hB cells) (jg w g cells))
theorem cl1 {w:World} {b off:Nat} {t:ByteArray} {r:Int} (h:un.Cl w b off [(t,r)]):w.cell? ⟨b,off,none⟩=some (.string t)∧w.cell? ⟨b,off+1,none⟩=some (.int .i64 r):=by simpa [un.gt] using h 0 (by simp)
theorem cl2 {w:World} {b off:Nat} {t s:ByteArray} {r q:Int} (h:un.Cl w b off [(t,r),(s,q)]):w.cell? ⟨b,off,none⟩=some (.string t)∧w.cell? ⟨b,off+1,none⟩=some (.int .i64 r)∧w.cell? ⟨b,off+2,none⟩=some (.string s)∧w.cell? ⟨b,off+3,none⟩=some (.int .i64 q):=by
 have h0:=h 0 (by simp);have h1:=h 1 (by simp);simp [un.gt] at h0 h1;exact ⟨h0.1,h0.2,h1.1,h1.2⟩
theorem cl3 {w:World} {b off:Nat} {t s u:ByteArray} {r q p:Int} (h:un.Cl w b off [(t,r),(s,q),(u,p)]):w.cell? ⟨b,off,none⟩=some (.string t)∧w.cell? ⟨b,off+2,none⟩=some (.string s)∧w.cell? ⟨b,off+4,none⟩=some (.string u):=by
 have h0:=h 0 (by simp);have h1:=h 1 (by simp);have h2:=h 2 (by simp);simp [un.gt] at h0 h1 h2;exact ⟨h0.1,h1.1,h2.1⟩
theorem jV {w:World} {b o:Nat} {x y:Value} (h0:w.cell? ⟨b,o,none⟩=some x) (h1:w.cell? ⟨b,o+1,none⟩=some y):w.rangeAt b o [x,y]:=by
 intro j v hv
 match j,hv with
 | 0,hv=>simp at hv;subst hv;exact h0
 | 1,hv=>simp at hv;subst hv;exact h1
 | j+2,hv=>simp at hv
theorem tF {w:World} {b o:Nat} {x y z:Value} (h0:w.cell? ⟨b,o,none⟩=some x) (h1:w.cell? ⟨b,o+1,none⟩=some y) (h2:w.cell? ⟨b,o+2,none⟩=some z):w.rangeAt b o [x,y,z]:=by
 intro j v hv
 match j,hv with
 | 0,hv=>simp at hv;subst hv;exact h0
 | 1,hv=>simp at hv;subst hv;exact h1
 | 2,hv=>simp at hv;subst hv;exact h2
 | j+3,hv=>simp at hv
theorem oW {s:ByteArray} (h:name s=true):s≠.empty:=by
 intro e;rw [e] at h;exact absurd h (by rw [show name .empty=false by kernel_rfl];decide)
theorem bW {w w':World} {g:Nat} {T:TypeId} (h:∃ cs:Array Value,cs.size=2∧Blk w g T cs) (b:Below w.heap.size w w'):∃ cs:Array Value,cs.size=2∧Blk w' g T cs:=by
 obtain ⟨cs,h1,h2⟩:=h;exact ⟨cs,h1,h2.keeps b⟩
theorem pY {w w':World} {g b o:Nat} {cs:List Value} (h:w.rangeAt b o cs) (s:St g w w') (hn:b≠g):w'.rangeAt b o cs:=fun j v hv=>(World.cell?_of_block (w:=w) (s.block b hn)).trans (h j v hv)
theorem je (w:World):w.heap.size≤w.heap.size+1:=Nat.le_succ _
theorem yT (h:Hd) (n:Nat) (ua aa:Option Addr) (uc ac:Nat) (a:Option Addr) (m c:Nat) (hn:name h.nm=true) (w:World):Calls Tryz.prog 101 #[.agg (exC h n ua uc aa ac),.slice a m c] w (Pr (B8 h.nm.data.toList) 9 w):=by
 have hW:wrd [h.nm]=h.nm.data.toList:=by rw [cu _ (oW hn),tail_nil,L_n]
 have bb:=bB w (.cells (exC h n ua uc aa ac) 144) (.cells #[.string ⟨#[]⟩,.int .i64 0] 90);have GG:=eH w (exC h n ua uc aa ac) #[.string ⟨#[]⟩,.int .i64 0] 144 90;have hle:=Hy (je w);have B0:=Hy bb;have G:=Hy GG.1;have H:=Hy GG.2;have hz:(wrd [h.nm]).length≤100000000:=by rw [hW];have:=dM hn;omega
 have CP:=Hy (fun (W:World) (a:Option Addr) (h:Ss W a 1 1 [h.nm])=>iT a 1 1 _ W h (by decide) hz);rw [hW] at CP;have N:=Hy (fun (W:World)=>Ss.new W [h.nm] 1 #[.string h.nm] rfl rfl (by decide) 9);clear hz hW;have hs:B8 h.nm.data.toList=h.nm:=rfl;rw [hs] at CP;rw [hs];clear bb GG hn hs;unfold exC at *
 go_enter Tryz.func101,Tryz.ntmps101
 go_upto_region 1 with fail
 generalize hw0:((w.alloc (.cells #[.int .i64 h.k,.string h.op,.string h.nm,.string h.tb,.int .i64 h.vk,.int .i64 h.vn,.string h.vs,.slice ua h.un.length uc,.int .i64 h.pa,.int .i64 h.wk,.int .i64 h.ws,.slice aa n ac] 144)).alloc (.cells #[.string ⟨#[]⟩,.int .i64 0] 90))=w0 at *;clear hw0;generalize hg3:w.heap.size+1=g3 at H hle ⊢;generalize hg2:w.heap.size=g2 at G ⊢;clear hg2 hg3;have c2:=G.o.cell 2;simp only [sz2,sz3,sz4] at c2;go_wp2_with fail;refine (CP.o _ _ (N.o _)).mono ?_;rintro e w1 ⟨rfl,b1⟩;have B1:=Hy (ak (aj B0.o _) b1);replace H:=Hy ((H.o.keeps (aj (b0 _) _)).keeps b1);clear b1 CP N c2;go_wp2_with (refine aF aQ (.tmp 4) (.tmp 8) rfl rfl _ _ _ _ rfl rfl H.o rfl rfl (by simp [Value.oneCell']) ?_;intro w9 hb9 hs9);refine bn aQ dec.uy90 rfl rfl _ _ _ _ _ rfl hb9 rfl ?_;exact ⟨rfl,B1.o.trans (hs9.below hle.o)⟩
theorem Bh {t:List UInt8} (r q:Int) (h:t≠[]):par r q t≠[]:=by
 unfold par;split
 ·exact List.cons_ne_nil _ _
 exact h
theorem qB (op:ByteArray) (t1 t2:List UInt8) (r1 r2:Int) (b off c:Nat) (w:World) (hC:un.Cl w b off [(B8 t1,r1),(B8 t2,r2)]) (ho:op≠.empty) (h1:t1≠[]) (h2:t2≠[]) (l1:t1.length≤1000000) (l2:t2.length≤1000000) (l3:op.size≤1000) :
    Calls Tryz.prog 159 #[.string op,.slice (some ⟨b,off,none⟩) 2 c] w (Pr (B8 (par r1 (lef (rkP op)) t1++32 :: (op.data.toList++32 :: par r2 (rkP op+1) t2))) (rkP op) w):=by
 obtain ⟨k0,k1,k2,k3⟩:=cl2 hC;have hlb:=Hy (block_lt_of_cell k0);have bb:=aj (b0 w) (.cells #[.string ⟨#[]⟩,.int .i64 0] 90);have BB:=Hy bb;have H:=Hy (Blk.new w 90 #[.string ⟨#[]⟩,.int .i64 0]);have R0:=Hy (jV (dec.keeps bb k0) (dec.keeps bb k1));have R1:=Hy (jV (dec.keeps bb k2) (dec.keeps bb k3));have CR:=Hy (fun (W:World)=>GL op W);have hr:1≤rkP op∧rkP op≤7:=by unfold rkP rkO;repeat (first | (split) | omega)
 have hx1:par r1 (lef (rkP op)) t1≠[]:=Bh r1 _ h1;have hx2:par r2 (rkP op+1) t2≠[]:=Bh r2 _ h2;have hW:wrd [B8 (par r1 (lef (rkP op)) t1),op,B8 (par r2 (rkP op+1) t2)]=par r1 (lef (rkP op)) t1++32 :: (op.data.toList++32 :: par r2 (rkP op+1) t2):=by
  rw [cu _ (eB hx1),tail_cons _ _ ho,tail_cons _ _ (eB hx2),tail_nil,bZ,bZ];simp
 have hz:(wrd [B8 (par r1 (lef (rkP op)) t1),op,B8 (par r2 (rkP op+1) t2)]).length≤100000000:=by
  rw [hW];have a1:=oQ r1 (lef (rkP op)) t1;have a2:=oQ r2 (rkP op+1) t2;simp only [L_a,L_b,aI];omega
 have CW:=Hy (fun (W:World) (a:Option Addr) (h:Ss W a 3 3 [B8 (par r1 (lef (rkP op)) t1),op,B8 (par r2 (rkP op+1) t2)])=>fE a 3 3 _ W h (by decide) hz);rw [hW] at CW;have N:=Hy (fun (W:World)=>Ss.new W [B8 (par r1 (lef (rkP op)) t1),op,B8 (par r2 (rkP op+1) t2)] 3 #[.string (B8 (par r1 (lef (rkP op)) t1)),.string op,.string (B8 (par r2 (rkP op+1) t2))] rfl rfl (by decide) 9);have C1:=Hy (fun (W:World)=>xG t1 r1 (lef (rkP op)) W (by omega));have C2:=Hy (fun (W:World)=>xG t2 r2 (rkP op+1) W (by omega));have f1:IntKind.i64.wrap (rkP op+1)=rkP op+1:=by rw [IntKind.wrap_i64];omega
 have f2:wrap64 (rkP op+1)=rkP op+1:=by unfold wrap64;omega
 clear k0 k1 k2 k3 hC bb hr hx1 hx2 hW hz l1 l2 l3 h1 h2 ho;generalize B8 (par r1 (lef (rkP op)) t1++32 :: (op.data.toList++32 :: par r2 (rkP op+1) t2))=s3 at *;generalize B8 (par r1 (lef (rkP op)) t1)=s1 at *;generalize B8 (par r2 (rkP op+1) t2)=s2 at *;generalize B8 t1=t1 at *;generalize B8 t2=t2 at *;have HF1:=Hy f1;have HF2:=Hy f2;clear f1 f2;by_cases h5:rkP op=5
 ·have q:=dG h5;have hl:lef (rkP op)=6:=by unfold lef;rw [if_pos h5]
  rw [hl] at C1;clear hl;generalize rkP op=r at *;replace h5:=Hy h5
  go_enter Tryz.func159,Tryz.ntmps159
  go_wp2_with fail;refine (CR.o _).mono ?_;rintro e w1 ⟨rfl,b1⟩;have B1:=Hy (ak BB.o b1);replace H:=Hy (H.o.keeps b1);replace R0:=Hy (aJ R0.o b1);replace R1:=Hy (aJ R1.o b1);clear b1 CR BB;skip;go_wp2_with fail;have f2:=HF2.o;have f1:=HF1.o;refine wp_region_held_drew (S:=fun w' => (∃ cs:Array Value,cs.size=2∧Blk w' w.heap.size 90 cs)∧(w'.rangeAt b off [.string t1,.int .i64 r1]∧w'.rangeAt b (off+2) [.string t2,.int .i64 r2])∧Below w.heap.size w w') (by kernel_rfl) ⟨⟨_,rfl,H.o.drew⟩,⟨R0.o,R1.o⟩,B1.o.drew⟩ (fun hH=>?_);refine au 0 12 ?_ hH (fun w' hS=>?_) ?_;rotate_left;(·go_simp;try rfl);simp only [sz];refine au 1 13 ?_ hH (fun w' hS=>?_) ?_;rotate_left;(·go_simp;try rfl);simp only [sz];refine bg 2 14 (.agg #[.string t1,.int .i64 r1]) rfl (by kernel_rfl) rfl (fun _ _ _ h=>h) rfl hH (fun w' hS=>dn aQ dec.uy90 rfl (.tmp 13) rfl _ _ _ rfl hS.2.1.1 rfl) ?_;simp only [sz];refine au 3 15 ?_ hH (fun w' hS=>?_) ?_;rotate_left;(·go_simp;try rfl);simp only [sz];refine au 5 17 ?_ hH (fun w' hS=>?_) ?_;rotate_left;(·go_simp;try rfl);simp only [sz];refine au 6 18 ?_ hH (fun w' hS=>?_) ?_;rotate_left;(·go_simp;try rfl);simp only [sz];refine au 7 19 ?_ hH (fun w' hS=>?_) ?_;rotate_left;(·go_simp;try rfl);simp only [sz];refine bg 8 20 (.agg #[.string t2,.int .i64 r2]) rfl (by kernel_rfl) rfl (fun _ _ _ h=>h) rfl hH (fun w' hS=>dn aQ dec.uy90 rfl (.tmp 19) rfl _ _ _ rfl hS.2.1.2 rfl) ?_;simp only [sz];refine au 9 21 ?_ hH (fun w' hS=>?_) ?_;rotate_left;(·go_simp;try rfl);simp only [sz];refine au 10 22 ?_ hH (fun w' hS=>?_) ?_;rotate_left;(·go_simp;try rfl);simp only [sz];refine au 14 26 ?_ hH (fun w' hS=>?_) ?_;rotate_left;(·go_simp;try rfl);simp only [sz];refine aA 4 (fun K hK=>?_);go_simp;refine (C1.o _).mono ?_;rintro e v1 ⟨rfl,c1⟩;refine hK.o _ _ ⟨bW hH.1 c1,⟨aJ hH.2.1.1 c1,aJ hH.2.1.2 c1⟩,ak hH.2.2 c1⟩ (fun hH=>?_);clear hK K c1;refine aA 11 (fun K hK=>?_);go_simp;refine (C2.o _).mono ?_;rintro e v2 ⟨rfl,c2⟩;refine hK.o _ _ ⟨bW hH.1 c2,⟨aJ hH.2.1.1 c2,aJ hH.2.1.2 c2⟩,ak hH.2.2 c2⟩ (fun hH=>?_);clear hK K c2;refine aA 12 (fun K hK=>?_);go_simp;have hNN:=N.o v2;refine hK.o _ _ ⟨bW hH.1 (aj (b0 _) _),⟨aJ hH.2.1.1 (aj (b0 _) _),aJ hH.2.1.2 (aj (b0 _) _)⟩,aj hH.2.2 _⟩ (fun hH=>?_);clear hK K;refine aA 13 (fun K hK=>?_);go_simp;refine (CW.o _ _ hNN).mono ?_;rintro e v9 ⟨rfl,c9⟩;refine hK.o _ _ ⟨bW hH.1 c9,⟨aJ hH.2.1.1 c9,aJ hH.2.1.2 c9⟩,ak hH.2.2 c9⟩ (fun hH=>?_);clear hK K c9;refine au 15 27 ?_ hH (fun w' hS=>?_) ?_;rotate_left;(·go_simp;try rfl);simp only [sz];obtain ⟨pcs,hps,hPB⟩:=hH.1;refine aA 16 (fun K hK=>?_);refine jW aQ (.tmp 4) (.tmp 27) rfl _ _ _ _ rfl rfl hPB hps rfl (by simp [Value.oneCell']) ?_;intro w9 hb9 hs9;have hq9:=Hy hb9;have B9:=Hy (hH.2.2.trans (hs9.below lr));refine hK.o _ _ ⟨⟨_,rfl,hb9⟩,⟨pY hH.2.1.1 hs9 (Nat.ne_of_lt hlb.o),pY hH.2.1.2 hs9 (Nat.ne_of_lt hlb.o)⟩,B9.o⟩ (fun _=>?_);clear hK K hPB hps hb9 hs9 hH;refine wpAnyH_done (by kernel_rfl) ?_ _;go_wp2_with fail;refine bn aQ dec.uy90 rfl rfl _ _ _ _ _ rfl hq9.o rfl ?_;exact ⟨rfl,B9.o⟩
 have q:=dB h5;have hl:lef (rkP op)=rkP op:=by unfold lef;rw [if_neg h5]
 rw [hl] at C1;clear hl;generalize rkP op=r at *;replace h5:=Hy h5
 go_enter Tryz.func159,Tryz.ntmps159
 go_wp2_with fail;refine (CR.o _).mono ?_;rintro e w1 ⟨rfl,b1⟩;have B1:=Hy (ak BB.o b1);replace H:=Hy (H.o.keeps b1);replace R0:=Hy (aJ R0.o b1);replace R1:=Hy (aJ R1.o b1);clear b1 CR BB;skip;go_wp2_with fail;have f2:=HF2.o;have f1:=HF1.o;refine wp_region_held_drew (S:=fun w' => (∃ cs:Array Value,cs.size=2∧Blk w' w.heap.size 90 cs)∧(w'.rangeAt b off [.string t1,.int .i64 r1]∧w'.rangeAt b (off+2) [.string t2,.int .i64 r2])∧Below w.heap.size w w') (by kernel_rfl) ⟨⟨_,rfl,H.o.drew⟩,⟨R0.o,R1.o⟩,B1.o.drew⟩ (fun hH=>?_);refine au 0 12 ?_ hH (fun w' hS=>?_) ?_;rotate_left;(·go_simp;try rfl);simp only [sz];refine au 1 13 ?_ hH (fun w' hS=>?_) ?_;rotate_left;(·go_simp;try rfl);simp only [sz];refine bg 2 14 (.agg #[.string t1,.int .i64 r1]) rfl (by kernel_rfl) rfl (fun _ _ _ h=>h) rfl hH (fun w' hS=>dn aQ dec.uy90 rfl (.tmp 13) rfl _ _ _ rfl hS.2.1.1 rfl) ?_;simp only [sz];refine au 3 15 ?_ hH (fun w' hS=>?_) ?_;rotate_left;(·go_simp;try rfl);simp only [sz];refine au 5 17 ?_ hH (fun w' hS=>?_) ?_;rotate_left;(·go_simp;try rfl);simp only [sz];refine au 6 18 ?_ hH (fun w' hS=>?_) ?_;rotate_left;(·go_simp;try rfl);simp only [sz];refine au 7 19 ?_ hH (fun w' hS=>?_) ?_;rotate_left;(·go_simp;try rfl);simp only [sz];refine bg 8 20 (.agg #[.string t2,.int .i64 r2]) rfl (by kernel_rfl) rfl (fun _ _ _ h=>h) rfl hH (fun w' hS=>dn aQ dec.uy90 rfl (.tmp 19) rfl _ _ _ rfl hS.2.1.2 rfl) ?_;simp only [sz];refine au 9 21 ?_ hH (fun w' hS=>?_) ?_;rotate_left;(·go_simp;try rfl);simp only [sz];refine au 10 22 ?_ hH (fun w' hS=>?_) ?_;rotate_left;(·go_simp;try rfl);simp only [sz];refine au 14 26 ?_ hH (fun w' hS=>?_) ?_;rotate_left;(·go_simp;try rfl);simp only [sz];refine aA 4 (fun K hK=>?_);go_simp;refine (C1.o _).mono ?_;rintro e v1 ⟨rfl,c1⟩;refine hK.o _ _ ⟨bW hH.1 c1,⟨aJ hH.2.1.1 c1,aJ hH.2.1.2 c1⟩,ak hH.2.2 c1⟩ (fun hH=>?_);clear hK K c1;refine aA 11 (fun K hK=>?_);go_simp;refine (C2.o _).mono ?_;rintro e v2 ⟨rfl,c2⟩;refine hK.o _ _ ⟨bW hH.1 c2,⟨aJ hH.2.1.1 c2,aJ hH.2.1.2 c2⟩,ak hH.2.2 c2⟩ (fun hH=>?_);clear hK K c2;refine aA 12 (fun K hK=>?_);go_simp;have hNN:=N.o v2;refine hK.o _ _ ⟨bW hH.1 (aj (b0 _) _),⟨aJ hH.2.1.1 (aj (b0 _) _),aJ hH.2.1.2 (aj (b0 _) _)⟩,aj hH.2.2 _⟩ (fun hH=>?_);clear hK K;refine aA 13 (fun K hK=>?_);go_simp;refine (CW.o _ _ hNN).mono ?_;rintro e v9 ⟨rfl,c9⟩;refine hK.o _ _ ⟨bW hH.1 c9,⟨aJ hH.2.1.1 c9,aJ hH.2.1.2 c9⟩,ak hH.2.2 c9⟩ (fun hH=>?_);clear hK K c9;refine au 15 27 ?_ hH (fun w' hS=>?_) ?_;rotate_left;(·go_simp;try rfl);simp only [sz];obtain ⟨pcs,hps,hPB⟩:=hH.1;refine aA 16 (fun K hK=>?_);refine jW aQ (.tmp 4) (.tmp 27) rfl _ _ _ _ rfl rfl hPB hps rfl (by simp [Value.oneCell']) ?_;intro w9 hb9 hs9;have hq9:=Hy hb9;have B9:=Hy (hH.2.2.trans (hs9.below lr));refine hK.o _ _ ⟨⟨_,rfl,hb9⟩,⟨pY hH.2.1.1 hs9 (Nat.ne_of_lt hlb.o),pY hH.2.1.2 hs9 (Nat.ne_of_lt hlb.o)⟩,B9.o⟩ (fun _=>?_);clear hK K hPB hps hb9 hs9 hH;refine wpAnyH_done (by kernel_rfl) ?_ _;go_wp2_with fail;refine bn aQ dec.uy90 rfl rfl _ _ _ _ _ rfl hq9.o rfl ?_;exact ⟨rfl,B9.o⟩
end ch
end Go.Proofs.YtbahfelnbofjjaaGreatDoor
