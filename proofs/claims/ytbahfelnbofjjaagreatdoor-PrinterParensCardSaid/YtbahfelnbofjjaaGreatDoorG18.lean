/-
  The reference's rule of proper form of aggregates.
-/
import Derived.Test.YtbahfelnbofjjaaGreatDoorG16
set_option maxRecDepth 100000
set_option maxHeartbeats 16000000
namespace Go.Proofs.YtbahfelnbofjjaaGreatDoor
namespace ch
open Go.RowKit dec
theorem aB {P:Program} {Q:Exit→Act→World→Prop} {md:Region.Mode} {S:World→Prop} {l:List Oper} {i d:Nat} {oi:Oper} {fuel:Nat} {listed:Array Bool} {t:List Value} {ds:List Deferred} {w:World} (hi:l[i]? = some oi)
    (hs:Region.noSelect l.toArray=true) (hf:Region.free md l.toArray listed i=true) (hr:(Region.ready md l.toArray listed).contains i=true) (hd:oi.dst=some d)
    (hQ:∀ c a w,Q (.panic c) (a.put (some d) undef) w→Q (.panic c) a w) (hw:Region.wanted oi (yielded l.toArray t.toArray)=false) (hS:S w)
    (h:wpAnyH P md l.toArray Q S fuel (listed.setIfInBounds i true) ⟨(t.set d undef).toArray,ds⟩ w):wpAnyH P md l.toArray Q S (fuel+1) listed ⟨t.toArray,ds⟩ w:=by
 refine wpAnyH_take (i:=i) (oi:=oi) (v:=undef) (by simpa using hi) hs hf hr (by rw [hd];exact hQ) (.inr ⟨hw,rfl⟩) hS ?_;rw [hd];simpa [Act.put] using h
theorem bG {P:Program} {Q:Exit→Act→World→Prop} {md:Region.Mode} {S:World→Prop} {l:List Oper} {i:Nat} {oi:Oper} {fuel:Nat} {listed:Array Bool} {a:Act} {w:World} (hi:l[i]? = some oi)
    (hr:Region.ready md l.toArray listed=[i]) (hw:Region.wanted oi (yielded l.toArray a.tmps)=false) (hS:S w)
    (h:wpAnyH P md l.toArray Q S fuel (listed.setIfInBounds i true) (a.put oi.dst undef) w):wpAnyH P md l.toArray Q S (fuel+1) listed a w:=by
 refine wpAnyH_ready hr (by simp) (AllReadyH.cons (o:=oi) (by simpa using hi) (fun K hK=>?_) AllReadyH.nil);rw [if_neg (by rw [hw];decide)];exact hK.o _ _ hS (fun _=>h)
def yh (h:Hd):Hd:={ h0 with k:=5,op:=h.op,tb:=h.tb,pa:=h.pa,wk:=h.wk,ws:=h.ws }
def dR (op:ByteArray):Int:=if op=⟨#[100,101,99,97,121]⟩ then 1073741824 else if op=⟨#[113,117,97,110,116,105,108,101]⟩ then 1000 else 0
def Gm (h:Hd) (t:Int):Bool:=(ji.any fun t=>decide (t=h.op)) && (name h.tb && (gJ h.wk h.ws && (decide (h.pa≤t) && decide (min t 1≤h.pa))))
def mY (h:Hd):Bool:=Gm h (dR h.op) && flR h (yh h)
theorem xq (h:Hd) (n:Nat) (ua aa:Option Addr) (uc ac:Nat) (w:World) (hU:un.Sl w ua h.un.length uc h.un):Calls Tryz.prog 171 #[.agg (exC h n ua uc aa ac)] w (Bl (mY h) w):=by
 have bb:=au (b0 w) (.cells (exC h n ua uc aa ac) 29);have B0:=Hy bb;have G:=Hy (Blk.new w 29 (exC h n ua uc aa ac));have S0:=Hy (hU.keeps bb);have C1:=Hy (fun (W:World)=>qV W);have C2:=Hy (fun (a:Option Addr) (W:World) (S:SsV W a ji)=>(show Calls Tryz.prog 146 #[.string h.op,.slice a 10 10] W (Bl (ji.any fun t=>decide (t=h.op)) W) from (rG h.op a 10 ji (by decide) W S).mono fun _ _ hh=>⟨hh.1,hh.2 ▸ b0 W⟩));have C3:=Hy (fun (W:World)=>mV h.tb W);have C4:=Hy (fun (W:World)=>FH h.wk h.ws W);have C5:=Hy (fun (W:World) (S:un.Sl W ua h.un.length uc h.un)=>(show Calls Tryz.prog 70 #[.agg #[.int .i64 h.k,.string h.op,.string h.nm,.string h.tb,.int .i64 h.vk,.int .i64 h.vn,.string h.vs,.slice ua h.un.length uc,.int .i64 h.pa,.int .i64 h.wk,.int .i64 h.ws,.slice aa n ac],.agg #[.int .i64 5,.string h.op,.string ⟨#[]⟩,.string h.tb,.int .i64 0,.int .i64 0,.string ⟨#[]⟩,.slice none 0 0,.int .i64 h.pa,.int .i64 h.wk,.int .i64 h.ws,.slice none 0 0]] W (Bl (flR h (yh h)) W) from kF h (yh h) n 0 ua none aa none uc 0 ac 0 W S (un.Sl.nil W)));have hE:mY h=(Gm h (dR h.op) && flR h (yh h)):=rfl;clear hU bb;unfold Gm at hE;unfold exC at *;generalize flR h (yh h)=r at *;generalize (ji.any fun t=>decide (t=h.op))=A at *;generalize name h.tb=N at *;generalize gJ h.wk h.ws=V at *
 go_enter Tryz.func171,Tryz.ntmps171
 go_upto_region 2 with fail
 generalize hw0:(w.alloc (.cells #[.int .i64 h.k,.string h.op,.string h.nm,.string h.tb,.int .i64 h.vk,.int .i64 h.vn,.string h.vs,.slice ua h.un.length uc,.int .i64 h.pa,.int .i64 h.wk,.int .i64 h.ws,.slice aa n ac] 29))=w0 at *;clear hw0;have c1:=G.o.cell 1;simp only [sz2,sz3,sz4] at c1;by_cases hd:h.op=⟨#[100,101,99,97,121]⟩
 ·have nq:h.op≠⟨#[113,117,97,110,116,105,108,101]⟩:=fun e=>by rw [hd] at e;exact absurd e (by decide)
  go_upto_region 6 with fail
  have hT:dR h.op=1073741824:=by unfold dR;exact if_pos hd
  rw [hT] at hE;clear hT;replace hE:=Hy hE;clear c1 hd nq
  go_cut [39] from 10 to 40 (fun v wx => ∃ g:Bool,v=.bool g∧Hid (mY h=(!g && r))∧Hid (Below w0.heap.size w0 wx))
  case first =>
   refine wp_region_held_drew (S:=fun w' => Below w0.heap.size w0 w') (by kernel_rfl) (b0 w0).drew (fun hH=>?_);refine ak 0 10 ?_ hH (fun w' hS=>?_) ?_;rotate_left
   ·go_simp;try with_reducible rfl
   simp only [sz0,sz1];refine ak 1 11 ?_ hH (fun w' hS=>?_) ?_;rotate_left
   ·have m1:=(G.o.keeps hS).cell 1;simp only [sz2,sz3,sz4] at m1;go_simp;try with_reducible rfl
   simp only [sz0,sz1];generalize w0.drew=yy at *;refine aC 2 (fun K hK=>?_);go_simp;refine (C1.o _).mono ?_;rintro e y61 ⟨ag,rfl,sag,b61⟩;skip;refine hK.o _ _ (aA hH b61) (fun hH=>?_);clear hK K;have SA:=Hy sag;clear b61 sag;refine aC 3 (fun K hK=>?_);go_simp;refine (C2.o ag _ SA.o).mono ?_;rintro e y62 ⟨rfl,b62⟩;skip;refine hK.o _ _ (aA hH b62) (fun hH=>?_);clear hK K;replace SA:=Hy (SA.o.keeps b62);clear b62;cases A
   ·refine ak 4 14 ?_ hH (fun w' hS=>?_) ?_;rotate_left
    ·go_simp;try with_reducible rfl
    simp only [sz0,sz1];refine ak 5 15 ?_ hH (fun w' hS=>?_) ?_;rotate_left
    ·go_simp;try with_reducible rfl
    simp only [sz0,sz1];refine aB (i:=6) (d:=16) rfl (by kernel_rfl) (by kernel_rfl) (by kernel_rfl) rfl (fun _ _ _ h=>h) rfl hH ?_;simp only [sz0,sz1];refine aB (i:=7) (d:=17) rfl (by kernel_rfl) (by kernel_rfl) (by kernel_rfl) rfl (fun _ _ _ h=>h) rfl hH ?_;simp only [sz0,sz1];refine bG (i:=8) rfl (by kernel_rfl) rfl hH ?_;go_simp;refine aB (i:=9) (d:=19) rfl (by kernel_rfl) (by kernel_rfl) (by kernel_rfl) rfl (fun _ _ _ h=>h) rfl hH ?_;simp only [sz0,sz1];refine ak 10 20 ?_ hH (fun w' hS=>?_) ?_;rotate_left
    ·go_simp;try with_reducible rfl
    simp only [sz0,sz1];refine ak 11 21 ?_ hH (fun w' hS=>?_) ?_;rotate_left
    ·go_simp;try with_reducible rfl
    simp only [sz0,sz1];refine aB (i:=12) (d:=22) rfl (by kernel_rfl) (by kernel_rfl) (by kernel_rfl) rfl (fun _ _ _ h=>h) rfl hH ?_;simp only [sz0,sz1];refine aB (i:=13) (d:=23) rfl (by kernel_rfl) (by kernel_rfl) (by kernel_rfl) rfl (fun _ _ _ h=>h) rfl hH ?_;simp only [sz0,sz1];refine bG (i:=14) rfl (by kernel_rfl) rfl hH ?_;go_simp;refine aB (i:=15) (d:=25) rfl (by kernel_rfl) (by kernel_rfl) (by kernel_rfl) rfl (fun _ _ _ h=>h) rfl hH ?_;simp only [sz0,sz1];refine ak 16 26 ?_ hH (fun w' hS=>?_) ?_;rotate_left
    ·go_simp;try with_reducible rfl
    simp only [sz0,sz1];refine ak 17 27 ?_ hH (fun w' hS=>?_) ?_;rotate_left
    ·go_simp;try with_reducible rfl
    simp only [sz0,sz1];refine aB (i:=18) (d:=28) rfl (by kernel_rfl) (by kernel_rfl) (by kernel_rfl) rfl (fun _ _ _ h=>h) rfl hH ?_;simp only [sz0,sz1];refine aB (i:=19) (d:=29) rfl (by kernel_rfl) (by kernel_rfl) (by kernel_rfl) rfl (fun _ _ _ h=>h) rfl hH ?_;simp only [sz0,sz1];refine aB (i:=20) (d:=30) rfl (by kernel_rfl) (by kernel_rfl) (by kernel_rfl) rfl (fun _ _ _ h=>h) rfl hH ?_;simp only [sz0,sz1];refine aB (i:=21) (d:=31) rfl (by kernel_rfl) (by kernel_rfl) (by kernel_rfl) rfl (fun _ _ _ h=>h) rfl hH ?_;simp only [sz0,sz1];refine ak 22 32 ?_ hH (fun w' hS=>?_) ?_;rotate_left
    ·go_simp;try with_reducible rfl
    simp only [sz0,sz1];refine ak 23 33 ?_ hH (fun w' hS=>?_) ?_;rotate_left
    ·go_simp;try with_reducible rfl
    simp only [sz0,sz1];refine aB (i:=24) (d:=34) rfl (by kernel_rfl) (by kernel_rfl) (by kernel_rfl) rfl (fun _ _ _ h=>h) rfl hH ?_;simp only [sz0,sz1];refine aB (i:=25) (d:=35) rfl (by kernel_rfl) (by kernel_rfl) (by kernel_rfl) rfl (fun _ _ _ h=>h) rfl hH ?_;simp only [sz0,sz1];refine aB (i:=26) (d:=36) rfl (by kernel_rfl) (by kernel_rfl) (by kernel_rfl) rfl (fun _ _ _ h=>h) rfl hH ?_;simp only [sz0,sz1];refine bG (i:=27) rfl (by kernel_rfl) rfl hH ?_;go_simp;refine aB (i:=28) (d:=38) rfl (by kernel_rfl) (by kernel_rfl) (by kernel_rfl) rfl (fun _ _ _ h=>h) rfl hH ?_;simp only [sz0,sz1];refine ak 29 39 ?_ hH (fun w' hS=>?_) ?_;rotate_left
    ·go_simp;try with_reducible rfl
    simp only [sz0,sz1];refine wpAnyH_done (by kernel_rfl) ?_ _;go_wp2_with fail
    go_meet
    case rel=>exact ⟨true,rfl,Hy (by rw [hE.o];rfl),Hy hH⟩
   refine ak 4 14 ?_ hH (fun w' hS=>?_) ?_;rotate_left
   ·go_simp;try with_reducible rfl
   simp only [sz0,sz1];refine ak 5 15 ?_ hH (fun w' hS=>?_) ?_;rotate_left
   ·go_simp;try with_reducible rfl
   simp only [sz0,sz1];refine ak 6 16 ?_ hH (fun w' hS=>?_) ?_;rotate_left
   ·go_simp;try with_reducible rfl
   simp only [sz0,sz1];refine ak 7 17 ?_ hH (fun w' hS=>?_) ?_;rotate_left
   ·have m3:=(G.o.keeps hS).cell 3;simp only [sz2,sz3,sz4] at m3;go_simp;try with_reducible rfl
   simp only [sz0,sz1];refine aC 8 (fun K hK=>?_);go_simp;refine (C3.o _).mono ?_;rintro e y63 ⟨rfl,b63⟩;skip;refine hK.o _ _ (aA hH b63) (fun hH=>?_);clear hK K;replace SA:=Hy (SA.o.keeps b63);clear b63;refine ak 9 19 ?_ hH (fun w' hS=>?_) ?_;rotate_left
   ·go_simp;try with_reducible rfl
   simp only [sz0,sz1];cases N
   ·refine ak 10 20 ?_ hH (fun w' hS=>?_) ?_;rotate_left
    ·go_simp;try with_reducible rfl
    simp only [sz0,sz1];refine ak 11 21 ?_ hH (fun w' hS=>?_) ?_;rotate_left
    ·go_simp;try with_reducible rfl
    simp only [sz0,sz1];refine aB (i:=12) (d:=22) rfl (by kernel_rfl) (by kernel_rfl) (by kernel_rfl) rfl (fun _ _ _ h=>h) rfl hH ?_;simp only [sz0,sz1];refine aB (i:=13) (d:=23) rfl (by kernel_rfl) (by kernel_rfl) (by kernel_rfl) rfl (fun _ _ _ h=>h) rfl hH ?_;simp only [sz0,sz1];refine bG (i:=14) rfl (by kernel_rfl) rfl hH ?_;go_simp;refine aB (i:=15) (d:=25) rfl (by kernel_rfl) (by kernel_rfl) (by kernel_rfl) rfl (fun _ _ _ h=>h) rfl hH ?_;simp only [sz0,sz1];refine ak 16 26 ?_ hH (fun w' hS=>?_) ?_;rotate_left
    ·go_simp;try with_reducible rfl
    simp only [sz0,sz1];refine ak 17 27 ?_ hH (fun w' hS=>?_) ?_;rotate_left
    ·go_simp;try with_reducible rfl
    simp only [sz0,sz1];refine aB (i:=18) (d:=28) rfl (by kernel_rfl) (by kernel_rfl) (by kernel_rfl) rfl (fun _ _ _ h=>h) rfl hH ?_;simp only [sz0,sz1];refine aB (i:=19) (d:=29) rfl (by kernel_rfl) (by kernel_rfl) (by kernel_rfl) rfl (fun _ _ _ h=>h) rfl hH ?_;simp only [sz0,sz1];refine aB (i:=20) (d:=30) rfl (by kernel_rfl) (by kernel_rfl) (by kernel_rfl) rfl (fun _ _ _ h=>h) rfl hH ?_;simp only [sz0,sz1];refine aB (i:=21) (d:=31) rfl (by kernel_rfl) (by kernel_rfl) (by kernel_rfl) rfl (fun _ _ _ h=>h) rfl hH ?_;simp only [sz0,sz1];refine ak 22 32 ?_ hH (fun w' hS=>?_) ?_;rotate_left
    ·go_simp;try with_reducible rfl
    simp only [sz0,sz1];refine ak 23 33 ?_ hH (fun w' hS=>?_) ?_;rotate_left
    ·go_simp;try with_reducible rfl
    simp only [sz0,sz1];refine aB (i:=24) (d:=34) rfl (by kernel_rfl) (by kernel_rfl) (by kernel_rfl) rfl (fun _ _ _ h=>h) rfl hH ?_;simp only [sz0,sz1];refine aB (i:=25) (d:=35) rfl (by kernel_rfl) (by kernel_rfl) (by kernel_rfl) rfl (fun _ _ _ h=>h) rfl hH ?_;simp only [sz0,sz1];refine aB (i:=26) (d:=36) rfl (by kernel_rfl) (by kernel_rfl) (by kernel_rfl) rfl (fun _ _ _ h=>h) rfl hH ?_;simp only [sz0,sz1];refine bG (i:=27) rfl (by kernel_rfl) rfl hH ?_;go_simp;refine aB (i:=28) (d:=38) rfl (by kernel_rfl) (by kernel_rfl) (by kernel_rfl) rfl (fun _ _ _ h=>h) rfl hH ?_;simp only [sz0,sz1];refine ak 29 39 ?_ hH (fun w' hS=>?_) ?_;rotate_left
    ·go_simp;try with_reducible rfl
    simp only [sz0,sz1];refine wpAnyH_done (by kernel_rfl) ?_ _;go_wp2_with fail
    go_meet
    case rel=>exact ⟨true,rfl,Hy (by rw [hE.o];rfl),Hy hH⟩
   refine ak 10 20 ?_ hH (fun w' hS=>?_) ?_;rotate_left
   ·go_simp;try with_reducible rfl
   simp only [sz0,sz1];refine ak 11 21 ?_ hH (fun w' hS=>?_) ?_;rotate_left
   ·go_simp;try with_reducible rfl
   simp only [sz0,sz1];refine ak 12 22 ?_ hH (fun w' hS=>?_) ?_;rotate_left
   ·go_simp;try with_reducible rfl
   simp only [sz0,sz1];refine aZ 13 23 (.agg #[.int .i64 h.wk,.int .i64 h.ws]) rfl (by kernel_rfl) rfl (fun _ _ _ h=>h) rfl hH (fun w' hS=>cK fK Tryz.underlying26 rfl (.tmp 22) rfl w.heap.size 9 #[.int .i64 h.wk,.int .i64 h.ws] rfl (eu (G.o.keeps hS) 9 [.int .i64 h.wk,.int .i64 h.ws] rfl) rfl) ?_;simp only [sz0,sz1];refine aC 14 (fun K hK=>?_);go_simp;refine (C4.o _).mono ?_;rintro e y64 ⟨rfl,b64⟩;skip;refine hK.o _ _ (aA hH b64) (fun hH=>?_);clear hK K;replace SA:=Hy (SA.o.keeps b64);clear b64;refine ak 15 25 ?_ hH (fun w' hS=>?_) ?_;rotate_left
   ·go_simp;try with_reducible rfl
   simp only [sz0,sz1];cases V
   ·refine ak 16 26 ?_ hH (fun w' hS=>?_) ?_;rotate_left
    ·go_simp;try with_reducible rfl
    simp only [sz0,sz1];refine ak 17 27 ?_ hH (fun w' hS=>?_) ?_;rotate_left
    ·go_simp;try with_reducible rfl
    simp only [sz0,sz1];refine aB (i:=18) (d:=28) rfl (by kernel_rfl) (by kernel_rfl) (by kernel_rfl) rfl (fun _ _ _ h=>h) rfl hH ?_;simp only [sz0,sz1];refine aB (i:=19) (d:=29) rfl (by kernel_rfl) (by kernel_rfl) (by kernel_rfl) rfl (fun _ _ _ h=>h) rfl hH ?_;simp only [sz0,sz1];refine aB (i:=20) (d:=30) rfl (by kernel_rfl) (by kernel_rfl) (by kernel_rfl) rfl (fun _ _ _ h=>h) rfl hH ?_;simp only [sz0,sz1];refine aB (i:=21) (d:=31) rfl (by kernel_rfl) (by kernel_rfl) (by kernel_rfl) rfl (fun _ _ _ h=>h) rfl hH ?_;simp only [sz0,sz1];refine ak 22 32 ?_ hH (fun w' hS=>?_) ?_;rotate_left
    ·go_simp;try with_reducible rfl
    simp only [sz0,sz1];refine ak 23 33 ?_ hH (fun w' hS=>?_) ?_;rotate_left
    ·go_simp;try with_reducible rfl
    simp only [sz0,sz1];refine aB (i:=24) (d:=34) rfl (by kernel_rfl) (by kernel_rfl) (by kernel_rfl) rfl (fun _ _ _ h=>h) rfl hH ?_;simp only [sz0,sz1];refine aB (i:=25) (d:=35) rfl (by kernel_rfl) (by kernel_rfl) (by kernel_rfl) rfl (fun _ _ _ h=>h) rfl hH ?_;simp only [sz0,sz1];refine aB (i:=26) (d:=36) rfl (by kernel_rfl) (by kernel_rfl) (by kernel_rfl) rfl (fun _ _ _ h=>h) rfl hH ?_;simp only [sz0,sz1];refine bG (i:=27) rfl (by kernel_rfl) rfl hH ?_;go_simp;refine aB (i:=28) (d:=38) rfl (by kernel_rfl) (by kernel_rfl) (by kernel_rfl) rfl (fun _ _ _ h=>h) rfl hH ?_;simp only [sz0,sz1];refine ak 29 39 ?_ hH (fun w' hS=>?_) ?_;rotate_left
    ·go_simp;try with_reducible rfl
    simp only [sz0,sz1];refine wpAnyH_done (by kernel_rfl) ?_ _;go_wp2_with fail
    go_meet
    case rel=>exact ⟨true,rfl,Hy (by rw [hE.o];rfl),Hy hH⟩
   refine ak 16 26 ?_ hH (fun w' hS=>?_) ?_;rotate_left
   ·go_simp;try with_reducible rfl
   simp only [sz0,sz1];refine ak 17 27 ?_ hH (fun w' hS=>?_) ?_;rotate_left
   ·go_simp;try with_reducible rfl
   simp only [sz0,sz1];refine ak 18 28 ?_ hH (fun w' hS=>?_) ?_;rotate_left
   ·go_simp;try with_reducible rfl
   simp only [sz0,sz1];refine ak 19 29 ?_ hH (fun w' hS=>?_) ?_;rotate_left
   ·have m8:=(G.o.keeps hS).cell 8;simp only [sz2,sz3,sz4] at m8;go_simp;try with_reducible rfl
   simp only [sz0,sz1];refine ak 20 30 ?_ hH (fun w' hS=>?_) ?_;rotate_left
   ·go_simp;try with_reducible rfl
   simp only [sz0,sz1];refine ak 21 31 ?_ hH (fun w' hS=>?_) ?_;rotate_left
   ·go_simp;try with_reducible rfl
   simp only [sz0,sz1];by_cases hp:h.pa≤1073741824
   ·have q:=dT (p:=h.pa≤1073741824) hp;have q2:decide (1073741824<h.pa)=false:=dF (by omega);simp only [q2];refine ak 22 32 ?_ hH (fun w' hS=>?_) ?_;rotate_left
    ·go_simp;try with_reducible rfl
    simp only [sz0,sz1];refine ak 23 33 ?_ hH (fun w' hS=>?_) ?_;rotate_left
    ·go_simp;try with_reducible rfl
    simp only [sz0,sz1];refine ak 24 34 ?_ hH (fun w' hS=>?_) ?_;rotate_left
    ·go_simp;try with_reducible rfl
    simp only [sz0,sz1];refine ak 25 35 ?_ hH (fun w' hS=>?_) ?_;rotate_left
    ·have m8:=(G.o.keeps hS).cell 8;simp only [sz2,sz3,sz4] at m8;go_simp;try with_reducible rfl
    simp only [sz0,sz1];refine ak 26 36 ?_ hH (fun w' hS=>?_) ?_;rotate_left
    ·go_simp;try with_reducible rfl
    simp only [sz0,sz1];refine aC 27 (fun K hK=>?_);go_simp;refine hK.o _ _ hH (fun hH=>?_);clear hK K;by_cases hl:1≤h.pa
    ·have u:=dT (p:=1≤h.pa) hl;have u2:decide (h.pa<min 1073741824 1)=false:=dF (by rw [show min (1073741824:Int) 1=1 from rfl];omega);refine ak 28 38 ?_ hH (fun w' hS=>?_) ?_;rotate_left
     ·go_simp;try with_reducible rfl
     simp only [sz0,sz1];refine ak 29 39 ?_ hH (fun w' hS=>?_) ?_;rotate_left
     ·go_simp;try with_reducible rfl
     simp only [sz0,sz1];refine wpAnyH_done (by kernel_rfl) ?_ _;go_wp2_with fail
     go_meet
     case rel=>exact ⟨false,rfl,Hy (by rw [hE.o,q,show min (1073741824:Int) 1=1 from rfl,u];rfl),Hy hH⟩
    have u:=dF (p:=1≤h.pa) hl;have u2:decide (h.pa<min 1073741824 1)=true:=dT (by rw [show min (1073741824:Int) 1=1 from rfl];omega);refine ak 28 38 ?_ hH (fun w' hS=>?_) ?_;rotate_left
    ·go_simp;try with_reducible rfl
    simp only [sz0,sz1];refine ak 29 39 ?_ hH (fun w' hS=>?_) ?_;rotate_left
    ·go_simp;try with_reducible rfl
    simp only [sz0,sz1];refine wpAnyH_done (by kernel_rfl) ?_ _;go_wp2_with fail
    go_meet
    case rel=>exact ⟨true,rfl,Hy (by rw [hE.o,q,show min (1073741824:Int) 1=1 from rfl,u];rfl),Hy hH⟩
   have q:=dF (p:=h.pa≤1073741824) hp;have q2:decide (1073741824<h.pa)=true:=dT (by omega);simp only [q2];refine ak 22 32 ?_ hH (fun w' hS=>?_) ?_;rotate_left
   ·go_simp;try with_reducible rfl
   simp only [sz0,sz1];refine ak 23 33 ?_ hH (fun w' hS=>?_) ?_;rotate_left
   ·go_simp;try with_reducible rfl
   simp only [sz0,sz1];refine aB (i:=24) (d:=34) rfl (by kernel_rfl) (by kernel_rfl) (by kernel_rfl) rfl (fun _ _ _ h=>h) rfl hH ?_;simp only [sz0,sz1];refine aB (i:=25) (d:=35) rfl (by kernel_rfl) (by kernel_rfl) (by kernel_rfl) rfl (fun _ _ _ h=>h) rfl hH ?_;simp only [sz0,sz1];refine aB (i:=26) (d:=36) rfl (by kernel_rfl) (by kernel_rfl) (by kernel_rfl) rfl (fun _ _ _ h=>h) rfl hH ?_;simp only [sz0,sz1];refine bG (i:=27) rfl (by kernel_rfl) rfl hH ?_;go_simp;refine aB (i:=28) (d:=38) rfl (by kernel_rfl) (by kernel_rfl) (by kernel_rfl) rfl (fun _ _ _ h=>h) rfl hH ?_;simp only [sz0,sz1];refine ak 29 39 ?_ hH (fun w' hS=>?_) ?_;rotate_left
   ·go_simp;try with_reducible rfl
   simp only [sz0,sz1];refine wpAnyH_done (by kernel_rfl) ?_ _;go_wp2_with fail
   go_meet
   case rel=>exact ⟨true,rfl,Hy (by rw [hE.o,q];rfl),Hy hH⟩
  case rest =>
   obtain ⟨g,rfl,hR,BW⟩:=hcut;have Bx:=Hy (aA B0.o BW.o);replace G:=Hy (G.o.keeps BW.o);replace S0:=Hy (S0.o.keeps BW.o);generalize wc=w5 at *;clear hE BW C1 C2 C3 C4;have n1:=G.o.cell 1;have n3:=G.o.cell 3;have n8:=G.o.cell 8;simp only [sz2,sz3,sz4] at n1 n3 n8;have RW:=Hy (eu G.o 9 [.int .i64 h.wk,.int .i64 h.ws] rfl);cases g
   ·go_wp2_with (first | (refine aF aJ Tryz.underlying29 rfl (.tmp 1) rfl rfl _ _ _ rfl G.o rfl ?_) | (refine dM fK Tryz.underlying26 rfl (.tmp 47) rfl rfl w.heap.size 9 #[.int .i64 h.wk,.int .i64 h.ws] rfl RW.o rfl ?_));refine (C5.o _ S0.o).mono ?_;rintro e w6 ⟨rfl,b6⟩;have B6:=Hy (aA Bx.o b6);clear b6 C5;go_wp2_with fail;go_ret;exact aK (by rw [hR.o];rfl) B6.o
   go_wp2_with fail;go_ret;exact aK (by rw [hR.o];rfl) Bx.o
 have kd:(h.op.toList==[100,101,99,97,121])=false:=by rw [eqL];exact dF hd
 by_cases hq:h.op=⟨#[113,117,97,110,116,105,108,101]⟩
 ·go_upto_region 6 with fail
  have hT:dR h.op=1000:=by unfold dR;rw [if_neg hd,if_pos hq]
  rw [hT] at hE;clear hT;replace hE:=Hy hE;clear c1 hd hq kd
  go_cut [39] from 10 to 40 (fun v wx => ∃ g:Bool,v=.bool g∧Hid (mY h=(!g && r))∧Hid (Below w0.heap.size w0 wx))
  case first =>
   refine wp_region_held_drew (S:=fun w' => Below w0.heap.size w0 w') (by kernel_rfl) (b0 w0).drew (fun hH=>?_);refine ak 0 10 ?_ hH (fun w' hS=>?_) ?_;rotate_left
   ·go_simp;try with_reducible rfl
   simp only [sz0,sz1];refine ak 1 11 ?_ hH (fun w' hS=>?_) ?_;rotate_left
   ·have m1:=(G.o.keeps hS).cell 1;simp only [sz2,sz3,sz4] at m1;go_simp;try with_reducible rfl
   simp only [sz0,sz1];generalize w0.drew=yy at *;refine aC 2 (fun K hK=>?_);go_simp;refine (C1.o _).mono ?_;rintro e y61 ⟨ag,rfl,sag,b61⟩;skip;refine hK.o _ _ (aA hH b61) (fun hH=>?_);clear hK K;have SA:=Hy sag;clear b61 sag;refine aC 3 (fun K hK=>?_);go_simp;refine (C2.o ag _ SA.o).mono ?_;rintro e y62 ⟨rfl,b62⟩;skip;refine hK.o _ _ (aA hH b62) (fun hH=>?_);clear hK K;replace SA:=Hy (SA.o.keeps b62);clear b62;cases A
   ·refine ak 4 14 ?_ hH (fun w' hS=>?_) ?_;rotate_left
    ·go_simp;try with_reducible rfl
    simp only [sz0,sz1];refine ak 5 15 ?_ hH (fun w' hS=>?_) ?_;rotate_left
    ·go_simp;try with_reducible rfl
    simp only [sz0,sz1];refine aB (i:=6) (d:=16) rfl (by kernel_rfl) (by kernel_rfl) (by kernel_rfl) rfl (fun _ _ _ h=>h) rfl hH ?_;simp only [sz0,sz1];refine aB (i:=7) (d:=17) rfl (by kernel_rfl) (by kernel_rfl) (by kernel_rfl) rfl (fun _ _ _ h=>h) rfl hH ?_;simp only [sz0,sz1];refine bG (i:=8) rfl (by kernel_rfl) rfl hH ?_;go_simp;refine aB (i:=9) (d:=19) rfl (by kernel_rfl) (by kernel_rfl) (by kernel_rfl) rfl (fun _ _ _ h=>h) rfl hH ?_;simp only [sz0,sz1];refine ak 10 20 ?_ hH (fun w' hS=>?_) ?_;rotate_left
    ·go_simp;try with_reducible rfl
    simp only [sz0,sz1];refine ak 11 21 ?_ hH (fun w' hS=>?_) ?_;rotate_left
    ·go_simp;try with_reducible rfl
    simp only [sz0,sz1];refine aB (i:=12) (d:=22) rfl (by kernel_rfl) (by kernel_rfl) (by kernel_rfl) rfl (fun _ _ _ h=>h) rfl hH ?_;simp only [sz0,sz1];refine aB (i:=13) (d:=23) rfl (by kernel_rfl) (by kernel_rfl) (by kernel_rfl) rfl (fun _ _ _ h=>h) rfl hH ?_;simp only [sz0,sz1];refine bG (i:=14) rfl (by kernel_rfl) rfl hH ?_;go_simp;refine aB (i:=15) (d:=25) rfl (by kernel_rfl) (by kernel_rfl) (by kernel_rfl) rfl (fun _ _ _ h=>h) rfl hH ?_;simp only [sz0,sz1];refine ak 16 26 ?_ hH (fun w' hS=>?_) ?_;rotate_left
    ·go_simp;try with_reducible rfl
    simp only [sz0,sz1];refine ak 17 27 ?_ hH (fun w' hS=>?_) ?_;rotate_left
    ·go_simp;try with_reducible rfl
    simp only [sz0,sz1];refine aB (i:=18) (d:=28) rfl (by kernel_rfl) (by kernel_rfl) (by kernel_rfl) rfl (fun _ _ _ h=>h) rfl hH ?_;simp only [sz0,sz1];refine aB (i:=19) (d:=29) rfl (by kernel_rfl) (by kernel_rfl) (by kernel_rfl) rfl (fun _ _ _ h=>h) rfl hH ?_;simp only [sz0,sz1];refine aB (i:=20) (d:=30) rfl (by kernel_rfl) (by kernel_rfl) (by kernel_rfl) rfl (fun _ _ _ h=>h) rfl hH ?_;simp only [sz0,sz1];refine aB (i:=21) (d:=31) rfl (by kernel_rfl) (by kernel_rfl) (by kernel_rfl) rfl (fun _ _ _ h=>h) rfl hH ?_;simp only [sz0,sz1];refine ak 22 32 ?_ hH (fun w' hS=>?_) ?_;rotate_left
    ·go_simp;try with_reducible rfl
    simp only [sz0,sz1];refine ak 23 33 ?_ hH (fun w' hS=>?_) ?_;rotate_left
    ·go_simp;try with_reducible rfl
    simp only [sz0,sz1];refine aB (i:=24) (d:=34) rfl (by kernel_rfl) (by kernel_rfl) (by kernel_rfl) rfl (fun _ _ _ h=>h) rfl hH ?_;simp only [sz0,sz1];refine aB (i:=25) (d:=35) rfl (by kernel_rfl) (by kernel_rfl) (by kernel_rfl) rfl (fun _ _ _ h=>h) rfl hH ?_;simp only [sz0,sz1];refine aB (i:=26) (d:=36) rfl (by kernel_rfl) (by kernel_rfl) (by kernel_rfl) rfl (fun _ _ _ h=>h) rfl hH ?_;simp only [sz0,sz1];refine bG (i:=27) rfl (by kernel_rfl) rfl hH ?_;go_simp;refine aB (i:=28) (d:=38) rfl (by kernel_rfl) (by kernel_rfl) (by kernel_rfl) rfl (fun _ _ _ h=>h) rfl hH ?_;simp only [sz0,sz1];refine ak 29 39 ?_ hH (fun w' hS=>?_) ?_;rotate_left
    ·go_simp;try with_reducible rfl
    simp only [sz0,sz1];refine wpAnyH_done (by kernel_rfl) ?_ _;go_wp2_with fail
    go_meet
    case rel=>exact ⟨true,rfl,Hy (by rw [hE.o];rfl),Hy hH⟩
   refine ak 4 14 ?_ hH (fun w' hS=>?_) ?_;rotate_left
   ·go_simp;try with_reducible rfl
   simp only [sz0,sz1];refine ak 5 15 ?_ hH (fun w' hS=>?_) ?_;rotate_left
   ·go_simp;try with_reducible rfl
   simp only [sz0,sz1];refine ak 6 16 ?_ hH (fun w' hS=>?_) ?_;rotate_left
   ·go_simp;try with_reducible rfl
   simp only [sz0,sz1];refine ak 7 17 ?_ hH (fun w' hS=>?_) ?_;rotate_left
   ·have m3:=(G.o.keeps hS).cell 3;simp only [sz2,sz3,sz4] at m3;go_simp;try with_reducible rfl
   simp only [sz0,sz1];refine aC 8 (fun K hK=>?_);go_simp;refine (C3.o _).mono ?_;rintro e y63 ⟨rfl,b63⟩;skip;refine hK.o _ _ (aA hH b63) (fun hH=>?_);clear hK K;replace SA:=Hy (SA.o.keeps b63);clear b63;refine ak 9 19 ?_ hH (fun w' hS=>?_) ?_;rotate_left
   ·go_simp;try with_reducible rfl
   simp only [sz0,sz1];cases N
   ·refine ak 10 20 ?_ hH (fun w' hS=>?_) ?_;rotate_left
    ·go_simp;try with_reducible rfl
    simp only [sz0,sz1];refine ak 11 21 ?_ hH (fun w' hS=>?_) ?_;rotate_left
    ·go_simp;try with_reducible rfl
    simp only [sz0,sz1];refine aB (i:=12) (d:=22) rfl (by kernel_rfl) (by kernel_rfl) (by kernel_rfl) rfl (fun _ _ _ h=>h) rfl hH ?_;simp only [sz0,sz1];refine aB (i:=13) (d:=23) rfl (by kernel_rfl) (by kernel_rfl) (by kernel_rfl) rfl (fun _ _ _ h=>h) rfl hH ?_;simp only [sz0,sz1];refine bG (i:=14) rfl (by kernel_rfl) rfl hH ?_;go_simp;refine aB (i:=15) (d:=25) rfl (by kernel_rfl) (by kernel_rfl) (by kernel_rfl) rfl (fun _ _ _ h=>h) rfl hH ?_;simp only [sz0,sz1];refine ak 16 26 ?_ hH (fun w' hS=>?_) ?_;rotate_left
    ·go_simp;try with_reducible rfl
    simp only [sz0,sz1];refine ak 17 27 ?_ hH (fun w' hS=>?_) ?_;rotate_left
    ·go_simp;try with_reducible rfl
    simp only [sz0,sz1];refine aB (i:=18) (d:=28) rfl (by kernel_rfl) (by kernel_rfl) (by kernel_rfl) rfl (fun _ _ _ h=>h) rfl hH ?_;simp only [sz0,sz1];refine aB (i:=19) (d:=29) rfl (by kernel_rfl) (by kernel_rfl) (by kernel_rfl) rfl (fun _ _ _ h=>h) rfl hH ?_;simp only [sz0,sz1];refine aB (i:=20) (d:=30) rfl (by kernel_rfl) (by kernel_rfl) (by kernel_rfl) rfl (fun _ _ _ h=>h) rfl hH ?_;simp only [sz0,sz1];refine aB (i:=21) (d:=31) rfl (by kernel_rfl) (by kernel_rfl) (by kernel_rfl) rfl (fun _ _ _ h=>h) rfl hH ?_;simp only [sz0,sz1];refine ak 22 32 ?_ hH (fun w' hS=>?_) ?_;rotate_left
    ·go_simp;try with_reducible rfl
    simp only [sz0,sz1];refine ak 23 33 ?_ hH (fun w' hS=>?_) ?_;rotate_left
    ·go_simp;try with_reducible rfl
    simp only [sz0,sz1];refine aB (i:=24) (d:=34) rfl (by kernel_rfl) (by kernel_rfl) (by kernel_rfl) rfl (fun _ _ _ h=>h) rfl hH ?_;simp only [sz0,sz1];refine aB (i:=25) (d:=35) rfl (by kernel_rfl) (by kernel_rfl) (by kernel_rfl) rfl (fun _ _ _ h=>h) rfl hH ?_;simp only [sz0,sz1];refine aB (i:=26) (d:=36) rfl (by kernel_rfl) (by kernel_rfl) (by kernel_rfl) rfl (fun _ _ _ h=>h) rfl hH ?_;simp only [sz0,sz1];refine bG (i:=27) rfl (by kernel_rfl) rfl hH ?_;go_simp;refine aB (i:=28) (d:=38) rfl (by kernel_rfl) (by kernel_rfl) (by kernel_rfl) rfl (fun _ _ _ h=>h) rfl hH ?_;simp only [sz0,sz1];refine ak 29 39 ?_ hH (fun w' hS=>?_) ?_;rotate_left
    ·go_simp;try with_reducible rfl
    simp only [sz0,sz1];refine wpAnyH_done (by kernel_rfl) ?_ _;go_wp2_with fail
    go_meet
    case rel=>exact ⟨true,rfl,Hy (by rw [hE.o];rfl),Hy hH⟩
   refine ak 10 20 ?_ hH (fun w' hS=>?_) ?_;rotate_left
   ·go_simp;try with_reducible rfl
   simp only [sz0,sz1];refine ak 11 21 ?_ hH (fun w' hS=>?_) ?_;rotate_left
   ·go_simp;try with_reducible rfl
   simp only [sz0,sz1];refine ak 12 22 ?_ hH (fun w' hS=>?_) ?_;rotate_left
   ·go_simp;try with_reducible rfl
   simp only [sz0,sz1];refine aZ 13 23 (.agg #[.int .i64 h.wk,.int .i64 h.ws]) rfl (by kernel_rfl) rfl (fun _ _ _ h=>h) rfl hH (fun w' hS=>cK fK Tryz.underlying26 rfl (.tmp 22) rfl w.heap.size 9 #[.int .i64 h.wk,.int .i64 h.ws] rfl (eu (G.o.keeps hS) 9 [.int .i64 h.wk,.int .i64 h.ws] rfl) rfl) ?_;simp only [sz0,sz1];refine aC 14 (fun K hK=>?_);go_simp;refine (C4.o _).mono ?_;rintro e y64 ⟨rfl,b64⟩;skip;refine hK.o _ _ (aA hH b64) (fun hH=>?_);clear hK K;replace SA:=Hy (SA.o.keeps b64);clear b64;refine ak 15 25 ?_ hH (fun w' hS=>?_) ?_;rotate_left
   ·go_simp;try with_reducible rfl
   simp only [sz0,sz1];cases V
   ·refine ak 16 26 ?_ hH (fun w' hS=>?_) ?_;rotate_left
    ·go_simp;try with_reducible rfl
    simp only [sz0,sz1];refine ak 17 27 ?_ hH (fun w' hS=>?_) ?_;rotate_left
    ·go_simp;try with_reducible rfl
    simp only [sz0,sz1];refine aB (i:=18) (d:=28) rfl (by kernel_rfl) (by kernel_rfl) (by kernel_rfl) rfl (fun _ _ _ h=>h) rfl hH ?_;simp only [sz0,sz1];refine aB (i:=19) (d:=29) rfl (by kernel_rfl) (by kernel_rfl) (by kernel_rfl) rfl (fun _ _ _ h=>h) rfl hH ?_;simp only [sz0,sz1];refine aB (i:=20) (d:=30) rfl (by kernel_rfl) (by kernel_rfl) (by kernel_rfl) rfl (fun _ _ _ h=>h) rfl hH ?_;simp only [sz0,sz1];refine aB (i:=21) (d:=31) rfl (by kernel_rfl) (by kernel_rfl) (by kernel_rfl) rfl (fun _ _ _ h=>h) rfl hH ?_;simp only [sz0,sz1];refine ak 22 32 ?_ hH (fun w' hS=>?_) ?_;rotate_left
    ·go_simp;try with_reducible rfl
    simp only [sz0,sz1];refine ak 23 33 ?_ hH (fun w' hS=>?_) ?_;rotate_left
    ·go_simp;try with_reducible rfl
    simp only [sz0,sz1];refine aB (i:=24) (d:=34) rfl (by kernel_rfl) (by kernel_rfl) (by kernel_rfl) rfl (fun _ _ _ h=>h) rfl hH ?_;simp only [sz0,sz1];refine aB (i:=25) (d:=35) rfl (by kernel_rfl) (by kernel_rfl) (by kernel_rfl) rfl (fun _ _ _ h=>h) rfl hH ?_;simp only [sz0,sz1];refine aB (i:=26) (d:=36) rfl (by kernel_rfl) (by kernel_rfl) (by kernel_rfl) rfl (fun _ _ _ h=>h) rfl hH ?_;simp only [sz0,sz1];refine bG (i:=27) rfl (by kernel_rfl) rfl hH ?_;go_simp;refine aB (i:=28) (d:=38) rfl (by kernel_rfl) (by kernel_rfl) (by kernel_rfl) rfl (fun _ _ _ h=>h) rfl hH ?_;simp only [sz0,sz1];refine ak 29 39 ?_ hH (fun w' hS=>?_) ?_;rotate_left
    ·go_simp;try with_reducible rfl
    simp only [sz0,sz1];refine wpAnyH_done (by kernel_rfl) ?_ _;go_wp2_with fail
    go_meet
    case rel=>exact ⟨true,rfl,Hy (by rw [hE.o];rfl),Hy hH⟩
   refine ak 16 26 ?_ hH (fun w' hS=>?_) ?_;rotate_left
   ·go_simp;try with_reducible rfl
   simp only [sz0,sz1];refine ak 17 27 ?_ hH (fun w' hS=>?_) ?_;rotate_left
   ·go_simp;try with_reducible rfl
   simp only [sz0,sz1];refine ak 18 28 ?_ hH (fun w' hS=>?_) ?_;rotate_left
   ·go_simp;try with_reducible rfl
   simp only [sz0,sz1];refine ak 19 29 ?_ hH (fun w' hS=>?_) ?_;rotate_left
   ·have m8:=(G.o.keeps hS).cell 8;simp only [sz2,sz3,sz4] at m8;go_simp;try with_reducible rfl
   simp only [sz0,sz1];refine ak 20 30 ?_ hH (fun w' hS=>?_) ?_;rotate_left
   ·go_simp;try with_reducible rfl
   simp only [sz0,sz1];refine ak 21 31 ?_ hH (fun w' hS=>?_) ?_;rotate_left
   ·go_simp;try with_reducible rfl
   simp only [sz0,sz1];by_cases hp:h.pa≤1000
   ·have q:=dT (p:=h.pa≤1000) hp;have q2:decide (1000<h.pa)=false:=dF (by omega);simp only [q2];refine ak 22 32 ?_ hH (fun w' hS=>?_) ?_;rotate_left
    ·go_simp;try with_reducible rfl
    simp only [sz0,sz1];refine ak 23 33 ?_ hH (fun w' hS=>?_) ?_;rotate_left
    ·go_simp;try with_reducible rfl
    simp only [sz0,sz1];refine ak 24 34 ?_ hH (fun w' hS=>?_) ?_;rotate_left
    ·go_simp;try with_reducible rfl
    simp only [sz0,sz1];refine ak 25 35 ?_ hH (fun w' hS=>?_) ?_;rotate_left
    ·have m8:=(G.o.keeps hS).cell 8;simp only [sz2,sz3,sz4] at m8;go_simp;try with_reducible rfl
    simp only [sz0,sz1];refine ak 26 36 ?_ hH (fun w' hS=>?_) ?_;rotate_left
    ·go_simp;try with_reducible rfl
    simp only [sz0,sz1];refine aC 27 (fun K hK=>?_);go_simp;refine hK.o _ _ hH (fun hH=>?_);clear hK K;by_cases hl:1≤h.pa
    ·have u:=dT (p:=1≤h.pa) hl;have u2:decide (h.pa<min 1000 1)=false:=dF (by rw [show min (1000:Int) 1=1 from rfl];omega);refine ak 28 38 ?_ hH (fun w' hS=>?_) ?_;rotate_left
     ·go_simp;try with_reducible rfl
     simp only [sz0,sz1];refine ak 29 39 ?_ hH (fun w' hS=>?_) ?_;rotate_left
     ·go_simp;try with_reducible rfl
     simp only [sz0,sz1];refine wpAnyH_done (by kernel_rfl) ?_ _;go_wp2_with fail
     go_meet
     case rel=>exact ⟨false,rfl,Hy (by rw [hE.o,q,show min (1000:Int) 1=1 from rfl,u];rfl),Hy hH⟩
    have u:=dF (p:=1≤h.pa) hl;have u2:decide (h.pa<min 1000 1)=true:=dT (by rw [show min (1000:Int) 1=1 from rfl];omega);refine ak 28 38 ?_ hH (fun w' hS=>?_) ?_;rotate_left
    ·go_simp;try with_reducible rfl
    simp only [sz0,sz1];refine ak 29 39 ?_ hH (fun w' hS=>?_) ?_;rotate_left
    ·go_simp;try with_reducible rfl
    simp only [sz0,sz1];refine wpAnyH_done (by kernel_rfl) ?_ _;go_wp2_with fail
    go_meet
    case rel=>exact ⟨true,rfl,Hy (by rw [hE.o,q,show min (1000:Int) 1=1 from rfl,u];rfl),Hy hH⟩
   have q:=dF (p:=h.pa≤1000) hp;have q2:decide (1000<h.pa)=true:=dT (by omega);simp only [q2];refine ak 22 32 ?_ hH (fun w' hS=>?_) ?_;rotate_left
   ·go_simp;try with_reducible rfl
   simp only [sz0,sz1];refine ak 23 33 ?_ hH (fun w' hS=>?_) ?_;rotate_left
   ·go_simp;try with_reducible rfl
   simp only [sz0,sz1];refine aB (i:=24) (d:=34) rfl (by kernel_rfl) (by kernel_rfl) (by kernel_rfl) rfl (fun _ _ _ h=>h) rfl hH ?_;simp only [sz0,sz1];refine aB (i:=25) (d:=35) rfl (by kernel_rfl) (by kernel_rfl) (by kernel_rfl) rfl (fun _ _ _ h=>h) rfl hH ?_;simp only [sz0,sz1];refine aB (i:=26) (d:=36) rfl (by kernel_rfl) (by kernel_rfl) (by kernel_rfl) rfl (fun _ _ _ h=>h) rfl hH ?_;simp only [sz0,sz1];refine bG (i:=27) rfl (by kernel_rfl) rfl hH ?_;go_simp;refine aB (i:=28) (d:=38) rfl (by kernel_rfl) (by kernel_rfl) (by kernel_rfl) rfl (fun _ _ _ h=>h) rfl hH ?_;simp only [sz0,sz1];refine ak 29 39 ?_ hH (fun w' hS=>?_) ?_;rotate_left
   ·go_simp;try with_reducible rfl
   simp only [sz0,sz1];refine wpAnyH_done (by kernel_rfl) ?_ _;go_wp2_with fail
   go_meet
   case rel=>exact ⟨true,rfl,Hy (by rw [hE.o,q];rfl),Hy hH⟩
  case rest =>
   obtain ⟨g,rfl,hR,BW⟩:=hcut;have Bx:=Hy (aA B0.o BW.o);replace G:=Hy (G.o.keeps BW.o);replace S0:=Hy (S0.o.keeps BW.o);generalize wc=w5 at *;clear hE BW C1 C2 C3 C4;have n1:=G.o.cell 1;have n3:=G.o.cell 3;have n8:=G.o.cell 8;simp only [sz2,sz3,sz4] at n1 n3 n8;have RW:=Hy (eu G.o 9 [.int .i64 h.wk,.int .i64 h.ws] rfl);cases g
   ·go_wp2_with (first | (refine aF aJ Tryz.underlying29 rfl (.tmp 1) rfl rfl _ _ _ rfl G.o rfl ?_) | (refine dM fK Tryz.underlying26 rfl (.tmp 47) rfl rfl w.heap.size 9 #[.int .i64 h.wk,.int .i64 h.ws] rfl RW.o rfl ?_));refine (C5.o _ S0.o).mono ?_;rintro e w6 ⟨rfl,b6⟩;have B6:=Hy (aA Bx.o b6);clear b6 C5;go_wp2_with fail;go_ret;exact aK (by rw [hR.o];rfl) B6.o
   go_wp2_with fail;go_ret;exact aK (by rw [hR.o];rfl) Bx.o
 have kq:(h.op.toList==[113,117,97,110,116,105,108,101])=false:=by rw [eqL];exact dF hq
 go_upto_region 6 with fail
 have hT:dR h.op=0:=by unfold dR;rw [if_neg hd,if_neg hq]
 rw [hT] at hE;clear hT;replace hE:=Hy hE;clear c1 hd hq kd kq
 go_cut [39] from 10 to 40 (fun v wx => ∃ g:Bool,v=.bool g∧Hid (mY h=(!g && r))∧Hid (Below w0.heap.size w0 wx))
 case first =>
  refine wp_region_held_drew (S:=fun w' => Below w0.heap.size w0 w') (by kernel_rfl) (b0 w0).drew (fun hH=>?_);refine ak 0 10 ?_ hH (fun w' hS=>?_) ?_;rotate_left
  ·go_simp;try with_reducible rfl
  simp only [sz0,sz1];refine ak 1 11 ?_ hH (fun w' hS=>?_) ?_;rotate_left
  ·have m1:=(G.o.keeps hS).cell 1;simp only [sz2,sz3,sz4] at m1;go_simp;try with_reducible rfl
  simp only [sz0,sz1];generalize w0.drew=yy at *;refine aC 2 (fun K hK=>?_);go_simp;refine (C1.o _).mono ?_;rintro e y61 ⟨ag,rfl,sag,b61⟩;skip;refine hK.o _ _ (aA hH b61) (fun hH=>?_);clear hK K;have SA:=Hy sag;clear b61 sag;refine aC 3 (fun K hK=>?_);go_simp;refine (C2.o ag _ SA.o).mono ?_;rintro e y62 ⟨rfl,b62⟩;skip;refine hK.o _ _ (aA hH b62) (fun hH=>?_);clear hK K;replace SA:=Hy (SA.o.keeps b62);clear b62;cases A
  ·refine ak 4 14 ?_ hH (fun w' hS=>?_) ?_;rotate_left
   ·go_simp;try with_reducible rfl
   simp only [sz0,sz1];refine ak 5 15 ?_ hH (fun w' hS=>?_) ?_;rotate_left
   ·go_simp;try with_reducible rfl
   simp only [sz0,sz1];refine aB (i:=6) (d:=16) rfl (by kernel_rfl) (by kernel_rfl) (by kernel_rfl) rfl (fun _ _ _ h=>h) rfl hH ?_;simp only [sz0,sz1];refine aB (i:=7) (d:=17) rfl (by kernel_rfl) (by kernel_rfl) (by kernel_rfl) rfl (fun _ _ _ h=>h) rfl hH ?_;simp only [sz0,sz1];refine bG (i:=8) rfl (by kernel_rfl) rfl hH ?_;go_simp;refine aB (i:=9) (d:=19) rfl (by kernel_rfl) (by kernel_rfl) (by kernel_rfl) rfl (fun _ _ _ h=>h) rfl hH ?_;simp only [sz0,sz1];refine ak 10 20 ?_ hH (fun w' hS=>?_) ?_;rotate_left
   ·go_simp;try with_reducible rfl
   simp only [sz0,sz1];refine ak 11 21 ?_ hH (fun w' hS=>?_) ?_;rotate_left
   ·go_simp;try with_reducible rfl
   simp only [sz0,sz1];refine aB (i:=12) (d:=22) rfl (by kernel_rfl) (by kernel_rfl) (by kernel_rfl) rfl (fun _ _ _ h=>h) rfl hH ?_;simp only [sz0,sz1];refine aB (i:=13) (d:=23) rfl (by kernel_rfl) (by kernel_rfl) (by kernel_rfl) rfl (fun _ _ _ h=>h) rfl hH ?_;simp only [sz0,sz1];refine bG (i:=14) rfl (by kernel_rfl) rfl hH ?_;go_simp;refine aB (i:=15) (d:=25) rfl (by kernel_rfl) (by kernel_rfl) (by kernel_rfl) rfl (fun _ _ _ h=>h) rfl hH ?_;simp only [sz0,sz1];refine ak 16 26 ?_ hH (fun w' hS=>?_) ?_;rotate_left
   ·go_simp;try with_reducible rfl
   simp only [sz0,sz1];refine ak 17 27 ?_ hH (fun w' hS=>?_) ?_;rotate_left
   ·go_simp;try with_reducible rfl
   simp only [sz0,sz1];refine aB (i:=18) (d:=28) rfl (by kernel_rfl) (by kernel_rfl) (by kernel_rfl) rfl (fun _ _ _ h=>h) rfl hH ?_;simp only [sz0,sz1];refine aB (i:=19) (d:=29) rfl (by kernel_rfl) (by kernel_rfl) (by kernel_rfl) rfl (fun _ _ _ h=>h) rfl hH ?_;simp only [sz0,sz1];refine aB (i:=20) (d:=30) rfl (by kernel_rfl) (by kernel_rfl) (by kernel_rfl) rfl (fun _ _ _ h=>h) rfl hH ?_;simp only [sz0,sz1];refine aB (i:=21) (d:=31) rfl (by kernel_rfl) (by kernel_rfl) (by kernel_rfl) rfl (fun _ _ _ h=>h) rfl hH ?_;simp only [sz0,sz1];refine ak 22 32 ?_ hH (fun w' hS=>?_) ?_;rotate_left
   ·go_simp;try with_reducible rfl
   simp only [sz0,sz1];refine ak 23 33 ?_ hH (fun w' hS=>?_) ?_;rotate_left
   ·go_simp;try with_reducible rfl
   simp only [sz0,sz1];refine aB (i:=24) (d:=34) rfl (by kernel_rfl) (by kernel_rfl) (by kernel_rfl) rfl (fun _ _ _ h=>h) rfl hH ?_;simp only [sz0,sz1];refine aB (i:=25) (d:=35) rfl (by kernel_rfl) (by kernel_rfl) (by kernel_rfl) rfl (fun _ _ _ h=>h) rfl hH ?_;simp only [sz0,sz1];refine aB (i:=26) (d:=36) rfl (by kernel_rfl) (by kernel_rfl) (by kernel_rfl) rfl (fun _ _ _ h=>h) rfl hH ?_;simp only [sz0,sz1];refine bG (i:=27) rfl (by kernel_rfl) rfl hH ?_;go_simp;refine aB (i:=28) (d:=38) rfl (by kernel_rfl) (by kernel_rfl) (by kernel_rfl) rfl (fun _ _ _ h=>h) rfl hH ?_;simp only [sz0,sz1];refine ak 29 39 ?_ hH (fun w' hS=>?_) ?_;rotate_left
   ·go_simp;try with_reducible rfl
   simp only [sz0,sz1];refine wpAnyH_done (by kernel_rfl) ?_ _;go_wp2_with fail
   go_meet
   case rel=>exact ⟨true,rfl,Hy (by rw [hE.o];rfl),Hy hH⟩
  refine ak 4 14 ?_ hH (fun w' hS=>?_) ?_;rotate_left
  ·go_simp;try with_reducible rfl
  simp only [sz0,sz1];refine ak 5 15 ?_ hH (fun w' hS=>?_) ?_;rotate_left
  ·go_simp;try with_reducible rfl
  simp only [sz0,sz1];refine ak 6 16 ?_ hH (fun w' hS=>?_) ?_;rotate_left
  ·go_simp;try with_reducible rfl
  simp only [sz0,sz1];refine ak 7 17 ?_ hH (fun w' hS=>?_) ?_;rotate_left
  ·have m3:=(G.o.keeps hS).cell 3;simp only [sz2,sz3,sz4] at m3;go_simp;try with_reducible rfl
  simp only [sz0,sz1];refine aC 8 (fun K hK=>?_);go_simp;refine (C3.o _).mono ?_;rintro e y63 ⟨rfl,b63⟩;skip;refine hK.o _ _ (aA hH b63) (fun hH=>?_);clear hK K;replace SA:=Hy (SA.o.keeps b63);clear b63;refine ak 9 19 ?_ hH (fun w' hS=>?_) ?_;rotate_left
  ·go_simp;try with_reducible rfl
  simp only [sz0,sz1];cases N
  ·refine ak 10 20 ?_ hH (fun w' hS=>?_) ?_;rotate_left
   ·go_simp;try with_reducible rfl
   simp only [sz0,sz1];refine ak 11 21 ?_ hH (fun w' hS=>?_) ?_;rotate_left
   ·go_simp;try with_reducible rfl
   simp only [sz0,sz1];refine aB (i:=12) (d:=22) rfl (by kernel_rfl) (by kernel_rfl) (by kernel_rfl) rfl (fun _ _ _ h=>h) rfl hH ?_;simp only [sz0,sz1];refine aB (i:=13) (d:=23) rfl (by kernel_rfl) (by kernel_rfl) (by kernel_rfl) rfl (fun _ _ _ h=>h) rfl hH ?_;simp only [sz0,sz1];refine bG (i:=14) rfl (by kernel_rfl) rfl hH ?_;go_simp;refine aB (i:=15) (d:=25) rfl (by kernel_rfl) (by kernel_rfl) (by kernel_rfl) rfl (fun _ _ _ h=>h) rfl hH ?_;simp only [sz0,sz1];refine ak 16 26 ?_ hH (fun w' hS=>?_) ?_;rotate_left
   ·go_simp;try with_reducible rfl
   simp only [sz0,sz1];refine ak 17 27 ?_ hH (fun w' hS=>?_) ?_;rotate_left
   ·go_simp;try with_reducible rfl
   simp only [sz0,sz1];refine aB (i:=18) (d:=28) rfl (by kernel_rfl) (by kernel_rfl) (by kernel_rfl) rfl (fun _ _ _ h=>h) rfl hH ?_;simp only [sz0,sz1];refine aB (i:=19) (d:=29) rfl (by kernel_rfl) (by kernel_rfl) (by kernel_rfl) rfl (fun _ _ _ h=>h) rfl hH ?_;simp only [sz0,sz1];refine aB (i:=20) (d:=30) rfl (by kernel_rfl) (by kernel_rfl) (by kernel_rfl) rfl (fun _ _ _ h=>h) rfl hH ?_;simp only [sz0,sz1];refine aB (i:=21) (d:=31) rfl (by kernel_rfl) (by kernel_rfl) (by kernel_rfl) rfl (fun _ _ _ h=>h) rfl hH ?_;simp only [sz0,sz1];refine ak 22 32 ?_ hH (fun w' hS=>?_) ?_;rotate_left
   ·go_simp;try with_reducible rfl
   simp only [sz0,sz1];refine ak 23 33 ?_ hH (fun w' hS=>?_) ?_;rotate_left
   ·go_simp;try with_reducible rfl
   simp only [sz0,sz1];refine aB (i:=24) (d:=34) rfl (by kernel_rfl) (by kernel_rfl) (by kernel_rfl) rfl (fun _ _ _ h=>h) rfl hH ?_;simp only [sz0,sz1];refine aB (i:=25) (d:=35) rfl (by kernel_rfl) (by kernel_rfl) (by kernel_rfl) rfl (fun _ _ _ h=>h) rfl hH ?_;simp only [sz0,sz1];refine aB (i:=26) (d:=36) rfl (by kernel_rfl) (by kernel_rfl) (by kernel_rfl) rfl (fun _ _ _ h=>h) rfl hH ?_;simp only [sz0,sz1];refine bG (i:=27) rfl (by kernel_rfl) rfl hH ?_;go_simp;refine aB (i:=28) (d:=38) rfl (by kernel_rfl) (by kernel_rfl) (by kernel_rfl) rfl (fun _ _ _ h=>h) rfl hH ?_;simp only [sz0,sz1];refine ak 29 39 ?_ hH (fun w' hS=>?_) ?_;rotate_left
   ·go_simp;try with_reducible rfl
   simp only [sz0,sz1];refine wpAnyH_done (by kernel_rfl) ?_ _;go_wp2_with fail
   go_meet
   case rel=>exact ⟨true,rfl,Hy (by rw [hE.o];rfl),Hy hH⟩
  refine ak 10 20 ?_ hH (fun w' hS=>?_) ?_;rotate_left
  ·go_simp;try with_reducible rfl
  simp only [sz0,sz1];refine ak 11 21 ?_ hH (fun w' hS=>?_) ?_;rotate_left
  ·go_simp;try with_reducible rfl
  simp only [sz0,sz1];refine ak 12 22 ?_ hH (fun w' hS=>?_) ?_;rotate_left
  ·go_simp;try with_reducible rfl
  simp only [sz0,sz1];refine aZ 13 23 (.agg #[.int .i64 h.wk,.int .i64 h.ws]) rfl (by kernel_rfl) rfl (fun _ _ _ h=>h) rfl hH (fun w' hS=>cK fK Tryz.underlying26 rfl (.tmp 22) rfl w.heap.size 9 #[.int .i64 h.wk,.int .i64 h.ws] rfl (eu (G.o.keeps hS) 9 [.int .i64 h.wk,.int .i64 h.ws] rfl) rfl) ?_;simp only [sz0,sz1];refine aC 14 (fun K hK=>?_);go_simp;refine (C4.o _).mono ?_;rintro e y64 ⟨rfl,b64⟩;skip;refine hK.o _ _ (aA hH b64) (fun hH=>?_);clear hK K;replace SA:=Hy (SA.o.keeps b64);clear b64;refine ak 15 25 ?_ hH (fun w' hS=>?_) ?_;rotate_left
  ·go_simp;try with_reducible rfl
  simp only [sz0,sz1];cases V
  ·refine ak 16 26 ?_ hH (fun w' hS=>?_) ?_;rotate_left
   ·go_simp;try with_reducible rfl
   simp only [sz0,sz1];refine ak 17 27 ?_ hH (fun w' hS=>?_) ?_;rotate_left
   ·go_simp;try with_reducible rfl
   simp only [sz0,sz1];refine aB (i:=18) (d:=28) rfl (by kernel_rfl) (by kernel_rfl) (by kernel_rfl) rfl (fun _ _ _ h=>h) rfl hH ?_;simp only [sz0,sz1];refine aB (i:=19) (d:=29) rfl (by kernel_rfl) (by kernel_rfl) (by kernel_rfl) rfl (fun _ _ _ h=>h) rfl hH ?_;simp only [sz0,sz1];refine aB (i:=20) (d:=30) rfl (by kernel_rfl) (by kernel_rfl) (by kernel_rfl) rfl (fun _ _ _ h=>h) rfl hH ?_;simp only [sz0,sz1];refine aB (i:=21) (d:=31) rfl (by kernel_rfl) (by kernel_rfl) (by kernel_rfl) rfl (fun _ _ _ h=>h) rfl hH ?_;simp only [sz0,sz1];refine ak 22 32 ?_ hH (fun w' hS=>?_) ?_;rotate_left
   ·go_simp;try with_reducible rfl
   simp only [sz0,sz1];refine ak 23 33 ?_ hH (fun w' hS=>?_) ?_;rotate_left
   ·go_simp;try with_reducible rfl
   simp only [sz0,sz1];refine aB (i:=24) (d:=34) rfl (by kernel_rfl) (by kernel_rfl) (by kernel_rfl) rfl (fun _ _ _ h=>h) rfl hH ?_;simp only [sz0,sz1];refine aB (i:=25) (d:=35) rfl (by kernel_rfl) (by kernel_rfl) (by kernel_rfl) rfl (fun _ _ _ h=>h) rfl hH ?_;simp only [sz0,sz1];refine aB (i:=26) (d:=36) rfl (by kernel_rfl) (by kernel_rfl) (by kernel_rfl) rfl (fun _ _ _ h=>h) rfl hH ?_;simp only [sz0,sz1];refine bG (i:=27) rfl (by kernel_rfl) rfl hH ?_;go_simp;refine aB (i:=28) (d:=38) rfl (by kernel_rfl) (by kernel_rfl) (by kernel_rfl) rfl (fun _ _ _ h=>h) rfl hH ?_;simp only [sz0,sz1];refine ak 29 39 ?_ hH (fun w' hS=>?_) ?_;rotate_left
   ·go_simp;try with_reducible rfl
   simp only [sz0,sz1];refine wpAnyH_done (by kernel_rfl) ?_ _;go_wp2_with fail
   go_meet
   case rel=>exact ⟨true,rfl,Hy (by rw [hE.o];rfl),Hy hH⟩
  refine ak 16 26 ?_ hH (fun w' hS=>?_) ?_;rotate_left
  ·go_simp;try with_reducible rfl
  simp only [sz0,sz1];refine ak 17 27 ?_ hH (fun w' hS=>?_) ?_;rotate_left
  ·go_simp;try with_reducible rfl
  simp only [sz0,sz1];refine ak 18 28 ?_ hH (fun w' hS=>?_) ?_;rotate_left
  ·go_simp;try with_reducible rfl
  simp only [sz0,sz1];refine ak 19 29 ?_ hH (fun w' hS=>?_) ?_;rotate_left
  ·have m8:=(G.o.keeps hS).cell 8;simp only [sz2,sz3,sz4] at m8;go_simp;try with_reducible rfl
  simp only [sz0,sz1];refine ak 20 30 ?_ hH (fun w' hS=>?_) ?_;rotate_left
  ·go_simp;try with_reducible rfl
  simp only [sz0,sz1];refine ak 21 31 ?_ hH (fun w' hS=>?_) ?_;rotate_left
  ·go_simp;try with_reducible rfl
  simp only [sz0,sz1];by_cases hp:h.pa≤0
  ·have q:=dT (p:=h.pa≤0) hp;have q2:decide (0<h.pa)=false:=dF (by omega);simp only [q2];refine ak 22 32 ?_ hH (fun w' hS=>?_) ?_;rotate_left
   ·go_simp;try with_reducible rfl
   simp only [sz0,sz1];refine ak 23 33 ?_ hH (fun w' hS=>?_) ?_;rotate_left
   ·go_simp;try with_reducible rfl
   simp only [sz0,sz1];refine ak 24 34 ?_ hH (fun w' hS=>?_) ?_;rotate_left
   ·go_simp;try with_reducible rfl
   simp only [sz0,sz1];refine ak 25 35 ?_ hH (fun w' hS=>?_) ?_;rotate_left
   ·have m8:=(G.o.keeps hS).cell 8;simp only [sz2,sz3,sz4] at m8;go_simp;try with_reducible rfl
   simp only [sz0,sz1];refine ak 26 36 ?_ hH (fun w' hS=>?_) ?_;rotate_left
   ·go_simp;try with_reducible rfl
   simp only [sz0,sz1];refine aC 27 (fun K hK=>?_);go_simp;refine hK.o _ _ hH (fun hH=>?_);clear hK K;by_cases hl:0≤h.pa
   ·have u:=dT (p:=0≤h.pa) hl;have u2:decide (h.pa<min 0 1)=false:=dF (by rw [show min (0:Int) 1=0 from rfl];omega);refine ak 28 38 ?_ hH (fun w' hS=>?_) ?_;rotate_left
    ·go_simp;try with_reducible rfl
    simp only [sz0,sz1];refine ak 29 39 ?_ hH (fun w' hS=>?_) ?_;rotate_left
    ·go_simp;try with_reducible rfl
    simp only [sz0,sz1];refine wpAnyH_done (by kernel_rfl) ?_ _;go_wp2_with fail
    go_meet
    case rel=>exact ⟨false,rfl,Hy (by rw [hE.o,q,show min (0:Int) 1=0 from rfl,u];rfl),Hy hH⟩
   have u:=dF (p:=0≤h.pa) hl;have u2:decide (h.pa<min 0 1)=true:=dT (by rw [show min (0:Int) 1=0 from rfl];omega);refine ak 28 38 ?_ hH (fun w' hS=>?_) ?_;rotate_left
   ·go_simp;try with_reducible rfl
   simp only [sz0,sz1];refine ak 29 39 ?_ hH (fun w' hS=>?_) ?_;rotate_left
   ·go_simp;try with_reducible rfl
   simp only [sz0,sz1];refine wpAnyH_done (by kernel_rfl) ?_ _;go_wp2_with fail
   go_meet
   case rel=>exact ⟨true,rfl,Hy (by rw [hE.o,q,show min (0:Int) 1=0 from rfl,u];rfl),Hy hH⟩
  have q:=dF (p:=h.pa≤0) hp;have q2:decide (0<h.pa)=true:=dT (by omega);simp only [q2];refine ak 22 32 ?_ hH (fun w' hS=>?_) ?_;rotate_left
  ·go_simp;try with_reducible rfl
  simp only [sz0,sz1];refine ak 23 33 ?_ hH (fun w' hS=>?_) ?_;rotate_left
  ·go_simp;try with_reducible rfl
  simp only [sz0,sz1];refine aB (i:=24) (d:=34) rfl (by kernel_rfl) (by kernel_rfl) (by kernel_rfl) rfl (fun _ _ _ h=>h) rfl hH ?_;simp only [sz0,sz1];refine aB (i:=25) (d:=35) rfl (by kernel_rfl) (by kernel_rfl) (by kernel_rfl) rfl (fun _ _ _ h=>h) rfl hH ?_;simp only [sz0,sz1];refine aB (i:=26) (d:=36) rfl (by kernel_rfl) (by kernel_rfl) (by kernel_rfl) rfl (fun _ _ _ h=>h) rfl hH ?_;simp only [sz0,sz1];refine bG (i:=27) rfl (by kernel_rfl) rfl hH ?_;go_simp;refine aB (i:=28) (d:=38) rfl (by kernel_rfl) (by kernel_rfl) (by kernel_rfl) rfl (fun _ _ _ h=>h) rfl hH ?_;simp only [sz0,sz1];refine ak 29 39 ?_ hH (fun w' hS=>?_) ?_;rotate_left
  ·go_simp;try with_reducible rfl
  simp only [sz0,sz1];refine wpAnyH_done (by kernel_rfl) ?_ _;go_wp2_with fail
  go_meet
  case rel=>exact ⟨true,rfl,Hy (by rw [hE.o,q];rfl),Hy hH⟩
 case rest =>
  obtain ⟨g,rfl,hR,BW⟩:=hcut;have Bx:=Hy (aA B0.o BW.o);replace G:=Hy (G.o.keeps BW.o);replace S0:=Hy (S0.o.keeps BW.o);generalize wc=w5 at *;clear hE BW C1 C2 C3 C4;have n1:=G.o.cell 1;have n3:=G.o.cell 3;have n8:=G.o.cell 8;simp only [sz2,sz3,sz4] at n1 n3 n8;have RW:=Hy (eu G.o 9 [.int .i64 h.wk,.int .i64 h.ws] rfl);cases g
  ·go_wp2_with (first | (refine aF aJ Tryz.underlying29 rfl (.tmp 1) rfl rfl _ _ _ rfl G.o rfl ?_) | (refine dM fK Tryz.underlying26 rfl (.tmp 47) rfl rfl w.heap.size 9 #[.int .i64 h.wk,.int .i64 h.ws] rfl RW.o rfl ?_));refine (C5.o _ S0.o).mono ?_;rintro e w6 ⟨rfl,b6⟩;have B6:=Hy (aA Bx.o b6);clear b6 C5;go_wp2_with fail;go_ret;exact aK (by rw [hR.o];rfl) B6.o
  go_wp2_with fail;go_ret;exact aK (by rw [hR.o];rfl) Bx.o
end ch
end Go.Proofs.YtbahfelnbofjjaaGreatDoor
