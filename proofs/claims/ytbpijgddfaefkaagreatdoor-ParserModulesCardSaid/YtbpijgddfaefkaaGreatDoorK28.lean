/-
  The specification's Divide, by long division, returns the rounded quotient, or nothing; The reference's exponent; The reference's Word; The reference's Normal; The reference's reader: units.
-/
import Derived.Test.YtbpijgddfaefkaaGreatDoorK27
set_option maxRecDepth 100000
set_option maxHeartbeats 16000000
namespace Go.Proofs.YtbpijgddfaefkaaGreatDoor
namespace dec
open Go.RowKit
structure Lg (w wr:World) (a:Int) (gx gy gr:Nat) (fx fy fr:Nat→Int):Prop where
 X:Row wr gx fx
 Y:Row wr gy fy
 R:Row wr gr fr
 B:Box wr w.heap.size a
 k:Below w.heap.size w wr
theorem Lg.next {w wr w1:World} {a:Int} {gx gy gr:Nat} {fx fy fr:Nat→Int} (h:Lg w wr a gx gy gr fx fy fr) (hb:Below wr.heap.size wr w1):Lg w w1 a gx gy gr fx fy fr :=
 ⟨h.X.keeps hb,h.Y.keeps hb,h.R.keeps hb,h.B.keeps hb,aD h.k hb⟩
theorem Lg.rest {w wr:World} {a:Int} {gx gy gr gr':Nat} {fx fy fr fr':Nat→Int} (h:Lg w wr a gx gy gr fx fy fr) (h':Row wr gr' fr'):Lg w wr a gx gy gr' fx fy fr':=⟨h.X,h.Y,h',h.B,h.k⟩
theorem QO (w:World):(Instr.makeSlice 252 (.int .i64 8) (.int .i64 8)).run Tryz.prog w=.ok (.slice (some ⟨w.heap.size,0,none⟩) 8 8) (w.alloc (.cells #[.int .i64 0,.int .i64 0,.int .i64 0,.int .i64 0,.int .i64 0,.int .i64 0,.int .i64 0,.int .i64 0] 3)):=by kernel_rfl
theorem Row.zero (w:World):Row (w.alloc (.cells #[.int .i64 0,.int .i64 0,.int .i64 0,.int .i64 0,.int .i64 0,.int .i64 0,.int .i64 0,.int .i64 0] 3)) w.heap.size (fun _=>0) :=
 ⟨jG (by simp [go_sem]) (by simp [go_sem]) (by simp [go_sem]) (by simp [go_sem]) (by simp [go_sem]) (by simp [go_sem]) (by simp [go_sem]) (by simp [go_sem]),fun j _=>by simp [go_sem],by simp⟩
theorem zo {a:Int} (d:Int) (ia:In a) (w:World) (d1 : -9223372036854775808≤d) (d2:d≤9223372036854775807) :
    Calls Tryz.prog 228 #[.agg #[.int .i64 (hi a),.int .u64 (lo a)],.int .i64 d] w fun e w' => e=.returned (.tuple #[.int .i64 (dv a d),.bool (eZ a d)])∧Below w.heap.size w w':=by
 by_cases hd:d=0
 ·have hn:eZ a d=false:=by unfold eZ;simp [hd]
  have e1:=Hy hn;have e2:=Hy (jQ hn);have h0:(d==0)=true:=by rw [beq_iff_eq];exact hd
  clear hn hd
  go_enter Tryz.func228,Tryz.ntmps228
  go_wp2
  go_ret2
  exact ⟨by rw [e1.o,e2.o];rfl,aj (b0 w) _⟩
 have h0:(d==0)=false:=by rw [beq_eq_false_iff_ne];exact hd
 have id:In d:=by unfold In;omega
 obtain ⟨A,D,ah,al,q,r,x,h⟩:∃ A D ah al q r x,Dv a d A D ah al q r x:=⟨_,_,_,_,_,_,_,rfl,rfl,rfl,rfl,rfl,rfl,rfl⟩;have rA:=iB a;have rA':ab a<340282366920938463463374607431768211456:=by unfold In at ia;unfold ab;split <;> omega
 have rD:0<ab d:=by unfold ab;split <;> omega
 have rD':ab d≤9223372036854775808:=by unfold ab;split <;> omega
 have sa:=mM ia;rw [h.A0] at rA rA';rw [h.D0] at rD rD';have CA:=Hy (fun w=>qw ia w);have CD:=Hy (fun w=>qw id w);have HD0:Hid (ab d=D):=h.D0;have HA0:Hid (ab a=A):=h.A0;have SA:=Hy sa;have H:=Hy h;clear sa h
 go_enter Tryz.func228,Tryz.ntmps228
 go_wp2_with fail;refine (CA.o _).mono ?_;rw [HA0.o];rintro e w1 ⟨gx,cx,fx,rfl,X,DX,hb⟩;have B:=(Box.new w a).keeps hb;have k1:=aD (aj (b0 w) _) hb;clear hb;go_wp2_with fail;refine (lG d _ d1 d2).mono ?_;rintro e w2 ⟨rfl,hb⟩;replace X:=X.keeps hb;replace B:=B.keeps hb;have k2:=aD k1 hb;clear hb k1;go_wp2_with fail;refine (CD.o _).mono ?_;rw [HD0.o];rintro e w3 ⟨gy,cy,fy,rfl,Y,DY,hb⟩;replace X:=X.keeps hb;replace B:=B.keeps hb;have k3:=aD k2 hb;clear hb k2;have hmk:=QO;have hb:=(Below.refl w3.heap.size w3).alloc lr (.cells #[.int .i64 0,.int .i64 0,.int .i64 0,.int .i64 0,.int .i64 0,.int .i64 0,.int .i64 0,.int .i64 0] 3);have L:Lg w _ a gx gy w3.heap.size fx fy (fun _=>0):=⟨X.keeps hb,Y.keeps hb,Row.zero w3,B.keeps hb,aD k3 hb⟩;have DR:Dg (fun _=>0) (rk A D 128):=by
  rw [NG D rA rA'];exact ⟨fun _ _=>by omega,fun _ _=>by omega,by simp [val]⟩
 have q128:=NJ D rA rA';clear X Y B k3 hb;go_wp2_with fail
 go_loopw [8,9,10] (fun vr vq vi wr => ∃ (k:Nat) (z:Int) (gr cr:Nat) (fr:Nat→Int),k≤128∧z=(k:Int) - 1∧vi=.int .i64 z∧vq=.int .i64 (qk A D k)∧qk A D k≤1152921504606846976∧vr=.slice (some ⟨gr,0,none⟩) 8 cr∧Dg fr (rk A D k)∧Lg w wr a gx gy gr fx fy fr) (fun _ _ i _=>(intOf i+1).toNat)
 case atStart=>exact ⟨128,127,_,_,_,by omega,rfl,rfl,by rw [q128],by rw [q128];omega,rfl,DR,L⟩
 case round =>
  clear L DR q128 hmk;obtain ⟨k,z,gr,cr,fr,hk,hz,rfl,rfl,hq,rfl,DR,L⟩:=hrel
  cases k with
  | zero =>
    obtain rfl:z = -1:=by omega
    clear hz
    have r0:=qG (A:=A) rD 0
    have q0:=(nG rA rD 0).1
    obtain ⟨r0,r1⟩:=r0
    have hqk:qk A D 0=q:=by rw [Ky,H.o.eq]
    have hrk:rk A D 0=r:=by rw [Kr,H.o.er]
    have hx:=H.o.ex
    rw [hqk] at q0 hq
    rw [hrk] at r0 r1 DR
    have HX:=Hy hx
    have QK:=Hy hqk
    clear hx hrk hqk
    rw [QK.o]
    go_wp2_with fail
    refine (uT _ L.R DR (by omega) (by omega)).mono ?_
    rintro e w4 ⟨g4,c4,f4,rfl,R4,D4,hb⟩
    replace L:=(L.next hb).rest R4
    clear hb R4 DR
    go_upto_region 19 with fail
    go_cut [65] (fun s wx=>s=.bool (decide (x=1))∧Box wx w.heap.size a∧Below w.heap.size w wx)
    case first =>
      go_wp2_with fail
      by_cases c1:D<2 * r+0
      · refine (jf _ L.Y L.R DY D4 (by omega) (by omega) (by omega) (by omega)).mono ?_
        rw [dT c1]
        rintro e w5 ⟨rfl,hb⟩
        replace L:=L.next hb
        clear hb
        have hx:x=1:=by rw [HX.o];unfold ru;rw [if_pos (by omega)]
        have HX1:Hid (decide (x=1)=true):=by unfold Hid;rw [hx];rfl
        clear hx c1
        go_wp2_with fail
        go_meet
        exact ⟨by rw [HX1.o],L.B,L.k⟩
      · refine (jf _ L.Y L.R DY D4 (by omega) (by omega) (by omega) (by omega)).mono ?_
        rw [dF c1]
        rintro e w5 ⟨rfl,hb⟩
        replace L:=L.next hb
        clear hb
        go_wp2_with fail
        by_cases c2:2 * r+0<D
        · refine (jf _ L.R L.Y D4 DY (by omega) (by omega) (by omega) (by omega)).mono ?_
          rw [dT c2]
          rintro e w6 ⟨rfl,hb⟩
          replace L:=L.next hb
          clear hb
          have hx:x=0:=by rw [HX.o];unfold ru;rw [if_neg (by omega)]
          have HX1:Hid (decide (x=1)=false):=by unfold Hid;rw [hx];rfl
          clear hx c1 c2
          go_wp2_with fail
          go_meet
          exact ⟨by rw [HX1.o],L.B,L.k⟩
        · refine (jf _ L.R L.Y D4 DY (by omega) (by omega) (by omega) (by omega)).mono ?_
          rw [dF c2]
          rintro e w6 ⟨rfl,hb⟩
          replace L:=L.next hb
          clear hb
          by_cases c3:q % 2=1
          · have hx:x=1:=by rw [HX.o];unfold ru;rw [if_pos (by omega)]
            have HX1:Hid (decide (x=1)=true):=by unfold Hid;rw [hx];rfl
            have c3':(q % 2==1)=true:=by rw [beq_iff_eq];exact c3
            clear hx c1 c2 c3
            go_wp2_with fail
            go_meet
            exact ⟨by rw [HX1.o],L.B,L.k⟩
          · have hx:x=0:=by rw [HX.o];unfold ru;rw [if_neg (by omega)]
            have HX1:Hid (decide (x=1)=false):=by unfold Hid;rw [hx];rfl
            have c3':(q % 2==1)=false:=by rw [beq_eq_false_iff_ne];exact c3
            clear hx c1 c2 c3
            go_wp2_with fail
            go_meet
            exact ⟨by rw [HX1.o],L.B,L.k⟩
    case rest =>
      obtain ⟨rfl,B,k5⟩:=hcut
      clear L D4 DX DY
      have ⟨B0,B1⟩:=B
      have hx:=Nz q r D
      rw [← HX.o] at hx
      rcases hx with rfl | rfl
      · skip
        by_cases hl:q≤1152921504606846976
        · clear HX QK hq
          have hs:=H.o.sq
          have hok:=mQ H.o
          rw [dT (show D≠0∧q+0≤1152921504606846976 from ⟨by omega,by omega⟩)] at hok
          have N1:=Hy hok
          have N2:=Hy (sV hok)
          clear hok
          by_cases t1:a<0
          · have t1':hi a<0:=SA.o.2 t1
            have t1'':decide (hi a<0)=true:=by simp;omega
            by_cases t2:d<0
            · have t2':decide (d<0)=true:=by simp;omega
              rw [if_neg (by omega)] at hs
              have N3:=Hy hs
              clear hs
              go_wp2_with fail
              go_ret2
              exact ⟨by rw [N1.o,N2.o,N3.o];rw [Int.add_zero];rfl,k5⟩
            · have t2':decide (d<0)=false:=by simp;omega
              rw [if_pos (by omega)] at hs
              have N3:=Hy hs
              clear hs
              go_wp2_with fail
              go_ret2
              exact ⟨by rw [N1.o,N2.o,N3.o];rw [Int.add_zero];rfl,k5⟩
          · have t1':¬ hi a<0:=fun h=>t1 (SA.o.1 h)
            have t1'':decide (hi a<0)=false:=by simp;omega
            by_cases t2:d<0
            · have t2':decide (d<0)=true:=by simp;omega
              rw [if_pos (by omega)] at hs
              have N3:=Hy hs
              clear hs
              go_wp2_with fail
              go_ret2
              exact ⟨by rw [N1.o,N2.o,N3.o];rw [Int.add_zero];rfl,k5⟩
            · have t2':decide (d<0)=false:=by simp;omega
              rw [if_neg (by omega)] at hs
              have N3:=Hy hs
              clear hs
              go_wp2_with fail
              go_ret2
              exact ⟨by rw [N1.o,N2.o,N3.o];rw [Int.add_zero];rfl,k5⟩
        · exact absurd hq hl
      · skip
        by_cases hl:q+1≤1152921504606846976
        · clear HX QK hq
          have hs:=H.o.sq
          have hok:=mQ H.o
          rw [dT (show D≠0∧q+1≤1152921504606846976 from ⟨by omega,by omega⟩)] at hok
          have N1:=Hy hok
          have N2:=Hy (sV hok)
          clear hok
          by_cases t1:a<0
          · have t1':hi a<0:=SA.o.2 t1
            have t1'':decide (hi a<0)=true:=by simp;omega
            by_cases t2:d<0
            · have t2':decide (d<0)=true:=by simp;omega
              rw [if_neg (by omega)] at hs
              have N3:=Hy hs
              clear hs
              go_wp2_with fail
              go_ret2
              exact ⟨by rw [N1.o,N2.o,N3.o];rfl,k5⟩
            · have t2':decide (d<0)=false:=by simp;omega
              rw [if_pos (by omega)] at hs
              have N3:=Hy hs
              clear hs
              go_wp2_with fail
              go_ret2
              exact ⟨by rw [N1.o,N2.o,N3.o];rfl,k5⟩
          · have t1':¬ hi a<0:=fun h=>t1 (SA.o.1 h)
            have t1'':decide (hi a<0)=false:=by simp;omega
            by_cases t2:d<0
            · have t2':decide (d<0)=true:=by simp;omega
              rw [if_pos (by omega)] at hs
              have N3:=Hy hs
              clear hs
              go_wp2_with fail
              go_ret2
              exact ⟨by rw [N1.o,N2.o,N3.o];rfl,k5⟩
            · have t2':decide (d<0)=false:=by simp;omega
              rw [if_neg (by omega)] at hs
              have N3:=Hy hs
              clear hs
              go_wp2_with fail
              go_ret2
              exact ⟨by rw [N1.o,N2.o,N3.o];rfl,k5⟩
        · have hn:=H.o.CU (show 1152921504606846976<q+1 by omega)
          have N1:=Hy hn
          have N2:=Hy (jQ hn)
          clear hn HX QK
          go_wp2_with fail
          go_ret2
          exact ⟨by rw [N1.o,N2.o];rfl,k5⟩
  | succ k =>
    obtain rfl:z=(k:Int):=by omega
    clear hz
    obtain ⟨j,s,hj,hs,hks⟩:∃ j s:Nat,j<8∧s<16∧k=16 * j+s:=⟨k / 16,k % 16,by omega,by omega,by omega⟩
    have v1:(k:Int) / 16=(j:Int):=by omega
    have v2:(k:Int) % 16=(s:Int):=by omega
    have v3:(j:Int)<8:=by omega
    obtain ⟨b,hb2,hbit⟩:∃ b,fx j / 2 ^ s % 2=b∧A / 2 ^ k % 2=b:=⟨_,rfl,by rw [hks];exact (OX DX rA rA' j s hj hs).symm⟩
    have b0':0≤b:=by omega
    have b1':b≤1:=by omega
    have ST:=Hy (Fq (A:=A) (D:=D) (b:=b) k rD hbit)
    clear hbit hks
    have t0:=L.X.cell j hj
    have t1:=DX.lo j hj
    have t2:=DX.hi j hj
    have t3:0≤fx j / 2 ^ s:=Int.ediv_nonneg t1 (Int.le_of_lt (rW s))
    have q0:=(nG rA rD (k+1)).1
    have r0:=qG (A:=A) rD (k+1)
    obtain ⟨r0,r1⟩:=r0
    go_wp2_with fail
    refine (uT _ L.R DR b0' b1').mono ?_
    rintro e w4 ⟨g4,c4,f4,rfl,R4,D4,hb⟩
    replace L:=(L.next hb).rest R4
    clear hb R4 DR t0 t1 t2 t3 hb2 v1 v2 v3
    go_wp2_with fail
    by_cases hT:2 * rk A D (k+1)+b<D
    · refine (jf _ L.R L.Y D4 DY (by omega) (by omega) (by omega) (by omega)).mono ?_
      rw [dT hT]
      rintro e w5 ⟨rfl,hb⟩
      replace L:=L.next hb
      clear hb
      obtain ⟨s1,s2⟩:=ST.o.1 hT
      rw [← s2] at D4
      have q1:=(nG rA rD k).2
      by_cases hl:qk A D k≤1152921504606846976
      · have l1:2 * qk A D (k+1)≤1152921504606846976:=by omega
        have S1:=Hy s1
        clear s1 s2 hT
        go_wp2_with fail
        exact ⟨⟨k,(k:Int) - 1,g4,c4,f4,by omega,rfl,rfl,by rw [S1.o],hl,rfl,D4,L⟩,by simp [intOf]⟩
      · have l1:1152921504606846976<2 * qk A D (k+1):=by omega
        have hn:=H.o.CS (by rw [H.o.eq];omega)
        have N1:=Hy hn
        have N2:=Hy (jQ hn)
        clear s1 s2 hT hn
        go_wp2_with fail
        go_ret2
        exact ⟨by rw [N1.o,N2.o];rfl,L.k⟩
    · refine (jf _ L.R L.Y D4 DY (by omega) (by omega) (by omega) (by omega)).mono ?_
      rw [dF hT]
      rintro e w5 ⟨rfl,hb⟩
      replace L:=L.next hb
      clear hb
      go_wp2_with fail
      refine (Fg _ L.R L.Y D4 DY).mono ?_
      rintro e w6 ⟨g6,c6,f6,rfl,R6,D6,hb⟩
      replace L:=(L.next hb).rest R6
      clear hb R6 D4
      obtain ⟨s1,s2⟩:=ST.o.2 hT
      rw [← s2] at D6
      have q1:=(nG rA rD k).2
      by_cases hl:qk A D k≤1152921504606846976
      · have l1:2 * qk A D (k+1)+1≤1152921504606846976:=by omega
        have S1:=Hy s1
        clear s1 s2 hT
        go_wp2_with fail
        exact ⟨⟨k,(k:Int) - 1,g6,c6,f6,by omega,rfl,rfl,by rw [S1.o],hl,rfl,D6,L⟩,by simp [intOf]⟩
      · have l1:1152921504606846976<2 * qk A D (k+1)+1:=by omega
        have hn:=H.o.CS (by rw [H.o.eq];omega)
        have N1:=Hy hn
        have N2:=Hy (jQ hn)
        clear s1 s2 hT hn
        go_wp2_with fail
        go_ret2
        exact ⟨by rw [N1.o,N2.o];rfl,L.k⟩
end dec
namespace un
open Go.RowKit dec
theorem vK {w:World} {k:Nat} (h:Free w k) (u v:Value):Free ((w.setCell ⟨k,0,none⟩ u).setCell ⟨k,1,none⟩ v) k:=by
 obtain ⟨h1,h2,h3⟩:=h;exact ⟨by simpa [go_sem] using h1,by simpa [go_sem] using h2,by simpa [go_sem] using h3⟩
theorem Qu {l:List Fa} {j:Nat} (h:j<l.length) (s:ByteArray) (e:(gt l j).1=s):ex (l.take (j+1)) s=ex (l.take j) s+(gt l j).2:=by
 rw [iY h,lK];simp [ex,e]
theorem OP {l:List Fa} {j:Nat} (h:j<l.length) (s:ByteArray) (e:(gt l j).1≠s):ex (l.take (j+1)) s=ex (l.take j) s:=by
 rw [iY h,lK];simp [ex,e]
theorem yP (a:Option Addr) (n cap:Nat) (l:List Fa) (s:ByteArray) (w:World) (hS:Sl w a n cap l) (hx:∀ x ∈ l,-9223372036854775808≤x.2∧x.2≤9223372036854775807) (hlen:l.length<5864062014805) :
    Calls Tryz.prog 188 #[.slice a n cap,.string s] w fun e w' => e=.returned (.tuple #[.int .i64 (if far (ex l s)=true then 0 else ex l s),.bool (!far (ex l s))])∧Below w.heap.size w w':=by
 generalize hrv:(if far (ex l s)=true then 0 else ex l s)=rv;generalize hrb:(!far (ex l s))=rb;have RV:=Hy hrv;have RB:=Hy hrb;clear hrv hrb;have S0:=Hy hS;have X0:=Hy hx;have N0:=Hy hlen;have Z0:=Hy (fun W=>lG 0 W (by decide) (by decide));have IN:=Hy (Jl s hx hlen);clear hS hx hlen
 go_enter Tryz.func188,Tryz.ntmps188
 go_wp2_with fail;refine (Z0.o _).mono ?_;rintro e w1 ⟨rfl,b1⟩;have b2:=Hy (aj b1 (.cells #[.int .i64 (hi 0),.int .u64 (lo 0)] 114));have X2:=Hy (Box.new w1 0);have F2:=Hy (Free.new w1 #[.int .i64 (hi 0),.int .u64 (lo 0)]);have MB:=Hy b1.size;clear b1;go_wp2_with fail;generalize w1.alloc (.cells #[.int .i64 (hi 0),.int .u64 (lo 0)] 114)=W at *;generalize w1.heap.size=mb at *
 go_loopw [7] (fun vi wr => ∃ j:Nat,vi=.int .i64 (j:Nat)∧Hid (j≤n)∧Hid (Box wr mb (ex (l.take j) s))∧Hid (Free wr mb)∧Hid (Below w.heap.size w wr)) (fun vi _=>n - (intOf vi).toNat)
 case atStart=>exact ⟨0,rfl,Hy zl,X2,F2,b2⟩
 case round =>
  clear X2 F2 b2 Z0;obtain ⟨j,rfl,hj,BX,FX,hb⟩:=hrel;by_cases hc:j<n
  ·have hln:=Hy (show j<l.length by have:=S0.o.hn;omega);obtain ⟨bk,off,rfl,hC⟩:=S0.o.hat.resolve_left (by have:=hln.o;omega);have C0:=Hy (hC j hln.o).1;have C1:=Hy (hC j hln.o).2;have c0:=dec.keeps hb.o C0.o;have q2:decide ((j:Int)<(n:Int))=true:=dT (by omega);have q3:j<n:=hc;have f4:=Hy (aV (j:=j) (by have:=S0.o.hcap;have:=S0.o.hmax;omega));have hon:=Hy (Qu hln.o s);have hoff:=Hy (OP hln.o s);have hxr:=Hy (X0.o _ (oW hln.o));clear hC;generalize gt l j=x at c0 C0 C1 hon hoff hxr;by_cases hxs:x.1=s
   ·have q5:(x.1.toList==s.toList)=true:=by rw [Dm];exact dT hxs
    have HE:=Hy (hon.o hxs);have OC:=Hy (fun W=>lG x.2 W hxr.o.1 hxr.o.2);have AC:=Hy (fun W=>GY (ex (l.take j) s) x.2 W);replace hxs:=Hy hxs;clear hon hoff;go_wp2_with fail;clear c0;have GD:=Hy (show Below w.heap.size w wr.drew from hb.o.drew);have B7:=Hy (show Box wr.drew mb (ex (l.take j) s) from BX.o);have F7:=Hy (show Free wr.drew mb from FX.o);replace BX:=B7;replace FX:=F7;clear B7 F7;refine wp_region_noPanic ?_;refine wp_region_held_drew (S:=fun w' => Below w.heap.size w w') (by kernel_rfl) GD.o (fun hH=>?_);refine aB 1 25 ?_ rfl (by kernel_rfl) rfl (fun _ _ _ h=>h) rfl hH (fun w' hS=>?_) ?_;rotate_left
    ·go_simp;try with_reducible rfl
    simp only [sz0,sz1];refine aB 2 26 ?_ rfl (by kernel_rfl) rfl (fun _ _ _ h=>h) rfl hH (fun w' hS=>?_) ?_;rotate_left
    ·go_simp;try with_reducible rfl
    simp only [sz0,sz1];refine aB 3 27 ?_ rfl (by kernel_rfl) rfl (fun _ _ _ h=>h) rfl hH (fun w' hS=>?_) ?_;rotate_left
    ·go_simp;try with_reducible rfl
    simp only [sz0,sz1];refine aB 4 28 ?_ rfl (by kernel_rfl) rfl (fun _ _ _ h=>h) rfl hH (fun w' hS=>?_) ?_;rotate_left
    ·go_simp;try with_reducible rfl
    simp only [sz0,sz1];refine aB 5 29 ?_ rfl (by kernel_rfl) rfl (fun _ _ _ h=>h) rfl hH (fun w' hS=>?_) ?_;rotate_left
    ·have e1:=dec.keeps hS C1.o;go_simp;try with_reducible rfl
    simp only [sz0,sz1];refine bI (i:=0) (j:=6) rfl rfl (by kernel_rfl) rfl rfl (fun K hK=>?_) (fun K hK=>?_)
    ·have e0:=BX.o.1;have e1:=BX.o.2;go_simp;refine hK.o _ _ hH (fun hH=>?_);clear hK K e0 e1;refine ak (i:=6) rfl (by kernel_rfl) rfl (fun K hK=>?_);go_simp;refine (OC.o _).mono ?_;rintro e w6 ⟨rfl,b6⟩;replace BX:=Hy (BX.o.keeps b6);replace FX:=Hy (FX.o.keeps b6);refine hK.o _ _ (hH.trans (b6.mono hH.size)) (fun hH=>?_);clear hK K b6;refine ak (i:=7) rfl (by kernel_rfl) rfl (fun K hK=>?_);go_simp;refine (AC.o _).mono ?_;rintro e w8 ⟨rfl,b8⟩;replace BX:=Hy (BX.o.keeps b8);replace FX:=Hy (FX.o.keeps b8);refine hK.o _ _ (hH.trans (b8.mono hH.size)) (fun hH=>?_);clear hK K b8;refine ak (i:=8) rfl (by kernel_rfl) rfl (fun K hK=>?_);have e0:=BX.o.1;have e1:=BX.o.2;have e2:=FX.o.1;have e3:=FX.o.2.1;go_simp;refine hK.o _ _ (kK hH MB.o _ _) (fun hH=>?_);have BY:=Hy (BX.o.put (ex (l.take j) s+x.2));have FY:=Hy (vK FX.o (.int .i64 (hi (ex (l.take j) s+x.2))) (.int .u64 (lo (ex (l.take j) s+x.2))));clear hK K e0 e1 e2 e3;refine wpAnyH_done (by kernel_rfl) ?_ _;refine j4 ?_;have HB:=Hy hH;clear hH;go_wp2_with fail;refine ⟨⟨j+1,congrArg (Value.int .i64) f4.o,Hy hc,Hy (by rw [HE.o];exact BY.o),FY,HB⟩,aU hc f4.o⟩
    go_simp;refine (OC.o _).mono ?_;rintro e w6 ⟨rfl,b6⟩;replace BX:=Hy (BX.o.keeps b6);replace FX:=Hy (FX.o.keeps b6);refine hK.o _ _ (hH.trans (b6.mono hH.size)) (fun hH=>?_);clear hK K b6;refine ak (i:=0) rfl (by kernel_rfl) rfl (fun K hK=>?_);have e0:=BX.o.1;have e1:=BX.o.2;go_simp;refine hK.o _ _ hH (fun hH=>?_);clear hK K e0 e1;refine ak (i:=7) rfl (by kernel_rfl) rfl (fun K hK=>?_);go_simp;refine (AC.o _).mono ?_;rintro e w8 ⟨rfl,b8⟩;replace BX:=Hy (BX.o.keeps b8);replace FX:=Hy (FX.o.keeps b8);refine hK.o _ _ (hH.trans (b8.mono hH.size)) (fun hH=>?_);clear hK K b8;refine ak (i:=8) rfl (by kernel_rfl) rfl (fun K hK=>?_);have e0:=BX.o.1;have e1:=BX.o.2;have e2:=FX.o.1;have e3:=FX.o.2.1;go_simp;refine hK.o _ _ (kK hH MB.o _ _) (fun hH=>?_);have BY:=Hy (BX.o.put (ex (l.take j) s+x.2));have FY:=Hy (vK FX.o (.int .i64 (hi (ex (l.take j) s+x.2))) (.int .u64 (lo (ex (l.take j) s+x.2))));clear hK K e0 e1 e2 e3;refine wpAnyH_done (by kernel_rfl) ?_ _;refine j4 ?_;have HB:=Hy hH;clear hH;go_wp2_with fail;refine ⟨⟨j+1,congrArg (Value.int .i64) f4.o,Hy hc,Hy (by rw [HE.o];exact BY.o),FY,HB⟩,aU hc f4.o⟩
   have q5:(x.1.toList==s.toList)=false:=by rw [Dm];exact dF hxs
   have HE:=Hy (hoff.o hxs);replace hxs:=Hy hxs;clear hon hoff;go_wp2_with fail;refine ⟨⟨j+1,congrArg (Value.int .i64) f4.o,Hy hc,Hy (HE.o ▸ BX.o),FX,hb⟩,aU hc f4.o⟩
  have q2:decide ((j:Int)<(n:Int))=false:=dF (by omega);rw [show l.take j=l from List.take_of_length_le (by have:=S0.o.hn;omega)] at BX;have DC:=Hy (fun W=>zo (a:=ex l s) 1 IN.o W (by decide) (by decide));rw [yS,nQ] at DC;have R1:=Hy Mk;generalize ex l s=x at *;have e0:=BX.o.1;have e1:=BX.o.2;cases hrg:rg x
  ·have hf:=Bo hrg;rw [hrg] at DC;go_wp2_with fail;refine (DC.o _).mono ?_;rintro e w4 ⟨rfl,b4⟩;have B4:=Hy (aD hb.o b4);clear b4;go_wp2_with fail
   go_ret2
   exact ⟨by rw [← RV.o,← RB.o,hf];rfl,B4.o⟩
  rw [hrg,oQ hrg] at DC;cases hf:far x
  ·go_wp2_with fail;refine (DC.o _).mono ?_;rintro e w4 ⟨rfl,b4⟩;have B4:=Hy (aD hb.o b4);clear b4;go_wp2_with fail;refine (R1.o _ _).mono ?_;rintro e w' ⟨rfl,rfl⟩;go_wp2_with fail
   go_ret2
   exact ⟨by rw [← RV.o,← RB.o,hf];rfl,B4.o⟩
  go_wp2_with fail;refine (DC.o _).mono ?_;rintro e w4 ⟨rfl,b4⟩;have B4:=Hy (aD hb.o b4);clear b4;go_wp2_with fail;refine (R1.o _ _).mono ?_;rintro e w' ⟨rfl,rfl⟩;go_wp2_with fail
  go_ret2
  exact ⟨by rw [← RV.o,← RB.o,hf];rfl,B4.o⟩
theorem Gq {c:Int} (h1:¬ (97≤c∧c≤122)) (h2:¬ (48≤c∧c≤57)) (h3:¬ c=95):(iU c || (nS c || decide (c=95)))=false:=by
 unfold iU nS;rw [dF h1,dF h2,dF h3];rfl
theorem Jv {c:Int} (h:(97≤c∧c≤122)∨(48≤c∧c≤57)∨c=95):(iU c || (nS c || decide (c=95)))=true:=by
 unfold iU nS;rcases h with h | h | h
 ·rw [dT h];rfl
 ·rw [dT h];simp
 rw [dT h];simp
theorem lF (s:ByteArray) (w:World):Calls Tryz.prog 186 #[.string s] w fun e w' => e=.returned (.bool (word s))∧w=w':=by
 by_cases h0:s.size=0
 ·rw [uQ s h0];have q1:decide ((s.size:Int)<1)=true:=dT (by omega)
  go_enter Tryz.func186,Tryz.ntmps186
  go_wp2_with fail;go_ret;exact ⟨rfl,rfl⟩
 have h0':0<s.size:=by omega
 have hw:=zK s h0';have q1:decide ((s.size:Int)<1)=false:=dF (by omega);by_cases h24:s.size≤24
 ·have q2:decide (24<(s.size:Int))=false:=dF (by omega);rw [dT h24,Bool.true_and] at hw;have hS:=Hy h24;clear h24;generalize hK:((s[0].toNat:Nat):Int)=d at hw;cases hl:iU d
  ·rw [hl,Bool.false_and] at hw;rw [hw];unfold iU at hl;rw [decide_eq_false_iff_not] at hl;by_cases p1:d<97
   ·have q3:decide (d<97)=true:=dT p1;clear hl p1
    go_enter Tryz.func186,Tryz.ntmps186
    go_wp2_with fail;go_ret;exact ⟨rfl,rfl⟩
   have q3:decide (d<97)=false:=dF p1;have q4:decide (122<d)=true:=dT (by omega);clear hl p1
   go_enter Tryz.func186,Tryz.ntmps186
   go_wp2_with fail;go_ret;exact ⟨rfl,rfl⟩
  rw [hl,Bool.true_and] at hw;have H:=Hy hw;unfold iU at hl;rw [decide_eq_true_eq] at hl;have q3:decide (d<97)=false:=dF (by omega);have q4:decide (122<d)=false:=dF (by omega);clear hw hl
  go_enter Tryz.func186,Tryz.ntmps186
  go_wp2_with fail
  go_loopw [3] (fun vi wr => ∃ j:Nat,vi=.int .i64 (j:Nat)∧j≤s.size∧Hid (word s=(s.data.toList.drop j).all wch)∧w=wr) (fun vi _=>s.size - (intOf vi).toNat)
  case atStart=>exact ⟨0,rfl,by omega,H,rfl⟩
  case round =>
   obtain ⟨j,rfl,hj,hd,rfl⟩:=hrel;clear H;by_cases hc:j<s.size
   ·have hst:=hd.o;rw [Dw s hc,Du] at hst;have q5:decide ((j:Int)<(s.size:Int))=true:=dT (by omega);have f4:=Hy (aV (j:=j) (by have:=hS.o;omega));generalize hJ:((s[j].toNat:Nat):Int)=c at hst;have H:=Hy hst;clear hd hst q1 q2 q3 q4 hK;go_wp2_with fail
    all_goals first
      | (go_ret;refine ⟨bB ?_,rfl⟩;rw [H.o,Gq (by omega) (by omega) (by first | omega | simp_all),Bool.false_and])
      | (refine ⟨⟨j+1,congrArg (Value.int .i64) f4.o,hc,Hy ?_,trivial⟩,aU hc f4.o⟩;rw [H.o,Jv (by first | omega | (simp_all;done) | (simp_all;omega)),Bool.true_and])
   have hst:=hd.o;rw [zL s (by omega)] at hst;have H:=Hy hst;clear hst hd;have q3:decide ((j:Int)<(s.size:Int))=false:=dF (by omega);go_wp2_with fail;go_ret;exact ⟨bB H.o.symm,rfl⟩
 rw [dF h24,Bool.false_and] at hw;have q2:decide (24<(s.size:Int))=true:=dT (by omega);rw [hw]
 go_enter Tryz.func186,Tryz.ntmps186
 go_wp2_with fail;go_ret;exact ⟨rfl,rfl⟩
theorem Ho {w:World} {base:Nat} {v:Value} {l:List Fa} (h:Own w base v l):Out base w v l:=by
 obtain ⟨a,cap,e,S⟩:=h.sl;refine ⟨a,cap,e,S,fun x hx=>?_⟩;rcases h.2 with ⟨h0,_⟩ | ⟨g,cap2,cur,e2,hb,hh,_⟩
 ·rw [e] at h0;injection h0 with h1
  rw [h1] at hx;cases hx
 rw [e] at e2;injection e2 with h1
 rw [h1] at hx;cases hx;exact ⟨hb,cur,_,hh⟩
theorem EI {base base':Nat} {w:World} {v:Value} {l:List Fa} (h:Out base w v l) (hb:base'≤base):Out base' w v l:=by
 obtain ⟨a,cap,e,S,T⟩:=h;exact ⟨a,cap,e,S,fun x hx=>⟨Nat.le_trans hb (T x hx).1,(T x hx).2⟩⟩
theorem Od {l:List Fa} (h:wds l=true) (hf:iP l=false) (hn:4<(nz l).length):nE l=2∧nL l=[]:=by
 have e:nE l=2:=by unfold nE;rw [h,hf,if_pos rfl,if_neg (by decide),if_pos hn]
 exact ⟨e,by unfold nL;rw [e];rfl⟩
theorem Lh {l:List Fa} (h:wds l=true) (hf:iP l=false) (hn:¬ 4<(nz l).length):nE l=0∧nL l=nz l:=by
 have e:nE l=0:=by unfold nE;rw [h,hf,if_pos rfl,if_neg (by decide),if_neg hn]
 exact ⟨e,by unfold nL;rw [e];rfl⟩
theorem KU {l:List Fa} {o:List ByteArray} {j:Nat} (h:j<o.length) (h0:ex l (gS o j)≠0):iT l (o.take (j+1))=iT l (o.take j)++[(gS o j,ex l (gS o j))]:=by
 unfold iT;rw [vZ h,List.filter_append,List.map_append];simp [h0]
theorem Ht {l:List Fa} {o:List ByteArray} {j:Nat} (h:j<o.length) (h0:ex l (gS o j)=0):iT l (o.take (j+1))=iT l (o.take j):=by
 unfold iT;rw [vZ h,List.filter_append,List.map_append];simp [h0]
theorem Hu (l:List Fa) (o:List ByteArray):(iT l o).length≤o.length:=by
 unfold iT;rw [List.length_map];exact List.length_filter_le ..
theorem CX {l:List Fa} {o:List ByteArray} {j:Nat} (h:j<o.length) (hf:far (ex l (gS o j))=false) (h1:(o.take j).any (fun s=>far (ex l s))=false):(o.take (j+1)).any (fun s=>far (ex l s))=false:=by
 rw [vZ h,List.any_append,h1];simp [hf]
theorem Iw {l:List Fa} {o:List ByteArray} {j:Nat} (h:j<o.length) (hf:far (ex l (gS o j))=true):o.any (fun s=>far (ex l s))=true:=by
 rw [List.any_eq_true];exact ⟨gS o j,by rw [sP h];exact List.getElem_mem h,hf⟩
theorem KX (l:List Fa):(ns l).length≤l.length:=by
 have:=yu l l.length lr
 rwa [List.take_length] at this
theorem zm (a:Option Addr) (n cap:Nat) (l:List Fa) (w:World) (hS:Sl w a n cap l) (hx:∀ x ∈ l,-9223372036854775808≤x.2∧x.2≤9223372036854775807) (hlen:l.length<5864062014805) :
    Calls Tryz.prog 152 #[.slice a n cap] w fun e w' => ∃ v,e=.returned (.tuple #[v,.int .i64 (nE l)])∧Out w.heap.size w' v (nL l)∧Below w.heap.size w w':=by
 have W1:=Hy lF;have S0:=Hy hS;have X0:=Hy hx;have N0:=Hy hlen;have NS:=Hy (fun W (h:Sl W a n cap l)=>EP a n cap l W h hlen);have EX:=Hy (fun W s (h:Sl W a n cap l)=>yP a n cap l s W h hx hlen);clear hS hx hlen
 go_enter Tryz.func152,Tryz.ntmps152
 go_wp2_with fail
 go_loopw [4] (fun vi wr => ∃ j:Nat,vi=.int .i64 (j:Nat)∧Hid (j≤n)∧Hid (wds (l.take j)=true)∧Hid (Below w.heap.size w wr)) (fun vi _=>n - (intOf vi).toNat)
 case atStart=>exact ⟨0,rfl,Hy zl,Hy rfl,Hy (b0 w)⟩
 case round =>
  obtain ⟨j,rfl,hj,hd,hb⟩:=hrel;by_cases hc:j<n
  ·have hln:=Hy (show j<l.length by have:=S0.o.hn;omega);obtain ⟨bk,off,rfl,hC⟩:=(S0.o.keeps hb.o).hat.resolve_left (by have:=hln.o;omega);obtain ⟨c0,_⟩:=hC j hln.o;have q2:decide ((j:Int)<(n:Int))=true:=dT (by omega);have q3:j<n:=hc;have f4:=Hy (aV (j:=j) (by have:=S0.o.hcap;have:=S0.o.hmax;omega));have hwn:=Hy (wQ hln.o hd.o);have hwt:=Hy (wP hln.o);clear hC;generalize gt l j=x at c0 hwn hwt;cases hw:word x.1
   ·have hr:=Hy (ES (hwt.o hw));go_wp2_with fail;refine (W1.o _ _).mono ?_;rintro e w' ⟨rfl,rfl⟩;go_wp2_with fail
    go_ret2
    exact ⟨.slice none 0 0,by rw [hr.o.1];rfl,by rw [hr.o.2];exact Out.nil _ _,hb.o⟩
   have HW:=Hy (hwn.o hw);go_wp2_with fail;refine (W1.o _ _).mono ?_;rintro e w' ⟨rfl,rfl⟩;go_wp2_with fail;refine ⟨⟨j+1,congrArg (Value.int .i64) f4.o,Hy hc,HW,hb⟩,aU hc f4.o⟩
  have q2:decide ((j:Int)<(n:Int))=false:=dF (by omega);rw [show l.take j=l from List.take_of_length_le (by have:=S0.o.hn;omega)] at hd;go_wp2_with fail;refine (NS.o _ (S0.o.keeps hb.o)).mono ?_;rintro e w2 ⟨vo,rfl,O2,b2⟩;have B2:=Hy (aD hb.o b2);obtain ⟨ao,co,rfl,hso⟩:=O2.ss;have SO:=Hy hso;have hoc:=hso.hcap;have hom:=hso.hmax;have hol:=Hy (show (ns l).length<5864062014805 by have:=KX l;have:=N0.o;omega);have HA:Hid (iP l=(ns l).any fun s=>far (ex l s)):=Hy rfl;have HN:Hid (nz l=iT l (ns l)):=Hy rfl;clear O2 b2 hso hb NS;generalize ns l=o at *;generalize hmm:o.length=m at *;replace hmm:=Hy hmm;go_wp2_with fail
  go_loopw [7,8] (fun vu vi wr => ∃ j:Nat,vi=.int .i64 (j:Nat)∧Hid (j≤m)∧Hid (Own wr w2.heap.size vu (iT l (o.take j)))∧Hid ((o.take j).any (fun s=>far (ex l s))=false)∧Hid (Below w2.heap.size w2 wr)) (fun _ vi _=>m - (intOf vi).toNat)
  case atStart=>exact ⟨0,rfl,Hy zl,Hy (Own.nil _ _),Hy rfl,Hy (b0 w2)⟩
  case round =>
   obtain ⟨k,rfl,hk,hO,hf0,hb⟩:=hrel;by_cases hkm:k<m
   ·obtain ⟨bo,offo,rfl,hD⟩:=(SO.o.keeps hb.o).hat.resolve_left (by have:=hmm.o;omega);have d0:=hD k (by have:=hmm.o;omega);have p1:decide ((k:Int)<(m:Int))=true:=dT (by omega);have p3:k<m:=hkm;have f5:=Hy (aV (j:=k) (by have:=hol.o;omega));have hlk:=Hy (show k<o.length by have:=hmm.o;omega);have g1:=Hy (KU (l:=l) hlk.o);have g2:=Hy (Ht (l:=l) hlk.o);have g3:=Hy (fun h=>CX (l:=l) hlk.o h hf0.o);have g4:=Hy (Iw (l:=l) hlk.o);have hl5:=Hy (show (iT l (o.take k)).length<5864062014805 by have:=Hu l (o.take k);rw [List.length_take] at this;have:=hol.o;omega);clear hD;generalize gS o k=s at d0 g1 g2 g3 g4;have EC:=Hy (fun W h=>EX.o W s h);generalize ex l s=x at g1 g2 g3 g4 EC;have SL:=Hy (S0.o.keeps (aD B2.o hb.o));cases hf:far x
    ·rw [hf,if_neg (by decide)] at EC;have HF:=Hy (g3.o hf);by_cases h0:x=0
     ·have p5:(x != 0)=false:=by rw [bne_eq_false_iff_eq];exact h0
      have HZ:=Hy (g2.o h0);replace h0:=Hy h0;clear g1 g2 g3 g4;go_wp2_with fail;refine (EC.o _ SL.o).mono ?_;rintro e w3 ⟨rfl,b3⟩;have B3:=Hy (aD hb.o b3);have O3:=Hy (hO.o.keeps b3);clear b3;go_wp2_with fail;refine ⟨⟨k+1,by first | exact congrArg (Value.int .i64) f5.o | rfl,Hy hkm,Hy (by rw [HZ.o];exact O3.o),HF,B3⟩,by first | exact aU hkm f5.o | exact uH hkm⟩
     have p5:(x != 0)=true:=by rw [bne_iff_ne];exact h0
     have HZ:=Hy (g1.o h0);replace h0:=Hy h0;clear g1 g2 g3 g4;have D0:=Hy d0;clear d0;have d0:=D0.o;go_wp2_with fail;refine (EC.o _ SL.o).mono ?_;rintro e w3 ⟨rfl,b3⟩;have B3:=Hy (aD hb.o b3);have O3:=Hy (hO.o.keeps b3);replace d0:=dec.keeps b3 d0;clear b3;go_wp2_with (at_builtin;refine dD (.tmp 46) (.tmp 53) rfl ?_;refine bL _ rfl (.tmp 46) (.tmp 53) rfl w2.heap.size _ (iT l (o.take k)) rfl (O3.o.keeps (aj (b0 w3) _)) w3.heap.size s x rfl (Bw.new w3 (s,x) 55) hl5.o (aj B3.o _).size ?_;intro v6 w6 O6 b6);have B6:=Hy ((aj B3.o (.cells #[.string s,.int .i64 x] 55)).trans b6);have O7:=Hy O6;clear b6 O6;go_wp2_with fail;refine ⟨⟨k+1,by first | exact congrArg (Value.int .i64) f5.o | rfl,Hy hkm,Hy (by rw [HZ.o];exact O7.o),HF,B6⟩,by first | exact aU hkm f5.o | exact uH hkm⟩
    rw [hf,if_pos rfl] at EC;have hr:=Hy (ET hd.o (HA.o.trans (g4.o hf)));clear g1 g2 g3 g4;go_wp2_with fail;refine (EC.o _ SL.o).mono ?_;rintro e w3 ⟨rfl,b3⟩;have B3:=Hy (aD hb.o b3);clear b3;go_wp2_with fail
    go_ret2
    exact ⟨.slice none 0 0,by rw [hr.o.1];rfl,by rw [hr.o.2];exact Out.nil _ _,aD B2.o B3.o⟩
   have p1:decide ((k:Int)<(m:Int))=false:=dF (by omega);rw [show o.take k=o from List.take_of_length_le (by have:=hmm.o;omega)] at hO hf0;rw [← HN.o] at hO;have hfa:=Hy (HA.o.trans hf0.o);have hou:=Ho hO.o;obtain ⟨au,cu,rfl,hsu⟩:=hO.o.sl;have OU:=Hy (EI hou B2.o.size);clear hou;have SU:=Hy hsu;clear hsu;by_cases h4:4<(nz l).length
   ·have hr:=Hy (Od hd.o hfa.o h4);clear hO;generalize (nz l).length=m2 at *;have p4:decide ((4:Int)<(m2:Int))=true:=dT (by omega);go_wp2_with fail
    go_ret2
    exact ⟨.slice none 0 0,by rw [hr.o.1];rfl,by rw [hr.o.2];exact Out.nil _ _,aD B2.o hb.o⟩
   have hr:=Hy (Lh hd.o hfa.o h4);have HO:=Hy (show ∀ m2,m2=(nz l).length→Out w.heap.size wr (.slice au m2 cu) (nz l) from fun m2 e=>by rw [e];exact OU.o);clear hO SU;generalize hm2:(nz l).length=m2 at *;replace hm2:=Hy hm2;have p4:decide ((4:Int)<(m2:Int))=false:=dF (by omega);go_wp2_with fail
   go_ret2
   exact ⟨.slice au m2 cu,by rw [hr.o.1];rfl,by rw [hr.o.2];exact HO.o m2 rfl,aD B2.o hb.o⟩
end un
namespace rr
open Go.RowKit dec pa
theorem rX {S B base:Nat} {w w':World} {v:Value} {l:List un.Fa} (h:un.Own w base v l) (M:Mx S B w w') (hB:B<base) (hS:w.heap.size≤S):un.Own w' base v l:=by
 obtain ⟨h1,h2⟩:=h;refine ⟨h1,?_⟩;rcases h2 with h0 | ⟨g,cap,cur,e,hbg,hh,r⟩
 ·exact .inl h0
 refine .inr ⟨g,cap,cur,e,hbg,?_,r⟩;have:g<w.heap.size:=by
  rcases Nat.lt_or_ge g w.heap.size with h' | h'
  ·exact h'
  rw [Array.getElem?_eq_none h'] at hh;cases hh
 rw [M.block _ (by omega) (by omega)];exact hh
theorem KO (w:World) (x:un.Fa) (base:Nat) (h:base≤w.heap.size):un.Own (w.alloc (.cells #[.string x.1,.int .i64 x.2] 55)) base (.slice (some ⟨w.heap.size,0,none⟩) 1 1) [x]:=by
 refine ⟨rfl,.inr ⟨w.heap.size,1,#[.string x.1,.int .i64 x.2],rfl,h,Go.heap_alloc_new w _,Nat.le_refl _,by unfold maxLen;omega,rfl,rfl⟩⟩
def Tow {α:Type} (r:Rs α) (l:List Tk) (a c:Int) (r0:Rs α) (l0:List Tk) (a0 c0:Int):Prop:=∀ y l2 a2 c2,Aft r l a c y l2 a2 c2→Aft r0 l0 a0 c0 y l2 a2 c2
theorem lI {α:Type} (one:List Tk→Rs α) (s:ByteArray) (f:Nat) (x:List α) (l:List Tk):more one s (f+1) x l=if isT s l=true then (one l.tail).bind fun y r=>more one s f (x++[y]) r else .ok x l:=rfl
theorem Tl.two {s:ByteArray} {l:List Tk} (h:Tl l) (ht:isT s l=true):2≤l.length:=by
 have h1:=h.of ht;have:=h1.ne;have:=aP ht
 cases hl:l.tail with
 | nil=>exact absurd hl (by assumption)
 | cons x r=>rw [hl] at this;simp at this;omega
theorem rE (B:Nat) (l:List Tk) (i:Bool) (a c:Int) (w:World) (h:Rp w B l i a c) :
    Calls Tryz.prog 96 #[.pointer (some ⟨B,0,none⟩)] w (Qst B Uv (uni l) l i a c w):=by
 have gB:=Hy h.lt;have P:=Hy h;have M:=Hy (Mx.refl w.heap.size B w);have HL:=Hy h.tl.ln;obtain ⟨bk,off,n,cap,hb,hn1,hnc,hmx,hnl,k0,k1,k2,hbB,hC⟩:=h.now;have e0:=hb.cell 0;simp only [sz2,sz3] at e0;have i1:(0:Int)<(n:Int):=by omega
 have i2:0<n:=by omega
 obtain ⟨xa,hx⟩:∃ xa,(hd l).a=xa:=⟨_,rfl⟩;have HX:=Hy hx;rw [hx] at k2;clear h hb hC k0 k1 hx
 go_enter Tryz.func96,Tryz.ntmps96
 go_wp2_with fail;cases hf1:fnd ⟨#[91]⟩ l c
 ·have HF1:=Hy (bS hf1);refine (bD B l i a c 5 ⟨#[91]⟩ pw2 (by decide) _ P.o hf1).mono ?_;rintro e w1 ⟨rfl,pp,mm⟩;clear hf1;replace M:=Hy (M.o.nx mm);replace P:=Hy pp;clear pp mm;clear e0 k2;go_wp2_with fail;go_ret;exact ⟨_,[],l,a,c,rfl,⟨none,0,rfl,Us.nil _ _ _⟩,P.o,M.o,by unfold uni;exact .nay HF1.o (.pure _ _ _ _)⟩
 have HF1:=Hy (bg hf1);refine (bC B l i a c 5 ⟨#[91]⟩ pw2 (by decide) _ P.o hf1).mono ?_;rintro e w1 ⟨rfl,pp,mm⟩;clear hf1;replace M:=Hy (M.o.nx mm);replace P:=Hy pp;clear pp mm;clear e0 k2;go_wp2_with fail;refine (yO B l.tail i a c _ P.o).mono ?_;rintro e w2 ⟨u2,x2,l2,a2,c2,rfl,v2,pp,mm,af2⟩;have AF2:=Hy af2;clear af2;replace M:=Hy (M.o.nx mm);replace P:=Hy pp;clear pp mm;obtain rfl:u2=.agg #[.string x2.1,.int .i64 x2.2]:=v2;have hs1:=Hy M.o.size;go_wp2_with fail;have b3:=(aj (b0 w2) (.cells #[.string x2.1,.int .i64 x2.2] 55));have O2:=Hy (KO w2 x2 w.heap.size hs1.o);replace P:=Hy (P.o.keeps b3);replace M:=Hy (M.o.nx (.of b3));clear b3;have TW:=Hy (show Tow (more fac ⟨#[42]⟩ (l2.length+1) [x2] l2) l2 a2 c2 (lst fac ⟨#[42]⟩ l.tail) l.tail a c from fun y l9 a9 c9 h=>AF2.o.bind (g:=fun y r=>more fac ⟨#[42]⟩ (r.length+1) [y] r) h);have hlen:=Hy (show c2=0→[x2].length+l2.length≤1048576 from fun hc=>by subst hc;have h0:=iN (AF2.o.fine (ig _)).2.1;have:=HL.o;rw [List.length_tail] at h0;simp only [List.length_singleton];omega);have hfx:=Hy (show c2=0→∀ y ∈ [x2],Inx y from fun hc y hy=>by subst hc;rw [List.mem_singleton] at hy;subst hy;exact sS (AF2.o.fine (ig _)).2.1);clear AF2 hs1
 go_loopg [4] (l2.length+1) (fun k v wr => ∃ (x:List un.Fa) (l':List Tk) (a' c':Int),Hid (un.Own wr w.heap.size v x)∧Hid (Rp wr B l' i a' c')∧Hid (Mx w.heap.size B w wr)∧Hid (Tow (more fac ⟨#[42]⟩ k x l') l' a' c' (lst fac ⟨#[42]⟩ l.tail) l.tail a c)∧Hid (c'=0→x.length+l'.length≤1048576)∧Hid (c'=0→∀ y ∈ x,Inx y)∧Hid (0<k∧(c'=0→l'.length<k))∧Hid (x.length≤1048577))
 case atStart=>exact ⟨[x2],l2,a2,c2,O2,P,M,TW,hlen,hfx,Hy ⟨Nat.succ_pos _,fun _=>Nat.lt_succ_self _⟩,Hy (by simp)⟩
 case round =>
  clear O2 P M TW hlen hfx;obtain ⟨x,l',a',c',O,P,M,TW,hlen,hfx,hk,hxl⟩:=hrel;rcases gk with _ | gk
  ·exact absurd hk.o.1 (Nat.lt_irrefl _)
  go_wp2_with fail;have HT2:=Hy (fun (hc:fnd ⟨#[42]⟩ l' c'=true)=>Tl.two P.o.tl (bg hc).2);cases hf3:fnd ⟨#[42]⟩ l' c'
  ·have HF3:=Hy (bS hf3);refine (bD B l' i a' c' 5 ⟨#[42]⟩ pw3 (by decide) _ P.o hf3).mono ?_;rintro e w3 ⟨rfl,pp,mm⟩;clear hf3;replace O:=Hy (rX O.o mm gB.o lr);replace M:=Hy (M.o.nx mm);replace P:=Hy pp;clear pp mm;have AL:=Hy (TW.o x l' a' c' (by rw [lI];exact .nay HF3.o (.pure _ _ _ _)));clear TW hk HF3;go_wp2_with fail;refine (bn B 5 ⟨#[93]⟩ pw4 (by decide) l' i a' c' _ P.o).mono ?_;rintro e w4 ⟨u4,x4,l4,a4,c4,rfl,v4,pp,mm,af4⟩;have AF4:=Hy af4;clear af4;replace O:=Hy (rX O.o mm gB.o lr);replace M:=Hy (M.o.nx mm);replace P:=Hy pp;clear pp mm;obtain rfl:u4=.tuple #[]:=v4;obtain ⟨bk4,off4,n4,cap4,hb4,_⟩:=P.o.now;have d3:=hb4.cell 3;simp only [sz2,sz3,sz4] at d3;clear hb4;by_cases hc:c4=0
   ·subst hc;have hc':=Hy (AF4.o.fine (bJ _ _)).1;obtain ⟨au,cu,rfl,S4⟩:=O.o.sl;have NM:=Hy (fun W h=>un.zm au x.length cu x W (S4.keeps h) (fun y hy=>hfx.o hc'.o y hy) (by have:=hxl.o;omega));clear S4 O hlen hfx;go_wp2_with fail;refine (NM.o _ (b0 _)).mono ?_;rintro e w5 ⟨u5,rfl,U5,b5⟩;replace P:=Hy (P.o.keeps b5);have hsz:=Hy (M.o.size);replace M:=Hy (M.o.nx (.of b5));have V5:=Hy (Uv.less (IX U5) hsz.o);clear b5 U5 NM d3;have AN:=Hy (fun y l9 a9 c9 (h:Aft (if un.nE x=0 then .ok (un.nL x) l4 else .no (hd l).a (un.nE x) l4) l4 a4 0 y l9 a9 c9)=>show Aft (uni l) l a c y l9 a9 c9 from by
      unfold uni
      exact .yes HF1.o.1 HF1.o.2 (AL.o.bind (AF4.o.bind h)))
    by_cases hE:un.nE x=0
    ·have q1:(un.nE x != 0)=false:=by rw [hE];rfl
     have AE:=Hy (AN.o (un.nL x) l4 a4 0 (by rw [if_pos hE];exact .pure _ _ _ _));obtain ⟨y,hy⟩:∃ y,un.nL x=y:=⟨_,rfl⟩;rw [hy] at V5 AE;clear AN AL hE hy;generalize un.nE x=ne at *;go_wp2_with fail;go_ret;exact ⟨_,y,l4,a4,0,rfl,V5.o,P.o,M.o,AE.o⟩
    have q1:(un.nE x != 0)=true:=bne_iff_ne.2 hE;have AE:=Hy (AN.o (un.nL x) l4 xa (un.nE x) (by rw [if_neg hE];exact ⟨HX.o.symm,rfl,hE⟩));have FC:=Hy (jJ B l4 i a4 0 xa (un.nE x) _ P.o);rw [if_pos rfl,if_pos rfl] at FC;obtain ⟨y,hy⟩:∃ y,un.nL x=y:=⟨_,rfl⟩;rw [hy] at V5 AE;clear AN AL hE hy;generalize un.nE x=ne at *;go_wp2_with fail;refine FC.o.mono ?_;rintro e w6 ⟨rfl,pp,mm⟩;replace V5:=Hy (V5.o.kp (mm.kp gB.o));replace M:=Hy (M.o.nx mm);replace P:=Hy pp;clear pp mm FC;go_wp2_with fail;go_ret;exact ⟨_,y,l4,xa,ne,rfl,V5.o,P.o,M.o,AE.o⟩
   have q2:(c4 != 0)=true:=bne_iff_ne.2 hc;have AE:=Hy (show Aft (uni l) l a c [] l4 a4 c4 from by
     unfold uni
     exact .yes HF1.o.1 HF1.o.2 (AL.o.bind (AF4.o.bind (.still _ _ _ hc _))))
   clear AL O hlen hfx;go_wp2_with fail;go_ret;exact ⟨_,[],l4,a4,c4,rfl,⟨none,0,rfl,Us.nil _ _ _⟩,P.o,M.o,AE.o⟩
  have HT3:=Hy (HT2.o hf3);have HF3:=Hy (bg hf3);refine (bC B l' i a' c' 5 ⟨#[42]⟩ pw3 (by decide) _ P.o hf3).mono ?_;rintro e w3 ⟨rfl,pp,mm⟩;clear hf3;replace O:=Hy (rX O.o mm gB.o lr);replace M:=Hy (M.o.nx mm);replace P:=Hy pp;clear pp mm;go_wp2_with fail;refine (yO B l'.tail i a' c' _ P.o).mono ?_;rintro e w4 ⟨u4,x4,l4,a4,c4,rfl,v4,pp,mm,af4⟩;have AF4:=Hy af4;clear af4;replace O:=Hy (rX O.o mm gB.o lr);replace M:=Hy (M.o.nx mm);replace P:=Hy pp;clear pp mm;obtain rfl:u4=.agg #[.string x4.1,.int .i64 x4.2]:=v4;have hxl2:=Hy (show x.length<5864062014805 from by have:=hxl.o;omega);have hs4:=Hy M.o.size;have TW2:=Hy (show Tow (more fac ⟨#[42]⟩ gk (x++[x4]) l4) l4 a4 c4 (lst fac ⟨#[42]⟩ l.tail) l.tail a c from fun y l9 a9 c9 h=>TW.o y l9 a9 c9 (by rw [lI];exact .yes HF3.o.1 HF3.o.2 (AF4.o.bind h)));have HK2:=Hy (show 0<gk∧(c4=0→l4.length<gk) from by
    have h1:=hk.o.2 HF3.o.1
    have h2:=HT3.o
    refine ⟨by omega,fun hc=>?_⟩
    subst hc
    have h3:=iN (AF4.o.fine (ig _)).2.1
    have h4:=aP HF3.o.2
    omega)
  have hlen2:=Hy (show c4=0→(x++[x4]).length+l4.length≤1048576 from fun hc=>by
    subst hc
    have h3:=iN (AF4.o.fine (ig _)).2.1
    have h4:=aP HF3.o.2
    have h5:=hlen.o HF3.o.1
    rw [List.length_append,List.length_singleton]
    omega)
  have hfx2:=Hy (show c4=0→∀ y ∈ x++[x4],Inx y from fun hc y hy=>by
    subst hc
    rcases List.mem_append.1 hy with hy | hy
    · exact hfx.o HF3.o.1 y hy
    · rw [List.mem_singleton] at hy
      subst hy
      exact sS (AF4.o.fine (ig _)).2.1)
  have hxl3:=Hy (show (x++[x4]).length≤1048577 from by have:=hlen.o HF3.o.1;rw [List.length_append,List.length_singleton];omega);clear TW hk hlen hfx hxl;go_wp2_with (at_builtin;refine un.dD (.tmp 22) (.tmp 25) rfl ?_;refine un.bL _ rfl (.tmp 22) (.tmp 25) rfl w.heap.size _ x rfl (O.o.keeps (aj (b0 w4) _)) w4.heap.size x4.1 x4.2 rfl (un.Bw.new w4 x4 55) hxl2.o (by have:=hs4.o;simp;omega) ?_;intro v2 w5 O5 b5);have b6:=(aj (b0 w4) (.cells #[.string x4.1,.int .i64 x4.2] 55));have P5:=Hy ((P.o.keeps b6).keep (b5.mono (by have:=gB.o;omega)));have M5:=Hy ((M.o.nx (.of b6)).trans (.of b5));replace O5:=Hy O5;clear b5 b6 P M O;go_wp2_with fail;go_roundg gk
  case measure=>omega
  case rel=>exact ⟨x++[x4],l4,a4,c4,O5,P5,M5,TW2,hlen2,hfx2,HK2,hxl3⟩
end rr
end Go.Proofs.YtbpijgddfaefkaaGreatDoor
