/- The printer of aggregates. -/
import Derived.Test.YtbahfelnbofjjaaGreatDoorH11
set_option maxRecDepth 100000
set_option maxHeartbeats 16000000
namespace Go.Proofs.YtbahfelnbofjjaaGreatDoor
namespace ch
open Go.RowKit dec
theorem Mc {o:Oper} {a:Act} {w:World} {K:Act→World→Prop} {Q:Exit→Act→World→Prop} (s x:Operand)
    (ho:o.op=.call { callee:=.builtin .append,args:=#[s,x],argTypes:=#[97,97] })
    (base:Nat) (v:Value) (l:List ByteArray) (hs:a.eval s=v) (hown:un.OS w base v l) (b:Nat) (t:ByteArray) (hx:a.eval x=.slice (some ⟨b,0,none⟩) 1 1) (hB:w.cell? ⟨b,0,none⟩=some (.string t))
    (hn:l.length<5864062014805) (hbase:base≤w.heap.size)
    (h:∀ v' w',un.OS w' base v' (l++[t])→Below base w w'→K (a.put o.dst v') w'):o.wp Tryz.prog a w K Q:=by
 obtain ⟨i,hi,hz0,hz1,hz2⟩:=info_parts un.wo
 refine wp_append_own w s x 97 ho base 9 i (.string ByteArray.empty) 1 16 dec.uy97 hi hz0 hz1 hz2 rfl (by decide) v l.length (l.map Value.string) hs hown ⟨b,0,none⟩ 1 1 [.string t] hx rfl ?_ (fun u hu=>by simp at hu;subst hu;rfl)
   (by unfold maxLen;omega) (by omega) hbase fun v' w' h1 h2 _=>h v' w' (by unfold un.OS;rw [List.map_append,L_a];exact h1) ((Below.refl base w).grown h2 hbase fun k hk=>(hown.lt k hk).1)
 intro j u hu
 match j,hu with
 | 0,hu=>simp at hu;subst hu;exact hB
 | j+1,hu=>simp at hu
theorem Tn (w:World) (t:ByteArray) (base:Nat) (hb:base≤w.heap.size):un.OS (w.alloc (.cells #[.string t] 9)) base (.slice (some ⟨w.heap.size,0,none⟩) 1 1) [t]:=World.ownsRow_lit w #[.string t] 1 hb (by unfold maxLen;omega) rfl
theorem mH {l:List (List UInt8)} (x:List UInt8) (h:l≠[]):Lib.join (l++[x]) [44,32]=Lib.join l [44,32]++44 :: 32 :: x:=by
 cases l with
 | nil=>exact absurd rfl h
 | cons y l =>
   rw [L_g,Lib.join_cons,Lib.join_cons]
   simp [Lib.joinTail]
def agL (op tb:ByteArray) (pa:Int) (t0:List UInt8):List ByteArray:=[tb]++(if op=⟨#[99,111,117,110,116]⟩ then [] else [B8 t0])++(if pa=0 then [] else [B8 (Lib.itoa pa)])
theorem Gm (op tb:ByteArray) (pa:Int) (t0:List UInt8):(agL op tb pa t0).length≤3:=by
 unfold agL;simp only [L_a,L_b,L_j];split <;> split <;> simp
theorem Dc (op tb:ByteArray) (pa:Int) (t0 x:List UInt8):Lib.join ((agL op tb pa t0++[B8 x]).map (·.data.toList)) [44,32]=tb.data.toList++((if op=⟨#[99,111,117,110,116]⟩ then [] else 44 :: 32 :: t0)++((if pa=0 then [] else 44 :: 32 :: Lib.itoa pa)++44 :: 32 :: x)):=by
 unfold agL;rw [List.map_append,List.map_singleton,bZ,mH x (by simp)];have e:Lib.join (([tb]++(if op=⟨#[99,111,117,110,116]⟩ then [] else [B8 t0])++(if pa=0 then [] else [B8 (Lib.itoa pa)])).map (·.data.toList)) [44,32]=tb.data.toList++((if op=⟨#[99,111,117,110,116]⟩ then [] else 44 :: 32 :: t0)++(if pa=0 then [] else 44 :: 32 :: Lib.itoa pa)):=by
  by_cases h1:op=⟨#[99,111,117,110,116]⟩
  ·rw [if_pos h1,if_pos h1];by_cases h2:pa=0
   ·rw [if_pos h2,if_pos h2];simp [Lib.join_one]
   rw [if_neg h2,if_neg h2];show Lib.join ([tb.data.toList]++[Lib.itoa pa]) [44,32]=_;rw [mH _ (by simp),Lib.join_one];simp
  rw [if_neg h1,if_neg h1];by_cases h2:pa=0
  ·rw [if_pos h2,if_pos h2];show Lib.join ([tb.data.toList]++[t0]) [44,32]=_;rw [mH _ (by simp),Lib.join_one];simp
  rw [if_neg h2,if_neg h2];show Lib.join ([tb.data.toList,t0]++[Lib.itoa pa]) [44,32]=_;rw [mH _ (by simp)];show Lib.join ([tb.data.toList]++[t0]) [44,32]++_=_;rw [mH _ (by simp),Lib.join_one];simp
 rw [e];simp
def agX (op tb:ByteArray) (pa:Int) (wi t0 t1:List UInt8):List UInt8 :=
 op.data.toList++40 :: (tb.data.toList++((if op=⟨#[99,111,117,110,116]⟩ then [] else 44 :: 32 :: t0)++((if pa=0 then [] else 44 :: 32 :: Lib.itoa pa)++(44 :: 32 :: (wi++(if t1=[116,114,117,101] then [] else [32,119,104,101,114,101,32]++t1))++[41]))))
theorem Vh (op tb:ByteArray) (pa:Int) (wi t0 t1:List UInt8):agX op tb pa wi t0 t1=(op.data.toList++[40])++Lib.join ((agL op tb pa t0++[B8 (wi++(if t1=[116,114,117,101] then [] else [32,119,104,101,114,101,32]++t1))]).map (·.data.toList)) [44,32]++[41]:=by
 rw [Dc];unfold agX;simp
theorem kH {S:Nat} {w w':World} {g:Nat} {T:TypeId} {cs:Array Value} (b:Below S w w') (h:Blk w g T cs) (hS:g<S):Blk w' g T cs:=h.below b hS
theorem Jz {S:Nat} {w w':World} {g:Nat} {T:TypeId} (h:∃ cs:Array Value,cs.size=2∧Blk w g T cs) (b:Below S w w') (hS:g<S):∃ cs:Array Value,cs.size=2∧Blk w' g T cs:=by
 obtain ⟨cs,h1,h2⟩:=h;exact ⟨cs,h1,h2.below b hS⟩
theorem LX {S:Nat} {w w':World} {g:Nat} {T:TypeId} (h:∃ cs:Array Value,cs.size=2∧Blk w g T cs) (b:Below S w w') (hS:S=w.heap.size):∃ cs:Array Value,cs.size=2∧Blk w' g T cs:=by
 subst hS;exact bW h b
theorem PY {w:World} {g:Nat} {T:TypeId} (h:∃ cs:Array Value,cs.size=2∧Blk w g T cs):∃ cs:Array Value,cs.size=2∧Blk w.drew g T cs:=h
theorem os_drew {w:World} {base:Nat} {v:Value} {l:List ByteArray} (h:un.OS w base v l):un.OS w.drew base v l:=h
theorem Iu {op:ByteArray} {p:Int} (h:iG op p=true) (e:op=⟨#[99,111,117,110,116]⟩):p=0:=by
 rcases kC h with h' | ⟨h',_⟩
 ·exact h'.2
 rw [e] at h';exact absurd h' (by decide)
theorem RF (k n:Int):wiT k n≠[]:=by
 unfold wiT
 repeat (first | split | simp)
theorem xH (h:Hd) (n:Nat) (ua aa:Option Addr) (uc ac:Nat) (w:World) (b off c:Nat) (t0:List UInt8) (r0:Int) (t1:List UInt8) (r1:Int) (hC:un.Cl w b off [(B8 t0,r0),(B8 t1,r1)]) (l0:t0.length≤1000000) (l1:t1.length≤1000000) (_n0:t0≠[]) (n1:t1≠[]) (hn:name h.tb=true) (hp:iG h.op h.pa=true) (hw:jd h.wk h.ws=true) (T:Tabq w):Calls Tryz.prog 103 #[.agg (exC h n ua uc aa ac),.slice (some ⟨b,off,none⟩) 2 c] w (Pr (B8 (agX h.op h.tb h.pa (wiT h.wk h.ws) t0 t1)) 9 w):=by
 obtain ⟨k0,_,k1,_⟩:=cl2 hC;have hlb:=Hy (show b<w.heap.size from block_lt_of_cell k0);have hnl:=dM hn;have hol:=Da hp;have hol2:h.op.size≤8:=by rw [← aI];exact hol
 have hwl:=xJ hw;have hpl:0≤h.pa∧h.pa≤1073741824:=by rcases kC hp with e | e <;> omega
 have hil:=iV h.pa hpl.1 (by omega);obtain ⟨cw,hcw⟩:∃ cw,cw=wiT h.wk h.ws++(if t1=[116,114,117,101] then [] else [32,119,104,101,114,101,32]++t1):=⟨_,rfl⟩;obtain ⟨jn,hjn⟩:∃ jn,jn=Lib.join ((agL h.op h.tb h.pa t0++[B8 cw]).map (·.data.toList)) [44,32]:=⟨_,rfl⟩;have hX:agX h.op h.tb h.pa (wiT h.wk h.ws) t0 t1=h.op.data.toList++[40]++jn++[41]:=by rw [hjn,hcw];exact Vh ..
 have hcl:cw.length≤1000100:=by
  rw [hcw,L_a];split
  ·simp;omega
  simp;omega
 have hjl:jn.length≤3000000:=by
  rw [hjn,Dc];rw [aI] at hnl;have a1:(if h.op=⟨#[99,111,117,110,116]⟩ then [] else 44 :: 32 :: t0:List UInt8).length≤t0.length+2:=by split <;> simp
  have a2:(if h.pa=0 then [] else 44 :: 32 :: Lib.itoa h.pa:List UInt8).length≤22:=by split <;> simp;omega
  simp only [L_a,L_b,aI];omega
 have hJ:=Hy (fun (v:Value) (base:Nat) (W:World) (hO:un.OS W base v (agL h.op h.tb h.pa t0++[B8 cw]))=>uK ⟨#[44,32]⟩ v _ base W hO (by have:=Gm h.op h.tb h.pa t0;rw [L_a];simp only [List.length_singleton];omega) (by show (Lib.join ((agL h.op h.tb h.pa t0++[B8 cw]).map (·.data.toList)) [44,32]).length≤_;rw [← hjn];omega));have hje:B8 (Lib.join ((agL h.op h.tb h.pa t0++[B8 cw]).map (·.data.toList)) (⟨#[44,32]⟩:ByteArray).data.toList)=B8 jn:=by rw [hjn]
 rw [hje] at hJ;have A1:=dz h.op.data.toList [40] (by omega) (by decide);have A2:=dz (h.op.data.toList++[40]) jn (by simp only [L_a,List.length_singleton];omega) (by omega);have A3:=dz (h.op.data.toList++[40]++jn) [41] (by simp only [L_a,List.length_singleton];omega) (by decide);replace A1:∀ W,(Op.stringOp .add h.op ⟨#[40]⟩).run Tryz.prog W=.ok (.string (B8 (h.op.data.toList++[40]))) W:=A1;replace A3:∀ W,(Op.stringOp .add (B8 (h.op.data.toList++[40]++jn)) ⟨#[41]⟩).run Tryz.prog W=.ok (.string (B8 (h.op.data.toList++[40]++jn++[41]))) W:=A3;have hW:wrd [B8 (h.op.data.toList++[40]++jn++[41])]=h.op.data.toList++[40]++jn++[41]:=by rw [cu _ (eB (by simp)),tail_nil,L_n,bZ]
 have hlt:(h.op.data.toList++[40]++jn++[41]).length≤4000000:=by
  simp only [L_a];simp;rw [aI] at hol;omega
 have CI:=Hy (fun (W:World) (bw:Below w.heap.size w W)=>rM h.pa hpl.1 (by omega) W (T.t.stays bw));have CWi:=Hy (fun (W:World) (bw:Below w.heap.size w W)=>xI h.wk h.ws hw W (T.stays bw));have e1:=eqL h.op [99,111,117,110,116];have e2:=eqL (B8 t1) [116,114,117,101];have hb1:(B8 t1=⟨#[116,114,117,101]⟩)=(t1=[116,114,117,101]):=propext ⟨fun e=>congrArg (fun b:ByteArray=>b.data.toList) e,fun e=>congrArg B8 e⟩;rw [show (⟨([116,114,117,101]:List UInt8).toArray⟩:ByteArray)=⟨#[116,114,117,101]⟩ from rfl] at e2;simp only [hb1] at e2;clear hb1;have hWW:wrd [B8 (wiT h.wk h.ws),⟨#[119,104,101,114,101]⟩,B8 t1]=wiT h.wk h.ws++([32,119,104,101,114,101,32]++t1):=by
  rw [cu _ (eB (RF _ _)),tail_cons _ _ (fun e=>absurd (congrArg (fun b:ByteArray=>b.size) e) (by decide)),tail_cons _ _ (eB n1),tail_nil,bZ,bZ];simp
 have hzW:(wrd [B8 (wiT h.wk h.ws),⟨#[119,104,101,114,101]⟩,B8 t1]).length≤100000000:=by rw [hWW];simp;omega
 have CWh:=Hy (fun (W:World) (a:Option Addr) (h':Ss W a 3 3 [B8 (wiT h.wk h.ws),⟨#[119,104,101,114,101]⟩,B8 t1])=>fE a 3 3 _ W h' (by decide) hzW);rw [hWW] at CWh;have NW:=Hy (fun (W:World)=>Ss.new W [B8 (wiT h.wk h.ws),⟨#[119,104,101,114,101]⟩,B8 t1] 3 #[.string (B8 (wiT h.wk h.ws)),.string ⟨#[119,104,101,114,101]⟩,.string (B8 t1)] rfl rfl (by decide) 9);clear hzW hWW;rw [hX];clear hX hje;have bb:=bB w (.cells (exC h n ua uc aa ac) 144) (.cells #[.string ⟨#[]⟩,.int .i64 0] 90);have GG:=eH w (exC h n ua uc aa ac) #[.string ⟨#[]⟩,.int .i64 0] 144 90;have hle:=Hy (je w);have B0:=Hy bb;have G:=Hy GG.1;have H:=Hy GG.2;have hne:=Hy (nX w);have K0:=Hy (dec.keeps bb k0);have K1:=Hy (dec.keeps bb k1);have hz:(wrd [B8 (h.op.data.toList++[40]++jn++[41])]).length≤100000000:=by rw [hW];omega
 have CP:=Hy (fun (W:World) (a:Option Addr) (h:Ss W a 1 1 [B8 (h.op.data.toList++[40]++jn++[41])])=>iT a 1 1 _ W h (by decide) hz);rw [hW] at CP;have N:=Hy (fun (W:World)=>Ss.new W [B8 (h.op.data.toList++[40]++jn++[41])] 1 #[.string (B8 (h.op.data.toList++[40]++jn++[41]))] rfl rfl (by decide) 9);clear hz hW;have hcw':=Hy hcw;have hgl:=Hy (Gm h.op h.tb h.pa t0);have hal:=Hy (show agL h.op h.tb h.pa t0=[h.tb]++(if h.op=⟨#[99,111,117,110,116]⟩ then [] else [B8 t0])++(if h.pa=0 then [] else [B8 (Lib.itoa h.pa)]) from rfl);clear hlt hcl hjl hjn hcw hnl hol hol2 hwl hil hpl;generalize B8 (h.op.data.toList++[40]++jn++[41])=s9 at *;generalize B8 (h.op.data.toList++[40]++jn)=s8 at *;generalize B8 jn=s7 at *;generalize B8 (h.op.data.toList++[40])=s6 at *;generalize agL h.op h.tb h.pa t0=L at *;generalize B8 (Lib.itoa h.pa)=s5 at *;have hco:=Hy (Iu hp);have hbg:=Hy (show b≠w.heap.size+1 by have:=hlb.o;omega);clear bb GG hC l0 l1 _n0 n1 k0 k1 hn hp hw T;unfold exC at *
 go_enter Tryz.func103,Tryz.ntmps103
 go_upto_region 1 with fail
 generalize hw0:((w.alloc (.cells #[.int .i64 h.k,.string h.op,.string h.nm,.string h.tb,.int .i64 h.vk,.int .i64 h.vn,.string h.vs,.slice ua h.un.length uc,.int .i64 h.pa,.int .i64 h.wk,.int .i64 h.ws,.slice aa n ac] 144)).alloc (.cells #[.string ⟨#[]⟩,.int .i64 0] 90))=w0 at *;clear hw0;generalize hg3:w.heap.size+1=g3 at H hle hne hbg ⊢;generalize hg2:w.heap.size=g2 at G hne ⊢;clear hg2 hg3;refine wp_region_held_drew (S:=fun w' => (∃ cs:Array Value,cs.size=2∧Blk w' g3 90 cs)∧(Blk w' g2 144 #[.int .i64 h.k,.string h.op,.string h.nm,.string h.tb,.int .i64 h.vk,.int .i64 h.vn,.string h.vs,.slice ua h.un.length uc,.int .i64 h.pa,.int .i64 h.wk,.int .i64 h.ws,.slice aa n ac]∧w'.cell? ⟨b,off,none⟩=some (.string (B8 t0))∧w'.cell? ⟨b,off+2,none⟩=some (.string (B8 t1)))∧Below w.heap.size w w') (by kernel_rfl) ⟨⟨_,rfl,H.o.drew⟩,⟨G.o.drew,K0.o,K1.o⟩,B0.o.drew⟩ (fun hH=>?_);generalize w0.drew=y0 at *;refine au 0 9 ?_ hH (fun w' hS=>?_) ?_;rotate_left;(·go_simp;try rfl);simp only [sz];refine au 1 10 ?_ hH (fun w' hS=>?_) ?_;rotate_left;(·go_simp;try rfl);simp only [sz];refine au 2 11 ?_ hH (fun w' hS=>?_) ?_;rotate_left;(·go_simp;try rfl);simp only [sz];refine au 3 12 ?_ hH (fun w' hS=>?_) ?_;rotate_left;(·have e9:=hS.2.1.2.1;go_simp;try rfl);simp only [sz];refine au 4 13 ?_ hH (fun w' hS=>?_) ?_;rotate_left;(·go_simp;try rfl);simp only [sz];refine au 5 14 ?_ hH (fun w' hS=>?_) ?_;rotate_left;(·go_simp;try rfl);simp only [sz];refine au 6 15 ?_ hH (fun w' hS=>?_) ?_;rotate_left;(·go_simp;try rfl);simp only [sz];refine au 7 16 ?_ hH (fun w' hS=>?_) ?_;rotate_left;(·have e9:=hS.2.1.2.2;go_simp;try rfl);simp only [sz];refine au 8 5 ?_ hH (fun w' hS=>?_) ?_;rotate_left;(·go_simp;try rfl);simp only [sz];refine au 9 6 ?_ hH (fun w' hS=>?_) ?_;rotate_left;(·go_simp;try rfl);simp only [sz];have G1:=Hy hH.2.1.1;have H1:=Hy hH.1;have B1:=Hy hH.2.2;clear hH G H B0 K0 K1;refine wpAnyH_done (by kernel_rfl) ?_ _;obtain ⟨base,hbase⟩:∃ base,base=y0.heap.size:=⟨_,rfl⟩;have HB:=Hy hbase;clear hbase
 go_upto_region 2 with fail
 have d3:=G1.o.cell 3;simp only [sz2,sz3,sz4] at d3;have O3:=Hy (Tn y0 h.tb base (by rw [HB.o];exact Nat.le_refl _));have b3:=Hy ((by rw [HB.o];exact aj (b0 y0) _:Below base y0 (y0.alloc (.cells #[.string h.tb] 9))))
 go_upto_region 3 with fail
 generalize hv3:(Value.slice (some ⟨y0.heap.size,0,none⟩) 1 1)=v3 at O3 ⊢;generalize hy1:(y0.alloc (.cells #[.string h.tb] 9))=y1 at *;clear hv3 hy1 d3;obtain ⟨L1,hL1⟩:∃ L1,L1=[h.tb]++(if h.op=⟨#[99,111,117,110,116]⟩ then [] else [B8 t0]):=⟨_,rfl⟩;have HL1:=Hy hL1;have hll1:=Hy (show L1.length≤2 by rw [hL1];split <;> simp);clear hL1;obtain ⟨bq1,hB1⟩:∃ bq1:Bool,bq1=decide (h.op=⟨#[99,111,117,110,116]⟩):=⟨_,rfl⟩;rw [← hB1] at e1;replace hB1:=Hy hB1;have d1:=((kH b3.o G1.o (by rw [HB.o];exact G1.o.lt))).cell 1;simp only [sz2,sz3,sz4] at d1
 go_upto_if 22 with fail
 clear d1
 go_cut [7] from 23 to 26 (fun v wx=>Hid (un.OS wx base v L1)∧Hid (Below base y0 wx))
 case first =>
  cases bq1
  ·have h1:=of_decide_eq_false hB1.o.symm;have hL:=Hy (HL1.o.trans (by rw [if_neg h1]));clear hB1;replace h1:=Hy h1;go_wp2_with (at_builtin;refine un.jX (.tmp 23) (.tmp 25) rfl ?_;refine un.fC _ rfl (.tmp 23) (.tmp 25) rfl base _ _ rfl (O3.o.keeps (aj (b0 _) _)) y1.heap.size (B8 t0) rfl (by simp [go_sem]) (by simp) (by have:=b3.o.size;rw [HB.o];simp;omega) ?_;intro v4 w4 O4 b4;have O5:=Hy O4;have b5:=Hy ((b3.o.trans ((aj (b0 y1) _).mono (by have:=b3.o.size;rw [HB.o];exact this))).trans b4);clear O4 b4)
   go_meet
   case rel=>exact ⟨Hy (by rw [hL.o];exact O5.o),b5⟩
  have h1:=of_decide_eq_true hB1.o.symm;have hL:=Hy (HL1.o.trans (by rw [if_pos h1,L_n]));clear hB1;replace h1:=Hy h1;go_wp2_with fail
  go_meet
  case rel=>exact ⟨Hy (by rw [hL.o];exact O3.o),b3⟩
 case rest =>
  skip;obtain ⟨O4,b4⟩:=hcut;have HL:=Hy (show L=L1++(if h.pa=0 then [] else [s5]) by rw [hal.o,HL1.o]);clear O3 b3;have d8:=((kH b4.o G1.o (by rw [HB.o];exact G1.o.lt))).cell 8;simp only [sz2,sz3,sz4] at d8;obtain ⟨bq2,hB2⟩:∃ bq2:Bool,bq2 = !decide (h.pa=0):=⟨_,rfl⟩;have q2:(h.pa != 0)=bq2:=by rw [hB2,bne,eqI]
  replace hB2:=Hy hB2
  go_upto_if 29 with fail
  clear d8
  go_cut [7] from 30 to 35 (fun v wx=>Hid (un.OS wx base v L)∧Hid (Below base y0 wx))
  case first =>
   have d8:=((kH b4.o G1.o (by rw [HB.o];exact G1.o.lt))).cell 8;simp only [sz2,sz3,sz4] at d8;cases bq2
   ·have h2:h.pa=0:=by have:=hB2.o;simpa using this
    have hL:=Hy (HL.o.trans (by rw [if_pos h2,L_n]));clear hB2;replace h2:=Hy h2;go_wp2_with fail
    go_meet
    case rel=>exact ⟨Hy (by rw [hL.o];exact O4.o),b4⟩
   have h2:h.pa≠0:=by have:=hB2.o;simpa using this
   have hL:=Hy (HL.o.trans (by rw [if_neg h2]));clear hB2;replace h2:=Hy h2;go_wp2_with fail;refine (CI.o _ (B1.o.trans (b4.o.mono (by rw [HB.o];exact B1.o.size)))).mono ?_;rintro e w6 ⟨rfl,b6⟩;have O6:=Hy (O4.o.keeps b6);have B6:=Hy (b4.o.trans (b6.mono (by have:=b4.o.size;rw [HB.o];exact this)));clear b6 O4 b4 d8;go_wp2_with (at_builtin;refine un.jX (.tmp 30) (.tmp 34) rfl ?_;refine un.fC _ rfl (.tmp 30) (.tmp 34) rfl base _ _ rfl (O6.o.keeps (aj (b0 _) _)) w6.heap.size s5 rfl (by simp [go_sem]) (by have:=hll1.o;omega) (by have:=B6.o.size;rw [HB.o];simp;omega) ?_;intro v7 w7 O7 b7;have O8:=Hy O7;have b8:=Hy ((B6.o.trans ((aj (b0 w6) _).mono (by have:=B6.o.size;rw [HB.o];exact this))).trans b7);clear O7 b7)
   go_meet
   case rel=>exact ⟨Hy (by rw [hL.o];exact O8.o),b8⟩
  case rest =>
   clear O4 b4;obtain ⟨O4,b4⟩:=hcut;have G4:=Hy (kH b4.o G1.o (by rw [HB.o];exact G1.o.lt));have H4:=Hy (LX H1.o b4.o (by rw [HB.o]));have B4:=Hy (B1.o.trans (b4.o.mono (by rw [HB.o];exact B1.o.size)));go_wp2_with (refine bS jM dec.uy26 rfl (.tmp 36) rfl rfl g2 9 #[.int .i64 h.wk,.int .i64 h.ws] rfl (jV (G4.o.cell 9) (G4.o.cell 10)) rfl ?_);refine (CWi.o _ B4.o).mono ?_;rintro e w5 ⟨rfl,b5⟩;have B5:=Hy (ak B4.o b5);have G5:=Hy (G4.o.keeps b5);have H5:=Hy (bW H4.o b5);have O5:=Hy (O4.o.keeps b5);have D5:=Hy (b4.o.trans (b5.mono (by have:=b4.o.size;rw [HB.o];exact this)));clear b5 G4 H4 B4 O4 b4 CWi;obtain ⟨bq3,hB3⟩:∃ bq3:Bool,bq3=decide (t1=[116,114,117,101]):=⟨_,rfl⟩;rw [← hB3] at e2;replace hB3:=Hy hB3
   go_upto_if 40 with fail
   go_cut [8] from 41 to 44 (fun v wx=>v=.string (B8 cw)∧Hid (Below w5.heap.size w5 wx))
   case first =>
    cases bq3
    ·have h3:=of_decide_eq_false hB3.o.symm;clear hB3;have hc:=Hy (hcw'.o.trans (by rw [if_neg h3]));rw [← hc.o] at CWh;replace h3:=Hy h3;go_wp2_with fail;refine (CWh.o _ _ (NW.o _)).mono ?_;rintro e w7 ⟨rfl,b7⟩;have B7:=Hy (ak (aj (b0 w5) _) b7);clear b7;go_wp2_with fail
     go_meet
     case rel=>exact ⟨rfl,B7⟩
    have h3:=of_decide_eq_true hB3.o.symm;clear hB3;have hc:=Hy (hcw'.o.trans (by rw [if_pos h3,L_n]));replace h3:=Hy h3;go_wp2_with fail
    go_meet
    case rel=>exact ⟨by rw [hc.o],Hy (b0 w5)⟩
   case rest =>
    obtain ⟨rfl,b6⟩:=hcut;clear CWh NW e2 hcw';generalize B8 cw=scw at *;skip;skip;have B6:=Hy (ak B5.o b6.o);have G6:=Hy (G5.o.keeps b6.o);have H6:=Hy (bW H5.o b6.o);have O6:=Hy (O5.o.keeps b6.o);have D6:=Hy (D5.o.trans (b6.o.mono (by have:=D5.o.size;rw [HB.o];exact this)));clear b6 B5 G5 H5 O5 D5
    go_upto_region 10 with fail
    refine wp_region_held_drew (S:=fun w' => (∃ cs:Array Value,cs.size=2∧Blk w' g3 90 cs)∧Blk w' g2 144 #[.int .i64 h.k,.string h.op,.string h.nm,.string h.tb,.int .i64 h.vk,.int .i64 h.vn,.string h.vs,.slice ua h.un.length uc,.int .i64 h.pa,.int .i64 h.wk,.int .i64 h.ws,.slice aa n ac]∧Below w.heap.size w w') (by kernel_rfl) ⟨PY H6.o,G6.o.drew,B6.o.drew⟩ (fun hH=>?_);have O7:=Hy (os_drew O6.o);have D7:=Hy D6.o.drew;clear O6 D6 G6 H6 B6;generalize World.drew _=y7 at *;refine au 0 45 ?_ hH (fun w' hS=>?_) ?_;rotate_left;(·go_simp;try rfl);simp only [sz];refine au 1 46 ?_ hH (fun w' hS=>?_) ?_;rotate_left;(·have e1:=hS.2.1.cell 1;simp only [sz2,sz3,sz4] at e1;go_simp;try rfl);simp only [sz];refine au 2 47 ?_ hH (fun w' hS=>?_) ?_;rotate_left;(·go_simp;try rfl);simp only [sz];refine au 3 48 ?_ hH (fun w' hS=>?_) ?_;rotate_left;(·go_simp;try rfl);simp only [sz];refine au 4 49 ?_ hH (fun w' hS=>?_) ?_;rotate_left;(·go_simp;try rfl);simp only [sz];refine aA 5 (fun K hK=>?_);go_simp;refine hK.o _ _ ⟨bW hH.1 (aj (b0 _) _),hH.2.1.keeps (aj (b0 _) _),aj hH.2.2 _⟩ (fun hH=>?_);clear hK K;have O8:=Hy (O7.o.keeps (aj (b0 _) (.cells #[.string scw] 9)));have D8:=Hy (D7.o.trans ((aj (b0 y7) (.cells #[.string scw] 9)).mono (by have:=D7.o.size;rw [HB.o];exact this)));refine aA 6 (fun K hK=>?_);refine Mc (.tmp 48) (.tmp 50) rfl base _ _ rfl O8.o y7.heap.size scw rfl (by simp [go_sem]) (by have:=hgl.o;omega) (by have:=D7.o.size;rw [HB.o];simp;omega) ?_;intro v8 w8 O9 b9;have O10:=Hy O9;have D10:=Hy (D8.o.trans b9);have hG8:=kH b9 hH.2.1 (by rw [HB.o];exact G1.o.lt);have hH8:=Jz hH.1 b9 (by rw [HB.o];obtain ⟨_,_,hq⟩:=H1.o;exact hq.lt);have hB8:=Hy (hH.2.2.trans (b9.mono (by rw [HB.o];exact B1.o.size)));refine hK.o _ _ ⟨hH8,hG8,hB8.o⟩ (fun hH=>?_);clear hK K O9 b9 hG8 hH8 O8 D8 O7;refine aA 7 (fun K hK=>?_);go_simp;refine (hJ.o _ _ _ O10.o).mono ?_;rintro e v1 ⟨rfl,c1⟩;refine hK.o _ _ ⟨bW hH.1 c1,hH.2.1.keeps c1,ak hH.2.2 c1⟩ (fun hH=>?_);clear hK K c1;clear O10 D10;refine au 8 53 ?_ hH (fun w' hS=>?_) ?_;rotate_left;(·go_simp;try rfl);simp only [sz];refine au 9 54 ?_ hH (fun w' hS=>?_) ?_;rotate_left;(·go_simp;try rfl);simp only [sz];clear A1 A2 A3;refine aA 10 (fun K hK=>?_);go_simp;have hNN:=N.o v1;refine hK.o _ _ ⟨bW hH.1 (aj (b0 _) _),hH.2.1.keeps (aj (b0 _) _),aj hH.2.2 _⟩ (fun hH=>?_);clear hK K;refine aA 11 (fun K hK=>?_);go_simp;refine (CP.o _ _ hNN).mono ?_;rintro e v2 ⟨rfl,c2⟩;refine hK.o _ _ ⟨bW hH.1 c2,hH.2.1.keeps c2,ak hH.2.2 c2⟩ (fun hH=>?_);clear hK K c2;obtain ⟨pcs,hps,hPB⟩:=hH.1;refine aA 12 (fun K hK=>?_);refine jW aQ (.tmp 4) (.tmp 56) rfl _ _ _ _ rfl rfl hPB hps rfl (by simp [Value.oneCell']) ?_;intro w9 hb9 hs9;have hq9:=Hy hb9;have B9:=Hy (hH.2.2.trans (hs9.below (hle.o)));refine hK.o _ _ ⟨⟨_,rfl,hb9⟩,hH.2.1.st hs9 hne.o,B9.o⟩ (fun _=>?_);clear hK K hPB hps hb9 hs9 hH;refine wpAnyH_done (by kernel_rfl) ?_ _;go_wp2_with fail;refine bn aQ dec.uy90 rfl rfl _ _ _ _ _ rfl hq9.o rfl ?_;exact ⟨rfl,B9.o⟩
end ch
namespace ch
open Go.RowKit Go.ChangeMaps dec
def dQ:List Value→Nat→List Value→List Value
 | [],_,_=>[]
 | cs,_,[]=>cs
 | _ :: cs,0,v :: vs=>v :: dQ cs 0 vs
 | c :: cs,o+1,v :: vs=>c :: dQ cs o (v :: vs)
theorem fO (cs:List Value) (o:Nat):dQ cs o []=cs:=by cases cs <;> rfl
theorem jf:∀ (cs:List Value) (o:Nat) (v:Value) (r:List Value),dQ cs o (v :: r)=dQ (cs.set o v) (o+1) r
 | [],_,_,_=>by simp [dQ]
 | c :: cs,0,v,[]=>by simp [dQ,fO]
 | c :: cs,0,v,u :: r=>by simp [dQ]
 | c :: cs,o+1,v,[]=>by
  have:=jf cs o v []
  rw [fO] at this
  simp [dQ,fO,this]
 | c :: cs,o+1,v,u :: r=>by
  have:=jf cs o v (u :: r)
  simp [dQ,this]
theorem tX:∀ (cs:List Value) (o:Nat) (vs:List Value),(dQ cs o vs).length=cs.length
 | [],_,_=>by simp [dQ]
 | c :: cs,o,[]=>by rw [fO]
 | c :: cs,0,v :: vs=>by simp [dQ,tX cs 0 vs]
 | c :: cs,o+1,v :: vs=>by simp [dQ,tX cs o (v :: vs)]
theorem Eo:∀ (cs:List Value) (o:Nat) (vs:List Value) (i:Nat),i<o→(dQ cs o vs)[i]? = cs[i]?
 | [],_,_,_,_=>by simp [dQ]
 | c :: cs,o,[],i,_=>by rw [fO]
 | c :: cs,0,v :: vs,i,h=>absurd h (Nat.not_lt_zero _)
 | c :: cs,o+1,v :: vs,0,_=>by simp [dQ]
 | c :: cs,o+1,v :: vs,i+1,h=>by
  have:=Eo cs o (v :: vs) i (by omega)
  simpa [dQ] using this
theorem xR:∀ (cs:List Value) (o:Nat) (vs:List Value) (i:Nat),o+vs.length≤cs.length→i<vs.length→(dQ cs o vs)[o+i]? = vs[i]?
 | [],o,vs,i,h,hi=>by
  have h':o+vs.length≤0:=h
  omega
 | c :: cs,o,[],i,_,hi=>by simp at hi
 | c :: cs,0,v :: vs,0,_,_=>by simp [dQ]
 | c :: cs,0,v :: vs,i+1,h,hi=>by
  have:=xR cs 0 vs i (by simp at h ⊢;omega) (by simpa using hi)
  simpa [dQ] using this
 | c :: cs,o+1,v :: vs,i,h,hi=>by
  have:=xR cs o (v :: vs) i (by simp at h ⊢;omega) hi
  rw [show o+1+i=(o+i)+1 by omega]
  simpa [dQ] using this
def spl:Array Value→Nat→List Value→Array Value
 | cs,_,[]=>cs
 | cs,o,v :: r=>spl (cs.setIfInBounds o v) (o+1) r
theorem mV:∀ (vs:List Value) (cs:Array Value) (o:Nat),spl cs o vs=(dQ cs.toList o vs).toArray
 | [],cs,o=>by simp [spl,fO]
 | v :: r,cs,o=>by
  unfold spl
  rw [mV r,jf]
  simp
theorem St.trans {g:Nat} {a b c:World} (h:St g a b) (k:St g b c):St g a c:=⟨k.os.trans h.os,k.tape.trans h.tape,k.output.trans h.output,k.size.trans h.size,fun i hi=>(k.block i hi).trans (h.block i hi)⟩
theorem Blk.setCells {g:Nat} {T:TypeId} : ∀ (vs:List Value) (o:Nat) (w:World) (cs:Array Value),Blk w g T cs→Blk (w.setCells g o vs) g T (spl cs o vs)∧St g w (w.setCells g o vs)
 | [],_,w,cs,h=>⟨h,rfl,rfl,rfl,rfl,fun _ _=>rfl⟩
 | v :: r,o,w,cs,h=>by
  have h1:=h.setCell o v
  have h2:=Blk.setCells r (o+1) _ _ h1.1
  exact ⟨h2.1,h1.2.trans h2.2⟩
theorem Rt {T:TypeId} {n:Nat} (hi:(Tryz.prog.info? T).map (·.size)=some n) {ops:Array Oper} {rest:List Oper} {o:Oper} {a:Act} {w:World} {Q:Exit→Act→World→Prop} (x y:Operand) (ho:o.op=.store T x y) (hgd:o.guard=none)
    (g off:Nat) (T':TypeId) (cells old:Array Value) (hx:a.eval x=.pointer (some ⟨g,off,none⟩)) (hy:a.eval y=.agg cells) (hB:Blk w g T' old) (hs:off+n≤old.size) (hc:cells.size=n) (h1:cells.all (·.oneCell')=true)
    (h:∀ w' new,Blk w' g T' new→new.size=old.size→w'.rangeAt g off cells.toList→(∀ i,i<off→new[i]? = old[i]?)→St g w w'→wpList Tryz.prog ops Q rest (a.put o.dst undef) w'):wpList Tryz.prog ops Q (o :: rest) a w:=by
 have hb:=Blk.setCells cells.toList off w old hB;rw [mV] at hb;refine wpList_store_mid hgd T x y ho g off cells hx hy (fun j hj=>⟨?_,hB.free _⟩) (by rw [hc];exact hi) h1 (h _ _ hb.1 (by simp [tX]) (fun j v hv=>?_) (fun i hi=>?_) hb.2)
 ·rw [hB.cell,Array.getElem?_eq_getElem (by omega)];rfl
 ·rw [hb.1.cell,sz2,xR _ _ _ _ (by simp;omega) (List.getElem?_eq_some_iff.1 hv).1];exact hv
 rw [sz2,Eo _ _ _ _ hi,Array.getElem?_toList]
theorem WB:(Tryz.prog.info? 90).map (fun i=>(i.zero,i.size,i.bytes))=some (some (.agg #[.string .empty,.int .i64 0]),2,24):=by kernel_rfl
theorem Ld (w:World) {ops:Array Oper} {rest:List Oper} {o:Oper} {a:Act} {Q:Exit→Act→World→Prop} (hg:o.guard=none) (l c:Operand) (hop:o.op=Op.makeSlice 145 l c) (n:Nat) (hn:n≤1000)
    (hl:a.eval l=.int .i64 (n:Nat)) (hc:a.eval c=.int .i64 (n:Nat))
    (hK:∀ w' cur,Blk w' w.heap.size 90 cur→cur.size=n * 2→Below w.heap.size w w'→wpList Tryz.prog ops Q rest (a.put o.dst (.slice (some ⟨w.heap.size,0,none⟩) n n)) w'):wpList Tryz.prog ops Q (o :: rest) a w:=by
 obtain ⟨i,hi,hz0,hz1,hz2⟩:=info_parts WB;refine wpList_make_full w hg l c 145 hop w.heap.size 90 i _ 2 Tryz.underlying145 hi hz0 hz1 .i64 .i64 _ _ n hl hc rfl rfl (by rw [hz2];omega) (by unfold maxLen;omega) lr fun w' hO hgr=>?_;obtain ⟨_,h2⟩:=hO;rcases h2 with ⟨h0,_⟩ | ⟨g,cap,cur,e,hbg,hh,hc',hm,hs,ht⟩
 ·cases h0
 simp only [Value.slice.injEq,Option.some.injEq,Addr.mk.injEq] at e;obtain ⟨⟨rfl,_,_⟩,_,rfl⟩:=e;exact hK w' cur hh (by simpa using hs) ((Below.refl _ _).grown hgr lr fun k hk=>by cases hk)
theorem yG:∀ (F:Fo) (i:Bool) (j:Nat),fmA i F=true→j<F.len→fmE i (F.nth j)=true
 | .nil,_,_,_,h=>absurd h (Nat.not_lt_zero _)
 | .cons h ar r,i,0,hf,_=>by
  have:(cO i h ar.len (ar.nth 0).h && (fmA (i || decide (h.k=5)) ar && fmA i r))=true:=hf
  rw [L_d,L_d] at this
  rw [xq]
  show (cO i h ar.len (ar.nth 0).h && fmA (i || decide (h.k=5)) ar)=true
  rw [L_d]
  exact ⟨this.1,this.2.1⟩
 | .cons h ar r,i,j+1,hf,hj=>by
  have:(cO i h ar.len (ar.nth 0).h && (fmA (i || decide (h.k=5)) ar && fmA i r))=true:=hf
  rw [L_d,L_d] at this
  exact yG r i j this.2.2 (by simpa [Fo.len] using hj)
theorem Jo {w w':World} {g:Nat} {T:TypeId} {cur new:Array Value} {off o:Nat} {cs:List Value} (hB:Blk w g T cur) (hB':Blk w' g T new) (hk:∀ i,i<off→new[i]? = cur[i]?) (h:w.rangeAt g o cs) (ho:o+cs.length≤off):w'.rangeAt g o cs:=fun j v hv=>by
 have hj:j<cs.length:=(List.getElem?_eq_some_iff.1 hv).1
 rw [hB'.cell,hk _ (by omega),← hB.cell]
 exact h j v hv
theorem kPr:Tryz.prog.underlying 92=some (.map 3 142):=by kernel_rfl
def prF (f:FuncId):Value:=.func (.func f) #[] #[]
def prL:List Value:=[prF 100,prF 101,prF 101,prF 102,prF 103,prF 104,prF 105,prF 106,prF 107]
theorem Ba (w:World):Calls Tryz.prog 50 #[] w fun e w' => ∃ b,e=.returned (.map (some b))∧w.heap.size≤b∧Mp w' b prL∧Below w.heap.size w w':=by
 have hmm:=@run_makeMap Tryz.prog
 go_enter Tryz.func50,Tryz.ntmps50
 go_wp2_with (first | (refine aC kPr _ rfl (.tmp 1) (.const _) (.func _) rfl w.heap.size [] rfl (Mp.made w) 1 rfl rfl (prF 100) rfl ?_;intro w1 M1 S1) | (refine aC kPr _ rfl (.tmp 1) (.const _) (.func _) rfl w.heap.size (prL.take 1) rfl M1 2 rfl rfl (prF 101) rfl ?_;intro w2 M2 S2) | (refine aC kPr _ rfl (.tmp 1) (.const _) (.func _) rfl w.heap.size (prL.take 2) rfl M2 3 rfl rfl (prF 101) rfl ?_;intro w3 M3 S3) | (refine aC kPr _ rfl (.tmp 1) (.const _) (.func _) rfl w.heap.size (prL.take 3) rfl M3 4 rfl rfl (prF 102) rfl ?_;intro w4 M4 S4) | (refine aC kPr _ rfl (.tmp 1) (.const _) (.func _) rfl w.heap.size (prL.take 4) rfl M4 5 rfl rfl (prF 103) rfl ?_;intro w5 M5 S5) | (refine aC kPr _ rfl (.tmp 1) (.const _) (.func _) rfl w.heap.size (prL.take 5) rfl M5 6 rfl rfl (prF 104) rfl ?_;intro w6 M6 S6) | (refine aC kPr _ rfl (.tmp 1) (.const _) (.func _) rfl w.heap.size (prL.take 6) rfl M6 7 rfl rfl (prF 105) rfl ?_;intro w7 M7 S7) | (refine aC kPr _ rfl (.tmp 1) (.const _) (.func _) rfl w.heap.size (prL.take 7) rfl M7 8 rfl rfl (prF 106) rfl ?_;intro w8 M8 S8) | (refine aC kPr _ rfl (.tmp 1) (.const _) (.func _) rfl w.heap.size (prL.take 8) rfl M8 9 rfl rfl (prF 107) rfl ?_;intro w9 M9 S9));go_ret;refine ⟨_,rfl,Nat.le_refl _,M9,?_⟩;exact ((((((((((aj (b0 w) _).trans (S1.below lr)).trans (S2.below lr)).trans (S3.below lr)).trans (S4.below lr)).trans (S5.below lr)).trans (S6.below lr)).trans (S7.below lr)).trans (S8.below lr)).trans (S9.below lr))
end ch
end Go.Proofs.YtbahfelnbofjjaaGreatDoor
