/-
  What the ten listed variables hold: the parser's table beside the printer's; The reference's flat, One and lists of words; The reference's SameExpr against True; The reference's SameExpr, for all expressions; The reference's Word; The reference's Check.
-/
import Derived.Test.YtbahfelnbofjjaaGreatDoorG15
set_option maxRecDepth 100000
set_option maxHeartbeats 16000000
namespace Go.Proofs.YtbahfelnbofjjaaGreatDoor
section
open Go.ChangeShapes Go.WideShapes Go.ChangeAt Go.RowKit Go.Joins dec ch
def vC:List (String × DataW Unit):=[("math/bits.deBruijn32tab",Rows.laid_math_bits_deBruijn32tab),("math/bits.deBruijn64tab",Rows.laid_math_bits_deBruijn64tab),("internal/strconv.uint64pow10",Rows.laid_internal_strconv_uint64pow10),("strconv.ErrRange",Rows.laid_strconv_ErrRange),("strconv.ErrSyntax",Rows.laid_strconv_ErrSyntax),("asof/decimal.powers",Rows.laid_asof_decimal_powers),("asof/lexer.classes",Rows.laid_asof_lexer_classes),("asof/parser.operators",Rows.laid_asof_parser_operators),("asof/printer.windowWords",Rows.laid_asof_printer_windowWords),("asof/printer.typeWords",Rows.laid_asof_printer_typeWords)]
theorem QY:Tryz.prog.globalNamed "asof/parser.operators" = some 4:=by kernel_rfl
theorem Ud:(Tryz.prog.globals[4]?).map (·.type)=some 243:=by kernel_rfl
theorem UC:Tryz.prog.cellsOf 243=6:=by kernel_rfl
theorem cSs:Tryz.prog.cellsOf 97=1:=by kernel_rfl
theorem Ut:(Rows.laid_asof_parser_operators:DataW Unit)=.agg ((List.range 6).map fun n=>.slice ((opL n).map fun s=>.lit (.string s.data.toList)) []):=by kernel_rfl
theorem Ei (n:Nat):(opL n).length≤4:=by
 match n with
 | 0=>decide
 | 1=>decide
 | 2=>decide
 | 3=>decide
 | 4=>decide
 | n+5=>show ([_,_]:List ByteArray).length≤4;simp
theorem CX {W:World} {rest:List (String × DataW Unit)} (h:laidMet Tryz.prog (("asof/parser.operators",.agg ((List.range 6).map fun n=>.slice ((opL n).map fun s=>.lit (.string s.data.toList)) [])) :: rest) W):Opt W:=by
 obtain ⟨ps,⟨g',t',cs,fuel,p,q,hg',ht',hvar,hd,_,_⟩,_⟩:=h;obtain rfl:=Option.some.inj (QY.symm.trans hg');obtain rfl:=Option.some.inj (Ud.symm.trans ht')
 cases fuel with
 | zero=>simp [DataW.trod] at hd
 | succ fuel =>
   simp only [DataW.trod,Tryz.underlying243,cSs,UC,Nat.mul_one] at hd
   split at hd
   · rename_i hl
     obtain ⟨xs,hm,hx⟩:=Option.map_eq_some_iff.1 hd
     have hxs:xs.map (·.1)=(List.range 6).map fun n=>(DataW.slice ((opL n).map fun s=>.lit (.string s.data.toList)) []:DataW Unit):=by
       have:=congrArg Prod.fst hx
       simpa using this
     intro n hn
     obtain ⟨y,hy,hf⟩:=Lib.mapM_at hm n n (by simp [hn])
     have h2:(xs.map (·.1))[n]? = some y.1:=by simp [hy]
     rw [hxs,List.getElem?_map,List.getElem?_range hn] at h2
     have h3:y.1=DataW.slice ((opL n).map fun s=>.lit (.string s.data.toList)) []:=(Option.some.inj h2).symm
     have hlt:n<cs.toList.length:=by
       have:cs.toList.length=6:=by simpa using hl
       omega
     have hcs:(cs.toList.drop n).take 1=[cs.toList[n]]:=by
       rw [List.drop_eq_getElem_cons hlt,List.take_succ_cons,List.take_zero]
     rw [hcs] at hf
     rcases Go.Deep.open_slice1 Tryz.underlying97 cS9 hf with ⟨_,h4⟩ | ⟨a,len,cap,m,k,V,D,Pl,h4,_,_,_,h5,h6,h7⟩
     · rw [h4] at h3
       cases h3
     · have h8:cs.toList[n]=.slice (some a) len cap:=by simpa using h4
       rw [h6] at h3
       injection h3 with h9 h10
       have hlen:len=(opL n).length:=by
         have:=congrArg List.length h9
         simpa using this
       have hc:W.cell? ⟨4,n,none⟩=some (.slice (some a) len cap):=by
         have:=World.var?_cell QY hvar n
         rw [this,← h8,← Array.getElem?_toList,List.getElem?_eq_getElem hlt]
       obtain ⟨b,off,spot⟩:=a
       have hel:∀ j (hj:j<(opL n).length),W.cell? ((⟨b,off,spot⟩:Addr).add j)=some (.string (opL n)[j]):=fun j hj=>by
         have hjm:j<m:=by rw [h5];split <;> omega
         obtain ⟨g1,g2⟩:=h7 j hjm
         obtain ⟨s,g3,g4,_⟩:=DataW.trod_string Tryz.underlying9 g2
         have g5:V j=.string s:=by simpa using g3
         have g6:((opL n).map fun s=>(DataW.lit (.string s.data.toList):DataW Unit))[j]? = some (D j):=by
           rw [← h9,List.getElem?_map,List.getElem?_range (by omega)]
           rfl
         rw [List.getElem?_map,List.getElem?_eq_getElem hj] at g6
         have g7:D j=.lit (.string s.data.toList):=congrArg Prod.fst g4
         rw [g7] at g6
         have g8:(opL n)[j].data.toList=s.data.toList:=by
           have:=Option.some.inj g6
           injection this with this
           injection this
         have g9:s=(opL n)[j]:=by
           rw [← om s,← om (opL n)[j],g8]
         rw [g1,g5,g9]
       have hsp:spot=none:=by
         have h0:0<(opL n).length:=by
           match n with
           | 0=>decide
           | 1=>decide
           | 2=>decide
           | 3=>decide
           | 4=>decide
           | n+5=>show 0<([_,_]:List ByteArray).length;simp
         simpa [Addr.add] using World.cell?_spot (hel 0 h0)
       subst hsp
       refine ⟨b,off,cap,by rw [hc,hlen],fun j hj=>?_⟩
       have:=hel j hj
       unfold Addr.add at this
       by_cases h1:j=0
       · subst h1;simpa using this
       · simpa [h1] using this
   · cases hd
theorem pW {W:World} (h:laidMetH Tryz.prog vC W):Tabq W∧Opt W:=by
 rw [MakeChecks.laidMetH_plain _ _ _ (by kernel_rfl)] at h;have h3:=h.tail.tail;have h4:=h3.tail;have h5:=h4.tail;have h6:=h5.tail;have h7:=h6.tail;have h8:=h7.tail;have h9:=h8.tail;have h10:=h9.tail;rw [Uq] at h3;rw [Ur] at h6;rw [Uu] at h7;rw [Ut] at h8;rw [Um] at h9;rw [Uo] at h10;obtain ⟨a0,s0,hv0,-,-,-⟩:=laid_sentinel h4 GK Ub Tryz.underlying154 Qe Tryz.underlying294 Tryz.underlying296 rfl rfl Tryz.underlying9 cE cS9;obtain ⟨a1,s1,hv1,-,-,-⟩:=laid_sentinel h5 GJ Ua Tryz.underlying154 Qe Tryz.underlying294 Tryz.underlying296 rfl rfl Tryz.underlying9 cE cS9;refine ⟨⟨⟨Lib.tabIs_of_head QX Uc Tryz.underlying223 Tryz.underlying3 cI3 UA h6,Lib.tabIs_of_head Ul T9 Tryz.underlying269 Tryz.underlying212 cU Uy h3,⟨_,_,hv1⟩,⟨_,_,hv0⟩,Lib.tabIs_of_head QZ Ue Tryz.underlying213 Tryz.underlying172 cC1 UD h7⟩,fun j h1 h2=>?_,fun j h1 h2=>?_⟩,CX h8⟩
 ·rw [← Pq j h1 h2];exact p9 Uk TY Tryz.underlying147 Tryz.underlying9 cS9 Ux h10 j h2
 rw [← Pg j h1 h2];exact p9 Uj TW Tryz.underlying231 Tryz.underlying9 cS9 Uw h9 j h2
theorem Ke (os:Os) (args:Array Value):laidMetH Tryz.prog vC ((World.doorLaid Tryz.prog 93 os).forCall (fun _ _=>0) ⟨#[],args,[]⟩).memory :=
 laidMetH_of_parts3 (fuel:=8) (laidMet_of_run' 8 (by kernel_rfl) (by kernel_rfl)) (by kernel_rfl) (by kernel_rfl)
end
namespace ch
open Go.RowKit dec
def flR (h g:Hd):Bool:=decide (h.k=g.k) && same h g
theorem kF (h g:Hd) (n m:Nat) (ua ub aa ab:Option Addr) (uc ud ac ad:Nat) (w:World) (hU:un.Sl w ua h.un.length uc h.un) (hV:un.Sl w ub g.un.length ud g.un) :
    Calls Tryz.prog 70 #[.agg (exC h n ua uc aa ac),.agg (exC g m ub ud ab ad)] w (Bl (flR h g) w):=by
 have bb:=bY w (.cells (exC h n ua uc aa ac) 29) (.cells (exC g m ub ud ab ad) 29);have B0:=Hy bb;have GG:=fA w (exC h n ua uc aa ac) (exC g m ub ud ab ad) 29 29;have G1:=Hy GG.1;have G2:=Hy GG.2;have CS:=Hy (un.IX _ _ _ _ _ _ _ _ _ (hU.keeps bb) (hV.keeps bb));have hE:flR h g=flR h g:=rfl
 conv at hE=>rhs;unfold flR same
 replace hE:=Hy hE;clear hU hV bb GG;unfold exC at *;by_cases hk:h.k=g.k
 ·have qn:=bB hk;replace hE:=hE.o;simp only [dT hk,Bool.true_and] at hE;replace hE:=Hy hE;clear hk;by_cases e0:h.op=g.op
  ·have qhop:=lI e0;replace hE:=hE.o;simp only [dT e0,Bool.true_and] at hE;replace hE:=Hy hE;clear e0;by_cases e1:h.nm=g.nm
   ·have qhnm:=lI e1;replace hE:=hE.o;simp only [dT e1,Bool.true_and] at hE;replace hE:=Hy hE;clear e1;by_cases e2:h.tb=g.tb
    ·have qhtb:=lI e2;replace hE:=hE.o;simp only [dT e2,Bool.true_and] at hE;replace hE:=Hy hE;clear e2;by_cases e3:h.vk=g.vk
     ·have qhvk:=bB e3;replace hE:=hE.o;simp only [dT e3,Bool.true_and] at hE;replace hE:=Hy hE;clear e3;by_cases e4:h.vn=g.vn
      ·have qhvn:=bB e4;replace hE:=hE.o;simp only [dT e4,Bool.true_and] at hE;replace hE:=Hy hE;clear e4;by_cases e5:h.vs=g.vs
       ·have qhvs:=lI e5;replace hE:=hE.o;simp only [dT e5,Bool.true_and] at hE;replace hE:=Hy hE;clear e5
        go_enter Tryz.func70,Tryz.ntmps70
        go_wp2_with fail;refine (CS.o).mono ?_;rintro e w1 ⟨rfl,b1⟩;have B1:=Hy (aA B0.o b1);replace G1:=Hy (G1.o.keeps b1);replace G2:=Hy (G2.o.keeps b1);have c8:=G1.o.cell 8;have c9:=G1.o.cell 9;have c10:=G1.o.cell 10;simp only [sz2,sz3,sz4] at c8 c9 c10;have d8:=G2.o.cell 8;have d9:=G2.o.cell 9;have d10:=G2.o.cell 10;simp only [sz2,sz3,sz4] at d8 d9 d10;clear b1 CS;have hu:decide (h.un=g.un)=un.kI h.un g.un:=rfl;replace hE:=hE.o;rw [hu] at hE;replace hE:=Hy hE;clear hu;generalize un.kI h.un g.un=u at *;cases u
        ·replace hE:=hE.o;simp only [Bool.false_and] at hE;replace hE:=Hy hE;go_wp2_with fail;go_ret;exact aK (by rw [hE.o]) B1.o
        replace hE:=hE.o;simp only [Bool.true_and] at hE;replace hE:=Hy hE;by_cases e0:h.pa=g.pa
        ·have qhpa:=bB e0;replace hE:=hE.o;simp only [dT e0,Bool.true_and] at hE;replace hE:=Hy hE;clear e0;by_cases e1:h.wk=g.wk
         ·have qhwk:=bB e1;replace hE:=hE.o;simp only [dT e1,Bool.true_and] at hE;replace hE:=Hy hE;clear e1;by_cases e2:h.ws=g.ws
          ·have qhws:=bB e2;replace hE:=hE.o;simp only [dT e2] at hE;replace hE:=Hy hE;clear e2;go_wp2_with fail;go_ret;exact aK (by rw [hE.o]) B1.o
          have qhws:=bg e2;replace hE:=hE.o;simp only [dF e2] at hE;replace hE:=Hy hE;clear e2;go_wp2_with fail;go_ret;exact aK (by rw [hE.o]) B1.o
         have qhwk:=bg e1;replace hE:=hE.o;simp only [dF e1,Bool.false_and] at hE;replace hE:=Hy hE;clear e1;go_wp2_with fail;go_ret;exact aK (by rw [hE.o]) B1.o
        have qhpa:=bg e0;replace hE:=hE.o;simp only [dF e0,Bool.false_and] at hE;replace hE:=Hy hE;clear e0;go_wp2_with fail;go_ret;exact aK (by rw [hE.o]) B1.o
       have qhvs:=lH e5;replace hE:=hE.o;simp only [dF e5,Bool.false_and] at hE;replace hE:=Hy hE;clear e5
       go_enter Tryz.func70,Tryz.ntmps70
       go_wp2_with fail;go_ret;exact aK (by rw [hE.o]) B0.o
      have qhvn:=bg e4;replace hE:=hE.o;simp only [dF e4,Bool.false_and] at hE;replace hE:=Hy hE;clear e4
      go_enter Tryz.func70,Tryz.ntmps70
      go_wp2_with fail;go_ret;exact aK (by rw [hE.o]) B0.o
     have qhvk:=bg e3;replace hE:=hE.o;simp only [dF e3,Bool.false_and] at hE;replace hE:=Hy hE;clear e3
     go_enter Tryz.func70,Tryz.ntmps70
     go_wp2_with fail;go_ret;exact aK (by rw [hE.o]) B0.o
    have qhtb:=lH e2;replace hE:=hE.o;simp only [dF e2,Bool.false_and] at hE;replace hE:=Hy hE;clear e2
    go_enter Tryz.func70,Tryz.ntmps70
    go_wp2_with fail;go_ret;exact aK (by rw [hE.o]) B0.o
   have qhnm:=lH e1;replace hE:=hE.o;simp only [dF e1,Bool.false_and] at hE;replace hE:=Hy hE;clear e1
   go_enter Tryz.func70,Tryz.ntmps70
   go_wp2_with fail;go_ret;exact aK (by rw [hE.o]) B0.o
  have qhop:=lH e0;replace hE:=hE.o;simp only [dF e0,Bool.false_and] at hE;replace hE:=Hy hE;clear e0
  go_enter Tryz.func70,Tryz.ntmps70
  go_wp2_with fail;go_ret;exact aK (by rw [hE.o]) B0.o
 have qn:=bg hk;replace hE:=hE.o;simp only [dF hk,Bool.false_and] at hE;replace hE:=Hy hE;clear hk
 go_enter Tryz.func70,Tryz.ntmps70
 go_wp2_with fail;go_ret;exact aK (by rw [hE.o]) B0.o
def SsV (w:World) (a:Option Addr) (l:List ByteArray):Prop:=l.length=0∨∃ b off,a=some ⟨b,off,none⟩∧∀ j (h:j<l.length),w.cell? ⟨b,off+j,none⟩=some (.string l[j])
theorem SsV.keeps {w w':World} {a:Option Addr} {l:List ByteArray} (h:SsV w a l) (hb:Below w.heap.size w w'):SsV w' a l:=h.imp id fun ⟨b,off,e,hA⟩=>⟨b,off,e,fun j hj=>dec.keeps hb (hA j hj)⟩
theorem zX {w:World} {g:Nat} {T:TypeId} {l:List ByteArray} (h:Blk w g T (l.map Value.string).toArray):SsV w (some ⟨g,0,none⟩) l:=.inr ⟨g,0,rfl,fun j hj=>by
 rw [Nat.zero_add,h.cell]
 simp [hj]⟩
theorem LX (s:ByteArray) {l:List ByteArray} {j:Nat} (h:j<l.length):(l.drop j).any (fun t=>decide (t=s))=(decide (l[j]=s) || (l.drop (j+1)).any fun t=>decide (t=s)):=by
 rw [List.drop_eq_getElem_cons h,List.any_cons]
theorem rG (s:ByteArray) (a:Option Addr) (c:Nat) (l:List ByteArray) (hl:l.length≤1000) (w:World) (hA:SsV w a l):Calls Tryz.prog 146 #[.string s,.slice a l.length c] w fun e w' => e=.returned (.bool (l.any fun t=>decide (t=s)))∧w=w':=by
 have HA:=Hy hA;have hE:=Hy (show l.any (fun t=>decide (t=s))=(l.drop 0).any fun t=>decide (t=s) by rw [List.drop_zero]);clear hA;generalize l.any (fun t=>decide (t=s))=V at *
 go_enter Tryz.func146,Tryz.ntmps146
 go_wp2_with fail
 go_loopw [5] (fun x wr => ∃ j:Nat,x=.int .i64 (j:Nat)∧Hid (j≤l.length)∧Hid (V=(l.drop j).any fun t=>decide (t=s))∧wr=w) (fun x _=>l.length - (intOf x).toNat)
 case atStart=>exact ⟨0,rfl,Hy zl,hE,rfl⟩
 case round =>
  clear hE;obtain ⟨j,rfl,hj,hE,rfl⟩:=hrel;by_cases hlt:j<l.length
  ·have q1:decide ((j:Int)<(l.length:Int))=true:=dT (by omega);have i1:(j:Int)<(l.length:Int):=by omega
   have f4:=Hy (aS (j:=j) (by omega));obtain ⟨b,off,rfl,hc⟩:=HA.o.resolve_left (by omega);have c1:=hc j hlt;replace hE:=Hy (hE.o.trans (LX s hlt));clear hc HA hj;generalize hx:l[j]=x at *;by_cases he:x=s
   ·have q2:=lI he;replace hE:=Hy (hE.o.trans (by rw [dT he,Bool.true_or]:_=true));clear he;go_wp2_with fail;go_ret;exact ⟨congrArg (fun b=>Ending.returned (Value.bool b)) hE.o.symm,rfl⟩
   have q2:=lH he;replace hE:=Hy (hE.o.trans (by rw [dF he,Bool.false_or]));clear he;go_wp2_with fail;exact ⟨⟨j+1,rfl,Hy hlt,hE,trivial⟩,aN hlt rfl⟩
  have q1:decide ((j:Int)<(l.length:Int))=false:=dF (by omega);replace hE:=Hy (hE.o.trans (by rw [List.drop_eq_nil_of_le (by omega)];rfl:_=false));go_wp2_with fail;go_ret;exact ⟨congrArg (fun b=>Ending.returned (Value.bool b)) hE.o.symm,rfl⟩
def opsL:List ByteArray:=[⟨#[43]⟩,⟨#[45]⟩,⟨#[42]⟩,⟨#[47]⟩,⟨#[61,61]⟩,⟨#[33,61]⟩,⟨#[60]⟩,⟨#[60,61]⟩,⟨#[97,110,100]⟩,⟨#[111,114]⟩]
def ji:List ByteArray:=[⟨#[99,111,117,110,116]⟩,⟨#[115,117,109]⟩,⟨#[109,101,97,110]⟩,⟨#[109,105,110]⟩,⟨#[109,97,120]⟩,⟨#[102,105,114,115,116]⟩,⟨#[108,97,115,116]⟩,⟨#[100,105,115,116,105,110,99,116]⟩,⟨#[113,117,97,110,116,105,108,101]⟩,⟨#[100,101,99,97,121]⟩]
theorem ze (w:World):Calls Tryz.prog 172 #[] w fun e w' => ∃ a,e=.returned (.slice a 10 10)∧SsV w' a opsL∧Below w.heap.size w w':=by
 go_enter Tryz.func172,Tryz.ntmps172
 go_wp2_with fail;go_ret;exact ⟨_,rfl,zX (l:=opsL) (Blk.new _ _ _),au (b0 w) _⟩
theorem qV (w:World):Calls Tryz.prog 147 #[] w fun e w' => ∃ a,e=.returned (.slice a 10 10)∧SsV w' a ji∧Below w.heap.size w w':=by
 go_enter Tryz.func147,Tryz.ntmps147
 go_wp2_with fail;go_ret;exact ⟨_,rfl,zX (l:=ji) (Blk.new _ _ _),au (b0 w) _⟩
theorem FH (k n:Int) (w:World):Calls Tryz.prog 239 #[.agg #[.int .i64 k,.int .i64 n]] w (Bl (gJ k n) w):=by
 go_enter Tryz.func239,Tryz.ntmps239
 go_wp2_with fail
 all_goals first
   | (exfalso;simp_all;done)
   | (go_ret;refine aK ?_ (au (b0 w) _);simp only [eqI] at *;unfold gJ;simp_all;done)
   | (go_ret;refine aK ?_ (au (b0 w) _);simp only [eqI] at *;unfold gJ;simp_all;omega)
theorem Pw (w:World):Calls Tryz.prog 48 #[] w fun e w' => e=.returned (.agg (exC dU.h 0 none 0 none 0))∧Below w.heap.size w w':=by
 go_enter Tryz.func48,Tryz.ntmps48
 go_wp2_with fail;exact rC Tryz.results48 _ _ _ _ (exC dU.h 0 none 0 none 0) rfl (Blk.new _ _ _) rfl ⟨rfl,au (b0 w) _⟩
def Gb (h:Hd) (n:Nat):Bool:=flR h dU.h && decide (n=0)
theorem Ag (h:Hd) (n:Nat) (ua aa:Option Addr) (uc ac:Nat) (w:World) (hU:un.Sl w ua h.un.length uc h.un):Calls Tryz.prog 28 #[.agg (exC h n ua uc aa ac),.agg (exC dU.h 0 none 0 none 0)] w (Bl (Gb h n) w):=by
 have bb:=bY w (.cells (exC h n ua uc aa ac) 29) (.cells (exC dU.h 0 none 0 none 0) 29);have B0:=Hy bb;have GG:=fA w (exC h n ua uc aa ac) (exC dU.h 0 none 0 none 0) 29 29;have G:=Hy GG.1;have H:=Hy GG.2;have S0:=Hy (hU.keeps bb);have CF:=Hy (fun (W:World) (S:un.Sl W ua h.un.length uc h.un)=>(show Calls Tryz.prog 70 #[.agg #[.int .i64 h.k,.string h.op,.string h.nm,.string h.tb,.int .i64 h.vk,.int .i64 h.vn,.string h.vs,.slice ua h.un.length uc,.int .i64 h.pa,.int .i64 h.wk,.int .i64 h.ws,.slice aa n ac],.agg (exC dU.h 0 none 0 none 0)] W (Bl (flR h dU.h) W) from kF h dU.h n 0 ua none aa none uc 0 ac 0 W S (un.Sl.nil W)));have hE:Gb h n=(flR h dU.h && decide (n=0)):=rfl;replace hE:=Hy hE;clear hU bb GG;generalize flR h dU.h=R at *;generalize ht:(exC dU.h 0 none 0 none 0)=tv at *;have e11:=Hy (show tv[11]? = some (.slice none 0 0) from by rw [← ht];rfl);have esz:=Hy (show tv.size=12 from by rw [← ht];rfl);clear ht;unfold exC at *
 go_enter Tryz.func28,Tryz.ntmps28
 go_upto_region 1 with fail
 generalize hw0:((w.alloc (.cells #[.int .i64 h.k,.string h.op,.string h.nm,.string h.tb,.int .i64 h.vk,.int .i64 h.vn,.string h.vs,.slice ua h.un.length uc,.int .i64 h.pa,.int .i64 h.wk,.int .i64 h.ws,.slice aa n ac] 29)).alloc (.cells tv 29))=w0 at *;clear hw0;generalize hg3:w.heap.size+1=g3 at H ⊢;generalize hg2:w.heap.size=g2 at G ⊢;clear hg2 hg3;go_wp2_with (first | (refine aF aJ Tryz.underlying29 rfl (.tmp 2) rfl rfl _ _ _ rfl G.o rfl ?_) | (refine aF aJ Tryz.underlying29 rfl (.tmp 3) rfl rfl _ _ _ rfl H.o esz.o ?_));refine (CF.o _ S0.o).mono ?_;rintro e w1 ⟨rfl,b1⟩;have B1:=Hy (aA B0.o b1);replace G:=Hy (G.o.keeps b1);replace H:=Hy (H.o.keeps b1);replace S0:=Hy (S0.o.keeps b1);clear b1;have c11:=G.o.cell 11;have m11:=H.o.cell 11;rw [e11.o] at m11;simp only [sz2,sz3,sz4] at c11;clear CF;cases R
 ·go_wp2_with fail;go_ret;exact aK (by rw [hE.o];rfl) B1.o
 by_cases hn:n=0
 ·have q:=bB (show (n:Int)=0 by omega);have q2:((n:Int) != 0)=false:=by subst hn;rfl
  subst hn;go_wp2_with fail
  go_loopw [5] (fun vi wr=>vi=.int .i64 0∧wr=w1) (fun _ _=>0)
  case atStart=>exact ⟨rfl,rfl⟩
  case round =>
   obtain ⟨rfl,rfl⟩:=hrel;go_wp2_with fail;go_ret;exact aK (by rw [hE.o];rfl) B1.o
 have q2:((n:Int) != 0)=true:=by simp [hn]
 have q3:=dF hn;replace hn:=Hy hn;go_wp2_with fail;go_ret;exact aK (by rw [hE.o,q3];rfl) B1.o
def sxF:Fo→Fo→Bool
 | .nil,.nil=>true
 | .cons h ar r,.cons g br s=>(flR h g && (decide (ar.len=br.len) && sxF ar br)) && sxF r s
 | _,_=>false
def sxE (x y:Ex):Bool:=flR x.h y.h && (decide (x.ar.len=y.ar.len) && sxF x.ar y.ar)
theorem EX {h g:Hd} : flR h g=true↔h=g:=by
 unfold flR;rw [Bool.and_eq_true,decide_eq_true_eq];constructor
 ·rintro ⟨a,b⟩;exact kL a b
 rintro rfl;exact ⟨rfl,by unfold same;simp⟩
theorem vZ:∀ F G:Fo,sxF F G=true↔F=G
 | .nil,.nil=>⟨fun _=>rfl,fun _=>rfl⟩
 | .nil,.cons a b c=>⟨fun h=>by simp [sxF] at h,fun h=>by cases h⟩
 | .cons a b c,.nil=>⟨fun h=>by simp [sxF] at h,fun h=>by cases h⟩
 | .cons h ar r,.cons g br s=>by
  simp only [sxF,Bool.and_eq_true,decide_eq_true_eq]
  rw [EX,vZ ar br,vZ r s]
  constructor
  ·rintro ⟨⟨rfl,_,rfl⟩,rfl⟩
   rfl
  ·intro e
   cases e
   exact ⟨⟨rfl,rfl,rfl⟩,rfl⟩
theorem Nh {x y:Ex} : sxE x y=true↔x=y:=by
 unfold sxE;rw [Bool.and_eq_true,Bool.and_eq_true,decide_eq_true_eq,EX,vZ];constructor
 ·rintro ⟨h,_,e⟩;cases x;cases y;simp only at h e;subst h e;rfl
 rintro rfl;exact ⟨rfl,rfl,rfl⟩
theorem PX {F G:Fo} {j:Nat} (hF:j<F.len) (hG:j<G.len):sxF (F.drop j) (G.drop j)=(sxE (F.nth j) (G.nth j) && sxF (F.drop (j+1)) (G.drop (j+1))):=by
 rw [jF F j hF,jF G j hG];rfl
theorem FZ (n:Nat) (IH:∀ (x y:Ex) (ua aa ub ab:Option Addr) (uc ac ud ad:Nat) (w:World),x.ar.sz<n→Ec w x ua uc aa ac→Ec w y ub ud ab ad→Calls Tryz.prog 28 #[.agg (exC x.h x.ar.len ua uc aa ac),.agg (exC y.h y.ar.len ub ud ab ad)] w (Bl (sxE x y) w))
    (x y:Ex) (ua aa ub ab:Option Addr) (uc ac ud ad:Nat) (w:World) (hz:x.ar.sz=n) (hA:Ec w x ua uc aa ac) (hB:Ec w y ub ud ab ad):Calls Tryz.prog 28 #[.agg (exC x.h x.ar.len ua uc aa ac),.agg (exC y.h y.ar.len ub ud ab ad)] w (Bl (sxE x y) w):=by
 have bb:=bY w (.cells (exC x.h x.ar.len ua uc aa ac) 29) (.cells (exC y.h y.ar.len ub ud ab ad) 29);have B0:=Hy bb;have GG:=fA w (exC x.h x.ar.len ua uc aa ac) (exC y.h y.ar.len ub ud ab ad) 29 29;have G:=Hy GG.1;have H:=Hy GG.2;have HA:=Hy (hA.keeps bb);have HB:=Hy (hB.keeps bb);have IH':=Hy IH;have HZ:=Hy hz;have CF:=Hy (fun (W:World) (S:Ec W x ua uc aa ac) (R:Ec W y ub ud ab ad)=>kF x.h y.h x.ar.len y.ar.len ua ub aa ab uc ud ac ad W S.us R.us);have hmax:=Hy (show x.ar.len≤9223372036854775807 from by have:=hA.ar.hcap;have:=hA.ar.hmax;omega);have hE:=Hy (show sxE x y=(flR x.h y.h && (decide (x.ar.len=y.ar.len) && sxF x.ar y.ar)) from rfl);clear bb hA hB IH hz GG
 go_enter Tryz.func28,Tryz.ntmps28
 go_upto_region 1 with fail
 generalize hw0:((w.alloc (.cells (exC x.h x.ar.len ua uc aa ac) 29)).alloc (.cells (exC y.h y.ar.len ub ud ab ad) 29))=w0 at *;generalize hg3:w.heap.size+1=g3 at H ⊢;generalize hg2:w.heap.size=g2 at G ⊢;clear hw0 hg2 hg3;generalize flR x.h y.h=R at *;go_wp2_with (first | (refine aF aJ Tryz.underlying29 rfl (.tmp 2) rfl rfl _ _ _ rfl G.o rfl ?_) | (refine aF aJ Tryz.underlying29 rfl (.tmp 3) rfl rfl _ _ _ rfl H.o rfl ?_));refine (CF.o _ HA.o HB.o).mono ?_;rintro e w1 ⟨rfl,b1⟩;have B1:=Hy (aA B0.o b1);replace G:=Hy (G.o.keeps b1);replace H:=Hy (H.o.keeps b1);replace HA:=Hy (HA.o.keeps b1);replace HB:=Hy (HB.o.keeps b1);clear b1;clear CF;have c11:=G.o.cell 11;have d11:=H.o.cell 11;simp only [exC,sz2,sz3,sz4] at c11 d11;cases R
 ·go_wp2_with fail;go_ret;exact aK (by rw [hE.o];rfl) B1.o
 by_cases hn:x.ar.len=y.ar.len
 ·have q2:((x.ar.len:Int) != (y.ar.len:Int))=false:=by simp [hn]
  have hE2:sxE x y=sxF x.ar y.ar:=by rw [hE.o,dT hn];rfl
  replace hE2:=Hy hE2;replace hn:=Hy hn;clear hE;go_wp2_with fail
  go_loopw [5] (fun vi wr => ∃ j:Nat,vi=.int .i64 (j:Nat)∧Hid (j≤x.ar.len)∧Hid (sxF x.ar y.ar=sxF (x.ar.drop j) (y.ar.drop j))∧Hid (Below w1.heap.size w1 wr)) (fun vi _=>x.ar.len - (intOf vi).toNat)
  case atStart=>exact ⟨0,rfl,Hy zl,Hy (by rw [drop_zero,drop_zero]),Hy (b0 w1)⟩
  case round =>
   clear c11 d11;obtain ⟨j,rfl,hj,hR,hb⟩:=hrel;have Bw:=Hy (aA B1.o hb.o);replace G:=Hy (G.o.keeps hb.o);replace H:=Hy (H.o.keeps hb.o);replace HA:=Hy (HA.o.keeps hb.o);replace HB:=Hy (HB.o.keeps hb.o);have c11:=G.o.cell 11;simp only [exC,sz2,sz3,sz4] at c11;by_cases hlt:j<x.ar.len
   ·have hlb:j<y.ar.len:=by have:=hn.o;omega
    have q1:decide ((j:Int)<(x.ar.len:Int))=true:=dT (by omega);have i1:(j:Int)<(x.ar.len:Int):=by omega
    have i2:(j:Int)<(y.ar.len:Int):=by omega
    have f4:=Hy (aS (j:=j) (by have:=hmax.o;omega));obtain ⟨bk,off,va,va2,vc,vc2,rfl,R1,E1⟩:=HA.o.ar.at hlt;obtain ⟨bl,ofg,wa,wa2,wc,wc2,rfl,R2,E2⟩:=HB.o.ar.at hlb;replace R1:=Hy R1;replace E1:=Hy E1;replace R2:=Hy R2;replace E2:=Hy E2;have hR2:=Hy (hR.o.trans (PX hlt hlb));have hsz:=Hy (fV x.ar j hlt);have hlt2:=Hy hlt;clear HA HB hj hlb;generalize hy:x.ar.nth j=p at *;generalize hz:y.ar.nth j=q at *;clear hy hz
    go_upto_region 6 with fail
    clear c11
    go_cut [37] from 26 to 37 (fun v wx=>v=.bool (!sxE p q)∧Hid (Below wr.heap.size wr wx))
    case first =>
     refine wp_region_held_drew (S:=fun w' => Below wr.heap.size wr w') (by kernel_rfl) (b0 wr).drew (fun hH=>?_);refine ak 0 26 ?_ hH (fun w' hS=>?_) ?_;rotate_left
     ·go_simp;try with_reducible rfl
     simp only [sz0,sz1];refine ak 1 27 ?_ hH (fun w' hS=>?_) ?_;rotate_left
     ·have m11:=(G.o.keeps hS).cell 11;simp only [exC,sz2,sz3,sz4] at m11;go_simp;try with_reducible rfl
     simp only [sz0,sz1];refine ak 2 28 ?_ hH (fun w' hS=>?_) ?_;rotate_left
     ·go_simp;try with_reducible rfl
     simp only [sz0,sz1];refine ak 3 29 ?_ hH (fun w' hS=>?_) ?_;rotate_left
     ·go_simp;try with_reducible rfl
     simp only [sz0,sz1];refine aZ 4 30 (.agg (exC p.h p.ar.len va va2 vc vc2)) rfl (by kernel_rfl) rfl (fun _ _ _ h=>h) rfl hH (fun w' hS=>cK aJ Tryz.underlying29 rfl (.tmp 29) rfl bk (off+j * 12) (exC p.h p.ar.len va va2 vc vc2) rfl (aM R1.o hS) rfl) ?_;simp only [sz0,sz1];refine ak 5 31 ?_ hH (fun w' hS=>?_) ?_;rotate_left
     ·go_simp;try with_reducible rfl
     simp only [sz0,sz1];refine ak 6 32 ?_ hH (fun w' hS=>?_) ?_;rotate_left
     ·have m11:=(H.o.keeps hS).cell 11;simp only [exC,sz2,sz3,sz4] at m11;go_simp;try with_reducible rfl
     simp only [sz0,sz1];refine ak 7 33 ?_ hH (fun w' hS=>?_) ?_;rotate_left
     ·go_simp;try with_reducible rfl
     simp only [sz0,sz1];refine ak 8 34 ?_ hH (fun w' hS=>?_) ?_;rotate_left
     ·go_simp;try with_reducible rfl
     simp only [sz0,sz1];refine aZ 9 35 (.agg (exC q.h q.ar.len wa wa2 wc wc2)) rfl (by kernel_rfl) rfl (fun _ _ _ h=>h) rfl hH (fun w' hS=>cK aJ Tryz.underlying29 rfl (.tmp 34) rfl bl (ofg+j * 12) (exC q.h q.ar.len wa wa2 wc wc2) rfl (aM R2.o hS) rfl) ?_;simp only [sz0,sz1];generalize wr.drew=yy at *;refine aC 10 (fun K hK=>?_);go_simp;refine (IH'.o p q va vc wa wc va2 vc2 wa2 wc2 _ (by have:=hsz.o;have:=HZ.o;omega) (E1.o.keeps hH) (E2.o.keeps hH)).mono ?_;rintro e y71 ⟨rfl,b71⟩;skip;refine hK.o _ _ (aA hH b71) (fun hH=>?_);clear hK K;clear b71;refine ak 11 37 ?_ hH (fun w' hS=>?_) ?_;rotate_left
     ·go_simp;try with_reducible rfl
     simp only [sz0,sz1];refine wpAnyH_done (by kernel_rfl) ?_ _;go_wp2_with fail
     go_meet
     case rel=>exact ⟨rfl,Hy hH⟩
    case rest =>
     obtain ⟨rfl,BW⟩:=hcut;have Bx:=Hy (aA Bw.o BW.o);have hb6:=Hy (aA hb.o BW.o);clear BW;generalize sxE p q=fy at *;cases fy
     ·go_wp2_with fail;go_ret;exact aK (by rw [hE2.o,hR2.o,Bool.false_and]) Bx.o
     go_wp2_with fail;exact ⟨⟨j+1,congrArg (Value.int .i64) f4.o,hlt2,Hy (hR2.o.trans (Bool.true_and _)),hb6⟩,aN hlt2.o f4.o⟩
   have q1:decide ((j:Int)<(x.ar.len:Int))=false:=dF (by omega);have hT:=Hy (show sxF x.ar y.ar=true from by rw [hR.o,eO _ _ (by omega),eO _ _ (by have:=hn.o;omega)];rfl);clear hR;go_wp2_with fail;go_ret;exact aK (by rw [hE2.o,hT.o]) Bw.o
 have q2:((x.ar.len:Int) != (y.ar.len:Int))=true:=by simp;omega
 have q3:=dF hn;replace hn:=Hy hn;go_wp2_with fail;go_ret;exact aK (by rw [hE.o,q3];rfl) B1.o
theorem IQ (x y:Ex) (ua aa ub ab:Option Addr) (uc ac ud ad:Nat) (w:World) (hA:Ec w x ua uc aa ac) (hB:Ec w y ub ud ab ad):Calls Tryz.prog 28 #[.agg (exC x.h x.ar.len ua uc aa ac),.agg (exC y.h y.ar.len ub ud ab ad)] w (Bl (sxE x y) w):=by
 have key:∀ n,∀ (x y:Ex) (ua aa ub ab:Option Addr) (uc ac ud ad:Nat) (w:World),x.ar.sz<n→Ec w x ua uc aa ac→Ec w y ub ud ab ad→Calls Tryz.prog 28 #[.agg (exC x.h x.ar.len ua uc aa ac),.agg (exC y.h y.ar.len ub ud ab ad)] w (Bl (sxE x y) w):=by
  intro n
  induction n with
  | zero=>intro x y ua aa ub ab uc ac ud ad w h;exact absurd h (Nat.not_lt_zero _)
  | succ n ih =>
    intro x y ua aa ub ab uc ac ud ad w h hA hB
    exact FZ x.ar.sz (fun x' y' ua' aa' ub' ab' uc' ac' ud' ad' w' h' => ih x' y' ua' aa' ub' ab' uc' ac' ud' ad' w' (by omega)) x y ua aa ub ab uc ac ud ad w rfl hA hB
 exact key _ x y ua aa ub ab uc ac ud ad w ls hA hB
end ch
namespace un
open Go.RowKit dec
theorem KG {c:Int} (h1:¬ (97≤c∧c≤122)) (h2:¬ (48≤c∧c≤57)) (h3:¬ c=95):(jD c || (o7 c || decide (c=95)))=false:=by
 unfold jD o7;rw [dF h1,dF h2,dF h3];rfl
theorem Dx {c:Int} (h:(97≤c∧c≤122)∨(48≤c∧c≤57)∨c=95):(jD c || (o7 c || decide (c=95)))=true:=by
 unfold jD o7;rcases h with h | h | h
 ·rw [dT h];rfl
 ·rw [dT h];simp
 rw [dT h];simp
theorem qw (s:ByteArray) (w:World):Calls Tryz.prog 127 #[.string s] w fun e w' => e=.returned (.bool (word s))∧w=w':=by
 by_cases h0:s.size=0
 ·rw [yu s h0];have q1:decide ((s.size:Int)<1)=true:=dT (by omega)
  go_enter Tryz.func127,Tryz.ntmps127
  go_wp2_with fail;go_ret;exact ⟨rfl,rfl⟩
 have h0':0<s.size:=by omega
 have hw:=Dw s h0';have q1:decide ((s.size:Int)<1)=false:=dF (by omega);by_cases h24:s.size≤24
 ·have q2:decide (24<(s.size:Int))=false:=dF (by omega);rw [dT h24,Bool.true_and] at hw;have hS:=Hy h24;clear h24;generalize hK:((s[0].toNat:Nat):Int)=d at hw;cases hl:jD d
  ·rw [hl,Bool.false_and] at hw;rw [hw];unfold jD at hl;rw [decide_eq_false_iff_not] at hl;by_cases p1:d<97
   ·have q3:decide (d<97)=true:=dT p1;clear hl p1
    go_enter Tryz.func127,Tryz.ntmps127
    go_wp2_with fail;go_ret;exact ⟨rfl,rfl⟩
   have q3:decide (d<97)=false:=dF p1;have q4:decide (122<d)=true:=dT (by omega);clear hl p1
   go_enter Tryz.func127,Tryz.ntmps127
   go_wp2_with fail;go_ret;exact ⟨rfl,rfl⟩
  rw [hl,Bool.true_and] at hw;have H:=Hy hw;unfold jD at hl;rw [decide_eq_true_eq] at hl;have q3:decide (d<97)=false:=dF (by omega);have q4:decide (122<d)=false:=dF (by omega);clear hw hl
  go_enter Tryz.func127,Tryz.ntmps127
  go_wp2_with fail
  go_loopw [3] (fun vi wr => ∃ j:Nat,vi=.int .i64 (j:Nat)∧j≤s.size∧Hid (word s=(s.data.toList.drop j).all wch)∧w=wr) (fun vi _=>s.size - (intOf vi).toNat)
  case atStart=>exact ⟨0,rfl,by omega,H,rfl⟩
  case round =>
   obtain ⟨j,rfl,hj,hd,rfl⟩:=hrel;clear H;by_cases hc:j<s.size
   ·have hst:=hd.o;rw [Ie s hc,Ic] at hst;have q5:decide ((j:Int)<(s.size:Int))=true:=dT (by omega);have f4:=Hy (aS (j:=j) (by have:=hS.o;omega));generalize hJ:((s[j].toNat:Nat):Int)=c at hst;have H:=Hy hst;clear hd hst q1 q2 q3 q4 hK;go_wp2_with fail
    all_goals first
      | (go_ret;refine ⟨aX ?_,rfl⟩;rw [H.o,KG (by omega) (by omega) (by first | omega | simp_all),Bool.false_and])
      | (refine ⟨⟨j+1,congrArg (Value.int .i64) f4.o,hc,Hy ?_,trivial⟩,aN hc f4.o⟩;rw [H.o,Dx (by first | omega | (simp_all;done) | (simp_all;omega)),Bool.true_and])
   have hst:=hd.o;rw [DF s (by omega)] at hst;have H:=Hy hst;clear hst hd;have q3:decide ((j:Int)<(s.size:Int))=false:=dF (by omega);go_wp2_with fail;go_ret;exact ⟨aX H.o.symm,rfl⟩
 rw [dF h24,Bool.false_and] at hw;have q2:decide (24<(s.size:Int))=true:=dT (by omega);rw [hw]
 go_enter Tryz.func127,Tryz.ntmps127
 go_wp2_with fail;go_ret;exact ⟨rfl,rfl⟩
theorem AX {n d:Nat} (hd:d<n):n - (intOf (Value.int .i64 ((d:Int)+1))).toNat<n - (intOf (Value.int .i64 (d:Int))).toNat:=by
 have h:=hd;show n - (((d:Int)+1)).toNat<n - ((d:Nat):Int).toNat;omega
theorem TK {l:List Fa} {j:Nat} (_:j<l.length):ck1 .empty (gt l j)=0∨word (gt l j).1=false∨((gt l j).2=0∨far (gt l j).2=true):=by
 cases hw:word (gt l j).1
 ·exact .inr (.inl rfl)
 by_cases h2:(gt l j).2=0∨far (gt l j).2=true
 ·exact .inr (.inr h2)
 refine .inl (Kq hw (fun e=>h2 (.inl e)) (by simpa using fun e=>h2 (.inr e)) ?_);rw [yJ];have:=kP hw;exact dT (by omega)
theorem MP {i:Nat} (h:i<9223372036854775807):wrap64 ((i:Nat):Int)=((i:Nat):Int):=by unfold wrap64;omega
def bef (l:List Fa) (j:Nat):ByteArray:=if j=0 then .empty else (gt l (j - 1)).1
theorem oL (a:Option Addr) (n cap:Nat) (l:List Fa) (w:World) (hS:Sl w a n cap l) :
    Calls Tryz.prog 72 #[.slice a n cap] w fun e w' => e=.returned (.int .i64 (ck l))∧Below w.heap.size w w':=by
 have W1:=Hy qw;have R1:=Hy Ow;have hck:ck l=if 4<n then 2 else fC .empty (l.drop 0):=by rw [List.drop_zero,← hS.hn];rfl
 have S0:=Hy hS;clear hS;by_cases h4:4<n
 ·rw [hck,if_pos h4];have q1:decide (4<(n:Int))=true:=dT (by omega);clear W1 R1 S0 hck
  go_enter Tryz.func72,Tryz.ntmps72
  go_wp2_with fail;go_ret;exact ⟨rfl,b0 w⟩
 rw [if_neg h4] at hck;rw [hck];have hn:=Hy (Nat.le_of_not_lt h4);have q1:decide (4<(n:Int))=false:=dF (by omega);clear h4 hck
 go_enter Tryz.func72,Tryz.ntmps72
 go_wp2_with fail
 go_loopw [3] (fun vi wr => ∃ j:Nat,vi=.int .i64 (j:Nat)∧Hid (j≤n)∧Hid (fC .empty (l.drop 0)=fC (bef l j) (l.drop j))∧Hid (Below w.heap.size w wr)) (fun vi _=>n - (intOf vi).toNat)
 case atStart=>exact ⟨0,rfl,Hy (by omega),Hy rfl,Hy (b0 w)⟩
 case round =>
  obtain ⟨j,rfl,hj,hd,hb⟩:=hrel;by_cases hc:j<n
  ·have hln:=Hy (show j<l.length by have:=S0.o.hn;omega);have hst:=hd.o;rw [Fu hln.o (bef l j)] at hst;obtain ⟨bk,off,rfl,hC⟩:=(S0.o.keeps hb.o).hat.resolve_left (by have:=hln.o;omega);obtain ⟨c0,c1⟩:=hC j hln.o;have q2:decide ((j:Int)<(n:Int))=true:=dT (by omega);have q3:j<n:=hc;have f4:=Hy (aS (j:=j) (by have:=hn.o;omega));have hbn:=Hy (show bef l (j+1)=(gt l j).1 from rfl);have hca:=Hy (TK hln.o);have H:=Hy hst;clear hd hst;rcases Nat.eq_zero_or_pos j with h0 | h0
   ·have hbe:=Hy (show bef l j=.empty by rw [h0];rfl);have q6:decide ((0:Int)<(j:Int))=false:=dF (by omega);have q7:decide (0<j)=false:=dF (by omega);generalize bef l j=bb at *;generalize gt l j=x at *;clear hC h0;cases hw:word x.1
    ·have hk:ck1 .empty x=1:=by unfold ck1;rw [if_pos hw]
     replace hk:=Hy hk;go_wp2_with fail;refine (W1.o _ _).mono ?_;rintro e w' ⟨rfl,rfl⟩;go_wp2_with fail;go_ret;exact ⟨dh (by rw [H.o,hbe.o,if_neg (by rw [hk.o];decide),hk.o]),hb.o⟩
    by_cases hz:x.2=0
    ·have hk:ck1 .empty x=70:=by unfold ck1;rw [hw,if_neg (by decide),if_pos (.inl hz)]
     have q4:(x.2==0)=true:=beq_iff_eq.2 hz;replace hk:=Hy hk;replace hz:=Hy hz;go_wp2_with fail;refine (W1.o _ _).mono ?_;rintro e w' ⟨rfl,rfl⟩;go_wp2_with fail;go_ret;exact ⟨dh (by rw [H.o,hbe.o,if_neg (by rw [hk.o];decide),hk.o]),hb.o⟩
    have q4:(x.2==0)=false:=bF hz;cases hf:far x.2
    ·have hk:=Hy (show ck1 .empty x=0 from hca.o.resolve_right (by rintro (h | h | h) <;> simp_all));replace hz:=Hy hz;go_wp2_with fail;refine (W1.o _ _).mono ?_;rintro e w' ⟨rfl,rfl⟩;go_wp2_with fail;refine (R1.o _ _).mono ?_;rintro e w' ⟨rfl,rfl⟩;go_wp2_with fail;have c0r:=cell_regrown c0;clear c0 c1;refine wp_region_quiet_below (by kernel_rfl) (by kernel_rfl) ?_
     repeat (first | go_big_quiet_skip | (go_big_quiet_want;go_big_quiet_op;go_big_quiet_on))
     refine wpQuiet_nil ?_;intro w9 hw9;have hb2:=Hy (aA hb.o (jd hw9));clear hw9;go_wp2_with fail;refine ⟨⟨j+1,by first | exact congrArg (Value.int .i64) f4.o | rfl,Hy hc,Hy (by rw [H.o,hbe.o,if_pos hk.o,hbn.o]),Hy hb2.o⟩,by first | exact aN hc f4.o | exact AX hc⟩
    have hk:ck1 .empty x=70:=by unfold ck1;rw [hw,hf,if_neg (by decide),if_pos (.inr rfl)]
    replace hk:=Hy hk;replace hz:=Hy hz;go_wp2_with fail;refine (W1.o _ _).mono ?_;rintro e w' ⟨rfl,rfl⟩;go_wp2_with fail;refine (R1.o _ _).mono ?_;rintro e w' ⟨rfl,rfl⟩;go_wp2_with fail;go_ret;exact ⟨dh (by rw [H.o,hbe.o,if_neg (by rw [hk.o];decide),hk.o]),hb.o⟩
   obtain ⟨i,rfl⟩:∃ i,j=i+1:=⟨j - 1,by omega⟩;have hbe:=Hy (show bef l (i+1)=(gt l i).1 from rfl);obtain ⟨d0,d1⟩:=hC i (by have:=hln.o;omega);have q6:decide ((0:Int)<((i+1:Nat):Int))=true:=dT (by omega);have q9:i<n:=by omega
   have f9:=MP (i:=i) (by have:=hn.o;omega);have q8:=Ml (gt l (i+1)).1 (gt l i).1;generalize gt l (i+1)=x at *;generalize (gt l i).1=b at *;generalize bef l (i+1)=bb at *;clear hC h0 hca;cases hw:word x.1
   ·have hk:ck1 b x=1:=by unfold ck1;rw [if_pos hw]
    replace hk:=Hy hk;go_wp2_with fail;refine (W1.o _ _).mono ?_;rintro e w' ⟨rfl,rfl⟩;go_wp2_with fail;go_ret;exact ⟨dh (by rw [H.o,hbe.o,if_neg (by rw [hk.o];decide),hk.o]),hb.o⟩
   by_cases hz:x.2=0
   ·have hk:ck1 b x=70:=by unfold ck1;rw [hw,if_neg (by decide),if_pos (.inl hz)]
    have q4:(x.2==0)=true:=beq_iff_eq.2 hz;replace hk:=Hy hk;replace hz:=Hy hz;go_wp2_with fail;refine (W1.o _ _).mono ?_;rintro e w' ⟨rfl,rfl⟩;go_wp2_with fail;go_ret;exact ⟨dh (by rw [H.o,hbe.o,if_neg (by rw [hk.o];decide),hk.o]),hb.o⟩
   have q4:(x.2==0)=false:=bF hz;cases hf:far x.2
   ·cases hl:Op.bytesLess b.toList x.1.toList
    ·have hk:ck1 b x=3:=by unfold ck1 ltS;rw [hw,hf,hl,if_neg (by decide),if_neg (by simp [hz]),if_neg (by decide)]
     replace hk:=Hy hk;replace hz:=Hy hz;rw [hl,Bool.not_false] at q8;go_wp2_with fail;refine (W1.o _ _).mono ?_;rintro e w' ⟨rfl,rfl⟩;go_wp2_with fail;refine (R1.o _ _).mono ?_;rintro e w' ⟨rfl,rfl⟩;go_wp2_with fail;have c0r:=cell_regrown c0;have d0r:=cell_regrown d0;clear c0 c1 d0 d1;refine wp_region_quiet_below (by kernel_rfl) (by kernel_rfl) ?_
     repeat (first | go_big_quiet_skip | (go_big_quiet_want;go_big_quiet_op;go_big_quiet_on))
     refine wpQuiet_nil ?_;intro w9 hw9;have hb2:=Hy (aA hb.o (jd hw9));clear hw9;go_wp2_with fail;go_ret;exact ⟨dh (by rw [H.o,hbe.o,if_neg (by rw [hk.o];decide),hk.o]),hb2.o⟩
    have hk:ck1 b x=0:=by unfold ck1 ltS;rw [hw,hf,hl,if_neg (by decide),if_neg (by simp [hz]),if_pos rfl]
    replace hk:=Hy hk;replace hz:=Hy hz;rw [hl,Bool.not_true] at q8;go_wp2_with fail;refine (W1.o _ _).mono ?_;rintro e w' ⟨rfl,rfl⟩;go_wp2_with fail;refine (R1.o _ _).mono ?_;rintro e w' ⟨rfl,rfl⟩;go_wp2_with fail;have c0r:=cell_regrown c0;have d0r:=cell_regrown d0;clear c0 c1 d0 d1;refine wp_region_quiet_below (by kernel_rfl) (by kernel_rfl) ?_
    repeat (first | go_big_quiet_skip | (go_big_quiet_want;go_big_quiet_op;go_big_quiet_on))
    refine wpQuiet_nil ?_;intro w9 hw9;have hb2:=Hy (aA hb.o (jd hw9));clear hw9;go_wp2_with fail;refine ⟨⟨i+1+1,by first | exact congrArg (Value.int .i64) f4.o | rfl,Hy hc,Hy (by rw [H.o,hbe.o,if_pos hk.o,hbn.o]),Hy hb2.o⟩,by first | exact aN hc f4.o | exact AX hc⟩
   have hk:ck1 b x=70:=by unfold ck1;rw [hw,hf,if_neg (by decide),if_pos (.inr rfl)]
   replace hk:=Hy hk;replace hz:=Hy hz;go_wp2_with fail;refine (W1.o _ _).mono ?_;rintro e w' ⟨rfl,rfl⟩;go_wp2_with fail;refine (R1.o _ _).mono ?_;rintro e w' ⟨rfl,rfl⟩;go_wp2_with fail;go_ret;exact ⟨dh (by rw [H.o,hbe.o,if_neg (by rw [hk.o];decide),hk.o]),hb.o⟩
  have H:=Hy (show fC .empty (l.drop 0)=0 by rw [hd.o,Ko (by have:=S0.o.hn;omega)]);have q3:decide ((j:Int)<(n:Int))=false:=dF (by omega);clear hd;go_wp2_with fail;go_ret;exact ⟨dh H.o.symm,hb.o⟩
end un
end Go.Proofs.YtbahfelnbofjjaaGreatDoor
