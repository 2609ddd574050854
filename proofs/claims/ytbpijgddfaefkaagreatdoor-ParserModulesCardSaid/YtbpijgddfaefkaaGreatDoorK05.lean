/-
  Lists of problems in memory: slices that are read, slices of the call's own; append; one of them in a block; Bytes in memory: slices that are read, bytes of the call's own, conversions; From a walk of a statement to its row and its card: what the listed variables hold; how values come in; Units as plain data: words, checks, products, texts; nothing of the program; Parsing ar plain data: expressions, types, windows, units, tables and features of a list of tokens; Lists of factors in memory: slices that are read, slices of the call's own; append; one factor in a block.
-/
import Derived.Lib.AppendStr
import Derived.LaidLaws
import Derived.ProofKit
import Derived.LaidMore
import Derived.Stop.Joined
import Derived.Stop.LaidErr
import Derived.SevenTiedAt
import Derived.Deep.Slices
import Derived.SizedLaws
import Derived.ChangeMaps5
import Derived.Carry
import Derived.Lib.AtoiAll
import Derived.Test.YtbpijgddfaefkaaGreatDoorCards
import Derived.Test.YtbpijgddfaefkaaGreatDoorK04
import Derived.Test.YtbpijgddfaefkaaGreatDoorRows
import Derived.Test.YtbpijgddfaefkaaGreatDoorTie
set_option maxRecDepth 100000
set_option maxHeartbeats 16000000
namespace Go.Proofs.YtbpijgddfaefkaaGreatDoor
namespace pb
open Go.RowKit dec
structure Bw (w:World) (b:Nat) (x:Pb):Prop where
 c0:w.cell? ⟨b,0,none⟩=some (.int .i64 (x).1)
 c1:w.cell? ⟨b,1,none⟩=some (.int .i64 (x).2)
theorem Bw.lt {w:World} {b:Nat} {x:Pb} (h:Bw w b x):b<w.heap.size:=block_lt_of_cell h.c0
theorem Bw.new (w:World) (x:Pb) (T:TypeId):Bw (w.alloc (.cells #[.int .i64 (x).1,.int .i64 (x).2] T)) w.heap.size x:=⟨by simp [go_sem],by simp [go_sem]⟩
theorem Bw.oU {w w1:World} {B b:Nat} {x:Pb} (h:Bw w b x) (hb:Below B w w1) (hl:b<B):Bw w1 b x :=
 ⟨(hb.cell hl).trans h.c0,(hb.cell hl).trans h.c1⟩
theorem Bw.keeps {w w1:World} {b:Nat} {x:Pb} (h:Bw w b x) (hb:Below w.heap.size w w1):Bw w1 b x:=h.oU hb h.lt
theorem Bw.past {w:World} {b:Nat} {x:Pb} (h:Bw w b x) (o:Obj):Bw (w.alloc o) b x:=h.keeps (aj (b0 w) o)
def cs:List Pb→List Value
 | []=>[]
 | x :: l=>.int .i64 (x).1 :: .int .i64 (x).2 :: cs l
theorem dU:∀ l:List Pb,(cs l).length=l.length * 2
 | []=>rfl
 | x :: l=>by simp only [cs,List.length_cons,dU l];omega
theorem dV:∀ l r:List Pb,cs (l++r)=cs l++cs r
 | [],_=>rfl
 | x :: l,r=>by simp only [cs,List.cons_append,dV l r]
theorem iq:∀ l:List Pb,∀ u ∈ cs l,u.oneCell'=true
 | [],u,h=>by simp [cs] at h
 | x :: l,u,h=>by
  simp only [cs,List.mem_cons] at h
  rcases h with rfl | rfl | h
  ·rfl
  ·rfl
  ·exact iq l u h
def gt (l:List Pb) (j:Nat):Pb:=l.getD j (0,0)
theorem oW {l:List Pb} {j:Nat} (h:j<l.length):gt l j ∈ l:=by
 unfold gt;rw [List.getD_eq_getElem?_getD,List.getElem?_eq_getElem h];exact List.getElem_mem h
theorem eF {l:List Pb} {j:Nat} (h:j<l.length):gt l j=l[j]:=by
 unfold gt;rw [List.getD_eq_getElem?_getD,List.getElem?_eq_getElem h];rfl
theorem iR:∀ (l:List Pb) (j:Nat),j<l.length→(cs l)[j * 2]? = some (.int .i64 (gt l j).1)∧(cs l)[j * 2+1]? = some (.int .i64 (gt l j).2)
 | [],j,h=>by simp at h
 | x :: l,0,_=>⟨rfl,rfl⟩
 | x :: l,j+1,h=>by
  have:=iR l j (by simpa using h)
  rw [show (j+1) * 2=j * 2+1+1 by omega]
  simp only [cs,sz4]
  exact this
theorem qh {l:List Pb} {j:Nat} (h:j<l.length):l.drop j=gt l j :: l.drop (j+1):=by
 rw [eF h];exact List.drop_eq_getElem_cons h
theorem iY {l:List Pb} {j:Nat} (h:j<l.length):l.take (j+1)=l.take j++[gt l j]:=by
 rw [eF h,List.take_add_one,List.getElem?_eq_getElem h];rfl
def Cl (w:World) (b off:Nat) (l:List Pb):Prop:=∀ j,j<l.length→w.cell? ⟨b,off+j * 2,none⟩=some (.int .i64 (gt l j).1)∧w.cell? ⟨b,off+j * 2+1,none⟩=some (.int .i64 (gt l j).2)
theorem Cl.keeps {w w1:World} {b off:Nat} {l:List Pb} (h:Cl w b off l) (hb:Below w.heap.size w w1):Cl w1 b off l:=fun j hj=>⟨dec.keeps hb (h j hj).1,dec.keeps hb (h j hj).2⟩
def At (w:World) (a:Option Addr) (l:List Pb):Prop:=l.length=0∨∃ b off,a=some ⟨b,off,none⟩∧Cl w b off l
theorem At.keeps {w w1:World} {a:Option Addr} {l:List Pb} (h:At w a l) (hb:Below w.heap.size w w1):At w1 a l:=h.imp id fun ⟨b,off,e,hB⟩=>⟨b,off,e,hB.keeps hb⟩
structure Sl (w:World) (a:Option Addr) (n cap:Nat) (l:List Pb):Prop where
 hat:At w a l
 hn:l.length=n
 hcap:n≤cap
 hmax:cap≤9223372036854775807
 hno:a=none→cap=0
theorem Sl.keeps {w w1:World} {a:Option Addr} {n cap:Nat} {l:List Pb} (h:Sl w a n cap l) (hb:Below w.heap.size w w1):Sl w1 a n cap l:={ h with hat:=h.hat.keeps hb }
theorem Sl.nil (w:World):Sl w none 0 0 []:=⟨.inl rfl,rfl,by omega,by omega,fun _=>rfl⟩
theorem Cl.cut {w:World} {b off:Nat} {l:List Pb} (h:Cl w b off l) (k m:Nat):Cl w b (off+k * 2) ((l.drop k).take m):=by
 intro j hj;have hlen:((l.drop k).take m).length=min m (l.length - k):=by simp
 have:=h (k+j) (by omega);have e:gt ((l.drop k).take m) j=gt l (k+j):=by
  rw [eF hj,eF (by omega)];simp
 rw [e,show off+k * 2+j * 2=off+(k+j) * 2 by omega];exact this
theorem Cl.take {w:World} {b off:Nat} {l:List Pb} (h:Cl w b off l) (m:Nat):Cl w b off (l.take m):=by
 have:=h.cut 0 m;simpa using this
theorem lJ:(Tryz.prog.info? 72).map (fun i=>(i.zero,i.size,i.bytes))=some (some (.agg #[.int .i64 0,.int .i64 0]),2,16):=by kernel_rfl
def Own (w:World) (base:Nat) (v:Value) (l:List Pb):Prop:=w.ownsRow base 72 2 v l.length (cs l)
theorem Own.nil (w:World) (base:Nat):Own w base (.slice none 0 0) []:=World.ownsRow_nil _ _ _ _
theorem Own.less {w:World} {base base':Nat} {v:Value} {l:List Pb} (h:Own w base v l) (hb:base'≤base):Own w base' v l:=by
 refine ⟨h.1,h.2.imp id fun ⟨g,cap,cur,e,hbg,r⟩=>⟨g,cap,cur,e,by omega,r⟩⟩
theorem Own.o {w:World} {base:Nat} {v:Value} {l:List Pb} (h:Own w base v l):(v=.slice none 0 0∧l=[])∨∃ g cap,v=.slice (some ⟨g,0,none⟩) l.length cap∧base≤g∧g<w.heap.size∧l.length≤cap∧cap≤9223372036854775807∧Cl w g 0 l:=by
 rcases h.2 with ⟨h0,h1⟩ | ⟨g,cap,cur,rfl,hb,hg,hc,hm,hs,ht⟩
 ·exact .inl ⟨h0,List.eq_nil_of_length_eq_zero h1⟩
 refine .inr ⟨g,cap,rfl,hb,(h.lt g rfl).2,hc,by unfold maxLen at hm;omega,fun j hj=>?_⟩;rw [Nat.zero_add,h.cellAt (j * 2) (by omega),h.cellAt (j * 2+1) (by omega)];exact iR l j hj
theorem Own.sl {w:World} {base:Nat} {v:Value} {l:List Pb} (h:Own w base v l):∃ a cap,v=.slice a l.length cap∧Sl w a l.length cap l:=by
 rcases h.o with ⟨rfl,rfl⟩ | ⟨g,cap,rfl,_,_,hc,hm,hW⟩
 ·exact ⟨none,0,rfl,.nil _⟩
 exact ⟨_,cap,rfl,.inr ⟨g,0,rfl,hW⟩,rfl,hc,hm,fun h=>by cases h⟩
theorem Own.keeps {w w1:World} {base:Nat} {v:Value} {l:List Pb} (h:Own w base v l) (hb:Below w.heap.size w w1):Own w1 base v l:=by
 obtain ⟨h1,h2⟩:=h;refine ⟨h1,?_⟩;rcases h2 with h0 | ⟨g,cap,cur,e,hbg,hh,r⟩
 ·exact .inl h0
 refine .inr ⟨g,cap,cur,e,hbg,?_,r⟩;have:g<w.heap.size:=by
  rcases Nat.lt_or_ge g w.heap.size with h' | h'
  ·exact h'
  rw [Array.getElem?_eq_none h'] at hh;cases hh
 rw [hb.block _ this];exact hh
theorem own_below {w w':World} {base:Nat} {v:Value} {l:List Pb} (h:Own w base v l) (hg:w.grownBy w' v.ownBlock) (hb:base≤w.heap.size):Below base w w' :=
 (Below.refl base w).grown hg hb fun k hk=>(h.lt k hk).1
theorem lW (w:World) {o:Oper} {a:Act} {K:Act→World→Prop} {Q:Exit→Act→World→Prop} (s x:Operand)
    (ho:o.op=.call { callee:=.builtin .append,args:=#[s,x],argTypes:=#[28,28] })
    (base:Nat) (v:Value) (l:List Pb) (hs:a.eval s=v) (hown:Own w base v l) (b:Nat) (y:Pb) (hx:a.eval x=.slice (some ⟨b,0,none⟩) 1 1) (hB:Bw w b y)
    (hn:l.length<8796093022208) (hbase:base≤w.heap.size)
    (h:∀ v' w',Own w' base v' (l++[y])→Below base w w'→w.grownBy w' v.ownBlock→K (a.put o.dst v') w'):o.wp Tryz.prog a w K Q:=by
 obtain ⟨i,hi,hz0,hz1,hz2⟩:=info_parts lJ
 refine wp_append_own w s x 28 ho base 72 i (.agg #[.int .i64 0,.int .i64 0]) 2 16 Tryz.underlying28 hi hz0 hz1 hz2 rfl (by decide) v l.length (cs l) hs hown ⟨b,0,none⟩ 1 1 (cs [y]) hx rfl ?_ (iq _)
   (by unfold maxLen;omega) (by omega) hbase fun v' w' h1 h2 _=>h v' w' (by unfold Own;rw [dV,List.length_append];exact h1) (own_below hown h2 hbase) h2
 intro j u hu;unfold Addr.add
 match j,hu with
 | 0,hu=>simp [cs] at hu;subst hu;exact hB.c0
 | 1,hu=>simp [cs] at hu;subst hu;exact hB.c1
 | j+2,hu=>simp [cs] at hu
theorem bL (w:World) {ops:Array Oper} {rest:List Oper} {o:Oper} {a:Act} {Q:Exit→Act→World→Prop} (hgd:o.guard=none) (s x:Operand)
  (ho:o.op=.call { callee:=.builtin .append,args:=#[s,x],argTypes:=#[28,28] })
  (base:Nat) (v:Value) (l:List Pb) (hs:a.eval s=v) (hown:Own w base v l) (b:Nat) (y:Pb) (hx:a.eval x=.slice (some ⟨b,0,none⟩) 1 1) (hB:Bw w b y)
  (hn:l.length<8796093022208) (hbase:base≤w.heap.size)
  (h:∀ v' w',Own w' base v' (l++[y])→Below base w w'→w.grownBy w' v.ownBlock→wpList Tryz.prog ops Q rest (a.put o.dst v') w'):wpList Tryz.prog ops Q (o :: rest) a w :=
 wpList_plain hgd fun _ hK=>lW w s x ho base v l hs hown b y hx hB hn hbase fun v' w' h1 h2 h3=>hK _ _ (h v' w' h1 h2 h3)
theorem dD {w:World} {ops:Array Oper} {rest:List Oper} {o:Oper} {a:Act} {Q:Exit→Act→World→Prop} (s x:Operand) (_:o.op=.call { callee:=.builtin .append,args:=#[s,x],argTypes:=#[28,28] })
  (k:wpList Tryz.prog ops Q (o :: rest) a w):wpList Tryz.prog ops Q (o :: rest) a w:=k
end pb
section
open Go.RowKit dec
theorem Qq:(Tryz.prog.info? 5).map (fun i=>(i.zero,i.size,i.bytes))=some (some (.int .u8 0),1,1):=by kernel_rfl
def bv (l:List UInt8):List Value:=l.map fun c=>Value.int .u8 (c.toNat:Int)
structure Bs (w:World) (a:Option Addr) (n cap:Nat) (s:ByteArray):Prop where
 hat:s.size=0∨∃ b off,a=some ⟨b,off,none⟩∧∀ j (hj:j<s.size),w.cell? ⟨b,off+j,none⟩=some (.int .u8 (s[j].toNat:Int))
 hn:s.size=n
 hcap:n≤cap
 hmax:cap≤9223372036854775807
 hno:a=none→cap=0
theorem Bs.keeps {w w1:World} {a:Option Addr} {n cap:Nat} {s:ByteArray} (h:Bs w a n cap s) (hb:Below w.heap.size w w1):Bs w1 a n cap s :=
 { h with hat:=h.hat.imp id fun ⟨b,off,e,hB⟩=>⟨b,off,e,fun j hj=>dec.keeps hb (hB j hj)⟩ }
theorem Bs.str {w:World} {a:Option Addr} {n cap:Nat} {s:ByteArray} (h:Bs w a n cap s):(convert 22 9 (.slice a n cap)).run Tryz.prog w=.ok (.string s) w:=by
 have hn:=h.hn;subst hn;rcases h.hat with h0 | ⟨b,off,rfl,hB⟩
 ·have hs:=uY h0;subst hs;rw [run_convert_bytes_string w 22 9 5 a _ cap Tryz.underlying22 Tryz.underlying5 Tryz.underlying9];show (Conv.bytesToString (.slice a 0 cap)).run Tryz.prog w=_;cases a <;> simp [Conv.bytesToString,loadCells]
  all_goals rfl
 have hl:s.data.toList.length=s.size:=aM s;have:=run_convert_bytes_arg (P:=Tryz.prog) w 22 5 Tryz.underlying22 Tryz.underlying5 b off s.size cap (s.data.toList.map fun c=>(c.toNat:Int)) (by rw [List.length_map,hl]) (fun i hi=>by
   rw [hB i hi,List.getD_eq_getElem?_getD,List.getElem?_map,List.getElem?_eq_getElem (by rw [hl];exact hi)]
   rfl) _ Tryz.underlying9
 rw [this];have e:strOfNums (s.data.toList.map fun c=>(c.toNat:Int))=s:=by
  unfold strOfNums;rw [List.map_map];refine (congrArg (fun l:List UInt8=>(⟨l.toArray⟩:ByteArray)) ?_).trans (uM s);refine (List.map_congr_left fun c _=>?_).trans (List.map_id _);show UInt8.ofNat ((c.toNat:Int)).toNat=c;rw [Int.toNat_natCast,UInt8.ofNat_toNat]
 rw [e]
theorem IK (w:World) (s:ByteArray) (hs:s.size≤281474976710656):∃ w' c,(convert 9 22 (.string s)).run Tryz.prog w=.ok (.slice (some ⟨w.heap.size,0,none⟩) s.size c) w'∧Bs w' (some ⟨w.heap.size,0,none⟩) s.size c s∧Below w.heap.size w w':=by
 refine ⟨Lib.bytesWorld w 5 s,grownCap w s.size 0 5,Lib.run_convert_string_bytes w 9 22 5 s Tryz.underlying9 Tryz.underlying22 Tryz.underlying5,⟨.inr ⟨_,_,rfl,fun j hj=>?_⟩,rfl,grownCap_ge _ _ _ _,?_,fun h=>by cases h⟩,gN _ _ _⟩
 ·rw [Nat.zero_add,Lib.bytesWorld_cell w 5 s j hj];rw [List.getD_eq_getElem?_getD,List.getElem?_eq_getElem (by rw [aM];exact hj)];rfl
 have:=grownCap_le_maxLen w s.size 0 5 (by unfold maxLen;omega);unfold maxLen at this;omega
end
section
open Go.ChangeShapes Go.WideShapes Go.ChangeAt Go.RowKit Go.Joins dec
theorem own:ownKnob Tryz.prog.godebug=none:=by kernel_rfl
theorem laidOut:laidOutB Tryz.prog=true:=by kernel_rfl
theorem cells5:Tryz.prog.cellsOf 5=1:=by kernel_rfl
theorem OV:Tryz.prog.bytesOf 5=1:=by kernel_rfl
section
variable {H:Type} {enc':TypeId × Value→H} {P:Program}
end
def sG:List (String × DataW Unit):=[("math/bits.deBruijn32tab",Rows.laid_math_bits_deBruijn32tab),("math/bits.deBruijn64tab",Rows.laid_math_bits_deBruijn64tab),("internal/strconv.uint64pow10",Rows.laid_internal_strconv_uint64pow10),("strconv.ErrRange",Rows.laid_strconv_ErrRange),("strconv.ErrSyntax",Rows.laid_strconv_ErrSyntax),("asof/decimal.powers",Rows.laid_asof_decimal_powers),("asof/lexer.classes",Rows.laid_asof_lexer_classes),("asof/parser.operators",Rows.laid_asof_parser_operators)]
theorem QS:Tryz.prog.globalNamed "internal/strconv.uint64pow10" = some 8:=by kernel_rfl
theorem QG:(Tryz.prog.globals[8]?).map (·.type)=some 260:=by kernel_rfl
theorem QJ:(Tryz.prog.globals[3]?).map (·.type)=some 203:=by kernel_rfl
theorem QH:(Tryz.prog.globals[6]?).map (·.type)=some 152:=by kernel_rfl
theorem QI:(Tryz.prog.globals[7]?).map (·.type)=some 152:=by kernel_rfl
theorem QM:(Tryz.prog.globals[2]?).map (·.type)=some 196:=by kernel_rfl
theorem Q0:Tryz.prog.cellsOf 196=126:=by kernel_rfl
theorem cC1:Tryz.prog.cellsOf 170=1:=by kernel_rfl
theorem QW:(Rows.laid_asof_lexer_classes:DataW Unit)=Lib.tabData .u8 o9:=by kernel_rfl
theorem QX:Tryz.prog.cellsOf 260=20:=by kernel_rfl
theorem QY:Tryz.prog.cellsOf 203=7:=by kernel_rfl
theorem cU:Tryz.prog.cellsOf 112=1:=by kernel_rfl
theorem cI3:Tryz.prog.cellsOf 3=1:=by kernel_rfl
theorem cS9:Tryz.prog.cellsOf 9=1:=by kernel_rfl
theorem cE:Tryz.prog.cellsOf 268=1:=by kernel_rfl
theorem QT:(Rows.laid_internal_strconv_uint64pow10:DataW Unit)=Lib.tabData .u64 Lib.pow10Tab:=by kernel_rfl
theorem QU:(Rows.laid_asof_decimal_powers:DataW Unit)=Lib.tabData .i64 kT:=by kernel_rfl
theorem star : "*"++ "errors.errorString" = "*errors.errorString":=by decide
theorem ND (u:TypeId) (h:Tryz.prog.typeName? 3 u=some "*errors.errorString"):u=266 :=
 typeName_ptr_named (nm:= "errors.errorString") (by rw [star];kernel_rfl) (by kernel_rfl) (by decide) u (by rw [star];exact h)
theorem OH:Tryz.prog.globalNamed "asof/parser.operators" = some 4:=by kernel_rfl
theorem QL:(Tryz.prog.globals[4]?).map (·.type)=some 211:=by kernel_rfl
theorem QZ:Tryz.prog.cellsOf 211=6:=by kernel_rfl
theorem cSs:Tryz.prog.cellsOf 108=1:=by kernel_rfl
theorem QV:(Rows.laid_asof_parser_operators:DataW Unit)=.agg ((List.range 6).map fun n=>.slice ((opL n).map fun s=>.lit (.string s.data.toList)) []):=by kernel_rfl
theorem uo (n:Nat):(opL n).length≤4:=by
 match n with
 | 0=>decide
 | 1=>decide
 | 2=>decide
 | 3=>decide
 | 4=>decide
 | n+5=>show ([_,_]:List ByteArray).length≤4;simp
theorem zC {W:World} {rest:List (String × DataW Unit)} (h:laidMet Tryz.prog (("asof/parser.operators",.agg ((List.range 6).map fun n=>.slice ((opL n).map fun s=>.lit (.string s.data.toList)) [])) :: rest) W):Opt W:=by
 obtain ⟨ps,⟨g',t',cs,fuel,p,q,hg',ht',hvar,hd,_,_⟩,_⟩:=h;obtain rfl:=Option.some.inj (OH.symm.trans hg');obtain rfl:=Option.some.inj (QL.symm.trans ht')
 cases fuel with
 | zero=>simp [DataW.trod] at hd
 | succ fuel =>
   simp only [DataW.trod,Tryz.underlying211,cSs,QZ,Nat.mul_one] at hd
   split at hd
   · rename_i hl
     obtain ⟨xs,hm,hx⟩:=Option.map_eq_some_iff.1 hd
     have hxs:xs.map (·.1)=(List.range 6).map fun n=>(DataW.slice ((opL n).map fun s=>.lit (.string s.data.toList)) []:DataW Unit):=by
       have:=congrArg Prod.fst hx
       simpa using this
     intro n hn
     obtain ⟨y,hy,hf⟩:=Lib.mapM_at hm n n (by simp [hn])
     have h2:(xs.map (·.1))[n]? = some y.1:=by simp [hy]
     rw [hxs,List.getElem?_map,List.getElem?_range hn] at h2
     have h3:y.1=DataW.slice ((opL n).map fun s=>.lit (.string s.data.toList)) []:=(Option.some.inj h2).symm
     have hlt:n<cs.toList.length:=by
       have:cs.toList.length=6:=by simpa using hl
       omega
     have hcs:(cs.toList.drop n).take 1=[cs.toList[n]]:=by
       rw [List.drop_eq_getElem_cons hlt,List.take_succ_cons,List.take_zero]
     rw [hcs] at hf
     rcases Go.Deep.open_slice1 Tryz.underlying108 cS9 hf with ⟨_,h4⟩ | ⟨a,len,cap,m,k,V,D,Pl,h4,_,_,_,h5,h6,h7⟩
     · rw [h4] at h3
       cases h3
     · have h8:cs.toList[n]=.slice (some a) len cap:=by simpa using h4
       rw [h6] at h3
       injection h3 with h9 h10
       have hlen:len=(opL n).length:=by
         have:=congrArg List.length h9
         simpa using this
       have hc:W.cell? ⟨4,n,none⟩=some (.slice (some a) len cap):=by
         have:=World.var?_cell OH hvar n
         rw [this,← h8,← Array.getElem?_toList,List.getElem?_eq_getElem hlt]
       obtain ⟨b,off,spot⟩:=a
       have hel:∀ j (hj:j<(opL n).length),W.cell? ((⟨b,off,spot⟩:Addr).add j)=some (.string (opL n)[j]):=fun j hj=>by
         have hjm:j<m:=by rw [h5];split <;> omega
         obtain ⟨g1,g2⟩:=h7 j hjm
         obtain ⟨s,g3,g4,_⟩:=DataW.trod_string Tryz.underlying9 g2
         have g5:V j=.string s:=by simpa using g3
         have g6:((opL n).map fun s=>(DataW.lit (.string s.data.toList):DataW Unit))[j]? = some (D j):=by
           rw [← h9,List.getElem?_map,List.getElem?_range (by omega)]
           rfl
         rw [List.getElem?_map,List.getElem?_eq_getElem hj] at g6
         have g7:D j=.lit (.string s.data.toList):=congrArg Prod.fst g4
         rw [g7] at g6
         have g8:(opL n)[j].data.toList=s.data.toList:=by
           have:=Option.some.inj g6
           injection this with this
           injection this
         have g9:s=(opL n)[j]:=by
           rw [← uM s,← uM (opL n)[j],g8]
         rw [g1,g5,g9]
       have hsp:spot=none:=by
         have h0:0<(opL n).length:=by
           match n with
           | 0=>decide
           | 1=>decide
           | 2=>decide
           | 3=>decide
           | 4=>decide
           | n+5=>show 0<([_,_]:List ByteArray).length;simp
         simpa [Addr.add] using World.cell?_spot (hel 0 h0)
       subst hsp
       refine ⟨b,off,cap,by rw [hc,hlen],fun j hj=>?_⟩
       have:=hel j hj
       unfold Addr.add at this
       by_cases h1:j=0
       · subst h1;simpa using this
       · simpa [h1] using this
   · cases hd
theorem xq {W:World} (h:laidMetH Tryz.prog sG W):Tabs W:=by
 rw [MakeChecks.laidMetH_plain _ _ _ (by kernel_rfl)] at h;have h3:=h.tail.tail;have h4:=h3.tail;have h5:=h4.tail;have h6:=h5.tail;have h7:=h6.tail;have h8:=h7.tail;rw [QT] at h3;rw [QU] at h6;rw [QW] at h7;rw [QV] at h8;obtain ⟨a0,s0,hv0,-,-,-⟩:=laid_sentinel h4 Dh QI Tryz.underlying152 ND Tryz.underlying266 Tryz.underlying268 rfl rfl Tryz.underlying9 cE cS9;obtain ⟨a1,s1,hv1,-,-,-⟩:=laid_sentinel h5 Df QH Tryz.underlying152 ND Tryz.underlying266 Tryz.underlying268 rfl rfl Tryz.underlying9 cE cS9;exact ⟨Lib.tabIs_of_head OG QJ Tryz.underlying203 Tryz.underlying3 cI3 QY h6,Lib.tabIs_of_head QS QG Tryz.underlying260 Tryz.underlying112 cU QX h3,⟨_,_,hv1⟩,⟨_,_,hv0⟩,Lib.tabIs_of_head OI QM Tryz.underlying196 Tryz.underlying170 cC1 Q0 h7,zC h8⟩
theorem Iy (os:Os) (args:Array Value):laidMetH Tryz.prog sG ((World.doorLaid Tryz.prog 93 os).forCall (fun _ _=>0) ⟨#[],args,[]⟩).memory :=
 laidMetH_of_parts3 (fuel:=8) (laidMet_of_run' 8 (by kernel_rfl) (by kernel_rfl)) (by kernel_rfl) (by kernel_rfl)
theorem Qw (x:ByteArray) (k:Nat) (hk:k<x.size):x.data.toList[k]? = some x[k]:=by
 rw [List.getElem?_eq_getElem (by rw [aM];exact hk)];rfl
theorem bounds_u8 {n:Int} (h:(Lit.int .u8 n).wf=true):0≤n∧n≤255:=by
 have hmin:IntKind.u8.min=0:=rfl;have hmax:IntKind.u8.max=255:=rfl;simp only [Lit.wf,Bool.and_eq_true,decide_eq_true_eq] at h;omega
theorem Qx {H:Type} {enc':TypeId × Value→H} {w:World} {fuel:Nat} {a:Option Addr} {n cap:Nat} {d:DataW H} {ps:List MemPlace}
    (h:DataW.trod enc' Tryz.prog w 0 (fun _=>true) true fuel 22 [.slice a n cap]=some (d,ps))
    (hz:∀ elems spare,d=.slice elems spare→(elems.length+spare.length) * Tryz.prog.bytesOf 5≤reachBytes):∃ s,Bs w a n cap s:=by
 have hb:reachBytes=140737488351232:=rfl;rcases Go.Deep.open_slice1 Tryz.underlying22 cells5 h with ⟨hcs,hd⟩ | ⟨x,l,c,m,k,V,D,Pl,hcs,_,hl,hm,hmm,hx,hel⟩
 ·simp at hcs;obtain ⟨rfl,rfl,rfl⟩:=hcs;exact ⟨.empty,⟨.inl rfl,rfl,by omega,by omega,fun _=>rfl⟩⟩
 simp at hcs;obtain ⟨rfl,rfl,rfl⟩:=hcs;simp at hmm;subst hmm;have hz':=hz _ _ (Prod.mk.inj hx).1;simp only [List.length_map,List.length_range,OV] at hz';rw [hb] at hz';obtain ⟨q,hq⟩:∃ q:Nat→Nat,∀ i,i<n→w.cell? (x.add i)=some (.int .u8 (q i:Nat))∧q i<256:=Go.Deep.choose_lt (p:=fun i (v:Nat)=>w.cell? (x.add i)=some (.int .u8 (v:Int))∧v<256) (fun i hi=>by
   obtain ⟨h1,h2⟩:=hel i (by omega)
   obtain ⟨v,e,_,u⟩:=DataW.trod_int Tryz.underlying5 h2
   simp only [List.cons.injEq,and_true] at e
   have hu:=bounds_u8 u
   refine ⟨v.toNat,?_,by omega⟩
   rw [h1,e,show ((v.toNat:Nat):Int)=v by omega])
 have hsz:(⟨((List.range n).map fun i=>UInt8.ofNat (q i)).toArray⟩:ByteArray).size=n:=by
  rw [← aM];simp
 refine ⟨⟨((List.range n).map fun i=>UInt8.ofNat (q i)).toArray⟩,?_,hsz,by omega,by omega,fun h=>by cases h⟩;by_cases h0:n=0
 ·exact .inl (by rw [hsz];exact h0)
 obtain ⟨b,off,spot⟩:=x;have hspot:spot=none:=by simpa [Addr.add] using World.cell?_spot (hq 0 (by omega)).1
 subst hspot;refine .inr ⟨b,off,rfl,fun j hj=>?_⟩;have hjn:j<n:=by rw [hsz] at hj;exact hj
 have:=(hq j hjn).1;have hv:((⟨((List.range n).map fun i=>UInt8.ofNat (q i)).toArray⟩:ByteArray)[j]).toNat=q j:=by
  have e:=Qw _ j hj;rw [show (⟨((List.range n).map fun i=>UInt8.ofNat (q i)).toArray⟩:ByteArray).data.toList=(List.range n).map fun i=>UInt8.ofNat (q i) from rfl,List.getElem?_map,List.getElem?_range hjn] at e;have e2:=Option.some.inj e;rw [← e2];have:=(hq j hjn).2;show (UInt8.ofNat (q j)).toNat=q j;rw [UInt8.toNat_ofNat'];omega
 rw [hv];unfold Addr.add at this;by_cases h1:j=0
 ·subst h1;simpa using this
 simpa [h1] using this
end
namespace un
theorem nK:∀ (l:List UInt8),Op.bytesLess l l=false
 | []=>rfl
 | a :: x=>by rw [Op.bytesLess,nK x];simp
theorem BU {a b:UInt8} : (a<b)=(a.toNat<b.toNat):=rfl
theorem Cb {a b:UInt8} : (a=b)=(a.toNat=b.toNat):=propext ⟨fun h=>by rw [h],fun h=>UInt8.toNat_inj.1 h⟩
theorem jS (a b:UInt8) (x y:List UInt8):Op.bytesLess (a :: x) (b :: y)=true↔a.toNat<b.toNat∨(a.toNat=b.toNat∧Op.bytesLess x y=true):=by
 rw [Op.bytesLess,Bool.or_eq_true,Bool.and_eq_true,decide_eq_true_eq,beq_iff_eq,BU,Cb]
theorem pX:∀ (x y z:List UInt8),Op.bytesLess x y=true→Op.bytesLess y z=true→Op.bytesLess x z=true
 | [],[],z,h,_=>by cases h
 | [],b :: y,[],_,h=>by cases h
 | [],b :: y,c :: z,_,_=>rfl
 | a :: x,[],z,h,_=>by cases h
 | a :: x,b :: y,[],_,h=>by cases h
 | a :: x,b :: y,c :: z,h1,h2=>by
  rw [jS] at *
  rcases h1 with h1 | ⟨h1,h1'⟩ <;> rcases h2 with h2 | ⟨h2,h2'⟩
  ·omega
  ·omega
  ·omega
  ·exact .inr ⟨by omega,pX x y z h1' h2'⟩
theorem kV:∀ (x y:List UInt8),Op.bytesLess x y=false→x≠y→Op.bytesLess y x=true
 | [],[],_,h=>absurd rfl h
 | [],b :: y,h,_=>by cases h
 | a :: x,[],_,_=>rfl
 | a :: x,b :: y,h,hne=>by
  have h':¬ Op.bytesLess (a :: x) (b :: y)=true:=by rw [h];decide
  rw [jS] at h' ⊢
  by_cases e:a.toNat=b.toNat
  ·refine .inr ⟨e.symm,kV x y ?_ ?_⟩
   ·cases hx:Op.bytesLess x y
    ·rfl
    ·exact absurd (.inr ⟨e,hx⟩) h'
   ·intro hxy
    apply hne
    rw [hxy,UInt8.toNat_inj.1 e]
  ·exact .inl (by omega)
theorem toList_inj {a b:ByteArray} (h:a.toList=b.toList):a=b:=by
 rw [ByteArray.toList_eq,ByteArray.toList_eq] at h;cases a;cases b;simp only at h;rw [Array.toList_inj.1 h]
def ltS (a b:ByteArray):Bool:=Op.bytesLess a.toList b.toList
theorem ku (a:ByteArray):ltS a a=false:=nK _
theorem sD {a b c:ByteArray} (h1:ltS a b=true) (h2:ltS b c=true):ltS a c=true:=pX _ _ _ h1 h2
theorem uF {a b:ByteArray} (h1:ltS a b=false) (h2:a≠b):ltS b a=true:=kV _ _ h1 fun e=>h2 (toList_inj e)
theorem Fp {a b:ByteArray} (h:ltS a b=true):ltS b a=false:=by
 cases h':ltS b a
 ·rfl
 have:=sD h h';rw [ku] at this;cases this
theorem Fj {a b:ByteArray} (h:ltS a b=true):a≠b:=fun e=>by rw [e,ku] at h;cases h
abbrev Fa:=ByteArray × Int
def iU (c:Int):Bool:=decide (97≤c∧c≤122)
def nS (c:Int):Bool:=decide (48≤c∧c≤57)
def wch (c:UInt8):Bool:=iU c.toNat || (nS c.toNat || c.toNat==95)
def vY (l:List UInt8):Bool:=decide (1≤l.length∧l.length≤24) && (iU (l.headD 0).toNat && l.all wch)
def word (s:ByteArray):Bool:=vY s.data.toList
def far (n:Int):Bool:=decide (8<n∨n < -8)
def ck1 (b:ByteArray) (x:Fa):Int:=if word x.1=false then 1 else if x.2=0∨far x.2=true then 70 else if ltS b x.1=true then 0 else 3
def jU (b:ByteArray):List Fa→Int
 | []=>0
 | x :: l=>if ck1 b x=0 then jU x.1 l else ck1 b x
def ck (l:List Fa):Int:=if 4<l.length then 2 else jU .empty l
def Srt (l:List Fa):Prop:=l.Pairwise fun x y=>ltS x.1 y.1=true
theorem Dt {s:ByteArray} (h:word s=true):1≤s.size∧s.size≤24:=by
 unfold word vY at h;simp only [Bool.and_eq_true,decide_eq_true_eq] at h;rw [Lib.size_eq];exact h.1
def ex:List Fa→ByteArray→Int
 | [],_=>0
 | x :: l,n=>(if x.1=n then x.2 else 0)+ex l n
theorem lK:∀ (l r:List Fa) (n:ByteArray),ex (l++r) n=ex l n+ex r n
 | [],r,n=>by simp [ex]
 | x :: l,r,n=>by simp only [List.cons_append,ex,lK l r n];omega
theorem Bq:∀ (l:List Fa) (n:ByteArray),(∀ x ∈ l,x.1≠n)→ex l n=0
 | [],_,_=>rfl
 | x :: l,n,h=>by
  simp only [ex]
  rw [if_neg (h x (List.mem_cons_self ..)),Bq l n fun y hy=>h y (List.mem_cons_of_mem _ hy)]
  rfl
theorem sU {l:List Fa} {n:ByteArray} (h:ex l n≠0):∃ x ∈ l,x.1=n:=by
 by_cases hx:∃ x ∈ l,x.1=n
 ·exact hx
 exact absurd (Bq l n fun x hm e=>hx ⟨x,hm,e⟩) h
def ins (x:ByteArray):List ByteArray→List ByteArray
 | []=>[x]
 | y :: l=>if ltS y x=true then y :: ins x l else if y=x then y :: l else x :: y :: l
def ns (l:List Fa):List ByteArray:=l.foldl (fun o x=>ins x.1 o) []
theorem uE (x z:ByteArray):∀ l:List ByteArray,z ∈ ins x l↔z=x∨z ∈ l
 | []=>by simp [ins]
 | y :: l=>by
  unfold ins
  split
  ·rw [List.mem_cons,uE x z l,List.mem_cons]
   constructor <;> rintro (h | h | h) <;> simp_all
  ·split
   ·rename_i h
    subst h
    simp
   ·simp
def Inc (l:List ByteArray):Prop:=l.Pairwise fun a b=>ltS a b=true
theorem Bc (x:ByteArray):∀ l:List ByteArray,Inc l→Inc (ins x l)
 | [],_=>by simp [ins,Inc]
 | y :: l,h=>by
  obtain ⟨p1,p2⟩:=List.pairwise_cons.1 h
  unfold ins
  split
  ·rename_i hy
   refine List.pairwise_cons.2 ⟨fun z hz=>?_,Bc x l p2⟩
   rcases (uE x z l).1 hz with rfl | hz
   ·exact hy
   ·exact p1 z hz
  ·rename_i hy
   split
   ·exact h
   ·rename_i hne
    have hxy:ltS x y=true:=uF (by simpa using hy) hne
    refine List.pairwise_cons.2 ⟨fun z hz=>?_,h⟩
    rcases List.mem_cons.1 hz with rfl | hz
    ·exact hxy
    ·exact sD hxy (p1 z hz)
theorem Aw (l:List Fa) (x:Fa):ns (l++[x])=ins x.1 (ns l):=by unfold ns;rw [List.foldl_append];rfl
theorem vH (z:ByteArray):∀ (l:List Fa) (o:List ByteArray),z ∈ l.foldl (fun o x=>ins x.1 o) o↔z ∈ o∨∃ x ∈ l,x.1=z
 | [],_=>by simp
 | x :: l,o=>by
  rw [List.foldl_cons,vH z l,uE]
  constructor
  ·rintro ((h | h) | ⟨y,h1,h2⟩)
   ·exact .inr ⟨x,List.mem_cons_self ..,h.symm⟩
   ·exact .inl h
   ·exact .inr ⟨y,List.mem_cons_of_mem _ h1,h2⟩
  ·rintro (h | ⟨y,h1,h2⟩)
   ·exact .inl (.inr h)
   ·rcases List.mem_cons.1 h1 with rfl | h1
    ·exact .inl (.inl h2.symm)
    ·exact .inr ⟨y,h1,h2⟩
theorem Fh {z:ByteArray} {l:List Fa} : z ∈ ns l↔∃ x ∈ l,x.1=z:=by
 unfold ns;rw [vH];simp
theorem vJ:∀ (l:List Fa) (o:List ByteArray),Inc o→Inc (l.foldl (fun o x=>ins x.1 o) o)
 | [],_,h=>h
 | x :: l,o,h=>vJ l _ (Bc x.1 o h)
theorem OD (l:List Fa):Inc (ns l):=vJ l [] .nil
def iT (l:List Fa) (o:List ByteArray):List Fa:=(o.filter fun n=>decide (ex l n≠0)).map fun n=>(n,ex l n)
def nz (l:List Fa):List Fa:=iT l (ns l)
theorem mJ {l:List Fa} {x:Fa} : x ∈ nz l↔x.2=ex l x.1∧x.2≠0:=by
 unfold nz iT;simp only [List.mem_map,List.mem_filter,decide_eq_true_eq];constructor
 ·rintro ⟨n,⟨_,h⟩,rfl⟩;exact ⟨rfl,h⟩
 rintro ⟨h1,h2⟩;exact ⟨x.1,⟨Fh.2 (sU (h1 ▸ h2)),h1 ▸ h2⟩,by rw [← h1]⟩
theorem DZ (l:List Fa):Srt (nz l):=by
 unfold nz iT Srt;rw [List.pairwise_map];exact ((OD l).sublist List.filter_sublist).imp fun h=>h
theorem Ab:∀ {l r:List Fa},Srt l→Srt r→(∀ x,x ∈ l↔x ∈ r)→l=r
 | [],[],_,_,_=>rfl
 | [],y :: r,_,_,h=>absurd ((h y).2 (List.mem_cons_self ..)) (by simp)
 | x :: l,[],_,_,h=>absurd ((h x).1 (List.mem_cons_self ..)) (by simp)
 | x :: l,y :: r,hl,hr,h=>by
  obtain ⟨p1,p2⟩:=List.pairwise_cons.1 hl
  obtain ⟨q1,q2⟩:=List.pairwise_cons.1 hr
  have exy:x=y:=by
   rcases List.mem_cons.1 ((h x).1 (List.mem_cons_self ..)) with e | hx
   ·exact e
   ·rcases List.mem_cons.1 ((h y).2 (List.mem_cons_self ..)) with e | hy
    ·exact e.symm
    ·have a1:=q1 x hx
     have a2:=p1 y hy
     rw [Fp a1] at a2
     cases a2
  subst exy
  congr 1
  refine Ab p2 q2 fun z=>?_
  constructor
  ·intro hz
   rcases List.mem_cons.1 ((h z).1 (List.mem_cons_of_mem _ hz)) with rfl | h'
   ·have:=p1 z hz;rw [ku] at this;cases this
   ·exact h'
  ·intro hz
   rcases List.mem_cons.1 ((h z).2 (List.mem_cons_of_mem _ hz)) with rfl | h'
   ·have:=q1 z hz;rw [ku] at this;cases this
   ·exact h'
def wds (l:List Fa):Bool:=l.all fun x=>word x.1
def iP (l:List Fa):Bool:=(ns l).any fun n=>far (ex l n)
def nE (l:List Fa):Int:=if wds l=true then (if iP l=true then 70 else if 4<(nz l).length then 2 else 0) else 1
def nL (l:List Fa):List Fa:=if nE l=0 then nz l else []
theorem tK (l:List Fa):iP l=true↔∃ n,far (ex l n)=true:=by
 unfold iP;rw [List.any_eq_true];constructor
 ·rintro ⟨n,_,h⟩;exact ⟨n,h⟩
 rintro ⟨n,h⟩;refine ⟨n,Fh.2 (sU fun e=>?_),h⟩;rw [e] at h;cases h
theorem Lf {l:List Fa} (h:nE l=0):wds l=true∧iP l=false∧(nz l).length≤4:=by
 unfold nE at h;split at h
 ·split at h
  ·cases h
  split at h
  ·cases h
  refine ⟨by assumption,by simp_all,by omega⟩
 cases h
theorem Jw {l:List Fa} : wds l=true↔∀ x ∈ l,word x.1=true:=by unfold wds;rw [List.all_eq_true]
def sc (p:Int) (b:List Fa):List Fa:=b.map fun x=>(x.1,x.2 * p)
theorem BS (l r:List Fa):wds (l++r)=(wds l && wds r):=by unfold wds;rw [List.all_append]
def cE (p:Int) (a b:List Fa):Int:=if ck a=0 then (if ck b=0 then nE (a++sc p b) else ck b) else ck a
end un
section
open Go.RowKit dec
structure Hd where
 k:Int
 op:ByteArray
 nm:ByteArray
 tb:ByteArray
 vk:Int
 vn:Int
 vs:ByteArray
 un:List un.Fa
 pa:Int
 wk:Int
 ws:Int
inductive Fo where
 | nil
 | cons (h:Hd) (ar r:Fo)
def Fo.len:Fo→Nat
 | .nil=>0
 | .cons _ _ r=>r.len+1
structure Ex where
 h:Hd
 ar:Fo
structure Ty where
 k:Int
 un:List un.Fa
 of:ByteArray
structure Fi where
 nm:ByteArray
 ty:Ty
structure Tb where
 nm:ByteArray
 en:ByteArray
 fs:List Fi
 kp:Int
structure Fe where
 nm:ByteArray
 en:ByteArray
 ty:Ty
 bo:Ex
inductive Rs (α:Type) where
 | out
 | ok (v:α) (r:List Tk)
 | no (a c:Int) (r:List Tk)
def Rs.bind {α β:Type} (x:Rs α) (g:α→List Tk→Rs β):Rs β :=
 match x with
 | .out=>.out
 | .ok v r=>g v r
 | .no a c r=>.no a c r
def hd (l:List Tk):Tk:=l.headD ⟨6,.empty,0⟩
def wrg {α:Type} (l:List Tk):Rs α:=.no (hd l).a 90 l
def isT (s:ByteArray) (l:List Tk):Bool:=(decide ((hd l).k=1) || decide ((hd l).k=5)) && decide ((hd l).t=s)
def need (s:ByteArray) (l:List Tk):Rs Unit:=if isT s l=true then .ok () l.tail else wrg l
def tak (k:Int) (l:List Tk):Rs ByteArray:=if (hd l).k=k then .ok (hd l).t l.tail else wrg l
def nam (l:List Tk):Rs ByteArray:=if name (hd l).t=true then tak 1 l else wrg l
def nma (s:ByteArray) (l:List Tk):Rs ByteArray:=(need s l).bind fun _ r=>nam r
def int (l:List Tk):Rs Int:=(tak 2 l).bind fun s r=>.ok (jA s.data.toList) r
def iX (l:List Tk):Rs Int:=(tak 3 l).bind fun s r=>.ok (paX s.data.toList) r
def more {α:Type} (one:List Tk→Rs α) (s:ByteArray):Nat→List α→List Tk→Rs (List α)
 | 0,_,_=>.out
 | f+1,x,l=>if isT s l=true then (one l.tail).bind fun y r=>more one s f (x++[y]) r else .ok x l
def lst {α:Type} (one:List Tk→Rs α) (s:ByteArray) (l:List Tk):Rs (List α):=(one l).bind fun y r=>more one s (r.length+1) [y] r
def fac (l:List Tk):Rs un.Fa :=
 (nam l).bind fun n r=>if isT ⟨#[94]⟩ r=true then
  (if isT ⟨#[45]⟩ r.tail=true then (int r.tail.tail).bind fun x r=>.ok (n,IntKind.i64.wrap (-1 * min x 1099511627776)) r else (int r.tail).bind fun x r=>.ok (n,IntKind.i64.wrap (1 * min x 1099511627776)) r)
  else .ok (n,1) r
def uni (l:List Tk):Rs (List un.Fa) :=
 if isT ⟨#[91]⟩ l=true then (lst fac ⟨#[42]⟩ l.tail).bind fun u r=>(need ⟨#[93]⟩ r).bind fun _ r=>if un.nE u=0 then .ok (un.nL u) r else .no (hd l).a (un.nE u) r
 else .ok [] l
def typ (l:List Tk):Rs Ty :=
 if isT ⟨#[98,111,111,108]⟩ l=true then .ok ⟨1,[],.empty⟩ l.tail
 else if isT ⟨#[116,101,120,116]⟩ l=true then .ok ⟨4,[],.empty⟩ l.tail
 else if isT ⟨#[107,101,121]⟩ l=true then (nam l.tail).bind fun n r=>.ok ⟨5,[],n⟩ r
 else if isT ⟨#[105,110,116]⟩ l=true then (uni l.tail).bind fun u r=>.ok ⟨2,u,.empty⟩ r
 else if isT ⟨#[100,101,99]⟩ l=true then (uni l.tail).bind fun u r=>.ok ⟨3,u,.empty⟩ r
 else wrg l
def win (l:List Tk):Rs (Int × Int) :=
 if isT ⟨#[97,108,108]⟩ l=true then .ok (1,0) l.tail
 else if isT ⟨#[115,108,105,100,105,110,103]⟩ l=true then (int l.tail).bind fun n r=>.ok (2,n) r
 else if isT ⟨#[116,117,109,98,108,105,110,103]⟩ l=true then (int l.tail).bind fun n r=>.ok (3,n) r
 else if isT ⟨#[115,101,115,115,105,111,110]⟩ l=true then (int l.tail).bind fun n r=>.ok (4,n) r
 else wrg l
def agg (s:ByteArray):Bool:=[(⟨#[99,111,117,110,116]⟩:ByteArray),⟨#[115,117,109]⟩,⟨#[109,101,97,110]⟩,⟨#[109,105,110]⟩,⟨#[109,97,120]⟩,⟨#[102,105,114,115,116]⟩,⟨#[108,97,115,116]⟩,⟨#[100,105,115,116,105,110,99,116]⟩,⟨#[113,117,97,110,116,105,108,101]⟩,⟨#[100,101,99,97,121]⟩].any fun t=>decide (s=t)
def h0:Hd:=⟨0,.empty,.empty,.empty,0,0,.empty,[],0,0,0⟩
def aS (n:Int):Ex:=⟨{ h0 with k:=1,vk:=1,vn:=n },.nil⟩
def fP (op:ByteArray) (x:Ex):Ex:=⟨{ h0 with k:=6,op:=op },.cons x.h x.ar .nil⟩
def aT (op:ByteArray) (x y:Ex):Ex:=if op=⟨#[100,101,102,97,117,108,116]⟩ then ⟨{ h0 with k:=9 },.cons x.h x.ar (.cons y.h y.ar .nil)⟩ else ⟨{ h0 with k:=7,op:=op },.cons x.h x.ar (.cons y.h y.ar .nil)⟩
def ifE (x y z:Ex):Ex:=⟨{ h0 with k:=8 },.cons x.h x.ar (.cons y.h y.ar (.cons z.h z.ar .nil))⟩
def gP (vk vn:Int) (u:List un.Fa):Ex:=⟨{ h0 with k:=1,vk:=vk,vn:=vn,un:=u },.nil⟩
def Cg (s:ByteArray):Ex:=⟨{ h0 with k:=1,vk:=4,vs:=s },.nil⟩
def iW (n s:ByteArray):Ex:=⟨{ h0 with k:=1,nm:=n,vk:=5,vs:=s },.nil⟩
def nO (n:ByteArray):Ex:=⟨{ h0 with k:=2,nm:=n },.nil⟩
def jw (n:ByteArray):Ex:=⟨{ h0 with k:=3,nm:=n },.nil⟩
def CY (n:ByteArray) (x:Ex):Ex:=⟨{ h0 with k:=4,nm:=n },.cons x.h x.ar .nil⟩
def lu (op t:ByteArray) (p:Int) (w:Int × Int) (x y:Ex):Ex:=⟨{ h0 with k:=5,op:=op,tb:=t,pa:=p,wk:=w.1,ws:=w.2 },.cons x.h x.ar (.cons y.h y.ar .nil)⟩
def opr (n:Nat) (l:List Tk):ByteArray:=((opL n).find? fun s=>isT s l).getD .empty
def key (l:List Tk):Rs Ex :=
 (nma ⟨#[64]⟩ l).bind fun n r=>(tak 4 r).bind fun s r' => if ck ⟨5,0,s⟩=0 then .ok (iW n s) r' else .no (hd r).a 3 r'
inductive Md where
 | ex | op (least:Nat) | tl (least n:Nat) (x:Ex) | ng | pr | pa | ag | rf
def pz:Nat→Bool→Md→List Tk→Rs Ex
 | 0,_,_,_=>.out
 | f+1,i,.ex,l =>
  if isT ⟨#[105,102]⟩ l=true then
   (pz f i .ex l.tail).bind fun x r=>(need ⟨#[116,104,101,110]⟩ r).bind fun _ r=>(pz f i .ex r).bind fun y r=>(need ⟨#[101,108,115,101]⟩ r).bind fun _ r=>(pz f i .ex r).bind fun z r=>.ok (ifE x y z) r
  else pz f i (.op 0) l
 | f+1,i,.op least,l =>
  if least≤3∧isT ⟨#[110,111,116]⟩ l=true then (pz f i (.op 3) l.tail).bind fun x r=>pz f i (.tl least 3 (fP ⟨#[110,111,116]⟩ x)) r
  else (pz f i .ng l).bind fun x r=>pz f i (.tl least 6 x) r
 | f+1,i,.tl least n x,l =>
  if n≤least then .ok x l
  else if opr (n - 1) l=.empty then pz f i (.tl least (n - 1) x) l
  else (pz f i (.op n) l.tail).bind fun y r=>pz f i (.tl least (if n=4 then 3 else n) (aT (opr (n - 1) l) x y)) r
 | f+1,i,.ng,l=>if isT ⟨#[45]⟩ l=true then (pz f i .ng l.tail).bind fun x r=>.ok (fP ⟨#[45]⟩ x) r else pz f i .pr l
 | f+1,i,.pa,l=>(need ⟨#[40]⟩ l).bind fun _ r=>(pz f i .ex r).bind fun x r=>(need ⟨#[41]⟩ r).bind fun _ r=>.ok x r
 | f+1,i,.rf,l=>(nam l).bind fun n r=>if isT ⟨#[111,102]⟩ r=true then (pz f i .pa r.tail).bind fun x r=>.ok (CY n x) r else .ok (jw n) r
 | f+1,_,.ag,l =>
  (tak 1 l).bind fun op r=>(need ⟨#[40]⟩ r).bind fun _ r=>(nam r).bind fun t r=>(need ⟨#[44]⟩ r).bind fun _ r =>
  (if op=⟨#[99,111,117,110,116]⟩ then .ok (aS 1) r else (pz f true .ex r).bind fun x r=>(need ⟨#[44]⟩ r).bind fun _ r=>.ok x r).bind fun x r =>
  (if op=⟨#[113,117,97,110,116,105,108,101]⟩∨op=⟨#[100,101,99,97,121]⟩ then (int r).bind fun n r=>(need ⟨#[44]⟩ r).bind fun _ r=>.ok n r else .ok 0 r).bind fun p r =>
  (win r).bind fun w r=>(if isT ⟨#[119,104,101,114,101]⟩ r=true then pz f true .ex r.tail else .ok (aS 1) r).bind fun y r=>(need ⟨#[41]⟩ r).bind fun _ r=>.ok (lu op t p w x y) r
 | f+1,i,.pr,l =>
  if (hd l).k=2 then (int l).bind fun n r=>(uni r).bind fun u r=>.ok (gP 2 n u) r
  else if (hd l).k=3 then (iX l).bind fun n r=>(uni r).bind fun u r=>.ok (gP 3 n u) r
  else if (hd l).k=4 then (tak 4 l).bind fun s r=>.ok (Cg s) r
  else if isT ⟨#[116,114,117,101]⟩ l=true then .ok (aS 1) l.tail
  else if isT ⟨#[102,97,108,115,101]⟩ l=true then .ok (aS 0) l.tail
  else if isT ⟨#[64]⟩ l=true then key l
  else if isT ⟨#[110,117,108,108]⟩ l=true then (pz f i .pa l.tail).bind fun x r=>.ok (fP ⟨#[110,117,108,108]⟩ x) r
  else if isT ⟨#[40]⟩ l=true then pz f i .pa l
  else if i=true then (nam l).bind fun n r=>.ok (nO n) r
  else if agg (hd l).t=true then pz f i .ag l
  else pz f i .rf l
end
namespace un
open Go.RowKit dec
structure Bw (w:World) (b:Nat) (x:Fa):Prop where
 c0:w.cell? ⟨b,0,none⟩=some (.string x.1)
 c1:w.cell? ⟨b,1,none⟩=some (.int .i64 x.2)
theorem Bw.lt {w:World} {b:Nat} {x:Fa} (h:Bw w b x):b<w.heap.size:=block_lt_of_cell h.c0
theorem Bw.new (w:World) (x:Fa) (T:TypeId):Bw (w.alloc (.cells #[.string x.1,.int .i64 x.2] T)) w.heap.size x:=⟨by simp [go_sem],by simp [go_sem]⟩
theorem Bw.oU {w w1:World} {B b:Nat} {x:Fa} (h:Bw w b x) (hb:Below B w w1) (hl:b<B):Bw w1 b x :=
 ⟨(hb.cell hl).trans h.c0,(hb.cell hl).trans h.c1⟩
theorem Bw.keeps {w w1:World} {b:Nat} {x:Fa} (h:Bw w b x) (hb:Below w.heap.size w w1):Bw w1 b x:=h.oU hb h.lt
theorem Bw.past {w:World} {b:Nat} {x:Fa} (h:Bw w b x) (o:Obj):Bw (w.alloc o) b x:=h.keeps (aj (b0 w) o)
theorem iA {w w':World} (h:∃ p:Regrown,w'=Sort.grow (redrawn w p.d) p.os):Below w.heap.size w w':=by
 obtain ⟨p,rfl⟩:=h;exact below_regrown w p.d p.os
theorem bB {a b:Bool} (h:a=b):Ending.returned (Value.bool a)=.returned (.bool b):=by rw [h]
theorem dX {k:IntKind} {a b:Int} (h:a=b):Ending.returned (.int k a)=.returned (.int k b):=by rw [h]
def cs:List Fa→List Value
 | []=>[]
 | x :: l=>.string x.1 :: .int .i64 x.2 :: cs l
theorem dU:∀ l:List Fa,(cs l).length=l.length * 2
 | []=>rfl
 | x :: l=>by simp only [cs,List.length_cons,dU l];omega
theorem dV:∀ l r:List Fa,cs (l++r)=cs l++cs r
 | [],_=>rfl
 | x :: l,r=>by simp only [cs,List.cons_append,dV l r]
theorem iq:∀ l:List Fa,∀ u ∈ cs l,u.oneCell'=true
 | [],u,h=>by simp [cs] at h
 | x :: l,u,h=>by
  simp only [cs,List.mem_cons] at h
  rcases h with rfl | rfl | h
  ·rfl
  ·rfl
  ·exact iq l u h
def gt (l:List Fa) (j:Nat):Fa:=l.getD j (.empty,0)
theorem oW {l:List Fa} {j:Nat} (h:j<l.length):gt l j ∈ l:=by
 unfold gt;rw [List.getD_eq_getElem?_getD,List.getElem?_eq_getElem h];exact List.getElem_mem h
theorem eF {l:List Fa} {j:Nat} (h:j<l.length):gt l j=l[j]:=by
 unfold gt;rw [List.getD_eq_getElem?_getD,List.getElem?_eq_getElem h];rfl
theorem iR:∀ (l:List Fa) (j:Nat),j<l.length→(cs l)[j * 2]? = some (.string (gt l j).1)∧(cs l)[j * 2+1]? = some (.int .i64 (gt l j).2)
 | [],j,h=>by simp at h
 | x :: l,0,_=>⟨rfl,rfl⟩
 | x :: l,j+1,h=>by
  have:=iR l j (by simpa using h)
  rw [show (j+1) * 2=j * 2+1+1 by omega]
  simp only [cs,sz4]
  exact this
theorem qh {l:List Fa} {j:Nat} (h:j<l.length):l.drop j=gt l j :: l.drop (j+1):=by
 rw [eF h];exact List.drop_eq_getElem_cons h
theorem iY {l:List Fa} {j:Nat} (h:j<l.length):l.take (j+1)=l.take j++[gt l j]:=by
 rw [eF h,List.take_add_one,List.getElem?_eq_getElem h];rfl
def Cl (w:World) (b off:Nat) (l:List Fa):Prop:=∀ j,j<l.length→w.cell? ⟨b,off+j * 2,none⟩=some (.string (gt l j).1)∧w.cell? ⟨b,off+j * 2+1,none⟩=some (.int .i64 (gt l j).2)
theorem Cl.keeps {w w1:World} {b off:Nat} {l:List Fa} (h:Cl w b off l) (hb:Below w.heap.size w w1):Cl w1 b off l:=fun j hj=>⟨dec.keeps hb (h j hj).1,dec.keeps hb (h j hj).2⟩
def At (w:World) (a:Option Addr) (l:List Fa):Prop:=l.length=0∨∃ b off,a=some ⟨b,off,none⟩∧Cl w b off l
theorem At.keeps {w w1:World} {a:Option Addr} {l:List Fa} (h:At w a l) (hb:Below w.heap.size w w1):At w1 a l:=h.imp id fun ⟨b,off,e,hB⟩=>⟨b,off,e,hB.keeps hb⟩
structure Sl (w:World) (a:Option Addr) (n cap:Nat) (l:List Fa):Prop where
 hat:At w a l
 hn:l.length=n
 hcap:n≤cap
 hmax:cap≤9223372036854775807
 hno:a=none→cap=0
theorem Sl.keeps {w w1:World} {a:Option Addr} {n cap:Nat} {l:List Fa} (h:Sl w a n cap l) (hb:Below w.heap.size w w1):Sl w1 a n cap l:={ h with hat:=h.hat.keeps hb }
theorem Sl.nil (w:World):Sl w none 0 0 []:=⟨.inl rfl,rfl,by omega,by omega,fun _=>rfl⟩
theorem Cl.cut {w:World} {b off:Nat} {l:List Fa} (h:Cl w b off l) (k m:Nat):Cl w b (off+k * 2) ((l.drop k).take m):=by
 intro j hj;have hlen:((l.drop k).take m).length=min m (l.length - k):=by simp
 have:=h (k+j) (by omega);have e:gt ((l.drop k).take m) j=gt l (k+j):=by
  rw [eF hj,eF (by omega)];simp
 rw [e,show off+k * 2+j * 2=off+(k+j) * 2 by omega];exact this
theorem Cl.take {w:World} {b off:Nat} {l:List Fa} (h:Cl w b off l) (m:Nat):Cl w b off (l.take m):=by
 have:=h.cut 0 m;simpa using this
theorem lJ:(Tryz.prog.info? 55).map (fun i=>(i.zero,i.size,i.bytes))=some (some (.agg #[.string .empty,.int .i64 0]),2,24):=by kernel_rfl
def Own (w:World) (base:Nat) (v:Value) (l:List Fa):Prop:=w.ownsRow base 55 2 v l.length (cs l)
theorem Own.nil (w:World) (base:Nat):Own w base (.slice none 0 0) []:=World.ownsRow_nil _ _ _ _
theorem Own.less {w:World} {base base':Nat} {v:Value} {l:List Fa} (h:Own w base v l) (hb:base'≤base):Own w base' v l:=by
 refine ⟨h.1,h.2.imp id fun ⟨g,cap,cur,e,hbg,r⟩=>⟨g,cap,cur,e,by omega,r⟩⟩
theorem Own.o {w:World} {base:Nat} {v:Value} {l:List Fa} (h:Own w base v l):(v=.slice none 0 0∧l=[])∨∃ g cap,v=.slice (some ⟨g,0,none⟩) l.length cap∧base≤g∧g<w.heap.size∧l.length≤cap∧cap≤9223372036854775807∧Cl w g 0 l∧∀ j,j<l.length→w.frozen? ⟨g,j * 2,none⟩=false∧w.frozen? ⟨g,j * 2+1,none⟩=false:=by
 rcases h.2 with ⟨h0,h1⟩ | ⟨g,cap,cur,rfl,hb,hg,hc,hm,hs,ht⟩
 ·exact .inl ⟨h0,List.eq_nil_of_length_eq_zero h1⟩
 refine .inr ⟨g,cap,rfl,hb,(h.lt g rfl).2,hc,by unfold maxLen at hm;omega,fun j hj=>?_,fun j _=>⟨h.frozenAt _,h.frozenAt _⟩⟩;rw [Nat.zero_add,h.cellAt (j * 2) (by omega),h.cellAt (j * 2+1) (by omega)];exact iR l j hj
theorem Own.sl {w:World} {base:Nat} {v:Value} {l:List Fa} (h:Own w base v l):∃ a cap,v=.slice a l.length cap∧Sl w a l.length cap l:=by
 rcases h.o with ⟨rfl,rfl⟩ | ⟨g,cap,rfl,_,_,hc,hm,hW,_⟩
 ·exact ⟨none,0,rfl,.nil _⟩
 exact ⟨_,cap,rfl,.inr ⟨g,0,rfl,hW⟩,rfl,hc,hm,fun h=>by cases h⟩
theorem Own.keeps {w w1:World} {base:Nat} {v:Value} {l:List Fa} (h:Own w base v l) (hb:Below w.heap.size w w1):Own w1 base v l:=by
 obtain ⟨h1,h2⟩:=h;refine ⟨h1,?_⟩;rcases h2 with h0 | ⟨g,cap,cur,e,hbg,hh,r⟩
 ·exact .inl h0
 refine .inr ⟨g,cap,cur,e,hbg,?_,r⟩;have:g<w.heap.size:=by
  rcases Nat.lt_or_ge g w.heap.size with h' | h'
  ·exact h'
  rw [Array.getElem?_eq_none h'] at hh;cases hh
 rw [hb.block _ this];exact hh
theorem own_below {w w':World} {base:Nat} {v:Value} {l:List Fa} (h:Own w base v l) (hg:w.grownBy w' v.ownBlock) (hb:base≤w.heap.size):Below base w w' :=
 (Below.refl base w).grown hg hb fun k hk=>(h.lt k hk).1
theorem lW (w:World) {o:Oper} {a:Act} {K:Act→World→Prop} {Q:Exit→Act→World→Prop} (s x:Operand)
    (ho:o.op=.call { callee:=.builtin .append,args:=#[s,x],argTypes:=#[38,38] })
    (base:Nat) (v:Value) (l:List Fa) (hs:a.eval s=v) (hown:Own w base v l) (b:Nat) (p:ByteArray) (q:Int) (hx:a.eval x=.slice (some ⟨b,0,none⟩) 1 1) (hB:Bw w b (p,q))
    (hn:l.length<5864062014805) (hbase:base≤w.heap.size)
    (h:∀ v' w',Own w' base v' (l++[(p,q)])→Below base w w'→K (a.put o.dst v') w'):o.wp Tryz.prog a w K Q:=by
 obtain ⟨i,hi,hz0,hz1,hz2⟩:=info_parts lJ
 refine wp_append_own w s x 38 ho base 55 i (.agg #[.string .empty,.int .i64 0]) 2 24 Tryz.underlying38 hi hz0 hz1 hz2 rfl (by decide) v l.length (cs l) hs hown ⟨b,0,none⟩ 1 1 (cs [(p,q)]) hx rfl ?_ (iq _)
   (by unfold maxLen;omega) (by omega) hbase fun v' w' h1 h2 _=>h v' w' (by unfold Own;rw [dV,List.length_append];exact h1) (own_below hown h2 hbase)
 intro j u hu;unfold Addr.add
 match j,hu with
 | 0,hu=>simp [cs] at hu;subst hu;exact hB.c0
 | 1,hu=>simp [cs] at hu;subst hu;exact hB.c1
 | j+2,hu=>simp [cs] at hu
theorem bL (w:World) {ops:Array Oper} {rest:List Oper} {o:Oper} {a:Act} {Q:Exit→Act→World→Prop} (hgd:o.guard=none) (s x:Operand)
  (ho:o.op=.call { callee:=.builtin .append,args:=#[s,x],argTypes:=#[38,38] })
  (base:Nat) (v:Value) (l:List Fa) (hs:a.eval s=v) (hown:Own w base v l) (b:Nat) (p:ByteArray) (q:Int) (hx:a.eval x=.slice (some ⟨b,0,none⟩) 1 1) (hB:Bw w b (p,q))
  (hn:l.length<5864062014805) (hbase:base≤w.heap.size)
  (h:∀ v' w',Own w' base v' (l++[(p,q)])→Below base w w'→wpList Tryz.prog ops Q rest (a.put o.dst v') w'):wpList Tryz.prog ops Q (o :: rest) a w :=
 wpList_plain hgd fun _ hK=>lW w s x ho base v l hs hown b p q hx hB hn hbase fun v' w' h1 h2=>hK _ _ (h v' w' h1 h2)
theorem dD {w:World} {ops:Array Oper} {rest:List Oper} {o:Oper} {a:Act} {Q:Exit→Act→World→Prop} (s x:Operand) (_:o.op=.call { callee:=.builtin .append,args:=#[s,x],argTypes:=#[38,38] })
  (k:wpList Tryz.prog ops Q (o :: rest) a w):wpList Tryz.prog ops Q (o :: rest) a w:=k
end un
end Go.Proofs.YtbpijgddfaefkaaGreatDoor
