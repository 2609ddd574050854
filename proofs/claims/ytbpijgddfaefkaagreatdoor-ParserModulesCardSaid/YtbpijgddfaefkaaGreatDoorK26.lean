/-
  The reference's reader: integers, factors; Texts of units as plain data: printing, cutting, reading back; units.Same, slices.Equal, the reference's Same: whether two lists are equal; append of a whole slice; Clone; what combine returns, as cases; formatFactor and Format; strconv's two; what the listed variables hold; Slices of strings; the reference's names; The reference's names; The specification's digits in base 65536: lists of eight ints that stand for a number modulo 2^128; The specification's Digits, Make and carry.
-/
import Derived.Lib.Slices
import Derived.Test.YtbpijgddfaefkaaGreatDoorK25
set_option maxRecDepth 100000
set_option maxHeartbeats 16000000
namespace Go.Proofs.YtbpijgddfaefkaaGreatDoor
namespace rr
open Go.RowKit dec pa
def nst (n:Int) (c:UInt8):Int:=wrap64 (wrap64 (wrap64 (10 * n)+wrap64 (c.toNat:Int)) - 48)
def nsF (l:List UInt8):Int:=l.foldl nst 0
theorem KV {a:Nat} {c:UInt8} (hc:isD c=true) (ha:a * 10+(c.toNat - 48)≤1152921504606846976):nst (a:Int) c=((a * 10+(c.toNat - 48):Nat):Int):=by
 have:=(dZ c).1 hc;unfold nst wrap64;omega
theorem EN:∀ (l:List UInt8) (a:Nat),(∀ c ∈ l,isD c=true)→dval a l≤1152921504606846976→l.foldl nst (a:Int)=((dval a l:Nat):Int)
 | [],a,_,_=>rfl
 | c :: l,a,h,hv=>by
  rw [jc] at hv ⊢
  have hge:=qg l (a * 10+(c.toNat - 48))
  rw [List.foldl_cons,KV (h c (List.mem_cons_self ..)) (by omega)]
  exact EN l _ (fun d hd=>h d (List.mem_cons_of_mem _ hd)) hv
theorem KW (s:ByteArray) {j:Nat} (hj:j<s.size):nsF (s.data.toList.take (j+1))=nst (nsF (s.data.toList.take j)) s[j]:=by
 have hl:j<s.data.toList.length:=by rw [aM];exact hj
 unfold nsF;rw [List.take_add_one,List.getElem?_eq_getElem hl,List.foldl_append];rfl
theorem int_eq {l:List Tk} (hp:Prl l) (hl:Tl l):int l=(tkk 2 l).bind fun x r=>.ok (nsF x.t.data.toList) r:=by
 unfold int tak tkk;by_cases hk:(hd l).k=2
 ·rw [if_pos hk,if_pos hk,if_neg (by decide)];show Rs.ok _ _=Rs.ok _ _;have hx:=hp.hd hl;have hpr:pr (hd l)=true:=by
   rcases hx with ⟨h6,_⟩ | h
   ·omega
   exact h
  obtain ⟨h1,h2⟩:=(aR _).1 hpr;have e:so (hd l)=(hd l).t.data.toList:=by unfold so;rw [if_neg (by omega)]
  rw [e,hk] at h1 h2;obtain ⟨h3,h4⟩:=Aj h1;rw [uI] at h2;have h5:dval 0 (hd l).t.data.toList≤1152921504606846976:=by
   split at h2
   ·cases h2
   omega
  congr 1;unfold jA;rw [qB h3 h4,if_pos (by omega)];exact (EN _ 0 h4 h5).symm
 rw [if_neg hk,if_neg hk];rfl
theorem fK (B:Nat) (l:List Tk) (i:Bool) (a c:Int) (w:World) (h:Rp w B l i a c) :
    Calls Tryz.prog 86 #[.pointer (some ⟨B,0,none⟩)] w (Qst B Iv (int l) l i a c w):=by
 have P:=Hy h;have M:=Hy (Mx.refl w.heap.size B w);have IQ:=Hy (int_eq h.pl h.tl);have T0:=tf1;clear h
 go_enter Tryz.func86,Tryz.ntmps86
 go_wp2_with fail;refine (jN B l i a c 2 _ P.o).mono ?_;rintro e w1 ⟨u1,x1,l1,a1,c1,rfl,v1,pp,mm,af1⟩;have AF1:=Hy af1;clear af1;replace M:=Hy (M.o.nx mm);replace P:=Hy pp;clear pp mm;obtain ⟨rfl,zs1⟩:=v1;have ZS1:=Hy zs1;clear zs1;obtain ⟨s,hs⟩:∃ s,x1.t=s:=⟨_,rfl⟩;have HS:=Hy hs;rw [hs] at ZS1;go_wp2_with fail;clear hs
 go_loopw [4,5] (fun vn vi wr => ∃ (N:Int) (j:Nat),vn=.int .i64 N∧vi=.int .i64 (j:Nat)∧Hid (j≤s.size)∧Hid (N=nsF (s.data.toList.take j))∧wr=w1) (fun _ vi _=>s.size - (intOf vi).toNat)
 case atStart=>exact ⟨0,0,rfl,rfl,Hy zl,Hy rfl,rfl⟩
 case round =>
  obtain ⟨N,j,rfl,rfl,hj,hN,rfl⟩:=hrel;by_cases hc:j<s.size
  ·have q2:decide ((j:Int)<(s.size:Int))=true:=dT (by omega);have hn:=Hy (KW s hc);have f4:=Hy (aV (j:=j) (by have:=ZS1.o;omega));clear hj;go_wp2_with fail;exact ⟨⟨_,j+1,rfl,congrArg (Value.int .i64) f4.o,Hy hc,Hy (by rw [hn.o,← hN.o];rfl),trivial⟩,aU hc f4.o⟩
  have q2:decide ((j:Int)<(s.size:Int))=false:=dF (by omega);have hN2:=Hy (show N=nsF s.data.toList from by rw [hN.o,List.take_of_length_le (by rw [aM];omega)]);clear hj hN;go_wp2_with fail;go_ret;refine ⟨_,N,l1,a1,c1,rfl,rfl,P.o,M.o,?_⟩;rw [IQ.o,hN2.o,← HS.o];exact AF1.o.bind (.pure _ _ _ _)
theorem Oe {x:Int} (h : -9223372036854775808≤x∧x≤9223372036854775807):IntKind.i64.wrap (1 * min x 1099511627776)=min x 1099511627776:=by
 rw [IntKind.wrap_i64];omega
theorem Ll (x:Int):IntKind.i64.wrap (-1 * min x 1099511627776)=wrap64 (-(min x 1099511627776)):=by
 rw [IntKind.wrap_i64];unfold wrap64;omega
theorem Oz {l r:List Tk} {v:Int} (h:int l=.ok v r) : -9223372036854775808≤v∧v≤9223372036854775807:=by
 obtain ⟨_,q',h3,h4⟩:=bind_ok h;cases h4;exact y7 _
theorem LY {l l':List Tk} {a c a' c':Int} {x:Int} (h:Aft (int l) l a c x l' a' c') (hc:c'=0) : -9223372036854775808≤x∧x≤9223372036854775807:=by
 subst hc;exact Oz (h.fine (int_ne _)).2.1
theorem yO (B:Nat) (l:List Tk) (i:Bool) (a c:Int) (w:World) (h:Rp w B l i a c) :
    Calls Tryz.prog 151 #[.pointer (some ⟨B,0,none⟩)] w (Qst B Fv (fac l) l i a c w):=by
 have gB:=Hy h.lt;have bb:=aj (b0 w) (.cells #[.string ⟨#[]⟩,.int .i64 0] 55);have P:=Hy (h.keeps bb);have M:=Hy (Mx.of (B:=B) bb);have L2:=Hy (Blk.new w 55 #[.string ⟨#[]⟩,.int .i64 0]);clear h bb
 go_enter Tryz.func151,Tryz.ntmps151
 go_wp2_with fail;refine (gF B l i a c _ P.o).mono ?_;rintro e w1 ⟨u1,x1,l1,a1,c1,rfl,v1,pp,mm,af1⟩;have AF1:=Hy af1;clear af1;replace L2:=bk1 L2 mm gB;replace M:=Hy (M.o.nx mm);replace P:=Hy pp;clear pp mm;obtain rfl:u1=.string x1:=v1;go_wp2_with (refine aA cK (.tmp 3) (.tmp 7) rfl rfl _ _ _ _ rfl rfl (Blk.new _ _ _) rfl rfl (by simp [Value.oneCell']) ?_;intro w2 L hs;have bb:=(aj (b0 w1) _).trans (hs.below lr);have gB3:=Hy P.o.lt;have hw3:=Hy (show w.heap.size<w1.heap.size from L2.o.lt);have L3:=Hy L;replace L2:=Hy (L2.o.below bb L2.o.lt);replace P:=Hy (P.o.keeps bb);replace M:=Hy (M.o.nx (.of bb));clear bb hs L);cases hf3:fnd ⟨#[94]⟩ l1 c1
 ·have HF3:=Hy (bS hf3);refine (bD B l1 i a1 c1 5 ⟨#[94]⟩ pw0 (by decide) _ P.o hf3).mono ?_;rintro e w3 ⟨rfl,pp,mm⟩;clear hf3;replace L2:=bk1 L2 mm gB;replace L3:=bk1 L3 mm gB3;replace M:=Hy (M.o.nx mm);replace P:=Hy pp;clear pp mm;go_wp2_with (first | (refine aH cK Tryz.underlying55 rfl (.tmp 3) rfl rfl _ _ _ rfl L3.o rfl ?_) | (refine aA cK (.tmp 2) (.tmp 21) rfl rfl _ _ _ _ rfl rfl L2.o rfl rfl (by simp [Value.oneCell']) ?_;intro w9 hb9 hs9));refine bO cK Tryz.underlying55 rfl rfl _ _ _ _ _ rfl hb9 rfl ?_;exact ⟨_,(x1,1),l1,a1,c1,rfl,rfl,P.o.st hs9 gB.o,M.o.trans (.st hs9 (.inr lr)),AF1.o.bind (.nay HF3.o (.pure _ _ _ _))⟩
 have HF3:=Hy (bg hf3);refine (bC B l1 i a1 c1 5 ⟨#[94]⟩ pw0 (by decide) _ P.o hf3).mono ?_;rintro e w3 ⟨rfl,pp,mm⟩;clear hf3;replace L2:=bk1 L2 mm gB;replace L3:=bk1 L3 mm gB3;replace M:=Hy (M.o.nx mm);replace P:=Hy pp;clear pp mm;go_wp2_with fail;cases hf4:fnd ⟨#[45]⟩ l1.tail c1
 ·have HF4:=Hy (bS hf4);refine (bD B l1.tail i a1 c1 5 ⟨#[45]⟩ pw1 (by decide) _ P.o hf4).mono ?_;rintro e w4 ⟨rfl,pp,mm⟩;clear hf4;replace L2:=bk1 L2 mm gB;replace L3:=bk1 L3 mm gB3;replace M:=Hy (M.o.nx mm);replace P:=Hy pp;clear pp mm;go_wp2_with fail;refine (fK B l1.tail i a1 c1 _ P.o).mono ?_;rintro e w5 ⟨u5,x5,l5,a5,c5,rfl,v5,pp,mm,af5⟩;have AF5:=Hy af5;clear af5;replace L2:=bk1 L2 mm gB;replace L3:=bk1 L3 mm gB3;replace M:=Hy (M.o.nx mm);replace P:=Hy pp;clear pp mm;obtain rfl:u5=.int .i64 x5:=v5;have c1:=L3.o.cell 1;have z1:=L3.o.free 1;simp only [sz2,sz3,sz4] at c1;have hs1:=L3.o.setCell 1 (.int .i64 (min x5 1099511627776));replace P:=Hy (P.o.st hs1.2 gB3.o);replace M:=Hy (M.o.trans (.st hs1.2 (.inr (by have:=M.o.size;have:=hw3.o;omega))));replace L2:=Hy (L2.o.st hs1.2 (by have:=hw3.o;omega));replace L3:=Hy (show Blk _ w1.heap.size 55 #[.string x1,.int .i64 (min x5 1099511627776)] from hs1.1);clear hs1;go_wp2_with (first | (refine aH cK Tryz.underlying55 rfl (.tmp 3) rfl rfl _ _ _ rfl L3.o rfl ?_) | (refine aA cK (.tmp 2) (.tmp 21) rfl rfl _ _ _ _ rfl rfl L2.o rfl rfl (by simp [Value.oneCell']) ?_;intro w9 hb9 hs9));refine bO cK Tryz.underlying55 rfl rfl _ _ _ _ _ rfl hb9 rfl ?_;exact ⟨_,(x1,min x5 1099511627776),l5,a5,c5,rfl,rfl,P.o.st hs9 gB.o,M.o.trans (.st hs9 (.inr lr)),AF1.o.bind (.yes HF3.o.1 HF3.o.2 (.nay HF4.o (AF5.o.bind (.as fun hc=>by rw [Oe (LY AF5.o hc)]))))⟩
 have HF4:=Hy (bg hf4);refine (bC B l1.tail i a1 c1 5 ⟨#[45]⟩ pw1 (by decide) _ P.o hf4).mono ?_;rintro e w4 ⟨rfl,pp,mm⟩;clear hf4;replace L2:=bk1 L2 mm gB;replace L3:=bk1 L3 mm gB3;replace M:=Hy (M.o.nx mm);replace P:=Hy pp;clear pp mm;go_wp2_with fail;refine (fK B l1.tail.tail i a1 c1 _ P.o).mono ?_;rintro e w5 ⟨u5,x5,l5,a5,c5,rfl,v5,pp,mm,af5⟩;have AF5:=Hy af5;clear af5;replace L2:=bk1 L2 mm gB;replace L3:=bk1 L3 mm gB3;replace M:=Hy (M.o.nx mm);replace P:=Hy pp;clear pp mm;obtain rfl:u5=.int .i64 x5:=v5;have c1:=L3.o.cell 1;have z1:=L3.o.free 1;simp only [sz2,sz3,sz4] at c1;have hs1:=L3.o.setCell 1 (.int .i64 (min x5 1099511627776));replace P:=Hy (P.o.st hs1.2 gB3.o);replace M:=Hy (M.o.trans (.st hs1.2 (.inr (by have:=M.o.size;have:=hw3.o;omega))));replace L2:=Hy (L2.o.st hs1.2 (by have:=hw3.o;omega));have d1:=hs1.1.cell 1;have y1:=hs1.1.free 1;have hs2:=hs1.1.setCell 1 (.int .i64 (wrap64 (-(min x5 1099511627776))));replace P:=Hy (P.o.st hs2.2 gB3.o);replace M:=Hy (M.o.trans (.st hs2.2 (.inr (by have:=M.o.size;have:=hw3.o;omega))));replace L2:=Hy (L2.o.st hs2.2 (by have:=hw3.o;omega));replace L3:=Hy (show Blk _ w1.heap.size 55 #[.string x1,.int .i64 (wrap64 (-(min x5 1099511627776)))] from hs2.1);clear hs1 hs2;go_wp2_with (first | (refine aH cK Tryz.underlying55 rfl (.tmp 3) rfl rfl _ _ _ rfl L3.o rfl ?_) | (refine aA cK (.tmp 2) (.tmp 21) rfl rfl _ _ _ _ rfl rfl L2.o rfl rfl (by simp [Value.oneCell']) ?_;intro w9 hb9 hs9));refine bO cK Tryz.underlying55 rfl rfl _ _ _ _ _ rfl hb9 rfl ?_;exact ⟨_,(x1,wrap64 (-(min x5 1099511627776))),l5,a5,c5,rfl,rfl,P.o.st hs9 gB.o,M.o.trans (.st hs9 (.inr lr)),AF1.o.bind (.yes HF3.o.1 HF3.o.2 (.yes HF4.o.1 HF4.o.2 (AF5.o.bind (.as fun _=>by rw [Ll]))))⟩
end rr
namespace un
def jA (l:List UInt8):Int :=
 match Lib.atoiAll l with
 | .ok v=>v
 | Lib.NumEnd.syntax=>0
 | .range=>Lib.atoiSat l
def f1 (x:Fa):List UInt8:=if x.2=1 then x.1.data.toList else x.1.data.toList++94 :: Lib.itoa x.2
def fac (l:List UInt8):Fa:=if Lib.indexByte l 94 = -1 then (⟨l.toArray⟩,1) else (⟨(l.take (Lib.indexByte l 94).toNat).toArray⟩,jA (l.drop ((Lib.indexByte l 94).toNat+1)))
end un
namespace un
open Go.RowKit dec
theorem Dm (a b:ByteArray):(a.toList==b.toList)=decide (a=b):=by
 by_cases h:a=b
 ·rw [h];simp
 rw [dF h];exact bF fun e=>h (toList_inj e)
theorem iC (w:World) {ops:Array Oper} {rest:List Oper} {o:Oper} {a:Act} {Q:Exit→Act→World→Prop} (hgd:o.guard=none) (s x:Operand)
    (ho:o.op=.call { callee:=.builtin .append,args:=#[s,x],argTypes:=#[38,38] })
    (base:Nat) (v:Value) (l:List Fa) (hs:a.eval s=v) (hown:Own w base v l) (ad:Option Addr) (n cap:Nat) (l2:List Fa) (hx:a.eval x=.slice ad n cap) (hS:Sl w ad n cap l2)
    (hn:l.length+n<5864062014805) (hbase:base≤w.heap.size)
    (h:∀ v' w',Own w' base v' (l++l2)→Below base w w'→wpList Tryz.prog ops Q rest (a.put o.dst v') w'):wpList Tryz.prog ops Q (o :: rest) a w:=by
 refine wpList_plain hgd fun K hK=>?_;obtain ⟨i,hi,hz0,hz1,hz2⟩:=info_parts lJ;have hln:=hS.hn
 cases ad with
 | none =>
   have h0:=hS.hno rfl
   have h1:=hS.hcap
   have hn0:n=0:=by omega
   subst h0
   subst hn0
   have hl2:l2=[]:=List.eq_nil_of_length_eq_zero hln
   subst hl2
   have hrun:=run_append_owned_none (P:=Tryz.prog) (w:=w) base 38 o.type 55 i 2 Tryz.underlying38 hi v l.length (cs l) hown
   unfold Oper.wp
   simp only [execOp,ho,resolve,invoke,builtin,Sem.run_bind,Sem.run_pure,Result.andThen_ok,List.map_toArray,List.map_cons,List.map_nil,hs,hx,hrun]
   exact hK _ _ (h v w (by rw [List.append_nil];exact hown) (Below.refl _ _))
 | some ad =>
   refine wp_append_own w s x 38 ho base 55 i (.agg #[.string .empty,.int .i64 0]) 2 24 Tryz.underlying38 hi hz0 hz1 hz2 rfl (by decide) v l.length (cs l) hs hown ad n cap (cs l2) hx (by rw [dU,hln]) ?_ (iq _)
     (by unfold maxLen;omega) (by omega) hbase fun v' w' h1 h2 _=>?_
   · intro j u hu
     have hj:j<l2.length * 2:=by
       rcases Nat.lt_or_ge j (cs l2).length with h' | h'
       · rwa [dU] at h'
       · rw [List.getElem?_eq_none h'] at hu;cases hu
     rcases hS.hat with h0 | ⟨b,off,e,hC⟩
     · omega
     · cases e
       have hp:(⟨b,off,none⟩:Addr).add j=⟨b,off+j,none⟩:=by
         unfold Addr.add
         by_cases h:j=0 <;> simp [h]
       rw [hp]
       obtain ⟨c0,c1⟩:=hC (j / 2) (by omega)
       obtain ⟨e0,e1⟩:=iR l2 (j / 2) (by omega)
       rcases Nat.mod_two_eq_zero_or_one j with hm | hm
       · have ej:j / 2 * 2=j:=by omega
         rw [ej] at c0 e0
         rw [e0] at hu
         rw [c0,hu]
       · have ej:j / 2 * 2+1=j:=by omega
         rw [Nat.add_assoc,ej] at c1
         rw [ej] at e1
         rw [e1] at hu
         rw [c1,hu]
   · refine hK _ _ (h v' w' ?_ (own_below hown h2 hbase))
     unfold Own
     rw [dV,List.length_append,hln]
     exact h1
structure Tabs (w:World):Prop where
 ten:Lib.TabIs Tryz.prog w "internal/strconv.uint64pow10" .u64 Lib.pow10Tab
 syn:∃ tp p,w.var? Tryz.prog "strconv.ErrSyntax" = some #[.iface tp p]
 ran:∃ tp p,w.var? Tryz.prog "strconv.ErrRange" = some #[.iface tp p]
theorem Df:Tryz.prog.globalNamed "strconv.ErrSyntax" = some 6:=by kernel_rfl
theorem Dh:Tryz.prog.globalNamed "strconv.ErrRange" = some 7:=by kernel_rfl
theorem DL {W W':World} {nm:String} {q:IntKind} {tab:List Int} (h:Lib.TabIs Tryz.prog W nm q tab) (hb:Below W.heap.size W W'):Lib.TabIs Tryz.prog W' nm q tab:=by
 unfold Lib.TabIs at *
 cases hg:Tryz.prog.globalNamed nm with
 | none=>unfold World.var? at h;simp [hg] at h
 | some g=>exact Go.Joins.var_stays hg h hb lr
theorem Tabs.stays {w w':World} (h:Tabs w) (hb:Below w.heap.size w w'):Tabs w':=by
 obtain ⟨tp,p,h1⟩:=h.syn;obtain ⟨tq,q,h2⟩:=h.ran;exact ⟨DL h.ten hb,⟨tp,p,Go.Joins.var_stays Df h1 hb lr⟩,⟨tq,q,Go.Joins.var_stays Dh h2 hb lr⟩⟩
theorem gN (w:World) (e:TypeId) (s:ByteArray):Below w.heap.size w (Lib.bytesWorld w e s):=by
 refine ⟨rfl,rfl,rfl,?_,fun j hj=>Lib.bytesWorld_at_old w e s j hj⟩;rw [Lib.bytesWorld_size];omega
theorem y5 (s:ByteArray) (hs:s.size≤281474976710656) (w:World) (T:Tabs w) :
    Calls Tryz.prog 113 #[.string s] w fun e w' => ∃ x,e=.returned (.tuple #[.int .i64 (jA s.data.toList),x])∧Below w.heap.size w w':=by
 unfold jA;rcases h:Lib.atoiAll s.data.toList with v | _ | _
 ·refine (Tryz.strconv_Atoi_ok s (by omega) v h w).mono ?_;rintro e w' ⟨rfl,rfl | ⟨t,rfl⟩⟩
  ·exact ⟨_,rfl,b0 _⟩
  exact ⟨_,rfl,gN _ _ _⟩
 ·obtain ⟨tp,p,h1⟩:=T.syn;refine (Tryz.strconv_Atoi_syntax_var s (by omega) h tp p w h1).mono ?_;rintro e w' ⟨N,rfl,h2⟩;exact ⟨_,rfl,h2.2.2⟩
 obtain ⟨tp,p,h1⟩:=T.ran;refine (Tryz.strconv_Atoi_range_var s (by omega) h tp p w h1).mono ?_;rintro e w' ⟨N,rfl,h2⟩;exact ⟨_,rfl,h2.2.2⟩
theorem wF:(Tryz.prog.info? 9).map (fun i=>(i.zero,i.size,i.bytes))=some (some (.string ByteArray.empty),1,16):=by kernel_rfl
def OS (w:World) (base:Nat) (v:Value) (l:List ByteArray):Prop:=w.ownsRow base 9 1 v l.length (l.map Value.string)
theorem OS.nil (w:World) (base:Nat):OS w base (.slice none 0 0) []:=World.ownsRow_nil _ _ _ _
theorem OS.keeps {w w1:World} {base:Nat} {v:Value} {l:List ByteArray} (h:OS w base v l) (hb:Below w.heap.size w w1):OS w1 base v l:=by
 obtain ⟨h1,h2⟩:=h;refine ⟨h1,?_⟩;rcases h2 with h0 | ⟨g,cap,cur,e,hbg,hh,r⟩
 ·exact .inl h0
 refine .inr ⟨g,cap,cur,e,hbg,?_,r⟩;have:g<w.heap.size:=by
  rcases Nat.lt_or_ge g w.heap.size with h' | h'
  ·exact h'
  rw [Array.getElem?_eq_none h'] at hh;cases hh
 rw [hb.block _ this];exact hh
theorem jg (w:World) {ops:Array Oper} {rest:List Oper} {o:Oper} {a:Act} {Q:Exit→Act→World→Prop} (hgd:o.guard=none) (s x:Operand)
    (ho:o.op=.call { callee:=.builtin .append,args:=#[s,x],argTypes:=#[108,108] })
    (base:Nat) (v:Value) (l:List ByteArray) (hs:a.eval s=v) (hown:OS w base v l) (b:Nat) (t:ByteArray) (hx:a.eval x=.slice (some ⟨b,0,none⟩) 1 1) (hB:w.cell? ⟨b,0,none⟩=some (.string t))
    (hn:l.length<5864062014805) (hbase:base≤w.heap.size)
    (h:∀ v' w',OS w' base v' (l++[t])→Below base w w'→wpList Tryz.prog ops Q rest (a.put o.dst v') w'):wpList Tryz.prog ops Q (o :: rest) a w:=by
 refine wpList_plain hgd fun _ hK=>?_;obtain ⟨i,hi,hz0,hz1,hz2⟩:=info_parts wF
 refine wp_append_own w s x 108 ho base 9 i (.string ByteArray.empty) 1 16 Tryz.underlying108 hi hz0 hz1 hz2 rfl (by decide) v l.length (l.map Value.string) hs hown ⟨b,0,none⟩ 1 1 [.string t] hx rfl ?_ (fun u hu=>by simp at hu;subst hu;rfl)
   (by unfold maxLen;omega) (by omega) hbase fun v' w' h1 h2 _=>hK _ _ (h v' w' (by unfold OS;rw [List.map_append,List.length_append];exact h1) ((Below.refl base w).grown h2 hbase fun k hk=>(hown.lt k hk).1))
 intro j u hu
 match j,hu with
 | 0,hu=>simp at hu;subst hu;exact hB
 | j+1,hu=>simp at hu
theorem gK {w:World} {ops:Array Oper} {rest:List Oper} {o:Oper} {a:Act} {Q:Exit→Act→World→Prop} (s x:Operand) (_:o.op=.call { callee:=.builtin .append,args:=#[s,x],argTypes:=#[108,108] })
  (k:wpList Tryz.prog ops Q (o :: rest) a w):wpList Tryz.prog ops Q (o :: rest) a w:=k
def gS (l:List ByteArray) (j:Nat):ByteArray:=l.getD j .empty
def SC (w:World) (b off:Nat) (l:List ByteArray):Prop:=∀ j,j<l.length→w.cell? ⟨b,off+j,none⟩=some (.string (gS l j))
structure SS (w:World) (a:Option Addr) (n cap:Nat) (l:List ByteArray):Prop where
 hat:l.length=0∨∃ b off,a=some ⟨b,off,none⟩∧SC w b off l
 hn:l.length=n
 hcap:n≤cap
 hmax:cap≤9223372036854775807
 hno:a=none→cap=0
theorem SS.keeps {w w1:World} {a:Option Addr} {n cap:Nat} {l:List ByteArray} (h:SS w a n cap l) (hb:Below w.heap.size w w1):SS w1 a n cap l :=
 { h with hat:=h.hat.imp id fun ⟨b,off,e,hC⟩=>⟨b,off,e,fun j hj=>dec.keeps hb (hC j hj)⟩ }
theorem sP {l:List ByteArray} {j:Nat} (h:j<l.length):gS l j=l[j]:=by
 unfold gS;rw [List.getD_eq_getElem?_getD,List.getElem?_eq_getElem h];rfl
theorem Dj {l:List ByteArray} {j:Nat} (h:j<l.length):l.drop j=gS l j :: l.drop (j+1):=by
 rw [List.drop_eq_getElem_cons h,sP h]
theorem vZ {l:List ByteArray} {j:Nat} (h:j<l.length):l.take (j+1)=l.take j++[gS l j]:=by
 rw [List.take_succ_eq_append_getElem h,sP h]
theorem OS.ss {w:World} {base:Nat} {v:Value} {l:List ByteArray} (h:OS w base v l):∃ a cap,v=.slice a l.length cap∧SS w a l.length cap l:=by
 obtain ⟨h1,h2⟩:=id h;rcases h2 with ⟨rfl,h0⟩ | ⟨g,cap,cur,rfl,hbg,hh,hc,hm,hs,ht⟩
 ·have hz:l=[]:=List.eq_nil_of_length_eq_zero h0;subst hz;exact ⟨none,0,rfl,.inl rfl,rfl,by simp,by omega,fun _=>rfl⟩
 refine ⟨_,cap,rfl,.inr ⟨g,0,rfl,fun j hj=>?_⟩,rfl,hc,by unfold maxLen at hm;omega,fun h=>by cases h⟩;rw [Nat.zero_add,World.ownsRow.cellAt h j (by simpa using hj),List.getElem?_map,List.getElem?_eq_getElem hj,sP hj];rfl
theorem SS.few {w:World} {a:Option Addr} {n cap:Nat} {l:List ByteArray} (h:SS w a n cap l) (k:Nat) (hk:k≤n):SS w a k cap (l.take k):=by
 have e1:=h.hn;refine ⟨?_,by rw [List.length_take];omega,by have:=h.hcap;omega,h.hmax,h.hno⟩;rcases h.hat with h0 | ⟨b,off,e,hC⟩
 ·exact .inl (by rw [List.length_take];omega)
 refine .inr ⟨b,off,e,fun j hj=>?_⟩;rw [List.length_take] at hj;rw [hC j (by omega)];unfold gS;rw [List.getD_eq_getElem?_getD,List.getD_eq_getElem?_getD,List.getElem?_take,if_pos (by omega)]
theorem SS.cut {w:World} {b off n cap:Nat} {l:List ByteArray} (h:SS w (some ⟨b,off,none⟩) n cap l) (k:Nat) (hk:k≤n):SS w (some ⟨b,off+k,none⟩) (n - k) (cap - k) (l.drop k):=by
 have e1:=h.hn;have e2:=h.hcap;have e3:=h.hmax;refine ⟨?_,by rw [List.length_drop];omega,by omega,by omega,fun h=>by cases h⟩;rcases h.hat with h0 | ⟨b',off',e,hC⟩
 ·exact .inl (by rw [List.length_drop];omega)
 cases e;refine .inr ⟨b,_,rfl,fun j hj=>?_⟩;rw [List.length_drop] at hj;rw [Nat.add_assoc,hC (k+j) (by omega)];unfold gS;rw [List.getD_eq_getElem?_getD,List.getD_eq_getElem?_getD,List.getElem?_drop]
theorem SS.Ay {w:World} {a:Option Addr} {cap:Nat} (hno:a=none→cap=0) (hm:cap≤9223372036854775807):SS w a 0 cap []:=⟨.inl rfl,rfl,by omega,hm,hno⟩
theorem gI (w:World) {ops:Array Oper} {rest:List Oper} {o:Oper} {a:Act} {Q:Exit→Act→World→Prop} (hgd:o.guard=none) (s x:Operand)
    (ho:o.op=.call { callee:=.builtin .append,args:=#[s,x],argTypes:=#[108,108] })
    (base:Nat) (v:Value) (l:List ByteArray) (hs:a.eval s=v) (hown:OS w base v l) (ad:Option Addr) (n cap:Nat) (l2:List ByteArray) (hx:a.eval x=.slice ad n cap) (hS:SS w ad n cap l2)
    (hn:l.length+n<5864062014805) (hbase:base≤w.heap.size)
    (h:∀ v' w',OS w' base v' (l++l2)→Below base w w'→wpList Tryz.prog ops Q rest (a.put o.dst v') w'):wpList Tryz.prog ops Q (o :: rest) a w:=by
 refine wpList_plain hgd fun K hK=>?_;obtain ⟨i,hi,hz0,hz1,hz2⟩:=info_parts wF;have hln:=hS.hn
 cases ad with
 | none =>
   have h0:=hS.hno rfl
   have h1:=hS.hcap
   have hn0:n=0:=by omega
   subst h0
   subst hn0
   have hl2:l2=[]:=List.eq_nil_of_length_eq_zero hln
   subst hl2
   have hrun:=run_append_owned_none (P:=Tryz.prog) (w:=w) base 108 o.type 9 i 1 Tryz.underlying108 hi v l.length (l.map Value.string) hown
   unfold Oper.wp
   simp only [execOp,ho,resolve,invoke,builtin,Sem.run_bind,Sem.run_pure,Result.andThen_ok,List.map_toArray,List.map_cons,List.map_nil,hs,hx,hrun]
   exact hK _ _ (h v w (by rw [List.append_nil];exact hown) (Below.refl _ _))
 | some ad =>
   refine wp_append_own w s x 108 ho base 9 i (.string ByteArray.empty) 1 16 Tryz.underlying108 hi hz0 hz1 hz2 rfl (by decide) v l.length (l.map Value.string) hs hown ad n cap (l2.map Value.string) hx (by rw [List.length_map,hln,Nat.mul_one]) ?_ (fun u hu=>by
       obtain ⟨t,_,rfl⟩:=List.mem_map.1 hu
       rfl)
     (by unfold maxLen;omega) (by omega) hbase fun v' w' h1 h2 _=>?_
   · intro j u hu
     have hj:j<l2.length:=by
       rcases Nat.lt_or_ge j (l2.map Value.string).length with h' | h'
       · rwa [List.length_map] at h'
       · rw [List.getElem?_eq_none h'] at hu;cases hu
     rcases hS.hat with h0 | ⟨b,off,e,hC⟩
     · omega
     · cases e
       have hp:(⟨b,off,none⟩:Addr).add j=⟨b,off+j,none⟩:=by
         unfold Addr.add
         by_cases h:j=0 <;> simp [h]
       rw [hp,hC j hj,sP hj]
       rw [List.getElem?_map,List.getElem?_eq_getElem hj] at hu
       exact hu
   · refine hK _ _ (h v' w' ?_ ((Below.refl base w).grown h2 hbase fun k hk=>(hown.lt k hk).1))
     unfold OS
     rw [List.map_append,List.length_append,hln]
     exact h1
theorem Bb (x:ByteArray):∀ l:List ByteArray,(ins x l).length≤l.length+1
 | []=>by simp [ins]
 | y :: l=>by
  have:=Bb x l
  unfold ins
  split
  ·simp only [List.length_cons];omega
  ·split <;> simp
theorem yu (l:List Fa):∀ j,j≤l.length→(ns (l.take j)).length≤j
 | 0,_=>by simp [ns]
 | j+1,h=>by
  rw [iY (by omega),Aw]
  have:=yu l j (by omega)
  have:=Bb (gt l j).1 (ns (l.take j))
  omega
theorem OA {x:ByteArray} {o:List ByteArray} {k:Nat} (hk:k<o.length) (h:ltS (gS o k) x=true):ins x (o.drop k)=gS o k :: ins x (o.drop (k+1)):=by
 rw [Dj hk];show (if ltS (gS o k) x=true then _ else _)=_;rw [if_pos h]
theorem OB {x:ByteArray} {o:List ByteArray} {k:Nat} (hk:k<o.length) (h:ltS (gS o k) x=true) (hi:ins x o=o.take k++ins x (o.drop k)):ins x o=o.take (k+1)++ins x (o.drop (k+1)):=by
 rw [hi,OA hk h,vZ hk,List.append_assoc];rfl
theorem Ij {x:ByteArray} {o:List ByteArray} {k:Nat} (hk:k<o.length) (h:gS o k=x) (hi:ins x o=o.take k++ins x (o.drop k)):ins x o=o:=by
 have e:ins x (o.drop k)=o.drop k:=by
  rw [Dj hk];show (if ltS (gS o k) x=true then _ else if gS o k=x then _ else _)=_;rw [if_neg (by rw [h,ku];decide),if_pos h]
 rw [hi,e,List.take_append_drop]
theorem LZ {x:ByteArray} {o:List ByteArray} {k:Nat} (hk:k<o.length) (h:ltS (gS o k) x=false) (hne:gS o k≠x) (hi:ins x o=o.take k++ins x (o.drop k)):ins x o=(o.take k++[x])++o.drop k:=by
 have e:ins x (o.drop k)=x :: o.drop k:=by
  rw [Dj hk];show (if ltS (gS o k) x=true then _ else if gS o k=x then _ else _)=_;rw [if_neg (by rw [h];decide),if_neg hne]
 rw [hi,e];simp
theorem Ma {x:ByteArray} {o:List ByteArray} {k:Nat} (hk:o.length≤k) (hi:ins x o=o.take k++ins x (o.drop k)):ins x o=(o.take k++[x])++[]:=by
 rw [hi,List.drop_eq_nil_of_le hk];simp [ins]
theorem uH {n d:Nat} (h:d<n):n - (intOf (Value.int .i64 ((d:Int)+1))).toNat<n - (intOf (Value.int .i64 (d:Int))).toNat:=by
 show n - (((d:Int)+1)).toNat<n - ((d:Nat):Int).toNat;omega
theorem OS.less {w:World} {base base':Nat} {v:Value} {l:List ByteArray} (h:OS w base v l) (hb:base'≤base):OS w base' v l:=by
 refine ⟨h.1,h.2.imp id fun ⟨g,cap,cur,e,hbg,r⟩=>⟨g,cap,cur,e,by omega,r⟩⟩
theorem OS.Om {w w1:World} {base m:Nat} {a:Option Addr} {c:Nat} {l:List ByteArray} (h:OS w base (.slice a m c) l) (_:l.length=m) (hb:Below w.heap.size w w1):OS w1 base (.slice a m c) l:=h.keeps hb
theorem EP (a:Option Addr) (n cap:Nat) (l:List Fa) (w:World) (hS:Sl w a n cap l) (hlen:l.length<5864062014805) :
    Calls Tryz.prog 187 #[.slice a n cap] w fun e w' => ∃ v,e=.returned v∧OS w' w.heap.size v (ns l)∧Below w.heap.size w w':=by
 have S0:=Hy hS;have N0:=Hy hlen;clear hS hlen
 go_enter Tryz.func187,Tryz.ntmps187
 go_wp2_with fail
 go_loopw [3,4] (fun vo vi wr => ∃ j:Nat,vi=.int .i64 (j:Nat)∧Hid (j≤n)∧Hid (OS wr w.heap.size vo (ns (l.take j)))∧Hid (Below w.heap.size w wr)) (fun _ vi _=>n - (intOf vi).toNat)
 case atStart=>exact ⟨0,rfl,Hy zl,Hy (OS.nil _ _),Hy (b0 w)⟩
 case round =>
  obtain ⟨j,rfl,hj,hO,hb⟩:=hrel;by_cases hc:j<n
  ·have hln:=Hy (show j<l.length by have:=S0.o.hn;omega);obtain ⟨bl,offl,rfl,hC⟩:=(S0.o.keeps hb.o).hat.resolve_left (by have:=hln.o;omega);obtain ⟨c0,_⟩:=hC j hln.o;have q2:decide ((j:Int)<(n:Int))=true:=dT (by omega);have q3:j<n:=hc;have f4:=Hy (aV (j:=j) (by have:=S0.o.hcap;have:=S0.o.hmax;omega));have hol:=Hy (show (ns (l.take j)).length<5864062014804 by have:=yu l j (by have:=hln.o;omega);have:=N0.o;have:=hln.o;omega);have hns:=Hy (show ns (l.take (j+1))=ins (gt l j).1 (ns (l.take j)) by rw [iY hln.o,Aw]);clear hC;generalize (gt l j).1=x at c0 hns;generalize ns (l.take j)=o at hO hol hns;obtain ⟨ao,co,rfl,hs⟩:=hO.o.ss;have SO:=Hy hs;have hcap:=hs.hcap;have hmax:=hs.hmax;have hm:Hid (o.length=o.length):=Hy rfl;clear hs;generalize hmm:o.length=m at *;replace hmm:=Hy hmm;clear hm;replace C0:=Hy c0;clear c0;generalize wr=wo at *;go_wp2_with fail
   go_loopw [5] (fun vk wq => ∃ k:Nat,vk=.int .i64 (k:Nat)∧Hid (k≤m)∧Hid (ins x o=o.take k++ins x (o.drop k))∧Hid (Below wo.heap.size wo wq)) (fun vk _=>m - (intOf vk).toNat)
   case atStart=>exact ⟨0,rfl,Hy zl,Hy rfl,Hy (b0 wo)⟩
   case round =>
    obtain ⟨k,rfl,hk,hi,hbq⟩:=hrel;have c0:=cell_regrown (dec.keeps hbq.o C0.o);have f5:=Hy (aV (j:=k) (by have:=hk.o;have:=hol.o;omega));by_cases hkm:k<m
    ·obtain ⟨bo,offo,rfl,hD⟩:=(SO.o.keeps hbq.o).hat.resolve_left (by have:=hmm.o;omega);have d0:=hD k (by have:=hmm.o;omega);have d1:=cell_regrown d0;have p1:decide ((k:Int)<(m:Int))=true:=dT (by omega);have hkc:k<co:=by omega
     have hkc2:k≤co:=by omega
     have g1:=Hy (fun h=>OB (x:=x) (o:=o) (k:=k) (by have:=hmm.o;omega) h hi.o);have g2:=Hy (fun h=>Ij (x:=x) (o:=o) (k:=k) (by have:=hmm.o;omega) h hi.o);have g3:=Hy (fun h h' => LZ (x:=x) (o:=o) (k:=k) (by have:=hmm.o;omega) h h' hi.o);clear hD hi;replace d0:=Hy d0;generalize gS o k=y at d1 d0 g1 g2 g3;cases hlt:ltS y x
     ·have p2:Op.bytesLess y.toList x.toList=false:=hlt;by_cases hyx:y=x
      ·subst hyx;have p3:(y.toList==y.toList)=true:=beq_self_eq_true _;have hins:=Hy (hns.o.trans (g2.o rfl));clear g1 g2 g3;replace hlt:=Hy hlt;go_wp2_with fail;refine wp_region_quiet_below (by kernel_rfl) (by kernel_rfl) ?_
       repeat (first | go_big_quiet_skip | (go_big_quiet_want;go_big_quiet_op;go_big_quiet_on))
       refine wpQuiet_nil ?_;intro w9 hw9;have hb9:=Hy (iA hw9);have hb2:=Hy (aD hbq.o hb9.o);clear hw9;clear c0 d1;have c0:=cell_regrown (dec.keeps hb2.o C0.o);have d1:=cell_regrown (dec.keeps (hb9.o) d0.o);go_wp2_with fail;refine wp_region_quiet_below (by kernel_rfl) (by kernel_rfl) ?_
       repeat (first | go_big_quiet_skip | (go_big_quiet_want;go_big_quiet_op;go_big_quiet_on))
       refine wpQuiet_nil ?_;intro w8 hw8;have hb3:=Hy (aD hb2.o (iA hw8));clear hw8;clear c0 d1;go_wp2_with fail;refine ⟨⟨j+1,congrArg (Value.int .i64) f4.o,Hy hc,Hy (by rw [hins.o];exact (OS.Om (hO.o) hmm.o hb3.o)),Hy (aD hb.o hb3.o)⟩,aU hc f4.o⟩
      have p3:(y.toList==x.toList)=false:=by rw [Dm];exact dF hyx
      have hins:=Hy (g3.o hlt hyx);clear g1 g2 g3;replace hlt:=Hy hlt;replace hyx:=Hy hyx;go_wp2_with fail;refine wp_region_quiet_below (by kernel_rfl) (by kernel_rfl) ?_
      repeat (first | go_big_quiet_skip | (go_big_quiet_want;go_big_quiet_op;go_big_quiet_on))
      refine wpQuiet_nil ?_;intro w9 hw9;have hb9:=Hy (iA hw9);have hb2:=Hy (aD hbq.o hb9.o);clear hw9;clear c0 d1;have c0:=cell_regrown (dec.keeps hb2.o C0.o);have d1:=cell_regrown (dec.keeps (hb9.o) d0.o);go_wp2_with fail;refine wp_region_quiet_below (by kernel_rfl) (by kernel_rfl) ?_
      repeat (first | go_big_quiet_skip | (go_big_quiet_want;go_big_quiet_op;go_big_quiet_on))
      refine wpQuiet_nil ?_;intro w8 hw8;have hb3:=Hy (aD hb2.o (iA hw8));clear hw8;clear c0 d1 p2 p3;generalize w8=z0 at *;have hl1:=Hy (show (o.take k).length=k by have:=hmm.o;have:=hk.o;rw [List.length_take];omega);have Sx:=Hy ((SO.o.keeps hb3.o).few k hk.o)
      go_upto_region 11 with (at_builtin;refine gK (.tmp 47) (.tmp 50) rfl ?_;refine gI _ rfl (.tmp 47) (.tmp 50) rfl wo.heap.size _ [] rfl (OS.nil z0 _) (some ⟨bo,offo,none⟩) k co (o.take k) rfl Sx.o (by have:=hk.o;have:=hol.o;simp only [List.length_nil];omega) hb3.o.size ?_;intro v1 z1 O1 e1)
      rw [List.nil_append] at O1;have hb4:=Hy (hb3.o.trans e1);replace O1:=Hy O1;clear e1 Sx;have c0:=dec.keeps hb4.o C0.o
      go_upto_region 12 with (at_builtin;refine gK (.tmp 52) (.tmp 58) rfl ?_;refine jg _ rfl (.tmp 52) (.tmp 58) rfl wo.heap.size _ (o.take k) rfl (O1.o.keeps (aj (b0 z1) _)) z1.heap.size x rfl (by simp [go_sem]) (by have:=hk.o;have:=hol.o;rw [hl1.o];omega) (aj hb4.o _).size ?_;intro v2 z2 O2 e2)
      have hb5:=Hy ((aj hb4.o _).trans e2);replace O2:=Hy O2;clear e2 c0;go_wp2_with (at_builtin;refine gK (.tmp 60) (.tmp 63) rfl ?_;refine gI _ rfl (.tmp 60) (.tmp 63) rfl wo.heap.size _ (o.take k++[x]) rfl O2.o (some ⟨bo,offo+k,none⟩) (m - k) (co - k) (o.drop k) rfl ((SO.o.keeps hb5.o).cut k hk.o) (by have:=hk.o;have:=hol.o;rw [List.length_append,hl1.o];simp only [List.length_cons,List.length_nil];omega) hb5.o.size ?_;intro v3 z3 O3 e3);have O4:=Hy (show OS z3 w.heap.size v3 (ns (l.take (j+1))) by rw [hns.o,hins.o];exact O3.less hb.o.size);have hb6:=Hy (aD hb.o (hb5.o.trans e3));clear e3 O3;go_wp2_with fail;refine ⟨⟨j+1,congrArg (Value.int .i64) f4.o,Hy hc,O4,hb6⟩,aU hc f4.o⟩
     have p2:Op.bytesLess y.toList x.toList=true:=hlt;have hi2:=Hy (g1.o hlt);clear g1 g2 g3;replace hlt:=Hy hlt;go_wp2_with fail;refine wp_region_quiet_below (by kernel_rfl) (by kernel_rfl) ?_
     repeat (first | go_big_quiet_skip | (go_big_quiet_want;go_big_quiet_op;go_big_quiet_on))
     refine wpQuiet_nil ?_;intro w9 hw9;have hb9:=Hy (iA hw9);have hb2:=Hy (aD hbq.o hb9.o);clear hw9;clear c0 d1;go_wp2_with fail;refine ⟨⟨k+1,by first | exact congrArg (Value.int .i64) f5.o | rfl,Hy hkm,hi2,hb2⟩,by first | exact aU hkm f5.o | exact uH hkm⟩
    have p1:decide ((k:Int)<(m:Int))=false:=dF (by omega);obtain rfl:k=m:=by have:=hk.o;omega
    have hins:=Hy (Ma (x:=x) (o:=o) (k:=k) (by have:=hmm.o;omega) hi.o);clear hi hkm c0;go_wp2_with fail;refine wp_region_quiet_below (by kernel_rfl) (by kernel_rfl) ?_
    repeat (first | go_big_quiet_skip | (go_big_quiet_want;go_big_quiet_op;go_big_quiet_on))
    refine wpQuiet_nil ?_;intro w9 hw9;have hb9:=Hy (iA hw9);have hb2:=Hy (aD hbq.o hb9.o);clear hw9;go_wp2_with fail;refine wp_region_quiet_below (by kernel_rfl) (by kernel_rfl) ?_
    repeat (first | go_big_quiet_skip | (go_big_quiet_want;go_big_quiet_op;go_big_quiet_on))
    refine wpQuiet_nil ?_;intro w8 hw8;have hb3:=Hy (aD hb2.o (iA hw8));clear hw8;by_cases hkk:k=co
    ·obtain rfl:=hkk;have hkc:k≤k:=Nat.le_refl _;generalize w8=z0 at *;have hl1:=Hy (show (o.take k).length=k by have:=hmm.o;have:=hk.o;rw [List.length_take];omega);have Sx:=Hy ((SO.o.keeps hb3.o).few k hk.o)
     go_upto_region 11 with (at_builtin;refine gK (.tmp 47) (.tmp 50) rfl ?_;refine gI _ rfl (.tmp 47) (.tmp 50) rfl wo.heap.size _ [] rfl (OS.nil z0 _) ao k k (o.take k) rfl Sx.o (by have:=hk.o;have:=hol.o;simp only [List.length_nil];omega) hb3.o.size ?_;intro v1 z1 O1 e1)
     rw [List.nil_append] at O1;have hb4:=Hy (hb3.o.trans e1);replace O1:=Hy O1;clear e1 Sx;have c0:=dec.keeps hb4.o C0.o
     go_upto_region 12 with (at_builtin;refine gK (.tmp 52) (.tmp 58) rfl ?_;refine jg _ rfl (.tmp 52) (.tmp 58) rfl wo.heap.size _ (o.take k) rfl (O1.o.keeps (aj (b0 z1) _)) z1.heap.size x rfl (by simp [go_sem]) (by have:=hk.o;have:=hol.o;rw [hl1.o];omega) (aj hb4.o _).size ?_;intro v2 z2 O2 e2)
     have hb5:=Hy ((aj hb4.o _).trans e2);replace O2:=Hy O2;clear e2 c0;go_wp2_with (at_builtin;refine gK (.tmp 60) (.tmp 63) rfl ?_;refine gI _ rfl (.tmp 60) (.tmp 63) rfl wo.heap.size _ (o.take k++[x]) rfl O2.o ao 0 0 [] rfl (SS.Ay (fun _=>rfl) (by omega)) (by have:=hk.o;have:=hol.o;rw [List.length_append,hl1.o];simp only [List.length_cons,List.length_nil];omega) hb5.o.size ?_;intro v3 z3 O3 e3);have O4:=Hy (show OS z3 w.heap.size v3 (ns (l.take (j+1))) by rw [hns.o,hins.o];exact O3.less hb.o.size);have hb6:=Hy (aD hb.o (hb5.o.trans e3));clear e3 O3;go_wp2_with fail;refine ⟨⟨j+1,congrArg (Value.int .i64) f4.o,Hy hc,O4,hb6⟩,aU hc f4.o⟩
    have hkn:k<co:=by omega
    obtain ⟨⟨bo,offo,spot⟩,rfl⟩:∃ x,ao=some x:=by
     cases ao with
     | none=>have:=SO.o.hno rfl;omega
     | some x=>exact ⟨x,rfl⟩
    skip;generalize w8=z0 at *;have hl1:=Hy (show (o.take k).length=k by have:=hmm.o;have:=hk.o;rw [List.length_take];omega);have Sx:=Hy ((SO.o.keeps hb3.o).few k hk.o)
    go_upto_region 11 with (at_builtin;refine gK (.tmp 47) (.tmp 50) rfl ?_;refine gI _ rfl (.tmp 47) (.tmp 50) rfl wo.heap.size _ [] rfl (OS.nil z0 _) (some ⟨bo,offo,spot⟩) k co (o.take k) rfl Sx.o (by have:=hk.o;have:=hol.o;simp only [List.length_nil];omega) hb3.o.size ?_;intro v1 z1 O1 e1)
    rw [List.nil_append] at O1;have hb4:=Hy (hb3.o.trans e1);replace O1:=Hy O1;clear e1 Sx;have c0:=dec.keeps hb4.o C0.o
    go_upto_region 12 with (at_builtin;refine gK (.tmp 52) (.tmp 58) rfl ?_;refine jg _ rfl (.tmp 52) (.tmp 58) rfl wo.heap.size _ (o.take k) rfl (O1.o.keeps (aj (b0 z1) _)) z1.heap.size x rfl (by simp [go_sem]) (by have:=hk.o;have:=hol.o;rw [hl1.o];omega) (aj hb4.o _).size ?_;intro v2 z2 O2 e2)
    have hb5:=Hy ((aj hb4.o _).trans e2);replace O2:=Hy O2;clear e2 c0;go_wp2_with (at_builtin;refine gK (.tmp 60) (.tmp 63) rfl ?_;refine gI _ rfl (.tmp 60) (.tmp 63) rfl wo.heap.size _ (o.take k++[x]) rfl O2.o (some ((⟨bo,offo,spot⟩:Addr).add k)) 0 (co - k) [] rfl (SS.Ay (fun h=>by cases h) (by omega)) (by have:=hk.o;have:=hol.o;rw [List.length_append,hl1.o];simp only [List.length_cons,List.length_nil];omega) hb5.o.size ?_;intro v3 z3 O3 e3);have O4:=Hy (show OS z3 w.heap.size v3 (ns (l.take (j+1))) by rw [hns.o,hins.o];exact O3.less hb.o.size);have hb6:=Hy (aD hb.o (hb5.o.trans e3));clear e3 O3;go_wp2_with fail;refine ⟨⟨j+1,congrArg (Value.int .i64) f4.o,Hy hc,O4,hb6⟩,aU hc f4.o⟩
  have q2:decide ((j:Int)<(n:Int))=false:=dF (by omega);have hO2:=Hy hO.o;rw [show l.take j=l from List.take_of_length_le (by have:=S0.o.hn;omega)] at hO2;clear hO;go_wp2_with fail;go_ret;exact ⟨_,rfl,hO2.o,hb.o⟩
end un
namespace dec
open Go.RowKit
def shr (n:Int):Nat→Int
 | 0=>n
 | k+1=>shr n k / 65536
def dl (n:Int):Nat→List Int
 | 0=>[]
 | k+1=>dl n k++[shr n k % 65536]
theorem FR (n:Int) (k:Nat):(dl n k).length=k:=by induction k <;> simp_all [dl]
theorem uZ {n:Int} (h0:0≤n) (h1:n≤18446744073709551615) (k:Nat):0≤shr n k∧shr n k≤18446744073709551615:=by
 induction k with
 | zero=>exact ⟨h0,h1⟩
 | succ k ih=>simp only [shr];omega
def hu (n:Int):Int:=IntKind.u64.wrap (hi n)
theorem Jj (n:Int):hu n=n / 18446744073709551616 % 18446744073709551616:=by unfold hu;rw [IntKind.wrap_u64];unfold hi;omega
theorem yG (n:Int):0≤hu n∧hu n≤18446744073709551615:=by rw [Jj];omega
def val (f:Nat→Int):Int:=f 0+f 1 * 65536+f 2 * 4294967296+f 3 * 281474976710656+(f 4+f 5 * 65536+f 6 * 4294967296+f 7 * 281474976710656) * 18446744073709551616
structure Dg (f:Nat→Int) (a:Int):Prop where
 lo:∀ j,j<8→0≤f j
 hi:∀ j,j<8→f j≤65535
 val:val f % 340282366920938463463374607431768211456=a % 340282366920938463463374607431768211456
theorem eight {P:Nat→Prop} (h:∀ j,j<8→P j):P 0∧P 1∧P 2∧P 3∧P 4∧P 5∧P 6∧P 7:=⟨h 0 (by decide),h 1 (by decide),h 2 (by decide),h 3 (by decide),h 4 (by decide),h 5 (by decide),h 6 (by decide),h 7 (by decide)⟩
theorem jG {P:Nat→Prop} (h0:P 0) (h1:P 1) (h2:P 2) (h3:P 3) (h4:P 4) (h5:P 5) (h6:P 6) (h7:P 7):∀ j,j<8→P j
 | 0,_=>h0 | 1,_=>h1 | 2,_=>h2 | 3,_=>h3 | 4,_=>h4 | 5,_=>h5 | 6,_=>h6 | 7,_=>h7
def dgs (n:Int):List Int:=dl (lo n) 4++dl (hu n) 4
theorem mR (n:Int):Dg (fun j=>(dgs n).getD j 0) n:=by
 have h1:=gX n;have h2:=yG n;have h3:hu n=n / 18446744073709551616 % 18446744073709551616:=Jj n;have h4:lo n=n % 18446744073709551616:=rfl;unfold dgs;simp only [dl,shr,List.nil_append,List.cons_append];generalize lo n=l at *;generalize hu n=u at *;constructor
 ·exact jG (by simp;omega) (by simp;omega) (by simp;omega) (by simp;omega) (by simp;omega) (by simp;omega) (by simp;omega) (by simp;omega)
 ·exact jG (by simp;omega) (by simp;omega) (by simp;omega) (by simp;omega) (by simp;omega) (by simp;omega) (by simp;omega) (by simp;omega)
 simp [val];omega
def cm (f:Nat→Int):Nat→Int
 | 0=>0
 | i+1=>(f i+cm f i) / 65536
def cl (f:Nat→Int):Nat→List Int
 | 0=>[]
 | i+1=>cl f i++[(f i+cm f i) % 65536]
theorem Gb (f:Nat→Int) (k:Nat):(cl f k).length=k:=by induction k <;> simp_all [cl]
theorem yV {f:Nat→Int} (h0:∀ j,j<8→-1099511627776≤f j) (h1:∀ j,j<8→f j≤1099511627776) (i:Nat) (hi:i≤8) : -1099511627776≤cm f i∧cm f i≤1099511627776:=by
 induction i with
 | zero=>simp [cm]
 | succ i ih =>
   have:=ih (by omega)
   have:=h0 i (by omega)
   have:=h1 i (by omega)
   simp only [cm];omega
theorem wJ (f:Nat→Int):Dg (fun j=>(cl f 8).getD j 0) (val f):=by
 simp only [cl,cm,List.nil_append,List.cons_append];generalize e0:f 0+0=s0;generalize e1:f 1+s0 / 65536=s1;generalize e2:f 2+s1 / 65536=s2;generalize e3:f 3+s2 / 65536=s3;generalize e4:f 4+s3 / 65536=s4;generalize e5:f 5+s4 / 65536=s5;generalize e6:f 6+s5 / 65536=s6;generalize e7:f 7+s6 / 65536=s7;constructor
 ·exact jG (by simp;omega) (by simp;omega) (by simp;omega) (by simp;omega) (by simp;omega) (by simp;omega) (by simp;omega) (by simp;omega)
 ·exact jG (by simp;omega) (by simp;omega) (by simp;omega) (by simp;omega) (by simp;omega) (by simp;omega) (by simp;omega) (by simp;omega)
 simp [val];omega
theorem val_add {f g:Nat→Int} {a b:Int} (hf:Dg f a) (hg:Dg g b):val (fun j=>f j+g j) % 340282366920938463463374607431768211456=(a+b) % 340282366920938463463374607431768211456:=by
 have h:=hf.val;have k:=hg.val;unfold val at *;dsimp only at *;omega
theorem val_sub {f g:Nat→Int} {a b:Int} (hf:Dg f a) (hg:Dg g b):val (fun j=>f j - g j) % 340282366920938463463374607431768211456=(a - b) % 340282366920938463463374607431768211456:=by
 have h:=hf.val;have k:=hg.val;unfold val at *;dsimp only at *;omega
theorem Dg.congr {f:Nat→Int} {a b:Int} (h:Dg f a) (e:a % 340282366920938463463374607431768211456=b % 340282366920938463463374607431768211456):Dg f b:=⟨h.lo,h.hi,h.val.trans e⟩
def lo4 (f:Nat→Int):Int:=((f 3 * 65536+f 2) * 65536+f 1) * 65536+f 0
def hi4 (f:Nat→Int):Int:=((f 7 * 65536+f 6) * 65536+f 5) * 65536+f 4
theorem Lm {f:Nat→Int} {a:Int} (h:Dg f a):lo4 f=lo a:=by
 have l:=eight h.lo;have u:=eight h.hi;have v:=h.val;unfold val at v;unfold lo4 lo;omega
theorem Lp {f:Nat→Int} {a:Int} (h:Dg f a):wrap64 (hi4 f)=hi a:=by
 have l:=eight h.lo;have u:=eight h.hi;have v:=h.val;unfold val at v;unfold hi4 hi wrap64;omega
theorem info3:(Tryz.prog.info? 3).map (fun i=>(i.zero,i.size,i.bytes))=some (some (.int .i64 0),1,8):=by kernel_rfl
structure Row (w:World) (g:Nat) (f:Nat→Int):Prop where
 cell:∀ j,j<8→w.cell? ⟨g,j,none⟩=some (.int .i64 (f j))
 free:∀ j,j<8→w.frozen? ⟨g,j,none⟩=false
 lt:g<w.heap.size
theorem Row.keeps {w w1:World} {g:Nat} {f:Nat→Int} (h:Row w g f) (hb:Below w.heap.size w w1):Row w1 g f :=
 ⟨fun j hj=>Go.Proofs.YtbpijgddfaefkaaGreatDoor.dec.keeps hb (h.cell j hj),fun j hj=>by rw [hb.frozen (p:=⟨g,j,none⟩) h.lt];exact h.free j hj,Nat.lt_of_lt_of_le h.lt hb.size⟩
theorem Row.past {w:World} {g:Nat} {f:Nat→Int} (h:Row w g f) (o:Obj):Row (w.alloc o) g f:=h.keeps ((Below.refl _ _).alloc lr _)
theorem lH {w:World} {B:Nat} {v:Value} {xs:List Int} (hl:xs.length=8) (h:w.ownsRow B 3 1 v 8 (xs.map (Value.int .i64))) :
    ∃ g c,v=.slice (some ⟨g,0,none⟩) 8 c∧B≤g∧8≤c∧Row w g (fun j=>xs.getD j 0):=by
 obtain ⟨_,h | ⟨g,c,cur,rfl,hB,hh,hc,hm,hs,ht⟩⟩:=h
 ·exact absurd h.2 (by decide)
 have hlt:g<w.heap.size:=by
  rcases Nat.lt_or_ge g w.heap.size with h | h
  ·exact h
  rw [Array.getElem?_eq_none h] at hh;cases hh
 refine ⟨g,c,rfl,hB,hc,?_,?_,hlt⟩
 ·intro j hj;have e:cur[j]? = some (.int .i64 (xs.getD j 0)):=by
   have:=congrArg (fun l=>l[j]?) ht;simp only [List.getElem?_take,List.getElem?_map] at this;rw [if_pos (by omega)] at this;rw [← Array.getElem?_toList,this,List.getElem?_eq_getElem (by omega)];simp [List.getElem?_eq_getElem (show j<xs.length by omega)]
  simp [World.cell?,hh,e]
 intro j hj;simp [World.frozen?,hh]
theorem iE {B:Nat} {w wr w1:World} {v:Value} {n:Nat} {xs:List Value} {o:Obj} (hnx:Below B w wr) (hB:B≤wr.heap.size) (hown:wr.ownsRow B 3 1 v n xs) (hg:(wr.alloc o).grownBy w1 v.ownBlock):Below B w w1 :=
 (hnx.alloc hB o).grown hg (by simp;omega) (fun j hj=>(hown.lt j hj).1)
theorem iF {x:Value} {a:Int} (hx:x=W a) (w:World) :
    Calls Tryz.prog 253 #[x] w fun e w' => ∃ g c,e=.returned (.slice (some ⟨g,0,none⟩) 8 c)∧w.heap.size≤g∧8≤c∧Row w' g (fun j=>(dgs a).getD j 0)∧Below w.heap.size w w':=by
 subst hx;obtain ⟨i0,hinf,hz0,hz1,hz2⟩:=info_parts info3;have rl:=gX a;have rh:=yG a;have eh:IntKind.u64.wrap (hi a)=hu a:=rfl;have sl:=fun k=>uZ rl.1 rl.2 k;have sh:=fun k=>uZ rh.1 rh.2 k;have SL:=Hy sl;have SH:=Hy sh;clear rl rh sl sh;have HD:Hid (dgs a=dl (lo a) 4++dl (hu a) 4):=rfl;unfold W
 go_enter Tryz.func253,Tryz.ntmps253
 go_wp2_with fail
 go_loopw [3,4,6] (fun v l i wr => ∃ k:Nat,k≤4∧i=.int .i64 k∧l=.int .u64 (shr (lo a) k)∧wr.ownsRow w.heap.size 3 1 v k ((dl (lo a) k).map (Value.int .i64))∧Below w.heap.size w wr) (fun _ _ i _=>4 - (intOf i).toNat)
 case atStart=>exact ⟨0,by omega,rfl,rfl,World.ownsRow_nil _ _ _ _,aj (b0 w) _⟩
 case round =>
  obtain ⟨k,hk,rfl,rfl,hown,hnx⟩:=hrel;obtain ⟨s0,s1⟩:=SL.o k;have hz:=hnx.size;by_cases hlt:k<4
  ·go_wp2_with (at_builtin;refine wpList_append_own _ rfl _ _ 252 rfl w.heap.size 3 i0 (.int .i64 0) 1 8 Tryz.underlying252 hinf hz0 hz1 hz2 rfl (by decide) _ _ _ rfl (hown.alloc _) ⟨wr.heap.size,0,none⟩ 1 1 [.int .i64 (shr (lo a) k % 65536)] rfl rfl ?c1 ?c2 ?c3 ?c4 ?c5 ?_)
   case c1 =>
    intro j u hj
    match j,hj with
    | 0,hj=>simp at hj;subst hj;simp [Addr.add]
   case c2=>intro u hu;simp at hu;subst hu;rfl
   case c3=>unfold maxLen;omega
   case c4=>omega
   case c5=>simp;omega
   intro v' w1 hown' hgrow _;have R1:w1.ownsRow w.heap.size 3 1 v' (k+1) ((dl (lo a) (k+1)).map (Value.int .i64)):=by simpa [dl] using hown'
   have R2:=iE hnx hz hown hgrow;clear hown' hgrow hown hnx;go_wp2;go_roundw
   case rel=>exact ⟨k+1,by omega,by go_num,rfl,R1,R2⟩
   case measure=>simp [intOf];omega
  obtain rfl:k=4:=by omega
  clear s0 s1 hz hlt hk;go_wp2_with fail
  go_loopw [3,5,7] (fun v h i wq => ∃ k:Nat,k≤4∧i=.int .i64 k∧h=.int .u64 (shr (hu a) k)∧wq.ownsRow w.heap.size 3 1 v (4+k) ((dl (lo a) 4++dl (hu a) k).map (Value.int .i64))∧Below w.heap.size w wq) (fun _ _ i _=>4 - (intOf i).toNat)
  case atStart=>exact ⟨0,by omega,rfl,rfl,by simpa [dl] using hown,hnx⟩
  case round =>
   clear hown hnx;obtain ⟨k,hk,rfl,rfl,hown,hnx⟩:=hrel;obtain ⟨s0,s1⟩:=SH.o k;have hz:=hnx.size;by_cases hlt:k<4
   ·go_wp2_with (at_builtin;refine wpList_append_own _ rfl _ _ 252 rfl w.heap.size 3 i0 (.int .i64 0) 1 8 Tryz.underlying252 hinf hz0 hz1 hz2 rfl (by decide) _ _ _ rfl (hown.alloc _) ⟨wr.heap.size,0,none⟩ 1 1 [.int .i64 (shr (hu a) k % 65536)] rfl rfl ?c1 ?c2 ?c3 ?c4 ?c5 ?_)
    case c1 =>
     intro j u hj
     match j,hj with
     | 0,hj=>simp at hj;subst hj;simp [Addr.add]
    case c2=>intro u hu;simp at hu;subst hu;rfl
    case c3=>unfold maxLen;omega
    case c4=>omega
    case c5=>simp;omega
    intro v' w1 hown' hgrow _;have R1:w1.ownsRow w.heap.size 3 1 v' (4+(k+1)) ((dl (lo a) 4++dl (hu a) (k+1)).map (Value.int .i64)):=by
     have e:(dl (lo a) 4++dl (hu a) (k+1)).map (Value.int .i64)=(dl (lo a) 4++dl (hu a) k).map (Value.int .i64)++[.int .i64 (shr (hu a) k % 65536)]:=by simp [dl]
     rw [e];exact hown'
    have R2:=iE hnx hz hown hgrow;clear hown' hgrow hown hnx;go_wp2;go_roundw
    case rel=>first | exact ⟨k+1,by omega,by go_num,rfl,R1,R2⟩ | ((repeat apply Exists.intro);exact ⟨⟨k+1,by omega,by go_num,rfl,R1,R2⟩,rfl⟩)
    case measure=>simp [intOf];omega
   obtain rfl:k=4:=by omega
   have hO:=hown;rw [← HD.o] at hO;obtain ⟨g,c,hv,hg,hc,R⟩:=lH (by simp [dgs,FR]) hO;clear hown hO;rw [hv];go_wp2;go_ret;exact ⟨g,c,rfl,hg,hc,R,hnx⟩
end dec
end Go.Proofs.YtbpijgddfaefkaaGreatDoor
