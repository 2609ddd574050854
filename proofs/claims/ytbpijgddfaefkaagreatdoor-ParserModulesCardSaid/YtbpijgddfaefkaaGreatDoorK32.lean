/-
  The value of a decimal: decimal.Parse and the reference agree; The reference's reader: primaries; The reference's reader: comparisons.
-/
import Derived.Test.YtbpijgddfaefkaaGreatDoorK31
set_option maxRecDepth 100000
set_option maxHeartbeats 16000000
namespace Go.Proofs.YtbpijgddfaefkaaGreatDoor
namespace rr
open Go.RowKit dec pa
def dcX (ds fs:List UInt8):Int:=if 6<fs.length then 0 else if 1152921504606846976<dval (dval 0 ds) fs * 10 ^ (6 - fs.length) then 0 else ((dval (dval 0 ds) fs * 10 ^ (6 - fs.length):Nat):Int)
theorem PD {n:Int} {v:Nat} (h:Tw n v) (q:Nat) (hv:v * q≤1152921504606846976) (hq:1≤q):n * (q:Int)=((v * q:Nat):Int):=by
 rcases h with ⟨_,rfl⟩ | ⟨h1,_⟩
 ·rw [Int.natCast_mul]
 have:=Nat.mul_le_mul_left v hq;omega
theorem KL {ds fs:List UInt8} (h1:ds≠[]) (h2:fs≠[]) (hd:∀ c ∈ ds,isD c=true) (hf:∀ c ∈ fs,isD c=true):paX (ds++46 :: fs)=dcX ds fs:=by
 obtain ⟨l,hl⟩:∃ l,l=ds++46 :: fs:=⟨_,rfl⟩;have hdl:1≤ds.length:=by cases ds;exact absurd rfl h1;simp
 have hfl:1≤fs.length:=by cases fs;exact absurd rfl h2;simp
 have hlen:l.length=ds.length+(fs.length+1):=by rw [hl];simp
 obtain ⟨n1,t1,s1⟩:=rV l ds (46 :: fs) (fs.length+1) 0 0 0 l.length (by rw [hl];rfl) hd pJ;rw [Nat.zero_add] at s1;have hdr:l.drop ds.length=46 :: fs:=by rw [hl,List.drop_left]
 obtain ⟨b1,b2,b3⟩:=iw hdr;have e46:dh l ds.length=46:=by rw [b2];rfl
 have s2:dec.rd l (fs.length+1) ds.length n1 l.length=dec.rd l fs.length (ds.length+1) n1 ds.length:=by
  rw [dec.rd,if_pos b1,if_neg (by omega),if_pos ⟨e46,rfl⟩]
 obtain ⟨n2,t2,s3⟩:=rV l fs [] 0 (ds.length+1) n1 _ ds.length (by rw [b3,List.append_nil]) hf t1;rw [Nat.zero_add] at s3;have s4:dec.rd l l.length 0 0 l.length=(ds.length+1+fs.length,n2,ds.length):=by
  rw [show dec.rd l l.length 0 0 l.length=dec.rd l (fs.length+1+ds.length) 0 0 l.length by rw [show fs.length+1+ds.length=l.length by omega],s1,s2,s3];rfl
 have hall:dw l=if 6<fs.length then (0,0,false) else (n2,(fs.length:Int),true):=by
  unfold dw;rw [s4];unfold iQ;simp only;rw [hlen,if_neg (by omega),if_neg (by omega)];by_cases h6:6<fs.length
  ·rw [if_pos h6,if_pos (by omega)]
  rw [if_neg h6,if_neg (by omega)];congr 2;omega
 obtain ⟨c,r,rfl⟩:∃ c r,ds=c :: r:=by cases ds;exact absurd rfl h1;exact ⟨_,_,rfl⟩
 have hc:=(dZ c).1 (hd c (List.mem_cons_self ..));have hpre:=vD (c:=c) (iL (n:=45) (by decide) (by omega)) (r++46 :: fs);rw [← List.cons_append,← hl] at hpre;rw [← hl];unfold paX uj dcX;rw [hpre.1,hpre.2,hall];by_cases h6:6<fs.length
 ·rw [if_pos h6,if_pos h6];rfl
 rw [if_neg h6,if_neg h6];simp only [Bool.false_eq_true,if_false];rw [Ao (by omega)];have t6:=fun h=>PD t2 (10 ^ (6 - fs.length)) h (Nat.pow_pos (by decide));obtain ⟨t3,t4⟩:=DI t2 (q:=10 ^ (6 - fs.length)) (Nat.pow_pos (by decide));have t5:=Int.mul_nonneg t3 (Int.natCast_nonneg (10 ^ (6 - fs.length)));generalize n2 * ((10 ^ (6 - fs.length):Nat):Int)=z at *;generalize dval (dval 0 (c :: r)) fs * 10 ^ (6 - fs.length)=y at *;by_cases h7:1152921504606846976<y
 ·rw [if_pos h7,(wC z).2 (by omega)];rfl
 rw [if_neg h7,(rU z).2 (by omega)];show z=_;exact t6 (by omega)
theorem Ko {ds fs:List UInt8} (h1:ds≠[]) (h2:fs≠[]) (hd:∀ c ∈ ds,isD c=true) (hf:∀ c ∈ fs,isD c=true):(rpP (ds++46 :: fs)).1=dcX ds fs:=by
 obtain ⟨l,hl⟩:∃ l,l=ds++46 :: fs:=⟨_,rfl⟩;have hdl:1≤ds.length:=by cases ds;exact absurd rfl h1;simp
 have hfl:1≤fs.length:=by cases fs;exact absurd rfl h2;simp
 have hlen:l.length=ds.length+(fs.length+1):=by rw [hl];simp
 have hh:l.head?≠some 45:=by
  obtain ⟨c,r,rfl⟩:∃ c r,ds=c :: r:=by cases ds;exact absurd rfl h1;exact ⟨_,_,rfl⟩
  have hc:=(dZ c).1 (hd c (List.mem_cons_self ..));rw [hl,List.cons_append,List.head?_cons];simpa using iL (n:=45) (by decide) (by omega)
 have ha:atP l=0:=by unfold atP;rw [if_neg hh]
 have hg1:dgn l=ds.length:=by rw [hl];exact nT 46 rfl fs ds hd
 have hdr:l.drop ds.length=46 :: fs:=by rw [hl,List.drop_left]
 have hdr2:l.drop (ds.length+1)=fs:=by rw [← List.drop_drop,hdr];rfl
 have hg2:dgn fs=fs.length:=uL fs hf;have hgd:l.getD ds.length 0=46:=by
  have:=(iw hdr).1;rw [List.drop_eq_getElem_cons this] at hdr;injection hdr with h1 _
  rw [List.getD_eq_getElem?_getD,List.getElem?_eq_getElem this,h1];rfl
 have hform:fO l=decide (fs.length≤6):=by
  unfold fO;rw [ha,List.drop_zero,hg1,Nat.zero_add,hdr2,hg2,hgd,if_neg (by omega),hlen,if_neg (by omega)];rw [Bool.eq_iff_iff];simp only [Bool.and_eq_true,decide_eq_true_eq];constructor
  ·intro h;omega
  intro h;exact ⟨⟨⟨trivial,hfl⟩,h⟩,by omega⟩
 obtain ⟨x1,t1,s1⟩:=oz ds 0 0 (-1) hd pJ;obtain ⟨x2,t2,s2⟩:=oz fs x1 _ 0 hf t1;have hfold:l.foldl stp (0,-1)=(x2,(fs.length:Int)):=by
  rw [hl,List.foldl_append,s1,if_neg (by omega),List.foldl_cons,show stp (x1,-1) 46=(x1,0) from rfl,s2,if_pos (by omega),Int.zero_add]
 rw [← hl];unfold rpP dcX;rw [hform,hfold];by_cases h6:6<fs.length
 ·rw [if_pos h6,dF (by omega)];rfl
 rw [if_neg h6,dT (by omega),if_pos rfl];have e6:6 - (max ((x2,(fs.length:Int)):Nat × Int).2 0).toNat=6 - fs.length:=by
  show 6 - (max (fs.length:Int) 0).toNat=_;omega
 rw [e6];have t3:=xM (6 - fs.length) x2 _ t2;show (jZ l (scl (6 - fs.length) x2)).1=_;unfold jZ;generalize scl (6 - fs.length) x2=y at *;generalize dval (dval 0 ds) fs * 10 ^ (6 - fs.length)=z at *;unfold Tw at t3;by_cases h7:1152921504606846976<z
 ·rw [if_pos h7,if_pos (by omega)]
 rw [if_neg h7,if_neg (by omega),if_neg hh];show (y:Int)=_;omega
theorem OQ {x:Tk} (hx:pr x=true) (hk:x.k=3):(rpP x.t.data.toList).1=paX x.t.data.toList:=by
 have h1:=((aR x).1 hx).1;have e:so x=x.t.data.toList:=by unfold so;rw [if_neg (by omega)]
 rw [e,hk] at h1;have h2:(shp x.t.data.toList).1=3:=by rw [h1]
 obtain ⟨ds,fs,e,k1,k2,k3,k4⟩:=Ak h2;rw [h1,List.take_length] at e;rw [e,Ko k1 k2 k3 k4,KL k1 k2 k3 k4]
theorem qK {s:ByteArray} (hs:pr ⟨1,s,0⟩=true) {l:List Tk} (hp:Prl l) (hl:Tl l) (hk:(hd l).k≠1):isT s l=false:=by
 rw [qL hs (.inl rfl) hp hl,dF hk];rfl
theorem IZ {β:Type} {k:Int} (h6:k≠6) (l:List Tk) (g:ByteArray→List Tk→Rs β):(tak k l).bind g=(tkk k l).bind fun x r=>g x.t r:=by
 unfold tak tkk;rw [if_neg h6];split <;> rfl
theorem IE {l l1:List Tk} {a a1 c1:Int} {x:Tk} (hp:Prl l) (hl:Tl l) (hk:(hd l).k=3) (h:Aft (tkk 3 l) l a 0 x l1 a1 c1):Aft (iX l) l a 0 (rpP x.t.data.toList).1 l1 a1 c1:=by
 unfold iX;rw [IZ (by decide)];refine h.bind ?_;have e:tkk 3 l=.ok (hd l) l.tail:=by unfold tkk;rw [if_pos hk,if_neg (by decide)]
 rw [e] at h;unfold Aft at h;rw [if_pos rfl] at h;obtain ⟨rfl,rfl,rfl,rfl⟩:=h;rcases hp.hd hl with h6 | hx
 ·omega
 rw [OQ hx hk];exact .pure _ _ _ _
theorem MN {i:Bool} {l:List Tk} (hp:Prl l) (hl:Tl l) (h1:(hd l).k≠1) (h2:(hd l).k≠2) (h3:(hd l).k≠3) (h4:(hd l).k≠4):Z i .pr l=if isT ⟨#[64]⟩ l=true then key l else Z i .pa l:=by
 have ht:tak 1 l=wrg l:=by unfold tak;rw [if_neg h1]
 have hn:nam l=wrg l:=by rw [oN,if_neg (fun h=>h1 h.1)];unfold tkk;rw [if_neg h1];rfl
 rw [uO,if_neg h2,if_neg h3,if_neg h4,qK (s:=⟨#[116,114,117,101]⟩) (by rw [aR];exact ⟨by decide,by decide⟩) hp hl h1,qK (s:=⟨#[102,97,108,115,101]⟩) (by rw [aR];exact ⟨by decide,by decide⟩) hp hl h1,qK (s:=⟨#[110,117,108,108]⟩) (by rw [aR];exact ⟨by decide,by decide⟩) hp hl h1];simp only [Bool.false_eq_true,if_false];split
 ·rfl
 split
 ·rfl
 rename_i hq;rw [Pt,og,IW,ht,hn];unfold need;rw [if_neg hq];unfold wrg;simp only [Rs.bind];split
 ·rfl
 split <;> rfl
theorem NR (B:Nat) (l:List Tk) (i:Bool) (a c:Int) (w:World) (h:Rp w B l i a c) (G:List Tk→Int→Prop) (hG:Sht G l c) (HX:CEx G) (WD:c=0→(hd l).k=1→∀ w,Rp w B l i a c→Calls Tryz.prog 224 #[.pointer (some ⟨B,0,none⟩)] w (Qst B Ev (Z i .pr l) l i a c w)) :
    Calls Tryz.prog 184 #[.pointer (some ⟨B,0,none⟩)] w (Qst B Ev (Z i .pr l) l i a c w):=by
 have gB:=Hy h.lt;have bb:=aj (b0 w) (.cells #[.int .i64 0,.string ⟨#[]⟩,.string ⟨#[]⟩,.string ⟨#[]⟩,.int .i64 0,.int .i64 0,.string ⟨#[]⟩,.slice none 0 0,.int .i64 0,.int .i64 0,.int .i64 0,.slice none 0 0] 43);have P:=Hy (h.keeps bb);have M:=Hy (Mx.of (B:=B) bb);have L2:=Hy (Blk.new w 43 #[.int .i64 0,.string ⟨#[]⟩,.string ⟨#[]⟩,.string ⟨#[]⟩,.int .i64 0,.int .i64 0,.string ⟨#[]⟩,.slice none 0 0,.int .i64 0,.int .i64 0,.int .i64 0,.slice none 0 0]);clear h bb;have HX0:=Hy HX;have WD0:=Hy WD;have HG:=Hy hG;have HP:=Hy P.o.pl;have HL:=Hy P.o.tl;clear HX WD hG;obtain ⟨bk,off,n,cap,hb,hn1,hnc,hmx,hnl,k0,k1,k2,hbB,hC⟩:=P.o.now;have e0:=hb.cell 0;have e3:=hb.cell 3;simp only [sz2,sz3,sz4] at e0 e3;have i1:(0:Int)<(n:Int):=by omega
 have i2:0<n:=by omega
 clear hb hC hnc hmx hnl hbB hn1 k1 k2;by_cases hc:c=0;rotate_left
 ·have q1:(c != 0)=true:=bne_iff_ne.2 hc
  go_enter Tryz.func184,Tryz.ntmps184
  go_wp2_with (refine aA aK (.tmp 2) (.tmp 14) rfl rfl _ _ _ _ rfl rfl L2.o rfl rfl (by simp [Value.oneCell']) ?_;intro w9 hb9 hs9);refine aF rfl _ _ _ _ _ rfl hb9 rfl ?_;exact ⟨_,⟨h0,.nil⟩,l,a,c,rfl,⟨none,0,none,0,rfl,⟨.inl rfl,.inl rfl⟩⟩,P.o.st hs9 gB.o,M.o.trans (.st hs9 (.inr lr)),.still _ _ _ hc _⟩
 subst hc;have F1:=tf1;obtain ⟨k,hk⟩:∃ k,(hd l).k=k:=⟨_,rfl⟩;rw [hk] at k0;have HK:=Hy hk;clear hk;by_cases g2:k=2
 ·subst g2
  go_enter Tryz.func184,Tryz.ntmps184
  go_wp2_with fail;clear e0 e3 k0;refine (fK B l i a 0 _ P.o).mono ?_;rintro e w1 ⟨u1,x1,l1,a1,c1,rfl,v1,pp,mm,af1⟩;have AF1:=Hy af1;clear af1;replace L2:=bk1 L2 mm gB;replace M:=Hy (M.o.nx mm);replace P:=Hy pp;clear pp mm;obtain rfl:u1=.int .i64 x1:=v1;have h23:=Hy (show w.heap.size<w1.heap.size from L2.o.lt);go_wp2_with (refine aA aK (.tmp 3) (.tmp 27) rfl rfl _ _ _ _ rfl rfl (Blk.new _ _ _) rfl rfl (by simp [Value.oneCell']) ?_;intro w1L L hs;have bb:=(aj (b0 w1) _).trans (hs.below lr);have gB3:=Hy P.o.lt;have hw3:=Hy (show w.heap.size<w1.heap.size from L2.o.lt);have L3:=Hy L;replace L2:=Hy (L2.o.below bb L2.o.lt);replace P:=Hy (P.o.keeps bb);replace M:=Hy (M.o.nx (.of bb));clear bb hs L);generalize w1.heap.size=g3 at *;have hz2:=Hy L3.o.lt;refine (rE B l1 i a1 c1 _ P.o).mono ?_;rintro e w2 ⟨u2,x2,l2,a2,c2,rfl,v2,pp,mm,af2⟩;have AF2:=Hy af2;clear af2;replace L2:=bk1 L2 mm gB;replace L3:=bk2 L3 mm gB h23;replace M:=Hy (M.o.nx mm);replace P:=Hy pp;clear pp mm;obtain ⟨ua2,uc2,rfl,U2⟩:=v2;have V2:=Hy (U2.less (Nat.succ_le_of_lt hz2.o));clear U2 hz2;have f1:=L3.o.cell 7;have f2:=L3.o.free 7;simp only [sz2,sz3,sz4] at f1;obtain ⟨hb8,hs8⟩:=L3.o.setCell 7 (.slice ua2 x2.length uc2);have L3q:=Hy (show Blk _ g3 43 (exC (gP 2 x1 x2) ua2 uc2 none 0) from hb8);have L2q:=Hy (L2.o.st hs8 (by have:=h23.o;omega));have P8:=Hy (P.o.st hs8 (by have:=gB.o;have:=h23.o;omega));have M8:=Hy (M.o.trans (.st hs8 (.inr (by have:=h23.o;omega))));have V8:=Hy (V2.o.kp (hs8.kp ls));clear hb8 hs8;go_wp2_with (first | (refine aH aK Tryz.underlying43 rfl (.tmp 3) rfl rfl _ _ _ rfl L3q.o rfl ?_) | (refine aA aK (.tmp 2) (.tmp 31) rfl rfl _ _ _ _ rfl rfl L2q.o rfl rfl (aJ _ _ _ _ _) ?_;intro w9 hb9 hs9));refine aF rfl _ _ _ _ _ rfl hb9 rfl ?_;exact ⟨_,gP 2 x1 x2,l2,a2,c2,rfl,⟨ua2,uc2,none,0,rfl,⟨(V8.o.kp (hs9.kp (by have:=h23.o;omega))).less (by have:=h23.o;omega),.inl rfl⟩⟩,P8.o.st hs9 gB.o,M8.o.trans (.st hs9 (.inr lr)),(by rw [uO,if_pos HK.o];exact AF1.o.bind (AF2.o.bind (.pure _ _ _ _)))⟩
 by_cases g3:k=3
 ·subst g3
  go_enter Tryz.func184,Tryz.ntmps184
  go_wp2_with fail;clear e0 e3 k0;refine (jN B l i a 0 3 _ P.o).mono ?_;rintro e w1 ⟨u1,x1,l1,a1,c1,rfl,v1,pp,mm,af1⟩;have AF1:=Hy af1;clear af1;replace L2:=bk1 L2 mm gB;replace M:=Hy (M.o.nx mm);replace P:=Hy pp;clear pp mm;obtain ⟨rfl,zs1⟩:=v1;have ZS1:=Hy zs1;clear zs1;have AFD:=Hy (IE HP.o HL.o HK.o AF1.o);have CP:=Hy (oK x1.t ZS1.o);obtain ⟨⟨dv,dz⟩,hd9⟩:∃ d,rpP x1.t.data.toList=d:=⟨_,rfl⟩;rw [hd9] at AFD CP;clear hd9;go_wp2_with fail;refine (CP.o _).mono ?_;rintro e w9 ⟨rfl,hw9⟩;subst w9;clear CP;have h23:=Hy (show w.heap.size<w1.heap.size from L2.o.lt);go_wp2_with (refine aA aK (.tmp 6) (.tmp 43) rfl rfl _ _ _ _ rfl rfl (Blk.new _ _ _) rfl rfl (by simp [Value.oneCell']) ?_;intro w1L L hs;have bb:=(aj (b0 w1) _).trans (hs.below lr);have gB6:=Hy P.o.lt;have hw6:=Hy (show w.heap.size<w1.heap.size from L2.o.lt);have L6:=Hy L;replace L2:=Hy (L2.o.below bb L2.o.lt);replace P:=Hy (P.o.keeps bb);replace M:=Hy (M.o.nx (.of bb));clear bb hs L);generalize w1.heap.size=g3 at *;have hz2:=Hy L6.o.lt;refine (rE B l1 i a1 c1 _ P.o).mono ?_;rintro e w2 ⟨u2,x2,l2,a2,c2,rfl,v2,pp,mm,af2⟩;have AF2:=Hy af2;clear af2;replace L2:=bk1 L2 mm gB;replace L6:=bk2 L6 mm gB h23;replace M:=Hy (M.o.nx mm);replace P:=Hy pp;clear pp mm;obtain ⟨ua2,uc2,rfl,U2⟩:=v2;have V2:=Hy (U2.less (Nat.succ_le_of_lt hz2.o));clear U2 hz2;have f1:=L6.o.cell 7;have f2:=L6.o.free 7;simp only [sz2,sz3,sz4] at f1;obtain ⟨hb8,hs8⟩:=L6.o.setCell 7 (.slice ua2 x2.length uc2);have L3q:=Hy (show Blk _ g3 43 (exC (gP 3 dv x2) ua2 uc2 none 0) from hb8);have L2q:=Hy (L2.o.st hs8 (by have:=h23.o;omega));have P8:=Hy (P.o.st hs8 (by have:=gB.o;have:=h23.o;omega));have M8:=Hy (M.o.trans (.st hs8 (.inr (by have:=h23.o;omega))));have V8:=Hy (V2.o.kp (hs8.kp ls));clear hb8 hs8;go_wp2_with (first | (refine aH aK Tryz.underlying43 rfl (.tmp 6) rfl rfl _ _ _ rfl L3q.o rfl ?_) | (refine aA aK (.tmp 2) (.tmp 47) rfl rfl _ _ _ _ rfl rfl L2q.o rfl rfl (aJ _ _ _ _ _) ?_;intro w9 hb9 hs9));refine aF rfl _ _ _ _ _ rfl hb9 rfl ?_;exact ⟨_,gP 3 dv x2,l2,a2,c2,rfl,⟨ua2,uc2,none,0,rfl,⟨(V8.o.kp (hs9.kp (by have:=h23.o;omega))).less (by have:=h23.o;omega),.inl rfl⟩⟩,P8.o.st hs9 gB.o,M8.o.trans (.st hs9 (.inr lr)),(by rw [uO,if_neg (by rw [HK.o];decide),if_pos HK.o];exact AFD.o.bind (AF2.o.bind (.pure _ _ _ _)))⟩
 by_cases g4:k=4
 ·subst g4
  go_enter Tryz.func184,Tryz.ntmps184
  go_wp2_with fail;clear e0 e3 k0;refine (jN B l i a 0 4 _ P.o).mono ?_;rintro e w1 ⟨u1,x1,l1,a1,c1,rfl,v1,pp,mm,af1⟩;have AF1:=Hy af1;clear af1;replace L2:=bk1 L2 mm gB;replace M:=Hy (M.o.nx mm);replace P:=Hy pp;clear pp mm;obtain ⟨rfl,zs1⟩:=v1;have ZS1:=Hy zs1;clear zs1;go_wp2_with (refine aA aK (.tmp 2) (.tmp 54) rfl rfl _ _ _ _ rfl rfl L2.o rfl rfl (by simp [Value.oneCell']) ?_;intro w9 hb9 hs9);refine aF rfl _ _ _ _ _ rfl hb9 rfl ?_;exact ⟨_,Cg x1.t,l1,a1,c1,rfl,⟨none,0,none,0,rfl,⟨.inl rfl,.inl rfl⟩⟩,P.o.st hs9 gB.o,M.o.trans (.st hs9 (.inr lr)),(by rw [uO,if_neg (by rw [HK.o];decide),if_neg (by rw [HK.o];decide),if_pos HK.o,IZ (by decide)];exact AF1.o.bind (.pure _ _ _ _))⟩
 by_cases g1:k=1
 ·subst g1
  go_enter Tryz.func184,Tryz.ntmps184
  go_wp2_with fail;clear e0 e3 k0;have hz1:=Hy L2.o.lt;refine (WD0.o (by trivial) HK.o _ P.o).mono ?_;rintro e w1 ⟨u1,x1,l1,a1,c1,rfl,v1,pp,mm,af1⟩;have AF1:=Hy af1;clear af1;replace L2:=bk1 L2 mm gB;replace M:=Hy (M.o.nx mm);replace P:=Hy pp;clear pp mm;obtain ⟨ua1,uc1,aa1,ac1,rfl,U1⟩:=v1;have V1:=Hy U1;clear U1;replace V1:=Hy (V1.o.less (Nat.succ_le_of_lt hz1.o));go_wp2_with (refine aA aK (.tmp 2) (.tmp 58) rfl rfl _ _ _ _ rfl rfl L2.o rfl rfl (aJ _ _ _ _ _) ?_;intro w9 hb9 hs9);refine aF rfl _ _ _ _ _ rfl hb9 rfl ?_;exact ⟨_,x1,l1,a1,c1,rfl,jy V1.o hs9,P.o.st hs9 gB.o,M.o.trans (.st hs9 (.inr lr)),AF1.o⟩
 have q1:(k==2)=false:=bF g2;have q2:(k==3)=false:=bF g3;have q3:(k==4)=false:=bF g4;have q4:(k==1)=false:=bF g1;have ZO:=Hy (MN (i:=i) HP.o HL.o (by rw [HK.o];exact g1) (by rw [HK.o];exact g2) (by rw [HK.o];exact g3) (by rw [HK.o];exact g4));clear g1 g2 g3 g4
 go_enter Tryz.func184,Tryz.ntmps184
 go_wp2_with fail;clear e0 e3 k0;clear q1 q2 q3 q4;cases hf1:fnd ⟨#[64]⟩ l 0
 ·have HF1:=Hy (bS hf1);refine (bD B l i a 0 5 ⟨#[64]⟩ pw26 (by decide) _ P.o hf1).mono ?_;rintro e w1 ⟨rfl,pp,mm⟩;clear hf1;replace L2:=bk1 L2 mm gB;replace M:=Hy (M.o.nx mm);replace P:=Hy pp;clear pp mm;go_wp2_with fail;refine (bn B 5 ⟨#[40]⟩ pw22 (by decide) l i a 0 _ P.o).mono ?_;rintro e w2 ⟨u2,x2,l2,a2,c2,rfl,v2,pp,mm,af2⟩;have AF2:=Hy af2;clear af2;replace L2:=bk1 L2 mm gB;replace M:=Hy (M.o.nx mm);replace P:=Hy pp;clear pp mm;obtain rfl:u2=.tuple #[]:=v2;have LT2:=Hy (show c2=0→l2.length<l.length from fun hc=>by
    subst hc
    exact bH (AF2.o.fine (bJ _ _)).2.1)
  go_wp2_with fail;have hz3:=Hy L2.o.lt;refine (HX0.o B i l2 a2 c2 _ P.o (HG.o l2 c2 rfl LT2.o)).mono ?_;rintro e w3 ⟨u3,x3,l3,a3,c3,rfl,v3,pp,mm,af3⟩;have AF3:=Hy af3;clear af3;replace L2:=bk1 L2 mm gB;replace M:=Hy (M.o.nx mm);replace P:=Hy pp;clear pp mm;obtain ⟨ua3,uc3,aa3,ac3,rfl,U3⟩:=v3;have V3:=Hy U3;clear U3;replace V3:=Hy (V3.o.less (Nat.succ_le_of_lt hz3.o));go_wp2_with (refine aA aK (.tmp 7) (.tmp 66) rfl rfl _ _ _ _ rfl rfl (Blk.new _ _ _) rfl rfl (aJ _ _ _ _ _) ?_;intro w3L L hs;have bb:=(aj (b0 w3) _).trans (hs.below lr);have gB7:=Hy P.o.lt;have hw7:=Hy (show w.heap.size<w3.heap.size from L2.o.lt);have L7:=Hy L;replace L2:=Hy (L2.o.below bb L2.o.lt);replace V3:=Hy (V3.o.kp (aG bb));replace P:=Hy (P.o.keeps bb);replace M:=Hy (M.o.nx (.of bb));clear bb hs L);refine (bn B 5 ⟨#[41]⟩ pw23 (by decide) l3 i a3 c3 _ P.o).mono ?_;rintro e w4 ⟨u4,x4,l4,a4,c4,rfl,v4,pp,mm,af4⟩;have AF4:=Hy af4;clear af4;replace L2:=bk1 L2 mm gB;replace V3:=Hy (V3.o.kp (mm.kp (by have:=gB.o;omega)));replace L7:=bk1 L7 mm gB7;replace M:=Hy (M.o.nx mm);replace P:=Hy pp;clear pp mm;obtain rfl:u4=.tuple #[]:=v4;go_wp2_with (first | (refine aH aK Tryz.underlying43 rfl (.tmp 7) rfl rfl _ _ _ rfl L7.o rfl ?_) | (refine aA aK (.tmp 2) (.tmp 69) rfl rfl _ _ _ _ rfl rfl L2.o rfl rfl (aJ _ _ _ _ _) ?_;intro w9 hb9 hs9));refine aF rfl _ _ _ _ _ rfl hb9 rfl ?_;exact ⟨_,x3,l4,a4,c4,rfl,jy V3.o hs9,P.o.st hs9 gB.o,M.o.trans (.st hs9 (.inr lr)),(by rw [ZO.o,if_neg (fun h=>HF1.o ⟨by trivial,h⟩)];exact xX AF2.o AF3.o AF4.o)⟩
 have HF1:=Hy (bg hf1);refine (bC B l i a 0 5 ⟨#[64]⟩ pw26 (by decide) _ P.o hf1).mono ?_;rintro e w1 ⟨rfl,pp,mm⟩;clear hf1;replace L2:=bk1 L2 mm gB;replace M:=Hy (M.o.nx mm);replace P:=Hy pp;clear pp mm;go_wp2_with fail;have hz2:=Hy L2.o.lt;refine (Qn B l.tail i a 0 _ P.o).mono ?_;rintro e w2 ⟨u2,x2,l2,a2,c2,rfl,v2,pp,mm,af2⟩;have AF2:=Hy af2;clear af2;replace L2:=bk1 L2 mm gB;replace M:=Hy (M.o.nx mm);replace P:=Hy pp;clear pp mm;obtain ⟨ua2,uc2,aa2,ac2,rfl,U2⟩:=v2;have V2:=Hy U2;clear U2;replace V2:=Hy (V2.o.less (Nat.succ_le_of_lt hz2.o));go_wp2_with (refine aA aK (.tmp 2) (.tmp 62) rfl rfl _ _ _ _ rfl rfl L2.o rfl rfl (aJ _ _ _ _ _) ?_;intro w9 hb9 hs9);refine aF rfl _ _ _ _ _ rfl hb9 rfl ?_;exact ⟨_,x2,l2,a2,c2,rfl,jy V2.o hs9,P.o.st hs9 gB.o,M.o.trans (.st hs9 (.inr lr)),(by rw [ZO.o,if_pos HF1.o.2,key_eq HF1.o.2];exact .tl rfl AF2.o)⟩
theorem Gg (B:Nat) (l:List Tk) (i:Bool) (a c:Int) (w:World) (h:Rp w B l i a c) (G:List Tk→Int→Prop) (hG:Sht G l c) (HO:COp G) (NX:∀ w,Rp w B l i a c→Calls Tryz.prog 91 #[.pointer (some ⟨B,0,none⟩),.int .i64 4] w (Qst B Ev (Z i (.op 4) l) l i a c w)) :
    Calls Tryz.prog 91 #[.pointer (some ⟨B,0,none⟩),.int .i64 ((3:Nat):Int)] w (Qst B Ev (Z i (.op 3) l) l i a c w):=by
 have gB:=Hy h.lt;have bb:=aj (b0 w) (.cells #[.int .i64 0,.string ⟨#[]⟩,.string ⟨#[]⟩,.string ⟨#[]⟩,.int .i64 0,.int .i64 0,.string ⟨#[]⟩,.slice none 0 0,.int .i64 0,.int .i64 0,.int .i64 0,.slice none 0 0] 43);have P:=Hy (h.keeps bb);have M:=Hy (Mx.of (B:=B) bb);have L2:=Hy (Blk.new w 43 #[.int .i64 0,.string ⟨#[]⟩,.string ⟨#[]⟩,.string ⟨#[]⟩,.int .i64 0,.int .i64 0,.string ⟨#[]⟩,.slice none 0 0,.int .i64 0,.int .i64 0,.int .i64 0,.slice none 0 0]);clear h bb;have HO0:=Hy HO;have NX0:=Hy NX;have HG:=Hy hG;clear HO NX hG
 go_enter Tryz.func91,Tryz.ntmps91
 go_wp2_with fail;cases hf1:fnd ⟨#[110,111,116]⟩ l c
 ·have HF1:=Hy (bS hf1);refine (bD B l i a c 1 ⟨#[110,111,116]⟩ pw27 (by decide) _ P.o hf1).mono ?_;rintro e w1 ⟨rfl,pp,mm⟩;clear hf1;replace L2:=bk1 L2 mm gB;replace M:=Hy (M.o.nx mm);replace P:=Hy pp;clear pp mm;go_wp2_with fail;have hz2:=Hy L2.o.lt;refine (NX0.o _ P.o).mono ?_;rintro e w2 ⟨u2,x2,l2,a2,c2,rfl,v2,pp,mm,af2⟩;have AF2:=Hy af2;clear af2;replace L2:=bk1 L2 mm gB;replace M:=Hy (M.o.nx mm);replace P:=Hy pp;clear pp mm;obtain ⟨ua2,uc2,aa2,ac2,rfl,U2⟩:=v2;have V2:=Hy U2;clear U2;replace V2:=Hy (V2.o.less (Nat.succ_le_of_lt hz2.o));have VQ:=Hy (fU (q:=fun b=>w.heap.size+1≤b∧b≠w2.heap.size) V2.o (fun b h1 h2=>⟨h1,by omega⟩));clear V2;go_wp2_with ((refine aA aK (.tmp 5) (.tmp 24) rfl rfl _ _ _ _ rfl rfl (Blk.new _ _ _) rfl rfl (aJ _ _ _ _ _) ?_;intro w2L L hs;have bb:=(aj (b0 w2) _).trans (hs.below lr);have gB5:=Hy P.o.lt;have hw5:=Hy (show w.heap.size<w2.heap.size from L2.o.lt);have L5:=Hy L;replace L2:=Hy (L2.o.below bb L2.o.lt);replace VQ:=Hy (VQ.o.keep (bT bb));replace P:=Hy (P.o.keeps bb);replace M:=Hy (M.o.nx (.of bb));clear bb hs L));have ZR:=Hy (fun y l9 a9 c9 (h:Aft (Z i (.tl 3 4 x2) l2) l2 a2 c2 y l9 a9 c9)=>show Aft (Z i (.op 3) l) l a c y l9 a9 c9 from (by rw [show Z i (.op 3) l=if isT ⟨#[110,111,116]⟩ l=true then (Z i (.op 3) l.tail).bind fun x r=>.ok (fP ⟨#[110,111,116]⟩ x) r else (Z i (.op 4) l).bind fun x r=>Z i (.tl 3 4 x) r from by split;exact Js i (by assumption);exact Gj i (by decide) (by decide) (by rintro ⟨_,h⟩;contradiction)];exact .nay HF1.o (AF2.o.bind h)));have AF0:=Hy (show c2=0→c=0∧l2.length<l.length from fun hc=>by
    subst hc
    have h0:=AF2.o.fine (fC (m:=.op 4) (show 4≤6 by decide))
    have h1:=iH h0.2.1
    simp only [Md.le] at h1
    exact ⟨h0.1,by omega⟩)
  clear AF2 NX0;refine (j3 B 3 (by decide) (by decide) l2 i a2 c2 _ P.o).mono ?_;rintro e w3 ⟨rfl,pp,mm⟩;replace L2:=bk1 L2 mm gB;replace VQ:=Hy (VQ.o.keep (bY mm (by have:=gB.o;rintro ⟨h,_⟩;omega)));replace L5:=bk1 L5 mm gB5;replace M:=Hy (M.o.nx mm);replace P:=Hy pp;clear pp mm;go_wp2_with fail;have hl5:=Hy (show w.heap.size<w2.heap.size from hw5.o);generalize w2.heap.size=g5 at *
  go_loopg [6] (l2.length+1) (fun k vo wr => ∃ (x:Ex) (ua aa:Option Addr) (uc ac:Nat) (l':List Tk) (a' c':Int),vo=.string (opF 3 l' c')∧Hid (Rp wr B (Otl 3 l' c') i a' c')∧Hid (Mx w.heap.size B w wr)∧Hid (Blk wr w.heap.size 43 #[.int .i64 0,.string ⟨#[]⟩,.string ⟨#[]⟩,.string ⟨#[]⟩,.int .i64 0,.int .i64 0,.string ⟨#[]⟩,.slice none 0 0,.int .i64 0,.int .i64 0,.int .i64 0,.slice none 0 0])∧Hid (Blk wr g5 43 (exC x ua uc aa ac))∧Hid (EcQ (fun b=>w.heap.size+1≤b∧b≠g5) wr x ua aa)∧Hid (∀ y l9 a9 c9,Aft (Z i (.tl 3 4 x) l') l' a' c' y l9 a9 c9→Aft (Z i (.op 3) l) l a c y l9 a9 c9)∧Hid (0<k∧(c'=0→l'.length<k∧c=0∧l'.length<l.length)))
  case atStart=>exact ⟨x2,ua2,aa2,uc2,ac2,l2,a2,c2,rfl,P,M,L2,L5,VQ,ZR,Hy ⟨Nat.succ_pos _,fun hc=>⟨Nat.lt_succ_self _,AF0.o hc⟩⟩⟩
  case round =>
   clear P M L2 L5 VQ ZR AF0;obtain ⟨x,ua,aa,uc,ac,l',a',c',rfl,P,M,L2,L5,V,ZR,hk⟩:=hrel;rcases gk with _ | gk
   ·exact absurd hk.o.1 (Nat.lt_irrefl _)
   by_cases ho:opF 3 l' c'=.empty
   ·have q8:(opF 3 l' c' != ByteArray.empty)=false:=by rw [ho];rfl
    have AE:=Hy (ZR.o x (Otl 3 l' c') a' c' (by
      have e:Otl 3 l' c'=l':=by unfold Otl;rw [if_pos ho]
      rw [e]
      by_cases hc:c'=0
      · rw [nZ i (n:=3) (by decide),if_pos (by unfold opF at ho;rw [if_pos hc] at ho;exact ho)]
        exact .pure _ _ _ _
      · exact .still _ _ _ hc _))
    have q9:(opF 3 l' c').toList.isEmpty=true:=by rw [ho];exact Jo
    clear ZR hk ho;generalize opF 3 l' c'=op at *;generalize Otl 3 l' c'=lo at *;go_wp2_with (first | (refine aH aK Tryz.underlying43 rfl (.tmp 5) rfl rfl _ _ _ rfl L5.o rfl ?_) | (refine aA aK (.tmp 4) (.tmp 44) rfl rfl _ _ _ _ rfl rfl L2.o rfl rfl (aJ _ _ _ _ _) ?_;intro w9 hb9 hs9));refine aF rfl _ _ _ _ _ rfl hb9 rfl ?_;exact ⟨_,x,lo,a',c',rfl,jy (fT V.o fun b h=>h.1) hs9,P.o.st hs9 gB.o,M.o.trans (.st hs9 (.inr lr)),AE.o⟩
   obtain ⟨hc0,ho1,ho2,ho3⟩:=yg ho;subst hc0;have q9:(opF 3 l' 0).toList.isEmpty=false:=FP ho;have hdf:=Hy (Au (r:=3) (by decide) (by decide) _ (Aq ho2));rw [← ho1] at hdf;have HT:=Hy (jl ho2);have HO1:=Hy ho1;have HO2:=Hy ho2;rw [ho3] at P;have hne:=P.o.tl.ne;have htl:=Hy (aP (jl ho2));have hc00:=Hy (hk.o.2 (by trivial)).2.1
   have hl2:=Hy (show 1≤l'.tail.length from by cases hq:l'.tail with
     | nil=>exact absurd hq hne
     | cons _ _=>simp)
   clear ho1 ho2 ho3 hne ho;have HC:=Hy (show ∀ W,Rp W B l'.tail i a' 0→Calls Tryz.prog 91 #[.pointer (some ⟨B,0,none⟩),.int .i64 4] W (Qst B Ev (Z i (.op 4) l'.tail) l'.tail i a' 0 W) from fun W hW=>HO0.o 4 (by decide) (by decide) B i l'.tail a' 0 W hW (HG.o l'.tail 0 hc00.o (fun _=>by have:=htl.o;have:=(hk.o.2 (by trivial)).2.2;omega)));generalize opF 3 l' 0=op at *;go_wp2_with fail;replace P:=Hy (P.o.keeps (b0 _).drew);replace M:=Hy (M.o.nx (.of (b0 wr).drew));replace L2:=Hy (L2.o.below (b0 wr).drew L2.o.lt);replace L5:=Hy (L5.o.below (b0 wr).drew L5.o.lt);replace V:=Hy (V.o.keep (bT (b0 wr).drew));refine wp_region_held_drew (S:=fun _=>True) (by kernel_rfl) trivial (fun hH=>?_);refine aB 0 30 ?_ rfl (by kernel_rfl) rfl (fun _ _ _ h=>h) rfl hH (fun w' hS=>?_) ?_;rotate_left
   ·go_simp;try with_reducible rfl
   simp only [sz0,sz1];refine aB 2 32 ?_ rfl (by kernel_rfl) rfl (fun _ _ _ h=>h) rfl hH (fun w' hS=>?_) ?_;rotate_left
   ·go_simp;try with_reducible rfl
   simp only [sz0,sz1];refine aB 3 33 ?_ rfl (by kernel_rfl) rfl (fun _ _ _ h=>h) rfl hH (fun w' hS=>?_) ?_;rotate_left
   ·go_simp;try with_reducible rfl
   simp only [sz0,sz1];refine aB 4 34 ?_ rfl (by kernel_rfl) rfl (fun _ _ _ h=>h) rfl hH (fun w' hS=>?_) ?_;rotate_left
   ·go_simp;try with_reducible rfl
   simp only [sz0,sz1];skip;refine bI (i:=1) (j:=5) rfl rfl (by kernel_rfl) rfl rfl (fun K hK=>?_) (fun K hK=>?_)
   ·refine fF (.tmp 5) rfl _ _ _ rfl L5.o rfl ?_;refine hK.o _ _ trivial (fun hH=>?_);clear hK K;refine ak (i:=5) rfl (by kernel_rfl) rfl (fun K hK=>?_);go_simp;refine (HC.o _ P.o).mono ?_;rintro e w3 ⟨u3,x3,l3,a3,c3,rfl,v3,pp,mm,af3⟩;obtain ⟨ua3,uc3,aa3,ac3,rfl,E3⟩:=v3;have hz3:=L2.o.lt;have hz5:=L5.o.lt;have V3:=Hy (fU (q:=fun b=>w.heap.size+1≤b∧b≠g5) E3 (fun b h1 _=>⟨by omega,by omega⟩));have AF3:=Hy af3;clear af3 E3;replace L2:=bk1 L2 mm gB;replace L5:=bk1 L5 mm gB5;replace V:=Hy (V.o.keep (bY mm (by have:=gB.o;rintro ⟨h,_⟩;omega)));replace M:=Hy (M.o.nx mm);replace P:=Hy pp;clear pp mm hz3 hz5;refine hK.o _ _ trivial (fun hH=>?_);clear hK K;refine ak (i:=6) rfl (by kernel_rfl) rfl (fun K hK=>?_);simp only [exC];go_simp;refine hK.o _ _ trivial (fun hH=>?_);clear hK K;refine ak (i:=7) rfl (by kernel_rfl) rfl (fun K hK=>?_);go_simp;refine hK.o _ _ trivial (fun hH=>?_);clear hK K;refine ak (i:=8) rfl (by kernel_rfl) rfl (fun K hK=>?_);refine dG (.tmp 5) (.tmp 37) rfl _ _ _ _ rfl rfl (L5.o.past _) rfl rfl (by simp [Value.oneCell']) ?_;intro w9 hb9 hs9;refine hK.o _ _ trivial (fun hH=>?_);clear hK K;have hB:=Blk.new w3 43 (ex2 x ua uc aa ac x3 ua3 uc3 aa3 ac3);have bb:=aj (b0 w3) (.cells (ex2 x ua uc aa ac x3 ua3 uc3 aa3 ac3) 43);have hlt5:=hl5.o;have L5':=Hy (show Blk w9 g5 43 (exC (aT op x x3) none 0 (some ⟨w3.heap.size,0,none⟩) 2) from by unfold aT;rw [if_neg hdf.o];exact hb9);have hz2:=L2.o.lt;have hz5:=L5.o.lt;have V':=Hy (show EcQ (fun b=>w.heap.size+1≤b∧b≠g5) w9 (aT op x x3) none (some ⟨w3.heap.size,0,none⟩) from by
      have A9:EcQ (fun b=>w.heap.size+1≤b∧b≠g5) _ ⟨{ h0 with k:=7,op:=op },.cons x.h x.ar (.cons x3.h x3.ar .nil)⟩ none (some ⟨w3.heap.size,0,none⟩):=⟨.inl rfl,qj hB (V.o.keep (bT bb)) (V3.o.keep (bT bb)) ⟨by omega,by omega⟩⟩
      unfold aT
      rw [if_neg hdf.o]
      exact A9.keep (fu hs9 (by rintro ⟨_,h⟩;exact h rfl)))
    have L2':=Hy ((L2.o.past (.cells (ex2 x ua uc aa ac x3 ua3 uc3 aa3 ac3) 43)).st hs9 (by omega));have P':=Hy ((P.o.keeps bb).st hs9 gB5.o);have M':=Hy ((M.o.nx (.of bb)).trans (.st hs9 (.inr (Nat.le_of_lt hlt5))));have HK2:=Hy (show 0<gk∧(c3=0→l3.length<gk∧c=0∧l3.length<l.length) from by
      have h1:=(hk.o.2 (by trivial))
      have h2:=hl2.o
      have h3:=htl.o
      refine ⟨by omega,fun hc=>?_⟩
      subst hc
      have h4:=iH (AF3.o.fine (fC (m:=.op 4) (show 4≤6 by decide))).2.1
      simp only [Md.le] at h4
      exact ⟨by omega,h1.2.1,by omega⟩)
    have ZR2:=Hy (show Aft (Z i (.op 3) l) l a c (aT op x x3) l3 a3 c3 from ZR.o _ _ _ _ (by rw [nZ i (n:=3) (by decide),if_neg HO2.o];exact .tl rfl (AF3.o.bind (by rw [if_pos rfl,← HO1.o];exact .pure _ _ _ _))));clear hB bb hs9 hb9 L5 V V3 L2 P M ZR hk hlt5 AF3 hz2 hz5;refine wpAnyH_done (by kernel_rfl) ?_ _;go_wp2_with (first | (refine aH aK Tryz.underlying43 rfl (.tmp 5) rfl rfl _ _ _ rfl L5'.o rfl ?_) | (refine aA aK (.tmp 4) (.tmp 40) rfl rfl _ _ _ _ rfl rfl L2'.o rfl rfl (aJ _ _ _ _ _) ?_;intro w9 hb9 hs9));refine aF rfl _ _ _ _ _ rfl hb9 rfl ?_;exact ⟨_,aT op x x3,l3,a3,c3,rfl,jy (fT V'.o fun b h=>h.1) hs9,P'.o.st hs9 gB.o,M'.o.trans (.st hs9 (.inr lr)),ZR2.o⟩
   go_simp;refine (HC.o _ P.o).mono ?_;rintro e w3 ⟨u3,x3,l3,a3,c3,rfl,v3,pp,mm,af3⟩;obtain ⟨ua3,uc3,aa3,ac3,rfl,E3⟩:=v3;have hz3:=L2.o.lt;have hz5:=L5.o.lt;have V3:=Hy (fU (q:=fun b=>w.heap.size+1≤b∧b≠g5) E3 (fun b h1 _=>⟨by omega,by omega⟩));have AF3:=Hy af3;clear af3 E3;replace L2:=bk1 L2 mm gB;replace L5:=bk1 L5 mm gB5;replace V:=Hy (V.o.keep (bY mm (by have:=gB.o;rintro ⟨h,_⟩;omega)));replace M:=Hy (M.o.nx mm);replace P:=Hy pp;clear pp mm hz3 hz5;refine hK.o _ _ trivial (fun hH=>?_);clear hK K;refine ak (i:=1) rfl (by kernel_rfl) rfl (fun K hK=>?_);refine fF (.tmp 5) rfl _ _ _ rfl L5.o rfl ?_;refine hK.o _ _ trivial (fun hH=>?_);clear hK K;refine ak (i:=6) rfl (by kernel_rfl) rfl (fun K hK=>?_);simp only [exC];go_simp;refine hK.o _ _ trivial (fun hH=>?_);clear hK K;refine ak (i:=7) rfl (by kernel_rfl) rfl (fun K hK=>?_);go_simp;refine hK.o _ _ trivial (fun hH=>?_);clear hK K;refine ak (i:=8) rfl (by kernel_rfl) rfl (fun K hK=>?_);refine dG (.tmp 5) (.tmp 37) rfl _ _ _ _ rfl rfl (L5.o.past _) rfl rfl (by simp [Value.oneCell']) ?_;intro w9 hb9 hs9;refine hK.o _ _ trivial (fun hH=>?_);clear hK K;have hB:=Blk.new w3 43 (ex2 x ua uc aa ac x3 ua3 uc3 aa3 ac3);have bb:=aj (b0 w3) (.cells (ex2 x ua uc aa ac x3 ua3 uc3 aa3 ac3) 43);have hlt5:=hl5.o;have L5':=Hy (show Blk w9 g5 43 (exC (aT op x x3) none 0 (some ⟨w3.heap.size,0,none⟩) 2) from by unfold aT;rw [if_neg hdf.o];exact hb9);have hz2:=L2.o.lt;have hz5:=L5.o.lt;have V':=Hy (show EcQ (fun b=>w.heap.size+1≤b∧b≠g5) w9 (aT op x x3) none (some ⟨w3.heap.size,0,none⟩) from by
     have A9:EcQ (fun b=>w.heap.size+1≤b∧b≠g5) _ ⟨{ h0 with k:=7,op:=op },.cons x.h x.ar (.cons x3.h x3.ar .nil)⟩ none (some ⟨w3.heap.size,0,none⟩):=⟨.inl rfl,qj hB (V.o.keep (bT bb)) (V3.o.keep (bT bb)) ⟨by omega,by omega⟩⟩
     unfold aT
     rw [if_neg hdf.o]
     exact A9.keep (fu hs9 (by rintro ⟨_,h⟩;exact h rfl)))
   have L2':=Hy ((L2.o.past (.cells (ex2 x ua uc aa ac x3 ua3 uc3 aa3 ac3) 43)).st hs9 (by omega));have P':=Hy ((P.o.keeps bb).st hs9 gB5.o);have M':=Hy ((M.o.nx (.of bb)).trans (.st hs9 (.inr (Nat.le_of_lt hlt5))));have HK2:=Hy (show 0<gk∧(c3=0→l3.length<gk∧c=0∧l3.length<l.length) from by
     have h1:=(hk.o.2 (by trivial))
     have h2:=hl2.o
     have h3:=htl.o
     refine ⟨by omega,fun hc=>?_⟩
     subst hc
     have h4:=iH (AF3.o.fine (fC (m:=.op 4) (show 4≤6 by decide))).2.1
     simp only [Md.le] at h4
     exact ⟨by omega,h1.2.1,by omega⟩)
   have ZR2:=Hy (show Aft (Z i (.op 3) l) l a c (aT op x x3) l3 a3 c3 from ZR.o _ _ _ _ (by rw [nZ i (n:=3) (by decide),if_neg HO2.o];exact .tl rfl (AF3.o.bind (by rw [if_pos rfl,← HO1.o];exact .pure _ _ _ _))));clear hB bb hs9 hb9 L5 V V3 L2 P M ZR hk hlt5 AF3 hz2 hz5;refine wpAnyH_done (by kernel_rfl) ?_ _;go_wp2_with (first | (refine aH aK Tryz.underlying43 rfl (.tmp 5) rfl rfl _ _ _ rfl L5'.o rfl ?_) | (refine aA aK (.tmp 4) (.tmp 40) rfl rfl _ _ _ _ rfl rfl L2'.o rfl rfl (aJ _ _ _ _ _) ?_;intro w9 hb9 hs9));refine aF rfl _ _ _ _ _ rfl hb9 rfl ?_;exact ⟨_,aT op x x3,l3,a3,c3,rfl,jy (fT V'.o fun b h=>h.1) hs9,P'.o.st hs9 gB.o,M'.o.trans (.st hs9 (.inr lr)),ZR2.o⟩
 have HF1:=Hy (bg hf1);refine (bC B l i a c 1 ⟨#[110,111,116]⟩ pw27 (by decide) _ P.o hf1).mono ?_;rintro e w1 ⟨rfl,pp,mm⟩;clear hf1;replace L2:=bk1 L2 mm gB;replace M:=Hy (M.o.nx mm);replace P:=Hy pp;clear pp mm;go_wp2_with fail;have hz2:=Hy L2.o.lt;refine (HO0.o 3 (by decide) (by decide) B i l.tail a c _ P.o (HG.o l.tail c HF1.o.1 (fun _=>aP HF1.o.2))).mono ?_;rintro e w2 ⟨u2,x2,l2,a2,c2,rfl,v2,pp,mm,af2⟩;have AF2:=Hy af2;clear af2;replace L2:=bk1 L2 mm gB;replace M:=Hy (M.o.nx mm);replace P:=Hy pp;clear pp mm;obtain ⟨ua2,uc2,aa2,ac2,rfl,U2⟩:=v2;have V2:=Hy U2;clear U2;replace V2:=Hy (V2.o.less (Nat.succ_le_of_lt hz2.o));simp only [exC];go_wp2_with (first | (refine aA aK (.tmp 4) (.tmp 20) rfl rfl _ _ _ _ rfl rfl (L2.o.past _) rfl rfl (by simp [Value.oneCell']) ?_;intro w9 hb9 hs9));have hB:=Blk.new w2 43 (ex1 x2 ua2 uc2 aa2 ac2);have bb:=aj (b0 w2) (.cells (ex1 x2 ua2 uc2 aa2 ac2) 43);have A9:=((uN hB (V2.o.kp (aG bb)) L2.o.lt).kp (hs9.kp ls)).less (Nat.le_succ w.heap.size);refine aF rfl _ _ _ _ _ rfl hb9 rfl ?_;exact ⟨_,fP ⟨#[110,111,116]⟩ x2,l2,a2,c2,rfl,⟨none,0,some ⟨w2.heap.size,0,none⟩,1,rfl,⟨.inl rfl,A9⟩⟩,(P.o.keeps bb).st hs9 gB.o,(M.o.nx (.of bb)).trans (.st hs9 (.inr lr)),(by rw [Js i HF1.o.2];exact .tl HF1.o.1 (AF2.o.bind (.pure _ _ _ _)))⟩
end rr
end Go.Proofs.YtbpijgddfaefkaaGreatDoor
