/-
  The reference's reader: types, windows; The reference's reader: operators, words of aggregates, keys; The reference's reader: keys; Expressions in memory whose blocks keep a condition.
-/
import Derived.Test.YtbpijgddfaefkaaGreatDoorK28
set_option maxRecDepth 100000
set_option maxHeartbeats 16000000
namespace Go.Proofs.YtbpijgddfaefkaaGreatDoor
namespace rr
open Go.RowKit dec pa
theorem uq {α:Type} (s:ByteArray) (l:List Tk) (g:Unit→List Tk→Rs α):(need s l).bind g=if isT s l=true then g () l.tail else wrg l:=by
 unfold need;split <;> rfl
theorem y8 {α:Type} {s:ByteArray} {l l2:List Tk} {g:Unit→List Tk→Rs α} {a c a2 c2:Int} {y:α} (h:Aft ((need s l).bind g) l a c y l2 a2 c2):Aft (if isT s l=true then g () l.tail else wrg l) l a c y l2 a2 c2:=by
 rw [uq] at h;exact h
theorem IY {C g:Nat} {w w':World} {a:Option Addr} {l:List un.Fa} {t:Ty} {c:Nat} {v:Value} (h:Us C w a l) (hs:St g w w') (hg:g<C:=by omega) (hv:v=.agg #[.int .i64 t.k,.slice a l.length c,.string t.of]:=by rfl) (ht:t.un=l:=by rfl):Tv g w' v t:=by
 subst ht;exact ⟨a,c,hv,(h.kp (hs.kp hg)).less (Nat.le_of_lt hg)⟩
theorem Dz (B:Nat) (l:List Tk) (i:Bool) (a c:Int) (w:World) (h:Rp w B l i a c) :
    Calls Tryz.prog 52 #[.pointer (some ⟨B,0,none⟩)] w (Qst B Tv (typ l) l i a c w):=by
 have gB:=Hy h.lt;have bb:=aj (b0 w) (.cells #[.int .i64 0,.slice none 0 0,.string ⟨#[]⟩] 47);have P:=Hy (h.keeps bb);have M:=Hy (Mx.of (B:=B) bb);have L2:=Hy (Blk.new w 47 #[.int .i64 0,.slice none 0 0,.string ⟨#[]⟩]);clear h bb
 go_enter Tryz.func52,Tryz.ntmps52
 go_wp2_with fail;cases hf1:fnd ⟨#[98,111,111,108]⟩ l c
 ·have HF1:=Hy (bS hf1);refine (bD B l i a c 1 ⟨#[98,111,111,108]⟩ pw5 (by decide) _ P.o hf1).mono ?_;rintro e w1 ⟨rfl,pp,mm⟩;clear hf1;replace L2:=bk1 L2 mm gB;replace M:=Hy (M.o.nx mm);replace P:=Hy pp;clear pp mm;go_wp2_with fail;cases hf2:fnd ⟨#[116,101,120,116]⟩ l c
  ·have HF2:=Hy (bS hf2);refine (bD B l i a c 1 ⟨#[116,101,120,116]⟩ pw6 (by decide) _ P.o hf2).mono ?_;rintro e w2 ⟨rfl,pp,mm⟩;clear hf2;replace L2:=bk1 L2 mm gB;replace M:=Hy (M.o.nx mm);replace P:=Hy pp;clear pp mm;go_wp2_with fail;cases hf3:fnd ⟨#[107,101,121]⟩ l c
   ·have HF3:=Hy (bS hf3);refine (bD B l i a c 1 ⟨#[107,101,121]⟩ pw7 (by decide) _ P.o hf3).mono ?_;rintro e w3 ⟨rfl,pp,mm⟩;clear hf3;replace L2:=bk1 L2 mm gB;replace M:=Hy (M.o.nx mm);replace P:=Hy pp;clear pp mm;go_wp2_with fail;cases hf4:fnd ⟨#[105,110,116]⟩ l c
    ·have HF4:=Hy (bS hf4);refine (bD B l i a c 1 ⟨#[105,110,116]⟩ pw8 (by decide) _ P.o hf4).mono ?_;rintro e w4 ⟨rfl,pp,mm⟩;clear hf4;replace L2:=bk1 L2 mm gB;replace M:=Hy (M.o.nx mm);replace P:=Hy pp;clear pp mm;go_wp2_with fail;go_wp2_with fail;refine (bn B 1 ⟨#[100,101,99]⟩ pw9 (by decide) l i a c _ P.o).mono ?_;rintro e w5 ⟨u5,x5,l5,a5,c5,rfl,v5,pp,mm,af5⟩;have AF5:=Hy af5;clear af5;replace L2:=bk1 L2 mm gB;replace M:=Hy (M.o.nx mm);replace P:=Hy pp;clear pp mm;obtain rfl:u5=.tuple #[]:=v5;go_wp2_with fail;have hz6:=Hy L2.o.lt;refine (rE B l5 i a5 c5 _ P.o).mono ?_;rintro e w6 ⟨u6,x6,l6,a6,c6,rfl,v6,pp,mm,af6⟩;have AF6:=Hy af6;clear af6;replace L2:=bk1 L2 mm gB;replace M:=Hy (M.o.nx mm);replace P:=Hy pp;clear pp mm;obtain ⟨ua6,uc6,rfl,U6⟩:=v6;have V6:=Hy U6;clear U6;replace V6:=Hy (V6.o.less (Nat.succ_le_of_lt hz6.o));go_wp2_with (first | (refine aA bq (.tmp 2) (.tmp 23) rfl rfl _ _ _ _ rfl rfl L2.o rfl rfl (by simp [Value.oneCell']) ?_;intro w9 hb9 hs9));refine bO bq Tryz.underlying47 rfl rfl _ _ _ _ _ rfl hb9 rfl ?_;exact ⟨_,⟨3,x6,.empty⟩,l6,a6,c6,rfl,IY V6.o hs9,P.o.st hs9 gB.o,M.o.trans (.st hs9 (.inr lr)),(by unfold typ;exact (.nay HF1.o (.nay HF2.o (.nay HF3.o (.nay HF4.o (y8 (g:=fun _ r=>(uni r).bind fun u r=>.ok (⟨3,u,.empty⟩:Ty) r) (AF5.o.bind (AF6.o.bind (.pure _ _ _ _)))))))))⟩
    have HF4:=Hy (bg hf4);refine (bC B l i a c 1 ⟨#[105,110,116]⟩ pw8 (by decide) _ P.o hf4).mono ?_;rintro e w4 ⟨rfl,pp,mm⟩;clear hf4;replace L2:=bk1 L2 mm gB;replace M:=Hy (M.o.nx mm);replace P:=Hy pp;clear pp mm;go_wp2_with fail;have hz5:=Hy L2.o.lt;refine (rE B l.tail i a c _ P.o).mono ?_;rintro e w5 ⟨u5,x5,l5,a5,c5,rfl,v5,pp,mm,af5⟩;have AF5:=Hy af5;clear af5;replace L2:=bk1 L2 mm gB;replace M:=Hy (M.o.nx mm);replace P:=Hy pp;clear pp mm;obtain ⟨ua5,uc5,rfl,U5⟩:=v5;have V5:=Hy U5;clear U5;replace V5:=Hy (V5.o.less (Nat.succ_le_of_lt hz5.o));go_wp2_with (first | (refine aA bq (.tmp 2) (.tmp 18) rfl rfl _ _ _ _ rfl rfl L2.o rfl rfl (by simp [Value.oneCell']) ?_;intro w9 hb9 hs9));refine bO bq Tryz.underlying47 rfl rfl _ _ _ _ _ rfl hb9 rfl ?_;exact ⟨_,⟨2,x5,.empty⟩,l5,a5,c5,rfl,IY V5.o hs9,P.o.st hs9 gB.o,M.o.trans (.st hs9 (.inr lr)),(by unfold typ;exact (.nay HF1.o (.nay HF2.o (.nay HF3.o (.yes HF4.o.1 HF4.o.2 (AF5.o.bind (.pure _ _ _ _)))))))⟩
   have HF3:=Hy (bg hf3);refine (bC B l i a c 1 ⟨#[107,101,121]⟩ pw7 (by decide) _ P.o hf3).mono ?_;rintro e w3 ⟨rfl,pp,mm⟩;clear hf3;replace L2:=bk1 L2 mm gB;replace M:=Hy (M.o.nx mm);replace P:=Hy pp;clear pp mm;go_wp2_with fail;refine (gF B l.tail i a c _ P.o).mono ?_;rintro e w4 ⟨u4,x4,l4,a4,c4,rfl,v4,pp,mm,af4⟩;have AF4:=Hy af4;clear af4;replace L2:=bk1 L2 mm gB;replace M:=Hy (M.o.nx mm);replace P:=Hy pp;clear pp mm;obtain rfl:u4=.string x4:=v4;go_wp2_with (first | (refine aA bq (.tmp 2) (.tmp 13) rfl rfl _ _ _ _ rfl rfl L2.o rfl rfl (by simp [Value.oneCell']) ?_;intro w9 hb9 hs9));refine bO bq Tryz.underlying47 rfl rfl _ _ _ _ _ rfl hb9 rfl ?_;exact ⟨_,⟨5,[],x4⟩,l4,a4,c4,rfl,⟨none,0,rfl,.inl rfl⟩,P.o.st hs9 gB.o,M.o.trans (.st hs9 (.inr lr)),(by unfold typ;exact (.nay HF1.o (.nay HF2.o (.yes HF3.o.1 HF3.o.2 (AF4.o.bind (.pure _ _ _ _))))))⟩
  have HF2:=Hy (bg hf2);refine (bC B l i a c 1 ⟨#[116,101,120,116]⟩ pw6 (by decide) _ P.o hf2).mono ?_;rintro e w2 ⟨rfl,pp,mm⟩;clear hf2;replace L2:=bk1 L2 mm gB;replace M:=Hy (M.o.nx mm);replace P:=Hy pp;clear pp mm;go_wp2_with (first | (refine aA bq (.tmp 2) (.tmp 8) rfl rfl _ _ _ _ rfl rfl L2.o rfl rfl (by simp [Value.oneCell']) ?_;intro w9 hb9 hs9));refine bO bq Tryz.underlying47 rfl rfl _ _ _ _ _ rfl hb9 rfl ?_;exact ⟨_,⟨4,[],.empty⟩,l.tail,a,c,rfl,⟨none,0,rfl,.inl rfl⟩,P.o.st hs9 gB.o,M.o.trans (.st hs9 (.inr lr)),(by unfold typ;exact (.nay HF1.o (.yes HF2.o.1 HF2.o.2 (.pure _ _ _ _))))⟩
 have HF1:=Hy (bg hf1);refine (bC B l i a c 1 ⟨#[98,111,111,108]⟩ pw5 (by decide) _ P.o hf1).mono ?_;rintro e w1 ⟨rfl,pp,mm⟩;clear hf1;replace L2:=bk1 L2 mm gB;replace M:=Hy (M.o.nx mm);replace P:=Hy pp;clear pp mm;go_wp2_with (first | (refine aA bq (.tmp 2) (.tmp 5) rfl rfl _ _ _ _ rfl rfl L2.o rfl rfl (by simp [Value.oneCell']) ?_;intro w9 hb9 hs9));refine bO bq Tryz.underlying47 rfl rfl _ _ _ _ _ rfl hb9 rfl ?_;exact ⟨_,⟨1,[],.empty⟩,l.tail,a,c,rfl,⟨none,0,rfl,.inl rfl⟩,P.o.st hs9 gB.o,M.o.trans (.st hs9 (.inr lr)),(by unfold typ;exact (.yes HF1.o.1 HF1.o.2 (.pure _ _ _ _)))⟩
theorem mW (B:Nat) (l:List Tk) (i:Bool) (a c:Int) (w:World) (h:Rp w B l i a c) :
    Calls Tryz.prog 271 #[.pointer (some ⟨B,0,none⟩)] w (Qst B Wv (win l) l i a c w):=by
 have gB:=Hy h.lt;have bb:=aj (b0 w) (.cells #[.int .i64 0,.int .i64 0] 40);have P:=Hy (h.keeps bb);have M:=Hy (Mx.of (B:=B) bb);have L2:=Hy (Blk.new w 40 #[.int .i64 0,.int .i64 0]);clear h bb
 go_enter Tryz.func271,Tryz.ntmps271
 go_wp2_with fail;cases hf1:fnd ⟨#[97,108,108]⟩ l c
 ·have HF1:=Hy (bS hf1);refine (bD B l i a c 1 ⟨#[97,108,108]⟩ pw10 (by decide) _ P.o hf1).mono ?_;rintro e w1 ⟨rfl,pp,mm⟩;clear hf1;replace L2:=bk1 L2 mm gB;replace M:=Hy (M.o.nx mm);replace P:=Hy pp;clear pp mm;go_wp2_with fail;cases hf2:fnd ⟨#[115,108,105,100,105,110,103]⟩ l c
  ·have HF2:=Hy (bS hf2);refine (bD B l i a c 1 ⟨#[115,108,105,100,105,110,103]⟩ pw11 (by decide) _ P.o hf2).mono ?_;rintro e w2 ⟨rfl,pp,mm⟩;clear hf2;replace L2:=bk1 L2 mm gB;replace M:=Hy (M.o.nx mm);replace P:=Hy pp;clear pp mm;go_wp2_with fail;cases hf3:fnd ⟨#[116,117,109,98,108,105,110,103]⟩ l c
   ·have HF3:=Hy (bS hf3);refine (bD B l i a c 1 ⟨#[116,117,109,98,108,105,110,103]⟩ pw12 (by decide) _ P.o hf3).mono ?_;rintro e w3 ⟨rfl,pp,mm⟩;clear hf3;replace L2:=bk1 L2 mm gB;replace M:=Hy (M.o.nx mm);replace P:=Hy pp;clear pp mm;go_wp2_with fail;go_wp2_with fail;refine (bn B 1 ⟨#[115,101,115,115,105,111,110]⟩ pw13 (by decide) l i a c _ P.o).mono ?_;rintro e w4 ⟨u4,x4,l4,a4,c4,rfl,v4,pp,mm,af4⟩;have AF4:=Hy af4;clear af4;replace L2:=bk1 L2 mm gB;replace M:=Hy (M.o.nx mm);replace P:=Hy pp;clear pp mm;obtain rfl:u4=.tuple #[]:=v4;go_wp2_with fail;refine (fK B l4 i a4 c4 _ P.o).mono ?_;rintro e w5 ⟨u5,x5,l5,a5,c5,rfl,v5,pp,mm,af5⟩;have AF5:=Hy af5;clear af5;replace L2:=bk1 L2 mm gB;replace M:=Hy (M.o.nx mm);replace P:=Hy pp;clear pp mm;obtain rfl:u5=.int .i64 x5:=v5;go_wp2_with (first | (refine aA eu (.tmp 2) (.tmp 20) rfl rfl _ _ _ _ rfl rfl L2.o rfl rfl (by simp [Value.oneCell']) ?_;intro w9 hb9 hs9));refine bO eu Tryz.underlying40 rfl rfl _ _ _ _ _ rfl hb9 rfl ?_;exact ⟨_,(4,x5),l5,a5,c5,rfl,rfl,P.o.st hs9 gB.o,M.o.trans (.st hs9 (.inr lr)),(by unfold win;exact (.nay HF1.o (.nay HF2.o (.nay HF3.o (y8 (g:=fun _ r=>(int r).bind fun n r=>.ok ((4:Int),n) r) (AF4.o.bind (AF5.o.bind (.pure _ _ _ _))))))))⟩
   have HF3:=Hy (bg hf3);refine (bC B l i a c 1 ⟨#[116,117,109,98,108,105,110,103]⟩ pw12 (by decide) _ P.o hf3).mono ?_;rintro e w3 ⟨rfl,pp,mm⟩;clear hf3;replace L2:=bk1 L2 mm gB;replace M:=Hy (M.o.nx mm);replace P:=Hy pp;clear pp mm;go_wp2_with fail;refine (fK B l.tail i a c _ P.o).mono ?_;rintro e w4 ⟨u4,x4,l4,a4,c4,rfl,v4,pp,mm,af4⟩;have AF4:=Hy af4;clear af4;replace L2:=bk1 L2 mm gB;replace M:=Hy (M.o.nx mm);replace P:=Hy pp;clear pp mm;obtain rfl:u4=.int .i64 x4:=v4;go_wp2_with (first | (refine aA eu (.tmp 2) (.tmp 15) rfl rfl _ _ _ _ rfl rfl L2.o rfl rfl (by simp [Value.oneCell']) ?_;intro w9 hb9 hs9));refine bO eu Tryz.underlying40 rfl rfl _ _ _ _ _ rfl hb9 rfl ?_;exact ⟨_,(3,x4),l4,a4,c4,rfl,rfl,P.o.st hs9 gB.o,M.o.trans (.st hs9 (.inr lr)),(by unfold win;exact (.nay HF1.o (.nay HF2.o (.yes HF3.o.1 HF3.o.2 (AF4.o.bind (.pure _ _ _ _))))))⟩
  have HF2:=Hy (bg hf2);refine (bC B l i a c 1 ⟨#[115,108,105,100,105,110,103]⟩ pw11 (by decide) _ P.o hf2).mono ?_;rintro e w2 ⟨rfl,pp,mm⟩;clear hf2;replace L2:=bk1 L2 mm gB;replace M:=Hy (M.o.nx mm);replace P:=Hy pp;clear pp mm;go_wp2_with fail;refine (fK B l.tail i a c _ P.o).mono ?_;rintro e w3 ⟨u3,x3,l3,a3,c3,rfl,v3,pp,mm,af3⟩;have AF3:=Hy af3;clear af3;replace L2:=bk1 L2 mm gB;replace M:=Hy (M.o.nx mm);replace P:=Hy pp;clear pp mm;obtain rfl:u3=.int .i64 x3:=v3;go_wp2_with (first | (refine aA eu (.tmp 2) (.tmp 10) rfl rfl _ _ _ _ rfl rfl L2.o rfl rfl (by simp [Value.oneCell']) ?_;intro w9 hb9 hs9));refine bO eu Tryz.underlying40 rfl rfl _ _ _ _ _ rfl hb9 rfl ?_;exact ⟨_,(2,x3),l3,a3,c3,rfl,rfl,P.o.st hs9 gB.o,M.o.trans (.st hs9 (.inr lr)),(by unfold win;exact (.nay HF1.o (.yes HF2.o.1 HF2.o.2 (AF3.o.bind (.pure _ _ _ _)))))⟩
 have HF1:=Hy (bg hf1);refine (bC B l i a c 1 ⟨#[97,108,108]⟩ pw10 (by decide) _ P.o hf1).mono ?_;rintro e w1 ⟨rfl,pp,mm⟩;clear hf1;replace L2:=bk1 L2 mm gB;replace M:=Hy (M.o.nx mm);replace P:=Hy pp;clear pp mm;go_wp2_with (first | (refine aA eu (.tmp 2) (.tmp 5) rfl rfl _ _ _ _ rfl rfl L2.o rfl rfl (by simp [Value.oneCell']) ?_;intro w9 hb9 hs9));refine bO eu Tryz.underlying40 rfl rfl _ _ _ _ _ rfl hb9 rfl ?_;exact ⟨_,(1,0),l.tail,a,c,rfl,rfl,P.o.st hs9 gB.o,M.o.trans (.st hs9 (.inr lr)),(by unfold win;exact (.yes HF1.o.1 HF1.o.2 (.pure _ _ _ _)))⟩
def opC (r:Nat):Array Value:=((opL r).map Value.string).toArray
theorem vU (r:Nat) (h1:1≤r) (h5:r≤5) (w:World) :
    Calls Tryz.prog 185 #[.int .i64 (r:Nat)] w fun e w' => e=.returned (.slice (some ⟨w.heap.size,0,none⟩) (opL r).length (opL r).length)∧w'=w.alloc (.cells (opC r) 9):=by
 obtain rfl | rfl | rfl | rfl | rfl:r=1∨r=2∨r=3∨r=4∨r=5:=by omega
 all_goals (go_enter Tryz.func185,Tryz.ntmps185;go_wp2_with fail;go_ret;exact ⟨rfl,rfl⟩)
theorem vX (s:ByteArray) (w:World):Calls Tryz.prog 251 #[.string s] w fun e w' => e=.returned (.bool (agg s))∧w'=w:=by
 have ha:agg s=[(⟨#[99,111,117,110,116]⟩:ByteArray),⟨#[115,117,109]⟩,⟨#[109,101,97,110]⟩,⟨#[109,105,110]⟩,⟨#[109,97,120]⟩,⟨#[102,105,114,115,116]⟩,⟨#[108,97,115,116]⟩,⟨#[100,105,115,116,105,110,99,116]⟩,⟨#[113,117,97,110,116,105,108,101]⟩,⟨#[100,101,99,97,121]⟩].any fun t=>s.toList==t.toList:=by
  unfold agg;simp only [eqS]
 rw [ha];clear ha
 go_enter Tryz.func251,Tryz.ntmps251
 go_wp2_with fail
 all_goals go_ret
 all_goals exact ⟨bB (by simp_all),rfl⟩
def opF (r:Nat) (l:List Tk) (c:Int):ByteArray:=if c=0 then opr r l else .empty
def Otl (r:Nat) (l:List Tk) (c:Int):List Tk:=if opF r l c=.empty then l else l.tail
def opK (r:Nat):Int:=if r≤2 then 1 else 5
theorem N9 {r:Nat} (h1:1≤r) (h5:r≤5):∀ s ∈ opL r,pr ⟨opK r,s,0⟩=true:=by
 have hd:∀ k:Int,∀ s:ByteArray,(decide (shp (so ⟨k,s,0⟩)=(k,(so ⟨k,s,0⟩).length)) && decide (flt k (so ⟨k,s,0⟩)=0))=true→pr ⟨k,s,0⟩=true:=fun _ _ h=>h;obtain rfl | rfl | rfl | rfl | rfl:r=1∨r=2∨r=3∨r=4∨r=5:=by omega
 all_goals (intro s hs;simp only [opL,List.mem_cons,List.not_mem_nil,or_false] at hs)
 ·subst hs;rw [aR];exact ⟨by decide,by decide⟩
 ·subst hs;rw [aR];exact ⟨by decide,by decide⟩
 ·rcases hs with rfl | rfl | rfl | rfl <;> (rw [aR];exact ⟨by decide,by decide⟩)
 ·rcases hs with rfl | rfl <;> (rw [aR];exact ⟨by decide,by decide⟩)
 rcases hs with rfl | rfl <;> (rw [aR];exact ⟨by decide,by decide⟩)
theorem Qc (r:Nat):opK r=1∨opK r=5:=by unfold opK;split <;> simp
theorem Av {r j:Nat} {l:List Tk} {c:Int} (hn:c=0→jo r j l) (hj:j<(opL r).length) (h:fnd (opL r)[j] l c=true):opF r l c=(opL r)[j]∧opF r l c≠.empty:=by
 obtain ⟨h0,h1⟩:=bg h;have e:opF r l c=(opL r)[j]:=by
  unfold opF;rw [if_pos h0,Ar (hn h0) hj h1]
 exact ⟨e,by rw [e];exact EJ r _ (List.getElem_mem hj)⟩
theorem yh {r:Nat} {l:List Tk} {c:Int} (hn:c=0→jo r (opL r).length l):opF r l c=.empty:=by
 unfold opF;split
 ·rename_i h;exact xZ (hn h)
 rfl
theorem rY {r j:Nat} {l:List Tk} {c:Int} (hn:c=0→jo r j l) (hj:j<(opL r).length) (h:fnd (opL r)[j] l c=false):c=0→jo r (j+1) l:=fun h0 k hk hkj=>by
 rcases Nat.lt_succ_iff_lt_or_eq.1 hkj with h1 | rfl
 ·exact hn h0 k hk h1
 ·have:=bS h
  cases ht:isT (opL r)[k] l
  ·rfl
  ·exact absurd ⟨h0,ht⟩ this
theorem j3 (B:Nat) (r:Nat) (h1:1≤r) (h5:r≤5) (l:List Tk) (i:Bool) (a c:Int) (w:World) (h:Rp w B l i a c) :
    Calls Tryz.prog 147 #[.pointer (some ⟨B,0,none⟩),.int .i64 (r:Nat)] w fun e w' => e=.returned (.string (opF r l c))∧Rp w' B (Otl r l c) i a c∧Mx w.heap.size B w w':=by
 have gB:=Hy h.lt;have bb:=aj (b0 w) (.cells (opC r) 9);have P:=Hy (h.keeps bb);have M:=Hy (Mx.of (B:=B) bb);have L2:=Hy (Blk.new w 9 (opC r));have OC:=Hy (fun W=>vU r h1 h5 W);have HP:=Hy (N9 h1 h5);have HK:=Hy (Qc r);have h4:=Hy (pa.uo r);have H0:=Hy (show c=0→jo r 0 l from fun _ k _ hk=>absurd hk (Nat.not_lt_zero _));clear h bb;by_cases hr:r≤2
 ·have q0:decide ((r:Int)≤2)=true:=dT (by omega);have hk:opK r=1:=by unfold opK;rw [if_pos hr]
  rw [hk] at HP;clear hk hr HK
  go_enter Tryz.func147,Tryz.ntmps147
  go_wp2_with fail;refine (OC.o _).mono ?_;rintro e w1 ⟨rfl,rfl⟩;go_wp2_with fail;clear q0 OC;obtain ⟨N,hN⟩:∃ N,(opL r).length=N:=⟨_,rfl⟩;have NN:=Hy hN;rw [hN] at h4;rw [hN];clear hN
  go_loopw [7] (fun x wr => ∃ j:Nat,x=.int .i64 (j:Nat)∧Hid (j≤N)∧Hid (c=0→jo r j l)∧Hid (Rp wr B l i a c)∧Hid (Mx w.heap.size B w wr)∧Hid (Blk wr w.heap.size 9 (opC r))) (fun x _=>N - (intOf x).toNat)
  case atStart=>exact ⟨0,rfl,Hy zl,H0,P,M,L2⟩
  case round =>
   clear P M L2 H0;obtain ⟨j,rfl,hj,hF,P,M,L2⟩:=hrel;by_cases hc:j<N
   ·have hjl:j<(opL r).length:=by have:=NN.o;omega
    have c1:wr.cell? ⟨w.heap.size,j,none⟩=some (.string (opL r)[j]):=by
     rw [L2.o.cell j];unfold opC;simp [hjl]
    have q2:decide ((j:Int)<(N:Int))=true:=dT (by omega);have q3:(j:Int)<(N:Int):=by omega
    have f4:=Hy (aV (j:=j) (by have:=h4.o;omega));have HPj:=Hy (HP.o _ (List.getElem_mem hjl));cases ht:fnd (opL r)[j] l c
    ·have hF2:=Hy (rY hF.o hjl ht);have HT:=Hy ht;clear ht hF;generalize (opL r)[j]=s at *;go_wp2_with fail;refine (bD B l i a c 1 s HPj.o (by decide) _ P.o HT.o).mono ?_;rintro e w3 ⟨rfl,pp,mm⟩;have P3:=Hy pp;have L3:=Hy (gG L2.o mm (by have:=gB.o;omega) L2.o.lt);have M3:=Hy (M.o.nx mm);clear pp mm P L2 M c1;go_wp2_with fail;exact ⟨⟨j+1,congrArg (Value.int .i64) f4.o,Hy hc,hF2,P3,M3,L3⟩,aU hc f4.o⟩
    have hO:=Hy (Av hF.o hjl ht);have HT:=Hy ht;clear ht hF;generalize (opL r)[j]=s at *;go_wp2_with fail;refine (bC B l i a c 1 s HPj.o (by decide) _ P.o HT.o).mono ?_;rintro e w3 ⟨rfl,pp,mm⟩;have P3:=Hy pp;have L3:=Hy (gG L2.o mm (by have:=gB.o;omega) L2.o.lt);have M3:=Hy (M.o.nx mm);replace c1:=(World.cell?_of_block (w:=wr) (a:=⟨w.heap.size,j,none⟩) (mm.block w.heap.size L2.o.lt (by have:=gB.o;omega))).trans c1;clear pp mm P L2 M;go_wp2_with fail;go_ret;exact ⟨by rw [hO.o.1];rfl,by unfold Otl;rw [if_neg hO.o.2];exact P3.o,M3.o⟩
   have q2:decide (j<N)=false:=dF hc;have q2':decide ((j:Int)<(N:Int))=false:=dF (by omega);have hO:=Hy (yh (r:=r) (l:=l) (c:=c) (by rw [show (opL r).length=j by have:=NN.o;have:=hj.o;omega];exact hF.o));clear hF hj;go_wp2_with fail;go_ret;exact ⟨by rw [hO.o];rfl,by unfold Otl;rw [if_pos hO.o];exact P.o,M.o⟩
 have q0:decide ((r:Int)≤2)=false:=dF (by omega);have hk:opK r=5:=by unfold opK;rw [if_neg hr]
 rw [hk] at HP;clear hk hr HK
 go_enter Tryz.func147,Tryz.ntmps147
 go_wp2_with fail;refine (OC.o _).mono ?_;rintro e w1 ⟨rfl,rfl⟩;go_wp2_with fail;clear q0 OC;obtain ⟨N,hN⟩:∃ N,(opL r).length=N:=⟨_,rfl⟩;have NN:=Hy hN;rw [hN] at h4;rw [hN];clear hN
 go_loopw [7] (fun x wr => ∃ j:Nat,x=.int .i64 (j:Nat)∧Hid (j≤N)∧Hid (c=0→jo r j l)∧Hid (Rp wr B l i a c)∧Hid (Mx w.heap.size B w wr)∧Hid (Blk wr w.heap.size 9 (opC r))) (fun x _=>N - (intOf x).toNat)
 case atStart=>exact ⟨0,rfl,Hy zl,H0,P,M,L2⟩
 case round =>
  clear P M L2 H0;obtain ⟨j,rfl,hj,hF,P,M,L2⟩:=hrel;by_cases hc:j<N
  ·have hjl:j<(opL r).length:=by have:=NN.o;omega
   have c1:wr.cell? ⟨w.heap.size,j,none⟩=some (.string (opL r)[j]):=by
    rw [L2.o.cell j];unfold opC;simp [hjl]
   have q2:decide ((j:Int)<(N:Int))=true:=dT (by omega);have q3:(j:Int)<(N:Int):=by omega
   have f4:=Hy (aV (j:=j) (by have:=h4.o;omega));have HPj:=Hy (HP.o _ (List.getElem_mem hjl));cases ht:fnd (opL r)[j] l c
   ·have hF2:=Hy (rY hF.o hjl ht);have HT:=Hy ht;clear ht hF;generalize (opL r)[j]=s at *;go_wp2_with fail;refine (bD B l i a c 5 s HPj.o (by decide) _ P.o HT.o).mono ?_;rintro e w3 ⟨rfl,pp,mm⟩;have P3:=Hy pp;have L3:=Hy (gG L2.o mm (by have:=gB.o;omega) L2.o.lt);have M3:=Hy (M.o.nx mm);clear pp mm P L2 M c1;go_wp2_with fail;exact ⟨⟨j+1,congrArg (Value.int .i64) f4.o,Hy hc,hF2,P3,M3,L3⟩,aU hc f4.o⟩
   have hO:=Hy (Av hF.o hjl ht);have HT:=Hy ht;clear ht hF;generalize (opL r)[j]=s at *;go_wp2_with fail;refine (bC B l i a c 5 s HPj.o (by decide) _ P.o HT.o).mono ?_;rintro e w3 ⟨rfl,pp,mm⟩;have P3:=Hy pp;have L3:=Hy (gG L2.o mm (by have:=gB.o;omega) L2.o.lt);have M3:=Hy (M.o.nx mm);replace c1:=(World.cell?_of_block (w:=wr) (a:=⟨w.heap.size,j,none⟩) (mm.block w.heap.size L2.o.lt (by have:=gB.o;omega))).trans c1;clear pp mm P L2 M;go_wp2_with fail;go_ret;exact ⟨by rw [hO.o.1];rfl,by unfold Otl;rw [if_neg hO.o.2];exact P3.o,M3.o⟩
  have q2:decide (j<N)=false:=dF hc;have q2':decide ((j:Int)<(N:Int))=false:=dF (by omega);have hO:=Hy (yh (r:=r) (l:=l) (c:=c) (by rw [show (opL r).length=j by have:=NN.o;have:=hj.o;omega];exact hF.o));clear hF hj;go_wp2_with fail;go_ret;exact ⟨by rw [hO.o];rfl,by unfold Otl;rw [if_pos hO.o];exact P.o,M.o⟩
def gdL (s:ByteArray):Bool:=decide (1≤s.size) && decide (s.size≤32)
def gdF (s:ByteArray):Bool:=gdL s && pB 33 s.data.toList
theorem Qr (s:ByteArray):(ck ⟨5,0,s⟩=0)=(gdF s=true):=by
 have h1:fmd ⟨5,0,s⟩=true:=by unfold fmd;rfl
 have h2:lmt ⟨5,0,s⟩=decide (s.size≤32):=by unfold lmt;rfl
 have h3:spl ⟨5,0,s⟩=(!decide (s.size=0) && pB 33 s.data.toList):=by unfold spl;rfl
 unfold ck gdF gdL;rw [h1,h2,h3,eq_iff_iff];by_cases h4:s.size≤32 <;> by_cases h5:s.size=0 <;> by_cases h6:pB 33 s.data.toList=true <;> simp [h4,h5,h6] <;> omega
def kW (l:List Tk):Rs Ex:=(nam l).bind fun n r=>(tkk 4 r).bind fun x r' => if gdF x.t=true then .ok (iW n x.t) r' else .no x.a 3 r'
theorem key_eq {l:List Tk} (ht:isT ⟨#[64]⟩ l=true):key l=kW l.tail:=by
 unfold key kW nma need;rw [if_pos ht];show Rs.bind (nam l.tail) _=_;refine bind_congr fun n r _=>?_;unfold tak tkk;by_cases hk:(hd r).k=4
 ·rw [if_pos hk,if_pos hk,if_neg (by decide)];show (if ck ⟨5,0,(hd r).t⟩=0 then _ else _)=(if gdF (hd r).t=true then _ else _);simp only [Qr]
 rw [if_neg hk,if_neg hk];rfl
theorem Bf {s:ByteArray} {j:Nat} (hj:j<s.size):pB 33 (s.data.toList.take (j+1))=(pB 33 (s.data.toList.take j) && okB 33 s[j]):=by
 have hl:j<s.data.toList.length:=by rw [aM];exact hj
 unfold pB;rw [List.take_add_one,List.getElem?_eq_getElem hl,List.all_append];simp;rfl
theorem sK:(Tryz.prog.info? 37).map (·.size)=some 3:=by kernel_rfl
theorem Bu (c:UInt8):okB 33 c=(decide ((33:Int)≤(c.toNat:Int)) && decide ((c.toNat:Int)≤126) && ((c.toNat:Int) != 34) && ((c.toNat:Int) != 92)):=by
 unfold okB;congr 1
 ·congr 1
  ·congr 1 <;> rw [decide_eq_decide] <;> omega
  rw [Bool.eq_iff_iff];simp;omega
 rw [Bool.eq_iff_iff];simp;omega
theorem Qn (B:Nat) (l:List Tk) (i:Bool) (a c:Int) (w:World) (h:Rp w B l i a c) :
    Calls Tryz.prog 225 #[.pointer (some ⟨B,0,none⟩)] w (Qst B Ev (kW l) l i a c w):=by
 have gB:=Hy h.lt;have bb:=aj (b0 w) (.cells #[.int .i64 0,.string ⟨#[]⟩,.string ⟨#[]⟩,.string ⟨#[]⟩,.int .i64 0,.int .i64 0,.string ⟨#[]⟩,.slice none 0 0,.int .i64 0,.int .i64 0,.int .i64 0,.slice none 0 0] 43);have P:=Hy (h.keeps bb);have M:=Hy (Mx.of (B:=B) bb);have L2:=Hy (Blk.new w 43 #[.int .i64 0,.string ⟨#[]⟩,.string ⟨#[]⟩,.string ⟨#[]⟩,.int .i64 0,.int .i64 0,.string ⟨#[]⟩,.slice none 0 0,.int .i64 0,.int .i64 0,.int .i64 0,.slice none 0 0]);clear h bb
 go_enter Tryz.func225,Tryz.ntmps225
 go_wp2_with fail;refine (gF B l i a c _ P.o).mono ?_;rintro e w1 ⟨u1,x1,l1,a1,c1,rfl,v1,pp,mm,af1⟩;have AF1:=Hy af1;clear af1;replace L2:=bk1 L2 mm gB;replace M:=Hy (M.o.nx mm);replace P:=Hy pp;clear pp mm;obtain rfl:u1=.string x1:=v1;go_wp2_with (refine aA aK (.tmp 3) (.tmp 9) rfl rfl _ _ (exC ⟨{ h0 with k:=1,nm:=x1 },.nil⟩ none 0 none 0) _ rfl rfl (Blk.new _ _ _) rfl rfl (aJ _ _ _ _ _) ?_;intro w2 L hs;have bb:=(aj (b0 w1) _).trans (hs.below lr);have gB3:=Hy P.o.lt;have hw3:=Hy (show w.heap.size<w1.heap.size from L2.o.lt);have L3:=Hy L;replace L2:=Hy (L2.o.below bb L2.o.lt);replace P:=Hy (P.o.keeps bb);replace M:=Hy (M.o.nx (.of bb));clear bb hs L);refine (jN B l1 i a1 c1 4 _ P.o).mono ?_;rintro e w3 ⟨u3,x3,l3,a3,c3,rfl,v3,pp,mm,af3⟩;have AF3:=Hy af3;clear af3;replace L2:=bk1 L2 mm gB;replace L3:=bk1 L3 mm gB3;replace M:=Hy (M.o.nx mm);replace P:=Hy pp;clear pp mm;obtain ⟨rfl,zs3⟩:=v3;have ZS3:=Hy zs3;clear zs3;obtain ⟨s,hs⟩:∃ s,x3.t=s:=⟨_,rfl⟩;have HS:=Hy hs;rw [hs] at ZS3;by_cases hp:1≤s.size
 ·have p1:decide ((1:Int)≤(s.size:Int))=true:=dT (by omega);obtain ⟨b,hb⟩:∃ b,decide ((s.size:Int)≤32)=b:=⟨_,rfl⟩;have HG:=Hy (show b=gdL s from by unfold gdL;rw [dT hp,Bool.true_and,← hb,decide_eq_decide];omega);clear hp;go_wp2_with (refine aA gZ (.tmp 4) (.tmp 11) rfl rfl _ _ _ _ rfl rfl (Blk.new _ _ _) rfl rfl (by simp [Value.oneCell']) ?_;intro w4 L hs9;have bb:=(aj (b0 w3) _).trans (hs9.below lr);have gB4:=Hy P.o.lt;have hw4:=Hy (show w1.heap.size<w3.heap.size from L3.o.lt);have L4:=Hy L;replace L2:=Hy (L2.o.below bb L2.o.lt);replace L3:=Hy (L3.o.below bb L3.o.lt);replace P:=Hy (P.o.keeps bb);replace M:=Hy (M.o.nx (.of bb));clear bb hs9 L;have t1:=L4.o.cell 1;have t2:=L4.o.cell 2;simp only [sz2,sz3,sz4] at t1 t2);clear p1 hs
  go_loopw [5,6] (fun vb vi wr => ∃ (g:Bool) (j:Nat),vb=.bool g∧vi=.int .i64 (j:Nat)∧Hid (j≤s.size)∧Hid (g=(gdL s && pB 33 (s.data.toList.take j)))∧wr=w4) (fun _ vi _=>s.size - (intOf vi).toNat)
  case atStart=>exact ⟨_,0,rfl,rfl,Hy zl,Hy (by rw [HG.o,List.take_zero];simp [pB]),rfl⟩
  case round =>
   obtain ⟨g,j,rfl,rfl,hj,hg,rfl⟩:=hrel;by_cases hc:j<s.size
   ·have q2:decide ((j:Int)<(s.size:Int))=true:=dT (by omega);have q3:decide (j<s.size)=true:=dT hc;have hn:=Hy (Bf hc);have f4:=Hy (aV (j:=j) (by have:=ZS3.o;omega));have i1:(j:Int)<(s.size:Int):=by omega
    clear hj HG;cases g
    ·have HN:=Hy (show false=(gdL s && pB 33 (s.data.toList.take (j+1))) from by rw [hn.o,← Bool.and_assoc,← hg.o];rfl);clear hn hg;go_wp2_with fail;exact ⟨⟨_,j+1,rfl,congrArg (Value.int .i64) f4.o,Hy hc,HN,trivial⟩,aU hc f4.o⟩
    have HN:=Hy (show okB 33 s[j]=(gdL s && pB 33 (s.data.toList.take (j+1))) from by rw [hn.o,← Bool.and_assoc,← hg.o,Bool.true_and]);have hb:=Bu s[j];clear hn hg;go_wp2_with fail
    all_goals exact ⟨⟨_,j+1,rfl,congrArg (Value.int .i64) f4.o,Hy hc,Hy (by rw [← HN.o];simp_all),trivial⟩,aU hc f4.o⟩
   have q2:decide ((j:Int)<(s.size:Int))=false:=dF (by omega);have q3:decide (j<s.size)=false:=dF hc;have hg2:=Hy (show g=gdF s from by rw [hg.o,List.take_of_length_le (by rw [aM];omega)];rfl);clear hg hj HG;have K3:=L3.o;cases g
   ·have FC:=Hy (jJ B l3 i a3 c3 x3.a 3 _ P.o);have AE:=Hy (show Aft (kW l) l a c (iW x1 s) l3 (if c3=0 then x3.a else a3) (if c3=0 then 3 else c3) from by
      unfold kW
      refine AF1.o.bind (AF3.o.bind ?_)
      rw [HS.o,if_neg (by rw [← hg2.o];decide)]
      unfold Aft
      by_cases hc:c3=0
      · rw [if_pos hc,if_pos hc,if_pos hc];exact ⟨rfl,rfl,by decide⟩
      · rw [if_neg hc,if_neg hc,if_neg hc];exact ⟨rfl,rfl,rfl⟩)
    clear hg2;generalize (if c3=0 then x3.a else a3)=a5 at *;generalize (if c3=0 then (3:Int) else c3)=c5 at *;go_wp2_with fail;refine FC.o.mono ?_;rintro e w5 ⟨rfl,pp,mm⟩;replace L2:=bk1 L2 mm gB;replace L3:=bk1 L3 mm gB3;replace t1:=(World.cell?_of_block (w:=wr) (a:=⟨w3.heap.size,1,none⟩) (mm.block w3.heap.size L4.o.lt (by have:=gB4.o;omega))).trans t1;replace M:=Hy (M.o.nx mm);replace P:=Hy pp;clear pp mm t2 L4 FC K3;go_wp2_with (first | (refine bZ sK (.tmp 67) (.tmp 66) rfl rfl w1.heap.size 4 _ _ _ rfl rfl L3.o (by simp [exC]) rfl (by simp [Value.oneCell']) ?_;intro w7 hb7 hs7;replace P:=Hy (P.o.st hs7 gB3.o);replace M:=Hy (M.o.trans (.st hs7 (.inr (by have:=hw3.o;omega))));replace L2:=Hy (L2.o.st hs7 (by have:=hw3.o;omega));replace L3:=Hy (show Blk _ w1.heap.size 43 (exC (iW x1 s) none 0 none 0) from hb7);clear hb7 hs7 t1) | (refine aH aK Tryz.underlying43 rfl (.tmp 3) rfl rfl _ _ _ rfl L3.o rfl ?_) | (refine aA aK (.tmp 2) (.tmp 68) rfl rfl _ _ _ _ rfl rfl L2.o rfl rfl (aJ _ _ _ _ _) ?_;intro w9 hb9 hs9));refine aF rfl _ _ _ _ _ rfl hb9 rfl ?_;exact ⟨_,iW x1 s,l3,a5,c5,rfl,⟨none,0,none,0,rfl,⟨.inl rfl,.inl rfl⟩⟩,P.o.st hs9 gB.o,M.o.trans (.st hs9 (.inr lr)),AE.o⟩
   ·have AE:=Hy (show Aft (kW l) l a c (iW x1 s) l3 a3 c3 from by
      unfold kW
      refine AF1.o.bind (AF3.o.bind ?_)
      rw [HS.o,if_pos hg2.o.symm]
      exact .pure _ _ _ _)
    clear hg2 K3;go_wp2_with (first | (refine bZ sK (.tmp 67) (.tmp 66) rfl rfl w1.heap.size 4 _ _ _ rfl rfl L3.o (by simp [exC]) rfl (by simp [Value.oneCell']) ?_;intro w7 hb7 hs7;replace P:=Hy (P.o.st hs7 gB3.o);replace M:=Hy (M.o.trans (.st hs7 (.inr (by have:=hw3.o;omega))));replace L2:=Hy (L2.o.st hs7 (by have:=hw3.o;omega));replace L3:=Hy (show Blk _ w1.heap.size 43 (exC (iW x1 s) none 0 none 0) from hb7);clear hb7 hs7 t1) | (refine aH aK Tryz.underlying43 rfl (.tmp 3) rfl rfl _ _ _ rfl L3.o rfl ?_) | (refine aA aK (.tmp 2) (.tmp 68) rfl rfl _ _ _ _ rfl rfl L2.o rfl rfl (aJ _ _ _ _ _) ?_;intro w9 hb9 hs9));refine aF rfl _ _ _ _ _ rfl hb9 rfl ?_;exact ⟨_,iW x1 s,l3,a3,c3,rfl,⟨none,0,none,0,rfl,⟨.inl rfl,.inl rfl⟩⟩,P.o.st hs9 gB.o,M.o.trans (.st hs9 (.inr lr)),AE.o⟩
 have p1:decide ((1:Int)≤(s.size:Int))=false:=dF (by omega);have HG:=Hy (show false=gdL s from by unfold gdL;rw [dF hp];rfl);clear hp;go_wp2_with (refine aA gZ (.tmp 4) (.tmp 11) rfl rfl _ _ _ _ rfl rfl (Blk.new _ _ _) rfl rfl (by simp [Value.oneCell']) ?_;intro w4 L hs9;have bb:=(aj (b0 w3) _).trans (hs9.below lr);have gB4:=Hy P.o.lt;have hw4:=Hy (show w1.heap.size<w3.heap.size from L3.o.lt);have L4:=Hy L;replace L2:=Hy (L2.o.below bb L2.o.lt);replace L3:=Hy (L3.o.below bb L3.o.lt);replace P:=Hy (P.o.keeps bb);replace M:=Hy (M.o.nx (.of bb));clear bb hs9 L;have t1:=L4.o.cell 1;have t2:=L4.o.cell 2;simp only [sz2,sz3,sz4] at t1 t2);clear p1 hs
 go_loopw [5,6] (fun vb vi wr => ∃ (g:Bool) (j:Nat),vb=.bool g∧vi=.int .i64 (j:Nat)∧Hid (j≤s.size)∧Hid (g=(gdL s && pB 33 (s.data.toList.take j)))∧wr=w4) (fun _ vi _=>s.size - (intOf vi).toNat)
 case atStart=>exact ⟨_,0,rfl,rfl,Hy zl,Hy (by rw [HG.o,List.take_zero];simp [pB]),rfl⟩
 case round =>
  obtain ⟨g,j,rfl,rfl,hj,hg,rfl⟩:=hrel;by_cases hc:j<s.size
  ·have q2:decide ((j:Int)<(s.size:Int))=true:=dT (by omega);have q3:decide (j<s.size)=true:=dT hc;have hn:=Hy (Bf hc);have f4:=Hy (aV (j:=j) (by have:=ZS3.o;omega));have i1:(j:Int)<(s.size:Int):=by omega
   clear hj HG;cases g
   ·have HN:=Hy (show false=(gdL s && pB 33 (s.data.toList.take (j+1))) from by rw [hn.o,← Bool.and_assoc,← hg.o];rfl);clear hn hg;go_wp2_with fail;exact ⟨⟨_,j+1,rfl,congrArg (Value.int .i64) f4.o,Hy hc,HN,trivial⟩,aU hc f4.o⟩
   have HN:=Hy (show okB 33 s[j]=(gdL s && pB 33 (s.data.toList.take (j+1))) from by rw [hn.o,← Bool.and_assoc,← hg.o,Bool.true_and]);have hb:=Bu s[j];clear hn hg;go_wp2_with fail
   all_goals exact ⟨⟨_,j+1,rfl,congrArg (Value.int .i64) f4.o,Hy hc,Hy (by rw [← HN.o];simp_all),trivial⟩,aU hc f4.o⟩
  have q2:decide ((j:Int)<(s.size:Int))=false:=dF (by omega);have q3:decide (j<s.size)=false:=dF hc;have hg2:=Hy (show g=gdF s from by rw [hg.o,List.take_of_length_le (by rw [aM];omega)];rfl);clear hg hj HG;have K3:=L3.o;cases g
  ·have FC:=Hy (jJ B l3 i a3 c3 x3.a 3 _ P.o);have AE:=Hy (show Aft (kW l) l a c (iW x1 s) l3 (if c3=0 then x3.a else a3) (if c3=0 then 3 else c3) from by
     unfold kW
     refine AF1.o.bind (AF3.o.bind ?_)
     rw [HS.o,if_neg (by rw [← hg2.o];decide)]
     unfold Aft
     by_cases hc:c3=0
     · rw [if_pos hc,if_pos hc,if_pos hc];exact ⟨rfl,rfl,by decide⟩
     · rw [if_neg hc,if_neg hc,if_neg hc];exact ⟨rfl,rfl,rfl⟩)
   clear hg2;generalize (if c3=0 then x3.a else a3)=a5 at *;generalize (if c3=0 then (3:Int) else c3)=c5 at *;go_wp2_with fail;refine FC.o.mono ?_;rintro e w5 ⟨rfl,pp,mm⟩;replace L2:=bk1 L2 mm gB;replace L3:=bk1 L3 mm gB3;replace t1:=(World.cell?_of_block (w:=wr) (a:=⟨w3.heap.size,1,none⟩) (mm.block w3.heap.size L4.o.lt (by have:=gB4.o;omega))).trans t1;replace M:=Hy (M.o.nx mm);replace P:=Hy pp;clear pp mm t2 L4 FC K3;go_wp2_with (first | (refine bZ sK (.tmp 67) (.tmp 66) rfl rfl w1.heap.size 4 _ _ _ rfl rfl L3.o (by simp [exC]) rfl (by simp [Value.oneCell']) ?_;intro w7 hb7 hs7;replace P:=Hy (P.o.st hs7 gB3.o);replace M:=Hy (M.o.trans (.st hs7 (.inr (by have:=hw3.o;omega))));replace L2:=Hy (L2.o.st hs7 (by have:=hw3.o;omega));replace L3:=Hy (show Blk _ w1.heap.size 43 (exC (iW x1 s) none 0 none 0) from hb7);clear hb7 hs7 t1) | (refine aH aK Tryz.underlying43 rfl (.tmp 3) rfl rfl _ _ _ rfl L3.o rfl ?_) | (refine aA aK (.tmp 2) (.tmp 68) rfl rfl _ _ _ _ rfl rfl L2.o rfl rfl (aJ _ _ _ _ _) ?_;intro w9 hb9 hs9));refine aF rfl _ _ _ _ _ rfl hb9 rfl ?_;exact ⟨_,iW x1 s,l3,a5,c5,rfl,⟨none,0,none,0,rfl,⟨.inl rfl,.inl rfl⟩⟩,P.o.st hs9 gB.o,M.o.trans (.st hs9 (.inr lr)),AE.o⟩
  ·have AE:=Hy (show Aft (kW l) l a c (iW x1 s) l3 a3 c3 from by
     unfold kW
     refine AF1.o.bind (AF3.o.bind ?_)
     rw [HS.o,if_pos hg2.o.symm]
     exact .pure _ _ _ _)
   clear hg2 K3;go_wp2_with (first | (refine bZ sK (.tmp 67) (.tmp 66) rfl rfl w1.heap.size 4 _ _ _ rfl rfl L3.o (by simp [exC]) rfl (by simp [Value.oneCell']) ?_;intro w7 hb7 hs7;replace P:=Hy (P.o.st hs7 gB3.o);replace M:=Hy (M.o.trans (.st hs7 (.inr (by have:=hw3.o;omega))));replace L2:=Hy (L2.o.st hs7 (by have:=hw3.o;omega));replace L3:=Hy (show Blk _ w1.heap.size 43 (exC (iW x1 s) none 0 none 0) from hb7);clear hb7 hs7 t1) | (refine aH aK Tryz.underlying43 rfl (.tmp 3) rfl rfl _ _ _ rfl L3.o rfl ?_) | (refine aA aK (.tmp 2) (.tmp 68) rfl rfl _ _ _ _ rfl rfl L2.o rfl rfl (aJ _ _ _ _ _) ?_;intro w9 hb9 hs9));refine aF rfl _ _ _ _ _ rfl hb9 rfl ?_;exact ⟨_,iW x1 s,l3,a3,c3,rfl,⟨none,0,none,0,rfl,⟨.inl rfl,.inl rfl⟩⟩,P.o.st hs9 gB.o,M.o.trans (.st hs9 (.inr lr)),AE.o⟩
def Kq (q:Nat→Prop) (w w':World):Prop:=∀ b,q b→b<w.heap.size→w'.heap[b]? = w.heap[b]?
def UsQ (q:Nat→Prop) (w:World) (a:Option Addr) (l:List un.Fa):Prop:=l.length=0∨∃ b off,a=some ⟨b,off,none⟩∧q b∧un.Cl w b off l∧Tg w b 55
def FmQ (q:Nat→Prop) (w:World):Fo→Nat→Nat→Prop
 | .nil,_,_=>True
 | .cons h ar r,b,off=>(∃ ua uc aa ac,Nd w b off h ua uc aa ar.len ac∧UsQ q w ua h.un∧(ar.len=0∨∃ b' off',aa=some ⟨b',off',none⟩∧q b'∧Tg w b' 43∧FmQ q w ar b' off'))∧FmQ q w r b (off+12)
def AsQ (q:Nat→Prop) (w:World) (a:Option Addr) (F:Fo):Prop:=F.len=0∨∃ b off,a=some ⟨b,off,none⟩∧q b∧Tg w b 43∧FmQ q w F b off
structure EcQ (q:Nat→Prop) (w:World) (x:Ex) (ua aa:Option Addr):Prop where
 us:UsQ q w ua x.h.un
 ar:AsQ q w aa x.ar
theorem Ce {w:World} {b:Nat} {T:TypeId} (h:Tg w b T):b<w.heap.size:=by
 obtain ⟨cs,fr,h⟩:=h;exact bR h
theorem Dy {C:Nat} {q:Nat→Prop} {w:World} {a:Option Addr} {l:List un.Fa} (h:Us C w a l) (hq:∀ b,C≤b→b<w.heap.size→q b):UsQ q w a l :=
 h.imp id fun ⟨b,off,e,hn,hC,ht⟩=>⟨b,off,e,hq b hn (Ce ht),hC,ht⟩
theorem yL {C:Nat} {q:Nat→Prop} {w:World} (hq:∀ b,C≤b→b<w.heap.size→q b):∀ (F:Fo) (b off:Nat),Fm C w F b off→FmQ q w F b off
 | .nil,_,_,_=>trivial
 | .cons h ar r,b,off,hF=>by
  obtain ⟨⟨ua,uc,aa,ac,N,U,A⟩,R⟩:=hF
  exact ⟨⟨ua,uc,aa,ac,N,Dy U hq,A.imp id fun ⟨b',off',e,hn,ht,hF'⟩=>⟨b',off',e,hq b' hn (Ce ht),ht,yL hq ar b' off' hF'⟩⟩,yL hq r b (off+12) R⟩
theorem Pj {C:Nat} {q:Nat→Prop} {w:World} {a:Option Addr} {F:Fo} (h:As C w a F) (hq:∀ b,C≤b→b<w.heap.size→q b):AsQ q w a F :=
 h.imp id fun ⟨b,off,e,hn,ht,hF⟩=>⟨b,off,e,hq b hn (Ce ht),ht,yL hq F b off hF⟩
theorem fU {C:Nat} {q:Nat→Prop} {w:World} {x:Ex} {ua aa:Option Addr} (h:Ec C w x ua aa) (hq:∀ b,C≤b→b<w.heap.size→q b):EcQ q w x ua aa:=⟨Dy h.us hq,Pj h.ar hq⟩
theorem Dx {C:Nat} {q:Nat→Prop} {w:World} {a:Option Addr} {l:List un.Fa} (h:UsQ q w a l) (hq:∀ b,q b→C≤b):Us C w a l :=
 h.imp id fun ⟨b,off,e,hn,hC,ht⟩=>⟨b,off,e,hq b hn,hC,ht⟩
theorem yK {C:Nat} {q:Nat→Prop} {w:World} (hq:∀ b,q b→C≤b):∀ (F:Fo) (b off:Nat),FmQ q w F b off→Fm C w F b off
 | .nil,_,_,_=>trivial
 | .cons h ar r,b,off,hF=>by
  obtain ⟨⟨ua,uc,aa,ac,N,U,A⟩,R⟩:=hF
  exact ⟨⟨ua,uc,aa,ac,N,Dx U hq,A.imp id fun ⟨b',off',e,hn,ht,hF'⟩=>⟨b',off',e,hq b' hn,ht,yK hq ar b' off' hF'⟩⟩,yK hq r b (off+12) R⟩
theorem fT {C:Nat} {q:Nat→Prop} {w:World} {x:Ex} {ua aa:Option Addr} (h:EcQ q w x ua aa) (hq:∀ b,q b→C≤b):Ec C w x ua aa :=
 ⟨Dx h.us hq,h.ar.imp id fun ⟨b,off,e,hn,ht,hF⟩=>⟨b,off,e,hq b hn,ht,yK hq _ b off hF⟩⟩
theorem dY {q:Nat→Prop} {w w':World} (k:Kq q w w') {b o:Nat} (hb:q b) {v:Value} (hc:w.cell? ⟨b,o,none⟩=some v):w'.cell? ⟨b,o,none⟩=some v :=
 (World.cell?_of_block (w:=w) (a:=⟨b,o,none⟩) (k b hb (block_lt_of_cell hc))).trans hc
theorem Da {q:Nat→Prop} {w w':World} (k:Kq q w w') {b:Nat} {T:TypeId} (hb:q b) (h:Tg w b T):Tg w' b T:=by
 obtain ⟨cs,fr,h⟩:=h;exact ⟨cs,fr,(k b hb (bR h)).trans h⟩
theorem UsQ.keep {q:Nat→Prop} {w w':World} {a:Option Addr} {l:List un.Fa} (h:UsQ q w a l) (k:Kq q w w'):UsQ q w' a l :=
 h.imp id fun ⟨b,off,e,hn,hC,ht⟩=>⟨b,off,e,hn,fun j hj=>⟨dY k hn (hC j hj).1,dY k hn (hC j hj).2⟩,Da k hn ht⟩
theorem Lc {q:Nat→Prop} {w w':World} {b off:Nat} {h:Hd} {ua:Option Addr} {uc:Nat} {aa:Option Addr} {an ac:Nat} (N:Nd w b off h ua uc aa an ac) (k:Kq q w w') (hb:q b):Nd w' b off h ua uc aa an ac :=
 ⟨dY k hb N.c0,dY k hb N.c1,dY k hb N.c2,dY k hb N.c3,dY k hb N.c4,dY k hb N.c5,dY k hb N.c6,dY k hb N.c7,dY k hb N.c8,dY k hb N.c9,dY k hb N.c10,dY k hb N.c11⟩
theorem FmQ.keep {q:Nat→Prop} {w w':World} (k:Kq q w w'):∀ (F:Fo) (b off:Nat),q b→FmQ q w F b off→FmQ q w' F b off
 | .nil,_,_,_,_=>trivial
 | .cons h ar r,b,off,hb,hF=>by
  obtain ⟨⟨ua,uc,aa,ac,N,U,A⟩,R⟩:=hF
  exact ⟨⟨ua,uc,aa,ac,Lc N k hb,U.keep k,A.imp id fun ⟨b',off',e,hn,ht,hF'⟩=>⟨b',off',e,hn,Da k hn ht,FmQ.keep k ar b' off' hn hF'⟩⟩,FmQ.keep k r b (off+12) hb R⟩
theorem EcQ.keep {q:Nat→Prop} {w w':World} {x:Ex} {ua aa:Option Addr} (h:EcQ q w x ua aa) (k:Kq q w w'):EcQ q w' x ua aa :=
 ⟨h.us.keep k,h.ar.imp id fun ⟨b,off,e,hn,ht,hF⟩=>⟨b,off,e,hn,Da k hn ht,FmQ.keep k _ b off hn hF⟩⟩
theorem bY {q:Nat→Prop} {B:Nat} {w w':World} (M:Mx w.heap.size B w w') (hB:¬ q B):Kq q w w':=fun b hb hl=>M.block b hl fun e=>hB (e ▸ hb)
theorem bT {q:Nat→Prop} {w w':World} (h:Below w.heap.size w w'):Kq q w w':=fun b _ hl=>h.block b hl
theorem fu {q:Nat→Prop} {g:Nat} {w w':World} (h:St g w w') (hg:¬ q g):Kq q w w':=fun b hb _=>h.block b fun e=>hg (e ▸ hb)
theorem qj {q:Nat→Prop} {w:World} {g:Nat} {x:Ex} {uax:Option Addr} {ucx:Nat} {aax:Option Addr} {acx:Nat} {y:Ex} {uay:Option Addr} {ucy:Nat} {aay:Option Addr} {acy:Nat} (hB:Blk w g 43 (ex2 x uax ucx aax acx y uay ucy aay acy)) (Ex:EcQ q w x uax aax) (Ey:EcQ q w y uay aay) (hC:q g):AsQ q w (some ⟨g,0,none⟩) (.cons x.h x.ar (.cons y.h y.ar .nil)):=by
 refine .inr ⟨g,0,rfl,hC,hB.tg,⟨⟨uax,ucx,aax,acx,⟨hB.cell 0,hB.cell 1,hB.cell 2,hB.cell 3,hB.cell 4,hB.cell 5,hB.cell 6,hB.cell 7,hB.cell 8,hB.cell 9,hB.cell 10,hB.cell 11⟩,Ex.us,Ex.ar⟩,⟨⟨uay,ucy,aay,acy,⟨hB.cell 12,hB.cell 13,hB.cell 14,hB.cell 15,hB.cell 16,hB.cell 17,hB.cell 18,hB.cell 19,hB.cell 20,hB.cell 21,hB.cell 22,hB.cell 23⟩,Ey.us,Ey.ar⟩,trivial⟩⟩⟩
end rr
end Go.Proofs.YtbpijgddfaefkaaGreatDoor
