/-
  The reference's reader: aggregates.
-/
import Derived.Test.YtbpijgddfaefkaaGreatDoorV29
set_option maxRecDepth 100000
set_option maxHeartbeats 16000000
namespace Go.Proofs.YtbpijgddfaefkaaGreatDoor.rr
open Go.RowKit dec pa
def agC (op tb:ByteArray) (p wk ws:Int) (aa:Option Addr) (an ac:Nat):Array Value:=#[.int .i64 5,.string op,.string ⟨#[]⟩,.string tb,.int .i64 0,.int .i64 0,.string ⟨#[]⟩,.slice none 0 0,.int .i64 p,.int .i64 wk,.int .i64 ws,.slice aa an ac]
theorem Rp.ins {w:World} {B:Nat} {l:List Tk} {i:Bool} {a c:Int} (h:Rp w B l i a c) (j:Bool):Rp (w.setCell ⟨B,1,none⟩ (.bool j)) B l j a c∧St B w (w.setCell ⟨B,1,none⟩ (.bool j)):=by
 obtain ⟨b,off,n,cap,hb,h1,h2,h3,h4,k0,k1,k2,hB,hC⟩:=h.now
 have hs:=hb.setCell 1 (.bool j)
 exact ⟨h.put (off':=off) hs.2 hs.1 hB hC h4 h2 h3 h.tl h.pl,hs.2⟩
theorem Rp.in1 {w:World} {B:Nat} {l:List Tk} {i:Bool} {a c:Int} (h:Rp w B l i a c):w.cell? ⟨B,1,none⟩=some (.bool i)∧w.frozen? ⟨B,1,none⟩=false:=by
 obtain ⟨b,off,n,cap,hb,_⟩:=h.now
 exact ⟨hb.cell 1,hb.free 1⟩
theorem iD {β:Type} (l:List Tk) (g:ByteArray→List Tk→Rs β):(tak 1 l).bind g=(tkk 1 l).bind fun x r=>g x.t r:=by
 unfold tak tkk
 split
 ·rw [if_neg (by decide)]
  rfl
 ·rfl
theorem str_eq (s t:ByteArray):(s.toList==t.toList)=decide (s=t):=by rw [Bool.eq_iff_iff,beq_iff_eq,decide_eq_true_eq];exact ⟨un.toList_inj,fun e=>e ▸ rfl⟩
theorem j4 (s t:ByteArray) (L:List UInt8) (e:t.data.toList=L):(s.toList==L)=decide (s=t):=by rw [← str_eq,ByteArray.toList_eq t,e]
theorem Jq (k:Int) (l:List Tk):tkk k l≠.out:=by
 unfold tkk wrg
 intro h
 split at h <;> cases h
theorem Gf {l r:List Tk} {x:Tk} (hl:l≠[]) (h:tkk 1 l=.ok x r):r.length<l.length:=by
 unfold tkk at h
 split at h
 ·rw [if_neg (by decide)] at h
  cases h
  cases l with
  | nil=>exact absurd rfl hl
  | cons _ _=>exact Nat.lt_succ_self _
 ·cases h
theorem JU {l r:List Tk} {v:ByteArray} (h:nam l=.ok v r):r.length≤l.length:=by
 rcases yI h with h | rfl
 ·omega
 ·rw [mW] at h
  split at h
  ·cases h
  ·unfold tkk at h
   split at h
   ·rename_i hk
    exact absurd hk (by decide)
   ·cases h
theorem Mr (B:Nat) (l:List Tk) (i:Bool) (a c:Int) (w:World) (h:Rp w B l i a c) (hc:c=0) (hi:i=false) (G:List Tk→Int→Prop) (hG:Sht G l c) (HX:CEx G) :
  Calls Tryz.prog 252 #[.pointer (some ⟨B,0,none⟩)] w (Qst B Ev (Z i .ag l) l i a c w):=by
 have gB:=Hy h.lt
 have bb:=aj (b0 w) (.cells #[.int .i64 0,.string ⟨#[]⟩,.string ⟨#[]⟩,.string ⟨#[]⟩,.int .i64 0,.int .i64 0,.string ⟨#[]⟩,.slice none 0 0,.int .i64 0,.int .i64 0,.int .i64 0,.slice none 0 0] 43)
 have P:=Hy (h.keeps bb)
 have M:=Hy (Mx.of (B:=B) bb)
 have L2:=Hy (Blk.new w 43 #[.int .i64 0,.string ⟨#[]⟩,.string ⟨#[]⟩,.string ⟨#[]⟩,.int .i64 0,.int .i64 0,.string ⟨#[]⟩,.slice none 0 0,.int .i64 0,.int .i64 0,.int .i64 0,.slice none 0 0])
 clear h bb
 have HX0:=Hy HX
 have HG:=Hy hG
 have HL:=Hy P.o.tl
 clear HX hG
 subst hc
 subst hi
 have F1:=tf1
 go_enter Tryz.func252,Tryz.ntmps252
 go_wp2_with fail
 refine (gP B l false a 0 1 _ P.o).mono ?_
 rintro e w1 ⟨u1,x1,l1,a1,c1,rfl,v1,pp,mm,af1⟩
 have AF1:=Hy af1
 clear af1
 replace L2:=Hy (ak L2.o mm (by have:=gB.o;omega) L2.o.lt)
 replace M:=Hy (M.o.nx mm)
 replace P:=Hy pp
 clear pp mm
 obtain ⟨rfl,zs1⟩:=v1
 have ZS1:=Hy zs1
 clear zs1
 obtain ⟨op,hop⟩:∃ s,x1.t=s:=⟨_,rfl⟩
 have HOP:=Hy hop
 clear ZS1
 have LT1:=Hy (show c1=0→l1.length<l.length from fun hc=>by
  subst hc
  exact Gf HL.o.ne (AF1.o.fine (Jq _ _)).2.1)
 go_wp2_with ((refine aB aH (.tmp 3) (.tmp 9) rfl rfl _ _ _ _ rfl rfl (Blk.new _ _ _) rfl rfl (by simp [Value.oneCell']) ?_;intro w1L L hs;have bb:=(aj (b0 w1) _).trans (hs.below (Nat.le_refl _));have gB3:=Hy P.o.lt;have hw3:=Hy (show w.heap.size<w1.heap.size from L2.o.lt);have L3:=Hy L;replace L2:=Hy (L2.o.below bb L2.o.lt);replace P:=Hy (P.o.keeps bb);replace M:=Hy (M.o.nx (.of bb));clear bb hs L))
 subst hop
 replace L3:=Hy (show Blk _ w1.heap.size 43 (agC x1.t ⟨#[]⟩ 0 0 0 none 0 0) from L3.o)
 have HW3:=Hy (show w.heap.size<w1.heap.size from hw3.o)
 clear hw3 HOP
 obtain ⟨op,hop⟩:∃ s,x1.t=s:=⟨_,rfl⟩
 have HOP:=Hy hop
 rw [hop] at L3
 clear hop
 generalize w1.heap.size=g3 at *
 refine (bU B 5 ⟨#[40]⟩ (by rw [aJ];exact ⟨by decide,by decide⟩) (by decide) l1 false a1 c1 _ P.o).mono ?_
 rintro e w2 ⟨u2,x2,l2,a2,c2,rfl,v2,pp,mm,af2⟩
 have AF2:=Hy af2
 clear af2
 replace L2:=Hy (ak L2.o mm (by have:=gB.o;omega) L2.o.lt)
 replace L3:=Hy (ak L3.o mm (by have:=gB.o;have:=HW3.o;omega) L3.o.lt)
 replace M:=Hy (M.o.nx mm)
 replace P:=Hy pp
 clear pp mm
 obtain rfl:u2=.tuple #[]:=v2
 have LT2:=Hy (dG (N:=l.length) AF2.o (bD _ _) (fun v q h=>Nat.le_of_lt (bE h)) LT1.o)
 go_wp2_with fail
 refine (jP B l2 false a2 c2 _ P.o).mono ?_
 rintro e w3 ⟨u3,x3,l3,a3,c3,rfl,v3,pp,mm,af3⟩
 have AF3:=Hy af3
 clear af3
 replace L2:=Hy (ak L2.o mm (by have:=gB.o;omega) L2.o.lt)
 replace L3:=Hy (ak L3.o mm (by have:=gB.o;have:=HW3.o;omega) L3.o.lt)
 replace M:=Hy (M.o.nx mm)
 replace P:=Hy pp
 clear pp mm
 obtain rfl:u3=.string x3:=v3
 have LT3:=Hy (dG (N:=l.length) AF3.o (dJ _) (fun v q h=>JU h) LT2.o)
 have f1:=L3.o.cell 3
 have f2:=L3.o.free 3
 simp only [agC,List.getElem?_toArray,List.getElem?_cons_zero,List.getElem?_cons_succ] at f1
 go_wp2_with fail
 obtain ⟨hb9,hs9⟩:=L3.o.setCell 3 (.string x3)
 replace L2:=Hy (L2.o.st hs9 (by have:=HW3.o;omega))
 replace P:=Hy (P.o.st hs9 (by have:=gB.o;have:=HW3.o;omega))
 replace M:=Hy (M.o.trans (.st hs9 (.inr (by have:=HW3.o;omega))))
 replace L3:=Hy (show Blk _ g3 43 (agC op x3 0 0 0 none 0 0) from hb9)
 clear hb9 hs9 f1 f2
 generalize w3.setCell ⟨g3,3,none⟩ (.string x3)=w4S at *
 refine (bU B 5 ⟨#[44]⟩ (by rw [aJ];exact ⟨by decide,by decide⟩) (by decide) l3 false a3 c3 _ P.o).mono ?_
 rintro e w5 ⟨u5,x5,l5,a5,c5,rfl,v5,pp,mm,af5⟩
 have AF5:=Hy af5
 clear af5
 replace L2:=Hy (ak L2.o mm (by have:=gB.o;omega) L2.o.lt)
 replace L3:=Hy (ak L3.o mm (by have:=gB.o;have:=HW3.o;omega) L3.o.lt)
 replace M:=Hy (M.o.nx mm)
 replace P:=Hy pp
 clear pp mm
 obtain rfl:u5=.tuple #[]:=v5
 have LT5:=Hy (dG (N:=l.length) AF5.o (bD _ _) (fun v q h=>Nat.le_of_lt (bE h)) LT3.o)
 obtain ⟨f1,f2⟩:=P.o.in1
 go_wp2_with fail
 obtain ⟨pp,hs9⟩:=P.o.ins true
 replace L2:=Hy (L2.o.st hs9 (by have:=gB.o;have:=HW3.o;omega))
 replace L3:=Hy (L3.o.st hs9 (by have:=gB.o;have:=HW3.o;omega))
 replace P:=Hy pp
 replace M:=Hy (M.o.trans (.st hs9 (.inl rfl)))
 clear pp hs9 f1 f2
 generalize w5.setCell ⟨B,1,none⟩ (.bool true)=w6S at *
 refine (iU _).mono ?_
 rintro e w7 ⟨rfl,bb⟩
 replace L2:=Hy (L2.o.below bb L2.o.lt)
 replace L3:=Hy (L3.o.below bb L3.o.lt)
 replace P:=Hy (P.o.keeps bb)
 replace M:=Hy (M.o.nx (.of bb))
 clear bb
 have h34:=Hy (show g3<w7.heap.size from L3.o.lt)
 by_cases hq:op=⟨#[99,111,117,110,116]⟩
 ·have HQ:=Hy hq
  have k1:(!op.toList==[99,111,117,110,116])=false:=by rw [j4 op ⟨#[99,111,117,110,116]⟩ [99,111,117,110,116] rfl,decide_eq_true hq];rfl
  have HD:=Hy (show ¬ (op=⟨#[113,117,97,110,116,105,108,101]⟩∨op=⟨#[100,101,99,97,121]⟩) from by rw [hq];decide)
  have k2:(op.toList==[113,117,97,110,116,105,108,101])=false:=by rw [j4 op ⟨#[113,117,97,110,116,105,108,101]⟩ [113,117,97,110,116,105,108,101] rfl,decide_eq_false (fun h=>HD.o (.inl h))]
  have k3:(op.toList==[100,101,99,97,121])=false:=by rw [j4 op ⟨#[100,101,99,97,121]⟩ [100,101,99,97,121] rfl,decide_eq_false (fun h=>HD.o (.inr h))]
  clear hq
  go_wp2_with (refine aB aH (.tmp 4) (.tmp 20) rfl rfl _ _ _ _ rfl rfl (Blk.new _ _ _) rfl rfl (aG _ _ _ _ _) ?_;intro w7L L hs;have bb:=(aj (b0 w7) _).trans (hs.below (Nat.le_refl _));have gB4:=Hy P.o.lt;have hw4:=Hy (show w.heap.size<w7.heap.size from L2.o.lt);have L4:=Hy L;replace L2:=Hy (L2.o.below bb L2.o.lt);replace L3:=Hy (L3.o.below bb L3.o.lt);replace P:=Hy (P.o.keeps bb);replace M:=Hy (M.o.nx (.of bb));clear bb hs L;have t1:=L3.o.cell 1;simp only [agC,List.getElem?_toArray,List.getElem?_cons_zero,List.getElem?_cons_succ] at t1)
  have HW4:=Hy (show g3<w7.heap.size from h34.o)
  clear hw4 gB4 h34
  generalize w7.heap.size=g4 at *
  clear t1 k1 k2 k3
  have VX:=Hy (show Ec (g4+1) w7L (aS 1) none none from ⟨.inl rfl,.inl rfl⟩)
  refine (lC B l5 true a5 c5 _ P.o).mono ?_
  rintro e w8 ⟨u8,x8,l8,a8,c8,rfl,v8,pp,mm,af8⟩
  have AF8:=Hy af8
  clear af8
  replace L2:=Hy (ak L2.o mm (by have:=gB.o;omega) L2.o.lt)
  replace L3:=Hy (ak L3.o mm (by have:=gB.o;have:=HW3.o;omega) L3.o.lt)
  replace L4:=Hy (ak L4.o mm (by have:=gB.o;have:=HW3.o;have:=HW4.o;omega) L4.o.lt)
  replace VX:=Hy (VX.o.kp (mm.kp (by have:=gB.o;have:=HW3.o;have:=HW4.o;omega)))
  replace M:=Hy (M.o.nx mm)
  replace P:=Hy pp
  clear pp mm
  obtain rfl:u8=.agg #[.int .i64 x8.1,.int .i64 x8.2]:=v8
  have LT8:=Hy (dG (N:=l.length) AF8.o (iK _) (fun v q h=>Nat.le_of_lt (kK h)) LT5.o)
  go_wp2_with (refine cK dQ (.tmp 43) (.tmp 42) rfl rfl g3 9 _ _ _ rfl rfl L3.o (by simp [agC]) rfl (by simp [Value.oneCell']) ?_;intro w9W hb9 hs9;replace L2:=Hy (L2.o.st hs9 (by have:=HW3.o;omega));replace L4:=Hy (L4.o.st hs9 (by have:=HW4.o;omega));replace VX:=Hy (VX.o.kp (hs9.kp (by have:=HW4.o;omega)));replace P:=Hy (P.o.st hs9 (by have:=gB.o;have:=HW3.o;omega));replace M:=Hy (M.o.trans (.st hs9 (.inr (by have:=HW3.o;omega))));replace L3:=Hy (show Blk _ g3 43 (agC op x3 0 x8.1 x8.2 none 0 0) from hb9);clear hb9 hs9)
  refine (iU _).mono ?_
  rintro e w10 ⟨rfl,bb⟩
  replace L2:=Hy (L2.o.below bb L2.o.lt)
  replace L3:=Hy (L3.o.below bb L3.o.lt)
  replace L4:=Hy (L4.o.below bb L4.o.lt)
  replace VX:=Hy (VX.o.kp (aK bb))
  replace P:=Hy (P.o.keeps bb)
  replace M:=Hy (M.o.nx (.of bb))
  clear bb
  have VQ:=Hy (fB (q:=fun b=>g4+1≤b∧b≠w10.heap.size) VX.o (fun b h1 h2=>⟨h1,by omega⟩))
  clear VX
  have HW5:=Hy (show g4<w10.heap.size from L4.o.lt)
  go_wp2_with (refine aB aH (.tmp 5) (.tmp 44) rfl rfl _ _ _ _ rfl rfl (Blk.new _ _ _) rfl rfl (aG _ _ _ _ _) ?_;intro w10L L hs;have bb:=(aj (b0 w10) _).trans (hs.below (Nat.le_refl _));have gB5:=Hy P.o.lt;have hw5:=Hy (show w.heap.size<w10.heap.size from L2.o.lt);have L5:=Hy L;replace L2:=Hy (L2.o.below bb L2.o.lt);replace L3:=Hy (L3.o.below bb L3.o.lt);replace L4:=Hy (L4.o.below bb L4.o.lt);replace VQ:=Hy (VQ.o.keep (bL bb));replace P:=Hy (P.o.keeps bb);replace M:=Hy (M.o.nx (.of bb));clear bb hs L)
  clear hw5 gB5
  generalize w10.heap.size=g5 at *
  cases hf11:fnd ⟨#[119,104,101,114,101]⟩ l8 c8
  ·have HF11:=Hy (bS hf11)
   refine (bJ B l8 true a8 c8 1 ⟨#[119,104,101,114,101]⟩ (by rw [aJ];exact ⟨by decide,by decide⟩) (by decide) _ P.o hf11).mono ?_
   rintro e w11 ⟨rfl,pp,mm⟩
   clear hf11
   replace L2:=Hy (ak L2.o mm (by have:=gB.o;omega) L2.o.lt)
   replace L3:=Hy (ak L3.o mm (by have:=gB.o;have:=HW3.o;omega) L3.o.lt)
   replace L4:=Hy (ak L4.o mm (by have:=gB.o;have:=HW3.o;have:=HW4.o;omega) L4.o.lt)
   replace VQ:=Hy (VQ.o.keep (bQ mm (by have:=gB.o;have:=HW3.o;have:=HW4.o;rintro ⟨h,_⟩;omega)))
   replace L5:=Hy (ak L5.o mm (by have:=gB.o;have:=HW3.o;have:=HW4.o;have:=HW5.o;omega) L5.o.lt)
   replace M:=Hy (M.o.nx mm)
   replace P:=Hy pp
   clear pp mm
   obtain ⟨f1,f2⟩:=P.o.in1
   go_wp2_with fail
   obtain ⟨pp,hs9⟩:=P.o.ins false
   replace L2:=Hy (L2.o.st hs9 (by have:=gB.o;have:=HW3.o;have:=HW4.o;have:=HW5.o;omega))
   replace L3:=Hy (L3.o.st hs9 (by have:=gB.o;have:=HW3.o;have:=HW4.o;have:=HW5.o;omega))
   replace L4:=Hy (L4.o.st hs9 (by have:=gB.o;have:=HW3.o;have:=HW4.o;have:=HW5.o;omega))
   replace L5:=Hy (L5.o.st hs9 (by have:=gB.o;have:=HW3.o;have:=HW4.o;have:=HW5.o;omega))
   replace VQ:=Hy (VQ.o.keep (eu hs9 (by have:=gB.o;have:=HW3.o;have:=HW4.o;have:=HW5.o;rintro ⟨h,_⟩;omega)))
   replace P:=Hy pp
   replace M:=Hy (M.o.trans (.st hs9 (.inl rfl)))
   clear pp hs9 f1 f2
   generalize w11.setCell ⟨B,1,none⟩ (.bool false)=w12S at *
   refine (bU B 5 ⟨#[41]⟩ (by rw [aJ];exact ⟨by decide,by decide⟩) (by decide) l8 false a8 c8 _ P.o).mono ?_
   rintro e w13 ⟨u13,x13,l13,a13,c13,rfl,v13,pp,mm,af13⟩
   have AF13:=Hy af13
   clear af13
   replace L2:=Hy (ak L2.o mm (by have:=gB.o;omega) L2.o.lt)
   replace L3:=Hy (ak L3.o mm (by have:=gB.o;have:=HW3.o;omega) L3.o.lt)
   replace L4:=Hy (ak L4.o mm (by have:=gB.o;have:=HW3.o;have:=HW4.o;omega) L4.o.lt)
   replace VQ:=Hy (VQ.o.keep (bQ mm (by have:=gB.o;have:=HW3.o;have:=HW4.o;rintro ⟨h,_⟩;omega)))
   replace L5:=Hy (ak L5.o mm (by have:=gB.o;have:=HW3.o;have:=HW4.o;have:=HW5.o;omega) L5.o.lt)
   replace M:=Hy (M.o.nx mm)
   replace P:=Hy pp
   clear pp mm
   obtain rfl:u13=.tuple #[]:=v13
   have h4:=L4.o
   have h5:=L5.o
   simp only [exC] at h4 h5
   have L4q:=Hy h4
   have L5q:=Hy h5
   clear h4 h5
   have hL3:=L3.o.past (.cells (ex2 (aS 1) none 0 none 0 (aS 1) none 0 none 0) 43)
   have f1:=hL3.cell 11
   have f2:=hL3.free 11
   simp only [agC,List.getElem?_toArray,List.getElem?_cons_zero,List.getElem?_cons_succ] at f1
   simp only [ex2] at f1 f2
   obtain ⟨hb8,hs8⟩:=hL3.setCell 11 (.slice (some ⟨w13.heap.size,0,none⟩) 2 2)
   have L3q:=Hy (show Blk _ g3 43 (agC op x3 0 x8.1 x8.2 (some ⟨w13.heap.size,0,none⟩) 2 2) from hb8)
   have L2q:=Hy ((L2.o.past (.cells (ex2 (aS 1) none 0 none 0 (aS 1) none 0 none 0) 43)).st hs8 (by have:=HW3.o;omega))
   have hB:=Blk.new w13 43 (ex2 (aS 1) none 0 none 0 (aS 1) none 0 none 0)
   have bb:=aj (b0 w13) (.cells (ex2 (aS 1) none 0 none 0 (aS 1) none 0 none 0) 43)
   have hz3:=L3.o.lt
   have A9:=Hy ((eF hB ((fA VQ.o (C:=g4+1) fun b h=>h.1).kp (aK bb)) (Ec.kp (show Ec (g4+1) _ (aS 1) none none from ⟨.inl rfl,.inl rfl⟩) (aK bb)) (by have:=L4.o.lt;omega)).kp (hs8.kp (C:=g4+1) (by have:=HW4.o;omega)))
   have P8:=Hy ((P.o.keeps bb).st hs8 (by have:=gB.o;have:=HW3.o;omega))
   have M8:=Hy ((M.o.nx (.of bb)).trans (.st hs8 (.inr (by have:=HW3.o;omega))))
   clear hB bb hs8 hb8 hL3 hz3
   simp only [ex2] at L3q L2q
   simp only [agC] at L3q
   go_wp2_with (first | (refine aL aH Tryz.underlying43 rfl (.tmp 4) rfl rfl _ _ _ rfl L4q.o rfl ?_) | (refine aL aH Tryz.underlying43 rfl (.tmp 5) rfl rfl _ _ _ rfl L5q.o rfl ?_) | (refine aL aH Tryz.underlying43 rfl (.tmp 3) rfl rfl _ _ _ rfl L3q.o rfl ?_) | (refine aB aH (.tmp 2) (.tmp 58) rfl rfl _ _ _ _ rfl rfl L2q.o rfl rfl (by simp [Value.oneCell']) ?_;intro w9 hb9 hs9))
   refine aF rfl _ _ _ _ _ rfl hb9 rfl ?_
   have A10:=(A9.o.kp (hs9.kp (by have:=HW3.o;have:=HW4.o;omega))).less (show w.heap.size≤g4+1 by have:=HW3.o;have:=HW4.o;omega)
   exact ⟨_,j3 op x3 0 x8 (aS 1) (aS 1),l13,a13,c13,rfl,⟨none,0,some ⟨w13.heap.size,0,none⟩,2,rfl,⟨.inl rfl,A10⟩⟩,P8.o.st hs9 gB.o,M8.o.trans (.st hs9 (.inr (Nat.le_refl _))),by
    rw [mG,iD]
    refine AF1.o.bind (AF2.o.bind (AF3.o.bind (AF5.o.bind ?_)))
    try dsimp only
    rw [HOP.o]
    rw [if_pos HQ.o]
    refine Aft.bind (.pure _ _ _ _) ?_
    rw [if_neg HD.o]
    refine Aft.bind (.pure _ _ _ _) ?_
    refine AF8.o.bind ?_
    try dsimp only
    refine Aft.bind (.nay HF11.o (.pure _ _ _ _)) ?_
    exact AF13.o.bind (.pure _ _ _ _)⟩
  ·have HF11:=Hy (bH hf11)
   refine (bI B l8 true a8 c8 1 ⟨#[119,104,101,114,101]⟩ (by rw [aJ];exact ⟨by decide,by decide⟩) (by decide) _ P.o hf11).mono ?_
   rintro e w11 ⟨rfl,pp,mm⟩
   clear hf11
   replace L2:=Hy (ak L2.o mm (by have:=gB.o;omega) L2.o.lt)
   replace L3:=Hy (ak L3.o mm (by have:=gB.o;have:=HW3.o;omega) L3.o.lt)
   replace L4:=Hy (ak L4.o mm (by have:=gB.o;have:=HW3.o;have:=HW4.o;omega) L4.o.lt)
   replace VQ:=Hy (VQ.o.keep (bQ mm (by have:=gB.o;have:=HW3.o;have:=HW4.o;rintro ⟨h,_⟩;omega)))
   replace L5:=Hy (ak L5.o mm (by have:=gB.o;have:=HW3.o;have:=HW4.o;have:=HW5.o;omega) L5.o.lt)
   replace M:=Hy (M.o.nx mm)
   replace P:=Hy pp
   clear pp mm
   go_wp2_with fail
   have hz12:=Hy L5.o.lt
   refine (HX0.o B true l8.tail a8 c8 _ P.o (HG.o l8.tail c8 rfl (fun hc=>Nat.lt_trans (aR HF11.o.2) (LT8.o hc)))).mono ?_
   rintro e w12 ⟨u12,x12,l12,a12,c12,rfl,v12,pp,mm,af12⟩
   have AF12:=Hy af12
   clear af12
   replace L2:=Hy (ak L2.o mm (by have:=gB.o;omega) L2.o.lt)
   replace L3:=Hy (ak L3.o mm (by have:=gB.o;have:=HW3.o;omega) L3.o.lt)
   replace L4:=Hy (ak L4.o mm (by have:=gB.o;have:=HW3.o;have:=HW4.o;omega) L4.o.lt)
   replace VQ:=Hy (VQ.o.keep (bQ mm (by have:=gB.o;have:=HW3.o;have:=HW4.o;rintro ⟨h,_⟩;omega)))
   replace L5:=Hy (ak L5.o mm (by have:=gB.o;have:=HW3.o;have:=HW4.o;have:=HW5.o;omega) L5.o.lt)
   replace M:=Hy (M.o.nx mm)
   replace P:=Hy pp
   clear pp mm
   obtain ⟨ua12,uc12,aa12,ac12,rfl,U12⟩:=v12
   have V12:=Hy (U12.less (Nat.succ_le_of_lt hz12.o))
   clear U12 hz12
   go_wp2_with (refine aB aH (.tmp 5) (.tmp 48) rfl rfl _ _ _ _ rfl rfl L5.o rfl rfl (aG _ _ _ _ _) ?_;intro w13L L hs9;replace L2:=Hy (L2.o.st hs9 (by have:=HW3.o;have:=HW4.o;have:=HW5.o;omega));replace L3:=Hy (L3.o.st hs9 (by have:=HW4.o;have:=HW5.o;omega));replace L4:=Hy (L4.o.st hs9 (by have:=HW5.o;omega));replace VQ:=Hy (VQ.o.keep (eu hs9 (by rintro ⟨_,h⟩;exact h rfl)));replace V12:=Hy (V12.o.kp (hs9.kp (Nat.lt_succ_self _)));replace P:=Hy (P.o.st hs9 (by have:=gB.o;have:=HW3.o;have:=HW4.o;have:=HW5.o;omega));replace M:=Hy (M.o.trans (.st hs9 (.inr (by have:=HW3.o;have:=HW4.o;have:=HW5.o;omega))));replace L5:=Hy L;clear L hs9;obtain ⟨f1,f2⟩:=P.o.in1)
   obtain ⟨pp,hs9⟩:=P.o.ins false
   replace L2:=Hy (L2.o.st hs9 (by have:=gB.o;have:=HW3.o;have:=HW4.o;have:=HW5.o;omega))
   replace L3:=Hy (L3.o.st hs9 (by have:=gB.o;have:=HW3.o;have:=HW4.o;have:=HW5.o;omega))
   replace L4:=Hy (L4.o.st hs9 (by have:=gB.o;have:=HW3.o;have:=HW4.o;have:=HW5.o;omega))
   replace L5:=Hy (L5.o.st hs9 (by have:=gB.o;have:=HW3.o;have:=HW4.o;have:=HW5.o;omega))
   replace VQ:=Hy (VQ.o.keep (eu hs9 (by have:=gB.o;have:=HW3.o;have:=HW4.o;have:=HW5.o;rintro ⟨h,_⟩;omega)))
   replace V12:=Hy (V12.o.kp (hs9.kp (by have:=gB.o;have:=HW3.o;have:=HW4.o;have:=HW5.o;omega)))
   replace P:=Hy pp
   replace M:=Hy (M.o.trans (.st hs9 (.inl rfl)))
   clear pp hs9 f1 f2
   generalize w13L.setCell ⟨B,1,none⟩ (.bool false)=w14S at *
   refine (bU B 5 ⟨#[41]⟩ (by rw [aJ];exact ⟨by decide,by decide⟩) (by decide) l12 false a12 c12 _ P.o).mono ?_
   rintro e w15 ⟨u15,x15,l15,a15,c15,rfl,v15,pp,mm,af15⟩
   have AF15:=Hy af15
   clear af15
   replace L2:=Hy (ak L2.o mm (by have:=gB.o;omega) L2.o.lt)
   replace L3:=Hy (ak L3.o mm (by have:=gB.o;have:=HW3.o;omega) L3.o.lt)
   replace L4:=Hy (ak L4.o mm (by have:=gB.o;have:=HW3.o;have:=HW4.o;omega) L4.o.lt)
   replace VQ:=Hy (VQ.o.keep (bQ mm (by have:=gB.o;have:=HW3.o;have:=HW4.o;rintro ⟨h,_⟩;omega)))
   replace L5:=Hy (ak L5.o mm (by have:=gB.o;have:=HW3.o;have:=HW4.o;have:=HW5.o;omega) L5.o.lt)
   replace V12:=Hy (V12.o.kp (mm.kp (by have:=gB.o;have:=HW3.o;have:=HW4.o;have:=HW5.o;omega)))
   replace M:=Hy (M.o.nx mm)
   replace P:=Hy pp
   clear pp mm
   obtain rfl:u15=.tuple #[]:=v15
   have h4:=L4.o
   have h5:=L5.o
   simp only [exC] at h4 h5
   have L4q:=Hy h4
   have L5q:=Hy h5
   clear h4 h5
   have hL3:=L3.o.past (.cells (ex2 (aS 1) none 0 none 0 x12 ua12 uc12 aa12 ac12) 43)
   have f1:=hL3.cell 11
   have f2:=hL3.free 11
   simp only [agC,List.getElem?_toArray,List.getElem?_cons_zero,List.getElem?_cons_succ] at f1
   simp only [ex2] at f1 f2
   obtain ⟨hb8,hs8⟩:=hL3.setCell 11 (.slice (some ⟨w15.heap.size,0,none⟩) 2 2)
   have L3q:=Hy (show Blk _ g3 43 (agC op x3 0 x8.1 x8.2 (some ⟨w15.heap.size,0,none⟩) 2 2) from hb8)
   have L2q:=Hy ((L2.o.past (.cells (ex2 (aS 1) none 0 none 0 x12 ua12 uc12 aa12 ac12) 43)).st hs8 (by have:=HW3.o;omega))
   have hB:=Blk.new w15 43 (ex2 (aS 1) none 0 none 0 x12 ua12 uc12 aa12 ac12)
   have bb:=aj (b0 w15) (.cells (ex2 (aS 1) none 0 none 0 x12 ua12 uc12 aa12 ac12) 43)
   have hz3:=L3.o.lt
   have A9:=Hy ((eF hB ((fA VQ.o (C:=g4+1) fun b h=>h.1).kp (aK bb)) (Ec.kp (V12.o.less (Nat.succ_le_succ (Nat.le_of_lt HW5.o))) (aK bb)) (by have:=L4.o.lt;omega)).kp (hs8.kp (C:=g4+1) (by have:=HW4.o;omega)))
   have P8:=Hy ((P.o.keeps bb).st hs8 (by have:=gB.o;have:=HW3.o;omega))
   have M8:=Hy ((M.o.nx (.of bb)).trans (.st hs8 (.inr (by have:=HW3.o;omega))))
   clear hB bb hs8 hb8 hL3 hz3
   simp only [ex2] at L3q L2q
   simp only [agC] at L3q
   go_wp2_with (first | (refine aL aH Tryz.underlying43 rfl (.tmp 4) rfl rfl _ _ _ rfl L4q.o rfl ?_) | (refine aL aH Tryz.underlying43 rfl (.tmp 5) rfl rfl _ _ _ rfl L5q.o rfl ?_) | (refine aL aH Tryz.underlying43 rfl (.tmp 3) rfl rfl _ _ _ rfl L3q.o rfl ?_) | (refine aB aH (.tmp 2) (.tmp 58) rfl rfl _ _ _ _ rfl rfl L2q.o rfl rfl (by simp [Value.oneCell']) ?_;intro w9 hb9 hs9))
   refine aF rfl _ _ _ _ _ rfl hb9 rfl ?_
   have A10:=(A9.o.kp (hs9.kp (by have:=HW3.o;have:=HW4.o;omega))).less (show w.heap.size≤g4+1 by have:=HW3.o;have:=HW4.o;omega)
   exact ⟨_,j3 op x3 0 x8 (aS 1) x12,l15,a15,c15,rfl,⟨none,0,some ⟨w15.heap.size,0,none⟩,2,rfl,⟨.inl rfl,A10⟩⟩,P8.o.st hs9 gB.o,M8.o.trans (.st hs9 (.inr (Nat.le_refl _))),by
    rw [mG,iD]
    refine AF1.o.bind (AF2.o.bind (AF3.o.bind (AF5.o.bind ?_)))
    try dsimp only
    rw [HOP.o]
    rw [if_pos HQ.o]
    refine Aft.bind (.pure _ _ _ _) ?_
    rw [if_neg HD.o]
    refine Aft.bind (.pure _ _ _ _) ?_
    refine AF8.o.bind ?_
    try dsimp only
    refine Aft.bind (.yes HF11.o.1 HF11.o.2 AF12.o) ?_
    exact AF15.o.bind (.pure _ _ _ _)⟩
 ·have HQ:=Hy hq
  have k1:(!op.toList==[99,111,117,110,116])=true:=by rw [j4 op ⟨#[99,111,117,110,116]⟩ [99,111,117,110,116] rfl,decide_eq_false hq];rfl
  clear hq
  go_wp2_with (refine aB aH (.tmp 4) (.tmp 20) rfl rfl _ _ _ _ rfl rfl (Blk.new _ _ _) rfl rfl (aG _ _ _ _ _) ?_;intro w7L L hs;have bb:=(aj (b0 w7) _).trans (hs.below (Nat.le_refl _));have gB4:=Hy P.o.lt;have hw4:=Hy (show w.heap.size<w7.heap.size from L2.o.lt);have L4:=Hy L;replace L2:=Hy (L2.o.below bb L2.o.lt);replace L3:=Hy (L3.o.below bb L3.o.lt);replace P:=Hy (P.o.keeps bb);replace M:=Hy (M.o.nx (.of bb));clear bb hs L;have t1:=L3.o.cell 1;simp only [agC,List.getElem?_toArray,List.getElem?_cons_zero,List.getElem?_cons_succ] at t1)
  have HW4:=Hy (show g3<w7.heap.size from h34.o)
  clear hw4 gB4 h34
  generalize w7.heap.size=g4 at *
  clear t1 k1
  have hz8:=Hy L4.o.lt
  refine (HX0.o B true l5 a5 c5 _ P.o (HG.o l5 c5 rfl LT5.o)).mono ?_
  rintro e w8 ⟨u8,x8,l8,a8,c8,rfl,v8,pp,mm,af8⟩
  have AF8:=Hy af8
  clear af8
  replace L2:=Hy (ak L2.o mm (by have:=gB.o;omega) L2.o.lt)
  replace L3:=Hy (ak L3.o mm (by have:=gB.o;have:=HW3.o;omega) L3.o.lt)
  replace L4:=Hy (ak L4.o mm (by have:=gB.o;have:=HW3.o;have:=HW4.o;omega) L4.o.lt)
  replace M:=Hy (M.o.nx mm)
  replace P:=Hy pp
  clear pp mm
  obtain ⟨ua8,uc8,aa8,ac8,rfl,U8⟩:=v8
  have V8:=Hy (U8.less (Nat.succ_le_of_lt hz8.o))
  clear U8 hz8
  have LT8:=Hy (dG (N:=l.length) AF8.o (eG (m:=.ex) trivial) (fun v q h=>by have:=gM h;simp only [Md.le] at this;omega) LT5.o)
  go_wp2_with (refine aB aH (.tmp 4) (.tmp 25) rfl rfl _ _ _ _ rfl rfl L4.o rfl rfl (aG _ _ _ _ _) ?_;intro w9L L hs9;replace L2:=Hy (L2.o.st hs9 (by have:=HW3.o;have:=HW4.o;omega));replace L3:=Hy (L3.o.st hs9 (by have:=HW4.o;omega));have VX:=Hy (V8.o.kp (hs9.kp (Nat.lt_succ_self _)));replace P:=Hy (P.o.st hs9 (by have:=gB.o;have:=HW3.o;have:=HW4.o;omega));replace M:=Hy (M.o.trans (.st hs9 (.inr (by have:=HW3.o;have:=HW4.o;omega))));replace L4:=Hy L;clear L hs9 V8)
  refine (bU B 5 ⟨#[44]⟩ (by rw [aJ];exact ⟨by decide,by decide⟩) (by decide) l8 true a8 c8 _ P.o).mono ?_
  rintro e w10 ⟨u10,x10,l10,a10,c10,rfl,v10,pp,mm,af10⟩
  have AF10:=Hy af10
  clear af10
  replace L2:=Hy (ak L2.o mm (by have:=gB.o;omega) L2.o.lt)
  replace L3:=Hy (ak L3.o mm (by have:=gB.o;have:=HW3.o;omega) L3.o.lt)
  replace L4:=Hy (ak L4.o mm (by have:=gB.o;have:=HW3.o;have:=HW4.o;omega) L4.o.lt)
  replace VX:=Hy (VX.o.kp (mm.kp (by have:=gB.o;have:=HW3.o;have:=HW4.o;omega)))
  replace M:=Hy (M.o.nx mm)
  replace P:=Hy pp
  clear pp mm
  obtain rfl:u10=.tuple #[]:=v10
  have LT10:=Hy (dG (N:=l.length) AF10.o (bD _ _) (fun v q h=>Nat.le_of_lt (bE h)) LT8.o)
  have t1:=L3.o.cell 1
  simp only [agC,List.getElem?_toArray,List.getElem?_cons_zero,List.getElem?_cons_succ] at t1
  by_cases h2:op=⟨#[113,117,97,110,116,105,108,101]⟩
  ·have HD:=Hy (show op=⟨#[113,117,97,110,116,105,108,101]⟩∨op=⟨#[100,101,99,97,121]⟩ from .inl h2)
   have k2:(op.toList==[113,117,97,110,116,105,108,101])=true:=by rw [j4 op ⟨#[113,117,97,110,116,105,108,101]⟩ [113,117,97,110,116,105,108,101] rfl,decide_eq_true h2]
   clear h2
   go_wp2_with fail
   clear t1 k2
   refine (fU B l10 true a10 c10 _ P.o).mono ?_
   rintro e w11 ⟨u11,x11,l11,a11,c11,rfl,v11,pp,mm,af11⟩
   have AF11:=Hy af11
   clear af11
   replace L2:=Hy (ak L2.o mm (by have:=gB.o;omega) L2.o.lt)
   replace L3:=Hy (ak L3.o mm (by have:=gB.o;have:=HW3.o;omega) L3.o.lt)
   replace L4:=Hy (ak L4.o mm (by have:=gB.o;have:=HW3.o;have:=HW4.o;omega) L4.o.lt)
   replace VX:=Hy (VX.o.kp (mm.kp (by have:=gB.o;have:=HW3.o;have:=HW4.o;omega)))
   replace M:=Hy (M.o.nx mm)
   replace P:=Hy pp
   clear pp mm
   obtain rfl:u11=.int .i64 x11:=v11
   have LT11:=Hy (dG (N:=l.length) AF11.o (int_ne _) (fun v q h=>Nat.le_of_lt (int_lt h)) LT10.o)
   have f1:=L3.o.cell 8
   have f2:=L3.o.free 8
   simp only [agC,List.getElem?_toArray,List.getElem?_cons_zero,List.getElem?_cons_succ] at f1
   go_wp2_with fail
   obtain ⟨hb9,hs9⟩:=L3.o.setCell 8 (.int .i64 x11)
   replace L2:=Hy (L2.o.st hs9 (by have:=HW3.o;omega))
   replace L4:=Hy (L4.o.st hs9 (by have:=HW4.o;omega))
   replace VX:=Hy (VX.o.kp (hs9.kp (by have:=HW4.o;omega)))
   replace P:=Hy (P.o.st hs9 (by have:=gB.o;have:=HW3.o;omega))
   replace M:=Hy (M.o.trans (.st hs9 (.inr (by have:=HW3.o;omega))))
   replace L3:=Hy (show Blk _ g3 43 (agC op x3 x11 0 0 none 0 0) from hb9)
   clear hb9 hs9 f1 f2
   generalize w11.setCell ⟨g3,8,none⟩ (.int .i64 x11)=w12S at *
   refine (bU B 5 ⟨#[44]⟩ (by rw [aJ];exact ⟨by decide,by decide⟩) (by decide) l11 true a11 c11 _ P.o).mono ?_
   rintro e w13 ⟨u13,x13,l13,a13,c13,rfl,v13,pp,mm,af13⟩
   have AF13:=Hy af13
   clear af13
   replace L2:=Hy (ak L2.o mm (by have:=gB.o;omega) L2.o.lt)
   replace L3:=Hy (ak L3.o mm (by have:=gB.o;have:=HW3.o;omega) L3.o.lt)
   replace L4:=Hy (ak L4.o mm (by have:=gB.o;have:=HW3.o;have:=HW4.o;omega) L4.o.lt)
   replace VX:=Hy (VX.o.kp (mm.kp (by have:=gB.o;have:=HW3.o;have:=HW4.o;omega)))
   replace M:=Hy (M.o.nx mm)
   replace P:=Hy pp
   clear pp mm
   obtain rfl:u13=.tuple #[]:=v13
   have LT13:=Hy (dG (N:=l.length) AF13.o (bD _ _) (fun v q h=>Nat.le_of_lt (bE h)) LT11.o)
   go_wp2_with fail
   refine (lC B l13 true a13 c13 _ P.o).mono ?_
   rintro e w14 ⟨u14,x14,l14,a14,c14,rfl,v14,pp,mm,af14⟩
   have AF14:=Hy af14
   clear af14
   replace L2:=Hy (ak L2.o mm (by have:=gB.o;omega) L2.o.lt)
   replace L3:=Hy (ak L3.o mm (by have:=gB.o;have:=HW3.o;omega) L3.o.lt)
   replace L4:=Hy (ak L4.o mm (by have:=gB.o;have:=HW3.o;have:=HW4.o;omega) L4.o.lt)
   replace VX:=Hy (VX.o.kp (mm.kp (by have:=gB.o;have:=HW3.o;have:=HW4.o;omega)))
   replace M:=Hy (M.o.nx mm)
   replace P:=Hy pp
   clear pp mm
   obtain rfl:u14=.agg #[.int .i64 x14.1,.int .i64 x14.2]:=v14
   have LT14:=Hy (dG (N:=l.length) AF14.o (iK _) (fun v q h=>Nat.le_of_lt (kK h)) LT13.o)
   go_wp2_with (refine cK dQ (.tmp 43) (.tmp 42) rfl rfl g3 9 _ _ _ rfl rfl L3.o (by simp [agC]) rfl (by simp [Value.oneCell']) ?_;intro w15W hb9 hs9;replace L2:=Hy (L2.o.st hs9 (by have:=HW3.o;omega));replace L4:=Hy (L4.o.st hs9 (by have:=HW4.o;omega));replace VX:=Hy (VX.o.kp (hs9.kp (by have:=HW4.o;omega)));replace P:=Hy (P.o.st hs9 (by have:=gB.o;have:=HW3.o;omega));replace M:=Hy (M.o.trans (.st hs9 (.inr (by have:=HW3.o;omega))));replace L3:=Hy (show Blk _ g3 43 (agC op x3 x11 x14.1 x14.2 none 0 0) from hb9);clear hb9 hs9)
   refine (iU _).mono ?_
   rintro e w16 ⟨rfl,bb⟩
   replace L2:=Hy (L2.o.below bb L2.o.lt)
   replace L3:=Hy (L3.o.below bb L3.o.lt)
   replace L4:=Hy (L4.o.below bb L4.o.lt)
   replace VX:=Hy (VX.o.kp (aK bb))
   replace P:=Hy (P.o.keeps bb)
   replace M:=Hy (M.o.nx (.of bb))
   clear bb
   have VQ:=Hy (fB (q:=fun b=>g4+1≤b∧b≠w16.heap.size) VX.o (fun b h1 h2=>⟨h1,by omega⟩))
   clear VX
   have HW5:=Hy (show g4<w16.heap.size from L4.o.lt)
   go_wp2_with (refine aB aH (.tmp 5) (.tmp 44) rfl rfl _ _ _ _ rfl rfl (Blk.new _ _ _) rfl rfl (aG _ _ _ _ _) ?_;intro w16L L hs;have bb:=(aj (b0 w16) _).trans (hs.below (Nat.le_refl _));have gB5:=Hy P.o.lt;have hw5:=Hy (show w.heap.size<w16.heap.size from L2.o.lt);have L5:=Hy L;replace L2:=Hy (L2.o.below bb L2.o.lt);replace L3:=Hy (L3.o.below bb L3.o.lt);replace L4:=Hy (L4.o.below bb L4.o.lt);replace VQ:=Hy (VQ.o.keep (bL bb));replace P:=Hy (P.o.keeps bb);replace M:=Hy (M.o.nx (.of bb));clear bb hs L)
   clear hw5 gB5
   generalize w16.heap.size=g5 at *
   cases hf17:fnd ⟨#[119,104,101,114,101]⟩ l14 c14
   ·have HF17:=Hy (bS hf17)
    refine (bJ B l14 true a14 c14 1 ⟨#[119,104,101,114,101]⟩ (by rw [aJ];exact ⟨by decide,by decide⟩) (by decide) _ P.o hf17).mono ?_
    rintro e w17 ⟨rfl,pp,mm⟩
    clear hf17
    replace L2:=Hy (ak L2.o mm (by have:=gB.o;omega) L2.o.lt)
    replace L3:=Hy (ak L3.o mm (by have:=gB.o;have:=HW3.o;omega) L3.o.lt)
    replace L4:=Hy (ak L4.o mm (by have:=gB.o;have:=HW3.o;have:=HW4.o;omega) L4.o.lt)
    replace VQ:=Hy (VQ.o.keep (bQ mm (by have:=gB.o;have:=HW3.o;have:=HW4.o;rintro ⟨h,_⟩;omega)))
    replace L5:=Hy (ak L5.o mm (by have:=gB.o;have:=HW3.o;have:=HW4.o;have:=HW5.o;omega) L5.o.lt)
    replace M:=Hy (M.o.nx mm)
    replace P:=Hy pp
    clear pp mm
    obtain ⟨f1,f2⟩:=P.o.in1
    go_wp2_with fail
    obtain ⟨pp,hs9⟩:=P.o.ins false
    replace L2:=Hy (L2.o.st hs9 (by have:=gB.o;have:=HW3.o;have:=HW4.o;have:=HW5.o;omega))
    replace L3:=Hy (L3.o.st hs9 (by have:=gB.o;have:=HW3.o;have:=HW4.o;have:=HW5.o;omega))
    replace L4:=Hy (L4.o.st hs9 (by have:=gB.o;have:=HW3.o;have:=HW4.o;have:=HW5.o;omega))
    replace L5:=Hy (L5.o.st hs9 (by have:=gB.o;have:=HW3.o;have:=HW4.o;have:=HW5.o;omega))
    replace VQ:=Hy (VQ.o.keep (eu hs9 (by have:=gB.o;have:=HW3.o;have:=HW4.o;have:=HW5.o;rintro ⟨h,_⟩;omega)))
    replace P:=Hy pp
    replace M:=Hy (M.o.trans (.st hs9 (.inl rfl)))
    clear pp hs9 f1 f2
    generalize w17.setCell ⟨B,1,none⟩ (.bool false)=w18S at *
    refine (bU B 5 ⟨#[41]⟩ (by rw [aJ];exact ⟨by decide,by decide⟩) (by decide) l14 false a14 c14 _ P.o).mono ?_
    rintro e w19 ⟨u19,x19,l19,a19,c19,rfl,v19,pp,mm,af19⟩
    have AF19:=Hy af19
    clear af19
    replace L2:=Hy (ak L2.o mm (by have:=gB.o;omega) L2.o.lt)
    replace L3:=Hy (ak L3.o mm (by have:=gB.o;have:=HW3.o;omega) L3.o.lt)
    replace L4:=Hy (ak L4.o mm (by have:=gB.o;have:=HW3.o;have:=HW4.o;omega) L4.o.lt)
    replace VQ:=Hy (VQ.o.keep (bQ mm (by have:=gB.o;have:=HW3.o;have:=HW4.o;rintro ⟨h,_⟩;omega)))
    replace L5:=Hy (ak L5.o mm (by have:=gB.o;have:=HW3.o;have:=HW4.o;have:=HW5.o;omega) L5.o.lt)
    replace M:=Hy (M.o.nx mm)
    replace P:=Hy pp
    clear pp mm
    obtain rfl:u19=.tuple #[]:=v19
    have h4:=L4.o
    have h5:=L5.o
    simp only [exC] at h4 h5
    have L4q:=Hy h4
    have L5q:=Hy h5
    clear h4 h5
    have hL3:=L3.o.past (.cells (ex2 x8 ua8 uc8 aa8 ac8 (aS 1) none 0 none 0) 43)
    have f1:=hL3.cell 11
    have f2:=hL3.free 11
    simp only [agC,List.getElem?_toArray,List.getElem?_cons_zero,List.getElem?_cons_succ] at f1
    simp only [ex2] at f1 f2
    obtain ⟨hb8,hs8⟩:=hL3.setCell 11 (.slice (some ⟨w19.heap.size,0,none⟩) 2 2)
    have L3q:=Hy (show Blk _ g3 43 (agC op x3 x11 x14.1 x14.2 (some ⟨w19.heap.size,0,none⟩) 2 2) from hb8)
    have L2q:=Hy ((L2.o.past (.cells (ex2 x8 ua8 uc8 aa8 ac8 (aS 1) none 0 none 0) 43)).st hs8 (by have:=HW3.o;omega))
    have hB:=Blk.new w19 43 (ex2 x8 ua8 uc8 aa8 ac8 (aS 1) none 0 none 0)
    have bb:=aj (b0 w19) (.cells (ex2 x8 ua8 uc8 aa8 ac8 (aS 1) none 0 none 0) 43)
    have hz3:=L3.o.lt
    have A9:=Hy ((eF hB ((fA VQ.o (C:=g4+1) fun b h=>h.1).kp (aK bb)) (Ec.kp (show Ec (g4+1) _ (aS 1) none none from ⟨.inl rfl,.inl rfl⟩) (aK bb)) (by have:=L4.o.lt;omega)).kp (hs8.kp (C:=g4+1) (by have:=HW4.o;omega)))
    have P8:=Hy ((P.o.keeps bb).st hs8 (by have:=gB.o;have:=HW3.o;omega))
    have M8:=Hy ((M.o.nx (.of bb)).trans (.st hs8 (.inr (by have:=HW3.o;omega))))
    clear hB bb hs8 hb8 hL3 hz3
    simp only [ex2] at L3q L2q
    simp only [agC] at L3q
    go_wp2_with (first | (refine aL aH Tryz.underlying43 rfl (.tmp 4) rfl rfl _ _ _ rfl L4q.o rfl ?_) | (refine aL aH Tryz.underlying43 rfl (.tmp 5) rfl rfl _ _ _ rfl L5q.o rfl ?_) | (refine aL aH Tryz.underlying43 rfl (.tmp 3) rfl rfl _ _ _ rfl L3q.o rfl ?_) | (refine aB aH (.tmp 2) (.tmp 58) rfl rfl _ _ _ _ rfl rfl L2q.o rfl rfl (by simp [Value.oneCell']) ?_;intro w9 hb9 hs9))
    refine aF rfl _ _ _ _ _ rfl hb9 rfl ?_
    have A10:=(A9.o.kp (hs9.kp (by have:=HW3.o;have:=HW4.o;omega))).less (show w.heap.size≤g4+1 by have:=HW3.o;have:=HW4.o;omega)
    exact ⟨_,j3 op x3 x11 x14 x8 (aS 1),l19,a19,c19,rfl,⟨none,0,some ⟨w19.heap.size,0,none⟩,2,rfl,⟨.inl rfl,A10⟩⟩,P8.o.st hs9 gB.o,M8.o.trans (.st hs9 (.inr (Nat.le_refl _))),by
     rw [mG,iD]
     refine AF1.o.bind (AF2.o.bind (AF3.o.bind (AF5.o.bind ?_)))
     try dsimp only
     rw [HOP.o]
     rw [if_neg HQ.o]
     refine Aft.bind (AF8.o.bind (AF10.o.bind (.pure _ _ _ _))) ?_
     rw [if_pos HD.o]
     refine Aft.bind (AF11.o.bind (AF13.o.bind (.pure _ _ _ _))) ?_
     refine AF14.o.bind ?_
     try dsimp only
     refine Aft.bind (.nay HF17.o (.pure _ _ _ _)) ?_
     exact AF19.o.bind (.pure _ _ _ _)⟩
   ·have HF17:=Hy (bH hf17)
    refine (bI B l14 true a14 c14 1 ⟨#[119,104,101,114,101]⟩ (by rw [aJ];exact ⟨by decide,by decide⟩) (by decide) _ P.o hf17).mono ?_
    rintro e w17 ⟨rfl,pp,mm⟩
    clear hf17
    replace L2:=Hy (ak L2.o mm (by have:=gB.o;omega) L2.o.lt)
    replace L3:=Hy (ak L3.o mm (by have:=gB.o;have:=HW3.o;omega) L3.o.lt)
    replace L4:=Hy (ak L4.o mm (by have:=gB.o;have:=HW3.o;have:=HW4.o;omega) L4.o.lt)
    replace VQ:=Hy (VQ.o.keep (bQ mm (by have:=gB.o;have:=HW3.o;have:=HW4.o;rintro ⟨h,_⟩;omega)))
    replace L5:=Hy (ak L5.o mm (by have:=gB.o;have:=HW3.o;have:=HW4.o;have:=HW5.o;omega) L5.o.lt)
    replace M:=Hy (M.o.nx mm)
    replace P:=Hy pp
    clear pp mm
    go_wp2_with fail
    have hz18:=Hy L5.o.lt
    refine (HX0.o B true l14.tail a14 c14 _ P.o (HG.o l14.tail c14 rfl (fun hc=>Nat.lt_trans (aR HF17.o.2) (LT14.o hc)))).mono ?_
    rintro e w18 ⟨u18,x18,l18,a18,c18,rfl,v18,pp,mm,af18⟩
    have AF18:=Hy af18
    clear af18
    replace L2:=Hy (ak L2.o mm (by have:=gB.o;omega) L2.o.lt)
    replace L3:=Hy (ak L3.o mm (by have:=gB.o;have:=HW3.o;omega) L3.o.lt)
    replace L4:=Hy (ak L4.o mm (by have:=gB.o;have:=HW3.o;have:=HW4.o;omega) L4.o.lt)
    replace VQ:=Hy (VQ.o.keep (bQ mm (by have:=gB.o;have:=HW3.o;have:=HW4.o;rintro ⟨h,_⟩;omega)))
    replace L5:=Hy (ak L5.o mm (by have:=gB.o;have:=HW3.o;have:=HW4.o;have:=HW5.o;omega) L5.o.lt)
    replace M:=Hy (M.o.nx mm)
    replace P:=Hy pp
    clear pp mm
    obtain ⟨ua18,uc18,aa18,ac18,rfl,U18⟩:=v18
    have V18:=Hy (U18.less (Nat.succ_le_of_lt hz18.o))
    clear U18 hz18
    go_wp2_with (refine aB aH (.tmp 5) (.tmp 48) rfl rfl _ _ _ _ rfl rfl L5.o rfl rfl (aG _ _ _ _ _) ?_;intro w19L L hs9;replace L2:=Hy (L2.o.st hs9 (by have:=HW3.o;have:=HW4.o;have:=HW5.o;omega));replace L3:=Hy (L3.o.st hs9 (by have:=HW4.o;have:=HW5.o;omega));replace L4:=Hy (L4.o.st hs9 (by have:=HW5.o;omega));replace VQ:=Hy (VQ.o.keep (eu hs9 (by rintro ⟨_,h⟩;exact h rfl)));replace V18:=Hy (V18.o.kp (hs9.kp (Nat.lt_succ_self _)));replace P:=Hy (P.o.st hs9 (by have:=gB.o;have:=HW3.o;have:=HW4.o;have:=HW5.o;omega));replace M:=Hy (M.o.trans (.st hs9 (.inr (by have:=HW3.o;have:=HW4.o;have:=HW5.o;omega))));replace L5:=Hy L;clear L hs9;obtain ⟨f1,f2⟩:=P.o.in1)
    obtain ⟨pp,hs9⟩:=P.o.ins false
    replace L2:=Hy (L2.o.st hs9 (by have:=gB.o;have:=HW3.o;have:=HW4.o;have:=HW5.o;omega))
    replace L3:=Hy (L3.o.st hs9 (by have:=gB.o;have:=HW3.o;have:=HW4.o;have:=HW5.o;omega))
    replace L4:=Hy (L4.o.st hs9 (by have:=gB.o;have:=HW3.o;have:=HW4.o;have:=HW5.o;omega))
    replace L5:=Hy (L5.o.st hs9 (by have:=gB.o;have:=HW3.o;have:=HW4.o;have:=HW5.o;omega))
    replace VQ:=Hy (VQ.o.keep (eu hs9 (by have:=gB.o;have:=HW3.o;have:=HW4.o;have:=HW5.o;rintro ⟨h,_⟩;omega)))
    replace V18:=Hy (V18.o.kp (hs9.kp (by have:=gB.o;have:=HW3.o;have:=HW4.o;have:=HW5.o;omega)))
    replace P:=Hy pp
    replace M:=Hy (M.o.trans (.st hs9 (.inl rfl)))
    clear pp hs9 f1 f2
    generalize w19L.setCell ⟨B,1,none⟩ (.bool false)=w20S at *
    refine (bU B 5 ⟨#[41]⟩ (by rw [aJ];exact ⟨by decide,by decide⟩) (by decide) l18 false a18 c18 _ P.o).mono ?_
    rintro e w21 ⟨u21,x21,l21,a21,c21,rfl,v21,pp,mm,af21⟩
    have AF21:=Hy af21
    clear af21
    replace L2:=Hy (ak L2.o mm (by have:=gB.o;omega) L2.o.lt)
    replace L3:=Hy (ak L3.o mm (by have:=gB.o;have:=HW3.o;omega) L3.o.lt)
    replace L4:=Hy (ak L4.o mm (by have:=gB.o;have:=HW3.o;have:=HW4.o;omega) L4.o.lt)
    replace VQ:=Hy (VQ.o.keep (bQ mm (by have:=gB.o;have:=HW3.o;have:=HW4.o;rintro ⟨h,_⟩;omega)))
    replace L5:=Hy (ak L5.o mm (by have:=gB.o;have:=HW3.o;have:=HW4.o;have:=HW5.o;omega) L5.o.lt)
    replace V18:=Hy (V18.o.kp (mm.kp (by have:=gB.o;have:=HW3.o;have:=HW4.o;have:=HW5.o;omega)))
    replace M:=Hy (M.o.nx mm)
    replace P:=Hy pp
    clear pp mm
    obtain rfl:u21=.tuple #[]:=v21
    have h4:=L4.o
    have h5:=L5.o
    simp only [exC] at h4 h5
    have L4q:=Hy h4
    have L5q:=Hy h5
    clear h4 h5
    have hL3:=L3.o.past (.cells (ex2 x8 ua8 uc8 aa8 ac8 x18 ua18 uc18 aa18 ac18) 43)
    have f1:=hL3.cell 11
    have f2:=hL3.free 11
    simp only [agC,List.getElem?_toArray,List.getElem?_cons_zero,List.getElem?_cons_succ] at f1
    simp only [ex2] at f1 f2
    obtain ⟨hb8,hs8⟩:=hL3.setCell 11 (.slice (some ⟨w21.heap.size,0,none⟩) 2 2)
    have L3q:=Hy (show Blk _ g3 43 (agC op x3 x11 x14.1 x14.2 (some ⟨w21.heap.size,0,none⟩) 2 2) from hb8)
    have L2q:=Hy ((L2.o.past (.cells (ex2 x8 ua8 uc8 aa8 ac8 x18 ua18 uc18 aa18 ac18) 43)).st hs8 (by have:=HW3.o;omega))
    have hB:=Blk.new w21 43 (ex2 x8 ua8 uc8 aa8 ac8 x18 ua18 uc18 aa18 ac18)
    have bb:=aj (b0 w21) (.cells (ex2 x8 ua8 uc8 aa8 ac8 x18 ua18 uc18 aa18 ac18) 43)
    have hz3:=L3.o.lt
    have A9:=Hy ((eF hB ((fA VQ.o (C:=g4+1) fun b h=>h.1).kp (aK bb)) (Ec.kp (V18.o.less (Nat.succ_le_succ (Nat.le_of_lt HW5.o))) (aK bb)) (by have:=L4.o.lt;omega)).kp (hs8.kp (C:=g4+1) (by have:=HW4.o;omega)))
    have P8:=Hy ((P.o.keeps bb).st hs8 (by have:=gB.o;have:=HW3.o;omega))
    have M8:=Hy ((M.o.nx (.of bb)).trans (.st hs8 (.inr (by have:=HW3.o;omega))))
    clear hB bb hs8 hb8 hL3 hz3
    simp only [ex2] at L3q L2q
    simp only [agC] at L3q
    go_wp2_with (first | (refine aL aH Tryz.underlying43 rfl (.tmp 4) rfl rfl _ _ _ rfl L4q.o rfl ?_) | (refine aL aH Tryz.underlying43 rfl (.tmp 5) rfl rfl _ _ _ rfl L5q.o rfl ?_) | (refine aL aH Tryz.underlying43 rfl (.tmp 3) rfl rfl _ _ _ rfl L3q.o rfl ?_) | (refine aB aH (.tmp 2) (.tmp 58) rfl rfl _ _ _ _ rfl rfl L2q.o rfl rfl (by simp [Value.oneCell']) ?_;intro w9 hb9 hs9))
    refine aF rfl _ _ _ _ _ rfl hb9 rfl ?_
    have A10:=(A9.o.kp (hs9.kp (by have:=HW3.o;have:=HW4.o;omega))).less (show w.heap.size≤g4+1 by have:=HW3.o;have:=HW4.o;omega)
    exact ⟨_,j3 op x3 x11 x14 x8 x18,l21,a21,c21,rfl,⟨none,0,some ⟨w21.heap.size,0,none⟩,2,rfl,⟨.inl rfl,A10⟩⟩,P8.o.st hs9 gB.o,M8.o.trans (.st hs9 (.inr (Nat.le_refl _))),by
     rw [mG,iD]
     refine AF1.o.bind (AF2.o.bind (AF3.o.bind (AF5.o.bind ?_)))
     try dsimp only
     rw [HOP.o]
     rw [if_neg HQ.o]
     refine Aft.bind (AF8.o.bind (AF10.o.bind (.pure _ _ _ _))) ?_
     rw [if_pos HD.o]
     refine Aft.bind (AF11.o.bind (AF13.o.bind (.pure _ _ _ _))) ?_
     refine AF14.o.bind ?_
     try dsimp only
     refine Aft.bind (.yes HF17.o.1 HF17.o.2 AF18.o) ?_
     exact AF21.o.bind (.pure _ _ _ _)⟩
  ·have k2:(op.toList==[113,117,97,110,116,105,108,101])=false:=by rw [j4 op ⟨#[113,117,97,110,116,105,108,101]⟩ [113,117,97,110,116,105,108,101] rfl,decide_eq_false h2]
   by_cases h3:op=⟨#[100,101,99,97,121]⟩
   ·have HD:=Hy (show op=⟨#[113,117,97,110,116,105,108,101]⟩∨op=⟨#[100,101,99,97,121]⟩ from .inr h3)
    have k3:(op.toList==[100,101,99,97,121])=true:=by rw [j4 op ⟨#[100,101,99,97,121]⟩ [100,101,99,97,121] rfl,decide_eq_true h3]
    clear h2 h3
    go_wp2_with fail
    clear t1 k2 k3
    refine (fU B l10 true a10 c10 _ P.o).mono ?_
    rintro e w11 ⟨u11,x11,l11,a11,c11,rfl,v11,pp,mm,af11⟩
    have AF11:=Hy af11
    clear af11
    replace L2:=Hy (ak L2.o mm (by have:=gB.o;omega) L2.o.lt)
    replace L3:=Hy (ak L3.o mm (by have:=gB.o;have:=HW3.o;omega) L3.o.lt)
    replace L4:=Hy (ak L4.o mm (by have:=gB.o;have:=HW3.o;have:=HW4.o;omega) L4.o.lt)
    replace VX:=Hy (VX.o.kp (mm.kp (by have:=gB.o;have:=HW3.o;have:=HW4.o;omega)))
    replace M:=Hy (M.o.nx mm)
    replace P:=Hy pp
    clear pp mm
    obtain rfl:u11=.int .i64 x11:=v11
    have LT11:=Hy (dG (N:=l.length) AF11.o (int_ne _) (fun v q h=>Nat.le_of_lt (int_lt h)) LT10.o)
    have f1:=L3.o.cell 8
    have f2:=L3.o.free 8
    simp only [agC,List.getElem?_toArray,List.getElem?_cons_zero,List.getElem?_cons_succ] at f1
    go_wp2_with fail
    obtain ⟨hb9,hs9⟩:=L3.o.setCell 8 (.int .i64 x11)
    replace L2:=Hy (L2.o.st hs9 (by have:=HW3.o;omega))
    replace L4:=Hy (L4.o.st hs9 (by have:=HW4.o;omega))
    replace VX:=Hy (VX.o.kp (hs9.kp (by have:=HW4.o;omega)))
    replace P:=Hy (P.o.st hs9 (by have:=gB.o;have:=HW3.o;omega))
    replace M:=Hy (M.o.trans (.st hs9 (.inr (by have:=HW3.o;omega))))
    replace L3:=Hy (show Blk _ g3 43 (agC op x3 x11 0 0 none 0 0) from hb9)
    clear hb9 hs9 f1 f2
    generalize w11.setCell ⟨g3,8,none⟩ (.int .i64 x11)=w12S at *
    refine (bU B 5 ⟨#[44]⟩ (by rw [aJ];exact ⟨by decide,by decide⟩) (by decide) l11 true a11 c11 _ P.o).mono ?_
    rintro e w13 ⟨u13,x13,l13,a13,c13,rfl,v13,pp,mm,af13⟩
    have AF13:=Hy af13
    clear af13
    replace L2:=Hy (ak L2.o mm (by have:=gB.o;omega) L2.o.lt)
    replace L3:=Hy (ak L3.o mm (by have:=gB.o;have:=HW3.o;omega) L3.o.lt)
    replace L4:=Hy (ak L4.o mm (by have:=gB.o;have:=HW3.o;have:=HW4.o;omega) L4.o.lt)
    replace VX:=Hy (VX.o.kp (mm.kp (by have:=gB.o;have:=HW3.o;have:=HW4.o;omega)))
    replace M:=Hy (M.o.nx mm)
    replace P:=Hy pp
    clear pp mm
    obtain rfl:u13=.tuple #[]:=v13
    have LT13:=Hy (dG (N:=l.length) AF13.o (bD _ _) (fun v q h=>Nat.le_of_lt (bE h)) LT11.o)
    go_wp2_with fail
    refine (lC B l13 true a13 c13 _ P.o).mono ?_
    rintro e w14 ⟨u14,x14,l14,a14,c14,rfl,v14,pp,mm,af14⟩
    have AF14:=Hy af14
    clear af14
    replace L2:=Hy (ak L2.o mm (by have:=gB.o;omega) L2.o.lt)
    replace L3:=Hy (ak L3.o mm (by have:=gB.o;have:=HW3.o;omega) L3.o.lt)
    replace L4:=Hy (ak L4.o mm (by have:=gB.o;have:=HW3.o;have:=HW4.o;omega) L4.o.lt)
    replace VX:=Hy (VX.o.kp (mm.kp (by have:=gB.o;have:=HW3.o;have:=HW4.o;omega)))
    replace M:=Hy (M.o.nx mm)
    replace P:=Hy pp
    clear pp mm
    obtain rfl:u14=.agg #[.int .i64 x14.1,.int .i64 x14.2]:=v14
    have LT14:=Hy (dG (N:=l.length) AF14.o (iK _) (fun v q h=>Nat.le_of_lt (kK h)) LT13.o)
    go_wp2_with (refine cK dQ (.tmp 43) (.tmp 42) rfl rfl g3 9 _ _ _ rfl rfl L3.o (by simp [agC]) rfl (by simp [Value.oneCell']) ?_;intro w15W hb9 hs9;replace L2:=Hy (L2.o.st hs9 (by have:=HW3.o;omega));replace L4:=Hy (L4.o.st hs9 (by have:=HW4.o;omega));replace VX:=Hy (VX.o.kp (hs9.kp (by have:=HW4.o;omega)));replace P:=Hy (P.o.st hs9 (by have:=gB.o;have:=HW3.o;omega));replace M:=Hy (M.o.trans (.st hs9 (.inr (by have:=HW3.o;omega))));replace L3:=Hy (show Blk _ g3 43 (agC op x3 x11 x14.1 x14.2 none 0 0) from hb9);clear hb9 hs9)
    refine (iU _).mono ?_
    rintro e w16 ⟨rfl,bb⟩
    replace L2:=Hy (L2.o.below bb L2.o.lt)
    replace L3:=Hy (L3.o.below bb L3.o.lt)
    replace L4:=Hy (L4.o.below bb L4.o.lt)
    replace VX:=Hy (VX.o.kp (aK bb))
    replace P:=Hy (P.o.keeps bb)
    replace M:=Hy (M.o.nx (.of bb))
    clear bb
    have VQ:=Hy (fB (q:=fun b=>g4+1≤b∧b≠w16.heap.size) VX.o (fun b h1 h2=>⟨h1,by omega⟩))
    clear VX
    have HW5:=Hy (show g4<w16.heap.size from L4.o.lt)
    go_wp2_with (refine aB aH (.tmp 5) (.tmp 44) rfl rfl _ _ _ _ rfl rfl (Blk.new _ _ _) rfl rfl (aG _ _ _ _ _) ?_;intro w16L L hs;have bb:=(aj (b0 w16) _).trans (hs.below (Nat.le_refl _));have gB5:=Hy P.o.lt;have hw5:=Hy (show w.heap.size<w16.heap.size from L2.o.lt);have L5:=Hy L;replace L2:=Hy (L2.o.below bb L2.o.lt);replace L3:=Hy (L3.o.below bb L3.o.lt);replace L4:=Hy (L4.o.below bb L4.o.lt);replace VQ:=Hy (VQ.o.keep (bL bb));replace P:=Hy (P.o.keeps bb);replace M:=Hy (M.o.nx (.of bb));clear bb hs L)
    clear hw5 gB5
    generalize w16.heap.size=g5 at *
    cases hf17:fnd ⟨#[119,104,101,114,101]⟩ l14 c14
    ·have HF17:=Hy (bS hf17)
     refine (bJ B l14 true a14 c14 1 ⟨#[119,104,101,114,101]⟩ (by rw [aJ];exact ⟨by decide,by decide⟩) (by decide) _ P.o hf17).mono ?_
     rintro e w17 ⟨rfl,pp,mm⟩
     clear hf17
     replace L2:=Hy (ak L2.o mm (by have:=gB.o;omega) L2.o.lt)
     replace L3:=Hy (ak L3.o mm (by have:=gB.o;have:=HW3.o;omega) L3.o.lt)
     replace L4:=Hy (ak L4.o mm (by have:=gB.o;have:=HW3.o;have:=HW4.o;omega) L4.o.lt)
     replace VQ:=Hy (VQ.o.keep (bQ mm (by have:=gB.o;have:=HW3.o;have:=HW4.o;rintro ⟨h,_⟩;omega)))
     replace L5:=Hy (ak L5.o mm (by have:=gB.o;have:=HW3.o;have:=HW4.o;have:=HW5.o;omega) L5.o.lt)
     replace M:=Hy (M.o.nx mm)
     replace P:=Hy pp
     clear pp mm
     obtain ⟨f1,f2⟩:=P.o.in1
     go_wp2_with fail
     obtain ⟨pp,hs9⟩:=P.o.ins false
     replace L2:=Hy (L2.o.st hs9 (by have:=gB.o;have:=HW3.o;have:=HW4.o;have:=HW5.o;omega))
     replace L3:=Hy (L3.o.st hs9 (by have:=gB.o;have:=HW3.o;have:=HW4.o;have:=HW5.o;omega))
     replace L4:=Hy (L4.o.st hs9 (by have:=gB.o;have:=HW3.o;have:=HW4.o;have:=HW5.o;omega))
     replace L5:=Hy (L5.o.st hs9 (by have:=gB.o;have:=HW3.o;have:=HW4.o;have:=HW5.o;omega))
     replace VQ:=Hy (VQ.o.keep (eu hs9 (by have:=gB.o;have:=HW3.o;have:=HW4.o;have:=HW5.o;rintro ⟨h,_⟩;omega)))
     replace P:=Hy pp
     replace M:=Hy (M.o.trans (.st hs9 (.inl rfl)))
     clear pp hs9 f1 f2
     generalize w17.setCell ⟨B,1,none⟩ (.bool false)=w18S at *
     refine (bU B 5 ⟨#[41]⟩ (by rw [aJ];exact ⟨by decide,by decide⟩) (by decide) l14 false a14 c14 _ P.o).mono ?_
     rintro e w19 ⟨u19,x19,l19,a19,c19,rfl,v19,pp,mm,af19⟩
     have AF19:=Hy af19
     clear af19
     replace L2:=Hy (ak L2.o mm (by have:=gB.o;omega) L2.o.lt)
     replace L3:=Hy (ak L3.o mm (by have:=gB.o;have:=HW3.o;omega) L3.o.lt)
     replace L4:=Hy (ak L4.o mm (by have:=gB.o;have:=HW3.o;have:=HW4.o;omega) L4.o.lt)
     replace VQ:=Hy (VQ.o.keep (bQ mm (by have:=gB.o;have:=HW3.o;have:=HW4.o;rintro ⟨h,_⟩;omega)))
     replace L5:=Hy (ak L5.o mm (by have:=gB.o;have:=HW3.o;have:=HW4.o;have:=HW5.o;omega) L5.o.lt)
     replace M:=Hy (M.o.nx mm)
     replace P:=Hy pp
     clear pp mm
     obtain rfl:u19=.tuple #[]:=v19
     have h4:=L4.o
     have h5:=L5.o
     simp only [exC] at h4 h5
     have L4q:=Hy h4
     have L5q:=Hy h5
     clear h4 h5
     have hL3:=L3.o.past (.cells (ex2 x8 ua8 uc8 aa8 ac8 (aS 1) none 0 none 0) 43)
     have f1:=hL3.cell 11
     have f2:=hL3.free 11
     simp only [agC,List.getElem?_toArray,List.getElem?_cons_zero,List.getElem?_cons_succ] at f1
     simp only [ex2] at f1 f2
     obtain ⟨hb8,hs8⟩:=hL3.setCell 11 (.slice (some ⟨w19.heap.size,0,none⟩) 2 2)
     have L3q:=Hy (show Blk _ g3 43 (agC op x3 x11 x14.1 x14.2 (some ⟨w19.heap.size,0,none⟩) 2 2) from hb8)
     have L2q:=Hy ((L2.o.past (.cells (ex2 x8 ua8 uc8 aa8 ac8 (aS 1) none 0 none 0) 43)).st hs8 (by have:=HW3.o;omega))
     have hB:=Blk.new w19 43 (ex2 x8 ua8 uc8 aa8 ac8 (aS 1) none 0 none 0)
     have bb:=aj (b0 w19) (.cells (ex2 x8 ua8 uc8 aa8 ac8 (aS 1) none 0 none 0) 43)
     have hz3:=L3.o.lt
     have A9:=Hy ((eF hB ((fA VQ.o (C:=g4+1) fun b h=>h.1).kp (aK bb)) (Ec.kp (show Ec (g4+1) _ (aS 1) none none from ⟨.inl rfl,.inl rfl⟩) (aK bb)) (by have:=L4.o.lt;omega)).kp (hs8.kp (C:=g4+1) (by have:=HW4.o;omega)))
     have P8:=Hy ((P.o.keeps bb).st hs8 (by have:=gB.o;have:=HW3.o;omega))
     have M8:=Hy ((M.o.nx (.of bb)).trans (.st hs8 (.inr (by have:=HW3.o;omega))))
     clear hB bb hs8 hb8 hL3 hz3
     simp only [ex2] at L3q L2q
     simp only [agC] at L3q
     go_wp2_with (first | (refine aL aH Tryz.underlying43 rfl (.tmp 4) rfl rfl _ _ _ rfl L4q.o rfl ?_) | (refine aL aH Tryz.underlying43 rfl (.tmp 5) rfl rfl _ _ _ rfl L5q.o rfl ?_) | (refine aL aH Tryz.underlying43 rfl (.tmp 3) rfl rfl _ _ _ rfl L3q.o rfl ?_) | (refine aB aH (.tmp 2) (.tmp 58) rfl rfl _ _ _ _ rfl rfl L2q.o rfl rfl (by simp [Value.oneCell']) ?_;intro w9 hb9 hs9))
     refine aF rfl _ _ _ _ _ rfl hb9 rfl ?_
     have A10:=(A9.o.kp (hs9.kp (by have:=HW3.o;have:=HW4.o;omega))).less (show w.heap.size≤g4+1 by have:=HW3.o;have:=HW4.o;omega)
     exact ⟨_,j3 op x3 x11 x14 x8 (aS 1),l19,a19,c19,rfl,⟨none,0,some ⟨w19.heap.size,0,none⟩,2,rfl,⟨.inl rfl,A10⟩⟩,P8.o.st hs9 gB.o,M8.o.trans (.st hs9 (.inr (Nat.le_refl _))),by
      rw [mG,iD]
      refine AF1.o.bind (AF2.o.bind (AF3.o.bind (AF5.o.bind ?_)))
      try dsimp only
      rw [HOP.o]
      rw [if_neg HQ.o]
      refine Aft.bind (AF8.o.bind (AF10.o.bind (.pure _ _ _ _))) ?_
      rw [if_pos HD.o]
      refine Aft.bind (AF11.o.bind (AF13.o.bind (.pure _ _ _ _))) ?_
      refine AF14.o.bind ?_
      try dsimp only
      refine Aft.bind (.nay HF17.o (.pure _ _ _ _)) ?_
      exact AF19.o.bind (.pure _ _ _ _)⟩
    ·have HF17:=Hy (bH hf17)
     refine (bI B l14 true a14 c14 1 ⟨#[119,104,101,114,101]⟩ (by rw [aJ];exact ⟨by decide,by decide⟩) (by decide) _ P.o hf17).mono ?_
     rintro e w17 ⟨rfl,pp,mm⟩
     clear hf17
     replace L2:=Hy (ak L2.o mm (by have:=gB.o;omega) L2.o.lt)
     replace L3:=Hy (ak L3.o mm (by have:=gB.o;have:=HW3.o;omega) L3.o.lt)
     replace L4:=Hy (ak L4.o mm (by have:=gB.o;have:=HW3.o;have:=HW4.o;omega) L4.o.lt)
     replace VQ:=Hy (VQ.o.keep (bQ mm (by have:=gB.o;have:=HW3.o;have:=HW4.o;rintro ⟨h,_⟩;omega)))
     replace L5:=Hy (ak L5.o mm (by have:=gB.o;have:=HW3.o;have:=HW4.o;have:=HW5.o;omega) L5.o.lt)
     replace M:=Hy (M.o.nx mm)
     replace P:=Hy pp
     clear pp mm
     go_wp2_with fail
     have hz18:=Hy L5.o.lt
     refine (HX0.o B true l14.tail a14 c14 _ P.o (HG.o l14.tail c14 rfl (fun hc=>Nat.lt_trans (aR HF17.o.2) (LT14.o hc)))).mono ?_
     rintro e w18 ⟨u18,x18,l18,a18,c18,rfl,v18,pp,mm,af18⟩
     have AF18:=Hy af18
     clear af18
     replace L2:=Hy (ak L2.o mm (by have:=gB.o;omega) L2.o.lt)
     replace L3:=Hy (ak L3.o mm (by have:=gB.o;have:=HW3.o;omega) L3.o.lt)
     replace L4:=Hy (ak L4.o mm (by have:=gB.o;have:=HW3.o;have:=HW4.o;omega) L4.o.lt)
     replace VQ:=Hy (VQ.o.keep (bQ mm (by have:=gB.o;have:=HW3.o;have:=HW4.o;rintro ⟨h,_⟩;omega)))
     replace L5:=Hy (ak L5.o mm (by have:=gB.o;have:=HW3.o;have:=HW4.o;have:=HW5.o;omega) L5.o.lt)
     replace M:=Hy (M.o.nx mm)
     replace P:=Hy pp
     clear pp mm
     obtain ⟨ua18,uc18,aa18,ac18,rfl,U18⟩:=v18
     have V18:=Hy (U18.less (Nat.succ_le_of_lt hz18.o))
     clear U18 hz18
     go_wp2_with (refine aB aH (.tmp 5) (.tmp 48) rfl rfl _ _ _ _ rfl rfl L5.o rfl rfl (aG _ _ _ _ _) ?_;intro w19L L hs9;replace L2:=Hy (L2.o.st hs9 (by have:=HW3.o;have:=HW4.o;have:=HW5.o;omega));replace L3:=Hy (L3.o.st hs9 (by have:=HW4.o;have:=HW5.o;omega));replace L4:=Hy (L4.o.st hs9 (by have:=HW5.o;omega));replace VQ:=Hy (VQ.o.keep (eu hs9 (by rintro ⟨_,h⟩;exact h rfl)));replace V18:=Hy (V18.o.kp (hs9.kp (Nat.lt_succ_self _)));replace P:=Hy (P.o.st hs9 (by have:=gB.o;have:=HW3.o;have:=HW4.o;have:=HW5.o;omega));replace M:=Hy (M.o.trans (.st hs9 (.inr (by have:=HW3.o;have:=HW4.o;have:=HW5.o;omega))));replace L5:=Hy L;clear L hs9;obtain ⟨f1,f2⟩:=P.o.in1)
     obtain ⟨pp,hs9⟩:=P.o.ins false
     replace L2:=Hy (L2.o.st hs9 (by have:=gB.o;have:=HW3.o;have:=HW4.o;have:=HW5.o;omega))
     replace L3:=Hy (L3.o.st hs9 (by have:=gB.o;have:=HW3.o;have:=HW4.o;have:=HW5.o;omega))
     replace L4:=Hy (L4.o.st hs9 (by have:=gB.o;have:=HW3.o;have:=HW4.o;have:=HW5.o;omega))
     replace L5:=Hy (L5.o.st hs9 (by have:=gB.o;have:=HW3.o;have:=HW4.o;have:=HW5.o;omega))
     replace VQ:=Hy (VQ.o.keep (eu hs9 (by have:=gB.o;have:=HW3.o;have:=HW4.o;have:=HW5.o;rintro ⟨h,_⟩;omega)))
     replace V18:=Hy (V18.o.kp (hs9.kp (by have:=gB.o;have:=HW3.o;have:=HW4.o;have:=HW5.o;omega)))
     replace P:=Hy pp
     replace M:=Hy (M.o.trans (.st hs9 (.inl rfl)))
     clear pp hs9 f1 f2
     generalize w19L.setCell ⟨B,1,none⟩ (.bool false)=w20S at *
     refine (bU B 5 ⟨#[41]⟩ (by rw [aJ];exact ⟨by decide,by decide⟩) (by decide) l18 false a18 c18 _ P.o).mono ?_
     rintro e w21 ⟨u21,x21,l21,a21,c21,rfl,v21,pp,mm,af21⟩
     have AF21:=Hy af21
     clear af21
     replace L2:=Hy (ak L2.o mm (by have:=gB.o;omega) L2.o.lt)
     replace L3:=Hy (ak L3.o mm (by have:=gB.o;have:=HW3.o;omega) L3.o.lt)
     replace L4:=Hy (ak L4.o mm (by have:=gB.o;have:=HW3.o;have:=HW4.o;omega) L4.o.lt)
     replace VQ:=Hy (VQ.o.keep (bQ mm (by have:=gB.o;have:=HW3.o;have:=HW4.o;rintro ⟨h,_⟩;omega)))
     replace L5:=Hy (ak L5.o mm (by have:=gB.o;have:=HW3.o;have:=HW4.o;have:=HW5.o;omega) L5.o.lt)
     replace V18:=Hy (V18.o.kp (mm.kp (by have:=gB.o;have:=HW3.o;have:=HW4.o;have:=HW5.o;omega)))
     replace M:=Hy (M.o.nx mm)
     replace P:=Hy pp
     clear pp mm
     obtain rfl:u21=.tuple #[]:=v21
     have h4:=L4.o
     have h5:=L5.o
     simp only [exC] at h4 h5
     have L4q:=Hy h4
     have L5q:=Hy h5
     clear h4 h5
     have hL3:=L3.o.past (.cells (ex2 x8 ua8 uc8 aa8 ac8 x18 ua18 uc18 aa18 ac18) 43)
     have f1:=hL3.cell 11
     have f2:=hL3.free 11
     simp only [agC,List.getElem?_toArray,List.getElem?_cons_zero,List.getElem?_cons_succ] at f1
     simp only [ex2] at f1 f2
     obtain ⟨hb8,hs8⟩:=hL3.setCell 11 (.slice (some ⟨w21.heap.size,0,none⟩) 2 2)
     have L3q:=Hy (show Blk _ g3 43 (agC op x3 x11 x14.1 x14.2 (some ⟨w21.heap.size,0,none⟩) 2 2) from hb8)
     have L2q:=Hy ((L2.o.past (.cells (ex2 x8 ua8 uc8 aa8 ac8 x18 ua18 uc18 aa18 ac18) 43)).st hs8 (by have:=HW3.o;omega))
     have hB:=Blk.new w21 43 (ex2 x8 ua8 uc8 aa8 ac8 x18 ua18 uc18 aa18 ac18)
     have bb:=aj (b0 w21) (.cells (ex2 x8 ua8 uc8 aa8 ac8 x18 ua18 uc18 aa18 ac18) 43)
     have hz3:=L3.o.lt
     have A9:=Hy ((eF hB ((fA VQ.o (C:=g4+1) fun b h=>h.1).kp (aK bb)) (Ec.kp (V18.o.less (Nat.succ_le_succ (Nat.le_of_lt HW5.o))) (aK bb)) (by have:=L4.o.lt;omega)).kp (hs8.kp (C:=g4+1) (by have:=HW4.o;omega)))
     have P8:=Hy ((P.o.keeps bb).st hs8 (by have:=gB.o;have:=HW3.o;omega))
     have M8:=Hy ((M.o.nx (.of bb)).trans (.st hs8 (.inr (by have:=HW3.o;omega))))
     clear hB bb hs8 hb8 hL3 hz3
     simp only [ex2] at L3q L2q
     simp only [agC] at L3q
     go_wp2_with (first | (refine aL aH Tryz.underlying43 rfl (.tmp 4) rfl rfl _ _ _ rfl L4q.o rfl ?_) | (refine aL aH Tryz.underlying43 rfl (.tmp 5) rfl rfl _ _ _ rfl L5q.o rfl ?_) | (refine aL aH Tryz.underlying43 rfl (.tmp 3) rfl rfl _ _ _ rfl L3q.o rfl ?_) | (refine aB aH (.tmp 2) (.tmp 58) rfl rfl _ _ _ _ rfl rfl L2q.o rfl rfl (by simp [Value.oneCell']) ?_;intro w9 hb9 hs9))
     refine aF rfl _ _ _ _ _ rfl hb9 rfl ?_
     have A10:=(A9.o.kp (hs9.kp (by have:=HW3.o;have:=HW4.o;omega))).less (show w.heap.size≤g4+1 by have:=HW3.o;have:=HW4.o;omega)
     exact ⟨_,j3 op x3 x11 x14 x8 x18,l21,a21,c21,rfl,⟨none,0,some ⟨w21.heap.size,0,none⟩,2,rfl,⟨.inl rfl,A10⟩⟩,P8.o.st hs9 gB.o,M8.o.trans (.st hs9 (.inr (Nat.le_refl _))),by
      rw [mG,iD]
      refine AF1.o.bind (AF2.o.bind (AF3.o.bind (AF5.o.bind ?_)))
      try dsimp only
      rw [HOP.o]
      rw [if_neg HQ.o]
      refine Aft.bind (AF8.o.bind (AF10.o.bind (.pure _ _ _ _))) ?_
      rw [if_pos HD.o]
      refine Aft.bind (AF11.o.bind (AF13.o.bind (.pure _ _ _ _))) ?_
      refine AF14.o.bind ?_
      try dsimp only
      refine Aft.bind (.yes HF17.o.1 HF17.o.2 AF18.o) ?_
      exact AF21.o.bind (.pure _ _ _ _)⟩
   ·have HD:=Hy (show ¬ (op=⟨#[113,117,97,110,116,105,108,101]⟩∨op=⟨#[100,101,99,97,121]⟩) from by rintro (h | h);exact h2 h;exact h3 h)
    have k3:(op.toList==[100,101,99,97,121])=false:=by rw [j4 op ⟨#[100,101,99,97,121]⟩ [100,101,99,97,121] rfl,decide_eq_false h3]
    clear h2 h3
    go_wp2_with fail
    clear t1 k2 k3
    refine (lC B l10 true a10 c10 _ P.o).mono ?_
    rintro e w11 ⟨u11,x11,l11,a11,c11,rfl,v11,pp,mm,af11⟩
    have AF11:=Hy af11
    clear af11
    replace L2:=Hy (ak L2.o mm (by have:=gB.o;omega) L2.o.lt)
    replace L3:=Hy (ak L3.o mm (by have:=gB.o;have:=HW3.o;omega) L3.o.lt)
    replace L4:=Hy (ak L4.o mm (by have:=gB.o;have:=HW3.o;have:=HW4.o;omega) L4.o.lt)
    replace VX:=Hy (VX.o.kp (mm.kp (by have:=gB.o;have:=HW3.o;have:=HW4.o;omega)))
    replace M:=Hy (M.o.nx mm)
    replace P:=Hy pp
    clear pp mm
    obtain rfl:u11=.agg #[.int .i64 x11.1,.int .i64 x11.2]:=v11
    have LT11:=Hy (dG (N:=l.length) AF11.o (iK _) (fun v q h=>Nat.le_of_lt (kK h)) LT10.o)
    go_wp2_with (refine cK dQ (.tmp 43) (.tmp 42) rfl rfl g3 9 _ _ _ rfl rfl L3.o (by simp [agC]) rfl (by simp [Value.oneCell']) ?_;intro w12W hb9 hs9;replace L2:=Hy (L2.o.st hs9 (by have:=HW3.o;omega));replace L4:=Hy (L4.o.st hs9 (by have:=HW4.o;omega));replace VX:=Hy (VX.o.kp (hs9.kp (by have:=HW4.o;omega)));replace P:=Hy (P.o.st hs9 (by have:=gB.o;have:=HW3.o;omega));replace M:=Hy (M.o.trans (.st hs9 (.inr (by have:=HW3.o;omega))));replace L3:=Hy (show Blk _ g3 43 (agC op x3 0 x11.1 x11.2 none 0 0) from hb9);clear hb9 hs9)
    refine (iU _).mono ?_
    rintro e w13 ⟨rfl,bb⟩
    replace L2:=Hy (L2.o.below bb L2.o.lt)
    replace L3:=Hy (L3.o.below bb L3.o.lt)
    replace L4:=Hy (L4.o.below bb L4.o.lt)
    replace VX:=Hy (VX.o.kp (aK bb))
    replace P:=Hy (P.o.keeps bb)
    replace M:=Hy (M.o.nx (.of bb))
    clear bb
    have VQ:=Hy (fB (q:=fun b=>g4+1≤b∧b≠w13.heap.size) VX.o (fun b h1 h2=>⟨h1,by omega⟩))
    clear VX
    have HW5:=Hy (show g4<w13.heap.size from L4.o.lt)
    go_wp2_with (refine aB aH (.tmp 5) (.tmp 44) rfl rfl _ _ _ _ rfl rfl (Blk.new _ _ _) rfl rfl (aG _ _ _ _ _) ?_;intro w13L L hs;have bb:=(aj (b0 w13) _).trans (hs.below (Nat.le_refl _));have gB5:=Hy P.o.lt;have hw5:=Hy (show w.heap.size<w13.heap.size from L2.o.lt);have L5:=Hy L;replace L2:=Hy (L2.o.below bb L2.o.lt);replace L3:=Hy (L3.o.below bb L3.o.lt);replace L4:=Hy (L4.o.below bb L4.o.lt);replace VQ:=Hy (VQ.o.keep (bL bb));replace P:=Hy (P.o.keeps bb);replace M:=Hy (M.o.nx (.of bb));clear bb hs L)
    clear hw5 gB5
    generalize w13.heap.size=g5 at *
    cases hf14:fnd ⟨#[119,104,101,114,101]⟩ l11 c11
    ·have HF14:=Hy (bS hf14)
     refine (bJ B l11 true a11 c11 1 ⟨#[119,104,101,114,101]⟩ (by rw [aJ];exact ⟨by decide,by decide⟩) (by decide) _ P.o hf14).mono ?_
     rintro e w14 ⟨rfl,pp,mm⟩
     clear hf14
     replace L2:=Hy (ak L2.o mm (by have:=gB.o;omega) L2.o.lt)
     replace L3:=Hy (ak L3.o mm (by have:=gB.o;have:=HW3.o;omega) L3.o.lt)
     replace L4:=Hy (ak L4.o mm (by have:=gB.o;have:=HW3.o;have:=HW4.o;omega) L4.o.lt)
     replace VQ:=Hy (VQ.o.keep (bQ mm (by have:=gB.o;have:=HW3.o;have:=HW4.o;rintro ⟨h,_⟩;omega)))
     replace L5:=Hy (ak L5.o mm (by have:=gB.o;have:=HW3.o;have:=HW4.o;have:=HW5.o;omega) L5.o.lt)
     replace M:=Hy (M.o.nx mm)
     replace P:=Hy pp
     clear pp mm
     obtain ⟨f1,f2⟩:=P.o.in1
     go_wp2_with fail
     obtain ⟨pp,hs9⟩:=P.o.ins false
     replace L2:=Hy (L2.o.st hs9 (by have:=gB.o;have:=HW3.o;have:=HW4.o;have:=HW5.o;omega))
     replace L3:=Hy (L3.o.st hs9 (by have:=gB.o;have:=HW3.o;have:=HW4.o;have:=HW5.o;omega))
     replace L4:=Hy (L4.o.st hs9 (by have:=gB.o;have:=HW3.o;have:=HW4.o;have:=HW5.o;omega))
     replace L5:=Hy (L5.o.st hs9 (by have:=gB.o;have:=HW3.o;have:=HW4.o;have:=HW5.o;omega))
     replace VQ:=Hy (VQ.o.keep (eu hs9 (by have:=gB.o;have:=HW3.o;have:=HW4.o;have:=HW5.o;rintro ⟨h,_⟩;omega)))
     replace P:=Hy pp
     replace M:=Hy (M.o.trans (.st hs9 (.inl rfl)))
     clear pp hs9 f1 f2
     generalize w14.setCell ⟨B,1,none⟩ (.bool false)=w15S at *
     refine (bU B 5 ⟨#[41]⟩ (by rw [aJ];exact ⟨by decide,by decide⟩) (by decide) l11 false a11 c11 _ P.o).mono ?_
     rintro e w16 ⟨u16,x16,l16,a16,c16,rfl,v16,pp,mm,af16⟩
     have AF16:=Hy af16
     clear af16
     replace L2:=Hy (ak L2.o mm (by have:=gB.o;omega) L2.o.lt)
     replace L3:=Hy (ak L3.o mm (by have:=gB.o;have:=HW3.o;omega) L3.o.lt)
     replace L4:=Hy (ak L4.o mm (by have:=gB.o;have:=HW3.o;have:=HW4.o;omega) L4.o.lt)
     replace VQ:=Hy (VQ.o.keep (bQ mm (by have:=gB.o;have:=HW3.o;have:=HW4.o;rintro ⟨h,_⟩;omega)))
     replace L5:=Hy (ak L5.o mm (by have:=gB.o;have:=HW3.o;have:=HW4.o;have:=HW5.o;omega) L5.o.lt)
     replace M:=Hy (M.o.nx mm)
     replace P:=Hy pp
     clear pp mm
     obtain rfl:u16=.tuple #[]:=v16
     have h4:=L4.o
     have h5:=L5.o
     simp only [exC] at h4 h5
     have L4q:=Hy h4
     have L5q:=Hy h5
     clear h4 h5
     have hL3:=L3.o.past (.cells (ex2 x8 ua8 uc8 aa8 ac8 (aS 1) none 0 none 0) 43)
     have f1:=hL3.cell 11
     have f2:=hL3.free 11
     simp only [agC,List.getElem?_toArray,List.getElem?_cons_zero,List.getElem?_cons_succ] at f1
     simp only [ex2] at f1 f2
     obtain ⟨hb8,hs8⟩:=hL3.setCell 11 (.slice (some ⟨w16.heap.size,0,none⟩) 2 2)
     have L3q:=Hy (show Blk _ g3 43 (agC op x3 0 x11.1 x11.2 (some ⟨w16.heap.size,0,none⟩) 2 2) from hb8)
     have L2q:=Hy ((L2.o.past (.cells (ex2 x8 ua8 uc8 aa8 ac8 (aS 1) none 0 none 0) 43)).st hs8 (by have:=HW3.o;omega))
     have hB:=Blk.new w16 43 (ex2 x8 ua8 uc8 aa8 ac8 (aS 1) none 0 none 0)
     have bb:=aj (b0 w16) (.cells (ex2 x8 ua8 uc8 aa8 ac8 (aS 1) none 0 none 0) 43)
     have hz3:=L3.o.lt
     have A9:=Hy ((eF hB ((fA VQ.o (C:=g4+1) fun b h=>h.1).kp (aK bb)) (Ec.kp (show Ec (g4+1) _ (aS 1) none none from ⟨.inl rfl,.inl rfl⟩) (aK bb)) (by have:=L4.o.lt;omega)).kp (hs8.kp (C:=g4+1) (by have:=HW4.o;omega)))
     have P8:=Hy ((P.o.keeps bb).st hs8 (by have:=gB.o;have:=HW3.o;omega))
     have M8:=Hy ((M.o.nx (.of bb)).trans (.st hs8 (.inr (by have:=HW3.o;omega))))
     clear hB bb hs8 hb8 hL3 hz3
     simp only [ex2] at L3q L2q
     simp only [agC] at L3q
     go_wp2_with (first | (refine aL aH Tryz.underlying43 rfl (.tmp 4) rfl rfl _ _ _ rfl L4q.o rfl ?_) | (refine aL aH Tryz.underlying43 rfl (.tmp 5) rfl rfl _ _ _ rfl L5q.o rfl ?_) | (refine aL aH Tryz.underlying43 rfl (.tmp 3) rfl rfl _ _ _ rfl L3q.o rfl ?_) | (refine aB aH (.tmp 2) (.tmp 58) rfl rfl _ _ _ _ rfl rfl L2q.o rfl rfl (by simp [Value.oneCell']) ?_;intro w9 hb9 hs9))
     refine aF rfl _ _ _ _ _ rfl hb9 rfl ?_
     have A10:=(A9.o.kp (hs9.kp (by have:=HW3.o;have:=HW4.o;omega))).less (show w.heap.size≤g4+1 by have:=HW3.o;have:=HW4.o;omega)
     exact ⟨_,j3 op x3 0 x11 x8 (aS 1),l16,a16,c16,rfl,⟨none,0,some ⟨w16.heap.size,0,none⟩,2,rfl,⟨.inl rfl,A10⟩⟩,P8.o.st hs9 gB.o,M8.o.trans (.st hs9 (.inr (Nat.le_refl _))),by
      rw [mG,iD]
      refine AF1.o.bind (AF2.o.bind (AF3.o.bind (AF5.o.bind ?_)))
      try dsimp only
      rw [HOP.o]
      rw [if_neg HQ.o]
      refine Aft.bind (AF8.o.bind (AF10.o.bind (.pure _ _ _ _))) ?_
      rw [if_neg HD.o]
      refine Aft.bind (.pure _ _ _ _) ?_
      refine AF11.o.bind ?_
      try dsimp only
      refine Aft.bind (.nay HF14.o (.pure _ _ _ _)) ?_
      exact AF16.o.bind (.pure _ _ _ _)⟩
    ·have HF14:=Hy (bH hf14)
     refine (bI B l11 true a11 c11 1 ⟨#[119,104,101,114,101]⟩ (by rw [aJ];exact ⟨by decide,by decide⟩) (by decide) _ P.o hf14).mono ?_
     rintro e w14 ⟨rfl,pp,mm⟩
     clear hf14
     replace L2:=Hy (ak L2.o mm (by have:=gB.o;omega) L2.o.lt)
     replace L3:=Hy (ak L3.o mm (by have:=gB.o;have:=HW3.o;omega) L3.o.lt)
     replace L4:=Hy (ak L4.o mm (by have:=gB.o;have:=HW3.o;have:=HW4.o;omega) L4.o.lt)
     replace VQ:=Hy (VQ.o.keep (bQ mm (by have:=gB.o;have:=HW3.o;have:=HW4.o;rintro ⟨h,_⟩;omega)))
     replace L5:=Hy (ak L5.o mm (by have:=gB.o;have:=HW3.o;have:=HW4.o;have:=HW5.o;omega) L5.o.lt)
     replace M:=Hy (M.o.nx mm)
     replace P:=Hy pp
     clear pp mm
     go_wp2_with fail
     have hz15:=Hy L5.o.lt
     refine (HX0.o B true l11.tail a11 c11 _ P.o (HG.o l11.tail c11 rfl (fun hc=>Nat.lt_trans (aR HF14.o.2) (LT11.o hc)))).mono ?_
     rintro e w15 ⟨u15,x15,l15,a15,c15,rfl,v15,pp,mm,af15⟩
     have AF15:=Hy af15
     clear af15
     replace L2:=Hy (ak L2.o mm (by have:=gB.o;omega) L2.o.lt)
     replace L3:=Hy (ak L3.o mm (by have:=gB.o;have:=HW3.o;omega) L3.o.lt)
     replace L4:=Hy (ak L4.o mm (by have:=gB.o;have:=HW3.o;have:=HW4.o;omega) L4.o.lt)
     replace VQ:=Hy (VQ.o.keep (bQ mm (by have:=gB.o;have:=HW3.o;have:=HW4.o;rintro ⟨h,_⟩;omega)))
     replace L5:=Hy (ak L5.o mm (by have:=gB.o;have:=HW3.o;have:=HW4.o;have:=HW5.o;omega) L5.o.lt)
     replace M:=Hy (M.o.nx mm)
     replace P:=Hy pp
     clear pp mm
     obtain ⟨ua15,uc15,aa15,ac15,rfl,U15⟩:=v15
     have V15:=Hy (U15.less (Nat.succ_le_of_lt hz15.o))
     clear U15 hz15
     go_wp2_with (refine aB aH (.tmp 5) (.tmp 48) rfl rfl _ _ _ _ rfl rfl L5.o rfl rfl (aG _ _ _ _ _) ?_;intro w16L L hs9;replace L2:=Hy (L2.o.st hs9 (by have:=HW3.o;have:=HW4.o;have:=HW5.o;omega));replace L3:=Hy (L3.o.st hs9 (by have:=HW4.o;have:=HW5.o;omega));replace L4:=Hy (L4.o.st hs9 (by have:=HW5.o;omega));replace VQ:=Hy (VQ.o.keep (eu hs9 (by rintro ⟨_,h⟩;exact h rfl)));replace V15:=Hy (V15.o.kp (hs9.kp (Nat.lt_succ_self _)));replace P:=Hy (P.o.st hs9 (by have:=gB.o;have:=HW3.o;have:=HW4.o;have:=HW5.o;omega));replace M:=Hy (M.o.trans (.st hs9 (.inr (by have:=HW3.o;have:=HW4.o;have:=HW5.o;omega))));replace L5:=Hy L;clear L hs9;obtain ⟨f1,f2⟩:=P.o.in1)
     obtain ⟨pp,hs9⟩:=P.o.ins false
     replace L2:=Hy (L2.o.st hs9 (by have:=gB.o;have:=HW3.o;have:=HW4.o;have:=HW5.o;omega))
     replace L3:=Hy (L3.o.st hs9 (by have:=gB.o;have:=HW3.o;have:=HW4.o;have:=HW5.o;omega))
     replace L4:=Hy (L4.o.st hs9 (by have:=gB.o;have:=HW3.o;have:=HW4.o;have:=HW5.o;omega))
     replace L5:=Hy (L5.o.st hs9 (by have:=gB.o;have:=HW3.o;have:=HW4.o;have:=HW5.o;omega))
     replace VQ:=Hy (VQ.o.keep (eu hs9 (by have:=gB.o;have:=HW3.o;have:=HW4.o;have:=HW5.o;rintro ⟨h,_⟩;omega)))
     replace V15:=Hy (V15.o.kp (hs9.kp (by have:=gB.o;have:=HW3.o;have:=HW4.o;have:=HW5.o;omega)))
     replace P:=Hy pp
     replace M:=Hy (M.o.trans (.st hs9 (.inl rfl)))
     clear pp hs9 f1 f2
     generalize w16L.setCell ⟨B,1,none⟩ (.bool false)=w17S at *
     refine (bU B 5 ⟨#[41]⟩ (by rw [aJ];exact ⟨by decide,by decide⟩) (by decide) l15 false a15 c15 _ P.o).mono ?_
     rintro e w18 ⟨u18,x18,l18,a18,c18,rfl,v18,pp,mm,af18⟩
     have AF18:=Hy af18
     clear af18
     replace L2:=Hy (ak L2.o mm (by have:=gB.o;omega) L2.o.lt)
     replace L3:=Hy (ak L3.o mm (by have:=gB.o;have:=HW3.o;omega) L3.o.lt)
     replace L4:=Hy (ak L4.o mm (by have:=gB.o;have:=HW3.o;have:=HW4.o;omega) L4.o.lt)
     replace VQ:=Hy (VQ.o.keep (bQ mm (by have:=gB.o;have:=HW3.o;have:=HW4.o;rintro ⟨h,_⟩;omega)))
     replace L5:=Hy (ak L5.o mm (by have:=gB.o;have:=HW3.o;have:=HW4.o;have:=HW5.o;omega) L5.o.lt)
     replace V15:=Hy (V15.o.kp (mm.kp (by have:=gB.o;have:=HW3.o;have:=HW4.o;have:=HW5.o;omega)))
     replace M:=Hy (M.o.nx mm)
     replace P:=Hy pp
     clear pp mm
     obtain rfl:u18=.tuple #[]:=v18
     have h4:=L4.o
     have h5:=L5.o
     simp only [exC] at h4 h5
     have L4q:=Hy h4
     have L5q:=Hy h5
     clear h4 h5
     have hL3:=L3.o.past (.cells (ex2 x8 ua8 uc8 aa8 ac8 x15 ua15 uc15 aa15 ac15) 43)
     have f1:=hL3.cell 11
     have f2:=hL3.free 11
     simp only [agC,List.getElem?_toArray,List.getElem?_cons_zero,List.getElem?_cons_succ] at f1
     simp only [ex2] at f1 f2
     obtain ⟨hb8,hs8⟩:=hL3.setCell 11 (.slice (some ⟨w18.heap.size,0,none⟩) 2 2)
     have L3q:=Hy (show Blk _ g3 43 (agC op x3 0 x11.1 x11.2 (some ⟨w18.heap.size,0,none⟩) 2 2) from hb8)
     have L2q:=Hy ((L2.o.past (.cells (ex2 x8 ua8 uc8 aa8 ac8 x15 ua15 uc15 aa15 ac15) 43)).st hs8 (by have:=HW3.o;omega))
     have hB:=Blk.new w18 43 (ex2 x8 ua8 uc8 aa8 ac8 x15 ua15 uc15 aa15 ac15)
     have bb:=aj (b0 w18) (.cells (ex2 x8 ua8 uc8 aa8 ac8 x15 ua15 uc15 aa15 ac15) 43)
     have hz3:=L3.o.lt
     have A9:=Hy ((eF hB ((fA VQ.o (C:=g4+1) fun b h=>h.1).kp (aK bb)) (Ec.kp (V15.o.less (Nat.succ_le_succ (Nat.le_of_lt HW5.o))) (aK bb)) (by have:=L4.o.lt;omega)).kp (hs8.kp (C:=g4+1) (by have:=HW4.o;omega)))
     have P8:=Hy ((P.o.keeps bb).st hs8 (by have:=gB.o;have:=HW3.o;omega))
     have M8:=Hy ((M.o.nx (.of bb)).trans (.st hs8 (.inr (by have:=HW3.o;omega))))
     clear hB bb hs8 hb8 hL3 hz3
     simp only [ex2] at L3q L2q
     simp only [agC] at L3q
     go_wp2_with (first | (refine aL aH Tryz.underlying43 rfl (.tmp 4) rfl rfl _ _ _ rfl L4q.o rfl ?_) | (refine aL aH Tryz.underlying43 rfl (.tmp 5) rfl rfl _ _ _ rfl L5q.o rfl ?_) | (refine aL aH Tryz.underlying43 rfl (.tmp 3) rfl rfl _ _ _ rfl L3q.o rfl ?_) | (refine aB aH (.tmp 2) (.tmp 58) rfl rfl _ _ _ _ rfl rfl L2q.o rfl rfl (by simp [Value.oneCell']) ?_;intro w9 hb9 hs9))
     refine aF rfl _ _ _ _ _ rfl hb9 rfl ?_
     have A10:=(A9.o.kp (hs9.kp (by have:=HW3.o;have:=HW4.o;omega))).less (show w.heap.size≤g4+1 by have:=HW3.o;have:=HW4.o;omega)
     exact ⟨_,j3 op x3 0 x11 x8 x15,l18,a18,c18,rfl,⟨none,0,some ⟨w18.heap.size,0,none⟩,2,rfl,⟨.inl rfl,A10⟩⟩,P8.o.st hs9 gB.o,M8.o.trans (.st hs9 (.inr (Nat.le_refl _))),by
      rw [mG,iD]
      refine AF1.o.bind (AF2.o.bind (AF3.o.bind (AF5.o.bind ?_)))
      try dsimp only
      rw [HOP.o]
      rw [if_neg HQ.o]
      refine Aft.bind (AF8.o.bind (AF10.o.bind (.pure _ _ _ _))) ?_
      rw [if_neg HD.o]
      refine Aft.bind (.pure _ _ _ _) ?_
      refine AF11.o.bind ?_
      try dsimp only
      refine Aft.bind (.yes HF14.o.1 HF14.o.2 AF15.o) ?_
      exact AF18.o.bind (.pure _ _ _ _)⟩
end Go.Proofs.YtbpijgddfaefkaaGreatDoor.rr
