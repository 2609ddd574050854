/-
  The reference's reader: unary, and the ranks of operations; The reference's reader: expressions; The reference's reader: words.
-/
import Derived.Test.YtbpijgddfaefkaaGreatDoorV28
set_option maxRecDepth 100000
set_option maxHeartbeats 16000000
namespace Go.Proofs.YtbpijgddfaefkaaGreatDoor.rr
open Go.RowKit dec pa
theorem iR {C g:Nat} {w w':World} {x:Ex} {ua aa:Option Addr} {uc ac:Nat} (h:Ec C w x ua aa) (hs:St g w w') (hg:g<C:=by omega):Ev g w' (.agg (exC x ua uc aa ac)) x :=
 ⟨ua,uc,aa,ac,rfl,(h.kp (hs.kp hg)).less (Nat.le_of_lt hg)⟩
theorem FR:ByteArray.empty.toList.isEmpty=true:=by rw [ByteArray.toList_eq];rfl
theorem CU {s:ByteArray} (h:s≠.empty):s.toList.isEmpty=false:=by
 cases hl:s.toList with
 | nil=>exact absurd (un.toList_inj (hl.trans (by rw [ByteArray.toList_eq];rfl))) h
 | cons _ _=>rfl
theorem Aft.tl {α:Type} {r:Rs α} {l l0 l2:List Tk} {a c a2 c2:Int} {y:α} (hc:c=0) (h:Aft r l0 a c y l2 a2 c2):Aft r l a c y l2 a2 c2:=by
 subst hc
 exact h
theorem vI {r:Nat} {l:List Tk} {c:Int} (h:opF r l c≠.empty):c=0∧opF r l c=opr r l∧opr r l≠.empty∧Otl r l c=l.tail:=by
 have hO:Otl r l c=l.tail:=by unfold Otl;rw [if_neg h]
 unfold opF at h ⊢
 split at h
 ·rename_i hc
  rw [if_pos hc]
  exact ⟨hc,rfl,h,hO⟩
 ·exact absurd rfl h
theorem yC {r:Nat} {l:List Tk} (h:opr r l≠.empty):opr r l ∈ opL r:=by
 unfold opr at h ⊢
 cases hf:(opL r).find? fun s=>isT s l with
 | none=>rw [hf] at h;exact absurd rfl h
 | some s=>exact List.mem_of_find?_eq_some hf
theorem yE {r:Nat} (h1:1≤r) (h5:r≤5):∀ s ∈ opL r,s≠⟨#[100,101,102,97,117,108,116]⟩:=by
 obtain rfl | rfl | rfl | rfl | rfl:r=1∨r=2∨r=3∨r=4∨r=5:=by omega
 all_goals (intro s hs;simp only [opL,List.mem_cons,List.not_mem_nil,or_false] at hs)
 ·subst hs;decide
 ·subst hs;decide
 ·rcases hs with rfl | rfl | rfl | rfl <;> decide
 ·rcases hs with rfl | rfl <;> decide
 ·rcases hs with rfl | rfl <;> decide
def CEx (G:List Tk→Int→Prop):Prop:=∀ (B:Nat) (i:Bool) (l:List Tk) (a c:Int) (w:World),Rp w B l i a c→G l c→Calls Tryz.prog 48 #[.pointer (some ⟨B,0,none⟩)] w (Qst B Ev (Z i .ex l) l i a c w)
def CNg (G:List Tk→Int→Prop):Prop:=∀ (B:Nat) (i:Bool) (l:List Tk) (a c:Int) (w:World),Rp w B l i a c→G l c→Calls Tryz.prog 146 #[.pointer (some ⟨B,0,none⟩)] w (Qst B Ev (Z i .ng l) l i a c w)
def COp (G:List Tk→Int→Prop):Prop:=∀ (r:Nat),1≤r→r≤6→∀ (B:Nat) (i:Bool) (l:List Tk) (a c:Int) (w:World),Rp w B l i a c→G l c→Calls Tryz.prog 91 #[.pointer (some ⟨B,0,none⟩),.int .i64 (r:Nat)] w (Qst B Ev (Z i (.op r) l) l i a c w)
def Sht (G:List Tk→Int→Prop) (l:List Tk) (c:Int):Prop:=∀ l' c',c=0→(c'=0→l'.length<l.length)→G l' c'
theorem Gc (B:Nat) (l:List Tk) (i:Bool) (a c:Int) (w:World) (h:Rp w B l i a c) (G:List Tk→Int→Prop) (hG:Sht G l c) (HN:CNg G) (PR:∀ w,Rp w B l i a c→Calls Tryz.prog 184 #[.pointer (some ⟨B,0,none⟩)] w (Qst B Ev (Z i .pr l) l i a c w)) :
  Calls Tryz.prog 146 #[.pointer (some ⟨B,0,none⟩)] w (Qst B Ev (Z i .ng l) l i a c w):=by
 have gB:=Hy h.lt
 have bb:=aj (b0 w) (.cells #[.int .i64 0,.string ⟨#[]⟩,.string ⟨#[]⟩,.string ⟨#[]⟩,.int .i64 0,.int .i64 0,.string ⟨#[]⟩,.slice none 0 0,.int .i64 0,.int .i64 0,.int .i64 0,.slice none 0 0] 43)
 have P:=Hy (h.keeps bb)
 have M:=Hy (Mx.of (B:=B) bb)
 have L2:=Hy (Blk.new w 43 #[.int .i64 0,.string ⟨#[]⟩,.string ⟨#[]⟩,.string ⟨#[]⟩,.int .i64 0,.int .i64 0,.string ⟨#[]⟩,.slice none 0 0,.int .i64 0,.int .i64 0,.int .i64 0,.slice none 0 0])
 clear h bb
 have HN0:=Hy HN
 have PR0:=Hy PR
 have HG:=Hy hG
 clear HN PR hG
 go_enter Tryz.func146,Tryz.ntmps146
 go_wp2_with fail
 cases hf1:fnd ⟨#[45]⟩ l c
 ·have HF1:=Hy (bS hf1)
  refine (bJ B l i a c 5 ⟨#[45]⟩ (by rw [aJ];exact ⟨by decide,by decide⟩) (by decide) _ P.o hf1).mono ?_
  rintro e w1 ⟨rfl,pp,mm⟩
  clear hf1
  replace L2:=Hy (ak L2.o mm (by have:=gB.o;omega) L2.o.lt)
  replace M:=Hy (M.o.nx mm)
  replace P:=Hy pp
  clear pp mm
  go_wp2_with fail
  have hz2:=Hy L2.o.lt
  refine (PR0.o _ P.o).mono ?_
  rintro e w2 ⟨u2,x2,l2,a2,c2,rfl,v2,pp,mm,af2⟩
  have AF2:=Hy af2
  clear af2
  replace L2:=Hy (ak L2.o mm (by have:=gB.o;omega) L2.o.lt)
  replace M:=Hy (M.o.nx mm)
  replace P:=Hy pp
  clear pp mm
  obtain ⟨ua2,uc2,aa2,ac2,rfl,U2⟩:=v2
  have V2:=Hy U2
  clear U2
  replace V2:=Hy (V2.o.less (Nat.succ_le_of_lt hz2.o))
  go_wp2_with (refine aB aH (.tmp 2) (.tmp 10) rfl rfl _ _ _ _ rfl rfl L2.o rfl rfl (aG _ _ _ _ _) ?_;intro w9 hb9 hs9)
  refine aF rfl _ _ _ _ _ rfl hb9 rfl ?_
  exact ⟨_,x2,l2,a2,c2,rfl,iR V2.o hs9,P.o.st hs9 gB.o,M.o.trans (.st hs9 (.inr (Nat.le_refl _))),(by rw [KW];exact .nay HF1.o AF2.o)⟩
 ·have HF1:=Hy (bH hf1)
  refine (bI B l i a c 5 ⟨#[45]⟩ (by rw [aJ];exact ⟨by decide,by decide⟩) (by decide) _ P.o hf1).mono ?_
  rintro e w1 ⟨rfl,pp,mm⟩
  clear hf1
  replace L2:=Hy (ak L2.o mm (by have:=gB.o;omega) L2.o.lt)
  replace M:=Hy (M.o.nx mm)
  replace P:=Hy pp
  clear pp mm
  go_wp2_with fail
  have hz2:=Hy L2.o.lt
  refine (HN0.o B i l.tail a c _ P.o (HG.o l.tail c HF1.o.1 (fun _=>aR HF1.o.2))).mono ?_
  rintro e w2 ⟨u2,x2,l2,a2,c2,rfl,v2,pp,mm,af2⟩
  have AF2:=Hy af2
  clear af2
  replace L2:=Hy (ak L2.o mm (by have:=gB.o;omega) L2.o.lt)
  replace M:=Hy (M.o.nx mm)
  replace P:=Hy pp
  clear pp mm
  obtain ⟨ua2,uc2,aa2,ac2,rfl,U2⟩:=v2
  have V2:=Hy U2
  clear U2
  replace V2:=Hy (V2.o.less (Nat.succ_le_of_lt hz2.o))
  simp only [exC]
  go_wp2_with (first | (refine aB aH (.tmp 2) (.tmp 8) rfl rfl _ _ _ _ rfl rfl (L2.o.past _) rfl rfl (by simp [Value.oneCell']) ?_;intro w9 hb9 hs9))
  have hB:=Blk.new w2 43 (ex1 x2 ua2 uc2 aa2 ac2)
  have bb:=aj (b0 w2) (.cells (ex1 x2 ua2 uc2 aa2 ac2) 43)
  have A9:=((rR hB (V2.o.kp (aK bb)) L2.o.lt).kp (hs9.kp (Nat.lt_succ_self _))).less (Nat.le_succ w.heap.size)
  refine aF rfl _ _ _ _ _ rfl hb9 rfl ?_
  exact ⟨_,fu ⟨#[45]⟩ x2,l2,a2,c2,rfl,⟨none,0,some ⟨w2.heap.size,0,none⟩,1,rfl,⟨.inl rfl,A9⟩⟩,(P.o.keeps bb).st hs9 gB.o,(M.o.nx (.of bb)).trans (.st hs9 (.inr (Nat.le_refl _))),(by rw [KW];exact .yes HF1.o.1 HF1.o.2 (AF2.o.bind (.pure _ _ _ _)))⟩
theorem Dl (B:Nat) (l:List Tk) (i:Bool) (a c:Int) (w:World) (h:Rp w B l i a c) (UN:∀ w,Rp w B l i a c→Calls Tryz.prog 146 #[.pointer (some ⟨B,0,none⟩)] w (Qst B Ev (Z i .ng l) l i a c w)) :
  Calls Tryz.prog 91 #[.pointer (some ⟨B,0,none⟩),.int .i64 ((6:Nat):Int)] w (Qst B Ev (Z i (.op 6) l) l i a c w):=by
 have gB:=Hy h.lt
 have bb:=aj (b0 w) (.cells #[.int .i64 0,.string ⟨#[]⟩,.string ⟨#[]⟩,.string ⟨#[]⟩,.int .i64 0,.int .i64 0,.string ⟨#[]⟩,.slice none 0 0,.int .i64 0,.int .i64 0,.int .i64 0,.slice none 0 0] 43)
 have P:=Hy (h.keeps bb)
 have M:=Hy (Mx.of (B:=B) bb)
 have L2:=Hy (Blk.new w 43 #[.int .i64 0,.string ⟨#[]⟩,.string ⟨#[]⟩,.string ⟨#[]⟩,.int .i64 0,.int .i64 0,.string ⟨#[]⟩,.slice none 0 0,.int .i64 0,.int .i64 0,.int .i64 0,.slice none 0 0])
 clear h bb
 have UN0:=Hy UN
 clear UN
 go_enter Tryz.func91,Tryz.ntmps91
 go_wp2_with fail
 have hz1:=Hy L2.o.lt
 refine (UN0.o _ P.o).mono ?_
 rintro e w1 ⟨u1,x1,l1,a1,c1,rfl,v1,pp,mm,af1⟩
 have AF1:=Hy af1
 clear af1
 replace L2:=Hy (ak L2.o mm (by have:=gB.o;omega) L2.o.lt)
 replace M:=Hy (M.o.nx mm)
 replace P:=Hy pp
 clear pp mm
 obtain ⟨ua1,uc1,aa1,ac1,rfl,U1⟩:=v1
 have V1:=Hy U1
 clear U1
 replace V1:=Hy (V1.o.less (Nat.succ_le_of_lt hz1.o))
 go_wp2_with (refine aB aH (.tmp 4) (.tmp 10) rfl rfl _ _ _ _ rfl rfl L2.o rfl rfl (aG _ _ _ _ _) ?_;intro w9 hb9 hs9)
 refine aF rfl _ _ _ _ _ rfl hb9 rfl ?_
 exact ⟨_,x1,l1,a1,c1,rfl,iR V1.o hs9,P.o.st hs9 gB.o,M.o.trans (.st hs9 (.inr (Nat.le_refl _))),(by rw [MC];exact AF1.o)⟩
theorem dG {α:Type} {r:Rs α} {l1 l2:List Tk} {a1 c1 a2 c2:Int} {x:α} {N:Nat} (h:Aft r l1 a1 c1 x l2 a2 c2) (hr:r≠.out) (hl:∀ v q,r=.ok v q→q.length≤l1.length) (h0:c1=0→l1.length<N):c2=0→l2.length<N:=fun hc=>by
 subst hc
 obtain ⟨h1,h2,_⟩:=h.fine hr
 have:=hl _ _ h2
 have:=h0 h1
 omega
theorem oH (l:List Tk):opr 0 l=if isT ⟨#[100,101,102,97,117,108,116]⟩ l=true then ⟨#[100,101,102,97,117,108,116]⟩ else .empty:=by
 show ((([⟨#[100,101,102,97,117,108,116]⟩]:List ByteArray).find? fun s=>isT s l).getD .empty)=_
 by_cases h:isT ⟨#[100,101,102,97,117,108,116]⟩ l=true
 ·rw [if_pos h,List.find?_cons_of_pos (p:=fun s=>isT s l) h]
  rfl
 ·rw [if_neg h,List.find?_cons_of_neg (p:=fun s=>isT s l) h]
  rfl
theorem Db:(⟨#[100,101,102,97,117,108,116]⟩:ByteArray)≠.empty:=by intro e;have:=congrArg (fun b:ByteArray=>b.size) e;revert this;decide
theorem KE (B:Nat) (l:List Tk) (i:Bool) (a c:Int) (w:World) (h:Rp w B l i a c) (G:List Tk→Int→Prop) (hG:Sht G l c) (HX:CEx G) (HO:COp G) (B1:∀ w,Rp w B l i a c→Calls Tryz.prog 91 #[.pointer (some ⟨B,0,none⟩),.int .i64 1] w (Qst B Ev (Z i (.op 1) l) l i a c w)) :
  Calls Tryz.prog 48 #[.pointer (some ⟨B,0,none⟩)] w (Qst B Ev (Z i .ex l) l i a c w):=by
 have gB:=Hy h.lt
 have bb:=aj (b0 w) (.cells #[.int .i64 0,.string ⟨#[]⟩,.string ⟨#[]⟩,.string ⟨#[]⟩,.int .i64 0,.int .i64 0,.string ⟨#[]⟩,.slice none 0 0,.int .i64 0,.int .i64 0,.int .i64 0,.slice none 0 0] 43)
 have P:=Hy (h.keeps bb)
 have M:=Hy (Mx.of (B:=B) bb)
 have L2:=Hy (Blk.new w 43 #[.int .i64 0,.string ⟨#[]⟩,.string ⟨#[]⟩,.string ⟨#[]⟩,.int .i64 0,.int .i64 0,.string ⟨#[]⟩,.slice none 0 0,.int .i64 0,.int .i64 0,.int .i64 0,.slice none 0 0])
 clear h bb
 have HX0:=Hy HX
 have HO0:=Hy HO
 have B10:=Hy B1
 have HG:=Hy hG
 clear HX HO B1 hG
 obtain ⟨bk,off,n,cap,hb,_⟩:=P.o.now
 have e3:=hb.cell 3
 simp only [List.getElem?_toArray,List.getElem?_cons_zero,List.getElem?_cons_succ] at e3
 clear hb
 by_cases hc:c=0
 rotate_left
 ·have q1:(c != 0)=true:=bne_iff_ne.2 hc
  go_enter Tryz.func48,Tryz.ntmps48
  go_wp2_with (refine aB aH (.tmp 2) (.tmp 12) rfl rfl _ _ _ _ rfl rfl L2.o rfl rfl (by simp [Value.oneCell']) ?_;intro w9 hb9 hs9)
  refine aF rfl _ _ _ _ _ rfl hb9 rfl ?_
  exact ⟨_,⟨h0,.nil⟩,l,a,c,rfl,⟨none,0,none,0,rfl,⟨.inl rfl,.inl rfl⟩⟩,P.o.st hs9 gB.o,M.o.trans (.st hs9 (.inr (Nat.le_refl _))),.still _ _ _ hc _⟩
 subst hc
 go_enter Tryz.func48,Tryz.ntmps48
 go_wp2_with fail
 cases hf1:fnd ⟨#[105,102]⟩ l 0
 ·have HF1:=Hy (bS hf1)
  refine (bJ B l i a 0 1 ⟨#[105,102]⟩ (by rw [aJ];exact ⟨by decide,by decide⟩) (by decide) _ P.o hf1).mono ?_
  rintro e w1 ⟨rfl,pp,mm⟩
  clear hf1
  replace L2:=Hy (ak L2.o mm (by have:=gB.o;omega) L2.o.lt)
  replace M:=Hy (M.o.nx mm)
  replace P:=Hy pp
  clear pp mm
  clear e3
  go_wp2_with fail
  have hz2:=Hy L2.o.lt
  refine (B10.o _ P.o).mono ?_
  rintro e w2 ⟨u2,x2,l2,a2,c2,rfl,v2,pp,mm,af2⟩
  have AF2:=Hy af2
  clear af2
  replace L2:=Hy (ak L2.o mm (by have:=gB.o;omega) L2.o.lt)
  replace M:=Hy (M.o.nx mm)
  replace P:=Hy pp
  clear pp mm
  obtain ⟨ua2,uc2,aa2,ac2,rfl,U2⟩:=v2
  have V2:=Hy U2
  clear U2
  replace V2:=Hy (V2.o.less (Nat.succ_le_of_lt hz2.o))
  have VQ:=Hy (fB (q:=fun b=>w.heap.size+1≤b∧b≠w2.heap.size) V2.o (fun b h1 h2=>⟨h1,by omega⟩))
  clear V2
  go_wp2_with ((refine aB aH (.tmp 5) (.tmp 30) rfl rfl _ _ _ _ rfl rfl (Blk.new _ _ _) rfl rfl (aG _ _ _ _ _) ?_;intro w2L L hs;have bb:=(aj (b0 w2) _).trans (hs.below (Nat.le_refl _));have gB5:=Hy P.o.lt;have hw5:=Hy (show w.heap.size<w2.heap.size from L2.o.lt);have L5:=Hy L;replace L2:=Hy (L2.o.below bb L2.o.lt);replace VQ:=Hy (VQ.o.keep (bL bb));replace P:=Hy (P.o.keeps bb);replace M:=Hy (M.o.nx (.of bb));clear bb hs L))
  have ZR:=Hy (fun y l9 a9 c9 (h:Aft (Z i (.tl 0 1 x2) l2) l2 a2 c2 y l9 a9 c9)=>show Aft (Z i .ex l) l a 0 y l9 a9 c9 from by
   rw [KX]
   exact .nay (fun h=>HF1.o ⟨by trivial,h.2⟩) (by rw [ME];exact AF2.o.bind h))
  have AF0:=Hy (show c2=0→l2.length<l.length from fun hc=>by
   subst hc
   have h0:=AF2.o.fine (eG (m:=.op 1) (show 1≤6 by decide))
   have h1:=gM h0.2.1
   simp only [Md.le] at h1
   omega)
  clear AF2 B10
  have hl5:=Hy (show w.heap.size<w2.heap.size from hw5.o)
  generalize w2.heap.size=g5 at *
  go_simp
  go_loopg [] (l2.length+1) (fun k wr => ∃ (x:Ex) (ua aa:Option Addr) (uc ac:Nat) (l':List Tk) (a' c':Int),Hid (Rp wr B l' i a' c')∧Hid (Mx w.heap.size B w wr)∧Hid (Blk wr w.heap.size 43 #[.int .i64 0,.string ⟨#[]⟩,.string ⟨#[]⟩,.string ⟨#[]⟩,.int .i64 0,.int .i64 0,.string ⟨#[]⟩,.slice none 0 0,.int .i64 0,.int .i64 0,.int .i64 0,.slice none 0 0])∧Hid (Blk wr g5 43 (exC x ua uc aa ac))∧Hid (EcQ (fun b=>w.heap.size+1≤b∧b≠g5) wr x ua aa)∧Hid (∀ y l9 a9 c9,Aft (Z i (.tl 0 1 x) l') l' a' c' y l9 a9 c9→Aft (Z i .ex l) l a 0 y l9 a9 c9)∧Hid (0<k∧(c'=0→l'.length<k∧l'.length<l.length)))
  case atStart=>exact ⟨x2,ua2,aa2,uc2,ac2,l2,a2,c2,P,M,L2,L5,VQ,ZR,Hy ⟨Nat.succ_pos _,fun hc=>⟨Nat.lt_succ_self _,AF0.o hc⟩⟩⟩
  case round =>
   clear P M L2 L5 VQ ZR AF0
   obtain ⟨x,ua,aa,uc,ac,l',a',c',P,M,L2,L5,V,ZR,hk⟩:=hrel
   rcases gk with _ | gk
   ·exact absurd hk.o.1 (Nat.lt_irrefl _)
   go_wp2_with fail
   cases hf3:fnd ⟨#[100,101,102,97,117,108,116]⟩ l' c'
   ·have HF3:=Hy (bS hf3)
    refine (bJ B l' i a' c' 1 ⟨#[100,101,102,97,117,108,116]⟩ (by rw [aJ];exact ⟨by decide,by decide⟩) (by decide) _ P.o hf3).mono ?_
    rintro e w3 ⟨rfl,pp,mm⟩
    clear hf3
    replace L2:=Hy (ak L2.o mm (by have:=gB.o;omega) L2.o.lt)
    replace L5:=Hy (ak L5.o mm (by have:=gB5.o;omega) L5.o.lt)
    replace V:=Hy (V.o.keep (bQ mm (by have:=gB.o;rintro ⟨h,_⟩;omega)))
    replace M:=Hy (M.o.nx mm)
    replace P:=Hy pp
    clear pp mm
    have AE:=Hy (ZR.o x l' a' c' (by
     by_cases hc:c'=0
     ·rw [mF i (n:=0) (by decide),oH,if_neg (fun h=>HF3.o ⟨hc,h⟩),if_pos rfl]
      exact .pure _ _ _ _
     ·exact .still _ _ _ hc _))
    clear ZR hk HF3
    go_wp2_with (first | (refine aL aH Tryz.underlying43 rfl (.tmp 5) rfl rfl _ _ _ rfl L5.o rfl ?_) | (refine aB aH (.tmp 2) (.tmp 38) rfl rfl _ _ _ _ rfl rfl L2.o rfl rfl (aG _ _ _ _ _) ?_;intro w9 hb9 hs9))
    refine aF rfl _ _ _ _ _ rfl hb9 rfl ?_
    exact ⟨_,x,l',a',c',rfl,iR (fA V.o fun b h=>h.1) hs9,P.o.st hs9 gB.o,M.o.trans (.st hs9 (.inr (Nat.le_refl _))),AE.o⟩
   ·have HF3:=Hy (bH hf3)
    refine (bI B l' i a' c' 1 ⟨#[100,101,102,97,117,108,116]⟩ (by rw [aJ];exact ⟨by decide,by decide⟩) (by decide) _ P.o hf3).mono ?_
    rintro e w3 ⟨rfl,pp,mm⟩
    clear hf3
    replace L2:=Hy (ak L2.o mm (by have:=gB.o;omega) L2.o.lt)
    replace L5:=Hy (ak L5.o mm (by have:=gB5.o;omega) L5.o.lt)
    replace V:=Hy (V.o.keep (bQ mm (by have:=gB.o;rintro ⟨h,_⟩;omega)))
    replace M:=Hy (M.o.nx mm)
    replace P:=Hy pp
    clear pp mm
    have hc0:=HF3.o.1
    have HT:=Hy HF3.o.2
    clear HF3
    subst hc0
    have hne:=P.o.tl.ne
    have htl:=Hy (aR HT.o)
    have hl2:=Hy (show 1≤l'.tail.length from by cases hq:l'.tail with
     | nil=>exact absurd hq hne
     | cons _ _=>simp)
    clear hne
    have HC:=Hy (show ∀ W,Rp W B l'.tail i a' 0→Calls Tryz.prog 91 #[.pointer (some ⟨B,0,none⟩),.int .i64 1] W (Qst B Ev (Z i (.op 1) l'.tail) l'.tail i a' 0 W) from fun W hW=>HO0.o 1 (by decide) (by decide) B i l'.tail a' 0 W hW (HG.o l'.tail 0 rfl (fun _=>by have:=htl.o;have:=(hk.o.2 (by trivial)).2;omega)))
    go_wp2_with fail
    replace P:=Hy (P.o.keeps (b0 _).drew)
    replace M:=Hy (M.o.nx (.of (b0 w3).drew))
    replace L2:=Hy (L2.o.below (b0 w3).drew L2.o.lt)
    replace L5:=Hy (L5.o.below (b0 w3).drew L5.o.lt)
    replace V:=Hy (V.o.keep (bL (b0 w3).drew))
    refine wp_region_held_drew (S:=fun _=>True) (by kernel_rfl) trivial (fun hH=>?_)
    refine aA 1 34 ?_ rfl (by kernel_rfl) rfl (fun _ _ _ h=>h) rfl hH (fun w' hS=>?_) ?_
    rotate_left
    ·go_simp;first | done | with_reducible rfl
    simp only [List.set_cons_zero,List.set_cons_succ]
    refine bN (i:=0) (j:=2) rfl rfl (by kernel_rfl) rfl rfl (fun K hK=>?_) (fun K hK=>?_)
    ·refine eO (.tmp 5) rfl _ _ _ rfl L5.o rfl ?_
     refine hK.o _ _ trivial (fun hH=>?_)
     clear hK K
     refine av (i:=2) rfl (by kernel_rfl) rfl (fun K hK=>?_)
     go_simp
     refine (HC.o _ P.o).mono ?_
     rintro e w3 ⟨u3,x3,l3,a3,c3,rfl,v3,pp,mm,af3⟩
     obtain ⟨ua3,uc3,aa3,ac3,rfl,E3⟩:=v3
     have hz3:=L2.o.lt
     have hz5:=L5.o.lt
     have V3:=Hy (fB (q:=fun b=>w.heap.size+1≤b∧b≠g5) E3 (fun b h1 _=>⟨by omega,by omega⟩))
     have AF3:=Hy af3
     clear af3 E3
     replace L2:=Hy (ak L2.o mm (by have:=gB.o;omega) L2.o.lt)
     replace L5:=Hy (ak L5.o mm (by have:=gB5.o;omega) L5.o.lt)
     replace V:=Hy (V.o.keep (bQ mm (by have:=gB.o;rintro ⟨h,_⟩;omega)))
     replace M:=Hy (M.o.nx mm)
     replace P:=Hy pp
     clear pp mm hz3 hz5
     refine hK.o _ _ trivial (fun hH=>?_)
     clear hK K
     refine av (i:=3) rfl (by kernel_rfl) rfl (fun K hK=>?_)
     simp only [exC]
     go_simp
     refine hK.o _ _ trivial (fun hH=>?_)
     clear hK K
     refine av (i:=4) rfl (by kernel_rfl) rfl (fun K hK=>?_)
     go_simp
     refine hK.o _ _ trivial (fun hH=>?_)
     clear hK K
     refine av (i:=5) rfl (by kernel_rfl) rfl (fun K hK=>?_)
     refine bZ (.tmp 5) (.tmp 37) rfl _ _ _ _ rfl rfl (L5.o.past _) rfl rfl (by simp [Value.oneCell']) ?_
     intro w9 hb9 hs9
     refine hK.o _ _ trivial (fun hH=>?_)
     clear hK K
     have hB:=Blk.new w3 43 (ex2 x ua uc aa ac x3 ua3 uc3 aa3 ac3)
     have bb:=aj (b0 w3) (.cells (ex2 x ua uc aa ac x3 ua3 uc3 aa3 ac3) 43)
     have hlt5:=hl5.o
     have L5':=Hy (show Blk w9 g5 43 (exC (aT ⟨#[100,101,102,97,117,108,116]⟩ x x3) none 0 (some ⟨w3.heap.size,0,none⟩) 2) from by unfold aT;rw [if_pos rfl];exact hb9)
     have hz2:=L2.o.lt
     have hz5:=L5.o.lt
     have V':=Hy (show EcQ (fun b=>w.heap.size+1≤b∧b≠g5) w9 (aT ⟨#[100,101,102,97,117,108,116]⟩ x x3) none (some ⟨w3.heap.size,0,none⟩) from by
      have A9:EcQ (fun b=>w.heap.size+1≤b∧b≠g5) _ ⟨{ h0 with k:=9 },.cons x.h x.ar (.cons x3.h x3.ar .nil)⟩ none (some ⟨w3.heap.size,0,none⟩):=⟨.inl rfl,nU hB (V.o.keep (bL bb)) (V3.o.keep (bL bb)) ⟨by omega,by omega⟩⟩
      unfold aT
      rw [if_pos rfl]
      exact A9.keep (eu hs9 (by rintro ⟨_,h⟩;exact h rfl)))
     have L2':=Hy ((L2.o.past (.cells (ex2 x ua uc aa ac x3 ua3 uc3 aa3 ac3) 43)).st hs9 (by omega))
     have P':=Hy ((P.o.keeps bb).st hs9 gB5.o)
     have M':=Hy ((M.o.nx (.of bb)).trans (.st hs9 (.inr (Nat.le_of_lt hlt5))))
     have HK2:=Hy (show 0<gk∧(c3=0→l3.length<gk∧l3.length<l.length) from by
      have h1:=(hk.o.2 (by trivial))
      have h2:=hl2.o
      have h3:=htl.o
      refine ⟨by omega,fun hc=>?_⟩
      subst hc
      have h4:=gM (AF3.o.fine (eG (m:=.op 1) (show 1≤6 by decide))).2.1
      simp only [Md.le] at h4
      exact ⟨by omega,by omega⟩)
     have ZR2:=Hy (show ∀ y l9 a9 c9,Aft (Z i (.tl 0 1 (aT ⟨#[100,101,102,97,117,108,116]⟩ x x3)) l3) l3 a3 c3 y l9 a9 c9→Aft (Z i .ex l) l a 0 y l9 a9 c9 from fun y l9 a9 c9 h=>ZR.o _ _ _ _ (by rw [mF i (n:=0) (by decide),oH,if_pos HT.o,if_neg Db];exact .tl rfl (AF3.o.bind (by rw [if_neg (by decide)];exact h))))
     clear hB bb hs9 hb9 L5 V V3 L2 P M ZR hk hlt5 AF3 hz2 hz5
     refine wpAnyH_done (by kernel_rfl) ?_ _
     go_wp2_with fail
     go_roundg gk
     case measure=>omega
     case rel=>exact ⟨aT ⟨#[100,101,102,97,117,108,116]⟩ x x3,none,some ⟨w3.heap.size,0,none⟩,0,2,l3,a3,c3,P',M',L2',L5',V',ZR2,HK2⟩
    ·go_simp
     refine (HC.o _ P.o).mono ?_
     rintro e w3 ⟨u3,x3,l3,a3,c3,rfl,v3,pp,mm,af3⟩
     obtain ⟨ua3,uc3,aa3,ac3,rfl,E3⟩:=v3
     have hz3:=L2.o.lt
     have hz5:=L5.o.lt
     have V3:=Hy (fB (q:=fun b=>w.heap.size+1≤b∧b≠g5) E3 (fun b h1 _=>⟨by omega,by omega⟩))
     have AF3:=Hy af3
     clear af3 E3
     replace L2:=Hy (ak L2.o mm (by have:=gB.o;omega) L2.o.lt)
     replace L5:=Hy (ak L5.o mm (by have:=gB5.o;omega) L5.o.lt)
     replace V:=Hy (V.o.keep (bQ mm (by have:=gB.o;rintro ⟨h,_⟩;omega)))
     replace M:=Hy (M.o.nx mm)
     replace P:=Hy pp
     clear pp mm hz3 hz5
     refine hK.o _ _ trivial (fun hH=>?_)
     clear hK K
     refine av (i:=0) rfl (by kernel_rfl) rfl (fun K hK=>?_)
     refine eO (.tmp 5) rfl _ _ _ rfl L5.o rfl ?_
     refine hK.o _ _ trivial (fun hH=>?_)
     clear hK K
     refine av (i:=3) rfl (by kernel_rfl) rfl (fun K hK=>?_)
     simp only [exC]
     go_simp
     refine hK.o _ _ trivial (fun hH=>?_)
     clear hK K
     refine av (i:=4) rfl (by kernel_rfl) rfl (fun K hK=>?_)
     go_simp
     refine hK.o _ _ trivial (fun hH=>?_)
     clear hK K
     refine av (i:=5) rfl (by kernel_rfl) rfl (fun K hK=>?_)
     refine bZ (.tmp 5) (.tmp 37) rfl _ _ _ _ rfl rfl (L5.o.past _) rfl rfl (by simp [Value.oneCell']) ?_
     intro w9 hb9 hs9
     refine hK.o _ _ trivial (fun hH=>?_)
     clear hK K
     have hB:=Blk.new w3 43 (ex2 x ua uc aa ac x3 ua3 uc3 aa3 ac3)
     have bb:=aj (b0 w3) (.cells (ex2 x ua uc aa ac x3 ua3 uc3 aa3 ac3) 43)
     have hlt5:=hl5.o
     have L5':=Hy (show Blk w9 g5 43 (exC (aT ⟨#[100,101,102,97,117,108,116]⟩ x x3) none 0 (some ⟨w3.heap.size,0,none⟩) 2) from by unfold aT;rw [if_pos rfl];exact hb9)
     have hz2:=L2.o.lt
     have hz5:=L5.o.lt
     have V':=Hy (show EcQ (fun b=>w.heap.size+1≤b∧b≠g5) w9 (aT ⟨#[100,101,102,97,117,108,116]⟩ x x3) none (some ⟨w3.heap.size,0,none⟩) from by
      have A9:EcQ (fun b=>w.heap.size+1≤b∧b≠g5) _ ⟨{ h0 with k:=9 },.cons x.h x.ar (.cons x3.h x3.ar .nil)⟩ none (some ⟨w3.heap.size,0,none⟩):=⟨.inl rfl,nU hB (V.o.keep (bL bb)) (V3.o.keep (bL bb)) ⟨by omega,by omega⟩⟩
      unfold aT
      rw [if_pos rfl]
      exact A9.keep (eu hs9 (by rintro ⟨_,h⟩;exact h rfl)))
     have L2':=Hy ((L2.o.past (.cells (ex2 x ua uc aa ac x3 ua3 uc3 aa3 ac3) 43)).st hs9 (by omega))
     have P':=Hy ((P.o.keeps bb).st hs9 gB5.o)
     have M':=Hy ((M.o.nx (.of bb)).trans (.st hs9 (.inr (Nat.le_of_lt hlt5))))
     have HK2:=Hy (show 0<gk∧(c3=0→l3.length<gk∧l3.length<l.length) from by
      have h1:=(hk.o.2 (by trivial))
      have h2:=hl2.o
      have h3:=htl.o
      refine ⟨by omega,fun hc=>?_⟩
      subst hc
      have h4:=gM (AF3.o.fine (eG (m:=.op 1) (show 1≤6 by decide))).2.1
      simp only [Md.le] at h4
      exact ⟨by omega,by omega⟩)
     have ZR2:=Hy (show ∀ y l9 a9 c9,Aft (Z i (.tl 0 1 (aT ⟨#[100,101,102,97,117,108,116]⟩ x x3)) l3) l3 a3 c3 y l9 a9 c9→Aft (Z i .ex l) l a 0 y l9 a9 c9 from fun y l9 a9 c9 h=>ZR.o _ _ _ _ (by rw [mF i (n:=0) (by decide),oH,if_pos HT.o,if_neg Db];exact .tl rfl (AF3.o.bind (by rw [if_neg (by decide)];exact h))))
     clear hB bb hs9 hb9 L5 V V3 L2 P M ZR hk hlt5 AF3 hz2 hz5
     refine wpAnyH_done (by kernel_rfl) ?_ _
     go_wp2_with fail
     go_roundg gk
     case measure=>omega
     case rel=>exact ⟨aT ⟨#[100,101,102,97,117,108,116]⟩ x x3,none,some ⟨w3.heap.size,0,none⟩,0,2,l3,a3,c3,P',M',L2',L5',V',ZR2,HK2⟩
 ·have HF1:=Hy (bH hf1)
  refine (bI B l i a 0 1 ⟨#[105,102]⟩ (by rw [aJ];exact ⟨by decide,by decide⟩) (by decide) _ P.o hf1).mono ?_
  rintro e w1 ⟨rfl,pp,mm⟩
  clear hf1
  replace L2:=Hy (ak L2.o mm (by have:=gB.o;omega) L2.o.lt)
  replace M:=Hy (M.o.nx mm)
  replace P:=Hy pp
  clear pp mm
  clear e3
  go_wp2_with fail
  have hz2:=Hy L2.o.lt
  refine (HX0.o B i l.tail a 0 _ P.o (HG.o l.tail 0 rfl (fun _=>aR HF1.o.2))).mono ?_
  rintro e w2 ⟨u2,x2,l2,a2,c2,rfl,v2,pp,mm,af2⟩
  have AF2:=Hy af2
  clear af2
  replace L2:=Hy (ak L2.o mm (by have:=gB.o;omega) L2.o.lt)
  replace M:=Hy (M.o.nx mm)
  replace P:=Hy pp
  clear pp mm
  obtain ⟨ua2,uc2,aa2,ac2,rfl,U2⟩:=v2
  have V2:=Hy U2
  clear U2
  replace V2:=Hy (V2.o.less (Nat.succ_le_of_lt hz2.o))
  have LT2:=Hy (dG (N:=l.length) AF2.o (eG (m:=.ex) trivial) (fun v q h=>by have:=gM h;simp only [Md.le] at this;omega) (fun _=>aR HF1.o.2))
  go_wp2_with ((refine aB aH (.tmp 3) (.tmp 16) rfl rfl _ _ _ _ rfl rfl (Blk.new _ _ _) rfl rfl (aG _ _ _ _ _) ?_;intro w2L L hs;have bb:=(aj (b0 w2) _).trans (hs.below (Nat.le_refl _));have gB3:=Hy P.o.lt;have hw3:=Hy (show w.heap.size<w2.heap.size from L2.o.lt);have L3:=Hy L;replace L2:=Hy (L2.o.below bb L2.o.lt);replace V2:=Hy (V2.o.kp (aK bb));replace P:=Hy (P.o.keeps bb);replace M:=Hy (M.o.nx (.of bb));clear bb hs L))
  refine (bU B 1 ⟨#[116,104,101,110]⟩ (by rw [aJ];exact ⟨by decide,by decide⟩) (by decide) l2 i a2 c2 _ P.o).mono ?_
  rintro e w3 ⟨u3,x3,l3,a3,c3,rfl,v3,pp,mm,af3⟩
  have AF3:=Hy af3
  clear af3
  replace L2:=Hy (ak L2.o mm (by have:=gB.o;omega) L2.o.lt)
  replace V2:=Hy (V2.o.kp (mm.kp (by have:=gB.o;omega)))
  replace L3:=Hy (ak L3.o mm (by have:=gB3.o;omega) L3.o.lt)
  replace M:=Hy (M.o.nx mm)
  replace P:=Hy pp
  clear pp mm
  obtain rfl:u3=.tuple #[]:=v3
  have LT3:=Hy (dG (N:=l.length) AF3.o (bD _ _) (fun v q h=>Nat.le_of_lt (bE h)) LT2.o)
  go_wp2_with fail
  have hz4:=Hy L2.o.lt
  refine (HX0.o B i l3 a3 c3 _ P.o (HG.o l3 c3 rfl LT3.o)).mono ?_
  rintro e w4 ⟨u4,x4,l4,a4,c4,rfl,v4,pp,mm,af4⟩
  have AF4:=Hy af4
  clear af4
  replace L2:=Hy (ak L2.o mm (by have:=gB.o;omega) L2.o.lt)
  replace V2:=Hy (V2.o.kp (mm.kp (by have:=gB.o;omega)))
  replace L3:=Hy (ak L3.o mm (by have:=gB3.o;omega) L3.o.lt)
  replace M:=Hy (M.o.nx mm)
  replace P:=Hy pp
  clear pp mm
  obtain ⟨ua4,uc4,aa4,ac4,rfl,U4⟩:=v4
  have V4:=Hy U4
  clear U4
  replace V4:=Hy (V4.o.less (Nat.succ_le_of_lt hz4.o))
  have LT4:=Hy (dG (N:=l.length) AF4.o (eG (m:=.ex) trivial) (fun v q h=>by have:=gM h;simp only [Md.le] at this;omega) LT3.o)
  go_wp2_with ((refine aB aH (.tmp 4) (.tmp 20) rfl rfl _ _ _ _ rfl rfl (Blk.new _ _ _) rfl rfl (aG _ _ _ _ _) ?_;intro w4L L hs;have bb:=(aj (b0 w4) _).trans (hs.below (Nat.le_refl _));have gB4:=Hy P.o.lt;have hw4:=Hy (show w.heap.size<w4.heap.size from L2.o.lt);have L4:=Hy L;replace L2:=Hy (L2.o.below bb L2.o.lt);replace V2:=Hy (V2.o.kp (aK bb));replace L3:=Hy (L3.o.below bb L3.o.lt);replace V4:=Hy (V4.o.kp (aK bb));replace P:=Hy (P.o.keeps bb);replace M:=Hy (M.o.nx (.of bb));clear bb hs L))
  refine (bU B 1 ⟨#[101,108,115,101]⟩ (by rw [aJ];exact ⟨by decide,by decide⟩) (by decide) l4 i a4 c4 _ P.o).mono ?_
  rintro e w5 ⟨u5,x5,l5,a5,c5,rfl,v5,pp,mm,af5⟩
  have AF5:=Hy af5
  clear af5
  replace L2:=Hy (ak L2.o mm (by have:=gB.o;omega) L2.o.lt)
  replace V2:=Hy (V2.o.kp (mm.kp (by have:=gB.o;omega)))
  replace L3:=Hy (ak L3.o mm (by have:=gB3.o;omega) L3.o.lt)
  replace V4:=Hy (V4.o.kp (mm.kp (by have:=gB.o;omega)))
  replace L4:=Hy (ak L4.o mm (by have:=gB4.o;omega) L4.o.lt)
  replace M:=Hy (M.o.nx mm)
  replace P:=Hy pp
  clear pp mm
  obtain rfl:u5=.tuple #[]:=v5
  have LT5:=Hy (dG (N:=l.length) AF5.o (bD _ _) (fun v q h=>Nat.le_of_lt (bE h)) LT4.o)
  go_wp2_with fail
  replace P:=Hy (P.o.keeps (b0 _).drew)
  replace M:=Hy (M.o.nx (.of (b0 w5).drew))
  replace L2:=Hy (L2.o.below (b0 w5).drew L2.o.lt)
  replace L3:=Hy (L3.o.below (b0 w5).drew L3.o.lt)
  replace L4:=Hy (L4.o.below (b0 w5).drew L4.o.lt)
  replace V2:=Hy (V2.o.kp (aK (b0 w5).drew))
  replace V4:=Hy (V4.o.kp (aK (b0 w5).drew))
  refine wp_region_held_drew (S:=fun w' => Blk w' w2.heap.size 43 (exC x2 ua2 uc2 aa2 ac2)∧Blk w' w4.heap.size 43 (exC x4 ua4 uc4 aa4 ac4)) (by kernel_rfl) ⟨L3.o,L4.o⟩ (fun hH=>?_)
  refine aA 0 23 (.agg (exC x2 ua2 uc2 aa2 ac2)) rfl (by kernel_rfl) rfl (fun _ _ _ h=>h) rfl hH (fun w' hS=>bC aH Tryz.underlying43 rfl (.tmp 3) rfl _ _ _ rfl hS.1 rfl) ?_
  simp only [List.set_cons_zero,List.set_cons_succ]
  refine aA 1 24 (.agg (exC x4 ua4 uc4 aa4 ac4)) rfl (by kernel_rfl) rfl (fun _ _ _ h=>h) rfl hH (fun w' hS=>bC aH Tryz.underlying43 rfl (.tmp 4) rfl _ _ _ rfl hS.2 rfl) ?_
  simp only [List.set_cons_zero,List.set_cons_succ]
  refine aA 2 25 ?_ rfl (by kernel_rfl) rfl (fun _ _ _ h=>h) rfl hH (fun w' hS=>?_) ?_
  rotate_left
  ·go_simp;first | done | with_reducible rfl
  simp only [List.set_cons_zero,List.set_cons_succ]
  refine av (i:=3) rfl (by kernel_rfl) rfl (fun K hK=>?_)
  go_simp
  have hz6:=Hy L2.o.lt
  refine (HX0.o B i l5 a5 c5 _ P.o (HG.o l5 c5 rfl LT5.o)).mono ?_
  rintro e w6 ⟨u6,x6,l6,a6,c6,rfl,v6,pp,mm,af6⟩
  have AF6:=Hy af6
  clear af6
  replace L2:=Hy (ak L2.o mm (by have:=gB.o;omega) L2.o.lt)
  replace V2:=Hy (V2.o.kp (mm.kp (by have:=gB.o;omega)))
  replace L3:=Hy (ak L3.o mm (by have:=gB3.o;omega) L3.o.lt)
  replace V4:=Hy (V4.o.kp (mm.kp (by have:=gB.o;omega)))
  replace L4:=Hy (ak L4.o mm (by have:=gB4.o;omega) L4.o.lt)
  replace M:=Hy (M.o.nx mm)
  replace P:=Hy pp
  clear pp mm
  obtain ⟨ua6,uc6,aa6,ac6,rfl,U6⟩:=v6
  have V6:=Hy U6
  clear U6
  replace V6:=Hy (V6.o.less (Nat.succ_le_of_lt hz6.o))
  refine hK.o _ _ ⟨L3.o,L4.o⟩ (fun hH=>?_)
  clear hK K
  refine av (i:=4) rfl (by kernel_rfl) rfl (fun K hK=>?_)
  simp only [exC]
  go_simp
  refine hK.o _ _ ⟨hH.1.past _,hH.2.past _⟩ (fun hH=>?_)
  clear hK K
  refine av (i:=5) rfl (by kernel_rfl) rfl (fun K hK=>?_)
  go_simp
  refine hK.o _ _ hH (fun hH=>?_)
  clear hK K
  refine av (i:=6) rfl (by kernel_rfl) rfl (fun K hK=>?_)
  refine bZ (.tmp 2) (.tmp 28) rfl _ _ _ _ rfl rfl (L2.o.past _) rfl rfl (by simp [Value.oneCell']) ?_
  intro w9 hb9 hs9
  have h1:=hw3.o
  have h2:=hw4.o
  refine hK.o _ _ ⟨hH.1.st hs9 (by omega),hH.2.st hs9 (by omega)⟩ (fun hH=>?_)
  clear hK K
  have hB:=Blk.new w6 43 (ex3 x2 ua2 uc2 aa2 ac2 x4 ua4 uc4 aa4 ac4 x6 ua6 uc6 aa6 ac6)
  have bb:=aj (b0 w6) (.cells (ex3 x2 ua2 uc2 aa2 ac2 x4 ua4 uc4 aa4 ac4 x6 ua6 uc6 aa6 ac6) 43)
  have A9:=Hy (((KP hB (V2.o.kp (aK bb)) (V4.o.kp (aK bb)) (V6.o.kp (aK bb)) L2.o.lt).kp (hs9.kp (Nat.lt_succ_self _))).less (Nat.le_succ w.heap.size))
  have P9:=Hy ((P.o.keeps bb).st hs9 gB.o)
  have M9:=Hy ((M.o.nx (.of bb)).trans (.st hs9 (.inr (Nat.le_refl _))))
  replace hb9:=Hy hb9
  clear hB bb hs9 hH h1 h2
  refine wpAnyH_done (by kernel_rfl) ?_ _
  go_wp2_with fail
  refine aF rfl _ _ _ _ _ rfl hb9.o rfl ?_
  exact ⟨_,ifE x2 x4 x6,l6,a6,c6,rfl,⟨none,0,some ⟨w6.heap.size,0,none⟩,3,rfl,⟨.inl rfl,A9.o⟩⟩,P9.o,M9.o,by rw [KX];exact .yes rfl HF1.o.2 (AF2.o.bind (AF3.o.bind (AF4.o.bind (AF5.o.bind (AF6.o.bind (.pure _ _ _ _))))))⟩
theorem lV {s:ByteArray} (hs:pr ⟨5,s,0⟩=true) {l:List Tk} (hp:Prl l) (hl:Tl l) (hk:(hd l).k≠5):isT s l=false:=by
 rw [oK hs (.inr rfl) hp hl,decide_eq_false hk]
 rfl
theorem vF {i:Bool} {l l1 l2 l3:List Tk} {a c a1 c1 a2 c2 a3 c3:Int} {x:Ex} {u v:Unit} (h1:Aft (need ⟨#[40]⟩ l) l a c u l1 a1 c1) (h2:Aft (Z i .ex l1) l1 a1 c1 x l2 a2 c2) (h3:Aft (need ⟨#[41]⟩ l2) l2 a2 c2 v l3 a3 c3):Aft (Z i .pa l) l a c x l3 a3 c3:=by
 rw [KV]
 exact h1.bind (h2.bind (h3.bind (.pure _ _ _ _)))
theorem yI {l r:List Tk} {v:ByteArray} (h:nam l=.ok v r):r=l.tail∧r.length<l.length∨l=[]:=by
 cases l with
 | nil=>exact .inr rfl
 | cons x q =>
  left
  rw [mW] at h
  split at h
  ·cases h
  ·unfold tkk at h
   split at h
   ·rw [if_neg (by decide)] at h
    cases h
    exact ⟨rfl,Nat.lt_succ_self _⟩
   ·cases h
theorem dJ (l:List Tk):nam l≠.out:=by
 rw [mW]
 intro h
 split at h
 ·cases h
 ·unfold tkk at h
  split at h <;> cases h
theorem KU {i:Bool} {l:List Tk} (hp:Prl l) (hl:Tl l) (hk:(hd l).k=1) (h1:isT ⟨#[116,114,117,101]⟩ l=false) (h2:isT ⟨#[102,97,108,115,101]⟩ l=false) (h3:isT ⟨#[110,117,108,108]⟩ l=false):Z i .pr l=if i=true then (nam l).bind fun n r=>.ok (lX n) r else if agg (hd l).t=true then Z i .ag l else Z i .rf l:=by
 rw [rT,if_neg (by omega),if_neg (by omega),if_neg (by omega),h1,h2,h3,lV (s:=⟨#[64]⟩) (by rw [aJ];exact ⟨by decide,by decide⟩) hp hl (by omega),lV (s:=⟨#[40]⟩) (by rw [aJ];exact ⟨by decide,by decide⟩) hp hl (by omega)]
 simp only [Bool.false_eq_true,if_false]
theorem Az {i:Bool} {l:List Tk} (hp:Prl l) (hl:Tl l) (hk:(hd l).k=1):Z i .pr l=if isT ⟨#[116,114,117,101]⟩ l=true then .ok (aS 1) l.tail else if isT ⟨#[102,97,108,115,101]⟩ l=true then .ok (aS 0) l.tail else if isT ⟨#[110,117,108,108]⟩ l=true then (Z i .pa l.tail).bind fun x r=>.ok (fu ⟨#[110,117,108,108]⟩ x) r else Z i .pr l:=by
 rw [rT,if_neg (by omega),if_neg (by omega),if_neg (by omega),lV (s:=⟨#[64]⟩) (by rw [aJ];exact ⟨by decide,by decide⟩) hp hl (by omega)]
 split
 ·rfl
 split
 ·rfl
 simp only [Bool.false_eq_true,if_false]
 split
 ·rfl
 rfl
theorem Jj (B:Nat) (l:List Tk) (i:Bool) (a c:Int) (w:World) (h:Rp w B l i a c) (hc:c=0) (hk:(hd l).k=1) (G:List Tk→Int→Prop) (hG:Sht G l c) (HX:CEx G) (AG:i=false→∀ w,Rp w B l i a c→Calls Tryz.prog 252 #[.pointer (some ⟨B,0,none⟩)] w (Qst B Ev (Z i .ag l) l i a c w)) :
  Calls Tryz.prog 224 #[.pointer (some ⟨B,0,none⟩)] w (Qst B Ev (Z i .pr l) l i a c w):=by
 have gB:=Hy h.lt
 have bb:=aj (b0 w) (.cells #[.int .i64 0,.string ⟨#[]⟩,.string ⟨#[]⟩,.string ⟨#[]⟩,.int .i64 0,.int .i64 0,.string ⟨#[]⟩,.slice none 0 0,.int .i64 0,.int .i64 0,.int .i64 0,.slice none 0 0] 43)
 have P:=Hy (h.keeps bb)
 have M:=Hy (Mx.of (B:=B) bb)
 have L2:=Hy (Blk.new w 43 #[.int .i64 0,.string ⟨#[]⟩,.string ⟨#[]⟩,.string ⟨#[]⟩,.int .i64 0,.int .i64 0,.string ⟨#[]⟩,.slice none 0 0,.int .i64 0,.int .i64 0,.int .i64 0,.slice none 0 0])
 clear h bb
 have HX0:=Hy HX
 have AG0:=Hy AG
 have HG:=Hy hG
 have HP:=Hy P.o.pl
 have HL:=Hy P.o.tl
 have HKk:=Hy hk
 clear HX AG hG hk
 subst hc
 go_enter Tryz.func224,Tryz.ntmps224
 go_wp2_with fail
 cases hf1:fnd ⟨#[116,114,117,101]⟩ l 0
 ·have HF1:=Hy (bS hf1)
  refine (bJ B l i a 0 1 ⟨#[116,114,117,101]⟩ (by rw [aJ];exact ⟨by decide,by decide⟩) (by decide) _ P.o hf1).mono ?_
  rintro e w1 ⟨rfl,pp,mm⟩
  clear hf1
  replace L2:=Hy (ak L2.o mm (by have:=gB.o;omega) L2.o.lt)
  replace M:=Hy (M.o.nx mm)
  replace P:=Hy pp
  clear pp mm
  go_wp2_with fail
  cases hf2:fnd ⟨#[102,97,108,115,101]⟩ l 0
  ·have HF2:=Hy (bS hf2)
   refine (bJ B l i a 0 1 ⟨#[102,97,108,115,101]⟩ (by rw [aJ];exact ⟨by decide,by decide⟩) (by decide) _ P.o hf2).mono ?_
   rintro e w2 ⟨rfl,pp,mm⟩
   clear hf2
   replace L2:=Hy (ak L2.o mm (by have:=gB.o;omega) L2.o.lt)
   replace M:=Hy (M.o.nx mm)
   replace P:=Hy pp
   clear pp mm
   go_wp2_with fail
   cases hf3:fnd ⟨#[110,117,108,108]⟩ l 0
   ·have HF3:=Hy (bS hf3)
    refine (bJ B l i a 0 1 ⟨#[110,117,108,108]⟩ (by rw [aJ];exact ⟨by decide,by decide⟩) (by decide) _ P.o hf3).mono ?_
    rintro e w3 ⟨rfl,pp,mm⟩
    clear hf3
    replace L2:=Hy (ak L2.o mm (by have:=gB.o;omega) L2.o.lt)
    replace M:=Hy (M.o.nx mm)
    replace P:=Hy pp
    clear pp mm
    have ZW:=Hy (KU (i:=i) HP.o HL.o HKk.o (by have:=HF1.o;simpa using this) (by have:=HF2.o;simpa using this) (by have:=HF3.o;simpa using this))
    obtain ⟨bk,off,n,cap,hb,hn1,hnc,hmx,hnl,k0,k1,k2,hbB,hC⟩:=P.o.now
    have e0:=hb.cell 0
    have e1:=hb.cell 1
    simp only [List.getElem?_toArray,List.getElem?_cons_zero,List.getElem?_cons_succ] at e0 e1
    have i1:(0:Int)<(n:Int):=by omega
    have i2:0<n:=by omega
    clear hb hC hnc hmx hnl hbB hn1 HF1 HF2 HF3
    obtain ⟨ht,hht⟩:∃ t,(hd l).t=t:=⟨_,rfl⟩
    rw [hht] at k1 ZW
    have CA:=Hy (tT ht)
    obtain ⟨ga,hga⟩:∃ g,agg ht=g:=⟨_,rfl⟩
    rw [hga] at ZW CA
    clear hht hga
    cases i
    ·cases ga
     ·simp only [Bool.false_eq_true,if_false] at ZW
      go_wp2_with fail
      refine (CA.o _).mono ?_
      rintro e w9 ⟨rfl,rfl⟩
      clear CA
      go_wp2_with fail
      clear e0 e1 k0 k1 k2
      refine (jP B l false a 0 _ P.o).mono ?_
      rintro e w4 ⟨u4,x4,l4,a4,c4,rfl,v4,pp,mm,af4⟩
      have AF4:=Hy af4
      clear af4
      replace L2:=Hy (ak L2.o mm (by have:=gB.o;omega) L2.o.lt)
      replace M:=Hy (M.o.nx mm)
      replace P:=Hy pp
      clear pp mm
      obtain rfl:u4=.string x4:=v4
      have LT4:=Hy (show c4=0→l4.length<l.length from fun hc=>by
       subst hc
       have h1:=(AF4.o.fine (dJ l)).2.1
       rcases yI h1 with h | h
       ·exact h.2
       ·exact absurd h HL.o.ne)
      obtain ⟨bk,off,n,cap,hb,_⟩:=P.o.now
      have e1:=hb.cell 1
      simp only [List.getElem?_toArray,List.getElem?_cons_zero,List.getElem?_cons_succ] at e1
      clear hb
      go_wp2_with fail
      clear e1
      cases hf5:fnd ⟨#[111,102]⟩ l4 c4
      ·have HF5:=Hy (bS hf5)
       refine (bJ B l4 false a4 c4 1 ⟨#[111,102]⟩ (by rw [aJ];exact ⟨by decide,by decide⟩) (by decide) _ P.o hf5).mono ?_
       rintro e w5 ⟨rfl,pp,mm⟩
       clear hf5
       replace L2:=Hy (ak L2.o mm (by have:=gB.o;omega) L2.o.lt)
       replace M:=Hy (M.o.nx mm)
       replace P:=Hy pp
       clear pp mm
       go_wp2_with (refine aB aH (.tmp 2) (.tmp 62) rfl rfl _ _ _ _ rfl rfl L2.o rfl rfl (by simp [Value.oneCell']) ?_;intro w9 hb9 hs9)
       refine aF rfl _ _ _ _ _ rfl hb9 rfl ?_
       exact ⟨_,iQ x4,l4,a4,c4,rfl,⟨none,0,none,0,rfl,⟨.inl rfl,.inl rfl⟩⟩,P.o.st hs9 gB.o,M.o.trans (.st hs9 (.inr (Nat.le_refl _))),(by rw [ZW.o,Fu];exact AF4.o.bind (.nay HF5.o (.pure _ _ _ _)))⟩
      ·have HF5:=Hy (bH hf5)
       refine (bI B l4 false a4 c4 1 ⟨#[111,102]⟩ (by rw [aJ];exact ⟨by decide,by decide⟩) (by decide) _ P.o hf5).mono ?_
       rintro e w5 ⟨rfl,pp,mm⟩
       clear hf5
       replace L2:=Hy (ak L2.o mm (by have:=gB.o;omega) L2.o.lt)
       replace M:=Hy (M.o.nx mm)
       replace P:=Hy pp
       clear pp mm
       go_wp2_with fail
       refine (bU B 5 ⟨#[40]⟩ (by rw [aJ];exact ⟨by decide,by decide⟩) (by decide) l4.tail false a4 c4 _ P.o).mono ?_
       rintro e w6 ⟨u6,x6,l6,a6,c6,rfl,v6,pp,mm,af6⟩
       have AF6:=Hy af6
       clear af6
       replace L2:=Hy (ak L2.o mm (by have:=gB.o;omega) L2.o.lt)
       replace M:=Hy (M.o.nx mm)
       replace P:=Hy pp
       clear pp mm
       obtain rfl:u6=.tuple #[]:=v6
       have LT6:=Hy (dG (N:=l.length) AF6.o (bD _ _) (fun v q h=>Nat.le_of_lt (bE h)) (fun hc=>Nat.lt_trans (aR HF5.o.2) (LT4.o HF5.o.1)))
       go_wp2_with fail
       have hz7:=Hy L2.o.lt
       refine (HX0.o B false l6 a6 c6 _ P.o (HG.o l6 c6 rfl LT6.o)).mono ?_
       rintro e w7 ⟨u7,x7,l7,a7,c7,rfl,v7,pp,mm,af7⟩
       have AF7:=Hy af7
       clear af7
       replace L2:=Hy (ak L2.o mm (by have:=gB.o;omega) L2.o.lt)
       replace M:=Hy (M.o.nx mm)
       replace P:=Hy pp
       clear pp mm
       obtain ⟨ua7,uc7,aa7,ac7,rfl,U7⟩:=v7
       have V7:=Hy U7
       clear U7
       replace V7:=Hy (V7.o.less (Nat.succ_le_of_lt hz7.o))
       go_wp2_with ((refine aB aH (.tmp 5) (.tmp 54) rfl rfl _ _ _ _ rfl rfl (Blk.new _ _ _) rfl rfl (aG _ _ _ _ _) ?_;intro w7L L hs;have bb:=(aj (b0 w7) _).trans (hs.below (Nat.le_refl _));have gB5:=Hy P.o.lt;have hw5:=Hy (show w.heap.size<w7.heap.size from L2.o.lt);have L5:=Hy L;replace L2:=Hy (L2.o.below bb L2.o.lt);replace V7:=Hy (V7.o.kp (aK bb));replace P:=Hy (P.o.keeps bb);replace M:=Hy (M.o.nx (.of bb));clear bb hs L))
       refine (bU B 5 ⟨#[41]⟩ (by rw [aJ];exact ⟨by decide,by decide⟩) (by decide) l7 false a7 c7 _ P.o).mono ?_
       rintro e w8 ⟨u8,x8,l8,a8,c8,rfl,v8,pp,mm,af8⟩
       have AF8:=Hy af8
       clear af8
       replace L2:=Hy (ak L2.o mm (by have:=gB.o;omega) L2.o.lt)
       replace V7:=Hy (V7.o.kp (mm.kp (by have:=gB.o;omega)))
       replace L5:=Hy (ak L5.o mm (by have:=gB5.o;omega) L5.o.lt)
       replace M:=Hy (M.o.nx mm)
       replace P:=Hy pp
       clear pp mm
       obtain rfl:u8=.tuple #[]:=v8
       have h3:=L5.o
       simp only [exC] at h3
       replace L5:=Hy h3
       clear h3
       go_wp2_with (first | (refine aL aH Tryz.underlying43 rfl (.tmp 5) rfl rfl _ _ _ rfl L5.o rfl ?_) | (refine aB aH (.tmp 2) (.tmp 60) rfl rfl _ _ _ _ rfl rfl (L2.o.past _) rfl rfl (by simp [Value.oneCell']) ?_;intro w9 hb9 hs9))
       have hB:=Blk.new w8 43 (ex1 x7 ua7 uc7 aa7 ac7)
       have bb:=aj (b0 w8) (.cells (ex1 x7 ua7 uc7 aa7 ac7) 43)
       have A9:=((rR hB (V7.o.kp (aK bb)) L2.o.lt).kp (hs9.kp (Nat.lt_succ_self _))).less (Nat.le_succ w.heap.size)
       refine aF rfl _ _ _ _ _ rfl hb9 rfl ?_
       exact ⟨_,Af x4 x7,l8,a8,c8,rfl,⟨none,0,some ⟨w8.heap.size,0,none⟩,1,rfl,⟨.inl rfl,A9⟩⟩,(P.o.keeps bb).st hs9 gB.o,(M.o.nx (.of bb)).trans (.st hs9 (.inr (Nat.le_refl _))),(by rw [ZW.o,Fu];exact AF4.o.bind (.yes HF5.o.1 HF5.o.2 ((vF AF6.o AF7.o AF8.o).bind (.pure _ _ _ _))))⟩
     ·simp only [Bool.false_eq_true,if_false,if_true] at ZW
      go_wp2_with fail
      refine (CA.o _).mono ?_
      rintro e w9 ⟨rfl,rfl⟩
      clear CA
      go_wp2_with fail
      have hz4:=Hy L2.o.lt
      refine (AG0.o (by trivial) _ P.o).mono ?_
      rintro e w4 ⟨u4,x4,l4,a4,c4,rfl,v4,pp,mm,af4⟩
      have AF4:=Hy af4
      clear af4
      replace L2:=Hy (ak L2.o mm (by have:=gB.o;omega) L2.o.lt)
      replace M:=Hy (M.o.nx mm)
      replace P:=Hy pp
      clear pp mm
      obtain ⟨ua4,uc4,aa4,ac4,rfl,U4⟩:=v4
      have V4:=Hy U4
      clear U4
      replace V4:=Hy (V4.o.less (Nat.succ_le_of_lt hz4.o))
      go_wp2_with (refine aB aH (.tmp 2) (.tmp 40) rfl rfl _ _ _ _ rfl rfl L2.o rfl rfl (aG _ _ _ _ _) ?_;intro w9 hb9 hs9)
      refine aF rfl _ _ _ _ _ rfl hb9 rfl ?_
      exact ⟨_,x4,l4,a4,c4,rfl,iR V4.o hs9,P.o.st hs9 gB.o,M.o.trans (.st hs9 (.inr (Nat.le_refl _))),(by rw [ZW.o];exact AF4.o)⟩
    ·simp only [if_true] at ZW
     cases ga
     ·go_wp2_with fail
      refine (CA.o _).mono ?_
      rintro e w9 ⟨rfl,rfl⟩
      clear CA
      go_wp2_with fail
      clear e0 e1 k0 k1 k2
      refine (jP B l true a 0 _ P.o).mono ?_
      rintro e w4 ⟨u4,x4,l4,a4,c4,rfl,v4,pp,mm,af4⟩
      have AF4:=Hy af4
      clear af4
      replace L2:=Hy (ak L2.o mm (by have:=gB.o;omega) L2.o.lt)
      replace M:=Hy (M.o.nx mm)
      replace P:=Hy pp
      clear pp mm
      obtain rfl:u4=.string x4:=v4
      obtain ⟨bk,off,n,cap,hb,_⟩:=P.o.now
      have e1:=hb.cell 1
      simp only [List.getElem?_toArray,List.getElem?_cons_zero,List.getElem?_cons_succ] at e1
      clear hb
      go_wp2_with (refine aB aH (.tmp 2) (.tmp 48) rfl rfl _ _ _ _ rfl rfl L2.o rfl rfl (by simp [Value.oneCell']) ?_;intro w9 hb9 hs9)
      refine aF rfl _ _ _ _ _ rfl hb9 rfl ?_
      exact ⟨_,lX x4,l4,a4,c4,rfl,⟨none,0,none,0,rfl,⟨.inl rfl,.inl rfl⟩⟩,P.o.st hs9 gB.o,M.o.trans (.st hs9 (.inr (Nat.le_refl _))),(by rw [ZW.o];exact AF4.o.bind (.pure _ _ _ _))⟩
     ·go_wp2_with fail
      refine (CA.o _).mono ?_
      rintro e w9 ⟨rfl,rfl⟩
      clear CA
      go_wp2_with fail
      clear e0 e1 k0 k1 k2
      refine (jP B l true a 0 _ P.o).mono ?_
      rintro e w4 ⟨u4,x4,l4,a4,c4,rfl,v4,pp,mm,af4⟩
      have AF4:=Hy af4
      clear af4
      replace L2:=Hy (ak L2.o mm (by have:=gB.o;omega) L2.o.lt)
      replace M:=Hy (M.o.nx mm)
      replace P:=Hy pp
      clear pp mm
      obtain rfl:u4=.string x4:=v4
      obtain ⟨bk,off,n,cap,hb,_⟩:=P.o.now
      have e1:=hb.cell 1
      simp only [List.getElem?_toArray,List.getElem?_cons_zero,List.getElem?_cons_succ] at e1
      clear hb
      go_wp2_with (refine aB aH (.tmp 2) (.tmp 48) rfl rfl _ _ _ _ rfl rfl L2.o rfl rfl (by simp [Value.oneCell']) ?_;intro w9 hb9 hs9)
      refine aF rfl _ _ _ _ _ rfl hb9 rfl ?_
      exact ⟨_,lX x4,l4,a4,c4,rfl,⟨none,0,none,0,rfl,⟨.inl rfl,.inl rfl⟩⟩,P.o.st hs9 gB.o,M.o.trans (.st hs9 (.inr (Nat.le_refl _))),(by rw [ZW.o];exact AF4.o.bind (.pure _ _ _ _))⟩
   ·have HF3:=Hy (bH hf3)
    refine (bI B l i a 0 1 ⟨#[110,117,108,108]⟩ (by rw [aJ];exact ⟨by decide,by decide⟩) (by decide) _ P.o hf3).mono ?_
    rintro e w3 ⟨rfl,pp,mm⟩
    clear hf3
    replace L2:=Hy (ak L2.o mm (by have:=gB.o;omega) L2.o.lt)
    replace M:=Hy (M.o.nx mm)
    replace P:=Hy pp
    clear pp mm
    go_wp2_with fail
    refine (bU B 5 ⟨#[40]⟩ (by rw [aJ];exact ⟨by decide,by decide⟩) (by decide) l.tail i a 0 _ P.o).mono ?_
    rintro e w4 ⟨u4,x4,l4,a4,c4,rfl,v4,pp,mm,af4⟩
    have AF4:=Hy af4
    clear af4
    replace L2:=Hy (ak L2.o mm (by have:=gB.o;omega) L2.o.lt)
    replace M:=Hy (M.o.nx mm)
    replace P:=Hy pp
    clear pp mm
    obtain rfl:u4=.tuple #[]:=v4
    have LT4:=Hy (dG (N:=l.length) AF4.o (bD _ _) (fun v q h=>Nat.le_of_lt (bE h)) (fun _=>aR HF3.o.2))
    go_wp2_with fail
    have hz5:=Hy L2.o.lt
    refine (HX0.o B i l4 a4 c4 _ P.o (HG.o l4 c4 rfl LT4.o)).mono ?_
    rintro e w5 ⟨u5,x5,l5,a5,c5,rfl,v5,pp,mm,af5⟩
    have AF5:=Hy af5
    clear af5
    replace L2:=Hy (ak L2.o mm (by have:=gB.o;omega) L2.o.lt)
    replace M:=Hy (M.o.nx mm)
    replace P:=Hy pp
    clear pp mm
    obtain ⟨ua5,uc5,aa5,ac5,rfl,U5⟩:=v5
    have V5:=Hy U5
    clear U5
    replace V5:=Hy (V5.o.less (Nat.succ_le_of_lt hz5.o))
    go_wp2_with ((refine aB aH (.tmp 3) (.tmp 18) rfl rfl _ _ _ _ rfl rfl (Blk.new _ _ _) rfl rfl (aG _ _ _ _ _) ?_;intro w5L L hs;have bb:=(aj (b0 w5) _).trans (hs.below (Nat.le_refl _));have gB3:=Hy P.o.lt;have hw3:=Hy (show w.heap.size<w5.heap.size from L2.o.lt);have L3:=Hy L;replace L2:=Hy (L2.o.below bb L2.o.lt);replace V5:=Hy (V5.o.kp (aK bb));replace P:=Hy (P.o.keeps bb);replace M:=Hy (M.o.nx (.of bb));clear bb hs L))
    refine (bU B 5 ⟨#[41]⟩ (by rw [aJ];exact ⟨by decide,by decide⟩) (by decide) l5 i a5 c5 _ P.o).mono ?_
    rintro e w6 ⟨u6,x6,l6,a6,c6,rfl,v6,pp,mm,af6⟩
    have AF6:=Hy af6
    clear af6
    replace L2:=Hy (ak L2.o mm (by have:=gB.o;omega) L2.o.lt)
    replace V5:=Hy (V5.o.kp (mm.kp (by have:=gB.o;omega)))
    replace L3:=Hy (ak L3.o mm (by have:=gB3.o;omega) L3.o.lt)
    replace M:=Hy (M.o.nx mm)
    replace P:=Hy pp
    clear pp mm
    obtain rfl:u6=.tuple #[]:=v6
    have h3:=L3.o
    simp only [exC] at h3
    replace L3:=Hy h3
    clear h3
    go_wp2_with (first | (refine aL aH Tryz.underlying43 rfl (.tmp 3) rfl rfl _ _ _ rfl L3.o rfl ?_) | (refine aB aH (.tmp 2) (.tmp 23) rfl rfl _ _ _ _ rfl rfl (L2.o.past _) rfl rfl (by simp [Value.oneCell']) ?_;intro w9 hb9 hs9))
    have hB:=Blk.new w6 43 (ex1 x5 ua5 uc5 aa5 ac5)
    have bb:=aj (b0 w6) (.cells (ex1 x5 ua5 uc5 aa5 ac5) 43)
    have A9:=((rR hB (V5.o.kp (aK bb)) L2.o.lt).kp (hs9.kp (Nat.lt_succ_self _))).less (Nat.le_succ w.heap.size)
    refine aF rfl _ _ _ _ _ rfl hb9 rfl ?_
    exact ⟨_,fu ⟨#[110,117,108,108]⟩ x5,l6,a6,c6,rfl,⟨none,0,some ⟨w6.heap.size,0,none⟩,1,rfl,⟨.inl rfl,A9⟩⟩,(P.o.keeps bb).st hs9 gB.o,(M.o.nx (.of bb)).trans (.st hs9 (.inr (Nat.le_refl _))),(by rw [Az HP.o HL.o HKk.o];exact .nay (fun h=>HF1.o ⟨by trivial,h.2⟩) (.nay (fun h=>HF2.o ⟨by trivial,h.2⟩) (.yes rfl HF3.o.2 ((vF AF4.o AF5.o AF6.o).bind (.pure _ _ _ _)))))⟩
  ·have HF2:=Hy (bH hf2)
   refine (bI B l i a 0 1 ⟨#[102,97,108,115,101]⟩ (by rw [aJ];exact ⟨by decide,by decide⟩) (by decide) _ P.o hf2).mono ?_
   rintro e w2 ⟨rfl,pp,mm⟩
   clear hf2
   replace L2:=Hy (ak L2.o mm (by have:=gB.o;omega) L2.o.lt)
   replace M:=Hy (M.o.nx mm)
   replace P:=Hy pp
   clear pp mm
   go_wp2_with (refine aB aH (.tmp 2) (.tmp 12) rfl rfl _ _ _ _ rfl rfl L2.o rfl rfl (by simp [Value.oneCell']) ?_;intro w9 hb9 hs9)
   refine aF rfl _ _ _ _ _ rfl hb9 rfl ?_
   exact ⟨_,aS 0,l.tail,a,0,rfl,⟨none,0,none,0,rfl,⟨.inl rfl,.inl rfl⟩⟩,P.o.st hs9 gB.o,M.o.trans (.st hs9 (.inr (Nat.le_refl _))),(by rw [Az HP.o HL.o HKk.o];exact .nay (fun h=>HF1.o ⟨by trivial,h.2⟩) (.yes rfl HF2.o.2 (.pure _ _ _ _)))⟩
 ·have HF1:=Hy (bH hf1)
  refine (bI B l i a 0 1 ⟨#[116,114,117,101]⟩ (by rw [aJ];exact ⟨by decide,by decide⟩) (by decide) _ P.o hf1).mono ?_
  rintro e w1 ⟨rfl,pp,mm⟩
  clear hf1
  replace L2:=Hy (ak L2.o mm (by have:=gB.o;omega) L2.o.lt)
  replace M:=Hy (M.o.nx mm)
  replace P:=Hy pp
  clear pp mm
  go_wp2_with fail
  refine (iU _).mono ?_
  rintro e w2 ⟨rfl,bb⟩
  replace L2:=Hy (L2.o.below bb L2.o.lt)
  replace P:=Hy (P.o.keeps bb)
  replace M:=Hy (M.o.nx (.of bb))
  clear bb
  go_wp2_with (refine aB aH (.tmp 2) (.tmp 8) rfl rfl _ _ _ _ rfl rfl L2.o rfl rfl (aG _ _ _ _ _) ?_;intro w9 hb9 hs9)
  refine aF rfl _ _ _ _ _ rfl hb9 rfl ?_
  exact ⟨_,aS 1,l.tail,a,0,rfl,⟨none,0,none,0,rfl,⟨.inl rfl,.inl rfl⟩⟩,P.o.st hs9 gB.o,M.o.trans (.st hs9 (.inr (Nat.le_refl _))),(by rw [Az HP.o HL.o HKk.o];exact .yes rfl HF1.o.2 (.pure _ _ _ _))⟩
end Go.Proofs.YtbpijgddfaefkaaGreatDoor.rr
