/-
  What is parsed is short throughout; The reference's SameModule: of equal ones; Tokens that differ in their offsets alone are read alike; More steps change no answer; what is read depends on the tokens that are read and on the one behind them; A source between parentheses is read as the source; What is parsed as a module is short throughout; Bytes of a constant text in a block of the call's own.
-/
import Derived.Lib.SlBytesConst
import Derived.Test.YtbpijgddfaefkaaGreatDoorK20
set_option maxRecDepth 100000
set_option maxHeartbeats 16000000
namespace Go.Proofs.YtbpijgddfaefkaaGreatDoor
section
open Go.RowKit dec
def Ex.sm (x:Ex):Prop:=x.h.un.length≤1048576∧x.ar.len≤1048576∧x.ar.sm
theorem sm1 {h:Hd} {x:Ex} (hu:h.un=[]) (hx:x.sm):Ex.sm ⟨h,.cons x.h x.ar .nil⟩:=by
 refine ⟨by rw [hu];decide,by simp [Fo.len],hx.1,hx.2.1,hx.2.2,trivial⟩
theorem sm2 {h:Hd} {x y:Ex} (hu:h.un=[]) (hx:x.sm) (hy:y.sm):Ex.sm ⟨h,.cons x.h x.ar (.cons y.h y.ar .nil)⟩:=by
 refine ⟨by rw [hu];decide,by simp [Fo.len],hx.1,hx.2.1,hx.2.2,hy.1,hy.2.1,hy.2.2,trivial⟩
theorem sm3 {h:Hd} {x y z:Ex} (hu:h.un=[]) (hx:x.sm) (hy:y.sm) (hz:z.sm):Ex.sm ⟨h,.cons x.h x.ar (.cons y.h y.ar (.cons z.h z.ar .nil))⟩:=by
 refine ⟨by rw [hu];decide,by simp [Fo.len],hx.1,hx.2.1,hx.2.2,hy.1,hy.2.1,hy.2.2,hz.1,hz.2.1,hz.2.2,trivial⟩
theorem sm0 {h:Hd} (hu:h.un.length≤1048576):Ex.sm ⟨h,.nil⟩:=⟨hu,by simp [Fo.len],trivial⟩
theorem MI {op:ByteArray} {x y:Ex} (hx:x.sm) (hy:y.sm):(aT op x y).sm:=by
 unfold aT;split
 ·exact sm2 rfl hx hy
 exact sm2 rfl hx hy
theorem Le (u:List un.Fa):(un.nL u).length≤4:=by
 unfold un.nL;split
 ·rename_i h;exact (un.Lf h).2.2
 exact Nat.zero_le _
theorem rF {l r:List Tk} {u:List un.Fa} (h:uni l=.ok u r):u.length≤1048576:=by
 unfold uni at h;split at h
 ·obtain ⟨v,q,h1,h2⟩:=bind_ok h;obtain ⟨_,q',h3,h4⟩:=bind_ok h2;split at h4
  ·cases h4;have:=Le v;omega
  cases h4
 cases h;exact Nat.zero_le _
theorem DF {l r:List Tk} {t:Ty} (h:typ l=.ok t r):t.un.length≤1048576:=by
 unfold typ at h;split at h
 ·cases h;exact Nat.zero_le _
 split at h
 ·cases h;exact Nat.zero_le _
 split at h
 ·obtain ⟨u,q,h1,h2⟩:=bind_ok h;cases h2;exact Nat.zero_le _
 split at h
 ·obtain ⟨u,q,h1,h2⟩:=bind_ok h;cases h2;exact rF h1
 split at h
 ·obtain ⟨u,q,h1,h2⟩:=bind_ok h;cases h2;exact rF h1
 cases h
def Md.sm:Md→Prop
 | .tl _ _ y=>y.sm
 | _=>True
theorem tC (n:Int):(aS n).sm:=sm0 (by simp [h0])
theorem Jb:∀ (f:Nat) (i:Bool) (m:Md) (l:List Tk) (x:Ex) (r:List Tk),m.sm→pz f i m l=.ok x r→x.sm:=by
 intro f
 induction f with
 | zero=>intro i m l x r _ h;cases h
 | succ f ih =>
   intro i m l x r hm h
   cases m with
   | ex =>
     simp only [pz] at h
     split at h
     · obtain ⟨a,q1,h1,h⟩:=bind_ok h
       obtain ⟨_,q2,h2,h⟩:=bind_ok h
       obtain ⟨b,q3,h3,h⟩:=bind_ok h
       obtain ⟨_,q4,h4,h⟩:=bind_ok h
       obtain ⟨c,q5,h5,h⟩:=bind_ok h
       cases h
       exact sm3 rfl (ih _ _ _ _ _ (by exact trivial) h1) (ih _ _ _ _ _ (by exact trivial) h3) (ih _ _ _ _ _ (by exact trivial) h5)
     · exact ih _ _ _ _ _ (by exact trivial) h
   | op least =>
     simp only [pz] at h
     split at h
     · obtain ⟨a,q1,h1,h⟩:=bind_ok h
       exact ih _ (.tl _ _ _) _ _ _ (sm1 rfl (ih _ _ _ _ _ (by exact trivial) h1)) h
     · obtain ⟨a,q1,h1,h⟩:=bind_ok h
       exact ih _ (.tl _ _ _) _ _ _ (ih _ _ _ _ _ (by exact trivial) h1) h
   | tl least n y =>
     simp only [pz] at h
     split at h
     · cases h
       exact hm
     · split at h
       · exact ih _ (.tl _ (n - 1) y) _ _ _ (by exact hm) h
       · obtain ⟨a,q1,h1,h⟩:=bind_ok h
         exact ih _ (.tl _ _ _) _ _ _ (MI hm (ih _ _ _ _ _ (by exact trivial) h1)) h
   | ng =>
     simp only [pz] at h
     split at h
     · obtain ⟨a,q1,h1,h⟩:=bind_ok h
       cases h
       exact sm1 rfl (ih _ _ _ _ _ (by exact trivial) h1)
     · exact ih _ _ _ _ _ (by exact trivial) h
   | pa =>
     simp only [pz] at h
     obtain ⟨_,q1,h1,h⟩:=bind_ok h
     obtain ⟨a,q2,h2,h⟩:=bind_ok h
     obtain ⟨_,q3,h3,h⟩:=bind_ok h
     cases h
     exact ih _ _ _ _ _ (by exact trivial) h2
   | rf =>
     simp only [pz] at h
     obtain ⟨n,q1,h1,h⟩:=bind_ok h
     split at h
     · obtain ⟨a,q2,h2,h⟩:=bind_ok h
       cases h
       exact sm1 rfl (ih _ _ _ _ _ (by exact trivial) h2)
     · cases h
       exact sm0 (by simp [h0])
   | ag =>
     simp only [pz] at h
     obtain ⟨op,q1,h1,h⟩:=bind_ok h
     obtain ⟨_,q2,h2,h⟩:=bind_ok h
     obtain ⟨t,q3,h3,h⟩:=bind_ok h
     obtain ⟨_,q4,h4,h⟩:=bind_ok h
     obtain ⟨a,q5,h5,h⟩:=bind_ok h
     have g5:a.sm:=by
       split at h5
       · cases h5;exact tC 1
       · obtain ⟨_,p1,k1,h5⟩:=bind_ok h5
         obtain ⟨_,p2,k2,h5⟩:=bind_ok h5
         cases h5
         exact ih _ _ _ _ _ (by exact trivial) k1
     obtain ⟨n,q6,h6,h⟩:=bind_ok h
     obtain ⟨w,q7,h7,h⟩:=bind_ok h
     obtain ⟨b,q8,h8,h⟩:=bind_ok h
     have g8:b.sm:=by
       split at h8
       · exact ih _ _ _ _ _ (by exact trivial) h8
       · cases h8;exact tC 1
     obtain ⟨_,q9,h9,h⟩:=bind_ok h
     cases h
     exact sm2 rfl g5 g8
   | pr =>
     simp only [pz] at h
     split at h
     · obtain ⟨n,q1,h1,h⟩:=bind_ok h
       obtain ⟨u,q2,h2,h⟩:=bind_ok h
       cases h
       exact sm0 (rF h2)
     split at h
     · obtain ⟨n,q1,h1,h⟩:=bind_ok h
       obtain ⟨u,q2,h2,h⟩:=bind_ok h
       cases h
       exact sm0 (rF h2)
     split at h
     · obtain ⟨n,q1,h1,h⟩:=bind_ok h
       cases h
       exact sm0 (by simp [h0])
     split at h
     · cases h;exact tC 1
     split at h
     · cases h;exact tC 0
     split at h
     · obtain ⟨n,q,h1,h2⟩:=bind_ok h
       obtain ⟨s,q',h3,h4⟩:=bind_ok h2
       split at h4
       · cases h4
         exact sm0 (by simp [h0])
       · cases h4
     split at h
     · obtain ⟨n,q1,h1,h⟩:=bind_ok h
       cases h
       exact sm1 rfl (ih _ _ _ _ _ (by exact trivial) h1)
     split at h
     · exact ih _ _ _ _ _ (by exact trivial) h
     split at h
     · obtain ⟨n,q1,h1,h⟩:=bind_ok h
       cases h
       exact sm0 (by simp [h0])
     split at h
     · exact ih _ _ _ _ _ (by exact trivial) h
     · exact ih _ _ _ _ _ (by exact trivial) h
end
namespace pa
open Go.RowKit dec
theorem oL {α:Type} {T:TypeId} {k C:Nat} {Q:World→List Value→α→Prop} {w:World} {a:Option Addr} {l:List α} (h:RowAt T k C Q w a l) (hk:∀ c x,Q w c x→c.length=k) (j:Nat) (hj:j<l.length):∃ b off c,a=some ⟨b,off,none⟩∧w.rangeAt b (off+j * k) c∧Q w c l[j]:=by
 rcases h with h | ⟨b,off,cs,e,_,_,hl,hc,hq⟩
 ·omega
 have q:=hq j (by omega) hj;refine ⟨b,off,_,e,fun i v hv=>?_,q⟩;have hi:i<k:=by
  have:=(List.getElem?_eq_some_iff.1 hv).1;rw [hk _ _ q] at this;exact this
 obtain ⟨u,h1,h2⟩:=hc j i (by omega) hi;rw [hv] at h1;cases h1;rw [Nat.add_assoc];exact h2
def Mo.sm (m:Mo):Prop:=m.ts.length≤1048576∧m.fs.length≤1048576∧(∀ t ∈ m.ts,t.fs.length≤1048576∧∀ f ∈ t.fs,f.ty.un.length≤1048576)∧∀ f ∈ m.fs,f.ty.un.length≤1048576∧f.bo.sm
theorem Er (C D:Nat) (m:Mo) (ta tb fa fb:Option Addr) (tc td fc fd:Nat) (w:World) (hA:RowAt 85 4 C (TbQ C) w ta m.ts) (hB:RowAt 85 4 D (TbQ D) w tb m.ts) (hA':RowAt 88 18 C (FeQ C) w fa m.fs) (hB':RowAt 88 18 D (FeQ D) w fb m.fs) (hs:m.sm) :
    Calls Tryz.prog 9 #[.agg #[.slice ta m.ts.length tc,.slice fa m.fs.length fc],.agg #[.slice tb m.ts.length td,.slice fb m.fs.length fd]] w (Say (.bool true) w):=by
 have X1:=Hy hA;have X2:=Hy hB;have X3:=Hy hA';have X4:=Hy hB';have BB:=Hy (aj (aj (b0 w) (.cells #[.slice ta m.ts.length tc,.slice fa m.fs.length fc] 27)) (.cells #[.slice tb m.ts.length td,.slice fb m.fs.length fd] 27));have G1:=Hy ((Blk.new w 27 #[.slice ta m.ts.length tc,.slice fa m.fs.length fc]).past (.cells #[.slice tb m.ts.length td,.slice fb m.fs.length fd] 27));have G2:=Hy (by have:=Blk.new (w.alloc (.cells #[.slice ta m.ts.length tc,.slice fa m.fs.length fc] 27)) 27 #[.slice tb m.ts.length td,.slice fb m.fs.length fd];simpa using this:Blk ((w.alloc (.cells #[.slice ta m.ts.length tc,.slice fa m.fs.length fc] 27)).alloc (.cells #[.slice tb m.ts.length td,.slice fb m.fs.length fd] 27)) (w.heap.size+1) 27 #[.slice tb m.ts.length td,.slice fb m.fs.length fd]);have HS:=Hy hs;clear hA hB hA' hB' hs
 go_enter Tryz.func9,Tryz.ntmps9
 go_wp2_with fail
 go_loopw [5] (fun i wr => ∃ j:Nat,i=.int .i64 (j:Nat)∧Hid (j≤m.ts.length)∧Hid (Blk wr w.heap.size 27 #[.slice ta m.ts.length tc,.slice fa m.fs.length fc])∧Hid (Blk wr (w.heap.size+1) 27 #[.slice tb m.ts.length td,.slice fb m.fs.length fd])∧Hid (Below w.heap.size w wr)) (fun i _=>m.ts.length - (intOf i).toNat)
 case atStart=>exact ⟨0,rfl,Hy zl,G1,G2,BB⟩
 case round =>
  clear G1 G2 BB;obtain ⟨j,rfl,hj,G1,G2,hb⟩:=hrel;have g1:=G1.o.cell 0;have g2:=G2.o.cell 0;simp only [sz2,sz3] at g1 g2;by_cases hlt:j<m.ts.length
  ·have q1:decide ((j:Int)<(m.ts.length:Int))=true:=dT (by omega);have f4:=Hy (aV (j:=j) (by have:=HS.o.1;omega));have hsm:=Hy (HS.o.2.2.1 m.ts[j] (List.getElem_mem hlt));have i1:(j:Int)<(m.ts.length:Int):=by omega
   have A3:=X1.o.kpT (ok:=fun _=>True) trivial (aG hb.o) fun c x hq=>TbQ.kpT trivial trivial hq (aG hb.o);have A4:=X2.o.kpT (ok:=fun _=>True) trivial (aG hb.o) fun c x hq=>TbQ.kpT trivial trivial hq (aG hb.o);obtain ⟨bk,off,c1,rfl,R1,va,vc,rfl,U1⟩:=oL A3 (fun c x hq=>by obtain ⟨_,_,rfl,_⟩:=hq;rfl) j hlt;obtain ⟨bk2,off2,c2,rfl,R2,vb,vd,rfl,U2⟩:=oL A4 (fun c x hq=>by obtain ⟨_,_,rfl,_⟩:=hq;rfl) j hlt;replace U1:=Hy U1;replace U2:=Hy U2;clear X1 X2 X3 X4 A3 A4 hj;generalize m.ts[j]=t at *;have SS:=Hy (show (Blk wr.drew w.heap.size 27 #[.slice (some ⟨bk,off,none⟩) m.ts.length tc,.slice fa m.fs.length fc]∧Blk wr.drew (w.heap.size+1) 27 #[.slice (some ⟨bk2,off2,none⟩) m.ts.length td,.slice fb m.fs.length fd])∧wr.drew.rangeAt bk (off+j * 4) [.string t.nm,.string t.en,.slice va t.fs.length vc,.int .i64 t.kp]∧wr.drew.rangeAt bk2 (off2+j * 4) [.string t.nm,.string t.en,.slice vb t.fs.length vd,.int .i64 t.kp] from ⟨⟨G1.o,G2.o⟩,R1,R2⟩);clear R1 R2;go_wp2_with fail;clear g1 g2;refine wp_region_held_drew (S:=fun w' => (Blk w' w.heap.size 27 #[.slice (some ⟨bk,off,none⟩) m.ts.length tc,.slice fa m.fs.length fc]∧Blk w' (w.heap.size+1) 27 #[.slice (some ⟨bk2,off2,none⟩) m.ts.length td,.slice fb m.fs.length fd])∧w'.rangeAt bk (off+j * 4) [.string t.nm,.string t.en,.slice va t.fs.length vc,.int .i64 t.kp]∧w'.rangeAt bk2 (off2+j * 4) [.string t.nm,.string t.en,.slice vb t.fs.length vd,.int .i64 t.kp]) (by kernel_rfl) SS.o (fun hH=>?_);refine aB 0 32 ?_ rfl (by kernel_rfl) rfl (fun _ _ _ h=>h) rfl hH (fun w' hS=>?_) ?_;rotate_left
   ·go_simp;try with_reducible rfl
   simp only [sz0,sz1];refine aB 1 33 ?_ rfl (by kernel_rfl) rfl (fun _ _ _ h=>h) rfl hH (fun w' hS=>?_) ?_;rotate_left
   ·have e1:=hS.1.1.cell 0;simp only [sz2,sz3] at e1;go_simp;try with_reducible rfl
   simp only [sz0,sz1];refine aB 2 34 ?_ rfl (by kernel_rfl) rfl (fun _ _ _ h=>h) rfl hH (fun w' hS=>?_) ?_;rotate_left
   ·go_simp;try with_reducible rfl
   simp only [sz0,sz1];refine aB 3 35 ?_ rfl (by kernel_rfl) rfl (fun _ _ _ h=>h) rfl hH (fun w' hS=>?_) ?_;rotate_left
   ·go_simp;try with_reducible rfl
   simp only [sz0,sz1];refine aB 4 36 (.agg #[.string t.nm,.string t.en,.slice va t.fs.length vc,.int .i64 t.kp]) rfl (by kernel_rfl) rfl (fun _ _ _ h=>h) rfl hH (fun w' hS=>gH dx Tryz.underlying85 rfl (.tmp 35) rfl _ _ #[.string t.nm,.string t.en,.slice va t.fs.length vc,.int .i64 t.kp] rfl hS.2.1 rfl) ?_;simp only [sz0,sz1];refine aB 5 37 ?_ rfl (by kernel_rfl) rfl (fun _ _ _ h=>h) rfl hH (fun w' hS=>?_) ?_;rotate_left
   ·go_simp;try with_reducible rfl
   simp only [sz0,sz1];refine aB 6 38 ?_ rfl (by kernel_rfl) rfl (fun _ _ _ h=>h) rfl hH (fun w' hS=>?_) ?_;rotate_left
   ·have e1:=hS.1.2.cell 0;simp only [sz2,sz3] at e1;go_simp;try with_reducible rfl
   simp only [sz0,sz1];refine aB 7 39 ?_ rfl (by kernel_rfl) rfl (fun _ _ _ h=>h) rfl hH (fun w' hS=>?_) ?_;rotate_left
   ·go_simp;try with_reducible rfl
   simp only [sz0,sz1];refine aB 8 40 ?_ rfl (by kernel_rfl) rfl (fun _ _ _ h=>h) rfl hH (fun w' hS=>?_) ?_;rotate_left
   ·go_simp;try with_reducible rfl
   simp only [sz0,sz1];refine aB 9 41 (.agg #[.string t.nm,.string t.en,.slice vb t.fs.length vd,.int .i64 t.kp]) rfl (by kernel_rfl) rfl (fun _ _ _ h=>h) rfl hH (fun w' hS=>gH dx Tryz.underlying85 rfl (.tmp 40) rfl _ _ #[.string t.nm,.string t.en,.slice vb t.fs.length vd,.int .i64 t.kp] rfl hS.2.2 rfl) ?_;simp only [sz0,sz1];refine ak (i:=10) rfl (by kernel_rfl) rfl (fun K hK=>?_);go_simp;refine (Ck C D t va vb vc vd _ (U1.o.kpT trivial trivial (aG (C:=C) (b0 wr).drew)) (U2.o.kpT trivial trivial (aG (C:=D) (b0 wr).drew)) hsm.o.1 hsm.o.2).mono ?_;rintro e w5 ⟨rfl,b5⟩;refine hK.o _ _ ⟨⟨hH.1.1.below b5 hH.1.1.lt,hH.1.2.below b5 hH.1.2.lt⟩,fI hH.2.1 b5,fI hH.2.2 b5⟩ (fun hH=>?_);clear hK K;have G3:=Hy hH.1.1;have G4:=Hy hH.1.2;have B5:=Hy (hb.o.drew.trans (b5.mono hb.o.size));clear b5 SS;refine aB 11 43 ?_ rfl (by kernel_rfl) rfl (fun _ _ _ h=>h) rfl hH (fun w' hS=>?_) ?_;rotate_left
   ·go_simp;try with_reducible rfl
   simp only [sz0,sz1];clear hH;refine wpAnyH_done (by kernel_rfl) ?_ _;go_wp2_with fail;refine ⟨⟨j+1,congrArg (Value.int .i64) f4.o,Hy hlt,G3,G4,B5⟩,aU hlt f4.o⟩
  have q1:decide ((j:Int)<(m.ts.length:Int))=false:=dF (by omega);clear X1 X2 hj;go_wp2_with fail
  go_loopw [6] (fun i wr => ∃ j:Nat,i=.int .i64 (j:Nat)∧Hid (j≤m.fs.length)∧Hid (Blk wr w.heap.size 27 #[.slice ta m.ts.length tc,.slice fa m.fs.length fc])∧Hid (Blk wr (w.heap.size+1) 27 #[.slice tb m.ts.length td,.slice fb m.fs.length fd])∧Hid (Below w.heap.size w wr)) (fun i _=>m.fs.length - (intOf i).toNat)
  case atStart=>exact ⟨0,rfl,Hy zl,G1,G2,hb⟩
  case round =>
   clear g1 g2 G1 G2 hb q1 hlt;obtain ⟨j,rfl,hj,G1,G2,hb⟩:=hrel;have g1:=G1.o.cell 1;have g2:=G2.o.cell 1;simp only [sz2,sz3,sz4] at g1 g2;by_cases hlt:j<m.fs.length
   ·have q1:decide ((j:Int)<(m.fs.length:Int))=true:=dT (by omega);have f4:=Hy (aV (j:=j) (by have:=HS.o.2.1;omega));have hsm:=Hy (HS.o.2.2.2 m.fs[j] (List.getElem_mem hlt));have i1:(j:Int)<(m.fs.length:Int):=by omega
    have A3:=X3.o.kpT (ok:=fun _=>True) trivial (aG hb.o) fun c x hq=>FeQ.kpT trivial trivial hq (aG hb.o);have A4:=X4.o.kpT (ok:=fun _=>True) trivial (aG hb.o) fun c x hq=>FeQ.kpT trivial trivial hq (aG hb.o);obtain ⟨bk,off,c1,rfl,R1,ua,uc,ub,ud,aa,ac,rfl,U1,E1⟩:=oL A3 (fun c x hq=>by obtain ⟨_,_,_,_,_,_,rfl,_⟩:=hq;rfl) j hlt;obtain ⟨bk2,off2,c2,rfl,R2,ua2,uc2,ub2,ud2,aa2,ac2,rfl,U2,E2⟩:=oL A4 (fun c x hq=>by obtain ⟨_,_,_,_,_,_,rfl,_⟩:=hq;rfl) j hlt;replace U1:=Hy U1;replace U2:=Hy U2;replace E1:=Hy E1;replace E2:=Hy E2;replace R1:=Hy R1;replace R2:=Hy R2;clear X3 X4 A3 A4 hj;generalize m.fs[j]=f at *;have hg:=Hy (show w.heap.size+2≤wr.heap.size from G2.o.lt);go_wp2_with (first | (refine wpList_load_mid rfl 88 (.tmp 54) rfl bk (off+j * 18) rfl (feC f ua uc ub ud aa ac) _ R1.o Tryz.underlying88 rfl gQ ?_) | (refine aA gQ (.tmp 7) (.tmp 55) rfl rfl _ _ _ _ rfl rfl (Blk.new _ _ _) rfl rfl (by simp [feC,Value.oneCell']) ?_;intro w5 L7 hs5;have bb5:=(aj (b0 wr) _).trans (hs5.below lr);replace R2:=Hy (fI R2.o bb5);have g5:=(G2.o.below bb5 G2.o.lt).cell 1;simp only [sz2,sz3,sz4] at g5) | (refine wpList_load_mid rfl 88 (.tmp 59) rfl bk2 (off2+j * 18) rfl (feC f ua2 uc2 ub2 ud2 aa2 ac2) _ R2.o Tryz.underlying88 rfl gQ ?_) | (refine aA gQ (.tmp 8) (.tmp 60) rfl rfl _ _ _ _ rfl rfl (Blk.new _ _ _) rfl rfl (by simp [feC,Value.oneCell']) ?_;intro w6 L8 hs6;have bb6:=(aj (b0 w5) _).trans (hs6.below lr);have L9:=L7.below bb6 L7.lt;have p0:=L9.cell 0;have p1:=L9.cell 1;have p2:=L9.cell 2;have p3:=L9.cell 3;have p4:=L9.cell 4;have p17:=L9.cell 17;simp only [feC,sz2,sz3,sz4] at p0 p1 p2 p3 p4 p17;have r0:=L8.cell 0;have r1:=L8.cell 1;have r2:=L8.cell 2;have r3:=L8.cell 3;have r4:=L8.cell 4;have r17:=L8.cell 17;simp only [feC,sz2,sz3,sz4] at r0 r1 r2 r3 r4 r17));clear p0 r0 p1 r1 p2 r2 p3 r3 p4 r4 p17 r17;have b6:=aD bb5 bb6;refine (oJ C D f.ty ua ua2 uc uc2 w6 (U1.o.kp (aG b6)) (U2.o.kp (aG b6)) hsm.o.1).mono ?_;rintro e w7 ⟨rfl,b7⟩;have p5:=(L9.below b7 L9.lt).cell 5;have p6:=(L9.below b7 L9.lt).cell 6;have p7:=(L9.below b7 L9.lt).cell 7;have p8:=(L9.below b7 L9.lt).cell 8;have p9:=(L9.below b7 L9.lt).cell 9;have p10:=(L9.below b7 L9.lt).cell 10;have p11:=(L9.below b7 L9.lt).cell 11;have p12:=(L9.below b7 L9.lt).cell 12;have p13:=(L9.below b7 L9.lt).cell 13;have p14:=(L9.below b7 L9.lt).cell 14;have p15:=(L9.below b7 L9.lt).cell 15;have p16:=(L9.below b7 L9.lt).cell 16;have r5:=(L8.below b7 L8.lt).cell 5;have r6:=(L8.below b7 L8.lt).cell 6;have r7:=(L8.below b7 L8.lt).cell 7;have r8:=(L8.below b7 L8.lt).cell 8;have r9:=(L8.below b7 L8.lt).cell 9;have r10:=(L8.below b7 L8.lt).cell 10;have r11:=(L8.below b7 L8.lt).cell 11;have r12:=(L8.below b7 L8.lt).cell 12;have r13:=(L8.below b7 L8.lt).cell 13;have r14:=(L8.below b7 L8.lt).cell 14;have r15:=(L8.below b7 L8.lt).cell 15;have r16:=(L8.below b7 L8.lt).cell 16;simp only [feC,sz2,sz3,sz4] at p5 r5 p6 r6 p7 r7 p8 r8 p9 r9 p10 r10 p11 r11 p12 r12 p13 r13 p14 r14 p15 r15 p16 r16;have B7:=Hy (aD b6 b7);clear L7 L8 L9 b6 b7 bb5 bb6 hs5 hs6 g5 g1 g2;go_wp2_with fail;clear p5 r5 p6 r6 p7 r7 p8 r8 p9 r9 p10 r10 p11 r11 p12 r12 p13 r13 p14 r14 p15 r15 p16 r16;refine (lD C D f.bo ub aa ub2 aa2 ud ac ud2 ac2 w7 hsm.o.2.1 hsm.o.2.2.1 hsm.o.2.2.2 (E1.o.kp (aG B7.o)) (E2.o.kp (aG B7.o))).mono ?_;rintro e w8 ⟨rfl,b8⟩;have B8:=Hy (aD B7.o b8);clear b8;go_wp2_with fail;refine ⟨⟨j+1,congrArg (Value.int .i64) f4.o,Hy hlt,Hy (G1.o.below B8.o G1.o.lt),Hy (G2.o.below B8.o G2.o.lt),Hy (hb.o.trans (B8.o.mono hb.o.size))⟩,aU hlt f4.o⟩
   have q1:decide ((j:Int)<(m.fs.length:Int))=false:=dF (by omega);clear X3 X4 hj;go_wp2_with fail;go_ret;exact ⟨rfl,hb.o⟩
inductive SimR (R:Int→Int→Prop):List Tk→List Tk→Prop where
 | last {x y:Tk} (hk:x.k=6) (hy:y.k=x.k) (ht:y.t=x.t) (ha:R x.a y.a):SimR R [x] [y]
 | cons {x y:Tk} {l r:List Tk} (hk:y.k=x.k) (ht:y.t=x.t) (ha:R x.a y.a) (h:SimR R l r):SimR R (x :: l) (y :: r)
theorem SimR.hk {R:Int→Int→Prop} {l r:List Tk} (h:SimR R l r):(hd r).k=(hd l).k:=by
 cases h with
 | last hk hy ht ha=>exact hy
 | cons hk ht ha h=>exact hk
theorem SimR.ht {R:Int→Int→Prop} {l r:List Tk} (h:SimR R l r):(hd r).t=(hd l).t:=by
 cases h with
 | last hk hy ht ha=>exact ht
 | cons hk ht ha h=>exact ht
theorem SimR.ha {R:Int→Int→Prop} {l r:List Tk} (h:SimR R l r):R (hd l).a (hd r).a:=by
 cases h with
 | last hk hy ht ha=>exact ha
 | cons hk ht ha h=>exact ha
theorem SimR.len {R:Int→Int→Prop} {l r:List Tk} (h:SimR R l r):r.length=l.length:=by
 induction h with
 | last hk hy ht ha=>rfl
 | cons hk ht ha h ih=>simp only [List.length_cons,ih]
theorem SimR.tail {R:Int→Int→Prop} {l r:List Tk} (h:SimR R l r) (h6:(hd l).k≠6):SimR R l.tail r.tail:=by
 cases h with
 | last hk hy ht ha=>exact absurd hk h6
 | cons hk ht ha h=>exact h
theorem SimR.sT {R:Int→Int→Prop} {l r:List Tk} (h:SimR R l r) (s:ByteArray):isT s r=isT s l:=by
 unfold Go.Proofs.YtbpijgddfaefkaaGreatDoor.isT;rw [h.hk,h.ht]
theorem SimR.of {R:Int→Int→Prop} {l r:List Tk} (h:SimR R l r) {s:ByteArray} (hs:isT s l=true):SimR R l.tail r.tail:=h.tail (sJ hs)
inductive RSim {α:Type} (R:Int→Int→Prop):Rs α→Rs α→Prop where
 | out:RSim R .out .out
 | ok (v:α) {l r:List Tk} (h:SimR R l r):RSim R (.ok v l) (.ok v r)
 | no {a b:Int} (c:Int) {l r:List Tk} (ha:R a b) (h:SimR R l r):RSim R (.no a c l) (.no b c r)
theorem RSim.bind {α β:Type} {R:Int→Int→Prop} {x y:Rs α} {g k:α→List Tk→Rs β} (h:RSim R x y) (hg:∀ v l r,SimR R l r→RSim R (g v l) (k v r)):RSim R (x.bind g) (y.bind k):=by
 cases h with
 | out=>exact .out
 | ok v h=>exact hg v _ _ h
 | no c ha h=>exact .no c ha h
section
variable {R:Int→Int→Prop}
theorem j5 {α:Type} {l r:List Tk} (h:SimR R l r):RSim R (wrg l:Rs α) (wrg r):=.no 90 h.ha h
theorem cZ {s:ByteArray} {l r:List Tk} (h:SimR R l r):RSim R (need s l) (need s r):=by
 unfold need;rw [h.sT];split
 ·rename_i t;exact .ok () (h.of t)
 exact j5 h
theorem j6 {k:Int} (hk:k≠6) {l r:List Tk} (h:SimR R l r):RSim R (tak k l) (tak k r):=by
 unfold tak;rw [h.hk,h.ht];split
 ·rename_i t;exact .ok _ (h.tail (by rw [t];exact hk))
 exact j5 h
theorem jH {l r:List Tk} (h:SimR R l r):RSim R (nam l) (nam r):=by
 unfold nam;rw [h.ht];split
 ·exact j6 (by decide) h
 exact j5 h
theorem mI {s:ByteArray} {l r:List Tk} (h:SimR R l r):RSim R (nma s l) (nma s r):=(cZ h).bind fun _ _ _ h=>jH h
theorem kC {l r:List Tk} (h:SimR R l r):RSim R (int l) (int r):=(j6 (by decide) h).bind fun _ _ _ h=>.ok _ h
theorem IB {l r:List Tk} (h:SimR R l r):RSim R (iX l) (iX r):=(j6 (by decide) h).bind fun _ _ _ h=>.ok _ h
theorem Ml {l r:List Tk} (h:SimR R l r):RSim R (fac l) (fac r):=by
 refine (jH h).bind fun n l r h=>?_;rw [h.sT];split
 ·rename_i t;have h1:=h.of t;rw [h1.sT];split
  ·rename_i t1;exact (kC (h1.of t1)).bind fun _ _ _ h=>.ok _ h
  exact (kC h1).bind fun _ _ _ h=>.ok _ h
 exact .ok _ h
theorem yx {α:Type} {one:List Tk→Rs α} {s:ByteArray} (h1:∀ {l r:List Tk},SimR R l r→RSim R (one l) (one r)):∀ (f:Nat) (x:List α) {l r:List Tk},SimR R l r→RSim R (more one s f x l) (more one s f x r)
 | 0,_,_,_,_=>.out
 | f+1,x,l,r,h=>by
  unfold more
  rw [h.sT]
  split
  ·rename_i t
   exact (h1 (h.of t)).bind fun y l r h=>yx h1 f _ h
  ·exact .ok _ h
theorem AQ {α:Type} {one:List Tk→Rs α} {s:ByteArray} (h1:∀ {l r:List Tk},SimR R l r→RSim R (one l) (one r)) {l r:List Tk} (h:SimR R l r):RSim R (lst one s l) (lst one s r) :=
 (h1 h).bind fun y l r h=>by rw [h.len];exact yx h1 _ _ h
theorem pI {l r:List Tk} (h:SimR R l r):RSim R (uni l) (uni r):=by
 unfold uni;rw [h.sT];split
 ·rename_i t;refine (AQ Ml (h.of t)).bind fun u l' r' h' => (cZ h').bind fun _ l' r' h' => ?_;split
  ·exact .ok _ h'
  exact .no _ h.ha h'
 exact .ok _ h
theorem zN {l r:List Tk} (h:SimR R l r):RSim R (typ l) (typ r):=by
 unfold typ;simp only [h.sT];split
 ·rename_i t;exact .ok _ (h.of t)
 split
 ·rename_i t;exact .ok _ (h.of t)
 split
 ·rename_i t;exact (jH (h.of t)).bind fun _ _ _ h=>.ok _ h
 split
 ·rename_i t;exact (pI (h.of t)).bind fun _ _ _ h=>.ok _ h
 split
 ·rename_i t;exact (pI (h.of t)).bind fun _ _ _ h=>.ok _ h
 exact j5 h
theorem Ju {l r:List Tk} (h:SimR R l r):RSim R (win l) (win r):=by
 unfold win;simp only [h.sT];split
 ·rename_i t;exact .ok _ (h.of t)
 iterate 3
   split
   · rename_i t;exact (kC (h.of t)).bind fun _ _ _ h=>.ok _ h
 exact j5 h
theorem LG {l r:List Tk} (h:SimR R l r):RSim R (key l) (key r):=by
 refine (mI h).bind fun n l r h=>(j6 (by decide) h).bind fun s l' r' h' => ?_;split
 ·exact .ok _ h'
 exact .no _ h.ha h'
theorem KP {n:Nat} {l r:List Tk} (h:SimR R l r):opr n r=opr n l:=by
 unfold opr;rw [show (fun s=>isT s r)=fun s=>isT s l from funext fun s=>h.sT s]
theorem NK:∀ (f:Nat) (i:Bool) (m:Md) {l r:List Tk},SimR R l r→RSim R (pz f i m l) (pz f i m r):=by
 intro f
 induction f with
 | zero=>intro i m l r _;exact .out
 | succ f ih =>
   intro i m l r h
   cases m with
   | ex =>
     simp only [pz,h.sT]
     split
     · rename_i t
       exact (ih _ _ (h.of t)).bind fun _ _ _ h=>(cZ h).bind fun _ _ _ h=>(ih _ _ h).bind fun _ _ _ h=>(cZ h).bind fun _ _ _ h=>(ih _ _ h).bind fun _ _ _ h=>.ok _ h
     · exact ih _ _ h
   | op least =>
     simp only [pz,h.sT]
     split
     · rename_i t
       exact (ih _ _ (h.of t.2)).bind fun _ _ _ h=>ih _ _ h
     · exact (ih _ _ h).bind fun _ _ _ h=>ih _ _ h
   | tl least n y =>
     simp only [pz,KP h]
     split
     · exact .ok _ h
     · split
       · exact ih _ _ h
       · rename_i t
         exact (ih _ _ (h.of (jl t))).bind fun _ _ _ h=>ih _ _ h
   | ng =>
     simp only [pz,h.sT]
     split
     · rename_i t
       exact (ih _ _ (h.of t)).bind fun _ _ _ h=>.ok _ h
     · exact ih _ _ h
   | pa =>
     simp only [pz]
     exact (cZ h).bind fun _ _ _ h=>(ih _ _ h).bind fun _ _ _ h=>(cZ h).bind fun _ _ _ h=>.ok _ h
   | rf =>
     simp only [pz]
     refine (jH h).bind fun n l r h=>?_
     rw [h.sT]
     split
     · rename_i t
       exact (ih _ _ (h.of t)).bind fun _ _ _ h=>.ok _ h
     · exact .ok _ h
   | ag =>
     simp only [pz]
     refine (j6 (by decide) h).bind fun op _ _ h=>(cZ h).bind fun _ _ _ h=>(jH h).bind fun t _ _ h=>(cZ h).bind fun _ l r h=>RSim.bind (x:=if op=⟨#[99,111,117,110,116]⟩ then .ok (aS 1) l else _) (y:=if op=⟨#[99,111,117,110,116]⟩ then .ok (aS 1) r else _) ?_ fun x l r h=>RSim.bind (x:=if op=⟨#[113,117,97,110,116,105,108,101]⟩∨op=⟨#[100,101,99,97,121]⟩ then _ else .ok 0 l) (y:=if op=⟨#[113,117,97,110,116,105,108,101]⟩∨op=⟨#[100,101,99,97,121]⟩ then _ else .ok 0 r) ?_ fun p l r h=>(Ju h).bind fun w l r h=>RSim.bind (x:=if isT ⟨#[119,104,101,114,101]⟩ l=true then _ else _) (y:=if isT ⟨#[119,104,101,114,101]⟩ r=true then _ else _) ?_ fun y l r h=>(cZ h).bind fun _ _ _ h=>.ok _ h
     · split
       · exact .ok _ h
       · exact (ih _ _ h).bind fun _ _ _ h=>(cZ h).bind fun _ _ _ h=>.ok _ h
     · split
       · exact (kC h).bind fun _ _ _ h=>(cZ h).bind fun _ _ _ h=>.ok _ h
       · exact .ok _ h
     · rw [h.sT]
       split
       · rename_i t;exact ih _ _ (h.of t)
       · exact .ok _ h
   | pr =>
     simp only [pz,h.sT,h.hk,h.ht]
     split
     · exact (kC h).bind fun _ _ _ h=>(pI h).bind fun _ _ _ h=>.ok _ h
     split
     · exact (IB h).bind fun _ _ _ h=>(pI h).bind fun _ _ _ h=>.ok _ h
     split
     · exact (j6 (by decide) h).bind fun _ _ _ h=>.ok _ h
     split
     · rename_i t;exact .ok _ (h.of t)
     split
     · rename_i t;exact .ok _ (h.of t)
     split
     · exact LG h
     split
     · rename_i t;exact (ih _ _ (h.of t)).bind fun _ _ _ h=>.ok _ h
     split
     · exact ih _ _ h
     split
     · exact (jH h).bind fun _ _ _ h=>.ok _ h
     split
     · exact ih _ _ h
     · exact ih _ _ h
theorem Ms {l r:List Tk} (h:SimR R l r):RSim R (exR l) (exR r):=by
 unfold exR;rw [h.len];exact NK _ _ _ h
theorem Me {l r:List Tk} (h:SimR R l r):RSim R (fie l) (fie r):=(jH h).bind fun _ _ _ h=>(cZ h).bind fun _ _ _ h=>(zN h).bind fun _ _ _ h=>.ok _ h
theorem Gu {l r:List Tk} (h:SimR R l r):RSim R (eP l) (eP r):=by
 unfold eP;rw [h.sT];split
 ·rename_i t;exact .ok _ (h.of t)
 exact (AQ Me h).bind fun _ _ _ h=>(cZ h).bind fun _ _ _ h=>.ok _ h
theorem Ig {l r:List Tk} (h:SimR R l r):RSim R (dK l) (dK r):=by
 unfold dK;rw [h.sT];split
 ·rename_i t;exact kC (h.of t)
 exact .ok _ h
theorem Gt {l r:List Tk} (h:SimR R l r):RSim R (ji l) (ji r):=(mI h).bind fun _ _ _ h=>(mI h).bind fun _ _ _ h=>(cZ h).bind fun _ _ _ h=>(Gu h).bind fun _ _ _ h=>(Ig h).bind fun _ _ _ h=>(cZ h).bind fun _ _ _ h=>.ok _ h
theorem Iu {l r:List Tk} (h:SimR R l r):RSim R (gu l) (gu r):=(mI h).bind fun _ _ _ h=>(mI h).bind fun _ _ _ h=>(cZ h).bind fun _ _ _ h=>(zN h).bind fun _ _ _ h=>(cZ h).bind fun _ _ _ h=>(Ms h).bind fun _ _ _ h=>(cZ h).bind fun _ _ _ h=>.ok _ h
theorem Ii {m:Mo} {l r:List Tk} (h:SimR R l r):RSim R (bU m l) (bU m r):=by
 unfold bU;rw [h.ht];split
 ·exact (Gt h).bind fun _ _ _ h=>.ok _ h
 split
 ·exact (Iu h).bind fun _ _ _ h=>.ok _ h
 exact j5 h
theorem Lr {l r:List Tk} (h:SimR R l r):SimR R (lvR l) (lvR r):=by
 induction h with
 | last hk hy ht ha =>
   unfold lvR
   rw [if_pos hk,if_pos (hy.trans hk)]
   exact .last hk hy ht ha
 | @cons x y l r hk ht ha h ih =>
   have h':SimR R (x :: l) (y :: r):=.cons hk ht ha h
   unfold lvR
   rw [hk,h'.sT]
   split
   · exact h'
   · split
     · exact h
     · exact ih
end
def RM {α:Type} (x y:Rs α):Prop:=x≠.out→y=x
theorem RM.refl {α:Type} (x:Rs α):RM x x:=fun _=>rfl
theorem RM.bind {α β:Type} {x y:Rs α} {g k:α→List Tk→Rs β} (h:RM x y) (hg:∀ v q,RM (g v q) (k v q)):RM (x.bind g) (y.bind k):=by
 intro hn;rw [h (bK hn)]
 cases x with
 | out=>exact absurd rfl hn
 | ok v q=>exact hg v q hn
 | no a c q=>rfl
theorem Kz {f g:Nat} (ih:∀ i m l,RM (pz f i m l) (pz g i m l)) (i:Bool) (m:Md) (l:List Tk):RM (pz (f+1) i m l) (pz (g+1) i m l):=by
 cases m with
 | ex =>
   simp only [pz]
   split
   · exact (ih _ _ _).bind fun _ _=>(RM.refl _).bind fun _ _=>(ih _ _ _).bind fun _ _=>(RM.refl _).bind fun _ _=>(ih _ _ _).bind fun _ _=>RM.refl _
   · exact ih _ _ _
 | op least =>
   simp only [pz]
   split
   · exact (ih _ _ _).bind fun _ _=>ih _ _ _
   · exact (ih _ _ _).bind fun _ _=>ih _ _ _
 | tl least n y =>
   simp only [pz]
   split
   · exact RM.refl _
   · split
     · exact ih _ _ _
     · exact (ih _ _ _).bind fun _ _=>ih _ _ _
 | ng =>
   simp only [pz]
   split
   · exact (ih _ _ _).bind fun _ _=>RM.refl _
   · exact ih _ _ _
 | pa =>
   simp only [pz]
   exact (RM.refl _).bind fun _ _=>(ih _ _ _).bind fun _ _=>(RM.refl _).bind fun _ _=>RM.refl _
 | rf =>
   simp only [pz]
   refine (RM.refl _).bind fun n r=>?_
   split
   · exact (ih _ _ _).bind fun _ _=>RM.refl _
   · exact RM.refl _
 | ag =>
   simp only [pz]
   refine (RM.refl _).bind fun op _=>(RM.refl _).bind fun _ _=>(RM.refl _).bind fun t _=>(RM.refl _).bind fun _ l=>RM.bind ?_ fun x l=>(RM.refl _).bind fun p l=>(RM.refl _).bind fun w l=>RM.bind ?_ fun y l=>RM.refl _
   · split
     · exact RM.refl _
     · exact (ih _ _ _).bind fun _ _=>RM.refl _
   · split
     · exact ih _ _ _
     · exact RM.refl _
 | pr =>
   simp only [pz]
   split
   · exact RM.refl _
   split
   · exact RM.refl _
   split
   · exact RM.refl _
   split
   · exact RM.refl _
   split
   · exact RM.refl _
   split
   · exact RM.refl _
   split
   · exact (ih _ _ _).bind fun _ _=>RM.refl _
   split
   · exact ih _ _ _
   split
   · exact RM.refl _
   split
   · exact ih _ _ _
   · exact ih _ _ _
theorem Cy:∀ (f g:Nat),f≤g→∀ i m l,RM (pz f i m l) (pz g i m l)
 | 0,_,_,_,_,_=>fun h=>absurd rfl h
 | f+1,0,h,_,_,_=>by omega
 | f+1,g+1,h,i,m,l=>Kz (Cy f g (by omega)) i m l
theorem EB {f g:Nat} {i:Bool} {m:Md} {l:List Tk} (h1:pz f i m l≠.out) (h2:pz g i m l≠.out):pz f i m l=pz g i m l:=by
 rcases Nat.le_total f g with h | h
 ·exact (Cy f g h i m l h1).symm
 exact Cy g f h i m l h2
section
variable {t1 t2:List Tk}
end
theorem nM {s t:ByteArray} {a:Int} {l:List Tk} : isT s (⟨5,t,a⟩ :: l)=decide (t=s):=by
 unfold isT hd;simp
theorem Pm {α:Type} {one:List Tk→Rs α} {l r:List Tk} {v:α} (h:fB one l=.ok v r):one l=.ok v r∧(hd r).k=6:=by
 obtain ⟨u,q,h1,h2⟩:=bind_ok h;obtain ⟨_,q2,h3,h4⟩:=bind_ok h2;cases h4;unfold lT at h3;split at h3
 ·rename_i hk;cases h3;exact ⟨h1,hk⟩
 cases h3
theorem zR {s:ByteArray} (hs:¬ 16384<s.size):aW s=(lxs 0 false s.data.toList).1++[lS s]:=by
 unfold aW;rw [if_neg hs]
theorem yA {α:Type} {one:List Tk→Rs α} {s:ByteArray} {P:α→Prop} (h1:∀ l v r,one l=.ok v r→r.length<l.length∧P v):∀ (f:Nat) (x:List α) (l:List Tk) (v:List α) (r:List Tk),(∀ y ∈ x,P y)→more one s f x l=.ok v r→v.length≤x.length+l.length∧∀ y ∈ v,P y
 | 0,_,_,_,_,_,h=>by cases h
 | f+1,x,l,v,r,hx,h=>by
  unfold more at h
  split at h
  ·rename_i t
   obtain ⟨y,q,h2,h3⟩:=bind_ok h
   obtain ⟨g1,g2⟩:=h1 _ _ _ h2
   obtain ⟨g3,g4⟩:=yA h1 f (x++[y]) q v r (fun z hz=>by
    rcases List.mem_append.1 hz with hz | hz
    ·exact hx z hz
    ·rw [List.mem_singleton.1 hz];exact g2) h3
   have:=aP t
   rw [List.length_append,List.length_singleton] at g3
   exact ⟨by omega,g4⟩
  ·cases h
   exact ⟨Nat.le_add_right _ _,hx⟩
theorem Ls {α:Type} {one:List Tk→Rs α} {s:ByteArray} {P:α→Prop} (h1:∀ l v r,one l=.ok v r→r.length<l.length∧P v) {l:List Tk} {v:List α} {r:List Tk} (h:lst one s l=.ok v r):v.length≤l.length∧∀ y ∈ v,P y:=by
 obtain ⟨y,q,h2,h3⟩:=bind_ok h;obtain ⟨g1,g2⟩:=h1 _ _ _ h2;obtain ⟨g3,g4⟩:=yA h1 _ [y] q v r (fun z hz=>by rw [List.mem_singleton.1 hz];exact g2) h3;rw [List.length_singleton] at g3;exact ⟨by omega,g4⟩
theorem OJ {l r:List Tk} {v:Fi} (h:fie l=.ok v r):r.length<l.length∧v.ty.un.length≤1048576:=by
 refine ⟨jT h,?_⟩;obtain ⟨n,q,h1,h⟩:=bind_ok h;obtain ⟨_,q2,h2,h⟩:=bind_ok h;obtain ⟨t,q3,h3,h⟩:=bind_ok h;cases h;exact DF h3
def TbS (t:Tb):Prop:=t.fs.length≤1048576∧∀ f ∈ t.fs,f.ty.un.length≤1048576
def FeS (f:Fe):Prop:=f.ty.un.length≤1048576∧f.bo.sm
theorem JD {l r:List Tk} {t:Tb} (hl:l.length≤1048576) (h:ji l=.ok t r):TbS t:=by
 obtain ⟨n,q1,h1,h⟩:=bind_ok h;obtain ⟨e,q2,h2,h⟩:=bind_ok h;obtain ⟨_,q3,h3,h⟩:=bind_ok h;obtain ⟨fs,q4,h4,h⟩:=bind_ok h;obtain ⟨k,q5,h5,h⟩:=bind_ok h;obtain ⟨_,q6,h6,h⟩:=bind_ok h;cases h;have g1:=oM h1;have g2:=oM h2;have g3:=bH h3;unfold eP at h4;split at h4
 ·cases h4;exact ⟨Nat.zero_le _,fun f hf=>by cases hf⟩
 obtain ⟨v,p1,k1,h4⟩:=bind_ok h4;obtain ⟨_,p2,k2,h4⟩:=bind_ok h4;cases h4;obtain ⟨g4,g5⟩:=Ls (P:=fun f:Fi=>f.ty.un.length≤1048576) (fun _ _ _=>OJ) k1;exact ⟨Nat.le_trans g4 (by omega),g5⟩
theorem Mi {l r:List Tk} {f:Fe} (h:gu l=.ok f r):FeS f:=by
 obtain ⟨n,q1,h1,h⟩:=bind_ok h;obtain ⟨e,q2,h2,h⟩:=bind_ok h;obtain ⟨_,q3,h3,h⟩:=bind_ok h;obtain ⟨t,q4,h4,h⟩:=bind_ok h;obtain ⟨_,q5,h5,h⟩:=bind_ok h;obtain ⟨x,q6,h6,h⟩:=bind_ok h;obtain ⟨_,q7,h7,h⟩:=bind_ok h;cases h;exact ⟨DF h4,Jb _ _ .ex _ _ _ trivial h6⟩
theorem LQ {m m':Mo} {l r:List Tk} (hl:l.length≤1048576) (h:bU m l=.ok m' r):m'.ts.length+m'.fs.length=m.ts.length+m.fs.length+1∧((∀ t ∈ m.ts,TbS t)→∀ t ∈ m'.ts,TbS t)∧((∀ f ∈ m.fs,FeS f)→∀ f ∈ m'.fs,FeS f):=by
 unfold bU at h;split at h
 ·obtain ⟨t,q,h1,h2⟩:=bind_ok h;cases h2;refine ⟨by simp only [List.length_append,List.length_singleton];omega,fun hm x hx=>?_,fun hm=>hm⟩;rcases List.mem_append.1 hx with hx | hx
  ·exact hm x hx
  rw [List.mem_singleton.1 hx];exact JD hl h1
 split at h
 ·obtain ⟨t,q,h1,h2⟩:=bind_ok h;cases h2;refine ⟨by simp only [List.length_append,List.length_singleton];omega,fun hm=>hm,fun hm x hx=>?_⟩;rcases List.mem_append.1 hx with hx | hx
  ·exact hm x hx
  rw [List.mem_singleton.1 hx];exact Mi h1
 cases h
theorem uw:∀ (f:Nat) (m:Mo) (b:List Pb) (l:List Tk) (m1:Mo) (b1:List Pb),l.length≤1048576→eT f m b l=some (m1,b1)→m1.ts.length+m1.fs.length≤m.ts.length+m.fs.length+l.length∧((∀ t ∈ m.ts,TbS t)→∀ t ∈ m1.ts,TbS t)∧((∀ f ∈ m.fs,FeS f)→∀ f ∈ m1.fs,FeS f)
 | 0,_,_,_,_,_,_,h=>by cases h
 | f+1,m,b,l,m1,b1,hl,h=>by
  unfold eT at h
  split at h
  ·cases h
   exact ⟨Nat.le_add_right _ _,fun h=>h,fun h=>h⟩
  ·rename_i h6
   cases hi:bU m l with
   | out=>rw [hi] at h;cases h
   | ok m' r =>
    rw [hi] at h
    have g1:=mK hi
    obtain ⟨g2,g3,g4⟩:=LQ hl hi
    obtain ⟨g5,g6,g7⟩:=uw f _ _ _ _ _ (by omega) h
    exact ⟨by omega,fun h=>g6 (g3 h),fun h=>g7 (g4 h)⟩
   | no a c r =>
    rw [hi] at h
    have g1:=oP hi h6
    obtain ⟨g5,g6,g7⟩:=uw f _ _ _ _ _ (by omega) h
    exact ⟨by omega,g6,g7⟩
theorem Lj {s:ByteArray} (hs:¬ 16384<s.size) {m:Mo} {b:List Pb} (h:oO s=some (m,b)):m.sm:=by
 have hl:=(iI hs).ln;obtain ⟨g1,g2,g3⟩:=uw _ _ _ _ _ _ hl h;have g4:=g2 (fun t ht=>by cases ht);have g5:=g3 (fun t ht=>by cases ht);simp only [List.length_nil] at g1;exact ⟨by omega,by omega,g4,g5⟩
theorem wZ {s:ByteArray} {x:Ex} {a c:Int} (h:fH (α:=Ex) ⟨h0,.nil⟩ exR s=(x,a,c)):x.sm:=by
 have hz:Ex.sm ⟨h0,.nil⟩:=sm0 (by simp [h0]);unfold fH at h;split at h
 ·cases hb:dn s with
  | cons q qs=>rw [hb] at h;cases h;exact hz
  | nil =>
    rw [hb] at h
    cases ha:fB exR (aW s) with
    | out=>rw [ha] at h;cases h;exact hz
    | ok v r =>
      rw [ha] at h
      cases h
      obtain ⟨h1,_⟩:=Pm ha
      exact Jb _ _ .ex _ _ _ trivial h1
    | no a' c' r=>rw [ha] at h;cases h;exact hz
 cases h;exact hz
theorem jV (w:World) (cs:Array Value) (s:ByteArray) (T:TypeId) (fr:Nat × Nat) (n:Nat) (hs:s.size=n) (hc:(bv s.data.toList).toArray=cs) (hn:n≤1000000):Bs (w.alloc (.cells cs T fr)) (some ⟨w.heap.size,0,none⟩) n n s:=by
 refine ⟨.inr ⟨w.heap.size,0,rfl,fun j hj=>?_⟩,hs,Nat.le_refl _,by omega,fun h=>by cases h⟩;rw [Nat.zero_add,World.cell?_alloc_mark w cs T fr j,← hc];rw [sz2];unfold bv;rw [List.getElem?_map,List.getElem?_eq_getElem (by rw [aM];exact hj)];rfl
theorem Qv (w:World) (C:Array Value) (n c:Nat):(convert 22 22 (.slice (some ⟨w.heap.size,0,none⟩) n c)).run Tryz.prog (w.alloc (.cells C 5))=.ok (.slice (some ⟨w.heap.size,0,none⟩) n c) (w.alloc (.cells C 5 (C.size,C.size+1))):=Lib.run_convert_bytes_const (P:=Tryz.prog) w 22 5 C n c Tryz.underlying22 Tryz.underlying5
def ExA:Prop:=∀ W,Tabs W→Calls Tryz.prog 11 #[] W fun e w' => e=.returned (.bool true)∧Below W.heap.size W w'
theorem Jr (x:ByteArray) (k:Nat) (hk:k<x.size):x.data.toList[k]? = some x[k]:=by
 rw [List.getElem?_eq_getElem (by rw [aM];exact hk)];rfl
end pa
end Go.Proofs.YtbpijgddfaefkaaGreatDoor
