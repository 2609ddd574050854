/-
  units.Normal; A unit; a window; a type; a field; A window; a type; a field; Expressions that are made of others; An operator of a rank.
-/
import Derived.Test.YtbahfelnbofjjaaGreatDoorG22
set_option maxRecDepth 100000
set_option maxHeartbeats 16000000
namespace Go.Proofs.YtbahfelnbofjjaaGreatDoor
namespace un
open Go.RowKit dec
theorem FR (base:Nat) (v:Value) (l:List Fa) (w:World) (hO:Own w base v l) (hn:l.length<5864062014805) (hb:base≤w.heap.size) :
    Calls Tryz.prog 244 #[v,.func (.func 245) #[] #[]] w fun e w' => e=.returned (.tuple #[])∧∃ a cap s,v=.slice a l.length cap∧s.Perm l∧pE s∧Sl w' a l.length cap s∧(∀ x,a=some x→base≤x.block∧∃ cs fr,w'.heap[x.block]? = some (.cells cs 82 fr))∧Below base w w':=by
 have C:=Hy (fun W h1 h2 h3 h4=>zZ base v l w.heap.size W h1 hn h2 h3 h4);have hO1:=hO.keeps (au (b0 w) (.cells #[.func (.func 245) #[] #[]] 234));have hlt:∀ g,v.ownBlock=some g→w.heap.size≠g:=fun g hg=>by have:=(hO.lt g hg).2;omega
 have hb1:Below base w (w.alloc (.cells #[.func (.func 245) #[] #[]] 234)):=(au (b0 w) _).mono hb;have O:=Hy hO1;have L:=Hy hlt;have B:=Hy hb1;clear hO hO1 hlt hb1
 go_enter Tryz.func244,Tryz.ntmps244
 go_wp2_with fail;refine (C.o _ O.o (by simp;omega) (by simp [go_sem]) L.o).mono ?_;rintro e w1 ⟨rfl,a,cap,s,rfl,h1,h2,h3,h4,h5⟩;go_wp2_with fail;go_end0;exact ⟨rfl,a,cap,s,rfl,h1,h2,h3,h4,B.o.trans h5⟩
def Out (base:Nat) (w:World) (v:Value) (l:List Fa):Prop:=∃ a cap,v=.slice a l.length cap∧Sl w a l.length cap l∧∀ x,a=some x→base≤x.block∧∃ cs fr,w.heap[x.block]? = some (.cells cs 82 fr)
theorem Out.nil (base:Nat) (w:World):Out base w (.slice none 0 0) []:=⟨none,0,rfl,.nil _,fun _ h=>by cases h⟩
theorem yV {mb:Nat} {w wr:World} (h:Below mb w wr) (e:w.heap.size=mb) (o:Obj):Below mb w (wr.alloc o):=h.alloc (by have:=h.size;omega) o
theorem World.pJ (w:World) {row:Option Nat} : w.grownBy w.drew row:=⟨rfl,rfl,rfl,Nat.le_refl _,fun _ _ _=>rfl⟩
theorem below_grown {W w':World} {mb:Nat} (h:W.grownBy w' (some mb)) (hm:mb≤W.heap.size):Below mb W w':=⟨h.os,h.tape,h.output,h.size,fun i hi=>h.block i (by omega) (by simp;omega)⟩
theorem uj {W w w':World} {mb:Nat} (h:Below mb W w) (hg:w.grownBy w' none) (hm:W.heap.size=mb):Below mb W w':=h.trans ⟨hg.os,hg.tape,hg.output,hg.size,fun i hi=>hg.block i (by have:=h.size;omega) (by simp)⟩
theorem OQ {W w w':World} {mb r:Nat} (h:Below mb W w) (hg:w.grownBy w' (some r)) (hm:W.heap.size=mb) (hr:mb≤r):Below mb W w':=h.trans ⟨hg.os,hg.tape,hg.output,hg.size,fun i hi=>hg.block i (by have:=h.size;omega) (by simp;omega)⟩
theorem SI {w w':World} {r:Nat} {v:Value} {l:List Fa} (h:Own w (r+1) v l) (hg:w.grownBy w' (some r)):Own w' (r+1) v l:=by
 obtain ⟨h1,h2⟩:=h;refine ⟨h1,?_⟩;rcases h2 with h0 | ⟨g,cap,cur,e,hbg,hh,r⟩
 ·exact .inl h0
 refine .inr ⟨g,cap,cur,e,hbg,?_,r⟩;have:g<w.heap.size:=by
  rcases Nat.lt_or_ge g w.heap.size with h' | h'
  ·exact h'
  rw [Array.getElem?_eq_none h'] at hh;cases hh
 rw [hg.block _ this (by simp;omega)];exact hh
theorem jQ {mb:Nat} {w wr w':World} (h:Below mb w wr) (e:w.heap.size=mb) (b:Below wr.heap.size wr w'):Below mb w w':=h.trans (b.mono (by have:=h.size;omega))
theorem DN {w:World} {b:Nat} {l:List Fa} {j:Nat} {x:Fa} (h:j<l.length) (e:gt l j=x) (M:Mp w b (l.take j++[x])):Mp w b (l.take (j+1)):=by
 rw [gL h,e];exact M
theorem KH {l:List Fa} {j:Nat} (h:j<l.length) (hw:word (gt l j).1=false):wds l=false:=by
 cases hv:wds l
 ·rfl
 rw [Dz.1 hv _ (jl h)] at hw;cases hw
theorem KI {l:List Fa} {j:Nat} (h:j<l.length) (h1:wds (l.take j)=true) (hw:word (gt l j).1=true):wds (l.take (j+1))=true:=by
 rw [gL h,FI,h1];simp [wds,hw]
theorem QH {l:List Fa} (h:wds l=false):nE l=1∧nL l=[]:=by
 have e:nE l=1:=by unfold nE;rw [h];rfl
 exact ⟨e,by unfold nL;rw [e];rfl⟩
theorem QI {l:List Fa} (h:wds l=true) (hf:mQ l=true):nE l=70∧nL l=[]:=by
 have e:nE l=70:=by unfold nE;rw [h,hf];rfl
 exact ⟨e,by unfold nL;rw [e];rfl⟩
theorem Gs (a:Option Addr) (n cap:Nat) (l:List Fa) (w:World) (hS:Sl w a n cap l) (hx:∀ x ∈ l,-9223372036854775808≤x.2∧x.2≤9223372036854775807) (hlen:l.length<5864062014805) :
    Calls Tryz.prog 181 #[.slice a n cap] w fun e w' => ∃ v,e=.returned (.tuple #[v,.int .i64 (nE l)])∧Out w.heap.size w' v (nL l)∧Below w.heap.size w w':=by
 have W1:=Hy vF;have S0:=Hy hS;have X0:=Hy hx;have N0:=Hy hlen;have M0:=Hy (Mp.made w);have B0:=Hy (au (b0 w) (.map #[] 0));have hmm:=@run_makeMap Tryz.prog;have hmm:=@run_makeMap Tryz.prog;have hmm:=@run_makeMap Tryz.prog;have hmm:=@run_makeMap Tryz.prog;have hmm:=@run_makeMap Tryz.prog;have hmm:=@run_makeMap Tryz.prog;have hmm:=@run_makeMap Tryz.prog;have hmm:=@run_makeMap Tryz.prog;have hmm:=@run_makeMap Tryz.prog;have hmm:=@run_makeMap Tryz.prog;have hmm:=@run_makeMap Tryz.prog;have hmm:=@run_makeMap Tryz.prog;clear hS hx hlen
 go_enter Tryz.func181,Tryz.ntmps181
 go_wp2_with fail;generalize hmb:w.heap.size=mb at *;have Mge:=Hy hmb;clear hmb
 go_loopw [2,14] (fun vu vi wr => ∃ j:Nat,vu=.slice none 0 0∧vi=.int .i64 (j:Nat)∧Hid (j≤n)∧Hid (wds (l.take j)=true)∧Hid (Mp wr mb (l.take j))∧Hid (Below mb w wr)) (fun _ vi _=>n - (intOf vi).toNat)
 case atStart=>exact ⟨0,rfl,rfl,Hy zl,Hy rfl,M0,B0⟩
 case round =>
  obtain ⟨j,rfl,rfl,hj,hd,hM,hb⟩:=hrel;by_cases hc:j<n
  ·have hln:=Hy (show j<l.length by have:=S0.o.hn;omega);obtain ⟨bk,off,rfl,hC⟩:=(S0.o.keeps (hb.o.mono (by have:=Mge.o;omega))).hat.resolve_left (by have:=hln.o;omega);obtain ⟨c0,c1⟩:=hC j hln.o;have q2:decide ((j:Int)<(n:Int))=true:=dT (by omega);have q3:j<n:=hc;have f4:=Hy (aS (j:=j) (by have:=S0.o.hcap;have:=S0.o.hmax;omega));have hwn:=Hy (KI hln.o hd.o);have hwt:=Hy (KH hln.o);have hxr:=Hy (X0.o _ (jl hln.o));have hxx:=Hy (rfl:gt l j=gt l j);clear hC;generalize hgx:(gt l j)=x at c0 c1 hwn hwt hxr;replace hxx:=Hy hgx;clear hgx;have HX:=Hy (Bw.new wr x 82);cases hw:word x.1
   ·have hr:=Hy (QH (hwt.o hw));go_wp2_with fail;refine (W1.o _ _).mono ?_;rintro e w' ⟨rfl,rfl⟩;go_wp2_with fail
    go_ret2
    refine ⟨.slice none 0 0,by rw [hr.o.1];rfl,by rw [hr.o.2];exact Out.nil _ _,?_⟩;have:=yV hb.o Mge.o (.cells #[.string x.1,.int .i64 x.2] 82);exact Mge.o ▸ this
   have HW:=Hy (hwn.o hw);have hsz:=Hy (show x.1.size≤maxLen by have:=kP hw;unfold maxLen;omega);have OC:=Hy (fun W=>Ui x.2 W hxr.o.1 hxr.o.2);have AC:=Hy (fun W=>TS (x:=dec.W (ex (l.take j) x.1)) (y:=dec.W x.2) (a:=ex (l.take j) x.1) (b:=x.2) rfl rfl W);clear hwn hwt;go_wp2_with fail;refine (W1.o _ _).mono ?_;rintro e w' ⟨rfl,rfl⟩;go_wp2_with fail;have M7:=Hy ((hM.o.keeps (au (b0 wr) (.cells #[.string x.1,.int .i64 x.2] 82))).grown (World.pJ (row:=none) _) (by simp));have C0:=Hy (HX.o.c0);have C1:=Hy (HX.o.c1);have G0:=Hy (show wr.heap.size≠mb by have:=hM.o.lt;omega);have hbn:=Hy (yV hb.o Mge.o (.cells #[.string x.1,.int .i64 x.2] 82));replace hb:=hbn;clear hbn HX hM c0 c1 S0;generalize wr.heap.size=g6 at *;generalize wr.alloc (.cells #[.string x.1,.int .i64 x.2] 82)=W at *;have GD:=Hy (World.pJ (row:=some mb) W);have MW:=Hy (show mb≤W.heap.size from Nat.le_of_lt M7.o.lt);refine wp_region_noPanic ?_;refine wp_region_held_drew (S:=fun w' => W.grownBy w' (some mb)) (by kernel_rfl) GD.o (fun hH=>?_);refine ak 0 22 ?_ hH (fun w' hS=>?_) ?_;rotate_left
   ·go_simp;try with_reducible rfl
   simp only [sz0,sz1];refine ak 1 23 ?_ hH (fun w' hS=>?_) ?_;rotate_left
   ·go_simp;try with_reducible rfl
   simp only [sz0,sz1];refine ak 2 24 ?_ hH (fun w' hS=>?_) ?_;rotate_left
   ·have e0:=GI hS G0.o C0.o;go_simp;try with_reducible rfl
   simp only [sz0,sz1];refine ak 3 25 ?_ hH (fun w' hS=>?_) ?_;rotate_left
   ·go_simp;try with_reducible rfl
   simp only [sz0,sz1];refine ak 4 26 ?_ hH (fun w' hS=>?_) ?_;rotate_left
   ·go_simp;try with_reducible rfl
   simp only [sz0,sz1];refine ak 5 27 ?_ hH (fun w' hS=>?_) ?_;rotate_left
   ·have e0:=GI hS G0.o C0.o;go_simp;try with_reducible rfl
   simp only [sz0,sz1];refine ak 7 29 ?_ hH (fun w' hS=>?_) ?_;rotate_left
   ·go_simp;try with_reducible rfl
   simp only [sz0,sz1];refine ak 8 30 ?_ hH (fun w' hS=>?_) ?_;rotate_left
   ·have e1:=GI hS G0.o C1.o;go_simp;try with_reducible rfl
   simp only [sz0,sz1];refine iY (i:=6) (j:=9) rfl rfl (by kernel_rfl) rfl rfl (fun K hK=>?_) (fun K hK=>?_)
   ·have hlk:=M7.o.look x.1 hsz.o;go_simp;refine hK.o _ _ hH (fun hH=>?_);clear hK K hlk;refine aC 9 (fun K hK=>?_);go_simp;refine (OC.o _).mono ?_;rintro e w6 ⟨rfl,b6⟩;replace M7:=Hy (M7.o.keeps b6);refine hK.o _ _ (hH.andThen (iJ b6) (fun j hj=>by cases hj)) (fun hH=>?_);clear hK K b6;refine aC 10 (fun K hK=>?_);go_simp;refine (AC.o _).mono ?_;rintro e w8 ⟨rfl,b8⟩;have M8:=Hy (M7.o.keeps b8);refine hK.o _ _ (hH.andThen (iJ b8) (fun j hj=>by cases hj)) (fun hH=>?_);clear hK K b8;refine aC 11 (fun K hK=>?_);refine zG (.tmp 22) (.tmp 24) (.tmp 32) rfl mb (l.take j) rfl M8.o x rfl rfl hsz.o (by have:=N0.o;rw [List.length_take];unfold maxLen;omega) ?_;intro w9 M9 g9;refine hK.o _ _ (hH.andThen g9 (fun j hj=>.inr hj)) (fun hH=>?_);clear hK K g9;refine wpAnyH_done (by kernel_rfl) ?_ _;refine uY ?_;have hbn:=Hy (hb.o.trans (below_grown hH MW.o));clear hH;go_wp2_with fail;refine ⟨⟨j+1,rfl,congrArg (Value.int .i64) f4.o,Hy hc,HW,Hy (DN hln.o hxx.o M9),hbn⟩,aN hc f4.o⟩
   go_simp;refine (OC.o _).mono ?_;rintro e w6 ⟨rfl,b6⟩;replace M7:=Hy (M7.o.keeps b6);refine hK.o _ _ (hH.andThen (iJ b6) (fun j hj=>by cases hj)) (fun hH=>?_);clear hK K b6;refine aC 6 (fun K hK=>?_);have hlk:=M7.o.look x.1 hsz.o;go_simp;refine hK.o _ _ hH (fun hH=>?_);clear hK K hlk;refine aC 10 (fun K hK=>?_);go_simp;refine (AC.o _).mono ?_;rintro e w8 ⟨rfl,b8⟩;have M8:=Hy (M7.o.keeps b8);refine hK.o _ _ (hH.andThen (iJ b8) (fun j hj=>by cases hj)) (fun hH=>?_);clear hK K b8;refine aC 11 (fun K hK=>?_);refine zG (.tmp 22) (.tmp 24) (.tmp 32) rfl mb (l.take j) rfl M8.o x rfl rfl hsz.o (by have:=N0.o;rw [List.length_take];unfold maxLen;omega) ?_;intro w9 M9 g9;refine hK.o _ _ (hH.andThen g9 (fun j hj=>.inr hj)) (fun hH=>?_);clear hK K g9;refine wpAnyH_done (by kernel_rfl) ?_ _;refine uY ?_;have hbn:=Hy (hb.o.trans (below_grown hH MW.o));clear hH;go_wp2_with fail;refine ⟨⟨j+1,rfl,congrArg (Value.int .i64) f4.o,Hy hc,HW,Hy (DN hln.o hxx.o M9),hbn⟩,aN hc f4.o⟩
  have hjn:j=n:=by have:=hj.o;omega
  have htl:l.take j=l:=by rw [hjn,← S0.o.hn,List.take_length]
  have q1:decide ((j:Int)<(n:Int))=false:=dF (by omega);have hW:=Hy (show wds l=true by rw [← htl];exact hd.o);subst hjn;have hM2:=hM.o;rw [htl] at hM2;obtain ⟨D,hown0,hsay0⟩:=hM2;have hown:=Hy hown0;have hsay:=Hy hsay0;have hmr:=Hy hown0.lt;clear hown0 hsay0 hM hd htl hj hc M0 B0 hmm;go_wp2_with (first | (at_range;refine wpList_range_own _ rfl _ 244 rfl 9 221 K9 xJ _ mb l.length D rfl hown.o ?_;intro w0 hrg0 hg0 hs0) | fail)
  go_frame
  have hb2:=Hy (uj hb.o hg0 Mge.o);have hsz2:=Hy hs0;have R0:=Hy hrg0;have hcn:=Hy (hown.o.size_le);clear hrg0 hg0 hs0 hown hb;generalize wr.heap.size=r at *
  go_loopw [2] (fun vu wx => ∃ (o:List Fa) (left:Lit→Bool) (cnt:Nat),Hid (Own wx (r+1) vu o)∧Hid (wx.ranges Tryz.prog 9 je mb r l.length D left cnt)∧Hid (Pk l left o)∧Hid (∀ z,left z=true→Maps.has D z=true)∧Hid (o.length+cnt≤l.length)∧Hid (Below mb w wx)∧Hid (r+1≤wx.heap.size)) (fun _ wx=>wx.rangeLeft mb r)
  case atStart=>exact ⟨[],_,_,Hy (Own.nil _ _),R0,Hy (Pk.start hsay.o),Hy (fun _ h=>h),Hy (by simpa using hcn.o),hb2,Hy (by have:=hsz2.o;omega)⟩
  case round =>
   obtain ⟨o,left,cnt,hO,hR,hP,hL,hC,hB,hZ⟩:=hrel;go_wp2_with (first | (at_next;refine uw _ rfl _ rfl mb r l.length D l hsay.o left cnt rfl hR.o ?_ ?_) | fail)
   ·intro hc0 hl0;have hl:=Hy hl0;have hlen:=Hy (hP.o.len hl0);have hall:=hP.o.all hl0;have hE:=Hy (show nE l=if 4<o.length then 2 else 0 by unfold nE;rw [hW.o,hall,if_pos rfl,if_neg Bool.false_ne_true,hlen.o]);have hol:=Hy (show o.length<5864062014805 by have:=N0.o;have:=hC.o;omega);have SC:=Hy (fun W (h:Below wr.heap.size wr W) h1=>FR (r+1) u2 o W (hO.o.keeps h) hol.o h1);obtain ⟨a2,cap2,rfl,S2⟩:=hO.o.sl;have S2h:=Hy S2;clear S2 hc0 hl0 hall hR hL hC hO;by_cases h4:4<o.length
    ·have q4:decide (4<(o.length:Int))=true:=dT (by omega);rw [if_pos h4] at hE;go_wp2_with fail
     go_ret2
     exact ⟨.slice none 0 0,by rw [hE.o];rfl,by unfold nL;rw [hE.o];exact Out.nil _ _,Mge.o ▸ hB.o⟩
    have q4:decide (4<(o.length:Int))=false:=dF (by omega);rw [if_neg h4] at hE;go_wp2_with fail;refine (SC.o _ (b0 _) hZ.o).mono ?_;rintro e w9 ⟨rfl,a3,cap3,s3,hv,hp3,hs3,hS3,hfr3,hb3⟩;cases hv;have hz3:=hP.o.done hl.o hp3 hs3;have hn3:=Hy (show nL l=s3 by unfold nL;rw [if_pos hE.o,hz3]);have hl3:=Hy (show o.length=s3.length from hp3.length_eq.symm);have HS3:=Hy hS3;have HF3:=Hy (show ∀ x,a2=some x→w.heap.size≤x.block∧∃ cs fr,w9.heap[x.block]? = some (.cells cs 82 fr) from fun x hx=>⟨by have h1:=(hfr3 x hx).1;have h2:=hmr.o;have h3:=Mge.o;omega,(hfr3 x hx).2⟩);have HB3:=Hy (Mge.o ▸ hB.o.trans (hb3.mono (by have:=hmr.o;omega)):Below w.heap.size w w9);clear hS3 hfr3 hb3 hz3;go_wp2_with fail
    go_ret2
    exact ⟨.slice a2 o.length cap2,by rw [hE.o];rfl,by rw [hn3.o];exact ⟨a2,cap2,by rw [← hl3.o],by rw [← hl3.o];exact HS3.o,HF3.o⟩,HB3.o⟩
   intro s w2 cnt2 hss hls hrg2 hlt hg2 hs2 hen;have hss':=Hy hss;have hls':=Hy hls;have R2:=Hy hrg2;have hlt':=Hy hlt;have Z2:=Hy (show r+1≤w2.heap.size by rw [hs2];exact hZ.o);have B2:=Hy (OQ hB.o hg2 Mge.o (by have:=hmr.o;omega));have O2:=Hy (SI hO.o hg2);have hin:=Hy (TG s X0.o N0.o);have DC:=Hy (fun W=>vN (y:=.agg #[.int .i64 (hi (ex l s)),.int .u64 (lo (ex l s))]) (a:=ex l s) 1 rfl hin.o W (by decide) (by decide));rw [Ka,tT] at DC;have HF:=Hy (fun h:far (ex l s)=true=>QI hW.o ((pq l).2 ⟨s,h⟩));have HS:=Hy (fun (h1:far (ex l s)=false) (h2:ex l s=0)=>hP.o.skip hss h1 h2);have HP:=Hy (fun (h1:far (ex l s)=false) (h2:ex l s≠0)=>hP.o.push hss hls h1 h2);have hcnt:=Hy hR.o.left_eq;have R1:=Hy yE;clear hss hls hrg2 hlt hg2 hs2 hR hB hO hZ hP;generalize hl2:(fun z=>left z && !z.sameKey (kS s))=left2 at *;have hL2:=Hy (fun z (h:left2 z=true)=>hL.o z (by rw [← hl2] at h;simp at h;exact h.1));clear hl2 hL;generalize ex l s=x at *;have R3:=Hy (jV R2.o (au (b0 w2) (.cells #[.int .i64 (hi x),.int .u64 (lo x)] 221)));have O3:=Hy (O2.o.keeps (au (b0 w2) (.cells #[.int .i64 (hi x),.int .u64 (lo x)] 221)));have B3:=Hy (jQ B2.o Mge.o (au (b0 w2) (.cells #[.int .i64 (hi x),.int .u64 (lo x)] 221)));have Z3:=Hy (show r+1≤(w2.alloc (.cells #[.int .i64 (hi x),.int .u64 (lo x)] 221)).heap.size by have:=Z2.o;simp;omega);clear R2 O2 B2 Z2;have hol:=Hy (show o.length<5864062014805 by have:=N0.o;have:=hC.o;omega);cases hrg:rg x
   ·have hr:=Hy (HF.o (Ov hrg));rw [hrg] at DC;clear HS HP HF;go_wp2_with fail;refine (DC.o _).mono ?_;rintro e w4 ⟨rfl,b4⟩;have B4:=Hy (Mge.o ▸ jQ B3.o Mge.o b4:Below w.heap.size w w4);clear b4;go_wp2_with fail
    go_ret2
    exact ⟨.slice none 0 0,by rw [hr.o.1];rfl,by rw [hr.o.2];exact Out.nil _ _,B4.o⟩
   rw [hrg,vD hrg] at DC;cases hf:far x
   ·by_cases h0:x=0
    ·have HP2:=Hy (HS.o hf h0);have q5:(x != 0)=false:=by rw [bne_eq_false_iff_eq];exact h0
     replace h0:=Hy h0;clear HS HP HF;go_wp2_with fail;refine (DC.o _).mono ?_;rintro e w4 ⟨rfl,b4⟩;have B4:=Hy (jQ B3.o Mge.o b4);have R4:=Hy (jV R3.o b4);have O4:=Hy (O3.o.keeps b4);have Z4:=Hy (Nat.le_trans Z3.o b4.size);clear b4 B3 R3 O3;go_wp2_with fail;refine (R1.o _ _).mono ?_;rintro e w5 ⟨rfl,rfl⟩;go_wp2_with fail;go_roundw
     case rel =>
      exact ⟨o,left2,cnt2,O4,R4,HP2,hL2,Hy (by have:=hC.o;have:=hlt'.o;omega),B4,Z4⟩
     case measure =>
      rw [R4.o.left_eq,hcnt.o];exact hlt'.o
    have HP2:=Hy (HP.o hf h0);have q5:(x != 0)=true:=by rw [bne_iff_ne];exact h0
    replace h0:=Hy h0;clear HS HP HF;go_wp2_with fail;refine (DC.o _).mono ?_;rintro e w4 ⟨rfl,b4⟩;have B4:=Hy (jQ B3.o Mge.o b4);have R4:=Hy (jV R3.o b4);have O4:=Hy (O3.o.keeps b4);have Z4:=Hy (Nat.le_trans Z3.o b4.size);clear b4 B3 R3 O3;go_wp2_with fail;refine (R1.o _ _).mono ?_;rintro e w5 ⟨rfl,rfl⟩;go_wp2_with (at_builtin;refine jY (.tmp 55) (.tmp 59) rfl ?_;refine eP _ rfl (.tmp 55) (.tmp 59) rfl (r+1) _ _ rfl (O4.o.keeps (au (b0 _) _)) w4.heap.size s x rfl (Bw.new w4 (s,x) 82) hol.o (by have:=Z4.o;simp;omega) ?_;intro v2 w6 O6 b6);have R6:=Cu (jV R4.o (au (b0 w4) (.cells #[.string s,.int .i64 x] 82))) b6 (by have:=hmr.o;omega) (by omega);have B6:=Hy ((jQ B4.o Mge.o (au (b0 w4) (.cells #[.string s,.int .i64 x] 82))).trans (b6.mono (by have:=hmr.o;omega)));have Z6:=Hy (show r+1≤w6.heap.size from Nat.le_trans (by have:=Z4.o;simp;omega) b6.size);have C6:=Hy (show (o++[(s,x)]).length+cnt2≤l.length by have:=hC.o;have:=hlt'.o;rw [List.length_append,List.length_singleton];omega);replace O6:=Hy O6;replace R6:=Hy R6;clear b6;go_wp2_with fail;go_roundw
    case rel =>
     exact ⟨o++[(s,x)],left2,cnt2,O6,R6,HP2,hL2,C6,B6,Z6⟩
    case measure =>
     rw [R6.o.left_eq,hcnt.o];exact hlt'.o
   have hr:=Hy (HF.o hf);clear HS HP HF;go_wp2_with fail;refine (DC.o _).mono ?_;rintro e w4 ⟨rfl,b4⟩;have B4:=Hy (Mge.o ▸ jQ B3.o Mge.o b4:Below w.heap.size w w4);clear b4;go_wp2_with fail;refine (R1.o _ _).mono ?_;rintro e w5 ⟨rfl,rfl⟩;go_wp2_with fail
   go_ret2
   exact ⟨.slice none 0 0,by rw [hr.o.1];rfl,by rw [hr.o.2];exact Out.nil _ _,B4.o⟩
end un
namespace pa
open Go.RowKit dec
theorem Du (n:Int) : -9223372036854775808≤IntKind.i64.wrap n∧IntKind.i64.wrap n≤9223372036854775807:=by
 rw [IntKind.wrap_i64];omega
def Inx (x:un.Fa):Prop:=-9223372036854775808≤x.2∧x.2≤9223372036854775807
theorem JZ {l r:List Tk} {v:un.Fa} (h:fac l=.ok v r):Inx v:=by
 obtain ⟨_,q,h1,h2⟩:=bind_ok h;split at h2
 ·split at h2
  ·obtain ⟨_,q',h3,h4⟩:=bind_ok h2;cases h4;exact Du _
  obtain ⟨_,q',h3,h4⟩:=bind_ok h2;cases h4;exact Du _
 cases h2;exact ⟨by show (-9223372036854775808:Int)≤1;decide,by show (1:Int)≤9223372036854775807;decide⟩
theorem Eu {α:Type} {one:List Tk→Rs α} {p:α→Prop} {s:ByteArray} (h1:∀ l v r,one l=.ok v r→p v∧r.length<l.length):∀ (f:Nat) (x:List α) (l:List Tk) (v:List α) (r:List Tk),(∀ y ∈ x,p y)→more one s f x l=.ok v r→(∀ y ∈ v,p y)∧v.length+r.length≤x.length+l.length
 | 0,_,_,_,_,_,h=>by cases h
 | f+1,x,l,v,r,hx,h=>by
  unfold more at h
  split at h
  ·rename_i t
   obtain ⟨y,q,h2,h3⟩:=bind_ok h
   obtain ⟨h4,h5⟩:=h1 _ _ _ h2
   have h6:=Eu h1 f _ _ _ _ (by intro z hz;rw [List.mem_append,List.mem_singleton] at hz;rcases hz with hz | rfl <;> first | exact hx _ hz | exact h4) h3
   have:=bX t
   refine ⟨h6.1,?_⟩
   have h7:=h6.2
   rw [List.length_append,List.length_singleton] at h7
   omega
  ·cases h
   exact ⟨hx,Nat.le_refl _⟩
theorem QK {l r:List Tk} {s:ByteArray} {v:List un.Fa} (h:lst fac s l=.ok v r):(∀ y ∈ v,Inx y)∧v.length+r.length≤l.length:=by
 obtain ⟨y,q,h2,h3⟩:=bind_ok h;have:=Eu (p:=Inx) (fun l v r h=>⟨JZ h,mJ h⟩) _ _ _ _ _ (by intro z hz;rw [List.mem_singleton] at hz;subst hz;exact JZ h2) h3;refine ⟨this.1,?_⟩;have h4:=this.2;have:=mJ h2;rw [List.length_singleton] at h4;omega
theorem RO {base:Nat} {w:World} {v:Value} {l:List un.Fa} (h:un.Out base w v l):Uv base w v l:=by
 obtain ⟨a,cap,rfl,S,hf⟩:=h;refine ⟨a,cap,rfl,?_⟩;rcases S.hat with h0 | ⟨b,off,rfl,hC⟩
 ·exact .inl h0
 exact .inr ⟨b,off,rfl,(hf _ rfl).1,hC,(hf _ rfl).2⟩
theorem Uv.less {C C':Nat} {w:World} {v:Value} {l:List un.Fa} (h:Uv C w v l) (hC:C'≤C):Uv C' w v l:=by
 obtain ⟨ua,uc,e,U⟩:=h;exact ⟨ua,uc,e,U.less hC⟩
theorem Er {B:Nat} {w w':World} (M:Mv w.heap.size B w w') {b o:Nat} {v:Value} (hb:b≠B) (hc:w.cell? ⟨b,o,none⟩=some v):w'.cell? ⟨b,o,none⟩=some v:=(World.cell?_of_block (w:=w) (M.block b (block_lt_of_cell hc) hb)).trans hc
theorem Sb {B:Nat} {w w':World} {a:Option Addr} {n cap:Nat} {l:List un.Fa} {base:Nat} (h:un.Sl w a n cap l) (M:Mv w.heap.size B w w') (hB:B<base) (hf:∀ x,a=some x→base≤x.block):un.Sl w' a n cap l :=
 { h with hat:=h.hat.imp id fun ⟨b,off,e,hC⟩=>⟨b,off,e,fun j hj=>⟨Er M (by have:=hf _ e;simp only at this;omega) (hC j hj).1,Er M (by have:=hf _ e;simp only at this;omega) (hC j hj).2⟩⟩ }
theorem La {base:Nat} {w:World} {v:Value} {l:List un.Fa} (h:un.Own w base v l):∀ a n cap,v=.slice a n cap→∀ x,a=some x→base≤x.block:=by
 intro a n cap hv x hx;rcases h.o with ⟨rfl,_⟩ | ⟨g,c,rfl,hb,_⟩
 ·cases hv;cases hx
 cases hv;cases hx;exact hb
theorem Ig (B:Nat) (l:List Tk) (w:World) (h:Ps w B l) (r:Rs (List un.Fa)) (hr:uni l=r) (hne:r≠.out) :
    Calls Tryz.prog 131 #[.pointer (some ⟨B,0,none⟩)] w (Pst B Uv r w):=by
 have P:=Hy h;have M:=Hy (Mv.refl w.heap.size B w);have NE:=Hy hne;unfold uni at hr;have HR:=Hy hr;clear h hne hr;have C1:=Hy (iH B l w P.o);have F1:=tf2;have F2:=kr;cases ht:isT ⟨#[91]⟩ l
 ·replace HR:=HR.o;rw [ht,if_neg (by decide)] at HR;replace HR:=Hy HR;have HT:=Hy ht;clear ht
  go_enter Tryz.func131,Tryz.ntmps131
  go_wp2_with fail;refine (C1.o).mono ?_;rintro e w1 ⟨rfl,b⟩;have mm:=Mv.of (B:=B) b;replace M:=Hy (M.o.next mm);replace P:=Hy (P.o.keeps b);clear mm b;go_wp2_with fail;refine (aV B ⟨#[91]⟩ l w1 P.o HT.o).mono ?_;rintro e w2 ⟨rfl,pp,mm⟩;replace M:=Hy (M.o.next mm);replace P:=Hy pp;clear pp mm;go_wp2_with fail;go_ret;exact aR HR.o.symm ⟨none,0,rfl,Us.nil _ _ _⟩ P.o M.o
 replace HR:=HR.o;rw [ht,if_pos rfl] at HR;replace HR:=Hy HR;have HT:=Hy ht;clear ht;generalize (hd l).k=xk at *;generalize (hd l).t=xt at *;generalize (hd l).a=xa at *
 go_enter Tryz.func131,Tryz.ntmps131
 go_wp2_with fail;refine (C1.o).mono ?_;rintro e w1 ⟨rfl,b⟩;have mm:=Mv.of (B:=B) b;replace M:=Hy (M.o.next mm);replace P:=Hy (P.o.keeps b);clear mm b;go_wp2_with fail;refine (bZ B ⟨#[91]⟩ l w1 P.o HT.o).mono ?_;rintro e w2 ⟨rfl,pp,mm⟩;replace M:=Hy (M.o.next mm);replace P:=Hy pp;clear pp mm;have HL:=Hy P.o.tl.ln;have hlt2:=Hy P.o.lt;go_wp2_with fail;refine (Ll B ⟨#[42]⟩ l.tail _ P.o _ rfl (Ju (fun _ _ _=>mJ) nY _)).mono ?_;rintro e w3 h3;rcases hG3:lst fac ⟨#[42]⟩ l.tail with _ | ⟨v3,l3⟩ | ⟨a3,c3,l3⟩
 ·exact bou HR hG3 NE
 rotate_left
 ·rw [hG3] at h3;obtain ⟨rfl,pp,mm⟩:=h3;unfold thr;have hno:=bno HR hG3;have PP:=Hy pp;have MM:=Hy (M.o.next mm);clear pp mm hG3;go_wp2_with fail;exact ⟨rfl,aH hno.o PP.o MM.o⟩
 rw [hG3] at h3;obtain ⟨u3,rfl,vv,pp,mm⟩:=h3;replace HR:=HR.o;rw [hG3] at HR;simp only [aD] at HR;replace HR:=Hy HR;replace M:=Hy (M.o.next mm);replace P:=Hy pp;clear pp mm;have hin:=Hy (QK hG3);clear hG3;have V3:=Hy vv;clear vv;have hlt3:=Hy (show B<w2.heap.size from hlt2.o);have hfr0:=La V3.o;obtain ⟨ua,uc,rfl,S3⟩:=V3.o.sl;have hfr:=Hy (fun x hx=>hfr0 ua _ uc rfl x hx);clear hfr0;replace V3:=Hy S3;clear S3;go_wp2_with fail;refine (cZ B ⟨#[93]⟩ l3 _ P.o).mono ?_;rintro e w4 h4;rcases hG4:need ⟨#[93]⟩ l3 with _ | ⟨v4,l4⟩ | ⟨a4,c4,l4⟩
 ·exact bou HR hG4 NE
 rotate_left
 ·rw [hG4] at h4;obtain ⟨rfl,pp,mm⟩:=h4;unfold thr;have hno:=bno HR hG4;have PP:=Hy pp;have MM:=Hy (M.o.next mm);clear pp mm hG4;go_wp2_with fail;exact ⟨rfl,aH hno.o PP.o MM.o⟩
 rw [hG4] at h4;obtain ⟨u4,rfl,vv,pp,mm⟩:=h4;replace HR:=HR.o;rw [hG4] at HR;simp only [aD] at HR;replace HR:=Hy HR;replace M:=Hy (M.o.next mm);replace V3:=Hy (Sb V3.o mm hlt3.o hfr.o);replace P:=Hy pp;clear pp mm hG4;obtain rfl:u4=.tuple #[]:=vv;go_wp2_with fail;refine (un.Gs ua v3.length uc v3 w4 V3.o (fun x hx=>hin.o.1 x hx) (by have:=hin.o.2;have:=HL.o;omega)).mono ?_;have HR':=HR.o;rintro e w5 ⟨u5,rfl,U5,b5⟩;have P5:=Hy (P.o.keeps b5);have hsz:=Hy (M.o.size);have M5:=Hy (M.o.cu b5);have U6:=Hy (Uv.less (RO U5) hsz.o);clear b5 U5;by_cases hz:un.nE v3=0
 ·have q1:(un.nE v3 != 0)=false:=by simp [hz]
  rw [if_pos hz] at HR';have HR2:=Hy HR';clear HR' hz;generalize un.nE v3=ne at *;go_wp2_with fail;go_ret;exact aR HR2.o.symm U6.o P5.o M5.o
 have q1:(un.nE v3 != 0)=true:=by simp [hz]
 rw [if_neg hz] at HR';have HR2:=Hy HR';clear HR' hz;generalize un.nE v3=ne at *;go_wp2_with fail;exact ⟨rfl,aH HR2.o.symm P5.o M5.o⟩
theorem oq (B:Nat) (l:List Tk) (w:World) (h:Ps w B l) (r:Rs (Int × Int)) (hr:win l=r) (hne:r≠.out) :
    Calls Tryz.prog 304 #[.pointer (some ⟨B,0,none⟩)] w (Pst B Wv r w):=by
 have P:=Hy h;have M:=Hy (Mv.refl w.heap.size B w);have NE:=Hy hne;unfold win wrg at hr;have HR:=Hy hr;clear h hne hr;have b1:=au (b0 w) (.cells #[.int .i64 0,.int .i64 0] 26);have hlt:=Hy P.o.lt;replace P:=Hy (P.o.keeps b1);replace M:=Hy (Mv.of (B:=B) b1);have R:=Hy (Blk.new w 26 #[.int .i64 0,.int .i64 0]);have F2:=kr;clear b1;cases ht0:isT ⟨#[97,108,108]⟩ l
 ·replace HR:=HR.o;rw [ht0,if_neg (by decide)] at HR;replace HR:=Hy HR;replace ht0:=Hy ht0;cases ht1:isT ⟨#[115,108,105,100,105,110,103]⟩ l
  ·replace HR:=HR.o;rw [ht1,if_neg (by decide)] at HR;replace HR:=Hy HR;replace ht1:=Hy ht1;cases ht2:isT ⟨#[116,117,109,98,108,105,110,103]⟩ l
   ·replace HR:=HR.o;rw [ht2,if_neg (by decide)] at HR;replace HR:=Hy HR;replace ht2:=Hy ht2;cases ht3:isT ⟨#[115,101,115,115,105,111,110]⟩ l
    ·replace HR:=HR.o;rw [ht3,if_neg (by decide)] at HR;replace HR:=Hy HR;replace ht3:=Hy ht3
     go_enter Tryz.func304,Tryz.ntmps304
     go_wp2_with fail;refine (aV B ⟨#[97,108,108]⟩ l _ P.o ht0.o).mono ?_;rintro e w1 ⟨rfl,pp,mm⟩;replace M:=Hy (M.o.next mm);replace R:=Hy (R.o.mv mm (by have:=hlt.o;omega) R.o.lt);replace P:=Hy pp;clear pp mm;go_wp2_with fail;refine (aV B ⟨#[115,108,105,100,105,110,103]⟩ l _ P.o ht1.o).mono ?_;rintro e w2 ⟨rfl,pp,mm⟩;replace M:=Hy (M.o.next mm);replace R:=Hy (R.o.mv mm (by have:=hlt.o;omega) R.o.lt);replace P:=Hy pp;clear pp mm;go_wp2_with fail;refine (aV B ⟨#[116,117,109,98,108,105,110,103]⟩ l _ P.o ht2.o).mono ?_;rintro e w3 ⟨rfl,pp,mm⟩;replace M:=Hy (M.o.next mm);replace R:=Hy (R.o.mv mm (by have:=hlt.o;omega) R.o.lt);replace P:=Hy pp;clear pp mm;go_wp2_with fail;refine (aV B ⟨#[115,101,115,115,105,111,110]⟩ l _ P.o ht3.o).mono ?_;rintro e w4 ⟨rfl,pp,mm⟩;replace M:=Hy (M.o.next mm);replace R:=Hy (R.o.mv mm (by have:=hlt.o;omega) R.o.lt);replace P:=Hy pp;clear pp mm;have C9:=Hy (kN B l _ P.o);go_wp2_with fail;refine (C9.o).mono ?_;rintro e w5 ⟨rfl,b⟩;have mm:=Mv.of (B:=B) b;replace M:=Hy (M.o.next mm);replace R:=Hy (R.o.mv mm (by have:=hlt.o;omega) R.o.lt);replace P:=Hy (P.o.keeps b);clear mm b;go_wp2_with fail;exact ⟨rfl,aH HR.o.symm P.o M.o⟩
    replace HR:=HR.o;rw [ht3,if_pos rfl] at HR;replace HR:=Hy HR;replace ht3:=Hy ht3
    go_enter Tryz.func304,Tryz.ntmps304
    go_wp2_with fail;refine (aV B ⟨#[97,108,108]⟩ l _ P.o ht0.o).mono ?_;rintro e w1 ⟨rfl,pp,mm⟩;replace M:=Hy (M.o.next mm);replace R:=Hy (R.o.mv mm (by have:=hlt.o;omega) R.o.lt);replace P:=Hy pp;clear pp mm;go_wp2_with fail;refine (aV B ⟨#[115,108,105,100,105,110,103]⟩ l _ P.o ht1.o).mono ?_;rintro e w2 ⟨rfl,pp,mm⟩;replace M:=Hy (M.o.next mm);replace R:=Hy (R.o.mv mm (by have:=hlt.o;omega) R.o.lt);replace P:=Hy pp;clear pp mm;go_wp2_with fail;refine (aV B ⟨#[116,117,109,98,108,105,110,103]⟩ l _ P.o ht2.o).mono ?_;rintro e w3 ⟨rfl,pp,mm⟩;replace M:=Hy (M.o.next mm);replace R:=Hy (R.o.mv mm (by have:=hlt.o;omega) R.o.lt);replace P:=Hy pp;clear pp mm;go_wp2_with fail;refine (bZ B ⟨#[115,101,115,115,105,111,110]⟩ l _ P.o ht3.o).mono ?_;rintro e w4 ⟨rfl,pp,mm⟩;replace M:=Hy (M.o.next mm);replace R:=Hy (R.o.mv mm (by have:=hlt.o;omega) R.o.lt);replace P:=Hy pp;clear pp mm;go_wp2_with fail;refine (fF B l.tail _ P.o _ rfl (int_ne _)).mono ?_;rintro e w5 h5;rcases hG5:int l.tail with _ | ⟨v5,l5⟩ | ⟨a5,c5,l5⟩
    ·exact bou HR hG5 NE
    rotate_left
    ·rw [hG5] at h5;obtain ⟨rfl,pp,mm⟩:=h5;unfold thr;have hno:=bno HR hG5;have PP:=Hy pp;have MM:=Hy (M.o.next mm);clear pp mm hG5;go_wp2_with fail;exact ⟨rfl,aH hno.o PP.o MM.o⟩
    rw [hG5] at h5;obtain ⟨u5,rfl,vv,pp,mm⟩:=h5;replace HR:=HR.o;rw [hG5] at HR;simp only [aD] at HR;replace HR:=Hy HR;replace M:=Hy (M.o.next mm);replace R:=Hy (R.o.mv mm (by have:=hlt.o;omega) R.o.lt);replace P:=Hy pp;clear pp mm hG5;obtain rfl:u5=.int .i64 v5:=vv;go_wp2_with (refine aL fK (.tmp 2) (.tmp 24) rfl rfl _ _ _ _ rfl rfl R.o rfl rfl (by simp [Value.oneCell']) ?_;intro w9 hb9 hs9);have P9:=Hy (P.o.st hs9 hlt.o);have M9:=Hy (M.o.trans (hs9.mv lr));refine bK fK Tryz.underlying26 rfl rfl _ _ _ _ _ rfl hb9 rfl ?_;exact aR HR.o.symm rfl P9.o M9.o
   replace HR:=HR.o;rw [ht2,if_pos rfl] at HR;replace HR:=Hy HR;replace ht2:=Hy ht2
   go_enter Tryz.func304,Tryz.ntmps304
   go_wp2_with fail;refine (aV B ⟨#[97,108,108]⟩ l _ P.o ht0.o).mono ?_;rintro e w1 ⟨rfl,pp,mm⟩;replace M:=Hy (M.o.next mm);replace R:=Hy (R.o.mv mm (by have:=hlt.o;omega) R.o.lt);replace P:=Hy pp;clear pp mm;go_wp2_with fail;refine (aV B ⟨#[115,108,105,100,105,110,103]⟩ l _ P.o ht1.o).mono ?_;rintro e w2 ⟨rfl,pp,mm⟩;replace M:=Hy (M.o.next mm);replace R:=Hy (R.o.mv mm (by have:=hlt.o;omega) R.o.lt);replace P:=Hy pp;clear pp mm;go_wp2_with fail;refine (bZ B ⟨#[116,117,109,98,108,105,110,103]⟩ l _ P.o ht2.o).mono ?_;rintro e w3 ⟨rfl,pp,mm⟩;replace M:=Hy (M.o.next mm);replace R:=Hy (R.o.mv mm (by have:=hlt.o;omega) R.o.lt);replace P:=Hy pp;clear pp mm;go_wp2_with fail;refine (fF B l.tail _ P.o _ rfl (int_ne _)).mono ?_;rintro e w4 h4;rcases hG4:int l.tail with _ | ⟨v4,l4⟩ | ⟨a4,c4,l4⟩
   ·exact bou HR hG4 NE
   rotate_left
   ·rw [hG4] at h4;obtain ⟨rfl,pp,mm⟩:=h4;unfold thr;have hno:=bno HR hG4;have PP:=Hy pp;have MM:=Hy (M.o.next mm);clear pp mm hG4;go_wp2_with fail;exact ⟨rfl,aH hno.o PP.o MM.o⟩
   rw [hG4] at h4;obtain ⟨u4,rfl,vv,pp,mm⟩:=h4;replace HR:=HR.o;rw [hG4] at HR;simp only [aD] at HR;replace HR:=Hy HR;replace M:=Hy (M.o.next mm);replace R:=Hy (R.o.mv mm (by have:=hlt.o;omega) R.o.lt);replace P:=Hy pp;clear pp mm hG4;obtain rfl:u4=.int .i64 v4:=vv;go_wp2_with (refine aL fK (.tmp 2) (.tmp 18) rfl rfl _ _ _ _ rfl rfl R.o rfl rfl (by simp [Value.oneCell']) ?_;intro w9 hb9 hs9);have P9:=Hy (P.o.st hs9 hlt.o);have M9:=Hy (M.o.trans (hs9.mv lr));refine bK fK Tryz.underlying26 rfl rfl _ _ _ _ _ rfl hb9 rfl ?_;exact aR HR.o.symm rfl P9.o M9.o
  replace HR:=HR.o;rw [ht1,if_pos rfl] at HR;replace HR:=Hy HR;replace ht1:=Hy ht1
  go_enter Tryz.func304,Tryz.ntmps304
  go_wp2_with fail;refine (aV B ⟨#[97,108,108]⟩ l _ P.o ht0.o).mono ?_;rintro e w1 ⟨rfl,pp,mm⟩;replace M:=Hy (M.o.next mm);replace R:=Hy (R.o.mv mm (by have:=hlt.o;omega) R.o.lt);replace P:=Hy pp;clear pp mm;go_wp2_with fail;refine (bZ B ⟨#[115,108,105,100,105,110,103]⟩ l _ P.o ht1.o).mono ?_;rintro e w2 ⟨rfl,pp,mm⟩;replace M:=Hy (M.o.next mm);replace R:=Hy (R.o.mv mm (by have:=hlt.o;omega) R.o.lt);replace P:=Hy pp;clear pp mm;go_wp2_with fail;refine (fF B l.tail _ P.o _ rfl (int_ne _)).mono ?_;rintro e w3 h3;rcases hG3:int l.tail with _ | ⟨v3,l3⟩ | ⟨a3,c3,l3⟩
  ·exact bou HR hG3 NE
  rotate_left
  ·rw [hG3] at h3;obtain ⟨rfl,pp,mm⟩:=h3;unfold thr;have hno:=bno HR hG3;have PP:=Hy pp;have MM:=Hy (M.o.next mm);clear pp mm hG3;go_wp2_with fail;exact ⟨rfl,aH hno.o PP.o MM.o⟩
  rw [hG3] at h3;obtain ⟨u3,rfl,vv,pp,mm⟩:=h3;replace HR:=HR.o;rw [hG3] at HR;simp only [aD] at HR;replace HR:=Hy HR;replace M:=Hy (M.o.next mm);replace R:=Hy (R.o.mv mm (by have:=hlt.o;omega) R.o.lt);replace P:=Hy pp;clear pp mm hG3;obtain rfl:u3=.int .i64 v3:=vv;go_wp2_with (refine aL fK (.tmp 2) (.tmp 12) rfl rfl _ _ _ _ rfl rfl R.o rfl rfl (by simp [Value.oneCell']) ?_;intro w9 hb9 hs9);have P9:=Hy (P.o.st hs9 hlt.o);have M9:=Hy (M.o.trans (hs9.mv lr));refine bK fK Tryz.underlying26 rfl rfl _ _ _ _ _ rfl hb9 rfl ?_;exact aR HR.o.symm rfl P9.o M9.o
 replace HR:=HR.o;rw [ht0,if_pos rfl] at HR;replace HR:=Hy HR;replace ht0:=Hy ht0
 go_enter Tryz.func304,Tryz.ntmps304
 go_wp2_with fail;refine (bZ B ⟨#[97,108,108]⟩ l _ P.o ht0.o).mono ?_;rintro e w1 ⟨rfl,pp,mm⟩;replace M:=Hy (M.o.next mm);replace R:=Hy (R.o.mv mm (by have:=hlt.o;omega) R.o.lt);replace P:=Hy pp;clear pp mm;go_wp2_with (refine aL fK (.tmp 2) (.tmp 6) rfl rfl _ _ _ _ rfl rfl R.o rfl rfl (by simp [Value.oneCell']) ?_;intro w9 hb9 hs9);have P9:=Hy (P.o.st hs9 hlt.o);have M9:=Hy (M.o.trans (hs9.mv lr));refine bK fK Tryz.underlying26 rfl rfl _ _ _ _ _ rfl hb9 rfl ?_;exact aR HR.o.symm rfl P9.o M9.o
def fie (l:List Tk):Rs Fi:=(nam l).bind fun n r=>(need ⟨#[58]⟩ r).bind fun _ r=>(typ r).bind fun t r=>.ok ⟨n,t⟩ r
theorem str_eq (a:ByteArray) (l:List UInt8):(a.toList==l)=decide (a=⟨l.toArray⟩):=by
 rw [ByteArray.toList_eq];by_cases hs:a=⟨l.toArray⟩
 ·subst hs;simp
 rw [dF hs,beq_eq_false_iff_ne];intro e;apply hs;cases a;simp only at e;rw [← e]
def ex1 (x:Ex) (uax:Option Addr) (ucx:Nat) (aax:Option Addr) (acx:Nat):Array Value:=#[.int .i64 x.h.k,.string x.h.op,.string x.h.nm,.string x.h.tb,.int .i64 x.h.vk,.int .i64 x.h.vn,.string x.h.vs,.slice uax x.h.un.length ucx,.int .i64 x.h.pa,.int .i64 x.h.wk,.int .i64 x.h.ws,.slice aax x.ar.len acx]
theorem RD {C:Nat} {w:World} {g:Nat} {x:Ex} {uax:Option Addr} {ucx:Nat} {aax:Option Addr} {acx:Nat} (hB:Blk w g 29 (ex1 x uax ucx aax acx)) (Ex:Ec C w x uax aax) (hC:C≤g):As C w (some ⟨g,0,none⟩) (.cons x.h x.ar .nil) :=
 .inr ⟨g,0,rfl,hC,hB.tg,⟨⟨uax,ucx,aax,acx,⟨hB.cell (0),hB.cell (0+1),hB.cell (0+2),hB.cell (0+3),hB.cell (0+4),hB.cell (0+5),hB.cell (0+6),hB.cell (0+7),hB.cell (0+8),hB.cell (0+9),hB.cell (0+10),hB.cell (0+11)⟩,Ex.us,Ex.ar⟩,trivial⟩⟩
def ex2 (x:Ex) (uax:Option Addr) (ucx:Nat) (aax:Option Addr) (acx:Nat) (y:Ex) (uay:Option Addr) (ucy:Nat) (aay:Option Addr) (acy:Nat):Array Value:=#[.int .i64 x.h.k,.string x.h.op,.string x.h.nm,.string x.h.tb,.int .i64 x.h.vk,.int .i64 x.h.vn,.string x.h.vs,.slice uax x.h.un.length ucx,.int .i64 x.h.pa,.int .i64 x.h.wk,.int .i64 x.h.ws,.slice aax x.ar.len acx,.int .i64 y.h.k,.string y.h.op,.string y.h.nm,.string y.h.tb,.int .i64 y.h.vk,.int .i64 y.h.vn,.string y.h.vs,.slice uay y.h.un.length ucy,.int .i64 y.h.pa,.int .i64 y.h.wk,.int .i64 y.h.ws,.slice aay y.ar.len acy]
theorem nG {C:Nat} {w:World} {g:Nat} {x:Ex} {uax:Option Addr} {ucx:Nat} {aax:Option Addr} {acx:Nat} {y:Ex} {uay:Option Addr} {ucy:Nat} {aay:Option Addr} {acy:Nat} (hB:Blk w g 29 (ex2 x uax ucx aax acx y uay ucy aay acy)) (Ex:Ec C w x uax aax) (Ey:Ec C w y uay aay) (hC:C≤g):As C w (some ⟨g,0,none⟩) (.cons x.h x.ar (.cons y.h y.ar .nil)) :=
 .inr ⟨g,0,rfl,hC,hB.tg,⟨⟨uax,ucx,aax,acx,⟨hB.cell (0),hB.cell (0+1),hB.cell (0+2),hB.cell (0+3),hB.cell (0+4),hB.cell (0+5),hB.cell (0+6),hB.cell (0+7),hB.cell (0+8),hB.cell (0+9),hB.cell (0+10),hB.cell (0+11)⟩,Ex.us,Ex.ar⟩,⟨⟨uay,ucy,aay,acy,⟨hB.cell (0+12),hB.cell (0+12+1),hB.cell (0+12+2),hB.cell (0+12+3),hB.cell (0+12+4),hB.cell (0+12+5),hB.cell (0+12+6),hB.cell (0+12+7),hB.cell (0+12+8),hB.cell (0+12+9),hB.cell (0+12+10),hB.cell (0+12+11)⟩,Ey.us,Ey.ar⟩,trivial⟩⟩⟩
def ex3 (x:Ex) (uax:Option Addr) (ucx:Nat) (aax:Option Addr) (acx:Nat) (y:Ex) (uay:Option Addr) (ucy:Nat) (aay:Option Addr) (acy:Nat) (z:Ex) (uaz:Option Addr) (ucz:Nat) (aaz:Option Addr) (acz:Nat):Array Value:=#[.int .i64 x.h.k,.string x.h.op,.string x.h.nm,.string x.h.tb,.int .i64 x.h.vk,.int .i64 x.h.vn,.string x.h.vs,.slice uax x.h.un.length ucx,.int .i64 x.h.pa,.int .i64 x.h.wk,.int .i64 x.h.ws,.slice aax x.ar.len acx,.int .i64 y.h.k,.string y.h.op,.string y.h.nm,.string y.h.tb,.int .i64 y.h.vk,.int .i64 y.h.vn,.string y.h.vs,.slice uay y.h.un.length ucy,.int .i64 y.h.pa,.int .i64 y.h.wk,.int .i64 y.h.ws,.slice aay y.ar.len acy,.int .i64 z.h.k,.string z.h.op,.string z.h.nm,.string z.h.tb,.int .i64 z.h.vk,.int .i64 z.h.vn,.string z.h.vs,.slice uaz z.h.un.length ucz,.int .i64 z.h.pa,.int .i64 z.h.wk,.int .i64 z.h.ws,.slice aaz z.ar.len acz]
theorem UE {C:Nat} {w:World} {g:Nat} {x:Ex} {uax:Option Addr} {ucx:Nat} {aax:Option Addr} {acx:Nat} {y:Ex} {uay:Option Addr} {ucy:Nat} {aay:Option Addr} {acy:Nat} {z:Ex} {uaz:Option Addr} {ucz:Nat} {aaz:Option Addr} {acz:Nat} (hB:Blk w g 29 (ex3 x uax ucx aax acx y uay ucy aay acy z uaz ucz aaz acz)) (Ex:Ec C w x uax aax) (Ey:Ec C w y uay aay) (Ez:Ec C w z uaz aaz) (hC:C≤g):As C w (some ⟨g,0,none⟩) (.cons x.h x.ar (.cons y.h y.ar (.cons z.h z.ar .nil))) :=
 .inr ⟨g,0,rfl,hC,hB.tg,⟨⟨uax,ucx,aax,acx,⟨hB.cell (0),hB.cell (0+1),hB.cell (0+2),hB.cell (0+3),hB.cell (0+4),hB.cell (0+5),hB.cell (0+6),hB.cell (0+7),hB.cell (0+8),hB.cell (0+9),hB.cell (0+10),hB.cell (0+11)⟩,Ex.us,Ex.ar⟩,⟨⟨uay,ucy,aay,acy,⟨hB.cell (0+12),hB.cell (0+12+1),hB.cell (0+12+2),hB.cell (0+12+3),hB.cell (0+12+4),hB.cell (0+12+5),hB.cell (0+12+6),hB.cell (0+12+7),hB.cell (0+12+8),hB.cell (0+12+9),hB.cell (0+12+10),hB.cell (0+12+11)⟩,Ey.us,Ey.ar⟩,⟨⟨uaz,ucz,aaz,acz,⟨hB.cell (0+12+12),hB.cell (0+12+12+1),hB.cell (0+12+12+2),hB.cell (0+12+12+3),hB.cell (0+12+12+4),hB.cell (0+12+12+5),hB.cell (0+12+12+6),hB.cell (0+12+12+7),hB.cell (0+12+12+8),hB.cell (0+12+12+9),hB.cell (0+12+12+10),hB.cell (0+12+12+11)⟩,Ez.us,Ez.ar⟩,trivial⟩⟩⟩⟩
theorem nD (n:Int) (w:World):Calls Tryz.prog 279 #[.int .i64 n] w fun e w' => e=.returned (.agg (exC (dP n) none 0 none 0))∧Below w.heap.size w w':=by
 go_enter Tryz.func279,Tryz.ntmps279
 go_wp2_with fail;refine aW rfl _ _ w.heap.size _ _ rfl (Blk.new w _ _) rfl ?_;exact ⟨rfl,au (b0 w) _⟩
theorem lg (C:Nat) (n:Int) (w:World):Ec C w (dP n) none none:=⟨.inl rfl,.inl rfl⟩
theorem kQ (op:ByteArray) (x:Ex) (uax:Option Addr) (ucx:Nat) (aax:Option Addr) (acx:Nat) (C:Nat) (w:World) (E:Ec C w x uax aax) (hC:C≤w.heap.size):Calls Tryz.prog 174 #[.string op,.agg (exC x uax ucx aax acx)] w fun e w' =>
    ∃ aa ac,e=.returned (.agg (exC (lu op x) none 0 aa ac))∧Ec C w' (lu op x) none aa∧Below w.heap.size w w':=by
 have EH:=Hy E;clear E;unfold exC
 go_enter Tryz.func174,Tryz.ntmps174
 go_wp2_with fail;refine aW rfl _ _ (w.heap.size+1) _ _ rfl (by have:=(Blk.new (w.alloc (.cells (ex1 x uax ucx aax acx) 29)) 29 (exC (lu op x) none 0 (some ⟨w.heap.size+2,0,none⟩) 1)).past (.cells (ex1 x uax ucx aax acx) 29);rw [show (w.alloc (.cells (ex1 x uax ucx aax acx) 29)).heap.size=w.heap.size+1 by simp] at this;exact this) rfl ?_;refine ⟨some ⟨w.heap.size+2,0,none⟩,1,rfl,⟨.inl rfl,?_⟩,au (au (au (b0 w) _) _) _⟩;have hB:=Blk.new ((w.alloc (.cells (ex1 x uax ucx aax acx) 29)).alloc (.cells (exC (lu op x) none 0 (some ⟨w.heap.size+2,0,none⟩) 1) 29)) 29 (ex1 x uax ucx aax acx);rw [show ((w.alloc (.cells (ex1 x uax ucx aax acx) 29)).alloc (.cells (exC (lu op x) none 0 (some ⟨w.heap.size+2,0,none⟩) 1) 29)).heap.size=w.heap.size+2 by simp] at hB;exact RD hB (EH.o.kp (dG (au (au (au (b0 w) _) _) _))) (by omega)
theorem fZ (op:ByteArray) (x:Ex) (uax:Option Addr) (ucx:Nat) (aax:Option Addr) (acx:Nat) (y:Ex) (uay:Option Addr) (ucy:Nat) (aay:Option Addr) (acy:Nat) (C:Nat) (w:World) (E:Ec C w x uax aax) (E2:Ec C w y uay aay) (hC:C≤w.heap.size) :
    Calls Tryz.prog 177 #[.string op,.agg (exC x uax ucx aax acx),.agg (exC y uay ucy aay acy)] w fun e w' =>
    ∃ aa ac,e=.returned (.agg (exC (bV op x y) none 0 aa ac))∧Ec C w' (bV op x y) none aa∧Below w.heap.size w w':=by
 have EH:=Hy E;have EH2:=Hy E2;clear E E2;have q0:=str_eq op [100,101,102,97,117,108,116];unfold bV;by_cases hop:op=⟨#[100,101,102,97,117,108,116]⟩
 ·rw [if_pos hop];rw [dT hop] at q0;clear hop;unfold exC
  go_enter Tryz.func177,Tryz.ntmps177
  go_wp2_with fail;refine aW rfl _ _ (w.heap.size+2) _ _ rfl (by have:=(Blk.new ((w.alloc (.cells (ex1 x uax ucx aax acx) 29)).alloc (.cells (ex1 y uay ucy aay acy) 29)) 29 (exC ⟨{ h0 with k:=9 },.cons x.h x.ar (.cons y.h y.ar .nil)⟩ none 0 (some ⟨w.heap.size+3,0,none⟩) 2)).past (.cells (ex2 x uax ucx aax acx y uay ucy aay acy) 29);rw [show ((w.alloc (.cells (ex1 x uax ucx aax acx) 29)).alloc (.cells (ex1 y uay ucy aay acy) 29)).heap.size=w.heap.size+2 by simp] at this;exact this) rfl ?_;refine ⟨some ⟨w.heap.size+3,0,none⟩,2,rfl,⟨.inl rfl,?_⟩,au (au (au (au (b0 w) _) _) _) _⟩;have hB:=Blk.new (((w.alloc (.cells (ex1 x uax ucx aax acx) 29)).alloc (.cells (ex1 y uay ucy aay acy) 29)).alloc (.cells (exC ⟨{ h0 with k:=9 },.cons x.h x.ar (.cons y.h y.ar .nil)⟩ none 0 (some ⟨w.heap.size+3,0,none⟩) 2) 29)) 29 (ex2 x uax ucx aax acx y uay ucy aay acy);rw [show (((w.alloc (.cells (ex1 x uax ucx aax acx) 29)).alloc (.cells (ex1 y uay ucy aay acy) 29)).alloc (.cells (exC ⟨{ h0 with k:=9 },.cons x.h x.ar (.cons y.h y.ar .nil)⟩ none 0 (some ⟨w.heap.size+3,0,none⟩) 2) 29)).heap.size=w.heap.size+3 by simp] at hB;have hk:=dG (C:=C) (au (au (au (au (b0 w) (.cells (ex1 x uax ucx aax acx) 29)) (.cells (ex1 y uay ucy aay acy) 29)) (.cells (exC ⟨{ h0 with k:=9 },.cons x.h x.ar (.cons y.h y.ar .nil)⟩ none 0 (some ⟨w.heap.size+3,0,none⟩) 2) 29)) (.cells (ex2 x uax ucx aax acx y uay ucy aay acy) 29));exact nG hB (EH.o.kp hk) (EH2.o.kp hk) (by omega)
 rw [if_neg hop];rw [dF hop] at q0;clear hop;unfold exC
 go_enter Tryz.func177,Tryz.ntmps177
 go_wp2_with fail;refine aW rfl _ _ (w.heap.size+2) _ _ rfl (by have:=(Blk.new ((w.alloc (.cells (ex1 x uax ucx aax acx) 29)).alloc (.cells (ex1 y uay ucy aay acy) 29)) 29 (exC ⟨{ h0 with k:=7,op:=op },.cons x.h x.ar (.cons y.h y.ar .nil)⟩ none 0 (some ⟨w.heap.size+3,0,none⟩) 2)).past (.cells (ex2 x uax ucx aax acx y uay ucy aay acy) 29);rw [show ((w.alloc (.cells (ex1 x uax ucx aax acx) 29)).alloc (.cells (ex1 y uay ucy aay acy) 29)).heap.size=w.heap.size+2 by simp] at this;exact this) rfl ?_;refine ⟨some ⟨w.heap.size+3,0,none⟩,2,rfl,⟨.inl rfl,?_⟩,au (au (au (au (b0 w) _) _) _) _⟩;have hB:=Blk.new (((w.alloc (.cells (ex1 x uax ucx aax acx) 29)).alloc (.cells (ex1 y uay ucy aay acy) 29)).alloc (.cells (exC ⟨{ h0 with k:=7,op:=op },.cons x.h x.ar (.cons y.h y.ar .nil)⟩ none 0 (some ⟨w.heap.size+3,0,none⟩) 2) 29)) 29 (ex2 x uax ucx aax acx y uay ucy aay acy);rw [show (((w.alloc (.cells (ex1 x uax ucx aax acx) 29)).alloc (.cells (ex1 y uay ucy aay acy) 29)).alloc (.cells (exC ⟨{ h0 with k:=7,op:=op },.cons x.h x.ar (.cons y.h y.ar .nil)⟩ none 0 (some ⟨w.heap.size+3,0,none⟩) 2) 29)).heap.size=w.heap.size+3 by simp] at hB;have hk:=dG (C:=C) (au (au (au (au (b0 w) (.cells (ex1 x uax ucx aax acx) 29)) (.cells (ex1 y uay ucy aay acy) 29)) (.cells (exC ⟨{ h0 with k:=7,op:=op },.cons x.h x.ar (.cons y.h y.ar .nil)⟩ none 0 (some ⟨w.heap.size+3,0,none⟩) 2) 29)) (.cells (ex2 x uax ucx aax acx y uay ucy aay acy) 29));exact nG hB (EH.o.kp hk) (EH2.o.kp hk) (by omega)
def zq (n j:Nat) (l:List Tk):Prop:=∀ k (hk:k<(opL n).length),k<j→isT (opL n)[k] l=false
theorem NQ {n j:Nat} {l:List Tk} (h:zq n j l) (hj:j<(opL n).length) (ht:isT (opL n)[j] l=true):opr n l=(opL n)[j]:=by
 unfold opr;have:(opL n).find? (fun s=>isT s l)=some (opL n)[j]:=by
  rw [List.find?_eq_some_iff_getElem];refine ⟨ht,j,hj,rfl,fun k hk=>?_⟩;rw [h k (by omega) hk];rfl
 rw [this];rfl
theorem Lb {n:Nat} {l:List Tk} (h:zq n (opL n).length l):opr n l=.empty:=by
 unfold opr;have:(opL n).find? (fun s=>isT s l)=none:=by
  rw [List.find?_eq_none];intro x hx;obtain ⟨k,hk,rfl⟩:=List.getElem_of_mem hx;rw [h k hk hk];decide
 rw [this];rfl
theorem Qr:∀ (n:Nat),∀ x ∈ opL n,x≠.empty:=by
 intro n x hx;rcases n with _ | _ | _ | _ | _ | n <;> simp only [opL,List.mem_cons,List.not_mem_nil,or_false] at hx
 all_goals (rcases hx with rfl | rfl | rfl | rfl) <;> (intro e;have:=congrArg (fun b:ByteArray=>b.size) e;revert this;decide)
theorem Ei (n:Nat):(opL n).length≤4:=by
 rcases n with _ | _ | _ | _ | _ | n <;> simp [opL]
def Opp (B n:Nat) (l:List Tk) (w':World):Prop:=Ps w' B (if opr n l=.empty then l else l.tail)
theorem dX (B:Nat) (i:Bool) (n:Nat) (hn:n<6) (l:List Tk) (w:World) (h:Ps w B l) :
    Calls Tryz.prog 176 #[.agg #[.pointer (some ⟨B,0,none⟩),.bool i],.int .i64 (n:Nat)] w fun e w' => e=.returned (.string (opr n l))∧Opp B n l w'∧Mv w.heap.size B w w':=by
 have hlt:=Hy h.lt;obtain ⟨w0,T,h0,hB⟩:=h.tb;obtain ⟨b,off,cap,hc,hcs⟩:=T.ops n hn;have h0':=h0.trans ((au (b0 w) (.cells #[.pointer (some ⟨B,0,none⟩),.bool i] 108)).mono h0.size);have c0:=(h0'.cell (p:=⟨4,n,none⟩) (block_lt_of_cell hc)).trans hc;have P:=Hy (h.keeps (au (b0 w) (.cells #[.pointer (some ⟨B,0,none⟩),.bool i] 108)));have M:=Hy (Mv.of (B:=B) (au (b0 w) (.cells #[.pointer (some ⟨B,0,none⟩),.bool i] 108)));have SC:=Hy (Blk.new w 108 #[.pointer (some ⟨B,0,none⟩),.bool i]);have H0:=Hy h0';have HC:=Hy hcs;have HB:=Hy hB;have h4:=Hy (Ei n);have q1:(n:Int)<6:=by omega
 have q2:(0:Int)≤(n:Int):=by omega
 clear h T h0 h0' hc hcs hB
 go_enter Tryz.func176,Tryz.ntmps176
 go_wp2_with fail;clear c0 q1 q2;obtain ⟨N,hN⟩:∃ N,(opL n).length=N:=⟨_,rfl⟩;have NN:=Hy hN;rw [hN] at h4;rw [hN];clear hN
 go_loopw [11] (fun x wr => ∃ j:Nat,x=.int .i64 (j:Nat)∧Hid (j≤N)∧Hid (zq n j l)∧Hid (Ps wr B l)∧Hid (Mv w.heap.size B w wr)∧Hid (Blk wr w.heap.size 108 #[.pointer (some ⟨B,0,none⟩),.bool i])∧Hid (Below w0.heap.size w0 wr)) (fun x _=>N - (intOf x).toNat)
 case atStart=>exact ⟨0,rfl,Hy zl,Hy (fun k _ hk=>absurd hk (Nat.not_lt_zero _)),P,M,SC,H0⟩
 case round =>
  clear P M SC H0;obtain ⟨j,rfl,hj,hF,P,M,SC,H0⟩:=hrel;by_cases hc:j<N
  ·have hjl:j<(opL n).length:=by have:=NN.o;omega
   have c1:=(H0.o.cell (p:=⟨b,off+j,none⟩) (block_lt_of_cell (HC.o j hjl))).trans (HC.o j hjl);have q2:decide ((j:Int)<(N:Int))=true:=dT (by omega);have q3:(j:Int)<(N:Int):=by omega
   have q4:(0:Int)≤(j:Int):=by omega
   have f4:=Hy (aS (j:=j) (by have:=h4.o;omega));have e0:=SC.o.cell 0;cases ht:isT (opL n)[j] l
   ·have hF2:=Hy (show zq n (j+1) l from fun k hk hkj=>by
      rcases Nat.lt_succ_iff_lt_or_eq.1 hkj with h | rfl
      · exact hF.o k hk h
      · exact ht)
    have HT:=Hy ht;clear ht hF;generalize (opL n)[j]=s at *;go_wp2_with fail;refine (aV B s l _ P.o HT.o).mono ?_;rintro e w3 ⟨rfl,pp,mm⟩;have P3:=Hy pp;have SC3:=Hy (SC.o.mv mm (by have:=hlt.o;omega) SC.o.lt);have M3:=Hy (M.o.next mm);have H3:=Hy (H0.o.trans (mm.below HB.o (by have:=H0.o.size;omega)));clear pp mm P SC M H0 e0 c1;go_wp2_with fail;exact ⟨⟨j+1,congrArg (Value.int .i64) f4.o,Hy hc,hF2,P3,M3,SC3,H3⟩,aN hc f4.o⟩
   have hO:=Hy (NQ hF.o hjl ht);have hne:=Hy (Qr n _ (List.getElem_mem hjl));have HT:=Hy ht;clear ht hF;generalize (opL n)[j]=s at *;go_wp2_with fail;refine (bZ B s l _ P.o HT.o).mono ?_;rintro e w3 ⟨rfl,pp,mm⟩;have P3:=Hy pp;have M3:=Hy (M.o.next mm);clear pp mm P SC M H0 e0 c1;go_wp2_with fail;go_ret;refine ⟨by rw [hO.o];rfl,?_,M3.o⟩;unfold Opp;rw [if_neg (by rw [hO.o];exact hne.o)];exact P3.o
  have hO:=Hy (Lb (n:=n) (l:=l) (fun k hk h=>hF.o k hk (by have:=NN.o;omega)));have q2:decide ((j:Int)<(N:Int))=false:=dF (by omega);clear hF;go_wp2_with fail;go_ret;refine ⟨by rw [hO.o];rfl,?_,M.o⟩;unfold Opp;rw [if_pos hO.o];exact P.o
end pa
end Go.Proofs.YtbahfelnbofjjaaGreatDoor
