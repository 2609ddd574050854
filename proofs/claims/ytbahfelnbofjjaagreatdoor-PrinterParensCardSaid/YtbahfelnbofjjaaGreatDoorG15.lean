/-
  example: the chapter's examples; Expressions, types, tables, features and catalogs that came in; Types, tables, features and catalogs that came in; values of the call's arguments; From a walk of a statement to its row and its card: what the listed variables hold; how values come in; Parsing ar plain data: expressions, types, windows, units, tables and features of a list of tokens; The table of operators, beside the other tables.
-/
import Derived.Deep.Slices
import Derived.SizedLaws
import Derived.ProofKit
import Derived.LaidMore
import Derived.Stop.Joined
import Derived.Stop.LaidErr
import Derived.SevenTiedAt
import Derived.Test.YtbahfelnbofjjaaGreatDoorCards
import Derived.Test.YtbahfelnbofjjaaGreatDoorG14
import Derived.Test.YtbahfelnbofjjaaGreatDoorRows
import Derived.Test.YtbahfelnbofjjaaGreatDoorTie
set_option maxRecDepth 100000
set_option maxHeartbeats 16000000
namespace Go.Proofs.YtbahfelnbofjjaaGreatDoor
namespace ch
open Go.RowKit dec
theorem Dm (w:World) (T:Tabq w):Calls Tryz.prog 12 #[] w (Bl true w):=by
 have HT:=Hy T;clear T;have CN:=Hy (fun (n:ByteArray) (w:World)=>QG n w)
 go_enter Tryz.func12,Tryz.ntmps12
 go_wp2_with fail;refine (CN.o _ _).mono ?_;rintro e w1 ⟨ca,rfl,X1,b1⟩;have XA:=Hy X1;have B:=Hy b1;replace HT:=Hy (HT.o.stays b1);clear X1 b1;go_wp2_with fail;refine (CN.o _ _).mono ?_;rintro e w2 ⟨cb,rfl,X2,b2⟩;have XB:=Hy X2;replace XA:=Hy (XA.o.keeps b2);replace B:=Hy (aA B.o b2);replace HT:=Hy (HT.o.stays b2);clear X2 b2;go_wp2_with fail;refine (CN.o _ _).mono ?_;rintro e w3 ⟨cc,rfl,X3,b3⟩;have XC:=Hy X3;replace XA:=Hy (XA.o.keeps b3);replace XB:=Hy (XB.o.keeps b3);replace B:=Hy (aA B.o b3);replace HT:=Hy (HT.o.stays b3);clear X3 b3 CN
 go_upto_region 2 with (first
   | (refine lK (.tmp 1) (.tmp 18) rfl rfl _ _ _ _ _ rfl rfl XA.o (((Blk.new _ _ _).past _).past _) rfl ?_;intro w4 L1 M1)
   | (refine lK (.tmp 2) (.tmp 19) rfl rfl _ _ _ _ _ rfl rfl XB.o (Blk.st ((j4 _ _ _ _ (iL _ _).symm).past _) M1 (by omega)) rfl ?_;intro w5 L2 M2)
   | (refine lK (.tmp 3) (.tmp 20) rfl rfl _ _ _ _ _ rfl rfl XC.o (Blk.st (Blk.st (j4 _ _ _ _ (by rw [iL,iL])) M1 (by omega)) M2 (by omega)) rfl ?_;intro w6 L3 M3))
 have b6:=((au (au (au (b0 w3) _) _) _).trans (M1.below lr)).trans ((M2.below (Nat.le_succ _)).trans (M3.below (by omega)));have GA:=Hy (Blk.st (Blk.st L1 M2 (by omega)) M3 (by omega));have GB:=Hy (Blk.st L2 M3 (by omega));have GC:=Hy L3;replace XA:=Hy (XA.o.keeps b6);replace XB:=Hy (XB.o.keeps b6);replace XC:=Hy (XC.o.keeps b6);replace B:=Hy (aA B.o b6);replace HT:=Hy (HT.o.stays b6);clear L1 L2 L3 M1 M2 M3 b6;generalize w3.heap.size+1+1=gc at *;generalize w3.heap.size+1=gb at *;generalize w3.heap.size=ga at *
 go_upto_region 3 with fail
 have U:=Hy (Blk.new w6 82 #[.string ⟨#[101,117,114]⟩,.int .i64 1]);have b7:=au (b0 w6) (.cells #[.string ⟨#[101,117,114]⟩,.int .i64 1] 82);replace GA:=Hy (GA.o.keeps b7);replace GB:=Hy (GB.o.keeps b7);replace GC:=Hy (GC.o.keeps b7);replace XA:=Hy (XA.o.keeps b7);replace XB:=Hy (XB.o.keeps b7);replace XC:=Hy (XC.o.keeps b7);replace B:=Hy (aA B.o b7);replace HT:=Hy (HT.o.stays b7);clear b7;obtain ⟨w7,hw⟩:∃ w7,w7=w6.alloc (.cells #[.string ⟨#[101,117,114]⟩,.int .i64 1] 82):=⟨_,rfl⟩;rw [← hw] at U GA GB GC XA XB XC B HT;refine jv w7 hw ?_;clear hw;generalize w6.heap.size=gu at *
 go_upto_region 4 with fail
 have K:=Hy (Blk.new w7 29 (exC o8.h 0 (some ⟨gu,0,none⟩) 1 none 0));have b8:=au (b0 w7) (.cells (exC o8.h 0 (some ⟨gu,0,none⟩) 1 none 0) 29);have XK:=Hy (show ExV _ (exC o8.h 0 (some ⟨gu,0,none⟩) 1 none 0) o8 from ⟨some ⟨gu,0,none⟩,1,none,0,rfl,IB (U.o.keeps b8),Fs.nil _⟩);replace GA:=Hy (GA.o.keeps b8);replace GB:=Hy (GB.o.keeps b8);replace GC:=Hy (GC.o.keeps b8);replace XA:=Hy (XA.o.keeps b8);replace XB:=Hy (XB.o.keeps b8);replace XC:=Hy (XC.o.keeps b8);replace B:=Hy (aA B.o b8);replace HT:=Hy (HT.o.stays b8);replace U:=Hy (U.o.keeps b8);clear b8;obtain ⟨w8,hw⟩:∃ w8,w8=w7.alloc (.cells (exC o8.h 0 (some ⟨gu,0,none⟩) 1 none 0) 29):=⟨_,rfl⟩;rw [← hw] at U GA GB GC XA XB XC B HT K XK;refine jv w8 hw ?_;clear hw;generalize exC o8.h 0 (some ⟨gu,0,none⟩) 1 none 0=ck at *;generalize w7.heap.size=gk at *;have C1:=Hy (fun (op:ByteArray) (x:Ex) (cs:Array Value) (w:World) (hx:ExV w cs x)=>SN op x cs w hx);have C2:=Hy (fun (op:ByteArray) (x y:Ex) (cs ds:Array Value) (w:World) (hx:ExV w cs x) (hy:ExV w ds y)=>RU op x y cs ds w hx hy)
 go_cut [65] from 5 (fun v65 wx=>v65=.bool false∧Hid (Below w8.heap.size w8 wx))
 case first =>
  refine wp_region_held_drew (S:=fun w' => Below w8.heap.size w8 w') (by kernel_rfl) (b0 w8).drew (fun hH=>?_);refine aZ 0 26 (.agg ca) rfl (by kernel_rfl) rfl (fun _ _ _ h=>h) rfl hH (fun w' hS=>aY aJ Tryz.underlying29 rfl (.tmp 1) rfl _ _ _ rfl (GA.o.keeps hS) XA.o.size) ?_;simp only [sz0,sz1];refine aZ 1 27 (.agg cb) rfl (by kernel_rfl) rfl (fun _ _ _ h=>h) rfl hH (fun w' hS=>aY aJ Tryz.underlying29 rfl (.tmp 2) rfl _ _ _ rfl (GB.o.keeps hS) XB.o.size) ?_;simp only [sz0,sz1];refine aZ 2 28 (.agg ck) rfl (by kernel_rfl) rfl (fun _ _ _ h=>h) rfl hH (fun w' hS=>aY aJ Tryz.underlying29 rfl (.tmp 5) rfl _ _ _ rfl (K.o.keeps hS) XK.o.size) ?_;simp only [sz0,sz1];generalize w8.drew=y0 at *;refine aC 3 (fun K hK=>?_);go_simp;refine (C2.o ⟨#[42]⟩ (dz ⟨#[98]⟩) o8 cb ck _ (XB.o.keeps hH) (XK.o.keeps hH)).mono ?_;rintro e y1 ⟨d1,rfl,x1,b1⟩;refine hK.o _ _ (aA hH b1) (fun hH=>?_);clear hK K;have D1:=Hy x1;clear x1 b1;refine aC 4 (fun K hK=>?_);go_simp;refine (C2.o ⟨#[43]⟩ (dz ⟨#[97]⟩) (j5 ⟨#[42]⟩ (dz ⟨#[98]⟩) o8) ca d1 _ (XA.o.keeps hH) D1.o).mono ?_;rintro e y2 ⟨d2,rfl,x2,b2⟩;refine hK.o _ _ (aA hH b2) (fun hH=>?_);clear hK K;have D2:=Hy x2;clear x2 b2;refine aC 5 (fun K hK=>?_);go_simp;refine (gY _ _ _ _ D2.o s1 z1 e1 x1 (HT.o.stays hH)).mono ?_;rintro e y3 ⟨rfl,b3⟩;refine hK.o _ _ (aA hH b3) (fun hH=>?_);clear hK K;clear b3;refine ak 6 32 ?_ hH (fun w' hS=>?_) ?_;rotate_left
  ·go_simp;try with_reducible rfl
  simp only [sz0,sz1];refine ak 7 33 ?_ hH (fun w' hS=>?_) ?_;rotate_left
  ·go_simp;try with_reducible rfl
  simp only [sz0,sz1];refine aZ 8 34 (.agg ca) rfl (by kernel_rfl) rfl (fun _ _ _ h=>h) rfl hH (fun w' hS=>aY aJ Tryz.underlying29 rfl (.tmp 1) rfl _ _ _ rfl (GA.o.keeps hS) XA.o.size) ?_;simp only [sz0,sz1];refine aZ 9 35 (.agg cb) rfl (by kernel_rfl) rfl (fun _ _ _ h=>h) rfl hH (fun w' hS=>aY aJ Tryz.underlying29 rfl (.tmp 2) rfl _ _ _ rfl (GB.o.keeps hS) XB.o.size) ?_;simp only [sz0,sz1];refine aZ 11 37 (.agg cc) rfl (by kernel_rfl) rfl (fun _ _ _ h=>h) rfl hH (fun w' hS=>aY aJ Tryz.underlying29 rfl (.tmp 3) rfl _ _ _ rfl (GC.o.keeps hS) XC.o.size) ?_;simp only [sz0,sz1];refine aC 10 (fun K hK=>?_);go_simp;refine (C2.o ⟨#[43]⟩ (dz ⟨#[97]⟩) (dz ⟨#[98]⟩) ca cb _ (XA.o.keeps hH) (XB.o.keeps hH)).mono ?_;rintro e y4 ⟨d4,rfl,x4,b4⟩;refine hK.o _ _ (aA hH b4) (fun hH=>?_);clear hK K;have D4:=Hy x4;clear x4 b4;refine aC 12 (fun K hK=>?_);go_simp;refine (C2.o ⟨#[42]⟩ (j5 ⟨#[43]⟩ (dz ⟨#[97]⟩) (dz ⟨#[98]⟩)) (dz ⟨#[99]⟩) d4 cc _ D4.o (XC.o.keeps hH)).mono ?_;rintro e y5 ⟨d5,rfl,x5,b5⟩;refine hK.o _ _ (aA hH b5) (fun hH=>?_);clear hK K;have D5:=Hy x5;clear x5 b5;refine aC 13 (fun K hK=>?_);go_simp;refine (gY _ _ _ _ D5.o s2 z2 e2 x2 (HT.o.stays hH)).mono ?_;rintro e y6 ⟨rfl,b6⟩;refine hK.o _ _ (aA hH b6) (fun hH=>?_);clear hK K;clear b6;refine ak 14 40 ?_ hH (fun w' hS=>?_) ?_;rotate_left
  ·go_simp;try with_reducible rfl
  simp only [sz0,sz1];refine ak 15 41 ?_ hH (fun w' hS=>?_) ?_;rotate_left
  ·go_simp;try with_reducible rfl
  simp only [sz0,sz1];refine ak 16 42 ?_ hH (fun w' hS=>?_) ?_;rotate_left
  ·go_simp;try with_reducible rfl
  simp only [sz0,sz1];refine aZ 17 43 (.agg ca) rfl (by kernel_rfl) rfl (fun _ _ _ h=>h) rfl hH (fun w' hS=>aY aJ Tryz.underlying29 rfl (.tmp 1) rfl _ _ _ rfl (GA.o.keeps hS) XA.o.size) ?_;simp only [sz0,sz1];refine aC 18 (fun K hK=>?_);go_simp;refine (C1.o ⟨#[45]⟩ (dz ⟨#[97]⟩) ca _ (XA.o.keeps hH)).mono ?_;rintro e y7 ⟨d7,rfl,x7,b7⟩;refine hK.o _ _ (aA hH b7) (fun hH=>?_);clear hK K;have D7:=Hy x7;clear x7 b7;refine aC 19 (fun K hK=>?_);go_simp;refine (C1.o ⟨#[45]⟩ (tC ⟨#[45]⟩ (dz ⟨#[97]⟩)) d7 _ D7.o).mono ?_;rintro e y8 ⟨d8,rfl,x8,b8⟩;refine hK.o _ _ (aA hH b8) (fun hH=>?_);clear hK K;have D8:=Hy x8;clear x8 b8;refine aC 20 (fun K hK=>?_);go_simp;refine (gY _ _ _ _ D8.o s3 z3 e3 x3 (HT.o.stays hH)).mono ?_;rintro e y9 ⟨rfl,b9⟩;refine hK.o _ _ (aA hH b9) (fun hH=>?_);clear hK K;clear b9;refine ak 21 47 ?_ hH (fun w' hS=>?_) ?_;rotate_left
  ·go_simp;try with_reducible rfl
  simp only [sz0,sz1];refine ak 22 48 ?_ hH (fun w' hS=>?_) ?_;rotate_left
  ·go_simp;try with_reducible rfl
  simp only [sz0,sz1];refine ak 23 49 ?_ hH (fun w' hS=>?_) ?_;rotate_left
  ·go_simp;try with_reducible rfl
  simp only [sz0,sz1];refine aZ 24 50 (.agg ca) rfl (by kernel_rfl) rfl (fun _ _ _ h=>h) rfl hH (fun w' hS=>aY aJ Tryz.underlying29 rfl (.tmp 1) rfl _ _ _ rfl (GA.o.keeps hS) XA.o.size) ?_;simp only [sz0,sz1];refine aZ 25 51 (.agg cb) rfl (by kernel_rfl) rfl (fun _ _ _ h=>h) rfl hH (fun w' hS=>aY aJ Tryz.underlying29 rfl (.tmp 2) rfl _ _ _ rfl (GB.o.keeps hS) XB.o.size) ?_;simp only [sz0,sz1];refine aZ 26 52 (.agg cc) rfl (by kernel_rfl) rfl (fun _ _ _ h=>h) rfl hH (fun w' hS=>aY aJ Tryz.underlying29 rfl (.tmp 3) rfl _ _ _ rfl (GC.o.keeps hS) XC.o.size) ?_;simp only [sz0,sz1];refine aC 27 (fun K hK=>?_);go_simp;refine (C2.o ⟨#[45]⟩ (dz ⟨#[98]⟩) (dz ⟨#[99]⟩) cb cc _ (XB.o.keeps hH) (XC.o.keeps hH)).mono ?_;rintro e y10 ⟨d10,rfl,x10,b10⟩;refine hK.o _ _ (aA hH b10) (fun hH=>?_);clear hK K;have D10:=Hy x10;clear x10 b10;refine aC 28 (fun K hK=>?_);go_simp;refine (C2.o ⟨#[45]⟩ (dz ⟨#[97]⟩) (j5 ⟨#[45]⟩ (dz ⟨#[98]⟩) (dz ⟨#[99]⟩)) ca d10 _ (XA.o.keeps hH) D10.o).mono ?_;rintro e y11 ⟨d11,rfl,x11,b11⟩;refine hK.o _ _ (aA hH b11) (fun hH=>?_);clear hK K;have D11:=Hy x11;clear x11 b11;refine aC 29 (fun K hK=>?_);go_simp;refine (gY _ _ _ _ D11.o s4 z4 e4 x4 (HT.o.stays hH)).mono ?_;rintro e y12 ⟨rfl,b12⟩;refine hK.o _ _ (aA hH b12) (fun hH=>?_);clear hK K;clear b12;refine ak 30 56 ?_ hH (fun w' hS=>?_) ?_;rotate_left
  ·go_simp;try with_reducible rfl
  simp only [sz0,sz1];refine ak 31 57 ?_ hH (fun w' hS=>?_) ?_;rotate_left
  ·go_simp;try with_reducible rfl
  simp only [sz0,sz1];refine ak 32 58 ?_ hH (fun w' hS=>?_) ?_;rotate_left
  ·go_simp;try with_reducible rfl
  simp only [sz0,sz1];refine aZ 33 59 (.agg ca) rfl (by kernel_rfl) rfl (fun _ _ _ h=>h) rfl hH (fun w' hS=>aY aJ Tryz.underlying29 rfl (.tmp 1) rfl _ _ _ rfl (GA.o.keeps hS) XA.o.size) ?_;simp only [sz0,sz1];refine aZ 34 60 (.agg cb) rfl (by kernel_rfl) rfl (fun _ _ _ h=>h) rfl hH (fun w' hS=>aY aJ Tryz.underlying29 rfl (.tmp 2) rfl _ _ _ rfl (GB.o.keeps hS) XB.o.size) ?_;simp only [sz0,sz1];refine aC 35 (fun K hK=>?_);go_simp;refine (C2.o ⟨#[61,61]⟩ (dz ⟨#[97]⟩) (dz ⟨#[98]⟩) ca cb _ (XA.o.keeps hH) (XB.o.keeps hH)).mono ?_;rintro e y13 ⟨d13,rfl,x13,b13⟩;refine hK.o _ _ (aA hH b13) (fun hH=>?_);clear hK K;have D13:=Hy x13;clear x13 b13;refine aC 36 (fun K hK=>?_);go_simp;refine (C1.o ⟨#[110,111,116]⟩ (j5 ⟨#[61,61]⟩ (dz ⟨#[97]⟩) (dz ⟨#[98]⟩)) d13 _ D13.o).mono ?_;rintro e y14 ⟨d14,rfl,x14,b14⟩;refine hK.o _ _ (aA hH b14) (fun hH=>?_);clear hK K;have D14:=Hy x14;clear x14 b14;refine aC 37 (fun K hK=>?_);go_simp;refine (gY _ _ _ _ D14.o s5 z5 e5 x5 (HT.o.stays hH)).mono ?_;rintro e y15 ⟨rfl,b15⟩;refine hK.o _ _ (aA hH b15) (fun hH=>?_);clear hK K;clear b15;refine ak 38 64 ?_ hH (fun w' hS=>?_) ?_;rotate_left
  ·go_simp;try with_reducible rfl
  simp only [sz0,sz1];refine ak 39 65 ?_ hH (fun w' hS=>?_) ?_;rotate_left
  ·go_simp;try with_reducible rfl
  simp only [sz0,sz1];refine wpAnyH_done (by kernel_rfl) ?_ _;go_wp2_with fail
  go_meet
  case rel=>exact ⟨rfl,Hy hH⟩
 case rest =>
  obtain ⟨rfl,BW⟩:=hcut;replace B:=Hy (aA B.o BW.o);replace HT:=Hy (HT.o.stays BW.o);replace GA:=Hy (GA.o.keeps BW.o);replace GB:=Hy (GB.o.keeps BW.o);replace GC:=Hy (GC.o.keeps BW.o);replace U:=Hy (U.o.keeps BW.o);replace XA:=Hy (XA.o.keeps BW.o);replace XB:=Hy (XB.o.keeps BW.o);replace XC:=Hy (XC.o.keeps BW.o);clear BW XK K C1 C2;generalize wc=w9 at *;obtain ⟨ua,uc,aa,ac,e1',EA⟩:=XA.o;obtain ⟨ub,ud,ab,ad,e2',EB⟩:=XB.o;obtain ⟨ue,uf,ae,af,e3',EC⟩:=XC.o;subst e1' e2' e3';have HA:=Hy EA;have HB:=Hy EB;have HC:=Hy EC;clear XA XB XC EA EB EC;unfold exC at *
  go_upto_region 7 with (first
    | (refine aF aJ Tryz.underlying29 rfl (.tmp 1) rfl rfl _ _ _ rfl GA.o rfl ?_)
    | (refine aF aJ Tryz.underlying29 rfl (.tmp 2) rfl rfl _ _ _ rfl GB.o rfl ?_)
    | (refine aF aJ Tryz.underlying29 rfl (.tmp 3) rfl rfl _ _ _ rfl GC.o rfl ?_))
  have b6:=bY w9 (.cells (c3 ua aa ub ab ue ae uc ac ud ad uf af) 29) (.cells (exC qR.h 3 none 0 (some ⟨w9.heap.size,0,none⟩) 3) 29);have XH:=Hy (Rv (HA.o.keeps b6) (HB.o.keeps b6) (HC.o.keeps b6) ((Blk.new w9 _ _).past _));have GH:=Hy (j4 (w9.alloc (.cells (c3 ua aa ub ab ue ae uc ac ud ad uf af) 29)) 29 (exC qR.h 3 none 0 (some ⟨w9.heap.size,0,none⟩) 3) (w9.heap.size+1) (iL _ _).symm);replace B:=Hy (aA B.o b6);replace HT:=Hy (HT.o.stays b6);replace U:=Hy (U.o.keeps b6);clear b6 GA GB GC HA HB HC;obtain ⟨wA,hw⟩:∃ wA,wA=(w9.alloc (.cells (c3 ua aa ub ab ue ae uc ac ud ad uf af) 29)).alloc (.cells (exC qR.h 3 none 0 (some ⟨w9.heap.size,0,none⟩) 3) 29):=⟨_,rfl⟩;rw [← hw] at U B HT XH GH;refine jv wA hw ?_;clear hw;generalize w9.heap.size+1=gh at *;generalize w9.heap.size=gi at *
  go_upto_region 8 with fail
  have b7:=au (b0 wA) (.cells (exC zC.h 0 none 0 none 0) 29);have GZ:=Hy (Blk.new wA 29 (exC zC.h 0 none 0 none 0));replace GH:=Hy (GH.o.keeps b7);replace XH:=Hy (XH.o.keeps b7);replace B:=Hy (aA B.o b7);replace HT:=Hy (HT.o.stays b7);replace U:=Hy (U.o.keeps b7);clear b7;obtain ⟨wB,hw⟩:∃ wB,wB=wA.alloc (.cells (exC zC.h 0 none 0 none 0) 29):=⟨_,rfl⟩;rw [← hw] at U B HT XH GH GZ;refine jv wB hw ?_;clear hw;generalize wA.heap.size=gz at *
  go_upto_region 9 with fail
  have b7:=au (b0 wB) (.cells (exC qF.h 0 none 0 none 0) 29);have GY:=Hy (Blk.new wB 29 (exC qF.h 0 none 0 none 0));replace GH:=Hy (GH.o.keeps b7);replace GZ:=Hy (GZ.o.keeps b7);replace XH:=Hy (XH.o.keeps b7);replace B:=Hy (aA B.o b7);replace HT:=Hy (HT.o.stays b7);replace U:=Hy (U.o.keeps b7);clear b7;obtain ⟨wC,hw⟩:∃ wC,wC=wB.alloc (.cells (exC qF.h 0 none 0 none 0) 29):=⟨_,rfl⟩;rw [← hw] at U B HT XH GH GZ GY;refine jv wC hw ?_;clear hw;generalize wB.heap.size=gy at *;unfold exC at GH GZ GY
  go_upto_region 10 with (first
    | (refine aF aJ Tryz.underlying29 rfl (.tmp 6) rfl rfl _ _ _ rfl GH.o rfl ?_)
    | (refine aF aJ Tryz.underlying29 rfl (.tmp 7) rfl rfl _ _ _ rfl GZ.o rfl ?_)
    | (refine aF aJ Tryz.underlying29 rfl (.tmp 8) rfl rfl _ _ _ rfl GY.o rfl ?_))
  have b9:=au (b0 wC) (.cells (d2 gi) 29);have XD:=Rm (XH.o.keeps b9) (Blk.new wC 29 (d2 gi));have C:=Hy (gY tX _ _ _ XD s6 z6 e6 x6 (HT.o.stays b9));have B9:=Hy b9;clear b9 XD;refine C.o.mono ?_;rintro e wD ⟨rfl,bD⟩;have bb:=aA B9.o bD;replace B:=Hy (aA B.o bb);replace HT:=Hy (HT.o.stays bb);replace U:=Hy (U.o.keeps bb);replace GY:=Hy (GY.o.keeps bb);clear bb bD B9 C GH GZ XH;have y0:=GY.o.cell 0;have y1:=GY.o.cell 1;have y2:=GY.o.cell 2;have y3:=GY.o.cell 3;have y4:=GY.o.cell 4;have y5:=GY.o.cell 5;have y6:=GY.o.cell 6;have y7:=GY.o.cell 7;have y8:=GY.o.cell 8;have y9:=GY.o.cell 9;have y10:=GY.o.cell 10;have y11:=GY.o.cell 11;simp only [sz2,sz3,sz4] at y0 y1 y2 y3 y4 y5 y6 y7 y8 y9 y10 y11
  go_upto_region 10 with fail
  clear y0 y1 y2 y3 y4 y5 y6 y7 y8 y9 y10 y11;have b9:=au (b0 wD) (.cells (exC qF.h 0 none 0 none 0) 29);have XD:=QL (Blk.new wD 29 (exC qF.h 0 none 0 none 0));have C:=Hy (gY tF _ _ _ XD s7 z7 e7 x7 (HT.o.stays b9));have B9:=Hy b9;clear b9 XD;refine C.o.mono ?_;rintro e wE ⟨rfl,bE⟩;have bb:=aA B9.o bE;replace B:=Hy (aA B.o bb);replace HT:=Hy (HT.o.stays bb);replace U:=Hy (U.o.keeps bb);clear bb bE B9 C GY;have CT:=Hy (fun (w:World)=>Pv w);have CF:=Hy (fun (n:ByteArray) (w:World)=>Oq n w)
  go_upto_region 11 with fail
  go_wp2_with fail;refine (CT.o _).mono ?_;rintro e wF ⟨ct,rfl,XT,bF⟩;replace B:=Hy (aA B.o bF);replace HT:=Hy (HT.o.stays bF);replace U:=Hy (U.o.keeps bF);have HE:=Hy XT;clear bF XT CT
  go_upto_region 12 with (refine lK (.tmp 9) (.tmp 88) rfl rfl _ _ _ _ _ rfl rfl HE.o (Blk.new _ _ _) rfl ?_;intro wG L1 M1)
  have b7:=(au (b0 wF) _).trans (M1.below lr);have GT:=Hy L1;replace U:=Hy (U.o.keeps b7);replace HE:=Hy (HE.o.keeps b7);replace B:=Hy (aA B.o b7);replace HT:=Hy (HT.o.stays b7);clear b7 L1 M1;generalize wF.heap.size=gt at *;obtain ⟨ua,uc,aa,ac,e1',ET⟩:=HE.o;subst e1';have XT:=Hy ET;clear ET HE;unfold exC at GT
  go_upto_region 13 with (refine aF aJ Tryz.underlying29 rfl (.tmp 9) rfl rfl _ _ _ rfl GT.o rfl ?_)
  have b6:=bY wG (.cells (p2 dU dU ua aa ua aa uc ac uc ac) 29) (.cells (exC nA.h 2 none 0 (some ⟨wG.heap.size,0,none⟩) 2) 29);have XN:=Hy (Rt (XT.o.keeps b6) (XT.o.keeps b6) ((Blk.new wG 29 (p2 dU dU ua aa ua aa uc ac uc ac)).past _));have GN:=Hy (j4 (wG.alloc (.cells (p2 dU dU ua aa ua aa uc ac uc ac) 29)) 29 (exC nA.h 2 none 0 (some ⟨wG.heap.size,0,none⟩) 2) (wG.heap.size+1) (iL _ _).symm);replace U:=Hy (U.o.keeps b6);replace B:=Hy (aA B.o b6);replace HT:=Hy (HT.o.stays b6);clear b6 GT XT;obtain ⟨wH,hw⟩:∃ wH,wH=(wG.alloc (.cells (p2 dU dU ua aa ua aa uc ac uc ac) 29)).alloc (.cells (exC nA.h 2 none 0 (some ⟨wG.heap.size,0,none⟩) 2) 29):=⟨_,rfl⟩;rw [← hw] at U B HT XN GN;refine jv wH hw ?_;clear hw;generalize wG.heap.size+1=gn at *;generalize wG.heap.size=gm at *;go_wp2_with fail;refine (CF.o _ _).mono ?_;rintro e wI ⟨cm,rfl,XM,bI⟩;replace U:=Hy (U.o.keeps bI);replace XN:=Hy (XN.o.keeps bI);replace GN:=Hy (GN.o.keeps bI);replace B:=Hy (aA B.o bI);replace HT:=Hy (HT.o.stays bI);have HM:=Hy XM;clear XM bI;go_wp2_with fail;refine (CF.o _ _).mono ?_;rintro e wJ ⟨co,rfl,XO,bJ⟩;replace U:=Hy (U.o.keeps bJ);replace XN:=Hy (XN.o.keeps bJ);replace GN:=Hy (GN.o.keeps bJ);replace HM:=Hy (HM.o.keeps bJ);replace B:=Hy (aA B.o bJ);replace HT:=Hy (HT.o.stays bJ);have HO:=Hy XO;clear XO bJ;obtain ⟨ua,uc,aa,ac,e1',EM⟩:=HM.o;subst e1';obtain ⟨ub,ud,ab,ad,e2',EO⟩:=HO.o;subst e2';clear HM HO;have HM:=Hy EM;have HO:=Hy EO;clear EM EO;unfold exC
  go_upto_region 14 with fail
  have b6:=bY wJ (.cells (p2 (gH ⟨#[109,115]⟩) (gH ⟨#[111,107]⟩) ua aa ub ab uc ac ud ad) 29) (.cells (exC mZ.h 2 none 0 (some ⟨wJ.heap.size,0,none⟩) 2) 29);have XQ:=Hy (Qi (HM.o.keeps b6) (HO.o.keeps b6) ((Blk.new wJ 29 (p2 (gH ⟨#[109,115]⟩) (gH ⟨#[111,107]⟩) ua aa ub ab uc ac ud ad)).past _));have GQ:=Hy (j4 (wJ.alloc (.cells (p2 (gH ⟨#[109,115]⟩) (gH ⟨#[111,107]⟩) ua aa ub ab uc ac ud ad) 29)) 29 (exC mZ.h 2 none 0 (some ⟨wJ.heap.size,0,none⟩) 2) (wJ.heap.size+1) (iL _ _).symm);replace U:=Hy (U.o.keeps b6);replace XN:=Hy (XN.o.keeps b6);replace GN:=Hy (GN.o.keeps b6);replace B:=Hy (aA B.o b6);replace HT:=Hy (HT.o.stays b6);clear b6 HM HO;obtain ⟨wK,hw⟩:∃ wK,wK=(wJ.alloc (.cells (p2 (gH ⟨#[109,115]⟩) (gH ⟨#[111,107]⟩) ua aa ub ab uc ac ud ad) 29)).alloc (.cells (exC mZ.h 2 none 0 (some ⟨wJ.heap.size,0,none⟩) 2) 29):=⟨_,rfl⟩;rw [← hw] at U B HT XN GN XQ GQ;refine jv wK hw ?_;clear hw;generalize wJ.heap.size+1=gq at *;generalize wJ.heap.size=gp at *;unfold exC at GN GQ;go_wp2_with (refine aF aJ Tryz.underlying29 rfl (.tmp 10) rfl rfl _ _ _ rfl GN.o rfl ?_);refine (gY nA _ _ _ XN.o s8 z8 e8 x8 HT.o).mono ?_;rintro e wL ⟨rfl,bL⟩;replace U:=Hy (U.o.keeps bL);replace XQ:=Hy (XQ.o.keeps bL);replace GQ:=Hy (GQ.o.keeps bL);replace B:=Hy (aA B.o bL);replace HT:=Hy (HT.o.stays bL);clear bL XN GN;have y0:=GQ.o.cell 0;have y1:=GQ.o.cell 1;have y2:=GQ.o.cell 2;have y3:=GQ.o.cell 3;have y4:=GQ.o.cell 4;have y5:=GQ.o.cell 5;have y6:=GQ.o.cell 6;have y7:=GQ.o.cell 7;have y8:=GQ.o.cell 8;have y9:=GQ.o.cell 9;have y10:=GQ.o.cell 10;have y11:=GQ.o.cell 11;simp only [sz2,sz3,sz4] at y0 y1 y2 y3 y4 y5 y6 y7 y8 y9 y10 y11;go_wp2_with fail;clear y0 y1 y2 y3 y4 y5 y6 y7 y8 y9 y10 y11;refine (gY mZ _ _ _ XQ.o s9 z9 e9 x9 HT.o).mono ?_;rintro e wM ⟨rfl,bM⟩;replace U:=Hy (U.o.keeps bM);replace B:=Hy (aA B.o bM);replace HT:=Hy (HT.o.stays bM);clear bM XQ GQ
  go_upto_region 16 with fail
  have bN:=au (b0 wM) (.cells (f2 gu) 88);have C:=Hy (PL (Q8 (IB (U.o.keeps bN)) (Blk.new wM 88 (f2 gu))) (HT.o.stays bN));have BN:=Hy bN;clear bN U;go_wp2_with fail;refine C.o.mono ?_;rintro e wO ⟨rfl,bO⟩;have bb:=aA BN.o bO;replace B:=Hy (aA B.o bb);replace HT:=Hy (HT.o.stays bb);clear bb bO BN C;go_wp2_with fail;refine (PK HT.o).mono ?_;rintro e wP ⟨rfl,bP⟩;replace B:=Hy (aA B.o bP);replace HT:=Hy (HT.o.stays bP);clear bP;go_wp2_with fail;refine (CF.o _ _).mono ?_;rintro e wQ ⟨cx,rfl,XX,bQ⟩;replace B:=Hy (aA B.o bQ);replace HT:=Hy (HT.o.stays bQ);have HX:=Hy XX;clear bQ XX CF;go_wp2_with fail;refine (TN HX.o HT.o).mono ?_;rintro e wR ⟨rfl,bR⟩;replace B:=Hy (aA B.o bR);replace HT:=Hy (HT.o.stays bR);clear bR HX;go_wp2_with fail;go_ret;exact ⟨rfl,B.o⟩
end ch
namespace ch
open Go.ChangeShapes Go.WideShapes Go.ChangeAt Go.RowKit Go.Joins dec
def K:Nat:=5864062014634
def _root_.Go.Proofs.YtbahfelnbofjjaaGreatDoor.Fo.lns:Fo→Prop
 | .nil=>True
 | .cons h ar r=>h.un.length≤K∧ar.lns∧r.lns
structure _root_.Go.Proofs.YtbahfelnbofjjaaGreatDoor.Ex.lns (x:Ex):Prop where
 h:x.h.un.length≤K
 ar:x.ar.lns
theorem cI:Tryz.prog.cellsOf 3=1:=by kernel_rfl
theorem cSt:Tryz.prog.cellsOf 9=1:=by kernel_rfl
theorem cVa:Tryz.prog.cellsOf 23=3:=by kernel_rfl
theorem cWi:Tryz.prog.cellsOf 26=2:=by kernel_rfl
theorem cFa:Tryz.prog.cellsOf 82=2:=by kernel_rfl
theorem Uz:Tryz.prog.cellsOf 24=1:=by kernel_rfl
theorem cX:Tryz.prog.cellsOf 29=12:=by kernel_rfl
theorem cSx:Tryz.prog.cellsOf 27=1:=by kernel_rfl
theorem bFa:Tryz.prog.bytesOf 82=24:=by kernel_rfl
instance:Inhabited Ex:=⟨⟨h0,.nil⟩⟩
instance:Inhabited Fi:=⟨⟨.empty,t0⟩⟩
instance:Inhabited Tb:=⟨⟨.empty,.empty,[],0⟩⟩
instance:Inhabited Fe:=⟨⟨.empty,.empty,t0,⟨h0,.nil⟩,0⟩⟩
section
variable {H:Type} {enc:TypeId × Value→H} {w:World} {m:Nat} {y:DataW H × List MemPlace}
abbrev Rd (enc:TypeId × Value→H) (w:World) (m:Nat) (T:TypeId) (cs:List Value) (y:DataW H × List MemPlace):Prop:=DataW.trod enc Tryz.prog w 0 (fun _=>true) true m T cs=some y
def Wk (T:TypeId) (d:DataW H):Prop:=∀ n ∈ d.weights Tryz.prog T,n≤140737488351232
theorem jG {T:TypeId} {fs:Array Field} (hu:Tryz.prog.underlying T=some (.struct fs)) {parts:List (DataW H)} (h:Wk T (.agg parts)) {j:Nat} {t:TypeId} {d:DataW H} (ht:(fs.toList.map (·.type))[j]? = some t) (hd:parts[j]? = some d):Wk t d :=
 fun n hn=>h n (by simp only [DataW.weights,hu];exact DataW.weights_mem_each ht hd n hn)
theorem H8 {e:TypeId} {n:Nat} : ∀ {l:List (DataW H)} {d:DataW H},d ∈ l→n ∈ d.weights Tryz.prog e→n ∈ DataW.weightsAll Tryz.prog e l
 | x :: l,d,h,hn=>by
  simp only [DataW.weightsAll,List.mem_append]
  rcases List.mem_cons.1 h with rfl | h
  ·exact .inl hn
  ·exact .inr (H8 h hn)
theorem KD {T e:TypeId} (hu:Tryz.prog.underlying T=some (.slice e)) {el sp:List (DataW H)} (h:Wk T (.slice el sp)):(el.length+sp.length) * Tryz.prog.bytesOf e≤140737488351232∧∀ d ∈ el,Wk e d:=by
 refine ⟨h _ (by simp [DataW.weights,hu]),fun d hd n hn=>h n ?_⟩;simp only [DataW.weights,hu,List.mem_cons,List.mem_append];exact .inr (.inl (H8 hd hn))
theorem pK {T:TypeId} {s:ByteArray} (h:Wk (H:=H) T (.lit (.string s.data.toList))):s.size≤140737488355328:=by
 have:=h s.data.toList.length (by simp [DataW.weights]);have e:s.data.toList.length=s.size:=by rw [Array.length_toList];rfl
 omega
theorem Mf {α:Type} [Inhabited α] {V:World→Array Value→α→Prop} {Q:DataW H→α→Prop} {sz:Nat} {T e:TypeId} (hu:Tryz.prog.underlying T=some (.slice e)) (hc:Tryz.prog.cellsOf e=sz) (h0:0<sz) {c:Value} (h:Rd enc w m T [c] y) (hk:Wk T y.1)
    (E:∀ k cs z,k<m→Rd enc w k e cs z→Wk e z.1→∃ (ds:Array Value) (x:α),cs=ds.toList∧ds.size=sz∧V w ds x∧Q z.1 x) :
    ∃ a n cap l el sp,c=.slice a n cap∧Rw sz V w a n cap l∧(el.length+sp) * Tryz.prog.bytesOf e≤140737488351232∧el.length=l.length∧(∀ j (h1:j<el.length) (h2:j<l.length),Q el[j] l[j])∧Rows.uptoBulkAll el≤Rows.uptoBulk y.1:=by
 rcases DataW.trod_slice hu h with ⟨hcs,rfl⟩ | ⟨a,n,cap,elems,rest,k,rfl,hcs,rfl,hb,hl,hm,hlen,hel,_,_⟩
 ·simp only [List.cons.injEq,and_true] at hcs;subst hcs;exact ⟨none,0,0,[],[],0,rfl,.nil _ _ _,by rw [List.length_nil,Nat.zero_add,Nat.zero_mul];exact Nat.zero_le _,rfl,fun j h1=>absurd h1 (Nat.not_lt_zero _),Nat.zero_le _⟩
 simp only [List.cons.injEq,and_true] at hcs;subst hcs;obtain ⟨hw,hke⟩:=KD hu hk;have hel2:∀ i,i<n→∃ x:α,∃ (ds cs':Array Value),w.cells? 0 (a.add (i * Tryz.prog.cellsOf e)) (Tryz.prog.cellsOf e)=some ds.toList∧ds.size=sz∧V w ds x∧∀ h:i<elems.length,Q elems[i].1 x:=fun i hi=>by
  have h1:=hel i hi;rw [List.getElem?_eq_getElem (by omega)] at h1;obtain ⟨cs',h2,h3⟩:=Option.bind_eq_some_iff.1 h1;obtain ⟨ds,x,rfl,h5,h6,h7⟩:=E k cs' _ ls h3 (hke _ (List.mem_map.2 ⟨_,List.getElem_mem _,rfl⟩));exact ⟨x,ds,ds,h2,h5,h6,fun _=>h7⟩
 obtain ⟨q,hq⟩:=Go.Deep.choose_lt hel2;refine ⟨some a,n,cap,(List.range n).map q,elems.map (·.1),(rest.map (·.1)).length,rfl,⟨?_,by simp,hl,by unfold maxLen at hm;omega,fun h=>by cases h⟩,hw,by simp [hlen],fun j h1 h2=>?_,Nat.le_trans (Nat.le_add_right _ (Rows.uptoBulkAll (rest.map (·.1)))) (Nat.le_succ _)⟩
 ·by_cases hn:n=0
  ·exact .inl (by simp [hn])
  obtain ⟨b,off,spot⟩:=a;have hspot:spot=none:=by
   obtain ⟨ds,_,g1,g2,_⟩:=hq 0 (by omega);rw [hc] at g1;obtain ⟨_,_,g3⟩:=World.cells?_some g1;have g4:=g3 0 h0;rw [List.getElem?_eq_getElem (by rw [Array.length_toList];omega)] at g4;have:=World.cell?_spot g4;simpa [Addr.add] using this
  subst hspot;refine .inr ⟨b,off,rfl,fun j hj=>?_⟩;have hj':j<n:=by simpa using hj
  obtain ⟨ds,_,g1,g2,g3,_⟩:=hq j hj';refine ⟨ds,g2,fun i v hv=>?_,by simpa using g3⟩;rw [hc] at g1;obtain ⟨_,g4,g5⟩:=World.cells?_some g1;have hi:i<ds.toList.length:=(List.getElem?_eq_some_iff.1 hv).1;have:=g5 i (by omega);rw [Go.Addr.add_mid,Go.Addr.add_mid] at this;rw [this,hv]
 have hj':j<n:=by simpa using h2
 obtain ⟨_,_,_,_,_,g⟩:=hq j hj';have:=g (by omega);simpa using this
def FaV (_:World) (cs:Array Value) (f:un.Fa):Prop:=cs=#[.string f.1,.int .i64 f.2]
theorem R9 {a:Option Addr} {n cap:Nat} {l:List un.Fa} (h:Rw 2 FaV w a n cap l):un.Sl w a n cap l:=by
 refine ⟨h.hat.imp id fun ⟨b,off,e,hA⟩=>⟨b,off,e,fun j hj=>?_⟩,h.hn,Nat.zero_le _,Nat.le_trans h.hcap h.hmax,trivial⟩;obtain ⟨cs,_,h2,rfl⟩:=hA j hj;rw [un.dY hj];exact ⟨by simpa using h2 0 _ rfl,by simpa [Nat.add_assoc] using h2 1 _ rfl⟩
theorem TD {cs:List Value} (h:Rd enc w m 82 cs y) (hk:Wk 82 y.1):∃ (ds:Array Value) (x:un.Fa),cs=ds.toList∧ds.size=2∧FaV w ds x∧x.1.size≤140737488355328:=by
 obtain ⟨y0,y1,k,rfl,hl,g0,g1⟩:=trod_struct2 Tryz.underlying82 h;rw [cFa] at hl
 match cs,hl with
 | [v0,v1],_ =>
   simp only [cSt,cI,List.drop_zero,List.take_succ_cons,List.take_zero,List.drop_succ_cons] at g0 g1
   obtain ⟨n0,e0,d0,_⟩:=DataW.trod_string Tryz.underlying9 g0
   obtain ⟨n1,e1,d1,_⟩:=DataW.trod_int Tryz.underlying3 g1
   simp only [List.cons.injEq,and_true] at e0 e1
   subst e0 e1
   have k0:=jG Tryz.underlying82 hk (j:=0) (t:=9) rfl rfl
   rw [d0] at k0
   exact ⟨#[.string n0,.int .i64 n1],(n0,n1),rfl,rfl,rfl,pK k0⟩
theorem RP {c:Value} (h:Rd enc w m 24 [c] y) (hk:Wk 24 y.1):∃ a cap l,c=.slice a l.length cap∧un.Sl w a l.length cap l∧l.length≤K∧∀ f ∈ l,f.1.size≤140737488355328:=by
 obtain ⟨a,n,cap,l,el,sp,rfl,S,hz,hl,hq,_⟩:=Mf (Q:=fun _ (x:un.Fa)=>x.1.size≤140737488355328) Tryz.underlying24 cFa (by decide) h hk (fun k cs z _ h1 h2=>TD h1 h2);rw [bFa] at hz;have hn:=S.hn;refine ⟨a,cap,l,by rw [hn],by have:=R9 S;rwa [← hn] at this,by unfold K;omega,fun f hf=>?_⟩;obtain ⟨j,hj,rfl⟩:=List.getElem_of_mem hf;exact hq j (by omega) hj
theorem zS {P:Program} {H:Type} {enc:TypeId × Value→H} {w:World} {base:Nat} {spare:Nat→Bool} {held:Bool} {t:TypeId} {f0 f1 f2 f3 f4 f5 f6 f7 f8:Field} {fuel:Nat} {cs:List Value} {x:DataW H × List MemPlace} (ht:P.underlying t=some (.struct #[f0,f1,f2,f3,f4,f5,f6,f7,f8])) (h:DataW.trod enc P w base spare held fuel t cs=some x) :
    ∃ y0 y1 y2 y3 y4 y5 y6 y7 y8 n,fuel=n+1∧x.1=.agg [y0.1,y1.1,y2.1,y3.1,y4.1,y5.1,y6.1,y7.1,y8.1]∧cs.length=P.cellsOf t∧DataW.trod enc P w base spare held n f0.type ((cs.drop f0.offset).take (P.cellsOf f0.type))=some y0∧DataW.trod enc P w base spare held n f1.type ((cs.drop f1.offset).take (P.cellsOf f1.type))=some y1∧DataW.trod enc P w base spare held n f2.type ((cs.drop f2.offset).take (P.cellsOf f2.type))=some y2∧DataW.trod enc P w base spare held n f3.type ((cs.drop f3.offset).take (P.cellsOf f3.type))=some y3∧DataW.trod enc P w base spare held n f4.type ((cs.drop f4.offset).take (P.cellsOf f4.type))=some y4∧DataW.trod enc P w base spare held n f5.type ((cs.drop f5.offset).take (P.cellsOf f5.type))=some y5∧DataW.trod enc P w base spare held n f6.type ((cs.drop f6.offset).take (P.cellsOf f6.type))=some y6∧DataW.trod enc P w base spare held n f7.type ((cs.drop f7.offset).take (P.cellsOf f7.type))=some y7∧DataW.trod enc P w base spare held n f8.type ((cs.drop f8.offset).take (P.cellsOf f8.type))=some y8:=by
 obtain ⟨xs,n,rfl,rfl,hl,hlen,hf⟩:=DataW.trod_struct ht h
 match xs,hlen with
 | [y0,y1,y2,y3,y4,y5,y6,y7,y8],_=>exact ⟨y0,y1,y2,y3,y4,y5,y6,y7,y8,n,rfl,rfl,hl,by simpa using hf 0 f0 rfl,by simpa using hf 1 f1 rfl,by simpa using hf 2 f2 rfl,by simpa using hf 3 f3 rfl,by simpa using hf 4 f4 rfl,by simpa using hf 5 f5 rfl,by simpa using hf 6 f6 rfl,by simpa using hf 7 f7 rfl,by simpa using hf 8 f8 rfl⟩
def foL:List Ex→Fo
 | []=>.nil
 | x :: l=>.cons x.h x.ar (foL l)
theorem rO:∀ l:List Ex,(foL l).len=l.length
 | []=>rfl
 | x :: l=>by simp [foL,Fo.len,rO l]
theorem EP:∀ (l:List Ex) (j:Nat) (h:j<l.length),(foL l).nth j=l[j]
 | x :: l,0,_=>rfl
 | x :: l,j+1,h=>EP l j (by simpa using h)
theorem EL:∀ l:List Ex,(∀ x ∈ l,x.szs)→(foL l).szs
 | [],_=>trivial
 | x :: l,h=>⟨(h x (List.mem_cons_self ..)).h,(h x (List.mem_cons_self ..)).ar,EL l fun y hy=>h y (List.mem_cons_of_mem _ hy)⟩
theorem ER:∀ l:List Ex,(∀ x ∈ l,x.lns)→(foL l).lns
 | [],_=>trivial
 | x :: l,h=>⟨(h x (List.mem_cons_self ..)).h,(h x (List.mem_cons_self ..)).ar,ER l fun y hy=>h y (List.mem_cons_of_mem _ hy)⟩
theorem JW:∀ (l:List Ex) (el:List (DataW H)),el.length=l.length→(∀ j (h1:j<el.length) (h2:j<l.length),l[j].ar.sz+1≤Rows.uptoBulk el[j])→(foL l).sz≤Rows.uptoBulkAll el
 | [],_,_,_=>Nat.zero_le _
 | x :: l,[],h,_=>by simp at h
 | x :: l,d :: el,h,hq=>by
  have h1:=hq 0 (by simp) (by simp)
  have h2:=JW l el (by simpa using h) fun j h1 h2=>by
   have:=hq (j+1) (by simpa using h1) (by simpa using h2)
   simpa using this
  simp only [List.getElem_cons_zero] at h1
  simp only [foL,Fo.sz,Rows.uptoBulkAll]
  omega
theorem Tz {a:Option Addr} {n cap:Nat} {l:List Ex} (h:Rw 12 ExV w a n cap l):Fs w a n cap (foL l):=by
 refine ⟨?_,by rw [rO,h.hn],Nat.zero_le _,Nat.le_trans h.hcap h.hmax,trivial⟩;rw [rO];refine h.hat.imp id fun ⟨b,off,e,hA⟩=>⟨b,off,e,MB b _ off fun j hj=>?_⟩;rw [rO] at hj;obtain ⟨cs,_,h2,ua,uc,aa,ac,rfl,h4⟩:=hA j hj;rw [EP _ _ hj];exact ⟨ua,uc,aa,ac,h2,h4⟩
structure ExQ (d:DataW H) (x:Ex):Prop where
 sz:x.szs
 ln:x.lns
 bulk:x.ar.sz+1≤Rows.uptoBulk d
theorem OV {c:Value} (E:∀ k cs z,k<m→Rd enc w k 29 cs z→Wk 29 z.1→∃ (ds:Array Value) (x:Ex),cs=ds.toList∧ds.size=12∧ExV w ds x∧ExQ z.1 x)
    (h:Rd enc w m 27 [c] y) (hk:Wk 27 y.1):∃ a cap F,c=.slice a F.len cap∧Fs w a F.len cap F∧F.szs∧F.lns∧F.sz≤Rows.uptoBulk y.1:=by
 obtain ⟨a,n,cap,l,el,sp,rfl,S,hz,hl,hq,hb⟩:=Mf (Q:=ExQ) Tryz.underlying27 cX (by decide) h hk E;have hF:=Tz S;have hn:(foL l).len=n:=hF.hn;have hm:∀ x ∈ l,∃ d:DataW H,ExQ d x:=fun x hx=>by
  obtain ⟨j,hj,rfl⟩:=List.getElem_of_mem hx;exact ⟨_,hq j (by omega) hj⟩
 refine ⟨a,cap,foL l,by rw [hn],by rw [hn];exact hF,EL l fun x hx=>?_,ER l fun x hx=>?_,Nat.le_trans (JW l el hl fun j h1 h2=>(hq j h1 h2).bulk) hb⟩
 ·obtain ⟨_,h⟩:=hm x hx;exact h.sz
 obtain ⟨_,h⟩:=hm x hx;exact h.ln
theorem Kt {d:DataW H} {l:List (DataW H)} (h:d ∈ l):Rows.uptoBulk d≤Rows.uptoBulkAll l:=by
 induction l with
 | nil=>cases h
 | cons x r ih =>
   simp only [Rows.uptoBulkAll]
   rcases List.mem_cons.1 h with rfl | e
   · omega
   · have:=ih e;omega
theorem TF:∀ (m:Nat) (cs:List Value) (y:DataW H × List MemPlace),Rd enc w m 29 cs y→Wk 29 y.1→∃ (ds:Array Value) (x:Ex),cs=ds.toList∧ds.size=12∧ExV w ds x∧ExQ y.1 x:=by
 intro m
 induction m using Nat.strongRecOn with
 | _ m IH =>
   intro cs y h hk
   obtain ⟨y0,y1,y2,y3,y4,y5,y6,y7,y8,n,rfl,hy,hl,g0,g1,g2,g3,g4,g5,g6,g7,g8⟩:=zS Tryz.underlying29 h
   rw [cX] at hl
   rw [hy] at hk ⊢
   match cs,hl with
   | [c0,c1,c2,c3,c4,c5,c6,c7,c8,c9,c10,c11],_ =>
     simp only [cI,cSt,cVa,Uz,cWi,cSx,List.drop_zero,List.take_succ_cons,List.take_zero,List.drop_succ_cons] at g0 g1 g2 g3 g4 g5 g6 g7 g8
     obtain ⟨n0,e0,d0,_⟩:=DataW.trod_int Tryz.underlying3 g0
     obtain ⟨n1,e1,d1,_⟩:=DataW.trod_string Tryz.underlying9 g1
     obtain ⟨n2,e2,d2,_⟩:=DataW.trod_string Tryz.underlying9 g2
     obtain ⟨n3,e3,d3,_⟩:=DataW.trod_string Tryz.underlying9 g3
     obtain ⟨p0,p1,p2,_,dv,_,f0,f1,f2⟩:=Go.Deep.trod_struct3 Tryz.underlying23 g4
     simp only [cI,cSt,List.drop_zero,List.take_succ_cons,List.take_zero,List.drop_succ_cons] at f0 f1 f2
     obtain ⟨v0,e4,d4,_⟩:=DataW.trod_int Tryz.underlying3 f0
     obtain ⟨v1,e5,d5,_⟩:=DataW.trod_int Tryz.underlying3 f1
     obtain ⟨v2,e6,d6,_⟩:=DataW.trod_string Tryz.underlying9 f2
     obtain ⟨n6,e8,d8,_⟩:=DataW.trod_int Tryz.underlying3 g6
     obtain ⟨q0,q1,_,dw,_,f3,f4⟩:=trod_struct2 Tryz.underlying26 g7
     simp only [cI,List.drop_zero,List.take_succ_cons,List.take_zero,List.drop_succ_cons] at f3 f4
     obtain ⟨w0,e9,d9,_⟩:=DataW.trod_int Tryz.underlying3 f3
     obtain ⟨w1,e10,d10,_⟩:=DataW.trod_int Tryz.underlying3 f4
     simp only [List.cons.injEq,and_true] at e0 e1 e2 e3 e4 e5 e6 e8 e9 e10
     have k1:=jG Tryz.underlying29 hk (j:=1) (t:=9) rfl rfl
     have k2:=jG Tryz.underlying29 hk (j:=2) (t:=9) rfl rfl
     have k3:=jG Tryz.underlying29 hk (j:=3) (t:=9) rfl rfl
     have k4:=jG Tryz.underlying29 hk (j:=4) (t:=23) rfl rfl
     have k5:=jG Tryz.underlying29 hk (j:=5) (t:=24) rfl rfl
     have k8:=jG Tryz.underlying29 hk (j:=8) (t:=27) rfl rfl
     rw [d1] at k1
     rw [d2] at k2
     rw [d3] at k3
     rw [dv] at k4
     have k6:=jG Tryz.underlying23 k4 (j:=2) (t:=9) rfl rfl
     rw [d6] at k6
     obtain ⟨ua,uc,u,rfl,hU,hul,_⟩:=RP g5 k5
     obtain ⟨aa,ac,F,rfl,hF,hs,hln,hfb⟩:=OV (fun k cs z hk' h1 h2=>IH k (by omega) cs z h1 h2) g8 k8
     subst e0 e1 e2 e3 e4 e5 e6 e8 e9 e10
     refine ⟨exC ⟨n0,n1,n2,n3,v0,v1,v2,u,n6,w0,w1⟩ F.len ua uc aa ac,⟨⟨n0,n1,n2,n3,v0,v1,v2,u,n6,w0,w1⟩,F⟩,rfl,rfl,⟨ua,uc,aa,ac,rfl,hU,hF⟩,⟨⟨pK k1,pK k2,pK k3,pK k6⟩,hs⟩,⟨hul,hln⟩,?_⟩
     show F.sz+1≤_
     have hp:Rows.uptoBulk y8.1≤Rows.uptoBulkAll [y0.1,y1.1,y2.1,y3.1,y4.1,y5.1,y6.1,y7.1,y8.1]:=Kt (by simp)
     show F.sz+1≤Rows.uptoBulkAll [y0.1,y1.1,y2.1,y3.1,y4.1,y5.1,y6.1,y7.1,y8.1]+1
     omega
end
section
variable {H:Type} {enc:TypeId × Value→H} {w:World} {m:Nat} {y:DataW H × List MemPlace}
variable {H:Type} {enc:TypeId × Value→H} {Z:World} {r:Reach} {b0':Nat} {v:Value} {d:DataW H} {p:List MemPlace}
theorem NR (hv:Value.okWide Tryz.prog Z r b0' 29 v) (h:DataW.Trod enc Tryz.prog Z 0 (fun _=>true) true 29 v d p) (hk:Wk 29 d):∃ x ua uc aa ac,v=.agg (exC x.h x.ar.len ua uc aa ac)∧Ec Z x ua uc aa ac∧ExQ d x:=by
 obtain ⟨cs,rfl,_⟩:=okWide_struct Tryz.underlying29 hv;obtain ⟨fuel,hf⟩:=h;obtain ⟨ds,x,e,_,⟨ua,uc,aa,ac,rfl,hE⟩,hQ⟩:=TF fuel cs.toList (d,p) hf hk;exact ⟨x,ua,uc,aa,ac,by rw [show cs=_ from Array.toList_inj.1 e],hE,hQ⟩
theorem RN {ts:List TypeId} {ds:List (DataW H)} (h:(DataW.weightsEach Tryz.prog ts ds).all (·≤reachBytes)=true) {j:Nat} {t:TypeId} {d:DataW H} (ht:ts[j]? = some t) (hd:ds[j]? = some d):Wk t d:=fun n hn=>by
 have:=List.all_eq_true.1 h n (DataW.weights_mem_each ht hd n hn)
 have hb:reachBytes=140737488351232:=rfl
 simpa [hb] using this
end
end ch
section
open Go.ChangeShapes Go.WideShapes Go.ChangeAt Go.RowKit Go.Joins dec ch
theorem own:ownKnob Tryz.prog.godebug=none:=by kernel_rfl
theorem laidOut:laidOutB Tryz.prog=true:=by kernel_rfl
section
variable {H:Type} {enc':TypeId × Value→H} {P:Program}
end
theorem Ul:Tryz.prog.globalNamed "internal/strconv.uint64pow10" = some 5:=by kernel_rfl
theorem T9:(Tryz.prog.globals[5]?).map (·.type)=some 269:=by kernel_rfl
theorem Uc:(Tryz.prog.globals[2]?).map (·.type)=some 223:=by kernel_rfl
theorem Ua:(Tryz.prog.globals[7]?).map (·.type)=some 154:=by kernel_rfl
theorem Ub:(Tryz.prog.globals[8]?).map (·.type)=some 154:=by kernel_rfl
theorem Ue:(Tryz.prog.globals[1]?).map (·.type)=some 213:=by kernel_rfl
theorem UD:Tryz.prog.cellsOf 213=126:=by kernel_rfl
theorem cC1:Tryz.prog.cellsOf 172=1:=by kernel_rfl
theorem Uu:(Rows.laid_asof_lexer_classes:DataW Unit)=Lib.tabData .u8 qP:=by kernel_rfl
theorem Uy:Tryz.prog.cellsOf 269=20:=by kernel_rfl
theorem UA:Tryz.prog.cellsOf 223=7:=by kernel_rfl
theorem cU:Tryz.prog.cellsOf 212=1:=by kernel_rfl
theorem cI3:Tryz.prog.cellsOf 3=1:=by kernel_rfl
theorem cS9:Tryz.prog.cellsOf 9=1:=by kernel_rfl
theorem cE:Tryz.prog.cellsOf 296=1:=by kernel_rfl
theorem Uq:(Rows.laid_internal_strconv_uint64pow10:DataW Unit)=Lib.tabData .u64 Lib.pow10Tab:=by kernel_rfl
theorem Ur:(Rows.laid_asof_decimal_powers:DataW Unit)=Lib.tabData .i64 kW:=by kernel_rfl
theorem star : "*"++ "errors.errorString" = "*errors.errorString":=by decide
theorem Qe (u:TypeId) (h:Tryz.prog.typeName? 3 u=some "*errors.errorString"):u=294 :=
 typeName_ptr_named (nm:= "errors.errorString") (by rw [star];kernel_rfl) (by kernel_rfl) (by decide) u (by rw [star];exact h)
theorem BZ {H:Type} {enc:TypeId × Value→H} {P:Program} {w:World} {base:Nat} {sp:Nat→Bool} {held:Bool} {fuel:Nat} {t e:TypeId} {n:Nat} {cs:List Value} {ss:List ByteArray} {p:List MemPlace}
    (ht:P.underlying t=some (.array n e)) (he:P.underlying e=some .string) (hce:P.cellsOf e=1) (hct:P.cellsOf t=n)
    (h:DataW.trod enc P w base sp held fuel t cs=some (.agg (ss.map fun s=>.lit (.string s.data.toList)),p)):cs=ss.map fun s=>Value.string s:=by
 cases fuel with
 | zero=>simp [DataW.trod] at h
 | succ fuel =>
   simp only [DataW.trod,ht,hce,hct,Nat.mul_one] at h
   split at h
   · rename_i hl
     obtain ⟨xs,hm,hx⟩:=Option.map_eq_some_iff.1 h
     have hxs:xs.map (·.1)=ss.map fun s=>(DataW.lit (.string s.data.toList):DataW H):=by
       have:=congrArg Prod.fst hx
       simpa using this
     have hxl:xs.length=n:=by simpa using Lib.mapM_length hm
     have hzl:ss.length=n:=by
       have:=congrArg List.length hxs
       simp at this
       omega
     apply List.ext_getElem?
     intro i
     by_cases hi:i<n
     · obtain ⟨b,hb,hf⟩:=Lib.mapM_at hm i i (by simp [hi])
       obtain ⟨z,hc,hz,_⟩:=DataW.trod_string he hf
       have h1:cs[i]? = some (.string z):=by
         have:=congrArg (·[0]?) hc
         simpa [List.getElem?_take,List.getElem?_drop] using this
       have h2:(xs.map (·.1))[i]? = some (DataW.lit (.string z.data.toList):DataW H):=by simp [hb,hz]
       rw [hxs] at h2
       simp only [List.getElem?_map,Option.map_eq_some_iff,DataW.lit.injEq,Lit.string.injEq] at h2
       obtain ⟨z',hz',e⟩:=h2
       have e2:z'=z:=ByteArray.ext (Array.toList_inj.1 e)
       simp [h1,hz',e2]
     · rw [List.getElem?_eq_none (by omega),List.getElem?_eq_none (by simp;omega)]
   · cases h
theorem p9 {P:Program} {W:World} {name:String} {ss:List ByteArray} {rest:List (String × DataW Unit)} {g:Nat} {t e:TypeId} {n:Nat}
    (hg:P.globalNamed name=some g) (hty:(P.globals[g]?).map (·.type)=some t) (ht:P.underlying t=some (.array n e)) (he:P.underlying e=some .string) (hce:P.cellsOf e=1) (hct:P.cellsOf t=n)
    (h:laidMet P ((name,.agg (ss.map fun s=>.lit (.string s.data.toList))) :: rest) W) (i:Nat) (hi:i<ss.length):W.cell? ⟨g,i,none⟩=some (.string (ss.getD i .empty)):=by
 obtain ⟨ps,⟨g',t',cs,fuel,p,q,hg',ht',hvar,hd,_,_⟩,_⟩:=h;obtain rfl:=Option.some.inj (hg.symm.trans hg');obtain rfl:=Option.some.inj (hty.symm.trans ht');obtain rfl:cs=(ss.map fun s=>Value.string s).toArray:=by rw [← BZ ht he hce hct hd]
 have:=World.var?_cell hg hvar i;simpa [List.getD,hi] using this
theorem Uk:Tryz.prog.globalNamed "asof/printer.typeWords" = some 0:=by kernel_rfl
theorem Uj:Tryz.prog.globalNamed "asof/printer.windowWords" = some 3:=by kernel_rfl
theorem TY:(Tryz.prog.globals[0]?).map (·.type)=some 147:=by kernel_rfl
theorem TW:(Tryz.prog.globals[3]?).map (·.type)=some 231:=by kernel_rfl
theorem Ux:Tryz.prog.cellsOf 147=6:=by kernel_rfl
theorem Uw:Tryz.prog.cellsOf 231=5:=by kernel_rfl
def tyL:List ByteArray:=[.empty,⟨#[98,111,111,108]⟩,⟨#[105,110,116]⟩,⟨#[100,101,99]⟩,⟨#[116,101,120,116]⟩,⟨#[107,101,121]⟩]
def wiL:List ByteArray:=[.empty,⟨#[97,108,108]⟩,⟨#[115,108,105,100,105,110,103]⟩,⟨#[116,117,109,98,108,105,110,103]⟩,⟨#[115,101,115,115,105,111,110]⟩]
theorem Uo:(Rows.laid_asof_printer_typeWords:DataW Unit)=.agg (tyL.map fun s=>.lit (.string s.data.toList)):=by kernel_rfl
theorem Um:(Rows.laid_asof_printer_windowWords:DataW Unit)=.agg (wiL.map fun s=>.lit (.string s.data.toList)):=by kernel_rfl
theorem Pq:∀ j,1≤j→j<6→tyL.getD j .empty=mX j
 | 0,h,_=>absurd h (by decide)
 | 1,_,_=>rfl
 | 2,_,_=>rfl
 | 3,_,_=>rfl
 | 4,_,_=>rfl
 | 5,_,_=>rfl
 | j+6,_,h=>absurd h (by omega)
theorem Pg:∀ j,1≤j→j<5→wiL.getD j .empty=lW j
 | 0,h,_=>absurd h (by decide)
 | 1,_,_=>rfl
 | 2,_,_=>rfl
 | 3,_,_=>rfl
 | 4,_,_=>rfl
 | j+5,_,h=>absurd h (by omega)
end
section
open Go.RowKit dec
structure Fe where
 nm:ByteArray
 en:ByteArray
 ty:Ty
 bo:Ex
inductive Rs (α:Type) where
 | out
 | ok (v:α) (r:List Tk)
 | no (a c:Int) (r:List Tk)
def Rs.bind {α β:Type} (x:Rs α) (g:α→List Tk→Rs β):Rs β :=
 match x with
 | .out=>.out
 | .ok v r=>g v r
 | .no a c r=>.no a c r
def hd (l:List Tk):Tk:=l.headD ⟨6,.empty,0⟩
def wrg {α:Type} (l:List Tk):Rs α:=.no (hd l).a 90 l
def isT (s:ByteArray) (l:List Tk):Bool:=(decide ((hd l).k=1) || decide ((hd l).k=5)) && decide ((hd l).t=s)
def need (s:ByteArray) (l:List Tk):Rs Unit:=if isT s l=true then .ok () l.tail else wrg l
def tak (k:Int) (l:List Tk):Rs ByteArray:=if (hd l).k=k then .ok (hd l).t l.tail else wrg l
def nam (l:List Tk):Rs ByteArray:=if name (hd l).t=true then tak 1 l else wrg l
def nma (s:ByteArray) (l:List Tk):Rs ByteArray:=(need s l).bind fun _ r=>nam r
def int (l:List Tk):Rs Int:=(tak 2 l).bind fun s r=>.ok (jr s.data.toList) r
def tY (l:List Tk):Rs Int:=(tak 3 l).bind fun s r=>.ok (paX s.data.toList) r
def more {α:Type} (one:List Tk→Rs α) (s:ByteArray):Nat→List α→List Tk→Rs (List α)
 | 0,_,_=>.out
 | f+1,x,l=>if isT s l=true then (one l.tail).bind fun y r=>more one s f (x++[y]) r else .ok x l
def lst {α:Type} (one:List Tk→Rs α) (s:ByteArray) (l:List Tk):Rs (List α):=(one l).bind fun y r=>more one s (r.length+1) [y] r
def fac (l:List Tk):Rs un.Fa :=
 (nam l).bind fun n r=>if isT ⟨#[94]⟩ r=true then
  (if isT ⟨#[45]⟩ r.tail=true then (int r.tail.tail).bind fun x r=>.ok (n,IntKind.i64.wrap (-1 * min x 1099511627776)) r else (int r.tail).bind fun x r=>.ok (n,IntKind.i64.wrap (1 * min x 1099511627776)) r)
  else .ok (n,1) r
def uni (l:List Tk):Rs (List un.Fa) :=
 if isT ⟨#[91]⟩ l=true then (lst fac ⟨#[42]⟩ l.tail).bind fun u r=>(need ⟨#[93]⟩ r).bind fun _ r=>if un.nE u=0 then .ok (un.nL u) r else .no (hd l).a (un.nE u) r
 else .ok [] l
def typ (l:List Tk):Rs Ty :=
 if isT ⟨#[98,111,111,108]⟩ l=true then .ok ⟨1,[],.empty⟩ l.tail
 else if isT ⟨#[116,101,120,116]⟩ l=true then .ok ⟨4,[],.empty⟩ l.tail
 else if isT ⟨#[107,101,121]⟩ l=true then (nam l.tail).bind fun n r=>.ok ⟨5,[],n⟩ r
 else if isT ⟨#[105,110,116]⟩ l=true then (uni l.tail).bind fun u r=>.ok ⟨2,u,.empty⟩ r
 else if isT ⟨#[100,101,99]⟩ l=true then (uni l.tail).bind fun u r=>.ok ⟨3,u,.empty⟩ r
 else wrg l
def win (l:List Tk):Rs (Int × Int) :=
 if isT ⟨#[97,108,108]⟩ l=true then .ok (1,0) l.tail
 else if isT ⟨#[115,108,105,100,105,110,103]⟩ l=true then (int l.tail).bind fun n r=>.ok (2,n) r
 else if isT ⟨#[116,117,109,98,108,105,110,103]⟩ l=true then (int l.tail).bind fun n r=>.ok (3,n) r
 else if isT ⟨#[115,101,115,115,105,111,110]⟩ l=true then (int l.tail).bind fun n r=>.ok (4,n) r
 else wrg l
def agg (s:ByteArray):Bool:=[(⟨#[99,111,117,110,116]⟩:ByteArray),⟨#[115,117,109]⟩,⟨#[109,101,97,110]⟩,⟨#[109,105,110]⟩,⟨#[109,97,120]⟩,⟨#[102,105,114,115,116]⟩,⟨#[108,97,115,116]⟩,⟨#[100,105,115,116,105,110,99,116]⟩,⟨#[113,117,97,110,116,105,108,101]⟩,⟨#[100,101,99,97,121]⟩].any fun t=>decide (s=t)
def dP (n:Int):Ex:=⟨{ h0 with k:=1,vk:=1,vn:=n },.nil⟩
def lu (op:ByteArray) (x:Ex):Ex:=⟨{ h0 with k:=6,op:=op },.cons x.h x.ar .nil⟩
def bV (op:ByteArray) (x y:Ex):Ex:=if op=⟨#[100,101,102,97,117,108,116]⟩ then ⟨{ h0 with k:=9 },.cons x.h x.ar (.cons y.h y.ar .nil)⟩ else ⟨{ h0 with k:=7,op:=op },.cons x.h x.ar (.cons y.h y.ar .nil)⟩
def ifE (x y z:Ex):Ex:=⟨{ h0 with k:=8 },.cons x.h x.ar (.cons y.h y.ar (.cons z.h z.ar .nil))⟩
def Gu (vk vn:Int) (u:List un.Fa):Ex:=⟨{ h0 with k:=1,vk:=vk,vn:=vn,un:=u },.nil⟩
def PG (s:ByteArray):Ex:=⟨{ h0 with k:=1,vk:=4,vs:=s },.nil⟩
def Lr (n s:ByteArray):Ex:=⟨{ h0 with k:=1,nm:=n,vk:=5,vs:=s },.nil⟩
def Q9 (n:ByteArray):Ex:=⟨{ h0 with k:=2,nm:=n },.nil⟩
def Rb (n:ByteArray):Ex:=⟨{ h0 with k:=3,nm:=n },.nil⟩
def Lj (n:ByteArray) (x:Ex):Ex:=⟨{ h0 with k:=4,nm:=n },.cons x.h x.ar .nil⟩
def LY (op t:ByteArray) (p:Int) (w:Int × Int) (x y:Ex):Ex:=⟨{ h0 with k:=5,op:=op,tb:=t,pa:=p,wk:=w.1,ws:=w.2 },.cons x.h x.ar (.cons y.h y.ar .nil)⟩
def opL:Nat→List ByteArray
 | 0=>[⟨#[100,101,102,97,117,108,116]⟩]
 | 1=>[⟨#[111,114]⟩]
 | 2=>[⟨#[97,110,100]⟩]
 | 3=>[⟨#[61,61]⟩,⟨#[33,61]⟩,⟨#[60]⟩,⟨#[60,61]⟩]
 | 4=>[⟨#[43]⟩,⟨#[45]⟩]
 | _=>[⟨#[42]⟩,⟨#[47]⟩]
def opr (n:Nat) (l:List Tk):ByteArray:=((opL n).find? fun s=>isT s l).getD .empty
def key (l:List Tk):Rs Ex :=
 (nma ⟨#[64]⟩ l).bind fun n r=>(tak 4 r).bind fun s r' => if ck ⟨5,0,s⟩=0 then .ok (Lr n s) r' else .no (hd r).a 3 r'
inductive Md where
 | ex | op (least:Nat) | tl (least n:Nat) (x:Ex) | ng | pr | pa | ag | rf
def pz:Nat→Bool→Md→List Tk→Rs Ex
 | 0,_,_,_=>.out
 | f+1,i,.ex,l =>
  if isT ⟨#[105,102]⟩ l=true then
   (pz f i .ex l.tail).bind fun x r=>(need ⟨#[116,104,101,110]⟩ r).bind fun _ r=>(pz f i .ex r).bind fun y r=>(need ⟨#[101,108,115,101]⟩ r).bind fun _ r=>(pz f i .ex r).bind fun z r=>.ok (ifE x y z) r
  else pz f i (.op 0) l
 | f+1,i,.op least,l =>
  if least≤3∧isT ⟨#[110,111,116]⟩ l=true then (pz f i (.op 3) l.tail).bind fun x r=>pz f i (.tl least 3 (lu ⟨#[110,111,116]⟩ x)) r
  else (pz f i .ng l).bind fun x r=>pz f i (.tl least 6 x) r
 | f+1,i,.tl least n x,l =>
  if n≤least then .ok x l
  else if opr (n - 1) l=.empty then pz f i (.tl least (n - 1) x) l
  else (pz f i (.op n) l.tail).bind fun y r=>pz f i (.tl least (if n=4 then 3 else n) (bV (opr (n - 1) l) x y)) r
 | f+1,i,.ng,l=>if isT ⟨#[45]⟩ l=true then (pz f i .ng l.tail).bind fun x r=>.ok (lu ⟨#[45]⟩ x) r else pz f i .pr l
 | f+1,i,.pa,l=>(need ⟨#[40]⟩ l).bind fun _ r=>(pz f i .ex r).bind fun x r=>(need ⟨#[41]⟩ r).bind fun _ r=>.ok x r
 | f+1,i,.rf,l=>(nam l).bind fun n r=>if isT ⟨#[111,102]⟩ r=true then (pz f i .pa r.tail).bind fun x r=>.ok (Lj n x) r else .ok (Rb n) r
 | f+1,_,.ag,l =>
  (tak 1 l).bind fun op r=>(need ⟨#[40]⟩ r).bind fun _ r=>(nam r).bind fun t r=>(need ⟨#[44]⟩ r).bind fun _ r =>
  (if op=⟨#[99,111,117,110,116]⟩ then .ok (dP 1) r else (pz f true .ex r).bind fun x r=>(need ⟨#[44]⟩ r).bind fun _ r=>.ok x r).bind fun x r =>
  (if op=⟨#[113,117,97,110,116,105,108,101]⟩∨op=⟨#[100,101,99,97,121]⟩ then (int r).bind fun n r=>(need ⟨#[44]⟩ r).bind fun _ r=>.ok n r else .ok 0 r).bind fun p r =>
  (win r).bind fun w r=>(if isT ⟨#[119,104,101,114,101]⟩ r=true then pz f true .ex r.tail else .ok (dP 1) r).bind fun y r=>(need ⟨#[41]⟩ r).bind fun _ r=>.ok (LY op t p w x y) r
 | f+1,i,.pr,l =>
  if (hd l).k=2 then (int l).bind fun n r=>(uni r).bind fun u r=>.ok (Gu 2 n u) r
  else if (hd l).k=3 then (tY l).bind fun n r=>(uni r).bind fun u r=>.ok (Gu 3 n u) r
  else if (hd l).k=4 then (tak 4 l).bind fun s r=>.ok (PG s) r
  else if isT ⟨#[116,114,117,101]⟩ l=true then .ok (dP 1) l.tail
  else if isT ⟨#[102,97,108,115,101]⟩ l=true then .ok (dP 0) l.tail
  else if isT ⟨#[64]⟩ l=true then key l
  else if isT ⟨#[110,117,108,108]⟩ l=true then (pz f i .pa l.tail).bind fun x r=>.ok (lu ⟨#[110,117,108,108]⟩ x) r
  else if isT ⟨#[40]⟩ l=true then pz f i .pa l
  else if i=true then (nam l).bind fun n r=>.ok (Q9 n) r
  else if agg (hd l).t=true then pz f i .ag l
  else pz f i .rf l
def Opt (w:World):Prop:=∀ n,n<6→∃ b off cap,w.cell? ⟨4,n,none⟩=some (.slice (some ⟨b,off,none⟩) (opL n).length cap)∧∀ j (hj:j<(opL n).length),w.cell? ⟨b,off+j,none⟩=some (.string (opL n)[j])
theorem Opt.keeps {w w':World} (h:Opt w) (hb:Below w.heap.size w w'):Opt w':=fun n hn=>by
 obtain ⟨b,off,cap,c,hc⟩:=h n hn
 exact ⟨b,off,cap,dec.keeps hb c,fun j hj=>dec.keeps hb (hc j hj)⟩
structure Tabo (w:World):Prop where
 t:Tabs w
 ops:Opt w
theorem Tabo.stays {w w':World} (h:Tabo w) (hb:Below w.heap.size w w'):Tabo w':=⟨h.t.stays hb,h.ops.keeps hb⟩
end
end Go.Proofs.YtbahfelnbofjjaaGreatDoor
