/-
  example: the chapter's examples; Expressions, types, tables, features and catalogs that came in; From a walk of a statement to its row and its card: what the listed variables hold; how values come in; Parsing ar plain data: expressions, types, windows, units, tables and features of a list of tokens; The table of operators, beside the other tables; What the ten listed variables hold: the parser's table beside the printer's; The reference's flat, One and lists of words.
-/
import Derived.Deep.Slices
import Derived.SizedLaws
import Derived.ProofKit
import Derived.LaidMore
import Derived.Stop.Joined
import Derived.Stop.LaidErr
import Derived.SevenTiedAt
import Derived.Test.YtbahfelnbofjjaaGreatDoorCards
import Derived.Test.YtbahfelnbofjjaaGreatDoorX15
import Derived.Test.YtbahfelnbofjjaaGreatDoorRows
import Derived.Test.YtbahfelnbofjjaaGreatDoorTie
set_option maxRecDepth 100000
set_option maxHeartbeats 16000000
namespace Go.Proofs.YtbahfelnbofjjaaGreatDoor
namespace ch
open Go.RowKit dec
theorem Aq (w:World) (T:Tabq w):Calls Tryz.prog 12 #[] w (Bl true w):=by
 have HT:=Hy T;clear T;have CN:=Hy (fun (n:ByteArray) (w:World)=>Oe n w)
 go_enter Tryz.func12,Tryz.ntmps12
 go_wp2_with fail;refine (CN.o _ _).mono ?_;rintro e w1 ⟨ca,rfl,X1,b1⟩;have XA:=Hy X1;have B:=Hy b1;replace HT:=Hy (HT.o.stays b1);clear X1 b1;go_wp2_with fail;refine (CN.o _ _).mono ?_;rintro e w2 ⟨cb,rfl,X2,b2⟩;have XB:=Hy X2;replace XA:=Hy (XA.o.keeps b2);replace B:=Hy (au B.o b2);replace HT:=Hy (HT.o.stays b2);clear X2 b2;go_wp2_with fail;refine (CN.o _ _).mono ?_;rintro e w3 ⟨cc,rfl,X3,b3⟩;have XC:=Hy X3;replace XA:=Hy (XA.o.keeps b3);replace XB:=Hy (XB.o.keeps b3);replace B:=Hy (au B.o b3);replace HT:=Hy (HT.o.stays b3);clear X3 b3 CN
 go_upto_region 2 with (first
   | (refine kI (.tmp 1) (.tmp 18) rfl rfl _ _ _ _ _ rfl rfl XA.o (((Blk.new _ _ _).past _).past _) rfl ?_;intro w4 L1 M1)
   | (refine kI (.tmp 2) (.tmp 19) rfl rfl _ _ _ _ _ rfl rfl XB.o (Blk.st ((jH _ _ _ _ (gY _ _).symm).past _) M1 (by omega)) rfl ?_;intro w5 L2 M2)
   | (refine kI (.tmp 3) (.tmp 20) rfl rfl _ _ _ _ _ rfl rfl XC.o (Blk.st (Blk.st (jH _ _ _ _ (by rw [gY,gY])) M1 (by omega)) M2 (by omega)) rfl ?_;intro w6 L3 M3))
 have b6:=((aj (aj (aj (b0 w3) _) _) _).trans (M1.below lr)).trans ((M2.below (Nat.le_succ _)).trans (M3.below (by omega)));have GA:=Hy (Blk.st (Blk.st L1 M2 (by omega)) M3 (by omega));have GB:=Hy (Blk.st L2 M3 (by omega));have GC:=Hy L3;replace XA:=Hy (XA.o.keeps b6);replace XB:=Hy (XB.o.keeps b6);replace XC:=Hy (XC.o.keeps b6);replace B:=Hy (au B.o b6);replace HT:=Hy (HT.o.stays b6);clear L1 L2 L3 M1 M2 M3 b6;generalize w3.heap.size+1+1=gc at *;generalize w3.heap.size+1=gb at *;generalize w3.heap.size=ga at *
 go_upto_region 3 with fail
 have U:=Hy (Blk.new w6 82 #[.string ⟨#[101,117,114]⟩,.int .i64 1]);have b7:=aj (b0 w6) (.cells #[.string ⟨#[101,117,114]⟩,.int .i64 1] 82);replace GA:=Hy (GA.o.keeps b7);replace GB:=Hy (GB.o.keeps b7);replace GC:=Hy (GC.o.keeps b7);replace XA:=Hy (XA.o.keeps b7);replace XB:=Hy (XB.o.keeps b7);replace XC:=Hy (XC.o.keeps b7);replace B:=Hy (au B.o b7);replace HT:=Hy (HT.o.stays b7);clear b7;obtain ⟨w7,hw⟩:∃ w7,w7=w6.alloc (.cells #[.string ⟨#[101,117,114]⟩,.int .i64 1] 82):=⟨_,rfl⟩;rw [← hw] at U GA GB GC XA XB XC B HT;refine iT w7 hw ?_;clear hw;generalize w6.heap.size=gu at *
 go_upto_region 4 with fail
 have K:=Hy (Blk.new w7 29 (exC nO.h 0 (some ⟨gu,0,none⟩) 1 none 0));have b8:=aj (b0 w7) (.cells (exC nO.h 0 (some ⟨gu,0,none⟩) 1 none 0) 29);have XK:=Hy (show ExV _ (exC nO.h 0 (some ⟨gu,0,none⟩) 1 none 0) nO from ⟨some ⟨gu,0,none⟩,1,none,0,rfl,Et (U.o.keeps b8),Fs.nil _⟩);replace GA:=Hy (GA.o.keeps b8);replace GB:=Hy (GB.o.keeps b8);replace GC:=Hy (GC.o.keeps b8);replace XA:=Hy (XA.o.keeps b8);replace XB:=Hy (XB.o.keeps b8);replace XC:=Hy (XC.o.keeps b8);replace B:=Hy (au B.o b8);replace HT:=Hy (HT.o.stays b8);replace U:=Hy (U.o.keeps b8);clear b8;obtain ⟨w8,hw⟩:∃ w8,w8=w7.alloc (.cells (exC nO.h 0 (some ⟨gu,0,none⟩) 1 none 0) 29):=⟨_,rfl⟩;rw [← hw] at U GA GB GC XA XB XC B HT K XK;refine iT w8 hw ?_;clear hw;generalize exC nO.h 0 (some ⟨gu,0,none⟩) 1 none 0=ck at *;generalize w7.heap.size=gk at *;have C1:=Hy (fun (op:ByteArray) (x:Ex) (cs:Array Value) (w:World) (hx:ExV w cs x)=>Qe op x cs w hx);have C2:=Hy (fun (op:ByteArray) (x y:Ex) (cs ds:Array Value) (w:World) (hx:ExV w cs x) (hy:ExV w ds y)=>PD op x y cs ds w hx hy)
 go_cut [65] from 5 (fun v65 wx=>v65=.bool false∧Hid (Below w8.heap.size w8 wx))
 case first =>
  refine wp_region_held_drew (S:=fun w' => Below w8.heap.size w8 w') (by kernel_rfl) (b0 w8).drew (fun hH=>?_);refine ak 0 26 (.agg ca) rfl (by kernel_rfl) rfl (fun _ _ _ h=>h) rfl hH (fun w' hS=>aR aF Tryz.underlying29 rfl (.tmp 1) rfl _ _ _ rfl (GA.o.keeps hS) XA.o.size) ?_;simp only [sz0,sz1];refine ak 1 27 (.agg cb) rfl (by kernel_rfl) rfl (fun _ _ _ h=>h) rfl hH (fun w' hS=>aR aF Tryz.underlying29 rfl (.tmp 2) rfl _ _ _ rfl (GB.o.keeps hS) XB.o.size) ?_;simp only [sz0,sz1];refine ak 2 28 (.agg ck) rfl (by kernel_rfl) rfl (fun _ _ _ h=>h) rfl hH (fun w' hS=>aR aF Tryz.underlying29 rfl (.tmp 5) rfl _ _ _ rfl (K.o.keeps hS) XK.o.size) ?_;simp only [sz0,sz1];generalize w8.drew=y0 at *;refine av (i:=3) rfl (by kernel_rfl) rfl (fun K hK=>?_);go_simp;refine (C2.o ⟨#[42]⟩ (cu ⟨#[98]⟩) nO cb ck _ (XB.o.keeps hH) (XK.o.keeps hH)).mono ?_;rintro e y1 ⟨d1,rfl,x1,b1⟩;refine hK.o _ _ (au hH b1) (fun hH=>?_);clear hK K;have D1:=Hy x1;clear x1 b1;refine av (i:=4) rfl (by kernel_rfl) rfl (fun K hK=>?_);go_simp;refine (C2.o ⟨#[43]⟩ (cu ⟨#[97]⟩) (jI ⟨#[42]⟩ (cu ⟨#[98]⟩) nO) ca d1 _ (XA.o.keeps hH) D1.o).mono ?_;rintro e y2 ⟨d2,rfl,x2,b2⟩;refine hK.o _ _ (au hH b2) (fun hH=>?_);clear hK K;have D2:=Hy x2;clear x2 b2;refine av (i:=5) rfl (by kernel_rfl) rfl (fun K hK=>?_);go_simp;refine (gD _ _ _ _ D2.o s1 z1 e1 x1 (HT.o.stays hH)).mono ?_;rintro e y3 ⟨rfl,b3⟩;refine hK.o _ _ (au hH b3) (fun hH=>?_);clear hK K;clear b3;refine ak 6 32 ?_ rfl (by kernel_rfl) rfl (fun _ _ _ h=>h) rfl hH (fun w' hS=>?_) ?_;rotate_left
  ·go_simp;try with_reducible rfl
  simp only [sz0,sz1];refine ak 7 33 ?_ rfl (by kernel_rfl) rfl (fun _ _ _ h=>h) rfl hH (fun w' hS=>?_) ?_;rotate_left
  ·go_simp;try with_reducible rfl
  simp only [sz0,sz1];refine ak 8 34 (.agg ca) rfl (by kernel_rfl) rfl (fun _ _ _ h=>h) rfl hH (fun w' hS=>aR aF Tryz.underlying29 rfl (.tmp 1) rfl _ _ _ rfl (GA.o.keeps hS) XA.o.size) ?_;simp only [sz0,sz1];refine ak 9 35 (.agg cb) rfl (by kernel_rfl) rfl (fun _ _ _ h=>h) rfl hH (fun w' hS=>aR aF Tryz.underlying29 rfl (.tmp 2) rfl _ _ _ rfl (GB.o.keeps hS) XB.o.size) ?_;simp only [sz0,sz1];refine ak 11 37 (.agg cc) rfl (by kernel_rfl) rfl (fun _ _ _ h=>h) rfl hH (fun w' hS=>aR aF Tryz.underlying29 rfl (.tmp 3) rfl _ _ _ rfl (GC.o.keeps hS) XC.o.size) ?_;simp only [sz0,sz1];refine av (i:=10) rfl (by kernel_rfl) rfl (fun K hK=>?_);go_simp;refine (C2.o ⟨#[43]⟩ (cu ⟨#[97]⟩) (cu ⟨#[98]⟩) ca cb _ (XA.o.keeps hH) (XB.o.keeps hH)).mono ?_;rintro e y4 ⟨d4,rfl,x4,b4⟩;refine hK.o _ _ (au hH b4) (fun hH=>?_);clear hK K;have D4:=Hy x4;clear x4 b4;refine av (i:=12) rfl (by kernel_rfl) rfl (fun K hK=>?_);go_simp;refine (C2.o ⟨#[42]⟩ (jI ⟨#[43]⟩ (cu ⟨#[97]⟩) (cu ⟨#[98]⟩)) (cu ⟨#[99]⟩) d4 cc _ D4.o (XC.o.keeps hH)).mono ?_;rintro e y5 ⟨d5,rfl,x5,b5⟩;refine hK.o _ _ (au hH b5) (fun hH=>?_);clear hK K;have D5:=Hy x5;clear x5 b5;refine av (i:=13) rfl (by kernel_rfl) rfl (fun K hK=>?_);go_simp;refine (gD _ _ _ _ D5.o s2 z2 e2 x2 (HT.o.stays hH)).mono ?_;rintro e y6 ⟨rfl,b6⟩;refine hK.o _ _ (au hH b6) (fun hH=>?_);clear hK K;clear b6;refine ak 14 40 ?_ rfl (by kernel_rfl) rfl (fun _ _ _ h=>h) rfl hH (fun w' hS=>?_) ?_;rotate_left
  ·go_simp;try with_reducible rfl
  simp only [sz0,sz1];refine ak 15 41 ?_ rfl (by kernel_rfl) rfl (fun _ _ _ h=>h) rfl hH (fun w' hS=>?_) ?_;rotate_left
  ·go_simp;try with_reducible rfl
  simp only [sz0,sz1];refine ak 16 42 ?_ rfl (by kernel_rfl) rfl (fun _ _ _ h=>h) rfl hH (fun w' hS=>?_) ?_;rotate_left
  ·go_simp;try with_reducible rfl
  simp only [sz0,sz1];refine ak 17 43 (.agg ca) rfl (by kernel_rfl) rfl (fun _ _ _ h=>h) rfl hH (fun w' hS=>aR aF Tryz.underlying29 rfl (.tmp 1) rfl _ _ _ rfl (GA.o.keeps hS) XA.o.size) ?_;simp only [sz0,sz1];refine av (i:=18) rfl (by kernel_rfl) rfl (fun K hK=>?_);go_simp;refine (C1.o ⟨#[45]⟩ (cu ⟨#[97]⟩) ca _ (XA.o.keeps hH)).mono ?_;rintro e y7 ⟨d7,rfl,x7,b7⟩;refine hK.o _ _ (au hH b7) (fun hH=>?_);clear hK K;have D7:=Hy x7;clear x7 b7;refine av (i:=19) rfl (by kernel_rfl) rfl (fun K hK=>?_);go_simp;refine (C1.o ⟨#[45]⟩ (qH ⟨#[45]⟩ (cu ⟨#[97]⟩)) d7 _ D7.o).mono ?_;rintro e y8 ⟨d8,rfl,x8,b8⟩;refine hK.o _ _ (au hH b8) (fun hH=>?_);clear hK K;have D8:=Hy x8;clear x8 b8;refine av (i:=20) rfl (by kernel_rfl) rfl (fun K hK=>?_);go_simp;refine (gD _ _ _ _ D8.o s3 z3 e3 x3 (HT.o.stays hH)).mono ?_;rintro e y9 ⟨rfl,b9⟩;refine hK.o _ _ (au hH b9) (fun hH=>?_);clear hK K;clear b9;refine ak 21 47 ?_ rfl (by kernel_rfl) rfl (fun _ _ _ h=>h) rfl hH (fun w' hS=>?_) ?_;rotate_left
  ·go_simp;try with_reducible rfl
  simp only [sz0,sz1];refine ak 22 48 ?_ rfl (by kernel_rfl) rfl (fun _ _ _ h=>h) rfl hH (fun w' hS=>?_) ?_;rotate_left
  ·go_simp;try with_reducible rfl
  simp only [sz0,sz1];refine ak 23 49 ?_ rfl (by kernel_rfl) rfl (fun _ _ _ h=>h) rfl hH (fun w' hS=>?_) ?_;rotate_left
  ·go_simp;try with_reducible rfl
  simp only [sz0,sz1];refine ak 24 50 (.agg ca) rfl (by kernel_rfl) rfl (fun _ _ _ h=>h) rfl hH (fun w' hS=>aR aF Tryz.underlying29 rfl (.tmp 1) rfl _ _ _ rfl (GA.o.keeps hS) XA.o.size) ?_;simp only [sz0,sz1];refine ak 25 51 (.agg cb) rfl (by kernel_rfl) rfl (fun _ _ _ h=>h) rfl hH (fun w' hS=>aR aF Tryz.underlying29 rfl (.tmp 2) rfl _ _ _ rfl (GB.o.keeps hS) XB.o.size) ?_;simp only [sz0,sz1];refine ak 26 52 (.agg cc) rfl (by kernel_rfl) rfl (fun _ _ _ h=>h) rfl hH (fun w' hS=>aR aF Tryz.underlying29 rfl (.tmp 3) rfl _ _ _ rfl (GC.o.keeps hS) XC.o.size) ?_;simp only [sz0,sz1];refine av (i:=27) rfl (by kernel_rfl) rfl (fun K hK=>?_);go_simp;refine (C2.o ⟨#[45]⟩ (cu ⟨#[98]⟩) (cu ⟨#[99]⟩) cb cc _ (XB.o.keeps hH) (XC.o.keeps hH)).mono ?_;rintro e y10 ⟨d10,rfl,x10,b10⟩;refine hK.o _ _ (au hH b10) (fun hH=>?_);clear hK K;have D10:=Hy x10;clear x10 b10;refine av (i:=28) rfl (by kernel_rfl) rfl (fun K hK=>?_);go_simp;refine (C2.o ⟨#[45]⟩ (cu ⟨#[97]⟩) (jI ⟨#[45]⟩ (cu ⟨#[98]⟩) (cu ⟨#[99]⟩)) ca d10 _ (XA.o.keeps hH) D10.o).mono ?_;rintro e y11 ⟨d11,rfl,x11,b11⟩;refine hK.o _ _ (au hH b11) (fun hH=>?_);clear hK K;have D11:=Hy x11;clear x11 b11;refine av (i:=29) rfl (by kernel_rfl) rfl (fun K hK=>?_);go_simp;refine (gD _ _ _ _ D11.o s4 z4 e4 x4 (HT.o.stays hH)).mono ?_;rintro e y12 ⟨rfl,b12⟩;refine hK.o _ _ (au hH b12) (fun hH=>?_);clear hK K;clear b12;refine ak 30 56 ?_ rfl (by kernel_rfl) rfl (fun _ _ _ h=>h) rfl hH (fun w' hS=>?_) ?_;rotate_left
  ·go_simp;try with_reducible rfl
  simp only [sz0,sz1];refine ak 31 57 ?_ rfl (by kernel_rfl) rfl (fun _ _ _ h=>h) rfl hH (fun w' hS=>?_) ?_;rotate_left
  ·go_simp;try with_reducible rfl
  simp only [sz0,sz1];refine ak 32 58 ?_ rfl (by kernel_rfl) rfl (fun _ _ _ h=>h) rfl hH (fun w' hS=>?_) ?_;rotate_left
  ·go_simp;try with_reducible rfl
  simp only [sz0,sz1];refine ak 33 59 (.agg ca) rfl (by kernel_rfl) rfl (fun _ _ _ h=>h) rfl hH (fun w' hS=>aR aF Tryz.underlying29 rfl (.tmp 1) rfl _ _ _ rfl (GA.o.keeps hS) XA.o.size) ?_;simp only [sz0,sz1];refine ak 34 60 (.agg cb) rfl (by kernel_rfl) rfl (fun _ _ _ h=>h) rfl hH (fun w' hS=>aR aF Tryz.underlying29 rfl (.tmp 2) rfl _ _ _ rfl (GB.o.keeps hS) XB.o.size) ?_;simp only [sz0,sz1];refine av (i:=35) rfl (by kernel_rfl) rfl (fun K hK=>?_);go_simp;refine (C2.o ⟨#[61,61]⟩ (cu ⟨#[97]⟩) (cu ⟨#[98]⟩) ca cb _ (XA.o.keeps hH) (XB.o.keeps hH)).mono ?_;rintro e y13 ⟨d13,rfl,x13,b13⟩;refine hK.o _ _ (au hH b13) (fun hH=>?_);clear hK K;have D13:=Hy x13;clear x13 b13;refine av (i:=36) rfl (by kernel_rfl) rfl (fun K hK=>?_);go_simp;refine (C1.o ⟨#[110,111,116]⟩ (jI ⟨#[61,61]⟩ (cu ⟨#[97]⟩) (cu ⟨#[98]⟩)) d13 _ D13.o).mono ?_;rintro e y14 ⟨d14,rfl,x14,b14⟩;refine hK.o _ _ (au hH b14) (fun hH=>?_);clear hK K;have D14:=Hy x14;clear x14 b14;refine av (i:=37) rfl (by kernel_rfl) rfl (fun K hK=>?_);go_simp;refine (gD _ _ _ _ D14.o s5 z5 e5 x5 (HT.o.stays hH)).mono ?_;rintro e y15 ⟨rfl,b15⟩;refine hK.o _ _ (au hH b15) (fun hH=>?_);clear hK K;clear b15;refine ak 38 64 ?_ rfl (by kernel_rfl) rfl (fun _ _ _ h=>h) rfl hH (fun w' hS=>?_) ?_;rotate_left
  ·go_simp;try with_reducible rfl
  simp only [sz0,sz1];refine ak 39 65 ?_ rfl (by kernel_rfl) rfl (fun _ _ _ h=>h) rfl hH (fun w' hS=>?_) ?_;rotate_left
  ·go_simp;try with_reducible rfl
  simp only [sz0,sz1];refine wpAnyH_done (by kernel_rfl) ?_ _;go_wp2_with fail
  go_meet
  case rel=>exact ⟨rfl,Hy hH⟩
 case rest =>
  obtain ⟨rfl,BW⟩:=hcut;replace B:=Hy (au B.o BW.o);replace HT:=Hy (HT.o.stays BW.o);replace GA:=Hy (GA.o.keeps BW.o);replace GB:=Hy (GB.o.keeps BW.o);replace GC:=Hy (GC.o.keeps BW.o);replace U:=Hy (U.o.keeps BW.o);replace XA:=Hy (XA.o.keeps BW.o);replace XB:=Hy (XB.o.keeps BW.o);replace XC:=Hy (XC.o.keeps BW.o);clear BW XK K C1 C2;generalize wc=w9 at *;obtain ⟨ua,uc,aa,ac,e1',EA⟩:=XA.o;obtain ⟨ub,ud,ab,ad,e2',EB⟩:=XB.o;obtain ⟨ue,uf,ae,af,e3',EC⟩:=XC.o;subst e1' e2' e3';have HA:=Hy EA;have HB:=Hy EB;have HC:=Hy EC;clear XA XB XC EA EB EC;unfold exC at *
  go_upto_region 7 with (first
    | (refine aH aF Tryz.underlying29 rfl (.tmp 1) rfl rfl _ _ _ rfl GA.o rfl ?_)
    | (refine aH aF Tryz.underlying29 rfl (.tmp 2) rfl rfl _ _ _ rfl GB.o rfl ?_)
    | (refine aH aF Tryz.underlying29 rfl (.tmp 3) rfl rfl _ _ _ rfl GC.o rfl ?_))
  have b6:=bX w9 (.cells (c3 ua aa ub ab ue ae uc ac ud ad uf af) 29) (.cells (exC oZ.h 3 none 0 (some ⟨w9.heap.size,0,none⟩) 3) 29);have XH:=Hy (Pg (HA.o.keeps b6) (HB.o.keeps b6) (HC.o.keeps b6) ((Blk.new w9 _ _).past _));have GH:=Hy (jH (w9.alloc (.cells (c3 ua aa ub ab ue ae uc ac ud ad uf af) 29)) 29 (exC oZ.h 3 none 0 (some ⟨w9.heap.size,0,none⟩) 3) (w9.heap.size+1) (gY _ _).symm);replace B:=Hy (au B.o b6);replace HT:=Hy (HT.o.stays b6);replace U:=Hy (U.o.keeps b6);clear b6 GA GB GC HA HB HC;obtain ⟨wA,hw⟩:∃ wA,wA=(w9.alloc (.cells (c3 ua aa ub ab ue ae uc ac ud ad uf af) 29)).alloc (.cells (exC oZ.h 3 none 0 (some ⟨w9.heap.size,0,none⟩) 3) 29):=⟨_,rfl⟩;rw [← hw] at U B HT XH GH;refine iT wA hw ?_;clear hw;generalize w9.heap.size+1=gh at *;generalize w9.heap.size=gi at *
  go_upto_region 8 with fail
  have b7:=aj (b0 wA) (.cells (exC xA.h 0 none 0 none 0) 29);have GZ:=Hy (Blk.new wA 29 (exC xA.h 0 none 0 none 0));replace GH:=Hy (GH.o.keeps b7);replace XH:=Hy (XH.o.keeps b7);replace B:=Hy (au B.o b7);replace HT:=Hy (HT.o.stays b7);replace U:=Hy (U.o.keeps b7);clear b7;obtain ⟨wB,hw⟩:∃ wB,wB=wA.alloc (.cells (exC xA.h 0 none 0 none 0) 29):=⟨_,rfl⟩;rw [← hw] at U B HT XH GH GZ;refine iT wB hw ?_;clear hw;generalize wA.heap.size=gz at *
  go_upto_region 9 with fail
  have b7:=aj (b0 wB) (.cells (exC oM.h 0 none 0 none 0) 29);have GY:=Hy (Blk.new wB 29 (exC oM.h 0 none 0 none 0));replace GH:=Hy (GH.o.keeps b7);replace GZ:=Hy (GZ.o.keeps b7);replace XH:=Hy (XH.o.keeps b7);replace B:=Hy (au B.o b7);replace HT:=Hy (HT.o.stays b7);replace U:=Hy (U.o.keeps b7);clear b7;obtain ⟨wC,hw⟩:∃ wC,wC=wB.alloc (.cells (exC oM.h 0 none 0 none 0) 29):=⟨_,rfl⟩;rw [← hw] at U B HT XH GH GZ GY;refine iT wC hw ?_;clear hw;generalize wB.heap.size=gy at *;unfold exC at GH GZ GY
  go_upto_region 10 with (first
    | (refine aH aF Tryz.underlying29 rfl (.tmp 6) rfl rfl _ _ _ rfl GH.o rfl ?_)
    | (refine aH aF Tryz.underlying29 rfl (.tmp 7) rfl rfl _ _ _ rfl GZ.o rfl ?_)
    | (refine aH aF Tryz.underlying29 rfl (.tmp 8) rfl rfl _ _ _ rfl GY.o rfl ?_))
  have b9:=aj (b0 wC) (.cells (d2 gi) 29);have XD:=OY (XH.o.keeps b9) (Blk.new wC 29 (d2 gi));have C:=Hy (gD qW _ _ _ XD s6 z6 e6 x6 (HT.o.stays b9));have B9:=Hy b9;clear b9 XD;refine C.o.mono ?_;rintro e wD ⟨rfl,bD⟩;have bb:=au B9.o bD;replace B:=Hy (au B.o bb);replace HT:=Hy (HT.o.stays bb);replace U:=Hy (U.o.keeps bb);replace GY:=Hy (GY.o.keeps bb);clear bb bD B9 C GH GZ XH;have y0:=GY.o.cell 0;have y1:=GY.o.cell 1;have y2:=GY.o.cell 2;have y3:=GY.o.cell 3;have y4:=GY.o.cell 4;have y5:=GY.o.cell 5;have y6:=GY.o.cell 6;have y7:=GY.o.cell 7;have y8:=GY.o.cell 8;have y9:=GY.o.cell 9;have y10:=GY.o.cell 10;have y11:=GY.o.cell 11;simp only [sz2,sz3,sz4] at y0 y1 y2 y3 y4 y5 y6 y7 y8 y9 y10 y11
  go_upto_region 10 with fail
  clear y0 y1 y2 y3 y4 y5 y6 y7 y8 y9 y10 y11;have b9:=aj (b0 wD) (.cells (exC oM.h 0 none 0 none 0) 29);have XD:=Om (Blk.new wD 29 (exC oM.h 0 none 0 none 0));have C:=Hy (gD qJ _ _ _ XD s7 z7 e7 x7 (HT.o.stays b9));have B9:=Hy b9;clear b9 XD;refine C.o.mono ?_;rintro e wE ⟨rfl,bE⟩;have bb:=au B9.o bE;replace B:=Hy (au B.o bb);replace HT:=Hy (HT.o.stays bb);replace U:=Hy (U.o.keeps bb);clear bb bE B9 C GY;have CT:=Hy (fun (w:World)=>MU w);have CF:=Hy (fun (n:ByteArray) (w:World)=>LY n w)
  go_upto_region 11 with fail
  go_wp2_with fail;refine (CT.o _).mono ?_;rintro e wF ⟨ct,rfl,XT,bF⟩;replace B:=Hy (au B.o bF);replace HT:=Hy (HT.o.stays bF);replace U:=Hy (U.o.keeps bF);have HE:=Hy XT;clear bF XT CT
  go_upto_region 12 with (refine kI (.tmp 9) (.tmp 88) rfl rfl _ _ _ _ _ rfl rfl HE.o (Blk.new _ _ _) rfl ?_;intro wG L1 M1)
  have b7:=(aj (b0 wF) _).trans (M1.below lr);have GT:=Hy L1;replace U:=Hy (U.o.keeps b7);replace HE:=Hy (HE.o.keeps b7);replace B:=Hy (au B.o b7);replace HT:=Hy (HT.o.stays b7);clear b7 L1 M1;generalize wF.heap.size=gt at *;obtain ⟨ua,uc,aa,ac,e1',ET⟩:=HE.o;subst e1';have XT:=Hy ET;clear ET HE;unfold exC at GT
  go_upto_region 13 with (refine aH aF Tryz.underlying29 rfl (.tmp 9) rfl rfl _ _ _ rfl GT.o rfl ?_)
  have b6:=bX wG (.cells (p2 iK iK ua aa ua aa uc ac uc ac) 29) (.cells (exC lU.h 2 none 0 (some ⟨wG.heap.size,0,none⟩) 2) 29);have XN:=Hy (OZ (XT.o.keeps b6) (XT.o.keeps b6) ((Blk.new wG 29 (p2 iK iK ua aa ua aa uc ac uc ac)).past _));have GN:=Hy (jH (wG.alloc (.cells (p2 iK iK ua aa ua aa uc ac uc ac) 29)) 29 (exC lU.h 2 none 0 (some ⟨wG.heap.size,0,none⟩) 2) (wG.heap.size+1) (gY _ _).symm);replace U:=Hy (U.o.keeps b6);replace B:=Hy (au B.o b6);replace HT:=Hy (HT.o.stays b6);clear b6 GT XT;obtain ⟨wH,hw⟩:∃ wH,wH=(wG.alloc (.cells (p2 iK iK ua aa ua aa uc ac uc ac) 29)).alloc (.cells (exC lU.h 2 none 0 (some ⟨wG.heap.size,0,none⟩) 2) 29):=⟨_,rfl⟩;rw [← hw] at U B HT XN GN;refine iT wH hw ?_;clear hw;generalize wG.heap.size+1=gn at *;generalize wG.heap.size=gm at *;go_wp2_with fail;refine (CF.o _ _).mono ?_;rintro e wI ⟨cm,rfl,XM,bI⟩;replace U:=Hy (U.o.keeps bI);replace XN:=Hy (XN.o.keeps bI);replace GN:=Hy (GN.o.keeps bI);replace B:=Hy (au B.o bI);replace HT:=Hy (HT.o.stays bI);have HM:=Hy XM;clear XM bI;go_wp2_with fail;refine (CF.o _ _).mono ?_;rintro e wJ ⟨co,rfl,XO,bJ⟩;replace U:=Hy (U.o.keeps bJ);replace XN:=Hy (XN.o.keeps bJ);replace GN:=Hy (GN.o.keeps bJ);replace HM:=Hy (HM.o.keeps bJ);replace B:=Hy (au B.o bJ);replace HT:=Hy (HT.o.stays bJ);have HO:=Hy XO;clear XO bJ;obtain ⟨ua,uc,aa,ac,e1',EM⟩:=HM.o;subst e1';obtain ⟨ub,ud,ab,ad,e2',EO⟩:=HO.o;subst e2';clear HM HO;have HM:=Hy EM;have HO:=Hy EO;clear EM EO;unfold exC
  go_upto_region 14 with fail
  have b6:=bX wJ (.cells (p2 (fJ ⟨#[109,115]⟩) (fJ ⟨#[111,107]⟩) ua aa ub ab uc ac ud ad) 29) (.cells (exC lN.h 2 none 0 (some ⟨wJ.heap.size,0,none⟩) 2) 29);have XQ:=Hy (Ns (HM.o.keeps b6) (HO.o.keeps b6) ((Blk.new wJ 29 (p2 (fJ ⟨#[109,115]⟩) (fJ ⟨#[111,107]⟩) ua aa ub ab uc ac ud ad)).past _));have GQ:=Hy (jH (wJ.alloc (.cells (p2 (fJ ⟨#[109,115]⟩) (fJ ⟨#[111,107]⟩) ua aa ub ab uc ac ud ad) 29)) 29 (exC lN.h 2 none 0 (some ⟨wJ.heap.size,0,none⟩) 2) (wJ.heap.size+1) (gY _ _).symm);replace U:=Hy (U.o.keeps b6);replace XN:=Hy (XN.o.keeps b6);replace GN:=Hy (GN.o.keeps b6);replace B:=Hy (au B.o b6);replace HT:=Hy (HT.o.stays b6);clear b6 HM HO;obtain ⟨wK,hw⟩:∃ wK,wK=(wJ.alloc (.cells (p2 (fJ ⟨#[109,115]⟩) (fJ ⟨#[111,107]⟩) ua aa ub ab uc ac ud ad) 29)).alloc (.cells (exC lN.h 2 none 0 (some ⟨wJ.heap.size,0,none⟩) 2) 29):=⟨_,rfl⟩;rw [← hw] at U B HT XN GN XQ GQ;refine iT wK hw ?_;clear hw;generalize wJ.heap.size+1=gq at *;generalize wJ.heap.size=gp at *;unfold exC at GN GQ;go_wp2_with (refine aH aF Tryz.underlying29 rfl (.tmp 10) rfl rfl _ _ _ rfl GN.o rfl ?_);refine (gD lU _ _ _ XN.o s8 z8 e8 x8 HT.o).mono ?_;rintro e wL ⟨rfl,bL⟩;replace U:=Hy (U.o.keeps bL);replace XQ:=Hy (XQ.o.keeps bL);replace GQ:=Hy (GQ.o.keeps bL);replace B:=Hy (au B.o bL);replace HT:=Hy (HT.o.stays bL);clear bL XN GN;have y0:=GQ.o.cell 0;have y1:=GQ.o.cell 1;have y2:=GQ.o.cell 2;have y3:=GQ.o.cell 3;have y4:=GQ.o.cell 4;have y5:=GQ.o.cell 5;have y6:=GQ.o.cell 6;have y7:=GQ.o.cell 7;have y8:=GQ.o.cell 8;have y9:=GQ.o.cell 9;have y10:=GQ.o.cell 10;have y11:=GQ.o.cell 11;simp only [sz2,sz3,sz4] at y0 y1 y2 y3 y4 y5 y6 y7 y8 y9 y10 y11;go_wp2_with fail;clear y0 y1 y2 y3 y4 y5 y6 y7 y8 y9 y10 y11;refine (gD lN _ _ _ XQ.o s9 z9 e9 x9 HT.o).mono ?_;rintro e wM ⟨rfl,bM⟩;replace U:=Hy (U.o.keeps bM);replace B:=Hy (au B.o bM);replace HT:=Hy (HT.o.stays bM);clear bM XQ GQ
  go_upto_region 16 with fail
  have bN:=aj (b0 wM) (.cells (f2 gu) 88);have C:=Hy (Nb (OQ (Et (U.o.keeps bN)) (Blk.new wM 88 (f2 gu))) (HT.o.stays bN));have BN:=Hy bN;clear bN U;go_wp2_with fail;refine C.o.mono ?_;rintro e wO ⟨rfl,bO⟩;have bb:=au BN.o bO;replace B:=Hy (au B.o bb);replace HT:=Hy (HT.o.stays bb);clear bb bO BN C;go_wp2_with fail;refine (Na HT.o).mono ?_;rintro e wP ⟨rfl,bP⟩;replace B:=Hy (au B.o bP);replace HT:=Hy (HT.o.stays bP);clear bP;go_wp2_with fail;refine (CF.o _ _).mono ?_;rintro e wQ ⟨cx,rfl,XX,bQ⟩;replace B:=Hy (au B.o bQ);replace HT:=Hy (HT.o.stays bQ);have HX:=Hy XX;clear bQ XX CF;go_wp2_with fail;refine (QI HX.o HT.o).mono ?_;rintro e wR ⟨rfl,bR⟩;replace B:=Hy (au B.o bR);replace HT:=Hy (HT.o.stays bR);clear bR HX;go_wp2_with fail;go_ret;exact ⟨rfl,B.o⟩
end ch
namespace ch
open Go.ChangeShapes Go.WideShapes Go.ChangeAt Go.RowKit Go.Joins dec
def K:Nat:=5864062014634
instance:Inhabited Ex:=⟨⟨h0,.nil⟩⟩
instance:Inhabited Fi:=⟨⟨.empty,t0⟩⟩
instance:Inhabited Tb:=⟨⟨.empty,.empty,[],0⟩⟩
instance:Inhabited Fe:=⟨⟨.empty,.empty,t0,⟨h0,.nil⟩,0⟩⟩
section
variable {H:Type} {enc:TypeId × Value→H} {w:World} {m:Nat} {y:DataW H × List MemPlace}
abbrev Rd (enc:TypeId × Value→H) (w:World) (m:Nat) (T:TypeId) (cs:List Value) (y:DataW H × List MemPlace):Prop:=DataW.trod enc Tryz.prog w 0 (fun _=>true) true m T cs=some y
end
section
variable {H:Type} {enc:TypeId × Value→H} {w:World} {m:Nat} {y:DataW H × List MemPlace}
variable {H:Type} {enc:TypeId × Value→H} {Z:World} {r:Reach} {b0':Nat} {v:Value} {d:DataW H} {p:List MemPlace}
end
end ch
section
open Go.ChangeShapes Go.WideShapes Go.ChangeAt Go.RowKit Go.Joins dec ch
theorem own:ownKnob Tryz.prog.godebug=none:=by kernel_rfl
theorem laidOut:laidOutB Tryz.prog=true:=by kernel_rfl
section
variable {H:Type} {enc':TypeId × Value→H} {P:Program}
end
theorem Ra:Tryz.prog.globalNamed "internal/strconv.uint64pow10" = some 5:=by kernel_rfl
theorem QS:(Tryz.prog.globals[5]?).map (·.type)=some 269:=by kernel_rfl
theorem QV:(Tryz.prog.globals[2]?).map (·.type)=some 223:=by kernel_rfl
theorem QT:(Tryz.prog.globals[7]?).map (·.type)=some 154:=by kernel_rfl
theorem QU:(Tryz.prog.globals[8]?).map (·.type)=some 154:=by kernel_rfl
theorem QX:(Tryz.prog.globals[1]?).map (·.type)=some 213:=by kernel_rfl
theorem Rq:Tryz.prog.cellsOf 213=126:=by kernel_rfl
theorem cC1:Tryz.prog.cellsOf 172=1:=by kernel_rfl
theorem Rj:(Rows.laid_asof_lexer_classes:DataW Unit)=Lib.tabData .u8 oV:=by kernel_rfl
theorem Rn:Tryz.prog.cellsOf 269=20:=by kernel_rfl
theorem Ro:Tryz.prog.cellsOf 223=7:=by kernel_rfl
theorem cU:Tryz.prog.cellsOf 212=1:=by kernel_rfl
theorem cI3:Tryz.prog.cellsOf 3=1:=by kernel_rfl
theorem cS9:Tryz.prog.cellsOf 9=1:=by kernel_rfl
theorem cE:Tryz.prog.cellsOf 296=1:=by kernel_rfl
theorem Rf:(Rows.laid_internal_strconv_uint64pow10:DataW Unit)=Lib.tabData .u64 Lib.pow10Tab:=by kernel_rfl
theorem Rh:(Rows.laid_asof_decimal_powers:DataW Unit)=Lib.tabData .i64 kg:=by kernel_rfl
theorem star : "*"++ "errors.errorString" = "*errors.errorString":=by decide
theorem Np (u:TypeId) (h:Tryz.prog.typeName? 3 u=some "*errors.errorString"):u=294 :=
 typeName_ptr_named (nm:= "errors.errorString") (by rw [star];kernel_rfl) (by kernel_rfl) (by decide) u (by rw [star];exact h)
theorem zI {H:Type} {enc:TypeId × Value→H} {P:Program} {w:World} {base:Nat} {sp:Nat→Bool} {held:Bool} {fuel:Nat} {t e:TypeId} {n:Nat} {cs:List Value} {ss:List ByteArray} {p:List MemPlace}
    (ht:P.underlying t=some (.array n e)) (he:P.underlying e=some .string) (hce:P.cellsOf e=1) (hct:P.cellsOf t=n)
    (h:DataW.trod enc P w base sp held fuel t cs=some (.agg (ss.map fun s=>.lit (.string s.data.toList)),p)):cs=ss.map fun s=>Value.string s:=by
 cases fuel with
 | zero=>simp [DataW.trod] at h
 | succ fuel =>
   simp only [DataW.trod,ht,hce,hct,Nat.mul_one] at h
   split at h
   · rename_i hl
     obtain ⟨xs,hm,hx⟩:=Option.map_eq_some_iff.1 h
     have hxs:xs.map (·.1)=ss.map fun s=>(DataW.lit (.string s.data.toList):DataW H):=by
       have:=congrArg Prod.fst hx
       simpa using this
     have hxl:xs.length=n:=by simpa using Lib.mapM_length hm
     have hzl:ss.length=n:=by
       have:=congrArg List.length hxs
       simp at this
       omega
     apply List.ext_getElem?
     intro i
     by_cases hi:i<n
     · obtain ⟨b,hb,hf⟩:=Lib.mapM_at hm i i (by simp [hi])
       obtain ⟨z,hc,hz,_⟩:=DataW.trod_string he hf
       have h1:cs[i]? = some (.string z):=by
         have:=congrArg (·[0]?) hc
         simpa [List.getElem?_take,List.getElem?_drop] using this
       have h2:(xs.map (·.1))[i]? = some (DataW.lit (.string z.data.toList):DataW H):=by simp [hb,hz]
       rw [hxs] at h2
       simp only [List.getElem?_map,Option.map_eq_some_iff,DataW.lit.injEq,Lit.string.injEq] at h2
       obtain ⟨z',hz',e⟩:=h2
       have e2:z'=z:=ByteArray.ext (Array.toList_inj.1 e)
       simp [h1,hz',e2]
     · rw [List.getElem?_eq_none (by omega),List.getElem?_eq_none (by simp;omega)]
   · cases h
theorem og {P:Program} {W:World} {name:String} {ss:List ByteArray} {rest:List (String × DataW Unit)} {g:Nat} {t e:TypeId} {n:Nat}
    (hg:P.globalNamed name=some g) (hty:(P.globals[g]?).map (·.type)=some t) (ht:P.underlying t=some (.array n e)) (he:P.underlying e=some .string) (hce:P.cellsOf e=1) (hct:P.cellsOf t=n)
    (h:laidMet P ((name,.agg (ss.map fun s=>.lit (.string s.data.toList))) :: rest) W) (i:Nat) (hi:i<ss.length):W.cell? ⟨g,i,none⟩=some (.string (ss.getD i .empty)):=by
 obtain ⟨ps,⟨g',t',cs,fuel,p,q,hg',ht',hvar,hd,_,_⟩,_⟩:=h;obtain rfl:=Option.some.inj (hg.symm.trans hg');obtain rfl:=Option.some.inj (hty.symm.trans ht');obtain rfl:cs=(ss.map fun s=>Value.string s).toArray:=by rw [← zI ht he hce hct hd]
 have:=World.var?_cell hg hvar i;simpa [List.getD,hi] using this
theorem Q9:Tryz.prog.globalNamed "asof/printer.typeWords" = some 0:=by kernel_rfl
theorem Q8:Tryz.prog.globalNamed "asof/printer.windowWords" = some 3:=by kernel_rfl
theorem QO:(Tryz.prog.globals[0]?).map (·.type)=some 147:=by kernel_rfl
theorem QN:(Tryz.prog.globals[3]?).map (·.type)=some 231:=by kernel_rfl
theorem Rm:Tryz.prog.cellsOf 147=6:=by kernel_rfl
theorem Rl:Tryz.prog.cellsOf 231=5:=by kernel_rfl
def tyL:List ByteArray:=[.empty,⟨#[98,111,111,108]⟩,⟨#[105,110,116]⟩,⟨#[100,101,99]⟩,⟨#[116,101,120,116]⟩,⟨#[107,101,121]⟩]
def wiL:List ByteArray:=[.empty,⟨#[97,108,108]⟩,⟨#[115,108,105,100,105,110,103]⟩,⟨#[116,117,109,98,108,105,110,103]⟩,⟨#[115,101,115,115,105,111,110]⟩]
theorem Rc:(Rows.laid_asof_printer_typeWords:DataW Unit)=.agg (tyL.map fun s=>.lit (.string s.data.toList)):=by kernel_rfl
theorem Rb:(Rows.laid_asof_printer_windowWords:DataW Unit)=.agg (wiL.map fun s=>.lit (.string s.data.toList)):=by kernel_rfl
theorem MR:∀ j,1≤j→j<6→tyL.getD j .empty=lM j
 | 0,h,_=>absurd h (by decide)
 | 1,_,_=>rfl
 | 2,_,_=>rfl
 | 3,_,_=>rfl
 | 4,_,_=>rfl
 | 5,_,_=>rfl
 | j+6,_,h=>absurd h (by omega)
theorem MK:∀ j,1≤j→j<5→wiL.getD j .empty=kQ j
 | 0,h,_=>absurd h (by decide)
 | 1,_,_=>rfl
 | 2,_,_=>rfl
 | 3,_,_=>rfl
 | 4,_,_=>rfl
 | j+5,_,h=>absurd h (by omega)
end
section
open Go.RowKit dec
structure Fe where
 nm:ByteArray
 en:ByteArray
 ty:Ty
 bo:Ex
inductive Rs (α:Type) where
 | out
 | ok (v:α) (r:List Tk)
 | no (a c:Int) (r:List Tk)
def Rs.bind {α β:Type} (x:Rs α) (g:α→List Tk→Rs β):Rs β :=
 match x with
 | .out=>.out
 | .ok v r=>g v r
 | .no a c r=>.no a c r
def hd (l:List Tk):Tk:=l.headD ⟨6,.empty,0⟩
def wrg {α:Type} (l:List Tk):Rs α:=.no (hd l).a 90 l
def isT (s:ByteArray) (l:List Tk):Bool:=(decide ((hd l).k=1) || decide ((hd l).k=5)) && decide ((hd l).t=s)
def need (s:ByteArray) (l:List Tk):Rs Unit:=if isT s l=true then .ok () l.tail else wrg l
def tak (k:Int) (l:List Tk):Rs ByteArray:=if (hd l).k=k then .ok (hd l).t l.tail else wrg l
def nam (l:List Tk):Rs ByteArray:=if name (hd l).t=true then tak 1 l else wrg l
def nma (s:ByteArray) (l:List Tk):Rs ByteArray:=(need s l).bind fun _ r=>nam r
def int (l:List Tk):Rs Int:=(tak 2 l).bind fun s r=>.ok (jJ s.data.toList) r
def lC (l:List Tk):Rs Int:=(tak 3 l).bind fun s r=>.ok (paX s.data.toList) r
def more {α:Type} (one:List Tk→Rs α) (s:ByteArray):Nat→List α→List Tk→Rs (List α)
 | 0,_,_=>.out
 | f+1,x,l=>if isT s l=true then (one l.tail).bind fun y r=>more one s f (x++[y]) r else .ok x l
def lst {α:Type} (one:List Tk→Rs α) (s:ByteArray) (l:List Tk):Rs (List α):=(one l).bind fun y r=>more one s (r.length+1) [y] r
def fac (l:List Tk):Rs un.Fa :=
 (nam l).bind fun n r=>if isT ⟨#[94]⟩ r=true then
  (if isT ⟨#[45]⟩ r.tail=true then (int r.tail.tail).bind fun x r=>.ok (n,IntKind.i64.wrap (-1 * min x 1099511627776)) r else (int r.tail).bind fun x r=>.ok (n,IntKind.i64.wrap (1 * min x 1099511627776)) r)
  else .ok (n,1) r
def uni (l:List Tk):Rs (List un.Fa) :=
 if isT ⟨#[91]⟩ l=true then (lst fac ⟨#[42]⟩ l.tail).bind fun u r=>(need ⟨#[93]⟩ r).bind fun _ r=>if un.nE u=0 then .ok (un.nL u) r else .no (hd l).a (un.nE u) r
 else .ok [] l
def typ (l:List Tk):Rs Ty :=
 if isT ⟨#[98,111,111,108]⟩ l=true then .ok ⟨1,[],.empty⟩ l.tail
 else if isT ⟨#[116,101,120,116]⟩ l=true then .ok ⟨4,[],.empty⟩ l.tail
 else if isT ⟨#[107,101,121]⟩ l=true then (nam l.tail).bind fun n r=>.ok ⟨5,[],n⟩ r
 else if isT ⟨#[105,110,116]⟩ l=true then (uni l.tail).bind fun u r=>.ok ⟨2,u,.empty⟩ r
 else if isT ⟨#[100,101,99]⟩ l=true then (uni l.tail).bind fun u r=>.ok ⟨3,u,.empty⟩ r
 else wrg l
def win (l:List Tk):Rs (Int × Int) :=
 if isT ⟨#[97,108,108]⟩ l=true then .ok (1,0) l.tail
 else if isT ⟨#[115,108,105,100,105,110,103]⟩ l=true then (int l.tail).bind fun n r=>.ok (2,n) r
 else if isT ⟨#[116,117,109,98,108,105,110,103]⟩ l=true then (int l.tail).bind fun n r=>.ok (3,n) r
 else if isT ⟨#[115,101,115,115,105,111,110]⟩ l=true then (int l.tail).bind fun n r=>.ok (4,n) r
 else wrg l
def agg (s:ByteArray):Bool:=[(⟨#[99,111,117,110,116]⟩:ByteArray),⟨#[115,117,109]⟩,⟨#[109,101,97,110]⟩,⟨#[109,105,110]⟩,⟨#[109,97,120]⟩,⟨#[102,105,114,115,116]⟩,⟨#[108,97,115,116]⟩,⟨#[100,105,115,116,105,110,99,116]⟩,⟨#[113,117,97,110,116,105,108,101]⟩,⟨#[100,101,99,97,121]⟩].any fun t=>decide (s=t)
def bS (n:Int):Ex:=⟨{ h0 with k:=1,vk:=1,vn:=n },.nil⟩
def eH (op:ByteArray) (x:Ex):Ex:=⟨{ h0 with k:=6,op:=op },.cons x.h x.ar .nil⟩
def aY (op:ByteArray) (x y:Ex):Ex:=if op=⟨#[100,101,102,97,117,108,116]⟩ then ⟨{ h0 with k:=9 },.cons x.h x.ar (.cons y.h y.ar .nil)⟩ else ⟨{ h0 with k:=7,op:=op },.cons x.h x.ar (.cons y.h y.ar .nil)⟩
def ifE (x y z:Ex):Ex:=⟨{ h0 with k:=8 },.cons x.h x.ar (.cons y.h y.ar (.cons z.h z.ar .nil))⟩
def yP (vk vn:Int) (u:List un.Fa):Ex:=⟨{ h0 with k:=1,vk:=vk,vn:=vn,un:=u },.nil⟩
def Ip (s:ByteArray):Ex:=⟨{ h0 with k:=1,vk:=4,vs:=s },.nil⟩
def Dr (n s:ByteArray):Ex:=⟨{ h0 with k:=1,nm:=n,vk:=5,vs:=s },.nil⟩
def zw (n:ByteArray):Ex:=⟨{ h0 with k:=2,nm:=n },.nil⟩
def zx (n:ByteArray):Ex:=⟨{ h0 with k:=3,nm:=n },.nil⟩
def oK (n:ByteArray) (x:Ex):Ex:=⟨{ h0 with k:=4,nm:=n },.cons x.h x.ar .nil⟩
def qZ (op t:ByteArray) (p:Int) (w:Int × Int) (x y:Ex):Ex:=⟨{ h0 with k:=5,op:=op,tb:=t,pa:=p,wk:=w.1,ws:=w.2 },.cons x.h x.ar (.cons y.h y.ar .nil)⟩
def opL:Nat→List ByteArray
 | 0=>[⟨#[100,101,102,97,117,108,116]⟩]
 | 1=>[⟨#[111,114]⟩]
 | 2=>[⟨#[97,110,100]⟩]
 | 3=>[⟨#[61,61]⟩,⟨#[33,61]⟩,⟨#[60]⟩,⟨#[60,61]⟩]
 | 4=>[⟨#[43]⟩,⟨#[45]⟩]
 | _=>[⟨#[42]⟩,⟨#[47]⟩]
def opr (n:Nat) (l:List Tk):ByteArray:=((opL n).find? fun s=>isT s l).getD .empty
def key (l:List Tk):Rs Ex :=
 (nma ⟨#[64]⟩ l).bind fun n r=>(tak 4 r).bind fun s r' => if ck ⟨5,0,s⟩=0 then .ok (Dr n s) r' else .no (hd r).a 3 r'
inductive Md where
 | ex | op (least:Nat) | tl (least n:Nat) (x:Ex) | ng | pr | pa | ag | rf
def pz:Nat→Bool→Md→List Tk→Rs Ex
 | 0,_,_,_=>.out
 | f+1,i,.ex,l =>
  if isT ⟨#[105,102]⟩ l=true then
   (pz f i .ex l.tail).bind fun x r=>(need ⟨#[116,104,101,110]⟩ r).bind fun _ r=>(pz f i .ex r).bind fun y r=>(need ⟨#[101,108,115,101]⟩ r).bind fun _ r=>(pz f i .ex r).bind fun z r=>.ok (ifE x y z) r
  else pz f i (.op 0) l
 | f+1,i,.op least,l =>
  if least≤3∧isT ⟨#[110,111,116]⟩ l=true then (pz f i (.op 3) l.tail).bind fun x r=>pz f i (.tl least 3 (eH ⟨#[110,111,116]⟩ x)) r
  else (pz f i .ng l).bind fun x r=>pz f i (.tl least 6 x) r
 | f+1,i,.tl least n x,l =>
  if n≤least then .ok x l
  else if opr (n - 1) l=.empty then pz f i (.tl least (n - 1) x) l
  else (pz f i (.op n) l.tail).bind fun y r=>pz f i (.tl least (if n=4 then 3 else n) (aY (opr (n - 1) l) x y)) r
 | f+1,i,.ng,l=>if isT ⟨#[45]⟩ l=true then (pz f i .ng l.tail).bind fun x r=>.ok (eH ⟨#[45]⟩ x) r else pz f i .pr l
 | f+1,i,.pa,l=>(need ⟨#[40]⟩ l).bind fun _ r=>(pz f i .ex r).bind fun x r=>(need ⟨#[41]⟩ r).bind fun _ r=>.ok x r
 | f+1,i,.rf,l=>(nam l).bind fun n r=>if isT ⟨#[111,102]⟩ r=true then (pz f i .pa r.tail).bind fun x r=>.ok (oK n x) r else .ok (zx n) r
 | f+1,_,.ag,l =>
  (tak 1 l).bind fun op r=>(need ⟨#[40]⟩ r).bind fun _ r=>(nam r).bind fun t r=>(need ⟨#[44]⟩ r).bind fun _ r =>
  (if op=⟨#[99,111,117,110,116]⟩ then .ok (bS 1) r else (pz f true .ex r).bind fun x r=>(need ⟨#[44]⟩ r).bind fun _ r=>.ok x r).bind fun x r =>
  (if op=⟨#[113,117,97,110,116,105,108,101]⟩∨op=⟨#[100,101,99,97,121]⟩ then (int r).bind fun n r=>(need ⟨#[44]⟩ r).bind fun _ r=>.ok n r else .ok 0 r).bind fun p r =>
  (win r).bind fun w r=>(if isT ⟨#[119,104,101,114,101]⟩ r=true then pz f true .ex r.tail else .ok (bS 1) r).bind fun y r=>(need ⟨#[41]⟩ r).bind fun _ r=>.ok (qZ op t p w x y) r
 | f+1,i,.pr,l =>
  if (hd l).k=2 then (int l).bind fun n r=>(uni r).bind fun u r=>.ok (yP 2 n u) r
  else if (hd l).k=3 then (lC l).bind fun n r=>(uni r).bind fun u r=>.ok (yP 3 n u) r
  else if (hd l).k=4 then (tak 4 l).bind fun s r=>.ok (Ip s) r
  else if isT ⟨#[116,114,117,101]⟩ l=true then .ok (bS 1) l.tail
  else if isT ⟨#[102,97,108,115,101]⟩ l=true then .ok (bS 0) l.tail
  else if isT ⟨#[64]⟩ l=true then key l
  else if isT ⟨#[110,117,108,108]⟩ l=true then (pz f i .pa l.tail).bind fun x r=>.ok (eH ⟨#[110,117,108,108]⟩ x) r
  else if isT ⟨#[40]⟩ l=true then pz f i .pa l
  else if i=true then (nam l).bind fun n r=>.ok (zw n) r
  else if agg (hd l).t=true then pz f i .ag l
  else pz f i .rf l
def Opt (w:World):Prop:=∀ n,n<6→∃ b off cap,w.cell? ⟨4,n,none⟩=some (.slice (some ⟨b,off,none⟩) (opL n).length cap)∧∀ j (hj:j<(opL n).length),w.cell? ⟨b,off+j,none⟩=some (.string (opL n)[j])
theorem Opt.keeps {w w':World} (h:Opt w) (hb:Below w.heap.size w w'):Opt w':=fun n hn=>by
 obtain ⟨b,off,cap,c,hc⟩:=h n hn
 exact ⟨b,off,cap,dec.keeps hb c,fun j hj=>dec.keeps hb (hc j hj)⟩
structure Tabo (w:World):Prop where
 t:Tabs w
 ops:Opt w
theorem Tabo.stays {w w':World} (h:Tabo w) (hb:Below w.heap.size w w'):Tabo w':=⟨h.t.stays hb,h.ops.keeps hb⟩
end
section
open Go.ChangeShapes Go.WideShapes Go.ChangeAt Go.RowKit Go.Joins dec ch
def sH:List (String × DataW Unit):=[("math/bits.deBruijn32tab",Rows.laid_math_bits_deBruijn32tab),("math/bits.deBruijn64tab",Rows.laid_math_bits_deBruijn64tab),("internal/strconv.uint64pow10",Rows.laid_internal_strconv_uint64pow10),("strconv.ErrRange",Rows.laid_strconv_ErrRange),("strconv.ErrSyntax",Rows.laid_strconv_ErrSyntax),("asof/decimal.powers",Rows.laid_asof_decimal_powers),("asof/lexer.classes",Rows.laid_asof_lexer_classes),("asof/parser.operators",Rows.laid_asof_parser_operators),("asof/printer.windowWords",Rows.laid_asof_printer_windowWords),("asof/printer.typeWords",Rows.laid_asof_printer_typeWords)]
theorem OI:Tryz.prog.globalNamed "asof/parser.operators" = some 4:=by kernel_rfl
theorem QW:(Tryz.prog.globals[4]?).map (·.type)=some 243:=by kernel_rfl
theorem Rp:Tryz.prog.cellsOf 243=6:=by kernel_rfl
theorem cSs:Tryz.prog.cellsOf 97=1:=by kernel_rfl
theorem Ri:(Rows.laid_asof_parser_operators:DataW Unit)=.agg ((List.range 6).map fun n=>.slice ((opL n).map fun s=>.lit (.string s.data.toList)) []):=by kernel_rfl
theorem Bp (n:Nat):(opL n).length≤4:=by
 match n with
 | 0=>decide
 | 1=>decide
 | 2=>decide
 | 3=>decide
 | 4=>decide
 | n+5=>show ([_,_]:List ByteArray).length≤4;simp
theorem Ab {W:World} {rest:List (String × DataW Unit)} (h:laidMet Tryz.prog (("asof/parser.operators",.agg ((List.range 6).map fun n=>.slice ((opL n).map fun s=>.lit (.string s.data.toList)) [])) :: rest) W):Opt W:=by
 obtain ⟨ps,⟨g',t',cs,fuel,p,q,hg',ht',hvar,hd,_,_⟩,_⟩:=h;obtain rfl:=Option.some.inj (OI.symm.trans hg');obtain rfl:=Option.some.inj (QW.symm.trans ht')
 cases fuel with
 | zero=>simp [DataW.trod] at hd
 | succ fuel =>
   simp only [DataW.trod,Tryz.underlying243,cSs,Rp,Nat.mul_one] at hd
   split at hd
   · rename_i hl
     obtain ⟨xs,hm,hx⟩:=Option.map_eq_some_iff.1 hd
     have hxs:xs.map (·.1)=(List.range 6).map fun n=>(DataW.slice ((opL n).map fun s=>.lit (.string s.data.toList)) []:DataW Unit):=by
       have:=congrArg Prod.fst hx
       simpa using this
     intro n hn
     obtain ⟨y,hy,hf⟩:=Lib.mapM_at hm n n (by simp [hn])
     have h2:(xs.map (·.1))[n]? = some y.1:=by simp [hy]
     rw [hxs,List.getElem?_map,List.getElem?_range hn] at h2
     have h3:y.1=DataW.slice ((opL n).map fun s=>.lit (.string s.data.toList)) []:=(Option.some.inj h2).symm
     have hlt:n<cs.toList.length:=by
       have:cs.toList.length=6:=by simpa using hl
       omega
     have hcs:(cs.toList.drop n).take 1=[cs.toList[n]]:=by
       rw [List.drop_eq_getElem_cons hlt,List.take_succ_cons,List.take_zero]
     rw [hcs] at hf
     rcases Go.Deep.open_slice1 Tryz.underlying97 cS9 hf with ⟨_,h4⟩ | ⟨a,len,cap,m,k,V,D,Pl,h4,_,_,_,h5,h6,h7⟩
     · rw [h4] at h3
       cases h3
     · have h8:cs.toList[n]=.slice (some a) len cap:=by simpa using h4
       rw [h6] at h3
       injection h3 with h9 h10
       have hlen:len=(opL n).length:=by
         have:=congrArg List.length h9
         simpa using this
       have hc:W.cell? ⟨4,n,none⟩=some (.slice (some a) len cap):=by
         have:=World.var?_cell OI hvar n
         rw [this,← h8,← Array.getElem?_toList,List.getElem?_eq_getElem hlt]
       obtain ⟨b,off,spot⟩:=a
       have hel:∀ j (hj:j<(opL n).length),W.cell? ((⟨b,off,spot⟩:Addr).add j)=some (.string (opL n)[j]):=fun j hj=>by
         have hjm:j<m:=by rw [h5];split <;> omega
         obtain ⟨g1,g2⟩:=h7 j hjm
         obtain ⟨s,g3,g4,_⟩:=DataW.trod_string Tryz.underlying9 g2
         have g5:V j=.string s:=by simpa using g3
         have g6:((opL n).map fun s=>(DataW.lit (.string s.data.toList):DataW Unit))[j]? = some (D j):=by
           rw [← h9,List.getElem?_map,List.getElem?_range (by omega)]
           rfl
         rw [List.getElem?_map,List.getElem?_eq_getElem hj] at g6
         have g7:D j=.lit (.string s.data.toList):=congrArg Prod.fst g4
         rw [g7] at g6
         have g8:(opL n)[j].data.toList=s.data.toList:=by
           have:=Option.some.inj g6
           injection this with this
           injection this
         have g9:s=(opL n)[j]:=by
           rw [← uZ s,← uZ (opL n)[j],g8]
         rw [g1,g5,g9]
       have hsp:spot=none:=by
         have h0:0<(opL n).length:=by
           match n with
           | 0=>decide
           | 1=>decide
           | 2=>decide
           | 3=>decide
           | 4=>decide
           | n+5=>show 0<([_,_]:List ByteArray).length;simp
         simpa [Addr.add] using World.cell?_spot (hel 0 h0)
       subst hsp
       refine ⟨b,off,cap,by rw [hc,hlen],fun j hj=>?_⟩
       have:=hel j hj
       unfold Addr.add at this
       by_cases h1:j=0
       · subst h1;simpa using this
       · simpa [h1] using this
   · cases hd
theorem nY {W:World} (h:laidMetH Tryz.prog sH W):Tabq W∧Opt W:=by
 rw [MakeChecks.laidMetH_plain _ _ _ (by kernel_rfl)] at h;have h3:=h.tail.tail;have h4:=h3.tail;have h5:=h4.tail;have h6:=h5.tail;have h7:=h6.tail;have h8:=h7.tail;have h9:=h8.tail;have h10:=h9.tail;rw [Rf] at h3;rw [Rh] at h6;rw [Rj] at h7;rw [Ri] at h8;rw [Rb] at h9;rw [Rc] at h10;obtain ⟨a0,s0,hv0,-,-,-⟩:=laid_sentinel h4 DI QU Tryz.underlying154 Np Tryz.underlying294 Tryz.underlying296 rfl rfl Tryz.underlying9 cE cS9;obtain ⟨a1,s1,hv1,-,-,-⟩:=laid_sentinel h5 DF QT Tryz.underlying154 Np Tryz.underlying294 Tryz.underlying296 rfl rfl Tryz.underlying9 cE cS9;refine ⟨⟨⟨Lib.tabIs_of_head OH QV Tryz.underlying223 Tryz.underlying3 cI3 Ro h6,Lib.tabIs_of_head Ra QS Tryz.underlying269 Tryz.underlying212 cU Rn h3,⟨_,_,hv1⟩,⟨_,_,hv0⟩,Lib.tabIs_of_head OJ QX Tryz.underlying213 Tryz.underlying172 cC1 Rq h7⟩,fun j h1 h2=>?_,fun j h1 h2=>?_⟩,Ab h8⟩
 ·rw [← MR j h1 h2];exact og Q9 QO Tryz.underlying147 Tryz.underlying9 cS9 Rm h10 j h2
 rw [← MK j h1 h2];exact og Q8 QN Tryz.underlying231 Tryz.underlying9 cS9 Rl h9 j h2
theorem Hg (os:Os) (args:Array Value):laidMetH Tryz.prog sH ((World.doorLaid Tryz.prog 93 os).forCall (fun _ _=>0) ⟨#[],args,[]⟩).memory :=
 laidMetH_of_parts3 (fuel:=8) (laidMet_of_run' 8 (by kernel_rfl) (by kernel_rfl)) (by kernel_rfl) (by kernel_rfl)
end
namespace ch
open Go.RowKit dec
def flR (h g:Hd):Bool:=decide (h.k=g.k) && same h g
theorem Jv (h g:Hd) (n m:Nat) (ua ub aa ab:Option Addr) (uc ud ac ad:Nat) (w:World) (hU:un.Sl w ua h.un.length uc h.un) (hV:un.Sl w ub g.un.length ud g.un) :
    Calls Tryz.prog 70 #[.agg (exC h n ua uc aa ac),.agg (exC g m ub ud ab ad)] w (Bl (flR h g) w):=by
 have bb:=bX w (.cells (exC h n ua uc aa ac) 29) (.cells (exC g m ub ud ab ad) 29);have B0:=Hy bb;have GG:=eO w (exC h n ua uc aa ac) (exC g m ub ud ab ad) 29 29;have G1:=Hy GG.1;have G2:=Hy GG.2;have CS:=Hy (un.EL _ _ _ _ _ _ _ _ _ (hU.keeps bb) (hV.keeps bb));have hE:flR h g=flR h g:=rfl
 conv at hE=>rhs;unfold flR same
 replace hE:=Hy hE;clear hU hV bb GG;unfold exC at *;by_cases hk:h.k=g.k
 ·have qn:=dx hk;replace hE:=hE.o;simp only [dT hk,Bool.true_and] at hE;replace hE:=Hy hE;clear hk;by_cases e0:h.op=g.op
  ·have qhop:=lK e0;replace hE:=hE.o;simp only [dT e0,Bool.true_and] at hE;replace hE:=Hy hE;clear e0;by_cases e1:h.nm=g.nm
   ·have qhnm:=lK e1;replace hE:=hE.o;simp only [dT e1,Bool.true_and] at hE;replace hE:=Hy hE;clear e1;by_cases e2:h.tb=g.tb
    ·have qhtb:=lK e2;replace hE:=hE.o;simp only [dT e2,Bool.true_and] at hE;replace hE:=Hy hE;clear e2;by_cases e3:h.vk=g.vk
     ·have qhvk:=dx e3;replace hE:=hE.o;simp only [dT e3,Bool.true_and] at hE;replace hE:=Hy hE;clear e3;by_cases e4:h.vn=g.vn
      ·have qhvn:=dx e4;replace hE:=hE.o;simp only [dT e4,Bool.true_and] at hE;replace hE:=Hy hE;clear e4;by_cases e5:h.vs=g.vs
       ·have qhvs:=lK e5;replace hE:=hE.o;simp only [dT e5,Bool.true_and] at hE;replace hE:=Hy hE;clear e5
        go_enter Tryz.func70,Tryz.ntmps70
        go_wp2_with fail;refine (CS.o).mono ?_;rintro e w1 ⟨rfl,b1⟩;have B1:=Hy (au B0.o b1);replace G1:=Hy (G1.o.keeps b1);replace G2:=Hy (G2.o.keeps b1);have c8:=G1.o.cell 8;have c9:=G1.o.cell 9;have c10:=G1.o.cell 10;simp only [sz2,sz3,sz4] at c8 c9 c10;have d8:=G2.o.cell 8;have d9:=G2.o.cell 9;have d10:=G2.o.cell 10;simp only [sz2,sz3,sz4] at d8 d9 d10;clear b1 CS;have hu:decide (h.un=g.un)=un.jW h.un g.un:=rfl;replace hE:=hE.o;rw [hu] at hE;replace hE:=Hy hE;clear hu;generalize un.jW h.un g.un=u at *;cases u
        ·replace hE:=hE.o;simp only [Bool.false_and] at hE;replace hE:=Hy hE;go_wp2_with fail;go_ret;exact aG (by rw [hE.o]) B1.o
        replace hE:=hE.o;simp only [Bool.true_and] at hE;replace hE:=Hy hE;by_cases e0:h.pa=g.pa
        ·have qhpa:=dx e0;replace hE:=hE.o;simp only [dT e0,Bool.true_and] at hE;replace hE:=Hy hE;clear e0;by_cases e1:h.wk=g.wk
         ·have qhwk:=dx e1;replace hE:=hE.o;simp only [dT e1,Bool.true_and] at hE;replace hE:=Hy hE;clear e1;by_cases e2:h.ws=g.ws
          ·have qhws:=dx e2;replace hE:=hE.o;simp only [dT e2] at hE;replace hE:=Hy hE;clear e2;go_wp2_with fail;go_ret;exact aG (by rw [hE.o]) B1.o
          have qhws:=bW e2;replace hE:=hE.o;simp only [dF e2] at hE;replace hE:=Hy hE;clear e2;go_wp2_with fail;go_ret;exact aG (by rw [hE.o]) B1.o
         have qhwk:=bW e1;replace hE:=hE.o;simp only [dF e1,Bool.false_and] at hE;replace hE:=Hy hE;clear e1;go_wp2_with fail;go_ret;exact aG (by rw [hE.o]) B1.o
        have qhpa:=bW e0;replace hE:=hE.o;simp only [dF e0,Bool.false_and] at hE;replace hE:=Hy hE;clear e0;go_wp2_with fail;go_ret;exact aG (by rw [hE.o]) B1.o
       have qhvs:=lJ e5;replace hE:=hE.o;simp only [dF e5,Bool.false_and] at hE;replace hE:=Hy hE;clear e5
       go_enter Tryz.func70,Tryz.ntmps70
       go_wp2_with fail;go_ret;exact aG (by rw [hE.o]) B0.o
      have qhvn:=bW e4;replace hE:=hE.o;simp only [dF e4,Bool.false_and] at hE;replace hE:=Hy hE;clear e4
      go_enter Tryz.func70,Tryz.ntmps70
      go_wp2_with fail;go_ret;exact aG (by rw [hE.o]) B0.o
     have qhvk:=bW e3;replace hE:=hE.o;simp only [dF e3,Bool.false_and] at hE;replace hE:=Hy hE;clear e3
     go_enter Tryz.func70,Tryz.ntmps70
     go_wp2_with fail;go_ret;exact aG (by rw [hE.o]) B0.o
    have qhtb:=lJ e2;replace hE:=hE.o;simp only [dF e2,Bool.false_and] at hE;replace hE:=Hy hE;clear e2
    go_enter Tryz.func70,Tryz.ntmps70
    go_wp2_with fail;go_ret;exact aG (by rw [hE.o]) B0.o
   have qhnm:=lJ e1;replace hE:=hE.o;simp only [dF e1,Bool.false_and] at hE;replace hE:=Hy hE;clear e1
   go_enter Tryz.func70,Tryz.ntmps70
   go_wp2_with fail;go_ret;exact aG (by rw [hE.o]) B0.o
  have qhop:=lJ e0;replace hE:=hE.o;simp only [dF e0,Bool.false_and] at hE;replace hE:=Hy hE;clear e0
  go_enter Tryz.func70,Tryz.ntmps70
  go_wp2_with fail;go_ret;exact aG (by rw [hE.o]) B0.o
 have qn:=bW hk;replace hE:=hE.o;simp only [dF hk,Bool.false_and] at hE;replace hE:=Hy hE;clear hk
 go_enter Tryz.func70,Tryz.ntmps70
 go_wp2_with fail;go_ret;exact aG (by rw [hE.o]) B0.o
end ch
end Go.Proofs.YtbahfelnbofjjaaGreatDoor
