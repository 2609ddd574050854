/-
  The statements' examples; Reading of expressions in ranks, as plain data: each rank is read by the next one and a loop over its operators; The statements' helpers: the first bytes of a source, an operator with its rank.
-/
import Derived.Test.YtbpijgddfaefkaaGreatDoorK21
set_option maxRecDepth 100000
set_option maxHeartbeats 16000000
namespace Go.Proofs.YtbpijgddfaefkaaGreatDoor
namespace pa
open Go.RowKit dec
def eC1:Array Value:=#[.int .u8 49,.int .u8 32,.int .u8 43,.int .u8 32,.int .u8 50,.int .u8 32,.int .u8 42,.int .u8 32,.int .u8 97]
theorem eB1 (w:World):Bs (w.alloc (.cells eC1 5 (9,9+1))) (some ⟨w.heap.size,0,none⟩) 9 9 eS1:=jV w eC1 eS1 5 (9,9+1) 9 (by decide) (by kernel_rfl) (by decide)
def eC2:Array Value:=#[.int .u8 97,.int .u8 32,.int .u8 100,.int .u8 101,.int .u8 102,.int .u8 97,.int .u8 117,.int .u8 108,.int .u8 116,.int .u8 32,.int .u8 98,.int .u8 32,.int .u8 100,.int .u8 101,.int .u8 102,.int .u8 97,.int .u8 117,.int .u8 108,.int .u8 116,.int .u8 32,.int .u8 49,.int .u8 46,.int .u8 53]
theorem eB2 (w:World):Bs (w.alloc (.cells eC2 5 (23,23+1))) (some ⟨w.heap.size,0,none⟩) 23 23 eS2:=jV w eC2 eS2 5 (23,23+1) 23 (by decide) (by kernel_rfl) (by decide)
def eC3:Array Value:=#[.int .u8 99,.int .u8 111,.int .u8 117,.int .u8 110,.int .u8 116,.int .u8 40,.int .u8 116,.int .u8 44,.int .u8 32,.int .u8 97,.int .u8 108,.int .u8 108,.int .u8 32,.int .u8 119,.int .u8 104,.int .u8 101,.int .u8 114,.int .u8 101,.int .u8 32,.int .u8 120,.int .u8 41]
theorem eB3 (w:World):Bs (w.alloc (.cells eC3 5 (21,21+1))) (some ⟨w.heap.size,0,none⟩) 21 21 eS3:=jV w eC3 eS3 5 (21,21+1) 21 (by decide) (by kernel_rfl) (by decide)
def eC4:Array Value:=#[.int .u8 97,.int .u8 32,.int .u8 60,.int .u8 32,.int .u8 98,.int .u8 32,.int .u8 60,.int .u8 32,.int .u8 99]
theorem eB4 (w:World):Bs (w.alloc (.cells eC4 5 (9,9+1))) (some ⟨w.heap.size,0,none⟩) 9 9 eS4:=jV w eC4 eS4 5 (9,9+1) 9 (by decide) (by kernel_rfl) (by decide)
def eC5:Array Value:=#[.int .u8 99,.int .u8 111,.int .u8 117,.int .u8 110,.int .u8 116,.int .u8 40,.int .u8 116,.int .u8 44,.int .u8 32,.int .u8 97,.int .u8 108,.int .u8 108]
theorem eB5 (w:World):Bs (w.alloc (.cells eC5 5 (12,12+1))) (some ⟨w.heap.size,0,none⟩) 12 12 eS5:=jV w eC5 eS5 5 (12,12+1) 12 (by decide) (by kernel_rfl) (by decide)
def eC6:Array Value:=#[.int .u8 49,.int .u8 32,.int .u8 91,.int .u8 109,.int .u8 94,.int .u8 57,.int .u8 93]
theorem eB6 (w:World):Bs (w.alloc (.cells eC6 5 (7,7+1))) (some ⟨w.heap.size,0,none⟩) 7 7 eS6:=jV w eC6 eS6 5 (7,7+1) 7 (by decide) (by kernel_rfl) (by decide)
def eC7:Array Value:=#[.int .u8 100,.int .u8 101,.int .u8 99,.int .u8 32,.int .u8 91,.int .u8 101,.int .u8 117,.int .u8 114,.int .u8 32,.int .u8 42,.int .u8 32,.int .u8 104,.int .u8 94,.int .u8 45,.int .u8 49,.int .u8 93]
theorem eB7 (w:World):Bs (w.alloc (.cells eC7 5 (16,16+1))) (some ⟨w.heap.size,0,none⟩) 16 16 eS7:=jV w eC7 eS7 5 (16,16+1) 16 (by decide) (by kernel_rfl) (by decide)
def eC8:Array Value:=#[.int .u8 116,.int .u8 97,.int .u8 98,.int .u8 108,.int .u8 101,.int .u8 32,.int .u8 116,.int .u8 32,.int .u8 111,.int .u8 102,.int .u8 32,.int .u8 117,.int .u8 32,.int .u8 123,.int .u8 32,.int .u8 110,.int .u8 58,.int .u8 32,.int .u8 105,.int .u8 110,.int .u8 116,.int .u8 32,.int .u8 125,.int .u8 59,.int .u8 32,.int .u8 116,.int .u8 97,.int .u8 98,.int .u8 108,.int .u8 101,.int .u8 32,.int .u8 120,.int .u8 32,.int .u8 111,.int .u8 102,.int .u8 59,.int .u8 32,.int .u8 102,.int .u8 101,.int .u8 97,.int .u8 116,.int .u8 117,.int .u8 114,.int .u8 101,.int .u8 32,.int .u8 102,.int .u8 32,.int .u8 111,.int .u8 102,.int .u8 32,.int .u8 117,.int .u8 58,.int .u8 32,.int .u8 105,.int .u8 110,.int .u8 116,.int .u8 32,.int .u8 61,.int .u8 32,.int .u8 49,.int .u8 59]
theorem eB8 (w:World):Bs (w.alloc (.cells eC8 5 (61,61+1))) (some ⟨w.heap.size,0,none⟩) 61 61 eS8:=jV w eC8 eS8 5 (61,61+1) 61 (by decide) (by kernel_rfl) (by decide)
theorem zG (w:World) (T:Tabs w):Calls Tryz.prog 11 #[] w fun e w' => e=.returned (.bool true)∧Below w.heap.size w w':=by
 have cvs:=Qv;have T0:=Hy T;have B0:=Hy (b0 w);clear T
 go_enter Tryz.func11,Tryz.ntmps11
 go_wp2_with fail;have K1:=Hy (aj B0.o (.cells eC1 5 (9,9+1)));have C1:=Hy (jC _ 9 9 eS1 (w.alloc (.cells eC1 5 (9,9+1))) (eB1 w) (T0.o.stays K1.o) (eX1,0,0) ev1);unfold eC1 at C1 K1;refine C1.o.mono ?_;rintro e v1 ⟨r,rfl,V,b⟩;obtain ⟨ua1,uc1,aa1,ac1,rfl,E⟩:=V;have D1:=Hy (aD K1.o b);have G1:=Hy (aD (aj (b0 w) (.cells #[.int .u8 49,.int .u8 32,.int .u8 43,.int .u8 32,.int .u8 50,.int .u8 32,.int .u8 42,.int .u8 32,.int .u8 97] 5 (9,9+1))) b);have Z1:=Hy b.size;have E1:=Hy E;clear b E C1 K1;go_wp2_with (refine aA aK (.tmp 1) (.tmp 32) rfl rfl _ _ _ _ rfl rfl (Blk.new _ _ _) rfl rfl (aJ _ _ _ _ _) ?_;intro u1 L s;have b:=(aj (b0 v1) _).trans (s.below lr);have L1:=Hy L;have F1:=Hy b;have B1:=Hy (aD D1.o b);clear L s b);have K2:=Hy (aj B1.o (.cells eC2 5 (23,23+1)));have C2:=Hy (jC _ 23 23 eS2 (u1.alloc (.cells eC2 5 (23,23+1))) (eB2 u1) (T0.o.stays K2.o) (eX2,0,0) ev2);unfold eC2 at C2 K2;refine C2.o.mono ?_;rintro e v2 ⟨r,rfl,V,b⟩;obtain ⟨ua2,uc2,aa2,ac2,rfl,E⟩:=V;have D2:=Hy (aD K2.o b);have G2:=Hy (aD (aj (b0 u1) (.cells #[.int .u8 97,.int .u8 32,.int .u8 100,.int .u8 101,.int .u8 102,.int .u8 97,.int .u8 117,.int .u8 108,.int .u8 116,.int .u8 32,.int .u8 98,.int .u8 32,.int .u8 100,.int .u8 101,.int .u8 102,.int .u8 97,.int .u8 117,.int .u8 108,.int .u8 116,.int .u8 32,.int .u8 49,.int .u8 46,.int .u8 53] 5 (23,23+1))) b);have Z2:=Hy b.size;have E2:=Hy E;clear b E C2 K2;go_wp2_with (refine aA aK (.tmp 4) (.tmp 39) rfl rfl _ _ _ _ rfl rfl (Blk.new _ _ _) rfl rfl (aJ _ _ _ _ _) ?_;intro u2 L s;have b:=(aj (b0 v2) _).trans (s.below lr);have L2:=Hy L;have F2:=Hy b;have B2:=Hy (aD D2.o b);clear L s b);have K3:=Hy (aj B2.o (.cells eC3 5 (21,21+1)));have C3:=Hy (jC _ 21 21 eS3 (u2.alloc (.cells eC3 5 (21,21+1))) (eB3 u2) (T0.o.stays K3.o) (eX3,0,0) ev3);unfold eC3 at C3 K3;refine C3.o.mono ?_;rintro e v3 ⟨r,rfl,V,b⟩;obtain ⟨ua3,uc3,aa3,ac3,rfl,E⟩:=V;have D3:=Hy (aD K3.o b);have G3:=Hy (aD (aj (b0 u2) (.cells #[.int .u8 99,.int .u8 111,.int .u8 117,.int .u8 110,.int .u8 116,.int .u8 40,.int .u8 116,.int .u8 44,.int .u8 32,.int .u8 97,.int .u8 108,.int .u8 108,.int .u8 32,.int .u8 119,.int .u8 104,.int .u8 101,.int .u8 114,.int .u8 101,.int .u8 32,.int .u8 120,.int .u8 41] 5 (21,21+1))) b);have Z3:=Hy b.size;have E3:=Hy E;clear b E C3 K3;go_wp2_with (refine aA aK (.tmp 7) (.tmp 46) rfl rfl _ _ _ _ rfl rfl (Blk.new _ _ _) rfl rfl (aJ _ _ _ _ _) ?_;intro u3 L s;have b:=(aj (b0 v3) _).trans (s.below lr);have L3:=Hy L;have F3:=Hy b;have B3:=Hy (aD D3.o b);clear L s b);have K4:=Hy (aj B3.o (.cells eC4 5 (9,9+1)));have C4:=Hy (jC _ 9 9 eS4 (u3.alloc (.cells eC4 5 (9,9+1))) (eB4 u3) (T0.o.stays K4.o) (zX,6,90) ev4);unfold eC4 at C4 K4;refine C4.o.mono ?_;rintro e v4 ⟨r,rfl,V,b⟩;obtain ⟨ua4,uc4,aa4,ac4,rfl,E⟩:=V;have D4:=Hy (aD K4.o b);have G4:=Hy (aD (aj (b0 u3) (.cells #[.int .u8 97,.int .u8 32,.int .u8 60,.int .u8 32,.int .u8 98,.int .u8 32,.int .u8 60,.int .u8 32,.int .u8 99] 5 (9,9+1))) b);have Z4:=Hy b.size;have E4:=Hy E;clear b E C4 K4;go_wp2_with (refine aA aK (.tmp 10) (.tmp 53) rfl rfl _ _ _ _ rfl rfl (Blk.new _ _ _) rfl rfl (aJ _ _ _ _ _) ?_;intro u4 L s;have b:=(aj (b0 v4) _).trans (s.below lr);have L4:=Hy L;have F4:=Hy b;have B4:=Hy (aD D4.o b);clear L s b);have K5:=Hy (aj B4.o (.cells eC5 5 (12,12+1)));have C5:=Hy (jC _ 12 12 eS5 (u4.alloc (.cells eC5 5 (12,12+1))) (eB5 u4) (T0.o.stays K5.o) (zX,12,90) ev5);unfold eC5 at C5 K5;refine C5.o.mono ?_;rintro e v5 ⟨r,rfl,V,b⟩;obtain ⟨ua5,uc5,aa5,ac5,rfl,E⟩:=V;have D5:=Hy (aD K5.o b);have G5:=Hy (aD (aj (b0 u4) (.cells #[.int .u8 99,.int .u8 111,.int .u8 117,.int .u8 110,.int .u8 116,.int .u8 40,.int .u8 116,.int .u8 44,.int .u8 32,.int .u8 97,.int .u8 108,.int .u8 108] 5 (12,12+1))) b);have Z5:=Hy b.size;have E5:=Hy E;clear b E C5 K5;go_wp2_with (refine aA aK (.tmp 13) (.tmp 60) rfl rfl _ _ _ _ rfl rfl (Blk.new _ _ _) rfl rfl (aJ _ _ _ _ _) ?_;intro u5 L s;have b:=(aj (b0 v5) _).trans (s.below lr);have L5:=Hy L;have F5:=Hy b;have B5:=Hy (aD D5.o b);clear L s b);have K6:=Hy (aj B5.o (.cells eC6 5 (7,7+1)));have C6:=Hy (jC _ 7 7 eS6 (u5.alloc (.cells eC6 5 (7,7+1))) (eB6 u5) (T0.o.stays K6.o) (zX,2,70) ev6);unfold eC6 at C6 K6;refine C6.o.mono ?_;rintro e v6 ⟨r,rfl,V,b⟩;obtain ⟨ua6,uc6,aa6,ac6,rfl,E⟩:=V;have D6:=Hy (aD K6.o b);have G6:=Hy (aD (aj (b0 u5) (.cells #[.int .u8 49,.int .u8 32,.int .u8 91,.int .u8 109,.int .u8 94,.int .u8 57,.int .u8 93] 5 (7,7+1))) b);have Z6:=Hy b.size;have E6:=Hy E;clear b E C6 K6;go_wp2_with (refine aA aK (.tmp 16) (.tmp 67) rfl rfl _ _ _ _ rfl rfl (Blk.new _ _ _) rfl rfl (aJ _ _ _ _ _) ?_;intro u6 L s;have b:=(aj (b0 v6) _).trans (s.below lr);have L6:=Hy L;have F6:=Hy b;have B6:=Hy (aD D6.o b);clear L s b);have K7:=Hy (aj B6.o (.cells eC7 5 (16,16+1)));have C7:=Hy (Gr _ 16 16 eS7 (u6.alloc (.cells eC7 5 (16,16+1))) (eB7 u6) (T0.o.stays K7.o) (eT7,0,0) ev7);unfold eC7 at C7 K7;refine C7.o.mono ?_;rintro e v7 ⟨r,rfl,V,b⟩;obtain ⟨ua7,uc7,rfl,E⟩:=V;have D7:=Hy (aD K7.o b);have G7:=Hy (aD (aj (b0 u6) (.cells #[.int .u8 100,.int .u8 101,.int .u8 99,.int .u8 32,.int .u8 91,.int .u8 101,.int .u8 117,.int .u8 114,.int .u8 32,.int .u8 42,.int .u8 32,.int .u8 104,.int .u8 94,.int .u8 45,.int .u8 49,.int .u8 93] 5 (16,16+1))) b);have Z7:=Hy b.size;have E7t:=Hy E;clear b E C7 K7;go_wp2_with (refine aA bq (.tmp 19) (.tmp 74) rfl rfl _ _ _ _ rfl rfl (Blk.new _ _ _) rfl rfl (by simp [Value.oneCell']) ?_;intro u7 L s;have b:=(aj (b0 v7) _).trans (s.below lr);have L7:=Hy L;have F7:=Hy b;have B7:=Hy (aD D7.o b);clear L s b);have K8:=Hy (aj B7.o (.cells eC8 5 (61,61+1)));have C8:=Hy (rZ _ 61 61 eS8 (u7.alloc (.cells eC8 5 (61,61+1))) (eB8 u7) (T0.o.stays K8.o) ek8 eM8 [(35,90)] ev8);unfold eC8 at C8 K8;refine C8.o.mono ?_;rintro e v8 ⟨r,u8,rfl,V,P,b⟩;obtain ⟨ta,tc,fa,fc,rfl,RT,RF⟩:=V;obtain ⟨p8,a8,c8,hp8,hs8,rfl,SP⟩:=P;obtain rfl:p8=[(35,90)]:=List.perm_singleton.1 hp8;obtain ⟨tb,toff,tcs,rfl,tR,tq1,tq2,rfl,tq3⟩:=oL RT (fun c x hq=>by obtain ⟨_,_,rfl,_⟩:=hq;rfl) 0 (by decide);have d2:v8.cell? ⟨tb,toff,none⟩=some (.string ⟨#[116]⟩):=by have:=tR 0 _ rfl;rw [show eM8.ts[0].nm=⟨#[116]⟩ from rfl] at this;simpa using this
 obtain ⟨b8,o8,rfl,hC8⟩:∃ b off,a8=some ⟨b,off,none⟩∧pb.Cl v8 b off [(35,90)]:=by
  rcases SP.hat with h | h
  ·cases h
  exact h
 have d0:v8.cell? ⟨b8,o8,none⟩=some (.int .i64 35):=by have:=(hC8 0 (by decide)).1;rw [show (pb.gt [((35:Int),(90:Int))] 0).1=35 from rfl] at this;simpa using this
 have d1:v8.cell? ⟨b8,o8+1,none⟩=some (.int .i64 90):=by have:=(hC8 0 (by decide)).2;rw [show (pb.gt [((35:Int),(90:Int))] 0).2=90 from rfl] at this;simpa using this
 have P8:=Hy (And.intro d0 (And.intro d1 d2));clear SP RT RF hp8 hs8 tR tq3 hC8 d0 d1 d2;have D8:=Hy (aD K8.o b);have G8:=Hy (aD (aj (b0 u7) (.cells #[.int .u8 116,.int .u8 97,.int .u8 98,.int .u8 108,.int .u8 101,.int .u8 32,.int .u8 116,.int .u8 32,.int .u8 111,.int .u8 102,.int .u8 32,.int .u8 117,.int .u8 32,.int .u8 123,.int .u8 32,.int .u8 110,.int .u8 58,.int .u8 32,.int .u8 105,.int .u8 110,.int .u8 116,.int .u8 32,.int .u8 125,.int .u8 59,.int .u8 32,.int .u8 116,.int .u8 97,.int .u8 98,.int .u8 108,.int .u8 101,.int .u8 32,.int .u8 120,.int .u8 32,.int .u8 111,.int .u8 102,.int .u8 59,.int .u8 32,.int .u8 102,.int .u8 101,.int .u8 97,.int .u8 116,.int .u8 117,.int .u8 114,.int .u8 101,.int .u8 32,.int .u8 102,.int .u8 32,.int .u8 111,.int .u8 102,.int .u8 32,.int .u8 117,.int .u8 58,.int .u8 32,.int .u8 105,.int .u8 110,.int .u8 116,.int .u8 32,.int .u8 61,.int .u8 32,.int .u8 49,.int .u8 59] 5 (61,61+1))) b);have Z8:=Hy b.size;clear b  C8 K8;go_wp2_with (refine aA jr (.tmp 22) (.tmp 81) rfl rfl _ _ _ _ rfl rfl (Blk.new _ _ _) rfl rfl (by simp [Value.oneCell']) ?_;intro u8 L s;have b:=(aj (b0 v8) _).trans (s.below lr);have L8:=Hy L;have F8:=Hy b;have B8:=Hy (aD D8.o b);clear L s b);have J1:=aD G2.o F2.o;have J2:=aD G3.o F3.o;have J3:=aD G4.o F4.o;have J4:=aD G5.o F5.o;have J5:=aD G6.o F6.o;have J6:=aD G7.o F7.o;have J7:=aD G8.o F8.o;have A7:=Hy J7;have A6:=Hy (aD J6 A7.o);have A5:=Hy (aD J5 A6.o);have A4:=Hy (aD J4 A5.o);have A3:=Hy (aD J3 A4.o);have A2:=Hy (aD J2 A3.o);have A1:=Hy (aD J1 A2.o);clear J1 G2 J2 G3 J3 G4 J4 G5 J5 G6 J6 G7 J7 G8 G1 T0 cvs;clear Z1 D1 Z2 D2 Z3 D3 Z4 D4 Z5 D5 Z6 D6 Z7 D7 Z8 D8 B1 B2 B3 B4 B5 B6 B7 E4 E5 E6 L4 L5 L6;have BH:=Hy (aj (b0 u8) (.cells #[.int .i64 1,.string ⟨#[]⟩,.string ⟨#[]⟩,.string ⟨#[]⟩,.int .i64 3,.int .i64 1500000,.string ⟨#[]⟩,.slice none 0 0,.int .i64 0,.int .i64 0,.int .i64 0,.slice none 0 0] 43));have LH:=Hy (show Blk (u8.alloc (.cells #[.int .i64 1,.string ⟨#[]⟩,.string ⟨#[]⟩,.string ⟨#[]⟩,.int .i64 3,.int .i64 1500000,.string ⟨#[]⟩,.slice none 0 0,.int .i64 0,.int .i64 0,.int .i64 0,.slice none 0 0] 43)) u8.heap.size 43 (exC eXh none 0 none 0) from Blk.new u8 43 _);generalize (u8.alloc (.cells #[.int .i64 1,.string ⟨#[]⟩,.string ⟨#[]⟩,.string ⟨#[]⟩,.int .i64 3,.int .i64 1500000,.string ⟨#[]⟩,.slice none 0 0,.int .i64 0,.int .i64 0,.int .i64 0,.slice none 0 0] 43))=w9 at *;refine (show Calls Tryz.prog 39 #[.string ⟨#[97]⟩] w9 (fun e w' => e=.returned (.agg #[.int .i64 3,.string ⟨#[]⟩,.string ⟨#[97]⟩,.string ⟨#[]⟩,.int .i64 0,.int .i64 0,.string ⟨#[]⟩,.slice none 0 0,.int .i64 0,.int .i64 0,.int .i64 0,.slice none 0 0])∧Below w9.heap.size w9 w') from tQ ⟨#[97]⟩ w9).mono ?_;rintro e w10 ⟨rfl,b⟩;have BI:=Hy b;clear b;go_wp2_with fail;refine (show Calls Tryz.prog 39 #[.string ⟨#[98]⟩] w10 (fun e w' => e=.returned (.agg #[.int .i64 3,.string ⟨#[]⟩,.string ⟨#[98]⟩,.string ⟨#[]⟩,.int .i64 0,.int .i64 0,.string ⟨#[]⟩,.slice none 0 0,.int .i64 0,.int .i64 0,.int .i64 0,.slice none 0 0])∧Below w10.heap.size w10 w') from tQ ⟨#[98]⟩ w10).mono ?_;rintro e w11 ⟨rfl,b⟩;have BJ:=Hy (aD BI.o b);clear b BI;go_wp2_with fail;have BK:=Hy (aj (aj BJ.o (.cells #[.int .i64 3,.string ⟨#[]⟩,.string ⟨#[97]⟩,.string ⟨#[]⟩,.int .i64 0,.int .i64 0,.string ⟨#[]⟩,.slice none 0 0,.int .i64 0,.int .i64 0,.int .i64 0,.slice none 0 0,.int .i64 3,.string ⟨#[]⟩,.string ⟨#[98]⟩,.string ⟨#[]⟩,.int .i64 0,.int .i64 0,.string ⟨#[]⟩,.slice none 0 0,.int .i64 0,.int .i64 0,.int .i64 0,.slice none 0 0] 43)) (.cells #[.int .i64 9,.string ⟨#[]⟩,.string ⟨#[]⟩,.string ⟨#[]⟩,.int .i64 0,.int .i64 0,.string ⟨#[]⟩,.slice none 0 0,.int .i64 0,.int .i64 0,.int .i64 0,.slice (some ⟨w11.heap.size,0,none⟩) 2 2] 43));have LA:=Hy (show Blk ((w11.alloc (.cells #[.int .i64 3,.string ⟨#[]⟩,.string ⟨#[97]⟩,.string ⟨#[]⟩,.int .i64 0,.int .i64 0,.string ⟨#[]⟩,.slice none 0 0,.int .i64 0,.int .i64 0,.int .i64 0,.slice none 0 0,.int .i64 3,.string ⟨#[]⟩,.string ⟨#[98]⟩,.string ⟨#[]⟩,.int .i64 0,.int .i64 0,.string ⟨#[]⟩,.slice none 0 0,.int .i64 0,.int .i64 0,.int .i64 0,.slice none 0 0] 43)).alloc (.cells #[.int .i64 9,.string ⟨#[]⟩,.string ⟨#[]⟩,.string ⟨#[]⟩,.int .i64 0,.int .i64 0,.string ⟨#[]⟩,.slice none 0 0,.int .i64 0,.int .i64 0,.int .i64 0,.slice (some ⟨w11.heap.size,0,none⟩) 2 2] 43)) w11.heap.size 43 (ex2 (jw ⟨#[97]⟩) none 0 none 0 (jw ⟨#[98]⟩) none 0 none 0) from (Blk.new w11 43 _).past _);have LI:=Hy (show Blk ((w11.alloc (.cells #[.int .i64 3,.string ⟨#[]⟩,.string ⟨#[97]⟩,.string ⟨#[]⟩,.int .i64 0,.int .i64 0,.string ⟨#[]⟩,.slice none 0 0,.int .i64 0,.int .i64 0,.int .i64 0,.slice none 0 0,.int .i64 3,.string ⟨#[]⟩,.string ⟨#[98]⟩,.string ⟨#[]⟩,.int .i64 0,.int .i64 0,.string ⟨#[]⟩,.slice none 0 0,.int .i64 0,.int .i64 0,.int .i64 0,.slice none 0 0] 43)).alloc (.cells #[.int .i64 9,.string ⟨#[]⟩,.string ⟨#[]⟩,.string ⟨#[]⟩,.int .i64 0,.int .i64 0,.string ⟨#[]⟩,.slice none 0 0,.int .i64 0,.int .i64 0,.int .i64 0,.slice (some ⟨w11.heap.size,0,none⟩) 2 2] 43)) (w11.heap.size+1) 43 (exC eXi none 0 (some ⟨w11.heap.size,0,none⟩) 2) from (show Blk ((w11.alloc (.cells #[.int .i64 3,.string ⟨#[]⟩,.string ⟨#[97]⟩,.string ⟨#[]⟩,.int .i64 0,.int .i64 0,.string ⟨#[]⟩,.slice none 0 0,.int .i64 0,.int .i64 0,.int .i64 0,.slice none 0 0,.int .i64 3,.string ⟨#[]⟩,.string ⟨#[98]⟩,.string ⟨#[]⟩,.int .i64 0,.int .i64 0,.string ⟨#[]⟩,.slice none 0 0,.int .i64 0,.int .i64 0,.int .i64 0,.slice none 0 0] 43)).alloc (.cells #[.int .i64 9,.string ⟨#[]⟩,.string ⟨#[]⟩,.string ⟨#[]⟩,.int .i64 0,.int .i64 0,.string ⟨#[]⟩,.slice none 0 0,.int .i64 0,.int .i64 0,.int .i64 0,.slice (some ⟨w11.heap.size,0,none⟩) 2 2] 43)) (w11.heap.size+1) 43 #[.int .i64 9,.string ⟨#[]⟩,.string ⟨#[]⟩,.string ⟨#[]⟩,.int .i64 0,.int .i64 0,.string ⟨#[]⟩,.slice none 0 0,.int .i64 0,.int .i64 0,.int .i64 0,.slice (some ⟨w11.heap.size,0,none⟩) 2 2] from by have:=Blk.new (w11.alloc (.cells #[.int .i64 3,.string ⟨#[]⟩,.string ⟨#[97]⟩,.string ⟨#[]⟩,.int .i64 0,.int .i64 0,.string ⟨#[]⟩,.slice none 0 0,.int .i64 0,.int .i64 0,.int .i64 0,.slice none 0 0,.int .i64 3,.string ⟨#[]⟩,.string ⟨#[98]⟩,.string ⟨#[]⟩,.int .i64 0,.int .i64 0,.string ⟨#[]⟩,.slice none 0 0,.int .i64 0,.int .i64 0,.int .i64 0,.slice none 0 0] 43)) 43 #[.int .i64 9,.string ⟨#[]⟩,.string ⟨#[]⟩,.string ⟨#[]⟩,.int .i64 0,.int .i64 0,.string ⟨#[]⟩,.slice none 0 0,.int .i64 0,.int .i64 0,.int .i64 0,.slice (some ⟨w11.heap.size,0,none⟩) 2 2];simpa using this));generalize ((w11.alloc (.cells #[.int .i64 3,.string ⟨#[]⟩,.string ⟨#[97]⟩,.string ⟨#[]⟩,.int .i64 0,.int .i64 0,.string ⟨#[]⟩,.slice none 0 0,.int .i64 0,.int .i64 0,.int .i64 0,.slice none 0 0,.int .i64 3,.string ⟨#[]⟩,.string ⟨#[98]⟩,.string ⟨#[]⟩,.int .i64 0,.int .i64 0,.string ⟨#[]⟩,.slice none 0 0,.int .i64 0,.int .i64 0,.int .i64 0,.slice none 0 0] 43)).alloc (.cells #[.int .i64 9,.string ⟨#[]⟩,.string ⟨#[]⟩,.string ⟨#[]⟩,.int .i64 0,.int .i64 0,.string ⟨#[]⟩,.slice none 0 0,.int .i64 0,.int .i64 0,.int .i64 0,.slice (some ⟨w11.heap.size,0,none⟩) 2 2] 43))=w12 at *;clear BJ;refine (show Calls Tryz.prog 40 #[] w12 (fun e w' => e=.returned (.agg #[.int .i64 1,.string ⟨#[]⟩,.string ⟨#[]⟩,.string ⟨#[]⟩,.int .i64 1,.int .i64 1,.string ⟨#[]⟩,.slice none 0 0,.int .i64 0,.int .i64 0,.int .i64 0,.slice none 0 0])∧Below w12.heap.size w12 w') from jB w12).mono ?_;rintro e w13 ⟨rfl,b⟩;have BL:=Hy b;clear b;go_wp2_with fail;have BM:=Hy (aj (aj BL.o (.cells #[.int .i64 1,.string ⟨#[]⟩,.string ⟨#[]⟩,.string ⟨#[]⟩,.int .i64 1,.int .i64 1,.string ⟨#[]⟩,.slice none 0 0,.int .i64 0,.int .i64 0,.int .i64 0,.slice none 0 0,.int .i64 2,.string ⟨#[]⟩,.string ⟨#[120]⟩,.string ⟨#[]⟩,.int .i64 0,.int .i64 0,.string ⟨#[]⟩,.slice none 0 0,.int .i64 0,.int .i64 0,.int .i64 0,.slice none 0 0] 43)) (.cells #[.int .i64 5,.string ⟨#[99,111,117,110,116]⟩,.string ⟨#[]⟩,.string ⟨#[116]⟩,.int .i64 0,.int .i64 0,.string ⟨#[]⟩,.slice none 0 0,.int .i64 0,.int .i64 1,.int .i64 0,.slice (some ⟨w13.heap.size,0,none⟩) 2 2] 43));have LC:=Hy (show Blk ((w13.alloc (.cells #[.int .i64 1,.string ⟨#[]⟩,.string ⟨#[]⟩,.string ⟨#[]⟩,.int .i64 1,.int .i64 1,.string ⟨#[]⟩,.slice none 0 0,.int .i64 0,.int .i64 0,.int .i64 0,.slice none 0 0,.int .i64 2,.string ⟨#[]⟩,.string ⟨#[120]⟩,.string ⟨#[]⟩,.int .i64 0,.int .i64 0,.string ⟨#[]⟩,.slice none 0 0,.int .i64 0,.int .i64 0,.int .i64 0,.slice none 0 0] 43)).alloc (.cells #[.int .i64 5,.string ⟨#[99,111,117,110,116]⟩,.string ⟨#[]⟩,.string ⟨#[116]⟩,.int .i64 0,.int .i64 0,.string ⟨#[]⟩,.slice none 0 0,.int .i64 0,.int .i64 1,.int .i64 0,.slice (some ⟨w13.heap.size,0,none⟩) 2 2] 43)) w13.heap.size 43 (ex2 (aS 1) none 0 none 0 (nO ⟨#[120]⟩) none 0 none 0) from (Blk.new w13 43 _).past _);have LN:=Hy (show Blk ((w13.alloc (.cells #[.int .i64 1,.string ⟨#[]⟩,.string ⟨#[]⟩,.string ⟨#[]⟩,.int .i64 1,.int .i64 1,.string ⟨#[]⟩,.slice none 0 0,.int .i64 0,.int .i64 0,.int .i64 0,.slice none 0 0,.int .i64 2,.string ⟨#[]⟩,.string ⟨#[120]⟩,.string ⟨#[]⟩,.int .i64 0,.int .i64 0,.string ⟨#[]⟩,.slice none 0 0,.int .i64 0,.int .i64 0,.int .i64 0,.slice none 0 0] 43)).alloc (.cells #[.int .i64 5,.string ⟨#[99,111,117,110,116]⟩,.string ⟨#[]⟩,.string ⟨#[116]⟩,.int .i64 0,.int .i64 0,.string ⟨#[]⟩,.slice none 0 0,.int .i64 0,.int .i64 1,.int .i64 0,.slice (some ⟨w13.heap.size,0,none⟩) 2 2] 43)) (w13.heap.size+1) 43 (exC eX3 none 0 (some ⟨w13.heap.size,0,none⟩) 2) from (show Blk ((w13.alloc (.cells #[.int .i64 1,.string ⟨#[]⟩,.string ⟨#[]⟩,.string ⟨#[]⟩,.int .i64 1,.int .i64 1,.string ⟨#[]⟩,.slice none 0 0,.int .i64 0,.int .i64 0,.int .i64 0,.slice none 0 0,.int .i64 2,.string ⟨#[]⟩,.string ⟨#[120]⟩,.string ⟨#[]⟩,.int .i64 0,.int .i64 0,.string ⟨#[]⟩,.slice none 0 0,.int .i64 0,.int .i64 0,.int .i64 0,.slice none 0 0] 43)).alloc (.cells #[.int .i64 5,.string ⟨#[99,111,117,110,116]⟩,.string ⟨#[]⟩,.string ⟨#[116]⟩,.int .i64 0,.int .i64 0,.string ⟨#[]⟩,.slice none 0 0,.int .i64 0,.int .i64 1,.int .i64 0,.slice (some ⟨w13.heap.size,0,none⟩) 2 2] 43)) (w13.heap.size+1) 43 #[.int .i64 5,.string ⟨#[99,111,117,110,116]⟩,.string ⟨#[]⟩,.string ⟨#[116]⟩,.int .i64 0,.int .i64 0,.string ⟨#[]⟩,.slice none 0 0,.int .i64 0,.int .i64 1,.int .i64 0,.slice (some ⟨w13.heap.size,0,none⟩) 2 2] from by have:=Blk.new (w13.alloc (.cells #[.int .i64 1,.string ⟨#[]⟩,.string ⟨#[]⟩,.string ⟨#[]⟩,.int .i64 1,.int .i64 1,.string ⟨#[]⟩,.slice none 0 0,.int .i64 0,.int .i64 0,.int .i64 0,.slice none 0 0,.int .i64 2,.string ⟨#[]⟩,.string ⟨#[120]⟩,.string ⟨#[]⟩,.int .i64 0,.int .i64 0,.string ⟨#[]⟩,.slice none 0 0,.int .i64 0,.int .i64 0,.int .i64 0,.slice none 0 0] 43)) 43 #[.int .i64 5,.string ⟨#[99,111,117,110,116]⟩,.string ⟨#[]⟩,.string ⟨#[116]⟩,.int .i64 0,.int .i64 0,.string ⟨#[]⟩,.slice none 0 0,.int .i64 0,.int .i64 1,.int .i64 0,.slice (some ⟨w13.heap.size,0,none⟩) 2 2];simpa using this));generalize ((w13.alloc (.cells #[.int .i64 1,.string ⟨#[]⟩,.string ⟨#[]⟩,.string ⟨#[]⟩,.int .i64 1,.int .i64 1,.string ⟨#[]⟩,.slice none 0 0,.int .i64 0,.int .i64 0,.int .i64 0,.slice none 0 0,.int .i64 2,.string ⟨#[]⟩,.string ⟨#[120]⟩,.string ⟨#[]⟩,.int .i64 0,.int .i64 0,.string ⟨#[]⟩,.slice none 0 0,.int .i64 0,.int .i64 0,.int .i64 0,.slice none 0 0] 43)).alloc (.cells #[.int .i64 5,.string ⟨#[99,111,117,110,116]⟩,.string ⟨#[]⟩,.string ⟨#[116]⟩,.int .i64 0,.int .i64 0,.string ⟨#[]⟩,.slice none 0 0,.int .i64 0,.int .i64 1,.int .i64 0,.slice (some ⟨w13.heap.size,0,none⟩) 2 2] 43))=w14 at *;clear BL;have BT:=Hy (aD BH.o BK.o);have BT:=Hy (aD BT.o BM.o);have BV:=Hy (aD BK.o BM.o);have X1:=Hy (L1.o.below (aD A1.o BT.o) L1.o.lt);have X2:=Hy (L2.o.below (aD A2.o BT.o) L2.o.lt);have X3:=Hy (L3.o.below (aD A3.o BT.o) L3.o.lt);have XH:=Hy (LH.o.below BV.o LH.o.lt);have XI:=Hy (LI.o.below BM.o LI.o.lt);have XA:=Hy (LA.o.below BM.o LA.o.lt);have Y1:=Hy (E1.o.kp (aG (aD F1.o (aD A1.o BT.o))));have Y2:=Hy (E2.o.kp (aG (aD F2.o (aD A2.o BT.o))));have Y3:=Hy (E3.o.kp (aG (aD F3.o (aD A3.o BT.o))));have sm1:=Hy (wZ ev1);have sm2:=Hy (wZ ev2);have sm3:=Hy (wZ ev3);clear L1 L2 L3 LH LI LA E1 E2 E3;refine wp_region_held_drew (S:=fun w' => Below w14.heap.size w14 w') (by kernel_rfl) (b0 w14).drew (fun hH=>?_);refine aB 0 137 (.agg (exC eX1 ua1 uc1 aa1 ac1)) rfl (by kernel_rfl) rfl (fun _ _ _ h=>h) rfl hH (fun w' hS=>bE aK Tryz.underlying43 rfl (.tmp 1) rfl _ _ _ rfl (X1.o.below hS X1.o.lt) rfl) ?_;simp only [sz0,sz1];refine ak (i:=1) rfl (by kernel_rfl) rfl (fun K hK=>?_);go_simp;refine (uR 1 _).mono ?_;rintro e w15 ⟨rfl,b⟩;refine hK.o _ _ (aD hH b) (fun hH=>?_);clear hK K;clear b;refine ak (i:=2) rfl (by kernel_rfl) rfl (fun K hK=>?_);go_simp;refine (uR 2 _).mono ?_;rintro e w16 ⟨rfl,b⟩;refine hK.o _ _ (aD hH b) (fun hH=>?_);clear hK K;clear b;refine ak (i:=3) rfl (by kernel_rfl) rfl (fun K hK=>?_);go_simp;refine (tQ ⟨#[97]⟩ _).mono ?_;rintro e w17 ⟨rfl,b⟩;refine hK.o _ _ (aD hH b) (fun hH=>?_);clear hK K;clear b;refine ak (i:=4) rfl (by kernel_rfl) rfl (fun K hK=>?_);go_simp;refine (zO ⟨#[42]⟩ (gP 2 2 []) none 0 none 0 (jw ⟨#[97]⟩) none 0 none 0 0 _ ⟨.inl rfl,.inl rfl⟩ ⟨.inl rfl,.inl rfl⟩ zl).mono ?_;rintro e w18 ⟨a5,c5,rfl,E5,b⟩;refine hK.o _ _ (aD hH b) (fun hH=>?_);clear hK K;clear b;refine ak (i:=5) rfl (by kernel_rfl) rfl (fun K hK=>?_);go_simp;refine (zO ⟨#[43]⟩ (gP 2 1 []) none 0 none 0 (tV ⟨#[42]⟩ (gP 2 2 []) (jw ⟨#[97]⟩)) none 0 a5 c5 0 _ ⟨.inl rfl,.inl rfl⟩ E5 zl).mono ?_;rintro e w19 ⟨a6,c6,rfl,E6,b⟩;refine hK.o _ _ (aD hH b) (fun hH=>?_);clear hK K;clear b;refine ak (i:=6) rfl (by kernel_rfl) rfl (fun K hK=>?_);go_simp;refine (lD _ 0 eX1 ua1 aa1 none a6 uc1 ac1 0 c6 _ sm1.o.1 sm1.o.2.1 sm1.o.2.2 (Y1.o.kp (aG hH)) E6).mono ?_;rintro e w20 ⟨rfl,b⟩;refine hK.o _ _ (aD hH b) (fun hH=>?_);clear hK K;clear b;refine aB 7 144 ?_ rfl (by kernel_rfl) rfl (fun _ _ _ h=>h) rfl hH (fun w' hS=>?_) ?_;rotate_left
 ·go_simp;try with_reducible rfl
 simp only [sz0,sz1];refine aB 8 145 ?_ rfl (by kernel_rfl) rfl (fun _ _ _ h=>h) rfl hH (fun w' hS=>?_) ?_;rotate_left
 ·go_simp;try with_reducible rfl
 simp only [sz0,sz1];refine aB 9 146 (.agg (exC eX2 ua2 uc2 aa2 ac2)) rfl (by kernel_rfl) rfl (fun _ _ _ h=>h) rfl hH (fun w' hS=>bE aK Tryz.underlying43 rfl (.tmp 4) rfl _ _ _ rfl (X2.o.below hS X2.o.lt) rfl) ?_;simp only [sz0,sz1];have XJ:=Hy (show Blk w14 (w11.heap.size+1) 43 #[.int .i64 9,.string ⟨#[]⟩,.string ⟨#[]⟩,.string ⟨#[]⟩,.int .i64 0,.int .i64 0,.string ⟨#[]⟩,.slice none 0 0,.int .i64 0,.int .i64 0,.int .i64 0,.slice (some ⟨w11.heap.size,0,none⟩) 2 2] from XI.o);have XG:=Hy (show Blk w14 u8.heap.size 43 #[.int .i64 1,.string ⟨#[]⟩,.string ⟨#[]⟩,.string ⟨#[]⟩,.int .i64 3,.int .i64 1500000,.string ⟨#[]⟩,.slice none 0 0,.int .i64 0,.int .i64 0,.int .i64 0,.slice none 0 0] from XH.o);refine aB 10 147 (.agg (#[.int .i64 9,.string ⟨#[]⟩,.string ⟨#[]⟩,.string ⟨#[]⟩,.int .i64 0,.int .i64 0,.string ⟨#[]⟩,.slice none 0 0,.int .i64 0,.int .i64 0,.int .i64 0,.slice (some ⟨w11.heap.size,0,none⟩) 2 2])) rfl (by kernel_rfl) rfl (fun _ _ _ h=>h) rfl hH (fun w' hS=>bE aK Tryz.underlying43 rfl (.tmp 26) rfl _ _ _ rfl (XJ.o.below hS XJ.o.lt) rfl) ?_;simp only [sz0,sz1];refine aB 11 148 (.agg (#[.int .i64 1,.string ⟨#[]⟩,.string ⟨#[]⟩,.string ⟨#[]⟩,.int .i64 3,.int .i64 1500000,.string ⟨#[]⟩,.slice none 0 0,.int .i64 0,.int .i64 0,.int .i64 0,.slice none 0 0])) rfl (by kernel_rfl) rfl (fun _ _ _ h=>h) rfl hH (fun w' hS=>bE aK Tryz.underlying43 rfl (.tmp 25) rfl _ _ _ rfl (XG.o.below hS XG.o.lt) rfl) ?_;simp only [sz0,sz1];refine ak (i:=12) rfl (by kernel_rfl) rfl (fun K hK=>?_);go_simp;refine hK.o _ _ (aj hH _) (fun hH=>?_);clear hK K;have LB:=Hy (show Blk (w20.alloc (.cells #[.int .i64 9,.string ⟨#[]⟩,.string ⟨#[]⟩,.string ⟨#[]⟩,.int .i64 0,.int .i64 0,.string ⟨#[]⟩,.slice none 0 0,.int .i64 0,.int .i64 0,.int .i64 0,.slice (some ⟨w11.heap.size,0,none⟩) 2 2,.int .i64 1,.string ⟨#[]⟩,.string ⟨#[]⟩,.string ⟨#[]⟩,.int .i64 3,.int .i64 1500000,.string ⟨#[]⟩,.slice none 0 0,.int .i64 0,.int .i64 0,.int .i64 0,.slice none 0 0] 43)) w20.heap.size 43 (ex2 eXi none 0 (some ⟨w11.heap.size,0,none⟩) 2 eXh none 0 none 0) from Blk.new w20 43 _);generalize (w20.alloc (.cells #[.int .i64 9,.string ⟨#[]⟩,.string ⟨#[]⟩,.string ⟨#[]⟩,.int .i64 0,.int .i64 0,.string ⟨#[]⟩,.slice none 0 0,.int .i64 0,.int .i64 0,.int .i64 0,.slice (some ⟨w11.heap.size,0,none⟩) 2 2,.int .i64 1,.string ⟨#[]⟩,.string ⟨#[]⟩,.string ⟨#[]⟩,.int .i64 3,.int .i64 1500000,.string ⟨#[]⟩,.slice none 0 0,.int .i64 0,.int .i64 0,.int .i64 0,.slice none 0 0] 43))=w21 at *;refine aB 13 150 ?_ rfl (by kernel_rfl) rfl (fun _ _ _ h=>h) rfl hH (fun w' hS=>?_) ?_;rotate_left
 ·go_simp;try with_reducible rfl
 simp only [sz0,sz1];have E7:Ec 0 w21 eX2 none (some ⟨w20.heap.size,0,none⟩):=⟨.inl rfl,fA LB.o ⟨.inl rfl,fA (XA.o.below hH XA.o.lt) ⟨.inl rfl,.inl rfl⟩ ⟨.inl rfl,.inl rfl⟩ zl⟩ ⟨.inl rfl,.inl rfl⟩ zl⟩;refine ak (i:=14) rfl (by kernel_rfl) rfl (fun K hK=>?_);go_simp;refine (lD _ 0 eX2 ua2 aa2 none (some ⟨w20.heap.size,0,none⟩) uc2 ac2 0 2 _ sm2.o.1 sm2.o.2.1 sm2.o.2.2 (Y2.o.kp (aG hH)) E7).mono ?_;rintro e w22 ⟨rfl,b⟩;refine hK.o _ _ (aD hH b) (fun hH=>?_);clear hK K;clear b;refine aB 15 152 ?_ rfl (by kernel_rfl) rfl (fun _ _ _ h=>h) rfl hH (fun w' hS=>?_) ?_;rotate_left
 ·go_simp;try with_reducible rfl
 simp only [sz0,sz1];refine aB 16 153 ?_ rfl (by kernel_rfl) rfl (fun _ _ _ h=>h) rfl hH (fun w' hS=>?_) ?_;rotate_left
 ·go_simp;try with_reducible rfl
 simp only [sz0,sz1];refine aB 17 154 ?_ rfl (by kernel_rfl) rfl (fun _ _ _ h=>h) rfl hH (fun w' hS=>?_) ?_;rotate_left
 ·go_simp;try with_reducible rfl
 simp only [sz0,sz1];refine aB 18 155 (.agg (exC eX3 ua3 uc3 aa3 ac3)) rfl (by kernel_rfl) rfl (fun _ _ _ h=>h) rfl hH (fun w' hS=>bE aK Tryz.underlying43 rfl (.tmp 7) rfl _ _ _ rfl (X3.o.below hS X3.o.lt) rfl) ?_;simp only [sz0,sz1];refine aB 19 156 (.agg (exC eX3 none 0 (some ⟨w13.heap.size,0,none⟩) 2)) rfl (by kernel_rfl) rfl (fun _ _ _ h=>h) rfl hH (fun w' hS=>bE aK Tryz.underlying43 rfl (.tmp 27) rfl _ _ _ rfl (LN.o.below hS LN.o.lt) rfl) ?_;simp only [sz0,sz1];have E9:Ec 0 w22 eX3 none (some ⟨w13.heap.size,0,none⟩):=⟨.inl rfl,fA (LC.o.below hH LC.o.lt) ⟨.inl rfl,.inl rfl⟩ ⟨.inl rfl,.inl rfl⟩ zl⟩;refine ak (i:=20) rfl (by kernel_rfl) rfl (fun K hK=>?_);go_simp;refine (lD _ 0 eX3 ua3 aa3 none (some ⟨w13.heap.size,0,none⟩) uc3 ac3 0 2 _ sm3.o.1 sm3.o.2.1 sm3.o.2.2 (Y3.o.kp (aG hH)) E9).mono ?_;rintro e w23 ⟨rfl,b⟩;refine hK.o _ _ (aD hH b) (fun hH=>?_);clear hK K;clear b;refine aB 21 158 ?_ rfl (by kernel_rfl) rfl (fun _ _ _ h=>h) rfl hH (fun w' hS=>?_) ?_;rotate_left
 ·go_simp;try with_reducible rfl
 simp only [sz0,sz1];refine aB 22 159 ?_ rfl (by kernel_rfl) rfl (fun _ _ _ h=>h) rfl hH (fun w' hS=>?_) ?_;rotate_left
 ·go_simp;try with_reducible rfl
 simp only [sz0,sz1];have BZ:=Hy (aD BT.o hH);have BY:=Hy (aD (aD B8.o BT.o) hH);have X7:=Hy (L7.o.below (aD A7.o BZ.o) L7.o.lt);have Y7:=Hy (E7t.o.kp (aG (aD F7.o (aD A7.o BZ.o))));have X8:=Hy (show Blk w23 v8.heap.size 27 #[.slice (some ⟨tb,toff,none⟩) 1 tc,.slice fa 1 fc] from L8.o.below BZ.o L8.o.lt);have B9:=Hy (aD F8.o BZ.o);clear XH XI XA XJ XG X1 X2 X3 Y1 Y2 Y3 LN LC LB E7 E9 E5 E6 sm1 sm2 sm3 hH;refine wpAnyH_done (by kernel_rfl) ?_ _;go_wp2_with (refine aH bq Tryz.underlying47 rfl (.tmp 19) rfl rfl _ _ _ rfl X7.o rfl ?_);have FB:=Hy (aj (b0 w23) (.cells #[.string ⟨#[101,117,114]⟩,.int .i64 1,.string ⟨#[104]⟩,.int .i64 (-1)] 55));have LF:=Hy (Blk.new w23 55 #[.string ⟨#[101,117,114]⟩,.int .i64 1,.string ⟨#[104]⟩,.int .i64 (-1)]);generalize (w23.alloc (.cells #[.string ⟨#[101,117,114]⟩,.int .i64 1,.string ⟨#[104]⟩,.int .i64 (-1)] 55))=w24 at *;have HC:un.Cl w24 w23.heap.size 0 eT7.un:=fun j hj=>by
  match j,hj with
  | 0,_=>exact ⟨LF.o.cell 0,LF.o.cell 1⟩
  | 1,_=>exact ⟨LF.o.cell 2,LF.o.cell 3⟩
 refine (oJ _ 0 eT7 ua7 (some ⟨w23.heap.size,0,none⟩) uc7 2 _ (Y7.o.kp (aG FB.o)) (.inr ⟨w23.heap.size,0,rfl,Nat.zero_le _,HC,LF.o.tg⟩) (by decide)).mono ?_;rintro e w25 ⟨rfl,b⟩;have BB:=Hy (aD FB.o b);have X9:=X8.o.below BB.o X8.o.lt;have c0:=X9.cell 0;have c1:=X9.cell 1;simp only [sz2,sz3,sz4] at c0 c1;have hb:=aD B9.o BB.o;have d0:=keeps hb P8.o.1;have d1:=keeps hb P8.o.2.1;have d2:=keeps hb P8.o.2.2;clear X9 hb b HC LF FB X8 P8 Y7 X7 B9 BZ;go_wp2_with fail;go_ret;exact ⟨rfl,aD BY.o BB.o⟩
def Z (i:Bool) (m:Md) (l:List Tk):Rs Ex:=pz (8 * l.length+m.rk+1) i m l
theorem fC {i:Bool} {m:Md} {l:List Tk} (h:m.good):Z i m l≠.out:=Jc _ _ _ _ h (by omega)
theorem pG {f:Nat} {i:Bool} {m:Md} {l:List Tk} (h:m.good):RM (pz f i m l) (Z i m l):=fun hn=>(EB hn (fC h)).symm
theorem pQ {f:Nat} {i:Bool} {l:List Tk} : RM (pz f i .ex l) (Z i .ex l):=pG (m:=.ex) trivial
theorem Ja {f:Nat} {i:Bool} {l:List Tk} : RM (pz f i .ng l) (Z i .ng l):=pG (m:=.ng) trivial
theorem PZ {f:Nat} {i:Bool} {l:List Tk} : RM (pz f i .pr l) (Z i .pr l):=pG (m:=.pr) trivial
theorem Cq {f:Nat} {i:Bool} {l:List Tk} : RM (pz f i .pa l) (Z i .pa l):=pG (m:=.pa) trivial
theorem Qa {f:Nat} {i:Bool} {l:List Tk} : RM (pz f i .ag l) (Z i .ag l):=pG (m:=.ag) trivial
theorem PY {f:Nat} {i:Bool} {l:List Tk} : RM (pz f i .rf l) (Z i .rf l):=pG (m:=.rf) trivial
theorem Cr {f:Nat} {i:Bool} {n:Nat} {l:List Tk} (h:n≤6):RM (pz f i (.op n) l) (Z i (.op n) l):=pG (m:=.op n) h
theorem wB {f:Nat} {i:Bool} {k n:Nat} {x:Ex} {l:List Tk} (h:n≤6):RM (pz f i (.tl k n x) l) (Z i (.tl k n x) l):=pG (m:=.tl k n x) h
theorem QE (l:List Tk):exR l=Z false .ex l:=EB (mO l) (fC (m:=.ex) trivial)
theorem Pw (i:Bool) (l:List Tk):Z i .ex l=if isT ⟨#[105,102]⟩ l=true then
      (Z i .ex l.tail).bind fun x r=>(need ⟨#[116,104,101,110]⟩ r).bind fun _ r=>(Z i .ex r).bind fun y r=>(need ⟨#[101,108,115,101]⟩ r).bind fun _ r=>(Z i .ex r).bind fun z r=>.ok (ifE x y z) r
    else Z i (.op 0) l:=by
 have e:RM (pz (8 * l.length+Md.ex.rk+1) i .ex l) (if isT ⟨#[105,102]⟩ l=true then
     (Z i .ex l.tail).bind fun x r=>(need ⟨#[116,104,101,110]⟩ r).bind fun _ r=>(Z i .ex r).bind fun y r=>(need ⟨#[101,108,115,101]⟩ r).bind fun _ r=>(Z i .ex r).bind fun z r=>.ok (ifE x y z) r
   else Z i (.op 0) l):=by
   simp only [pz]
   split
   · exact pQ.bind fun _ _=>(RM.refl _).bind fun _ _=>pQ.bind fun _ _=>(RM.refl _).bind fun _ _=>pQ.bind fun _ _=>RM.refl _
   · exact Cr zl
 exact (e (fC (m:=.ex) trivial)).symm
theorem uP (i:Bool) (n:Nat) (hn:n≤6) (l:List Tk):Z i (.op n) l=if n≤3∧isT ⟨#[110,111,116]⟩ l=true then (Z i (.op 3) l.tail).bind fun x r=>Z i (.tl n 3 (fP ⟨#[110,111,116]⟩ x)) r
    else (Z i .ng l).bind fun x r=>Z i (.tl n 6 x) r:=by
 have e:RM (pz (8 * l.length+(Md.op n).rk+1) i (.op n) l) (if n≤3∧isT ⟨#[110,111,116]⟩ l=true then (Z i (.op 3) l.tail).bind fun x r=>Z i (.tl n 3 (fP ⟨#[110,111,116]⟩ x)) r
   else (Z i .ng l).bind fun x r=>Z i (.tl n 6 x) r):=by
   simp only [pz]
   split
   · exact (Cr (by decide)).bind fun _ _=>wB (by decide)
   · exact Ja.bind fun _ _=>wB (by decide)
 exact (e (fC (m:=.op n) hn)).symm
theorem pF (i:Bool) (k n:Nat) (hn:n≤6) (x:Ex) (l:List Tk):Z i (.tl k n x) l=if n≤k then .ok x l
    else if opr (n - 1) l=.empty then Z i (.tl k (n - 1) x) l
    else (Z i (.op n) l.tail).bind fun y r=>Z i (.tl k (if n=4 then 3 else n) (aT (opr (n - 1) l) x y)) r:=by
 have e:RM (pz (8 * l.length+(Md.tl k n x).rk+1) i (.tl k n x) l) (if n≤k then .ok x l
   else if opr (n - 1) l=.empty then Z i (.tl k (n - 1) x) l
   else (Z i (.op n) l.tail).bind fun y r=>Z i (.tl k (if n=4 then 3 else n) (aT (opr (n - 1) l) x y)) r):=by
   simp only [pz]
   split
   · exact RM.refl _
   · split
     · exact wB (by omega)
     · exact (Cr (by omega)).bind fun _ _=>wB (by split <;> omega)
 exact (e (fC (m:=.tl k n x) hn)).symm
theorem Pv (i:Bool) (l:List Tk):Z i .ng l=if isT ⟨#[45]⟩ l=true then (Z i .ng l.tail).bind fun x r=>.ok (fP ⟨#[45]⟩ x) r else Z i .pr l:=by
 have e:RM (pz (8 * l.length+Md.ng.rk+1) i .ng l) (if isT ⟨#[45]⟩ l=true then (Z i .ng l.tail).bind fun x r=>.ok (fP ⟨#[45]⟩ x) r else Z i .pr l):=by
  simp only [pz];split
  ·exact Ja.bind fun _ _=>RM.refl _
  exact PZ
 exact (e (fC (m:=.ng) trivial)).symm
theorem Pt (i:Bool) (l:List Tk):Z i .pa l=(need ⟨#[40]⟩ l).bind fun _ r=>(Z i .ex r).bind fun x r=>(need ⟨#[41]⟩ r).bind fun _ r=>.ok x r:=by
 have e:RM (pz (8 * l.length+Md.pa.rk+1) i .pa l) ((need ⟨#[40]⟩ l).bind fun _ r=>(Z i .ex r).bind fun x r=>(need ⟨#[41]⟩ r).bind fun _ r=>.ok x r):=by
  simp only [pz];exact (RM.refl _).bind fun _ _=>pQ.bind fun _ _=>(RM.refl _).bind fun _ _=>RM.refl _
 exact (e (fC (m:=.pa) trivial)).symm
theorem IW (i:Bool) (l:List Tk):Z i .rf l=(nam l).bind fun n r=>if isT ⟨#[111,102]⟩ r=true then (Z i .pa r.tail).bind fun x r=>.ok (CY n x) r else .ok (jw n) r:=by
 have e:RM (pz (8 * l.length+Md.rf.rk+1) i .rf l) ((nam l).bind fun n r=>if isT ⟨#[111,102]⟩ r=true then (Z i .pa r.tail).bind fun x r=>.ok (CY n x) r else .ok (jw n) r):=by
  simp only [pz];refine (RM.refl _).bind fun n r=>?_;split
  ·exact Cq.bind fun _ _=>RM.refl _
  exact RM.refl _
 exact (e (fC (m:=.rf) trivial)).symm
theorem og (i:Bool) (l:List Tk):Z i .ag l=((tak 1 l).bind fun op r=>(need ⟨#[40]⟩ r).bind fun _ r=>(nam r).bind fun t r=>(need ⟨#[44]⟩ r).bind fun _ r =>
    (if op=⟨#[99,111,117,110,116]⟩ then .ok (aS 1) r else (Z true .ex r).bind fun x r=>(need ⟨#[44]⟩ r).bind fun _ r=>.ok x r).bind fun x r =>
    (if op=⟨#[113,117,97,110,116,105,108,101]⟩∨op=⟨#[100,101,99,97,121]⟩ then (int r).bind fun n r=>(need ⟨#[44]⟩ r).bind fun _ r=>.ok n r else .ok 0 r).bind fun p r =>
    (win r).bind fun w r=>(if isT ⟨#[119,104,101,114,101]⟩ r=true then Z true .ex r.tail else .ok (aS 1) r).bind fun y r=>(need ⟨#[41]⟩ r).bind fun _ r=>.ok (lu op t p w x y) r):=by
 have e:RM (pz (8 * l.length+Md.ag.rk+1) i .ag l) ((tak 1 l).bind fun op r=>(need ⟨#[40]⟩ r).bind fun _ r=>(nam r).bind fun t r=>(need ⟨#[44]⟩ r).bind fun _ r =>
   (if op=⟨#[99,111,117,110,116]⟩ then .ok (aS 1) r else (Z true .ex r).bind fun x r=>(need ⟨#[44]⟩ r).bind fun _ r=>.ok x r).bind fun x r =>
   (if op=⟨#[113,117,97,110,116,105,108,101]⟩∨op=⟨#[100,101,99,97,121]⟩ then (int r).bind fun n r=>(need ⟨#[44]⟩ r).bind fun _ r=>.ok n r else .ok 0 r).bind fun p r =>
   (win r).bind fun w r=>(if isT ⟨#[119,104,101,114,101]⟩ r=true then Z true .ex r.tail else .ok (aS 1) r).bind fun y r=>(need ⟨#[41]⟩ r).bind fun _ r=>.ok (lu op t p w x y) r):=by
   simp only [pz]
   refine (RM.refl _).bind fun op _=>(RM.refl _).bind fun _ _=>(RM.refl _).bind fun t _=>(RM.refl _).bind fun _ l=>RM.bind ?_ fun x l=>(RM.refl _).bind fun p l=>(RM.refl _).bind fun w l=>RM.bind ?_ fun y l=>RM.refl _
   · split
     · exact RM.refl _
     · exact pQ.bind fun _ _=>RM.refl _
   · split
     · exact pQ
     · exact RM.refl _
 exact (e (fC (m:=.ag) trivial)).symm
theorem uO (i:Bool) (l:List Tk):Z i .pr l=if (hd l).k=2 then (int l).bind fun n r=>(uni r).bind fun u r=>.ok (gP 2 n u) r
    else if (hd l).k=3 then (iX l).bind fun n r=>(uni r).bind fun u r=>.ok (gP 3 n u) r
    else if (hd l).k=4 then (tak 4 l).bind fun s r=>.ok (Cg s) r
    else if isT ⟨#[116,114,117,101]⟩ l=true then .ok (aS 1) l.tail
    else if isT ⟨#[102,97,108,115,101]⟩ l=true then .ok (aS 0) l.tail
    else if isT ⟨#[64]⟩ l=true then key l
    else if isT ⟨#[110,117,108,108]⟩ l=true then (Z i .pa l.tail).bind fun x r=>.ok (fP ⟨#[110,117,108,108]⟩ x) r
    else if isT ⟨#[40]⟩ l=true then Z i .pa l
    else if i=true then (nam l).bind fun n r=>.ok (nO n) r
    else if agg (hd l).t=true then Z i .ag l
    else Z i .rf l:=by
 have e:RM (pz (8 * l.length+Md.pr.rk+1) i .pr l) (if (hd l).k=2 then (int l).bind fun n r=>(uni r).bind fun u r=>.ok (gP 2 n u) r
   else if (hd l).k=3 then (iX l).bind fun n r=>(uni r).bind fun u r=>.ok (gP 3 n u) r
   else if (hd l).k=4 then (tak 4 l).bind fun s r=>.ok (Cg s) r
   else if isT ⟨#[116,114,117,101]⟩ l=true then .ok (aS 1) l.tail
   else if isT ⟨#[102,97,108,115,101]⟩ l=true then .ok (aS 0) l.tail
   else if isT ⟨#[64]⟩ l=true then key l
   else if isT ⟨#[110,117,108,108]⟩ l=true then (Z i .pa l.tail).bind fun x r=>.ok (fP ⟨#[110,117,108,108]⟩ x) r
   else if isT ⟨#[40]⟩ l=true then Z i .pa l
   else if i=true then (nam l).bind fun n r=>.ok (nO n) r
   else if agg (hd l).t=true then Z i .ag l
   else Z i .rf l):=by
   simp only [pz]
   split
   · exact RM.refl _
   split
   · exact RM.refl _
   split
   · exact RM.refl _
   split
   · exact RM.refl _
   split
   · exact RM.refl _
   split
   · exact RM.refl _
   split
   · exact Cq.bind fun _ _=>RM.refl _
   split
   · exact Cq
   split
   · exact RM.refl _
   split
   · exact Qa
   · exact PY
 exact (e (fC (m:=.pr) trivial)).symm
theorem iy {α β γ:Type} (x:Rs α) (g:α→List Tk→Rs β) (k:β→List Tk→Rs γ):(x.bind g).bind k=x.bind fun v r=>(g v r).bind k:=by cases x <;> rfl
theorem iH {i:Bool} {m:Md} {l r:List Tk} {x:Ex} (h:Z i m l=.ok x r):r.length+m.le≤l.length:=kR _ _ _ _ _ _ h
theorem bind_congr {α β:Type} {x:Rs α} {g k:α→List Tk→Rs β} (h:∀ v r,x=.ok v r→g v r=k v r):x.bind g=x.bind k:=by
 cases x with
 | out=>rfl
 | ok v r=>exact h v r rfl
 | no a c r=>rfl
theorem IL {α:Type} (x:Rs α):(x.bind fun v r=>Rs.ok v r)=x:=by cases x <;> rfl
theorem mY (i:Bool) (k:Nat):∀ (N:Nat) (n:Nat) (x:Ex) (l:List Tk),8 * l.length+n≤N→k<n→n≤6→Z i (.tl k n x) l=(Z i (.tl (k+1) n x) l).bind fun y r=>Z i (.tl k (k+1) y) r:=by
 intro N
 induction N with
 | zero=>intro n x l h hk _;omega
 | succ N ih =>
   intro n x l h hk hn
   by_cases he:n=k+1
   · subst he
     rw [pF i (k+1) (k+1) hn,if_pos lr]
     rfl
   · rw [pF i k n hn x l,pF i (k+1) n hn x l,if_neg (show ¬ n≤k by omega),if_neg (show ¬ n≤k+1 by omega)]
     by_cases ht:opr (n - 1) l=.empty
     · rw [if_pos ht,if_pos ht]
       exact ih (n - 1) x l (by omega) (by omega) (by omega)
     · rw [if_neg ht,if_neg ht,iy]
       refine bind_congr fun y r hy=>?_
       have h1:=iH hy
       have h2:=aP (jl ht)
       simp only [Md.le] at h1
       refine ih _ _ r ?_ ?_ ?_
       · split <;> omega
       · split <;> omega
       · split <;> omega
theorem QD (i:Bool) (l:List Tk):Z i (.op 0) l=(Z i (.op 1) l).bind fun x r=>Z i (.tl 0 1 x) r:=by
 rw [uP i 0 (by decide),uP i 1 (by decide)];by_cases ht:isT ⟨#[110,111,116]⟩ l=true
 ·rw [if_pos ⟨by decide,ht⟩,if_pos ⟨by decide,ht⟩,iy];exact bind_congr fun y r _=>mY i 0 _ 3 _ r lr (by decide) (by decide)
 rw [if_neg (fun h=>ht h.2),if_neg (fun h=>ht h.2),iy];exact bind_congr fun y r _=>mY i 0 _ 6 _ r lr (by decide) (by decide)
theorem Js (i:Bool) {l:List Tk} (ht:isT ⟨#[110,111,116]⟩ l=true):Z i (.op 3) l=(Z i (.op 3) l.tail).bind fun x r=>.ok (fP ⟨#[110,111,116]⟩ x) r:=by
 rw [uP i 3 (by decide) l,if_pos ⟨by decide,ht⟩];exact bind_congr fun y r _=>by rw [pF i 3 3 (by decide),if_pos lr]
theorem Gj (i:Bool) {n:Nat} (h1:1≤n) (h5:n≤5) {l:List Tk} (ht:¬ (n=3∧isT ⟨#[110,111,116]⟩ l=true)):Z i (.op n) l=(Z i (.op (n+1)) l).bind fun x r=>Z i (.tl n (n+1) x) r:=by
 rw [uP i n (by omega),uP i (n+1) (by omega)];by_cases hn:n≤3∧isT ⟨#[110,111,116]⟩ l=true
 ·have h3:n≤2:=by
   have:n≠3:=fun e=>ht ⟨e,hn.2⟩;omega
  rw [if_pos hn,if_pos ⟨by omega,hn.2⟩,iy];exact bind_congr fun y r _=>mY i n _ 3 _ r lr (by omega) (by decide)
 rw [if_neg hn,if_neg (fun h=>hn ⟨by omega,h.2⟩),iy];exact bind_congr fun y r _=>mY i n _ 6 _ r lr (by omega) (by decide)
theorem QC (i:Bool) (l:List Tk):Z i (.op 6) l=Z i .ng l:=by
 rw [uP i 6 (by decide),if_neg (fun h=>absurd h.1 (by decide))];rw [show (fun (x:Ex) (r:List Tk)=>Z i (.tl 6 6 x) r)=fun x r=>Rs.ok x r from funext fun x=>funext fun r=>by rw [pF i 6 6 (by decide),if_pos lr]];exact IL _
theorem nZ (i:Bool) {n:Nat} (hn:n≤5) (x:Ex) (l:List Tk):Z i (.tl n (n+1) x) l=if opr n l=.empty then .ok x l
    else (Z i (.op (n+1)) l.tail).bind fun y r=>if n=3 then .ok (aT (opr n l) x y) r else Z i (.tl n (n+1) (aT (opr n l) x y)) r:=by
 rw [pF i n (n+1) (by omega),if_neg (by omega),Nat.add_sub_cancel];split
 ·rw [pF i n n (by omega),if_pos lr]
 refine bind_congr fun y r _=>?_;by_cases h3:n=3
 ·subst h3;rw [if_pos rfl,if_pos rfl,pF i 3 3 (by decide),if_pos lr]
 rw [if_neg (by omega),if_neg h3]
theorem Ke (a:Option Addr) (n c k:Nat) (h:k≤n) (hc:n≤c) (W:World):(Instr.slice 22 (.slice a n c) none (some (.int .i64 (k:Int))) none).run Tryz.prog W=.ok (.slice a k c) W:=by
 have hel:Tryz.prog.elem 22=5:=by kernel_rfl
 have h1:=run_slice_h (P:=Tryz.prog) (w:=W) 22 a n c (by rw [hel];exact Tryz.underlying22) .i64 (k:Int) (by omega) (by omega);have e:((k:Int)).toNat=k:=by omega
 rw [h1,hel,Tryz.sizeOf5,e];simp [Result.andThen,sliced];intro _
 cases a with
 | none=>rfl
 | some x=>simp only [Option.map_some,Option.some.injEq];unfold Addr.add;split <;> simp_all
def nP (k:Nat) (s:ByteArray):ByteArray:=if k<s.size then ⟨(s.data.toList.take k).toArray⟩ else s
theorem FJ (k:Nat) (s:ByteArray):(nP k s).size≤k:=by
 unfold nP;split
 ·rw [← aM];show (s.data.toList.take k).length≤k;rw [List.length_take];omega
 omega
theorem OW {w:World} {a:Option Addr} {n c:Nat} {s:ByteArray} (h:Bs w a n c s) (k:Nat):Bs w a (nP k s).size c (nP k s):=by
 have hn:=h.hn;have hc:=h.hcap;unfold nP;by_cases hk:k<s.size
 ·rw [if_pos hk];have hs:(⟨(s.data.toList.take k).toArray⟩:ByteArray).size=k:=by
   rw [← aM];show (s.data.toList.take k).length=k;rw [List.length_take,aM];omega
  rw [hs];refine { h with hat:=?_,hn:=hs,hcap:=by omega };rcases h.hat with h0 | ⟨b,off,e,hB⟩
  ·omega
  refine .inr ⟨b,off,e,fun j hj=>?_⟩;rw [hB j (by omega)];have e1:=Jr ⟨(s.data.toList.take k).toArray⟩ j hj;rw [show (⟨(s.data.toList.take k).toArray⟩:ByteArray).data.toList=s.data.toList.take k from rfl,List.getElem?_take,if_pos (by omega),Jr s j (by omega)] at e1;rw [Option.some.inj e1]
 rw [if_neg hk,hn];exact h
theorem Mg (a:Option Addr) (n c k:Nat) (s:ByteArray) (w:World) (h:Bs w a n c s) :
    Calls Tryz.prog 6 #[.slice a n c,.int .i64 (k:Int)] w fun e w' => e=.returned (.slice a (nP k s).size c)∧w'=w:=by
 have hn:=h.hn;have hc:=h.hcap;unfold nP;by_cases hk:k<s.size
 ·rw [if_pos hk];have hs:(⟨(s.data.toList.take k).toArray⟩:ByteArray).size=k:=by
   rw [← aM];show (s.data.toList.take k).length=k;rw [List.length_take,aM];omega
  rw [hs];have q1:decide ((n:Int) > (k:Int))=true:=dT (by omega);have q2:decide ((k:Int)<(n:Int))=true:=dT (by omega);have sl:=Ke a n c k (by omega) hc;have hkn:k<n:=by omega
  have q3:decide (k<n)=true:=dT hkn;clear h hk hs hn hc
  go_enter Tryz.func6,Tryz.ntmps6
  go_wp2_with fail;go_ret;exact ⟨rfl,rfl⟩
 rw [if_neg hk];have q1:decide ((n:Int) > (k:Int))=false:=dF (by omega);have q2:decide ((k:Int)<(n:Int))=false:=dF (by omega);have hkn:¬ k<n:=by omega
 have q3:decide (k<n)=false:=dF hkn;rw [hn];clear h hk hn hc
 go_enter Tryz.func6,Tryz.ntmps6
 go_wp2_with fail;go_ret;exact ⟨rfl,rfl⟩
theorem vQ {T:TypeId} {n:Nat} {d:TypeDesc} (hi:(Tryz.prog.info? T).map (·.size)=some n) (hu:Tryz.prog.underlying T=some d) (hd:tZ d=true)
    {ops:Array Oper} {rest:List Oper} {o:Oper} {a:Act} {w:World} {Q:Exit→Act→World→Prop} (x:Operand) (ho:o.op=.load T x) (hgd:Region.wanted o (yielded ops a.tmps)=true)
    (g:Nat) (T':TypeId) (cells:Array Value) (hx:a.eval x=.pointer (some ⟨g,0,none⟩)) (hB:Blk w g T' cells) (hc:cells.size=n)
    (h:wpList Tryz.prog ops Q rest (a.put o.dst (.agg cells)) w):wpList Tryz.prog ops Q (o :: rest) a w:=by
 refine wpList_step fun K hK=>?_;rw [if_pos hgd];exact wp_load_row T x ho g hx T' cells (0,0) d hB hu (by cases d <;> first | rfl | cases hd) (by rw [hc];exact hi) (hK _ _ h)
end pa
end Go.Proofs.YtbpijgddfaefkaaGreatDoor
