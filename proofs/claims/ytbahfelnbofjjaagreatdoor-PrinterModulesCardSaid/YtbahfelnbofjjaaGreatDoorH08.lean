/- values. -/
import Derived.Deep.MidRow
import Derived.Test.YtbahfelnbofjjaaGreatDoorH07
set_option maxRecDepth 100000
set_option maxHeartbeats 16000000
namespace Go.Proofs.YtbahfelnbofjjaaGreatDoor
section
open Go.RowKit dec
structure Fst (W w:World) (B P M:Nat) (k n:Int) (s:ByteArray) (vs:List Value):Prop where
 par:Vx w B k n s
 box:Vx w P k n s
 map:Mp w M vs
 low:P<M
 lo2:B<M
 bel:Below W.heap.size W w
 siz:W.heap.size≤M
theorem Fst.next {W w w':World} {B P M:Nat} {k n:Int} {s:ByteArray} {vs vs':List Value} (h:Fst W w B P M k n s vs) (hm:Mp w' M vs') (hb:Below M w w'):Fst W w' B P M k n s vs':=by
 have keep:∀ {b:Nat},b<M→Vx w b k n s→Vx w' b k n s:=fun hl hv=>⟨(hb.cell hl).trans hv.1,(hb.cell hl).trans hv.2.1,(hb.cell hl).trans hv.2.2⟩;exact ⟨keep h.lo2 h.par,keep h.low h.box,hm,h.low,h.lo2,h.bel.trans (hb.mono h.siz),h.siz⟩
theorem Fst.start {W w1:World} {k n:Int} {s:ByteArray} (h:Vx w1 W.heap.size k n s) (hb:Below W.heap.size W w1) (T:TypeId) :
    Fst W ((w1.alloc (.cells #[.int .i64 k,.int .i64 n,.string s] T)).alloc (.map #[] 0)) W.heap.size w1.heap.size (w1.heap.size+1) k n s []:=by
 have hl:W.heap.size<w1.heap.size:=block_lt_of_cell h.1;have hm:=Mp.made (w1.alloc (.cells #[.int .i64 k,.int .i64 n,.string s] T));rw [show (w1.alloc (.cells #[.int .i64 k,.int .i64 n,.string s] T)).heap.size=w1.heap.size+1 by simp] at hm;exact ⟨(h.past _).past _,(Vx.new w1 k n s T).past _,hm,by omega,by omega,(hb.alloc hb.size _).alloc (by simp;omega) _,by omega⟩
theorem yL (args:Array Value) (w:World):(callFunc 220 args).run Tryz.prog w=.ok (.enter 220 args) w:=by simp [go_sem]
theorem sZ (args:Array Value) (w:World):(callFunc 221 args).run Tryz.prog w=.ok (.enter 221 args) w:=by simp [go_sem]
theorem sV (args:Array Value) (w:World):(callFunc 222 args).run Tryz.prog w=.ok (.enter 222 args) w:=by simp [go_sem]
theorem sW (args:Array Value) (w:World):(callFunc 223 args).run Tryz.prog w=.ok (.enter 223 args) w:=by simp [go_sem]
theorem yK (args:Array Value) (w:World):(callFunc 224 args).run Tryz.prog w=.ok (.enter 224 args) w:=by simp [go_sem]
theorem zQ (args:Array Value) (w:World):(callFunc 225 args).run Tryz.prog w=.ok (.enter 225 args) w:=by simp [go_sem]
theorem MZ (n:Int) (s:ByteArray) (hs:s.size≤1000) (w:World) (hc:ck ⟨0,n,s⟩=0)  : Calls Tryz.prog 156 #[.agg #[.int .i64 0,.int .i64 n,.string s]] w fun e w' => e=.returned (.string ⟨([110,117,108,108]).toArray⟩)∧Below w.heap.size w w':=by
 have C1:=Hy (fA 0 n s (by omega));have V0:=Vx.new w 0 n s 23;rw [hc] at C1;clear hc;have hmm:=@run_makeMap Tryz.prog;have C:Hid (∀ w',Below w.heap.size w w'→Calls Tryz.prog 220 #[.agg #[.int .i64 0,.int .i64 n,.string s]] w' fun e w'' => e=.returned (.string ⟨([110,117,108,108]).toArray⟩)∧Below w'.heap.size w' w''):=Hy (fun w' b=>VQ 0 n s w');generalize ([110,117,108,108])=l at *;have he:=yL
 go_enter Tryz.func156,Tryz.ntmps156
 go_wp2_with fail;refine (C1.o _).mono ?_;rintro e w1 ⟨rfl,b1⟩;obtain ⟨c0,c1,c2⟩:=V0.keeps b1;have V1:=V0.keeps b1;clear V0;replace b1:=(aj (b0 w) _).trans (b1.mono (by simp));have F:=Fst.start V1 b1 229;clear V1 b1
 go_wp2_with (first
   | (refine aC _ rfl (.tmp 10) (.const (.int .i64 0)) (.tmp 12) rfl _ _ rfl F.map 0 rfl rfl (.func (.func 220) #[.agg #[.int .i64 0,.int .i64 n,.string s]] #[]) rfl ?_;intro w2 hm hb;replace F:=F.next hm hb;obtain ⟨d0,d1,d2⟩:=F.box;obtain ⟨c0,c1,c2⟩:=F.par;clear hm hb)
   | (refine aC _ rfl (.tmp 10) (.const (.int .i64 1)) (.tmp 14) rfl _ _ rfl F.map 1 rfl rfl (.func (.func 221) #[.agg #[.int .i64 0,.int .i64 n,.string s]] #[]) rfl ?_;intro w2 hm hb;replace F:=F.next hm hb;obtain ⟨d0,d1,d2⟩:=F.box;obtain ⟨c0,c1,c2⟩:=F.par;clear hm hb)
   | (refine aC _ rfl (.tmp 10) (.const (.int .i64 2)) (.tmp 16) rfl _ _ rfl F.map 2 rfl rfl (.func (.func 222) #[.agg #[.int .i64 0,.int .i64 n,.string s]] #[]) rfl ?_;intro w2 hm hb;replace F:=F.next hm hb;obtain ⟨d0,d1,d2⟩:=F.box;obtain ⟨c0,c1,c2⟩:=F.par;clear hm hb)
   | (refine aC _ rfl (.tmp 10) (.const (.int .i64 3)) (.tmp 18) rfl _ _ rfl F.map 3 rfl rfl (.func (.func 223) #[.agg #[.int .i64 0,.int .i64 n,.string s]] #[]) rfl ?_;intro w2 hm hb;replace F:=F.next hm hb;obtain ⟨d0,d1,d2⟩:=F.box;obtain ⟨c0,c1,c2⟩:=F.par;clear hm hb)
   | (refine aC _ rfl (.tmp 10) (.const (.int .i64 4)) (.tmp 20) rfl _ _ rfl F.map 4 rfl rfl (.func (.func 224) #[.agg #[.int .i64 0,.int .i64 n,.string s]] #[]) rfl ?_;intro w2 hm hb;replace F:=F.next hm hb;obtain ⟨d0,d1,d2⟩:=F.box;obtain ⟨c0,c1,c2⟩:=F.par;clear hm hb)
   | (refine aC _ rfl (.tmp 10) (.const (.int .i64 5)) (.tmp 22) rfl _ _ rfl F.map 5 rfl rfl (.func (.func 225) #[.agg #[.int .i64 0,.int .i64 n,.string s]] #[]) rfl ?_;intro w2 hm hb;replace F:=F.next hm hb;obtain ⟨d0,d1,d2⟩:=F.box;obtain ⟨c0,c1,c2⟩:=F.par;clear hm hb;have hl:=dY F.map 0 0 rfl (.func (.func 220) #[.agg #[.int .i64 0,.int .i64 n,.string s]] #[]) rfl))
 refine (C.o _ F.bel).mono ?_;rintro e w3 ⟨rfl,b3⟩;go_wp2_with fail;go_ret;exact ⟨rfl,ak F.bel b3⟩
theorem tK (n:Int) (s:ByteArray) (hs:s.size≤1000) (w:World) (hc:ck ⟨1,n,s⟩=0)  : Calls Tryz.prog 156 #[.agg #[.int .i64 1,.int .i64 n,.string s]] w fun e w' => e=.returned (.string ⟨(Lib.formatBool (n==1)).toArray⟩)∧Below w.heap.size w w':=by
 have C1:=Hy (fA 1 n s (by omega));have V0:=Vx.new w 1 n s 23;rw [hc] at C1;clear hc;have hmm:=@run_makeMap Tryz.prog;have C:Hid (∀ w',Below w.heap.size w w'→Calls Tryz.prog 221 #[.agg #[.int .i64 1,.int .i64 n,.string s]] w' fun e w'' => e=.returned (.string ⟨(Lib.formatBool (n==1)).toArray⟩)∧Below w'.heap.size w' w''):=Hy (fun w' b=>VR n s 1 w');generalize (Lib.formatBool (n==1))=l at *;have he:=sZ
 go_enter Tryz.func156,Tryz.ntmps156
 go_wp2_with fail;refine (C1.o _).mono ?_;rintro e w1 ⟨rfl,b1⟩;obtain ⟨c0,c1,c2⟩:=V0.keeps b1;have V1:=V0.keeps b1;clear V0;replace b1:=(aj (b0 w) _).trans (b1.mono (by simp));have F:=Fst.start V1 b1 229;clear V1 b1
 go_wp2_with (first
   | (refine aC _ rfl (.tmp 10) (.const (.int .i64 0)) (.tmp 12) rfl _ _ rfl F.map 0 rfl rfl (.func (.func 220) #[.agg #[.int .i64 1,.int .i64 n,.string s]] #[]) rfl ?_;intro w2 hm hb;replace F:=F.next hm hb;obtain ⟨d0,d1,d2⟩:=F.box;obtain ⟨c0,c1,c2⟩:=F.par;clear hm hb)
   | (refine aC _ rfl (.tmp 10) (.const (.int .i64 1)) (.tmp 14) rfl _ _ rfl F.map 1 rfl rfl (.func (.func 221) #[.agg #[.int .i64 1,.int .i64 n,.string s]] #[]) rfl ?_;intro w2 hm hb;replace F:=F.next hm hb;obtain ⟨d0,d1,d2⟩:=F.box;obtain ⟨c0,c1,c2⟩:=F.par;clear hm hb)
   | (refine aC _ rfl (.tmp 10) (.const (.int .i64 2)) (.tmp 16) rfl _ _ rfl F.map 2 rfl rfl (.func (.func 222) #[.agg #[.int .i64 1,.int .i64 n,.string s]] #[]) rfl ?_;intro w2 hm hb;replace F:=F.next hm hb;obtain ⟨d0,d1,d2⟩:=F.box;obtain ⟨c0,c1,c2⟩:=F.par;clear hm hb)
   | (refine aC _ rfl (.tmp 10) (.const (.int .i64 3)) (.tmp 18) rfl _ _ rfl F.map 3 rfl rfl (.func (.func 223) #[.agg #[.int .i64 1,.int .i64 n,.string s]] #[]) rfl ?_;intro w2 hm hb;replace F:=F.next hm hb;obtain ⟨d0,d1,d2⟩:=F.box;obtain ⟨c0,c1,c2⟩:=F.par;clear hm hb)
   | (refine aC _ rfl (.tmp 10) (.const (.int .i64 4)) (.tmp 20) rfl _ _ rfl F.map 4 rfl rfl (.func (.func 224) #[.agg #[.int .i64 1,.int .i64 n,.string s]] #[]) rfl ?_;intro w2 hm hb;replace F:=F.next hm hb;obtain ⟨d0,d1,d2⟩:=F.box;obtain ⟨c0,c1,c2⟩:=F.par;clear hm hb)
   | (refine aC _ rfl (.tmp 10) (.const (.int .i64 5)) (.tmp 22) rfl _ _ rfl F.map 5 rfl rfl (.func (.func 225) #[.agg #[.int .i64 1,.int .i64 n,.string s]] #[]) rfl ?_;intro w2 hm hb;replace F:=F.next hm hb;obtain ⟨d0,d1,d2⟩:=F.box;obtain ⟨c0,c1,c2⟩:=F.par;clear hm hb;have hl:=dY F.map 1 1 rfl (.func (.func 221) #[.agg #[.int .i64 1,.int .i64 n,.string s]] #[]) rfl))
 refine (C.o _ F.bel).mono ?_;rintro e w3 ⟨rfl,b3⟩;go_wp2_with fail;go_ret;exact ⟨rfl,ak F.bel b3⟩
theorem DL (n:Int) (s:ByteArray) (hs:s.size≤1000) (w:World) (hc:ck ⟨2,n,s⟩=0) (h0 : -9223372036854775808≤n) (h1:n≤9223372036854775807) (T:Tabs w):Calls Tryz.prog 156 #[.agg #[.int .i64 2,.int .i64 n,.string s]] w fun e w' => e=.returned (.string ⟨(Lib.itoa n).toArray⟩)∧Below w.heap.size w w':=by
 have C1:=Hy (fA 2 n s (by omega));have V0:=Vx.new w 2 n s 23;rw [hc] at C1;clear hc;have hmm:=@run_makeMap Tryz.prog;have C:Hid (∀ w',Below w.heap.size w w'→Calls Tryz.prog 222 #[.agg #[.int .i64 2,.int .i64 n,.string s]] w' fun e w'' => e=.returned (.string ⟨(Lib.itoa n).toArray⟩)∧Below w'.heap.size w' w''):=Hy (fun w' b=>Xk 2 n s h0 h1 w' (T.stays b));generalize (Lib.itoa n)=l at *;have he:=sV
 go_enter Tryz.func156,Tryz.ntmps156
 go_wp2_with fail;refine (C1.o _).mono ?_;rintro e w1 ⟨rfl,b1⟩;obtain ⟨c0,c1,c2⟩:=V0.keeps b1;have V1:=V0.keeps b1;clear V0;replace b1:=(aj (b0 w) _).trans (b1.mono (by simp));have F:=Fst.start V1 b1 229;clear V1 b1
 go_wp2_with (first
   | (refine aC _ rfl (.tmp 10) (.const (.int .i64 0)) (.tmp 12) rfl _ _ rfl F.map 0 rfl rfl (.func (.func 220) #[.agg #[.int .i64 2,.int .i64 n,.string s]] #[]) rfl ?_;intro w2 hm hb;replace F:=F.next hm hb;obtain ⟨d0,d1,d2⟩:=F.box;obtain ⟨c0,c1,c2⟩:=F.par;clear hm hb)
   | (refine aC _ rfl (.tmp 10) (.const (.int .i64 1)) (.tmp 14) rfl _ _ rfl F.map 1 rfl rfl (.func (.func 221) #[.agg #[.int .i64 2,.int .i64 n,.string s]] #[]) rfl ?_;intro w2 hm hb;replace F:=F.next hm hb;obtain ⟨d0,d1,d2⟩:=F.box;obtain ⟨c0,c1,c2⟩:=F.par;clear hm hb)
   | (refine aC _ rfl (.tmp 10) (.const (.int .i64 2)) (.tmp 16) rfl _ _ rfl F.map 2 rfl rfl (.func (.func 222) #[.agg #[.int .i64 2,.int .i64 n,.string s]] #[]) rfl ?_;intro w2 hm hb;replace F:=F.next hm hb;obtain ⟨d0,d1,d2⟩:=F.box;obtain ⟨c0,c1,c2⟩:=F.par;clear hm hb)
   | (refine aC _ rfl (.tmp 10) (.const (.int .i64 3)) (.tmp 18) rfl _ _ rfl F.map 3 rfl rfl (.func (.func 223) #[.agg #[.int .i64 2,.int .i64 n,.string s]] #[]) rfl ?_;intro w2 hm hb;replace F:=F.next hm hb;obtain ⟨d0,d1,d2⟩:=F.box;obtain ⟨c0,c1,c2⟩:=F.par;clear hm hb)
   | (refine aC _ rfl (.tmp 10) (.const (.int .i64 4)) (.tmp 20) rfl _ _ rfl F.map 4 rfl rfl (.func (.func 224) #[.agg #[.int .i64 2,.int .i64 n,.string s]] #[]) rfl ?_;intro w2 hm hb;replace F:=F.next hm hb;obtain ⟨d0,d1,d2⟩:=F.box;obtain ⟨c0,c1,c2⟩:=F.par;clear hm hb)
   | (refine aC _ rfl (.tmp 10) (.const (.int .i64 5)) (.tmp 22) rfl _ _ rfl F.map 5 rfl rfl (.func (.func 225) #[.agg #[.int .i64 2,.int .i64 n,.string s]] #[]) rfl ?_;intro w2 hm hb;replace F:=F.next hm hb;obtain ⟨d0,d1,d2⟩:=F.box;obtain ⟨c0,c1,c2⟩:=F.par;clear hm hb;have hl:=dY F.map 2 2 rfl (.func (.func 222) #[.agg #[.int .i64 2,.int .i64 n,.string s]] #[]) rfl))
 refine (C.o _ F.bel).mono ?_;rintro e w3 ⟨rfl,b3⟩;go_wp2_with fail;go_ret;exact ⟨rfl,ak F.bel b3⟩
theorem DN (n:Int) (s:ByteArray) (hs:s.size≤1000) (w:World) (hc:ck ⟨3,n,s⟩=0) (h0 : -9223372036854775808≤n) (h1:n≤9223372036854775807) (T:Tabs w):Calls Tryz.prog 156 #[.agg #[.int .i64 3,.int .i64 n,.string s]] w fun e w' => e=.returned (.string ⟨(foX n).toArray⟩)∧Below w.heap.size w w':=by
 have C1:=Hy (fA 3 n s (by omega));have V0:=Vx.new w 3 n s 23;rw [hc] at C1;clear hc;have hmm:=@run_makeMap Tryz.prog;have C:Hid (∀ w',Below w.heap.size w w'→Calls Tryz.prog 223 #[.agg #[.int .i64 3,.int .i64 n,.string s]] w' fun e w'' => e=.returned (.string ⟨(foX n).toArray⟩)∧Below w'.heap.size w' w''):=Hy (fun w' b=>Xl 3 n s h0 h1 w' (T.stays b));generalize (foX n)=l at *;have he:=sW
 go_enter Tryz.func156,Tryz.ntmps156
 go_wp2_with fail;refine (C1.o _).mono ?_;rintro e w1 ⟨rfl,b1⟩;obtain ⟨c0,c1,c2⟩:=V0.keeps b1;have V1:=V0.keeps b1;clear V0;replace b1:=(aj (b0 w) _).trans (b1.mono (by simp));have F:=Fst.start V1 b1 229;clear V1 b1
 go_wp2_with (first
   | (refine aC _ rfl (.tmp 10) (.const (.int .i64 0)) (.tmp 12) rfl _ _ rfl F.map 0 rfl rfl (.func (.func 220) #[.agg #[.int .i64 3,.int .i64 n,.string s]] #[]) rfl ?_;intro w2 hm hb;replace F:=F.next hm hb;obtain ⟨d0,d1,d2⟩:=F.box;obtain ⟨c0,c1,c2⟩:=F.par;clear hm hb)
   | (refine aC _ rfl (.tmp 10) (.const (.int .i64 1)) (.tmp 14) rfl _ _ rfl F.map 1 rfl rfl (.func (.func 221) #[.agg #[.int .i64 3,.int .i64 n,.string s]] #[]) rfl ?_;intro w2 hm hb;replace F:=F.next hm hb;obtain ⟨d0,d1,d2⟩:=F.box;obtain ⟨c0,c1,c2⟩:=F.par;clear hm hb)
   | (refine aC _ rfl (.tmp 10) (.const (.int .i64 2)) (.tmp 16) rfl _ _ rfl F.map 2 rfl rfl (.func (.func 222) #[.agg #[.int .i64 3,.int .i64 n,.string s]] #[]) rfl ?_;intro w2 hm hb;replace F:=F.next hm hb;obtain ⟨d0,d1,d2⟩:=F.box;obtain ⟨c0,c1,c2⟩:=F.par;clear hm hb)
   | (refine aC _ rfl (.tmp 10) (.const (.int .i64 3)) (.tmp 18) rfl _ _ rfl F.map 3 rfl rfl (.func (.func 223) #[.agg #[.int .i64 3,.int .i64 n,.string s]] #[]) rfl ?_;intro w2 hm hb;replace F:=F.next hm hb;obtain ⟨d0,d1,d2⟩:=F.box;obtain ⟨c0,c1,c2⟩:=F.par;clear hm hb)
   | (refine aC _ rfl (.tmp 10) (.const (.int .i64 4)) (.tmp 20) rfl _ _ rfl F.map 4 rfl rfl (.func (.func 224) #[.agg #[.int .i64 3,.int .i64 n,.string s]] #[]) rfl ?_;intro w2 hm hb;replace F:=F.next hm hb;obtain ⟨d0,d1,d2⟩:=F.box;obtain ⟨c0,c1,c2⟩:=F.par;clear hm hb)
   | (refine aC _ rfl (.tmp 10) (.const (.int .i64 5)) (.tmp 22) rfl _ _ rfl F.map 5 rfl rfl (.func (.func 225) #[.agg #[.int .i64 3,.int .i64 n,.string s]] #[]) rfl ?_;intro w2 hm hb;replace F:=F.next hm hb;obtain ⟨d0,d1,d2⟩:=F.box;obtain ⟨c0,c1,c2⟩:=F.par;clear hm hb;have hl:=dY F.map 3 3 rfl (.func (.func 223) #[.agg #[.int .i64 3,.int .i64 n,.string s]] #[]) rfl))
 refine (C.o _ F.bel).mono ?_;rintro e w3 ⟨rfl,b3⟩;go_wp2_with fail;go_ret;exact ⟨rfl,ak F.bel b3⟩
theorem MX (n:Int) (s:ByteArray) (hs:s.size≤1000) (w:World) (hc:ck ⟨4,n,s⟩=0)  : Calls Tryz.prog 156 #[.agg #[.int .i64 4,.int .i64 n,.string s]] w fun e w' => e=.returned (.string ⟨(34 :: (s.data.toList++[34])).toArray⟩)∧Below w.heap.size w w':=by
 have C1:=Hy (fA 4 n s (by omega));have V0:=Vx.new w 4 n s 23;rw [hc] at C1;clear hc;have hmm:=@run_makeMap Tryz.prog;have C:Hid (∀ w',Below w.heap.size w w'→Calls Tryz.prog 224 #[.agg #[.int .i64 4,.int .i64 n,.string s]] w' fun e w'' => e=.returned (.string ⟨(34 :: (s.data.toList++[34])).toArray⟩)∧Below w'.heap.size w' w''):=Hy (fun w' b=>VP 4 n s hs w');generalize (34 :: (s.data.toList++[34]))=l at *;have he:=yK
 go_enter Tryz.func156,Tryz.ntmps156
 go_wp2_with fail;refine (C1.o _).mono ?_;rintro e w1 ⟨rfl,b1⟩;obtain ⟨c0,c1,c2⟩:=V0.keeps b1;have V1:=V0.keeps b1;clear V0;replace b1:=(aj (b0 w) _).trans (b1.mono (by simp));have F:=Fst.start V1 b1 229;clear V1 b1
 go_wp2_with (first
   | (refine aC _ rfl (.tmp 10) (.const (.int .i64 0)) (.tmp 12) rfl _ _ rfl F.map 0 rfl rfl (.func (.func 220) #[.agg #[.int .i64 4,.int .i64 n,.string s]] #[]) rfl ?_;intro w2 hm hb;replace F:=F.next hm hb;obtain ⟨d0,d1,d2⟩:=F.box;obtain ⟨c0,c1,c2⟩:=F.par;clear hm hb)
   | (refine aC _ rfl (.tmp 10) (.const (.int .i64 1)) (.tmp 14) rfl _ _ rfl F.map 1 rfl rfl (.func (.func 221) #[.agg #[.int .i64 4,.int .i64 n,.string s]] #[]) rfl ?_;intro w2 hm hb;replace F:=F.next hm hb;obtain ⟨d0,d1,d2⟩:=F.box;obtain ⟨c0,c1,c2⟩:=F.par;clear hm hb)
   | (refine aC _ rfl (.tmp 10) (.const (.int .i64 2)) (.tmp 16) rfl _ _ rfl F.map 2 rfl rfl (.func (.func 222) #[.agg #[.int .i64 4,.int .i64 n,.string s]] #[]) rfl ?_;intro w2 hm hb;replace F:=F.next hm hb;obtain ⟨d0,d1,d2⟩:=F.box;obtain ⟨c0,c1,c2⟩:=F.par;clear hm hb)
   | (refine aC _ rfl (.tmp 10) (.const (.int .i64 3)) (.tmp 18) rfl _ _ rfl F.map 3 rfl rfl (.func (.func 223) #[.agg #[.int .i64 4,.int .i64 n,.string s]] #[]) rfl ?_;intro w2 hm hb;replace F:=F.next hm hb;obtain ⟨d0,d1,d2⟩:=F.box;obtain ⟨c0,c1,c2⟩:=F.par;clear hm hb)
   | (refine aC _ rfl (.tmp 10) (.const (.int .i64 4)) (.tmp 20) rfl _ _ rfl F.map 4 rfl rfl (.func (.func 224) #[.agg #[.int .i64 4,.int .i64 n,.string s]] #[]) rfl ?_;intro w2 hm hb;replace F:=F.next hm hb;obtain ⟨d0,d1,d2⟩:=F.box;obtain ⟨c0,c1,c2⟩:=F.par;clear hm hb)
   | (refine aC _ rfl (.tmp 10) (.const (.int .i64 5)) (.tmp 22) rfl _ _ rfl F.map 5 rfl rfl (.func (.func 225) #[.agg #[.int .i64 4,.int .i64 n,.string s]] #[]) rfl ?_;intro w2 hm hb;replace F:=F.next hm hb;obtain ⟨d0,d1,d2⟩:=F.box;obtain ⟨c0,c1,c2⟩:=F.par;clear hm hb;have hl:=dY F.map 4 4 rfl (.func (.func 224) #[.agg #[.int .i64 4,.int .i64 n,.string s]] #[]) rfl))
 refine (C.o _ F.bel).mono ?_;rintro e w3 ⟨rfl,b3⟩;go_wp2_with fail;go_ret;exact ⟨rfl,ak F.bel b3⟩
theorem QU (n:Int) (s:ByteArray) (hs:s.size≤1000) (w:World) (hc:ck ⟨5,n,s⟩=0)  : Calls Tryz.prog 156 #[.agg #[.int .i64 5,.int .i64 n,.string s]] w fun e w' => e=.returned (.string ⟨(64 :: s.data.toList).toArray⟩)∧Below w.heap.size w w':=by
 have C1:=Hy (fA 5 n s (by omega));have V0:=Vx.new w 5 n s 23;rw [hc] at C1;clear hc;have hmm:=@run_makeMap Tryz.prog;have C:Hid (∀ w',Below w.heap.size w w'→Calls Tryz.prog 225 #[.agg #[.int .i64 5,.int .i64 n,.string s]] w' fun e w'' => e=.returned (.string ⟨(64 :: s.data.toList).toArray⟩)∧Below w'.heap.size w' w''):=Hy (fun w' b=>Xj 5 n s hs w');generalize (64 :: s.data.toList)=l at *;have he:=zQ
 go_enter Tryz.func156,Tryz.ntmps156
 go_wp2_with fail;refine (C1.o _).mono ?_;rintro e w1 ⟨rfl,b1⟩;obtain ⟨c0,c1,c2⟩:=V0.keeps b1;have V1:=V0.keeps b1;clear V0;replace b1:=(aj (b0 w) _).trans (b1.mono (by simp));have F:=Fst.start V1 b1 229;clear V1 b1
 go_wp2_with (first
   | (refine aC _ rfl (.tmp 10) (.const (.int .i64 0)) (.tmp 12) rfl _ _ rfl F.map 0 rfl rfl (.func (.func 220) #[.agg #[.int .i64 5,.int .i64 n,.string s]] #[]) rfl ?_;intro w2 hm hb;replace F:=F.next hm hb;obtain ⟨d0,d1,d2⟩:=F.box;obtain ⟨c0,c1,c2⟩:=F.par;clear hm hb)
   | (refine aC _ rfl (.tmp 10) (.const (.int .i64 1)) (.tmp 14) rfl _ _ rfl F.map 1 rfl rfl (.func (.func 221) #[.agg #[.int .i64 5,.int .i64 n,.string s]] #[]) rfl ?_;intro w2 hm hb;replace F:=F.next hm hb;obtain ⟨d0,d1,d2⟩:=F.box;obtain ⟨c0,c1,c2⟩:=F.par;clear hm hb)
   | (refine aC _ rfl (.tmp 10) (.const (.int .i64 2)) (.tmp 16) rfl _ _ rfl F.map 2 rfl rfl (.func (.func 222) #[.agg #[.int .i64 5,.int .i64 n,.string s]] #[]) rfl ?_;intro w2 hm hb;replace F:=F.next hm hb;obtain ⟨d0,d1,d2⟩:=F.box;obtain ⟨c0,c1,c2⟩:=F.par;clear hm hb)
   | (refine aC _ rfl (.tmp 10) (.const (.int .i64 3)) (.tmp 18) rfl _ _ rfl F.map 3 rfl rfl (.func (.func 223) #[.agg #[.int .i64 5,.int .i64 n,.string s]] #[]) rfl ?_;intro w2 hm hb;replace F:=F.next hm hb;obtain ⟨d0,d1,d2⟩:=F.box;obtain ⟨c0,c1,c2⟩:=F.par;clear hm hb)
   | (refine aC _ rfl (.tmp 10) (.const (.int .i64 4)) (.tmp 20) rfl _ _ rfl F.map 4 rfl rfl (.func (.func 224) #[.agg #[.int .i64 5,.int .i64 n,.string s]] #[]) rfl ?_;intro w2 hm hb;replace F:=F.next hm hb;obtain ⟨d0,d1,d2⟩:=F.box;obtain ⟨c0,c1,c2⟩:=F.par;clear hm hb)
   | (refine aC _ rfl (.tmp 10) (.const (.int .i64 5)) (.tmp 22) rfl _ _ rfl F.map 5 rfl rfl (.func (.func 225) #[.agg #[.int .i64 5,.int .i64 n,.string s]] #[]) rfl ?_;intro w2 hm hb;replace F:=F.next hm hb;obtain ⟨d0,d1,d2⟩:=F.box;obtain ⟨c0,c1,c2⟩:=F.par;clear hm hb;have hl:=dY F.map 5 5 rfl (.func (.func 225) #[.agg #[.int .i64 5,.int .i64 n,.string s]] #[]) rfl))
 refine (C.o _ F.bel).mono ?_;rintro e w3 ⟨rfl,b3⟩;go_wp2_with fail;go_ret;exact ⟨rfl,ak F.bel b3⟩
theorem UC (k n:Int) (s:ByteArray) (hs:s.size≤1000) (w:World) (hc:¬ ck ⟨k,n,s⟩=0):Calls Tryz.prog 156 #[.agg #[.int .i64 k,.int .i64 n,.string s]] w fun e w' => e=.returned (.string ⟨([]:List UInt8).toArray⟩)∧Below w.heap.size w w':=by
 have C1:=Hy (fA k n s (by omega));generalize ck ⟨k,n,s⟩=c at *
 go_enter Tryz.func156,Tryz.ntmps156
 go_wp2_with fail;refine (C1.o _).mono ?_;rintro e w1 ⟨rfl,b1⟩;replace b1:=(aj (b0 w) _).trans (b1.mono (by simp));go_wp2_with fail;go_ret;exact ⟨rfl,b1⟩
theorem xD (n:Int):Lib.formatBool (n==1)=if n=1 then [116,114,117,101] else [102,97,108,115,101]:=by
 by_cases h:n=1
 ·subst h;decide +kernel
 have:(n==1)=false:=by rw [L_m];exact h
 rw [this,if_neg h];decide +kernel
theorem DJ (k n:Int) (s:ByteArray) (hs:s.size≤1000) (w:World) (T:Tabs w):Calls Tryz.prog 156 #[.agg #[.int .i64 k,.int .i64 n,.string s]] w fun e w' => e=.returned (.string ⟨(fm ⟨k,n,s⟩).toArray⟩)∧Below w.heap.size w w':=by
 cases hk:ok ⟨k,n,s⟩
 ·rw [WM hk];exact UC k n s hs w (of_decide_eq_false hk)
 rw [iN hk];have hc:=WU hk;rcases Bo hk with e | e | e | ⟨m,e,h1,h2⟩ | ⟨m,e,h1,h2⟩ | ⟨t,e,h1,h2⟩ | ⟨t,e,h0,h1,h2⟩
 ·cases e;exact MZ 0 .empty hs w hc
 ·cases e;have:=tK 0 .empty hs w hc;rw [xD] at this;exact this
 ·cases e;have:=tK 1 .empty hs w hc;rw [xD] at this;exact this
 ·cases e;exact DL n .empty hs w hc (by omega) (by omega) T
 ·cases e;exact DN n .empty hs w hc (by omega) (by omega) T
 ·cases e;exact MX 0 s hs w hc
 cases e;exact QU 0 s hs w hc
end
namespace ch
open Go.RowKit dec
theorem tQ (t:Ty) (ua:Option Addr) (uc:Nat) (w:World) (hA:un.Sl w ua t.un.length uc t.un) (hs:t.of.size≤140737488355328) (T:Tabs w) :
    Calls Tryz.prog 42 #[.agg (tyC t ua uc)] w (Num (tyE t) w):=by
 have bb:=aj (b0 w) (.cells (tyC t ua uc) 31);have B0:=Hy bb;have G:=Hy (Blk.new w 31 (tyC t ua uc));have S0:=Hy (hA.keeps bb);have T0:=Hy (T.stays bb);have hE:tyE t=tyE t:=rfl
 conv at hE=>rhs;unfold tyE
 replace hE:=Hy hE;have hL:=Hy (show t.un.length≤9223372036854775807 by have:=hA.hcap;have:=hA.hmax;omega);have CN:=Hy (fun W T=>gI t.of hs W T);have CU:=Hy (fun W S T=>vC ua t.un.length uc t.un W S T);have CI:=Hy (fun W=>BM t ua uc W);clear hA T bb;unfold tyC at *;by_cases h1:t.k<1
 ·have q1:decide (t.k<1)=true:=dT h1;replace hE:=hE.o;rw [if_pos (.inl h1)] at hE;replace hE:=Hy hE;clear CN CU CI
  go_enter Tryz.func42,Tryz.ntmps42
  go_wp2_with fail;go_ret;exact bK (by rw [hE.o]) B0.o
 have q1:decide (t.k<1)=false:=dF h1;by_cases h2:5<t.k
 ·have q2:decide (5<t.k)=true:=dT h2;replace hE:=hE.o;rw [if_pos (.inr h2)] at hE;replace hE:=Hy hE;clear CN CU CI
  go_enter Tryz.func42,Tryz.ntmps42
  go_wp2_with fail;go_ret;exact bK (by rw [hE.o]) B0.o
 have q2:decide (5<t.k)=false:=dF h2;replace hE:=hE.o;rw [if_neg (by omega)] at hE;replace hE:=Hy hE;by_cases h3:t.k=5
 ·have q3:(t.k==5)=true:=by simp [h3]
  have q4:(t.k != 5)=false:=by simp [h3]
  replace hE:=hE.o;simp only [h3,true_and] at hE;replace hE:=Hy hE;replace h3:=Hy h3
  go_enter Tryz.func42,Tryz.ntmps42
  go_wp2_with fail;refine (CN.o _ T0.o).mono ?_;rintro e w1 ⟨rfl,b1⟩;have B1:=Hy (ak B0.o b1);replace S0:=Hy (S0.o.keeps b1);replace T0:=Hy (T0.o.stays b1);replace G:=Hy (G.o.keeps b1);have c0:=G.o.cell 0;have c1:=G.o.cell 1;have c2:=G.o.cell 2;simp only [sz2,sz3,sz4] at c0 c1 c2;clear b1 CN;generalize name t.of=z at *;cases z
  ·replace hE:=hE.o;rw [if_pos rfl] at hE;replace hE:=Hy hE;go_wp2_with fail;go_ret;exact bK (by rw [hE.o]) B1.o
  replace hE:=hE.o;rw [if_neg (by decide),if_neg (fun h=>h.1 rfl)] at hE;replace hE:=Hy hE;go_wp2_with (first | (refine aG dx dec.uy31 rfl (.tmp 1) rfl rfl _ _ _ rfl G.o rfl ?_));refine (CI.o _).mono ?_;rintro e w2 ⟨rfl,b2⟩;have B2:=Hy (ak B1.o b2);replace S0:=Hy (S0.o.keeps b2);replace T0:=Hy (T0.o.stays b2);replace G:=Hy (G.o.keeps b2);have c1:=G.o.cell 1;simp only [sz2,sz3,sz4] at c1;clear b2 CI;generalize num t=m at *;cases m
  ·by_cases hp:0<t.un.length
   ·have q9:decide (0<(t.un.length:Int))=true:=dT (by omega);replace hE:=hE.o;rw [if_pos ⟨rfl,hp⟩] at hE;replace hE:=Hy hE;go_wp2_with fail;go_ret;exact bK (by rw [hE.o]) B2.o
   have q9:decide (0<(t.un.length:Int))=false:=dF (by omega);replace hE:=hE.o;rw [if_neg (fun h=>hp h.2)] at hE;replace hE:=Hy hE;go_wp2_with fail;refine (CU.o _ S0.o T0.o).mono ?_;rintro e w3 ⟨rfl,b3⟩;have B3:=Hy (ak B2.o b3);clear b3 CU;generalize okU t.un=u at *;cases u
   ·replace hE:=hE.o;rw [if_neg (by decide)] at hE;replace hE:=Hy hE;go_wp2_with fail;go_ret;exact bK (by rw [hE.o]) B3.o
   replace hE:=hE.o;rw [if_pos rfl] at hE;replace hE:=Hy hE;go_wp2_with fail;go_ret;exact bK (by rw [hE.o]) B3.o
  replace hE:=hE.o;rw [if_neg (fun h=>by cases h.1)] at hE;replace hE:=Hy hE;go_wp2_with fail;refine (CU.o _ S0.o T0.o).mono ?_;rintro e w4 ⟨rfl,b4⟩;have B4:=Hy (ak B2.o b4);clear b4 CU;generalize okU t.un=u at *;cases u
  ·replace hE:=hE.o;rw [if_neg (by decide)] at hE;replace hE:=Hy hE;go_wp2_with fail;go_ret;exact bK (by rw [hE.o]) B4.o
  replace hE:=hE.o;rw [if_pos rfl] at hE;replace hE:=Hy hE;go_wp2_with fail;go_ret;exact bK (by rw [hE.o]) B4.o
 have q3:(t.k==5)=false:=by simp [h3]
 have q4:(t.k != 5)=true:=by simp [h3]
 replace hE:=hE.o;rw [if_neg (fun h=>h3 h.1)] at hE;replace hE:=Hy hE;by_cases h4:t.of=.empty
 ·have q5:(!t.of.toList.isEmpty)=false:=by simp only [eqE,h4,decide_true,Bool.not_true]
  replace hE:=hE.o;rw [if_neg (fun h=>h.2 h4)] at hE;replace hE:=Hy hE;clear h4 CN
  go_enter Tryz.func42,Tryz.ntmps42
  go_wp2_with (first | (refine aG dx dec.uy31 rfl (.tmp 1) rfl rfl _ _ _ rfl G.o rfl ?_));refine (CI.o _).mono ?_;rintro e w5 ⟨rfl,b5⟩;have B5:=Hy (ak B0.o b5);replace S0:=Hy (S0.o.keeps b5);replace T0:=Hy (T0.o.stays b5);replace G:=Hy (G.o.keeps b5);have c1:=G.o.cell 1;simp only [sz2,sz3,sz4] at c1;clear b5 CI;generalize num t=m at *;cases m
  ·by_cases hp:0<t.un.length
   ·have q9:decide (0<(t.un.length:Int))=true:=dT (by omega);replace hE:=hE.o;rw [if_pos ⟨rfl,hp⟩] at hE;replace hE:=Hy hE;go_wp2_with fail;go_ret;exact bK (by rw [hE.o]) B5.o
   have q9:decide (0<(t.un.length:Int))=false:=dF (by omega);replace hE:=hE.o;rw [if_neg (fun h=>hp h.2)] at hE;replace hE:=Hy hE;go_wp2_with fail;refine (CU.o _ S0.o T0.o).mono ?_;rintro e w6 ⟨rfl,b6⟩;have B6:=Hy (ak B5.o b6);clear b6 CU;generalize okU t.un=u at *;cases u
   ·replace hE:=hE.o;rw [if_neg (by decide)] at hE;replace hE:=Hy hE;go_wp2_with fail;go_ret;exact bK (by rw [hE.o]) B6.o
   replace hE:=hE.o;rw [if_pos rfl] at hE;replace hE:=Hy hE;go_wp2_with fail;go_ret;exact bK (by rw [hE.o]) B6.o
  replace hE:=hE.o;rw [if_neg (fun h=>by cases h.1)] at hE;replace hE:=Hy hE;go_wp2_with fail;refine (CU.o _ S0.o T0.o).mono ?_;rintro e w7 ⟨rfl,b7⟩;have B7:=Hy (ak B5.o b7);clear b7 CU;generalize okU t.un=u at *;cases u
  ·replace hE:=hE.o;rw [if_neg (by decide)] at hE;replace hE:=Hy hE;go_wp2_with fail;go_ret;exact bK (by rw [hE.o]) B7.o
  replace hE:=hE.o;rw [if_pos rfl] at hE;replace hE:=Hy hE;go_wp2_with fail;go_ret;exact bK (by rw [hE.o]) B7.o
 have q5:(!t.of.toList.isEmpty)=true:=by simp only [eqE,h4,decide_false,Bool.not_false]
 replace hE:=hE.o;rw [if_pos ⟨h3,h4⟩] at hE;replace hE:=Hy hE;clear h4 CN CU CI
 go_enter Tryz.func42,Tryz.ntmps42
 go_wp2_with fail;go_ret;exact bK (by rw [hE.o]) B0.o
def zFe:Array Value:=#[.string ⟨#[]⟩,.string ⟨#[]⟩,.int .i64 0,.slice none 0 0,.string ⟨#[]⟩,.int .i64 0,.string ⟨#[]⟩,.string ⟨#[]⟩,.string ⟨#[]⟩,.int .i64 0,.int .i64 0,.string ⟨#[]⟩,.slice none 0 0,.int .i64 0,.int .i64 0,.int .i64 0,.slice none 0 0,.int .i64 0]
theorem Nw (x:Fi) (cs:Array Value) (s:ByteArray) (g:Nat) (w:World) (hV:FiV w cs x) (hg:w.cell? ⟨g,0,none⟩=some (.string s)) :
    Calls Tryz.prog 151 #[.agg cs,.pointer (some ⟨g,0,none⟩)] w (Bl (decide (x.nm=s)) w):=by
 obtain ⟨ua,uc,rfl,_⟩:=hV;have c0:=dec.keeps (aj (b0 w) (.cells (fiC x ua uc) 88)) hg;have hb:=Hy (un.xC x.nm s);clear hg;unfold fiC at *
 go_enter Tryz.func151,Tryz.ntmps151
 go_wp2_with fail;go_ret;exact aL hb.o (aj (b0 w) _)
theorem Ie (a:Option Addr) (n cap:Nat) (l:List Fi) (s:ByteArray) (g:Nat) (w:World) (hA:Fis w a n cap l) (hg:w.cell? ⟨g,0,none⟩=some (.string s)) :
    Calls Tryz.prog 216 #[.slice a n cap,.func (.func 151) #[] #[.pointer (some ⟨g,0,none⟩)]] w (Num (ixA (fun x=>decide (x.nm=s)) l 0) w):=by
 have A1:=Hy hA;have hG:=Hy hg;obtain ⟨p,hp⟩:∃ p:Fi→Bool,p=fun x=>decide (x.nm=s):=⟨_,rfl⟩;have CC:=Hy (fun (W:World) (hW:Below w.heap.size w W) (x:Fi) (cs:Array Value) (hV:FiV W cs x)=>(show Calls Tryz.prog 151 #[.agg cs,.pointer (some ⟨g,0,none⟩)] W (Bl (p x) W) by rw [hp];exact Nw x cs s g W hV (dec.keeps hW hg)));rw [← hp];have hI:=Hy (show ixA p l 0=ixA p (l.drop 0) 0 by rw [List.drop_zero]);have hn:=hA.hn;subst hn;have hL:=Hy (show l.length≤9223372036854775807 by have:=hA.hcap;have:=hA.hmax;omega);clear hA hg hp
 go_enter Tryz.func216,Tryz.ntmps216
 go_wp2_with fail
 go_loopw [8] (fun vi wr => ∃ (j:Nat),vi=.int .i64 (j:Nat)∧Hid (j≤l.length)∧Hid (ixA p l 0=ixA p (l.drop j) j)∧Hid (Below w.heap.size w wr)) (fun vi _=>l.length - (intOf vi).toNat)
 case atStart=>exact ⟨0,rfl,Hy zl,hI,Hy (b0 w)⟩
 case round =>
  clear hI;obtain ⟨j,rfl,hj,hI,hb⟩:=hrel;by_cases hlt:j<l.length
  ·have q1:decide ((j:Int)<(l.length:Int))=true:=dT (by omega);obtain ⟨bk,off,rfl,hC⟩:=(Rw.keeps (V:=FiV) (fun _ _ _ _ h hb=>h.keeps hb) A1.o hb.o).hat.resolve_left (by omega);obtain ⟨cs,hsz,R1,hV⟩:=hC j hlt;have f4:=Hy (aP (j:=j) (by have:=hL.o;omega));have i1:(j:Int)<(l.length:Int):=by omega
   replace hI:=hI.o.trans (J9 _ hlt);have C:=Hy (CC.o wr hb.o l[j] cs hV);replace R1:=Hy R1;replace hsz:=Hy hsz;clear hC A1 hV CC hG hj;generalize l[j]=x at *;go_wp2_with (first | (refine bS lV dec.uy88 rfl (.tmp 14) rfl rfl bk (off+j * 4) cs rfl R1.o hsz.o ?_));refine C.o.mono ?_;rintro e w1 ⟨rfl,b1⟩;have B1:=Hy (ak hb.o b1);clear b1 C R1 hb;generalize hq:p x=q at *;cases q
   ·rw [if_neg (by decide)] at hI;have hI:=Hy hI;clear hq;go_wp2_with fail;exact ⟨⟨j+1,congrArg (Value.int .i64) f4.o,Hy hlt,hI,B1⟩,aU hlt f4.o⟩
   rw [if_pos rfl] at hI;have hI:=Hy hI;clear hq;go_wp2_with fail;go_ret;exact bK hI.o.symm B1.o
  have q1:decide ((j:Int)<(l.length:Int))=false:=dF (by omega);have hI:=Hy (hI.o.trans (FE _ (by omega)));clear A1 hG CC hj;go_wp2_with fail;go_ret;exact bK hI.o.symm hb.o
theorem yN (a:Option Addr) (n cap:Nat) (l:List Fi) (s:ByteArray) (g:Nat) (w:World) (hA:Fis w a n cap l) (hg:w.cell? ⟨g,0,none⟩=some (.string s)) :
    Calls Tryz.prog 150 #[.slice a n cap,.func (.func 151) #[] #[.pointer (some ⟨g,0,none⟩)]] w (Bl (l.any fun x=>decide (x.nm=s)) w):=by
 have C:=Hy (Ie a n cap l s g w hA hg);have hq:=Hy (yC (fun x:Fi=>decide (x.nm=s)) l 0);clear hA hg;generalize ixA (fun x:Fi=>decide (x.nm=s)) l 0=i at *
 go_enter Tryz.func150,Tryz.ntmps150
 go_wp2_with fail;refine C.o.mono ?_;rintro e w1 ⟨rfl,b1⟩;have B1:=Hy b1;clear b1 C;go_wp2_with fail;go_ret;exact aL hq.o B1.o
theorem bV {w:World} {g:Nat} {T:TypeId} {cs:Array Value} (h:Blk w g T cs) (o:Nat) (l:List Value) (hl:(cs.toList.drop o).take l.length=l):w.rangeAt g o l:=fun i v hv=>by
 rw [h.cell]
 have hi:i<l.length:=(List.getElem?_eq_some_iff.1 hv).1
 rw [← hl,List.getElem?_take_of_lt hi,List.getElem?_drop,Array.getElem?_toList] at hv
 exact hv
structure _root_.Go.Proofs.YtbahfelnbofjjaaGreatDoor.Fi.sz (f:Fi):Prop where
 nm:f.nm.size≤140737488355328
 of:f.ty.of.size≤140737488355328
structure _root_.Go.Proofs.YtbahfelnbofjjaaGreatDoor.Tb.sz (t:Tb):Prop where
 nm:t.nm.size≤140737488355328
 en:t.en.size≤140737488355328
 fs:∀ f ∈ t.fs,f.sz
theorem UA {l:List Fi} {j:Nat} (h:j<l.length):fsE (l.take j) (l.drop j)=if fiE (l.take j) l[j]=0 then fsE (l.take (j+1)) (l.drop (j+1)) else fiE (l.take j) l[j]:=by
 rw [List.drop_eq_getElem_cons h];show (if fiE (l.take j) l[j]=0 then fsE (l.take j++[l[j]]) (l.drop (j+1)) else fiE (l.take j) l[j])=_;rw [List.take_append_getElem]
theorem Rw.cut {α:Type} {sz:Nat} {V:World→Array Value→α→Prop} {w:World} {a:Option Addr} {n cap:Nat} {l:List α} (h:Rw sz V w a n cap l) (j:Nat) (hj:j≤n):Rw sz V w a j cap (l.take j):=by
 have:=h.hn;refine ⟨?_,by rw [List.length_take];omega,by have:=h.hcap;omega,h.hmax,h.hno⟩;rcases h.hat with h0 | ⟨b,off,e,hA⟩
 ·left;rw [List.length_take];omega
 right;refine ⟨b,off,e,fun i hi=>?_⟩;have hi2:i<l.length:=by rw [List.length_take] at hi;omega
 obtain ⟨cs,h1,h2,h3⟩:=hA i hi2;exact ⟨cs,h1,h2,by rw [List.getElem_take];exact h3⟩
theorem yQ (f:Fi) (ua:Option Addr) (uc:Nat) (a:Option Addr) (n cap:Nat) (l:List Fi) (w:World) (hs:f.sz) (hU:un.Sl w ua f.ty.un.length uc f.ty.un) (hA:Fis w a n cap l) (T:Tabs w) :
    Calls Tryz.prog 96 #[.agg (fiC f ua uc),.slice a n cap] w (Num (fiE l f) w):=by
 have bb:=aj (b0 w) (.cells (fiC f ua uc) 88);have B0:=Hy bb;have G:=Hy (Blk.new w 88 (fiC f ua uc));have T0:=Hy (T.stays bb);have S0:=Hy (hU.keeps bb);have A0:=Hy (Fis.keeps hA bb);have CN:=Hy (fun W T=>gI f.nm hs.nm W T);have CC:=Hy (fun W hA hg=>yN a n cap l f.nm w.heap.size W hA hg);have CT:=Hy (fun W S T=>tQ f.ty ua uc W S hs.of T);have hE:fiE l f=fiE l f:=rfl
 conv at hE=>rhs;unfold fiE
 replace hE:=Hy hE;clear hA hU T bb hs;unfold fiC at *;generalize name f.nm=m at *;generalize (l.any fun g=>decide (g.nm=f.nm))=c at *
 go_enter Tryz.func96,Tryz.ntmps96
 go_wp2_with fail;refine (CN.o _ T0.o).mono ?_;rintro e w1 ⟨rfl,b1⟩;have B1:=Hy (ak B0.o b1);replace T0:=Hy (T0.o.stays b1);replace S0:=Hy (S0.o.keeps b1);replace A0:=Hy (A0.o.keeps b1);replace G:=Hy (G.o.keeps b1);have c0:=G.o.cell 0;simp only [sz2,sz3] at c0;clear b1 CN;cases m
 ·replace hE:=Hy (hE.o.trans (if_pos rfl));go_wp2_with fail;go_ret;exact bK (by rw [hE.o]) B1.o
 replace hE:=Hy (hE.o.trans (if_neg (by decide)));go_wp2_with fail;refine (CC.o _ A0.o c0).mono ?_;rintro e w2 ⟨rfl,b2⟩;have B2:=Hy (ak B1.o b2);replace T0:=Hy (T0.o.stays b2);replace S0:=Hy (S0.o.keeps b2);replace A0:=Hy (A0.o.keeps b2);replace G:=Hy (G.o.keeps b2);have d0:=G.o.cell 0;simp only [sz2,sz3] at d0;clear b2 CC;cases c
 ·replace hE:=Hy (hE.o.trans (if_neg (by decide)));have R1:=Hy (bV G.o 1 (tyC f.ty ua uc).toList rfl);go_wp2_with (first | (refine bS dx dec.uy31 rfl (.tmp 14) rfl rfl w.heap.size 1 (tyC f.ty ua uc) rfl R1.o rfl ?_));refine (CT.o _ S0.o T0.o).mono ?_;rintro e w3 ⟨rfl,b3⟩;have B3:=Hy (ak B2.o b3);clear b3 CT;go_wp2_with fail;go_ret;exact bK (by rw [hE.o]) B3.o
 replace hE:=Hy (hE.o.trans (if_pos rfl));go_wp2_with fail;go_ret;exact bK (by rw [hE.o]) B2.o
theorem I4 (t:Tb) (a:Option Addr) (c:Nat) (w:World) (hs:t.sz) (hA:Fis w a t.fs.length c t.fs) (T:Tabs w) :
    Calls Tryz.prog 41 #[.agg (tbC t a c)] w (Num (tbE t) w):=by
 have bb:=aj (b0 w) (.cells (tbC t a c) 48);have B0:=Hy bb;have G:=Hy (Blk.new w 48 (tbC t a c));have T0:=Hy (T.stays bb);have A0:=Hy (Fis.keeps hA bb);have CN:=Hy (fun W T=>gI t.nm hs.nm W T);have CM:=Hy (fun W T=>gI t.en hs.en W T);have HS:=Hy hs.fs;have hE:tbE t=tbE t:=rfl
 conv at hE=>rhs;unfold tbE
 replace hE:=Hy hE;have hL:=Hy (show t.fs.length≤9223372036854775807 by have:=hA.hcap;have:=hA.hmax;omega);clear hA T bb hs;unfold tbC at *;generalize name t.nm=m at *;generalize name t.en=m2 at *
 go_enter Tryz.func41,Tryz.ntmps41
 go_wp2_with fail;refine (CN.o _ T0.o).mono ?_;rintro e w1 ⟨rfl,b1⟩;have B1:=Hy (ak B0.o b1);replace T0:=Hy (T0.o.stays b1);replace A0:=Hy (A0.o.keeps b1);replace G:=Hy (G.o.keeps b1);have c1:=G.o.cell 1;simp only [sz2,sz3,sz4] at c1;clear b1 CN;cases m
 ·replace hE:=Hy (hE.o.trans (if_pos rfl));go_wp2_with fail;go_ret;exact bK (by rw [hE.o]) B1.o
 replace hE:=Hy (hE.o.trans (if_neg (by decide)));go_wp2_with fail;refine (CM.o _ T0.o).mono ?_;rintro e w2 ⟨rfl,b2⟩;have B2:=Hy (ak B1.o b2);replace T0:=Hy (T0.o.stays b2);replace A0:=Hy (A0.o.keeps b2);replace G:=Hy (G.o.keeps b2);have d2:=G.o.cell 2;have d3:=G.o.cell 3;simp only [sz2,sz3,sz4] at d2 d3;clear b2 CM;cases m2
 ·replace hE:=Hy (hE.o.trans (if_pos rfl));go_wp2_with fail;go_ret;exact bK (by rw [hE.o]) B2.o
 replace hE:=Hy (hE.o.trans (if_neg (by decide)));by_cases h1:t.kp<0
 ·have q1:decide (t.kp<0)=true:=dT h1;replace hE:=Hy (hE.o.trans (if_pos h1));go_wp2_with fail;go_ret;exact bK (by rw [hE.o]) B2.o
 have q1:decide (t.kp<0)=false:=dF h1;replace hE:=Hy (hE.o.trans (if_neg h1));by_cases h2:1099511627776<t.kp
 ·have q2:decide (1099511627776<t.kp)=true:=dT h2;replace hE:=Hy (hE.o.trans (if_pos h2));go_wp2_with fail;go_ret;exact bK (by rw [hE.o]) B2.o
 have q2:decide (1099511627776<t.kp)=false:=dF h2;replace hE:=Hy (hE.o.trans (if_neg h2));by_cases h3:8<t.fs.length
 ·have q3:decide (8<(t.fs.length:Int))=true:=dT (by omega);replace hE:=Hy (hE.o.trans (if_pos h3));go_wp2_with fail;go_ret;exact bK (by rw [hE.o]) B2.o
 have q3:decide (8<(t.fs.length:Int))=false:=dF (by omega);replace hE:=Hy (hE.o.trans (if_neg h3));have hI:=Hy (show fsE [] t.fs=fsE (t.fs.take 0) (t.fs.drop 0) by rw [List.take_zero,List.drop_zero]);have B9:=B2;have G9:=G;go_wp2_with fail;clear c1 d2 d3 G B2
 go_loopw [3,34] (fun _ vi wr => ∃ (j:Nat),vi=.int .i64 (j:Nat)∧Hid (j≤t.fs.length)∧Hid (fsE [] t.fs=fsE (t.fs.take j) (t.fs.drop j))∧Hid (Below w.heap.size w wr)∧Hid (Tabs wr)∧Hid (Fis wr a t.fs.length c t.fs)∧Hid (Blk wr w.heap.size 48 #[.string t.nm,.string t.en,.slice a t.fs.length c,.int .i64 t.kp])) (fun _ vi _=>t.fs.length - (intOf vi).toNat)
 case atStart=>exact ⟨0,rfl,Hy zl,hI,B9,T0,A0,G9⟩
 case round =>
  clear hI B9 G9 T0 A0;obtain ⟨j,rfl,hj,hI,hb,T0,A0,G⟩:=hrel;by_cases hlt:j<t.fs.length
  ·have q5:decide ((j:Int)<(t.fs.length:Int))=true:=dT (by omega);obtain ⟨bk,off,rfl,hC⟩:=A0.o.hat.resolve_left (by omega);obtain ⟨cs,hsz,R1,hV⟩:=hC j hlt;obtain ⟨ua,uc,rfl,hU⟩:=hV;have f4:=Hy (aP (j:=j) (by have:=hL.o;omega));have i1:(j:Int)<(t.fs.length:Int):=by omega
   replace hI:=Hy (hI.o.trans (UA hlt));have hfs:=Hy (HS.o _ (List.getElem_mem hlt));replace R1:=Hy R1;replace hU:=Hy hU;clear hC hsz hj h3;have A1:=Hy (Rw.cut A0.o j (Nat.le_of_lt hlt));have hjc:j≤c:=by have:=A0.o.hcap;omega
   have hcm:=Hy A0.o.hmax;generalize t.fs[j]=f at *;go_wp2_with (first | (refine bS lV dec.uy88 rfl (.tmp 37) rfl rfl bk (off+j * 4) (fiC f ua uc) rfl R1.o rfl ?_) | (refine aF lV (.tmp 4) (.tmp 38) rfl rfl _ _ _ _ rfl rfl (Blk.new _ _ _) rfl rfl (by simp [fiC,Value.oneCell']) ?_;intro w5 L5 hs5;have bb5:=(aj (b0 wr) _).trans (hs5.below lr);have G5:=G.o.keeps bb5;have g2:=G5.cell 2;simp only [sz2,sz3,sz4] at g2));have B5:=Hy (ak hb.o bb5);have CF:=Hy (fun W (hW:Below w5.heap.size w5 W)=>yQ f ua uc (some ⟨bk,off,none⟩) j c (t.fs.take j) W hfs.o (hU.o.keeps (ak bb5 hW)) (Fis.keeps A1.o (ak bb5 hW)) (T0.o.stays (ak bb5 hW)));have T5:=Hy (T0.o.stays bb5);have A5:=Hy (Fis.keeps A0.o bb5);clear hs5 g2 T0 A0 R1 hU A1 hfs hcm B0;refine wp_region_held_drew (S:=fun w' => Blk w' wr.heap.size 88 (fiC f ua uc)∧Blk w' w.heap.size 48 #[.string t.nm,.string t.en,.slice (some ⟨bk,off,none⟩) t.fs.length c,.int .i64 t.kp]∧Below w5.heap.size w5 w') (by kernel_rfl) ⟨L5.drew,G5.drew,(b0 w5).drew⟩ (fun hH=>?_);refine bg 0 39 (.agg (fiC f ua uc)) rfl (by kernel_rfl) rfl (fun _ _ _ h=>h) rfl hH (fun w' hS=>aY lV dec.uy88 rfl (.tmp 4) rfl _ _ _ rfl hS.1 rfl) ?_;simp only [sz];refine au 1 40 ?_ hH (fun w' hS=>?_) ?_;rotate_left;(·have e1:=hS.2.1.cell 2;simp only [sz2,sz3,sz4] at e1;go_simp;try rfl);simp only [sz];refine au 2 41 ?_ hH (fun w' hS=>?_) ?_;rotate_left;(·have e1:=hS.2.1.cell 2;simp only [sz2,sz3,sz4] at e1;go_simp;try rfl);simp only [sz];refine au 3 42 ?_ hH (fun w' hS=>?_) ?_;rotate_left;(·go_simp;try rfl);simp only [sz];refine au 4 43 ?_ hH (fun w' hS=>?_) ?_;rotate_left;(·go_simp;try rfl);simp only [sz];refine aA 5 (fun K hK=>?_);go_simp;refine (CF.o _ hH.2.2).mono ?_;rintro e w6 ⟨rfl,b6⟩;refine hK.o _ _ ⟨hH.1.keeps b6,hH.2.1.keeps b6,ak hH.2.2 b6⟩ (fun hH=>?_);clear hK K;refine au 6 2 ?_ hH (fun w' hS=>?_) ?_;rotate_left;(·go_simp;try rfl);simp only [sz];refine wpAnyH_done (by kernel_rfl) ?_ _;have b7:=hH.2.2;have B7:=Hy (ak B5.o b7);have T7:=Hy (T5.o.stays b7);have A7:=Hy (Fis.keeps A5.o b7);have G7:=Hy hH.2.1;clear hH b6 b7 T5 A5 CF G5 L5 bb5 G hb;generalize fiE (t.fs.take j) f=x at *;by_cases hx:x=0
   ·have q6:(x != 0)=false:=by simp [hx]
    replace hI:=Hy (hI.o.trans (if_pos hx));replace hx:=Hy hx;go_wp2_with fail;exact ⟨⟨j+1,congrArg (Value.int .i64) f4.o,Hy hlt,hI,B7,T7,A7,G7⟩,aU hlt f4.o⟩
   have q6:(x != 0)=true:=by simp [hx]
   replace hE:=Hy (hE.o.trans (hI.o.trans (if_neg hx)));replace hx:=Hy hx;go_wp2_with fail;go_ret;exact bK (by rw [hE.o]) B7.o
  have q5:decide ((j:Int)<(t.fs.length:Int))=false:=dF (by omega);replace hE:=Hy (show tbE t=0 by rw [hE.o,hI.o,List.drop_eq_nil_of_le (by omega)];rfl);clear hI hj;go_wp2_with fail;go_ret;exact bK (by rw [hE.o]) hb.o
end ch
namespace ch
open Go.RowKit Go.ChangeMaps dec
def ents (vs:List Value):List MapEntry:=vs.zipIdx.map fun p=>⟨.int .i64 ((p.2+1:Nat):Int),p.1,p.2⟩
theorem nZ (vs:List Value) (v:Value):ents (vs++[v])=ents vs++[⟨.int .i64 ((vs.length+1:Nat):Int),v,vs.length⟩]:=by
 unfold ents;rw [List.zipIdx_append,List.map_append];simp
theorem j3 (c:Int):∀ (l:List MapEntry) (i:Nat),(∀ e ∈ l,∃ d,e.key=.int .i64 d∧d≠c)→Instr.findNow (.int .i64) (.int .i64 c) l i=some none
 | [],_,_=>rfl
 | e :: l,i,h=>by
  obtain ⟨d,hd,hne⟩:=h e (L_e ..)
  have e1:(c==d)=false:=by rw [L_m];exact fun h=>hne h.symm
  unfold Instr.findNow
  rw [hd]
  simp only [Instr.sameNow,if_true,e1]
  exact j3 c l (i+1) (fun x hx=>h x (L_h _ hx))
theorem jZ:∀ (vs:List Value) (o i j:Nat) (v:Value),vs[j]? = some v→Instr.findNow (.int .i64) (.int .i64 ((o+j+1:Nat):Int)) ((vs.zipIdx o).map fun p=>⟨.int .i64 ((p.2+1:Nat):Int),p.1,p.2⟩) i=some (some (i+j,v))
 | [],_,_,_,_,h=>by cases h
 | x :: vs,o,i,0,v,h=>by
  obtain rfl:x=v:=by simpa using h
  rw [List.zipIdx_cons,L_p]
  unfold Instr.findNow
  simp [Instr.sameNow]
 | x :: vs,o,i,j+1,v,h=>by
  have e1:(((o+(j+1)+1:Nat):Int)==((o+1:Nat):Int))=false:=by rw [L_m];omega
  rw [List.zipIdx_cons,L_p]
  unfold Instr.findNow
  simp only [Instr.sameNow,if_true,e1]
  have:=jZ vs (o+1) (i+1) j v (by simpa using h)
  rw [show o+1+j+1=o+(j+1)+1 by omega,show i+1+j=i+(j+1) by omega] at this
  exact this
theorem qj (vs:List Value):∀ e ∈ ents vs,∃ j:Nat,j<vs.length∧e.key=.int .i64 ((j+1:Nat):Int):=by
 intro e he;simp only [ents,List.mem_map] at he;obtain ⟨⟨v,j⟩,hj,rfl⟩:=he;have:=List.mem_zipIdx hj;exact ⟨j,by omega,rfl⟩
def Mp (w:World) (b:Nat) (vs:List Value):Prop:=w.heap[b]? = some (.map (ents vs).toArray vs.length)
theorem Mp.made (w:World):Mp (w.alloc (.map #[] 0)) w.heap.size []:=(MapKept.heap_alloc w _).1
theorem Mp.lt {w:World} {b:Nat} {vs:List Value} (h:Mp w b vs):b<w.heap.size:=(Array.getElem?_eq_some_iff.1 h).1
theorem Mp.below {S:Nat} {w w':World} {b:Nat} {vs:List Value} (h:Mp w b vs) (M:Below S w w') (hS:b<S):Mp w' b vs:=(M.block b hS).trans h
theorem Mp.keeps {w w':World} {b:Nat} {vs:List Value} (h:Mp w b vs) (M:Below w.heap.size w w'):Mp w' b vs:=h.below M h.lt
theorem xS {M F:TypeId} (hM:Tryz.prog.underlying M=some (.map 3 F)) {w:World} {b:Nat} {vs:List Value} (h:Mp w b vs) (c:Int) (hc:c=((vs.length+1:Nat):Int)) (v:Value) :
    ∃ w',(Instr.mapUpdate M (.map (some b)) (.int .i64 c) v).run Tryz.prog w=.ok () w'∧Mp w' b (vs++[v])∧St b w w':=by
 have hn:Instr.findNow (.int .i64) (.int .i64 c) (ents vs) 0=some none:=j3 _ _ _ fun e he=>by
  obtain ⟨j,hj,hk⟩:=qj vs e he;exact ⟨_,hk,by omega⟩
 refine ⟨setBlock w b (.map ((ents vs).toArray.push ⟨.int .i64 c,v,vs.length⟩) (vs.length+1)),?_,?_,⟨rfl,rfl,rfl,by simp [setBlock],fun i hi=>heap_setBlock_other h _ (by omega)⟩⟩
 ·have hch:=MapKept.run_checkKey (P:=Tryz.prog) (w:=w) (k:=.int .i64 c) dec.uy3 (show MapKept.IsKey (.int .i64) (.int .i64 c) from rfl) false 9999;simp [Instr.mapUpdate,Instr.findKey,run_underlying hM,run_underlying dec.uy3,MapKept.run_getObj_map h,hch,hn,MapKept.run_setObj_map _ h,Result.andThen,setBlock]
 unfold Mp;rw [heap_setBlock_same h,nZ,hc];simp
theorem dY {M F:TypeId} (hM:Tryz.prog.underlying M=some (.map 3 F)) {w:World} {b:Nat} {vs:List Value} (h:Mp w b vs) (c:Int) (j:Nat) (hc:c=((j+1:Nat):Int)) (v:Value) (hv:vs[j]? = some v) :
    (Instr.lookup M (.map (some b)) (.int .i64 c) false).run Tryz.prog w=.ok v w:=by
 have hf:=jZ vs 0 0 j v hv;rw [Nat.zero_add] at hf;rw [← hc] at hf;replace hf:Instr.findNow (.int .i64) (.int .i64 c) (ents vs) 0=some (some (j,v)):=hf;have hch:=MapKept.run_checkKey (P:=Tryz.prog) (w:=w) (k:=.int .i64 c) dec.uy3 (show MapKept.IsKey (.int .i64) (.int .i64 c) from rfl) (ents vs).isEmpty 9999;simp [Instr.lookup,Instr.findKey,run_underlying hM,run_underlying dec.uy3,MapKept.run_getObj_map h,hch,hf,Result.andThen]
theorem vP {M F:TypeId} (hM:Tryz.prog.underlying M=some (.map 3 F)) {w:World} {b:Nat} {vs:List Value} (h:Mp w b vs) (c:Int) (j:Nat) (hc:c=((j+1:Nat):Int)) (v:Value) (hv:vs[j]? = some v) :
    (Instr.lookup M (.map (some b)) (.int .i64 c) true).run Tryz.prog w=.ok (.tuple #[v,.bool true]) w:=by
 have hf:=jZ vs 0 0 j v hv;rw [Nat.zero_add] at hf;rw [← hc] at hf;replace hf:Instr.findNow (.int .i64) (.int .i64 c) (ents vs) 0=some (some (j,v)):=hf;have hch:=MapKept.run_checkKey (P:=Tryz.prog) (w:=w) (k:=.int .i64 c) dec.uy3 (show MapKept.IsKey (.int .i64) (.int .i64 c) from rfl) (ents vs).isEmpty 9999;simp [Instr.lookup,Instr.findKey,run_underlying hM,run_underlying dec.uy3,MapKept.run_getObj_map h,hch,hf,Result.andThen]
theorem GJ {M F:TypeId} (hM:Tryz.prog.underlying M=some (.map 3 F)) {w:World} {b:Nat} {vs:List Value} (h:Mp w b vs) (hz:∀ w,(zeroValue F).run Tryz.prog w=.ok .nilFunc w) (c:Int) (hc:¬ (1≤c∧c≤(vs.length:Nat))) :
    (Instr.lookup M (.map (some b)) (.int .i64 c) true).run Tryz.prog w=.ok (.tuple #[.nilFunc,.bool false]) w:=by
 have hn:Instr.findNow (.int .i64) (.int .i64 c) (ents vs) 0=some none:=j3 _ _ _ fun e he=>by
  obtain ⟨j,hj,hk⟩:=qj vs e he;exact ⟨_,hk,by omega⟩
 have hch:=MapKept.run_checkKey (P:=Tryz.prog) (w:=w) (k:=.int .i64 c) dec.uy3 (show MapKept.IsKey (.int .i64) (.int .i64 c) from rfl) (ents vs).isEmpty 9999;simp [Instr.lookup,Instr.findKey,run_underlying hM,run_underlying dec.uy3,MapKept.run_getObj_map h,hch,hn,hz,Result.andThen]
theorem aC {M F:TypeId} (hM:Tryz.prog.underlying M=some (.map 3 F)) (w:World) {ops:Array Oper} {rest:List Oper} {o:Oper} {a:Act} {Q:Exit→Act→World→Prop}
    (hg:o.guard=none) (m x v:Operand) (hop:o.op=Op.insert M m x v) (b:Nat) (vs:List Value) (hm:a.eval m=.map (some b)) (hown:Mp w b vs)
    (c:Int) (hx:a.eval x=.int .i64 c) (hc:c=((vs.length+1:Nat):Int)) (val:Value) (hv:a.eval v=val)
    (hK:∀ w',Mp w' b (vs++[val])→St b w w'→wpList Tryz.prog ops Q rest (a.put o.dst undef) w') :
    wpList Tryz.prog ops Q (o :: rest) a w:=by
 refine wpList_plain hg fun K' hK' => ?_;obtain ⟨w',hrun,r1,r2⟩:=xS hM hown c hc val;unfold Oper.wp;simp [execOp,hop,hm,hx,hv,hrun,Result.andThen];exact hK' _ _ (hK w' r1 r2)
theorem iQ:Tryz.prog.underlying 181=some (.map 3 71):=by kernel_rfl
theorem RB (w:World):(zeroValue 71).run Tryz.prog w=.ok .nilFunc w:=by kernel_rfl
def ruF (f:FuncId) (p:Int):Value:=.func (.func f) #[.int .i64 p] #[]
def ruL (p:Int):List Value:=[ruF 207 p,ruF 208 p,ruF 209 p,ruF 210 p,ruF 211 p,ruF 212 p,ruF 213 p,ruF 214 p,ruF 215 p]
theorem za (p:Int) (w:World):Calls Tryz.prog 149 #[.int .i64 p] w fun e w' => ∃ b,e=.returned (.map (some b))∧w.heap.size≤b∧Mp w' b (ruL p)∧Below w.heap.size w w':=by
 have hmm:=@run_makeMap Tryz.prog;have hmf:∀ (fn:Fn) (first cap:Array Value) (w:World),(Instr.makeFunc fn first cap).run Tryz.prog w=.ok (.func fn first cap) w:=fun _ _ _ _=>rfl
 go_enter Tryz.func149,Tryz.ntmps149
 go_wp2_with (first | (refine aC iQ _ rfl (.tmp 3) (.const _) (.tmp 5) rfl w.heap.size [] rfl (Mp.made w) 1 rfl rfl (ruF 207 p) rfl ?_;intro w1 M1 S1) | (refine aC iQ _ rfl (.tmp 3) (.const _) (.tmp 7) rfl w.heap.size ((ruL p).take 1) rfl M1 2 rfl rfl (ruF 208 p) rfl ?_;intro w2 M2 S2) | (refine aC iQ _ rfl (.tmp 3) (.const _) (.tmp 9) rfl w.heap.size ((ruL p).take 2) rfl M2 3 rfl rfl (ruF 209 p) rfl ?_;intro w3 M3 S3) | (refine aC iQ _ rfl (.tmp 3) (.const _) (.tmp 11) rfl w.heap.size ((ruL p).take 3) rfl M3 4 rfl rfl (ruF 210 p) rfl ?_;intro w4 M4 S4) | (refine aC iQ _ rfl (.tmp 3) (.const _) (.tmp 13) rfl w.heap.size ((ruL p).take 4) rfl M4 5 rfl rfl (ruF 211 p) rfl ?_;intro w5 M5 S5) | (refine aC iQ _ rfl (.tmp 3) (.const _) (.tmp 15) rfl w.heap.size ((ruL p).take 5) rfl M5 6 rfl rfl (ruF 212 p) rfl ?_;intro w6 M6 S6) | (refine aC iQ _ rfl (.tmp 3) (.const _) (.tmp 17) rfl w.heap.size ((ruL p).take 6) rfl M6 7 rfl rfl (ruF 213 p) rfl ?_;intro w7 M7 S7) | (refine aC iQ _ rfl (.tmp 3) (.const _) (.tmp 19) rfl w.heap.size ((ruL p).take 7) rfl M7 8 rfl rfl (ruF 214 p) rfl ?_;intro w8 M8 S8) | (refine aC iQ _ rfl (.tmp 3) (.const _) (.tmp 21) rfl w.heap.size ((ruL p).take 8) rfl M8 9 rfl rfl (ruF 215 p) rfl ?_;intro w9 M9 S9));go_ret;refine ⟨_,rfl,Nat.le_refl _,M9,?_⟩;exact ((((((((((aj (b0 w) _).trans (S1.below lr)).trans (S2.below lr)).trans (S3.below lr)).trans (S4.below lr)).trans (S5.below lr)).trans (S6.below lr)).trans (S7.below lr)).trans (S8.below lr)).trans (S9.below lr))
end ch
end Go.Proofs.YtbahfelnbofjjaaGreatDoor
