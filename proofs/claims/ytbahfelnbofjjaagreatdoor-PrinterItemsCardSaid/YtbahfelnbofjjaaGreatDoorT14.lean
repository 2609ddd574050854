/-
  What example builds and asks: names, operations, prints; The expressions and tables of example, and what their texts are; Parts of example; example: the chapter's examples; Expressions, types, tables, features and catalogs that came in.
-/
import Derived.Lib.SmallJoins
import Derived.Deep.Slices
import Derived.SizedLaws
import Derived.ChangeMaps5
import Derived.Test.YtbahfelnbofjjaaGreatDoorT13
import Derived.Test.YtbahfelnbofjjaaGreatDoorRows
set_option maxRecDepth 100000
set_option maxHeartbeats 16000000
namespace Go.Proofs.YtbahfelnbofjjaaGreatDoor.ch
open Go.RowKit dec
def ExR (x : Ex) (w : World) (e : Ending) (w' : World) : Prop := ∃ cs, e = .returned (.agg cs) ∧ ExV w' cs x ∧ Below w.heap.size w w'
theorem ret_X {fn : Func} {R : Ending → World → Prop} {p : Tmp} (h : fn.results = #[.cell p 29]) (tmps : Array Value) (w : World) (g : Nat) (T' : TypeId) (cells : Array Value) (hp : tmps.getD p undef = .pointer (some ⟨g, 0, none⟩))
  (hB : Blk w g T' cells) (hc : cells.size = 12) (hR : R (.returned (.agg cells)) w) : bodyPost Tryz.prog fn R .ret ⟨tmps, []⟩ w := ret_T infX Tryz.underlying29 rfl h tmps w g T' cells hp hB hc hR
def feaX (n : ByteArray) : Ex := ⟨{ h0 with k := 3, nm := n }, .nil⟩
def binX (op : ByteArray) (x y : Ex) : Ex := ⟨{ h0 with k := 7, op := op }, .cons x.h x.ar (.cons y.h y.ar .nil)⟩
def fldX (n : ByteArray) : Ex := ⟨{ h0 with k := 2, nm := n }, .nil⟩
def oneX (op : ByteArray) (x : Ex) : Ex := ⟨{ h0 with k := 6, op := op }, .cons x.h x.ar .nil⟩
def truX : Ex := ⟨{ h0 with k := 1, vk := 1, vn := 1 }, .nil⟩
def eurU (k : Int) : List un.Fa := [(⟨#[101, 117, 114]⟩, k)]
theorem exV_flat (w : World) (h : Hd) (hu : h.un = []) : ExV w (exC h 0 none 0 none 0) ⟨h, .nil⟩ := ⟨none, 0, none, 0, by simp [exC, hu, Fo.len], by rw [hu]; exact .nil _, Fs.nil _⟩
theorem rng_at {w : World} {g : Nat} {T : TypeId} {cs : Array Value} {L : List Value} (h : Blk w g T cs) (hc : cs.toList = L) (o : Nat) (l : List Value) (hl : (L.drop o).take l.length = l) : w.rangeAt g o l := blk_range h o l (by rw [hc]; exact hl)
theorem fs_two {w : World} {g : Nat} {T : TypeId} {cs : Array Value} {x y : Ex} {ua aa ub ab : Option Addr} {uc ac ud ad : Nat} (hx : Ec w x ua uc aa ac) (hy : Ec w y ub ud ab ad) (hB : Blk w g T cs) (hc : cs.toList = (exC x.h x.ar.len ua uc aa ac).toList ++ (exC y.h y.ar.len ub ud ab ad).toList) :
  Fs w (some ⟨g, 0, none⟩) 2 2 (.cons x.h x.ar (.cons y.h y.ar .nil)) := by
 have h1 : w.rangeAt g 0 (exC x.h x.ar.len ua uc aa ac).toList := rng_at hB hc 0 _ (by rw [List.drop_zero]; exact List.take_left)
 have h2 : w.rangeAt g (0 + 12) (exC y.h y.ar.len ub ud ab ad).toList := rng_at hB hc 12 _ (by rw [show (12 : Nat) = (exC x.h x.ar.len ua uc aa ac).toList.length from rfl, List.drop_left, List.take_length])
 refine ⟨.inr ⟨g, 0, rfl, ?_⟩, rfl, Nat.le_refl _, by decide, fun e => by cases e⟩
 unfold FoV
 refine ⟨⟨ua, uc, aa, ac, h1, hx.us, ⟨hx.ar.hcap, hx.ar.hmax, hx.ar.hno⟩, hx.ar.hat⟩, ?_⟩
 unfold FoV
 refine ⟨⟨ub, ud, ab, ad, h2, hy.us, ⟨hy.ar.hcap, hy.ar.hmax, hy.ar.hno⟩, hy.ar.hat⟩, ?_⟩
 unfold FoV
 trivial
theorem fs_one {w : World} {g : Nat} {T : TypeId} {cs : Array Value} {x : Ex} {ua aa : Option Addr} {uc ac : Nat} (hx : Ec w x ua uc aa ac) (hB : Blk w g T cs) (hc : cs.toList = (exC x.h x.ar.len ua uc aa ac).toList) :
  Fs w (some ⟨g, 0, none⟩) 1 1 (.cons x.h x.ar .nil) := by
 have h1 : w.rangeAt g 0 (exC x.h x.ar.len ua uc aa ac).toList := rng_at hB hc 0 _ (by rw [List.drop_zero]; exact List.take_length)
 refine ⟨.inr ⟨g, 0, rfl, ?_⟩, rfl, Nat.le_refl _, by decide, fun e => by cases e⟩
 unfold FoV
 refine ⟨⟨ua, uc, aa, ac, h1, hx.us, ⟨hx.ar.hcap, hx.ar.hmax, hx.ar.hno⟩, hx.ar.hat⟩, ?_⟩
 unfold FoV
 trivial
theorem fs_three {w : World} {g : Nat} {T : TypeId} {cs : Array Value} {x y z : Ex} {ua aa ub ab ue ae : Option Addr} {uc ac ud ad uf af : Nat} (hx : Ec w x ua uc aa ac) (hy : Ec w y ub ud ab ad) (hz : Ec w z ue uf ae af) (hB : Blk w g T cs) (hc : cs.toList = (exC x.h x.ar.len ua uc aa ac).toList ++ ((exC y.h y.ar.len ub ud ab ad).toList ++ (exC z.h z.ar.len ue uf ae af).toList)) :
  Fs w (some ⟨g, 0, none⟩) 3 3 (.cons x.h x.ar (.cons y.h y.ar (.cons z.h z.ar .nil))) := by
 have h1 : w.rangeAt g 0 (exC x.h x.ar.len ua uc aa ac).toList := rng_at hB hc 0 _ (by rw [List.drop_zero]; exact List.take_left)
 have h2 : w.rangeAt g (0 + 12) (exC y.h y.ar.len ub ud ab ad).toList := rng_at hB hc 12 _ (by rw [show (12 : Nat) = (exC x.h x.ar.len ua uc aa ac).toList.length from rfl, List.drop_left]; exact List.take_left)
 have h3 : w.rangeAt g (0 + 12 + 12) (exC z.h z.ar.len ue uf ae af).toList := rng_at hB hc 24 _ (by rw [← List.append_assoc, show (24 : Nat) = ((exC x.h x.ar.len ua uc aa ac).toList ++ (exC y.h y.ar.len ub ud ab ad).toList).length from rfl, List.drop_left, List.take_length])
 refine ⟨.inr ⟨g, 0, rfl, ?_⟩, rfl, Nat.le_refl _, by decide, fun e => by cases e⟩
 unfold FoV
 refine ⟨⟨ua, uc, aa, ac, h1, hx.us, ⟨hx.ar.hcap, hx.ar.hmax, hx.ar.hno⟩, hx.ar.hat⟩, ?_⟩
 unfold FoV
 refine ⟨⟨ub, ud, ab, ad, h2, hy.us, ⟨hy.ar.hcap, hy.ar.hmax, hy.ar.hno⟩, hy.ar.hat⟩, ?_⟩
 unfold FoV
 refine ⟨⟨ue, uf, ae, af, h3, hz.us, ⟨hz.ar.hcap, hz.ar.hmax, hz.ar.hno⟩, hz.ar.hat⟩, ?_⟩
 unfold FoV
 trivial
theorem sl_one {w : World} {g : Nat} {T : TypeId} {n : ByteArray} {k : Int} (hB : Blk w g T #[.string n, .int .i64 k]) : un.Sl w (some ⟨g, 0, none⟩) 1 1 [(n, k)] :=
 ⟨.inr ⟨g, 0, rfl, fun j hj => by
  have : j = 0 := by simpa using hj
  subst this
  exact ⟨hB.cell 0, hB.cell 1⟩⟩, rfl, Nat.le_refl _, by decide, fun e => by cases e⟩
theorem rw_two {α : Type} {sz : Nat} {V : World → Array Value → α → Prop} {w : World} {g : Nat} {T : TypeId} {cs c1 c2 : Array Value} {x y : α} (hB : Blk w g T cs) (hc : cs.toList = c1.toList ++ c2.toList) (h1 : c1.size = sz) (h2 : c2.size = sz) (V1 : V w c1 x) (V2 : V w c2 y) : Rw sz V w (some ⟨g, 0, none⟩) 2 2 [x, y] :=
 ⟨.inr ⟨g, 0, rfl, fun j hj => by
  have hl : c1.toList.length = sz := by rw [Array.length_toList, h1]
  have hj2 : j < 2 := hj
  rcases Nat.lt_or_ge j 1 with h | h
  ·obtain rfl : j = 0 := by omega
   exact ⟨c1, h1, by rw [Nat.zero_mul]; exact rng_at hB hc 0 _ (by rw [List.drop_zero]; exact List.take_left), V1⟩
  ·obtain rfl : j = 1 := by omega
   exact ⟨c2, h2, by rw [Nat.one_mul, Nat.zero_add]; exact rng_at hB hc sz _ (by rw [← hl, List.drop_left, List.take_length]), V2⟩⟩, rfl, Nat.le_refl _, by decide, fun e => by cases e⟩
theorem bw_new (w : World) (T : TypeId) (cs : Array Value) (g : Nat) (h : g = w.heap.size) : Blk (w.alloc (.cells cs T)) g T cs := h ▸ Blk.new w T cs
theorem sz_al (w : World) (o : Obj) : (w.alloc o).heap.size = w.heap.size + 1 := by simp
theorem name_x (n : ByteArray) (w : World) : Calls Tryz.prog 44 #[.string n] w (ExR (feaX n) w) := by
 go_enter Tryz.func44, Tryz.ntmps44
 go_wp2_with fail
 exact ret_X Tryz.results44 _ _ _ _ (exC (feaX n).h 0 none 0 none 0) rfl (Blk.new _ _ _) rfl ⟨_, rfl, exV_flat _ _ rfl, balloc (b0 w) _⟩
theorem field_x (n : ByteArray) (w : World) : Calls Tryz.prog 49 #[.string n] w (ExR (fldX n) w) := by
 go_enter Tryz.func49, Tryz.ntmps49
 go_wp2_with fail
 exact ret_X Tryz.results49 _ _ _ _ (exC (fldX n).h 0 none 0 none 0) rfl (Blk.new _ _ _) rfl ⟨_, rfl, exV_flat _ _ rfl, balloc (b0 w) _⟩
theorem true_x (w : World) : Calls Tryz.prog 48 #[] w (ExR truX w) := by
 go_enter Tryz.func48, Tryz.ntmps48
 go_wp2_with fail
 exact ret_X Tryz.results48 _ _ _ _ (exC truX.h 0 none 0 none 0) rfl (Blk.new _ _ _) rfl ⟨_, rfl, exV_flat _ _ rfl, balloc (b0 w) _⟩
theorem two_x (op : ByteArray) (x y : Ex) (cs ds : Array Value) (w : World) (hx : ExV w cs x) (hy : ExV w ds y) : Calls Tryz.prog 46 #[.string op, .agg cs, .agg ds] w (ExR (binX op x y) w) := by
 obtain ⟨ua, uc, aa, ac, rfl, E1⟩ := hx
 obtain ⟨ub, ud, ab, ad, rfl, E2⟩ := hy
 have HE1 := Lib.hid E1
 have HE2 := Lib.hid E2
 clear E1 E2
 unfold exC
 go_enter Tryz.func46, Tryz.ntmps46
 go_wp2_with fail
 have X1 := HE1.out
 have X2 := HE2.out
 have hb := balloc (balloc (balloc (balloc (b0 w) (.cells (exC x.h x.ar.len ua uc aa ac) 29)) (.cells (exC y.h y.ar.len ub ud ab ad) 29)) (.cells (exC (binX op x y).h 2 none 0 (some ⟨w.heap.size + 1 + 1 + 1, 0, none⟩) 2) 29)) (.cells ((exC x.h x.ar.len ua uc aa ac) ++ (exC y.h y.ar.len ub ud ab ad)) 29)
 refine ret_X Tryz.results46 _ _ (w.heap.size + 1 + 1) _ (exC (binX op x y).h 2 none 0 (some ⟨w.heap.size + 1 + 1 + 1, 0, none⟩) 2) rfl ((bw_new _ _ _ _ (by rw [sz_al, sz_al])).past _) rfl ⟨_, rfl, ⟨none, 0, some ⟨w.heap.size + 1 + 1 + 1, 0, none⟩, 2, rfl, .nil _, ?_⟩, hb⟩
 exact fs_two (X1.keeps hb) (X2.keeps hb) (bw_new _ _ _ _ (by rw [sz_al, sz_al, sz_al])) rfl
theorem one_x (op : ByteArray) (x : Ex) (cs : Array Value) (w : World) (hx : ExV w cs x) : Calls Tryz.prog 47 #[.string op, .agg cs] w (ExR (oneX op x) w) := by
 obtain ⟨ua, uc, aa, ac, rfl, E1⟩ := hx
 have HE1 := Lib.hid E1
 clear E1
 unfold exC
 go_enter Tryz.func47, Tryz.ntmps47
 go_wp2_with fail
 have X1 := HE1.out
 have hb := balloc (balloc (balloc (b0 w) (.cells (exC x.h x.ar.len ua uc aa ac) 29)) (.cells (exC (oneX op x).h 1 none 0 (some ⟨w.heap.size + 1 + 1, 0, none⟩) 1) 29)) (.cells (exC x.h x.ar.len ua uc aa ac) 29)
 refine ret_X Tryz.results47 _ _ (w.heap.size + 1) _ (exC (oneX op x).h 1 none 0 (some ⟨w.heap.size + 1 + 1, 0, none⟩) 1) rfl ((bw_new _ _ _ _ (by rw [sz_al])).past _) rfl ⟨_, rfl, ⟨none, 0, some ⟨w.heap.size + 1 + 1, 0, none⟩, 1, rfl, .nil _, ?_⟩, hb⟩
 exact fs_one (X1.keeps hb) (bw_new _ _ _ _ (by rw [sz_al, sz_al])) rfl
theorem prints_x (x : Ex) (t : ByteArray) (cs : Array Value) (w : World) (hE : ExV w cs x) (hs : x.szs) (hz : x.ar.sz ≤ 3000) (h0 : shE x = 0) (ht : B8 (txE x) = t) (T : Tabq w) : Calls Tryz.prog 45 #[.agg cs, .string t] w (Bl true w) := by
 obtain ⟨ua, uc, aa, ac, rfl, E1⟩ := hE
 have bb := balloc (b0 w) (.cells (exC x.h x.ar.len ua uc aa ac) 29)
 have BB := Lib.hid bb
 have G := Lib.hid (Blk.new w 29 (exC x.h x.ar.len ua uc aa ac))
 have C := pexpr_any x ua aa uc ac _ hs hz (E1.keeps bb) (T.stays bb)
 rw [h0, txO, if_pos rfl, ht] at C
 replace C := Lib.hid C
 clear bb E1 T ht
 unfold exC at *
 go_enter Tryz.func45, Tryz.ntmps45
 go_wp2_with (refine arm_loadT infX Tryz.underlying29 rfl (.tmp 2) rfl rfl _ _ _ rfl G.out rfl ?_)
 refine C.out.mono ?_
 rintro e w1 ⟨rfl, b1⟩
 have B1 := Lib.hid (bnext BB.out b1)
 clear b1 C
 go_wp2_with fail
 go_ret
 exact ⟨rfl, B1.out⟩
end Go.Proofs.YtbahfelnbofjjaaGreatDoor.ch
namespace Go.Proofs.YtbahfelnbofjjaaGreatDoor.ch
open Go.RowKit dec
def coiX : Ex := ⟨{ h0 with k := 1, vk := 2, vn := 2, un := eurU 1 }, .nil⟩
def choX : Ex := ⟨{ h0 with k := 8 }, .cons (feaX ⟨#[97]⟩).h .nil (.cons (feaX ⟨#[98]⟩).h .nil (.cons (feaX ⟨#[99]⟩).h .nil .nil))⟩
def zerX : Ex := ⟨{ h0 with k := 1, vk := 2 }, .nil⟩
def keyX : Ex := ⟨{ h0 with k := 1, nm := ⟨#[115, 104, 111, 112]⟩, vk := 5, vs := ⟨#[115, 49]⟩ }, .nil⟩
def dflX : Ex := ⟨{ h0 with k := 9 }, .cons choX.h choX.ar (.cons zerX.h .nil .nil)⟩
def lokX : Ex := ⟨{ h0 with k := 4, nm := ⟨#[114, 97, 110, 107]⟩ }, .cons keyX.h .nil .nil⟩
def cntX : Ex := ⟨{ h0 with k := 5, op := ⟨#[99, 111, 117, 110, 116]⟩, tb := ⟨#[99, 108, 105, 99, 107, 115]⟩, wk := 1 }, .cons truX.h .nil (.cons truX.h .nil .nil)⟩
def quaX : Ex := ⟨{ h0 with k := 5, op := ⟨#[113, 117, 97, 110, 116, 105, 108, 101]⟩, tb := ⟨#[99, 97, 108, 108, 115]⟩, pa := 950, wk := 2, ws := 60 }, .cons (fldX ⟨#[109, 115]⟩).h .nil (.cons (fldX ⟨#[111, 107]⟩).h .nil .nil)⟩
def t1X : Tb := ⟨⟨#[116]⟩, ⟨#[117, 115, 101, 114]⟩, [⟨⟨#[120]⟩, ⟨3, eurU 1, .empty⟩⟩, ⟨⟨#[121]⟩, ⟨1, [], .empty⟩⟩], 9⟩
def t2X : Tb := ⟨⟨#[116]⟩, ⟨#[117, 115, 101, 114]⟩, [], 0⟩
def p1X : Ex := binX ⟨#[43]⟩ (feaX ⟨#[97]⟩) (binX ⟨#[42]⟩ (feaX ⟨#[98]⟩) coiX)
def p2X : Ex := binX ⟨#[42]⟩ (binX ⟨#[43]⟩ (feaX ⟨#[97]⟩) (feaX ⟨#[98]⟩)) (feaX ⟨#[99]⟩)
def p3X : Ex := oneX ⟨#[45]⟩ (oneX ⟨#[45]⟩ (feaX ⟨#[97]⟩))
def p4X : Ex := binX ⟨#[45]⟩ (feaX ⟨#[97]⟩) (binX ⟨#[45]⟩ (feaX ⟨#[98]⟩) (feaX ⟨#[99]⟩))
def p5X : Ex := oneX ⟨#[110, 111, 116]⟩ (binX ⟨#[61, 61]⟩ (feaX ⟨#[97]⟩) (feaX ⟨#[98]⟩))
theorem e1 : shE p1X = 0 := by kernel_rfl
theorem e2 : shE p2X = 0 := by kernel_rfl
theorem e3 : shE p3X = 0 := by kernel_rfl
theorem e4 : shE p4X = 0 := by kernel_rfl
theorem e5 : shE p5X = 0 := by kernel_rfl
theorem e6 : shE dflX = 0 := by kernel_rfl
theorem e7 : shE lokX = 0 := by kernel_rfl
theorem e8 : shE cntX = 0 := by kernel_rfl
theorem e9 : shE quaX = 0 := by kernel_rfl
theorem e10 : tbE t1X = 0 := by kernel_rfl
theorem e11 : tbE t2X = 0 := by kernel_rfl
theorem e12 : shE (fldX ⟨#[120]⟩) = 3 := by kernel_rfl
theorem x1 : B8 (txE p1X) = ⟨#[97, 32, 43, 32, 98, 32, 42, 32, 50, 32, 91, 101, 117, 114, 93]⟩ := by kernel_rfl
theorem x2 : B8 (txE p2X) = ⟨#[40, 97, 32, 43, 32, 98, 41, 32, 42, 32, 99]⟩ := by kernel_rfl
theorem x3 : B8 (txE p3X) = ⟨#[45, 45, 97]⟩ := by kernel_rfl
theorem x4 : B8 (txE p4X) = ⟨#[97, 32, 45, 32, 40, 98, 32, 45, 32, 99, 41]⟩ := by kernel_rfl
theorem x5 : B8 (txE p5X) = ⟨#[110, 111, 116, 32, 97, 32, 61, 61, 32, 98]⟩ := by kernel_rfl
theorem x6 : B8 (txE dflX) = ⟨#[40, 105, 102, 32, 97, 32, 116, 104, 101, 110, 32, 98, 32, 101, 108, 115, 101, 32, 99, 41, 32, 100, 101, 102, 97, 117, 108, 116, 32, 48]⟩ := by kernel_rfl
theorem x7 : B8 (txE lokX) = ⟨#[114, 97, 110, 107, 32, 111, 102, 32, 40, 64, 115, 104, 111, 112, 32, 34, 115, 49, 34, 41]⟩ := by kernel_rfl
theorem x8 : B8 (txE cntX) = ⟨#[99, 111, 117, 110, 116, 40, 99, 108, 105, 99, 107, 115, 44, 32, 97, 108, 108, 41]⟩ := by kernel_rfl
theorem x9 : B8 (txE quaX) = ⟨#[113, 117, 97, 110, 116, 105, 108, 101, 40, 99, 97, 108, 108, 115, 44, 32, 109, 115, 44, 32, 57, 53, 48, 44, 32, 115, 108, 105, 100, 105, 110, 103, 32, 54, 48, 32, 119, 104, 101, 114, 101, 32, 111, 107, 41]⟩ := by kernel_rfl
theorem x10 : B8 (tbT t1X) = ⟨#[116, 97, 98, 108, 101, 32, 116, 32, 111, 102, 32, 117, 115, 101, 114, 32, 123, 32, 120, 58, 32, 100, 101, 99, 32, 91, 101, 117, 114, 93, 44, 32, 121, 58, 32, 98, 111, 111, 108, 32, 125, 32, 107, 101, 101, 112, 32, 57, 59]⟩ := by kernel_rfl
theorem x11 : B8 (tbT t2X) = ⟨#[116, 97, 98, 108, 101, 32, 116, 32, 111, 102, 32, 117, 115, 101, 114, 32, 123, 32, 125, 59]⟩ := by kernel_rfl
def hdB (h : Hd) : Bool := decide (h.op.size ≤ 140737488355328) && decide (h.nm.size ≤ 140737488355328) && decide (h.tb.size ≤ 140737488355328) && decide (h.vs.size ≤ 140737488355328)
def foB : Fo → Bool
 | .nil => true
 | .cons h ar r => hdB h && (foB ar && foB r)
def exB (x : Ex) : Bool := hdB x.h && foB x.ar
theorem hdB_of {h : Hd} (e : hdB h = true) : h.sz := by
 unfold hdB at e
 simp only [Bool.and_eq_true, decide_eq_true_eq] at e
 exact ⟨e.1.1.1, e.1.1.2, e.1.2, e.2⟩
theorem foB_of : ∀ (F : Fo), foB F = true → F.szs
 | .nil, _ => trivial
 | .cons h ar r, e => by
  unfold foB at e
  rw [Bool.and_eq_true, Bool.and_eq_true] at e
  have a := hdB_of e.1
  have b := foB_of ar e.2.1
  have c := foB_of r e.2.2
  exact ⟨a, b, c⟩
theorem exB_of {x : Ex} (e : exB x = true) : x.szs := by
 unfold exB at e
 rw [Bool.and_eq_true] at e
 have a := hdB_of e.1
 have b := foB_of x.ar e.2
 exact ⟨a, b⟩
theorem s1 : p1X.szs := exB_of (by kernel_rfl)
theorem s2 : p2X.szs := exB_of (by kernel_rfl)
theorem s3 : p3X.szs := exB_of (by kernel_rfl)
theorem s4 : p4X.szs := exB_of (by kernel_rfl)
theorem s5 : p5X.szs := exB_of (by kernel_rfl)
theorem s6 : dflX.szs := exB_of (by kernel_rfl)
theorem s7 : lokX.szs := exB_of (by kernel_rfl)
theorem s8 : cntX.szs := exB_of (by kernel_rfl)
theorem s9 : quaX.szs := exB_of (by kernel_rfl)
theorem s10 : (fldX ⟨#[120]⟩).szs := exB_of (by kernel_rfl)
theorem z1 : p1X.ar.sz ≤ 3000 := by decide
theorem z2 : p2X.ar.sz ≤ 3000 := by decide
theorem z3 : p3X.ar.sz ≤ 3000 := by decide
theorem z4 : p4X.ar.sz ≤ 3000 := by decide
theorem z5 : p5X.ar.sz ≤ 3000 := by decide
theorem z6 : dflX.ar.sz ≤ 3000 := by decide
theorem z7 : lokX.ar.sz ≤ 3000 := by decide
theorem z8 : cntX.ar.sz ≤ 3000 := by decide
theorem z9 : quaX.ar.sz ≤ 3000 := by decide
theorem z10 : (fldX ⟨#[120]⟩).ar.sz ≤ 3000 := by decide
end Go.Proofs.YtbahfelnbofjjaaGreatDoor.ch
namespace Go.Proofs.YtbahfelnbofjjaaGreatDoor.ch
open Go.RowKit dec
theorem ExV.size {w : World} {cs : Array Value} {x : Ex} (h : ExV w cs x) : cs.size = 12 := by
 obtain ⟨_, _, _, _, rfl, _⟩ := h
 rfl
theorem arm_storeE {ops : Array Oper} {rest : List Oper} {o : Oper} {a : Act} {w v : World} {Q : Exit → Act → World → Prop} (x y : Operand) (ho : o.op = .store 29 x y) (hgd : o.guard = none)
  (g : Nat) (T' : TypeId) (cells old : Array Value) (X : Ex) (hx : a.eval x = .pointer (some ⟨g, 0, none⟩)) (hy : a.eval y = .agg cells) (hE : ExV v cells X) (hB : Blk w g T' old) (hs : old.size = 12)
  (h : ∀ w', Blk w' g T' cells → St g w w' → wpList Tryz.prog ops Q rest (a.put o.dst undef) w') : wpList Tryz.prog ops Q (o :: rest) a w := by
 obtain ⟨_, _, _, _, rfl, _⟩ := hE
 exact arm_storeT infX x y ho hgd g T' _ old hx hy hB hs rfl (by simp [exC, Value.oneCell']) h
theorem wp_world {P : Program} {c : Code} {Q : Exit → Act → World → Prop} {a : Act} {w : World} (W : World) (h : W = w) (k : c.wp P Q a W) : c.wp P Q a w := h ▸ k
def c3 (ua aa ub ab ue ae : Option Addr) (uc ac ud ad uf af : Nat) : Array Value := ((exC (feaX ⟨#[97]⟩).h 0 ua uc aa ac).toList ++ ((exC (feaX ⟨#[98]⟩).h 0 ub ud ab ad).toList ++ (exC (feaX ⟨#[99]⟩).h 0 ue uf ae af).toList)).toArray
theorem cho_of {w : World} {g : Nat} {T : TypeId} {ua aa ub ab ue ae : Option Addr} {uc ac ud ad uf af : Nat} (hx : Ec w (feaX ⟨#[97]⟩) ua uc aa ac) (hy : Ec w (feaX ⟨#[98]⟩) ub ud ab ad) (hz : Ec w (feaX ⟨#[99]⟩) ue uf ae af) (hB : Blk w g T (c3 ua aa ub ab ue ae uc ac ud ad uf af)) :
  Ec w choX none 0 (some ⟨g, 0, none⟩) 3 := ⟨.nil _, fs_three hx hy hz hB rfl⟩
def d2 (gi : Nat) : Array Value := ((exC choX.h 3 none 0 (some ⟨gi, 0, none⟩) 3).toList ++ (exC zerX.h 0 none 0 none 0).toList).toArray
theorem dfl_of {w : World} {g gi : Nat} {T : TypeId} (H : Ec w choX none 0 (some ⟨gi, 0, none⟩) 3) (hB : Blk w g T (d2 gi)) : ExV w (exC dflX.h 2 none 0 (some ⟨g, 0, none⟩) 2) dflX :=
 ⟨none, 0, _, 2, rfl, .nil _, fs_two H ⟨.nil _, Fs.nil _⟩ hB rfl⟩
theorem lok_of {w : World} {g : Nat} {T : TypeId} (hB : Blk w g T (exC keyX.h 0 none 0 none 0)) : ExV w (exC lokX.h 1 none 0 (some ⟨g, 0, none⟩) 1) lokX :=
 ⟨none, 0, _, 1, rfl, .nil _, fs_one (x := keyX) ⟨.nil _, Fs.nil _⟩ hB rfl⟩
def p2 (x y : Ex) (ua aa ub ab : Option Addr) (uc ac ud ad : Nat) : Array Value := ((exC x.h x.ar.len ua uc aa ac).toList ++ (exC y.h y.ar.len ub ud ab ad).toList).toArray
theorem cnt_of {w : World} {g : Nat} {T : TypeId} {ua aa ub ab : Option Addr} {uc ac ud ad : Nat} (hx : Ec w truX ua uc aa ac) (hy : Ec w truX ub ud ab ad) (hB : Blk w g T (p2 truX truX ua aa ub ab uc ac ud ad)) : ExV w (exC cntX.h 2 none 0 (some ⟨g, 0, none⟩) 2) cntX :=
 ⟨none, 0, _, 2, rfl, .nil _, fs_two hx hy hB rfl⟩
theorem qua_of {w : World} {g : Nat} {T : TypeId} {ua aa ub ab : Option Addr} {uc ac ud ad : Nat} (hx : Ec w (fldX ⟨#[109, 115]⟩) ua uc aa ac) (hy : Ec w (fldX ⟨#[111, 107]⟩) ub ud ab ad) (hB : Blk w g T (p2 (fldX ⟨#[109, 115]⟩) (fldX ⟨#[111, 107]⟩) ua aa ub ab uc ac ud ad)) : ExV w (exC quaX.h 2 none 0 (some ⟨g, 0, none⟩) 2) quaX :=
 ⟨none, 0, _, 2, rfl, .nil _, fs_two hx hy hB rfl⟩
def f2 (gu : Nat) : Array Value := ((fiC ⟨⟨#[120]⟩, ⟨3, eurU 1, .empty⟩⟩ (some ⟨gu, 0, none⟩) 1).toList ++ (fiC ⟨⟨#[121]⟩, ⟨1, [], .empty⟩⟩ none 0).toList).toArray
theorem fis_of {w : World} {g gu : Nat} {T : TypeId} (hU : un.Sl w (some ⟨gu, 0, none⟩) 1 1 (eurU 1)) (hB : Blk w g T (f2 gu)) : Fis w (some ⟨g, 0, none⟩) 2 2 t1X.fs :=
 rw_two hB rfl rfl rfl ⟨_, _, rfl, hU⟩ ⟨none, 0, rfl, .nil _⟩
theorem tab1_x {w : World} {g : Nat} (hA : Fis w (some ⟨g, 0, none⟩) 2 2 t1X.fs) (T : Tabq w) : Calls Tryz.prog 20 #[.agg (tbC t1X (some ⟨g, 0, none⟩) 2)] w (Tx ⟨#[116, 97, 98, 108, 101, 32, 116, 32, 111, 102, 32, 117, 115, 101, 114, 32, 123, 32, 120, 58, 32, 100, 101, 99, 32, 91, 101, 117, 114, 93, 44, 32, 121, 58, 32, 98, 111, 111, 108, 32, 125, 32, 107, 101, 101, 112, 32, 57, 59]⟩ 0 w) := by
 have h := ptable_any t1X _ 2 w ⟨by decide, by decide, fun f hf => by
  rcases List.mem_cons.1 hf with h | h
  ·subst h; exact ⟨by decide, by decide⟩
  ·rcases List.mem_cons.1 h with h | h
   ·subst h; exact ⟨by decide, by decide⟩
   ·cases h⟩ hA T
 rwa [e10, txO, if_pos rfl, x10] at h
theorem tab2_x {w : World} (T : Tabq w) : Calls Tryz.prog 20 #[.agg (tbC t2X none 0)] w (Tx ⟨#[116, 97, 98, 108, 101, 32, 116, 32, 111, 102, 32, 117, 115, 101, 114, 32, 123, 32, 125, 59]⟩ 0 w) := by
 have h := ptable_any t2X none 0 w ⟨by decide, by decide, fun f hf => by cases hf⟩ (Rw.nil 4 FiV w) T
 rwa [e11, txO, if_pos rfl, x11] at h
theorem bad_x {w : World} {cs : Array Value} (hE : ExV w cs (fldX ⟨#[120]⟩)) (T : Tabq w) : Calls Tryz.prog 15 #[.agg cs] w (Tx .empty 3 w) := by
 obtain ⟨ua, uc, aa, ac, rfl, E⟩ := hE
 have h := pexpr_any (fldX ⟨#[120]⟩) ua aa uc ac w s10 z10 E T
 rwa [e12, txO, if_neg (by decide)] at h
end Go.Proofs.YtbahfelnbofjjaaGreatDoor.ch
namespace Go.Proofs.YtbahfelnbofjjaaGreatDoor.ch
open Go.RowKit dec
theorem example_any (w : World) (T : Tabq w) : Calls Tryz.prog 12 #[] w (Bl true w) := by
 have HT := Lib.hid T
 clear T
 have CN := Lib.hid (fun (n : ByteArray) (w : World) => name_x n w)
 go_enter Tryz.func12, Tryz.ntmps12
 go_wp2_with fail
 refine (CN.out _ _).mono ?_
 rintro e w1 ⟨ca, rfl, X1, b1⟩
 have XA := Lib.hid X1
 have B := Lib.hid b1
 replace HT := Lib.hid (HT.out.stays b1)
 clear X1 b1
 go_wp2_with fail
 refine (CN.out _ _).mono ?_
 rintro e w2 ⟨cb, rfl, X2, b2⟩
 have XB := Lib.hid X2
 replace XA := Lib.hid (XA.out.keeps b2)
 replace B := Lib.hid (bnext B.out b2)
 replace HT := Lib.hid (HT.out.stays b2)
 clear X2 b2
 go_wp2_with fail
 refine (CN.out _ _).mono ?_
 rintro e w3 ⟨cc, rfl, X3, b3⟩
 have XC := Lib.hid X3
 replace XA := Lib.hid (XA.out.keeps b3)
 replace XB := Lib.hid (XB.out.keeps b3)
 replace B := Lib.hid (bnext B.out b3)
 replace HT := Lib.hid (HT.out.stays b3)
 clear X3 b3 CN
 go_upto_region 2 with (first
  | (refine arm_storeE (.tmp 1) (.tmp 18) rfl rfl _ _ _ _ _ rfl rfl XA.out (((Blk.new _ _ _).past _).past _) rfl ?_; intro w4 L1 M1)
  | (refine arm_storeE (.tmp 2) (.tmp 19) rfl rfl _ _ _ _ _ rfl rfl XB.out (Blk.st ((bw_new _ _ _ _ (sz_al _ _).symm).past _) M1 (by omega)) rfl ?_; intro w5 L2 M2)
  | (refine arm_storeE (.tmp 3) (.tmp 20) rfl rfl _ _ _ _ _ rfl rfl XC.out (Blk.st (Blk.st (bw_new _ _ _ _ (by rw [sz_al, sz_al])) M1 (by omega)) M2 (by omega)) rfl ?_; intro w6 L3 M3))
 have b6 := ((balloc (balloc (balloc (b0 w3) _) _) _).trans (M1.below (Nat.le_refl _))).trans ((M2.below (Nat.le_succ _)).trans (M3.below (by omega)))
 have GA := Lib.hid (Blk.st (Blk.st L1 M2 (by omega)) M3 (by omega))
 have GB := Lib.hid (Blk.st L2 M3 (by omega))
 have GC := Lib.hid L3
 replace XA := Lib.hid (XA.out.keeps b6)
 replace XB := Lib.hid (XB.out.keeps b6)
 replace XC := Lib.hid (XC.out.keeps b6)
 replace B := Lib.hid (bnext B.out b6)
 replace HT := Lib.hid (HT.out.stays b6)
 clear L1 L2 L3 M1 M2 M3 b6
 generalize w3.heap.size + 1 + 1 = gc at *
 generalize w3.heap.size + 1 = gb at *
 generalize w3.heap.size = ga at *
 go_upto_region 3 with fail
 have U := Lib.hid (Blk.new w6 82 #[.string ⟨#[101, 117, 114]⟩, .int .i64 1])
 have b7 := balloc (b0 w6) (.cells #[.string ⟨#[101, 117, 114]⟩, .int .i64 1] 82)
 replace GA := Lib.hid (GA.out.keeps b7)
 replace GB := Lib.hid (GB.out.keeps b7)
 replace GC := Lib.hid (GC.out.keeps b7)
 replace XA := Lib.hid (XA.out.keeps b7)
 replace XB := Lib.hid (XB.out.keeps b7)
 replace XC := Lib.hid (XC.out.keeps b7)
 replace B := Lib.hid (bnext B.out b7)
 replace HT := Lib.hid (HT.out.stays b7)
 clear b7
 obtain ⟨w7, hw⟩ : ∃ w7, w7 = w6.alloc (.cells #[.string ⟨#[101, 117, 114]⟩, .int .i64 1] 82) := ⟨_, rfl⟩
 rw [← hw] at U GA GB GC XA XB XC B HT
 refine wp_world w7 hw ?_
 clear hw
 generalize w6.heap.size = gu at *
 go_upto_region 4 with fail
 have K := Lib.hid (Blk.new w7 29 (exC coiX.h 0 (some ⟨gu, 0, none⟩) 1 none 0))
 have b8 := balloc (b0 w7) (.cells (exC coiX.h 0 (some ⟨gu, 0, none⟩) 1 none 0) 29)
 have XK := Lib.hid (show ExV _ (exC coiX.h 0 (some ⟨gu, 0, none⟩) 1 none 0) coiX from ⟨some ⟨gu, 0, none⟩, 1, none, 0, rfl, sl_one (U.out.keeps b8), Fs.nil _⟩)
 replace GA := Lib.hid (GA.out.keeps b8)
 replace GB := Lib.hid (GB.out.keeps b8)
 replace GC := Lib.hid (GC.out.keeps b8)
 replace XA := Lib.hid (XA.out.keeps b8)
 replace XB := Lib.hid (XB.out.keeps b8)
 replace XC := Lib.hid (XC.out.keeps b8)
 replace B := Lib.hid (bnext B.out b8)
 replace HT := Lib.hid (HT.out.stays b8)
 replace U := Lib.hid (U.out.keeps b8)
 clear b8
 obtain ⟨w8, hw⟩ : ∃ w8, w8 = w7.alloc (.cells (exC coiX.h 0 (some ⟨gu, 0, none⟩) 1 none 0) 29) := ⟨_, rfl⟩
 rw [← hw] at U GA GB GC XA XB XC B HT K XK
 refine wp_world w8 hw ?_
 clear hw
 generalize exC coiX.h 0 (some ⟨gu, 0, none⟩) 1 none 0 = ck at *
 generalize w7.heap.size = gk at *
 have C1 := Lib.hid (fun (op : ByteArray) (x : Ex) (cs : Array Value) (w : World) (hx : ExV w cs x) => one_x op x cs w hx)
 have C2 := Lib.hid (fun (op : ByteArray) (x y : Ex) (cs ds : Array Value) (w : World) (hx : ExV w cs x) (hy : ExV w ds y) => two_x op x y cs ds w hx hy)
 go_cut [65] from 5 (fun v65 wx => v65 = .bool false ∧ Hid (Below w8.heap.size w8 wx))
 case first =>
  refine wp_region_held_drew (S := fun w' => Below w8.heap.size w8 w') (by kernel_rfl) (b0 w8).drew (fun hH => ?_)
  refine held_take (i := 0) (d := 26) (v := .agg ca) rfl (by kernel_rfl) (by kernel_rfl) (by kernel_rfl) rfl (fun _ _ _ h => h) rfl hH (fun w' hS => yield_load infX Tryz.underlying29 rfl (.tmp 1) rfl _ _ _ rfl (GA.out.keeps hS) XA.out.size) ?_
  simp only [List.set_cons_zero, List.set_cons_succ]
  refine held_take (i := 1) (d := 27) (v := .agg cb) rfl (by kernel_rfl) (by kernel_rfl) (by kernel_rfl) rfl (fun _ _ _ h => h) rfl hH (fun w' hS => yield_load infX Tryz.underlying29 rfl (.tmp 2) rfl _ _ _ rfl (GB.out.keeps hS) XB.out.size) ?_
  simp only [List.set_cons_zero, List.set_cons_succ]
  refine held_take (i := 2) (d := 28) (v := .agg ck) rfl (by kernel_rfl) (by kernel_rfl) (by kernel_rfl) rfl (fun _ _ _ h => h) rfl hH (fun w' hS => yield_load infX Tryz.underlying29 rfl (.tmp 5) rfl _ _ _ rfl (K.out.keeps hS) XK.out.size) ?_
  simp only [List.set_cons_zero, List.set_cons_succ]
  generalize w8.drew = y0 at *
  refine held_only (i := 3) rfl (by kernel_rfl) rfl (fun K hK => ?_)
  go_simp
  refine (C2.out ⟨#[42]⟩ (feaX ⟨#[98]⟩) coiX cb ck _ (XB.out.keeps hH) (XK.out.keeps hH)).mono ?_
  rintro e y1 ⟨d1, rfl, x1, b1⟩
  refine hK.out _ _ (bnext hH b1) (fun hH => ?_)
  clear hK K
  have D1 := Lib.hid x1
  clear x1 b1
  refine held_only (i := 4) rfl (by kernel_rfl) rfl (fun K hK => ?_)
  go_simp
  refine (C2.out ⟨#[43]⟩ (feaX ⟨#[97]⟩) (binX ⟨#[42]⟩ (feaX ⟨#[98]⟩) coiX) ca d1 _ (XA.out.keeps hH) D1.out).mono ?_
  rintro e y2 ⟨d2, rfl, x2, b2⟩
  refine hK.out _ _ (bnext hH b2) (fun hH => ?_)
  clear hK K
  have D2 := Lib.hid x2
  clear x2 b2
  refine held_only (i := 5) rfl (by kernel_rfl) rfl (fun K hK => ?_)
  go_simp
  refine (prints_x _ _ _ _ D2.out s1 z1 e1 x1 (HT.out.stays hH)).mono ?_
  rintro e y3 ⟨rfl, b3⟩
  refine hK.out _ _ (bnext hH b3) (fun hH => ?_)
  clear hK K
  clear b3
  refine held_take (i := 6) (d := 32) (v := ?_) rfl (by kernel_rfl) (by kernel_rfl) (by kernel_rfl) rfl (fun _ _ _ h => h) rfl hH (fun w' hS => ?_) ?_
  rotate_left
  ·go_simp; first | done | with_reducible rfl
  simp only [List.set_cons_zero, List.set_cons_succ]
  refine held_take (i := 7) (d := 33) (v := ?_) rfl (by kernel_rfl) (by kernel_rfl) (by kernel_rfl) rfl (fun _ _ _ h => h) rfl hH (fun w' hS => ?_) ?_
  rotate_left
  ·go_simp; first | done | with_reducible rfl
  simp only [List.set_cons_zero, List.set_cons_succ]
  refine held_take (i := 8) (d := 34) (v := .agg ca) rfl (by kernel_rfl) (by kernel_rfl) (by kernel_rfl) rfl (fun _ _ _ h => h) rfl hH (fun w' hS => yield_load infX Tryz.underlying29 rfl (.tmp 1) rfl _ _ _ rfl (GA.out.keeps hS) XA.out.size) ?_
  simp only [List.set_cons_zero, List.set_cons_succ]
  refine held_take (i := 9) (d := 35) (v := .agg cb) rfl (by kernel_rfl) (by kernel_rfl) (by kernel_rfl) rfl (fun _ _ _ h => h) rfl hH (fun w' hS => yield_load infX Tryz.underlying29 rfl (.tmp 2) rfl _ _ _ rfl (GB.out.keeps hS) XB.out.size) ?_
  simp only [List.set_cons_zero, List.set_cons_succ]
  refine held_take (i := 11) (d := 37) (v := .agg cc) rfl (by kernel_rfl) (by kernel_rfl) (by kernel_rfl) rfl (fun _ _ _ h => h) rfl hH (fun w' hS => yield_load infX Tryz.underlying29 rfl (.tmp 3) rfl _ _ _ rfl (GC.out.keeps hS) XC.out.size) ?_
  simp only [List.set_cons_zero, List.set_cons_succ]
  refine held_only (i := 10) rfl (by kernel_rfl) rfl (fun K hK => ?_)
  go_simp
  refine (C2.out ⟨#[43]⟩ (feaX ⟨#[97]⟩) (feaX ⟨#[98]⟩) ca cb _ (XA.out.keeps hH) (XB.out.keeps hH)).mono ?_
  rintro e y4 ⟨d4, rfl, x4, b4⟩
  refine hK.out _ _ (bnext hH b4) (fun hH => ?_)
  clear hK K
  have D4 := Lib.hid x4
  clear x4 b4
  refine held_only (i := 12) rfl (by kernel_rfl) rfl (fun K hK => ?_)
  go_simp
  refine (C2.out ⟨#[42]⟩ (binX ⟨#[43]⟩ (feaX ⟨#[97]⟩) (feaX ⟨#[98]⟩)) (feaX ⟨#[99]⟩) d4 cc _ D4.out (XC.out.keeps hH)).mono ?_
  rintro e y5 ⟨d5, rfl, x5, b5⟩
  refine hK.out _ _ (bnext hH b5) (fun hH => ?_)
  clear hK K
  have D5 := Lib.hid x5
  clear x5 b5
  refine held_only (i := 13) rfl (by kernel_rfl) rfl (fun K hK => ?_)
  go_simp
  refine (prints_x _ _ _ _ D5.out s2 z2 e2 x2 (HT.out.stays hH)).mono ?_
  rintro e y6 ⟨rfl, b6⟩
  refine hK.out _ _ (bnext hH b6) (fun hH => ?_)
  clear hK K
  clear b6
  refine held_take (i := 14) (d := 40) (v := ?_) rfl (by kernel_rfl) (by kernel_rfl) (by kernel_rfl) rfl (fun _ _ _ h => h) rfl hH (fun w' hS => ?_) ?_
  rotate_left
  ·go_simp; first | done | with_reducible rfl
  simp only [List.set_cons_zero, List.set_cons_succ]
  refine held_take (i := 15) (d := 41) (v := ?_) rfl (by kernel_rfl) (by kernel_rfl) (by kernel_rfl) rfl (fun _ _ _ h => h) rfl hH (fun w' hS => ?_) ?_
  rotate_left
  ·go_simp; first | done | with_reducible rfl
  simp only [List.set_cons_zero, List.set_cons_succ]
  refine held_take (i := 16) (d := 42) (v := ?_) rfl (by kernel_rfl) (by kernel_rfl) (by kernel_rfl) rfl (fun _ _ _ h => h) rfl hH (fun w' hS => ?_) ?_
  rotate_left
  ·go_simp; first | done | with_reducible rfl
  simp only [List.set_cons_zero, List.set_cons_succ]
  refine held_take (i := 17) (d := 43) (v := .agg ca) rfl (by kernel_rfl) (by kernel_rfl) (by kernel_rfl) rfl (fun _ _ _ h => h) rfl hH (fun w' hS => yield_load infX Tryz.underlying29 rfl (.tmp 1) rfl _ _ _ rfl (GA.out.keeps hS) XA.out.size) ?_
  simp only [List.set_cons_zero, List.set_cons_succ]
  refine held_only (i := 18) rfl (by kernel_rfl) rfl (fun K hK => ?_)
  go_simp
  refine (C1.out ⟨#[45]⟩ (feaX ⟨#[97]⟩) ca _ (XA.out.keeps hH)).mono ?_
  rintro e y7 ⟨d7, rfl, x7, b7⟩
  refine hK.out _ _ (bnext hH b7) (fun hH => ?_)
  clear hK K
  have D7 := Lib.hid x7
  clear x7 b7
  refine held_only (i := 19) rfl (by kernel_rfl) rfl (fun K hK => ?_)
  go_simp
  refine (C1.out ⟨#[45]⟩ (oneX ⟨#[45]⟩ (feaX ⟨#[97]⟩)) d7 _ D7.out).mono ?_
  rintro e y8 ⟨d8, rfl, x8, b8⟩
  refine hK.out _ _ (bnext hH b8) (fun hH => ?_)
  clear hK K
  have D8 := Lib.hid x8
  clear x8 b8
  refine held_only (i := 20) rfl (by kernel_rfl) rfl (fun K hK => ?_)
  go_simp
  refine (prints_x _ _ _ _ D8.out s3 z3 e3 x3 (HT.out.stays hH)).mono ?_
  rintro e y9 ⟨rfl, b9⟩
  refine hK.out _ _ (bnext hH b9) (fun hH => ?_)
  clear hK K
  clear b9
  refine held_take (i := 21) (d := 47) (v := ?_) rfl (by kernel_rfl) (by kernel_rfl) (by kernel_rfl) rfl (fun _ _ _ h => h) rfl hH (fun w' hS => ?_) ?_
  rotate_left
  ·go_simp; first | done | with_reducible rfl
  simp only [List.set_cons_zero, List.set_cons_succ]
  refine held_take (i := 22) (d := 48) (v := ?_) rfl (by kernel_rfl) (by kernel_rfl) (by kernel_rfl) rfl (fun _ _ _ h => h) rfl hH (fun w' hS => ?_) ?_
  rotate_left
  ·go_simp; first | done | with_reducible rfl
  simp only [List.set_cons_zero, List.set_cons_succ]
  refine held_take (i := 23) (d := 49) (v := ?_) rfl (by kernel_rfl) (by kernel_rfl) (by kernel_rfl) rfl (fun _ _ _ h => h) rfl hH (fun w' hS => ?_) ?_
  rotate_left
  ·go_simp; first | done | with_reducible rfl
  simp only [List.set_cons_zero, List.set_cons_succ]
  refine held_take (i := 24) (d := 50) (v := .agg ca) rfl (by kernel_rfl) (by kernel_rfl) (by kernel_rfl) rfl (fun _ _ _ h => h) rfl hH (fun w' hS => yield_load infX Tryz.underlying29 rfl (.tmp 1) rfl _ _ _ rfl (GA.out.keeps hS) XA.out.size) ?_
  simp only [List.set_cons_zero, List.set_cons_succ]
  refine held_take (i := 25) (d := 51) (v := .agg cb) rfl (by kernel_rfl) (by kernel_rfl) (by kernel_rfl) rfl (fun _ _ _ h => h) rfl hH (fun w' hS => yield_load infX Tryz.underlying29 rfl (.tmp 2) rfl _ _ _ rfl (GB.out.keeps hS) XB.out.size) ?_
  simp only [List.set_cons_zero, List.set_cons_succ]
  refine held_take (i := 26) (d := 52) (v := .agg cc) rfl (by kernel_rfl) (by kernel_rfl) (by kernel_rfl) rfl (fun _ _ _ h => h) rfl hH (fun w' hS => yield_load infX Tryz.underlying29 rfl (.tmp 3) rfl _ _ _ rfl (GC.out.keeps hS) XC.out.size) ?_
  simp only [List.set_cons_zero, List.set_cons_succ]
  refine held_only (i := 27) rfl (by kernel_rfl) rfl (fun K hK => ?_)
  go_simp
  refine (C2.out ⟨#[45]⟩ (feaX ⟨#[98]⟩) (feaX ⟨#[99]⟩) cb cc _ (XB.out.keeps hH) (XC.out.keeps hH)).mono ?_
  rintro e y10 ⟨d10, rfl, x10, b10⟩
  refine hK.out _ _ (bnext hH b10) (fun hH => ?_)
  clear hK K
  have D10 := Lib.hid x10
  clear x10 b10
  refine held_only (i := 28) rfl (by kernel_rfl) rfl (fun K hK => ?_)
  go_simp
  refine (C2.out ⟨#[45]⟩ (feaX ⟨#[97]⟩) (binX ⟨#[45]⟩ (feaX ⟨#[98]⟩) (feaX ⟨#[99]⟩)) ca d10 _ (XA.out.keeps hH) D10.out).mono ?_
  rintro e y11 ⟨d11, rfl, x11, b11⟩
  refine hK.out _ _ (bnext hH b11) (fun hH => ?_)
  clear hK K
  have D11 := Lib.hid x11
  clear x11 b11
  refine held_only (i := 29) rfl (by kernel_rfl) rfl (fun K hK => ?_)
  go_simp
  refine (prints_x _ _ _ _ D11.out s4 z4 e4 x4 (HT.out.stays hH)).mono ?_
  rintro e y12 ⟨rfl, b12⟩
  refine hK.out _ _ (bnext hH b12) (fun hH => ?_)
  clear hK K
  clear b12
  refine held_take (i := 30) (d := 56) (v := ?_) rfl (by kernel_rfl) (by kernel_rfl) (by kernel_rfl) rfl (fun _ _ _ h => h) rfl hH (fun w' hS => ?_) ?_
  rotate_left
  ·go_simp; first | done | with_reducible rfl
  simp only [List.set_cons_zero, List.set_cons_succ]
  refine held_take (i := 31) (d := 57) (v := ?_) rfl (by kernel_rfl) (by kernel_rfl) (by kernel_rfl) rfl (fun _ _ _ h => h) rfl hH (fun w' hS => ?_) ?_
  rotate_left
  ·go_simp; first | done | with_reducible rfl
  simp only [List.set_cons_zero, List.set_cons_succ]
  refine held_take (i := 32) (d := 58) (v := ?_) rfl (by kernel_rfl) (by kernel_rfl) (by kernel_rfl) rfl (fun _ _ _ h => h) rfl hH (fun w' hS => ?_) ?_
  rotate_left
  ·go_simp; first | done | with_reducible rfl
  simp only [List.set_cons_zero, List.set_cons_succ]
  refine held_take (i := 33) (d := 59) (v := .agg ca) rfl (by kernel_rfl) (by kernel_rfl) (by kernel_rfl) rfl (fun _ _ _ h => h) rfl hH (fun w' hS => yield_load infX Tryz.underlying29 rfl (.tmp 1) rfl _ _ _ rfl (GA.out.keeps hS) XA.out.size) ?_
  simp only [List.set_cons_zero, List.set_cons_succ]
  refine held_take (i := 34) (d := 60) (v := .agg cb) rfl (by kernel_rfl) (by kernel_rfl) (by kernel_rfl) rfl (fun _ _ _ h => h) rfl hH (fun w' hS => yield_load infX Tryz.underlying29 rfl (.tmp 2) rfl _ _ _ rfl (GB.out.keeps hS) XB.out.size) ?_
  simp only [List.set_cons_zero, List.set_cons_succ]
  refine held_only (i := 35) rfl (by kernel_rfl) rfl (fun K hK => ?_)
  go_simp
  refine (C2.out ⟨#[61, 61]⟩ (feaX ⟨#[97]⟩) (feaX ⟨#[98]⟩) ca cb _ (XA.out.keeps hH) (XB.out.keeps hH)).mono ?_
  rintro e y13 ⟨d13, rfl, x13, b13⟩
  refine hK.out _ _ (bnext hH b13) (fun hH => ?_)
  clear hK K
  have D13 := Lib.hid x13
  clear x13 b13
  refine held_only (i := 36) rfl (by kernel_rfl) rfl (fun K hK => ?_)
  go_simp
  refine (C1.out ⟨#[110, 111, 116]⟩ (binX ⟨#[61, 61]⟩ (feaX ⟨#[97]⟩) (feaX ⟨#[98]⟩)) d13 _ D13.out).mono ?_
  rintro e y14 ⟨d14, rfl, x14, b14⟩
  refine hK.out _ _ (bnext hH b14) (fun hH => ?_)
  clear hK K
  have D14 := Lib.hid x14
  clear x14 b14
  refine held_only (i := 37) rfl (by kernel_rfl) rfl (fun K hK => ?_)
  go_simp
  refine (prints_x _ _ _ _ D14.out s5 z5 e5 x5 (HT.out.stays hH)).mono ?_
  rintro e y15 ⟨rfl, b15⟩
  refine hK.out _ _ (bnext hH b15) (fun hH => ?_)
  clear hK K
  clear b15
  refine held_take (i := 38) (d := 64) (v := ?_) rfl (by kernel_rfl) (by kernel_rfl) (by kernel_rfl) rfl (fun _ _ _ h => h) rfl hH (fun w' hS => ?_) ?_
  rotate_left
  ·go_simp; first | done | with_reducible rfl
  simp only [List.set_cons_zero, List.set_cons_succ]
  refine held_take (i := 39) (d := 65) (v := ?_) rfl (by kernel_rfl) (by kernel_rfl) (by kernel_rfl) rfl (fun _ _ _ h => h) rfl hH (fun w' hS => ?_) ?_
  rotate_left
  ·go_simp; first | done | with_reducible rfl
  simp only [List.set_cons_zero, List.set_cons_succ]
  refine wpAnyH_done (by kernel_rfl) ?_ _
  go_wp2_with fail
  go_meet
  case rel => exact ⟨rfl, Lib.hid hH⟩
 case rest =>
  obtain ⟨rfl, BW⟩ := hcut
  replace B := Lib.hid (bnext B.out BW.out)
  replace HT := Lib.hid (HT.out.stays BW.out)
  replace GA := Lib.hid (GA.out.keeps BW.out)
  replace GB := Lib.hid (GB.out.keeps BW.out)
  replace GC := Lib.hid (GC.out.keeps BW.out)
  replace U := Lib.hid (U.out.keeps BW.out)
  replace XA := Lib.hid (XA.out.keeps BW.out)
  replace XB := Lib.hid (XB.out.keeps BW.out)
  replace XC := Lib.hid (XC.out.keeps BW.out)
  clear BW XK K C1 C2
  generalize wc = w9 at *
  obtain ⟨ua, uc, aa, ac, e1', EA⟩ := XA.out
  obtain ⟨ub, ud, ab, ad, e2', EB⟩ := XB.out
  obtain ⟨ue, uf, ae, af, e3', EC⟩ := XC.out
  subst e1' e2' e3'
  have HA := Lib.hid EA
  have HB := Lib.hid EB
  have HC := Lib.hid EC
  clear XA XB XC EA EB EC
  unfold exC at *
  go_upto_region 7 with (first
   | (refine arm_loadT infX Tryz.underlying29 rfl (.tmp 1) rfl rfl _ _ _ rfl GA.out rfl ?_)
   | (refine arm_loadT infX Tryz.underlying29 rfl (.tmp 2) rfl rfl _ _ _ rfl GB.out rfl ?_)
   | (refine arm_loadT infX Tryz.underlying29 rfl (.tmp 3) rfl rfl _ _ _ rfl GC.out rfl ?_))
  have b6 := below_two w9 (.cells (c3 ua aa ub ab ue ae uc ac ud ad uf af) 29) (.cells (exC choX.h 3 none 0 (some ⟨w9.heap.size, 0, none⟩) 3) 29)
  have XH := Lib.hid (cho_of (HA.out.keeps b6) (HB.out.keeps b6) (HC.out.keeps b6) ((Blk.new w9 _ _).past _))
  have GH := Lib.hid (bw_new (w9.alloc (.cells (c3 ua aa ub ab ue ae uc ac ud ad uf af) 29)) 29 (exC choX.h 3 none 0 (some ⟨w9.heap.size, 0, none⟩) 3) (w9.heap.size + 1) (sz_al _ _).symm)
  replace B := Lib.hid (bnext B.out b6)
  replace HT := Lib.hid (HT.out.stays b6)
  replace U := Lib.hid (U.out.keeps b6)
  clear b6 GA GB GC HA HB HC
  obtain ⟨wA, hw⟩ : ∃ wA, wA = (w9.alloc (.cells (c3 ua aa ub ab ue ae uc ac ud ad uf af) 29)).alloc (.cells (exC choX.h 3 none 0 (some ⟨w9.heap.size, 0, none⟩) 3) 29) := ⟨_, rfl⟩
  rw [← hw] at U B HT XH GH
  refine wp_world wA hw ?_
  clear hw
  generalize w9.heap.size + 1 = gh at *
  generalize w9.heap.size = gi at *
  go_upto_region 8 with fail
  have b7 := balloc (b0 wA) (.cells (exC zerX.h 0 none 0 none 0) 29)
  have GZ := Lib.hid (Blk.new wA 29 (exC zerX.h 0 none 0 none 0))
  replace GH := Lib.hid (GH.out.keeps b7)
  replace XH := Lib.hid (XH.out.keeps b7)
  replace B := Lib.hid (bnext B.out b7)
  replace HT := Lib.hid (HT.out.stays b7)
  replace U := Lib.hid (U.out.keeps b7)
  clear b7
  obtain ⟨wB, hw⟩ : ∃ wB, wB = wA.alloc (.cells (exC zerX.h 0 none 0 none 0) 29) := ⟨_, rfl⟩
  rw [← hw] at U B HT XH GH GZ
  refine wp_world wB hw ?_
  clear hw
  generalize wA.heap.size = gz at *
  go_upto_region 9 with fail
  have b7 := balloc (b0 wB) (.cells (exC keyX.h 0 none 0 none 0) 29)
  have GY := Lib.hid (Blk.new wB 29 (exC keyX.h 0 none 0 none 0))
  replace GH := Lib.hid (GH.out.keeps b7)
  replace GZ := Lib.hid (GZ.out.keeps b7)
  replace XH := Lib.hid (XH.out.keeps b7)
  replace B := Lib.hid (bnext B.out b7)
  replace HT := Lib.hid (HT.out.stays b7)
  replace U := Lib.hid (U.out.keeps b7)
  clear b7
  obtain ⟨wC, hw⟩ : ∃ wC, wC = wB.alloc (.cells (exC keyX.h 0 none 0 none 0) 29) := ⟨_, rfl⟩
  rw [← hw] at U B HT XH GH GZ GY
  refine wp_world wC hw ?_
  clear hw
  generalize wB.heap.size = gy at *
  unfold exC at GH GZ GY
  go_upto_region 10 with (first
   | (refine arm_loadT infX Tryz.underlying29 rfl (.tmp 6) rfl rfl _ _ _ rfl GH.out rfl ?_)
   | (refine arm_loadT infX Tryz.underlying29 rfl (.tmp 7) rfl rfl _ _ _ rfl GZ.out rfl ?_)
   | (refine arm_loadT infX Tryz.underlying29 rfl (.tmp 8) rfl rfl _ _ _ rfl GY.out rfl ?_))
  have b9 := balloc (b0 wC) (.cells (d2 gi) 29)
  have XD := dfl_of (XH.out.keeps b9) (Blk.new wC 29 (d2 gi))
  have C := Lib.hid (prints_x dflX _ _ _ XD s6 z6 e6 x6 (HT.out.stays b9))
  have B9 := Lib.hid b9
  clear b9 XD
  refine C.out.mono ?_
  rintro e wD ⟨rfl, bD⟩
  have bb := bnext B9.out bD
  replace B := Lib.hid (bnext B.out bb)
  replace HT := Lib.hid (HT.out.stays bb)
  replace U := Lib.hid (U.out.keeps bb)
  replace GY := Lib.hid (GY.out.keeps bb)
  clear bb bD B9 C GH GZ XH
  have y0 := GY.out.cell 0
  have y1 := GY.out.cell 1
  have y2 := GY.out.cell 2
  have y3 := GY.out.cell 3
  have y4 := GY.out.cell 4
  have y5 := GY.out.cell 5
  have y6 := GY.out.cell 6
  have y7 := GY.out.cell 7
  have y8 := GY.out.cell 8
  have y9 := GY.out.cell 9
  have y10 := GY.out.cell 10
  have y11 := GY.out.cell 11
  simp only [List.getElem?_toArray, List.getElem?_cons_zero, List.getElem?_cons_succ] at y0 y1 y2 y3 y4 y5 y6 y7 y8 y9 y10 y11
  go_upto_region 10 with fail
  clear y0 y1 y2 y3 y4 y5 y6 y7 y8 y9 y10 y11
  have b9 := balloc (b0 wD) (.cells (exC keyX.h 0 none 0 none 0) 29)
  have XD := lok_of (Blk.new wD 29 (exC keyX.h 0 none 0 none 0))
  have C := Lib.hid (prints_x lokX _ _ _ XD s7 z7 e7 x7 (HT.out.stays b9))
  have B9 := Lib.hid b9
  clear b9 XD
  refine C.out.mono ?_
  rintro e wE ⟨rfl, bE⟩
  have bb := bnext B9.out bE
  replace B := Lib.hid (bnext B.out bb)
  replace HT := Lib.hid (HT.out.stays bb)
  replace U := Lib.hid (U.out.keeps bb)
  clear bb bE B9 C GY
  have CT := Lib.hid (fun (w : World) => true_x w)
  have CF := Lib.hid (fun (n : ByteArray) (w : World) => field_x n w)
  go_upto_region 11 with fail
  go_wp2_with fail
  refine (CT.out _).mono ?_
  rintro e wF ⟨ct, rfl, XT, bF⟩
  replace B := Lib.hid (bnext B.out bF)
  replace HT := Lib.hid (HT.out.stays bF)
  replace U := Lib.hid (U.out.keeps bF)
  have HE := Lib.hid XT
  clear bF XT CT
  go_upto_region 12 with (refine arm_storeE (.tmp 9) (.tmp 88) rfl rfl _ _ _ _ _ rfl rfl HE.out (Blk.new _ _ _) rfl ?_; intro wG L1 M1)
  have b7 := (balloc (b0 wF) _).trans (M1.below (Nat.le_refl _))
  have GT := Lib.hid L1
  replace U := Lib.hid (U.out.keeps b7)
  replace HE := Lib.hid (HE.out.keeps b7)
  replace B := Lib.hid (bnext B.out b7)
  replace HT := Lib.hid (HT.out.stays b7)
  clear b7 L1 M1
  generalize wF.heap.size = gt at *
  obtain ⟨ua, uc, aa, ac, e1', ET⟩ := HE.out
  subst e1'
  have XT := Lib.hid ET
  clear ET HE
  unfold exC at GT
  go_upto_region 13 with (refine arm_loadT infX Tryz.underlying29 rfl (.tmp 9) rfl rfl _ _ _ rfl GT.out rfl ?_)
  have b6 := below_two wG (.cells (p2 truX truX ua aa ua aa uc ac uc ac) 29) (.cells (exC cntX.h 2 none 0 (some ⟨wG.heap.size, 0, none⟩) 2) 29)
  have XN := Lib.hid (cnt_of (XT.out.keeps b6) (XT.out.keeps b6) ((Blk.new wG 29 (p2 truX truX ua aa ua aa uc ac uc ac)).past _))
  have GN := Lib.hid (bw_new (wG.alloc (.cells (p2 truX truX ua aa ua aa uc ac uc ac) 29)) 29 (exC cntX.h 2 none 0 (some ⟨wG.heap.size, 0, none⟩) 2) (wG.heap.size + 1) (sz_al _ _).symm)
  replace U := Lib.hid (U.out.keeps b6)
  replace B := Lib.hid (bnext B.out b6)
  replace HT := Lib.hid (HT.out.stays b6)
  clear b6 GT XT
  obtain ⟨wH, hw⟩ : ∃ wH, wH = (wG.alloc (.cells (p2 truX truX ua aa ua aa uc ac uc ac) 29)).alloc (.cells (exC cntX.h 2 none 0 (some ⟨wG.heap.size, 0, none⟩) 2) 29) := ⟨_, rfl⟩
  rw [← hw] at U B HT XN GN
  refine wp_world wH hw ?_
  clear hw
  generalize wG.heap.size + 1 = gn at *
  generalize wG.heap.size = gm at *
  go_wp2_with fail
  refine (CF.out _ _).mono ?_
  rintro e wI ⟨cm, rfl, XM, bI⟩
  replace U := Lib.hid (U.out.keeps bI)
  replace XN := Lib.hid (XN.out.keeps bI)
  replace GN := Lib.hid (GN.out.keeps bI)
  replace B := Lib.hid (bnext B.out bI)
  replace HT := Lib.hid (HT.out.stays bI)
  have HM := Lib.hid XM
  clear XM bI
  go_wp2_with fail
  refine (CF.out _ _).mono ?_
  rintro e wJ ⟨co, rfl, XO, bJ⟩
  replace U := Lib.hid (U.out.keeps bJ)
  replace XN := Lib.hid (XN.out.keeps bJ)
  replace GN := Lib.hid (GN.out.keeps bJ)
  replace HM := Lib.hid (HM.out.keeps bJ)
  replace B := Lib.hid (bnext B.out bJ)
  replace HT := Lib.hid (HT.out.stays bJ)
  have HO := Lib.hid XO
  clear XO bJ
  obtain ⟨ua, uc, aa, ac, e1', EM⟩ := HM.out
  subst e1'
  obtain ⟨ub, ud, ab, ad, e2', EO⟩ := HO.out
  subst e2'
  clear HM HO
  have HM := Lib.hid EM
  have HO := Lib.hid EO
  clear EM EO
  unfold exC
  go_upto_region 14 with fail
  have b6 := below_two wJ (.cells (p2 (fldX ⟨#[109, 115]⟩) (fldX ⟨#[111, 107]⟩) ua aa ub ab uc ac ud ad) 29) (.cells (exC quaX.h 2 none 0 (some ⟨wJ.heap.size, 0, none⟩) 2) 29)
  have XQ := Lib.hid (qua_of (HM.out.keeps b6) (HO.out.keeps b6) ((Blk.new wJ 29 (p2 (fldX ⟨#[109, 115]⟩) (fldX ⟨#[111, 107]⟩) ua aa ub ab uc ac ud ad)).past _))
  have GQ := Lib.hid (bw_new (wJ.alloc (.cells (p2 (fldX ⟨#[109, 115]⟩) (fldX ⟨#[111, 107]⟩) ua aa ub ab uc ac ud ad) 29)) 29 (exC quaX.h 2 none 0 (some ⟨wJ.heap.size, 0, none⟩) 2) (wJ.heap.size + 1) (sz_al _ _).symm)
  replace U := Lib.hid (U.out.keeps b6)
  replace XN := Lib.hid (XN.out.keeps b6)
  replace GN := Lib.hid (GN.out.keeps b6)
  replace B := Lib.hid (bnext B.out b6)
  replace HT := Lib.hid (HT.out.stays b6)
  clear b6 HM HO
  obtain ⟨wK, hw⟩ : ∃ wK, wK = (wJ.alloc (.cells (p2 (fldX ⟨#[109, 115]⟩) (fldX ⟨#[111, 107]⟩) ua aa ub ab uc ac ud ad) 29)).alloc (.cells (exC quaX.h 2 none 0 (some ⟨wJ.heap.size, 0, none⟩) 2) 29) := ⟨_, rfl⟩
  rw [← hw] at U B HT XN GN XQ GQ
  refine wp_world wK hw ?_
  clear hw
  generalize wJ.heap.size + 1 = gq at *
  generalize wJ.heap.size = gp at *
  unfold exC at GN GQ
  go_wp2_with (refine arm_loadT infX Tryz.underlying29 rfl (.tmp 10) rfl rfl _ _ _ rfl GN.out rfl ?_)
  refine (prints_x cntX _ _ _ XN.out s8 z8 e8 x8 HT.out).mono ?_
  rintro e wL ⟨rfl, bL⟩
  replace U := Lib.hid (U.out.keeps bL)
  replace XQ := Lib.hid (XQ.out.keeps bL)
  replace GQ := Lib.hid (GQ.out.keeps bL)
  replace B := Lib.hid (bnext B.out bL)
  replace HT := Lib.hid (HT.out.stays bL)
  clear bL XN GN
  have y0 := GQ.out.cell 0
  have y1 := GQ.out.cell 1
  have y2 := GQ.out.cell 2
  have y3 := GQ.out.cell 3
  have y4 := GQ.out.cell 4
  have y5 := GQ.out.cell 5
  have y6 := GQ.out.cell 6
  have y7 := GQ.out.cell 7
  have y8 := GQ.out.cell 8
  have y9 := GQ.out.cell 9
  have y10 := GQ.out.cell 10
  have y11 := GQ.out.cell 11
  simp only [List.getElem?_toArray, List.getElem?_cons_zero, List.getElem?_cons_succ] at y0 y1 y2 y3 y4 y5 y6 y7 y8 y9 y10 y11
  go_wp2_with fail
  clear y0 y1 y2 y3 y4 y5 y6 y7 y8 y9 y10 y11
  refine (prints_x quaX _ _ _ XQ.out s9 z9 e9 x9 HT.out).mono ?_
  rintro e wM ⟨rfl, bM⟩
  replace U := Lib.hid (U.out.keeps bM)
  replace B := Lib.hid (bnext B.out bM)
  replace HT := Lib.hid (HT.out.stays bM)
  clear bM XQ GQ
  go_upto_region 16 with fail
  have bN := balloc (b0 wM) (.cells (f2 gu) 88)
  have C := Lib.hid (tab1_x (fis_of (sl_one (U.out.keeps bN)) (Blk.new wM 88 (f2 gu))) (HT.out.stays bN))
  have BN := Lib.hid bN
  clear bN U
  go_wp2_with fail
  refine C.out.mono ?_
  rintro e wO ⟨rfl, bO⟩
  have bb := bnext BN.out bO
  replace B := Lib.hid (bnext B.out bb)
  replace HT := Lib.hid (HT.out.stays bb)
  clear bb bO BN C
  go_wp2_with fail
  refine (tab2_x HT.out).mono ?_
  rintro e wP ⟨rfl, bP⟩
  replace B := Lib.hid (bnext B.out bP)
  replace HT := Lib.hid (HT.out.stays bP)
  clear bP
  go_wp2_with fail
  refine (CF.out _ _).mono ?_
  rintro e wQ ⟨cx, rfl, XX, bQ⟩
  replace B := Lib.hid (bnext B.out bQ)
  replace HT := Lib.hid (HT.out.stays bQ)
  have HX := Lib.hid XX
  clear bQ XX CF
  go_wp2_with fail
  refine (bad_x HX.out HT.out).mono ?_
  rintro e wR ⟨rfl, bR⟩
  replace B := Lib.hid (bnext B.out bR)
  replace HT := Lib.hid (HT.out.stays bR)
  clear bR HX
  go_wp2_with fail
  go_ret
  exact ⟨rfl, B.out⟩
end Go.Proofs.YtbahfelnbofjjaaGreatDoor.ch
namespace Go.Proofs.YtbahfelnbofjjaaGreatDoor.ch
open Go.ChangeShapes Go.WideShapes Go.ChangeAt Go.RowKit Go.Joins dec
def K : Nat := 5864062014634
def _root_.Go.Proofs.YtbahfelnbofjjaaGreatDoor.Fo.lns : Fo → Prop
 | .nil => True
 | .cons h ar r => h.un.length ≤ K ∧ ar.lns ∧ r.lns
def _root_.Go.Proofs.YtbahfelnbofjjaaGreatDoor.Ty.ln (t : Ty) : Prop := t.un.length ≤ K
structure _root_.Go.Proofs.YtbahfelnbofjjaaGreatDoor.Ex.lns (x : Ex) : Prop where
 h : x.h.un.length ≤ K
 ar : x.ar.lns
structure Fe.szs (f : Fe) : Prop where
 nm : f.nm.size ≤ 140737488355328
 en : f.en.size ≤ 140737488355328
 of : f.ty.of.size ≤ 140737488355328
 bo : f.bo.szs
 ln : f.bo.lns
theorem cI : Tryz.prog.cellsOf 3 = 1 := by kernel_rfl
theorem cSt : Tryz.prog.cellsOf 9 = 1 := by kernel_rfl
theorem cVa : Tryz.prog.cellsOf 23 = 3 := by kernel_rfl
theorem cWi : Tryz.prog.cellsOf 26 = 2 := by kernel_rfl
theorem cFa : Tryz.prog.cellsOf 82 = 2 := by kernel_rfl
theorem cSfa : Tryz.prog.cellsOf 24 = 1 := by kernel_rfl
theorem cX : Tryz.prog.cellsOf 29 = 12 := by kernel_rfl
theorem cSx : Tryz.prog.cellsOf 27 = 1 := by kernel_rfl
theorem cTy : Tryz.prog.cellsOf 31 = 3 := by kernel_rfl
theorem cFi : Tryz.prog.cellsOf 88 = 4 := by kernel_rfl
theorem cSfi : Tryz.prog.cellsOf 46 = 1 := by kernel_rfl
theorem cTb : Tryz.prog.cellsOf 48 = 4 := by kernel_rfl
theorem cFe : Tryz.prog.cellsOf 51 = 18 := by kernel_rfl
theorem bFa : Tryz.prog.bytesOf 82 = 24 := by kernel_rfl
instance : Inhabited Ex := ⟨⟨h0, .nil⟩⟩
instance : Inhabited Fi := ⟨⟨.empty, t0⟩⟩
instance : Inhabited Tb := ⟨⟨.empty, .empty, [], 0⟩⟩
instance : Inhabited Fe := ⟨⟨.empty, .empty, t0, ⟨h0, .nil⟩, 0⟩⟩
section
variable {H : Type} {enc : TypeId × Value → H} {w : World} {m : Nat} {y : DataW H × List MemPlace}
abbrev Rd (enc : TypeId × Value → H) (w : World) (m : Nat) (T : TypeId) (cs : List Value) (y : DataW H × List MemPlace) : Prop := DataW.trod enc Tryz.prog w 0 (fun _ => true) true m T cs = some y
def Wk (T : TypeId) (d : DataW H) : Prop := ∀ n ∈ d.weights Tryz.prog T, n ≤ 140737488351232
theorem wk_part {T : TypeId} {fs : Array Field} (hu : Tryz.prog.underlying T = some (.struct fs)) {parts : List (DataW H)} (h : Wk T (.agg parts)) {j : Nat} {t : TypeId} {d : DataW H} (ht : (fs.toList.map (·.type))[j]? = some t) (hd : parts[j]? = some d) : Wk t d :=
 fun n hn => h n (by simp only [DataW.weights, hu]; exact DataW.weights_mem_each ht hd n hn)
theorem wk_all {e : TypeId} {n : Nat} : ∀ {l : List (DataW H)} {d : DataW H}, d ∈ l → n ∈ d.weights Tryz.prog e → n ∈ DataW.weightsAll Tryz.prog e l
 | x :: l, d, h, hn => by
  simp only [DataW.weightsAll, List.mem_append]
  rcases List.mem_cons.1 h with rfl | h
  ·exact .inl hn
  ·exact .inr (wk_all h hn)
theorem wk_slice {T e : TypeId} (hu : Tryz.prog.underlying T = some (.slice e)) {el sp : List (DataW H)} (h : Wk T (.slice el sp)) : (el.length + sp.length) * Tryz.prog.bytesOf e ≤ 140737488351232 ∧ ∀ d ∈ el, Wk e d := by
 refine ⟨h _ (by simp [DataW.weights, hu]), fun d hd n hn => h n ?_⟩
 simp only [DataW.weights, hu, List.mem_cons, List.mem_append]
 exact .inr (.inl (wk_all hd hn))
theorem wk_str {T : TypeId} {s : ByteArray} (h : Wk (H := H) T (.lit (.string s.data.toList))) : s.size ≤ 140737488355328 := by
 have := h s.data.toList.length (by simp [DataW.weights])
 have e : s.data.toList.length = s.size := by rw [Array.length_toList]; rfl
 omega
theorem rw_of {α : Type} [Inhabited α] {V : World → Array Value → α → Prop} {Q : DataW H → α → Prop} {sz : Nat} {T e : TypeId} (hu : Tryz.prog.underlying T = some (.slice e)) (hc : Tryz.prog.cellsOf e = sz) (h0 : 0 < sz) {c : Value} (h : Rd enc w m T [c] y) (hk : Wk T y.1)
  (E : ∀ k cs z, k < m → Rd enc w k e cs z → Wk e z.1 → ∃ (ds : Array Value) (x : α), cs = ds.toList ∧ ds.size = sz ∧ V w ds x ∧ Q z.1 x) :
  ∃ a n cap l el sp, c = .slice a n cap ∧ Rw sz V w a n cap l ∧ (el.length + sp) * Tryz.prog.bytesOf e ≤ 140737488351232 ∧ el.length = l.length ∧ (∀ j (h1 : j < el.length) (h2 : j < l.length), Q el[j] l[j]) ∧ Rows.uptoBulkAll el ≤ Rows.uptoBulk y.1 := by
 rcases DataW.trod_slice hu h with ⟨hcs, rfl⟩ | ⟨a, n, cap, elems, rest, k, rfl, hcs, rfl, hb, hl, hm, hlen, hel, _, _⟩
 ·simp only [List.cons.injEq, and_true] at hcs
  subst hcs
  exact ⟨none, 0, 0, [], [], 0, rfl, .nil _ _ _, by rw [List.length_nil, Nat.zero_add, Nat.zero_mul]; exact Nat.zero_le _, rfl, fun j h1 => absurd h1 (Nat.not_lt_zero _), Nat.zero_le _⟩
 ·simp only [List.cons.injEq, and_true] at hcs
  subst hcs
  obtain ⟨hw, hke⟩ := wk_slice hu hk
  have hel2 : ∀ i, i < n → ∃ x : α, ∃ (ds cs' : Array Value), w.cells? 0 (a.add (i * Tryz.prog.cellsOf e)) (Tryz.prog.cellsOf e) = some ds.toList ∧ ds.size = sz ∧ V w ds x ∧ ∀ h : i < elems.length, Q elems[i].1 x := fun i hi => by
   have h1 := hel i hi
   rw [List.getElem?_eq_getElem (by omega)] at h1
   obtain ⟨cs', h2, h3⟩ := Option.bind_eq_some_iff.1 h1
   obtain ⟨ds, x, rfl, h5, h6, h7⟩ := E k cs' _ (Nat.lt_succ_self _) h3 (hke _ (List.mem_map.2 ⟨_, List.getElem_mem _, rfl⟩))
   exact ⟨x, ds, ds, h2, h5, h6, fun _ => h7⟩
  obtain ⟨q, hq⟩ := Go.Deep.choose_lt hel2
  refine ⟨some a, n, cap, (List.range n).map q, elems.map (·.1), (rest.map (·.1)).length, rfl, ⟨?_, by simp, hl, by unfold maxLen at hm; omega, fun h => by cases h⟩, hw, by simp [hlen], fun j h1 h2 => ?_, Nat.le_trans (Nat.le_add_right _ (Rows.uptoBulkAll (rest.map (·.1)))) (Nat.le_succ _)⟩
  ·by_cases hn : n = 0
   ·exact .inl (by simp [hn])
   obtain ⟨b, off, spot⟩ := a
   have hspot : spot = none := by
    obtain ⟨ds, _, g1, g2, _⟩ := hq 0 (by omega)
    rw [hc] at g1
    obtain ⟨_, _, g3⟩ := World.cells?_some g1
    have g4 := g3 0 h0
    rw [List.getElem?_eq_getElem (by rw [Array.length_toList]; omega)] at g4
    have := World.cell?_spot g4
    simpa [Addr.add] using this
   subst hspot
   refine .inr ⟨b, off, rfl, fun j hj => ?_⟩
   have hj' : j < n := by simpa using hj
   obtain ⟨ds, _, g1, g2, g3, _⟩ := hq j hj'
   refine ⟨ds, g2, fun i v hv => ?_, by simpa using g3⟩
   rw [hc] at g1
   obtain ⟨_, g4, g5⟩ := World.cells?_some g1
   have hi : i < ds.toList.length := (List.getElem?_eq_some_iff.1 hv).1
   have := g5 i (by omega)
   rw [Go.Addr.add_mid, Go.Addr.add_mid] at this
   rw [this, hv]
  ·have hj' : j < n := by simpa using h2
   obtain ⟨_, _, _, _, _, g⟩ := hq j hj'
   have := g (by omega)
   simpa using this
def FaV (_ : World) (cs : Array Value) (f : un.Fa) : Prop := cs = #[.string f.1, .int .i64 f.2]
theorem sl_rw {a : Option Addr} {n cap : Nat} {l : List un.Fa} (h : Rw 2 FaV w a n cap l) : un.Sl w a n cap l := by
 refine ⟨h.hat.imp id fun ⟨b, off, e, hA⟩ => ⟨b, off, e, fun j hj => ?_⟩, h.hn, h.hcap, h.hmax, h.hno⟩
 obtain ⟨cs, _, h2, rfl⟩ := hA j hj
 rw [un.gt_eq hj]
 exact ⟨by simpa using h2 0 _ rfl, by simpa [Nat.add_assoc] using h2 1 _ rfl⟩
theorem fa_of {cs : List Value} (h : Rd enc w m 82 cs y) (hk : Wk 82 y.1) : ∃ (ds : Array Value) (x : un.Fa), cs = ds.toList ∧ ds.size = 2 ∧ FaV w ds x ∧ x.1.size ≤ 140737488355328 := by
 obtain ⟨y0, y1, k, rfl, hl, g0, g1⟩ := trod_struct2 Tryz.underlying82 h
 rw [cFa] at hl
 match cs, hl with
 | [v0, v1], _ =>
  simp only [cSt, cI, List.drop_zero, List.take_succ_cons, List.take_zero, List.drop_succ_cons] at g0 g1
  obtain ⟨n0, e0, d0, _⟩ := DataW.trod_string Tryz.underlying9 g0
  obtain ⟨n1, e1, d1, _⟩ := DataW.trod_int Tryz.underlying3 g1
  simp only [List.cons.injEq, and_true] at e0 e1
  subst e0 e1
  have k0 := wk_part Tryz.underlying82 hk (j := 0) (t := 9) rfl rfl
  rw [d0] at k0
  exact ⟨#[.string n0, .int .i64 n1], (n0, n1), rfl, rfl, rfl, wk_str k0⟩
theorem un_of {c : Value} (h : Rd enc w m 24 [c] y) (hk : Wk 24 y.1) : ∃ a cap l, c = .slice a l.length cap ∧ un.Sl w a l.length cap l ∧ l.length ≤ K ∧ ∀ f ∈ l, f.1.size ≤ 140737488355328 := by
 obtain ⟨a, n, cap, l, el, sp, rfl, S, hz, hl, hq, _⟩ := rw_of (Q := fun _ (x : un.Fa) => x.1.size ≤ 140737488355328) Tryz.underlying24 cFa (by decide) h hk (fun k cs z _ h1 h2 => fa_of h1 h2)
 rw [bFa] at hz
 have hn := S.hn
 refine ⟨a, cap, l, by rw [hn], by have := sl_rw S; rwa [← hn] at this, by unfold K; omega, fun f hf => ?_⟩
 obtain ⟨j, hj, rfl⟩ := List.getElem_of_mem hf
 exact hq j (by omega) hj
theorem trod_struct9 {P : Program} {H : Type} {enc : TypeId × Value → H} {w : World} {base : Nat} {spare : Nat → Bool} {held : Bool} {t : TypeId} {f0 f1 f2 f3 f4 f5 f6 f7 f8 : Field} {fuel : Nat} {cs : List Value} {x : DataW H × List MemPlace} (ht : P.underlying t = some (.struct #[f0, f1, f2, f3, f4, f5, f6, f7, f8])) (h : DataW.trod enc P w base spare held fuel t cs = some x) :
  ∃ y0 y1 y2 y3 y4 y5 y6 y7 y8 n, fuel = n + 1 ∧ x.1 = .agg [y0.1, y1.1, y2.1, y3.1, y4.1, y5.1, y6.1, y7.1, y8.1] ∧ cs.length = P.cellsOf t ∧ DataW.trod enc P w base spare held n f0.type ((cs.drop f0.offset).take (P.cellsOf f0.type)) = some y0 ∧ DataW.trod enc P w base spare held n f1.type ((cs.drop f1.offset).take (P.cellsOf f1.type)) = some y1 ∧ DataW.trod enc P w base spare held n f2.type ((cs.drop f2.offset).take (P.cellsOf f2.type)) = some y2 ∧ DataW.trod enc P w base spare held n f3.type ((cs.drop f3.offset).take (P.cellsOf f3.type)) = some y3 ∧ DataW.trod enc P w base spare held n f4.type ((cs.drop f4.offset).take (P.cellsOf f4.type)) = some y4 ∧ DataW.trod enc P w base spare held n f5.type ((cs.drop f5.offset).take (P.cellsOf f5.type)) = some y5 ∧ DataW.trod enc P w base spare held n f6.type ((cs.drop f6.offset).take (P.cellsOf f6.type)) = some y6 ∧ DataW.trod enc P w base spare held n f7.type ((cs.drop f7.offset).take (P.cellsOf f7.type)) = some y7 ∧ DataW.trod enc P w base spare held n f8.type ((cs.drop f8.offset).take (P.cellsOf f8.type)) = some y8 := by
 obtain ⟨xs, n, rfl, rfl, hl, hlen, hf⟩ := DataW.trod_struct ht h
 match xs, hlen with
 | [y0, y1, y2, y3, y4, y5, y6, y7, y8], _ => exact ⟨y0, y1, y2, y3, y4, y5, y6, y7, y8, n, rfl, rfl, hl, by simpa using hf 0 f0 rfl, by simpa using hf 1 f1 rfl, by simpa using hf 2 f2 rfl, by simpa using hf 3 f3 rfl, by simpa using hf 4 f4 rfl, by simpa using hf 5 f5 rfl, by simpa using hf 6 f6 rfl, by simpa using hf 7 f7 rfl, by simpa using hf 8 f8 rfl⟩
theorem trod_struct5 {P : Program} {H : Type} {enc : TypeId × Value → H} {w : World} {base : Nat} {spare : Nat → Bool} {held : Bool} {t : TypeId} {f0 f1 f2 f3 f4 : Field} {fuel : Nat} {cs : List Value} {x : DataW H × List MemPlace} (ht : P.underlying t = some (.struct #[f0, f1, f2, f3, f4])) (h : DataW.trod enc P w base spare held fuel t cs = some x) :
  ∃ y0 y1 y2 y3 y4 n, fuel = n + 1 ∧ x.1 = .agg [y0.1, y1.1, y2.1, y3.1, y4.1] ∧ cs.length = P.cellsOf t ∧ DataW.trod enc P w base spare held n f0.type ((cs.drop f0.offset).take (P.cellsOf f0.type)) = some y0 ∧ DataW.trod enc P w base spare held n f1.type ((cs.drop f1.offset).take (P.cellsOf f1.type)) = some y1 ∧ DataW.trod enc P w base spare held n f2.type ((cs.drop f2.offset).take (P.cellsOf f2.type)) = some y2 ∧ DataW.trod enc P w base spare held n f3.type ((cs.drop f3.offset).take (P.cellsOf f3.type)) = some y3 ∧ DataW.trod enc P w base spare held n f4.type ((cs.drop f4.offset).take (P.cellsOf f4.type)) = some y4 := by
 obtain ⟨xs, n, rfl, rfl, hl, hlen, hf⟩ := DataW.trod_struct ht h
 match xs, hlen with
 | [y0, y1, y2, y3, y4], _ => exact ⟨y0, y1, y2, y3, y4, n, rfl, rfl, hl, by simpa using hf 0 f0 rfl, by simpa using hf 1 f1 rfl, by simpa using hf 2 f2 rfl, by simpa using hf 3 f3 rfl, by simpa using hf 4 f4 rfl⟩
def foL : List Ex → Fo
 | [] => .nil
 | x :: l => .cons x.h x.ar (foL l)
theorem foL_len : ∀ l : List Ex, (foL l).len = l.length
 | [] => rfl
 | x :: l => by simp [foL, Fo.len, foL_len l]
theorem foL_nth : ∀ (l : List Ex) (j : Nat) (h : j < l.length), (foL l).nth j = l[j]
 | x :: l, 0, _ => rfl
 | x :: l, j + 1, h => foL_nth l j (by simpa using h)
theorem foL_szs : ∀ l : List Ex, (∀ x ∈ l, x.szs) → (foL l).szs
 | [], _ => trivial
 | x :: l, h => ⟨(h x (List.mem_cons_self ..)).h, (h x (List.mem_cons_self ..)).ar, foL_szs l fun y hy => h y (List.mem_cons_of_mem _ hy)⟩
theorem foL_lns : ∀ l : List Ex, (∀ x ∈ l, x.lns) → (foL l).lns
 | [], _ => trivial
 | x :: l, h => ⟨(h x (List.mem_cons_self ..)).h, (h x (List.mem_cons_self ..)).ar, foL_lns l fun y hy => h y (List.mem_cons_of_mem _ hy)⟩
theorem foL_sz : ∀ (l : List Ex) (el : List (DataW H)), el.length = l.length → (∀ j (h1 : j < el.length) (h2 : j < l.length), l[j].ar.sz + 1 ≤ Rows.uptoBulk el[j]) → (foL l).sz ≤ Rows.uptoBulkAll el
 | [], _, _, _ => Nat.zero_le _
 | x :: l, [], h, _ => by simp at h
 | x :: l, d :: el, h, hq => by
  have h1 := hq 0 (by simp) (by simp)
  have h2 := foL_sz l el (by simpa using h) fun j h1 h2 => by
   have := hq (j + 1) (by simpa using h1) (by simpa using h2)
   simpa using this
  simp only [List.getElem_cons_zero] at h1
  simp only [foL, Fo.sz, Rows.uptoBulkAll]
  omega
theorem fs_rw {a : Option Addr} {n cap : Nat} {l : List Ex} (h : Rw 12 ExV w a n cap l) : Fs w a n cap (foL l) := by
 refine ⟨?_, by rw [foL_len, h.hn], h.hcap, h.hmax, h.hno⟩
 rw [foL_len]
 refine h.hat.imp id fun ⟨b, off, e, hA⟩ => ⟨b, off, e, fo_of b _ off fun j hj => ?_⟩
 rw [foL_len] at hj
 obtain ⟨cs, _, h2, ua, uc, aa, ac, rfl, h4⟩ := hA j hj
 rw [foL_nth _ _ hj]
 exact ⟨ua, uc, aa, ac, h2, h4⟩
structure ExQ (d : DataW H) (x : Ex) : Prop where
 sz : x.szs
 ln : x.lns
 bulk : x.ar.sz + 1 ≤ Rows.uptoBulk d
theorem args_of {c : Value} (E : ∀ k cs z, k < m → Rd enc w k 29 cs z → Wk 29 z.1 → ∃ (ds : Array Value) (x : Ex), cs = ds.toList ∧ ds.size = 12 ∧ ExV w ds x ∧ ExQ z.1 x)
  (h : Rd enc w m 27 [c] y) (hk : Wk 27 y.1) : ∃ a cap F, c = .slice a F.len cap ∧ Fs w a F.len cap F ∧ F.szs ∧ F.lns ∧ F.sz ≤ Rows.uptoBulk y.1 := by
 obtain ⟨a, n, cap, l, el, sp, rfl, S, hz, hl, hq, hb⟩ := rw_of (Q := ExQ) Tryz.underlying27 cX (by decide) h hk E
 have hF := fs_rw S
 have hn : (foL l).len = n := hF.hn
 have hm : ∀ x ∈ l, ∃ d : DataW H, ExQ d x := fun x hx => by
  obtain ⟨j, hj, rfl⟩ := List.getElem_of_mem hx
  exact ⟨_, hq j (by omega) hj⟩
 refine ⟨a, cap, foL l, by rw [hn], by rw [hn]; exact hF, foL_szs l fun x hx => ?_, foL_lns l fun x hx => ?_, Nat.le_trans (foL_sz l el hl fun j h1 h2 => (hq j h1 h2).bulk) hb⟩
 ·obtain ⟨_, h⟩ := hm x hx
  exact h.sz
 ·obtain ⟨_, h⟩ := hm x hx
  exact h.ln
theorem bulk_part {d : DataW H} {l : List (DataW H)} (h : d ∈ l) : Rows.uptoBulk d ≤ Rows.uptoBulkAll l := by
 induction l with
 | nil => cases h
 | cons x r ih =>
  simp only [Rows.uptoBulkAll]
  rcases List.mem_cons.1 h with rfl | e
  ·omega
  ·have := ih e; omega
theorem ex_of : ∀ (m : Nat) (cs : List Value) (y : DataW H × List MemPlace), Rd enc w m 29 cs y → Wk 29 y.1 → ∃ (ds : Array Value) (x : Ex), cs = ds.toList ∧ ds.size = 12 ∧ ExV w ds x ∧ ExQ y.1 x := by
 intro m
 induction m using Nat.strongRecOn with
 | _ m IH =>
  intro cs y h hk
  obtain ⟨y0, y1, y2, y3, y4, y5, y6, y7, y8, n, rfl, hy, hl, g0, g1, g2, g3, g4, g5, g6, g7, g8⟩ := trod_struct9 Tryz.underlying29 h
  rw [cX] at hl
  rw [hy] at hk ⊢
  match cs, hl with
  | [c0, c1, c2, c3, c4, c5, c6, c7, c8, c9, c10, c11], _ =>
   simp only [cI, cSt, cVa, cSfa, cWi, cSx, List.drop_zero, List.take_succ_cons, List.take_zero, List.drop_succ_cons] at g0 g1 g2 g3 g4 g5 g6 g7 g8
   obtain ⟨n0, e0, d0, _⟩ := DataW.trod_int Tryz.underlying3 g0
   obtain ⟨n1, e1, d1, _⟩ := DataW.trod_string Tryz.underlying9 g1
   obtain ⟨n2, e2, d2, _⟩ := DataW.trod_string Tryz.underlying9 g2
   obtain ⟨n3, e3, d3, _⟩ := DataW.trod_string Tryz.underlying9 g3
   obtain ⟨p0, p1, p2, _, dv, _, f0, f1, f2⟩ := Go.Deep.trod_struct3 Tryz.underlying23 g4
   simp only [cI, cSt, List.drop_zero, List.take_succ_cons, List.take_zero, List.drop_succ_cons] at f0 f1 f2
   obtain ⟨v0, e4, d4, _⟩ := DataW.trod_int Tryz.underlying3 f0
   obtain ⟨v1, e5, d5, _⟩ := DataW.trod_int Tryz.underlying3 f1
   obtain ⟨v2, e6, d6, _⟩ := DataW.trod_string Tryz.underlying9 f2
   obtain ⟨n6, e8, d8, _⟩ := DataW.trod_int Tryz.underlying3 g6
   obtain ⟨q0, q1, _, dw, _, f3, f4⟩ := trod_struct2 Tryz.underlying26 g7
   simp only [cI, List.drop_zero, List.take_succ_cons, List.take_zero, List.drop_succ_cons] at f3 f4
   obtain ⟨w0, e9, d9, _⟩ := DataW.trod_int Tryz.underlying3 f3
   obtain ⟨w1, e10, d10, _⟩ := DataW.trod_int Tryz.underlying3 f4
   simp only [List.cons.injEq, and_true] at e0 e1 e2 e3 e4 e5 e6 e8 e9 e10
   have k1 := wk_part Tryz.underlying29 hk (j := 1) (t := 9) rfl rfl
   have k2 := wk_part Tryz.underlying29 hk (j := 2) (t := 9) rfl rfl
   have k3 := wk_part Tryz.underlying29 hk (j := 3) (t := 9) rfl rfl
   have k4 := wk_part Tryz.underlying29 hk (j := 4) (t := 23) rfl rfl
   have k5 := wk_part Tryz.underlying29 hk (j := 5) (t := 24) rfl rfl
   have k8 := wk_part Tryz.underlying29 hk (j := 8) (t := 27) rfl rfl
   rw [d1] at k1
   rw [d2] at k2
   rw [d3] at k3
   rw [dv] at k4
   have k6 := wk_part Tryz.underlying23 k4 (j := 2) (t := 9) rfl rfl
   rw [d6] at k6
   obtain ⟨ua, uc, u, rfl, hU, hul, _⟩ := un_of g5 k5
   obtain ⟨aa, ac, F, rfl, hF, hs, hln, hfb⟩ := args_of (fun k cs z hk' h1 h2 => IH k (by omega) cs z h1 h2) g8 k8
   subst e0 e1 e2 e3 e4 e5 e6 e8 e9 e10
   refine ⟨exC ⟨n0, n1, n2, n3, v0, v1, v2, u, n6, w0, w1⟩ F.len ua uc aa ac, ⟨⟨n0, n1, n2, n3, v0, v1, v2, u, n6, w0, w1⟩, F⟩, rfl, rfl, ⟨ua, uc, aa, ac, rfl, hU, hF⟩, ⟨⟨wk_str k1, wk_str k2, wk_str k3, wk_str k6⟩, hs⟩, ⟨hul, hln⟩, ?_⟩
   show F.sz + 1 ≤ _
   have hp : Rows.uptoBulk y8.1 ≤ Rows.uptoBulkAll [y0.1, y1.1, y2.1, y3.1, y4.1, y5.1, y6.1, y7.1, y8.1] := bulk_part (by simp)
   show F.sz + 1 ≤ Rows.uptoBulkAll [y0.1, y1.1, y2.1, y3.1, y4.1, y5.1, y6.1, y7.1, y8.1] + 1
   omega
end
end Go.Proofs.YtbahfelnbofjjaaGreatDoor.ch
