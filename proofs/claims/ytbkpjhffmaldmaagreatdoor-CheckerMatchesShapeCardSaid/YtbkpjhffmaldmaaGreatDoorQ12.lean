/-
  What the examples are made of.
-/
import Derived.Test.YtbkpjhffmaldmaaGreatDoorQ11
namespace Go.Proofs.YtbkpjhffmaldmaaGreatDoor.ch
open Go.RowKit dec

/-- A function that returns an expression. -/
def ExR (x : Ex) (w : World) (e : Ending) (w' : World) : Prop := ∃ cs, e = .returned (.agg cs) ∧ ExV w' cs x ∧ Below w.heap.size w w'
theorem ret_X {fn : Func} {R : Ending → World → Prop} {p : Tmp} (h : fn.results = #[.cell p 29]) (tmps : Array Value) (w : World) (g : Nat) (T' : TypeId) (cells : Array Value) (hp : tmps.getD p undef = .pointer (some ⟨g, 0, none⟩))
    (hB : Blk w g T' cells) (hc : cells.size = 12) (hR : R (.returned (.agg cells)) w) : bodyPost Tryz.prog fn R .ret ⟨tmps, []⟩ w := ret_T infX Tryz.underlying29 rfl h tmps w g T' cells hp hB hc hR
def feaX (n : ByteArray) : Ex := ⟨{ h0 with k := 3, nm := n }, .nil⟩
def numX (k n : Int) (u : List un.Fa) : Ex := ⟨{ h0 with k := 1, vk := k, vn := n, un := u }, .nil⟩
def binX (op : ByteArray) (x y : Ex) : Ex := ⟨{ h0 with k := 7, op := op }, .cons x.h x.ar (.cons y.h y.ar .nil)⟩
def truX : Ex := ⟨{ h0 with k := 1, vk := 1, vn := 1 }, .nil⟩
def ovrX (op tb f : ByteArray) : Ex := ⟨{ h0 with k := 5, op := op, tb := tb, wk := 1 }, .cons { h0 with k := 2, nm := f } .nil (.cons truX.h .nil .nil)⟩
def eurU (k : Int) : List un.Fa := [(⟨#[101, 117, 114]⟩, k)]
theorem exV_flat (w : World) (h : Hd) (hu : h.un = []) : ExV w (exC h 0 none 0 none 0) ⟨h, .nil⟩ := ⟨none, 0, none, 0, by simp [exC, hu, Fo.len], by rw [hu]; exact .nil _, Fs.nil _⟩
theorem rng_at {w : World} {g : Nat} {T : TypeId} {cs : Array Value} {L : List Value} (h : Blk w g T cs) (hc : cs.toList = L) (o : Nat) (l : List Value) (hl : (L.drop o).take l.length = l) : w.rangeAt g o l := blk_range h o l (by rw [hc]; exact hl)
theorem ec_flat {w w' : World} {h : Hd} {ua aa : Option Addr} {uc ac : Nat} (hu : h.un = []) (E : Ec w ⟨h, .nil⟩ ua uc aa ac) : Ec w' ⟨h, .nil⟩ ua uc aa ac := by
  obtain ⟨U, A⟩ := E
  refine ⟨⟨.inl ?_, U.hn, U.hcap, U.hmax, U.hno⟩, ⟨.inl rfl, A.hn, A.hcap, A.hmax, A.hno⟩⟩
  show h.un.length = 0
  rw [hu]
  rfl
/-- A slice of two expressions that lies in a block. -/
theorem fs_two {w : World} {g : Nat} {T : TypeId} {cs : Array Value} {x y : Ex} {ua aa ub ab : Option Addr} {uc ac ud ad : Nat} (hx : Ec w x ua uc aa ac) (hy : Ec w y ub ud ab ad) (hB : Blk w g T cs) (hc : cs.toList = (exC x.h x.ar.len ua uc aa ac).toList ++ (exC y.h y.ar.len ub ud ab ad).toList) :
    Fs w (some ⟨g, 0, none⟩) 2 2 (.cons x.h x.ar (.cons y.h y.ar .nil)) := by
  have h1 : w.rangeAt g 0 (exC x.h x.ar.len ua uc aa ac).toList := rng_at hB hc 0 _ (by rw [List.drop_zero]; exact List.take_left)
  have h2 : w.rangeAt g (0 + 12) (exC y.h y.ar.len ub ud ab ad).toList := rng_at hB hc 12 _ (by rw [show (12 : Nat) = (exC x.h x.ar.len ua uc aa ac).toList.length from rfl, List.drop_left, List.take_length])
  refine ⟨.inr ⟨g, 0, rfl, ?_⟩, rfl, Nat.le_refl _, by decide, fun e => by cases e⟩
  unfold FoV
  refine ⟨⟨ua, uc, aa, ac, h1, hx.us, ⟨hx.ar.hcap, hx.ar.hmax, hx.ar.hno⟩, hx.ar.hat⟩, ?_⟩
  unfold FoV
  refine ⟨⟨ub, ud, ab, ad, h2, hy.us, ⟨hy.ar.hcap, hy.ar.hmax, hy.ar.hno⟩, hy.ar.hat⟩, ?_⟩
  unfold FoV
  trivial
theorem fs_one {w : World} {g : Nat} {T : TypeId} {cs : Array Value} {x : Ex} {ua aa : Option Addr} {uc ac : Nat} (hx : Ec w x ua uc aa ac) (hB : Blk w g T cs) (hc : cs.toList = (exC x.h x.ar.len ua uc aa ac).toList) :
    Fs w (some ⟨g, 0, none⟩) 1 1 (.cons x.h x.ar .nil) := by
  have h1 : w.rangeAt g 0 (exC x.h x.ar.len ua uc aa ac).toList := rng_at hB hc 0 _ (by rw [List.drop_zero]; exact List.take_length)
  refine ⟨.inr ⟨g, 0, rfl, ?_⟩, rfl, Nat.le_refl _, by decide, fun e => by cases e⟩
  unfold FoV
  refine ⟨⟨ua, uc, aa, ac, h1, hx.us, ⟨hx.ar.hcap, hx.ar.hmax, hx.ar.hno⟩, hx.ar.hat⟩, ?_⟩
  unfold FoV
  trivial
theorem fs_three {w : World} {g : Nat} {T : TypeId} {cs : Array Value} {x y z : Ex} {ua aa ub ab ue ae : Option Addr} {uc ac ud ad uf af : Nat} (hx : Ec w x ua uc aa ac) (hy : Ec w y ub ud ab ad) (hz : Ec w z ue uf ae af) (hB : Blk w g T cs) (hc : cs.toList = (exC x.h x.ar.len ua uc aa ac).toList ++ ((exC y.h y.ar.len ub ud ab ad).toList ++ (exC z.h z.ar.len ue uf ae af).toList)) :
    Fs w (some ⟨g, 0, none⟩) 3 3 (.cons x.h x.ar (.cons y.h y.ar (.cons z.h z.ar .nil))) := by
  have h1 : w.rangeAt g 0 (exC x.h x.ar.len ua uc aa ac).toList := rng_at hB hc 0 _ (by rw [List.drop_zero]; exact List.take_left)
  have h2 : w.rangeAt g (0 + 12) (exC y.h y.ar.len ub ud ab ad).toList := rng_at hB hc 12 _ (by rw [show (12 : Nat) = (exC x.h x.ar.len ua uc aa ac).toList.length from rfl, List.drop_left]; exact List.take_left)
  have h3 : w.rangeAt g (0 + 12 + 12) (exC z.h z.ar.len ue uf ae af).toList := rng_at hB hc 24 _ (by rw [← List.append_assoc, show (24 : Nat) = ((exC x.h x.ar.len ua uc aa ac).toList ++ (exC y.h y.ar.len ub ud ab ad).toList).length from rfl, List.drop_left, List.take_length])
  refine ⟨.inr ⟨g, 0, rfl, ?_⟩, rfl, Nat.le_refl _, by decide, fun e => by cases e⟩
  unfold FoV
  refine ⟨⟨ua, uc, aa, ac, h1, hx.us, ⟨hx.ar.hcap, hx.ar.hmax, hx.ar.hno⟩, hx.ar.hat⟩, ?_⟩
  unfold FoV
  refine ⟨⟨ub, ud, ab, ad, h2, hy.us, ⟨hy.ar.hcap, hy.ar.hmax, hy.ar.hno⟩, hy.ar.hat⟩, ?_⟩
  unfold FoV
  refine ⟨⟨ue, uf, ae, af, h3, hz.us, ⟨hz.ar.hcap, hz.ar.hmax, hz.ar.hno⟩, hz.ar.hat⟩, ?_⟩
  unfold FoV
  trivial
theorem sl_one {w : World} {g : Nat} {T : TypeId} {n : ByteArray} {k : Int} (hB : Blk w g T #[.string n, .int .i64 k]) : un.Sl w (some ⟨g, 0, none⟩) 1 1 [(n, k)] :=
  ⟨.inr ⟨g, 0, rfl, fun j hj => by
    have : j = 0 := by simpa using hj
    subst this
    exact ⟨hB.cell 0, hB.cell 1⟩⟩, rfl, Nat.le_refl _, by decide, fun e => by cases e⟩
theorem rw_one {α : Type} {sz : Nat} {V : World → Array Value → α → Prop} {w : World} {g : Nat} {T : TypeId} {cs : Array Value} {x : α} (hB : Blk w g T cs) (hs : cs.size = sz) (hV : V w cs x) : Rw sz V w (some ⟨g, 0, none⟩) 1 1 [x] :=
  ⟨.inr ⟨g, 0, rfl, fun j hj => by
    have : j = 0 := by simpa using hj
    subst this
    exact ⟨cs, hs, by rw [Nat.zero_mul]; exact rng_at hB rfl 0 _ (by rw [List.drop_zero, List.take_length]), hV⟩⟩, rfl, Nat.le_refl _, by decide, fun e => by cases e⟩
theorem rw_two {α : Type} {sz : Nat} {V : World → Array Value → α → Prop} {w : World} {g : Nat} {T : TypeId} {cs c1 c2 : Array Value} {x y : α} (hB : Blk w g T cs) (hc : cs.toList = c1.toList ++ c2.toList) (h1 : c1.size = sz) (h2 : c2.size = sz) (V1 : V w c1 x) (V2 : V w c2 y) : Rw sz V w (some ⟨g, 0, none⟩) 2 2 [x, y] :=
  ⟨.inr ⟨g, 0, rfl, fun j hj => by
    have hl : c1.toList.length = sz := by rw [Array.length_toList, h1]
    have hj2 : j < 2 := hj
    rcases Nat.lt_or_ge j 1 with h | h
    · obtain rfl : j = 0 := by omega
      exact ⟨c1, h1, by rw [Nat.zero_mul]; exact rng_at hB hc 0 _ (by rw [List.drop_zero]; exact List.take_left), V1⟩
    · obtain rfl : j = 1 := by omega
      exact ⟨c2, h2, by rw [Nat.one_mul, Nat.zero_add]; exact rng_at hB hc sz _ (by rw [← hl, List.drop_left, List.take_length]), V2⟩⟩, rfl, Nat.le_refl _, by decide, fun e => by cases e⟩
theorem bw_new (w : World) (T : TypeId) (cs : Array Value) (g : Nat) (h : g = w.heap.size) : Blk (w.alloc (.cells cs T)) g T cs := h ▸ Blk.new w T cs
theorem sz_al (w : World) (o : Obj) : (w.alloc o).heap.size = w.heap.size + 1 := by simp
set_option maxRecDepth 100000 in
theorem feature_x (n : ByteArray) (w : World) : Calls Tryz.prog 34 #[.string n] w (ExR (feaX n) w) := by
  go_enter Tryz.func34, Tryz.ntmps34
  go_wp2_with fail
  exact ret_X Tryz.results34 _ _ _ _ (exC (feaX n).h 0 none 0 none 0) rfl (Blk.new _ _ _) rfl ⟨_, rfl, exV_flat _ _ rfl, balloc (b0 w) _⟩
set_option maxRecDepth 100000 in
theorem true_x (w : World) : Calls Tryz.prog 61 #[] w fun e w' => e = .returned (.agg (exC truX.h 0 none 0 none 0)) ∧ Below w.heap.size w w' := by
  go_enter Tryz.func61, Tryz.ntmps61
  go_wp2_with fail
  exact ret_X Tryz.results61 _ _ _ _ (exC truX.h 0 none 0 none 0) rfl (Blk.new _ _ _) rfl ⟨rfl, balloc (b0 w) _⟩
set_option maxRecDepth 100000 in
theorem eur_x (k : Int) (w : World) : Calls Tryz.prog 37 #[.int .i64 k] w fun e w' => ∃ g, e = .returned (.slice (some ⟨g, 0, none⟩) 1 1) ∧ Blk w' g 66 #[.string ⟨#[101, 117, 114]⟩, .int .i64 k] ∧ w.heap.size ≤ g ∧ Below w.heap.size w w' := by
  go_enter Tryz.func37, Tryz.ntmps37
  go_wp2_with fail
  go_ret
  exact ⟨_, rfl, Blk.new _ _ _, Nat.le_refl _, balloc (b0 w) _⟩
set_option maxRecDepth 100000 in
theorem number_x (k n : Int) (u : List un.Fa) (a : Option Addr) (c : Nat) (w : World) : Calls Tryz.prog 38 #[.int .i64 k, .int .i64 n, .slice a u.length c] w fun e w' => e = .returned (.agg (exC (numX k n u).h 0 a c none 0)) ∧ Below w.heap.size w w' := by
  go_enter Tryz.func38, Tryz.ntmps38
  go_wp2_with fail
  exact ret_X Tryz.results38 _ _ _ _ (exC (numX k n u).h 0 a c none 0) rfl (Blk.new _ _ _) rfl ⟨rfl, balloc (b0 w) _⟩
set_option maxRecDepth 100000 in
set_option maxHeartbeats 1000000 in
theorem binary_x (op : ByteArray) (x y : Ex) (cs ds : Array Value) (w : World) (hx : ExV w cs x) (hy : ExV w ds y) : Calls Tryz.prog 26 #[.string op, .agg cs, .agg ds] w (ExR (binX op x y) w) := by
  obtain ⟨ua, uc, aa, ac, rfl, E1⟩ := hx
  obtain ⟨ub, ud, ab, ad, rfl, E2⟩ := hy
  have HE1 := Lib.hid E1
  have HE2 := Lib.hid E2
  clear E1 E2
  unfold exC
  go_enter Tryz.func26, Tryz.ntmps26
  go_wp2_with fail
  have X1 := HE1.out
  have X2 := HE2.out
  have hb := balloc (balloc (balloc (balloc (b0 w) (.cells (exC x.h x.ar.len ua uc aa ac) 29)) (.cells (exC y.h y.ar.len ub ud ab ad) 29)) (.cells (exC (binX op x y).h 2 none 0 (some ⟨w.heap.size + 1 + 1 + 1, 0, none⟩) 2) 29)) (.cells ((exC x.h x.ar.len ua uc aa ac) ++ (exC y.h y.ar.len ub ud ab ad)) 29)
  refine ret_X Tryz.results26 _ _ (w.heap.size + 1 + 1) _ (exC (binX op x y).h 2 none 0 (some ⟨w.heap.size + 1 + 1 + 1, 0, none⟩) 2) rfl ((bw_new _ _ _ _ (by rw [sz_al, sz_al])).past _) rfl ⟨_, rfl, ⟨none, 0, some ⟨w.heap.size + 1 + 1 + 1, 0, none⟩, 2, rfl, .nil _, ?_⟩, hb⟩
  exact fs_two (X1.keeps hb) (X2.keeps hb) (bw_new _ _ _ _ (by rw [sz_al, sz_al, sz_al])) rfl
set_option maxRecDepth 100000 in
set_option maxHeartbeats 1000000 in
theorem over_x (op tb f : ByteArray) (w : World) : Calls Tryz.prog 36 #[.string op, .string tb, .string f] w fun e w' => ∃ g, e = .returned (.agg (exC (ovrX op tb f).h 2 none 0 (some ⟨g, 0, none⟩) 2)) ∧ Blk w' g 29 ((exC { h0 with k := 2, nm := f } 0 none 0 none 0) ++ (exC truX.h 0 none 0 none 0)) ∧ w.heap.size ≤ g ∧ Below w.heap.size w w' := by
  go_enter Tryz.func36, Tryz.ntmps36
  have K := Lib.hid (fun (w : World) => true_x w)
  go_wp2_with fail
  refine (K.out _).mono ?_
  rintro e w1 ⟨rfl, b1⟩
  clear K
  have B1 := Lib.hid ((Blk.new w 29 (exC h0 0 none 0 none 0)).below b1 (by rw [sz_al]; omega))
  have bb := Lib.hid (bnext (balloc (b0 w) (.cells (exC h0 0 none 0 none 0) 29)) b1)
  have hl := Lib.hid (show w.heap.size + 1 ≤ w1.heap.size from by have h9 := b1.size; rw [sz_al] at h9; exact h9)
  clear b1
  unfold exC
  go_wp2_with (first | (refine arm_storeT infX (.tmp 6) (.tmp 14) rfl rfl _ _ _ _ rfl rfl (B1.out.past _) rfl rfl (by simp [Value.oneCell']) ?_; intro w2 L2 hs2))
  have hl1 := hl.out
  have S1 := hs2.below (S := w.heap.size) (Nat.le_refl _)
  exact ret_X Tryz.results36 _ _ w.heap.size _ (exC (ovrX op tb f).h 2 none 0 (some ⟨w1.heap.size, 0, none⟩) 2) rfl L2 rfl ⟨w1.heap.size, rfl, (Blk.new w1 _ _).st hs2 (by omega), by omega, (bnext bb.out (balloc (b0 w1) _)).trans S1⟩
end Go.Proofs.YtbkpjhffmaldmaaGreatDoor.ch
namespace Go.Proofs.YtbkpjhffmaldmaaGreatDoor.ch
open Go.RowKit dec

def shopT : List Tb := [⟨⟨#[111, 114, 100, 101, 114, 115]⟩, ⟨#[117, 115, 101, 114]⟩, [⟨⟨#[97, 109, 111, 117, 110, 116]⟩, ⟨3, eurU 1, .empty⟩⟩, ⟨⟨#[115, 104, 111, 112]⟩, ⟨5, [], ⟨#[115, 104, 111, 112]⟩⟩⟩], 0⟩]
def rnkF : Fe := ⟨⟨#[114, 97, 110, 107]⟩, ⟨#[115, 104, 111, 112]⟩, ⟨2, [], .empty⟩, numX 2 1 [], 1⟩
def totF : Fe := ⟨⟨#[116, 111, 116, 97, 108]⟩, ⟨#[117, 115, 101, 114]⟩, ⟨3, eurU 1, .empty⟩, ovrX ⟨#[115, 117, 109]⟩ ⟨#[111, 114, 100, 101, 114, 115]⟩ ⟨#[97, 109, 111, 117, 110, 116]⟩, 1⟩
def shopG : List Fe := [rnkF, totF]
def ctZ : Array Value := #[.slice none 0 0, .slice none 0 0, .slice none 0 0, .slice none 0 0]
def fsC (g : Nat) : Array Value := #[.string ⟨#[97, 109, 111, 117, 110, 116]⟩, .int .i64 3, .slice (some ⟨g, 0, none⟩) 1 1, .string ⟨#[]⟩, .string ⟨#[115, 104, 111, 112]⟩, .int .i64 5, .slice none 0 0, .string ⟨#[115, 104, 111, 112]⟩]
def tbS (g : Nat) : Array Value := #[.string ⟨#[111, 114, 100, 101, 114, 115]⟩, .string ⟨#[117, 115, 101, 114]⟩, .slice (some ⟨g, 0, none⟩) 2 2, .int .i64 0]
def nuC : Array Value := #[.int .i64 1, .string ⟨#[]⟩, .string ⟨#[]⟩, .string ⟨#[]⟩, .int .i64 2, .int .i64 1, .string ⟨#[]⟩, .slice none 0 0, .int .i64 0, .int .i64 0, .int .i64 0, .slice none 0 0]
def ovC (h : Nat) : Array Value := #[.int .i64 5, .string ⟨#[115, 117, 109]⟩, .string ⟨#[]⟩, .string ⟨#[111, 114, 100, 101, 114, 115]⟩, .int .i64 0, .int .i64 0, .string ⟨#[]⟩, .slice none 0 0, .int .i64 0, .int .i64 1, .int .i64 0, .slice (some ⟨h, 0, none⟩) 2 2]
def rnC : Array Value := #[.string ⟨#[114, 97, 110, 107]⟩, .string ⟨#[115, 104, 111, 112]⟩, .int .i64 2, .slice none 0 0, .string ⟨#[]⟩, .int .i64 1, .string ⟨#[]⟩, .string ⟨#[]⟩, .string ⟨#[]⟩, .int .i64 2, .int .i64 1, .string ⟨#[]⟩, .slice none 0 0, .int .i64 0, .int .i64 0, .int .i64 0, .slice none 0 0, .int .i64 1]
def toC (g h : Nat) : Array Value := #[.string ⟨#[116, 111, 116, 97, 108]⟩, .string ⟨#[117, 115, 101, 114]⟩, .int .i64 3, .slice (some ⟨g, 0, none⟩) 1 1, .string ⟨#[]⟩, .int .i64 5, .string ⟨#[115, 117, 109]⟩, .string ⟨#[]⟩, .string ⟨#[111, 114, 100, 101, 114, 115]⟩, .int .i64 0, .int .i64 0, .string ⟨#[]⟩, .slice none 0 0, .int .i64 0, .int .i64 1, .int .i64 0, .slice (some ⟨h, 0, none⟩) 2 2, .int .i64 1]
def ocC : Array Value := #[.int .i64 2, .string ⟨#[]⟩, .string ⟨#[97, 109, 111, 117, 110, 116]⟩, .string ⟨#[]⟩, .int .i64 0, .int .i64 0, .string ⟨#[]⟩, .slice none 0 0, .int .i64 0, .int .i64 0, .int .i64 0, .slice none 0 0, .int .i64 1, .string ⟨#[]⟩, .string ⟨#[]⟩, .string ⟨#[]⟩, .int .i64 1, .int .i64 1, .string ⟨#[]⟩, .slice none 0 0, .int .i64 0, .int .i64 0, .int .i64 0, .slice none 0 0]
def feS (g h : Nat) : Array Value := #[.string ⟨#[114, 97, 110, 107]⟩, .string ⟨#[115, 104, 111, 112]⟩, .int .i64 2, .slice none 0 0, .string ⟨#[]⟩, .int .i64 1, .string ⟨#[]⟩, .string ⟨#[]⟩, .string ⟨#[]⟩, .int .i64 2, .int .i64 1, .string ⟨#[]⟩, .slice none 0 0, .int .i64 0, .int .i64 0, .int .i64 0, .slice none 0 0, .int .i64 1, .string ⟨#[116, 111, 116, 97, 108]⟩, .string ⟨#[117, 115, 101, 114]⟩, .int .i64 3, .slice (some ⟨g, 0, none⟩) 1 1, .string ⟨#[]⟩, .int .i64 5, .string ⟨#[115, 117, 109]⟩, .string ⟨#[]⟩, .string ⟨#[111, 114, 100, 101, 114, 115]⟩, .int .i64 0, .int .i64 0, .string ⟨#[]⟩, .slice none 0 0, .int .i64 0, .int .i64 1, .int .i64 0, .slice (some ⟨h, 0, none⟩) 2 2, .int .i64 1]
theorem shop_v {w : World} {ts fe g1 fl g3 g4 : Nat} (T : Blk w ts 39 (tbS fl)) (F : Blk w fe 54 (feS g3 g4)) (U1 : Blk w g1 66 #[.string ⟨#[101, 117, 114]⟩, .int .i64 1]) (L : Blk w fl 79 (fsC g1)) (U3 : Blk w g3 66 #[.string ⟨#[101, 117, 114]⟩, .int .i64 1]) (O : Blk w g4 29 ocC) :
    CtV w #[.slice (some ⟨ts, 0, none⟩) 1 1, .slice (some ⟨fe, 0, none⟩) 2 2, .slice none 0 0, .slice none 0 0] shopT shopG := by
  have e1 : Ec w ⟨{ h0 with k := 2, nm := ⟨#[97, 109, 111, 117, 110, 116]⟩ }, .nil⟩ none 0 none 0 := ⟨.nil _, Fs.nil _⟩
  have e2 : Ec w truX none 0 none 0 := ⟨.nil _, Fs.nil _⟩
  have f1 := fs_two e1 e2 O rfl
  have v1 : FiV w #[.string ⟨#[97, 109, 111, 117, 110, 116]⟩, .int .i64 3, .slice (some ⟨g1, 0, none⟩) 1 1, .string ⟨#[]⟩] ⟨⟨#[97, 109, 111, 117, 110, 116]⟩, ⟨3, eurU 1, .empty⟩⟩ := ⟨_, _, rfl, sl_one U1⟩
  have v2 : FiV w #[.string ⟨#[115, 104, 111, 112]⟩, .int .i64 5, .slice none 0 0, .string ⟨#[115, 104, 111, 112]⟩] ⟨⟨#[115, 104, 111, 112]⟩, ⟨5, [], ⟨#[115, 104, 111, 112]⟩⟩⟩ := ⟨_, _, rfl, .nil _⟩
  have v3 : FeV w rnC rnkF := ⟨none, 0, none, 0, none, 0, rfl, .nil _, ⟨.nil _, Fs.nil _⟩⟩
  have v4 : FeV w (toC g3 g4) totF := ⟨some ⟨g3, 0, none⟩, 1, none, 0, some ⟨g4, 0, none⟩, 2, rfl, sl_one U3, ⟨.nil _, f1⟩⟩
  exact ⟨some ⟨ts, 0, none⟩, 1, 1, some ⟨fe, 0, none⟩, 2, 2, none, 0, 0, none, 0, 0, rfl, rw_one T rfl ⟨some ⟨fl, 0, none⟩, 2, rfl, rw_two L rfl rfl rfl v1 v2⟩, rw_two F rfl rfl rfl v3 v4⟩
theorem num_c (w : World) : Calls Tryz.prog 38 #[.int .i64 2, .int .i64 1, .slice none 0 0] w fun e w' => e = .returned (.agg nuC) ∧ Below w.heap.size w w' := number_x 2 1 [] none 0 w
theorem ovr_c (w : World) : Calls Tryz.prog 36 #[.string ⟨#[115, 117, 109]⟩, .string ⟨#[111, 114, 100, 101, 114, 115]⟩, .string ⟨#[97, 109, 111, 117, 110, 116]⟩] w fun e w' => ∃ g, e = .returned (.agg (ovC g)) ∧ Blk w' g 29 ocC ∧ w.heap.size ≤ g ∧ Below w.heap.size w w' := over_x _ _ _ w
set_option maxRecDepth 100000 in
set_option maxHeartbeats 4000000 in
theorem shop_x (w : World) : Calls Tryz.prog 60 #[] w fun e w' => ∃ cs, e = .returned (.agg cs) ∧ CtV w' cs shopT shopG ∧ Below w.heap.size w w' := by
  have K1 := Lib.hid (fun (k : Int) (w : World) => eur_x k w)
  have K2 := Lib.hid (fun (w : World) => num_c w)
  have K3 := Lib.hid (fun (w : World) => ovr_c w)
  go_enter Tryz.func60, Tryz.ntmps60
  go_wp2_with fail
  refine (K1.out 1 _).mono ?_
  rintro e w1 ⟨g1, rfl, U1, hg1, b1⟩
  have B1 := Lib.hid (bnext (balloc (b0 w) (.cells ctZ 46)) b1)
  have C0 := Lib.hid ((Blk.new w 46 ctZ).below b1 (by rw [sz_al]; omega))
  rw [sz_al] at hg1
  have H1 := Lib.hid (And.intro hg1 U1)
  have z1 := Lib.hid (show w.heap.size + 1 ≤ w1.heap.size from by have h9 := b1.size; rw [sz_al] at h9; exact h9)
  clear hg1 U1 b1
  go_wp2_with fail
  refine (K2.out _).mono ?_
  rintro e w2 ⟨rfl, b2⟩
  have n2 := Lib.hid (balloc (balloc (b0 w1) (.cells (fsC g1) 79)) (.cells (tbS w1.heap.size) 39))
  have B2 := Lib.hid (bnext B1.out (bnext n2.out b2))
  have C1 := Lib.hid (C0.out.below (bnext n2.out b2) (by have := z1.out; omega))
  have H2 := Lib.hid (And.intro H1.out.1 (H1.out.2.below (bnext n2.out b2) H1.out.2.lt))
  have F2 := Lib.hid (((Blk.new w1 79 (fsC g1)).past (.cells (tbS w1.heap.size) 39)).below b2 (by rw [sz_al, sz_al]; omega))
  have T2 := Lib.hid ((bw_new (w1.alloc (.cells (fsC g1) 79)) 39 (tbS w1.heap.size) (w1.heap.size + 1) (sz_al _ _).symm).below b2 (by rw [sz_al, sz_al]; omega))
  have z2 := Lib.hid (show w1.heap.size + 2 ≤ w2.heap.size from by have h9 := b2.size; rw [sz_al, sz_al] at h9; exact h9)
  clear K2 C0 H1 n2 b2
  unfold nuC
  go_wp2_with (first | (refine arm_storeT infFe (.tmp 2) (.tmp 13) rfl rfl _ _ _ _ rfl rfl (Blk.new _ _ _) rfl rfl (by simp [Value.oneCell']) ?_; intro wa LA hsa; have bbA := (balloc (b0 w2) _).trans (hsa.below (Nat.le_refl _)); have zzA := hsa.size.trans (sz_al _ _); have BA := Lib.hid bbA; have GA := Lib.hid LA; have ZA := Lib.hid zzA; clear LA hsa bbA zzA))
  refine (K1.out 1 _).mono ?_
  rintro e w3 ⟨g3, rfl, U3, hg3, b3⟩
  have n3 := Lib.hid (bnext BA.out b3)
  have B3 := Lib.hid (bnext B2.out n3.out)
  have C2 := Lib.hid (C1.out.below n3.out (by have := z1.out; have := z2.out; omega))
  have H3 := Lib.hid (And.intro H2.out.1 (H2.out.2.below n3.out H2.out.2.lt))
  have F3 := Lib.hid (F2.out.below n3.out F2.out.lt)
  have T3 := Lib.hid (T2.out.below n3.out T2.out.lt)
  have R3 := Lib.hid (GA.out.below b3 GA.out.lt)
  rw [ZA.out] at hg3
  have I3 := Lib.hid (And.intro hg3 U3)
  have z3 := Lib.hid (show w2.heap.size + 1 ≤ w3.heap.size from by have h9 := b3.size; rw [ZA.out] at h9; exact h9)
  clear K1 C1 H2 F2 T2 hg3 U3 n3 b3 BA GA ZA
  go_wp2_with fail
  refine (K3.out _).mono ?_
  rintro e w4 ⟨g4, rfl, U4, hg4, b4⟩
  have B4 := Lib.hid (bnext B3.out b4)
  have C3 := Lib.hid (C2.out.below b4 C2.out.lt)
  have H4 := Lib.hid (And.intro H3.out.1 (H3.out.2.below b4 H3.out.2.lt))
  have F4 := Lib.hid (F3.out.below b4 F3.out.lt)
  have T4 := Lib.hid (T3.out.below b4 T3.out.lt)
  have R4 := Lib.hid (R3.out.below b4 R3.out.lt)
  have I4 := Lib.hid (And.intro I3.out.1 (I3.out.2.below b4 I3.out.2.lt))
  have J4 := Lib.hid (And.intro hg4 U4)
  have z4 := Lib.hid (show w3.heap.size ≤ w4.heap.size from b4.size)
  clear K3 C2 H3 F3 T3 R3 I3 hg4 U4 b4
  unfold ovC
  unfold tbS at T4
  unfold ctZ at C3
  go_wp2_with (first | (refine arm_storeT infFe (.tmp 3) (.tmp 17) rfl rfl _ _ _ _ rfl rfl (Blk.new _ _ _) rfl rfl (by simp [Value.oneCell']) ?_; intro wb LB hsb; have bbB := (balloc (b0 w4) _).trans (hsb.below (Nat.le_refl _)); have zzB := hsb.size.trans (sz_al _ _); have BB := Lib.hid bbB; have GB := Lib.hid LB; have ZB := Lib.hid zzB; have T5 := Lib.hid (T4.out.below bbB T4.out.lt); have R5 := Lib.hid (R4.out.below bbB R4.out.lt); have C5 := Lib.hid (C3.out.below bbB C3.out.lt); clear LB hsb bbB zzB T4 R4 C3) | (refine arm_loadT infTb Tryz.underlying39 rfl (.tmp 1) rfl rfl _ _ _ rfl T5.out rfl ?_) | (refine arm_loadT infFe Tryz.underlying54 rfl (.tmp 2) rfl rfl _ _ _ rfl (R5.out.past _) rfl ?_) | (refine arm_loadT infFe Tryz.underlying54 rfl (.tmp 3) rfl rfl _ _ _ rfl (GB.out.past _) rfl ?_) | (refine arm_storeT infCa (.tmp 0) (.tmp 23) rfl rfl _ _ _ _ rfl rfl ((C5.out.past _).past _) rfl rfl (by simp [Value.oneCell']) ?_; intro w5 L5 hs5))
  have q1 := z1.out
  have q2 := z2.out
  have q3 := z3.out
  have q4 := z4.out
  have qh := H4.out.1
  have qi := I4.out.1
  have qj := J4.out.1
  have qb := ZB.out
  have P := fun (W : World) (hW : Below w4.heap.size w4 W) (g : Nat) (T : TypeId) (cs : Array Value) (h : Blk w4 g T cs) (hs : St w.heap.size W w5) (hg : w.heap.size + 1 ≤ g) => (h.below hW h.lt).st hs (Nat.ne_of_gt hg)
  have bW := fun c d => bnext BB.out (below_two wb c d)
  have TB := (((Blk.new wb 39 (tbS w1.heap.size)).past (.cells (feS g3 g4) 54))).st hs5 (by omega)
  have FB := (bw_new (wb.alloc (.cells (tbS w1.heap.size) 39)) 54 (feS g3 g4) (wb.heap.size + 1) (sz_al _ _).symm).st hs5 (by omega)
  have V := shop_v TB FB (P _ (bW _ _) _ _ _ H4.out.2 hs5 qh) (P _ (bW _ _) _ _ _ F4.out hs5 q1) (P _ (bW _ _) _ _ _ I4.out.2 hs5 (by omega)) (P _ (bW _ _) _ _ _ J4.out.2 hs5 (by omega))
  exact ret_T infCa Tryz.underlying46 rfl Tryz.results60 _ _ w.heap.size _ _ rfl L5 rfl ⟨_, rfl, V, (bnext B4.out (bW _ _)).trans (hs5.below (Nat.le_refl _))⟩
end Go.Proofs.YtbkpjhffmaldmaaGreatDoor.ch
namespace Go.Proofs.YtbkpjhffmaldmaaGreatDoor.ch
open Go.RowKit dec

theorem ct_keeps {w w' : World} {cs : Array Value} {ts : List Tb} {gs : List Fe} (h : CtV w cs ts gs) (hb : Below w.heap.size w w') : CtV w' cs ts gs := by
  obtain ⟨_, _, _, _, _, _, _, _, _, _, _, _, e, a, b⟩ := h
  exact ⟨_, _, _, _, _, _, _, _, _, _, _, _, e, Tbs'.keeps a hb, Fes.keeps b hb⟩
theorem shop_l : CtL shopT shopG := by
  refine ⟨fun t ht f hf => ?_, fun f hf => ?_⟩
  · simp only [shopT, List.mem_cons, List.not_mem_nil, or_false] at ht
    subst ht
    simp only [List.mem_cons, List.not_mem_nil, or_false] at hf
    rcases hf with rfl | rfl
    · exact (by decide : (1 : Nat) ≤ 5864062014634)
    · exact ln_nil _ _
  · simp only [shopG, List.mem_cons, List.not_mem_nil, or_false] at hf
    rcases hf with rfl | rfl
    · exact ln_nil _ _
    · exact (by decide : (1 : Nat) ≤ 5864062014634)
def hasB (x : Ex) (k : Int) (u : List un.Fa) (p : Int) : Bool := (inf shopT shopG ⟨#[117, 115, 101, 114]⟩ x).1 == p && (p != 0 || sameT (inf shopT shopG ⟨#[117, 115, 101, 114]⟩ x).2 ⟨k, u, .empty⟩)
set_option maxRecDepth 100000 in
set_option maxHeartbeats 8000000 in
theorem has_x (x : Ex) (k p : Int) (u : List un.Fa) (ua aa au : Option Addr) (uc ac cu : Nat) (w : World) (hE : Ec w x ua uc aa ac) (hU : un.Sl w au u.length cu u) (hs : x.szs) (hx : x.lns) (T : Tabs w) :
    Calls Tryz.prog 35 #[.agg (exC x.h x.ar.len ua uc aa ac), .int .i64 k, .slice au u.length cu, .int .i64 p] w (Bl (hasB x k u p) w) := by
  have KS := Lib.hid (fun (w : World) => shop_x w)
  have KI := Lib.hid (fun (cs : Array Value) (W : World) (hC : CtV W cs shopT shopG) (hE : Ec W x ua uc aa ac) (T : Tabs W) => Infer_any cs shopT shopG ⟨#[117, 115, 101, 114]⟩ x ua aa uc ac W hC shop_l hs hx hE T)
  have HE := Lib.hid hE
  have HU := Lib.hid hU
  have HT := Lib.hid T
  have hI : hasB x k u p = hasB x k u p := rfl
  conv at hI => rhs; unfold hasB
  replace hI := Lib.hid hI
  generalize inf shopT shopG ⟨#[117, 115, 101, 114]⟩ x = r at *
  clear hE hU T hs hx
  go_enter Tryz.func35, Tryz.ntmps35
  go_upto_region 1 with fail
  have B0 := Lib.hid (balloc (b0 w) (.cells (exC x.h x.ar.len ua uc aa ac) 29))
  have G0 := Lib.hid (Blk.new w 29 (exC x.h x.ar.len ua uc aa ac))
  generalize (w.alloc (.cells (exC x.h x.ar.len ua uc aa ac) 29)) = wb at *
  replace HE := Lib.hid (HE.out.keeps B0.out)
  replace HU := Lib.hid (HU.out.keeps B0.out)
  replace HT := Lib.hid (HT.out.stays B0.out)
  go_cut [9, 10] from 11 (fun v9 v10 wx => ∃ g9 ya yc, v9 = .pointer (some ⟨g9, 0, none⟩) ∧ v10 = .int .i64 r.1 ∧ Hid (Blk wx g9 36 (tyC r.2 ya yc)) ∧ Hid (un.Sl wx ya r.2.un.length yc r.2.un) ∧ Hid (Below wb.heap.size wb wx))
  case first =>
    refine wp_region_held_drew (S := fun w' => Below wb.heap.size wb w') (by kernel_rfl) (b0 wb).drew (fun hH => ?_)
    refine held_take (i := 1) (d := 13) (v := .agg (exC x.h x.ar.len ua uc aa ac)) rfl (by kernel_rfl) (by kernel_rfl) (by kernel_rfl) rfl (fun _ _ _ h => h) rfl hH (fun w' hS => yield_load infX Tryz.underlying29 rfl (.tmp 4) rfl _ _ _ rfl (G0.out.keeps hS) rfl) ?_
    simp only [List.set_cons_zero, List.set_cons_succ]
    generalize wb.drew = y0 at *
    refine held_two (i := 0) (j := 6) rfl rfl (by kernel_rfl) rfl rfl (fun K hK => ?_) (fun K hK => ?_)
    · go_simp
      refine (KS.out _).mono ?_
      rintro e y1 ⟨cs, rfl, hC, b1⟩
      refine hK.out _ _ (bnext hH b1) (fun hH => ?_)
      clear hK K
      have HC := Lib.hid hC
      clear b1 hC
      refine held_two (i := 2) (j := 6) rfl rfl (by kernel_rfl) rfl rfl (fun K hK => ?_) (fun K hK => ?_)
      · go_simp
        refine (KI.out _ _ HC.out (HE.out.keeps hH) (HT.out.stays hH)).mono ?_
        rintro e y2 ⟨ya, yc, rfl, sy, b2⟩
        refine hK.out _ _ (bnext hH b2) (fun hH => ?_)
        clear hK K
        have SY := Lib.hid sy
        clear b2 sy HC
        refine held_take (i := 3) (d := 11) (v := ?_) rfl (by kernel_rfl) (by kernel_rfl) (by kernel_rfl) rfl (fun _ _ _ h => h) rfl hH (fun w' hS => ?_) ?_
        rotate_left
        · go_simp; first | done | with_reducible rfl
        simp only [List.set_cons_zero, List.set_cons_succ]
        refine held_take (i := 4) (d := 15) (v := ?_) rfl (by kernel_rfl) (by kernel_rfl) (by kernel_rfl) rfl (fun _ _ _ h => h) rfl hH (fun w' hS => ?_) ?_
        rotate_left
        · go_simp; first | done | with_reducible rfl
        simp only [List.set_cons_zero, List.set_cons_succ]
        refine held_take (i := 5) (d := 16) (v := ?_) rfl (by kernel_rfl) (by kernel_rfl) (by kernel_rfl) rfl (fun _ _ _ h => h) rfl hH (fun w' hS => ?_) ?_
        rotate_left
        · go_simp; first | done | with_reducible rfl
        simp only [List.set_cons_zero, List.set_cons_succ]
        refine held_only (i := 6) rfl (by kernel_rfl) rfl (fun K hK => ?_)
        go_simp
        have lb := Lib.hid hH.size
        refine hK.out _ _ (balloc hH _) (fun hH => ?_)
        clear hK K
        have N3 := Lib.hid (Blk.new y2 36 #[.int .i64 0, .slice none 0 0, .string ⟨#[]⟩])
        replace SY := Lib.hid (SY.out.keeps (balloc (b0 y2) (.cells #[.int .i64 0, .slice none 0 0, .string ⟨#[]⟩] 36)))
        generalize hz : (y2.alloc (.cells #[.int .i64 0, .slice none 0 0, .string ⟨#[]⟩] 36)) = y3 at *
        clear hz
        generalize y2.heap.size = g3 at *
        refine held_only (i := 7) rfl (by kernel_rfl) rfl (fun K hK => ?_)
        refine op_storeT infTy (.tmp 9) (.tmp 15) rfl g3 _ (tyC r.2 ya yc) _ rfl rfl N3.out rfl rfl (by simp [tyC, Value.oneCell']) ?_
        intro y9 L9 hs9
        refine hK.out _ _ (hH.trans (hs9.below lb.out)) (fun hH => ?_)
        clear hK K
        have U9 := sl_ty (t := t0) (ua := none) (uc := 0) SY.out N3.out hs9
        refine held_take (i := 8) (d := 10) (v := ?_) rfl (by kernel_rfl) (by kernel_rfl) (by kernel_rfl) rfl (fun _ _ _ h => h) rfl hH (fun w' hS => ?_) ?_
        rotate_left
        · go_simp; first | done | with_reducible rfl
        simp only [List.set_cons_zero, List.set_cons_succ]
        refine wpAnyH_done (by kernel_rfl) ?_ _
        go_wp2_with fail
        go_meet
        case rel => exact ⟨g3, ya, yc, rfl, rfl, Lib.hid L9, Lib.hid U9, Lib.hid hH⟩
      · go_simp
        have lb := Lib.hid hH.size
        refine hK.out _ _ (balloc hH _) (fun hH => ?_)
        clear hK K
        have N4 := Lib.hid (Blk.new y1 36 #[.int .i64 0, .slice none 0 0, .string ⟨#[]⟩])
        replace HC := Lib.hid (ct_keeps HC.out (balloc (b0 y1) (.cells #[.int .i64 0, .slice none 0 0, .string ⟨#[]⟩] 36)))
        generalize hz : (y1.alloc (.cells #[.int .i64 0, .slice none 0 0, .string ⟨#[]⟩] 36)) = y4 at *
        clear hz
        generalize y1.heap.size = g4 at *
        refine held_only (i := 2) rfl (by kernel_rfl) rfl (fun K hK => ?_)
        go_simp
        refine (KI.out _ _ HC.out (HE.out.keeps hH) (HT.out.stays hH)).mono ?_
        rintro e y5 ⟨ya, yc, rfl, sy, b5⟩
        refine hK.out _ _ (bnext hH b5) (fun hH => ?_)
        clear hK K
        have SY := Lib.hid sy
        replace N4 := Lib.hid (N4.out.below b5 N4.out.lt)
        clear b5 sy HC
        refine held_take (i := 3) (d := 11) (v := ?_) rfl (by kernel_rfl) (by kernel_rfl) (by kernel_rfl) rfl (fun _ _ _ h => h) rfl hH (fun w' hS => ?_) ?_
        rotate_left
        · go_simp; first | done | with_reducible rfl
        simp only [List.set_cons_zero, List.set_cons_succ]
        refine held_take (i := 4) (d := 15) (v := ?_) rfl (by kernel_rfl) (by kernel_rfl) (by kernel_rfl) rfl (fun _ _ _ h => h) rfl hH (fun w' hS => ?_) ?_
        rotate_left
        · go_simp; first | done | with_reducible rfl
        simp only [List.set_cons_zero, List.set_cons_succ]
        refine held_take (i := 5) (d := 16) (v := ?_) rfl (by kernel_rfl) (by kernel_rfl) (by kernel_rfl) rfl (fun _ _ _ h => h) rfl hH (fun w' hS => ?_) ?_
        rotate_left
        · go_simp; first | done | with_reducible rfl
        simp only [List.set_cons_zero, List.set_cons_succ]
        refine held_only (i := 7) rfl (by kernel_rfl) rfl (fun K hK => ?_)
        refine op_storeT infTy (.tmp 9) (.tmp 15) rfl g4 _ (tyC r.2 ya yc) _ rfl rfl N4.out rfl rfl (by simp [tyC, Value.oneCell']) ?_
        intro y9 L9 hs9
        refine hK.out _ _ (hH.trans (hs9.below lb.out)) (fun hH => ?_)
        clear hK K
        have U9 := sl_ty (t := t0) (ua := none) (uc := 0) SY.out N4.out hs9
        refine held_take (i := 8) (d := 10) (v := ?_) rfl (by kernel_rfl) (by kernel_rfl) (by kernel_rfl) rfl (fun _ _ _ h => h) rfl hH (fun w' hS => ?_) ?_
        rotate_left
        · go_simp; first | done | with_reducible rfl
        simp only [List.set_cons_zero, List.set_cons_succ]
        refine wpAnyH_done (by kernel_rfl) ?_ _
        go_wp2_with fail
        go_meet
        case rel => exact ⟨g4, ya, yc, rfl, rfl, Lib.hid L9, Lib.hid U9, Lib.hid hH⟩
    · go_simp
      have lb := Lib.hid hH.size
      refine hK.out _ _ (balloc hH _) (fun hH => ?_)
      clear hK K
      have N6 := Lib.hid (Blk.new y0 36 #[.int .i64 0, .slice none 0 0, .string ⟨#[]⟩])
      generalize hz : (y0.alloc (.cells #[.int .i64 0, .slice none 0 0, .string ⟨#[]⟩] 36)) = y6 at *
      clear hz
      generalize y0.heap.size = g6 at *
      refine held_only (i := 0) rfl (by kernel_rfl) rfl (fun K hK => ?_)
      go_simp
      refine (KS.out _).mono ?_
      rintro e y7 ⟨cs, rfl, hC, b7⟩
      refine hK.out _ _ (bnext hH b7) (fun hH => ?_)
      clear hK K
      have HC := Lib.hid hC
      replace N6 := Lib.hid (N6.out.below b7 N6.out.lt)
      clear b7 hC
      refine held_only (i := 2) rfl (by kernel_rfl) rfl (fun K hK => ?_)
      go_simp
      refine (KI.out _ _ HC.out (HE.out.keeps hH) (HT.out.stays hH)).mono ?_
      rintro e y8 ⟨ya, yc, rfl, sy, b8⟩
      refine hK.out _ _ (bnext hH b8) (fun hH => ?_)
      clear hK K
      have SY := Lib.hid sy
      replace N6 := Lib.hid (N6.out.below b8 N6.out.lt)
      clear b8 sy HC
      refine held_take (i := 3) (d := 11) (v := ?_) rfl (by kernel_rfl) (by kernel_rfl) (by kernel_rfl) rfl (fun _ _ _ h => h) rfl hH (fun w' hS => ?_) ?_
      rotate_left
      · go_simp; first | done | with_reducible rfl
      simp only [List.set_cons_zero, List.set_cons_succ]
      refine held_take (i := 4) (d := 15) (v := ?_) rfl (by kernel_rfl) (by kernel_rfl) (by kernel_rfl) rfl (fun _ _ _ h => h) rfl hH (fun w' hS => ?_) ?_
      rotate_left
      · go_simp; first | done | with_reducible rfl
      simp only [List.set_cons_zero, List.set_cons_succ]
      refine held_take (i := 5) (d := 16) (v := ?_) rfl (by kernel_rfl) (by kernel_rfl) (by kernel_rfl) rfl (fun _ _ _ h => h) rfl hH (fun w' hS => ?_) ?_
      rotate_left
      · go_simp; first | done | with_reducible rfl
      simp only [List.set_cons_zero, List.set_cons_succ]
      refine held_only (i := 7) rfl (by kernel_rfl) rfl (fun K hK => ?_)
      refine op_storeT infTy (.tmp 9) (.tmp 15) rfl g6 _ (tyC r.2 ya yc) _ rfl rfl N6.out rfl rfl (by simp [tyC, Value.oneCell']) ?_
      intro y9 L9 hs9
      refine hK.out _ _ (hH.trans (hs9.below lb.out)) (fun hH => ?_)
      clear hK K
      have U9 := sl_ty (t := t0) (ua := none) (uc := 0) SY.out N6.out hs9
      refine held_take (i := 8) (d := 10) (v := ?_) rfl (by kernel_rfl) (by kernel_rfl) (by kernel_rfl) rfl (fun _ _ _ h => h) rfl hH (fun w' hS => ?_) ?_
      rotate_left
      · go_simp; first | done | with_reducible rfl
      simp only [List.set_cons_zero, List.set_cons_succ]
      refine wpAnyH_done (by kernel_rfl) ?_ _
      go_wp2_with fail
      go_meet
      case rel => exact ⟨g6, ya, yc, rfl, rfl, Lib.hid L9, Lib.hid U9, Lib.hid hH⟩
  case rest =>
    obtain ⟨g9, ya, yc, rfl, rfl, M9, S9, BW⟩ := hcut
    generalize wc = wz at *
    have B1 := Lib.hid (bnext B0.out BW.out)
    replace HU := Lib.hid (HU.out.keeps BW.out)
    have KT := Lib.hid (fun (W : World) (h1 : un.Sl W ya r.2.un.length yc r.2.un) (h2 : un.Sl W au u.length cu u) => sameType_any r.2 (⟨k, u, .empty⟩ : Ty) ya au yc cu W h1 h2)
    clear KS KI G0 HE HT BW
    generalize hn : r.1 = n at *
    clear hn
    generalize r.2 = t at *
    by_cases e : n = p
    · subst e
      by_cases e2 : n = 0
      · subst e2
        go_wp2_with (first | (refine arm_loadG infTy Tryz.underlying36 rfl (.tmp 9) rfl rfl _ _ _ rfl M9.out rfl ?_))
        refine (KT.out _ S9.out HU.out).mono ?_
        rintro e w9 ⟨rfl, b9⟩
        have B9 := Lib.hid (bnext B1.out b9)
        clear b9 KT
        generalize sameT t ⟨k, u, .empty⟩ = sb at *
        go_wp2_with fail
        go_ret
        exact bl_of (by rw [hI.out]; cases sb <;> rfl) B9.out
      · have q : (n != 0) = true := by simp [e2]
        replace hI := Lib.hid (hI.out.trans (by rw [q, in_is rfl]; rfl : _ = true))
        clear e2
        go_wp2_with fail
        go_ret
        exact bl_of hI.out.symm B1.out
    · have q := in_ne e
      replace hI := Lib.hid (hI.out.trans (by rw [q]; rfl : _ = false))
      clear e
      go_wp2_with fail
      go_ret
      exact bl_of hI.out.symm B1.out
end Go.Proofs.YtbkpjhffmaldmaaGreatDoor.ch
namespace Go.Proofs.YtbkpjhffmaldmaaGreatDoor.ch
open Go.RowKit dec

def sumX : Ex := ovrX ⟨#[115, 117, 109]⟩ ⟨#[111, 114, 100, 101, 114, 115]⟩ ⟨#[97, 109, 111, 117, 110, 116]⟩
def lokX : Ex := ⟨{ h0 with k := 4, nm := ⟨#[114, 97, 110, 107]⟩ }, .cons (ovrX ⟨#[108, 97, 115, 116]⟩ ⟨#[111, 114, 100, 101, 114, 115]⟩ ⟨#[115, 104, 111, 112]⟩).h (ovrX ⟨#[108, 97, 115, 116]⟩ ⟨#[111, 114, 100, 101, 114, 115]⟩ ⟨#[115, 104, 111, 112]⟩).ar .nil⟩
def nulX : Ex := ⟨{ h0 with k := 6, op := ⟨#[110, 117, 108, 108]⟩ }, .cons (feaX ⟨#[116, 111, 116, 97, 108]⟩).h .nil .nil⟩
def lesX : Ex := binX ⟨#[60]⟩ (feaX ⟨#[116, 111, 116, 97, 108]⟩) (numX 3 1000000 (eurU 1))
def choX : Ex := ⟨{ h0 with k := 8 }, .cons lesX.h lesX.ar (.cons (numX 2 1 []).h .nil (.cons nulX.h nulX.ar .nil))⟩
theorem q1 : hasB sumX 3 (eurU 1) 0 = true := by kernel_rfl
theorem q2 : hasB (binX ⟨#[47]⟩ (feaX ⟨#[116, 111, 116, 97, 108]⟩) (numX 2 2 [])) 3 (eurU 1) 0 = true := by kernel_rfl
theorem q3 : hasB (binX ⟨#[42]⟩ (feaX ⟨#[116, 111, 116, 97, 108]⟩) (feaX ⟨#[116, 111, 116, 97, 108]⟩)) 3 (eurU 2) 0 = true := by kernel_rfl
theorem q4 : hasB (binX ⟨#[43]⟩ (feaX ⟨#[116, 111, 116, 97, 108]⟩) (numX 2 1 [])) 0 [] 70 = true := by kernel_rfl
theorem q5 : hasB (feaX ⟨#[114, 97, 110, 107]⟩) 0 [] 5 = true := by kernel_rfl
theorem q6 : hasB (ovrX ⟨#[109, 101, 97, 110]⟩ ⟨#[111, 114, 100, 101, 114, 115]⟩ ⟨#[115, 104, 111, 112]⟩) 0 [] 5 = true := by kernel_rfl
theorem q7 : hasB (ovrX ⟨#[115, 117, 109]⟩ ⟨#[112, 97, 121, 109, 101, 110, 116, 115]⟩ ⟨#[97, 109, 111, 117, 110, 116]⟩) 0 [] 4 = true := by kernel_rfl
theorem q8 : hasB lokX 2 [] 0 = true := by kernel_rfl
theorem q9 : hasB choX 0 [] 5 = true := by kernel_rfl
theorem q10 : szE choX = 7 := by kernel_rfl
theorem q11 : dpE choX = 3 := by kernel_rfl
def hdB (h : Hd) : Bool := decide (h.op.size ≤ 140737488355328) && decide (h.nm.size ≤ 140737488355328) && decide (h.tb.size ≤ 140737488355328) && decide (h.vs.size ≤ 140737488355328) && decide (h.un.length ≤ K)
def foB : Fo → Bool
  | .nil => true
  | .cons h ar r => hdB h && (foB ar && foB r)
def exB (x : Ex) : Bool := hdB x.h && foB x.ar
theorem hdB_of {h : Hd} (e : hdB h = true) : h.sz ∧ h.un.length ≤ K := by
  unfold hdB at e
  simp only [Bool.and_eq_true, decide_eq_true_eq] at e
  exact ⟨⟨e.1.1.1.1, e.1.1.1.2, e.1.1.2, e.1.2⟩, e.2⟩
theorem foB_of : ∀ (F : Fo), foB F = true → F.szs ∧ F.lns
  | .nil, _ => ⟨trivial, trivial⟩
  | .cons h ar r, e => by
    unfold foB at e
    rw [Bool.and_eq_true, Bool.and_eq_true] at e
    have a := hdB_of e.1
    have b := foB_of ar e.2.1
    have c := foB_of r e.2.2
    exact ⟨⟨a.1, b.1, c.1⟩, ⟨a.2, b.2, c.2⟩⟩
theorem exB_of {x : Ex} (e : exB x = true) : x.szs ∧ x.lns := by
  unfold exB at e
  rw [Bool.and_eq_true] at e
  have a := hdB_of e.1
  have b := foB_of x.ar e.2
  exact ⟨⟨a.1, b.1⟩, ⟨a.2, b.2⟩⟩
theorem s1 : exB sumX = true := by kernel_rfl
theorem s2 : exB (binX ⟨#[47]⟩ (feaX ⟨#[116, 111, 116, 97, 108]⟩) (numX 2 2 [])) = true := by kernel_rfl
theorem s3 : exB (binX ⟨#[42]⟩ (feaX ⟨#[116, 111, 116, 97, 108]⟩) (feaX ⟨#[116, 111, 116, 97, 108]⟩)) = true := by kernel_rfl
theorem s4 : exB (binX ⟨#[43]⟩ (feaX ⟨#[116, 111, 116, 97, 108]⟩) (numX 2 1 [])) = true := by kernel_rfl
theorem s5 : exB (feaX ⟨#[114, 97, 110, 107]⟩) = true := by kernel_rfl
theorem s6 : exB (ovrX ⟨#[109, 101, 97, 110]⟩ ⟨#[111, 114, 100, 101, 114, 115]⟩ ⟨#[115, 104, 111, 112]⟩) = true := by kernel_rfl
theorem s7 : exB (ovrX ⟨#[115, 117, 109]⟩ ⟨#[112, 97, 121, 109, 101, 110, 116, 115]⟩ ⟨#[97, 109, 111, 117, 110, 116]⟩) = true := by kernel_rfl
theorem s8 : exB lokX = true := by kernel_rfl
theorem s9 : exB choX = true := by kernel_rfl
end Go.Proofs.YtbkpjhffmaldmaaGreatDoor.ch
namespace Go.Proofs.YtbkpjhffmaldmaaGreatDoor.ch
open Go.RowKit dec

theorem over_e (op tb f : ByteArray) (w : World) : Calls Tryz.prog 36 #[.string op, .string tb, .string f] w (ExR (ovrX op tb f) w) := by
  refine (over_x op tb f w).mono ?_
  rintro e w' ⟨g, rfl, O, _, b⟩
  have e1 : Ec w' ⟨{ h0 with k := 2, nm := f }, .nil⟩ none 0 none 0 := ⟨.nil _, Fs.nil _⟩
  have e2 : Ec w' truX none 0 none 0 := ⟨.nil _, Fs.nil _⟩
  exact ⟨_, rfl, ⟨none, 0, some ⟨g, 0, none⟩, 2, rfl, .nil _, fs_two e1 e2 O rfl⟩, b⟩
theorem eur_e (k : Int) (w : World) : Calls Tryz.prog 37 #[.int .i64 k] w fun e w' => ∃ a, e = .returned (.slice a 1 1) ∧ un.Sl w' a 1 1 (eurU k) ∧ Below w.heap.size w w' := by
  refine (eur_x k w).mono ?_
  rintro e w' ⟨g, rfl, U, _, b⟩
  exact ⟨_, rfl, sl_one U, b⟩
theorem number_e (k n : Int) (w : World) : Calls Tryz.prog 38 #[.int .i64 k, .int .i64 n, .slice none 0 0] w (ExR (numX k n []) w) := by
  refine (number_x k n [] none 0 w).mono ?_
  rintro e w' ⟨rfl, b⟩
  exact ⟨_, rfl, exV_flat _ _ rfl, b⟩
theorem has_e (x : Ex) (k p : Int) (u : List un.Fa) (hq : hasB x k u p = true) (hs : exB x = true) (cs : Array Value) (au : Option Addr) (cu : Nat) (w : World) (hE : ExV w cs x) (hU : un.Sl w au u.length cu u) (T : Tabs w) :
    Calls Tryz.prog 35 #[.agg cs, .int .i64 k, .slice au u.length cu, .int .i64 p] w (Bl true w) := by
  obtain ⟨ua, uc, aa, ac, rfl, E⟩ := hE
  have h := has_x x k p u ua aa au uc ac cu w E hU (exB_of hs).1 (exB_of hs).2 T
  rwa [hq] at h
theorem h_sum (cs : Array Value) (au : Option Addr) (w : World) (hE : ExV w cs sumX) (hU : un.Sl w au 1 1 (eurU 1)) (T : Tabs w) : Calls Tryz.prog 35 #[.agg cs, .int .i64 3, .slice au 1 1, .int .i64 0] w (Bl true w) := has_e sumX 3 0 (eurU 1) q1 s1 cs au 1 w hE hU T
theorem h_div (cs : Array Value) (au : Option Addr) (w : World) (hE : ExV w cs (binX ⟨#[47]⟩ (feaX ⟨#[116, 111, 116, 97, 108]⟩) (numX 2 2 []))) (hU : un.Sl w au 1 1 (eurU 1)) (T : Tabs w) : Calls Tryz.prog 35 #[.agg cs, .int .i64 3, .slice au 1 1, .int .i64 0] w (Bl true w) := has_e _ 3 0 (eurU 1) q2 s2 cs au 1 w hE hU T
theorem h_mul (cs : Array Value) (au : Option Addr) (w : World) (hE : ExV w cs (binX ⟨#[42]⟩ (feaX ⟨#[116, 111, 116, 97, 108]⟩) (feaX ⟨#[116, 111, 116, 97, 108]⟩))) (hU : un.Sl w au 1 1 (eurU 2)) (T : Tabs w) : Calls Tryz.prog 35 #[.agg cs, .int .i64 3, .slice au 1 1, .int .i64 0] w (Bl true w) := has_e _ 3 0 (eurU 2) q3 s3 cs au 1 w hE hU T
theorem h_nil (x : Ex) (k p : Int) (hq : hasB x k [] p = true) (hs : exB x = true) (cs : Array Value) (w : World) (hE : ExV w cs x) (T : Tabs w) : Calls Tryz.prog 35 #[.agg cs, .int .i64 k, .slice none 0 0, .int .i64 p] w (Bl true w) := has_e x k p [] hq hs cs none 0 w hE (.nil _) T
theorem size_e (x : Ex) (cs : Array Value) (w : World) (hE : ExV w cs x) : Calls Tryz.prog 14 #[.agg cs] w (Num (szE x) w) := by
  obtain ⟨ua, uc, aa, ac, rfl, E⟩ := hE
  exact size_any x ua aa uc ac w E.ar
theorem depth_e (x : Ex) (cs : Array Value) (w : World) (hE : ExV w cs x) : Calls Tryz.prog 16 #[.agg cs] w (Num (dpE x) w) := by
  obtain ⟨ua, uc, aa, ac, rfl, E⟩ := hE
  exact depth_any x ua aa uc ac w E.ar
end Go.Proofs.YtbkpjhffmaldmaaGreatDoor.ch
