/-
  The reference's texts of all expressions of proper form; its Expr and Type.
-/
import Derived.Test.YtbahfelnbofjjaaGreatDoorT12
import Derived.Test.YtbahfelnbofjjaaGreatDoorT19
import Derived.Test.YtbahfelnbofjjaaGreatDoorT22
set_option maxRecDepth 100000
set_option maxHeartbeats 16000000
namespace Go.Proofs.YtbahfelnbofjjaaGreatDoor.ch
open Go.RowKit dec
def Rtn (y : Ex) : Prop := ∀ (va wa : Option Addr) (vc wc : Nat) (W : World), Ec W y va vc wa wc → Calls Tryz.prog 52 #[.agg (exC y.h y.ar.len va vc wa wc)] W (Sr (B8 (txE y)) W)
theorem fmE_app {i : Bool} {x : Ex} (e : fmE i x = true) : nodE i x.h x.ar.len (x.ar.nth 0).h = true ∧ fmA (i || decide (x.h.k = 5)) x.ar = true := by
 have e' : (nodE i x.h x.ar.len (x.ar.nth 0).h && fmA (i || decide (x.h.k = 5)) x.ar) = true := e
 rwa [Bool.and_eq_true] at e'
theorem fmE_nth : ∀ (F : Fo) (i : Bool) (j : Nat), fmA i F = true → j < F.len → fmE i (F.nth j) = true
 | .nil, _, _, _, h => absurd h (Nat.not_lt_zero _)
 | .cons h ar r, i, 0, e, _ => by
  obtain ⟨e1, e2, _⟩ := fmA_app e
  show (nodE i h ar.len (ar.nth 0).h && fmA (i || decide (h.k = 5)) ar) = true
  rw [e1, e2]; rfl
 | .cons h ar r, i, j + 1, e, hj => fmE_nth r i j (fmA_app e).2.2 (by simpa [Fo.len] using hj)
theorem txE_bound {i : Bool} {x : Ex} (e : fmE i x = true) (hz : x.ar.sz ≤ 3000) : (txE x).length ≤ 1000000 := by
 have := txE_len e
 omega
theorem child_at {i : Bool} {y : Ex} (e : fmE i y = true) (hz : y.ar.sz ≤ 3000) (hI : Rtn y) (q : Int) {va wa : Option Addr} {vc wc : Nat} {w : World} (hE : Ec w y va vc wa wc) (W : World) (b : Below w.heap.size w W) :
  Calls Tryz.prog 112 #[.agg (exC y.h y.ar.len va vc wa wc), .int .i64 q] W (Sr (B8 (par (rk y.h) q (txE y))) W) :=
 rat_any y.h y.ar.len va wa vc wc W q (rk y.h) (txE y) (txE_bound e hz) (fun W' b' => hI va wa vc wc W' ((hE.keeps b).keeps b')) (fun W' _ => rrank_any y.h y.ar.len va wa vc wc W' (nod_oper (nod_of (fmE_app e).1)))
theorem odT_nth {F : Fo} {j : Nat} (h : j < F.len) : odT (txF F) j = txE (F.nth j) := by unfold odT; rw [txF_at F j h]
theorem odP_at {F : Fo} {j : Nat} (h : j < F.len) (q : Int) : odP (txF F) j q = par (rk (F.nth j).h) q (txE (F.nth j)) := by unfold odP; rw [txF_at F j h]
theorem kid {w : World} {aa : Option Addr} {n ac : Nat} {F : Fo} (h : Fs w aa n ac F) {b off : Nat} (ha : aa = some ⟨b, off, none⟩) {j : Nat} (hj : j < F.len) : ∃ va wa vc wc, w.rangeAt b (off + 12 * j) (exC (F.nth j).h (F.nth j).ar.len va vc wa wc).toList ∧ Ec w (F.nth j) va vc wa wc := by
 obtain ⟨b', off', va, vc, wa, wc, e, R, E⟩ := h.at hj
 rw [ha] at e
 obtain ⟨rfl, rfl⟩ : b = b' ∧ off = off' := by
  have := Option.some.inj e
  exact ⟨congrArg Addr.block this, congrArg Addr.off this⟩
 exact ⟨va, wa, vc, wc, by rw [Nat.mul_comm] at R; exact R, E⟩
theorem addr_of {w : World} {aa : Option Addr} {n ac : Nat} {F : Fo} (h : Fs w aa n ac F) (hj : 0 < F.len) : ∃ b off, aa = some ⟨b, off, none⟩ := by
 obtain ⟨b', off', va, vc, wa, wc, e, R, E⟩ := h.at hj
 exact ⟨b', off', e⟩
theorem fm_short {i : Bool} {g h : Hd} {n : Nat} (N : Nod i g h n) (hk : h.k = 1) (h5 : h.vk ≠ 5) : (fm ⟨h.vk, h.vn, h.vs⟩).length ≤ 1000 ∧ h.vs.size ≤ 1000 ∧ Un h.un := by
 have un0 : Un [] := ⟨⟨Nat.zero_le _, fun x hx => absurd hx List.not_mem_nil, List.Pairwise.nil⟩, fun x hx => absurd hx List.not_mem_nil⟩
 cases N with
 | boo n e =>
  refine ⟨?_, by show (0 : Nat) ≤ 1000; decide, un0⟩
  rcases e with rfl | rfl
  ·show (fm ⟨1, 0, .empty⟩).length ≤ 1000
   rw [show fm ⟨1, 0, .empty⟩ = [102, 97, 108, 115, 101] from by rw [fm_ok (by decide)]; rfl]; decide
  ·show (fm ⟨1, 1, .empty⟩).length ≤ 1000
   rw [show fm ⟨1, 1, .empty⟩ = [116, 114, 117, 101] from by rw [fm_ok (by decide)]; rfl]; decide
 | num k n u hk' h0 h1 hu =>
  refine ⟨?_, by show (0 : Nat) ≤ 1000; decide, hu⟩
  show (fm ⟨k, n, .empty⟩).length ≤ 1000
  rw [fm_num hk' h0 h1]
  have a2 := itoa_le n h0 h1
  have a3 := fo_len h0 h1
  split <;> omega
 | tex s h1 h2 =>
  refine ⟨?_, by show s.size ≤ 1000; omega, un0⟩
  show (fm ⟨4, 0, s⟩).length ≤ 1000
  rw [fm_ok (ok_text h1 h2)]
  show (34 :: (s.data.toList ++ [34])).length ≤ 1000
  simp; omega
 | key m s hm h0 h1 h2 => exact absurd rfl h5
 | fie m hi hm => exact absurd hk (by show ¬ (2 : Int) = 1; decide)
 | fea m hi hm => exact absurd hk (by show ¬ (3 : Int) = 1; decide)
 | loo m hi hm => exact absurd hk (by show ¬ (4 : Int) = 1; decide)
 | agg op t p wk ws hi ht hp hw hc => exact absurd hk (by show ¬ (5 : Int) = 1; decide)
 | una op ho => exact absurd hk (by show ¬ (6 : Int) = 1; decide)
 | bin op ho => exact absurd hk (by show ¬ (7 : Int) = 1; decide)
 | iff => exact absurd hk (by show ¬ (8 : Int) = 1; decide)
 | dfl => exact absurd hk (by show ¬ (9 : Int) = 1; decide)
theorem lit_any {i : Bool} {g h : Hd} {n : Nat} (N : Nod i g h n) (hk : h.k = 1) (h5 : h.vk ≠ 5) (m : Nat) (ua aa : Option Addr) (uc ac : Nat) (w : World) (hU : un.Sl w ua h.un.length uc h.un) : Calls Tryz.prog 52 #[.agg (exC h m ua uc aa ac)] w (Sr (B8 (liT h)) w) := by
 obtain ⟨a, b, c⟩ := fm_short N hk h5
 exact rtx_lit h m ua aa uc ac w (B8 (liT h)) hk fun W bw => rlit_any h m ua aa uc ac W h5 c b a (hU.keeps bw)
theorem rtn_step (n : Nat) (IH : ∀ (y : Ex) (i : Bool), y.ar.sz < n → fmE i y = true → y.ar.sz ≤ 3000 → Rtn y) (x : Ex) (i : Bool) (hz : x.ar.sz = n) (e : fmE i x = true) (h3 : x.ar.sz ≤ 3000) : Rtn x := by
 intro ua aa uc ac w hE
 obtain ⟨e1, e2⟩ := fmE_app e
 have N := nod_of e1
 obtain ⟨h, F⟩ := x
 have kids : ∀ j, j < F.len → Rtn (F.nth j) ∧ fmE (i || decide (h.k = 5)) (F.nth j) = true ∧ (F.nth j).ar.sz ≤ 3000 := by
  intro j hj
  have hs := nth_sz F j hj
  have hz : F.sz = n := hz
  have h3 : F.sz ≤ 3000 := h3
  have hf := fmE_nth F _ j e2 hj
  exact ⟨IH _ _ (by omega) hf (by omega), hf, by omega⟩
 obtain ⟨hU, hA⟩ := hE
 show Calls Tryz.prog 52 #[.agg (exC h F.len ua uc aa ac)] w (Sr (B8 (nodT h (txF F))) w)
 have hA : Fs w aa F.len ac F := hA
 have hU : un.Sl w ua h.un.length uc h.un := hU
 have N : Nod i (F.nth 0).h h F.len := N
 clear IH hz e h3 e1 e2
 obtain ⟨m, hm⟩ : ∃ m, F.len = m := ⟨_, rfl⟩
 rw [hm] at N hA ⊢
 cases N with
 | boo n e => exact lit_any (i := i) (g := h0) (.boo n e) rfl (by show ¬ (1 : Int) = 5; decide) 0 ua aa uc ac w hU
 | num k n u hk h0 h1 hu =>
  rw [show nodT { Go.Proofs.YtbahfelnbofjjaaGreatDoor.h0 with k := 1, vk := k, vn := n, un := u } (txF F) = liT { Go.Proofs.YtbahfelnbofjjaaGreatDoor.h0 with k := 1, vk := k, vn := n, un := u } from rfl]
  exact lit_any (i := i) (g := Go.Proofs.YtbahfelnbofjjaaGreatDoor.h0) (.num k n u hk h0 h1 hu) rfl (by show ¬ k = 5; omega) 0 ua aa uc ac w hU
 | tex s h1 h2 => exact lit_any (i := i) (g := h0) (.tex s h1 h2) rfl (by show ¬ (4 : Int) = 5; decide) 0 ua aa uc ac w hU
 | key m s hm' h0 h1 h2 =>
  have a1 := name_len hm'
  exact rtx_lit _ 0 ua aa uc ac w _ rfl fun W bw => rkey_any _ 0 ua aa uc ac W rfl (by show m.data.toList.length ≤ 1000; omega) (by show s.data.toList.length ≤ 1000; rw [str_len]; omega)
 | fie m hi hm' => exact rtx_nam _ 0 ua aa uc ac w (.inl rfl)
 | fea m hi hm' => exact rtx_nam _ 0 ua aa uc ac w (.inr rfl)
 | loo m hi hm' =>
  obtain ⟨b, off, rfl⟩ := addr_of hA (by omega)
  obtain ⟨va, wa, vc, wc, R, E⟩ := kid hA rfl (j := 0) (by omega)
  obtain ⟨K, f, z⟩ := kids 0 (by omega)
  have a1 := name_len hm'
  have hT : (m.data.toList ++ [32, 111, 102, 32, 40]) ++ txE (F.nth 0) ++ [41] = nodT { h0 with k := 4, nm := m } (txF F) := by
   show _ = m.data.toList ++ ([32, 111, 102, 32, 40] ++ (odT (txF F) 0 ++ [41]))
   rw [odT_nth (by omega)]; simp
  rw [← hT]
  exact rtx_look _ ua b off uc ac (F.nth 0) va wa vc wc w R (txE (F.nth 0)) (txE_bound f z) (by show m.data.toList.length ≤ 1000; omega) rfl fun W bw => K va wa vc wc W (E.keeps bw)
 | agg op t p wk ws hi ht hp hw hc =>
  obtain ⟨b, off, rfl⟩ := addr_of hA (by omega)
  obtain ⟨va, wa, vc, wc, R, E⟩ := kid hA rfl (j := 0) (by omega)
  obtain ⟨vb, wb, vd, wd, R2, E2⟩ := kid hA rfl (j := 1) (by omega)
  obtain ⟨K, f, z⟩ := kids 0 (by omega)
  obtain ⟨K2, f2, z2⟩ := kids 1 (by omega)
  have a1 := name_len ht
  have a2 := agop_len hp
  have hT : agT { h0 with k := 5, op := op, tb := t, pa := p, wk := wk, ws := ws } [(txE (F.nth 0), (F.nth 0).h), (txE (F.nth 1), (F.nth 1).h)] = nodT { h0 with k := 5, op := op, tb := t, pa := p, wk := wk, ws := ws } (txF F) := by
   show agT _ _ = agT _ (txF F)
   unfold agT
   rw [odT_nth (F := F) (j := 0) (by omega), odT_nth (F := F) (j := 1) (by omega), txF_at F 1 (by omega)]
   rfl
  rw [← hT]
  refine rtx_agg _ 2 ua _ uc ac w _ rfl fun W bw => raggr_any _ ua b off uc ac (F.nth 0) va wa vc wc (F.nth 1) vb wb vd wd W (range_keeps R bw) (range_keeps R2 bw) (txE (F.nth 0)) (txE (F.nth 1)) (txE_bound f z) (txE_bound f2 z2) a2 a1 (fun hq => ?_) hw ?_ (E2.us.keeps bw) (fun W' b' => K va wa vc wc W' ((E.keeps bw).keeps b')) (fun W' b' => K2 vb wb vd wd W' ((E2.keeps bw).keeps b'))
  ·have hq : op = ⟨#[113, 117, 97, 110, 116, 105, 108, 101]⟩ ∨ op = ⟨#[100, 101, 99, 97, 121]⟩ := hq
   rcases par_op hp with ⟨h1, _⟩ | ⟨_, h2⟩
   ·exfalso
    rcases h1 with rfl | rfl | rfl | rfl | rfl | rfl | rfl | rfl <;> exact absurd hq (by decide)
   ·exact h2
  ·exact tru_is (fmE_app f2).1
 | una op ho =>
  obtain ⟨b, off, rfl⟩ := addr_of hA (by omega)
  obtain ⟨va, wa, vc, wc, R, E⟩ := kid hA rfl (j := 0) (by omega)
  obtain ⟨K, f, z⟩ := kids 0 (by omega)
  rcases ho with rfl | rfl | rfl
  ·have hT : [45] ++ par (rk (F.nth 0).h) 8 (txE (F.nth 0)) = nodT { h0 with k := 6, op := ⟨#[45]⟩ } (txF F) := by
    show _ = 45 :: odP (txF F) 0 8
    rw [odP_at (by omega)]; rfl
   rw [← hT]
   exact rtx_una _ 1 ua _ uc ac w _ rfl fun W bw => runary_m _ ua b off uc ac (F.nth 0) va wa vc wc (txE (F.nth 0)) (rk (F.nth 0).h) W rfl (txE_bound f z) (range_keeps R bw) fun W' b' => child_at f z K 8 (E.keeps bw) W' b'
  ·have hT : [110, 111, 116, 32] ++ par (rk (F.nth 0).h) 4 (txE (F.nth 0)) = nodT { h0 with k := 6, op := ⟨#[110, 111, 116]⟩ } (txF F) := by
    show _ = [110, 111, 116, 32] ++ odP (txF F) 0 4
    rw [odP_at (by omega)]
   rw [← hT]
   exact rtx_una _ 1 ua _ uc ac w _ rfl fun W bw => runary_n _ ua b off uc ac (F.nth 0) va wa vc wc (txE (F.nth 0)) (rk (F.nth 0).h) W rfl (txE_bound f z) (range_keeps R bw) fun W' b' => child_at f z K 4 (E.keeps bw) W' b'
  ·have hT : [110, 117, 108, 108, 40] ++ txE (F.nth 0) ++ [41] = nodT { h0 with k := 6, op := ⟨#[110, 117, 108, 108]⟩ } (txF F) := by
    show _ = [110, 117, 108, 108, 40] ++ (odT (txF F) 0 ++ [41])
    rw [odT_nth (by omega)]; simp
   rw [← hT]
   exact rtx_una _ 1 ua _ uc ac w _ rfl fun W bw => runary_z _ ua b off uc ac (F.nth 0) va wa vc wc (txE (F.nth 0)) 0 W rfl (txE_bound f z) (range_keeps R bw) fun W' b' => K va wa vc wc W' ((E.keeps bw).keeps b')
 | bin op ho =>
  obtain ⟨b, off, rfl⟩ := addr_of hA (by omega)
  obtain ⟨va, wa, vc, wc, R, E⟩ := kid hA rfl (j := 0) (by omega)
  obtain ⟨vb, wb, vd, wd, R2, E2⟩ := kid hA rfl (j := 1) (by omega)
  obtain ⟨K, f, z⟩ := kids 0 (by omega)
  obtain ⟨K2, f2, z2⟩ := kids 1 (by omega)
  have hol : op.data.toList.length ≤ 1000 := by rcases ho with rfl | rfl | rfl | rfl | rfl | rfl | rfl | rfl | rfl | rfl <;> decide
  have hr : 0 ≤ rkO op ∧ rkO op ≤ 9 := by unfold rkO; repeat (first | omega | split)
  have hT : (((par (rk (F.nth 0).h) (lef (rkO op)) (txE (F.nth 0)) ++ [32]) ++ op.data.toList) ++ [32]) ++ par (rk (F.nth 1).h) (rkO op + 1) (txE (F.nth 1)) = nodT { h0 with k := 7, op := op } (txF F) := by
   show _ = odP (txF F) 0 (lef (rkO op)) ++ (32 :: (op.data.toList ++ 32 :: odP (txF F) 1 (rkO op + 1)))
   rw [odP_at (F := F) (j := 0) (by omega), odP_at (F := F) (j := 1) (by omega)]; simp
  rw [← hT]
  have p1 := par_len (rk (F.nth 0).h) (lef (rkO op)) (txE (F.nth 0))
  have p2 := par_len (rk (F.nth 1).h) (rkO op + 1) (txE (F.nth 1))
  have q1 := txE_len f
  have q2 := txE_len f2
  exact rtx_bin _ 2 ua _ uc ac w _ rfl fun W bw => rbinary_any _ ua b off uc ac (F.nth 0) va wa vc wc (F.nth 1) vb wb vd wd W (range_keeps R bw) (range_keeps R2 bw) _ _ (rkO op) hr.1 hr.2 (by omega) (by omega) hol (fun W' b' => rrank_any _ 2 ua _ uc ac W' (nod_oper (.bin (i := i) (g := (F.nth 0).h) op ho))) (fun W' b' => child_at f z K _ (E.keeps bw) W' b') (fun W' b' => child_at f2 z2 K2 _ (E2.keeps bw) W' b')
 | iff =>
  obtain ⟨b, off, rfl⟩ := addr_of hA (by omega)
  obtain ⟨va, wa, vc, wc, R, E⟩ := kid hA rfl (j := 0) (by omega)
  obtain ⟨vb, wb, vd, wd, R2, E2⟩ := kid hA rfl (j := 1) (by omega)
  obtain ⟨vf, wf, vg, wg, R3, E3⟩ := kid hA rfl (j := 2) (by omega)
  obtain ⟨K, f, z⟩ := kids 0 (by omega)
  obtain ⟨K2, f2, z2⟩ := kids 1 (by omega)
  obtain ⟨K3, f3, z3⟩ := kids 2 (by omega)
  have hT : ((([105, 102, 32] ++ txE (F.nth 0)) ++ [32, 116, 104, 101, 110, 32]) ++ txE (F.nth 1)) ++ [32, 101, 108, 115, 101, 32] ++ txE (F.nth 2) = nodT { h0 with k := 8 } (txF F) := by
   show _ = [105, 102, 32] ++ (odT (txF F) 0 ++ ([32, 116, 104, 101, 110, 32] ++ (odT (txF F) 1 ++ ([32, 101, 108, 115, 101, 32] ++ odT (txF F) 2))))
   rw [odT_nth (F := F) (j := 0) (by omega), odT_nth (F := F) (j := 1) (by omega), odT_nth (F := F) (j := 2) (by omega)]; simp
  rw [← hT]
  exact rtx_if _ ua b off uc ac (F.nth 0) va wa vc wc (F.nth 1) vb wb vd wd (F.nth 2) vf wf vg wg w R R2 R3 _ _ _ (txE_bound f z) (txE_bound f2 z2) (txE_bound f3 z3) rfl (fun W bw => K va wa vc wc W (E.keeps bw)) (fun W bw => K2 vb wb vd wd W (E2.keeps bw)) (fun W bw => K3 vf wf vg wg W (E3.keeps bw))
 | dfl =>
  obtain ⟨b, off, rfl⟩ := addr_of hA (by omega)
  obtain ⟨va, wa, vc, wc, R, E⟩ := kid hA rfl (j := 0) (by omega)
  obtain ⟨vb, wb, vd, wd, R2, E2⟩ := kid hA rfl (j := 1) (by omega)
  obtain ⟨K, f, z⟩ := kids 0 (by omega)
  obtain ⟨K2, f2, z2⟩ := kids 1 (by omega)
  have hT : par (rk (F.nth 0).h) 1 (txE (F.nth 0)) ++ [32, 100, 101, 102, 97, 117, 108, 116, 32] ++ par (rk (F.nth 1).h) 2 (txE (F.nth 1)) = nodT { h0 with k := 9 } (txF F) := by
   show _ = odP (txF F) 0 1 ++ ([32, 100, 101, 102, 97, 117, 108, 116, 32] ++ odP (txF F) 1 2)
   rw [odP_at (F := F) (j := 0) (by omega), odP_at (F := F) (j := 1) (by omega)]; simp
  rw [← hT]
  have p1 := par_len (rk (F.nth 0).h) 1 (txE (F.nth 0))
  have p2 := par_len (rk (F.nth 1).h) 2 (txE (F.nth 1))
  have q1 := txE_len f
  have q2 := txE_len f2
  exact rtx_dfl _ ua b off uc ac (F.nth 0) va wa vc wc (F.nth 1) vb wb vd wd w R R2 _ _ (by omega) (by omega) rfl (fun W bw => child_at f z K 1 E W bw) (fun W bw => child_at f2 z2 K2 2 E2 W bw)
theorem rtn_any (x : Ex) (i : Bool) (e : fmE i x = true) (h3 : x.ar.sz ≤ 3000) : Rtn x := by
 have key : ∀ n, ∀ (x : Ex) (i : Bool), x.ar.sz < n → fmE i x = true → x.ar.sz ≤ 3000 → Rtn x := by
  intro n
  induction n with
  | zero => intro x i h; exact absurd h (Nat.not_lt_zero _)
  | succ n ih => intro x i h e h3; exact rtn_step x.ar.sz (fun y j hy => ih y j (by omega)) x i rfl e h3
 exact key _ x i (Nat.lt_succ_self _) e h3
theorem rexpr_any (x : Ex) (ua aa : Option Addr) (uc ac : Nat) (w : World) (hs : x.szs) (hz : x.ar.sz ≤ 3000) (hE : Ec w x ua uc aa ac) : Calls Tryz.prog 16 #[.agg (exC x.h x.ar.len ua uc aa ac)] w (Tx (txO (shE x) (txE x)) (shE x) w) := by
 have bb := balloc (b0 w) (.cells (exC x.h x.ar.len ua uc aa ac) 29)
 have B0 := Lib.hid bb
 have G := Lib.hid (Blk.new w 29 (exC x.h x.ar.len ua uc aa ac))
 have CS := Lib.hid (fun (W : World) (b : Below w.heap.size w W) => rshape_any x ua aa uc ac W hs (hE.keeps b))
 have CT := Lib.hid (fun (h : shE x = 0) (W : World) (b : Below w.heap.size w W) => rtn_any x false (shE_zero h) hz ua aa uc ac W (hE.keeps b))
 clear bb hs hz hE
 generalize shE x = e at *
 generalize txE x = t at *
 generalize x.ar.len = n at *
 generalize x.h = h at *
 unfold exC at *
 go_enter Tryz.func16, Tryz.ntmps16
 go_upto_region 1 with fail
 generalize hw0 : (w.alloc (.cells #[.int .i64 h.k, .string h.op, .string h.nm, .string h.tb, .int .i64 h.vk, .int .i64 h.vn, .string h.vs, .slice ua h.un.length uc, .int .i64 h.pa, .int .i64 h.wk, .int .i64 h.ws, .slice aa n ac] 29)) = w0 at *
 clear hw0
 go_wp2_with (refine arm_loadT infX Tryz.underlying29 rfl (.tmp 1) rfl rfl _ _ _ rfl G.out rfl ?_)
 refine (CS.out _ B0.out).mono ?_
 rintro e' w1 ⟨rfl, b1⟩
 have B1 := Lib.hid (bnext B0.out b1)
 replace G := Lib.hid (G.out.keeps b1)
 clear b1 CS
 by_cases h0 : e = 0
 ·subst h0
  replace CT := Lib.hid (CT.out rfl)
  go_wp2_with (refine arm_loadT infX Tryz.underlying29 rfl (.tmp 1) rfl rfl _ _ _ rfl G.out rfl ?_)
  refine (CT.out _ B1.out).mono ?_
  rintro e' w2 ⟨rfl, b2⟩
  have B2 := Lib.hid (bnext B1.out b2)
  clear b2 CT
  go_wp2_with fail
  go_ret2
  exact tx_of rfl rfl B2.out
 ·have q : (e != 0) = true := by simp [h0]
  have hO := Lib.hid (show txO e t = .empty from if_neg h0)
  replace h0 := Lib.hid h0
  clear CT
  go_wp2_with fail
  go_ret2
  exact tx_of hO.out.symm rfl B1.out
theorem rtype11_any (t : Ty) (ua : Option Addr) (uc : Nat) (w : World) (hU : un.Sl w ua t.un.length uc t.un) (hs : t.of.size ≤ 140737488355328) : Calls Tryz.prog 18 #[.agg (tyC t ua uc)] w (Tx (txO (tyE t) (tyT t)) (tyE t) w) := by
 have bb := balloc (b0 w) (.cells (tyC t ua uc) 31)
 have B0 := Lib.hid bb
 have G := Lib.hid (Blk.new w 31 (tyC t ua uc))
 have CS := Lib.hid (fun (W : World) (b : Below w.heap.size w W) => rtype_any t ua uc W (hU.keeps b))
 have CT := Lib.hid (fun (h : tyE t = 0) (W : World) (b : Below w.heap.size w W) => rtypeText_any t ua uc W h (hU.keeps b))
 clear bb hs hU
 generalize tyE t = e at *
 generalize tyT t = l at *
 unfold tyC at *
 go_enter Tryz.func18, Tryz.ntmps18
 go_upto_region 1 with fail
 generalize hw0 : (w.alloc (.cells #[.int .i64 t.k, .slice ua t.un.length uc, .string t.of] 31)) = w0 at *
 clear hw0
 go_wp2_with (refine arm_loadT infTy Tryz.underlying31 rfl (.tmp 1) rfl rfl _ _ _ rfl G.out rfl ?_)
 refine (CS.out _ B0.out).mono ?_
 rintro e' w1 ⟨rfl, b1⟩
 have B1 := Lib.hid (bnext B0.out b1)
 replace G := Lib.hid (G.out.keeps b1)
 clear b1 CS
 by_cases h0 : e = 0
 ·subst h0
  replace CT := Lib.hid (CT.out rfl)
  go_wp2_with (refine arm_loadT infTy Tryz.underlying31 rfl (.tmp 1) rfl rfl _ _ _ rfl G.out rfl ?_)
  refine (CT.out _ B1.out).mono ?_
  rintro e' w2 ⟨rfl, b2⟩
  have B2 := Lib.hid (bnext B1.out b2)
  clear b2 CT
  go_wp2_with fail
  go_ret2
  exact tx_of rfl rfl B2.out
 ·have q : (e != 0) = true := by simp [h0]
  have hO := Lib.hid (show txO e l = .empty from if_neg h0)
  replace h0 := Lib.hid h0
  clear CT
  go_wp2_with fail
  go_ret2
  exact tx_of hO.out.symm rfl B1.out
end Go.Proofs.YtbahfelnbofjjaaGreatDoor.ch
