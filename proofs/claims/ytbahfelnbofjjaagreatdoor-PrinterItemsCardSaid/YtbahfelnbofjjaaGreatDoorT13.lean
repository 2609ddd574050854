/-
  printer.Table; The reference's Few: an expression that is few has few nodes; printer.Feature; The reference's FewType, FewTable, FewFeature.
-/
import Derived.Test.YtbahfelnbofjjaaGreatDoorT09
import Derived.Test.YtbahfelnbofjjaaGreatDoorT12
set_option maxRecDepth 100000
set_option maxHeartbeats 16000000
namespace Go.Proofs.YtbahfelnbofjjaaGreatDoor.ch
open Go.RowKit dec
theorem fsE_zero : ∀ (l bef : List Fi), fsE bef l = 0 → ∀ f ∈ l, name f.nm = true ∧ tyE f.ty = 0
 | [], _, _, _, hf => by cases hf
 | g :: l, bef, h, f, hf => by
  have h' : (if fiE bef g = 0 then fsE (bef ++ [g]) l else fiE bef g) = 0 := h
  by_cases h0 : fiE bef g = 0
  ·rw [if_pos h0] at h'
   rcases List.mem_cons.1 hf with rfl | hf
   ·unfold fiE at h0
    by_cases h1 : name f.nm = false
    ·rw [if_pos h1] at h0; cases h0
    ·rw [if_neg h1] at h0
     split at h0
     ·cases h0
     ·exact ⟨by simpa using h1, h0⟩
   ·exact fsE_zero l _ h' f hf
  ·rw [if_neg h0] at h'
   exact absurd h' h0
theorem tbE_zero {t : Tb} (h : tbE t = 0) : name t.nm = true ∧ name t.en = true ∧ 0 ≤ t.kp ∧ t.kp ≤ 1099511627776 ∧ t.fs.length ≤ 8 ∧ ∀ f ∈ t.fs, name f.nm = true ∧ tyE f.ty = 0 := by
 unfold tbE at h
 by_cases h1 : name t.nm = false
 ·rw [if_pos h1] at h; cases h
 rw [if_neg h1] at h
 by_cases h2 : name t.en = false
 ·rw [if_pos h2] at h; cases h
 rw [if_neg h2] at h
 by_cases h3 : t.kp < 0
 ·rw [if_pos h3] at h; cases h
 rw [if_neg h3] at h
 by_cases h4 : 1099511627776 < t.kp
 ·rw [if_pos h4] at h; cases h
 rw [if_neg h4] at h
 by_cases h5 : 8 < t.fs.length
 ·rw [if_pos h5] at h; cases h
 rw [if_neg h5] at h
 exact ⟨by simpa using h1, by simpa using h2, by omega, by omega, by omega, fsE_zero t.fs [] h⟩
theorem fiT_len {f : Fi} (h1 : name f.nm = true) (h2 : tyE f.ty = 0) : (fiT f).length ≤ 300 ∧ fiT f ≠ [] := by
 have a := name_len h1
 have b := tyT_len h2
 unfold fiT
 rw [str_len] at a
 refine ⟨by simp; omega, by simp⟩
theorem fi_wrd {f : Fi} (_h1 : name f.nm = true) (h2 : tyE f.ty = 0) : wrd [B8 (f.nm.data.toList ++ [58]), B8 (tyT f.ty)] = fiT f := by
 obtain ⟨_, t, hf⟩ := (tyK_gd h2).f
 have hne : tyT f.ty ≠ [] := by
  have hb := (tyK_gd h2).b
  have hw := (tyK_gd h2).w
  intro h0
  rw [h0, hf, pcB_cons] at hb
  rw [hf] at hw
  have := pr_pos (wf_cons.1 hw).2.1
  have h3 := congrArg List.length hb
  simp only [List.length_append, List.length_nil] at h3
  omega
 rw [wrd_cons _ (b8_ne (by simp)), tail_cons _ _ (b8_ne hne), tail_nil, B8_data, B8_data]
 unfold fiT
 simp
theorem fs_join : ∀ (l : List Fi), Lib.join (l.map fiT) [44, 32] = (fsT l).drop 1 ∧ (l ≠ [] → fsT l = 32 :: Lib.join (l.map fiT) [44, 32])
 | [] => ⟨rfl, fun h => absurd rfl h⟩
 | f :: r => by
  have e : Lib.join ((f :: r).map fiT) [44, 32] = fiT f ++ (r.map fun g => 44 :: 32 :: fiT g).flatten := by
   rw [List.map_cons, Lib.join_cons]
   unfold Lib.joinTail
   rw [List.map_map]
   rfl
  rw [e]
  exact ⟨rfl, fun _ => rfl⟩
def kpT (n : Int) : List UInt8 := if n = 0 then [] else [107, 101, 101, 112, 32] ++ Lib.itoa n
theorem tb_wrd {t : Tb} (h : tbE t = 0) : wrd [⟨#[116, 97, 98, 108, 101]⟩, t.nm, ⟨#[111, 102]⟩, t.en, ⟨#[123]⟩, B8 (Lib.join (t.fs.map fiT) [44, 32]), ⟨#[125]⟩, B8 (kpT t.kp)] ++ [59] = tbT t := by
 obtain ⟨h1, h2, h3, h4, h5, h6⟩ := tbE_zero h
 have hd : ∀ s : ByteArray, s.size ≠ 0 → s ≠ .empty := fun s h e => h (by rw [e]; rfl)
 have hk : Lib.joinTail [32] ((nel [B8 (kpT t.kp)]).map (·.data.toList)) = (if t.kp = 0 then [] else [32, 107, 101, 101, 112, 32] ++ Lib.itoa t.kp) := by
  by_cases h0 : t.kp = 0
  ·have e0 : B8 (kpT t.kp) = .empty := by unfold kpT; rw [if_pos h0]; rfl
   rw [e0, tail_none _ _ rfl, if_pos h0]; rfl
  ·have hx : kpT t.kp ≠ [] := by unfold kpT; rw [if_neg h0]; simp
   rw [tail_cons _ _ (b8_ne hx), tail_nil, B8_data, if_neg h0]
   unfold kpT
   rw [if_neg h0]
   simp
 have hf : Lib.joinTail [32] ((nel [B8 (Lib.join (t.fs.map fiT) [44, 32]), ⟨#[125]⟩, B8 (kpT t.kp)]).map (·.data.toList)) = fsT t.fs ++ ([32, 125] ++ (if t.kp = 0 then [] else [32, 107, 101, 101, 112, 32] ++ Lib.itoa t.kp)) := by
  by_cases h0 : t.fs = []
  ·have e0 : B8 (Lib.join (t.fs.map fiT) [44, 32]) = .empty := by rw [h0]; rfl
   rw [e0, tail_none _ _ rfl, tail_cons _ _ (hd _ (by decide)), hk, h0]
   rfl
  ·have hj := (fs_join t.fs).2 h0
   have hx : Lib.join (t.fs.map fiT) [44, 32] ≠ [] := by
    cases hfs : t.fs with
    | nil => exact absurd hfs h0
    | cons f r =>
     rw [List.map_cons, Lib.join_cons]
     have := (fiT_len (h6 f (by rw [hfs]; exact List.mem_cons_self ..)).1 (h6 f (by rw [hfs]; exact List.mem_cons_self ..)).2).2
     intro e
     exact this (List.append_eq_nil_iff.1 e).1
   rw [tail_cons _ _ (b8_ne hx), tail_cons _ _ (hd _ (by decide)), hk, hj, B8_data]
 rw [wrd_cons _ (hd _ (by decide)), tail_cons _ _ (name_ne h1), tail_cons _ _ (hd _ (by decide)), tail_cons _ _ (name_ne h2), tail_cons _ _ (hd _ (by decide)), hf]
 unfold tbT
 simp
theorem join_le' (k : Nat) : ∀ l : List (List UInt8), (∀ x ∈ l, x.length ≤ k) → (Lib.joinTail [44, 32] l).length ≤ (k + 2) * l.length
 | [], _ => Nat.zero_le _
 | x :: l, h => by
  have h1 := h x (List.mem_cons_self ..)
  have h2 := join_le' k l fun y hy => h y (List.mem_cons_of_mem _ hy)
  unfold Lib.joinTail at h2 ⊢
  rw [List.map_cons, List.flatten_cons, List.length_append, List.length_append]
  simp only [List.length_cons, List.length_nil, Nat.mul_add, Nat.mul_one]
  omega
theorem fs_len (l : List Fi) (h5 : l.length ≤ 8) (h6 : ∀ f ∈ l, name f.nm = true ∧ tyE f.ty = 0) : (Lib.join (l.map fiT) [44, 32]).length ≤ 3000 := by
 cases l with
 | nil => exact Nat.zero_le _
 | cons f r =>
  have h1 := (fiT_len (h6 f (List.mem_cons_self ..)).1 (h6 f (List.mem_cons_self ..)).2).1
  have h2 := join_le' 300 (r.map fiT) fun x hx => by
   obtain ⟨g, hg, rfl⟩ := List.mem_map.1 hx
   exact (fiT_len (h6 g (List.mem_cons_of_mem _ hg)).1 (h6 g (List.mem_cons_of_mem _ hg)).2).1
  rw [List.map_cons, Lib.join_cons, List.length_append]
  rw [List.length_map] at h2
  simp only [List.length_cons] at h5
  omega
theorem tbT_len {t : Tb} (h : tbE t = 0) : (tbT t).length ≤ 4000 := by
 obtain ⟨h1, h2, h3, h4, h5, h6⟩ := tbE_zero h
 have a1 := name_len h1
 have a2 := name_len h2
 have a3 := itoa_le t.kp h3 (by omega)
 have a4 := fs_len t.fs h5 h6
 have a5 : (fsT t.fs).length ≤ (Lib.join (t.fs.map fiT) [44, 32]).length + 1 := by
  by_cases h0 : t.fs = []
  ·rw [h0]; decide
  ·rw [(fs_join t.fs).2 h0]; simp
 have a6 : (if t.kp = 0 then [] else [32, 107, 101, 101, 112, 32] ++ Lib.itoa t.kp : List UInt8).length ≤ 30 := by split <;> simp; omega
 unfold tbT
 rw [str_len] at a1 a2
 simp only [List.length_append, List.length_cons, List.length_nil, str_len] at *
 omega
theorem op_pushSg {o : Oper} {a : Act} {w : World} {K : Act → World → Prop} {Q : Exit → Act → World → Prop} (s x : Operand)
  (ho : o.op = .call { callee := .builtin .append, args := #[s, x], argTypes := #[97, 97] })
  (base : Nat) (v : Value) (l : List ByteArray) (hs : a.eval s = v) (hown : un.OS w base v l) (b : Nat) (t : ByteArray) (hx : a.eval x = .slice (some ⟨b, 0, none⟩) 1 1) (hB : w.cell? ⟨b, 0, none⟩ = some (.string t))
  (hn : l.length < 5864062014805) (hbase : base ≤ w.heap.size)
  (h : ∀ v' w', un.OS w' base v' (l ++ [t]) → Below base w w' → w.grownBy w' v.ownBlock → K (a.put o.dst v') w') : o.wp Tryz.prog a w K Q := by
 obtain ⟨i, hi, hz0, hz1, hz2⟩ := info_parts un.infoS
 refine wp_append_own w s x 97 ho base 9 i (.string ByteArray.empty) 1 16 Tryz.underlying97 hi hz0 hz1 hz2 rfl (by decide) v l.length (l.map Value.string) hs hown ⟨b, 0, none⟩ 1 1 [.string t] hx rfl ?_ (fun u hu => by simp at hu; subst hu; rfl)
  (by unfold maxLen; omega) (by omega) hbase fun v' w' h1 h2 _ => h v' w' (by unfold un.OS; rw [List.map_append, List.length_append]; exact h1) ((Below.refl base w).grown h2 hbase fun k hk => (hown.lt k hk).1) h2
 intro j u hu
 match j, hu with
 | 0, hu => simp at hu; subst hu; exact hB
 | j + 1, hu => simp at hu
theorem range_far {w w' : World} {v : Value} {b o : Nat} {cs : List Value} (h : w.rangeAt b o cs) (hg : w.grownBy w' v.ownBlock) (hne : v.ownBlock ≠ some b) : w'.rangeAt b o cs := fun j u hu => hg.cell (h j u hu) (fun e => hne e.symm)
theorem os_far {w : World} {base : Nat} {v : Value} {l : List ByteArray} (h : un.OS w base v l) : v.ownBlock ≠ some w.heap.size := fun e => by
 have := (h.lt _ e).2
 omega
theorem blk_rng {w : World} {g : Nat} {T : TypeId} {cs : Array Value} (h : Blk w g T cs) : w.rangeAt g 0 cs.toList := fun j v hv => by
 rw [Nat.zero_add, h.cell j]
 rw [Array.getElem?_toList] at hv
 exact hv
theorem ptable_any (t : Tb) (a : Option Addr) (c : Nat) (w : World) (hs : t.sz) (hA : Fis w a t.fs.length c t.fs) (T : Tabq w) : Calls Tryz.prog 20 #[.agg (tbC t a c)] w (Tx (txO (tbE t) (tbT t)) (tbE t) w) := by
 have bb := balloc (b0 w) (.cells (tbC t a c) 48)
 have B0 := Lib.hid bb
 have G := Lib.hid (Blk.new w 48 (tbC t a c))
 have C1 := Lib.hid (table_any t a c _ hs (hA.keeps bb) (T.stays bb).t)
 have HA := Lib.hid (hA.keeps bb)
 have TQ := Lib.hid (T.stays bb)
 have HO : txO (tbE t) (tbT t) = txO (tbE t) (tbT t) := rfl
 conv at HO => rhs; unfold txO
 replace HO := Lib.hid HO
 have HZ := Lib.hid (fun (h : tbE t = 0) => tbE_zero h)
 have HW := Lib.hid (fun (h : tbE t = 0) => (tb_wrd h).symm)
 have HL := Lib.hid (fun (h : tbE t = 0) => tbT_len h)
 clear bb hA T hs
 generalize txO (tbE t) (tbT t) = s9 at *
 generalize tbE t = ce at *
 unfold tbC at *
 go_enter Tryz.func20, Tryz.ntmps20
 go_upto_region 1 with fail
 generalize hw0 : (w.alloc (.cells #[.string t.nm, .string t.en, .slice a t.fs.length c, .int .i64 t.kp] 48)) = w0 at *
 clear hw0
 have hgl := Lib.hid G.out.lt
 go_wp2_with (refine arm_loadT infTb Tryz.underlying48 rfl (.tmp 1) rfl rfl _ _ _ rfl G.out rfl ?_)
 refine C1.out.mono ?_
 rintro e w1 ⟨rfl, b1⟩
 have B1 := Lib.hid b1
 clear b1 C1
 by_cases h0 : ce = 0
 ·have q : (ce != 0) = false := by rw [bne, in_is h0]; rfl
  have HS := Lib.hid (HO.out.trans (if_pos h0))
  obtain ⟨z1, z2, z3, z4, z5, z6⟩ := HZ.out h0
  have HE := Lib.hid (HW.out h0)
  have hll := Lib.hid (HL.out h0)
  replace h0 := Lib.hid h0
  have N1 := Lib.hid z1
  have N2 := Lib.hid z2
  have N3 := Lib.hid z3
  have N4 := Lib.hid z4
  have N5 := Lib.hid z5
  have N6 := Lib.hid z6
  clear z1 z2 z3 z4 z5 z6 HZ HW HL
  have g2 := (G.out.keeps B1.out).cell 2
  simp only [List.getElem?_toArray, List.getElem?_cons_zero, List.getElem?_cons_succ] at g2
  go_wp2_with fail
  clear g2
  go_loopw [4, 16] (fun vu vi wr => ∃ j : Nat, vi = .int .i64 (j : Nat) ∧ Hid (j ≤ t.fs.length) ∧ Hid (un.OS wr w0.heap.size vu ((t.fs.take j).map fun f => B8 (fiT f))) ∧ Hid (Below w0.heap.size w0 wr)) (fun _ vi _ => t.fs.length - (intOf vi).toNat)
  case atStart => exact ⟨0, rfl, Lib.hid (Nat.zero_le _), Lib.hid (un.OS.nil _ _), B1⟩
  case round =>
   clear B1
   obtain ⟨j, rfl, hj, hO, hb⟩ := hrel
   by_cases hlt : j < t.fs.length
   ·have q1 : decide ((j : Int) < (t.fs.length : Int)) = true := decide_eq_true (by omega)
    have hov0 := os_far hO.out
    obtain ⟨bk, off, rfl, hC⟩ := HA.out.hat.resolve_left (by omega)
    obtain ⟨cs, hcs, R1, ua, uc, rfl, U1⟩ := hC j hlt
    have hm := List.getElem_mem hlt
    have f4 := Lib.hid (next_at (j := j) (by have := N5.out; omega))
    have i1 : (j : Int) < (t.fs.length : Int) := by omega
    have i2 : j < t.fs.length := hlt
    have hfn := Lib.hid (N6.out _ hm)
    have htk := Lib.hid (show (t.fs.take (j + 1)).map (fun f => B8 (fiT f)) = (t.fs.take j).map (fun f => B8 (fiT f)) ++ [B8 (fiT t.fs[j])] by rw [List.take_succ_eq_append_getElem hlt, List.map_append]; rfl)
    have hl8 := Lib.hid (show ((t.fs.take j).map fun f => B8 (fiT f)).length < 5864062014805 by have := N5.out; simp; omega)
    clear hC hm hcs hj
    replace R1 := Lib.hid (range_keeps R1 hb.out)
    replace U1 := Lib.hid U1
    generalize t.fs[j] = f at *
    obtain ⟨m1, m2⟩ := hfn.out
    have hz := fiT_len m1 m2
    have hW := fi_wrd m1 m2
    have A1 := add_b8 f.nm.data.toList [58] (by have := name_len m1; omega) (by decide)
    replace A1 : ∀ W, (Op.stringOp .add f.nm ⟨#[58]⟩).run Tryz.prog W = .ok (.string (B8 (f.nm.data.toList ++ [58]))) W := A1
    have CT := Lib.hid (fun (W : World) (b : Below w0.heap.size w0 W) => typeText_any f.ty ua uc W m2 (U1.out.keeps b) (TQ.out.stays b))
    have hzW : (wrd [B8 (f.nm.data.toList ++ [58]), B8 (tyT f.ty)]).length ≤ 100000000 := by rw [hW]; omega
    have CW := Lib.hid (fun (W : World) (a : Option Addr) (h : Ss W a 2 2 [B8 (f.nm.data.toList ++ [58]), B8 (tyT f.ty)]) => words_any a 2 2 _ W h (by decide) hzW)
    rw [hW] at CW
    have N := Lib.hid (fun (W : World) => Ss.new W [B8 (f.nm.data.toList ++ [58]), B8 (tyT f.ty)] 2 #[.string (B8 (f.nm.data.toList ++ [58])), .string (B8 (tyT f.ty))] rfl rfl (by decide) 9)
    clear hz hW hzW hfn m1 m2
    generalize B8 (fiT f) = s3 at *
    generalize B8 (f.nm.data.toList ++ [58]) = s1 at *
    generalize B8 (tyT f.ty) = s2 at *
    unfold fiC tyC at *
    go_wp2_with (first | (refine arm_mid infFi Tryz.underlying88 rfl (.tmp 18) rfl rfl bk (off + j * 4) #[.string f.nm, .int .i64 f.ty.k, .slice ua f.ty.un.length uc, .string f.ty.of] rfl R1.out rfl ?_) | (refine arm_storeT infFi (.tmp 6) (.tmp 19) rfl rfl _ _ _ _ rfl rfl (Blk.new _ _ _) rfl rfl (by simp [Value.oneCell']) ?_; intro w5 L5 hs5; have bb5 := (balloc (b0 wr) _).trans (hs5.below (Nat.le_refl _))))
    have b5 := Lib.hid bb5
    have L6 := Lib.hid L5
    have O5 := Lib.hid (hO.out.keeps bb5)
    have D5 := Lib.hid (hb.out.trans (bb5.mono hb.out.size))
    clear bb5 hs5 L5 hO R1
    have hov := Lib.hid hov0
    clear hov0
    refine wp_region_held_drew (S := fun w' => w'.rangeAt wr.heap.size 0 #[.string f.nm, .int .i64 f.ty.k, .slice ua f.ty.un.length uc, .string f.ty.of].toList ∧ Below w0.heap.size w0 w') (by kernel_rfl) ⟨blk_rng L6.out.drew, D5.out.drew⟩ (fun hH => ?_)
    replace O5 := Lib.hid (os_drew O5.out)
    have hsz := Lib.hid (show wr.heap.size < w5.drew.heap.size from L6.out.lt)
    clear D5 b5
    generalize w5.drew = y5 at *
    refine held_take (i := 0) (d := 20) (v := ?_) rfl (by kernel_rfl) (by kernel_rfl) (by kernel_rfl) rfl (fun _ _ _ h => h) rfl hH (fun w' hS => ?_) ?_
    rotate_left
    ·go_simp; first | done | with_reducible rfl
    simp only [List.set_cons_zero, List.set_cons_succ]
    refine held_take (i := 1) (d := 21) (v := ?_) rfl (by kernel_rfl) (by kernel_rfl) (by kernel_rfl) rfl (fun _ _ _ h => h) rfl hH (fun w' hS => ?_) ?_
    rotate_left
    ·go_simp; first | done | with_reducible rfl
    simp only [List.set_cons_zero, List.set_cons_succ]
    refine held_take (i := 2) (d := 22) (v := ?_) rfl (by kernel_rfl) (by kernel_rfl) (by kernel_rfl) rfl (fun _ _ _ h => h) rfl hH (fun w' hS => ?_) ?_
    rotate_left
    ·have e1 := (show w'.cell? ⟨wr.heap.size, 0, none⟩ = some (.string f.nm) from hS.1 0 _ rfl); go_simp; first | done | with_reducible rfl
    simp only [List.set_cons_zero, List.set_cons_succ]
    refine held_take (i := 3) (d := 23) (v := ?_) rfl (by kernel_rfl) (by kernel_rfl) (by kernel_rfl) rfl (fun _ _ _ h => h) rfl hH (fun w' hS => ?_) ?_
    rotate_left
    ·go_simp; first | done | with_reducible rfl
    simp only [List.set_cons_zero, List.set_cons_succ]
    refine held_take (i := 4) (d := 24) (v := ?_) rfl (by kernel_rfl) (by kernel_rfl) (by kernel_rfl) rfl (fun _ _ _ h => h) rfl hH (fun w' hS => ?_) ?_
    rotate_left
    ·go_simp; first | done | with_reducible rfl
    simp only [List.set_cons_zero, List.set_cons_succ]
    refine held_take (i := 5) (d := 25) (v := .agg #[.int .i64 f.ty.k, .slice ua f.ty.un.length uc, .string f.ty.of]) rfl (by kernel_rfl) (by kernel_rfl) (by kernel_rfl) rfl (fun _ _ _ h => h) rfl hH (fun w' hS => yield_loadM infTy Tryz.underlying31 rfl (.tmp 24) rfl _ _ _ rfl (range_three (hS.1 1 _ rfl) (hS.1 2 _ rfl) (hS.1 3 _ rfl)) rfl) ?_
    simp only [List.set_cons_zero, List.set_cons_succ]
    refine held_only (i := 6) rfl (by kernel_rfl) rfl (fun K hK => ?_)
    go_simp
    refine (CT.out _ hH.2).mono ?_
    rintro e v1 ⟨rfl, c1⟩
    refine hK.out _ _ ⟨range_keeps hH.1 c1, bnext hH.2 c1⟩ (fun hH => ?_)
    clear hK K
    replace O5 := Lib.hid (O5.out.keeps c1)
    replace hsz := Lib.hid (Nat.lt_of_lt_of_le hsz.out c1.size)
    clear c1
    refine held_only (i := 7) rfl (by kernel_rfl) rfl (fun K hK => ?_)
    go_simp
    have hNN := N.out v1
    refine hK.out _ _ ⟨range_keeps hH.1 (balloc (b0 _) _), balloc hH.2 _⟩ (fun hH => ?_)
    clear hK K
    replace O5 := Lib.hid (O5.out.keeps (balloc (b0 _) (.cells #[.string s1, .string s2] 9)))
    replace hsz := Lib.hid (Nat.lt_of_lt_of_le hsz.out (balloc (b0 v1) (.cells #[.string s1, .string s2] 9)).size)
    refine held_only (i := 8) rfl (by kernel_rfl) rfl (fun K hK => ?_)
    go_simp
    refine (CW.out _ _ hNN).mono ?_
    rintro e v2 ⟨rfl, c2⟩
    refine hK.out _ _ ⟨range_keeps hH.1 c2, bnext hH.2 c2⟩ (fun hH => ?_)
    clear hK K
    replace O5 := Lib.hid (O5.out.keeps c2)
    clear c2 hNN N CW CT hsz
    refine held_only (i := 9) rfl (by kernel_rfl) rfl (fun K hK => ?_)
    go_simp
    refine hK.out _ _ ⟨range_keeps hH.1 (balloc (b0 _) _), balloc hH.2 _⟩ (fun hH => ?_)
    clear hK K
    replace O5 := Lib.hid (O5.out.keeps (balloc (b0 _) (.cells #[.string s3] 9)))
    refine held_only (i := 10) rfl (by kernel_rfl) rfl (fun K hK => ?_)
    refine op_pushSg (.tmp 20) (.tmp 29) rfl w0.heap.size _ _ rfl O5.out v2.heap.size s3 rfl (by simp [go_sem]) hl8.out hH.2.size ?_
    intro v8 w8 O9 b9 g9
    have O10 := Lib.hid (show un.OS w8 w0.heap.size v8 ((t.fs.take (j + 1)).map fun f => B8 (fiT f)) by rw [htk.out]; exact O9)
    have D10 := Lib.hid (hH.2.trans b9)
    refine hK.out _ _ ⟨range_far hH.1 g9 hov.out, D10.out⟩ (fun hH => ?_)
    clear hK K O9 b9 g9
    refine held_take (i := 11) (d := 4) (v := ?_) rfl (by kernel_rfl) (by kernel_rfl) (by kernel_rfl) rfl (fun _ _ _ h => h) rfl hH (fun w' hS => ?_) ?_
    rotate_left
    ·go_simp; first | done | with_reducible rfl
    simp only [List.set_cons_zero, List.set_cons_succ]
    clear hH
    refine wpAnyH_done (by kernel_rfl) ?_ _
    go_wp2_with fail
    exact ⟨⟨j + 1, congrArg (Value.int .i64) f4.out, Lib.hid hlt, O10, D10⟩, less_at hlt f4.out⟩
   ·have q1 : decide ((j : Int) < (t.fs.length : Int)) = false := decide_eq_false (by omega)
    have hO2 := hO.out
    rw [show t.fs.take j = t.fs from List.take_of_length_le (by omega)] at hO2
    have OO := Lib.hid hO2
    have GG := Lib.hid (G.out.keeps hb.out)
    have TR := Lib.hid (TQ.out.stays hb.out).t
    have BW := Lib.hid (bnext B0.out hb.out)
    clear hO hO2 hj G TQ HA
    have hil := itoa_le t.kp N3.out (by have := N4.out; omega)
    have hmap : ((t.fs.map fun f => B8 (fiT f)).map (·.data.toList)) = t.fs.map fiT := by rw [List.map_map]; rfl
    have hfl := fs_len t.fs N5.out N6.out
    have CJ := Lib.hid (fun (v : Value) (base : Nat) (W : World) (h : un.OS W base v (t.fs.map fun f => B8 (fiT f))) => join_sep ⟨#[44, 32]⟩ v _ base W h (by have := N5.out; simp; omega) (by rw [hmap]; exact Nat.le_trans hfl (by omega)))
    rw [hmap] at CJ
    rw [show (Lib.join (t.fs.map fiT) (⟨#[44, 32]⟩ : ByteArray).data.toList) = Lib.join (t.fs.map fiT) [44, 32] from rfl] at CJ
    have CI := Lib.hid (fun (W : World) (T : Tabs W) => itoaB_any t.kp N3.out (by have := N4.out; omega) W T)
    have hWK : wrd [⟨#[107, 101, 101, 112]⟩, B8 (Lib.itoa t.kp)] = [107, 101, 101, 112, 32] ++ Lib.itoa t.kp := by rw [wrd_cons _ (fun e => absurd (congrArg (fun b : ByteArray => b.size) e) (by decide)), tail_cons _ _ (b8_ne (itoa_ne _)), tail_nil, List.append_nil, B8_data]; rfl
    have hzK : (wrd [⟨#[107, 101, 101, 112]⟩, B8 (Lib.itoa t.kp)]).length ≤ 100000000 := by rw [hWK]; simp; omega
    have CK := Lib.hid (fun (W : World) (a : Option Addr) (h : Ss W a 2 2 [⟨#[107, 101, 101, 112]⟩, B8 (Lib.itoa t.kp)]) => words_any a 2 2 _ W h (by decide) hzK)
    rw [hWK] at CK
    have NK := Lib.hid (fun (W : World) => Ss.new W [⟨#[107, 101, 101, 112]⟩, B8 (Lib.itoa t.kp)] 2 #[.string ⟨#[107, 101, 101, 112]⟩, .string (B8 (Lib.itoa t.kp))] rfl rfl (by decide) 9)
    obtain ⟨WL, hWL⟩ : ∃ WL, WL = [⟨#[116, 97, 98, 108, 101]⟩, t.nm, ⟨#[111, 102]⟩, t.en, ⟨#[123]⟩, B8 (Lib.join (t.fs.map fiT) [44, 32]), ⟨#[125]⟩, B8 (kpT t.kp)] := ⟨_, rfl⟩
    have hE := HE.out
    rw [← hWL] at hE
    have hwl : (wrd WL).length ≤ 4000 := by have := hll.out; rw [hE, List.length_append] at this; omega
    have CW := Lib.hid (fun (W : World) (a : Option Addr) (h : Ss W a 8 8 WL) => words_any a 8 8 _ W h (by decide) (by omega))
    have NW := Lib.hid (fun (W : World) => Ss.new W [⟨#[116, 97, 98, 108, 101]⟩, t.nm, ⟨#[111, 102]⟩, t.en, ⟨#[123]⟩, B8 (Lib.join (t.fs.map fiT) [44, 32]), ⟨#[125]⟩, B8 (kpT t.kp)] 8 #[.string ⟨#[116, 97, 98, 108, 101]⟩, .string t.nm, .string ⟨#[111, 102]⟩, .string t.en, .string ⟨#[123]⟩, .string (B8 (Lib.join (t.fs.map fiT) [44, 32])), .string ⟨#[125]⟩, .string (B8 (kpT t.kp))] rfl rfl (by decide) 9)
    rw [← hWL] at NW
    have A9 := add_b8 (wrd WL) [59] (by omega) (by decide)
    rw [← hE] at A9
    replace A9 : ∀ W, (Op.stringOp .add (B8 (wrd WL)) ⟨#[59]⟩).run Tryz.prog W = .ok (.string (B8 (tbT t))) W := A9
    have hkp := Lib.hid (show B8 (kpT t.kp) = if t.kp = 0 then .empty else B8 ([107, 101, 101, 112, 32] ++ Lib.itoa t.kp) by unfold kpT; split <;> rfl)
    clear hil hmap hfl hWK hzK hWL hE hwl HE hll N1 N2 N3 N4 N5 N6
    generalize B8 (Lib.join (t.fs.map fiT) [44, 32]) = sj at *
    generalize B8 (kpT t.kp) = sk at *
    generalize B8 (Lib.itoa t.kp) = si at *
    generalize B8 ([107, 101, 101, 112, 32] ++ Lib.itoa t.kp) = sx at *
    generalize B8 (wrd WL) = sw at *
    generalize B8 (tbT t) = st at *
    have g3 := GG.out.cell 3
    simp only [List.getElem?_toArray, List.getElem?_cons_zero, List.getElem?_cons_succ] at g3
    obtain ⟨bq, hbq⟩ : ∃ bq : Bool, bq = !decide (t.kp = 0) := ⟨_, rfl⟩
    have q2 : (t.kp != 0) = bq := by rw [hbq, bne, eqI]
    replace hbq := Lib.hid hbq
    go_upto_if 34 with fail
    clear g3
    go_cut [7] from 35 to 39 (fun v wx => v = .string sk ∧ Hid (Below wr.heap.size wr wx))
    case first =>
     cases bq
     ·have h2 : t.kp = 0 := by have := hbq.out; simpa using this
      have hc := Lib.hid (hkp.out.trans (if_pos h2))
      clear hbq
      replace h2 := Lib.hid h2
      go_wp2_with fail
      go_meet
      case rel => exact ⟨by rw [hc.out]; rfl, Lib.hid (b0 wr)⟩
     ·have h2 : t.kp ≠ 0 := by have := hbq.out; simpa using this
      have hc := Lib.hid (hkp.out.trans (if_neg h2))
      clear hbq
      replace h2 := Lib.hid h2
      have g3 := GG.out.cell 3
      simp only [List.getElem?_toArray, List.getElem?_cons_zero, List.getElem?_cons_succ] at g3
      go_wp2_with fail
      refine (CI.out _ TR.out).mono ?_
      rintro e w3 ⟨rfl, b3⟩
      have B3 := Lib.hid b3
      clear b3 g3
      go_wp2_with fail
      refine (CK.out _ _ (NK.out _)).mono ?_
      rintro e w4 ⟨rfl, b4⟩
      have B4 := Lib.hid (bnext (balloc B3.out _) b4)
      clear b4
      go_wp2_with fail
      go_meet
      case rel => exact ⟨by rw [hc.out], B4⟩
    case rest =>
     obtain ⟨rfl, b5⟩ := hcut
     have B5 := Lib.hid (bnext BW.out b5.out)
     have G5 := Lib.hid (GG.out.keeps b5.out)
     have O5 := Lib.hid (OO.out.keeps b5.out)
     clear b5 GG OO BW CI CK NK TR hkp hbq
     go_upto_region 13 with fail
     refine wp_region_held_drew (S := fun w' => Blk w' w.heap.size 48 #[.string t.nm, .string t.en, .slice a t.fs.length c, .int .i64 t.kp] ∧ Below w.heap.size w w') (by kernel_rfl) ⟨G5.out.drew, B5.out.drew⟩ (fun hH => ?_)
     replace O5 := Lib.hid (os_drew O5.out)
     clear G5 B5
     generalize World.drew _ = y5 at *
     refine held_take (i := 0) (d := 40) (v := ?_) rfl (by kernel_rfl) (by kernel_rfl) (by kernel_rfl) rfl (fun _ _ _ h => h) rfl hH (fun w' hS => ?_) ?_
     rotate_left
     ·go_simp; first | done | with_reducible rfl
     simp only [List.set_cons_zero, List.set_cons_succ]
     refine held_take (i := 1) (d := 41) (v := ?_) rfl (by kernel_rfl) (by kernel_rfl) (by kernel_rfl) rfl (fun _ _ _ h => h) rfl hH (fun w' hS => ?_) ?_
     rotate_left
     ·have e1 := hS.1.cell 0; simp only [List.getElem?_toArray, List.getElem?_cons_zero] at e1; go_simp; first | done | with_reducible rfl
     simp only [List.set_cons_zero, List.set_cons_succ]
     refine held_take (i := 2) (d := 42) (v := ?_) rfl (by kernel_rfl) (by kernel_rfl) (by kernel_rfl) rfl (fun _ _ _ h => h) rfl hH (fun w' hS => ?_) ?_
     rotate_left
     ·go_simp; first | done | with_reducible rfl
     simp only [List.set_cons_zero, List.set_cons_succ]
     refine held_take (i := 3) (d := 43) (v := ?_) rfl (by kernel_rfl) (by kernel_rfl) (by kernel_rfl) rfl (fun _ _ _ h => h) rfl hH (fun w' hS => ?_) ?_
     rotate_left
     ·have e1 := hS.1.cell 1; simp only [List.getElem?_toArray, List.getElem?_cons_zero, List.getElem?_cons_succ] at e1; go_simp; first | done | with_reducible rfl
     simp only [List.set_cons_zero, List.set_cons_succ]
     refine held_take (i := 4) (d := 44) (v := ?_) rfl (by kernel_rfl) (by kernel_rfl) (by kernel_rfl) rfl (fun _ _ _ h => h) rfl hH (fun w' hS => ?_) ?_
     rotate_left
     ·go_simp; first | done | with_reducible rfl
     simp only [List.set_cons_zero, List.set_cons_succ]
     refine held_take (i := 6) (d := 46) (v := ?_) rfl (by kernel_rfl) (by kernel_rfl) (by kernel_rfl) rfl (fun _ _ _ h => h) rfl hH (fun w' hS => ?_) ?_
     rotate_left
     ·go_simp; first | done | with_reducible rfl
     simp only [List.set_cons_zero, List.set_cons_succ]
     refine held_only (i := 5) rfl (by kernel_rfl) rfl (fun K hK => ?_)
     go_simp
     refine (CJ.out _ _ _ O5.out).mono ?_
     rintro e v1 ⟨rfl, c1⟩
     refine hK.out _ _ ⟨hH.1.keeps c1, bnext hH.2 c1⟩ (fun hH => ?_)
     clear hK K c1 O5 CJ
     refine held_only (i := 7) rfl (by kernel_rfl) rfl (fun K hK => ?_)
     go_simp
     have hNN := NW.out v1
     refine hK.out _ _ ⟨hH.1.keeps (balloc (b0 _) _), balloc hH.2 _⟩ (fun hH => ?_)
     clear hK K
     refine held_only (i := 8) rfl (by kernel_rfl) rfl (fun K hK => ?_)
     go_simp
     refine (CW.out _ _ hNN).mono ?_
     rintro e v2 ⟨rfl, c2⟩
     refine hK.out _ _ ⟨hH.1.keeps c2, bnext hH.2 c2⟩ (fun hH => ?_)
     clear hK K c2 hNN NW CW
     refine held_take (i := 9) (d := 49) (v := ?_) rfl (by kernel_rfl) (by kernel_rfl) (by kernel_rfl) rfl (fun _ _ _ h => h) rfl hH (fun w' hS => ?_) ?_
     rotate_left
     ·go_simp; first | done | with_reducible rfl
     simp only [List.set_cons_zero, List.set_cons_succ]
     refine held_take (i := 10) (d := 2) (v := ?_) rfl (by kernel_rfl) (by kernel_rfl) (by kernel_rfl) rfl (fun _ _ _ h => h) rfl hH (fun w' hS => ?_) ?_
     rotate_left
     ·go_simp; first | done | with_reducible rfl
     simp only [List.set_cons_zero, List.set_cons_succ]
     refine held_take (i := 11) (d := 3) (v := ?_) rfl (by kernel_rfl) (by kernel_rfl) (by kernel_rfl) rfl (fun _ _ _ h => h) rfl hH (fun w' hS => ?_) ?_
     rotate_left
     ·go_simp; first | done | with_reducible rfl
     simp only [List.set_cons_zero, List.set_cons_succ]
     have B9 := Lib.hid hH.2
     clear hH
     refine wpAnyH_done (by kernel_rfl) ?_ _
     go_wp2_with fail
     go_ret2
     exact tx_of HS.out.symm h0.out.symm B9.out
 ·have q : (ce != 0) = true := by rw [bne, in_ne h0]; rfl
  have HS := Lib.hid (HO.out.trans (if_neg h0))
  replace h0 := Lib.hid h0
  go_wp2_with fail
  go_ret2
  exact tx_of HS.out.symm rfl (bnext B0.out B1.out)
end Go.Proofs.YtbahfelnbofjjaaGreatDoor.ch
namespace Go.Proofs.YtbahfelnbofjjaaGreatDoor.ch
open Go.RowKit dec
def Fw (n : Int) (x : Ex) (w : World) (e : Ending) (w' : World) : Prop := ∃ r : Int, e = .returned (.int .i64 r) ∧ (-1 ≤ r ∧ r ≤ 1000) ∧ (0 ≤ r → (x.ar.sz : Int) + 1 + r ≤ n) ∧ Below w.heap.size w w'
theorem fw_no {n : Int} {x : Ex} {w w' : World} (hb : Below w.heap.size w w') : Fw n x w (.returned (.int .i64 (-1))) w' := ⟨-1, rfl, by omega, by omega, hb⟩
theorem sz_drop {F : Fo} {j : Nat} (h : j < F.len) : (F.drop j).sz = (F.nth j).ar.sz + 1 + (F.drop (j + 1)).sz := by
 rw [drop_nth F j h]
 simp only [Fo.sz]
 omega
theorem few_step (k : Nat) (IH : ∀ (x : Ex) (n : Int) (ua aa : Option Addr) (uc ac : Nat) (w : World), x.ar.sz < k → x.szs → -1 ≤ n → n ≤ 1000 → Ec w x ua uc aa ac → Calls Tryz.prog 13 #[.agg (exC x.h x.ar.len ua uc aa ac), .int .i64 n] w (Fw n x w))
  (x : Ex) (n : Int) (ua aa : Option Addr) (uc ac : Nat) (w : World) (hz : x.ar.sz = k) (hs : x.szs) (hn1 : -1 ≤ n) (hn2 : n ≤ 1000) (hE : Ec w x ua uc aa ac) : Calls Tryz.prog 13 #[.agg (exC x.h x.ar.len ua uc aa ac), .int .i64 n] w (Fw n x w) := by
 have bb := balloc (b0 w) (.cells (exC x.h x.ar.len ua uc aa ac) 29)
 have B0 := Lib.hid bb
 have G0 := Lib.hid (Blk.new w 29 (exC x.h x.ar.len ua uc aa ac))
 have HA := Lib.hid hE.ar
 have HU := Lib.hid hE.us
 have IH' := Lib.hid IH
 have HZ := Lib.hid hz
 have HX := Lib.hid hs
 have hN := Lib.hid (⟨hn1, hn2⟩ : -1 ≤ n ∧ n ≤ 1000)
 have z1 := hs.h.op
 have z2 := hs.h.nm
 have z3 := hs.h.tb
 have z4 := hs.h.vs
 have z5 := hE.us.hcap
 have z6 := hE.us.hmax
 have z7 := hE.ar.hcap
 have z8 := hE.ar.hmax
 clear hE IH hz hs bb
 unfold exC at *
 by_cases h1 : n < 1
 ·have q1 : decide (n < 1) = true := decide_eq_true h1
  go_enter Tryz.func13, Tryz.ntmps13
  go_wp2_with fail
  go_ret
  exact fw_no B0.out
 ·have q1 : decide (n < 1) = false := decide_eq_false h1
  by_cases h2 : 300 < ((x.h.op.size : Int) + x.h.nm.size + x.h.tb.size + x.h.vs.size)
  ·have q2 : decide (300 < ((x.h.op.size : Int) + x.h.nm.size + x.h.tb.size + x.h.vs.size)) = true := decide_eq_true h2
   go_enter Tryz.func13, Tryz.ntmps13
   go_wp2_with fail
   go_ret
   exact fw_no B0.out
  ·have q2 : decide (300 < ((x.h.op.size : Int) + x.h.nm.size + x.h.tb.size + x.h.vs.size)) = false := decide_eq_false h2
   by_cases h3 : 10 < x.h.un.length
   ·have q3 : decide (10 < (x.h.un.length : Int)) = true := decide_eq_true (by omega)
    go_enter Tryz.func13, Tryz.ntmps13
    go_wp2_with fail
    go_ret
    exact fw_no B0.out
   ·have q3 : decide (10 < (x.h.un.length : Int)) = false := decide_eq_false (by omega)
    by_cases h4 : 10 < x.ar.len
    ·have q4 : decide (10 < (x.ar.len : Int)) = true := decide_eq_true (by omega)
     go_enter Tryz.func13, Tryz.ntmps13
     go_wp2_with fail
     go_ret
     exact fw_no B0.out
    ·have q4 : decide (10 < (x.ar.len : Int)) = false := decide_eq_false (by omega)
     go_enter Tryz.func13, Tryz.ntmps13
     clear z1 z2 z3 z4
     go_wp2_with fail
     have BL := Lib.hid h3
     have AL := Lib.hid h4
     have N1 := Lib.hid h1
     clear q1 q2 q3 q4 h1 h2 h3 h4
     go_loopw [5] (fun vi wr => ∃ j : Nat, vi = .int .i64 (j : Nat) ∧ Hid (j ≤ x.h.un.length) ∧ Hid (Blk wr w.heap.size 29 #[.int .i64 x.h.k, .string x.h.op, .string x.h.nm, .string x.h.tb, .int .i64 x.h.vk, .int .i64 x.h.vn, .string x.h.vs, .slice ua x.h.un.length uc, .int .i64 x.h.pa, .int .i64 x.h.wk, .int .i64 x.h.ws, .slice aa x.ar.len ac]) ∧ Hid (Below w.heap.size w wr)) (fun vi _ => x.h.un.length - (intOf vi).toNat)
     case atStart => exact ⟨0, rfl, Lib.hid (Nat.zero_le _), G0, B0⟩
     case round =>
      obtain ⟨j, rfl, hj, hG, hb⟩ := hrel
      clear G0
      have g7 := hG.out.cell 7
      simp only [List.getElem?_toArray, List.getElem?_cons_zero, List.getElem?_cons_succ] at g7
      by_cases hlt : j < x.h.un.length
      ·have q1 : decide ((j : Int) < (x.h.un.length : Int)) = true := decide_eq_true (by omega)
       obtain ⟨bk, off, rfl, hC⟩ := (HU.out.keeps hb.out).hat.resolve_left (by omega)
       have c0 := ((hC j hlt).1)
       have f4 := Lib.hid (next_at (j := j) (by have := BL.out; omega))
       have i1 : (j : Int) < (x.h.un.length : Int) := by omega
       have i2 : j < x.h.un.length := hlt
       clear hC hj
       generalize (un.gt x.h.un j).1 = nm at *
       by_cases h5 : 100 < nm.size
       ·have q2 : decide (100 < (nm.size : Int)) = true := decide_eq_true (by omega)
        go_wp2_with fail
        go_ret
        exact fw_no hb.out
       ·have q2 : decide (100 < (nm.size : Int)) = false := decide_eq_false (by omega)
        go_wp2_with fail
        exact ⟨⟨j + 1, congrArg (Value.int .i64) (by omega), Lib.hid hlt, hG, hb⟩, less_at hlt (by omega)⟩
      ·have q1 : decide ((j : Int) < (x.h.un.length : Int)) = false := decide_eq_false (by omega)
       have m1 : (1 : Int) ≤ n := by have := N1.out; omega
       have m2 : n ≤ 1000 := hN.out.2
       go_wp2_with fail
       clear q1 g7 hj m1 m2
       go_loopw [1, 6] (fun vm vi wv => ∃ (i : Nat) (m : Int), vm = .int .i64 m ∧ vi = .int .i64 (i : Nat) ∧ Hid (i ≤ x.ar.len) ∧ Hid (-1 ≤ m ∧ m ≤ 1000) ∧ Hid (0 ≤ m → (x.ar.sz : Int) + 1 + m ≤ n + ((x.ar.drop i).sz : Int)) ∧ Hid (Blk wv w.heap.size 29 #[.int .i64 x.h.k, .string x.h.op, .string x.h.nm, .string x.h.tb, .int .i64 x.h.vk, .int .i64 x.h.vn, .string x.h.vs, .slice ua x.h.un.length uc, .int .i64 x.h.pa, .int .i64 x.h.wk, .int .i64 x.h.ws, .slice aa x.ar.len ac]) ∧ Hid (Below w.heap.size w wv)) (fun _ vi _ => x.ar.len - (intOf vi).toNat)
       case atStart => exact ⟨0, n - 1, rfl, rfl, Lib.hid (Nat.zero_le _), Lib.hid (by have := N1.out; have := hN.out; omega), Lib.hid (by intro; rw [drop_zero]; omega), hG, hb⟩
       case round =>
        clear hG hb
        obtain ⟨i, m, rfl, rfl, hi, hm, hR, hG, hb⟩ := hrel
        have g11 := hG.out.cell 11
        simp only [List.getElem?_toArray, List.getElem?_cons_zero, List.getElem?_cons_succ] at g11
        by_cases hl2 : i < x.ar.len
        ·have q1 : decide ((i : Int) < (x.ar.len : Int)) = true := decide_eq_true (by omega)
         by_cases h6 : 0 ≤ m
         ·have q2 : decide (0 ≤ m) = true := decide_eq_true h6
          obtain ⟨bk, off, va, vc, wa, wc, rfl, R1, E1⟩ := (HA.out.keeps hb.out).at hl2
          have f4 := Lib.hid (next_at (j := i) (by have := AL.out; omega))
          have i1 : (i : Int) < (x.ar.len : Int) := by omega
          have i2 : i < x.ar.len := hl2
          have hsz := Lib.hid (nth_sz x.ar i hl2)
          have hsd := Lib.hid (sz_drop hl2)
          have hxs := Lib.hid (nth_szs x.ar i HX.out.ar)
          replace E1 := Lib.hid E1
          replace R1 := Lib.hid R1
          clear hi
          generalize x.ar.nth i = y at *
          go_wp2_with (first | (refine arm_mid infX Tryz.underlying29 rfl (.tmp 71) rfl rfl bk (off + i * 12) (exC y.h y.ar.len va vc wa wc) rfl R1.out rfl ?_))
          refine (IH'.out y m va wa vc wc _ (by have := hsz.out; have := HZ.out; omega) hxs.out hm.out.1 hm.out.2 E1.out).mono ?_
          rintro e w6 ⟨r, rfl, hr1, hr2, b6⟩
          have B6 := Lib.hid (bnext hb.out b6)
          have G6 := Lib.hid (hG.out.keeps b6)
          replace hr1 := Lib.hid hr1
          replace hr2 := Lib.hid hr2
          clear b6 E1 R1 hG hb g11 h6 q2
          go_wp2_with fail
          exact ⟨⟨i + 1, r, rfl, congrArg (Value.int .i64) (by omega), Lib.hid hl2, hr1, Lib.hid (by intro h0; have a1 := hr2.out h0; have a2 := hR.out (by have := hsz.out; omega); have a3 := hsd.out; omega), G6, B6⟩, less_at hl2 (by omega)⟩
         ·have q2 : decide (0 ≤ m) = false := decide_eq_false h6
          go_wp2_with fail
          go_ret
          exact ⟨m, rfl, hm.out, fun h => absurd h (by omega), hb.out⟩
        ·have q1 : decide ((i : Int) < (x.ar.len : Int)) = false := decide_eq_false (by omega)
         have hd := Lib.hid (drop_end x.ar i (by omega))
         go_wp2_with fail
         go_ret
         exact ⟨m, rfl, hm.out, fun h => by have := hR.out h; rw [hd.out] at this; simpa [Fo.sz] using this, hb.out⟩
theorem few_any (x : Ex) (n : Int) (ua aa : Option Addr) (uc ac : Nat) (w : World) (hs : x.szs) (hn1 : -1 ≤ n) (hn2 : n ≤ 1000) (hE : Ec w x ua uc aa ac) : Calls Tryz.prog 13 #[.agg (exC x.h x.ar.len ua uc aa ac), .int .i64 n] w (Fw n x w) := by
 have key : ∀ k, ∀ (x : Ex) (n : Int) (ua aa : Option Addr) (uc ac : Nat) (w : World), x.ar.sz < k → x.szs → -1 ≤ n → n ≤ 1000 → Ec w x ua uc aa ac → Calls Tryz.prog 13 #[.agg (exC x.h x.ar.len ua uc aa ac), .int .i64 n] w (Fw n x w) := by
  intro k
  induction k with
  | zero => intro x n ua aa uc ac w h; exact absurd h (Nat.not_lt_zero _)
  | succ k ih =>
   intro x n ua aa uc ac w h hs h1 h2 hE
   exact few_step x.ar.sz (fun x' n' ua' aa' uc' ac' w' h' => ih x' n' ua' aa' uc' ac' w' (by omega)) x n ua aa uc ac w rfl hs h1 h2 hE
 exact key _ x n ua aa uc ac w (Nat.lt_succ_self _) hs hn1 hn2 hE
end Go.Proofs.YtbahfelnbofjjaaGreatDoor.ch
namespace Go.Proofs.YtbahfelnbofjjaaGreatDoor.ch
open Go.RowKit dec
structure Fe.sz (f : Fe) : Prop where
 nm : f.nm.size ≤ 140737488355328
 en : f.en.size ≤ 140737488355328
 of : f.ty.of.size ≤ 140737488355328
 bo : f.bo.szs
 few : f.bo.ar.sz ≤ 3000
theorem tyT_ne {t : Ty} (h : tyE t = 0) : tyT t ≠ [] := by
 obtain ⟨_, u, hf⟩ := (tyK_gd h).f
 have hb := (tyK_gd h).b
 have hw := (tyK_gd h).w
 intro h0
 rw [h0, hf, pcB_cons] at hb
 rw [hf] at hw
 have := pr_pos (wf_cons.1 hw).2.1
 have h3 := congrArg List.length hb
 simp only [List.length_append, List.length_nil] at h3
 omega
theorem pf_wrd {f : Fe} (h1 : name f.nm = true) (h3 : tyE f.ty = 0) (h4 : shE f.bo = 0) : wrd [⟨#[102, 101, 97, 116, 117, 114, 101]⟩, f.nm, ⟨#[111, 102]⟩, B8 (f.en.data.toList ++ [58]), B8 (tyT f.ty), ⟨#[61]⟩, B8 (txE f.bo)] ++ [59] = feT f := by
 have hd : ∀ s : ByteArray, s.size ≠ 0 → s ≠ .empty := fun s h e => h (by rw [e]; rfl)
 rw [wrd_cons _ (hd _ (by decide)), tail_cons _ _ (name_ne h1), tail_cons _ _ (hd _ (by decide)), tail_cons _ _ (b8_ne (by simp)), tail_cons _ _ (b8_ne (tyT_ne h3)), tail_cons _ _ (hd _ (by decide)), tail_cons _ _ (b8_ne (txE_ne (shE_zero h4))), tail_nil]
 unfold feT
 simp [B8_data]
theorem feT_len {f : Fe} (h1 : name f.nm = true) (h2 : name f.en = true) (h3 : tyE f.ty = 0) (h4 : shE f.bo = 0) (hz : f.bo.ar.sz ≤ 3000) : (feT f).length ≤ 1000000 := by
 have a1 := name_len h1
 have a2 := name_len h2
 have a3 := tyT_len h3
 have a4 := txE_len (shE_zero h4)
 unfold feT
 rw [str_len] at a1 a2
 simp only [List.length_append, List.length_cons, List.length_nil, str_len]
 omega
theorem pfeature_any (f : Fe) (xa ua aa : Option Addr) (xc uc ac : Nat) (w : World) (hs : f.sz) (hU : un.Sl w xa f.ty.un.length xc f.ty.un) (hE : Ec w f.bo ua uc aa ac) (T : Tabq w) : Calls Tryz.prog 22 #[.agg (feC f xa xc ua uc aa ac)] w (Tx (txO (pfE f) (feT f)) (pfE f) w) := by
 have bb := balloc (b0 w) (.cells (feC f xa xc ua uc aa ac) 51)
 have B0 := Lib.hid bb
 have G := Lib.hid (Blk.new w 51 (feC f xa xc ua uc aa ac))
 have C1 := Lib.hid (fun (W : World) (b : Below w.heap.size w W) => nameW_any f.nm hs.nm W (T.stays b).t)
 have C2 := Lib.hid (fun (W : World) (b : Below w.heap.size w W) => nameW_any f.en hs.en W (T.stays b).t)
 have C3 := Lib.hid (fun (W : World) (b : Below w.heap.size w W) => ptype_any f.ty xa xc W (hU.keeps b) hs.of (T.stays b))
 have C4 := Lib.hid (fun (W : World) (b : Below w.heap.size w W) => pexpr_any f.bo ua aa uc ac W hs.bo hs.few (hE.keeps b) (T.stays b))
 have hI : pfE f = pfE f := rfl
 conv at hI => rhs; unfold pfE
 replace hI := Lib.hid hI
 have HO := Lib.hid (rfl : txO (pfE f) (feT f) = txO (pfE f) (feT f))
 have HY := Lib.hid (fun (h1 : name f.nm = true) (h2 : name f.en = true) (h3 : tyE f.ty = 0) (h4 : shE f.bo = 0) => (⟨pf_wrd h1 h3 h4, feT_len h1 h2 h3 h4 hs.few, name_len h2⟩ : wrd [⟨#[102, 101, 97, 116, 117, 114, 101]⟩, f.nm, ⟨#[111, 102]⟩, B8 (f.en.data.toList ++ [58]), B8 (tyT f.ty), ⟨#[61]⟩, B8 (txE f.bo)] ++ [59] = feT f ∧ (feT f).length ≤ 1000000 ∧ f.en.data.toList.length ≤ 24))
 clear bb hU hE T hs
 unfold feC tyC exC at *
 have hn1 : name f.nm = name f.nm := rfl
 obtain ⟨n1, hn1⟩ : ∃ n1, n1 = name f.nm := ⟨_, rfl⟩
 obtain ⟨n2, hn2⟩ : ∃ n2, n2 = name f.en := ⟨_, rfl⟩
 rw [← hn1] at C1 hI
 rw [← hn2] at C2 hI
 replace hn1 := Lib.hid hn1
 replace hn2 := Lib.hid hn2
 obtain ⟨te, hte⟩ : ∃ te, te = tyE f.ty := ⟨_, rfl⟩
 obtain ⟨se, hse⟩ : ∃ se, se = shE f.bo := ⟨_, rfl⟩
 rw [← hte] at C3 hI
 rw [← hse] at C4 hI
 replace hte := Lib.hid hte
 replace hse := Lib.hid hse
 generalize hpe : pfE f = pe at *
 generalize hts : txO pe (feT f) = ts at *
 replace HO := Lib.hid hts
 clear hts hpe
 go_enter Tryz.func22, Tryz.ntmps22
 go_upto_region 1 with fail
 generalize hw0 : (w.alloc (.cells #[.string f.nm, .string f.en, .int .i64 f.ty.k, .slice xa f.ty.un.length xc, .string f.ty.of, .int .i64 f.bo.h.k, .string f.bo.h.op, .string f.bo.h.nm, .string f.bo.h.tb, .int .i64 f.bo.h.vk, .int .i64 f.bo.h.vn, .string f.bo.h.vs, .slice ua f.bo.h.un.length uc, .int .i64 f.bo.h.pa, .int .i64 f.bo.h.wk, .int .i64 f.bo.h.ws, .slice aa f.bo.ar.len ac, .int .i64 f.vr] 51)) = w0 at *
 clear hw0
 have a0 := G.out.cell 0
 simp only [List.getElem?_toArray, List.getElem?_cons_zero] at a0
 go_wp2_with fail
 refine (C1.out _ B0.out).mono ?_
 rintro e w1 ⟨rfl, b1⟩
 have B1 := Lib.hid (bnext B0.out b1)
 replace G := Lib.hid (G.out.keeps b1)
 clear b1 C1 a0
 cases n1
 ·replace hI := Lib.hid (hI.out.trans (if_pos rfl))
  go_wp2_with fail
  go_ret2
  exact tx_of (by rw [← HO.out, hI.out]; rfl) hI.out.symm B1.out
 ·replace hI := Lib.hid (hI.out.trans (if_neg (by decide)))
  have a1 := G.out.cell 1
  simp only [List.getElem?_toArray, List.getElem?_cons_zero, List.getElem?_cons_succ] at a1
  go_wp2_with fail
  refine (C2.out _ B1.out).mono ?_
  rintro e w2 ⟨rfl, b2⟩
  have B2 := Lib.hid (bnext B1.out b2)
  replace G := Lib.hid (G.out.keeps b2)
  clear b2 C2 a1
  cases n2
  ·replace hI := Lib.hid (hI.out.trans (if_pos rfl))
   go_wp2_with fail
   go_ret2
   exact tx_of (by rw [← HO.out, hI.out]; rfl) hI.out.symm B2.out
  ·replace hI := Lib.hid (hI.out.trans (if_neg (by decide)))
   go_wp2_with (first | (refine arm_mid infTy Tryz.underlying31 rfl (.tmp 17) rfl rfl w.heap.size 2 #[.int .i64 f.ty.k, .slice xa f.ty.un.length xc, .string f.ty.of] rfl (blk_range G.out 2 _ rfl) rfl ?_) | (refine arm_mid infX Tryz.underlying29 rfl (.tmp 26) rfl rfl w.heap.size 5 #[.int .i64 f.bo.h.k, .string f.bo.h.op, .string f.bo.h.nm, .string f.bo.h.tb, .int .i64 f.bo.h.vk, .int .i64 f.bo.h.vn, .string f.bo.h.vs, .slice ua f.bo.h.un.length uc, .int .i64 f.bo.h.pa, .int .i64 f.bo.h.wk, .int .i64 f.bo.h.ws, .slice aa f.bo.ar.len ac] rfl (blk_range G.out 5 _ rfl) rfl ?_))
   refine (C3.out _ B2.out).mono ?_
   rintro e w3 ⟨rfl, b3⟩
   have B3 := Lib.hid (bnext B2.out b3)
   replace G := Lib.hid (G.out.keeps b3)
   clear b3 C3
   by_cases h3 : te = 0
   ·have q : (te != 0) = false := by rw [bne, in_is h3]; rfl
    replace hI := Lib.hid (hI.out.trans (if_neg (fun h => h h3)))
    have ht := Lib.hid (show txO te (tyT f.ty) = B8 (tyT f.ty) from if_pos h3)
    rw [ht.out]
    replace h3 := Lib.hid h3
    go_wp2_with (first | (refine arm_mid infTy Tryz.underlying31 rfl (.tmp 17) rfl rfl w.heap.size 2 #[.int .i64 f.ty.k, .slice xa f.ty.un.length xc, .string f.ty.of] rfl (blk_range G.out 2 _ rfl) rfl ?_) | (refine arm_mid infX Tryz.underlying29 rfl (.tmp 26) rfl rfl w.heap.size 5 #[.int .i64 f.bo.h.k, .string f.bo.h.op, .string f.bo.h.nm, .string f.bo.h.tb, .int .i64 f.bo.h.vk, .int .i64 f.bo.h.vn, .string f.bo.h.vs, .slice ua f.bo.h.un.length uc, .int .i64 f.bo.h.pa, .int .i64 f.bo.h.wk, .int .i64 f.bo.h.ws, .slice aa f.bo.ar.len ac] rfl (blk_range G.out 5 _ rfl) rfl ?_))
    refine (C4.out _ B3.out).mono ?_
    rintro e w4 ⟨rfl, b4⟩
    have B4 := Lib.hid (bnext B3.out b4)
    replace G := Lib.hid (G.out.keeps b4)
    clear b4 C4
    by_cases h4 : se = 0
    ·have q5 : (se != 0) = false := by rw [bne, in_is h4]; rfl
     have hx := Lib.hid (show txO se (txE f.bo) = B8 (txE f.bo) from if_pos h4)
     rw [hx.out]
     obtain ⟨hW, hL, hnl⟩ := HY.out hn1.out.symm hn2.out.symm (hte.out.symm.trans h3.out) (hse.out.symm.trans h4)
     have HO2 := Lib.hid (show ts = B8 (feT f) by rw [← HO.out, hI.out]; exact if_pos h4)
     replace h4 := Lib.hid h4
     obtain ⟨WL, hWL⟩ : ∃ WL, WL = [⟨#[102, 101, 97, 116, 117, 114, 101]⟩, f.nm, ⟨#[111, 102]⟩, B8 (f.en.data.toList ++ [58]), B8 (tyT f.ty), ⟨#[61]⟩, B8 (txE f.bo)] := ⟨_, rfl⟩
     rw [← hWL] at hW
     have hwl : (wrd WL).length ≤ 1000000 := by rw [← hW, List.length_append] at hL; omega
     have CW := Lib.hid (fun (W : World) (a : Option Addr) (h : Ss W a 7 7 WL) => words_any a 7 7 _ W h (by decide) (by omega))
     have NW := Lib.hid (fun (W : World) => Ss.new W [⟨#[102, 101, 97, 116, 117, 114, 101]⟩, f.nm, ⟨#[111, 102]⟩, B8 (f.en.data.toList ++ [58]), B8 (tyT f.ty), ⟨#[61]⟩, B8 (txE f.bo)] 7 #[.string ⟨#[102, 101, 97, 116, 117, 114, 101]⟩, .string f.nm, .string ⟨#[111, 102]⟩, .string (B8 (f.en.data.toList ++ [58])), .string (B8 (tyT f.ty)), .string ⟨#[61]⟩, .string (B8 (txE f.bo))] rfl rfl (by decide) 9)
     rw [← hWL] at NW
     have A9 := add_b8 (wrd WL) [59] (by omega) (by decide)
     rw [hW] at A9
     replace A9 : ∀ W, (Op.stringOp .add (B8 (wrd WL)) ⟨#[59]⟩).run Tryz.prog W = .ok (.string (B8 (feT f))) W := A9
     have A1 := add_b8 f.en.data.toList [58] (by omega) (by decide)
     replace A1 : ∀ W, (Op.stringOp .add f.en ⟨#[58]⟩).run Tryz.prog W = .ok (.string (B8 (f.en.data.toList ++ [58]))) W := A1
     clear hW hL hnl hWL hwl HY hn1 hn2 hte hse ht hx HO
     generalize B8 (f.en.data.toList ++ [58]) = s1 at *
     generalize B8 (tyT f.ty) = s2 at *
     generalize B8 (txE f.bo) = s3 at *
     generalize B8 (wrd WL) = sw at *
     generalize B8 (feT f) = st at *
     have a0 := G.out.cell 0
     simp only [List.getElem?_toArray, List.getElem?_cons_zero] at a0
     have a1 := G.out.cell 1
     simp only [List.getElem?_toArray, List.getElem?_cons_zero, List.getElem?_cons_succ] at a1
     go_wp2_with fail
     refine (CW.out _ _ (NW.out _)).mono ?_
     rintro e w5 ⟨rfl, b5⟩
     have B5 := Lib.hid (bnext (balloc B4.out _) b5)
     clear b5 CW NW a0 a1
     go_wp2_with fail
     go_ret2
     exact tx_of HO2.out.symm (hI.out.trans h4.out).symm B5.out
    ·have q5 : (se != 0) = true := by rw [bne, in_ne h4]; rfl
     have HO2 := Lib.hid (show ts = .empty by rw [← HO.out, hI.out]; exact if_neg h4)
     replace h4 := Lib.hid h4
     go_wp2_with fail
     go_ret2
     exact tx_of HO2.out.symm hI.out.symm B4.out
   ·have q : (te != 0) = true := by rw [bne, in_ne h3]; rfl
    replace hI := Lib.hid (hI.out.trans (if_pos h3))
    have hne := h3
    have HO2 := Lib.hid (show ts = .empty by rw [← HO.out, hI.out]; exact if_neg h3)
    clear hne
    replace h3 := Lib.hid h3
    go_wp2_with (first | (refine arm_mid infTy Tryz.underlying31 rfl (.tmp 17) rfl rfl w.heap.size 2 #[.int .i64 f.ty.k, .slice xa f.ty.un.length xc, .string f.ty.of] rfl (blk_range G.out 2 _ rfl) rfl ?_) | (refine arm_mid infX Tryz.underlying29 rfl (.tmp 26) rfl rfl w.heap.size 5 #[.int .i64 f.bo.h.k, .string f.bo.h.op, .string f.bo.h.nm, .string f.bo.h.tb, .int .i64 f.bo.h.vk, .int .i64 f.bo.h.vn, .string f.bo.h.vs, .slice ua f.bo.h.un.length uc, .int .i64 f.bo.h.pa, .int .i64 f.bo.h.wk, .int .i64 f.bo.h.ws, .slice aa f.bo.ar.len ac] rfl (blk_range G.out 5 _ rfl) rfl ?_))
    go_ret2
    exact tx_of HO2.out.symm hI.out.symm B3.out
end Go.Proofs.YtbahfelnbofjjaaGreatDoor.ch
namespace Go.Proofs.YtbahfelnbofjjaaGreatDoor.ch
open Go.RowKit dec
def Bx (P : Prop) (w : World) (e : Ending) (w' : World) : Prop := ∃ b : Bool, e = .returned (.bool b) ∧ (b = true → P) ∧ Below w.heap.size w w'
theorem bx_of {P : Prop} {w w' : World} (b : Bool) (h : b = true → P) (hb : Below w.heap.size w w') : Bx P w (.returned (.bool b)) w' := ⟨b, rfl, h, hb⟩
def typX (t : Ty) : Ex := ⟨{ h0 with nm := t.of, un := t.un }, .nil⟩
theorem fewType_any (t : Ty) (ua : Option Addr) (uc : Nat) (w : World) (hU : un.Sl w ua t.un.length uc t.un) (hs : t.of.size ≤ 140737488355328) : Calls Tryz.prog 14 #[.agg (tyC t ua uc)] w (Bx True w) := by
 have bb := balloc (b0 w) (.cells (tyC t ua uc) 31)
 have BB := Lib.hid bb
 have G := Lib.hid (Blk.new w 31 (tyC t ua uc))
 have C := Lib.hid (fun (W : World) (b : Below w.heap.size w W) => few_any (typX t) 1 ua none uc 0 W ⟨⟨Nat.zero_le _, hs, Nat.zero_le _, Nat.zero_le _⟩, trivial⟩ (by decide) (by decide) ⟨hU.keeps b, Fs.nil W⟩)
 unfold typX exC at C
 clear bb hU hs
 unfold tyC at *
 have a1 := G.out.cell 1
 have a2 := G.out.cell 2
 simp only [List.getElem?_toArray, List.getElem?_cons_zero, List.getElem?_cons_succ] at a1 a2
 go_enter Tryz.func14, Tryz.ntmps14
 go_wp2_with fail
 refine (C.out _ BB.out).mono ?_
 rintro e w1 ⟨r, rfl, hr, hx, b1⟩
 have B1 := Lib.hid (bnext BB.out b1)
 clear b1 hx hr a1 a2 C
 obtain ⟨bq, hbq⟩ : ∃ bq : Bool, bq = decide (0 ≤ r) := ⟨_, rfl⟩
 have q := hbq.symm
 clear hbq
 go_wp2_with fail
 go_ret
 exact bx_of _ (fun _ => trivial) B1.out
theorem fewFeature_any (f : Fe) (xa ua aa : Option Addr) (xc uc ac : Nat) (w : World) (h1 : f.nm.size ≤ 140737488355328) (h2 : f.en.size ≤ 140737488355328) (h3 : f.ty.of.size ≤ 140737488355328) (h4 : f.bo.szs) (hU : un.Sl w xa f.ty.un.length xc f.ty.un) (hE : Ec w f.bo ua uc aa ac) : Calls Tryz.prog 40 #[.agg (feC f xa xc ua uc aa ac)] w (Bx (f.bo.ar.sz + 1 ≤ 80) w) := by
 have bb := balloc (b0 w) (.cells (feC f xa xc ua uc aa ac) 51)
 have BB := Lib.hid bb
 have G := Lib.hid (Blk.new w 51 (feC f xa xc ua uc aa ac))
 have C1 := Lib.hid (fun (W : World) (b : Below w.heap.size w W) => fewType_any f.ty xa xc W (hU.keeps b) h3)
 have C2 := Lib.hid (fun (W : World) (b : Below w.heap.size w W) => few_any f.bo 80 ua aa uc ac W h4 (by decide) (by decide) (hE.keeps b))
 clear bb hU hE h3 h4
 unfold feC tyC exC at *
 have a0 := G.out.cell 0
 have a1 := G.out.cell 1
 simp only [List.getElem?_toArray, List.getElem?_cons_zero, List.getElem?_cons_succ] at a0 a1
 have z1 := h1
 have z2 := h2
 clear h1 h2
 by_cases h5 : (f.nm.size : Int) + f.en.size ≤ 200
 ·have q1 : decide ((f.nm.size : Int) + f.en.size ≤ 200) = true := decide_eq_true h5
  go_enter Tryz.func40, Tryz.ntmps40
  go_wp2_with (first | (refine arm_midG infTy Tryz.underlying31 rfl (.tmp 12) rfl rfl w.heap.size 2 #[.int .i64 f.ty.k, .slice xa f.ty.un.length xc, .string f.ty.of] rfl (blk_range G.out 2 _ rfl) rfl ?_) | (refine arm_midG infX Tryz.underlying29 rfl (.tmp 17) rfl rfl w.heap.size 5 #[.int .i64 f.bo.h.k, .string f.bo.h.op, .string f.bo.h.nm, .string f.bo.h.tb, .int .i64 f.bo.h.vk, .int .i64 f.bo.h.vn, .string f.bo.h.vs, .slice ua f.bo.h.un.length uc, .int .i64 f.bo.h.pa, .int .i64 f.bo.h.wk, .int .i64 f.bo.h.ws, .slice aa f.bo.ar.len ac] rfl (blk_range G.out 5 _ rfl) rfl ?_))
  refine (C1.out _ BB.out).mono ?_
  rintro e w1 ⟨b, rfl, hx, b1⟩
  have B1 := Lib.hid (bnext BB.out b1)
  replace G := Lib.hid (G.out.keeps b1)
  clear b1 C1 a0 a1 hx
  cases b
  ·go_wp2_with (first | (refine arm_midG infTy Tryz.underlying31 rfl (.tmp 12) rfl rfl w.heap.size 2 #[.int .i64 f.ty.k, .slice xa f.ty.un.length xc, .string f.ty.of] rfl (blk_range G.out 2 _ rfl) rfl ?_) | (refine arm_midG infX Tryz.underlying29 rfl (.tmp 17) rfl rfl w.heap.size 5 #[.int .i64 f.bo.h.k, .string f.bo.h.op, .string f.bo.h.nm, .string f.bo.h.tb, .int .i64 f.bo.h.vk, .int .i64 f.bo.h.vn, .string f.bo.h.vs, .slice ua f.bo.h.un.length uc, .int .i64 f.bo.h.pa, .int .i64 f.bo.h.wk, .int .i64 f.bo.h.ws, .slice aa f.bo.ar.len ac] rfl (blk_range G.out 5 _ rfl) rfl ?_))
   go_ret
   exact bx_of _ (fun h => by cases h) B1.out
  ·go_wp2_with (first | (refine arm_midG infTy Tryz.underlying31 rfl (.tmp 12) rfl rfl w.heap.size 2 #[.int .i64 f.ty.k, .slice xa f.ty.un.length xc, .string f.ty.of] rfl (blk_range G.out 2 _ rfl) rfl ?_) | (refine arm_midG infX Tryz.underlying29 rfl (.tmp 17) rfl rfl w.heap.size 5 #[.int .i64 f.bo.h.k, .string f.bo.h.op, .string f.bo.h.nm, .string f.bo.h.tb, .int .i64 f.bo.h.vk, .int .i64 f.bo.h.vn, .string f.bo.h.vs, .slice ua f.bo.h.un.length uc, .int .i64 f.bo.h.pa, .int .i64 f.bo.h.wk, .int .i64 f.bo.h.ws, .slice aa f.bo.ar.len ac] rfl (blk_range G.out 5 _ rfl) rfl ?_))
   refine (C2.out _ B1.out).mono ?_
   rintro e w2 ⟨r, rfl, hr, hx, b2⟩
   have B2 := Lib.hid (bnext B1.out b2)
   replace hx := Lib.hid hx
   clear b2 C2 hr
   by_cases h6 : 0 ≤ r
   ·have q6 : decide (0 ≤ r) = true := decide_eq_true h6
    go_wp2_with fail
    go_ret
    exact bx_of _ (fun _ => by have := hx.out h6; omega) B2.out
   ·have q6 : decide (0 ≤ r) = false := decide_eq_false h6
    go_wp2_with fail
    go_ret
    exact bx_of _ (fun h => by cases h) B2.out
 ·have q1 : decide ((f.nm.size : Int) + f.en.size ≤ 200) = false := decide_eq_false h5
  go_enter Tryz.func40, Tryz.ntmps40
  go_wp2_with fail
  go_ret
  exact bx_of _ (fun h => by cases h) BB.out
theorem range_sub {w : World} {b o : Nat} {cs ds : List Value} (h : w.rangeAt b o cs) (i n : Nat) (hd : (cs.drop i).take n = ds := by rfl) : w.rangeAt b (o + i) ds := fun j v hv => by
 have hj : j < ds.length := (List.getElem?_eq_some_iff.1 hv).1
 rw [← hd, List.getElem?_take] at hv
 split at hv
 ·rw [List.getElem?_drop] at hv
  rw [Nat.add_assoc]
  exact h (i + j) v hv
 ·cases hv
theorem fewTable_any (t : Tb) (a : Option Addr) (c : Nat) (w : World) (hs : t.sz) (hA : Fis w a t.fs.length c t.fs) : Calls Tryz.prog 39 #[.agg (tbC t a c)] w (Bx True w) := by
 have bb := balloc (b0 w) (.cells (tbC t a c) 48)
 have BB := Lib.hid bb
 have G := Lib.hid (Blk.new w 48 (tbC t a c))
 have HA := Lib.hid hA
 have HS := Lib.hid hs
 have z1 := hs.nm
 have z2 := hs.en
 have z3 := hA.hcap
 have z4 := hA.hmax
 clear bb hA hs
 unfold tbC at *
 go_enter Tryz.func39, Tryz.ntmps39
 go_wp2_with fail
 go_loopw [3] (fun vi wr => ∃ j : Nat, vi = .int .i64 (j : Nat) ∧ Hid (j ≤ t.fs.length) ∧ Hid (Blk wr w.heap.size 48 #[.string t.nm, .string t.en, .slice a t.fs.length c, .int .i64 t.kp]) ∧ Hid (Below w.heap.size w wr)) (fun vi _ => t.fs.length - (intOf vi).toNat)
 case atStart => exact ⟨0, rfl, Lib.hid (Nat.zero_le _), G, BB⟩
 case round =>
  obtain ⟨j, rfl, hj, hG, hb⟩ := hrel
  clear G BB
  have g2 := hG.out.cell 2
  simp only [List.getElem?_toArray, List.getElem?_cons_zero, List.getElem?_cons_succ] at g2
  by_cases hlt : j < t.fs.length
  ·have q1 : decide ((j : Int) < (t.fs.length : Int)) = true := decide_eq_true (by omega)
   obtain ⟨bk, off, rfl, hC⟩ := (HA.out.keeps hb.out).hat.resolve_left (by omega)
   obtain ⟨cs, hcs, R1, ua, uc, rfl, U1⟩ := hC j hlt
   have hm := List.getElem_mem hlt
   have i1 : (j : Int) < (t.fs.length : Int) := by omega
   have i2 : j < t.fs.length := hlt
   have hfz := Lib.hid (HS.out.fs _ hm)
   have f4 := Lib.hid (next_at (j := j) (by omega))
   clear hC hm hcs hj
   replace R1 := Lib.hid R1
   replace U1 := Lib.hid U1
   generalize t.fs[j] = f at *
   unfold fiC at *
   have c0 := R1.out 0 _ rfl
   simp only [Nat.add_zero] at c0
   have C1 := Lib.hid (fun (W : World) (b : Below wr.heap.size wr W) => fewType_any f.ty ua uc W (U1.out.keeps b) hfz.out.of)
   unfold tyC at C1
   by_cases h5 : 100 < f.nm.size
   ·have q2 : decide (100 < (f.nm.size : Int)) = true := decide_eq_true (by omega)
    go_wp2_with fail
    go_ret
    exact bx_of _ (fun _ => trivial) hb.out
   ·have q2 : decide (100 < (f.nm.size : Int)) = false := decide_eq_false (by omega)
    go_wp2_with (refine arm_midG infTy Tryz.underlying31 rfl (.tmp 24) rfl rfl bk (off + j * 4 + 1) #[.int .i64 f.ty.k, .slice ua f.ty.un.length uc, .string f.ty.of] rfl (range_sub R1.out 1 3) rfl ?_)
    refine (C1.out _ (b0 _)).mono ?_
    rintro e w1 ⟨b, rfl, hx, b1⟩
    have B1 := Lib.hid (bnext hb.out b1)
    have G1 := Lib.hid (hG.out.keeps b1)
    clear b1 C1 hx c0 g2
    cases b
    ·go_wp2_with fail
     go_ret
     exact bx_of _ (fun _ => trivial) B1.out
    ·go_wp2_with fail
     exact ⟨⟨j + 1, congrArg (Value.int .i64) (by omega), Lib.hid hlt, G1, B1⟩, less_at hlt (by omega)⟩
  ·have q1 : decide ((j : Int) < (t.fs.length : Int)) = false := decide_eq_false (by omega)
   have g0 := hG.out.cell 0
   have g1 := hG.out.cell 1
   simp only [List.getElem?_toArray, List.getElem?_cons_zero, List.getElem?_cons_succ] at g0 g1
   obtain ⟨bq, hbq⟩ : ∃ bq : Bool, bq = decide ((t.nm.size : Int) + t.en.size ≤ 200) := ⟨_, rfl⟩
   have q5 := hbq.symm
   clear hbq
   by_cases h7 : t.fs.length ≤ 12
   ·have q2 : decide ((t.fs.length : Int) ≤ 12) = true := decide_eq_true (by omega)
    go_wp2_with fail
    go_ret
    exact bx_of _ (fun _ => trivial) hb.out
   ·have q2 : decide ((t.fs.length : Int) ≤ 12) = false := decide_eq_false (by omega)
    go_wp2_with fail
    go_ret
    exact bx_of _ (fun _ => trivial) hb.out
end Go.Proofs.YtbahfelnbofjjaaGreatDoor.ch
