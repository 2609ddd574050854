/-
  A whole source as an expression or a type.
-/
import Derived.Test.YtbpijgddfaefkaaGreatDoorU15
namespace Go.Proofs.YtbpijgddfaefkaaGreatDoor.pa
open Go.RowKit dec

/-- Of what was there, only two blocks may have changed. -/
structure Off (B g : Nat) (w w' : World) : Prop where
  os : w'.os = w.os
  tape : w'.tape = w.tape
  output : w'.output = w.output
  size : w.heap.size ≤ w'.heap.size
  block : ∀ k, k < w.heap.size → k ≠ B → k ≠ g → w'.heap[k]? = w.heap[k]?
theorem Off.mv {B g : Nat} {w w' : World} (h : Mv w.heap.size B w w') : Off B g w w' := ⟨h.os, h.tape, h.output, h.size, fun k hk hn _ => h.block k hk hn⟩
theorem Off.st {B g : Nat} {w a b : World} (h : Off B g w a) (k : St g a b) : Off B g w b :=
  ⟨k.os.trans h.os, k.tape.trans h.tape, k.output.trans h.output, by rw [k.size]; exact h.size, fun i hi hn hg => (k.block i hg).trans (h.block i hi hn hg)⟩
theorem Off.blk {B g k : Nat} {w w' : World} {T : TypeId} {cs : Array Value} (h : Off B g w w') (b : Blk w k T cs) (h1 : k ≠ B) (h2 : k ≠ g) : Blk w' k T cs := (h.block k b.lt h1 h2).trans b
theorem Off.below {B g S : Nat} {w w' : World} (h : Off B g w w') (h1 : S ≤ B) (h2 : S ≤ g) (h3 : S ≤ w.heap.size) : Below S w w' := ⟨h.os, h.tape, h.output, h.size, fun k hk => h.block k (by omega) (by omega) (by omega)⟩
/-- The cells of the value of a type. -/
def tyC (t : Ty) (ua : Option Addr) (uc : Nat) : Array Value := #[.int .i64 t.k, .slice ua t.un.length uc, .string t.of]
def zT : Array Value := #[.int .i64 0, .slice none 0 0, .string ⟨#[]⟩]
theorem tyC_one (t : Ty) (ua : Option Addr) (uc : Nat) : (tyC t ua uc).all (·.oneCell') = true := by simp [tyC, Value.oneCell']
set_option maxRecDepth 100000 in
set_option maxHeartbeats 2000000 in
theorem outside_any (B : Nat) (w : World) : Calls Tryz.prog 45 #[.pointer (some ⟨B, 0, none⟩)] w fun e w' => e = .returned (.agg #[.pointer (some ⟨B, 0, none⟩), .bool false]) ∧ Below w.heap.size w w' := by
  go_enter Tryz.func45, Tryz.ntmps45
  go_wp2_with fail
  refine ret_T infSc Tryz.underlying99 rfl rfl _ _ w.heap.size _ _ rfl (Blk.new w _ _) rfl ?_
  exact ⟨rfl, balloc (b0 w) _⟩
set_option maxRecDepth 100000 in
set_option maxHeartbeats 2000000 in
theorem expr1_any (B : Nat) (l : List Tk) (w : World) (h : Ps w B l) : Calls Tryz.prog 44 #[.pointer (some ⟨B, 0, none⟩)] w (Pst B Ev (exR l) w) := by
  have P := Lib.hid (h.keeps (balloc (b0 w) (.cells zE 43)))
  have R := Lib.hid (Blk.new w 43 zE)
  have hlt := Lib.hid h.lt
  have OC := Lib.hid (fun W => outside_any B W)
  clear h
  go_enter Tryz.func44, Tryz.ntmps44
  go_wp2_with fail
  refine (OC.out _).mono ?_
  rintro e w1 ⟨rfl, b1⟩
  replace P := Lib.hid (P.out.keeps b1)
  replace R := Lib.hid (R.out.below b1 R.out.lt)
  have M := Lib.hid (Mv.of (B := B) (bnext (balloc (b0 w) (.cells zE 43)) b1))
  clear b1
  go_wp2_with fail
  refine (expr_r B l w1 P.out).mono ?_
  rintro e w2 h2
  have hw := Lib.hid R.out.lt
  rcases hG : exR l with _ | ⟨x, l2⟩ | ⟨a, c, l2⟩
  · exact absurd hG (exR_ne l)
  · rw [hG] at h2
    obtain ⟨u, rfl, ⟨ua, uc, aa, ac, rfl, E⟩, pp, mm⟩ := h2
    replace R := Lib.hid (R.out.mv mm (by have := hlt.out; omega) R.out.lt)
    replace M := Lib.hid (M.out.next mm)
    replace P := Lib.hid pp
    replace E := Lib.hid E
    have hGG := Lib.hid hG
    clear pp mm hG
    go_wp2_with (refine arm_store (.tmp 2) (.tmp 5) rfl rfl _ _ _ _ rfl rfl R.out rfl rfl (exC_one _ _ _ _ _) ?_; intro w9 hb9 hs9)
    refine ret_expr rfl _ _ _ _ _ rfl hb9 rfl ?_
    first | exact pst_ok hGG.out ⟨ua, uc, aa, ac, rfl, (E.out.kp (hs9.kp hw.out)).less (Nat.le_of_lt hw.out)⟩ (P.out.st hs9 hlt.out) (M.out.trans (hs9.mv (Nat.le_refl _))) | exact pst_ok rfl ⟨ua, uc, aa, ac, rfl, (E.out.kp (hs9.kp hw.out)).less (Nat.le_of_lt hw.out)⟩ (P.out.st hs9 hlt.out) (M.out.trans (hs9.mv (Nat.le_refl _)))
  · rw [hG] at h2
    obtain ⟨rfl, pp, mm⟩ := h2
    replace M := Lib.hid (M.out.next mm)
    replace P := Lib.hid pp
    have hGG := Lib.hid hG
    unfold thr
    clear pp mm hG
    go_wp2_with fail
    first | exact ⟨rfl, pst_no hGG.out P.out M.out⟩ | exact ⟨rfl, pst_no rfl P.out M.out⟩
/-- What is read, and nothing behind it. -/
def allR {α : Type} (one : List Tk → Rs α) (l : List Tk) : Rs α := (one l).bind fun x r => (endR r).bind fun _ r => .ok x r
theorem endR_ne (l : List Tk) : endR l ≠ .out := by
  unfold endR wrg
  split <;> exact fun h => by cases h
theorem allR_ne {α : Type} {one : List Tk → Rs α} (h : ∀ l, one l ≠ .out) (l : List Tk) : allR one l ≠ .out := bind_ne (h l) fun _ _ _ => bind_ne (endR_ne _) fun _ _ _ h => by cases h
/-- The value in a block. -/
def InE (C g : Nat) (w' : World) (x : Ex) : Prop := ∃ (ua : Option Addr) (uc : Nat) (aa : Option Addr) (ac : Nat), Blk w' g 43 (exC x ua uc aa ac) ∧ Ec C w' x ua aa
/-- What the function does that is attempted. -/
def ClE (B g : Nat) (r : Rs Ex) (w : World) (e : Ending) (w' : World) : Prop :=
  match r with
  | .out => True
  | .ok x _ => e = .returned (.tuple #[]) ∧ InE w.heap.size g w' x ∧ Off B g w w'
  | .no a c _ => e = thr a c ∧ Blk w' g 43 zE ∧ Off B g w w'
set_option maxRecDepth 100000 in
set_option maxHeartbeats 2000000 in
theorem clE_any (B bf bp g : Nat) (l : List Tk) (w : World) (h : Ps w B l) (hf : Blk w bf 101 #[.func (.func 44) #[] #[]]) (hp : Blk w bp 65 #[.pointer (some ⟨B, 0, none⟩)]) (hv : Blk w g 43 zE) (_h1 : bf ≠ B) (h2 : bp ≠ B) (h3 : g ≠ B) :
    Calls Tryz.prog 87 #[.pointer (some ⟨bf, 0, none⟩), .pointer (some ⟨bp, 0, none⟩), .pointer (some ⟨g, 0, none⟩)] w (ClE B g (allR exR l) w) := by
  have P := Lib.hid h
  have R := Lib.hid hv
  have HP := Lib.hid hp
  have e0 : w.cell? ⟨bf, 0, none⟩ = some (.func (.func 44) #[] #[]) := hf.cell 0
  have e1 : w.cell? ⟨bp, 0, none⟩ = some (.pointer (some ⟨B, 0, none⟩)) := hp.cell 0
  have N2 := Lib.hid h2
  have N3 := Lib.hid h3
  have hgl := Lib.hid hv.lt
  have HBW := Lib.hid h.lt
  clear h hf hv hp _h1 h2 h3
  go_enter Tryz.func87, Tryz.ntmps87
  go_wp2_with fail
  refine (expr1_any B l w P.out).mono ?_
  rintro e w1 k1
  rcases hG : exR l with _ | ⟨x, l1⟩ | ⟨a, c, l1⟩
  · exact absurd hG (exR_ne l)
  · rw [hG] at k1
    obtain ⟨u, rfl, ⟨ua, uc, aa, ac, rfl, E⟩, pp, mm⟩ := k1
    have hal := Lib.hid (show allR exR l = (endR l1).bind fun _ r => .ok x r by unfold allR; rw [hG]; rfl)
    have R1 := Lib.hid (R.out.mv mm N3.out R.out.lt)
    have HP1 := Lib.hid (HP.out.mv mm N2.out HP.out.lt)
    have M1 := Lib.hid mm
    have P1 := Lib.hid pp
    have E1 := Lib.hid E
    have hs1 := Lib.hid mm.size
    clear pp mm hG E e0 e1 P R HP
    go_wp2_with (refine arm_storeT infX (.tmp 3) (.tmp 6) rfl rfl _ _ _ _ rfl rfl (Blk.new _ _ _) rfl rfl (exC_one _ _ _ _ _) ?_; intro w2 L3 hs; have bb := (balloc (b0 w1) _).trans (hs.below (Nat.le_refl _)); replace L3 := Lib.hid L3; have R2 := Lib.hid (R1.out.below bb R1.out.lt); have HP2 := Lib.hid (HP1.out.below bb HP1.out.lt); have P2 := Lib.hid (P1.out.keeps bb); have M2 := Lib.hid (M1.out.nextB bb); have E2 := Lib.hid (E1.out.kp (kp_of bb)); clear bb hs P1 R1 HP1 M1 E1; have e1 := HP2.out.cell 0)
    refine (end_r B l1 w2 P2.out _ rfl (endR_ne _)).mono ?_
    rintro e w3 k3
    rcases hG : endR l1 with _ | ⟨y, l2⟩ | ⟨a, c, l2⟩
    · exact absurd hG (endR_ne _)
    · rw [hG] at k3
      obtain ⟨u, rfl, vv, pp, mm⟩ := k3
      obtain rfl : u = .tuple #[] := vv
      have hfin := Lib.hid (show allR exR l = .ok x l2 by rw [hal.out, hG]; rfl)
      have hB2 := Lib.hid P2.out.lt
      have R3 := Lib.hid (R2.out.mv mm N3.out R2.out.lt)
      have L4 := Lib.hid (L3.out.mv mm (by have := hs1.out; have := HBW.out; omega) L3.out.lt)
      have M3 := Lib.hid (M2.out.next mm)
      have E3 := Lib.hid (E2.out.kp (mm.kp HBW.out))
      clear pp mm hG e1
      go_wp2_with (first | (refine arm_loadT infX Tryz.underlying43 rfl (.tmp 3) rfl rfl _ _ _ rfl L4.out rfl ?_) | (refine arm_storeT infX (.tmp 2) (.tmp 9) rfl rfl _ _ _ _ rfl rfl R3.out rfl rfl (exC_one _ _ _ _ _) ?_; intro w9 hb9 hs9))
      go_end0
      rw [hfin.out]
      exact ⟨rfl, ⟨ua, uc, aa, ac, hb9, E3.out.kp (hs9.kp hgl.out)⟩, (Off.mv M3.out).st hs9⟩
    · rw [hG] at k3
      obtain ⟨rfl, pp, mm⟩ := k3
      have hfin := Lib.hid (show allR exR l = .no a c l2 by rw [hal.out, hG]; rfl)
      have R3 := Lib.hid (R2.out.mv mm N3.out R2.out.lt)
      have M3 := Lib.hid (M2.out.next mm)
      unfold thr
      clear pp mm hG e1
      go_wp2_with fail
      refine ⟨rfl, ?_⟩
      rw [hfin.out]
      exact ⟨rfl, R3.out, Off.mv M3.out⟩
  · rw [hG] at k1
    obtain ⟨rfl, pp, mm⟩ := k1
    have hfin := Lib.hid (show allR exR l = .no a c l1 by unfold allR; rw [hG]; rfl)
    have R3 := Lib.hid (R.out.mv mm N3.out R.out.lt)
    have M3 := Lib.hid mm
    unfold thr
    clear pp mm hG e0 e1
    go_wp2_with fail
    refine ⟨rfl, ?_⟩
    rw [hfin.out]
    exact ⟨rfl, R3.out, Off.mv M3.out⟩
/-- The value in a block. -/
def InT (C g : Nat) (w' : World) (x : Ty) : Prop := ∃ (ua : Option Addr) (uc : Nat), Blk w' g 47 (tyC x ua uc) ∧ Us C w' ua x.un
/-- What the function does that is attempted. -/
def ClT (B g : Nat) (r : Rs Ty) (w : World) (e : Ending) (w' : World) : Prop :=
  match r with
  | .out => True
  | .ok x _ => e = .returned (.tuple #[]) ∧ InT w.heap.size g w' x ∧ Off B g w w'
  | .no a c _ => e = thr a c ∧ Blk w' g 47 zT ∧ Off B g w w'
set_option maxRecDepth 100000 in
set_option maxHeartbeats 2000000 in
theorem clT_any (B bf bp g : Nat) (l : List Tk) (w : World) (h : Ps w B l) (hf : Blk w bf 106 #[.func (.func 51) #[] #[]]) (hp : Blk w bp 65 #[.pointer (some ⟨B, 0, none⟩)]) (hv : Blk w g 47 zT) (_h1 : bf ≠ B) (h2 : bp ≠ B) (h3 : g ≠ B) :
    Calls Tryz.prog 93 #[.pointer (some ⟨bf, 0, none⟩), .pointer (some ⟨bp, 0, none⟩), .pointer (some ⟨g, 0, none⟩)] w (ClT B g (allR typ l) w) := by
  have P := Lib.hid h
  have R := Lib.hid hv
  have HP := Lib.hid hp
  have e0 : w.cell? ⟨bf, 0, none⟩ = some (.func (.func 51) #[] #[]) := hf.cell 0
  have e1 : w.cell? ⟨bp, 0, none⟩ = some (.pointer (some ⟨B, 0, none⟩)) := hp.cell 0
  have N2 := Lib.hid h2
  have N3 := Lib.hid h3
  have hgl := Lib.hid hv.lt
  have HBW := Lib.hid h.lt
  clear h hf hv hp _h1 h2 h3
  go_enter Tryz.func93, Tryz.ntmps93
  go_wp2_with fail
  refine (type_r B l w P.out _ rfl (typ_ne _)).mono ?_
  rintro e w1 k1
  rcases hG : typ l with _ | ⟨x, l1⟩ | ⟨a, c, l1⟩
  · exact absurd hG (typ_ne l)
  · rw [hG] at k1
    obtain ⟨u, rfl, ⟨ua, uc, rfl, E⟩, pp, mm⟩ := k1
    have hal := Lib.hid (show allR typ l = (endR l1).bind fun _ r => .ok x r by unfold allR; rw [hG]; rfl)
    have R1 := Lib.hid (R.out.mv mm N3.out R.out.lt)
    have HP1 := Lib.hid (HP.out.mv mm N2.out HP.out.lt)
    have M1 := Lib.hid mm
    have P1 := Lib.hid pp
    have E1 := Lib.hid E
    have hs1 := Lib.hid mm.size
    clear pp mm hG E e0 e1 P R HP
    go_wp2_with (refine arm_storeT infTy (.tmp 3) (.tmp 6) rfl rfl _ _ _ _ rfl rfl (Blk.new _ _ _) rfl rfl (tyC_one _ _ _) ?_; intro w2 L3 hs; have bb := (balloc (b0 w1) _).trans (hs.below (Nat.le_refl _)); replace L3 := Lib.hid L3; have R2 := Lib.hid (R1.out.below bb R1.out.lt); have HP2 := Lib.hid (HP1.out.below bb HP1.out.lt); have P2 := Lib.hid (P1.out.keeps bb); have M2 := Lib.hid (M1.out.nextB bb); have E2 := Lib.hid (E1.out.kp (kp_of bb)); clear bb hs P1 R1 HP1 M1 E1; have e1 := HP2.out.cell 0)
    refine (end_r B l1 w2 P2.out _ rfl (endR_ne _)).mono ?_
    rintro e w3 k3
    rcases hG : endR l1 with _ | ⟨y, l2⟩ | ⟨a, c, l2⟩
    · exact absurd hG (endR_ne _)
    · rw [hG] at k3
      obtain ⟨u, rfl, vv, pp, mm⟩ := k3
      obtain rfl : u = .tuple #[] := vv
      have hfin := Lib.hid (show allR typ l = .ok x l2 by rw [hal.out, hG]; rfl)
      have hB2 := Lib.hid P2.out.lt
      have R3 := Lib.hid (R2.out.mv mm N3.out R2.out.lt)
      have L4 := Lib.hid (L3.out.mv mm (by have := hs1.out; have := HBW.out; omega) L3.out.lt)
      have M3 := Lib.hid (M2.out.next mm)
      have E3 := Lib.hid (E2.out.kp (mm.kp HBW.out))
      clear pp mm hG e1
      go_wp2_with (first | (refine arm_loadT infTy Tryz.underlying47 rfl (.tmp 3) rfl rfl _ _ _ rfl L4.out rfl ?_) | (refine arm_storeT infTy (.tmp 2) (.tmp 9) rfl rfl _ _ _ _ rfl rfl R3.out rfl rfl (tyC_one _ _ _) ?_; intro w9 hb9 hs9))
      go_end0
      rw [hfin.out]
      exact ⟨rfl, ⟨ua, uc, hb9, E3.out.kp (hs9.kp hgl.out)⟩, (Off.mv M3.out).st hs9⟩
    · rw [hG] at k3
      obtain ⟨rfl, pp, mm⟩ := k3
      have hfin := Lib.hid (show allR typ l = .no a c l2 by rw [hal.out, hG]; rfl)
      have R3 := Lib.hid (R2.out.mv mm N3.out R2.out.lt)
      have M3 := Lib.hid (M2.out.next mm)
      unfold thr
      clear pp mm hG e1
      go_wp2_with fail
      refine ⟨rfl, ?_⟩
      rw [hfin.out]
      exact ⟨rfl, R3.out, Off.mv M3.out⟩
  · rw [hG] at k1
    obtain ⟨rfl, pp, mm⟩ := k1
    have hfin := Lib.hid (show allR typ l = .no a c l1 by unfold allR; rw [hG]; rfl)
    have R3 := Lib.hid (R.out.mv mm N3.out R.out.lt)
    have M3 := Lib.hid mm
    unfold thr
    clear pp mm hG e0 e1
    go_wp2_with fail
    refine ⟨rfl, ?_⟩
    rw [hfin.out]
    exact ⟨rfl, R3.out, Off.mv M3.out⟩
theorem so_size {x : Tk} : x.t.size ≤ (so x).length := by
  unfold so
  split
  · simp only [List.length_cons, List.length_append, Array.length_toList]
    show x.t.data.size ≤ _
    omega
  · simp only [Array.length_toList]
    exact Nat.le_refl _
theorem sum_len : ∀ (l : List Tk), (∀ x ∈ l, pr x = true) → l.length ≤ (l.map fun x => (so x).length).sum ∧ ∀ x ∈ l, x.t.size ≤ (l.map fun x => (so x).length).sum
  | [], _ => ⟨Nat.zero_le _, fun x h => by cases h⟩
  | y :: l, h => by
    have h1 := sum_len l fun x hx => h x (List.mem_cons_of_mem _ hx)
    have h2 := pr_pos (h y (List.mem_cons_self ..))
    rw [List.map_cons, List.sum_cons, List.length_cons]
    refine ⟨by have := h1.1; omega, fun x hx => ?_⟩
    rcases List.mem_cons.1 hx with rfl | hx
    · have := so_size (x := x)
      omega
    · have := h1.2 x hx
      omega
theorem tl_tok {s : ByteArray} (h : ¬ 16384 < s.size) : Tl (tokL s) := by
  have hl : tokL s = (lxs 0 false s.data.toList).1 ++ [endT s] := by unfold tokL; rw [if_neg h]
  have h1 := sum_len _ (lex_pr 0 false s.data.toList)
  have h2 := sum_cov s.data.toList _ 0 (Nat.zero_le _) (lex_cov s.data.toList 0 false s.data.toList rfl (Nat.zero_le _)).1
  have h3 : s.data.toList.length = s.size := str_len s
  rw [hl]
  refine ⟨fun x hx => ?_, ⟨_, _, rfl, rfl⟩, ?_⟩
  · rcases List.mem_append.1 hx with hx | hx
    · have := h1.2 x hx
      omega
    · rw [List.mem_singleton] at hx
      subst hx
      exact Nat.zero_le _
  · rw [List.length_append, List.length_singleton]
    have := h1.1
    omega
theorem tokE_small {s : ByteArray} (h : tokE s = 0) : ¬ 16384 < s.size := by
  unfold tokE at h
  split at h
  · cases h
  · assumption
/-- What a whole source is read as. -/
def topR {α : Type} (z : α) (one : List Tk → Rs α) (s : ByteArray) : α × Int × Int :=
  if tokE s = 0 then
    match tokB s with
    | q :: _ => (z, q.1, q.2)
    | [] =>
      match allR one (tokL s) with
      | .ok x _ => (x, 0, 0)
      | .no a c _ => (z, a, c)
      | .out => (z, 0, 0)
  else (z, 0, tokE s)
theorem topR_cons {α : Type} {z : α} {one : List Tk → Rs α} {s : ByteArray} {q : Pb} {qs : List Pb} (h : tokE s = 0) (hb : tokB s = q :: qs) : topR z one s = (z, q.1, q.2) := by
  unfold topR
  rw [if_pos h, hb]
theorem topR_ok {α : Type} {z : α} {one : List Tk → Rs α} {s : ByteArray} {x : α} {l : List Tk} (h : tokE s = 0) (hb : tokB s = []) (ha : allR one (tokL s) = .ok x l) : topR z one s = (x, 0, 0) := by
  unfold topR
  rw [if_pos h, hb]
  simp only [ha]
theorem topR_no {α : Type} {z : α} {one : List Tk → Rs α} {s : ByteArray} {a c : Int} {l : List Tk} (h : tokE s = 0) (hb : tokB s = []) (ha : allR one (tokL s) = .no a c l) : topR z one s = (z, a, c) := by
  unfold topR
  rw [if_pos h, hb]
  simp only [ha]
theorem ret_T3 {T : TypeId} {n : Nat} {d : TypeDesc} (hi : (Tryz.prog.info? T).map (·.size) = some n) (hu : Tryz.prog.underlying T = some d) (hd : rowD d = true)
    {fn : Func} {R : Ending → World → Prop} {p t u : Tmp} (h : fn.results = #[.cell p T, .tmp t, .tmp u]) (tmps : Array Value) (w : World) (g : Nat) (T' : TypeId) (cells : Array Value) (hp : tmps.getD p undef = .pointer (some ⟨g, 0, none⟩))
    (hB : Blk w g T' cells) (hc : cells.size = n) (hR : R (.returned (.tuple #[.agg cells, tmps.getD t undef, tmps.getD u undef])) w) : bodyPost Tryz.prog fn R .ret ⟨tmps, []⟩ w := by
  refine bodyPost_ret ?_ rfl hR
  have hp' : tmps[p]?.getD undef = .pointer (some ⟨g, 0, none⟩) := by simpa using hp
  have hL := run_loadVar_row (P := Tryz.prog) w g T' T cells (0, 0) d hB hu (by cases d <;> first | rfl | cases hd) (by rw [hc]; exact hi)
  simp [results, h, hp', asAddr, hL]
set_option maxRecDepth 100000 in
set_option maxHeartbeats 4000000 in
theorem whoE_any (a0 : Option Addr) (n0 cap : Nat) (s : ByteArray) (w : World) (hS : Bs w a0 n0 cap s) (T : Tabs w) (tr : Ex × Int × Int) (hTT : topR (α := Ex) ⟨h0, .nil⟩ exR s = tr) :
    Calls Tryz.prog 43 #[.slice a0 n0 cap, .func (.func 44) #[] #[]] w fun e w' => ∃ v, e = .returned (.tuple #[v, .int .i64 tr.2.1, .int .i64 tr.2.2]) ∧ Ev w.heap.size w' v tr.1 ∧ Below w.heap.size w w' := by
  replace hTT := Lib.hid hTT
  have bb := balloc (balloc (b0 w) (.cells #[.func (.func 44) #[] #[]] 101)) (.cells zE 43)
  have HF := Lib.hid ((Blk.new w 101 #[.func (.func 44) #[] #[]]).past (.cells zE 43))
  have R := Lib.hid (by have := Blk.new (w.alloc (.cells #[.func (.func 44) #[] #[]] 101)) 43 zE; simpa using this : Blk ((w.alloc (.cells #[.func (.func 44) #[] #[]] 101)).alloc (.cells zE 43)) (w.heap.size + 1) 43 zE)
  have TC := Lib.hid (tokens_any a0 n0 cap s _ (hS.keeps bb) (T.stays bb))
  have T0 := Lib.hid (T.stays bb)
  have B0 := Lib.hid bb
  have hsz := Lib.hid (by simp : ((w.alloc (.cells #[.func (.func 44) #[] #[]] 101)).alloc (.cells zE 43)).heap.size = w.heap.size + 2)
  clear hS T bb
  go_enter Tryz.func43, Tryz.ntmps43
  go_wp2_with fail
  refine TC.out.mono ?_
  rintro e w2 ⟨vt, vb, rfl, Ot, Ob, b2⟩
  have B2 := Lib.hid (bnext B0.out b2)
  have HF2 := Lib.hid (HF.out.below b2 HF.out.lt)
  have R2 := Lib.hid (R.out.below b2 R.out.lt)
  have T2 := Lib.hid (T0.out.stays b2)
  have hs2 := Lib.hid (show w.heap.size + 2 ≤ w2.heap.size from by have := b2.size; have := hsz.out; omega)
  replace Ot := Lib.hid Ot
  replace Ob := Lib.hid Ob
  clear b2 TC T0 B0 HF R hsz
  by_cases ht0 : tokE s = 0
  · have hz := Lib.hid (tokE_small ht0)
    have hE0 := Lib.hid ht0
    rw [ht0]
    clear ht0
    rcases hB : tokB s with _ | ⟨q, qs⟩
    · have hBB := Lib.hid hB
      rw [hB] at Ob
      clear hB
      obtain ⟨va, vcap, rfl, _⟩ := Ob.out.sl
      obtain ⟨ta, tcap, rfl, St0⟩ := Ot.out.sl
      have Sx := Lib.hid St0
      have q0 : decide (0 < ([] : List Pb).length) = false := rfl
      simp only [List.length_nil]
      have pc := balloc (balloc (b0 w2) (.cells #[.slice ta (tokL s).length tcap, .int .i64 0] 67)) (.cells #[.pointer (some ⟨w2.heap.size, 0, none⟩)] 65)
      have BP := (Blk.new w2 67 #[.slice ta (tokL s).length tcap, .int .i64 0]).past (.cells #[.pointer (some ⟨w2.heap.size, 0, none⟩)] 65)
      have BQ : Blk ((w2.alloc (.cells #[.slice ta (tokL s).length tcap, .int .i64 0] 67)).alloc (.cells #[.pointer (some ⟨w2.heap.size, 0, none⟩)] 65)) (w2.heap.size + 1) 65 #[.pointer (some ⟨w2.heap.size, 0, none⟩)] := by
        have := Blk.new (w2.alloc (.cells #[.slice ta (tokL s).length tcap, .int .i64 0] 67)) 65 #[.pointer (some ⟨w2.heap.size, 0, none⟩)]
        simpa using this
      have P3 : Hid (Ps ((w2.alloc (.cells #[.slice ta (tokL s).length tcap, .int .i64 0] 67)).alloc (.cells #[.pointer (some ⟨w2.heap.size, 0, none⟩)] 65)) w2.heap.size (tokL s)) := Lib.hid ⟨⟨ta, (tokL s).length, tcap, tokL s, 0, BP.cell 0, BP.cell 1, BP.free 1, St0.keeps pc, fun b off hb => by
        rcases St0.hat with hn | ⟨b', off', e', hC⟩
        · exact absurd (List.eq_nil_of_length_eq_zero hn) (tl_tok hz.out).ne
        · rw [hb] at e'
          cases e'
          have := (hC 0 (by have := (tl_tok hz.out).ne; cases hq : tokL s with | nil => exact absurd hq this | cons x r => simp)).1
          exact block_lt_of_cell this, rfl⟩, tl_tok hz.out, ⟨w2, T2.out, pc, Nat.le_refl _⟩, BP.tg⟩
      have HF3 := Lib.hid (HF2.out.below pc HF2.out.lt)
      have R3 := Lib.hid (R2.out.below pc R2.out.lt)
      have BQ3 := Lib.hid BQ
      have B3 := Lib.hid (bnext B2.out pc)
      have hs3 := Lib.hid (by simp : ((w2.alloc (.cells #[.slice ta (tokL s).length tcap, .int .i64 0] 67)).alloc (.cells #[.pointer (some ⟨w2.heap.size, 0, none⟩)] 65)).heap.size = w2.heap.size + 2)
      have hmf : ∀ (fn : Fn) (first cap : Array Value) (w : World), (Instr.makeFunc fn first cap).run Tryz.prog w = .ok (.func fn first cap) w := fun _ _ _ _ => rfl
      clear pc BP BQ St0 Sx Ob Ot HF2 R2 B2 T2
      go_wp2_with fail
      generalize ((w2.alloc (.cells #[.slice ta (tokL s).length tcap, .int .i64 0] 67)).alloc (.cells #[.pointer (some ⟨w2.heap.size, 0, none⟩)] 65)) = w3 at *
      have hgn := Lib.hid (show w.heap.size + 1 ≠ w2.heap.size from by have := hs2.out; omega)
      have CA := Lib.hid (clE_any w2.heap.size w.heap.size (w2.heap.size + 1) (w.heap.size + 1) (tokL s) (w3.alloc (.cells #[.int .i64 0, .int .i64 0] 72)) (P3.out.keeps (balloc (b0 w3) _)) (HF3.out.past _) (BQ3.out.past _) (R3.out.past _) (by have := hs2.out; omega) (by omega) hgn.out)
      have hYY : ∀ w', Off w2.heap.size (w.heap.size + 1) (w3.alloc (.cells #[.int .i64 0, .int .i64 0] 72)) w' → Blk w' w3.heap.size 72 #[.int .i64 0, .int .i64 0] := fun w' O => O.blk (Blk.new w3 _ _) (by have := hs3.out; omega) (by have := hs2.out; have := hs3.out; omega)
      rcases hA : allR exR (tokL s) with _ | ⟨x, l1⟩ | ⟨a, c, l1⟩
      · exact absurd hA (allR_ne (exR_ne) _)
      · have hT := Lib.hid (show tr = (x, 0, 0) from by rw [← hTT.out]; exact topR_ok hE0.out hBB.out hA)
        rw [hA] at CA
        clear hA
        refine (attempt_ok 87 #[.pointer (some ⟨w.heap.size, 0, none⟩), .pointer (some ⟨w2.heap.size + 1, 0, none⟩), .pointer (some ⟨w.heap.size + 1, 0, none⟩)] w3 (fun w' => InE (w3.alloc (.cells #[.int .i64 0, .int .i64 0] 72)).heap.size (w.heap.size + 1) w' x ∧ Off w2.heap.size (w.heap.size + 1) (w3.alloc (.cells #[.int .i64 0, .int .i64 0] 72)) w') (fun w' h => hYY w' h.2) CA.out (fun _ => rfl)).mono ?_
        rintro e w5 ⟨w4, ⟨⟨ua, uc, aa, ac, I4, E4⟩, O4⟩, S5, rfl⟩
        have I5 := Lib.hid (I4.st S5 (by have := hs2.out; have := hs3.out; omega))
        have E5 := Lib.hid ((E4.kp (S5.kp (by simp))).less (show w.heap.size + 2 ≤ _ by simp; have := hs2.out; have := hs3.out; omega))
        have B5 := Lib.hid (B3.out.trans ((((Below.refl w.heap.size w3).alloc (by have := hs2.out; have := hs3.out; omega) (.cells #[.int .i64 0, .int .i64 0] 72)).trans (O4.below (by have := hs2.out; omega) (by omega) (by simp; have := hs2.out; have := hs3.out; omega))).trans (S5.below (by have := hs2.out; have := hs3.out; omega))))
        have hs5 := Lib.hid (show w.heap.size + 2 ≤ w5.heap.size from by have := S5.size; have := O4.size; simp at this; have := hs2.out; have := hs3.out; omega)
        clear CA hYY I4 O4 S5 E4 P3 HF3 R3 BQ3 B3
        go_wp2_with fail
        have bb := balloc (b0 w5) (.cells #[.int .i64 0, .int .i64 0] 72)
        have SS := Lib.hid (show Blk (w5.alloc (.cells #[.int .i64 0, .int .i64 0] 72)).drew (w.heap.size + 1) 43 (exC x ua uc aa ac) ∧ Blk (w5.alloc (.cells #[.int .i64 0, .int .i64 0] 72)).drew w5.heap.size 72 #[.int .i64 0, .int .i64 0] from ⟨I5.out.past _, Blk.new w5 _ _⟩)
        refine wp_region_held_drew (S := fun w' => Blk w' (w.heap.size + 1) 43 (exC x ua uc aa ac) ∧ Blk w' w5.heap.size 72 #[.int .i64 0, .int .i64 0]) (by kernel_rfl) SS.out (fun hH => ?_)
        refine held_take (i := 0) (d := 40) (v := .agg (exC x ua uc aa ac)) rfl (by kernel_rfl) (by kernel_rfl) (by kernel_rfl) rfl (fun _ _ _ h => h) rfl hH (fun w' hS => yield_load infX Tryz.underlying43 rfl (.tmp 4) rfl _ _ _ rfl hS.1 rfl) ?_
        simp only [List.set_cons_zero, List.set_cons_succ]
        refine held_take (i := 1) (d := 41) (v := ?_) rfl (by kernel_rfl) (by kernel_rfl) (by kernel_rfl) rfl (fun _ _ _ h => h) rfl hH (fun w' hS => ?_) ?_
        rotate_left
        · go_simp; first | done | with_reducible rfl
        simp only [List.set_cons_zero, List.set_cons_succ]
        refine held_take (i := 2) (d := 42) (v := ?_) rfl (by kernel_rfl) (by kernel_rfl) (by kernel_rfl) rfl (fun _ _ _ h => h) rfl hH (fun w' hS => ?_) ?_
        rotate_left
        · have e1 := hS.2.cell 0; go_simp; first | done | with_reducible rfl
        simp only [List.set_cons_zero, List.set_cons_succ]
        refine held_take (i := 3) (d := 43) (v := ?_) rfl (by kernel_rfl) (by kernel_rfl) (by kernel_rfl) rfl (fun _ _ _ h => h) rfl hH (fun w' hS => ?_) ?_
        rotate_left
        · go_simp; first | done | with_reducible rfl
        simp only [List.set_cons_zero, List.set_cons_succ]
        refine held_take (i := 4) (d := 44) (v := ?_) rfl (by kernel_rfl) (by kernel_rfl) (by kernel_rfl) rfl (fun _ _ _ h => h) rfl hH (fun w' hS => ?_) ?_
        rotate_left
        · have e1 := hS.2.cell 1; go_simp; first | done | with_reducible rfl
        simp only [List.set_cons_zero, List.set_cons_succ]
        refine held_only (i := 5) rfl (by kernel_rfl) rfl (fun K hK => ?_)
        refine op_storeT infX (.tmp 4) (.tmp 40) rfl _ _ _ _ rfl rfl hH.1 rfl rfl (exC_one _ _ _ _ _) ?_
        intro w9 hb9 hs9
        refine hK.out _ _ ⟨hb9, hH.2.st hs9 (by have := hs5.out; omega)⟩ (fun hH => ?_)
        clear hK K
        have E7 := Lib.hid ((E5.out.kp (kp_of bb)).kp (hs9.kp (by omega)))
        have B9 := Lib.hid (((B5.out.trans (bb.mono (by have := hs5.out; omega))).drew).trans (hs9.below (Nat.le_succ _)))
        replace hb9 := Lib.hid hb9
        clear hs9 SS bb
        simp only [Act.put]
        refine held_take (i := 6) (d := 5) (v := ?_) rfl (by kernel_rfl) (by kernel_rfl) (by kernel_rfl) rfl (fun _ _ _ h => h) rfl hH (fun w' hS => ?_) ?_
        rotate_left
        · go_simp; first | done | with_reducible rfl
        simp only [List.set_cons_zero, List.set_cons_succ]
        refine held_take (i := 7) (d := 6) (v := ?_) rfl (by kernel_rfl) (by kernel_rfl) (by kernel_rfl) rfl (fun _ _ _ h => h) rfl hH (fun w' hS => ?_) ?_
        rotate_left
        · go_simp; first | done | with_reducible rfl
        simp only [List.set_cons_zero, List.set_cons_succ]
        clear hH
        refine wpAnyH_done (by kernel_rfl) ?_ _
        go_wp2_with fail
        refine ret_T3 infX Tryz.underlying43 rfl rfl _ _ _ _ _ rfl hb9.out rfl ?_
        rw [hT.out]
        exact ⟨_, rfl, ⟨ua, uc, aa, ac, rfl, E7.out.less (by omega)⟩, B9.out⟩
      · have hT := Lib.hid (show tr = (⟨h0, .nil⟩, a, c) from by rw [← hTT.out]; exact topR_no hE0.out hBB.out hA)
        rw [hA] at CA
        clear hA
        refine (attempt_no 87 #[.pointer (some ⟨w.heap.size, 0, none⟩), .pointer (some ⟨w2.heap.size + 1, 0, none⟩), .pointer (some ⟨w.heap.size + 1, 0, none⟩)] w3 a c (fun w' => Blk w' (w.heap.size + 1) 43 zE ∧ Off w2.heap.size (w.heap.size + 1) (w3.alloc (.cells #[.int .i64 0, .int .i64 0] 72)) w') (fun w' h => hYY w' h.2) CA.out (fun _ => rfl)).mono ?_
        rintro e w5 ⟨w4, ⟨I4, O4⟩, S5, rfl⟩
        have I5 := Lib.hid (I4.st S5 (by have := hs2.out; have := hs3.out; omega))
        have B5 := Lib.hid (B3.out.trans ((((Below.refl w.heap.size w3).alloc (by have := hs2.out; have := hs3.out; omega) (.cells #[.int .i64 0, .int .i64 0] 72)).trans (O4.below (by have := hs2.out; omega) (by omega) (by simp; have := hs2.out; have := hs3.out; omega))).trans (S5.below (by have := hs2.out; have := hs3.out; omega))))
        have hs5 := Lib.hid (show w.heap.size + 2 ≤ w5.heap.size from by have := S5.size; have := O4.size; simp at this; have := hs2.out; have := hs3.out; omega)
        clear CA hYY I4 O4 S5 P3 HF3 R3 BQ3 B3
        go_wp2_with fail
        have bb := balloc (b0 w5) (.cells #[.int .i64 a, .int .i64 c] 72)
        have SS := Lib.hid (show Blk (w5.alloc (.cells #[.int .i64 a, .int .i64 c] 72)).drew (w.heap.size + 1) 43 (zE) ∧ Blk (w5.alloc (.cells #[.int .i64 a, .int .i64 c] 72)).drew w5.heap.size 72 #[.int .i64 a, .int .i64 c] from ⟨I5.out.past _, Blk.new w5 _ _⟩)
        refine wp_region_held_drew (S := fun w' => Blk w' (w.heap.size + 1) 43 (zE) ∧ Blk w' w5.heap.size 72 #[.int .i64 a, .int .i64 c]) (by kernel_rfl) SS.out (fun hH => ?_)
        refine held_take (i := 0) (d := 40) (v := .agg (zE)) rfl (by kernel_rfl) (by kernel_rfl) (by kernel_rfl) rfl (fun _ _ _ h => h) rfl hH (fun w' hS => yield_load infX Tryz.underlying43 rfl (.tmp 4) rfl _ _ _ rfl hS.1 rfl) ?_
        simp only [List.set_cons_zero, List.set_cons_succ]
        refine held_take (i := 1) (d := 41) (v := ?_) rfl (by kernel_rfl) (by kernel_rfl) (by kernel_rfl) rfl (fun _ _ _ h => h) rfl hH (fun w' hS => ?_) ?_
        rotate_left
        · go_simp; first | done | with_reducible rfl
        simp only [List.set_cons_zero, List.set_cons_succ]
        refine held_take (i := 2) (d := 42) (v := ?_) rfl (by kernel_rfl) (by kernel_rfl) (by kernel_rfl) rfl (fun _ _ _ h => h) rfl hH (fun w' hS => ?_) ?_
        rotate_left
        · have e1 := hS.2.cell 0; go_simp; first | done | with_reducible rfl
        simp only [List.set_cons_zero, List.set_cons_succ]
        refine held_take (i := 3) (d := 43) (v := ?_) rfl (by kernel_rfl) (by kernel_rfl) (by kernel_rfl) rfl (fun _ _ _ h => h) rfl hH (fun w' hS => ?_) ?_
        rotate_left
        · go_simp; first | done | with_reducible rfl
        simp only [List.set_cons_zero, List.set_cons_succ]
        refine held_take (i := 4) (d := 44) (v := ?_) rfl (by kernel_rfl) (by kernel_rfl) (by kernel_rfl) rfl (fun _ _ _ h => h) rfl hH (fun w' hS => ?_) ?_
        rotate_left
        · have e1 := hS.2.cell 1; go_simp; first | done | with_reducible rfl
        simp only [List.set_cons_zero, List.set_cons_succ]
        refine held_only (i := 5) rfl (by kernel_rfl) rfl (fun K hK => ?_)
        refine op_storeT infX (.tmp 4) (.tmp 40) rfl _ _ _ _ rfl rfl hH.1 rfl rfl (by simp [zE, Value.oneCell']) ?_
        intro w9 hb9 hs9
        refine hK.out _ _ ⟨hb9, hH.2.st hs9 (by have := hs5.out; omega)⟩ (fun hH => ?_)
        clear hK K
        have B9 := Lib.hid (((B5.out.trans (bb.mono (by have := hs5.out; omega))).drew).trans (hs9.below (Nat.le_succ _)))
        replace hb9 := Lib.hid hb9
        clear hs9 SS bb
        simp only [Act.put]
        refine held_take (i := 6) (d := 5) (v := ?_) rfl (by kernel_rfl) (by kernel_rfl) (by kernel_rfl) rfl (fun _ _ _ h => h) rfl hH (fun w' hS => ?_) ?_
        rotate_left
        · go_simp; first | done | with_reducible rfl
        simp only [List.set_cons_zero, List.set_cons_succ]
        refine held_take (i := 7) (d := 6) (v := ?_) rfl (by kernel_rfl) (by kernel_rfl) (by kernel_rfl) rfl (fun _ _ _ h => h) rfl hH (fun w' hS => ?_) ?_
        rotate_left
        · go_simp; first | done | with_reducible rfl
        simp only [List.set_cons_zero, List.set_cons_succ]
        clear hH
        refine wpAnyH_done (by kernel_rfl) ?_ _
        go_wp2_with fail
        refine ret_T3 infX Tryz.underlying43 rfl rfl _ _ _ _ _ rfl hb9.out rfl ?_
        rw [hT.out]
        exact ⟨_, rfl, ⟨none, 0, none, 0, rfl, ⟨.inl rfl, .inl rfl⟩⟩, B9.out⟩
    · have hT := Lib.hid (show tr = (⟨h0, .nil⟩, q.1, q.2) from by rw [← hTT.out]; exact topR_cons hE0.out hB)
      rw [hB] at Ob
      clear hB
      rcases Ob.out.out with ⟨_, hnil⟩ | ⟨g, vcap, rfl, hbg, hg, hlc, hcm, hC⟩
      · cases hnil
      have c0 : w2.cell? ⟨g, 0, none⟩ = some (.int .i64 q.1) := (hC 0 (by simp)).1
      have c1 : w2.cell? ⟨g, 1, none⟩ = some (.int .i64 q.2) := (hC 0 (by simp)).2
      have hgn := Lib.hid (show g ≠ w.heap.size + 1 from by simp at hbg; omega)
      obtain ⟨N, hN⟩ : ∃ N, (q :: qs).length = N := ⟨_, rfl⟩
      have hN0 : 0 < N := by rw [← hN]; simp
      rw [hN]
      have q0 : decide ((0 : Int) < (N : Int)) = true := decide_eq_true (by omega)
      have q1 : (0 : Int) < (N : Int) := by omega
      clear hN hC hlc hcm hbg Ob Ot
      go_wp2_with fail
      have SS := Lib.hid (show Blk w2.drew (w.heap.size + 1) 43 (zE) ∧ w2.drew.cell? ⟨g, 0, none⟩ = some (.int .i64 q.1) ∧ w2.drew.cell? ⟨g, 1, none⟩ = some (.int .i64 q.2) from ⟨R2.out, c0, c1⟩)
      clear c0 c1
      refine wp_region_held_drew (S := fun w' => Blk w' (w.heap.size + 1) 43 (zE) ∧ w'.cell? ⟨g, 0, none⟩ = some (.int .i64 q.1) ∧ w'.cell? ⟨g, 1, none⟩ = some (.int .i64 q.2)) (by kernel_rfl) SS.out (fun hH => ?_)
      refine held_take (i := 0) (d := 26) (v := .agg (zE)) rfl (by kernel_rfl) (by kernel_rfl) (by kernel_rfl) rfl (fun _ _ _ h => h) rfl hH (fun w' hS => yield_load infX Tryz.underlying43 rfl (.tmp 4) rfl _ _ _ rfl hS.1 rfl) ?_
      simp only [List.set_cons_zero, List.set_cons_succ]
      refine held_take (i := 1) (d := 27) (v := ?_) rfl (by kernel_rfl) (by kernel_rfl) (by kernel_rfl) rfl (fun _ _ _ h => h) rfl hH (fun w' hS => ?_) ?_
      rotate_left
      · go_simp; first | done | with_reducible rfl
      simp only [List.set_cons_zero, List.set_cons_succ]
      refine held_take (i := 2) (d := 28) (v := ?_) rfl (by kernel_rfl) (by kernel_rfl) (by kernel_rfl) rfl (fun _ _ _ h => h) rfl hH (fun w' hS => ?_) ?_
      rotate_left
      · go_simp; first | done | with_reducible rfl
      simp only [List.set_cons_zero, List.set_cons_succ]
      refine held_take (i := 3) (d := 29) (v := ?_) rfl (by kernel_rfl) (by kernel_rfl) (by kernel_rfl) rfl (fun _ _ _ h => h) rfl hH (fun w' hS => ?_) ?_
      rotate_left
      · go_simp; first | done | with_reducible rfl
      simp only [List.set_cons_zero, List.set_cons_succ]
      refine held_take (i := 4) (d := 30) (v := ?_) rfl (by kernel_rfl) (by kernel_rfl) (by kernel_rfl) rfl (fun _ _ _ h => h) rfl hH (fun w' hS => ?_) ?_
      rotate_left
      · have e1 := hS.2.1; go_simp; first | done | with_reducible rfl
      simp only [List.set_cons_zero, List.set_cons_succ]
      refine held_take (i := 5) (d := 31) (v := ?_) rfl (by kernel_rfl) (by kernel_rfl) (by kernel_rfl) rfl (fun _ _ _ h => h) rfl hH (fun w' hS => ?_) ?_
      rotate_left
      · go_simp; first | done | with_reducible rfl
      simp only [List.set_cons_zero, List.set_cons_succ]
      refine held_take (i := 6) (d := 32) (v := ?_) rfl (by kernel_rfl) (by kernel_rfl) (by kernel_rfl) rfl (fun _ _ _ h => h) rfl hH (fun w' hS => ?_) ?_
      rotate_left
      · go_simp; first | done | with_reducible rfl
      simp only [List.set_cons_zero, List.set_cons_succ]
      refine held_take (i := 7) (d := 33) (v := ?_) rfl (by kernel_rfl) (by kernel_rfl) (by kernel_rfl) rfl (fun _ _ _ h => h) rfl hH (fun w' hS => ?_) ?_
      rotate_left
      · go_simp; first | done | with_reducible rfl
      simp only [List.set_cons_zero, List.set_cons_succ]
      refine held_take (i := 8) (d := 34) (v := ?_) rfl (by kernel_rfl) (by kernel_rfl) (by kernel_rfl) rfl (fun _ _ _ h => h) rfl hH (fun w' hS => ?_) ?_
      rotate_left
      · have e1 := hS.2.2; go_simp; first | done | with_reducible rfl
      simp only [List.set_cons_zero, List.set_cons_succ]
      refine held_only (i := 9) rfl (by kernel_rfl) rfl (fun K hK => ?_)
      refine op_storeT infX (.tmp 4) (.tmp 26) rfl _ _ _ _ rfl rfl hH.1 rfl rfl (by simp [zE, Value.oneCell']) ?_
      intro w9 hb9 hs9
      refine hK.out _ _ ⟨hb9, (World.cell?_of_block (w := w2.drew) (hs9.block g hgn.out)).trans hH.2.1, (World.cell?_of_block (w := w2.drew) (hs9.block g hgn.out)).trans hH.2.2⟩ (fun hH => ?_)
      clear hK K
      have B9 := Lib.hid (B2.out.drew.trans (hs9.below (Nat.le_succ _)))
      replace hb9 := Lib.hid hb9
      clear hs9 SS
      simp only [Act.put]
      refine held_take (i := 10) (d := 5) (v := ?_) rfl (by kernel_rfl) (by kernel_rfl) (by kernel_rfl) rfl (fun _ _ _ h => h) rfl hH (fun w' hS => ?_) ?_
      rotate_left
      · go_simp; first | done | with_reducible rfl
      simp only [List.set_cons_zero, List.set_cons_succ]
      refine held_take (i := 11) (d := 6) (v := ?_) rfl (by kernel_rfl) (by kernel_rfl) (by kernel_rfl) rfl (fun _ _ _ h => h) rfl hH (fun w' hS => ?_) ?_
      rotate_left
      · go_simp; first | done | with_reducible rfl
      simp only [List.set_cons_zero, List.set_cons_succ]
      clear hH
      refine wpAnyH_done (by kernel_rfl) ?_ _
      go_wp2_with fail
      refine ret_T3 infX Tryz.underlying43 rfl rfl _ _ _ _ _ rfl hb9.out rfl ?_
      rw [hT.out]
      exact ⟨_, rfl, ⟨none, 0, none, 0, rfl, ⟨.inl rfl, .inl rfl⟩⟩, B9.out⟩
  · have q1 : (tokE s != 0) = true := by simp [ht0]
    have hT := Lib.hid (show tr = (⟨h0, .nil⟩, 0, tokE s) from by rw [← hTT.out]; unfold topR; rw [if_neg ht0])
    clear ht0 hTT
    generalize tokE s = te at *
    go_wp2_with (first | (refine arm_loadT infX Tryz.underlying43 rfl (.tmp 4) rfl rfl _ _ _ rfl R2.out rfl ?_) | (refine arm_storeT infX (.tmp 4) (.tmp 20) rfl rfl _ _ _ _ rfl rfl R2.out rfl rfl (by simp [zE, Value.oneCell']) ?_; intro w9 hb9 hs9))
    refine ret_T3 infX Tryz.underlying43 rfl rfl _ _ _ _ _ rfl hb9 rfl ?_
    rw [hT.out]
    exact ⟨_, rfl, ⟨none, 0, none, 0, rfl, ⟨.inl rfl, .inl rfl⟩⟩, B2.out.trans (hs9.below (Nat.le_succ _))⟩
set_option maxRecDepth 100000 in
set_option maxHeartbeats 4000000 in
theorem topE_any (a0 : Option Addr) (n0 cap : Nat) (s : ByteArray) (w : World) (hS : Bs w a0 n0 cap s) (T : Tabs w) (tr : Ex × Int × Int) (hTT : topR (α := Ex) ⟨h0, .nil⟩ exR s = tr) :
    Calls Tryz.prog 12 #[.slice a0 n0 cap] w fun e w' => ∃ v, e = .returned (.tuple #[v, .int .i64 tr.2.1, .int .i64 tr.2.2]) ∧ Ev w.heap.size w' v tr.1 ∧ Below w.heap.size w w' := by
  have bb := balloc (b0 w) (.cells zE 43)
  have WC := Lib.hid (whoE_any a0 n0 cap s _ (hS.keeps bb) (T.stays bb) tr hTT)
  have R := Lib.hid (Blk.new w 43 zE)
  have BB := Lib.hid bb
  clear hS T hTT bb
  go_enter Tryz.func12, Tryz.ntmps12
  go_wp2_with fail
  refine WC.out.mono ?_
  rintro e w1 ⟨v, rfl, V, b1⟩
  have R1 := Lib.hid (R.out.below b1 R.out.lt)
  have B1 := Lib.hid (bnext BB.out b1)
  have hsz := Lib.hid (by simp : (w.alloc (.cells zE 43)).heap.size = w.heap.size + 1)
  obtain ⟨ua, uc, aa, ac, rfl, E⟩ := V
  have E9 := Lib.hid (hsz.out ▸ E)
  clear b1 E WC R BB
  go_wp2_with (refine arm_storeT infX (.tmp 2) (.tmp 7) rfl rfl _ _ _ _ rfl rfl R1.out rfl rfl (exC_one _ _ _ _ _) ?_; intro w9 hb9 hs9)
  refine ret_T3 infX Tryz.underlying43 rfl rfl _ _ _ _ _ rfl hb9 rfl ?_
  exact ⟨_, rfl, ⟨ua, uc, aa, ac, rfl, (E9.out.kp (hs9.kp (Nat.lt_succ_self _))).less (Nat.le_succ _)⟩, B1.out.trans (hs9.below (Nat.le_refl _))⟩
set_option maxRecDepth 100000 in
set_option maxHeartbeats 4000000 in
theorem whoT_any (a0 : Option Addr) (n0 cap : Nat) (s : ByteArray) (w : World) (hS : Bs w a0 n0 cap s) (T : Tabs w) (tr : Ty × Int × Int) (hTT : topR (α := Ty) ⟨0, [], .empty⟩ typ s = tr) :
    Calls Tryz.prog 50 #[.slice a0 n0 cap, .func (.func 51) #[] #[]] w fun e w' => ∃ v, e = .returned (.tuple #[v, .int .i64 tr.2.1, .int .i64 tr.2.2]) ∧ Tv w.heap.size w' v tr.1 ∧ Below w.heap.size w w' := by
  replace hTT := Lib.hid hTT
  have bb := balloc (balloc (b0 w) (.cells #[.func (.func 51) #[] #[]] 106)) (.cells zT 47)
  have HF := Lib.hid ((Blk.new w 106 #[.func (.func 51) #[] #[]]).past (.cells zT 47))
  have R := Lib.hid (by have := Blk.new (w.alloc (.cells #[.func (.func 51) #[] #[]] 106)) 47 zT; simpa using this : Blk ((w.alloc (.cells #[.func (.func 51) #[] #[]] 106)).alloc (.cells zT 47)) (w.heap.size + 1) 47 zT)
  have TC := Lib.hid (tokens_any a0 n0 cap s _ (hS.keeps bb) (T.stays bb))
  have T0 := Lib.hid (T.stays bb)
  have B0 := Lib.hid bb
  have hsz := Lib.hid (by simp : ((w.alloc (.cells #[.func (.func 51) #[] #[]] 106)).alloc (.cells zT 47)).heap.size = w.heap.size + 2)
  clear hS T bb
  go_enter Tryz.func50, Tryz.ntmps50
  go_wp2_with fail
  refine TC.out.mono ?_
  rintro e w2 ⟨vt, vb, rfl, Ot, Ob, b2⟩
  have B2 := Lib.hid (bnext B0.out b2)
  have HF2 := Lib.hid (HF.out.below b2 HF.out.lt)
  have R2 := Lib.hid (R.out.below b2 R.out.lt)
  have T2 := Lib.hid (T0.out.stays b2)
  have hs2 := Lib.hid (show w.heap.size + 2 ≤ w2.heap.size from by have := b2.size; have := hsz.out; omega)
  replace Ot := Lib.hid Ot
  replace Ob := Lib.hid Ob
  clear b2 TC T0 B0 HF R hsz
  by_cases ht0 : tokE s = 0
  · have hz := Lib.hid (tokE_small ht0)
    have hE0 := Lib.hid ht0
    rw [ht0]
    clear ht0
    rcases hB : tokB s with _ | ⟨q, qs⟩
    · have hBB := Lib.hid hB
      rw [hB] at Ob
      clear hB
      obtain ⟨va, vcap, rfl, _⟩ := Ob.out.sl
      obtain ⟨ta, tcap, rfl, St0⟩ := Ot.out.sl
      have Sx := Lib.hid St0
      have q0 : decide (0 < ([] : List Pb).length) = false := rfl
      simp only [List.length_nil]
      have pc := balloc (balloc (b0 w2) (.cells #[.slice ta (tokL s).length tcap, .int .i64 0] 67)) (.cells #[.pointer (some ⟨w2.heap.size, 0, none⟩)] 65)
      have BP := (Blk.new w2 67 #[.slice ta (tokL s).length tcap, .int .i64 0]).past (.cells #[.pointer (some ⟨w2.heap.size, 0, none⟩)] 65)
      have BQ : Blk ((w2.alloc (.cells #[.slice ta (tokL s).length tcap, .int .i64 0] 67)).alloc (.cells #[.pointer (some ⟨w2.heap.size, 0, none⟩)] 65)) (w2.heap.size + 1) 65 #[.pointer (some ⟨w2.heap.size, 0, none⟩)] := by
        have := Blk.new (w2.alloc (.cells #[.slice ta (tokL s).length tcap, .int .i64 0] 67)) 65 #[.pointer (some ⟨w2.heap.size, 0, none⟩)]
        simpa using this
      have P3 : Hid (Ps ((w2.alloc (.cells #[.slice ta (tokL s).length tcap, .int .i64 0] 67)).alloc (.cells #[.pointer (some ⟨w2.heap.size, 0, none⟩)] 65)) w2.heap.size (tokL s)) := Lib.hid ⟨⟨ta, (tokL s).length, tcap, tokL s, 0, BP.cell 0, BP.cell 1, BP.free 1, St0.keeps pc, fun b off hb => by
        rcases St0.hat with hn | ⟨b', off', e', hC⟩
        · exact absurd (List.eq_nil_of_length_eq_zero hn) (tl_tok hz.out).ne
        · rw [hb] at e'
          cases e'
          have := (hC 0 (by have := (tl_tok hz.out).ne; cases hq : tokL s with | nil => exact absurd hq this | cons x r => simp)).1
          exact block_lt_of_cell this, rfl⟩, tl_tok hz.out, ⟨w2, T2.out, pc, Nat.le_refl _⟩, BP.tg⟩
      have HF3 := Lib.hid (HF2.out.below pc HF2.out.lt)
      have R3 := Lib.hid (R2.out.below pc R2.out.lt)
      have BQ3 := Lib.hid BQ
      have B3 := Lib.hid (bnext B2.out pc)
      have hs3 := Lib.hid (by simp : ((w2.alloc (.cells #[.slice ta (tokL s).length tcap, .int .i64 0] 67)).alloc (.cells #[.pointer (some ⟨w2.heap.size, 0, none⟩)] 65)).heap.size = w2.heap.size + 2)
      have hmf : ∀ (fn : Fn) (first cap : Array Value) (w : World), (Instr.makeFunc fn first cap).run Tryz.prog w = .ok (.func fn first cap) w := fun _ _ _ _ => rfl
      clear pc BP BQ St0 Sx Ob Ot HF2 R2 B2 T2
      go_wp2_with fail
      generalize ((w2.alloc (.cells #[.slice ta (tokL s).length tcap, .int .i64 0] 67)).alloc (.cells #[.pointer (some ⟨w2.heap.size, 0, none⟩)] 65)) = w3 at *
      have hgn := Lib.hid (show w.heap.size + 1 ≠ w2.heap.size from by have := hs2.out; omega)
      have CA := Lib.hid (clT_any w2.heap.size w.heap.size (w2.heap.size + 1) (w.heap.size + 1) (tokL s) (w3.alloc (.cells #[.int .i64 0, .int .i64 0] 72)) (P3.out.keeps (balloc (b0 w3) _)) (HF3.out.past _) (BQ3.out.past _) (R3.out.past _) (by have := hs2.out; omega) (by omega) hgn.out)
      have hYY : ∀ w', Off w2.heap.size (w.heap.size + 1) (w3.alloc (.cells #[.int .i64 0, .int .i64 0] 72)) w' → Blk w' w3.heap.size 72 #[.int .i64 0, .int .i64 0] := fun w' O => O.blk (Blk.new w3 _ _) (by have := hs3.out; omega) (by have := hs2.out; have := hs3.out; omega)
      rcases hA : allR typ (tokL s) with _ | ⟨x, l1⟩ | ⟨a, c, l1⟩
      · exact absurd hA (allR_ne (typ_ne) _)
      · have hT := Lib.hid (show tr = (x, 0, 0) from by rw [← hTT.out]; exact topR_ok hE0.out hBB.out hA)
        rw [hA] at CA
        clear hA
        refine (attempt_ok 93 #[.pointer (some ⟨w.heap.size, 0, none⟩), .pointer (some ⟨w2.heap.size + 1, 0, none⟩), .pointer (some ⟨w.heap.size + 1, 0, none⟩)] w3 (fun w' => InT (w3.alloc (.cells #[.int .i64 0, .int .i64 0] 72)).heap.size (w.heap.size + 1) w' x ∧ Off w2.heap.size (w.heap.size + 1) (w3.alloc (.cells #[.int .i64 0, .int .i64 0] 72)) w') (fun w' h => hYY w' h.2) CA.out (fun _ => rfl)).mono ?_
        rintro e w5 ⟨w4, ⟨⟨ua, uc, I4, E4⟩, O4⟩, S5, rfl⟩
        have I5 := Lib.hid (I4.st S5 (by have := hs2.out; have := hs3.out; omega))
        have E5 := Lib.hid ((E4.kp (S5.kp (by simp))).less (show w.heap.size + 2 ≤ _ by simp; have := hs2.out; have := hs3.out; omega))
        have B5 := Lib.hid (B3.out.trans ((((Below.refl w.heap.size w3).alloc (by have := hs2.out; have := hs3.out; omega) (.cells #[.int .i64 0, .int .i64 0] 72)).trans (O4.below (by have := hs2.out; omega) (by omega) (by simp; have := hs2.out; have := hs3.out; omega))).trans (S5.below (by have := hs2.out; have := hs3.out; omega))))
        have hs5 := Lib.hid (show w.heap.size + 2 ≤ w5.heap.size from by have := S5.size; have := O4.size; simp at this; have := hs2.out; have := hs3.out; omega)
        clear CA hYY I4 O4 S5 E4 P3 HF3 R3 BQ3 B3
        go_wp2_with fail
        have bb := balloc (b0 w5) (.cells #[.int .i64 0, .int .i64 0] 72)
        have SS := Lib.hid (show Blk (w5.alloc (.cells #[.int .i64 0, .int .i64 0] 72)).drew (w.heap.size + 1) 47 (tyC x ua uc) ∧ Blk (w5.alloc (.cells #[.int .i64 0, .int .i64 0] 72)).drew w5.heap.size 72 #[.int .i64 0, .int .i64 0] from ⟨I5.out.past _, Blk.new w5 _ _⟩)
        refine wp_region_held_drew (S := fun w' => Blk w' (w.heap.size + 1) 47 (tyC x ua uc) ∧ Blk w' w5.heap.size 72 #[.int .i64 0, .int .i64 0]) (by kernel_rfl) SS.out (fun hH => ?_)
        refine held_take (i := 0) (d := 40) (v := .agg (tyC x ua uc)) rfl (by kernel_rfl) (by kernel_rfl) (by kernel_rfl) rfl (fun _ _ _ h => h) rfl hH (fun w' hS => yield_load infTy Tryz.underlying47 rfl (.tmp 4) rfl _ _ _ rfl hS.1 rfl) ?_
        simp only [List.set_cons_zero, List.set_cons_succ]
        refine held_take (i := 1) (d := 41) (v := ?_) rfl (by kernel_rfl) (by kernel_rfl) (by kernel_rfl) rfl (fun _ _ _ h => h) rfl hH (fun w' hS => ?_) ?_
        rotate_left
        · go_simp; first | done | with_reducible rfl
        simp only [List.set_cons_zero, List.set_cons_succ]
        refine held_take (i := 2) (d := 42) (v := ?_) rfl (by kernel_rfl) (by kernel_rfl) (by kernel_rfl) rfl (fun _ _ _ h => h) rfl hH (fun w' hS => ?_) ?_
        rotate_left
        · have e1 := hS.2.cell 0; go_simp; first | done | with_reducible rfl
        simp only [List.set_cons_zero, List.set_cons_succ]
        refine held_take (i := 3) (d := 43) (v := ?_) rfl (by kernel_rfl) (by kernel_rfl) (by kernel_rfl) rfl (fun _ _ _ h => h) rfl hH (fun w' hS => ?_) ?_
        rotate_left
        · go_simp; first | done | with_reducible rfl
        simp only [List.set_cons_zero, List.set_cons_succ]
        refine held_take (i := 4) (d := 44) (v := ?_) rfl (by kernel_rfl) (by kernel_rfl) (by kernel_rfl) rfl (fun _ _ _ h => h) rfl hH (fun w' hS => ?_) ?_
        rotate_left
        · have e1 := hS.2.cell 1; go_simp; first | done | with_reducible rfl
        simp only [List.set_cons_zero, List.set_cons_succ]
        refine held_only (i := 5) rfl (by kernel_rfl) rfl (fun K hK => ?_)
        refine op_storeT infTy (.tmp 4) (.tmp 40) rfl _ _ _ _ rfl rfl hH.1 rfl rfl (tyC_one _ _ _) ?_
        intro w9 hb9 hs9
        refine hK.out _ _ ⟨hb9, hH.2.st hs9 (by have := hs5.out; omega)⟩ (fun hH => ?_)
        clear hK K
        have E7 := Lib.hid ((E5.out.kp (kp_of bb)).kp (hs9.kp (by omega)))
        have B9 := Lib.hid (((B5.out.trans (bb.mono (by have := hs5.out; omega))).drew).trans (hs9.below (Nat.le_succ _)))
        replace hb9 := Lib.hid hb9
        clear hs9 SS bb
        simp only [Act.put]
        refine held_take (i := 6) (d := 5) (v := ?_) rfl (by kernel_rfl) (by kernel_rfl) (by kernel_rfl) rfl (fun _ _ _ h => h) rfl hH (fun w' hS => ?_) ?_
        rotate_left
        · go_simp; first | done | with_reducible rfl
        simp only [List.set_cons_zero, List.set_cons_succ]
        refine held_take (i := 7) (d := 6) (v := ?_) rfl (by kernel_rfl) (by kernel_rfl) (by kernel_rfl) rfl (fun _ _ _ h => h) rfl hH (fun w' hS => ?_) ?_
        rotate_left
        · go_simp; first | done | with_reducible rfl
        simp only [List.set_cons_zero, List.set_cons_succ]
        clear hH
        refine wpAnyH_done (by kernel_rfl) ?_ _
        go_wp2_with fail
        refine ret_T3 infTy Tryz.underlying47 rfl rfl _ _ _ _ _ rfl hb9.out rfl ?_
        rw [hT.out]
        exact ⟨_, rfl, ⟨ua, uc, rfl, E7.out.less (by omega)⟩, B9.out⟩
      · have hT := Lib.hid (show tr = (⟨0, [], .empty⟩, a, c) from by rw [← hTT.out]; exact topR_no hE0.out hBB.out hA)
        rw [hA] at CA
        clear hA
        refine (attempt_no 93 #[.pointer (some ⟨w.heap.size, 0, none⟩), .pointer (some ⟨w2.heap.size + 1, 0, none⟩), .pointer (some ⟨w.heap.size + 1, 0, none⟩)] w3 a c (fun w' => Blk w' (w.heap.size + 1) 47 zT ∧ Off w2.heap.size (w.heap.size + 1) (w3.alloc (.cells #[.int .i64 0, .int .i64 0] 72)) w') (fun w' h => hYY w' h.2) CA.out (fun _ => rfl)).mono ?_
        rintro e w5 ⟨w4, ⟨I4, O4⟩, S5, rfl⟩
        have I5 := Lib.hid (I4.st S5 (by have := hs2.out; have := hs3.out; omega))
        have B5 := Lib.hid (B3.out.trans ((((Below.refl w.heap.size w3).alloc (by have := hs2.out; have := hs3.out; omega) (.cells #[.int .i64 0, .int .i64 0] 72)).trans (O4.below (by have := hs2.out; omega) (by omega) (by simp; have := hs2.out; have := hs3.out; omega))).trans (S5.below (by have := hs2.out; have := hs3.out; omega))))
        have hs5 := Lib.hid (show w.heap.size + 2 ≤ w5.heap.size from by have := S5.size; have := O4.size; simp at this; have := hs2.out; have := hs3.out; omega)
        clear CA hYY I4 O4 S5 P3 HF3 R3 BQ3 B3
        go_wp2_with fail
        have bb := balloc (b0 w5) (.cells #[.int .i64 a, .int .i64 c] 72)
        have SS := Lib.hid (show Blk (w5.alloc (.cells #[.int .i64 a, .int .i64 c] 72)).drew (w.heap.size + 1) 47 (zT) ∧ Blk (w5.alloc (.cells #[.int .i64 a, .int .i64 c] 72)).drew w5.heap.size 72 #[.int .i64 a, .int .i64 c] from ⟨I5.out.past _, Blk.new w5 _ _⟩)
        refine wp_region_held_drew (S := fun w' => Blk w' (w.heap.size + 1) 47 (zT) ∧ Blk w' w5.heap.size 72 #[.int .i64 a, .int .i64 c]) (by kernel_rfl) SS.out (fun hH => ?_)
        refine held_take (i := 0) (d := 40) (v := .agg (zT)) rfl (by kernel_rfl) (by kernel_rfl) (by kernel_rfl) rfl (fun _ _ _ h => h) rfl hH (fun w' hS => yield_load infTy Tryz.underlying47 rfl (.tmp 4) rfl _ _ _ rfl hS.1 rfl) ?_
        simp only [List.set_cons_zero, List.set_cons_succ]
        refine held_take (i := 1) (d := 41) (v := ?_) rfl (by kernel_rfl) (by kernel_rfl) (by kernel_rfl) rfl (fun _ _ _ h => h) rfl hH (fun w' hS => ?_) ?_
        rotate_left
        · go_simp; first | done | with_reducible rfl
        simp only [List.set_cons_zero, List.set_cons_succ]
        refine held_take (i := 2) (d := 42) (v := ?_) rfl (by kernel_rfl) (by kernel_rfl) (by kernel_rfl) rfl (fun _ _ _ h => h) rfl hH (fun w' hS => ?_) ?_
        rotate_left
        · have e1 := hS.2.cell 0; go_simp; first | done | with_reducible rfl
        simp only [List.set_cons_zero, List.set_cons_succ]
        refine held_take (i := 3) (d := 43) (v := ?_) rfl (by kernel_rfl) (by kernel_rfl) (by kernel_rfl) rfl (fun _ _ _ h => h) rfl hH (fun w' hS => ?_) ?_
        rotate_left
        · go_simp; first | done | with_reducible rfl
        simp only [List.set_cons_zero, List.set_cons_succ]
        refine held_take (i := 4) (d := 44) (v := ?_) rfl (by kernel_rfl) (by kernel_rfl) (by kernel_rfl) rfl (fun _ _ _ h => h) rfl hH (fun w' hS => ?_) ?_
        rotate_left
        · have e1 := hS.2.cell 1; go_simp; first | done | with_reducible rfl
        simp only [List.set_cons_zero, List.set_cons_succ]
        refine held_only (i := 5) rfl (by kernel_rfl) rfl (fun K hK => ?_)
        refine op_storeT infTy (.tmp 4) (.tmp 40) rfl _ _ _ _ rfl rfl hH.1 rfl rfl (by simp [zT, Value.oneCell']) ?_
        intro w9 hb9 hs9
        refine hK.out _ _ ⟨hb9, hH.2.st hs9 (by have := hs5.out; omega)⟩ (fun hH => ?_)
        clear hK K
        have B9 := Lib.hid (((B5.out.trans (bb.mono (by have := hs5.out; omega))).drew).trans (hs9.below (Nat.le_succ _)))
        replace hb9 := Lib.hid hb9
        clear hs9 SS bb
        simp only [Act.put]
        refine held_take (i := 6) (d := 5) (v := ?_) rfl (by kernel_rfl) (by kernel_rfl) (by kernel_rfl) rfl (fun _ _ _ h => h) rfl hH (fun w' hS => ?_) ?_
        rotate_left
        · go_simp; first | done | with_reducible rfl
        simp only [List.set_cons_zero, List.set_cons_succ]
        refine held_take (i := 7) (d := 6) (v := ?_) rfl (by kernel_rfl) (by kernel_rfl) (by kernel_rfl) rfl (fun _ _ _ h => h) rfl hH (fun w' hS => ?_) ?_
        rotate_left
        · go_simp; first | done | with_reducible rfl
        simp only [List.set_cons_zero, List.set_cons_succ]
        clear hH
        refine wpAnyH_done (by kernel_rfl) ?_ _
        go_wp2_with fail
        refine ret_T3 infTy Tryz.underlying47 rfl rfl _ _ _ _ _ rfl hb9.out rfl ?_
        rw [hT.out]
        exact ⟨_, rfl, ⟨none, 0, rfl, .inl rfl⟩, B9.out⟩
    · have hT := Lib.hid (show tr = (⟨0, [], .empty⟩, q.1, q.2) from by rw [← hTT.out]; exact topR_cons hE0.out hB)
      rw [hB] at Ob
      clear hB
      rcases Ob.out.out with ⟨_, hnil⟩ | ⟨g, vcap, rfl, hbg, hg, hlc, hcm, hC⟩
      · cases hnil
      have c0 : w2.cell? ⟨g, 0, none⟩ = some (.int .i64 q.1) := (hC 0 (by simp)).1
      have c1 : w2.cell? ⟨g, 1, none⟩ = some (.int .i64 q.2) := (hC 0 (by simp)).2
      have hgn := Lib.hid (show g ≠ w.heap.size + 1 from by simp at hbg; omega)
      obtain ⟨N, hN⟩ : ∃ N, (q :: qs).length = N := ⟨_, rfl⟩
      have hN0 : 0 < N := by rw [← hN]; simp
      rw [hN]
      have q0 : decide ((0 : Int) < (N : Int)) = true := decide_eq_true (by omega)
      have q1 : (0 : Int) < (N : Int) := by omega
      clear hN hC hlc hcm hbg Ob Ot
      go_wp2_with fail
      have SS := Lib.hid (show Blk w2.drew (w.heap.size + 1) 47 (zT) ∧ w2.drew.cell? ⟨g, 0, none⟩ = some (.int .i64 q.1) ∧ w2.drew.cell? ⟨g, 1, none⟩ = some (.int .i64 q.2) from ⟨R2.out, c0, c1⟩)
      clear c0 c1
      refine wp_region_held_drew (S := fun w' => Blk w' (w.heap.size + 1) 47 (zT) ∧ w'.cell? ⟨g, 0, none⟩ = some (.int .i64 q.1) ∧ w'.cell? ⟨g, 1, none⟩ = some (.int .i64 q.2)) (by kernel_rfl) SS.out (fun hH => ?_)
      refine held_take (i := 0) (d := 26) (v := .agg (zT)) rfl (by kernel_rfl) (by kernel_rfl) (by kernel_rfl) rfl (fun _ _ _ h => h) rfl hH (fun w' hS => yield_load infTy Tryz.underlying47 rfl (.tmp 4) rfl _ _ _ rfl hS.1 rfl) ?_
      simp only [List.set_cons_zero, List.set_cons_succ]
      refine held_take (i := 1) (d := 27) (v := ?_) rfl (by kernel_rfl) (by kernel_rfl) (by kernel_rfl) rfl (fun _ _ _ h => h) rfl hH (fun w' hS => ?_) ?_
      rotate_left
      · go_simp; first | done | with_reducible rfl
      simp only [List.set_cons_zero, List.set_cons_succ]
      refine held_take (i := 2) (d := 28) (v := ?_) rfl (by kernel_rfl) (by kernel_rfl) (by kernel_rfl) rfl (fun _ _ _ h => h) rfl hH (fun w' hS => ?_) ?_
      rotate_left
      · go_simp; first | done | with_reducible rfl
      simp only [List.set_cons_zero, List.set_cons_succ]
      refine held_take (i := 3) (d := 29) (v := ?_) rfl (by kernel_rfl) (by kernel_rfl) (by kernel_rfl) rfl (fun _ _ _ h => h) rfl hH (fun w' hS => ?_) ?_
      rotate_left
      · go_simp; first | done | with_reducible rfl
      simp only [List.set_cons_zero, List.set_cons_succ]
      refine held_take (i := 4) (d := 30) (v := ?_) rfl (by kernel_rfl) (by kernel_rfl) (by kernel_rfl) rfl (fun _ _ _ h => h) rfl hH (fun w' hS => ?_) ?_
      rotate_left
      · have e1 := hS.2.1; go_simp; first | done | with_reducible rfl
      simp only [List.set_cons_zero, List.set_cons_succ]
      refine held_take (i := 5) (d := 31) (v := ?_) rfl (by kernel_rfl) (by kernel_rfl) (by kernel_rfl) rfl (fun _ _ _ h => h) rfl hH (fun w' hS => ?_) ?_
      rotate_left
      · go_simp; first | done | with_reducible rfl
      simp only [List.set_cons_zero, List.set_cons_succ]
      refine held_take (i := 6) (d := 32) (v := ?_) rfl (by kernel_rfl) (by kernel_rfl) (by kernel_rfl) rfl (fun _ _ _ h => h) rfl hH (fun w' hS => ?_) ?_
      rotate_left
      · go_simp; first | done | with_reducible rfl
      simp only [List.set_cons_zero, List.set_cons_succ]
      refine held_take (i := 7) (d := 33) (v := ?_) rfl (by kernel_rfl) (by kernel_rfl) (by kernel_rfl) rfl (fun _ _ _ h => h) rfl hH (fun w' hS => ?_) ?_
      rotate_left
      · go_simp; first | done | with_reducible rfl
      simp only [List.set_cons_zero, List.set_cons_succ]
      refine held_take (i := 8) (d := 34) (v := ?_) rfl (by kernel_rfl) (by kernel_rfl) (by kernel_rfl) rfl (fun _ _ _ h => h) rfl hH (fun w' hS => ?_) ?_
      rotate_left
      · have e1 := hS.2.2; go_simp; first | done | with_reducible rfl
      simp only [List.set_cons_zero, List.set_cons_succ]
      refine held_only (i := 9) rfl (by kernel_rfl) rfl (fun K hK => ?_)
      refine op_storeT infTy (.tmp 4) (.tmp 26) rfl _ _ _ _ rfl rfl hH.1 rfl rfl (by simp [zT, Value.oneCell']) ?_
      intro w9 hb9 hs9
      refine hK.out _ _ ⟨hb9, (World.cell?_of_block (w := w2.drew) (hs9.block g hgn.out)).trans hH.2.1, (World.cell?_of_block (w := w2.drew) (hs9.block g hgn.out)).trans hH.2.2⟩ (fun hH => ?_)
      clear hK K
      have B9 := Lib.hid (B2.out.drew.trans (hs9.below (Nat.le_succ _)))
      replace hb9 := Lib.hid hb9
      clear hs9 SS
      simp only [Act.put]
      refine held_take (i := 10) (d := 5) (v := ?_) rfl (by kernel_rfl) (by kernel_rfl) (by kernel_rfl) rfl (fun _ _ _ h => h) rfl hH (fun w' hS => ?_) ?_
      rotate_left
      · go_simp; first | done | with_reducible rfl
      simp only [List.set_cons_zero, List.set_cons_succ]
      refine held_take (i := 11) (d := 6) (v := ?_) rfl (by kernel_rfl) (by kernel_rfl) (by kernel_rfl) rfl (fun _ _ _ h => h) rfl hH (fun w' hS => ?_) ?_
      rotate_left
      · go_simp; first | done | with_reducible rfl
      simp only [List.set_cons_zero, List.set_cons_succ]
      clear hH
      refine wpAnyH_done (by kernel_rfl) ?_ _
      go_wp2_with fail
      refine ret_T3 infTy Tryz.underlying47 rfl rfl _ _ _ _ _ rfl hb9.out rfl ?_
      rw [hT.out]
      exact ⟨_, rfl, ⟨none, 0, rfl, .inl rfl⟩, B9.out⟩
  · have q1 : (tokE s != 0) = true := by simp [ht0]
    have hT := Lib.hid (show tr = (⟨0, [], .empty⟩, 0, tokE s) from by rw [← hTT.out]; unfold topR; rw [if_neg ht0])
    clear ht0 hTT
    generalize tokE s = te at *
    go_wp2_with (first | (refine arm_loadT infTy Tryz.underlying47 rfl (.tmp 4) rfl rfl _ _ _ rfl R2.out rfl ?_) | (refine arm_storeT infTy (.tmp 4) (.tmp 20) rfl rfl _ _ _ _ rfl rfl R2.out rfl rfl (by simp [zT, Value.oneCell']) ?_; intro w9 hb9 hs9))
    refine ret_T3 infTy Tryz.underlying47 rfl rfl _ _ _ _ _ rfl hb9 rfl ?_
    rw [hT.out]
    exact ⟨_, rfl, ⟨none, 0, rfl, .inl rfl⟩, B2.out.trans (hs9.below (Nat.le_succ _))⟩
set_option maxRecDepth 100000 in
set_option maxHeartbeats 4000000 in
theorem topT_any (a0 : Option Addr) (n0 cap : Nat) (s : ByteArray) (w : World) (hS : Bs w a0 n0 cap s) (T : Tabs w) (tr : Ty × Int × Int) (hTT : topR (α := Ty) ⟨0, [], .empty⟩ typ s = tr) :
    Calls Tryz.prog 14 #[.slice a0 n0 cap] w fun e w' => ∃ v, e = .returned (.tuple #[v, .int .i64 tr.2.1, .int .i64 tr.2.2]) ∧ Tv w.heap.size w' v tr.1 ∧ Below w.heap.size w w' := by
  have bb := balloc (b0 w) (.cells zT 47)
  have WC := Lib.hid (whoT_any a0 n0 cap s _ (hS.keeps bb) (T.stays bb) tr hTT)
  have R := Lib.hid (Blk.new w 47 zT)
  have BB := Lib.hid bb
  clear hS T hTT bb
  go_enter Tryz.func14, Tryz.ntmps14
  go_wp2_with fail
  refine WC.out.mono ?_
  rintro e w1 ⟨v, rfl, V, b1⟩
  have R1 := Lib.hid (R.out.below b1 R.out.lt)
  have B1 := Lib.hid (bnext BB.out b1)
  have hsz := Lib.hid (by simp : (w.alloc (.cells zT 47)).heap.size = w.heap.size + 1)
  obtain ⟨ua, uc, rfl, E⟩ := V
  have E9 := Lib.hid (hsz.out ▸ E)
  clear b1 E WC R BB
  go_wp2_with (refine arm_storeT infTy (.tmp 2) (.tmp 7) rfl rfl _ _ _ _ rfl rfl R1.out rfl rfl (by simp [Value.oneCell']) ?_; intro w9 hb9 hs9)
  refine ret_T3 infTy Tryz.underlying47 rfl rfl _ _ _ _ _ rfl hb9 rfl ?_
  exact ⟨_, rfl, ⟨ua, uc, rfl, (E9.out.kp (hs9.kp (Nat.lt_succ_self _))).less (Nat.le_succ _)⟩, B1.out.trans (hs9.below (Nat.le_refl _))⟩
end Go.Proofs.YtbpijgddfaefkaaGreatDoor.pa
