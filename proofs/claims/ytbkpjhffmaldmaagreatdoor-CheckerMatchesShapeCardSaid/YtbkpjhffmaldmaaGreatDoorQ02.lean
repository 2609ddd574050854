/-
  Tables; tokens; names.
-/
import Derived.Lib.Join
import Derived.WalkMore
import Derived.ScopeJumps
import Derived.Lib.AppendStr
import Derived.Lib.SmallJoins
import Derived.Test.YtbkpjhffmaldmaaGreatDoorQ01
import Derived.Test.YtbkpjhffmaldmaaGreatDoorShelf
namespace Go.Proofs.YtbkpjhffmaldmaaGreatDoor
open Go.RowKit dec

/-- The table lexer.classes. -/
def clsTab : List Int := [0, 0, 0, 0, 0, 0, 0, 0, 0, 1, 2, 0, 0, 1, 0, 0, 0, 0, 0, 0, 0, 0, 0, 0, 0, 0, 0, 0, 0, 0, 0, 0, 1, 0, 7, 3, 0, 0, 0, 0, 8, 8, 8, 8, 8, 8, 0, 8, 5, 5, 5, 5, 5, 5, 5, 5, 5, 5, 8, 8, 8, 8, 0, 0, 8, 0, 0, 0, 0, 0, 0, 0, 0, 0, 0, 0, 0, 0, 0, 0, 0, 0, 0, 0, 0, 0, 0, 0, 0, 0, 0, 8, 0, 8, 8, 6, 0, 4, 4, 4, 4, 4, 4, 4, 4, 4, 4, 4, 4, 4, 4, 4, 4, 4, 4, 4, 4, 4, 4, 4, 4, 4, 4, 8, 0, 8]
/-- The tables and the two errors. -/
structure Tabs (w : World) : Prop where
  pow : Lib.TabIs Tryz.prog w "asof/decimal.powers" .i64 powTab
  ten : Lib.TabIs Tryz.prog w "internal/strconv.uint64pow10" .u64 Lib.pow10Tab
  syn : ∃ tp p, w.var? Tryz.prog "strconv.ErrSyntax" = some #[.iface tp p]
  ran : ∃ tp p, w.var? Tryz.prog "strconv.ErrRange" = some #[.iface tp p]
  cls : Lib.TabIs Tryz.prog w "asof/lexer.classes" .u8 clsTab
theorem gCls : Tryz.prog.globalNamed "asof/lexer.classes" = some 0 := by kernel_rfl
theorem gSyn : Tryz.prog.globalNamed "strconv.ErrSyntax" = some 4 := by kernel_rfl
theorem gRan : Tryz.prog.globalNamed "strconv.ErrRange" = some 5 := by kernel_rfl
theorem Tabs.stays {w w' : World} (h : Tabs w) (hb : Below w.heap.size w w') : Tabs w' := by
  obtain ⟨tp, p, h1⟩ := h.syn
  obtain ⟨tq, q, h2⟩ := h.ran
  exact ⟨tab_stays h.pow hb, tab_stays h.ten hb, ⟨tp, p, Go.Joins.var_stays gSyn h1 hb (Nat.le_refl _)⟩, ⟨tq, q, Go.Joins.var_stays gRan h2 hb (Nat.le_refl _)⟩, tab_stays h.cls hb⟩
theorem below_bytes (w : World) (e : TypeId) (s : ByteArray) : Below w.heap.size w (Lib.bytesWorld w e s) := by
  refine ⟨rfl, rfl, rfl, ?_, fun j hj => Lib.bytesWorld_at_old w e s j hj⟩
  rw [Lib.bytesWorld_size]
  omega
theorem atoi_any (s : ByteArray) (hs : s.size ≤ 1048576) (w : World) (T : Tabs w) :
    Calls Tryz.prog 128 #[.string s] w fun e w' => ∃ x, e = .returned (.tuple #[.int .i64 (atoiN s.data.toList), x]) ∧ Below w.heap.size w w' := by
  unfold atoiN
  rcases h : Lib.atoiAll s.data.toList with v | _ | _
  · refine (Tryz.strconv_Atoi_ok s (by omega) v h w).mono ?_
    rintro e w' ⟨rfl, rfl | ⟨t, rfl⟩⟩
    · exact ⟨_, rfl, b0 _⟩
    · exact ⟨_, rfl, below_bytes _ _ _⟩
  · obtain ⟨tp, p, h1⟩ := T.syn
    refine (Tryz.strconv_Atoi_syntax_var s (by omega) h tp p w h1).mono ?_
    rintro e w' ⟨N, rfl, h2⟩
    exact ⟨_, rfl, h2.2.2⟩
  · obtain ⟨tp, p, h1⟩ := T.ran
    refine (Tryz.strconv_Atoi_range_var s (by omega) h tp p w h1).mono ?_
    rintro e w' ⟨N, rfl, h2⟩
    exact ⟨_, rfl, h2.2.2⟩
end Go.Proofs.YtbkpjhffmaldmaaGreatDoor
namespace Go.Proofs.YtbkpjhffmaldmaaGreatDoor
open dec

/-- How many bytes a list begins with of which p holds. -/
def run (p : UInt8 → Bool) : List UInt8 → Nat
  | [] => 0
  | c :: r => if p c = true then run p r + 1 else 0
def isL (c : UInt8) : Bool := decide (97 ≤ c.toNat) && decide (c.toNat ≤ 122)
def isB (c : UInt8) : Bool := decide (c.toNat = 9) || decide (c.toNat = 10) || decide (c.toNat = 13) || decide (c.toNat = 32)
def isW (c : UInt8) : Bool := isL c || isD c || decide (c.toNat = 95)
def isC (c : UInt8) : Bool := !decide (c.toNat = 10)
def isQ (c : UInt8) : Bool := !decide (c.toNat = 34) && !decide (c.toNat = 10)
def isS (c : UInt8) : Bool := decide (c.toNat ∈ [123, 125, 40, 41, 91, 93, 44, 58, 59, 61, 60, 43, 45, 42, 47, 94, 64])
/-- Blanks and comments; m: within a comment. -/
def sk : Bool → List UInt8 → Nat
  | _, [] => 0
  | m, c :: r => if ((m && isC c) || isB c || decide (c.toNat = 35)) = true then sk (isC c && (m || decide (c.toNat = 35))) r + 1 else 0
def sgn : List UInt8 → Int × Nat
  | [] => (0, 0)
  | c :: r => if (c.toNat = 61 ∨ c.toNat = 33 ∨ c.toNat = 60) ∧ r.head? = some 61 then (5, 2) else if isS c = true then (5, 1) else (0, 1)
/-- The digits behind a point. -/
def pnt : List UInt8 → Nat
  | [] => 0
  | c :: r => if c.toNat = 46 then run isD r else 0
def shp : List UInt8 → Int × Nat
  | [] => (0, 0)
  | c :: r =>
    if isL c = true then (1, run isW (c :: r))
    else if isD c = true then
      (if pnt ((c :: r).drop (run isD (c :: r))) = 0 then (2, run isD (c :: r)) else (3, run isD (c :: r) + 1 + pnt ((c :: r).drop (run isD (c :: r)))))
    else if c.toNat = 34 ∧ (r.drop (run isQ r)).head? = some 34 then (4, run isQ r + 2)
    else sgn (c :: r)
def cont (k : Int) (p : List UInt8) : List UInt8 := if k = 4 then (p.drop 1).take (p.length - 2) else p
def txE (s : List UInt8) : Int := if 64 < s.length then 2 else if pB 32 s = true then 0 else 3
def flt (k : Int) (p : List UInt8) : Int :=
  if k = 1 then (if 24 < p.length then 2 else 0)
  else if k = 2 then (if 1152921504606846976 < dval 0 p then 2 else 0)
  else if k = 3 then paE p
  else if k = 4 then txE (cont k p)
  else if k = 0 then 80
  else 0
structure Tk where
  k : Int
  t : ByteArray
  a : Int
abbrev Pb := Int × Int
/-- The source of a token. -/
def so (x : Tk) : List UInt8 := if x.k = 4 then 34 :: (x.t.data.toList ++ [34]) else x.t.data.toList

theorem run_le (p : UInt8 → Bool) : ∀ l : List UInt8, run p l ≤ l.length
  | [] => Nat.le_refl _
  | c :: r => by
    have := run_le p r
    unfold run
    rw [List.length_cons]
    split <;> omega
theorem run_stop {p : UInt8 → Bool} {d : UInt8} (h : p d = false) (r : List UInt8) : ∀ l : List UInt8, run p (l ++ d :: r) = run p l
  | [] => by simp [run, h]
  | c :: l => by
    rw [List.cons_append]
    unfold run
    rw [run_stop h r l]
theorem run_take (p : UInt8 → Bool) : ∀ (l : List UInt8) (n : Nat), run p (l.take n) = min n (run p l)
  | [], n => by simp [run]
  | c :: l, 0 => by simp [run]
  | c :: l, n + 1 => by
    rw [List.take_succ_cons]
    unfold run
    rw [run_take p l n]
    split <;> omega
theorem run_at (p : UInt8 → Bool) : ∀ (l : List UInt8) (c : UInt8), (l.drop (run p l)).head? = some c → p c = false
  | [], c, h => by simp [run] at h
  | d :: l, c, h => by
    unfold run at h
    split at h
    · rw [List.drop_succ_cons] at h
      exact run_at p l c h
    · rename_i hd
      simp only [List.drop_zero, List.head?_cons, Option.some.injEq] at h
      subst h
      simpa using hd
theorem run_all (p : UInt8 → Bool) : ∀ (l : List UInt8), ∀ c ∈ l.take (run p l), p c = true
  | [], c, h => by simp at h
  | d :: l, c, h => by
    unfold run at h
    split at h
    · rename_i hd
      rw [List.take_succ_cons, List.mem_cons] at h
      rcases h with rfl | h
      · exact hd
      · exact run_all p l c h
    · simp at h
theorem run_whole {p : UInt8 → Bool} : ∀ {l : List UInt8}, (∀ c ∈ l, p c = true) → run p l = l.length
  | [], _ => rfl
  | c :: l, h => by
    unfold run
    rw [if_pos (h c (List.mem_cons_self ..)), run_whole fun d hd => h d (List.mem_cons_of_mem _ hd), List.length_cons]
theorem run_past {p : UInt8 → Bool} (r : List UInt8) : ∀ {l : List UInt8}, (∀ c ∈ l, p c = true) → run p (l ++ r) = l.length + run p r
  | [], _ => by simp
  | c :: l, h => by
    rw [List.cons_append]
    show (if p c = true then run p (l ++ r) + 1 else 0) = _
    rw [if_pos (h c (List.mem_cons_self ..)), run_past r fun d hd => h d (List.mem_cons_of_mem _ hd), List.length_cons]
    omega

/-! What is skipped. -/
theorem sk_le : ∀ (m : Bool) (l : List UInt8), sk m l ≤ l.length
  | _, [] => Nat.le_refl _
  | m, c :: r => by
    have := sk_le (isC c && (m || decide (c.toNat = 35))) r
    unfold sk
    rw [List.length_cons]
    split <;> omega
theorem sk_blank {c : UInt8} (h : isB c = true) (r : List UInt8) : sk false (c :: r) = sk false r + 1 := by
  have h35 : decide (c.toNat = 35) = false := by
    unfold isB at h
    simp only [Bool.or_eq_true, decide_eq_true_eq] at h
    exact decide_eq_false (by omega)
  show (if ((false && isC c) || isB c || decide (c.toNat = 35)) = true then sk (isC c && (false || decide (c.toNat = 35))) r + 1 else 0) = _
  rw [h, h35]
  simp
theorem sk_blanks : ∀ l : List UInt8, sk false l = run isB l + sk false (l.drop (run isB l))
  | [] => rfl
  | c :: r => by
    unfold run
    split
    · rename_i h
      rw [sk_blank h, List.drop_succ_cons, sk_blanks r]
      omega
    · simp
theorem isC_10 {c : UInt8} (h : c.toNat = 10) : isC c = false := by unfold isC; rw [h]; rfl
theorem isB_10 {c : UInt8} (h : c.toNat = 10) : isB c = true := by unfold isB; rw [h]; rfl
theorem sk_true : ∀ l : List UInt8, sk true l = run isC l + sk false (l.drop (run isC l))
  | [] => rfl
  | c :: r => by
    unfold run
    split
    · rename_i h
      rw [List.drop_succ_cons]
      show (if ((true && isC c) || isB c || decide (c.toNat = 35)) = true then sk (isC c && (true || decide (c.toNat = 35))) r + 1 else 0) = _
      rw [h]
      simp only [Bool.true_and, Bool.true_or, if_true]
      rw [sk_true r]
      omega
    · rename_i h
      have h10 : c.toNat = 10 := by unfold isC at h; simpa using h
      rw [List.drop_zero, sk_blank (isB_10 h10)]
      show (if ((true && isC c) || isB c || decide (c.toNat = 35)) = true then sk (isC c && (true || decide (c.toNat = 35))) r + 1 else 0) = _
      rw [isC_10 h10, isB_10 h10]
      simp
theorem sk_hash {c : UInt8} (h : c.toNat = 35) (r : List UInt8) : sk false (c :: r) = run isC (c :: r) + sk false ((c :: r).drop (run isC (c :: r))) := by
  have hc : isC c = true := by unfold isC; rw [h]; rfl
  have e : run isC (c :: r) = run isC r + 1 := by
    show (if isC c = true then run isC r + 1 else 0) = _
    rw [if_pos hc]
  rw [e, List.drop_succ_cons]
  show (if ((false && isC c) || isB c || decide (c.toNat = 35)) = true then sk (isC c && (false || decide (c.toNat = 35))) r + 1 else 0) = _
  rw [hc, decide_eq_true h]
  simp only [Bool.or_true, if_true, Bool.true_and]
  rw [sk_true r]
  omega
theorem sk_none {c : UInt8} (h1 : isB c = false) (h2 : c.toNat ≠ 35) (r : List UInt8) : sk false (c :: r) = 0 := by
  show (if ((false && isC c) || isB c || decide (c.toNat = 35)) = true then sk (isC c && (false || decide (c.toNat = 35))) r + 1 else 0) = _
  rw [h1, decide_eq_false h2]
  rfl
/-- Where skipping ends no blank and no comment begins. -/
theorem sk_at : ∀ (m : Bool) (l : List UInt8) (c : UInt8), (l.drop (sk m l)).head? = some c → isB c = false ∧ c.toNat ≠ 35
  | _, [], c, h => by simp [sk] at h
  | m, d :: l, c, h => by
    unfold sk at h
    split at h
    · rw [List.drop_succ_cons] at h
      exact sk_at _ l c h
    · rename_i hd
      simp only [List.drop_zero, List.head?_cons, Option.some.injEq] at h
      subst h
      simp only [Bool.or_eq_true, decide_eq_true_eq, not_or, Bool.not_eq_true] at hd
      exact ⟨hd.1.2, hd.2⟩
theorem sk_cons (m : Bool) (c : UInt8) (r : List UInt8) : sk m (c :: r) = if ((m && isC c) || isB c || decide (c.toNat = 35)) = true then sk (isC c && (m || decide (c.toNat = 35))) r + 1 else 0 := rfl
theorem sk_app : ∀ (m : Bool) (l r : List UInt8), sk m (l ++ 10 :: r) = if sk m l < l.length then sk m l else l.length + 1 + sk false r
  | m, [], r => by
    have h1 : isB 10 = true := by decide
    have h2 : isC 10 = false := by decide
    show (if ((m && isC 10) || isB 10 || decide ((10 : UInt8).toNat = 35)) = true then sk (isC 10 && (m || decide ((10 : UInt8).toNat = 35))) r + 1 else 0) = _
    rw [h1, h2]
    simp [sk]
    omega
  | m, c :: l, r => by
    have ih := sk_app (isC c && (m || decide (c.toNat = 35))) l r
    rw [List.cons_append, sk_cons, sk_cons, ih, List.length_cons]
    split
    · split
      · rw [if_pos (by omega)]
      · rw [if_neg (by omega)]
        omega
    · rw [if_pos (by omega)]

/-! Shapes. -/
theorem sgn_cons (c : UInt8) (r : List UInt8) : sgn (c :: r) = if (c.toNat = 61 ∨ c.toNat = 33 ∨ c.toNat = 60) ∧ r.head? = some 61 then (5, 2) else if isS c = true then (5, 1) else (0, 1) := rfl
theorem sgn_le : ∀ l : List UInt8, (sgn l).2 ≤ l.length
  | [] => Nat.le_refl _
  | [c] => by
    rw [sgn_cons]
    split
    · rename_i h; simp at h
    · split <;> exact Nat.le_refl 1
  | c :: d :: r => by
    rw [sgn_cons]
    simp only [List.length_cons]
    split
    · exact Nat.le_add_left 2 _
    · split <;> exact Nat.le_add_left 1 _
theorem sgn_pos {l : List UInt8} (h : l ≠ []) : 1 ≤ (sgn l).2 := by
  cases l with
  | nil => exact absurd rfl h
  | cons c r =>
    rw [sgn_cons]
    split
    · exact Nat.le_succ 1
    · split <;> exact Nat.le_refl 1
theorem pnt_cons (c : UInt8) (r : List UInt8) : pnt (c :: r) = if c.toNat = 46 then run isD r else 0 := rfl
theorem pnt_le (l : List UInt8) : pnt l = 0 ∨ (1 ≤ pnt l ∧ pnt l + 1 ≤ l.length) := by
  cases l with
  | nil => exact .inl rfl
  | cons c r =>
    have := run_le isD r
    rw [pnt_cons, List.length_cons]
    split <;> omega
theorem shp_cons (c : UInt8) (r : List UInt8) : shp (c :: r) = if isL c = true then (1, run isW (c :: r)) else if isD c = true then
      (if pnt ((c :: r).drop (run isD (c :: r))) = 0 then (2, run isD (c :: r)) else (3, run isD (c :: r) + 1 + pnt ((c :: r).drop (run isD (c :: r)))))
    else if c.toNat = 34 ∧ (r.drop (run isQ r)).head? = some 34 then (4, run isQ r + 2) else sgn (c :: r) := rfl
theorem isW_L {c : UInt8} (h : isL c = true) : isW c = true := by unfold isW; rw [h]; rfl
theorem run_cons {p : UInt8 → Bool} {c : UInt8} (h : p c = true) (r : List UInt8) : run p (c :: r) = run p r + 1 := by
  show (if p c = true then run p r + 1 else 0) = _
  rw [if_pos h]
theorem head_len {l : List UInt8} {n : Nat} {c : UInt8} (h : (l.drop n).head? = some c) : n < l.length := by
  rcases Nat.lt_or_ge n l.length with h1 | h1
  · exact h1
  · rw [List.drop_eq_nil_of_le h1] at h; cases h
theorem shp_le : ∀ l : List UInt8, (shp l).2 ≤ l.length
  | [] => Nat.le_refl _
  | c :: r => by
    rw [shp_cons]
    split
    · exact run_le _ _
    · split
      · rename_i hd
        have h2 := run_le isD (c :: r)
        rcases pnt_le ((c :: r).drop (run isD (c :: r))) with h | ⟨h, h1⟩
        · rw [if_pos h]; exact h2
        · rw [if_neg (by omega)]
          rw [List.length_drop] at h1
          show run isD (c :: r) + 1 + _ ≤ _
          omega
      · split
        · rename_i h
          have := head_len h.2
          rw [List.length_cons]
          show run isQ r + 2 ≤ _
          omega
        · exact sgn_le _
theorem shp_pos {l : List UInt8} (h : l ≠ []) : 1 ≤ (shp l).2 := by
  cases l with
  | nil => exact absurd rfl h
  | cons c r =>
    rw [shp_cons]
    split
    · rename_i hl
      show 1 ≤ run isW (c :: r)
      rw [run_cons (isW_L hl)]
      omega
    · split
      · rename_i hd
        have : 1 ≤ run isD (c :: r) := by rw [run_cons hd]; omega
        split
        · exact this
        · show 1 ≤ run isD (c :: r) + 1 + _
          omega
      · split
        · exact Nat.le_add_left 1 _
        · exact sgn_pos (by simp)
theorem shp_kind (l : List UInt8) : (shp l).1 = 0 ∨ (shp l).1 = 1 ∨ (shp l).1 = 2 ∨ (shp l).1 = 3 ∨ (shp l).1 = 4 ∨ (shp l).1 = 5 := by
  cases l with
  | nil => exact .inl rfl
  | cons c r =>
    rw [shp_cons]
    split
    · simp
    · split
      · split <;> simp
      · split
        · simp
        · rw [sgn_cons]
          split
          · simp
          · split <;> simp

/-! The tokens and problems of a source. -/
def lxs (p : Nat) (f : Bool) (l : List UInt8) : List Tk × List Pb :=
  if _h : l.drop (sk false l) = [] then ([], [])
  else
    let l' := l.drop (sk false l)
    let R := lxs (p + sk false l + (shp l').2) (decide ((shp l').1 = 0)) (l'.drop (shp l').2)
    if flt (shp l').1 (l'.take (shp l').2) = 0 then (⟨(shp l').1, ⟨(cont (shp l').1 (l'.take (shp l').2)).toArray⟩, ((p + sk false l : Nat) : Int)⟩ :: R.1, R.2)
    else if (shp l').1 = 0 ∧ f = true ∧ sk false l = 0 then R
    else (R.1, (((p + sk false l : Nat) : Int), flt (shp l').1 (l'.take (shp l').2)) :: R.2)
termination_by l.length
decreasing_by
  have h1 := shp_pos _h
  have h2 : (l.drop (sk false l)).length ≠ 0 := fun e => _h (List.eq_nil_of_length_eq_zero e)
  rw [List.length_drop, List.length_drop]
  rw [List.length_drop] at h2
  omega
theorem lex_done {l : List UInt8} (h : l.drop (sk false l) = []) (p : Nat) (f : Bool) : lxs p f l = ([], []) := by
  rw [lxs, dif_pos h]
theorem lex_step {l l' : List UInt8} (h : l.drop (sk false l) = l') (h0 : l' ≠ []) (p : Nat) (f : Bool) : lxs p f l =
    if flt (shp l').1 (l'.take (shp l').2) = 0 then (⟨(shp l').1, ⟨(cont (shp l').1 (l'.take (shp l').2)).toArray⟩, ((p + sk false l : Nat) : Int)⟩ :: (lxs (p + sk false l + (shp l').2) (decide ((shp l').1 = 0)) (l'.drop (shp l').2)).1, (lxs (p + sk false l + (shp l').2) (decide ((shp l').1 = 0)) (l'.drop (shp l').2)).2)
    else if (shp l').1 = 0 ∧ f = true ∧ sk false l = 0 then lxs (p + sk false l + (shp l').2) (decide ((shp l').1 = 0)) (l'.drop (shp l').2)
    else ((lxs (p + sk false l + (shp l').2) (decide ((shp l').1 = 0)) (l'.drop (shp l').2)).1, (((p + sk false l : Nat) : Int), flt (shp l').1 (l'.take (shp l').2)) :: (lxs (p + sk false l + (shp l').2) (decide ((shp l').1 = 0)) (l'.drop (shp l').2)).2) := by
  subst h
  rw [lxs, dif_neg h0]
end Go.Proofs.YtbkpjhffmaldmaaGreatDoor
namespace Go.Proofs.YtbkpjhffmaldmaaGreatDoor
open dec

def Sep (x : List UInt8) : Prop := x = [] ∨ ∃ r, x = 32 :: r
theorem run_end {p : UInt8 → Bool} (h : p 32 = false) {x : List UInt8} (hx : Sep x) (l : List UInt8) : run p (l ++ x) = run p l := by
  rcases hx with rfl | ⟨r, rfl⟩
  · rw [List.append_nil]
  · exact run_stop h r l
theorem take_run (p : UInt8 → Bool) (l : List UInt8) : run p (l.take (run p l)) = run p l := by rw [run_take]; omega
theorem drop_cons {l : List UInt8} {n : Nat} {c : UInt8} (h : (l.drop n).head? = some c) : l.drop n = c :: l.drop (n + 1) := by
  have hl := head_len h
  rw [List.drop_eq_getElem_cons hl] at h ⊢
  simp only [List.head?_cons, Option.some.injEq] at h
  rw [h]
theorem split_at {l : List UInt8} {n : Nat} {c : UInt8} (h : (l.drop n).head? = some c) : l = l.take n ++ c :: l.drop (n + 1) := by
  rw [← drop_cons h, List.take_append_drop]
theorem take_len {l : List UInt8} {n : Nat} (h : n ≤ l.length) : (l.take n).length = n := by rw [List.length_take]; omega
theorem take_past {l r : List UInt8} {m : Nat} (k : Nat) (h : m = l.length) : (l ++ r).take (m + k) = l ++ r.take k := by
  subst h
  exact List.take_length_add_append k
theorem drop_to {l r : List UInt8} {m : Nat} (h : m = l.length) : (l ++ r).drop m = r := by subst h; exact List.drop_left' rfl
theorem take_more {l : List UInt8} {n : Nat} {c : UInt8} (h : (l.drop n).head? = some c) (k : Nat) : l.take (n + 1 + k) = l.take n ++ c :: (l.drop (n + 1)).take k := by
  rw [show n + 1 + k = n + (k + 1) by omega, List.take_add, drop_cons h, List.take_succ_cons]
theorem pnt_sep {x : List UInt8} (hx : Sep x) : pnt x = 0 := by
  rcases hx with rfl | ⟨r, rfl⟩
  · rfl
  · rfl
theorem pnt_some {l : List UInt8} (h : pnt l ≠ 0) : ∃ c r, l = c :: r ∧ c.toNat = 46 ∧ pnt l = run isD r := by
  cases l with
  | nil => exact absurd rfl h
  | cons c r =>
    rw [pnt_cons] at h ⊢
    split at h
    · rename_i hc
      exact ⟨c, r, rfl, hc, by rw [if_pos hc]⟩
    · exact absurd rfl h
theorem isD_46 {c : UInt8} (h : c.toNat = 46) : isD c = false := by unfold isD; rw [h]; rfl
theorem isQ_34 {c : UInt8} (h : c.toNat = 34) : isQ c = false := by unfold isQ; rw [h]; rfl
theorem toNat_of {c : UInt8} {d : UInt8} (h : c.toNat = d.toNat) : c = d := UInt8.toNat_inj.1 h
theorem sign_34 {c : UInt8} (h : isS c = true ∨ c.toNat = 61 ∨ c.toNat = 33 ∨ c.toNat = 60) : c.toNat ≠ 34 := by
  intro e
  rcases h with h | h
  · unfold isS at h
    rw [e] at h
    exact absurd h (by decide)
  · omega
/-- A token, with nothing or a blank behind it, has its shape. -/
theorem shp_part {l x : List UInt8} (hk : (shp l).1 ≠ 0) (hx : Sep x) : shp (l.take (shp l).2 ++ x) = shp l := by
  cases l with
  | nil => exact absurd rfl hk
  | cons c r =>
    by_cases hl : isL c = true
    · have e : shp (c :: r) = (1, run isW r + 1) := by rw [shp_cons, if_pos hl, run_cons (isW_L hl)]
      rw [e, List.take_succ_cons, List.cons_append, shp_cons, if_pos hl, run_cons (isW_L hl), run_end (by decide) hx, take_run]
    · by_cases hd : isD c = true
      · have ed := run_cons hd r
        by_cases hp : pnt ((c :: r).drop (run isD (c :: r))) = 0
        · have e : shp (c :: r) = (2, run isD r + 1) := by rw [shp_cons, if_neg hl, if_pos hd, if_pos hp, ed]
          have e2 : run isD (c :: (r.take (run isD r) ++ x)) = run isD r + 1 := by rw [run_cons hd, run_end (by decide) hx, take_run]
          rw [e, List.take_succ_cons, List.cons_append, shp_cons, if_neg hl, if_pos hd, e2, List.drop_succ_cons, drop_to (take_len (run_le _ _)).symm, if_pos (pnt_sep hx)]
        · have e : shp (c :: r) = (3, run isD (c :: r) + 1 + pnt ((c :: r).drop (run isD (c :: r)))) := by rw [shp_cons, if_neg hl, if_pos hd, if_neg hp]
          obtain ⟨d, y, hy, h46, hq⟩ := pnt_some hp
          have hs := split_at (l := c :: r) (n := run isD (c :: r)) (c := d) (by rw [hy]; rfl)
          have hy2 : (c :: r).drop (run isD (c :: r) + 1) = y := by
            have := drop_cons (l := c :: r) (n := run isD (c :: r)) (c := d) (by rw [hy]; rfl)
            rw [hy] at this
            exact (List.cons.inj this).2.symm
          rw [hy2] at hs
          rw [e, hq]
          have hn := take_len (run_le isD (c :: r))
          have et : (c :: r).take (run isD (c :: r) + 1 + run isD y) = (c :: r).take (run isD (c :: r)) ++ d :: y.take (run isD y) := by
            rw [take_more (c := d) (by rw [hy]; rfl), hy2]
          have hc : (c :: r).take (run isD (c :: r)) = c :: r.take (run isD r) := by rw [ed, List.take_succ_cons]
          have et2 : (c :: r).take (run isD (c :: r) + 1 + run isD y) ++ x = c :: (r.take (run isD r) ++ d :: (y.take (run isD y) ++ x)) := by
            rw [et, hc]; simp
          have en : run isD (c :: (r.take (run isD r) ++ d :: (y.take (run isD y) ++ x))) = run isD r + 1 := by
            rw [run_cons hd, run_stop (isD_46 h46), take_run]
          have ep : pnt ((c :: (r.take (run isD r) ++ d :: (y.take (run isD y) ++ x))).drop (run isD r + 1)) = run isD y := by
            rw [List.drop_succ_cons, drop_to (take_len (run_le _ _)).symm, pnt_cons, if_pos h46, run_end (by decide) hx, take_run]
          rw [et2, shp_cons, if_neg hl, if_pos hd, en, ep, if_neg (by omega), ed]
      · by_cases hq : c.toNat = 34 ∧ (r.drop (run isQ r)).head? = some 34
        · have e : shp (c :: r) = (4, run isQ r + 1 + 1) := by rw [shp_cons, if_neg hl, if_neg hd, if_pos hq]
          have hs := split_at hq.2
          have et : r.take (run isQ r + 1) = r.take (run isQ r) ++ [34] := by
            have := take_more hq.2 0
            simpa using this
          have en : run isQ (r.take (run isQ r) ++ 34 :: x) = run isQ r := by rw [run_stop (by decide), take_run]
          rw [e, List.take_succ_cons, List.cons_append, et, List.append_assoc, shp_cons, if_neg hl, if_neg hd]
          show (if c.toNat = 34 ∧ ((r.take (run isQ r) ++ 34 :: x).drop (run isQ (r.take (run isQ r) ++ 34 :: x))).head? = some 34 then (4, run isQ (r.take (run isQ r) ++ 34 :: x) + 2) else _) = _
          rw [en, drop_to (take_len (run_le _ _)).symm, if_pos ⟨hq.1, rfl⟩]
        · have e : shp (c :: r) = sgn (c :: r) := by rw [shp_cons, if_neg hl, if_neg hd, if_neg hq]
          rw [e] at hk ⊢
          rw [sgn_cons] at hk ⊢
          by_cases h2 : (c.toNat = 61 ∨ c.toNat = 33 ∨ c.toNat = 60) ∧ r.head? = some 61
          · rw [if_pos h2]
            cases r with
            | nil => cases h2.2
            | cons d r =>
              have hd61 : d = 61 := by simpa using h2.2
              subst hd61
              show shp (c :: 61 :: x) = _
              rw [shp_cons, if_neg hl, if_neg hd, if_neg (fun h => sign_34 (.inr h2.1) h.1), sgn_cons, if_pos ⟨h2.1, rfl⟩]
          · rw [if_neg h2] at hk ⊢
            by_cases hS : isS c = true
            · rw [if_pos hS]
              show shp (c :: x) = _
              rw [shp_cons, if_neg hl, if_neg hd, if_neg (fun h => sign_34 (.inl hS) h.1), sgn_cons, if_neg, if_pos hS]
              rintro ⟨_, h⟩
              rcases hx with rfl | ⟨r, rfl⟩
              · cases h
              · cases h
            · rw [if_neg hS] at hk
              exact absurd rfl hk
/-- A byte 10 behind a source does not change its shape. -/
theorem shp_line {l : List UInt8} (h0 : l ≠ []) (s : List UInt8) : shp (l ++ 10 :: s) = shp l := by
  cases l with
  | nil => exact absurd rfl h0
  | cons c r =>
    have hW := run_stop (p := isW) (d := 10) (by decide) s (c :: r)
    have hD := run_stop (p := isD) (d := 10) (by decide) s (c :: r)
    have hQ := run_stop (p := isQ) (d := 10) (by decide) s r
    rw [List.cons_append] at hW hD ⊢
    rw [shp_cons, shp_cons, hW, hD, hQ, sgn_cons, sgn_cons]
    have hp : pnt ((c :: (r ++ 10 :: s)).drop (run isD (c :: r))) = pnt ((c :: r).drop (run isD (c :: r))) := by
      rw [← List.cons_append, List.drop_append_of_le_length (run_le _ _)]
      generalize (c :: r).drop (run isD (c :: r)) = y
      cases y with
      | nil => rfl
      | cons d y => rw [List.cons_append, pnt_cons, pnt_cons, run_stop (by decide)]
    have hq : ((r ++ 10 :: s).drop (run isQ r)).head? = some 34 ↔ (r.drop (run isQ r)).head? = some 34 := by
      rw [List.drop_append_of_le_length (run_le _ _)]
      generalize r.drop (run isQ r) = y
      cases y with
      | nil => simp
      | cons d y => simp
    have h6 : (r ++ 10 :: s).head? = some 61 ↔ r.head? = some 61 := by
      cases r with
      | nil => simp
      | cons d y => simp
    simp only [hp, hq, h6]
theorem shp_head {l : List UInt8} (hk : (shp l).1 ≠ 0) (x : List UInt8) : sk false (l ++ x) = 0 := by
  cases l with
  | nil => exact absurd rfl hk
  | cons c r =>
    rw [List.cons_append]
    refine sk_none ?_ ?_ _
    · cases hb : isB c
      · rfl
      · exfalso
        apply hk
        have hb' := hb
        unfold isB at hb'
        simp only [Bool.or_eq_true, decide_eq_true_eq] at hb'
        have h1 : ¬ isL c = true := by unfold isL; rw [Bool.and_eq_true, decide_eq_true_eq, decide_eq_true_eq]; omega
        have h2 : ¬ isD c = true := by unfold isD; rw [Bool.and_eq_true, decide_eq_true_eq, decide_eq_true_eq]; omega
        have h3 : ¬ isS c = true := by
          unfold isS
          rw [decide_eq_true_eq]
          simp
          omega
        rw [shp_cons, if_neg h1, if_neg h2, if_neg (by omega), sgn_cons, if_neg (by omega), if_neg h3]
    · intro hb'
      apply hk
      have h1 : ¬ isL c = true := by unfold isL; rw [Bool.and_eq_true, decide_eq_true_eq, decide_eq_true_eq]; omega
      have h2 : ¬ isD c = true := by unfold isD; rw [Bool.and_eq_true, decide_eq_true_eq, decide_eq_true_eq]; omega
      have h3 : ¬ isS c = true := by
        unfold isS
        rw [decide_eq_true_eq]
        simp
        omega
      rw [shp_cons, if_neg h1, if_neg h2, if_neg (by omega), sgn_cons, if_neg (by omega), if_neg h3]
/-- What stands between the quotes of a text. -/
theorem shp_text {l : List UInt8} (h : (shp l).1 = 4) : l.take (shp l).2 = 34 :: (cont 4 (l.take (shp l).2) ++ [34]) := by
  cases l with
  | nil => cases h
  | cons c r =>
    rw [shp_cons] at h ⊢
    split at h
    · cases h
    · rename_i hl
      split at h
      · split at h <;> cases h
      · rename_i hd
        split at h
        · rename_i hq
          rw [if_neg hl, if_neg hd, if_pos hq]
          have hs := split_at hq.2
          have et : r.take (run isQ r + 1) = r.take (run isQ r) ++ [34] := by
            have := take_more hq.2 0
            simpa using this
          have hc : c = 34 := toNat_of hq.1
          subst hc
          show (34 :: r).take (run isQ r + 1 + 1) = _
          rw [List.take_succ_cons, et]
          unfold cont
          rw [if_pos rfl]
          simp
        · rw [sgn_cons] at h
          split at h
          · cases h
          · split at h <;> cases h
theorem cont_other {k : Int} (h : k ≠ 4) (p : List UInt8) : cont k p = p := by unfold cont; rw [if_neg h]
/-- The source of a token that was found. -/
theorem so_part (l : List UInt8) (a : Int) : so ⟨(shp l).1, ⟨(cont (shp l).1 (l.take (shp l).2)).toArray⟩, a⟩ = l.take (shp l).2 := by
  unfold so
  by_cases h : (shp l).1 = 4
  · rw [if_pos h, h]
    exact (shp_text h).symm
  · rw [if_neg h]
    show (cont _ _) = _
    rw [cont_other h]
theorem cont_so (x : Tk) : cont x.k (so x) = x.t.data.toList := by
  unfold cont so
  split
  · simp
  · rfl
/-- The token alone. -/
def pr (x : Tk) : Bool := decide (shp (so x) = (x.k, (so x).length)) && decide (flt x.k (so x) = 0)
theorem pr_iff (x : Tk) : pr x = true ↔ shp (so x) = (x.k, (so x).length) ∧ flt x.k (so x) = 0 := by unfold pr; rw [Bool.and_eq_true, decide_eq_true_eq, decide_eq_true_eq]
theorem pr_kind {x : Tk} (h : pr x = true) : x.k = 1 ∨ x.k = 2 ∨ x.k = 3 ∨ x.k = 4 ∨ x.k = 5 := by
  have h2 := (pr_iff x).1 h
  have h3 := shp_kind (so x)
  rw [h2.1] at h3
  rcases h3 with h3 | h3
  · have h4 := h2.2
    rw [show x.k = 0 from h3] at h4
    unfold flt at h4
    simp at h4
  · exact h3
theorem kt_pr {x y : Tk} (h1 : x.k = y.k) (h2 : x.t = y.t) : so x = so y ∧ pr x = pr y := by
  have : so x = so y := by unfold so; rw [h1, h2]
  refine ⟨this, ?_⟩
  unfold pr
  rw [this, h1]
theorem lex_tok {x : Tk} (h : pr x = true) {y : List UInt8} (hy : Sep y) (p : Nat) (f : Bool) :
    lxs p f (so x ++ y) = (⟨x.k, x.t, (p : Nat)⟩ :: (lxs (p + (so x).length) false y).1, (lxs (p + (so x).length) false y).2) := by
  have hk := pr_kind h
  obtain ⟨h1, h2⟩ := (pr_iff x).1 h
  have hk0 : (shp (so x)).1 ≠ 0 := by rw [h1]; show x.k ≠ 0; omega
  have hn : (shp (so x)).2 = (so x).length := by rw [h1]
  have hs := shp_head hk0 y
  have hp : shp (so x ++ y) = (x.k, (so x).length) := by
    have := shp_part hk0 hy
    rw [hn, List.take_length] at this
    rw [this, h1]
  have hne : so x ++ y ≠ [] := by
    intro e
    rw [(List.append_eq_nil_iff.1 e).1] at hk0
    exact hk0 rfl
  have ht : (so x ++ y).take (so x).length = so x := List.take_left
  have hd : (so x ++ y).drop (so x).length = y := List.drop_left
  have hk1 : x.k ≠ 0 := by omega
  rw [lex_step (l' := so x ++ y) (by rw [hs, List.drop_zero]) hne, hp, hs]
  simp only [ht, hd, h2, if_true, cont_so, Nat.add_zero, decide_eq_false hk1]
theorem lex_nil (p : Nat) (f : Bool) : lxs p f [] = ([], []) := lex_done rfl p f
theorem lex_alone {x : Tk} (h : pr x = true) (p : Nat) (f : Bool) : lxs p f (so x) = ([⟨x.k, x.t, (p : Nat)⟩], []) := by
  have := lex_tok h (.inl rfl) p f
  rw [List.append_nil, lex_nil] at this
  exact this
/-- What is skipped as a whole, wherever it stands. -/
structure Gp (g : List UInt8) : Prop where
  ne : ∃ r, g = 32 :: r
  sk : ∀ r, sk false (g ++ r) = g.length + sk false r
theorem gp_one : Gp [32] := ⟨⟨[], rfl⟩, fun r => by rw [List.singleton_append, sk_blank (by decide)]; simp; omega⟩
theorem lex_gap {g : List UInt8} (h : Gp g) (l : List UInt8) (p : Nat) (f : Bool) : lxs p f (g ++ l) = lxs (p + g.length) false l := by
  have hs := h.sk l
  have hg : 1 ≤ g.length := by obtain ⟨r, rfl⟩ := h.ne; simp
  have hd : (g ++ l).drop (g.length + sk false l) = l.drop (sk false l) := by
    rw [← List.drop_drop, List.drop_left]
  by_cases h0 : l.drop (sk false l) = []
  · rw [lex_done (by rw [hs, hd, h0]), lex_done h0]
  · rw [lex_step (by rw [hs, hd]) h0, lex_step rfl h0, hs, show p + (g.length + sk false l) = p + g.length + sk false l by omega]
    simp only [Bool.false_eq_true, false_and, and_false, if_false]
    rw [if_neg (show ¬ ((shp (l.drop (sk false l))).1 = 0 ∧ f = true ∧ g.length + sk false l = 0) by omega)]
/-- Tokens with gaps in front of them. -/
def mix : List (List UInt8 × Tk) → List UInt8 → List UInt8
  | [], e => e
  | (g, x) :: l, e => g ++ (so x ++ mix l e)
def kt (x : Tk) : Int × ByteArray := (x.k, x.t)
theorem mix_sep {e : List UInt8} (he : ∃ r, e = 32 :: r) : ∀ l : List (List UInt8 × Tk), (∀ q ∈ l, Gp q.1) → Sep (mix l e)
  | [], _ => .inr he
  | (g, x) :: l, h => by
    obtain ⟨r, hr⟩ := (h (g, x) (List.mem_cons_self ..)).ne
    right
    unfold mix
    rw [show g = 32 :: r from hr]
    exact ⟨r ++ (so x ++ mix l e), rfl⟩
theorem lex_mix {e : List UInt8} (he : ∃ r, e = 32 :: r) (hl : ∀ p f, lxs p f e = ([], [])) : ∀ (l : List (List UInt8 × Tk)) (p : Nat) (f : Bool), (∀ q ∈ l, Gp q.1 ∧ pr q.2 = true) → ((lxs p f (mix l e)).1.map kt = l.map fun q => kt q.2) ∧ (lxs p f (mix l e)).2 = []
  | [], p, f, _ => by
    unfold mix
    rw [hl]
    exact ⟨rfl, rfl⟩
  | (g, x) :: l, p, f, h => by
    have h1 := h (g, x) (List.mem_cons_self ..)
    have h2 : ∀ q ∈ l, Gp q.1 ∧ pr q.2 = true := fun q hq => h q (List.mem_cons_of_mem _ hq)
    unfold mix
    rw [lex_gap h1.1, lex_tok h1.2 (mix_sep he l fun q hq => (h2 q hq).1)]
    obtain ⟨h3, h4⟩ := lex_mix he hl l (p + g.length + (so x).length) false h2
    refine ⟨?_, h4⟩
    show _ :: _ = _
    rw [h3]
    rfl
theorem lex_join : ∀ (l : List Tk) (p : Nat) (f : Bool), (∀ x ∈ l, pr x = true) → ((lxs p f (Lib.join (l.map so) [32])).1.map kt = l.map kt) ∧ (lxs p f (Lib.join (l.map so) [32])).2 = []
  | [], p, f, _ => by
    show (lxs p f []).1.map kt = _ ∧ (lxs p f []).2 = []
    rw [lex_nil]
    exact ⟨rfl, rfl⟩
  | [x], p, f, h => by
    rw [List.map_singleton, Lib.join_one, lex_alone (h x (List.mem_cons_self ..))]
    exact ⟨rfl, rfl⟩
  | x :: y :: l, p, f, h => by
    have e : Lib.join ((x :: y :: l).map so) [32] = so x ++ ([32] ++ Lib.join ((y :: l).map so) [32]) := by
      rw [List.map_cons, List.map_cons, Lib.join_cons, Lib.join_cons]
      simp [Lib.joinTail]
    rw [e, lex_tok (y := [32] ++ Lib.join ((y :: l).map so) [32]) (h x (List.mem_cons_self ..)) (.inr ⟨_, rfl⟩), lex_gap gp_one]
    obtain ⟨h3, h4⟩ := lex_join (y :: l) (p + (so x).length + [(32 : UInt8)].length) false fun z hz => h z (List.mem_cons_of_mem _ hz)
    refine ⟨?_, h4⟩
    show _ :: _ = _
    rw [h3]
    rfl

/-! By the length of what is left. -/
theorem lex_ind {C : Nat → Bool → List UInt8 → Prop} (h0 : ∀ p f l, l.drop (sk false l) = [] → C p f l)
    (h1 : ∀ p f l l', l.drop (sk false l) = l' → l' ≠ [] → C (p + sk false l + (shp l').2) (decide ((shp l').1 = 0)) (l'.drop (shp l').2) → C p f l) : ∀ (n p : Nat) (f : Bool) (l : List UInt8), l.length ≤ n → C p f l
  | n, p, f, l, hn => by
    by_cases h : l.drop (sk false l) = []
    · exact h0 p f l h
    · refine h1 p f l _ rfl h ?_
      have h1 := shp_pos h
      have h2 := shp_le (l.drop (sk false l))
      have h3 : (l.drop (sk false l)).length ≠ 0 := fun e => h (List.eq_nil_of_length_eq_zero e)
      have h4 : (l.drop (sk false l)).length ≤ l.length := by rw [List.length_drop]; omega
      match n, hn with
      | 0, hn => omega
      | n + 1, hn => exact lex_ind h0 h1' n _ _ _ (by rw [List.length_drop]; omega)
where
  h1' : ∀ p f l l', l.drop (sk false l) = l' → l' ≠ [] → C (p + sk false l + (shp l').2) (decide ((shp l').1 = 0)) (l'.drop (shp l').2) → C p f l := h1
end Go.Proofs.YtbkpjhffmaldmaaGreatDoor
namespace Go.Proofs.YtbkpjhffmaldmaaGreatDoor
open dec

def shT (d : Nat) (x : Tk) : Tk := ⟨x.k, x.t, x.a + d⟩
def shB (d : Nat) (q : Pb) : Pb := (q.1 + d, q.2)
theorem lex_shift (d : Nat) (p : Nat) (f : Bool) (l : List UInt8) : lxs (p + d) f l = ((lxs p f l).1.map (shT d), (lxs p f l).2.map (shB d)) := by
  refine lex_ind (C := fun p f l => lxs (p + d) f l = ((lxs p f l).1.map (shT d), (lxs p f l).2.map (shB d))) ?_ ?_ l.length p f l (Nat.le_refl _)
  · intro p f l h
    rw [lex_done h, lex_done h]
    rfl
  · intro p f l l' h h0 ih
    rw [lex_step h h0, lex_step h h0, show p + d + sk false l + (shp l').2 = p + sk false l + (shp l').2 + d by omega, ih, show p + d + sk false l = p + sk false l + d by omega]
    split
    · simp only [List.map_cons, shT, Int.natCast_add]
    · split
      · rfl
      · simp only [List.map_cons, shB, Int.natCast_add]
/-- Sources one after the other, a byte 10 between them. -/
theorem lex_lines (s : List UInt8) (p : Nat) (f : Bool) (l : List UInt8) : lxs p f (l ++ 10 :: s) = ((lxs p f l).1 ++ (lxs (p + l.length + 1) false s).1, (lxs p f l).2 ++ (lxs (p + l.length + 1) false s).2) := by
  refine lex_ind (C := fun p f l => lxs p f (l ++ 10 :: s) = ((lxs p f l).1 ++ (lxs (p + l.length + 1) false s).1, (lxs p f l).2 ++ (lxs (p + l.length + 1) false s).2)) ?_ ?_ l.length p f l (Nat.le_refl _)
  · intro p f l h
    have hl : sk false l = l.length := by
      have h1 := sk_le false l
      have h2 := congrArg List.length h
      rw [List.length_drop, List.length_nil] at h2
      omega
    have hs : sk false (l ++ 10 :: s) = l.length + 1 + sk false s := by
      rw [sk_app, if_neg (by omega)]
    have hd : (l ++ 10 :: s).drop (l.length + 1 + sk false s) = s.drop (sk false s) := by
      rw [← List.drop_drop, show l ++ 10 :: s = (l ++ [10]) ++ s by simp, drop_to (by simp)]
    rw [lex_done h]
    by_cases h3 : s.drop (sk false s) = []
    · rw [lex_done (by rw [hs, hd, h3]), lex_done h3]
      rfl
    · rw [lex_step (by rw [hs, hd]) h3, lex_step rfl h3, hs, show p + (l.length + 1 + sk false s) = p + l.length + 1 + sk false s by omega]
      simp only [Bool.false_eq_true, false_and, and_false, if_false, List.nil_append]
      rw [if_neg (show ¬ ((shp (s.drop (sk false s))).1 = 0 ∧ f = true ∧ l.length + 1 + sk false s = 0) by omega)]
  · intro p f l l' h h0 ih
    have hlt : sk false l < l.length := by
      rcases Nat.lt_or_ge (sk false l) l.length with h1 | h1
      · exact h1
      · rw [List.drop_eq_nil_of_le h1] at h
        exact absurd h.symm h0
    have hs : sk false (l ++ 10 :: s) = sk false l := by
      rw [sk_app, if_pos hlt]
    have hd : (l ++ 10 :: s).drop (sk false (l ++ 10 :: s)) = l' ++ 10 :: s := by
      rw [hs, List.drop_append_of_le_length (Nat.le_of_lt hlt), h]
    have hn := shp_le l'
    have ht : (l' ++ 10 :: s).take (shp l').2 = l'.take (shp l').2 := List.take_append_of_le_length hn
    have hdd : (l' ++ 10 :: s).drop (shp l').2 = l'.drop (shp l').2 ++ 10 :: s := List.drop_append_of_le_length hn
    have hlen : l'.length = l.length - sk false l := by rw [← h, List.length_drop]
    have hq : p + sk false l + (shp l').2 + (l'.drop (shp l').2).length + 1 = p + l.length + 1 := by rw [List.length_drop]; omega
    rw [hq] at ih
    rw [lex_step hd (by simp [h0]), shp_line h0, hs, ht, hdd, ih, lex_step h h0]
    split
    · rfl
    · split
      · rfl
      · rfl
/-- The tokens stand in a source from a place on, one after the other. -/
def Cov (src : List UInt8) : Nat → List Tk → Prop
  | _, [] => True
  | p, x :: l => ∃ a : Nat, x.a = (a : Nat) ∧ p ≤ a ∧ a + (so x).length ≤ src.length ∧ (src.drop a).take (so x).length = so x ∧ x.k ≠ 6 ∧ Cov src (a + (so x).length) l
def CovB (n : Nat) : Nat → List Pb → Prop
  | _, [] => True
  | p, q :: l => ∃ a : Nat, q.1 = (a : Nat) ∧ p ≤ a ∧ a < n ∧ q.2 ≠ 0 ∧ CovB n (a + 1) l
theorem CovB.less {n : Nat} : ∀ {l : List Pb} {p q : Nat}, q ≤ p → CovB n p l → CovB n q l
  | [], _, _, _, _ => trivial
  | _ :: _, _, _, h, ⟨a, h1, h2, h3⟩ => ⟨a, h1, Nat.le_trans h h2, h3⟩
theorem Cov.less {s : List UInt8} : ∀ {l : List Tk} {p q : Nat}, q ≤ p → Cov s p l → Cov s q l
  | [], _, _, _, _ => trivial
  | _ :: _, _, _, h, ⟨a, h1, h2, h3⟩ => ⟨a, h1, Nat.le_trans h h2, h3⟩
theorem lex_cov (src : List UInt8) (p : Nat) (f : Bool) (l : List UInt8) (h : src.drop p = l) (hp : p ≤ src.length) : Cov src p (lxs p f l).1 ∧ CovB src.length p (lxs p f l).2 := by
  refine lex_ind (C := fun p f l => src.drop p = l → p ≤ src.length → Cov src p (lxs p f l).1 ∧ CovB src.length p (lxs p f l).2) ?_ ?_ l.length p f l (Nat.le_refl _) h hp
  · intro p f l h _ _
    rw [lex_done h]
    exact ⟨trivial, trivial⟩
  · intro p f l l' h h0 ih hl hp
    have hn := shp_le l'
    have h1 := shp_pos h0
    have hlen : l'.length = l.length - sk false l := by rw [← h, List.length_drop]
    have hlen2 : l.length = src.length - p := by rw [← hl, List.length_drop]
    have hsk := sk_le false l
    have hdr : src.drop (p + sk false l) = l' := by rw [← List.drop_drop, hl, h]
    obtain ⟨i1, i2⟩ := ih (by rw [← hdr, List.drop_drop]) (by omega)
    have hso := so_part l'
    have htl : (l'.take (shp l').2).length = (shp l').2 := take_len hn
    rw [lex_step h h0]
    split
    · refine ⟨⟨p + sk false l, rfl, by omega, ?_, ?_, ?_, ?_⟩, i2.less (by omega)⟩
      · rw [hso, htl]; omega
      · rw [hso, htl, hdr]
      · have := shp_kind l'
        show (shp l').1 ≠ 6
        omega
      · rw [hso, htl]
        exact i1
    · rename_i hf
      split
      · exact ⟨i1.less (by omega), i2.less (by omega)⟩
      · exact ⟨i1.less (by omega), ⟨p + sk false l, rfl, by omega, by omega, hf, i2.less (by omega)⟩⟩
/-- Each token that was found is one alone. -/
theorem lex_pr (p : Nat) (f : Bool) (l : List UInt8) : ∀ x ∈ (lxs p f l).1, pr x = true := by
  refine lex_ind (C := fun p f l => ∀ x ∈ (lxs p f l).1, pr x = true) ?_ ?_ l.length p f l (Nat.le_refl _)
  · intro p f l h x hx
    rw [lex_done h] at hx
    cases hx
  · intro p f l l' h h0 ih x hx
    rw [lex_step h h0] at hx
    split at hx
    · rename_i hf
      rcases List.mem_cons.1 hx with rfl | hx
      · have hk : (shp l').1 ≠ 0 := by
          intro e
          rw [e] at hf
          unfold flt at hf
          simp at hf
        have hs := shp_part hk (.inl rfl : Sep [])
        rw [List.append_nil] at hs
        rw [pr_iff]
        show shp (so _) = ((shp l').1, (so _).length) ∧ flt (shp l').1 (so _) = 0
        rw [so_part, hs, take_len (shp_le l')]
        exact ⟨rfl, hf⟩
      · exact ih x hx
    · split at hx
      · exact ih x hx
      · exact ih x hx
theorem sum_cov (src : List UInt8) : ∀ (l : List Tk) (p : Nat), p ≤ src.length → Cov src p l → (l.map fun x => (so x).length).sum ≤ src.length - p
  | [], _, _, _ => Nat.zero_le _
  | x :: l, p, hp, ⟨a, h1, h2, h3, _, _, h4⟩ => by
    have := sum_cov src l _ h3 h4
    rw [List.map_cons, List.sum_cons]
    omega
theorem pr_pos {x : Tk} (h : pr x = true) : 1 ≤ (so x).length := by
  obtain ⟨h1, h2⟩ := (pr_iff x).1 h
  have h3 := pr_kind h
  have := shp_pos (l := so x) (fun e => by rw [e] at h1; have := (Prod.mk.inj h1).1; omega)
  rw [h1] at this
  exact this
theorem join_le (l : List Tk) : (Lib.join (l.map so) [32]).length ≤ (l.map fun x => (so x).length).sum + l.length := by
  induction l with
  | nil => exact Nat.zero_le _
  | cons x l ih =>
    cases l with
    | nil => rw [List.map_singleton, Lib.join_one]; simp
    | cons y l =>
      have e : Lib.join ((x :: y :: l).map so) [32] = so x ++ 32 :: Lib.join ((y :: l).map so) [32] := by
        rw [List.map_cons, List.map_cons, Lib.join_cons, Lib.join_cons]
        simp [Lib.joinTail]
      rw [e]
      generalize Lib.join ((y :: l).map so) [32] = J at *
      simp only [List.length_append, List.map_cons, List.sum_cons, List.length_cons] at *
      omega
theorem len_sum : ∀ (l : List Tk), (∀ x ∈ l, pr x = true) → l.length ≤ (l.map fun x => (so x).length).sum
  | [], _ => Nat.le_refl _
  | x :: l, h => by
    have h1 := pr_pos (h x (List.mem_cons_self ..))
    have h2 := len_sum l fun y hy => h y (List.mem_cons_of_mem _ hy)
    rw [List.map_cons, List.sum_cons, List.length_cons]
    omega
/-- The tokens of a source, joined, are not much longer than it. -/
theorem lex_short (s : List UInt8) : (Lib.join ((lxs 0 false s).1.map so) [32]).length ≤ 2 * s.length := by
  have h1 := sum_cov s _ 0 (Nat.zero_le _) (lex_cov s 0 false s rfl (Nat.zero_le _)).1
  have h2 := len_sum _ (lex_pr 0 false s)
  have h3 := join_le (lxs 0 false s).1
  omega
theorem so_kt : ∀ {l r : List Tk}, l.map kt = r.map kt → l.map so = r.map so
  | [], [], _ => rfl
  | x :: l, y :: r, h => by
    rw [List.map_cons, List.map_cons] at h
    obtain ⟨h1, h2⟩ := List.cons.inj h
    obtain ⟨h3, h4⟩ := Prod.mk.inj h1
    rw [List.map_cons, List.map_cons, so_kt h2, (kt_pr h3 h4).1]
  | [], y :: r, h => by cases h
  | x :: l, [], h => by cases h
/-- The words. -/
def wd1 (s : ByteArray) : Bool := pr ⟨1, s, 0⟩
theorem lex_word (s : ByteArray) : lxs 0 false s.data.toList = ([⟨1, s, 0⟩], []) ↔ wd1 s = true := by
  constructor
  · intro h
    exact lex_pr 0 false s.data.toList _ (by rw [h]; exact List.mem_cons_self ..)
  · intro h
    exact lex_alone (x := ⟨1, s, 0⟩) h 0 false
end Go.Proofs.YtbkpjhffmaldmaaGreatDoor
namespace Go.Proofs.YtbkpjhffmaldmaaGreatDoor
open dec

/-- n is v as far as v is in range, and out of range if v is. -/
def Tw (n : Int) (v : Nat) : Prop := (v ≤ 1152921504606846976 ∧ n = v) ∨ (1152921504606846976 < v ∧ 1152921504606846976 < n)
theorem wd_tw {n d : Int} {a c : Nat} (h : Tw n a) (hd : d = (c : Int)) (hc : c ≤ 9) : Tw (wd n d) (a * 10 + c) := by
  unfold Tw at *
  unfold wd
  split <;> omega
theorem sat_tw {n a c : Nat} (h : Tw (n : Int) a) (hc : c ≤ 9) : Tw ((sat n c : Nat) : Int) (a * 10 + c) := by
  unfold Tw at *
  unfold sat
  omega
theorem rd_tw (l : List UInt8) : ∀ (ds r : List UInt8) (k i : Nat) (n : Int) (a p : Nat), l.drop i = ds ++ r → (∀ c ∈ ds, isD c = true) → Tw n a →
    ∃ n', Tw n' (dval a ds) ∧ dec.rd l (k + ds.length) i n p = dec.rd l k (i + ds.length) n' p
  | [], r, k, i, n, a, p, _, _, ht => ⟨n, ht, rfl⟩
  | c :: ds, r, k, i, n, a, p, h, hd, ht => by
    obtain ⟨hi, hb, hr⟩ := byte_of_drop h
    have hc := (isD_iff c).1 (hd c (List.mem_cons_self ..))
    have hw := wd_tw (d := byteAt l i - 48) (c := c.toNat - 48) ht (by rw [hb]; omega) (by omega)
    obtain ⟨n', h1, h2⟩ := rd_tw l ds r k (i + 1) _ _ p hr (fun d hd' => hd d (List.mem_cons_of_mem _ hd')) hw
    refine ⟨n', by rw [dval_cons]; exact h1, ?_⟩
    rw [List.length_cons, ← Nat.add_assoc, dec.rd, if_pos hi, if_pos (by rw [hb]; omega), h2, Nat.add_assoc, Nat.add_comm 1]
theorem stp_tw : ∀ (ds : List UInt8) (x a : Nat) (b : Int), (∀ d ∈ ds, isD d = true) → Tw (x : Int) a → ∃ x' : Nat, Tw (x' : Int) (dval a ds) ∧ ds.foldl stp (x, b) = (x', if 0 ≤ b then b + ds.length else b)
  | [], x, a, b, _, ht => ⟨x, ht, by simp⟩
  | c :: ds, x, a, b, h, ht => by
    have hc := h c (List.mem_cons_self ..)
    have hc2 := (isD_iff c).1 hc
    have e46 : c ≠ 46 := ne_of_toNat (n := 46) (by decide) (by omega)
    have hs : stp (x, b) c = (sat x (c.toNat - 48), if 0 ≤ b then b + 1 else b) := by
      unfold stp
      simp only [if_neg e46, hc, if_true]
    obtain ⟨x', h1, h2⟩ := stp_tw ds _ _ (if 0 ≤ b then b + 1 else b) (fun d hd => h d (List.mem_cons_of_mem _ hd)) (sat_tw (c := c.toNat - 48) ht (by omega))
    refine ⟨x', by rw [dval_cons]; exact h1, ?_⟩
    rw [List.foldl_cons, hs, h2, List.length_cons]
    congr 1
    by_cases hb : 0 ≤ b
    · rw [if_pos hb, if_pos (by omega), if_pos hb]; omega
    · rw [if_neg hb, if_neg hb, if_neg hb]
theorem scl_tw : ∀ (k x a : Nat), Tw (x : Int) a → Tw ((scl k x : Nat) : Int) (a * 10 ^ k)
  | 0, x, a, h => by rw [Nat.pow_zero, Nat.mul_one]; exact h
  | k + 1, x, a, h => by
    have h1 := scl_tw k _ _ (sat_tw (c := 0) h (by omega))
    rw [Nat.add_zero, Nat.mul_assoc, ← Nat.pow_succ'] at h1
    exact h1
theorem tw_mul {n : Int} {v : Nat} (h : Tw n v) {q : Nat} (hq : 1 ≤ q) : 0 ≤ n ∧ (1152921504606846976 < n * q ↔ 1152921504606846976 < v * q) := by
  have h0 : 0 ≤ n := by unfold Tw at h; omega
  refine ⟨h0, ?_⟩
  rcases h with ⟨h1, rfl⟩ | ⟨h1, h2⟩
  · rw [← Int.natCast_mul]
    generalize v * q = z
    omega
  · have a1 := Int.mul_le_mul_of_nonneg_left (show (1 : Int) ≤ (q : Int) by omega) h0
    have a2 := Nat.mul_le_mul_left v hq
    rw [Int.mul_one] at a1
    rw [Nat.mul_one] at a2
    generalize n * (q : Int) = z at *
    generalize v * q = y at *
    omega
theorem pow_tab {k : Nat} (h : k ≤ 6) : powTab.getD (6 - (k : Int)).toNat 0 = ((10 ^ (6 - k) : Nat) : Int) := by
  obtain h | h | h | h | h | h | h : k = 0 ∨ k = 1 ∨ k = 2 ∨ k = 3 ∨ k = 4 ∨ k = 5 ∨ k = 6 := by omega
  all_goals (subst h; rfl)
/-- The error of digits, a point, and digits. -/
def dcE (ds fs : List UInt8) : Int := if 6 < fs.length then 3 else if 1152921504606846976 < dval (dval 0 ds) fs * 10 ^ (6 - fs.length) then 2 else 0
theorem tw_zero : Tw 0 0 := .inl ⟨by omega, rfl⟩
theorem pa_dec {ds fs : List UInt8} (h1 : ds ≠ []) (h2 : fs ≠ []) (hd : ∀ c ∈ ds, isD c = true) (hf : ∀ c ∈ fs, isD c = true) : paE (ds ++ 46 :: fs) = dcE ds fs := by
  obtain ⟨l, hl⟩ : ∃ l, l = ds ++ 46 :: fs := ⟨_, rfl⟩
  have hdl : 1 ≤ ds.length := by cases ds; exact absurd rfl h1; simp
  have hfl : 1 ≤ fs.length := by cases fs; exact absurd rfl h2; simp
  have hlen : l.length = ds.length + (fs.length + 1) := by rw [hl]; simp
  obtain ⟨n1, t1, s1⟩ := rd_tw l ds (46 :: fs) (fs.length + 1) 0 0 0 l.length (by rw [hl]; rfl) hd tw_zero
  rw [Nat.zero_add] at s1
  have hdr : l.drop ds.length = 46 :: fs := by rw [hl, List.drop_left]
  obtain ⟨b1, b2, b3⟩ := byte_of_drop hdr
  have e46 : byteAt l ds.length = 46 := by rw [b2]; rfl
  have s2 : dec.rd l (fs.length + 1) ds.length n1 l.length = dec.rd l fs.length (ds.length + 1) n1 ds.length := by
    rw [dec.rd, if_pos b1, if_neg (by omega), if_pos ⟨e46, rfl⟩]
  obtain ⟨n2, t2, s3⟩ := rd_tw l fs [] 0 (ds.length + 1) n1 _ ds.length (by rw [b3, List.append_nil]) hf t1
  rw [Nat.zero_add] at s3
  have s4 : dec.rd l l.length 0 0 l.length = (ds.length + 1 + fs.length, n2, ds.length) := by
    rw [show dec.rd l l.length 0 0 l.length = dec.rd l (fs.length + 1 + ds.length) 0 0 l.length by rw [show fs.length + 1 + ds.length = l.length by omega], s1, s2, s3]
    rfl
  have hall : rdAll l = if 6 < fs.length then (0, 0, false) else (n2, (fs.length : Int), true) := by
    unfold rdAll
    rw [s4]
    unfold rdEnd
    simp only
    rw [hlen, if_neg (by omega), if_neg (by omega)]
    by_cases h6 : 6 < fs.length
    · rw [if_pos h6, if_pos (by omega)]
    · rw [if_neg h6, if_neg (by omega)]
      congr 2
      omega
  obtain ⟨c, r, rfl⟩ : ∃ c r, ds = c :: r := by cases ds; exact absurd rfl h1; exact ⟨_, _, rfl⟩
  have hc := (isD_iff c).1 (hd c (List.mem_cons_self ..))
  have hpre := pre_other (c := c) (ne_of_toNat (n := 45) (by decide) (by omega)) (r ++ 46 :: fs)
  rw [← List.cons_append, ← hl] at hpre
  rw [← hl]
  unfold paE pmOf dcE
  rw [hpre.1, hpre.2, hall]
  by_cases h6 : 6 < fs.length
  · rw [if_pos h6, if_pos h6]
    rfl
  · rw [if_neg h6, if_neg h6]
    simp only [Bool.false_eq_true, if_false, if_true]
    rw [pow_tab (by omega)]
    obtain ⟨t3, t4⟩ := tw_mul t2 (q := 10 ^ (6 - fs.length)) (Nat.pow_pos (by decide))
    have t5 := Int.mul_nonneg t3 (Int.natCast_nonneg (10 ^ (6 - fs.length)))
    generalize n2 * ((10 ^ (6 - fs.length) : Nat) : Int) = z at *
    generalize dval (dval 0 (c :: r)) fs * 10 ^ (6 - fs.length) = y at *
    by_cases h7 : 1152921504606846976 < y
    · rw [if_pos h7, (rg_no z).2 (by omega)]
      rfl
    · rw [if_neg h7, (rg_iff z).2 (by omega)]
      rfl
theorem rp_dec {ds fs : List UInt8} (h1 : ds ≠ []) (h2 : fs ≠ []) (hd : ∀ c ∈ ds, isD c = true) (hf : ∀ c ∈ fs, isD c = true) : (rpP (ds ++ 46 :: fs)).2 = dcE ds fs := by
  obtain ⟨l, hl⟩ : ∃ l, l = ds ++ 46 :: fs := ⟨_, rfl⟩
  have hdl : 1 ≤ ds.length := by cases ds; exact absurd rfl h1; simp
  have hfl : 1 ≤ fs.length := by cases fs; exact absurd rfl h2; simp
  have hlen : l.length = ds.length + (fs.length + 1) := by rw [hl]; simp
  have hh : l.head? ≠ some 45 := by
    obtain ⟨c, r, rfl⟩ : ∃ c r, ds = c :: r := by cases ds; exact absurd rfl h1; exact ⟨_, _, rfl⟩
    have hc := (isD_iff c).1 (hd c (List.mem_cons_self ..))
    rw [hl, List.cons_append, List.head?_cons]
    simpa using ne_of_toNat (n := 45) (by decide) (by omega)
  have ha : atP l = 0 := by unfold atP; rw [if_neg hh]
  have hg1 : dgn l = ds.length := by rw [hl]; exact dgn_digits 46 rfl fs ds hd
  have hdr : l.drop ds.length = 46 :: fs := by rw [hl, List.drop_left]
  have hdr2 : l.drop (ds.length + 1) = fs := by rw [← List.drop_drop, hdr]; rfl
  have hg2 : dgn fs = fs.length := dgn_all fs hf
  have hgd : l.getD ds.length 0 = 46 := by
    have := (byte_of_drop hdr).1
    rw [List.drop_eq_getElem_cons this] at hdr
    injection hdr with h1 _
    rw [List.getD_eq_getElem?_getD, List.getElem?_eq_getElem this, h1]
    rfl
  have hform : formP l = decide (fs.length ≤ 6) := by
    unfold formP
    rw [ha, List.drop_zero, hg1, Nat.zero_add, hdr2, hg2, hgd, if_neg (by omega), hlen, if_neg (by omega)]
    rw [Bool.eq_iff_iff]
    simp only [Bool.and_eq_true, decide_eq_true_eq]
    constructor
    · intro h; omega
    · intro h
      exact ⟨⟨⟨trivial, hfl⟩, h⟩, by omega⟩
  obtain ⟨x1, t1, s1⟩ := stp_tw ds 0 0 (-1) hd tw_zero
  obtain ⟨x2, t2, s2⟩ := stp_tw fs x1 _ 0 hf t1
  have hfold : l.foldl stp (0, -1) = (x2, (fs.length : Int)) := by
    rw [hl, List.foldl_append, s1, if_neg (by omega), List.foldl_cons, show stp (x1, -1) 46 = (x1, 0) from rfl, s2, if_pos (by omega), Int.zero_add]
  rw [← hl]
  unfold rpP dcE
  rw [hform, hfold]
  by_cases h6 : 6 < fs.length
  · rw [if_pos h6, decide_eq_false (by omega)]
    rfl
  · rw [if_neg h6, decide_eq_true (by omega), if_pos rfl]
    have e6 : 6 - (max ((x2, (fs.length : Int)) : Nat × Int).2 0).toNat = 6 - fs.length := by
      show 6 - (max (fs.length : Int) 0).toNat = _
      omega
    rw [e6]
    have t3 := scl_tw (6 - fs.length) x2 _ t2
    show (rpEnd l (scl (6 - fs.length) x2)).2 = _
    unfold rpEnd
    generalize scl (6 - fs.length) x2 = y at *
    generalize dval (dval 0 ds) fs * 10 ^ (6 - fs.length) = z at *
    unfold Tw at t3
    by_cases h7 : 1152921504606846976 < z
    · rw [if_pos h7, if_pos (by omega)]
    · rw [if_neg h7, if_neg (by omega)]
/-- What a decimal's shape consists of. -/
theorem shp_dec {l : List UInt8} (h : (shp l).1 = 3) : ∃ ds fs, l.take (shp l).2 = ds ++ 46 :: fs ∧ ds ≠ [] ∧ fs ≠ [] ∧ (∀ c ∈ ds, isD c = true) ∧ ∀ c ∈ fs, isD c = true := by
  cases l with
  | nil => cases h
  | cons c r =>
    rw [shp_cons] at h ⊢
    split at h
    · cases h
    · rename_i hl
      split at h
      · rename_i hd
        split at h
        · cases h
        · rename_i hp
          rw [if_neg hl, if_pos hd, if_neg hp]
          cases hy : (c :: r).drop (run isD (c :: r)) with
          | nil => rw [hy] at hp; exact absurd rfl hp
          | cons d y =>
            rw [hy, pnt_cons] at hp
            rw [pnt_cons]
            split at hp
            · rename_i h46
              have hd46 : d = 46 := UInt8.toNat_inj.1 h46
              subst hd46
              refine ⟨(c :: r).take (run isD (c :: r)), y.take (run isD y), ?_, ?_, ?_, run_all _ _, run_all _ _⟩
              · rw [if_pos h46]
                show (c :: r).take (run isD (c :: r) + 1 + run isD y) = _
                rw [show run isD (c :: r) + 1 + run isD y = run isD (c :: r) + (run isD y + 1) by omega, List.take_add, hy, List.take_succ_cons]
              · rw [run_cons hd]
                simp
              · intro e
                have := congrArg List.length e
                rw [List.length_take, List.length_nil] at this
                have := run_le isD y
                omega
            · exact absurd rfl hp
      · split at h
        · cases h
        · rw [sgn_cons] at h
          split at h
          · cases h
          · split at h <;> cases h
/-- Where a shape is a decimal, both say the same of it. -/
theorem dec_same {l : List UInt8} (h : (shp l).1 = 3) : (rpP (l.take (shp l).2)).2 = paE (l.take (shp l).2) := by
  obtain ⟨ds, fs, e, h1, h2, h3, h4⟩ := shp_dec h
  rw [e, rp_dec h1 h2 h3 h4, pa_dec h1 h2 h3 h4]
/-- strconv.Atoi of digits. -/
theorem uint_any : ∀ (l : List UInt8) (a : Nat), (∀ c ∈ l, isD c = true) → a < 18446744073709551616 → Lib.parseUint10 a l = if dval a l < 18446744073709551616 then .ok (dval a l) else .range
  | [], a, _, ha => by
    show Lib.NumEnd.ok a = if a < _ then _ else _
    rw [if_pos ha]
    rfl
  | c :: l, a, h, ha => by
    have hc := (isD_iff c).1 (h c (List.mem_cons_self ..))
    have hg := dval_ge l (a * 10 + (c.toNat - 48))
    rw [dval_cons]
    unfold Lib.parseUint10
    rw [if_pos hc]
    by_cases h1 : 1844674407370955162 ≤ a
    · rw [if_pos h1, if_neg (by omega)]
    · rw [if_neg h1]
      by_cases h2 : 18446744073709551616 ≤ a * 10 + (c.toNat - 48)
      · rw [if_pos h2, if_neg (by omega)]
      · rw [if_neg h2, uint_any l _ (fun d hd => h d (List.mem_cons_of_mem _ hd)) (by omega)]
theorem atoi_digits {l : List UInt8} (h0 : l ≠ []) (h : ∀ c ∈ l, isD c = true) : Lib.atoiAll l = if dval 0 l < 9223372036854775808 then .ok (dval 0 l : Nat) else .range := by
  cases l with
  | nil => exact absurd rfl h0
  | cons c r =>
    have hc := (isD_iff c).1 (h c (List.mem_cons_self ..))
    rw [Lib.atoiAll_plain c r (by omega) (by omega)]
    unfold Lib.parseMag
    rw [if_neg (by simp), uint_any _ 0 h (by omega)]
    by_cases h1 : dval 0 (c :: r) < 18446744073709551616
    · rw [if_pos h1]
      unfold Lib.signless
      by_cases h2 : dval 0 (c :: r) < 9223372036854775808
      · rw [if_pos h2]
        simp only
        rw [if_neg (by omega)]
      · rw [if_neg h2]
        simp only
        rw [if_pos (by omega)]
    · rw [if_neg h1, if_neg (by omega)]
      rfl
theorem shp_int {l : List UInt8} (h : shp l = (2, l.length)) : l ≠ [] ∧ ∀ c ∈ l, isD c = true := by
  cases l with
  | nil => cases (Prod.mk.inj h).1
  | cons c r =>
    refine ⟨by simp, ?_⟩
    rw [shp_cons] at h
    split at h
    · cases (Prod.mk.inj h).1
    · split at h
      · split at h
        · have e := (Prod.mk.inj h).2
          have := run_all isD (c :: r)
          rw [e, List.take_length] at this
          exact this
        · cases (Prod.mk.inj h).1
      · split at h
        · cases (Prod.mk.inj h).1
        · rw [sgn_cons] at h
          split at h
          · cases (Prod.mk.inj h).1
          · split at h <;> cases (Prod.mk.inj h).1
end Go.Proofs.YtbkpjhffmaldmaaGreatDoor
namespace Go.Proofs.YtbkpjhffmaldmaaGreatDoor
open dec

theorem flt_one (p : List UInt8) : flt 1 p = if 24 < p.length then 2 else 0 := rfl
theorem flt_two (p : List UInt8) : flt 2 p = if 1152921504606846976 < dval 0 p then 2 else 0 := rfl
theorem flt_three (p : List UInt8) : flt 3 p = paE p := rfl
theorem flt_four (p : List UInt8) : flt 4 p = txE (cont 4 p) := rfl
theorem flt_five (p : List UInt8) : flt 5 p = 0 := rfl
theorem flt_zero (p : List UInt8) : flt 0 p = 80 := rfl
theorem isL_D {c : UInt8} (h : isD c = true) : ¬ isL c = true := by
  unfold isD at h
  unfold isL
  rw [Bool.and_eq_true, decide_eq_true_eq, decide_eq_true_eq] at h ⊢
  omega
theorem pr_int {t : ByteArray} {ds : List UInt8} (ht : t.data.toList = ds) (h0 : ds ≠ []) (hd : ∀ c ∈ ds, isD c = true) (hv : dval 0 ds ≤ 1152921504606846976) (a : Int) : pr ⟨2, t, a⟩ = true := by
  rw [pr_iff]
  have hs : so ⟨2, t, a⟩ = ds := ht
  rw [hs]
  refine ⟨?_, by show flt 2 ds = 0; rw [flt_two, if_neg (by omega)]⟩
  cases ds with
  | nil => exact absurd rfl h0
  | cons c r =>
    have hc := hd c (List.mem_cons_self ..)
    rw [shp_cons, if_neg (isL_D hc), if_pos hc, run_whole hd, List.drop_length, if_pos (show pnt [] = 0 from rfl)]
theorem pr_decimal {t : ByteArray} {ds fs : List UInt8} (ht : t.data.toList = ds ++ 46 :: fs) (h1 : ds ≠ []) (h2 : fs ≠ []) (hd : ∀ c ∈ ds, isD c = true) (hf : ∀ c ∈ fs, isD c = true) (hp : paE (ds ++ 46 :: fs) = 0) (a : Int) : pr ⟨3, t, a⟩ = true := by
  rw [pr_iff]
  have hs : so ⟨3, t, a⟩ = ds ++ 46 :: fs := ht
  rw [hs]
  refine ⟨?_, by show flt 3 _ = 0; rw [flt_three, hp]⟩
  cases ds with
  | nil => exact absurd rfl h1
  | cons c r =>
    have hc := hd c (List.mem_cons_self ..)
    have hr : run isD ((c :: r) ++ 46 :: fs) = (c :: r).length := by
      rw [run_stop (by decide), run_whole hd]
    rw [List.cons_append] at hr ⊢
    rw [shp_cons, if_neg (isL_D hc), if_pos hc, hr, ← List.cons_append, List.drop_left, show pnt (46 :: fs) = fs.length by rw [pnt_cons, if_pos (by decide), run_whole hf], if_neg (by cases fs; exact absurd rfl h2; simp)]
    simp
    omega
theorem pr_txt {t : ByteArray} (h : txE t.data.toList = 0) (a : Int) : pr ⟨4, t, a⟩ = true := by
  rw [pr_iff]
  have hs : so ⟨4, t, a⟩ = 34 :: (t.data.toList ++ [34]) := rfl
  have hc : cont 4 (34 :: (t.data.toList ++ [34])) = t.data.toList := cont_so ⟨4, t, a⟩
  rw [hs]
  refine ⟨?_, by show flt 4 _ = 0; rw [flt_four, hc, h]⟩
  have hq : ∀ c ∈ t.data.toList, isQ c = true := by
    have hp : pB 32 t.data.toList = true := by
      unfold txE at h
      split at h
      · cases h
      · split at h
        · assumption
        · cases h
    unfold pB at hp
    rw [List.all_eq_true] at hp
    intro c hc
    have := hp c hc
    unfold okB at this
    unfold isQ
    simp only [Bool.and_eq_true, decide_eq_true_eq, Bool.not_eq_true', decide_eq_false_iff_not] at this ⊢
    omega
  have hr : run isQ (t.data.toList ++ [34]) = t.data.toList.length := by
    rw [run_stop (by decide), run_whole hq]
  rw [shp_cons, if_neg (by decide), if_neg (by decide), hr, List.drop_left, if_pos ⟨by decide, rfl⟩]
  simp
/-- A word. -/
def wordP (l : List UInt8) : Bool := match l with
  | [] => false
  | c :: r => isL c && decide (run isW (c :: r) = (c :: r).length) && decide ((c :: r).length ≤ 24)
theorem wd1_eq (s : ByteArray) : wd1 s = wordP s.data.toList := by
  unfold wd1
  rw [Bool.eq_iff_iff, pr_iff]
  show shp s.data.toList = (1, s.data.toList.length) ∧ flt 1 s.data.toList = 0 ↔ _
  rw [flt_one]
  cases h : s.data.toList with
  | nil => simp [shp, wordP]
  | cons c r =>
    show _ ↔ (isL c && decide (run isW (c :: r) = (c :: r).length) && decide ((c :: r).length ≤ 24)) = true
    rw [Bool.and_eq_true, Bool.and_eq_true, decide_eq_true_eq, decide_eq_true_eq, shp_cons]
    constructor
    · rintro ⟨h1, h2⟩
      split at h1
      · rename_i hl
        refine ⟨⟨hl, (Prod.mk.inj h1).2⟩, ?_⟩
        split at h2
        · cases h2
        · omega
      · split at h1
        · split at h1
          · have := (Prod.mk.inj h1).1; omega
          · have := (Prod.mk.inj h1).1; omega
        · split at h1
          · have := (Prod.mk.inj h1).1; omega
          · rw [sgn_cons] at h1
            split at h1
            · have := (Prod.mk.inj h1).1; omega
            · split at h1
              · have := (Prod.mk.inj h1).1; omega
              · have := (Prod.mk.inj h1).1; omega
    · rintro ⟨⟨h1, h2⟩, h3⟩
      rw [if_pos h1, if_neg (by omega), h2]
      exact ⟨rfl, rfl⟩
def mns : ByteArray := ⟨#[45]⟩
theorem lex_minus {x : Tk} (h : pr x = true) : lxs 0 false (45 :: so x) = ([⟨5, mns, 0⟩, ⟨x.k, x.t, 1⟩], []) := by
  have hs : sk false (45 :: so x) = 0 := sk_none (by decide) (by decide) _
  have hp : shp (45 :: so x) = (5, 1) := by
    rw [shp_cons, if_neg (by decide), if_neg (by decide), if_neg (by intro h; exact absurd h.1 (by decide)), sgn_cons, if_neg (by rintro ⟨h, _⟩; revert h; decide), if_pos (by decide)]
  rw [lex_step (l' := 45 :: so x) (by rw [hs, List.drop_zero]) (by simp), hp, hs]
  show (if flt 5 _ = 0 then _ else _) = _
  rw [flt_five, if_pos rfl]
  show (_ :: (lxs (0 + 0 + 1) (decide ((5 : Int) = 0)) (so x)).1, (lxs (0 + 0 + 1) (decide ((5 : Int) = 0)) (so x)).2) = _
  rw [lex_alone h]
  rfl
end Go.Proofs.YtbkpjhffmaldmaaGreatDoor
namespace Go.Proofs.YtbkpjhffmaldmaaGreatDoor
open Go.RowKit dec

def cls (c : UInt8) : Int := if c.toNat < 126 then clsTab.getD c.toNat 0 else 0
theorem all_bytes {p : UInt8 → Bool} (h : (List.range 256).all (fun n => p (UInt8.ofNat n)) = true) (c : UInt8) : p c = true := by
  have := List.all_eq_true.1 h c.toNat (List.mem_range.2 c.toNat_lt)
  rwa [UInt8.ofNat_toNat] at this
/-- What the classes mean. -/
def clsOk (c : UInt8) : Bool := decide (0 ≤ cls c ∧ cls c ≤ 8) && ((decide (cls c = 1) || decide (cls c = 2)) == isB c) && (!decide (cls c = 2) == isC c) && ((decide (cls c = 4) || decide (cls c = 5) || decide (cls c = 6)) == isW c)
  && (decide (cls c = 5) == isD c) && ((!decide (cls c = 7) && !decide (cls c = 2)) == isQ c) && (decide (cls c = 4) == isL c) && (decide (cls c = 8) == isS c) && (decide (cls c = 3) == decide (c.toNat = 35)) && (decide (cls c = 7) == decide (c.toNat = 34))
theorem clsOk_all (c : UInt8) : clsOk c = true := all_bytes (by decide +kernel) c
theorem classOf_any (c : UInt8) (w : World) (T : Tabs w) : Calls Tryz.prog 125 #[.int .u8 (c.toNat : Nat)] w fun e w' => e = .returned (.int .u8 (cls c)) ∧ w' = w := by
  have hc := fun h => T.cls.cell gCls c.toNat h
  have hl : clsTab.length = 126 := rfl
  rw [hl] at hc
  clear T hl
  have hlt := c.toNat_lt
  unfold cls
  generalize c.toNat = n at *
  go_enter Tryz.func125, Tryz.ntmps125
  by_cases h : n < 126
  · have h1 := hc h
    rw [if_pos h]
    generalize clsTab.getD n 0 = x at *
    clear hc
    have q1 : decide ((n : Int) < 126) = true := decide_eq_true (by omega)
    go_wp2
    go_ret
    exact ⟨rfl, rfl⟩
  · rw [if_neg h]
    have q1 : decide ((n : Int) < 126) = false := decide_eq_false (by omega)
    clear hc
    go_wp2
    go_ret
    exact ⟨rfl, rfl⟩
end Go.Proofs.YtbkpjhffmaldmaaGreatDoor
namespace Go.Proofs.YtbkpjhffmaldmaaGreatDoor
open Go.RowKit dec

/-- The set st of classes is the predicate p. -/
def Set (st : Int) (p : UInt8 → Bool) : Prop := ∀ c, bits .and .i64 (st.fdiv (2 ^ min (cls c).toNat 64)) 1 = if p c = true then 1 else 0
def setB (st : Int) (p : UInt8 → Bool) (c : UInt8) : Bool := decide (bits .and .i64 (st.fdiv (2 ^ min (cls c).toNat 64)) 1 = if p c = true then 1 else 0)
theorem set_of {st : Int} {p : UInt8 → Bool} (h : (List.range 256).all (fun n => setB st p (UInt8.ofNat n)) = true) : Set st p := fun c => by
  have := all_bytes h c
  unfold setB at this
  exact of_decide_eq_true this
theorem set_B : Set 6 isB := set_of (by decide +kernel)
theorem set_C : Set (-5) isC := set_of (by decide +kernel)
theorem set_W : Set 112 isW := set_of (by decide +kernel)
theorem set_D : Set 32 isD := set_of (by decide +kernel)
theorem set_Q : Set (-133) isQ := set_of (by decide +kernel)
theorem shift_run (st k : Int) (hk : 0 ≤ k) (W : World) : (Op.shift .shr .i64 st .u8 k).run Tryz.prog W = .ok (.int .i64 (st.fdiv (2 ^ min k.toNat 64))) W := by
  unfold Op.shift
  rw [if_neg (by omega)]
  rfl
theorem cls_nonneg (c : UInt8) : 0 ≤ cls c := by
  have := clsOk_all c
  unfold clsOk at this
  simp only [Bool.and_eq_true, decide_eq_true_eq] at this
  omega
theorem str_len (s : ByteArray) : s.data.toList.length = s.size := by rw [Array.length_toList]; rfl
theorem at_drop (s : ByteArray) {j : Nat} (h : j < s.size) : s.data.toList.drop j = s[j] :: s.data.toList.drop (j + 1) := by
  have h' : j < s.data.toList.length := by rw [str_len]; exact h
  rw [List.drop_eq_getElem_cons h']
  rfl
theorem run_drop (p : UInt8 → Bool) (s : ByteArray) {j : Nat} (h : j < s.size) : run p (s.data.toList.drop j) = if p s[j] = true then run p (s.data.toList.drop (j + 1)) + 1 else 0 := by
  rw [at_drop s h]
  rfl
theorem run_out (p : UInt8 → Bool) (s : ByteArray) {j : Nat} (h : s.size ≤ j) : run p (s.data.toList.drop j) = 0 := by
  rw [List.drop_eq_nil_of_le (by rw [str_len]; exact h)]
  rfl
theorem less_dn2 {n d : Nat} (h : d < n) : n - (intOf (Value.int .i64 ((d : Int) + 1))).toNat < n - (intOf (Value.int .i64 (d : Int))).toNat := by
  show n - (((d : Int) + 1)).toNat < n - ((d : Nat) : Int).toNat
  omega
theorem next_at {j : Nat} (h : j < 9223372036854775807) : wrap64 ((j : Int) + 1) = ((j + 1 : Nat) : Int) := by unfold wrap64; omega
theorem less_at {n j : Nat} (h : j < n) {x : Int} (hx : x = ((j + 1 : Nat) : Int)) : n - (intOf (Value.int .i64 x)).toNat < n - (intOf (Value.int .i64 ((j : Nat) : Int))).toNat := by
  subst hx
  show n - ((j + 1 : Nat) : Int).toNat < n - ((j : Nat) : Int).toNat
  omega
theorem retN {a b : Nat} (h : a = b) : Ending.returned (Value.int .i64 (a : Nat)) = Ending.returned (Value.int .i64 (b : Nat)) := by rw [h]
/-- The closure. -/
theorem run_any {st : Int} {p : UInt8 → Bool} (hst : Set st p) (s : ByteArray) (hs : s.size ≤ 140737488355328) (i : Nat) (hi : i ≤ s.size) (b : Nat) (w : World) (hb : w.cell? ⟨b, 0, none⟩ = some (.string s)) (T : Tabs w) :
    Calls Tryz.prog 152 #[.int .i64 (i : Nat), .int .i64 st, .pointer (some ⟨b, 0, none⟩)] w fun e w' => e = .returned (.int .i64 (i + run p (s.data.toList.drop i) : Nat)) ∧ w' = w := by
  have T0 := Lib.hid T
  have H0 := Lib.hid hst
  have Z0 := Lib.hid hs
  obtain ⟨R, hR⟩ : ∃ R, i + run p (s.data.toList.drop i) = R := ⟨_, rfl⟩
  rw [hR]
  replace hR := Lib.hid hR
  replace hi := Lib.hid hi
  clear T hst hs
  go_enter Tryz.func152, Tryz.ntmps152
  go_wp2_with fail
  go_loopw [0] (fun x wr => ∃ j : Nat, x = .int .i64 (j : Nat) ∧ Hid (j ≤ s.size) ∧ Hid (j + run p (s.data.toList.drop j) = R) ∧ wr = w) (fun x _ => s.size - (intOf x).toNat)
  case atStart => exact ⟨i, rfl, hi, hR, rfl⟩
  case round =>
    obtain ⟨j, rfl, hj, hr, rfl⟩ := hrel
    by_cases hc : j < s.size
    · have q2 : decide ((j : Int) < (s.size : Int)) = true := decide_eq_true (by omega)
      have hst := run_drop p s hc
      have f4 := Lib.hid (next_at (j := j) (by have := Z0.out; omega))
      have hbit := H0.out s[j]
      have C := Lib.hid (classOf_any s[j] wr T0.out)
      have HST := Lib.hid hst
      clear hst
      have hsh := shift_run st _ (cls_nonneg s[j])
      generalize cls s[j] = k at C hbit hsh
      generalize st.fdiv (2 ^ min k.toNat 64) = x at hbit hsh
      cases hy : p s[j]
      · rw [hy] at HST hbit
        rw [if_neg (by decide)] at hbit
        have HD : Hid (j = R) := by unfold Hid; rw [← hr.out, HST.out]; rfl
        clear hy hr HST
        go_wp2_with (go_at_call 125; refine (C.out).mono ?_; rintro e w' ⟨rfl, rfl⟩)
        go_ret
        exact ⟨retN HD.out, rfl⟩
      · rw [hy] at HST hbit
        rw [if_pos rfl] at hbit
        have HD : Hid (j + 1 + run p (s.data.toList.drop (j + 1)) = R) := by unfold Hid; rw [← hr.out, HST.out, if_pos rfl]; omega
        clear hy hr HST
        go_wp2_with (go_at_call 125; refine (C.out).mono ?_; rintro e w' ⟨rfl, rfl⟩)
        refine ⟨⟨j + 1, by first | exact congrArg (Value.int .i64) f4.out | rfl, Lib.hid hc, HD, trivial⟩, by first | exact less_at hc f4.out | exact less_dn2 hc⟩
    · have hz := run_out p s (j := j) (by omega)
      have HD : Hid (j = R) := by unfold Hid; rw [← hr.out, hz, Nat.add_zero]
      have q2 : decide ((j : Int) < (s.size : Int)) = false := decide_eq_false (by omega)
      clear hz hr
      go_wp2_with fail
      go_ret
      exact ⟨retN HD.out, rfl⟩
/-- What runsOf hands back. -/
theorem runsOf_any (s : ByteArray) (w : World) : Calls Tryz.prog 124 #[.string s] w fun e w' => e = .returned (.func (.func 152) #[] #[.pointer (some ⟨w.heap.size, 0, none⟩)]) ∧ w'.cell? ⟨w.heap.size, 0, none⟩ = some (.string s) ∧ w'.heap.size = w.heap.size + 1 ∧ Below w.heap.size w w' := by
  have hb := balloc (b0 w) (.cells #[.string s] 9)
  have hc : (w.alloc (.cells #[.string s] 9)).cell? ⟨w.heap.size, 0, none⟩ = some (.string s) := by simp [go_sem]
  have hz : (w.alloc (.cells #[.string s] 9)).heap.size = w.heap.size + 1 := by simp
  go_enter Tryz.func124, Tryz.ntmps124
  go_wp2_with fail
  go_ret
  exact ⟨rfl, hc, hz, hb⟩
end Go.Proofs.YtbkpjhffmaldmaaGreatDoor
namespace Go.Proofs.YtbkpjhffmaldmaaGreatDoor
open Go.RowKit dec

theorem sk_end (s : ByteArray) {j : Nat} (h : s.size ≤ j) : sk false (s.data.toList.drop j) = 0 := by
  rw [List.drop_eq_nil_of_le (by rw [str_len]; exact h)]
  rfl
/-- One pass: blanks, then perhaps a comment. -/
theorem sk_pass (s : ByteArray) (i : Nat) : i + sk false (s.data.toList.drop i) = (i + run isB (s.data.toList.drop i)) + sk false (s.data.toList.drop (i + run isB (s.data.toList.drop i))) := by
  conv => lhs; rw [sk_blanks]
  rw [List.drop_drop]
  omega
theorem sk_comment (s : ByteArray) {j : Nat} (h : j < s.size) (hc : s[j].toNat = 35) : j + sk false (s.data.toList.drop j) = (j + run isC (s.data.toList.drop j)) + sk false (s.data.toList.drop (j + run isC (s.data.toList.drop j))) := by
  have e := at_drop s h
  conv => lhs; rw [e]
  rw [sk_hash hc, ← e, List.drop_drop]
  omega
theorem sk_stop (s : ByteArray) {j : Nat} (h : j < s.size) (h1 : isB s[j] = false) (hc : s[j].toNat ≠ 35) : sk false (s.data.toList.drop j) = 0 := by
  rw [at_drop s h]
  exact sk_none h1 hc _
theorem run_here (p : UInt8 → Bool) (s : ByteArray) {i j : Nat} (hj : j = i + run p (s.data.toList.drop i)) (h : j < s.size) : p s[j] = false := by
  subst hj
  refine run_at p (s.data.toList.drop i) _ ?_
  rw [List.drop_drop, at_drop s h]
  rfl
theorem run_size (p : UInt8 → Bool) (s : ByteArray) {i : Nat} (h : i ≤ s.size) : i + run p (s.data.toList.drop i) ≤ s.size := by
  have := run_le p (s.data.toList.drop i)
  rw [List.length_drop, str_len] at this
  omega
theorem run_more (p : UInt8 → Bool) (s : ByteArray) {j : Nat} (h : j < s.size) (hp : p s[j] = true) : j < j + run p (s.data.toList.drop j) := by
  rw [run_drop p s h, if_pos hp]
  omega
theorem eqb (a b : Int) : (a == b) = decide (a = b) := by
  rw [Bool.eq_iff_iff]
  simp
theorem cls_hash (c : UInt8) : (cls c == 3) = decide (c.toNat = 35) := by
  have := clsOk_all c
  unfold clsOk at this
  simp only [Bool.and_eq_true, beq_iff_eq] at this
  rw [← this.1.2, eqb]
end Go.Proofs.YtbkpjhffmaldmaaGreatDoor
namespace Go.Proofs.YtbkpjhffmaldmaaGreatDoor
open Go.RowKit dec

theorem toList_nil (s : ByteArray) : (s.toList == []) = decide (s.size = 0) := by
  rw [ByteArray.toList_eq, Lib.size_eq s]
  cases s.data.toList <;> simp
theorem ext_data (s : ByteArray) (i j : Nat) : (s.extract i j).data.toList = (s.data.toList.drop i).take (j - i) := by
  rw [ByteArray.data_extract, Array.toList_extract, List.extract_eq_take_drop]
theorem ext_tail (s : ByteArray) (i : Nat) : (s.extract i s.size).data.toList = s.data.toList.drop i := by
  rw [ext_data, List.take_of_length_le]
  rw [List.length_drop, str_len]
  omega
theorem pre_two (c : UInt8) (r : List UInt8) (a : UInt8) : Lib.hasPrefix (c :: r) [a, 61] = decide (c = a ∧ r.head? = some 61) := by
  cases r with
  | nil =>
    rw [Bool.eq_iff_iff]
    simp [Lib.hasPrefix, List.isPrefixOf]
  | cons d r =>
    rw [Bool.eq_iff_iff]
    simp only [Lib.hasPrefix, List.isPrefixOf, Bool.and_eq_true, beq_iff_eq, List.head?_cons, Option.some.injEq, decide_eq_true_eq, Bool.and_true]
    constructor
    · rintro ⟨h1, h2⟩; exact ⟨h1.symm, h2.symm⟩
    · rintro ⟨h1, h2⟩; exact ⟨h1.symm, h2.symm⟩
theorem pre_dot (l : List UInt8) : Lib.hasPrefix l [46] = decide (l.head? = some 46) := by
  cases l with
  | nil => rfl
  | cons d r =>
    rw [Bool.eq_iff_iff]
    simp only [Lib.hasPrefix, List.isPrefixOf, beq_iff_eq, List.head?_cons, Option.some.injEq, decide_eq_true_eq, Bool.and_true]
    exact eq_comm
theorem u8_is {c : UInt8} {n : Nat} (d : UInt8) (hd : d.toNat = n) : c.toNat = n ↔ c = d := by
  rw [← hd]
  exact ⟨fun h => UInt8.toNat_inj.1 h, fun h => by rw [h]⟩
theorem sgn_parts (c : UInt8) (r : List UInt8) : sgn (c :: r) = if (Lib.hasPrefix (c :: r) [61, 61] || Lib.hasPrefix (c :: r) [33, 61] || Lib.hasPrefix (c :: r) [60, 61]) = true then (5, 2) else if isS c = true then (5, 1) else (0, 1) := by
  have e1 : c.toNat = 61 ↔ c = 61 := u8_is 61 rfl
  have e2 : c.toNat = 33 ↔ c = 33 := u8_is 33 rfl
  have e3 : c.toNat = 60 ↔ c = 60 := u8_is 60 rfl
  rw [sgn_cons, pre_two, pre_two, pre_two]
  have e : (decide (c = 61 ∧ r.head? = some 61) || decide (c = 33 ∧ r.head? = some 61) || decide (c = 60 ∧ r.head? = some 61)) = true ↔ (c = 61 ∨ c = 33 ∨ c = 60) ∧ r.head? = some 61 := by
    simp only [Bool.or_eq_true, decide_eq_true_eq]
    constructor
    · rintro ((h | h) | h)
      · exact ⟨.inl h.1, h.2⟩
      · exact ⟨.inr (.inl h.1), h.2⟩
      · exact ⟨.inr (.inr h.1), h.2⟩
    · rintro ⟨h | h | h, h2⟩
      · exact .inl (.inl ⟨h, h2⟩)
      · exact .inl (.inr ⟨h, h2⟩)
      · exact .inr ⟨h, h2⟩
  simp only [e, e1, e2, e3]
theorem cls_is (c : UInt8) : (cls c == 8) = isS c ∧ (cls c == 4) = isL c ∧ (cls c == 5) = isD c ∧ (cls c == 7) = decide (c.toNat = 34) := by
  have := clsOk_all c
  unfold clsOk at this
  simp only [Bool.and_eq_true, beq_iff_eq] at this
  refine ⟨?_, ?_, ?_, ?_⟩
  · rw [← this.1.1.2, eqb]
  · rw [← this.1.1.1.2, eqb]
  · rw [← this.1.1.1.1.1.2, eqb]
  · rw [← this.2, eqb]
theorem ret_two {a b c d : Int} (h1 : a = c) (h2 : b = d) : Ending.returned (Value.tuple #[.int .i64 a, .int .i64 b]) = .returned (.tuple #[.int .i64 c, .int .i64 d]) := by rw [h1, h2]
set_option maxRecDepth 100000 in
set_option maxHeartbeats 2000000 in
theorem signShape_any (s : ByteArray) (h0 : 0 < s.size) (w : World) (T : Tabs w) :
    Calls Tryz.prog 127 #[.string s] w fun e w' => e = .returned (.tuple #[.int .i64 (sgn s.data.toList).1, .int .i64 ((sgn s.data.toList).2 : Nat)]) ∧ w' = w := by
  have H1 := Lib.hid (fun W => Tryz.strings_HasPrefix s ⟨#[61, 61]⟩ W)
  have H2 := Lib.hid (fun W => Tryz.strings_HasPrefix s ⟨#[33, 61]⟩ W)
  have H3 := Lib.hid (fun W => Tryz.strings_HasPrefix s ⟨#[60, 61]⟩ W)
  have e := at_drop s h0
  rw [List.drop_zero] at e
  have hg := sgn_parts s[0] (s.data.toList.drop (0 + 1))
  rw [← e] at hg
  rw [show (⟨#[61, 61]⟩ : ByteArray).data.toList = [61, 61] from rfl] at H1
  rw [show (⟨#[33, 61]⟩ : ByteArray).data.toList = [33, 61] from rfl] at H2
  rw [show (⟨#[60, 61]⟩ : ByteArray).data.toList = [60, 61] from rfl] at H3
  generalize Lib.hasPrefix s.data.toList [61, 61] = b1 at *
  generalize Lib.hasPrefix s.data.toList [33, 61] = b2 at *
  generalize Lib.hasPrefix s.data.toList [60, 61] = b3 at *
  have C := Lib.hid (classOf_any s[0] w T)
  have hS := (cls_is s[0]).1
  generalize isS s[0] = z at hS hg
  generalize cls s[0] = k at C hS
  generalize sgn s.data.toList = g at *
  clear T e
  cases b1
  · cases b2
    · cases b3
      · cases z
        · simp only [Bool.or_self, Bool.false_eq_true, if_false] at hg
          subst hg
          go_enter Tryz.func127, Tryz.ntmps127
          go_wp2_with fail
          refine (H1.out _).mono ?_
          rintro e w' ⟨rfl, rfl⟩
          go_wp2_with fail
          refine (H2.out _).mono ?_
          rintro e w' ⟨rfl, rfl⟩
          go_wp2_with fail
          refine (H3.out _).mono ?_
          rintro e w' ⟨rfl, rfl⟩
          go_wp2_with fail
          refine C.out.mono ?_
          rintro e w' ⟨rfl, rfl⟩
          go_wp2_with fail
          go_ret2
          exact ⟨rfl, rfl⟩
        · simp only [Bool.or_self, Bool.false_eq_true, if_false, if_true] at hg
          subst hg
          go_enter Tryz.func127, Tryz.ntmps127
          go_wp2_with fail
          refine (H1.out _).mono ?_
          rintro e w' ⟨rfl, rfl⟩
          go_wp2_with fail
          refine (H2.out _).mono ?_
          rintro e w' ⟨rfl, rfl⟩
          go_wp2_with fail
          refine (H3.out _).mono ?_
          rintro e w' ⟨rfl, rfl⟩
          go_wp2_with fail
          refine C.out.mono ?_
          rintro e w' ⟨rfl, rfl⟩
          go_wp2_with fail
          go_ret2
          exact ⟨rfl, rfl⟩
      · simp only [Bool.or_true, if_true] at hg
        subst hg
        go_enter Tryz.func127, Tryz.ntmps127
        go_wp2_with fail
        refine (H1.out _).mono ?_
        rintro e w' ⟨rfl, rfl⟩
        go_wp2_with fail
        refine (H2.out _).mono ?_
        rintro e w' ⟨rfl, rfl⟩
        go_wp2_with fail
        refine (H3.out _).mono ?_
        rintro e w' ⟨rfl, rfl⟩
        go_wp2_with fail
        go_ret2
        exact ⟨rfl, rfl⟩
    · simp only [Bool.or_true, Bool.true_or, if_true] at hg
      subst hg
      go_enter Tryz.func127, Tryz.ntmps127
      go_wp2_with fail
      refine (H1.out _).mono ?_
      rintro e w' ⟨rfl, rfl⟩
      go_wp2_with fail
      refine (H2.out _).mono ?_
      rintro e w' ⟨rfl, rfl⟩
      go_wp2_with fail
      go_ret2
      exact ⟨rfl, rfl⟩
  · simp only [Bool.true_or, if_true] at hg
    subst hg
    go_enter Tryz.func127, Tryz.ntmps127
    go_wp2_with fail
    refine (H1.out _).mono ?_
    rintro e w' ⟨rfl, rfl⟩
    go_wp2_with fail
    go_ret2
    exact ⟨rfl, rfl⟩
end Go.Proofs.YtbkpjhffmaldmaaGreatDoor
namespace Go.Proofs.YtbkpjhffmaldmaaGreatDoor
open Go.RowKit dec

theorem run0_any {st : Int} {p : UInt8 → Bool} (hst : Set st p) (s : ByteArray) (hs : s.size ≤ 140737488355328) (b : Nat) (w : World) (hb : w.cell? ⟨b, 0, none⟩ = some (.string s)) (T : Tabs w) :
    Calls Tryz.prog 152 #[.int .i64 0, .int .i64 st, .pointer (some ⟨b, 0, none⟩)] w fun e w' => e = .returned (.int .i64 (run p s.data.toList : Nat)) ∧ w' = w := by
  have := run_any hst s hs 0 (Nat.zero_le _) b w hb T
  rw [List.drop_zero, Nat.zero_add] at this
  exact this
theorem run1_any {st : Int} {p : UInt8 → Bool} (hst : Set st p) (s : ByteArray) (hs : s.size ≤ 140737488355328) (i : Nat) (hi : i + 1 ≤ s.size) (b : Nat) (w : World) (hb : w.cell? ⟨b, 0, none⟩ = some (.string s)) (T : Tabs w) :
    Calls Tryz.prog 152 #[.int .i64 ((i : Nat) + 1), .int .i64 st, .pointer (some ⟨b, 0, none⟩)] w fun e w' => e = .returned (.int .i64 ((i + 1 + run p (s.data.toList.drop (i + 1)) : Nat) : Int)) ∧ w' = w :=
  run_any hst s hs (i + 1) hi b w hb T
theorem shp_at (s : ByteArray) (h0 : 0 < s.size) : s.data.toList = s[0] :: s.data.toList.drop 1 := by
  have e := at_drop s h0
  rwa [List.drop_zero] at e
theorem shp_L (s : ByteArray) (h0 : 0 < s.size) (h : isL s[0] = true) : shp s.data.toList = (1, run isW s.data.toList) := by
  have e := shp_at s h0
  rw [e, shp_cons, if_pos h]
theorem not_LD {c : UInt8} (h : isL c = true) : isD c = false := by
  cases hd : isD c
  · rfl
  · exact absurd h (isL_D hd)
theorem shp_D (s : ByteArray) (h0 : 0 < s.size) (h : isD s[0] = true) : shp s.data.toList = if pnt (s.data.toList.drop (run isD s.data.toList)) = 0 then (2, run isD s.data.toList) else (3, run isD s.data.toList + 1 + pnt (s.data.toList.drop (run isD s.data.toList))) := by
  have e := shp_at s h0
  rw [e, shp_cons, if_neg (isL_D h), if_pos h]
theorem pnt_hit {l : List UInt8} (h : l.head? = some 46) : pnt l = run isD (l.drop 1) := by
  cases l with
  | nil => cases h
  | cons c r =>
    rw [List.head?_cons, Option.some.injEq] at h
    rw [pnt_cons, if_pos (by rw [h]; rfl)]
    rfl
theorem pnt_miss {l : List UInt8} (h : l.head? ≠ some 46) : pnt l = 0 := by
  cases l with
  | nil => rfl
  | cons c r =>
    rw [List.head?_cons, ne_eq, Option.some.injEq] at h
    rw [pnt_cons, if_neg (fun e => h (UInt8.toNat_inj.1 (e.trans rfl)))]
theorem head_drop (s : ByteArray) (n : Nat) : (s.data.toList.drop n).head? = if h : n < s.size then some s[n] else none := by
  by_cases h : n < s.size
  · rw [dif_pos h, at_drop s h]
    rfl
  · rw [dif_neg h, List.drop_eq_nil_of_le (by rw [str_len]; omega)]
    rfl
theorem shp_Q (s : ByteArray) (h0 : 0 < s.size) (h : s[0].toNat = 34) : shp s.data.toList = if (s.data.toList.drop (1 + run isQ (s.data.toList.drop 1))).head? = some 34 then (4, 1 + run isQ (s.data.toList.drop 1) + 1) else sgn s.data.toList := by
  have e := shp_at s h0
  have h1 : ¬ isL s[0] = true := by unfold isL; rw [h]; decide
  have h2 : ¬ isD s[0] = true := by unfold isD; rw [h]; decide
  generalize s.data.toList.drop 1 = r at e
  rw [e, shp_cons, if_neg h1, if_neg h2, Nat.add_comm 1 (run isQ r), List.drop_succ_cons]
  simp only [h, true_and]
theorem shp_S (s : ByteArray) (h0 : 0 < s.size) (h1 : isL s[0] = false) (h2 : isD s[0] = false) (h : s[0].toNat ≠ 34) : shp s.data.toList = sgn s.data.toList := by
  have e := shp_at s h0
  generalize s.data.toList.drop 1 = r at e
  rw [e, shp_cons, if_neg (by rw [h1]; decide), if_neg (by rw [h2]; decide), if_neg (by omega)]
theorem ret_shp {k : Int} {n : Nat} {q : Int × Nat} (h : q = (k, n)) : Ending.returned (Value.tuple #[.int .i64 k, .int .i64 (n : Nat)]) = .returned (.tuple #[.int .i64 q.1, .int .i64 (q.2 : Nat)]) := by rw [h]
set_option maxRecDepth 100000 in
set_option maxHeartbeats 4000000 in
theorem shape_any (s : ByteArray) (hs : s.size ≤ 140737488355328) (w : World) (T : Tabs w) :
    Calls Tryz.prog 91 #[.string s] w fun e w' => e = .returned (.tuple #[.int .i64 (shp s.data.toList).1, .int .i64 ((shp s.data.toList).2 : Nat)]) ∧ Below w.heap.size w w' := by
  by_cases h0 : 0 < s.size
  · have q1 : (s.toList == []) = false := by rw [toList_nil]; exact decide_eq_false (by omega)
    have RC := Lib.hid (runsOf_any s w)
    have T0 := Lib.hid T
    have C := Lib.hid (fun W T => classOf_any s[0] W T)
    have SG := Lib.hid (fun W T => signShape_any s h0 W T)
    obtain ⟨_, k4, k5, k7⟩ := cls_is s[0]
    have fL := Lib.hid (shp_L s h0)
    have fD := Lib.hid (shp_D s h0)
    have fQ := Lib.hid (shp_Q s h0)
    have fS := Lib.hid (shp_S s h0)
    obtain ⟨g, hg⟩ : ∃ g, shp s.data.toList = g := ⟨_, rfl⟩
    rw [hg] at fL fD fQ fS ⊢
    clear hg T
    cases hL : isL s[0]
    · cases hD : isD s[0]
      · by_cases h34 : s[0].toNat = 34
        · rw [hL] at k4
          rw [hD] at k5
          rw [decide_eq_true h34] at k7
          have hgQ := fQ.out h34
          have hnz := run_size isQ s (i := 1) h0
          obtain ⟨n, hn⟩ : ∃ n, 1 + run isQ (s.data.toList.drop 1) = n := ⟨_, rfl⟩
          have CQ := Lib.hid (fun W h T => (run_any set_Q s hs 1 h0 w.heap.size W h T : Calls Tryz.prog 152 #[.int .i64 1, .int .i64 (-133), .pointer (some ⟨w.heap.size, 0, none⟩)] W fun e w' => e = .returned (.int .i64 ((1 + run isQ (s.data.toList.drop 1) : Nat) : Int)) ∧ w' = W))
          rw [hn] at CQ hgQ hnz
          rw [head_drop] at hgQ
          generalize cls s[0] = k at C k4 k5 k7
          clear hL hD h34 fL fD fQ fS hn
          generalize sgn s.data.toList = q at *
          by_cases hc : n < s.size
          · rw [dif_pos hc] at hgQ
            have q2 : decide ((n : Int) < (s.size : Int)) = true := decide_eq_true (by omega)
            have C2 := Lib.hid (fun W T => classOf_any s[n] W T)
            have k77 := (cls_is s[n]).2.2.2
            generalize cls s[n] = kk at C2 k77
            by_cases h2 : s[n].toNat = 34
            · rw [if_pos (by rw [show s[n] = 34 from UInt8.toNat_inj.1 h2])] at hgQ
              rw [decide_eq_true h2] at k77
              replace hgQ := Lib.hid hgQ
              clear h2 SG
              go_enter Tryz.func91, Tryz.ntmps91
              go_wp2_with fail
              refine RC.out.mono ?_
              rintro e w1 ⟨rfl, c1, z1, b1⟩
              have B1 := Lib.hid b1
              have T1 := Lib.hid (T0.out.stays b1)
              clear b1 z1
              go_wp2_with fail
              refine (C.out _ T1.out).mono ?_
              rintro e w2 ⟨rfl, rfl⟩
              have CQ1 := Lib.hid (CQ.out w2 c1 T1.out)
              go_wp2_with fail
              refine CQ1.out.mono ?_
              rintro e w3 ⟨rfl, rfl⟩
              go_wp2_with fail
              refine (C2.out _ T1.out).mono ?_
              rintro e w3 ⟨rfl, rfl⟩
              go_wp2_with fail
              go_ret2
              exact ⟨by rw [hgQ.out]; rfl, B1.out⟩
            · rw [if_neg (by intro e; apply h2; rw [Option.some.inj e]; rfl)] at hgQ
              rw [decide_eq_false h2] at k77
              replace hgQ := Lib.hid hgQ
              clear h2
              go_enter Tryz.func91, Tryz.ntmps91
              go_wp2_with fail
              refine RC.out.mono ?_
              rintro e w1 ⟨rfl, c1, z1, b1⟩
              have B1 := Lib.hid b1
              have T1 := Lib.hid (T0.out.stays b1)
              clear b1 z1
              go_wp2_with fail
              refine (C.out _ T1.out).mono ?_
              rintro e w2 ⟨rfl, rfl⟩
              have CQ1 := Lib.hid (CQ.out w2 c1 T1.out)
              go_wp2_with fail
              refine CQ1.out.mono ?_
              rintro e w3 ⟨rfl, rfl⟩
              go_wp2_with fail
              refine (C2.out _ T1.out).mono ?_
              rintro e w3 ⟨rfl, rfl⟩
              go_wp2_with fail
              refine (SG.out _ T1.out).mono ?_
              rintro e w3 ⟨rfl, rfl⟩
              go_wp2_with fail
              go_ret2
              exact ⟨by rw [hgQ.out]; rfl, B1.out⟩
          · rw [dif_neg hc, if_neg (by intro e; cases e)] at hgQ
            have q2 : decide ((n : Int) < (s.size : Int)) = false := decide_eq_false (by omega)
            replace hgQ := Lib.hid hgQ
            go_enter Tryz.func91, Tryz.ntmps91
            go_wp2_with fail
            refine RC.out.mono ?_
            rintro e w1 ⟨rfl, c1, z1, b1⟩
            have B1 := Lib.hid b1
            have T1 := Lib.hid (T0.out.stays b1)
            clear b1 z1
            go_wp2_with fail
            refine (C.out _ T1.out).mono ?_
            rintro e w2 ⟨rfl, rfl⟩
            have CQ1 := Lib.hid (CQ.out w2 c1 T1.out)
            go_wp2_with fail
            refine CQ1.out.mono ?_
            rintro e w3 ⟨rfl, rfl⟩
            go_wp2_with fail
            refine (SG.out _ T1.out).mono ?_
            rintro e w3 ⟨rfl, rfl⟩
            go_wp2_with fail
            go_ret2
            exact ⟨by rw [hgQ.out]; rfl, B1.out⟩
        · rw [hL] at k4
          rw [hD] at k5
          rw [decide_eq_false h34] at k7
          have hgS := Lib.hid (fS.out hL hD h34)
          generalize cls s[0] = k at C k4 k5 k7
          clear hL hD h34 fL fD fQ fS
          generalize sgn s.data.toList = q at *
          go_enter Tryz.func91, Tryz.ntmps91
          go_wp2_with fail
          refine RC.out.mono ?_
          rintro e w1 ⟨rfl, c1, z1, b1⟩
          have B1 := Lib.hid b1
          have T1 := Lib.hid (T0.out.stays b1)
          clear b1 z1
          go_wp2_with fail
          refine (C.out _ T1.out).mono ?_
          rintro e w2 ⟨rfl, rfl⟩
          go_wp2_with fail
          refine (SG.out _ T1.out).mono ?_
          rintro e w2 ⟨rfl, rfl⟩
          go_wp2_with fail
          go_ret2
          exact ⟨by rw [hgS.out]; rfl, B1.out⟩
      · rw [hL] at k4
        rw [hD] at k5
        have hgD := fD.out hD
        have hnz := run_size isD s (i := 0) (Nat.zero_le _)
        rw [List.drop_zero, Nat.zero_add] at hnz
        have CD := Lib.hid (fun W h T => run0_any set_D s hs w.heap.size W h T)
        have CE := Lib.hid (fun i hi W h T => run1_any set_D s hs i hi w.heap.size W h T)
        obtain ⟨n, hn⟩ : ∃ n, run isD s.data.toList = n := ⟨_, rfl⟩
        rw [hn] at CD hgD hnz
        have HP := Lib.hid (fun W => Tryz.strings_HasPrefix (s.extract n s.size) ⟨#[46]⟩ W)
        rw [ext_tail, show (⟨#[46]⟩ : ByteArray).data.toList = [46] from rfl, pre_dot] at HP
        generalize cls s[0] = k at C k4 k5 k7
        clear hL hD fL fD fQ fS hn SG k7
        by_cases hh : (s.data.toList.drop n).head? = some 46
        · have hnl : n < s.size := by
            rcases Nat.lt_or_ge n s.size with h1 | h1
            · exact h1
            · rw [head_drop, dif_neg (by omega)] at hh
              cases hh
          have hmz := run_size isD s (i := n + 1) hnl
          rw [decide_eq_true hh] at HP
          rw [pnt_hit hh, List.drop_drop] at hgD
          have CE1 := Lib.hid (CE.out n hnl)
          generalize run isD (s.data.toList.drop (n + 1)) = m at *
          clear hh CE
          by_cases hm : m = 0
          · subst hm
            rw [if_pos rfl] at hgD
            replace hgD := Lib.hid hgD
            rw [Nat.add_zero] at CE1
            have q3 : decide (((n : Int) + 1) < ((n + 1 : Nat) : Int)) = false := decide_eq_false (by omega)
            go_enter Tryz.func91, Tryz.ntmps91
            go_wp2_with fail
            refine RC.out.mono ?_
            rintro e w1 ⟨rfl, c1, z1, b1⟩
            have B1 := Lib.hid b1
            have T1 := Lib.hid (T0.out.stays b1)
            clear b1 z1
            go_wp2_with fail
            refine (C.out _ T1.out).mono ?_
            rintro e w2 ⟨rfl, rfl⟩
            have CD1 := Lib.hid (CD.out w2 c1 T1.out)
            have CE2 := Lib.hid (CE1.out w2 c1 T1.out)
            go_wp2_with fail
            refine CD1.out.mono ?_
            rintro e w3 ⟨rfl, rfl⟩
            go_wp2_with fail
            refine (HP.out _).mono ?_
            rintro e w3 ⟨rfl, rfl⟩
            go_wp2_with fail
            refine CE2.out.mono ?_
            rintro e w3 ⟨rfl, rfl⟩
            go_wp2_with fail
            go_ret2
            exact ⟨by rw [hgD.out]; rfl, B1.out⟩
          · rw [if_neg hm] at hgD
            replace hgD := Lib.hid hgD
            have q3 : decide (((n : Int) + 1) < ((n + 1 + m : Nat) : Int)) = true := decide_eq_true (by omega)
            go_enter Tryz.func91, Tryz.ntmps91
            go_wp2_with fail
            refine RC.out.mono ?_
            rintro e w1 ⟨rfl, c1, z1, b1⟩
            have B1 := Lib.hid b1
            have T1 := Lib.hid (T0.out.stays b1)
            clear b1 z1
            go_wp2_with fail
            refine (C.out _ T1.out).mono ?_
            rintro e w2 ⟨rfl, rfl⟩
            have CD1 := Lib.hid (CD.out w2 c1 T1.out)
            have CE2 := Lib.hid (CE1.out w2 c1 T1.out)
            go_wp2_with fail
            refine CD1.out.mono ?_
            rintro e w3 ⟨rfl, rfl⟩
            go_wp2_with fail
            refine (HP.out _).mono ?_
            rintro e w3 ⟨rfl, rfl⟩
            go_wp2_with fail
            refine CE2.out.mono ?_
            rintro e w3 ⟨rfl, rfl⟩
            go_wp2_with fail
            refine CE2.out.mono ?_
            rintro e w3 ⟨rfl, rfl⟩
            go_wp2_with fail
            go_ret2
            exact ⟨by rw [hgD.out]; rfl, B1.out⟩
        · rw [decide_eq_false hh] at HP
          rw [pnt_miss hh, if_pos rfl] at hgD
          replace hgD := Lib.hid hgD
          clear hh CE
          go_enter Tryz.func91, Tryz.ntmps91
          go_wp2_with fail
          refine RC.out.mono ?_
          rintro e w1 ⟨rfl, c1, z1, b1⟩
          have B1 := Lib.hid b1
          have T1 := Lib.hid (T0.out.stays b1)
          clear b1 z1
          go_wp2_with fail
          refine (C.out _ T1.out).mono ?_
          rintro e w2 ⟨rfl, rfl⟩
          have CD1 := Lib.hid (CD.out w2 c1 T1.out)
          go_wp2_with fail
          refine CD1.out.mono ?_
          rintro e w3 ⟨rfl, rfl⟩
          go_wp2_with fail
          refine (HP.out _).mono ?_
          rintro e w3 ⟨rfl, rfl⟩
          go_wp2_with fail
          go_ret2
          exact ⟨by rw [hgD.out]; rfl, B1.out⟩
    · have hgL := Lib.hid (fL.out hL)
      rw [hL] at k4
      generalize cls s[0] = k at C k4 k5 k7
      clear hL fL fD fQ fS k5 k7 SG
      go_enter Tryz.func91, Tryz.ntmps91
      go_wp2_with fail
      refine RC.out.mono ?_
      rintro e w1 ⟨rfl, c1, z1, b1⟩
      have B1 := Lib.hid b1
      have T1 := Lib.hid (T0.out.stays b1)
      have CW := Lib.hid (run0_any set_W s hs w.heap.size w1 c1 T1.out)
      clear b1 z1
      generalize run isW s.data.toList = n at *
      go_wp2_with fail
      refine (C.out _ T1.out).mono ?_
      rintro e w2 ⟨rfl, rfl⟩
      go_wp2_with fail
      refine CW.out.mono ?_
      rintro e w2 ⟨rfl, rfl⟩
      go_wp2_with fail
      go_ret2
      exact ⟨by rw [hgL.out]; rfl, B1.out⟩
  · have q1 : (s.toList == []) = true := by rw [toList_nil]; exact decide_eq_true (by omega)
    have hn : s.data.toList = [] := List.eq_nil_of_length_eq_zero (by rw [str_len]; omega)
    have hg := Lib.hid (show shp s.data.toList = (0, 0) by rw [hn]; rfl)
    clear T hn hs
    go_enter Tryz.func91, Tryz.ntmps91
    go_wp2_with fail
    go_ret2
    exact ⟨by rw [hg.out]; rfl, b0 w⟩
end Go.Proofs.YtbkpjhffmaldmaaGreatDoor
namespace Go.Proofs.YtbkpjhffmaldmaaGreatDoor
open Go.RowKit dec

theorem emp (s : ByteArray) : s.toList.isEmpty = decide (s.size = 0) := by
  rw [ByteArray.toList_eq, Lib.size_eq s]
  cases s.data.toList <;> simp
theorem isFormed_any (k n : Int) (s : ByteArray) (w : World) : Calls Tryz.prog 53 #[.agg #[.int .i64 k, .int .i64 n, .string s]] w fun e w' => e = .returned (.bool (fmd ⟨k, n, s⟩)) ∧ Below w.heap.size w w' := by
  go_enter Tryz.func53, Tryz.ntmps53
  go_wp2
  all_goals go_ret
  all_goals refine ⟨congrArg (fun b => Ending.returned (Value.bool b)) ?_, balloc (b0 w) _⟩
  all_goals simp_all [fmd, emp]
  all_goals rfl
theorem isLimited_any (k n : Int) (s : ByteArray) (w : World) : Calls Tryz.prog 54 #[.agg #[.int .i64 k, .int .i64 n, .string s]] w fun e w' => e = .returned (.bool (lmt ⟨k, n, s⟩)) ∧ Below w.heap.size w w' := by
  go_enter Tryz.func54, Tryz.ntmps54
  go_wp2
  all_goals go_ret
  all_goals refine ⟨congrArg (fun b => Ending.returned (Value.bool b)) ?_, balloc (b0 w) _⟩
  all_goals simp_all [lmt, rg]
  all_goals omega
/-- The loop over the bytes: what is left says the same. -/
theorem pB_drop (lo : Nat) (l : List UInt8) {i : Nat} (hi : i < l.length) : pB lo (l.drop i) = (okB lo l[i] && pB lo (l.drop (i + 1))) := by
  rw [List.drop_eq_getElem_cons hi]
  rfl
theorem okB_no (lo : Nat) (c : UInt8) : okB lo c = false ↔ (c.toNat < lo ∨ 126 < c.toNat) ∨ c.toNat = 34 ∨ c.toNat = 92 := by
  unfold okB
  simp only [Bool.and_eq_false_iff, Bool.not_eq_false', decide_eq_false_iff_not, decide_eq_true_eq]
  omega
theorem okB_yes (lo : Nat) (c : UInt8) : okB lo c = true ↔ (lo ≤ c.toNat ∧ c.toNat ≤ 126) ∧ c.toNat ≠ 34 ∧ c.toNat ≠ 92 := by
  unfold okB
  simp only [Bool.and_eq_true, Bool.not_eq_true', decide_eq_false_iff_not, decide_eq_true_eq]
  omega
theorem pB_step (lo : Nat) (s : ByteArray) {i : Nat} (hi : i < s.size) : (okB lo s[i] = false → pB lo (s.data.toList.drop i) = false) ∧ (okB lo s[i] = true → pB lo (s.data.toList.drop i) = pB lo (s.data.toList.drop (i + 1))) := by
  have hi' : i < s.data.toList.length := by rw [← Lib.size_eq]; exact hi
  have e : s.data.toList[i] = s[i] := rfl
  rw [pB_drop lo _ hi', e]
  constructor
  · intro h; rw [h]; rfl
  · intro h; rw [h]; rfl
theorem pB_end (lo : Nat) (s : ByteArray) {i : Nat} (hi : ¬ i < s.size) : pB lo (s.data.toList.drop i) = true := by
  rw [List.drop_eq_nil_of_le (by rw [← Lib.size_eq]; omega)]
  rfl
theorem consists_any (lo : Nat) (s : ByteArray) (hs : s.size ≤ 9223372036854775806) (w : World) : Calls Tryz.prog 88 #[.int .u8 (lo : Nat), .string s] w fun e w' => e = .returned (.bool (pB lo s.data.toList)) ∧ w = w' := by
  go_enter Tryz.func88, Tryz.ntmps88
  go_wp2
  go_loopw [9] (fun x wr => ∃ i : Nat, x = .int .i64 (i : Nat) ∧ i ≤ s.size ∧ Hid (pB lo s.data.toList = pB lo (s.data.toList.drop i)) ∧ wr = w) (fun x _ => s.size - (intOf x).toNat)
  case atStart => exact ⟨0, rfl, by omega, rfl, rfl⟩
  case round =>
    obtain ⟨i, rfl, hi, hp, rfl⟩ := hrel
    go_wp2
    case roundEnd =>
      have h1 : i < s.size := by omega
      rename_i h2
      simp only [beq_eq_false_iff_ne] at h2
      refine ⟨⟨i + 1, rfl, by omega, ?_, trivial⟩, ?_⟩
      · exact Lib.hid (hp.out.trans ((pB_step lo s h1).2 ((okB_yes lo s[i]).2 (by omega))))
      · show s.size - ((i : Int) + 1).toNat < s.size - ((i : Nat) : Int).toNat
        omega
    all_goals go_ret
    all_goals refine ⟨congrArg (fun b => Ending.returned (Value.bool b)) (Eq.symm ?_), rfl⟩
    all_goals rw [hp.out]
    all_goals first
      | exact pB_end lo s (by omega)
      | exact (pB_step lo s (by omega)).1 ((okB_no lo _).2 (by omega))
      | (rename_i h2; simp only [beq_iff_eq] at h2; exact (pB_step lo s (by omega)).1 ((okB_no lo _).2 (by omega)))
/-- A value in memory: the block b holds it. -/
def Vx (w : World) (b : Nat) (k n : Int) (s : ByteArray) : Prop := w.cell? ⟨b, 0, none⟩ = some (.int .i64 k) ∧ w.cell? ⟨b, 1, none⟩ = some (.int .i64 n) ∧ w.cell? ⟨b, 2, none⟩ = some (.string s)
theorem Vx.new (w : World) (k n : Int) (s : ByteArray) (T : TypeId) : Vx (w.alloc (.cells #[.int .i64 k, .int .i64 n, .string s] T)) w.heap.size k n s := ⟨by simp [go_sem], by simp [go_sem], by simp [go_sem]⟩
theorem Vx.keeps {w w1 : World} {b : Nat} {k n : Int} {s : ByteArray} (h : Vx w b k n s) (hb : Below w.heap.size w w1) : Vx w1 b k n s := ⟨dec.keeps hb h.1, dec.keeps hb h.2.1, dec.keeps hb h.2.2⟩
theorem Vx.past {w : World} {b : Nat} {k n : Int} {s : ByteArray} (h : Vx w b k n s) (o : Obj) : Vx (w.alloc o) b k n s := h.keeps (balloc (b0 w) o)

theorem isSpelled_any (k n : Int) (s : ByteArray) (hs : s.size ≤ 140737488355328) (w : World) : Calls Tryz.prog 55 #[.agg #[.int .i64 k, .int .i64 n, .string s]] w fun e w' => e = .returned (.bool (spl ⟨k, n, s⟩)) ∧ Below w.heap.size w w' := by
  have C1 : Hid (∀ w, Calls Tryz.prog 88 #[.int .u8 32, .string s] w fun e w' => e = .returned (.bool (pB 32 s.data.toList)) ∧ w = w') := Lib.hid (fun w => consists_any 32 s (by omega) w)
  have C2 : Hid (∀ w, Calls Tryz.prog 88 #[.int .u8 33, .string s] w fun e w' => e = .returned (.bool (pB 33 s.data.toList)) ∧ w = w') := Lib.hid (fun w => consists_any 33 s (by omega) w)
  by_cases k4 : k = 4
  · subst k4
    clear C2
    go_enter Tryz.func55, Tryz.ntmps55
    go_wp2_with fail
    refine (C1.out _).mono ?_
    rintro e w' ⟨rfl, rfl⟩
    go_wp2
    go_ret
    refine ⟨congrArg (fun b => Ending.returned (Value.bool b)) ?_, balloc (b0 _) _⟩
    simp [spl]
  by_cases k5 : k = 5
  · subst k5
    clear C1
    by_cases hz : s.size = 0
    · have hz2 := size_zero hz
      subst hz2
      go_enter Tryz.func55, Tryz.ntmps55
      go_wp2_with fail
      go_ret
      refine ⟨congrArg (fun b => Ending.returned (Value.bool b)) ?_, balloc (b0 _) _⟩
      simp [spl]
    · have he : s.toList.isEmpty = false := by rw [emp]; exact decide_eq_false hz
      go_enter Tryz.func55, Tryz.ntmps55
      go_wp2_with fail
      refine (C2.out _).mono ?_
      rintro e w' ⟨rfl, rfl⟩
      go_wp2
      go_ret
      refine ⟨congrArg (fun b => Ending.returned (Value.bool b)) ?_, balloc (b0 _) _⟩
      simp_all [spl]
  clear C1 C2
  go_enter Tryz.func55, Tryz.ntmps55
  go_wp2_with fail
  go_ret
  refine ⟨congrArg (fun b => Ending.returned (Value.bool b)) ?_, balloc (b0 _) _⟩
  simp_all [spl]
theorem check_any (k n : Int) (s : ByteArray) (hs : s.size ≤ 140737488355328) (w : World) : Calls Tryz.prog 30 #[.agg #[.int .i64 k, .int .i64 n, .string s]] w fun e w' => e = .returned (.int .i64 (ck ⟨k, n, s⟩)) ∧ Below w.heap.size w w' := by
  have C1 := Lib.hid (isFormed_any k n s)
  have C2 := Lib.hid (isLimited_any k n s)
  have C3 := Lib.hid (isSpelled_any k n s hs)
  have V0 := Vx.new w k n s 23
  unfold ck
  generalize fmd ⟨k, n, s⟩ = f at *
  generalize lmt ⟨k, n, s⟩ = l at *
  generalize spl ⟨k, n, s⟩ = p at *
  go_enter Tryz.func30, Tryz.ntmps30
  go_wp2_with fail
  refine (C1.out _).mono ?_
  rintro e w1 ⟨rfl, b1⟩
  obtain ⟨c0, c1, c2⟩ := V0.keeps b1
  have V1 := Lib.hid (V0.keeps b1)
  replace b1 := (balloc (b0 w) _).trans (b1.mono (by simp))
  cases f
  · go_wp2_with fail
    go_ret
    exact ⟨rfl, b1⟩
  go_wp2_with fail
  refine (C2.out _).mono ?_
  rintro e w2 ⟨rfl, b2⟩
  obtain ⟨c0, c1, c2⟩ := V1.out.keeps b2
  have V2 := Lib.hid (V1.out.keeps b2)
  replace b2 := bnext b1 b2
  cases l
  · go_wp2_with fail
    go_ret
    exact ⟨rfl, b2⟩
  go_wp2_with fail
  refine (C3.out _).mono ?_
  rintro e w3 ⟨rfl, b3⟩
  replace b3 := bnext b2 b3
  cases p
  · go_wp2_with fail
    go_ret
    exact ⟨rfl, b3⟩
  · go_wp2_with fail
    go_ret
    exact ⟨rfl, b3⟩
end Go.Proofs.YtbkpjhffmaldmaaGreatDoor
namespace Go.Proofs.YtbkpjhffmaldmaaGreatDoor
open Go.RowKit dec

theorem ba_ext {a b : ByteArray} (h : a.data.toList = b.data.toList) : a = b := by
  cases a; cases b
  simp only at h
  rw [Array.toList_inj.1 h]
theorem ba_of {b : ByteArray} {l : List UInt8} (h : b.data.toList = l) : b = ⟨l.toArray⟩ := ba_ext h
theorem ret_str {a b : ByteArray} (h : a = b) : Ending.returned (Value.string a) = .returned (.string b) := by rw [h]
theorem ret_int {k : IntKind} {a b : Int} (h : a = b) : Ending.returned (Value.int k a) = .returned (.int k b) := by rw [h]
theorem ret_bool {a b : Bool} (h : a = b) : Ending.returned (Value.bool a) = .returned (.bool b) := by rw [h]
theorem slice_ij (s : ByteArray) {i j : Nat} {x y : Int} (hx : x = (i : Nat)) (hy : y = (j : Nat)) (hij : i ≤ j) (hj : j ≤ s.size) (W : World) : (Instr.slice 9 (.string s) (some (.int .i64 x)) (some (.int .i64 y)) none).run Tryz.prog W = .ok (.string (s.extract i j)) W := by
  subst hx hy
  exact Go.run_slice_string W 9 s .i64 .i64 i j Tryz.underlying9 (by omega) (by omega) (by omega)
set_option maxRecDepth 100000 in
theorem content_any (k : Int) (s : ByteArray) (hs : s.size ≤ 140737488355328) (h : k = 4 → 2 ≤ s.size) (w : World) :
    Calls Tryz.prog 130 #[.int .i64 k, .string s] w fun e w' => e = .returned (.string ⟨(cont k s.data.toList).toArray⟩) ∧ w' = w := by
  by_cases hk : k = 4
  · have h2 := h hk
    have q1 : (k == 4) = true := by rw [hk]; rfl
    have he := Lib.hid (show s.extract 1 (s.size - 1) = ⟨(cont k s.data.toList).toArray⟩ by
      refine ba_of ?_
      rw [ext_data]
      unfold cont
      rw [if_pos hk, str_len, show s.size - 1 - 1 = s.size - 2 by omega])
    clear h hk
    have SL := fun W => slice_ij s (i := 1) (j := s.size - 1) (x := 1) (y := (s.size : Int) - 1) rfl (by omega) (by omega) (by omega) W
    rw [he.out] at SL
    generalize (⟨(cont k s.data.toList).toArray⟩ : ByteArray) = R at *
    clear he
    go_enter Tryz.func130, Tryz.ntmps130
    go_wp2_with fail
    go_ret
    exact ⟨rfl, rfl⟩
  · have q1 : (k == 4) = false := by rw [beq_eq_false_iff_ne]; exact hk
    have he := Lib.hid (show s = ⟨(cont k s.data.toList).toArray⟩ from ba_of (cont_other hk _).symm)
    clear h hk hs
    go_enter Tryz.func130, Tryz.ntmps130
    go_wp2_with fail
    go_ret
    exact ⟨ret_str he.out, rfl⟩
theorem ck_text (s : ByteArray) : ck ⟨4, 0, s⟩ = txE s.data.toList := by
  unfold ck txE fmd lmt spl
  rw [str_len]
  by_cases h : 64 < s.size
  · rw [if_pos h]
    simp [show ¬ s.size ≤ 64 by omega]
  · rw [if_neg h]
    simp [show s.size ≤ 64 by omega]
theorem flt_else {k : Int} (h1 : k ≠ 1) (h2 : k ≠ 2) (h3 : k ≠ 3) (h4 : k ≠ 4) (h0 : k ≠ 0) (p : List UInt8) : flt k p = 0 := by
  unfold flt
  rw [if_neg h1, if_neg h2, if_neg h3, if_neg h4, if_neg h0]
theorem text_two {l : List UInt8} (h : shp l = (4, l.length)) : 2 ≤ l.length := by
  have h1 := shp_text (l := l) (by rw [h])
  rw [h, List.take_length] at h1
  have := congrArg List.length h1
  simp only [List.length_cons, List.length_append, List.length_nil] at this
  omega
set_option maxRecDepth 100000 in
set_option maxHeartbeats 2000000 in
theorem fault_any (k : Int) (s : ByteArray) (hs : s.size ≤ 1048576) (h : k = 0 ∨ shp s.data.toList = (k, s.data.toList.length)) (w : World) (T : Tabs w) :
    Calls Tryz.prog 92 #[.int .i64 k, .string s] w fun e w' => e = .returned (.int .i64 (flt k s.data.toList)) ∧ Below w.heap.size w w' := by
  by_cases h1 : k = 1
  · subst h1
    have hf := Lib.hid (flt_one s.data.toList)
    rw [str_len] at hf
    clear h T
    by_cases hc : 24 < s.size
    · have q : decide (24 < (s.size : Int)) = true := decide_eq_true (by omega)
      rw [if_pos hc] at hf
      go_enter Tryz.func92, Tryz.ntmps92
      go_wp2_with fail
      go_ret
      exact ⟨ret_int hf.out.symm, b0 w⟩
    · have q : decide (24 < (s.size : Int)) = false := decide_eq_false (by omega)
      rw [if_neg hc] at hf
      go_enter Tryz.func92, Tryz.ntmps92
      go_wp2_with fail
      go_ret
      exact ⟨ret_int hf.out.symm, b0 w⟩
  by_cases h2 : k = 2
  · subst h2
    obtain ⟨d1, d2⟩ := shp_int (h.resolve_left (by decide))
    have hat := atoi_digits d1 d2
    have hf := flt_two s.data.toList
    clear h h1 d1 d2
    generalize dval 0 s.data.toList = v at *
    by_cases hv : v < 9223372036854775808
    · rw [if_pos hv] at hat
      have AC := Lib.hid (Tryz.strconv_Atoi_ok s (by omega) _ hat w)
      by_cases hc : 1152921504606846976 < v
      · rw [if_pos hc] at hf
        replace hf := Lib.hid hf
        have q : decide (1152921504606846976 < (v : Int)) = true := decide_eq_true (by omega)
        clear hat T
        go_enter Tryz.func92, Tryz.ntmps92
        go_wp2_with fail
        refine AC.out.mono ?_
        rintro e w1 ⟨rfl, hw⟩
        have B1 := Lib.hid (show Below w.heap.size w w1 by rcases hw with rfl | ⟨t, rfl⟩; exact b0 _; exact below_bytes _ _ _)
        clear hw
        go_wp2_with fail
        go_ret
        exact ⟨ret_int hf.out.symm, B1.out⟩
      · rw [if_neg hc] at hf
        replace hf := Lib.hid hf
        have q : decide (1152921504606846976 < (v : Int)) = false := decide_eq_false (by omega)
        clear hat T
        go_enter Tryz.func92, Tryz.ntmps92
        go_wp2_with fail
        refine AC.out.mono ?_
        rintro e w1 ⟨rfl, hw⟩
        have B1 := Lib.hid (show Below w.heap.size w w1 by rcases hw with rfl | ⟨t, rfl⟩; exact b0 _; exact below_bytes _ _ _)
        clear hw
        go_wp2_with fail
        go_ret
        exact ⟨ret_int hf.out.symm, B1.out⟩
    · rw [if_neg hv] at hat
      rw [if_pos (by omega)] at hf
      replace hf := Lib.hid hf
      obtain ⟨tp, p, hr⟩ := T.ran
      have AC := Lib.hid (Tryz.strconv_Atoi_range_var s (by omega) hat tp p w hr)
      clear hat T hr
      go_enter Tryz.func92, Tryz.ntmps92
      go_wp2_with fail
      refine AC.out.mono ?_
      rintro e w1 ⟨N, rfl, hw⟩
      have B1 := Lib.hid hw.2.2
      clear hw
      go_wp2_with fail
      go_ret
      exact ⟨ret_int hf.out.symm, B1.out⟩
  by_cases h3 : k = 3
  · subst h3
    have PC := Lib.hid (parse_any s w (by omega) T.pow)
    have hf := flt_three s.data.toList
    clear h T h1 h2
    generalize paE s.data.toList = x at *
    generalize paX s.data.toList = y at *
    replace hf := Lib.hid hf
    go_enter Tryz.func92, Tryz.ntmps92
    go_wp2_with fail
    refine PC.out.mono ?_
    rintro e w1 ⟨rfl, b1⟩
    have B1 := Lib.hid b1
    clear b1
    go_wp2_with fail
    go_ret
    exact ⟨ret_int hf.out.symm, B1.out⟩
  by_cases h4 : k = 4
  · subst h4
    have h22 := text_two (h.resolve_left (by decide))
    rw [str_len] at h22
    have CC := Lib.hid (content_any 4 s (by omega) (fun _ => h22) w)
    have hl : (cont 4 s.data.toList).length ≤ 1048576 := by
      unfold cont
      rw [if_pos rfl, List.length_take, List.length_drop, str_len]
      omega
    have hf := flt_four s.data.toList
    obtain ⟨t, ht⟩ : ∃ t : ByteArray, t = ⟨(cont 4 s.data.toList).toArray⟩ := ⟨_, rfl⟩
    have htl : t.data.toList = cont 4 s.data.toList := by rw [ht]
    rw [← ht] at CC
    rw [← htl] at hf hl
    rw [str_len] at hl
    have KC := Lib.hid (fun W => check_any 4 0 t (by omega) W)
    rw [ck_text, ← hf] at KC
    clear h T h1 h2 h3 ht htl hf h22 hl
    generalize flt 4 s.data.toList = x at *
    go_enter Tryz.func92, Tryz.ntmps92
    go_wp2_with fail
    refine CC.out.mono ?_
    rintro e w1 ⟨rfl, rfl⟩
    go_wp2_with fail
    refine (KC.out _).mono ?_
    rintro e w1 ⟨rfl, b1⟩
    have B1 := Lib.hid b1
    clear b1
    go_wp2_with fail
    go_ret
    exact ⟨rfl, B1.out⟩
  have q1 : (k == 1) = false := by rw [beq_eq_false_iff_ne]; exact h1
  have q2 : (k == 2) = false := by rw [beq_eq_false_iff_ne]; exact h2
  have q3 : (k == 3) = false := by rw [beq_eq_false_iff_ne]; exact h3
  have q4 : (k == 4) = false := by rw [beq_eq_false_iff_ne]; exact h4
  by_cases h0 : k = 0
  · subst h0
    have hf := Lib.hid (flt_zero s.data.toList)
    clear h T h1 h2 h3 h4 q1 q2 q3 q4
    go_enter Tryz.func92, Tryz.ntmps92
    go_wp2_with fail
    go_ret
    exact ⟨ret_int hf.out.symm, b0 w⟩
  · have q0 : (k == 0) = false := by rw [beq_eq_false_iff_ne]; exact h0
    have hf := Lib.hid (flt_else h1 h2 h3 h4 h0 s.data.toList)
    clear h T h1 h2 h3 h4 h0
    go_enter Tryz.func92, Tryz.ntmps92
    go_wp2_with fail
    go_ret
    exact ⟨ret_int hf.out.symm, b0 w⟩
end Go.Proofs.YtbkpjhffmaldmaaGreatDoor
namespace Go.Proofs.YtbkpjhffmaldmaaGreatDoor
open Go.RowKit dec

/-- Is s exactly one token of this kind? -/
def prB (k : Int) (s : ByteArray) : Bool := decide (shp s.data.toList = (k, s.size)) && decide (flt k s.data.toList = 0)
theorem prB_pr (x : Tk) {s : ByteArray} (h : s.data.toList = so x) : prB x.k s = pr x := by
  unfold prB pr
  rw [h, ← h, str_len]
set_option maxRecDepth 100000 in
set_option maxHeartbeats 1000000 in
theorem isToken_any (k : Int) (s : ByteArray) (hs : s.size ≤ 1048576) (w : World) (T : Tabs w) :
    Calls Tryz.prog 58 #[.int .i64 k, .string s] w fun e w' => e = .returned (.bool (prB k s)) ∧ Below w.heap.size w w' := by
  have SC := Lib.hid (shape_any s (by omega) w T)
  have T0 := Lib.hid T
  clear T
  obtain ⟨q, hq⟩ : ∃ q, shp s.data.toList = q := ⟨_, rfl⟩
  obtain ⟨k1, n⟩ := q
  rw [hq] at SC
  by_cases h1 : k1 = k
  · subst h1
    have q1 : (k1 == k1) = true := by rw [beq_iff_eq]
    by_cases h2 : n = s.size
    · subst h2
      have q2 : ((s.size : Int) == (s.size : Int)) = true := by rw [beq_iff_eq]
      have FC := Lib.hid (fun W T => fault_any k1 s hs (.inr (by rw [hq, str_len])) W T)
      have hp := Lib.hid (show prB k1 s = (flt k1 s.data.toList == 0) by unfold prB; rw [decide_eq_true hq, Bool.true_and, eqb])
      clear hq hs
      generalize flt k1 s.data.toList = f at *
      go_enter Tryz.func58, Tryz.ntmps58
      go_wp2_with fail
      refine SC.out.mono ?_
      rintro e w1 ⟨rfl, b1⟩
      have B1 := Lib.hid b1
      have T1 := Lib.hid (T0.out.stays b1)
      clear b1
      go_wp2_with fail
      refine (FC.out _ T1.out).mono ?_
      rintro e w2 ⟨rfl, b2⟩
      have B2 := Lib.hid (bnext B1.out b2)
      clear b2
      generalize hf : (f == 0) = b at *
      cases b
      · go_wp2_with fail
        go_ret
        exact ⟨ret_bool hp.out.symm, B2.out⟩
      · go_wp2_with fail
        go_ret
        exact ⟨ret_bool hp.out.symm, B2.out⟩
    · have q2 : ((n : Int) == (s.size : Int)) = false := by rw [beq_eq_false_iff_ne]; omega
      have hp := Lib.hid (show prB k1 s = false by unfold prB; rw [decide_eq_false (by rw [hq]; intro e; exact h2 (Prod.mk.inj e).2), Bool.false_and])
      clear hq hs T0 h2
      go_enter Tryz.func58, Tryz.ntmps58
      go_wp2_with fail
      refine SC.out.mono ?_
      rintro e w1 ⟨rfl, b1⟩
      have B1 := Lib.hid b1
      clear b1
      go_wp2_with fail
      go_ret
      exact ⟨ret_bool hp.out.symm, B1.out⟩
  · have q1 : (k1 == k) = false := by rw [beq_eq_false_iff_ne]; exact h1
    have hp := Lib.hid (show prB k s = false by unfold prB; rw [decide_eq_false (by rw [hq]; intro e; exact h1 (Prod.mk.inj e).1), Bool.false_and])
    clear hq hs T0 h1
    go_enter Tryz.func58, Tryz.ntmps58
    go_wp2_with fail
    refine SC.out.mono ?_
    rintro e w1 ⟨rfl, b1⟩
    have B1 := Lib.hid b1
    clear b1
    go_wp2_with fail
    go_ret
    exact ⟨ret_bool hp.out.symm, B1.out⟩
theorem add_str (x y : List UInt8) (hx : x.length ≤ 1048576) (hy : y.length ≤ 1048576) (W : World) : (Op.stringOp .add ⟨x.toArray⟩ ⟨y.toArray⟩).run Tryz.prog W = .ok (.string ⟨(x ++ y).toArray⟩) W := run_string_add_lists W x y (by omega) (by omega)
end Go.Proofs.YtbkpjhffmaldmaaGreatDoor
namespace Go.Proofs.YtbkpjhffmaldmaaGreatDoor
open Go.RowKit dec

/-- The keywords. -/
def kwL : List (List UInt8) := [[116, 97, 98, 108, 101], [102, 101, 97, 116, 117, 114, 101], [111, 102], [107, 101, 101, 112], [98, 111, 111, 108], [116, 101, 120, 116], [107, 101, 121], [105, 110, 116], [100, 101, 99], [105, 102], [116, 104, 101, 110], [101, 108, 115, 101], [100, 101, 102, 97, 117, 108, 116], [111, 114], [97, 110, 100], [110, 111, 116], [116, 114, 117, 101], [102, 97, 108, 115, 101], [110, 117, 108, 108], [99, 111, 117, 110, 116], [115, 117, 109], [109, 101, 97, 110], [109, 105, 110], [109, 97, 120], [102, 105, 114, 115, 116], [108, 97, 115, 116], [100, 105, 115, 116, 105, 110, 99, 116], [113, 117, 97, 110, 116, 105, 108, 101], [100, 101, 99, 97, 121], [97, 108, 108], [115, 108, 105, 100, 105, 110, 103], [116, 117, 109, 98, 108, 105, 110, 103], [115, 101, 115, 115, 105, 111, 110], [119, 104, 101, 114, 101]]
def kw (s : ByteArray) : Bool := kwL.any fun l => s.toList == l
set_option maxRecDepth 100000 in
set_option maxHeartbeats 4000000 in
theorem keyword_any (s : ByteArray) (w : World) :
    Calls Tryz.prog 59 #[.string s] w fun e w' => e = .returned (.bool (kw s)) ∧ w' = w := by
  go_enter Tryz.func59, Tryz.ntmps59
  go_wp2
  all_goals go_ret
  all_goals refine ⟨ret_bool ?_, rfl⟩
  all_goals first | (rename_i h1 h2; rw [h1] at h2; cases h2; done) | (unfold kw kwL; simp [*]; done)
def name (s : ByteArray) : Bool := prB 1 s && !kw s
set_option maxRecDepth 100000 in
theorem name_any (s : ByteArray) (hs : s.size ≤ 1048576) (w : World) (T : Tabs w) :
    Calls Tryz.prog 32 #[.string s] w fun e w' => e = .returned (.bool (name s)) ∧ Below w.heap.size w w' := by
  have IC := Lib.hid (isToken_any 1 s hs w T)
  have KC := Lib.hid (fun W => keyword_any s W)
  have hn : Hid (name s = (prB 1 s && !kw s)) := Lib.hid rfl
  generalize prB 1 s = p at *
  generalize kw s = q at *
  clear T
  cases p
  · go_enter Tryz.func32, Tryz.ntmps32
    go_wp2_with fail
    refine IC.out.mono ?_
    rintro e w1 ⟨rfl, b1⟩
    have B1 := Lib.hid b1
    clear b1
    go_wp2_with fail
    go_ret
    exact ⟨ret_bool hn.out.symm, B1.out⟩
  · go_enter Tryz.func32, Tryz.ntmps32
    go_wp2_with fail
    refine IC.out.mono ?_
    rintro e w1 ⟨rfl, b1⟩
    have B1 := Lib.hid b1
    clear b1
    go_wp2_with fail
    refine (KC.out _).mono ?_
    rintro e w2 ⟨rfl, rfl⟩
    go_wp2_with fail
    go_ret
    exact ⟨ret_bool hn.out.symm, B1.out⟩
end Go.Proofs.YtbkpjhffmaldmaaGreatDoor
namespace Go.Proofs.YtbkpjhffmaldmaaGreatDoor
open Go.RowKit dec

set_option maxRecDepth 100000 in
set_option maxHeartbeats 1000000 in
theorem faultW_any (s : ByteArray) (w : World) :
    Calls Tryz.prog 92 #[.int .i64 1, .string s] w fun e w' => e = .returned (.int .i64 (flt 1 s.data.toList)) ∧ Below w.heap.size w w' := by
  have hf := Lib.hid (flt_one s.data.toList)
  rw [str_len] at hf
  by_cases hc : 24 < s.size
  · have q : decide (24 < (s.size : Int)) = true := decide_eq_true (by omega)
    rw [if_pos hc] at hf
    go_enter Tryz.func92, Tryz.ntmps92
    go_wp2_with fail
    go_ret
    exact ⟨ret_int hf.out.symm, b0 w⟩
  · have q : decide (24 < (s.size : Int)) = false := decide_eq_false (by omega)
    rw [if_neg hc] at hf
    go_enter Tryz.func92, Tryz.ntmps92
    go_wp2_with fail
    go_ret
    exact ⟨ret_int hf.out.symm, b0 w⟩
set_option maxRecDepth 100000 in
set_option maxHeartbeats 1000000 in
theorem isTokenW_any (s : ByteArray) (hs : s.size ≤ 140737488355328) (w : World) (T : Tabs w) :
    Calls Tryz.prog 58 #[.int .i64 1, .string s] w fun e w' => e = .returned (.bool (prB 1 s)) ∧ Below w.heap.size w w' := by
  have SC := Lib.hid (shape_any s hs w T)
  clear T
  obtain ⟨q, hq⟩ : ∃ q, shp s.data.toList = q := ⟨_, rfl⟩
  obtain ⟨k1, n⟩ := q
  rw [hq] at SC
  by_cases h1 : k1 = 1
  · subst h1
    by_cases h2 : n = s.size
    · subst h2
      have q2 : ((s.size : Int) == (s.size : Int)) = true := by rw [beq_iff_eq]
      have FC := Lib.hid (fun W => faultW_any s W)
      have hp := Lib.hid (show prB 1 s = (flt 1 s.data.toList == 0) by unfold prB; rw [decide_eq_true hq, Bool.true_and, eqb])
      clear hq hs
      generalize flt 1 s.data.toList = f at *
      go_enter Tryz.func58, Tryz.ntmps58
      go_wp2_with fail
      refine SC.out.mono ?_
      rintro e w1 ⟨rfl, b1⟩
      have B1 := Lib.hid b1
      clear b1
      go_wp2_with fail
      refine (FC.out _).mono ?_
      rintro e w2 ⟨rfl, b2⟩
      have B2 := Lib.hid (bnext B1.out b2)
      clear b2
      generalize hf : (f == 0) = b at *
      cases b
      · go_wp2_with fail
        go_ret
        exact ⟨ret_bool hp.out.symm, B2.out⟩
      · go_wp2_with fail
        go_ret
        exact ⟨ret_bool hp.out.symm, B2.out⟩
    · have q2 : ((n : Int) == (s.size : Int)) = false := by rw [beq_eq_false_iff_ne]; omega
      have hp := Lib.hid (show prB 1 s = false by unfold prB; rw [decide_eq_false (by rw [hq]; intro e; exact h2 (Prod.mk.inj e).2), Bool.false_and])
      clear hq hs h2
      go_enter Tryz.func58, Tryz.ntmps58
      go_wp2_with fail
      refine SC.out.mono ?_
      rintro e w1 ⟨rfl, b1⟩
      have B1 := Lib.hid b1
      clear b1
      go_wp2_with fail
      go_ret
      exact ⟨ret_bool hp.out.symm, B1.out⟩
  · have q1 : (k1 == 1) = false := by rw [beq_eq_false_iff_ne]; exact h1
    have hp := Lib.hid (show prB 1 s = false by unfold prB; rw [decide_eq_false (by rw [hq]; intro e; exact h1 (Prod.mk.inj e).1), Bool.false_and])
    clear hq hs h1
    go_enter Tryz.func58, Tryz.ntmps58
    go_wp2_with fail
    refine SC.out.mono ?_
    rintro e w1 ⟨rfl, b1⟩
    have B1 := Lib.hid b1
    clear b1
    go_wp2_with fail
    go_ret
    exact ⟨ret_bool hp.out.symm, B1.out⟩
set_option maxRecDepth 100000 in
theorem nameW_any (s : ByteArray) (hs : s.size ≤ 140737488355328) (w : World) (T : Tabs w) :
    Calls Tryz.prog 32 #[.string s] w fun e w' => e = .returned (.bool (name s)) ∧ Below w.heap.size w w' := by
  have IC := Lib.hid (isTokenW_any s hs w T)
  have KC := Lib.hid (fun W => keyword_any s W)
  have hn : Hid (name s = (prB 1 s && !kw s)) := Lib.hid rfl
  generalize prB 1 s = p at *
  generalize kw s = q at *
  clear T
  cases p
  · go_enter Tryz.func32, Tryz.ntmps32
    go_wp2_with fail
    refine IC.out.mono ?_
    rintro e w1 ⟨rfl, b1⟩
    have B1 := Lib.hid b1
    clear b1
    go_wp2_with fail
    go_ret
    exact ⟨ret_bool hn.out.symm, B1.out⟩
  · go_enter Tryz.func32, Tryz.ntmps32
    go_wp2_with fail
    refine IC.out.mono ?_
    rintro e w1 ⟨rfl, b1⟩
    have B1 := Lib.hid b1
    clear b1
    go_wp2_with fail
    refine (KC.out _).mono ?_
    rintro e w2 ⟨rfl, rfl⟩
    go_wp2_with fail
    go_ret
    exact ⟨ret_bool hn.out.symm, B1.out⟩
end Go.Proofs.YtbkpjhffmaldmaaGreatDoor
namespace Go.Proofs.YtbkpjhffmaldmaaGreatDoor
open Go.RowKit dec

theorem infoU : (Tryz.prog.info? 5).map (fun i => (i.zero, i.size, i.bytes)) = some (some (.int .u8 0), 1, 1) := by kernel_rfl
def bv (l : List UInt8) : List Value := l.map fun c => Value.int .u8 (c.toNat : Int)
theorem bv_len (l : List UInt8) : (bv l).length = l.length := by unfold bv; rw [List.length_map]
theorem bv_append (l r : List UInt8) : bv (l ++ r) = bv l ++ bv r := by unfold bv; rw [List.map_append]
theorem strCells_bv (s : ByteArray) : Lib.strCells s = bv s.data.toList := by
  unfold Lib.strCells bv
  simp
/-- Bytes that the call made. -/
def OB (w : World) (base : Nat) (v : Value) (l : List UInt8) : Prop := w.ownsRow base 5 1 v l.length (bv l)
theorem OB.nil (w : World) (base : Nat) : OB w base (.slice none 0 0) [] := World.ownsRow_nil _ _ _ _
theorem OB.keeps {w w1 : World} {base : Nat} {v : Value} {l : List UInt8} (h : OB w base v l) (hb : Below w.heap.size w w1) : OB w1 base v l := by
  obtain ⟨h1, h2⟩ := h
  refine ⟨h1, ?_⟩
  rcases h2 with h0 | ⟨g, cap, cur, e, hbg, hh, r⟩
  · exact .inl h0
  · refine .inr ⟨g, cap, cur, e, hbg, ?_, r⟩
    have : g < w.heap.size := by
      rcases Nat.lt_or_ge g w.heap.size with h' | h'
      · exact h'
      · rw [Array.getElem?_eq_none h'] at hh; cases hh
    rw [hb.block _ this]
    exact hh
theorem wpList_pushB (w : World) {ops : Array Oper} {rest : List Oper} {o : Oper} {a : Act} {Q : Exit → Act → World → Prop} (hgd : o.guard = none) (s x : Operand)
    (ho : o.op = .call { callee := .builtin .append, args := #[s, x], argTypes := #[101, 101] })
    (base : Nat) (v : Value) (l : List UInt8) (hs : a.eval s = v) (hown : OB w base v l) (b : Nat) (t : UInt8) (hx : a.eval x = .slice (some ⟨b, 0, none⟩) 1 1) (hB : w.cell? ⟨b, 0, none⟩ = some (.int .u8 (t.toNat : Int)))
    (hn : l.length < 140737488355328) (hbase : base ≤ w.heap.size)
    (h : ∀ v' w', OB w' base v' (l ++ [t]) → Below base w w' → wpList Tryz.prog ops Q rest (a.put o.dst v') w') : wpList Tryz.prog ops Q (o :: rest) a w := by
  refine wpList_plain hgd fun _ hK => ?_
  obtain ⟨i, hi, hz0, hz1, hz2⟩ := info_parts infoU
  refine wp_append_own w s x 101 ho base 5 i (.int .u8 0) 1 1 Tryz.underlying101 hi hz0 hz1 hz2 rfl (by decide) v l.length (bv l) hs hown ⟨b, 0, none⟩ 1 1 [.int .u8 (t.toNat : Int)] hx rfl ?_ (fun u hu => by simp at hu; subst hu; rfl)
    (by unfold maxLen; omega) (by omega) hbase fun v' w' h1 h2 _ => hK _ _ (h v' w' (by unfold OB; rw [bv_append, List.length_append]; exact h1) ((Below.refl base w).grown h2 hbase fun k hk => (hown.lt k hk).1))
  intro j u hu
  match j, hu with
  | 0, hu => simp at hu; subst hu; exact hB
  | j + 1, hu => simp at hu
theorem wpList_catB (w : World) {ops : Array Oper} {rest : List Oper} {o : Oper} {a : Act} {Q : Exit → Act → World → Prop} (hgd : o.guard = none) (s x : Operand)
    (ho : o.op = .call { callee := .builtin .append, args := #[s, x], argTypes := #[101, 9] })
    (base : Nat) (v : Value) (l : List UInt8) (hs : a.eval s = v) (hown : OB w base v l) (t : ByteArray) (hx : a.eval x = .string t)
    (hn : l.length + t.size ≤ 140737488355328) (hbase : base ≤ w.heap.size)
    (h : ∀ v' w', OB w' base v' (l ++ t.data.toList) → Below base w w' → wpList Tryz.prog ops Q rest (a.put o.dst v') w') : wpList Tryz.prog ops Q (o :: rest) a w := by
  obtain ⟨i, hi, hz0, hz1, hz2⟩ := info_parts infoU
  refine Lib.wpList_append_own_string w hgd s x 101 9 ho base 5 i Tryz.underlying101 Tryz.underlying9 hi hz0 hz1 hz2 v l.length (bv l) hs hown t hx (by unfold maxLen; omega) hn hbase fun v' w' h1 h2 _ => h v' w' ?_ ((Below.refl base w).grown h2 hbase fun k hk => (hown.lt k hk).1)
  unfold OB
  rw [bv_append, List.length_append, ← strCells_bv]
  rw [show t.data.toList.length = t.size from by rw [Array.length_toList]; rfl]
  exact h1
theorem is_appB {w : World} {ops : Array Oper} {rest : List Oper} {o : Oper} {a : Act} {Q : Exit → Act → World → Prop} (s x : Operand) (_ : o.op = .call { callee := .builtin .append, args := #[s, x], argTypes := #[101, 101] })
    (k : wpList Tryz.prog ops Q (o :: rest) a w) : wpList Tryz.prog ops Q (o :: rest) a w := k
theorem is_appT {w : World} {ops : Array Oper} {rest : List Oper} {o : Oper} {a : Act} {Q : Exit → Act → World → Prop} (s x : Operand) (_ : o.op = .call { callee := .builtin .append, args := #[s, x], argTypes := #[101, 9] })
    (k : wpList Tryz.prog ops Q (o :: rest) a w) : wpList Tryz.prog ops Q (o :: rest) a w := k
/-- string(b). -/
theorem OB.str {w : World} {base : Nat} {v : Value} {l : List UInt8} (h : OB w base v l) : (convert 101 9 v).run Tryz.prog w = .ok (.string ⟨l.toArray⟩) w := by
  obtain ⟨h1, h2⟩ := id h
  rcases h2 with ⟨rfl, h0⟩ | ⟨g, cap, cur, rfl, hbg, hh, hc, hm, hs, ht⟩
  · have hz : l = [] := List.eq_nil_of_length_eq_zero h0
    subst hz
    exact run_convert_bytes_nil (P := Tryz.prog) (w := w) 101 5 Tryz.underlying101 Tryz.underlying5 0 0 _ Tryz.underlying9
  · rw [run_convert_bytes_arg w 101 5 Tryz.underlying101 Tryz.underlying5 g 0 l.length cap (l.map fun c => (c.toNat : Int)) (by rw [List.length_map]) ?_ _ Tryz.underlying9]
    · congr 2
      unfold strOfNums
      rw [List.map_map]
      congr 2
      refine (List.map_congr_left fun c _ => ?_).trans (List.map_id l)
      simp
    · intro i hi
      rw [Nat.zero_add, World.ownsRow.cellAt h i (by simpa using hi)]
      unfold bv
      rw [List.getElem?_map, List.getElem?_eq_getElem hi, List.getD_eq_getElem?_getD, List.getElem?_map, List.getElem?_eq_getElem hi]
      rfl
/-- What is told of a slice of bytes that is read. -/
structure Bs (w : World) (a : Option Addr) (n cap : Nat) (s : ByteArray) : Prop where
  hat : s.size = 0 ∨ ∃ b off, a = some ⟨b, off, none⟩ ∧ ∀ j (hj : j < s.size), w.cell? ⟨b, off + j, none⟩ = some (.int .u8 (s[j].toNat : Int))
  hn : s.size = n
  hcap : n ≤ cap
  hmax : cap ≤ 9223372036854775807
  hno : a = none → cap = 0
theorem Bs.keeps {w w1 : World} {a : Option Addr} {n cap : Nat} {s : ByteArray} (h : Bs w a n cap s) (hb : Below w.heap.size w w1) : Bs w1 a n cap s :=
  { h with hat := h.hat.imp id fun ⟨b, off, e, hB⟩ => ⟨b, off, e, fun j hj => dec.keeps hb (hB j hj)⟩ }
theorem Bs.str {w : World} {a : Option Addr} {n cap : Nat} {s : ByteArray} (h : Bs w a n cap s) : (convert 101 9 (.slice a n cap)).run Tryz.prog w = .ok (.string s) w := by
  have hn := h.hn
  subst hn
  rcases h.hat with h0 | ⟨b, off, rfl, hB⟩
  · have hs := size_zero h0
    subst hs
    rw [run_convert_bytes_string w 101 9 5 a _ cap Tryz.underlying101 Tryz.underlying5 Tryz.underlying9]
    show (Conv.bytesToString (.slice a 0 cap)).run Tryz.prog w = _
    cases a <;> simp [Conv.bytesToString, loadCells]
    all_goals rfl
  · have hl : s.data.toList.length = s.size := str_len s
    have := run_convert_bytes_arg (P := Tryz.prog) w 101 5 Tryz.underlying101 Tryz.underlying5 b off s.size cap (s.data.toList.map fun c => (c.toNat : Int)) (by rw [List.length_map, hl]) (fun i hi => by
      rw [hB i hi, List.getD_eq_getElem?_getD, List.getElem?_map, List.getElem?_eq_getElem (by rw [hl]; exact hi)]
      rfl) _ Tryz.underlying9
    rw [this]
    have e : strOfNums (s.data.toList.map fun c => (c.toNat : Int)) = s := by
      unfold strOfNums
      rw [List.map_map]
      refine (congrArg (fun l : List UInt8 => (⟨l.toArray⟩ : ByteArray)) ?_).trans (ba_list s)
      refine (List.map_congr_left fun c _ => ?_).trans (List.map_id _)
      show UInt8.ofNat ((c.toNat : Int)).toNat = c
      rw [Int.toNat_natCast, UInt8.ofNat_toNat]
    rw [e]
theorem OB.bs {w : World} {base : Nat} {v : Value} {s : ByteArray} (h : OB w base v s.data.toList) : ∃ a cap, v = .slice a s.size cap ∧ Bs w a s.size cap s := by
  have hl := str_len s
  obtain ⟨h1, h2⟩ := id h
  rcases h2 with ⟨rfl, h0⟩ | ⟨g, cap, cur, rfl, hbg, hh, hc, hm, hs, ht⟩
  · rw [hl] at h0
    exact ⟨none, 0, by rw [h0], ⟨.inl h0, rfl, by omega, by omega, fun _ => rfl⟩⟩
  · rw [hl] at hc
    refine ⟨_, cap, by rw [hl], ⟨.inr ⟨g, 0, rfl, fun j hj => ?_⟩, rfl, hc, by unfold maxLen at hm; omega, fun h => by cases h⟩⟩
    rw [Nat.zero_add, World.ownsRow.cellAt h j (by rw [hl]; omega)]
    unfold bv
    rw [List.getElem?_map, List.getElem?_eq_getElem (by rw [hl]; exact hj)]
    rfl
/-- []byte(s). -/
theorem bytes_of (w : World) (s : ByteArray) (hs : s.size ≤ 281474976710656) : ∃ w' c, (convert 9 101 (.string s)).run Tryz.prog w = .ok (.slice (some ⟨w.heap.size, 0, none⟩) s.size c) w' ∧ Bs w' (some ⟨w.heap.size, 0, none⟩) s.size c s ∧ Below w.heap.size w w' := by
  refine ⟨Lib.bytesWorld w 5 s, grownCap w s.size 0 5, Lib.run_convert_string_bytes w 9 101 5 s Tryz.underlying9 Tryz.underlying101 Tryz.underlying5, ⟨.inr ⟨_, _, rfl, fun j hj => ?_⟩, rfl, grownCap_ge _ _ _ _, ?_, fun h => by cases h⟩, below_bytes _ _ _⟩
  · rw [Nat.zero_add, Lib.bytesWorld_cell w 5 s j hj]
    rw [List.getD_eq_getElem?_getD, List.getElem?_eq_getElem (by rw [str_len]; exact hj)]
    rfl
  · have := grownCap_le_maxLen w s.size 0 5 (by unfold maxLen; omega)
    unfold maxLen at this
    omega
end Go.Proofs.YtbkpjhffmaldmaaGreatDoor
namespace Go.Proofs.YtbkpjhffmaldmaaGreatDoor
open Go.RowKit dec

/-- Bytes between two. -/
theorem btw_cases (lo hi : Nat) (c : UInt8) (b : Bool) (h : (decide (lo ≤ c.toNat) && decide (c.toNat ≤ hi)) = b) :
    (decide ((lo : Int) ≤ (c.toNat : Int)) = false ∧ b = false) ∨ (decide ((lo : Int) ≤ (c.toNat : Int)) = true ∧ decide ((c.toNat : Int) ≤ (hi : Int)) = b) := by
  by_cases h1 : lo ≤ c.toNat
  · right
    refine ⟨decide_eq_true (by omega), ?_⟩
    rw [decide_eq_true h1, Bool.true_and] at h
    rw [← h, decide_eq_decide]
    omega
  · left
    rw [decide_eq_false h1, Bool.false_and] at h
    exact ⟨decide_eq_false (by omega), h.symm⟩
set_option maxRecDepth 100000 in
theorem rletter_any (c : UInt8) (w : World) : Calls Tryz.prog 108 #[.int .u8 (c.toNat : Int)] w fun e w' => e = .returned (.bool (isL c)) ∧ w' = w := by
  obtain ⟨b, hb⟩ : ∃ b, isL c = b := ⟨_, rfl⟩
  rw [hb]
  have H := btw_cases 97 122 c b hb
  clear hb
  generalize (c.toNat : Int) = x at *
  rcases H with ⟨q1, rfl⟩ | ⟨q1, q2⟩
  · replace q1 : decide (97 ≤ x) = false := q1
    go_enter Tryz.func108, Tryz.ntmps108
    go_wp2_with fail
    go_ret
    exact ⟨rfl, rfl⟩
  · replace q1 : decide (97 ≤ x) = true := q1
    replace q2 : decide (x ≤ 122) = b := q2
    go_enter Tryz.func108, Tryz.ntmps108
    go_wp2_with fail
    go_ret
    exact ⟨rfl, rfl⟩
set_option maxRecDepth 100000 in
theorem rdigit_any (c : UInt8) (w : World) : Calls Tryz.prog 109 #[.int .u8 (c.toNat : Int)] w fun e w' => e = .returned (.bool (isD c)) ∧ w' = w := by
  obtain ⟨b, hb⟩ : ∃ b, isD c = b := ⟨_, rfl⟩
  rw [hb]
  have H := btw_cases 48 57 c b hb
  clear hb
  generalize (c.toNat : Int) = x at *
  rcases H with ⟨q1, rfl⟩ | ⟨q1, q2⟩
  · replace q1 : decide (48 ≤ x) = false := q1
    go_enter Tryz.func109, Tryz.ntmps109
    go_wp2_with fail
    go_ret
    exact ⟨rfl, rfl⟩
  · replace q1 : decide (48 ≤ x) = true := q1
    replace q2 : decide (x ≤ 57) = b := q2
    go_enter Tryz.func109, Tryz.ntmps109
    go_wp2_with fail
    go_ret
    exact ⟨rfl, rfl⟩
/-- How many bytes has the word that begins at an offset? -/
def wdN (l : List UInt8) : Nat := match l with
  | [] => 0
  | c :: r => if isL c = true then run isW (c :: r) else 0
theorem Bs.at {w : World} {a : Option Addr} {n cap : Nat} {s : ByteArray} (h : Bs w a n cap s) {j : Nat} (hj : j < s.size) : ∃ b off, a = some ⟨b, off, none⟩ ∧ w.cell? ⟨b, off + j, none⟩ = some (.int .u8 (s[j].toNat : Int)) := by
  rcases h.hat with h0 | ⟨b, off, e, hB⟩
  · omega
  · exact ⟨b, off, e, hB j hj⟩
theorem wd_drop (s : ByteArray) {i : Nat} (h : i < s.size) : wdN (s.data.toList.drop i) = if isL s[i] = true then run isW (s.data.toList.drop (i + 1)) + 1 else 0 := by
  rw [List.drop_eq_getElem_cons (by rw [str_len]; exact h)]
  show (if isL s[i] = true then run isW (s[i] :: s.data.toList.drop (i + 1)) else 0) = _
  by_cases h1 : isL s[i] = true
  · rw [if_pos h1, if_pos h1, run_cons (isW_L h1)]
  · rw [if_neg h1, if_neg h1]
theorem isW_eq (c : UInt8) : isW c = (isL c || (isD c || ((c.toNat : Int) == 95))) := by
  unfold isW
  rw [Bool.or_assoc]
  congr 2
  rw [eqb, decide_eq_decide]
  omega
theorem isW_cases {s : ByteArray} {i j R : Nat} (hc : i + j < s.size) (h : j + run isW (s.data.toList.drop (i + j)) = R) {x : Int} (hx : ((s[i + j].toNat : Nat) : Int) = x) :
    (∃ l d, isL s[i + j] = l ∧ isD s[i + j] = d ∧ ((l = true ∨ (l = false ∧ d = true) ∨ (l = false ∧ d = false ∧ (x == 95) = true)) ∧ j + 1 + run isW (s.data.toList.drop (i + (j + 1))) = R ∨ (l = false ∧ d = false ∧ (x == 95) = false) ∧ j = R)) := by
  refine ⟨_, _, rfl, rfl, ?_⟩
  have hst := run_drop isW s hc
  rw [isW_eq, hx] at hst
  rw [hst] at h
  generalize isL s[i + j] = l at h ⊢
  generalize isD s[i + j] = d at h ⊢
  cases l
  · cases d
    · cases hq : (x == 95)
      · right
        rw [hq] at h
        exact ⟨⟨rfl, rfl, rfl⟩, by simpa using h⟩
      · left
        rw [hq] at h
        exact ⟨.inr (.inr ⟨rfl, rfl, rfl⟩), by simp only [Bool.or_true, if_true] at h; rw [← Nat.add_assoc] ; omega⟩
    · left
      exact ⟨.inr (.inl ⟨rfl, rfl⟩), by simp only [Bool.true_or, Bool.or_true, if_true] at h; rw [← Nat.add_assoc]; omega⟩
  · left
    exact ⟨.inl rfl, by simp only [Bool.true_or, if_true] at h; rw [← Nat.add_assoc]; omega⟩
set_option maxRecDepth 100000 in
set_option maxHeartbeats 4000000 in
theorem rword_any (a0 : Option Addr) (n0 cap : Nat) (s : ByteArray) (hs : s.size ≤ 1048576) (i : Nat) (hi : i < s.size) (w : World) (hS : Bs w a0 n0 cap s) :
    Calls Tryz.prog 68 #[.slice a0 n0 cap, .int .i64 (i : Nat)] w fun e w' => e = .returned (.int .i64 (wdN (s.data.toList.drop i) : Nat)) ∧ w' = w := by
  have hn0 := hS.hn
  subst hn0
  have S0 := Lib.hid hS
  have Z0 := Lib.hid hs
  have I0 := Lib.hid hi
  obtain ⟨b, off, rfl, hB⟩ := hS.at hi
  obtain ⟨R, hR⟩ : ∃ R, wdN (s.data.toList.drop i) = R := ⟨_, rfl⟩
  have HW := wd_drop s hi
  rw [hR] at HW ⊢
  have LC := Lib.hid (rletter_any (s[i]'hi) w)
  clear hS hs
  by_cases hl : isL (s[i]'hi) = true
  · rw [if_pos hl] at HW
    rw [hl] at LC
    have hR := Lib.hid (show 1 + run isW (s.data.toList.drop (i + 1)) = R by omega)
    clear HW hl
    go_enter Tryz.func68, Tryz.ntmps68
    go_wp2_with fail
    refine LC.out.mono ?_
    rintro e w1 ⟨rfl, hw⟩
    obtain rfl : w = w1 := hw.symm
    clear hB LC
    go_wp2_with fail
    go_loopw [5] (fun x wr => ∃ j : Nat, x = .int .i64 (j : Nat) ∧ Hid (i + j ≤ s.size) ∧ Hid (j + run isW (s.data.toList.drop (i + j)) = R) ∧ wr = w) (fun x _ => s.size - (intOf x).toNat)
    case atStart => exact ⟨1, rfl, Lib.hid I0.out, hR, rfl⟩
    case round =>
      obtain ⟨j, rfl, hj, hr, rfl⟩ := hrel
      have f1 : wrap64 ((i : Int) + (j : Int)) = ((i + j : Nat) : Int) := by have := Z0.out; have := hj.out; unfold wrap64; omega
      by_cases hc : i + j < s.size
      · have q2 : decide (((i + j : Nat) : Int) < (s.size : Int)) = true := decide_eq_true (by omega)
        have q3 : i + j < s.size := hc
        have hjs : j < s.size := by omega
        have f4 := Lib.hid (next_at (j := j) (by have := Z0.out; omega))
        obtain ⟨b', off', hab, hB⟩ := S0.out.at hc
        cases hab
        have LC := Lib.hid (rletter_any s[i + j] wr)
        have DC := Lib.hid (rdigit_any s[i + j] wr)
        obtain ⟨x, hx⟩ : ∃ x, ((s[i + j].toNat : Nat) : Int) = x := ⟨_, rfl⟩
        obtain ⟨l, d, hl, hd, hcs⟩ := isW_cases hc hr.out hx
        rw [hl, hx] at LC
        rw [hd, hx] at DC
        rw [hx] at hB
        clear hl hd hx hr hj hc
        rcases hcs with ⟨rfl | ⟨rfl, rfl⟩ | ⟨rfl, rfl, q5⟩, hn⟩ | ⟨⟨rfl, rfl, q5⟩, hn⟩
        · replace hn := Lib.hid hn
          clear DC
          go_wp2_with (go_at_call 108; refine (LC.out).mono ?_; rintro e w' ⟨rfl, rfl⟩)
          exact ⟨⟨j + 1, by first | exact congrArg (Value.int .i64) f4.out | rfl, Lib.hid q3, hn, trivial⟩, by first | exact less_at hjs f4.out | exact less_dn2 hjs⟩
        · replace hn := Lib.hid hn
          go_wp2_with (first | (go_at_call 108; refine (LC.out).mono ?_; rintro e w' ⟨rfl, rfl⟩) | (go_at_call 109; refine (DC.out).mono ?_; rintro e w' ⟨rfl, rfl⟩))
          exact ⟨⟨j + 1, by first | exact congrArg (Value.int .i64) f4.out | rfl, Lib.hid q3, hn, trivial⟩, by first | exact less_at hjs f4.out | exact less_dn2 hjs⟩
        · replace hn := Lib.hid hn
          go_wp2_with (first | (go_at_call 108; refine (LC.out).mono ?_; rintro e w' ⟨rfl, rfl⟩) | (go_at_call 109; refine (DC.out).mono ?_; rintro e w' ⟨rfl, rfl⟩))
          exact ⟨⟨j + 1, by first | exact congrArg (Value.int .i64) f4.out | rfl, Lib.hid q3, hn, trivial⟩, by first | exact less_at hjs f4.out | exact less_dn2 hjs⟩
        · replace hn := Lib.hid hn
          go_wp2_with (first | (go_at_call 108; refine (LC.out).mono ?_; rintro e w' ⟨rfl, rfl⟩) | (go_at_call 109; refine (DC.out).mono ?_; rintro e w' ⟨rfl, rfl⟩))
          go_ret
          exact ⟨retN hn.out, rfl⟩
      · have q2 : decide (((i + j : Nat) : Int) < (s.size : Int)) = false := decide_eq_false (by omega)
        have q3 : decide (i + j < s.size) = false := decide_eq_false hc
        have hz := run_out isW s (j := i + j) (by omega)
        have HD : Hid (j = R) := by unfold Hid; rw [← hr.out, hz, Nat.add_zero]
        clear hz hr hj
        go_wp2_with fail
        go_ret
        exact ⟨retN HD.out, rfl⟩
  · rw [if_neg hl] at HW
    rw [Bool.not_eq_true] at hl
    rw [hl] at LC
    have hR := Lib.hid HW
    clear HW hl
    go_enter Tryz.func68, Tryz.ntmps68
    go_wp2_with fail
    refine LC.out.mono ?_
    rintro e w1 ⟨rfl, hw⟩
    obtain rfl : w = w1 := hw.symm
    clear hB LC
    go_wp2_with fail
    go_ret
    exact ⟨retN hR.out.symm, rfl⟩
end Go.Proofs.YtbkpjhffmaldmaaGreatDoor
namespace Go.Proofs.YtbkpjhffmaldmaaGreatDoor
open Go.RowKit dec

set_option maxRecDepth 100000 in
set_option maxHeartbeats 4000000 in
theorem rkeyword_any (s : ByteArray) (w : World) :
    Calls Tryz.prog 69 #[.string s] w fun e w' => e = .returned (.bool (kw s)) ∧ w' = w := by
  go_enter Tryz.func69, Tryz.ntmps69
  go_wp2
  all_goals go_ret
  all_goals refine ⟨ret_bool ?_, rfl⟩
  all_goals first | (rename_i h1 h2; rw [h1] at h2; cases h2; done) | (unfold kw kwL; simp [*]; done) | (exfalso; simp_all; done)

end Go.Proofs.YtbkpjhffmaldmaaGreatDoor
namespace Go.Proofs.YtbkpjhffmaldmaaGreatDoor
open Go.RowKit dec

theorem prB_word (s : ByteArray) : prB 1 s = wd1 s := prB_pr ⟨1, s, 0⟩ (by unfold so; rw [if_neg (show ¬ (1 : Int) = 4 by decide)])
theorem empty_is (l : List UInt8) : (l == []) = l.isEmpty := by cases l <;> rfl
theorem name_word (s : ByteArray) : name s = (wordP s.data.toList && !kw s) := by unfold name; rw [prB_word, wd1_eq]
theorem wordP_no {s : ByteArray} (h : s.size = 0 ∨ 24 < s.size) : wordP s.data.toList = false := by
  have hl := str_len s
  cases hd : s.data.toList with
  | nil => rfl
  | cons c r =>
    rw [hd] at hl
    rw [List.length_cons] at hl
    show (isL c && decide (run isW (c :: r) = (c :: r).length) && decide ((c :: r).length ≤ 24)) = false
    rw [decide_eq_false (p := (c :: r).length ≤ 24) (by rw [List.length_cons]; omega), Bool.and_false]
theorem wordP_is {s : ByteArray} (h0 : s.size ≠ 0) (h : s.size ≤ 24) : wordP s.data.toList = ((wdN (s.data.toList.drop 0) : Int) == (s.size : Int)) := by
  have hl := str_len s
  rw [List.drop_zero, eqb]
  cases hd : s.data.toList with
  | nil => rw [hd] at hl; exact absurd hl.symm h0
  | cons c r =>
    rw [hd] at hl
    show (isL c && decide (run isW (c :: r) = (c :: r).length) && decide ((c :: r).length ≤ 24)) = decide (((if isL c = true then run isW (c :: r) else 0 : Nat) : Int) = (s.size : Int))
    rw [decide_eq_true (p := (c :: r).length ≤ 24) (by omega), Bool.and_true, hl]
    cases isL c
    · rw [Bool.false_and]
      symm
      rw [decide_eq_false_iff_not]
      simp
      omega
    · rw [Bool.true_and, if_pos rfl, decide_eq_decide]
      omega
set_option maxRecDepth 100000 in
set_option maxHeartbeats 4000000 in
theorem rname_any (s : ByteArray) (w : World) : Calls Tryz.prog 43 #[.string s] w fun e w' => e = .returned (.bool (name s)) ∧ Below w.heap.size w w' := by
  have hn := name_word s
  have KC := Lib.hid (fun W => rkeyword_any s W)
  have HE := toList_nil s
  by_cases h0 : s.size = 0
  · have hr := Lib.hid (show name s = false by rw [hn, wordP_no (.inl h0)]; rfl)
    have q1 : s.toList.isEmpty = true := by rw [← empty_is, HE, decide_eq_true h0]
    clear hn HE KC h0
    go_enter Tryz.func43, Tryz.ntmps43
    go_wp2_with fail
    go_ret
    exact ⟨ret_bool hr.out.symm, b0 w⟩
  · have q1 : s.toList.isEmpty = false := by rw [← empty_is, HE, decide_eq_false h0]
    by_cases h24 : 24 < s.size
    · have hr := Lib.hid (show name s = false by rw [hn, wordP_no (.inr h24)]; rfl)
      have q2 : decide ((s.size : Int) ≤ 24) = false := decide_eq_false (by omega)
      have q2' : decide (s.size ≤ 24) = false := decide_eq_false (by omega)
      clear hn HE KC h0 h24
      go_enter Tryz.func43, Tryz.ntmps43
      go_wp2_with fail
      go_ret
      exact ⟨ret_bool hr.out.symm, b0 w⟩
    · have q2 : decide ((s.size : Int) ≤ 24) = true := decide_eq_true (by omega)
      have q2' : decide (s.size ≤ 24) = true := decide_eq_true (by omega)
      rw [wordP_is h0 (by omega)] at hn
      obtain ⟨w1, cv, hcv, hB, b1⟩ := bytes_of w s (by omega)
      have WC := Lib.hid (rword_any _ _ _ s (by omega) 0 (by omega) w1 hB)
      rw [show ((0 : Nat) : Int) = 0 from rfl] at WC
      have B1 := Lib.hid b1
      replace hn := Lib.hid hn
      clear HE h0 h24 b1 hB
      generalize ((wdN (s.data.toList.drop 0) : Nat) : Int) = x at *
      cases hx : (x == (s.size : Int))
      · have hr := Lib.hid (show name s = false by rw [hn.out, hx]; rfl)
        go_enter Tryz.func43, Tryz.ntmps43
        go_wp2_with fail
        refine WC.out.mono ?_
        rintro e w2 ⟨rfl, rfl⟩
        go_wp2_with fail
        go_ret
        exact ⟨ret_bool hr.out.symm, B1.out⟩
      · have hr := Lib.hid (show name s = !kw s by rw [hn.out, hx]; rfl)
        go_enter Tryz.func43, Tryz.ntmps43
        go_wp2_with fail
        refine WC.out.mono ?_
        rintro e w2 ⟨rfl, rfl⟩
        go_wp2_with fail
        refine (KC.out _).mono ?_
        rintro e w3 ⟨rfl, rfl⟩
        go_wp2_with fail
        go_ret
        exact ⟨ret_bool hr.out.symm, B1.out⟩
end Go.Proofs.YtbkpjhffmaldmaaGreatDoor
