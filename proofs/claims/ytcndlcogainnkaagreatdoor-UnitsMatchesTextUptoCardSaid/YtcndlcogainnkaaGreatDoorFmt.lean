/-
  formatFactor and Format; strconv's two; what the listed variables hold.
-/
import Derived.Test.YtcndlcogainnkaaGreatDoorTx
import Derived.Test.YtcndlcogainnkaaGreatDoorCln
import Derived.Laws.Concat
import Derived.Deep.QuietTactic
import Derived.BigQuiet
import Derived.Deep.DeepCutAuto
namespace Go.Proofs.YtcndlcogainnkaaGreatDoor
open Go.RowKit dec

structure Tabs (w : World) : Prop where
  ten : Lib.TabIs Tryz.prog w "internal/strconv.uint64pow10" .u64 Lib.pow10Tab
  syn : ∃ tp p, w.var? Tryz.prog "strconv.ErrSyntax" = some #[.iface tp p]
  ran : ∃ tp p, w.var? Tryz.prog "strconv.ErrRange" = some #[.iface tp p]
theorem gSyn : Tryz.prog.globalNamed "strconv.ErrSyntax" = some 3 := by kernel_rfl
theorem gRan : Tryz.prog.globalNamed "strconv.ErrRange" = some 4 := by kernel_rfl
theorem tab_keeps {W W' : World} {nm : String} {q : IntKind} {tab : List Int} (h : Lib.TabIs Tryz.prog W nm q tab) (hb : Below W.heap.size W W') : Lib.TabIs Tryz.prog W' nm q tab := by
  unfold Lib.TabIs at *
  cases hg : Tryz.prog.globalNamed nm with
  | none => unfold World.var? at h; simp [hg] at h
  | some g => exact Go.Joins.var_stays hg h hb (Nat.le_refl _)
theorem Tabs.stays {w w' : World} (h : Tabs w) (hb : Below w.heap.size w w') : Tabs w' := by
  obtain ⟨tp, p, h1⟩ := h.syn
  obtain ⟨tq, q, h2⟩ := h.ran
  exact ⟨tab_keeps h.ten hb, ⟨tp, p, Go.Joins.var_stays gSyn h1 hb (Nat.le_refl _)⟩, ⟨tq, q, Go.Joins.var_stays gRan h2 hb (Nat.le_refl _)⟩⟩
theorem below_bytes (w : World) (e : TypeId) (s : ByteArray) : Below w.heap.size w (Lib.bytesWorld w e s) := by
  refine ⟨rfl, rfl, rfl, ?_, fun j hj => Lib.bytesWorld_at_old w e s j hj⟩
  rw [Lib.bytesWorld_size]
  omega
theorem atoi_any (s : ByteArray) (hs : s.size ≤ 281474976710656) (w : World) (T : Tabs w) :
    Calls Tryz.prog 62 #[.string s] w fun e w' => ∃ x, e = .returned (.tuple #[.int .i64 (atoiN s.data.toList), x]) ∧ Below w.heap.size w w' := by
  unfold atoiN
  rcases h : Lib.atoiAll s.data.toList with v | _ | _
  · refine (Tryz.strconv_Atoi_ok s (by omega) v h w).mono ?_
    rintro e w' ⟨rfl, rfl | ⟨t, rfl⟩⟩
    · exact ⟨_, rfl, b0 _⟩
    · exact ⟨_, rfl, below_bytes _ _ _⟩
  · obtain ⟨tp, p, h1⟩ := T.syn
    refine (Tryz.strconv_Atoi_syntax_var s (by omega) h tp p w h1).mono ?_
    rintro e w' ⟨N, rfl, h2⟩
    exact ⟨_, rfl, h2.2.2⟩
  · obtain ⟨tp, p, h1⟩ := T.ran
    refine (Tryz.strconv_Atoi_range_var s (by omega) h tp p w h1).mono ?_
    rintro e w' ⟨N, rfl, h2⟩
    exact ⟨_, rfl, h2.2.2⟩
theorem itoa_any (n : Int) (h0 : -9223372036854775808 ≤ n) (h1 : n ≤ 9223372036854775807) (w : World) (T : Tabs w) :
    Calls Tryz.prog 63 #[.int .i64 n] w fun e w' => e = .returned (.string ⟨(Lib.itoa n).toArray⟩) ∧ Below w.heap.size w w' := by
  refine (Tryz.strconv_Itoa n h0 h1 w T.ten).mono ?_
  rintro e w' ⟨rfl, k, os, rfl⟩
  exact ⟨rfl, below_regrown w (w.drewN k).drawn os⟩
theorem add_str (x y : List UInt8) (hx : x.length ≤ 2097152) (hy : y.length ≤ 2097152) (W : World) : (Op.stringOp .add ⟨x.toArray⟩ ⟨y.toArray⟩).run Tryz.prog W = .ok (.string ⟨(x ++ y).toArray⟩) W := run_string_add_lists W x y (by omega) (by omega)
theorem nd_le : ∀ (k u : Nat), u < 10 ^ (k + 1) → Lib.nDigits u ≤ k + 1
  | 0, u, h => by rw [Lib.nDigits_small (by simpa using h)]; omega
  | k + 1, u, h => by
    by_cases h9 : u < 10
    · rw [Lib.nDigits_small h9]; omega
    · rw [Lib.nDigits_big h9]
      have := nd_le k (u / 10) (by rw [Nat.pow_succ] at h; omega)
      omega
theorem itoa_len (n : Int) (h0 : -9223372036854775808 ≤ n) (h1 : n ≤ 9223372036854775807) : (Lib.itoa n).length ≤ 20 := by
  have hd : ∀ u : Nat, u < 10000000000000000000 → (Lib.decDigits u).length ≤ 19 := fun u hu => by
    rw [Lib.decDigits_eq, List.length_map, List.length_range]
    rcases Nat.lt_or_ge (Lib.nDigits u) 20 with h | h
    · omega
    · exfalso
      have := nd_le 18 u (by omega)
      omega
  unfold Lib.itoa
  split
  · rw [List.length_cons]
    have := hd n.natAbs (by omega)
    omega
  · have := hd n.toNat (by omega)
    omega
set_option maxRecDepth 100000 in
set_option maxHeartbeats 1000000 in
theorem factor_any (x : Fa) (hs : x.1.size ≤ 1048576) (h0 : -9223372036854775808 ≤ x.2) (h1 : x.2 ≤ 9223372036854775807) (w : World) (T : Tabs w) :
    Calls Tryz.prog 43 #[.agg #[.string x.1, .int .i64 x.2]] w fun e w' => e = .returned (.string ⟨(f1 x).toArray⟩) ∧ Below w.heap.size w w' := by
  have I := Lib.hid (fun W (h : Below w.heap.size w W) => itoa_any x.2 h0 h1 W (T.stays h))
  have L := itoa_len x.2 h0 h1
  by_cases hx : x.2 = 1
  · have q1 : (x.2 == 1) = true := beq_iff_eq.2 hx
    have hr := Lib.hid (show f1 x = x.1.data.toList by unfold f1; rw [if_pos hx])
    clear I hx L h0 h1 T hs
    generalize x.2 = y at *
    go_enter Tryz.func43, Tryz.ntmps43
    go_wp2_with fail
    go_ret
    exact ⟨by rw [hr.out]; rfl, balloc (b0 w) _⟩
  · have q1 : (x.2 == 1) = false := beq_eq_false_iff_ne.2 hx
    have hr := Lib.hid (show (⟨(f1 x).toArray⟩ : ByteArray) = ⟨(x.1.data.toList ++ 94 :: Lib.itoa x.2).toArray⟩ by unfold f1; rw [if_neg hx])
    have hsz : x.1.data.toList.length ≤ 1048576 := by rw [← Lib.size_eq]; exact hs
    have A := add_str x.1.data.toList [94] (by omega) (by simp)
    replace A : ∀ W, (Op.stringOp .add x.1 ⟨#[94]⟩).run Tryz.prog W = .ok (.string ⟨(x.1.data.toList ++ [94]).toArray⟩) W := A
    have B := add_str (x.1.data.toList ++ [94]) (Lib.itoa x.2) (by rw [List.length_append]; simp; omega) (by omega)
    rw [show x.1.data.toList ++ [94] ++ Lib.itoa x.2 = x.1.data.toList ++ 94 :: Lib.itoa x.2 by simp] at B
    have C0 := Lib.hid ((Bw.new w x 37).c0)
    have C1 := Lib.hid ((Bw.new w x 37).c1)
    have BB := Lib.hid (balloc (b0 w) (.cells #[.string x.1, .int .i64 x.2] 37))
    clear hx L h0 h1 T hs hsz
    generalize x.1.data.toList ++ 94 :: Lib.itoa x.2 = l3 at *
    generalize (⟨(x.1.data.toList ++ [94]).toArray⟩ : ByteArray) = s1 at *
    generalize (⟨(Lib.itoa x.2).toArray⟩ : ByteArray) = s2 at *
    generalize (⟨l3.toArray⟩ : ByteArray) = s3 at *
    go_enter Tryz.func43, Tryz.ntmps43
    go_wp2_with fail
    generalize w.alloc (.cells #[.string x.1, .int .i64 x.2] 37) = W1 at *
    have c0 := cell_regrown C0.out
    have c1 := cell_regrown C1.out
    have K1 := Lib.hid (fun d os => Calls.regrown_of (I.out (Sort.grow (redrawn W1 d) os) (bnext BB.out (below_regrown W1 d os))))
    clear C0 C1 I
    refine wp_region_quiet_below (by kernel_rfl) (by kernel_rfl) ?_
    repeat (first | go_big_quiet_skip | (go_big_quiet_want; go_big_quiet_op; go_big_quiet_on) | quiet_step ((first | (go_at_call 63; exact K1.out _ _))))
    refine wpQuiet_nil ?_
    intro w9 hw9
    have hb9 := below_of hw9
    clear hw9 K1 c0 c1
    go_wp2_with fail
    go_ret
    exact ⟨by rw [hr.out]; rfl, bnext BB.out hb9⟩

/-! Lists of strings of the call's own. -/
theorem infoS : (Tryz.prog.info? 9).map (fun i => (i.zero, i.size, i.bytes)) = some (some (.string ByteArray.empty), 1, 16) := by kernel_rfl
def OS (w : World) (base : Nat) (v : Value) (l : List ByteArray) : Prop := w.ownsRow base 9 1 v l.length (l.map Value.string)
theorem OS.nil (w : World) (base : Nat) : OS w base (.slice none 0 0) [] := World.ownsRow_nil _ _ _ _
theorem OS.keeps {w w1 : World} {base : Nat} {v : Value} {l : List ByteArray} (h : OS w base v l) (hb : Below w.heap.size w w1) : OS w1 base v l := by
  obtain ⟨h1, h2⟩ := h
  refine ⟨h1, ?_⟩
  rcases h2 with h0 | ⟨g, cap, cur, e, hbg, hh, r⟩
  · exact .inl h0
  · refine .inr ⟨g, cap, cur, e, hbg, ?_, r⟩
    have : g < w.heap.size := by
      rcases Nat.lt_or_ge g w.heap.size with h' | h'
      · exact h'
      · rw [Array.getElem?_eq_none h'] at hh; cases hh
    rw [hb.block _ this]
    exact hh
theorem wpList_pushS (w : World) {ops : Array Oper} {rest : List Oper} {o : Oper} {a : Act} {Q : Exit → Act → World → Prop} (hgd : o.guard = none) (s x : Operand)
    (ho : o.op = .call { callee := .builtin .append, args := #[s, x], argTypes := #[53, 53] })
    (base : Nat) (v : Value) (l : List ByteArray) (hs : a.eval s = v) (hown : OS w base v l) (b : Nat) (t : ByteArray) (hx : a.eval x = .slice (some ⟨b, 0, none⟩) 1 1) (hB : w.cell? ⟨b, 0, none⟩ = some (.string t))
    (hn : l.length < 5864062014805) (hbase : base ≤ w.heap.size)
    (h : ∀ v' w', OS w' base v' (l ++ [t]) → Below base w w' → wpList Tryz.prog ops Q rest (a.put o.dst v') w') : wpList Tryz.prog ops Q (o :: rest) a w := by
  refine wpList_plain hgd fun _ hK => ?_
  obtain ⟨i, hi, hz0, hz1, hz2⟩ := info_parts infoS
  refine wp_append_own w s x 53 ho base 9 i (.string ByteArray.empty) 1 16 Tryz.underlying53 hi hz0 hz1 hz2 rfl (by decide) v l.length (l.map Value.string) hs hown ⟨b, 0, none⟩ 1 1 [.string t] hx rfl ?_ (fun u hu => by simp at hu; subst hu; rfl)
    (by unfold maxLen; omega) (by omega) hbase fun v' w' h1 h2 _ => hK _ _ (h v' w' (by unfold OS; rw [List.map_append, List.length_append]; exact h1) ((Below.refl base w).grown h2 hbase fun k hk => (hown.lt k hk).1))
  intro j u hu
  match j, hu with
  | 0, hu => simp at hu; subst hu; exact hB
  | j + 1, hu => simp at hu
theorem is_appS {w : World} {ops : Array Oper} {rest : List Oper} {o : Oper} {a : Act} {Q : Exit → Act → World → Prop} (s x : Operand) (_ : o.op = .call { callee := .builtin .append, args := #[s, x], argTypes := #[53, 53] })
    (k : wpList Tryz.prog ops Q (o :: rest) a w) : wpList Tryz.prog ops Q (o :: rest) a w := k
/-- strings.Join over such a list. -/
theorem join_any (v : Value) (l : List ByteArray) (base : Nat) (w : World) (hO : OS w base v l) (hn : l.length < 5864062014805) (hl : (Lib.join (l.map (·.data.toList)) [42]).length ≤ 140737488355328) :
    Calls Tryz.prog 44 #[v, .string ⟨#[42]⟩] w fun e w' => e = .returned (.string ⟨(Lib.join (l.map (·.data.toList)) [42]).toArray⟩) ∧ Below w.heap.size w w' := by
  obtain ⟨h1, h2⟩ := id hO
  rcases h2 with ⟨rfl, h0⟩ | ⟨g, cap, cur, rfl, hbg, hh, hc, hm, hs, ht⟩
  · have hz : l = [] := List.eq_nil_of_length_eq_zero h0
    subst hz
    refine (Tryz.strings_Join_none none 0 ⟨#[42]⟩ w).mono ?_
    rintro e w' ⟨rfl, rfl⟩
    exact ⟨rfl, b0 _⟩
  · refine (Tryz.strings_Join g 0 cap l ⟨#[42]⟩ w (fun j x hx => ?_) (hO.lt g rfl).2 (by omega) hc hl).mono ?_
    · have hj : j < l.length := (List.getElem?_eq_some_iff.1 hx).1
      rw [Nat.zero_add, World.ownsRow.cellAt hO j (by simpa using hj), List.getElem?_map, hx]
      rfl
    · rintro e w' ⟨rfl, hb⟩
      exact ⟨rfl, hb⟩
theorem f1_map (l : List Fa) : (l.map fun x => (⟨(f1 x).toArray⟩ : ByteArray)).map (·.data.toList) = l.map f1 := by
  rw [List.map_map]
  rfl
set_option maxRecDepth 100000 in
set_option maxHeartbeats 1000000 in
theorem format_any (a : Option Addr) (n cap : Nat) (l : List Fa) (w : World) (hS : Sl w a n cap l) (hx : ∀ x ∈ l, -9223372036854775808 ≤ x.2 ∧ x.2 ≤ 9223372036854775807) (hz : ∀ x ∈ l, x.1.size ≤ 1048576) (hlen : l.length < 5864062014805) (ht : (fT l).length ≤ 140737488355328) (T : Tabs w) :
    Calls Tryz.prog 23 #[.slice a n cap] w fun e w' => e = .returned (.string ⟨(fT l).toArray⟩) ∧ Below w.heap.size w w' := by
  have S0 := Lib.hid hS
  have X0 := Lib.hid hx
  have Z0 := Lib.hid hz
  have N0 := Lib.hid hlen
  have T0 := Lib.hid T
  have J0 := Lib.hid (fun v W h => join_any v (l.map fun x => (⟨(f1 x).toArray⟩ : ByteArray)) w.heap.size W h (by rw [List.length_map]; exact hlen) (by rw [f1_map]; exact ht))
  rw [f1_map] at J0
  clear hS hx hz hlen T ht
  go_enter Tryz.func23, Tryz.ntmps23
  go_wp2_with fail
  go_loopw [3, 8] (fun vu vi wr => ∃ j : Nat, vi = .int .i64 (j : Nat) ∧ Hid (j ≤ n) ∧ Hid (OS wr w.heap.size vu ((l.take j).map fun x => (⟨(f1 x).toArray⟩ : ByteArray))) ∧ Hid (Below w.heap.size w wr)) (fun _ vi _ => n - (intOf vi).toNat)
  case atStart => exact ⟨0, rfl, Lib.hid (Nat.zero_le _), Lib.hid (OS.nil _ _), Lib.hid (b0 w)⟩
  case round =>
    obtain ⟨j, rfl, hj, hO, hb⟩ := hrel
    by_cases hc : j < n
    · have hln := Lib.hid (show j < l.length by have := S0.out.hn; omega)
      obtain ⟨bk, off, rfl, hC⟩ := (S0.out.keeps hb.out).hat.resolve_left (by have := hln.out; omega)
      obtain ⟨c0, c1⟩ := hC j hln.out
      have q2 : decide ((j : Int) < (n : Int)) = true := decide_eq_true (by omega)
      have q3 : j < n := hc
      have f4 := Lib.hid (next_at (j := j) (by have := S0.out.hcap; have := S0.out.hmax; omega))
      have hm := gt_mem hln.out
      have FC := Lib.hid (fun W (h : Below w.heap.size w W) => factor_any (gt l j) (Z0.out _ hm) (X0.out _ hm).1 (X0.out _ hm).2 W (T0.out.stays h))
      have hn := Lib.hid (take_gt hln.out)
      have hl8 := Lib.hid (show ((l.take j).map fun x => (⟨(f1 x).toArray⟩ : ByteArray)).length < 5864062014805 by have := N0.out; simp; omega)
      clear hC hm
      generalize gt l j = x at c0 c1 hn FC
      have BB := Lib.hid (balloc hb.out (.cells #[.string x.1, .int .i64 x.2] 37))
      have OO := Lib.hid (hO.out.keeps (balloc (b0 wr) (.cells #[.string x.1, .int .i64 x.2] 37)))
      generalize hs1 : (⟨(f1 x).toArray⟩ : ByteArray) = s1 at FC
      replace hs1 := Lib.hid hs1
      go_wp2_with fail
      refine (FC.out _ BB.out).mono ?_
      rintro e w3 ⟨rfl, b3⟩
      have B3 := Lib.hid (bnext BB.out b3)
      have O3 := Lib.hid (OO.out.keeps b3)
      clear b3 BB OO
      go_wp2_with (at_builtin; refine is_appS (.tmp 12) (.tmp 15) rfl ?_; refine wpList_pushS _ rfl (.tmp 12) (.tmp 15) rfl w.heap.size _ _ rfl (O3.out.keeps (balloc (b0 w3) _)) w3.heap.size s1 rfl (by simp [go_sem]) hl8.out (by have := B3.out.size; simp; omega) ?_; intro v2 w6 O6 b6)
      have B6 := Lib.hid ((balloc B3.out (.cells #[.string s1] 9)).trans b6)
      have O7 := Lib.hid (show OS w6 w.heap.size v2 ((l.take (j + 1)).map fun x => (⟨(f1 x).toArray⟩ : ByteArray)) by rw [hn.out, List.map_append, List.map_singleton, hs1.out]; exact O6)
      clear b6 O6
      go_wp2_with fail
      refine ⟨⟨j + 1, congrArg (Value.int .i64) f4.out, Lib.hid hc, O7, B6⟩, less_at hc f4.out⟩
    · have q2 : decide ((j : Int) < (n : Int)) = false := decide_eq_false (by omega)
      have hO2 := Lib.hid hO.out
      rw [show l.take j = l from List.take_of_length_le (by have := S0.out.hn; omega)] at hO2
      clear hO
      go_wp2_with fail
      refine (J0.out _ _ hO2.out).mono ?_
      rintro e w7 ⟨rfl, b7⟩
      have B7 := Lib.hid (bnext hb.out b7)
      clear b7
      go_wp2_with fail
      go_ret
      exact ⟨rfl, B7.out⟩
end Go.Proofs.YtcndlcogainnkaaGreatDoor
