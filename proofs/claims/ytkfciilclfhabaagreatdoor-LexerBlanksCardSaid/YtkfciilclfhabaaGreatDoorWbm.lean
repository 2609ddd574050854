/-
  LexerBlanks: gaps; tokens behind gaps as plain data; the walk.
-/
import Derived.Test.YtkfciilclfhabaaGreatDoorRjo
import Derived.Test.YtkfciilclfhabaaGreatDoorExa
import Derived.Test.YtkfciilclfhabaaGreatDoorLnf
namespace Go.Proofs.YtkfciilclfhabaaGreatDoor
open Go.RowKit dec

theorem fewR_of_sml {l : List Tk} (h : sml l = true) : fewR l := ⟨fun x hx => by have := (sml_few h).1 x hx; omega, by have := (sml_few h).2; omega⟩

theorem wpList_catBs (w : World) {ops : Array Oper} {rest : List Oper} {o : Oper} {a : Act} {Q : Exit → Act → World → Prop} (hgd : o.guard = none) (s x : Operand)
    (ho : o.op = .call { callee := .builtin .append, args := #[s, x], argTypes := #[22, 22] })
    (base : Nat) (v : Value) (l : List UInt8) (hs : a.eval s = v) (hown : OB w base v l) (ad : Option Addr) (n cap : Nat) (t : ByteArray) (hx : a.eval x = .slice ad n cap) (hS : Bs w ad n cap t)
    (hn : l.length + n < 140737488355328) (hbase : base ≤ w.heap.size)
    (h : ∀ v' w', OB w' base v' (l ++ t.data.toList) → Below base w w' → wpList Tryz.prog ops Q rest (a.put o.dst v') w') : wpList Tryz.prog ops Q (o :: rest) a w := by
  refine wpList_plain hgd fun K hK => ?_
  obtain ⟨i, hi, hz0, hz1, hz2⟩ := info_parts infoU
  have hln := hS.hn
  cases ad with
  | none =>
    have h0 := hS.hno rfl
    have h1 := hS.hcap
    have hn0 : n = 0 := by omega
    subst h0
    subst hn0
    have ht : t.data.toList = [] := List.eq_nil_of_length_eq_zero (by rw [str_len]; exact hln)
    have hrun := run_append_owned_none (P := Tryz.prog) (w := w) base 22 o.type 5 i 1 Tryz.underlying22 hi v l.length (bv l) hown
    unfold Oper.wp
    simp only [execOp, ho, resolve, invoke, builtin, Sem.run_bind, Sem.run_pure, Result.andThen_ok, List.map_toArray, List.map_cons, List.map_nil, hs, hx, hrun]
    exact hK _ _ (h v w (by rw [ht, List.append_nil]; exact hown) (Below.refl _ _))
  | some ad =>
    refine wp_append_own w s x 22 ho base 5 i (.int .u8 0) 1 1 Tryz.underlying22 hi hz0 hz1 hz2 rfl (by decide) v l.length (bv l) hs hown ad n cap (bv t.data.toList) hx (by rw [bv_len, str_len, hln]; omega) ?_ (fun u hu => by unfold bv at hu; obtain ⟨c, _, rfl⟩ := List.mem_map.1 hu; rfl)
      (by unfold maxLen; omega) (by omega) hbase fun v' w' h1 h2 _ => ?_
    · intro j u hu
      have hj : j < t.size := by
        rcases Nat.lt_or_ge j (bv t.data.toList).length with h' | h'
        · rwa [bv_len, str_len] at h'
        · rw [List.getElem?_eq_none h'] at hu; cases hu
      obtain ⟨b, off, e, hC⟩ := hS.hat.resolve_left (by omega)
      cases e
      have hp : (⟨b, off, none⟩ : Addr).add j = ⟨b, off + j, none⟩ := by
        unfold Addr.add
        by_cases h : j = 0 <;> simp [h]
      unfold bv at hu
      rw [List.getElem?_map, ba_get t j hj] at hu
      rw [hp, hC j hj, ← hu]
      rfl
    · refine hK _ _ (h v' w' ?_ ((Below.refl base w).grown h2 hbase fun k hk => (hown.lt k hk).1))
      unfold OB
      rw [bv_append, List.length_append, str_len, hln]
      exact h1
def no10 (c : UInt8) : Bool := !decide (c.toNat = 10)
/-- The blank that a byte chooses. -/
def blk (c : UInt8) : UInt8 := if c.toNat % 4 = 0 then 32 else if c.toNat % 4 = 1 then 9 else if c.toNat % 4 = 2 then 10 else 13
def gapP (s : List UInt8) : List UInt8 :=
  if (s.take 20).length % 2 = 1 then 32 :: 35 :: ((s.take 20).filter no10 ++ [10]) else 32 :: (s.take 20).map blk
theorem blk_blank (c : UInt8) : isB (blk c) = true := by
  unfold blk
  split
  · rfl
  · split
    · rfl
    · split <;> rfl
theorem sk_all (r : List UInt8) : ∀ l : List UInt8, (∀ c ∈ l, isB c = true) → sk false (l ++ r) = l.length + sk false r
  | [], _ => by simp
  | c :: l, h => by
    rw [List.cons_append, sk_blank (h c (List.mem_cons_self ..)), sk_all r l fun d hd => h d (List.mem_cons_of_mem _ hd), List.length_cons]
    omega
theorem sk_note (r : List UInt8) : ∀ l : List UInt8, (∀ c ∈ l, isC c = true) → sk true (l ++ 10 :: r) = l.length + 1 + sk false r
  | [], _ => by
    have h1 : isB 10 = true := by decide
    have h2 : isC 10 = false := by decide
    show sk true (10 :: r) = _
    rw [sk_cons, h1, h2]
    simp
    omega
  | c :: l, h => by
    have hc := h c (List.mem_cons_self ..)
    rw [List.cons_append, sk_cons, hc]
    simp only [Bool.true_and, Bool.true_or, if_true]
    rw [sk_note r l fun d hd => h d (List.mem_cons_of_mem _ hd), List.length_cons]
    omega
theorem gap_gp (s : List UInt8) : Gp (gapP s) := by
  unfold gapP
  split
  · refine ⟨⟨_, rfl⟩, fun r => ?_⟩
    have h1 : ∀ c ∈ (s.take 20).filter no10, isC c = true := fun c hc => by
      have := (List.mem_filter.1 hc).2
      unfold no10 at this
      unfold isC
      exact this
    generalize (s.take 20).filter no10 = f at *
    rw [List.cons_append, sk_blank (by decide), List.cons_append, sk_cons]
    have e1 : isC 35 = true := by decide
    rw [e1, show decide ((35 : UInt8).toNat = 35) = true by decide]
    simp only [Bool.or_true, if_true, Bool.true_and]
    rw [List.append_assoc, List.singleton_append, sk_note r f h1]
    simp only [List.length_cons, List.length_append, List.length_nil]
    omega
  · refine ⟨⟨_, rfl⟩, fun r => ?_⟩
    rw [sk_all r _ (fun c hc => ?_)]
    rcases List.mem_cons.1 hc with rfl | hc
    · decide
    · obtain ⟨d, _, rfl⟩ := List.mem_map.1 hc
      exact blk_blank d
theorem gap_len (s : List UInt8) : (gapP s).length ≤ 30 := by
  have h1 : (s.take 20).length ≤ 20 := by rw [List.length_take]; omega
  have h2 := List.length_filter_le no10 (s.take 20)
  unfold gapP
  split
  · simp only [List.length_cons, List.length_append, List.length_nil]
    omega
  · simp only [List.length_cons, List.length_map]
    omega
theorem ob_lit (w : World) (c : UInt8) (x : Int) (hx : x = (c.toNat : Int)) : OB (w.alloc (.cells #[.int .u8 x] 5)) w.heap.size (.slice (some ⟨w.heap.size, 0, none⟩) 1 1) [c] := by
  subst hx
  exact World.ownsRow_lit w #[.int .u8 (c.toNat : Int)] 1 (Nat.le_refl _) (by unfold maxLen; omega) rfl
theorem OB.keeps2 {w w1 : World} {base : Nat} {v : Value} {l : List UInt8} (h : OB w base v l) (hb : Below w.heap.size w w1) : OB w1 base v l := h.keeps hb
/-- The first bytes of a string. -/
theorem slice_head (s : ByteArray) {m : Nat} (hm : m ≤ s.size) (W : World) : (Instr.slice 9 (.string s) none (some (.int .i64 (m : Nat))) none).run Tryz.prog W = .ok (.string (s.extract 0 m)) W := by
  have := run_slice_string_to_if W 9 s .i64 (m : Int) Tryz.underlying9
  rw [this, if_pos ⟨by omega, by omega⟩, Int.toNat_natCast]
theorem blk_at (c : UInt8) : ∃ h : c.toNat % 4 < 4, (⟨#[32, 9, 10, 13]⟩ : ByteArray)[c.toNat % 4]'h = blk c := by
  refine ⟨Nat.mod_lt _ (by decide), ?_⟩
  unfold blk
  have h4 : c.toNat % 4 = 0 ∨ c.toNat % 4 = 1 ∨ c.toNat % 4 = 2 ∨ c.toNat % 4 = 3 := by omega
  rcases h4 with h | h | h | h
  all_goals (simp only [h]; rfl)

theorem filter_next {t : ByteArray} {j : Nat} (hj : j < t.size) : (t.data.toList.take (j + 1)).filter no10 = (t.data.toList.take j).filter no10 ++ (if no10 t[j] = true then [t[j]] else []) := by
  have h' : j < t.data.toList.length := by rw [str_len]; exact hj
  rw [List.take_add_one, List.getElem?_eq_getElem h', List.filter_append]
  congr 1
  show List.filter no10 [t[j]] = _
  rw [List.filter_cons, List.filter_nil]
theorem map_next {t : ByteArray} {j : Nat} (hj : j < t.size) : (t.data.toList.take (j + 1)).map blk = (t.data.toList.take j).map blk ++ [blk t[j]] := by
  have h' : j < t.data.toList.length := by rw [str_len]; exact hj
  rw [List.take_add_one, List.getElem?_eq_getElem h', List.map_append]
  rfl
theorem filter_le (l : List UInt8) (j : Nat) (h : l.length ≤ 20) : ((l.take j).filter no10).length ≤ 20 := by
  have h1 := List.length_filter_le no10 (l.take j)
  rw [List.length_take] at h1
  omega
set_option maxRecDepth 100000 in
set_option maxHeartbeats 16000000 in
/-- gap of at most 20 bytes, behind the first two regions. -/
theorem gap_any (s : ByteArray) (w : World) :
    Calls Tryz.prog 15 #[.string s] w fun e w' => ∃ (g : ByteArray) (a : Option Addr) (cap : Nat), g.data.toList = gapP s.data.toList ∧ e = .returned (.slice a g.size cap) ∧ Bs w' a g.size cap g ∧ Below w.heap.size w w' := by
  obtain ⟨t, htd, ht20⟩ : ∃ t : ByteArray, t.data.toList = s.data.toList.take 20 ∧ t.size ≤ 20 := ⟨⟨(s.data.toList.take 20).toArray⟩, rfl, by rw [← str_len]; show ((s.data.toList.take 20)).length ≤ 20; rw [List.length_take]; omega⟩
  have hcut : (decide (20 < (s.size : Int)) = true ∧ decide (20 < s.size) = true ∧ ∀ W, (Instr.slice 9 (.string s) none (some (.int .i64 20)) none).run Tryz.prog W = .ok (.string t) W) ∨ (decide (20 < (s.size : Int)) = false ∧ decide (20 < s.size) = false ∧ t = s) := by
    by_cases h : 20 < s.size
    · refine .inl ⟨decide_eq_true (by omega), decide_eq_true h, fun W => ?_⟩
      have h1 := slice_head s (m := 20) (by omega) W
      have e : s.extract 0 20 = t := ba_ext (by rw [ext_data, htd]; rfl)
      rw [e] at h1
      exact h1
    · exact .inr ⟨decide_eq_false (by omega), decide_eq_false h, ba_ext (by rw [htd, List.take_of_length_le (by rw [str_len]; omega)])⟩
  have hG : gapP s.data.toList = if t.size % 2 = 1 then 32 :: 35 :: (t.data.toList.filter no10 ++ [10]) else 32 :: t.data.toList.map blk := by
    unfold gapP
    rw [← htd, str_len]
  have ht := Lib.hid ht20
  have hl20 := Lib.hid (show t.data.toList.length ≤ 20 by rw [str_len]; exact ht20)
  have O1 := Lib.hid (ob_lit w 32 32 rfl)
  have B1 := Lib.hid (balloc (b0 w) (.cells #[.int .u8 32] 5))
  clear htd ht20
  by_cases hm : t.size % 2 = 1
  · have qm : (((t.size : Nat) : Int) % 2 == 1) = true := by rw [beq_iff_eq]; omega
    rw [if_pos hm] at hG
    replace hG := Lib.hid hG
    clear hm
    rcases hcut with ⟨q1, q1', SL⟩ | ⟨q1, q1', rfl⟩
    all_goals (
      go_enter Tryz.func15, Tryz.ntmps15
      go_wp2_with (at_builtin; refine is_appB (.tmp 16) (.tmp 17) rfl ?_; refine wpList_pushB _ rfl (.tmp 16) (.tmp 17) rfl w.heap.size _ _ rfl (O1.out.keeps (balloc (b0 _) _)) (w.heap.size + 1) 35 rfl (by simp [go_sem]) (by simp) (by simp; omega) ?_; intro v2 w2 O2 b2)
      have B2 := Lib.hid ((balloc B1.out (.cells #[.int .u8 35] 5)).trans b2)
      have O3 := Lib.hid O2
      clear O2 b2
      go_wp2_with fail
      go_loopw [3, 4] (fun vs vi wr => ∃ j : Nat, vi = .int .i64 (j : Nat) ∧ Hid (j ≤ t.size) ∧ Hid (OB wr w.heap.size vs (32 :: 35 :: ((t.data.toList.take j).filter no10))) ∧ Hid (Below w.heap.size w wr)) (fun _ vi _ => t.size - (intOf vi).toNat)
      case atStart => exact ⟨0, rfl, Lib.hid (Nat.zero_le _), O3, B2⟩
      case round =>
        obtain ⟨j, rfl, hj, hO, hb⟩ := hrel
        by_cases hc : j < t.size
        · have q2 : decide ((j : Int) < (t.size : Int)) = true := decide_eq_true (by omega)
          have q3 : j < t.size := hc
          have f4 := Lib.hid (next_at (j := j) (by have := ht.out; omega))
          have hn := filter_next hc
          have hlen := Lib.hid (filter_le t.data.toList j hl20.out)
          by_cases h10 : t[j].toNat = 10
          · have e1 : (((t[j].toNat : Nat) : Int) != 10) = false := by rw [h10]; rfl
            have e2 : (((t[j].toNat : Nat) : Int) == 10) = true := by rw [h10]; rfl
            rw [if_neg (by unfold no10; rw [decide_eq_true h10]; decide), List.append_nil] at hn
            rw [← hn] at hO
            clear h10 hn
            go_wp2_with fail
            exact ⟨⟨j + 1, congrArg (Value.int .i64) f4.out, Lib.hid q3, hO, hb⟩, less_at q3 f4.out⟩
          · have e2 : (((t[j].toNat : Nat) : Int) == 10) = false := by rw [beq_eq_false_iff_ne]; omega
            have e1 : (((t[j].toNat : Nat) : Int) != 10) = true := by rw [bne, e2]; rfl
            rw [if_pos (by unfold no10; rw [decide_eq_false h10]; rfl)] at hn
            replace hn := Lib.hid hn
            clear h10
            go_wp2_with (at_builtin; refine is_appB (.tmp 29) (.tmp 33) rfl ?_; refine wpList_pushB _ rfl (.tmp 29) (.tmp 33) rfl w.heap.size _ _ rfl (hO.out.keeps (balloc (b0 wr) _)) wr.heap.size t[j] rfl (by simp [go_sem]) (by have := hlen.out; simp only [List.length_cons]; omega) (by have := hb.out.size; simp; omega) ?_; intro v5 w5 O5 b5)
            have B5 := Lib.hid ((balloc hb.out (.cells #[.int .u8 (t[j].toNat : Nat)] 5)).trans b5)
            have O6 := Lib.hid (show OB w5 w.heap.size v5 (32 :: 35 :: ((t.data.toList.take (j + 1)).filter no10)) by rw [hn.out]; exact O5)
            clear O5 b5
            go_wp2_with fail
            exact ⟨⟨j + 1, congrArg (Value.int .i64) f4.out, Lib.hid q3, O6, B5⟩, less_at q3 f4.out⟩
        · have q2 : decide ((j : Int) < (t.size : Int)) = false := decide_eq_false (by omega)
          have q3 : decide (j < t.size) = false := decide_eq_false hc
          have hlen := Lib.hid (filter_le t.data.toList j hl20.out)
          have hall : t.data.toList.take j = t.data.toList := List.take_of_length_le (by rw [str_len]; omega)
          rw [hall] at hO hlen
          clear hall hc
          go_wp2_with (at_builtin; refine is_appB (.tmp 35) (.tmp 36) rfl ?_; refine wpList_pushB _ rfl (.tmp 35) (.tmp 36) rfl w.heap.size _ _ rfl (hO.out.keeps (balloc (b0 wr) _)) wr.heap.size 10 rfl (by simp [go_sem]) (by have := hlen.out; simp only [List.length_cons]; omega) (by have := hb.out.size; simp; omega) ?_; intro v5 w5 O5 b5)
          have B5 := Lib.hid ((balloc hb.out (.cells #[.int .u8 10] 5)).trans b5)
          obtain ⟨g, hg⟩ : ∃ g : ByteArray, g.data.toList = 32 :: 35 :: (t.data.toList.filter no10 ++ [10]) := ⟨⟨(32 :: 35 :: (t.data.toList.filter no10 ++ [10])).toArray⟩, rfl⟩
          have O6 : OB w5 w.heap.size v5 g.data.toList := by rw [hg]; exact O5
          obtain ⟨a5, c5, rfl, hB5⟩ := O6.bs
          go_ret
          exact ⟨g, a5, c5, by rw [hg]; exact hG.out.symm, rfl, hB5, B5.out⟩)
  · have qm : (((t.size : Nat) : Int) % 2 == 1) = false := by rw [beq_eq_false_iff_ne]; omega
    rw [if_neg hm] at hG
    replace hG := Lib.hid hG
    clear hm
    rcases hcut with ⟨q1, q1', SL⟩ | ⟨q1, q1', rfl⟩
    all_goals (
      go_enter Tryz.func15, Tryz.ntmps15
      go_wp2_with fail
      go_loopw [3, 5] (fun vs vi wr => ∃ j : Nat, vi = .int .i64 (j : Nat) ∧ Hid (j ≤ t.size) ∧ Hid (OB wr w.heap.size vs (32 :: (t.data.toList.take j).map blk)) ∧ Hid (Below w.heap.size w wr)) (fun _ vi _ => t.size - (intOf vi).toNat)
      case atStart => exact ⟨0, rfl, Lib.hid (Nat.zero_le _), O1, B1⟩
      case round =>
        obtain ⟨j, rfl, hj, hO, hb⟩ := hrel
        by_cases hc : j < t.size
        · have q2 : decide ((j : Int) < (t.size : Int)) = true := decide_eq_true (by omega)
          have q3 : j < t.size := hc
          have f4 := Lib.hid (next_at (j := j) (by have := ht.out; omega))
          have hn := Lib.hid (map_next hc)
          have hlen := Lib.hid (show ((t.data.toList.take j).map blk).length ≤ 20 by rw [List.length_map, List.length_take]; have := hl20.out; omega)
          obtain ⟨hk4, hbk⟩ := blk_at t[j]
          replace hbk := Lib.hid hbk
          go_wp2_with (at_builtin; refine is_appB (.tmp 44) (.tmp 50) rfl ?_; refine wpList_pushB _ rfl (.tmp 44) (.tmp 50) rfl w.heap.size _ _ rfl (hO.out.keeps (balloc (b0 wr) _)) wr.heap.size (blk t[j]) rfl (by rw [← hbk.out]; simp [go_sem]) (by have := hlen.out; simp only [List.length_cons]; omega) (by have := hb.out.size; simp; omega) ?_; intro v5 w5 O5 b5)
          have B5 := Lib.hid ((balloc hb.out _).trans b5)
          have O6 := Lib.hid (show OB w5 w.heap.size v5 (32 :: (t.data.toList.take (j + 1)).map blk) by rw [hn.out]; exact O5)
          clear O5 b5
          go_wp2_with fail
          exact ⟨⟨j + 1, congrArg (Value.int .i64) f4.out, Lib.hid q3, O6, B5⟩, less_at q3 f4.out⟩
        · have q2 : decide ((j : Int) < (t.size : Int)) = false := decide_eq_false (by omega)
          have q3 : decide (j < t.size) = false := decide_eq_false hc
          have hall : t.data.toList.take j = t.data.toList := List.take_of_length_le (by rw [str_len]; omega)
          rw [hall] at hO
          clear hall hc
          obtain ⟨g, hg⟩ : ∃ g : ByteArray, g.data.toList = 32 :: t.data.toList.map blk := ⟨⟨(32 :: t.data.toList.map blk).toArray⟩, rfl⟩
          have hO2 := hO.out
          rw [← hg] at hO2
          obtain ⟨a5, c5, rfl, hB5⟩ := hO2.bs
          go_wp2_with fail
          go_ret
          exact ⟨g, a5, c5, by rw [hg]; exact hG.out.symm, rfl, hB5, hb.out⟩)

theorem smB_kt : ∀ {l r : List Tk}, l.map kt = r.map kt → smB false 0 l r = true
  | [], [], _ => rfl
  | x :: l, y :: r, h => by
    rw [List.map_cons, List.map_cons] at h
    obtain ⟨h1, h2⟩ := List.cons.inj h
    obtain ⟨h3, h4⟩ := Prod.mk.inj h1
    simp only [smB, decide_eq_true h3, decide_eq_true h4, smB_kt h2, Bool.not_false, Bool.true_or, Bool.true_and]
  | [], y :: r, h => by cases h
  | x :: l, [], h => by cases h
/-- The source with gaps, up to the token j. -/
def bl (q : Nat → ByteArray) (m : Nat) (l : List Tk) : Nat → List UInt8
  | 0 => []
  | j + 1 => bl q m l j ++ gapP (q (j % m)).data.toList ++ so (tk.gt l j)
theorem bl_len (q : Nat → ByteArray) (m : Nat) {l : List Tk} (h : ∀ x ∈ l, x.t.size ≤ 300) : ∀ j, j ≤ l.length → (bl q m l j).length ≤ j * 400
  | 0, _ => Nat.le_refl _
  | j + 1, hj => by
    have h1 := bl_len q m h j (by omega)
    have h2 := gap_len (q (j % m)).data.toList
    have h3 := so_size (tk.gt l j)
    have h4 := h _ (tk.gt_mem (l := l) (j := j) (by omega))
    unfold bl
    rw [List.length_append, List.length_append]
    omega
theorem mix_snoc (g : List UInt8) (x : Tk) (e : List UInt8) : ∀ l : List (List UInt8 × Tk), mix (l ++ [(g, x)]) e = mix l (g ++ (so x ++ e))
  | [] => rfl
  | (g2, y) :: l => by
    rw [List.cons_append]
    unfold mix
    rw [mix_snoc g x e l]
theorem mix_bl (q : Nat → ByteArray) (m : Nat) (L : List Tk) : ∀ (j : Nat) (e : List UInt8), mix ((List.range j).map fun i => (gapP (q (i % m)).data.toList, tk.gt L i)) e = bl q m L j ++ e
  | 0, e => rfl
  | j + 1, e => by
    rw [List.range_succ, List.map_append, List.map_singleton, mix_snoc, mix_bl q m L j]
    show _ = (bl q m L j ++ gapP (q (j % m)).data.toList ++ so (tk.gt L j)) ++ e
    simp only [List.append_assoc]
theorem strip_prefix (l : List Tk) : l.take (stripE l).length = stripE l := by
  unfold stripE
  split
  · rw [List.length_take, show min (l.length - 1) l.length = l.length - 1 by omega]
  · exact List.take_length
theorem gt_strip (l : List Tk) {i : Nat} (h : i < (stripE l).length) : tk.gt (stripE l) i = tk.gt l i := by
  have h1 := strip_len l
  have h2 := strip_prefix l
  rw [tk.gt_eq h, tk.gt_eq (by omega)]
  have h3 : (stripE l)[i] = (l.take (stripE l).length)[i]'(by rw [h2]; exact h) := by
    congr 1
    exact h2.symm
  rw [h3, List.getElem_take]
theorem bl_strip (q : Nat → ByteArray) (m : Nat) (l : List Tk) : ∀ j, j ≤ (stripE l).length → bl q m (stripE l) j = bl q m l j
  | 0, _ => rfl
  | j + 1, h => by
    unfold bl
    rw [bl_strip q m l j (by omega), gt_strip l (by omega)]
theorem range_gt (L : List Tk) : (List.range L.length).map (tk.gt L) = L := by
  apply List.ext_getElem
  · simp
  · intro i h1 h2
    simp only [List.getElem_map, List.getElem_range]
    exact tk.gt_eq h2
/-- The last token of a list that can be joined. -/
theorem last_facts {l : List Tk} (h0 : joinE l = 0) (hl : 0 < l.length) :
    ((tk.gt l (l.length - 1)).k = 6 ∧ (stripE l).length = l.length - 1 ∧ (tk.gt l (l.length - 1)).t.size = 0) ∨ ((tk.gt l (l.length - 1)).k ≠ 6 ∧ (stripE l).length = l.length) := by
  have hne : l ≠ [] := fun e => by rw [e] at hl; cases hl
  have hall : allP (stripE l) = true := by
    unfold joinE at h0
    cases h : allP (stripE l)
    · rw [h, if_neg (by decide)] at h0
      omega
    · rfl
  by_cases hk : (tk.gt l (l.length - 1)).k = 6
  · by_cases ht : (tk.gt l (l.length - 1)).t.size = 0
    · refine .inl ⟨hk, ?_, ht⟩
      unfold stripE
      rw [if_pos ⟨hne, hk, ht⟩, List.length_take]
      omega
    · exfalso
      have h1 : stripE l = l := by unfold stripE; rw [if_neg fun h => ht h.2.2]
      rw [h1] at hall
      unfold allP at hall
      have h2 := List.all_eq_true.1 hall _ (tk.gt_mem (l := l) (j := l.length - 1) (by omega))
      have h3 := pr_kind h2
      omega
  · refine .inr ⟨hk, ?_⟩
    unfold stripE
    rw [if_neg fun h => hk h.2.1]
theorem lex_two {g g' : List UInt8} (h : Gp g) (h' : Gp g') (p : Nat) (f : Bool) : lxs p f (g ++ g') = ([], []) := by
  rw [lex_gap h]
  have := lex_gap h' [] (p + g.length) false
  rw [List.append_nil] at this
  rw [this, lex_nil]
theorem lex_one {g : List UInt8} (h : Gp g) (p : Nat) (f : Bool) : lxs p f g = ([], []) := by
  have := lex_gap h [] p f
  rw [List.append_nil] at this
  rw [this, lex_nil]
theorem blanks_facts (l : List Tk) (q : Nat → ByteArray) (m : Nat) (h0 : joinE l = 0) (S : ByteArray) (hS : S.data.toList = bl q m l l.length ++ gapP (q (l.length % m)).data.toList) (hz : S.size ≤ 16384) :
    tokE S = 0 ∧ tokB S = [] ∧ (tokL S).length = (stripE l).length + 1 ∧ smB false 0 (l.take (stripE l).length) ((tokL S).take (stripE l).length) = true := by
  have hall : allP (stripE l) = true := by
    unfold joinE at h0
    cases h : allP (stripE l)
    · rw [h, if_neg (by decide)] at h0
      omega
    · rfl
  obtain ⟨e, he, hsplit, hlx⟩ : ∃ e : List UInt8, (∃ r, e = 32 :: r) ∧ S.data.toList = bl q m (stripE l) (stripE l).length ++ e ∧ ∀ p f, lxs p f e = ([], []) := by
    have hg := gap_gp (q (l.length % m)).data.toList
    by_cases hl : 0 < l.length
    · rcases last_facts h0 hl with ⟨h1, h2, h3⟩ | ⟨h1, h2⟩
      · have hg2 := gap_gp (q ((l.length - 1) % m)).data.toList
        refine ⟨gapP (q ((l.length - 1) % m)).data.toList ++ gapP (q (l.length % m)).data.toList, ?_, ?_, fun p f => lex_two hg2 hg p f⟩
        · obtain ⟨r, hr⟩ := hg2.ne
          rw [hr]
          exact ⟨_, rfl⟩
        · rw [bl_strip q m l _ (Nat.le_refl _), hS, h2]
          have hso : so (tk.gt l (l.length - 1)) = [] := by
            unfold so
            rw [if_neg (by omega)]
            exact List.eq_nil_of_length_eq_zero (by rw [str_len]; exact h3)
          obtain ⟨p, hp⟩ : ∃ p, l.length = p + 1 := ⟨l.length - 1, by omega⟩
          rw [hp] at hso ⊢
          rw [Nat.add_sub_cancel] at hso ⊢
          conv => lhs; unfold bl
          rw [hso, List.append_nil, List.append_assoc]
      · exact ⟨_, hg.ne, by rw [bl_strip q m l _ (Nat.le_refl _), hS, h2], fun p f => lex_one hg p f⟩
    · have hl0 : l.length = 0 := by omega
      have h2 : (stripE l).length = 0 := by have := strip_len l; omega
      exact ⟨_, hg.ne, by rw [hS, h2, hl0]; rfl, fun p f => lex_one hg p f⟩
  have hmix := mix_bl q m (stripE l) (stripE l).length e
  rw [← hsplit] at hmix
  have hlm := lex_mix he hlx ((List.range (stripE l).length).map fun i => (gapP (q (i % m)).data.toList, tk.gt (stripE l) i)) 0 false (fun z hzm => by
    obtain ⟨i, hi, rfl⟩ := List.mem_map.1 hzm
    have hi2 := List.mem_range.1 hi
    unfold allP at hall
    exact ⟨gap_gp _, List.all_eq_true.1 hall _ (tk.gt_mem hi2)⟩)
  rw [hmix] at hlm
  have hkt : (lxs 0 false S.data.toList).1.map kt = (stripE l).map kt := by
    rw [hlm.1, List.map_map]
    conv => rhs; rw [← range_gt (stripE l), List.map_map]
    rfl
  have hlen : (lxs 0 false S.data.toList).1.length = (stripE l).length := by
    have := congrArg List.length hkt
    rw [List.length_map, List.length_map] at this
    exact this
  have hL : tokL S = (lxs 0 false S.data.toList).1 ++ [endT S] := by unfold tokL; rw [if_neg (by omega)]
  refine ⟨by unfold tokE; rw [if_neg (by omega)], by unfold tokB; rw [if_neg (by omega), hlm.2]; rfl, by rw [hL, List.length_append, hlen, List.length_singleton], ?_⟩
  rw [hL, ← hlen, List.take_left, hlen, strip_prefix]
  exact smB_kt hkt.symm
/-- What is told of a slice of strings that is read. -/
structure Ss (w : World) (a : Option Addr) (n cap : Nat) (q : Nat → ByteArray) : Prop where
  hat : n = 0 ∨ ∃ b off, a = some ⟨b, off, none⟩ ∧ ∀ j, j < n → w.cell? ⟨b, off + j, none⟩ = some (.string (q j))
  hcap : n ≤ cap
  hmax : cap ≤ 9223372036854775807
theorem Ss.keeps {w w1 : World} {a : Option Addr} {n cap : Nat} {q : Nat → ByteArray} (h : Ss w a n cap q) (hb : Below w.heap.size w w1) : Ss w1 a n cap q :=
  { h with hat := h.hat.imp id fun ⟨b, off, e, hB⟩ => ⟨b, off, e, fun j hj => dec.keeps hb (hB j hj)⟩ }

theorem succ_int {p k : Nat} (h : k = p + 1) (hp : p ≤ 60) : wrap64 ((p : Int) + 1) = (k : Int) := by subst h; unfold wrap64; omega
/-- Whether the last token is the end. -/
theorem end_ways {l : List Tk} {p j : Nat} (h0 : joinE l = 0) (hl : l.length = j) (hp : (stripE l).length = p) (h60 : j ≤ 60) :
    (decide (0 < (j : Int)) = false ∧ decide (0 < j) = false ∧ p = j) ∨ ∃ z : Nat, z < j ∧ decide (0 < (j : Int)) = true ∧ decide (0 < j) = true ∧ wrap64 ((j : Int) - 1) = (z : Int) ∧ z < l.length ∧ (((tk.gt l z).k = 6 ∧ p = z) ∨ ((tk.gt l z).k ≠ 6 ∧ p = j)) := by
  by_cases h : 0 < j
  · refine .inr ⟨j - 1, by omega, decide_eq_true (by omega), decide_eq_true h, by unfold wrap64; omega, by omega, ?_⟩
    have := last_facts h0 (by omega)
    rw [hl, hp] at this
    rcases this with ⟨h1, h2, _⟩ | ⟨h1, h2⟩
    · exact .inl ⟨h1, h2⟩
    · exact .inr ⟨h1, h2⟩
  · have := strip_len l
    exact .inl ⟨decide_eq_false (by omega), decide_eq_false h, by omega⟩
set_option maxRecDepth 100000 in
set_option maxHeartbeats 16000000 in
theorem walk_blanks (a : Option Addr) (n cap : Nat) (l : List Tk) (ag : Option Addr) (m cg : Nat) (q : Nat → ByteArray) (w : World) (hS : tk.Sl w a n cap l) (hG : Ss w ag m cg q) (T : Tabs w) :
    Calls Tryz.prog 5 #[.slice a n cap, .slice ag m cg] w fun e w' => e = .returned (.bool true) ∧ Below w.heap.size w w' := by
  have EX := Lib.hid (example_any w T)
  have T0 := Lib.hid T
  have S0 := Lib.hid hS
  have G0 := Lib.hid hG
  have SM := Lib.hid (fun W hS => small_any a n cap l W hS)
  clear T hS hG
  cases hs : sml l
  · rw [hs] at SM
    clear hs
    go_enter Tryz.func5, Tryz.ntmps5
    go_wp2_with fail
    refine EX.out.mono ?_
    rintro e w1 ⟨rfl, b1⟩
    have B1 := Lib.hid b1
    clear b1
    go_wp2_with fail
    refine (SM.out _ (S0.out.keeps B1.out)).mono ?_
    rintro e w2 ⟨rfl, b2⟩
    have B2 := Lib.hid (bnext B1.out b2)
    clear b2
    go_wp2_with fail
    go_ret
    exact ⟨rfl, B2.out⟩
  rw [hs] at SM
  by_cases hm0 : m = 0
  · subst hm0
    clear hs
    go_enter Tryz.func5, Tryz.ntmps5
    go_wp2_with fail
    refine EX.out.mono ?_
    rintro e w1 ⟨rfl, b1⟩
    have B1 := Lib.hid b1
    clear b1
    go_wp2_with fail
    refine (SM.out _ (S0.out.keeps B1.out)).mono ?_
    rintro e w2 ⟨rfl, b2⟩
    have B2 := Lib.hid (bnext B1.out b2)
    clear b2
    go_wp2_with fail
    go_ret
    exact ⟨rfl, B2.out⟩
  have qm : ((m : Int) == 0) = false := by rw [beq_eq_false_iff_ne]; omega
  have FR := fewR_of_sml hs
  have JB := Lib.hid (fun W hS => rjoin_any a n cap l W hS FR)
  unfold JR at JB
  by_cases hE : joinE l = 0
  rotate_left
  · have qe : (joinE l != 0) = true := by rw [bne_iff_ne]; exact hE
    clear hs FR hE hm0
    generalize joinE l = E at *
    go_enter Tryz.func5, Tryz.ntmps5
    go_wp2_with fail
    refine EX.out.mono ?_
    rintro e w1 ⟨rfl, b1⟩
    have B1 := Lib.hid b1
    clear b1
    go_wp2_with fail
    refine (SM.out _ (S0.out.keeps B1.out)).mono ?_
    rintro e w2 ⟨rfl, b2⟩
    have B2 := Lib.hid (bnext B1.out b2)
    clear b2
    go_wp2_with fail
    refine (JB.out _ (S0.out.keeps B2.out)).mono ?_
    rintro e w3 ⟨s3, a3, c3, hs3, rfl, bs3, b3⟩
    have B3 := Lib.hid (bnext B2.out b3)
    clear b3 bs3
    go_wp2_with fail
    go_ret
    exact ⟨rfl, B3.out⟩
  rw [hE] at JB
  have few := sml_few hs
  have hln := S0.out.hn
  have BLN := Lib.hid (fun j (hj : j ≤ n) => bl_len q m few.1 j (by omega))
  have hn60 := Lib.hid (show n ≤ 60 by have := few.2; omega)
  have EW := Lib.hid (fun p j h1 h2 h3 => end_ways (l := l) (p := p) (j := j) hE h1 h2 h3)
  have BF := Lib.hid (fun S hS hz => blanks_facts l q m hE S hS hz)
  have SPL := Lib.hid (strip_len l)
  have FE := Lib.hid few.1
  have hnl := Lib.hid hln
  have hm1 := Lib.hid (show 0 < m by omega)
  have hz0 : (m : Int) ≠ 0 := by omega
  clear hs FR few hln hm0 hE
  go_enter Tryz.func5, Tryz.ntmps5
  go_wp2_with fail
  refine EX.out.mono ?_
  rintro e w1 ⟨rfl, b1⟩
  have B1 := Lib.hid b1
  clear b1
  go_wp2_with fail
  refine (SM.out _ (S0.out.keeps B1.out)).mono ?_
  rintro e w2 ⟨rfl, b2⟩
  have B2 := Lib.hid (bnext B1.out b2)
  clear b2
  go_wp2_with fail
  refine (JB.out _ (S0.out.keeps B2.out)).mono ?_
  rintro e w3 ⟨s3, a3, c3, hs3, rfl, bs3, b3⟩
  have B3 := Lib.hid (bnext B2.out b3)
  clear b3 bs3 hs3
  go_wp2_with fail
  go_loopw [7, 8] (fun vs vi wr => ∃ j : Nat, vi = .int .i64 (j : Nat) ∧ Hid (j ≤ n) ∧ Hid (OB wr w.heap.size vs (bl q m l j)) ∧ Hid (Below w.heap.size w wr)) (fun _ vi _ => n - (intOf vi).toNat)
  case atStart => exact ⟨0, rfl, Lib.hid (Nat.zero_le _), Lib.hid (OB.nil _ _), B3⟩
  case round =>
    obtain ⟨j, rfl, hj, hO, hb⟩ := hrel
    obtain ⟨r, hr⟩ : ∃ r, j % m = r := ⟨_, rfl⟩
    have hrm : r < m := by rw [← hr]; exact Nat.mod_lt _ hm1.out
    have fr : (j : Int) % (m : Int) = (r : Int) := by rw [← hr]; rfl
    obtain ⟨bg, og, rfl, hq⟩ := (G0.out.keeps hb.out).hat.resolve_left (by have := hm1.out; omega)
    have hqr := hq r hrm
    have hcg := G0.out.hcap
    have GC := Lib.hid (fun W => gap_any (q r) W)
    have hbl := Lib.hid (show (bl q m l j).length ≤ 24000 by have := BLN.out j hj.out; have := hn60.out; have := hj.out; omega)
    have hgl := Lib.hid (gap_len (q r).data.toList)
    have f4 := Lib.hid (next_at (j := j) (by have := hn60.out; have := hj.out; omega))
    clear hq
    by_cases hc : j < n
    · have hjl := Lib.hid (show j < l.length by have := hnl.out; omega)
      obtain ⟨bk, off, rfl, hC⟩ := S0.out.hat.resolve_left (by have := hjl.out; omega)
      obtain ⟨c0, c1, c2⟩ := hC j hjl.out
      have q2 : decide ((j : Int) < (n : Int)) = true := decide_eq_true (by omega)
      have q3 : j < n := hc
      have hcap := S0.out.hcap
      have hxz := Lib.hid (FE.out _ (tk.gt_mem hjl.out))
      have hst : bl q m l (j + 1) = bl q m l j ++ gapP (q r).data.toList ++ so (tk.gt l j) := by
        rw [← hr]
        rfl
      have SC := Lib.hid (fun W => rsource_any (tk.gt l j) (by have := hxz.out; omega) W)
      have hsz := so_size (tk.gt l j)
      replace hst := Lib.hid hst
      clear hC hr
      generalize tk.gt l j = x at *
      have hxs := Lib.hid (show (⟨(so x).toArray⟩ : ByteArray).size ≤ 302 by
        have h1 := str_len ⟨(so x).toArray⟩
        have h3 : (⟨(so x).toArray⟩ : ByteArray).data.toList.length = (so x).length := rfl
        have := hxz.out
        omega)
      have hxd := Lib.hid (show (⟨(so x).toArray⟩ : ByteArray).data.toList = so x from rfl)
      generalize so x = sx at *
      generalize (⟨sx.toArray⟩ : ByteArray) = s1 at *
      obtain ⟨xk, xt, xa⟩ := x
      simp only at c0 c1 c2 SC
      clear hsz hc
      replace c0 := Lib.hid c0
      replace c1 := Lib.hid c1
      replace c2 := Lib.hid c2
      go_wp2_with fail
      refine (GC.out _).mono ?_
      rintro e w4 ⟨g, ga, gc, hg, rfl, gB, b4⟩
      have B4 := Lib.hid (bnext hb.out b4)
      have O4 := Lib.hid (hO.out.keeps b4)
      have GB4 := Lib.hid gB
      have hgz := Lib.hid (show g.size ≤ 30 by rw [← str_len, hg]; exact hgl.out)
      replace hg := Lib.hid hg
      clear gB b4 hqr
      go_wp2_with (at_builtin; refine is_appB (.tmp 36) (.tmp 44) rfl ?_; refine wpList_catBs _ rfl (.tmp 36) (.tmp 44) rfl w.heap.size _ _ rfl O4.out ga g.size gc g rfl GB4.out (by have := hbl.out; have := hgz.out; omega) B4.out.size ?_; intro v5 w5 O5 b5; have B5 := Lib.hid (B4.out.trans b5); have e0 := dec.keeps B5.out c0.out; have e1 := dec.keeps B5.out c1.out; have e2 := dec.keeps B5.out c2.out; replace O5 := Lib.hid O5; clear b5)
      refine (SC.out _).mono ?_
      rintro e w6 ⟨rfl, b6⟩
      have B6 := Lib.hid (bnext B5.out b6)
      have O6 := Lib.hid (O5.out.keeps b6)
      clear b6 e0 e1 e2
      go_wp2_with (at_builtin; refine is_appT (.tmp 46) (.tmp 51) rfl ?_; refine wpList_catB _ rfl (.tmp 46) (.tmp 51) rfl w.heap.size _ _ rfl O6.out s1 rfl (by have := hbl.out; have := hgz.out; have := hxs.out; rw [List.length_append, str_len]; omega) B6.out.size ?_; intro v7 w7 O7 b7)
      have B7 := Lib.hid (B6.out.trans b7)
      have O8 := Lib.hid (show OB w7 w.heap.size v7 (bl q m l (j + 1)) by rw [hst.out, ← hg.out, ← hxd.out]; exact O7)
      clear b7 O7
      go_wp2_with fail
      exact ⟨⟨j + 1, congrArg (Value.int .i64) f4.out, Lib.hid q3, O8, B7⟩, less_at q3 f4.out⟩
    · obtain rfl : j = n := by have := hj.out; omega
      have q2 : decide ((j : Int) < (j : Int)) = false := decide_eq_false (by omega)
      have q2' : decide (j < j) = false := decide_eq_false hc
      obtain ⟨S, hSd⟩ : ∃ S : ByteArray, S.data.toList = bl q m l j ++ gapP (q r).data.toList := ⟨⟨(bl q m l j ++ gapP (q r).data.toList).toArray⟩, rfl⟩
      have BS := BF.out S (by rw [hnl.out, hSd, hr])
      have hSd2 := Lib.hid hSd
      clear hSd hr hc
      by_cases hbig : 16384 < S.size
      · have q4 : decide (16384 < (S.size : Int)) = true := decide_eq_true (by omega)
        have q4' : decide (16384 < S.size) = true := decide_eq_true hbig
        clear BS hbig
        go_wp2_with fail
        refine (GC.out _).mono ?_
        rintro e w4 ⟨g, ga, gc, hg, rfl, gB, b4⟩
        have B4 := Lib.hid (bnext hb.out b4)
        have O4 := Lib.hid (hO.out.keeps b4)
        have GB4 := Lib.hid gB
        have hgz := Lib.hid (show g.size ≤ 30 by rw [← str_len, hg]; exact hgl.out)
        replace hg := Lib.hid hg
        clear gB b4 hqr
        go_wp2_with (at_builtin; refine is_appB (.tmp 53) (.tmp 62) rfl ?_; refine wpList_catBs _ rfl (.tmp 53) (.tmp 62) rfl w.heap.size _ _ rfl O4.out ga g.size gc g rfl GB4.out (by have := hbl.out; have := hgz.out; omega) B4.out.size ?_; intro v5 w5 O5 b5; have B5 := Lib.hid (B4.out.trans b5); have O5' : OB w5 w.heap.size v5 S.data.toList := (by rw [hSd2.out, ← hg.out]; exact O5); obtain ⟨a5, c5, rfl, hB5⟩ := O5'.bs; clear b5 O5 O5' hB5)
        go_ret
        exact ⟨rfl, B5.out⟩
      · have q4 : decide (16384 < (S.size : Int)) = false := decide_eq_false (by omega)
        have q4' : decide (16384 < S.size) = false := decide_eq_false hbig
        obtain ⟨f1, f2, f3, f5⟩ := BS (by omega)
        have TA := Lib.hid (fun a cp W hS T => tokens_any a S.size cp S W hS T)
        unfold TR at TA
        rw [f1, f2] at TA
        obtain ⟨p, hp⟩ : ∃ p, (stripE l).length = p := ⟨_, rfl⟩
        rw [hp] at f3 f5
        have hpj : p ≤ j := by have := SPL.out; have := hnl.out; omega
        have SA := Lib.hid (fun a n cp c m cp2 W hA hB => same_any a n cp c m cp2 (l.take p) ((tokL S).take p) false 0 W hA hB)
        rw [f5] at SA
        generalize tokL S = L at *
        obtain ⟨k, hk⟩ : ∃ k, L.length = k := ⟨_, rfl⟩
        rw [hk] at f3
        have hkp := Lib.hid f3
        replace hk := Lib.hid hk
        have fk := succ_int (p := p) (k := k) f3 (by have := hn60.out; omega)
        have hways := EW.out p j hnl.out hp hn60.out
        clear f1 f2 f3 f5 hbig hp BS
        have uT : Tryz.prog.underlying 24 = some (.slice (Tryz.prog.elem 24)) := by simp [Program.elem, Tryz.underlying24]
        have eT : Tryz.prog.elem 24 = 39 := by simp [Program.elem, Tryz.underlying24]
        have L0 := Lib.hid (sl_take S0.out (m := p) hpj)
        have s1 := slice_to 24 _ uT eT 3 sz3 a j cap p (by have := S0.out.hcap; omega)
        have s2f := Lib.hid (fun am k cm (h : p ≤ cm) => slice_to 24 _ uT eT 3 sz3 am k cm p h)
        clear uT eT
        rcases hways with ⟨y1, y2, hpz⟩ | ⟨z, hzj, y1, y2, y3, hzl, ⟨y4, hpz⟩ | ⟨y4, hpz⟩⟩
        · subst hpz
          go_wp2_with fail
          refine (GC.out _).mono ?_
          rintro e w4 ⟨g, ga, gc, hg, rfl, gB, b4⟩
          have B4 := Lib.hid (bnext hb.out b4)
          have O4 := Lib.hid (hO.out.keeps b4)
          have GB4 := Lib.hid gB
          have hgz := Lib.hid (show g.size ≤ 30 by rw [← str_len, hg]; exact hgl.out)
          replace hg := Lib.hid hg
          clear gB b4 hqr
          go_wp2_with (at_builtin; refine is_appB (.tmp 53) (.tmp 62) rfl ?_; refine wpList_catBs _ rfl (.tmp 53) (.tmp 62) rfl w.heap.size _ _ rfl O4.out ga g.size gc g rfl GB4.out (by have := hbl.out; have := hgz.out; omega) B4.out.size ?_; intro v5 w5 O5 b5; have B5 := Lib.hid (B4.out.trans b5); have O5' : OB w5 w.heap.size v5 S.data.toList := (by rw [hSd2.out, ← hg.out]; exact O5); obtain ⟨a5, c5, rfl, hB5⟩ := O5'.bs; have BS5 := Lib.hid hB5; clear b5 O5 O5' hB5)
          refine (TA.out a5 c5 _ BS5.out (T0.out.stays B5.out)).mono ?_
          rintro e w6 ⟨v, u, rfl, o6, p6, b6⟩
          obtain ⟨am, cm, rfl, sm⟩ := o6.sl
          obtain ⟨ad, cd, rfl, sd⟩ := p6.sl
          have B6 := Lib.hid (bnext B5.out b6)
          rw [hk.out] at sm ⊢
          have kc := sm.hcap
          have M6 := Lib.hid (sl_take sm (m := p) (by have := hkp.out; omega))
          have s2 := s2f.out am k cm (by have := hkp.out; omega)
          clear o6 p6 b6 sm sd kc
          have CA := Lib.hid (fun d os => Calls.regrown_of (d := d) (os := os) (SA.out a p cap am p cm _ (L0.out.keeps ((B6.out).trans (below_regrown w6 d os |>.mono B6.out.size))) (M6.out.keeps (below_regrown w6 d os))))
          go_wp2_with fail
          refine wp_region_quiet_below (by kernel_rfl) (by kernel_rfl) ?_
          repeat (first | go_big_quiet_skip | (go_big_quiet_want; go_big_quiet_op; first | go_big_quiet_on | go_big_quiet_call ((go_at_call 10; with_reducible exact CA.out _ _))))
          refine wpQuiet_nil ?_
          intro w9 hw9
          have B9 := Lib.hid (bnext B6.out (below_of hw9))
          clear hw9
          go_wp2_with fail
          go_ret
          exact ⟨rfl, B9.out⟩
        · obtain ⟨bk, off, rfl, hC⟩ := S0.out.hat.resolve_left (by omega)
          obtain ⟨c0, _, _⟩ := hC z hzl
          rw [y4] at c0
          replace c0 := Lib.hid c0
          clear hC y4
          subst hpz
          go_wp2_with fail
          refine (GC.out _).mono ?_
          rintro e w4 ⟨g, ga, gc, hg, rfl, gB, b4⟩
          have B4 := Lib.hid (bnext hb.out b4)
          have O4 := Lib.hid (hO.out.keeps b4)
          have GB4 := Lib.hid gB
          have hgz := Lib.hid (show g.size ≤ 30 by rw [← str_len, hg]; exact hgl.out)
          replace hg := Lib.hid hg
          clear gB b4 hqr
          go_wp2_with (at_builtin; refine is_appB (.tmp 53) (.tmp 62) rfl ?_; refine wpList_catBs _ rfl (.tmp 53) (.tmp 62) rfl w.heap.size _ _ rfl O4.out ga g.size gc g rfl GB4.out (by have := hbl.out; have := hgz.out; omega) B4.out.size ?_; intro v5 w5 O5 b5; have B5 := Lib.hid (B4.out.trans b5); have O5' : OB w5 w.heap.size v5 S.data.toList := (by rw [hSd2.out, ← hg.out]; exact O5); obtain ⟨a5, c5, rfl, hB5⟩ := O5'.bs; have BS5 := Lib.hid hB5; clear b5 O5 O5' hB5)
          refine (TA.out a5 c5 _ BS5.out (T0.out.stays B5.out)).mono ?_
          rintro e w6 ⟨v, u, rfl, o6, p6, b6⟩
          obtain ⟨am, cm, rfl, sm⟩ := o6.sl
          obtain ⟨ad, cd, rfl, sd⟩ := p6.sl
          have B6 := Lib.hid (bnext B5.out b6)
          rw [hk.out] at sm ⊢
          have kc := sm.hcap
          have M6 := Lib.hid (sl_take sm (m := p) (by have := hkp.out; omega))
          have s2 := s2f.out am k cm (by have := hkp.out; omega)
          clear o6 p6 b6 sm sd kc
          have d0 := dec.keeps B6.out c0.out
          have CA := Lib.hid (fun d os => Calls.regrown_of (d := d) (os := os) (SA.out (some ⟨bk, off, none⟩) p cap am p cm _ (L0.out.keeps ((B6.out).trans (below_regrown w6 d os |>.mono B6.out.size))) (M6.out.keeps (below_regrown w6 d os))))
          go_wp2_with fail
          refine wp_region_quiet_below (by kernel_rfl) (by kernel_rfl) ?_
          repeat (first | go_big_quiet_skip | (go_big_quiet_want; go_big_quiet_op; first | go_big_quiet_on | go_big_quiet_call ((go_at_call 10; with_reducible exact CA.out _ _))))
          refine wpQuiet_nil ?_
          intro w9 hw9
          have B9 := Lib.hid (bnext B6.out (below_of hw9))
          clear hw9
          go_wp2_with fail
          go_ret
          exact ⟨rfl, B9.out⟩
        · obtain ⟨bk, off, rfl, hC⟩ := S0.out.hat.resolve_left (by omega)
          obtain ⟨c0, _, _⟩ := hC z hzl
          have y5 : ((tk.gt l z).k == 6) = false := by rw [beq_eq_false_iff_ne]; exact y4
          generalize (tk.gt l z).k = xk at *
          replace c0 := Lib.hid c0
          clear hC y4
          subst hpz
          go_wp2_with fail
          refine (GC.out _).mono ?_
          rintro e w4 ⟨g, ga, gc, hg, rfl, gB, b4⟩
          have B4 := Lib.hid (bnext hb.out b4)
          have O4 := Lib.hid (hO.out.keeps b4)
          have GB4 := Lib.hid gB
          have hgz := Lib.hid (show g.size ≤ 30 by rw [← str_len, hg]; exact hgl.out)
          replace hg := Lib.hid hg
          clear gB b4 hqr
          go_wp2_with (at_builtin; refine is_appB (.tmp 53) (.tmp 62) rfl ?_; refine wpList_catBs _ rfl (.tmp 53) (.tmp 62) rfl w.heap.size _ _ rfl O4.out ga g.size gc g rfl GB4.out (by have := hbl.out; have := hgz.out; omega) B4.out.size ?_; intro v5 w5 O5 b5; have B5 := Lib.hid (B4.out.trans b5); have O5' : OB w5 w.heap.size v5 S.data.toList := (by rw [hSd2.out, ← hg.out]; exact O5); obtain ⟨a5, c5, rfl, hB5⟩ := O5'.bs; have BS5 := Lib.hid hB5; clear b5 O5 O5' hB5)
          refine (TA.out a5 c5 _ BS5.out (T0.out.stays B5.out)).mono ?_
          rintro e w6 ⟨v, u, rfl, o6, p6, b6⟩
          obtain ⟨am, cm, rfl, sm⟩ := o6.sl
          obtain ⟨ad, cd, rfl, sd⟩ := p6.sl
          have B6 := Lib.hid (bnext B5.out b6)
          rw [hk.out] at sm ⊢
          have kc := sm.hcap
          have M6 := Lib.hid (sl_take sm (m := p) (by have := hkp.out; omega))
          have s2 := s2f.out am k cm (by have := hkp.out; omega)
          clear o6 p6 b6 sm sd kc
          have d0 := dec.keeps B6.out c0.out
          have CA := Lib.hid (fun d os => Calls.regrown_of (d := d) (os := os) (SA.out (some ⟨bk, off, none⟩) p cap am p cm _ (L0.out.keeps ((B6.out).trans (below_regrown w6 d os |>.mono B6.out.size))) (M6.out.keeps (below_regrown w6 d os))))
          go_wp2_with fail
          refine wp_region_quiet_below (by kernel_rfl) (by kernel_rfl) ?_
          repeat (first | go_big_quiet_skip | (go_big_quiet_want; go_big_quiet_op; first | go_big_quiet_on | go_big_quiet_call ((go_at_call 10; with_reducible exact CA.out _ _))))
          refine wpQuiet_nil ?_
          intro w9 hw9
          have B9 := Lib.hid (bnext B6.out (below_of hw9))
          clear hw9
          go_wp2_with fail
          go_ret
          exact ⟨rfl, B9.out⟩
end Go.Proofs.YtkfciilclfhabaaGreatDoor
