/-
  Bytes in memory: slices that are read, bytes of the call's own, conversions; The reference: letters, digits, words, keywords, names; The reference: keywords; The reference: names; LexerWords: the walk; units.Check; Number types; equal types; units whose names are names; Texts of units as plain data: printing, cutting, reading back; What the printer prints, as plain data: the texts of units, types, windows, literals, expressions, tables, features; formatFactor and Format; strconv's two; what the listed variables hold; Slices of strings; strings.Join at any separator; printer.words.
-/
import Derived.Lib.AppendStr
import Derived.Lib.SmallJoins
import Derived.Lib.AtoiAllCases
import Derived.Lib.Bytealg
import Derived.Lib.Small
import Derived.Laws.Concat
import Derived.Deep.QuietTactic
import Derived.BigQuiet
import Derived.Deep.DeepCutAuto
import Derived.Test.YtbahfelnbofjjaaGreatDoorT01
import Derived.Test.YtbahfelnbofjjaaGreatDoorT02
import Derived.Test.YtbahfelnbofjjaaGreatDoorT03
import Derived.Test.YtbahfelnbofjjaaGreatDoorShelf
set_option maxRecDepth 100000
set_option maxHeartbeats 16000000
namespace Go.Proofs.YtbahfelnbofjjaaGreatDoor
open Go.RowKit dec
theorem infoU : (Tryz.prog.info? 5).map (fun i => (i.zero, i.size, i.bytes)) = some (some (.int .u8 0), 1, 1) := by kernel_rfl
def bv (l : List UInt8) : List Value := l.map fun c => Value.int .u8 (c.toNat : Int)
theorem bv_len (l : List UInt8) : (bv l).length = l.length := by unfold bv; rw [List.length_map]
theorem bv_append (l r : List UInt8) : bv (l ++ r) = bv l ++ bv r := by unfold bv; rw [List.map_append]
theorem strCells_bv (s : ByteArray) : Lib.strCells s = bv s.data.toList := by
 unfold Lib.strCells bv
 simp
def OB (w : World) (base : Nat) (v : Value) (l : List UInt8) : Prop := w.ownsRow base 5 1 v l.length (bv l)
theorem OB.nil (w : World) (base : Nat) : OB w base (.slice none 0 0) [] := World.ownsRow_nil _ _ _ _
theorem OB.keeps {w w1 : World} {base : Nat} {v : Value} {l : List UInt8} (h : OB w base v l) (hb : Below w.heap.size w w1) : OB w1 base v l := by
 obtain ⟨h1, h2⟩ := h
 refine ⟨h1, ?_⟩
 rcases h2 with h0 | ⟨g, cap, cur, e, hbg, hh, r⟩
 ·exact .inl h0
 ·refine .inr ⟨g, cap, cur, e, hbg, ?_, r⟩
  have : g < w.heap.size := by
   rcases Nat.lt_or_ge g w.heap.size with h' | h'
   ·exact h'
   ·rw [Array.getElem?_eq_none h'] at hh; cases hh
  rw [hb.block _ this]
  exact hh
theorem wpList_pushB (w : World) {ops : Array Oper} {rest : List Oper} {o : Oper} {a : Act} {Q : Exit → Act → World → Prop} (hgd : o.guard = none) (s x : Operand)
  (ho : o.op = .call { callee := .builtin .append, args := #[s, x], argTypes := #[56, 56] })
  (base : Nat) (v : Value) (l : List UInt8) (hs : a.eval s = v) (hown : OB w base v l) (b : Nat) (t : UInt8) (hx : a.eval x = .slice (some ⟨b, 0, none⟩) 1 1) (hB : w.cell? ⟨b, 0, none⟩ = some (.int .u8 (t.toNat : Int)))
  (hn : l.length < 140737488355328) (hbase : base ≤ w.heap.size)
  (h : ∀ v' w', OB w' base v' (l ++ [t]) → Below base w w' → wpList Tryz.prog ops Q rest (a.put o.dst v') w') : wpList Tryz.prog ops Q (o :: rest) a w := by
 refine wpList_plain hgd fun _ hK => ?_
 obtain ⟨i, hi, hz0, hz1, hz2⟩ := info_parts infoU
 refine wp_append_own w s x 56 ho base 5 i (.int .u8 0) 1 1 Tryz.underlying56 hi hz0 hz1 hz2 rfl (by decide) v l.length (bv l) hs hown ⟨b, 0, none⟩ 1 1 [.int .u8 (t.toNat : Int)] hx rfl ?_ (fun u hu => by simp at hu; subst hu; rfl)
  (by unfold maxLen; omega) (by omega) hbase fun v' w' h1 h2 _ => hK _ _ (h v' w' (by unfold OB; rw [bv_append, List.length_append]; exact h1) ((Below.refl base w).grown h2 hbase fun k hk => (hown.lt k hk).1))
 intro j u hu
 match j, hu with
 | 0, hu => simp at hu; subst hu; exact hB
 | j + 1, hu => simp at hu
theorem wpList_catB (w : World) {ops : Array Oper} {rest : List Oper} {o : Oper} {a : Act} {Q : Exit → Act → World → Prop} (hgd : o.guard = none) (s x : Operand)
  (ho : o.op = .call { callee := .builtin .append, args := #[s, x], argTypes := #[56, 9] })
  (base : Nat) (v : Value) (l : List UInt8) (hs : a.eval s = v) (hown : OB w base v l) (t : ByteArray) (hx : a.eval x = .string t)
  (hn : l.length + t.size ≤ 140737488355328) (hbase : base ≤ w.heap.size)
  (h : ∀ v' w', OB w' base v' (l ++ t.data.toList) → Below base w w' → wpList Tryz.prog ops Q rest (a.put o.dst v') w') : wpList Tryz.prog ops Q (o :: rest) a w := by
 obtain ⟨i, hi, hz0, hz1, hz2⟩ := info_parts infoU
 refine Lib.wpList_append_own_string w hgd s x 56 9 ho base 5 i Tryz.underlying56 Tryz.underlying9 hi hz0 hz1 hz2 v l.length (bv l) hs hown t hx (by unfold maxLen; omega) hn hbase fun v' w' h1 h2 _ => h v' w' ?_ ((Below.refl base w).grown h2 hbase fun k hk => (hown.lt k hk).1)
 unfold OB
 rw [bv_append, List.length_append, ← strCells_bv]
 rw [show t.data.toList.length = t.size from by rw [Array.length_toList]; rfl]
 exact h1
theorem is_appB {w : World} {ops : Array Oper} {rest : List Oper} {o : Oper} {a : Act} {Q : Exit → Act → World → Prop} (s x : Operand) (_ : o.op = .call { callee := .builtin .append, args := #[s, x], argTypes := #[56, 56] })
  (k : wpList Tryz.prog ops Q (o :: rest) a w) : wpList Tryz.prog ops Q (o :: rest) a w := k
theorem is_appT {w : World} {ops : Array Oper} {rest : List Oper} {o : Oper} {a : Act} {Q : Exit → Act → World → Prop} (s x : Operand) (_ : o.op = .call { callee := .builtin .append, args := #[s, x], argTypes := #[56, 9] })
  (k : wpList Tryz.prog ops Q (o :: rest) a w) : wpList Tryz.prog ops Q (o :: rest) a w := k
theorem OB.str {w : World} {base : Nat} {v : Value} {l : List UInt8} (h : OB w base v l) : (convert 56 9 v).run Tryz.prog w = .ok (.string ⟨l.toArray⟩) w := by
 obtain ⟨h1, h2⟩ := id h
 rcases h2 with ⟨rfl, h0⟩ | ⟨g, cap, cur, rfl, hbg, hh, hc, hm, hs, ht⟩
 ·have hz : l = [] := List.eq_nil_of_length_eq_zero h0
  subst hz
  exact run_convert_bytes_nil (P := Tryz.prog) (w := w) 56 5 Tryz.underlying56 Tryz.underlying5 0 0 _ Tryz.underlying9
 ·rw [run_convert_bytes_arg w 56 5 Tryz.underlying56 Tryz.underlying5 g 0 l.length cap (l.map fun c => (c.toNat : Int)) (by rw [List.length_map]) ?_ _ Tryz.underlying9]
  ·congr 2
   unfold strOfNums
   rw [List.map_map]
   congr 2
   refine (List.map_congr_left fun c _ => ?_).trans (List.map_id l)
   simp
  ·intro i hi
   rw [Nat.zero_add, World.ownsRow.cellAt h i (by simpa using hi)]
   unfold bv
   rw [List.getElem?_map, List.getElem?_eq_getElem hi, List.getD_eq_getElem?_getD, List.getElem?_map, List.getElem?_eq_getElem hi]
   rfl
structure Bs (w : World) (a : Option Addr) (n cap : Nat) (s : ByteArray) : Prop where
 hat : s.size = 0 ∨ ∃ b off, a = some ⟨b, off, none⟩ ∧ ∀ j (hj : j < s.size), w.cell? ⟨b, off + j, none⟩ = some (.int .u8 (s[j].toNat : Int))
 hn : s.size = n
 hcap : n ≤ cap
 hmax : cap ≤ 9223372036854775807
 hno : a = none → cap = 0
theorem Bs.keeps {w w1 : World} {a : Option Addr} {n cap : Nat} {s : ByteArray} (h : Bs w a n cap s) (hb : Below w.heap.size w w1) : Bs w1 a n cap s :=
 { h with hat := h.hat.imp id fun ⟨b, off, e, hB⟩ => ⟨b, off, e, fun j hj => dec.keeps hb (hB j hj)⟩ }
theorem Bs.str {w : World} {a : Option Addr} {n cap : Nat} {s : ByteArray} (h : Bs w a n cap s) : (convert 56 9 (.slice a n cap)).run Tryz.prog w = .ok (.string s) w := by
 have hn := h.hn
 subst hn
 rcases h.hat with h0 | ⟨b, off, rfl, hB⟩
 ·have hs := size_zero h0
  subst hs
  rw [run_convert_bytes_string w 56 9 5 a _ cap Tryz.underlying56 Tryz.underlying5 Tryz.underlying9]
  show (Conv.bytesToString (.slice a 0 cap)).run Tryz.prog w = _
  cases a <;> simp [Conv.bytesToString, loadCells]
  all_goals rfl
 ·have hl : s.data.toList.length = s.size := str_len s
  have := run_convert_bytes_arg (P := Tryz.prog) w 56 5 Tryz.underlying56 Tryz.underlying5 b off s.size cap (s.data.toList.map fun c => (c.toNat : Int)) (by rw [List.length_map, hl]) (fun i hi => by
   rw [hB i hi, List.getD_eq_getElem?_getD, List.getElem?_map, List.getElem?_eq_getElem (by rw [hl]; exact hi)]
   rfl) _ Tryz.underlying9
  rw [this]
  have e : strOfNums (s.data.toList.map fun c => (c.toNat : Int)) = s := by
   unfold strOfNums
   rw [List.map_map]
   refine (congrArg (fun l : List UInt8 => (⟨l.toArray⟩ : ByteArray)) ?_).trans (ba_list s)
   refine (List.map_congr_left fun c _ => ?_).trans (List.map_id _)
   show UInt8.ofNat ((c.toNat : Int)).toNat = c
   rw [Int.toNat_natCast, UInt8.ofNat_toNat]
  rw [e]
theorem OB.bs {w : World} {base : Nat} {v : Value} {s : ByteArray} (h : OB w base v s.data.toList) : ∃ a cap, v = .slice a s.size cap ∧ Bs w a s.size cap s := by
 have hl := str_len s
 obtain ⟨h1, h2⟩ := id h
 rcases h2 with ⟨rfl, h0⟩ | ⟨g, cap, cur, rfl, hbg, hh, hc, hm, hs, ht⟩
 ·rw [hl] at h0
  exact ⟨none, 0, by rw [h0], ⟨.inl h0, rfl, by omega, by omega, fun _ => rfl⟩⟩
 ·rw [hl] at hc
  refine ⟨_, cap, by rw [hl], ⟨.inr ⟨g, 0, rfl, fun j hj => ?_⟩, rfl, hc, by unfold maxLen at hm; omega, fun h => by cases h⟩⟩
  rw [Nat.zero_add, World.ownsRow.cellAt h j (by rw [hl]; omega)]
  unfold bv
  rw [List.getElem?_map, List.getElem?_eq_getElem (by rw [hl]; exact hj)]
  rfl
theorem bytes_of (w : World) (s : ByteArray) (hs : s.size ≤ 281474976710656) : ∃ w' c, (convert 9 56 (.string s)).run Tryz.prog w = .ok (.slice (some ⟨w.heap.size, 0, none⟩) s.size c) w' ∧ Bs w' (some ⟨w.heap.size, 0, none⟩) s.size c s ∧ Below w.heap.size w w' := by
 refine ⟨Lib.bytesWorld w 5 s, grownCap w s.size 0 5, Lib.run_convert_string_bytes w 9 56 5 s Tryz.underlying9 Tryz.underlying56 Tryz.underlying5, ⟨.inr ⟨_, _, rfl, fun j hj => ?_⟩, rfl, grownCap_ge _ _ _ _, ?_, fun h => by cases h⟩, below_bytes _ _ _⟩
 ·rw [Nat.zero_add, Lib.bytesWorld_cell w 5 s j hj]
  rw [List.getD_eq_getElem?_getD, List.getElem?_eq_getElem (by rw [str_len]; exact hj)]
  rfl
 ·have := grownCap_le_maxLen w s.size 0 5 (by unfold maxLen; omega)
  unfold maxLen at this
  omega
end Go.Proofs.YtbahfelnbofjjaaGreatDoor
namespace Go.Proofs.YtbahfelnbofjjaaGreatDoor
open Go.RowKit dec
theorem btw_cases (lo hi : Nat) (c : UInt8) (b : Bool) (h : (decide (lo ≤ c.toNat) && decide (c.toNat ≤ hi)) = b) :
  (decide ((lo : Int) ≤ (c.toNat : Int)) = false ∧ b = false) ∨ (decide ((lo : Int) ≤ (c.toNat : Int)) = true ∧ decide ((c.toNat : Int) ≤ (hi : Int)) = b) := by
 by_cases h1 : lo ≤ c.toNat
 ·right
  refine ⟨decide_eq_true (by omega), ?_⟩
  rw [decide_eq_true h1, Bool.true_and] at h
  rw [← h, decide_eq_decide]
  omega
 ·left
  rw [decide_eq_false h1, Bool.false_and] at h
  exact ⟨decide_eq_false (by omega), h.symm⟩
theorem rletter_any (c : UInt8) (w : World) : Calls Tryz.prog 168 #[.int .u8 (c.toNat : Int)] w fun e w' => e = .returned (.bool (isL c)) ∧ w' = w := by
 obtain ⟨b, hb⟩ : ∃ b, isL c = b := ⟨_, rfl⟩
 rw [hb]
 have H := btw_cases 97 122 c b hb
 clear hb
 generalize (c.toNat : Int) = x at *
 rcases H with ⟨q1, rfl⟩ | ⟨q1, q2⟩
 ·replace q1 : decide (97 ≤ x) = false := q1
  go_enter Tryz.func168, Tryz.ntmps168
  go_wp2_with fail
  go_ret
  exact ⟨rfl, rfl⟩
 ·replace q1 : decide (97 ≤ x) = true := q1
  replace q2 : decide (x ≤ 122) = b := q2
  go_enter Tryz.func168, Tryz.ntmps168
  go_wp2_with fail
  go_ret
  exact ⟨rfl, rfl⟩
theorem rdigit_any (c : UInt8) (w : World) : Calls Tryz.prog 169 #[.int .u8 (c.toNat : Int)] w fun e w' => e = .returned (.bool (isD c)) ∧ w' = w := by
 obtain ⟨b, hb⟩ : ∃ b, isD c = b := ⟨_, rfl⟩
 rw [hb]
 have H := btw_cases 48 57 c b hb
 clear hb
 generalize (c.toNat : Int) = x at *
 rcases H with ⟨q1, rfl⟩ | ⟨q1, q2⟩
 ·replace q1 : decide (48 ≤ x) = false := q1
  go_enter Tryz.func169, Tryz.ntmps169
  go_wp2_with fail
  go_ret
  exact ⟨rfl, rfl⟩
 ·replace q1 : decide (48 ≤ x) = true := q1
  replace q2 : decide (x ≤ 57) = b := q2
  go_enter Tryz.func169, Tryz.ntmps169
  go_wp2_with fail
  go_ret
  exact ⟨rfl, rfl⟩
def wdN (l : List UInt8) : Nat := match l with
 | [] => 0
 | c :: r => if isL c = true then run isW (c :: r) else 0
theorem Bs.at {w : World} {a : Option Addr} {n cap : Nat} {s : ByteArray} (h : Bs w a n cap s) {j : Nat} (hj : j < s.size) : ∃ b off, a = some ⟨b, off, none⟩ ∧ w.cell? ⟨b, off + j, none⟩ = some (.int .u8 (s[j].toNat : Int)) := by
 rcases h.hat with h0 | ⟨b, off, e, hB⟩
 ·omega
 ·exact ⟨b, off, e, hB j hj⟩
theorem wd_drop (s : ByteArray) {i : Nat} (h : i < s.size) : wdN (s.data.toList.drop i) = if isL s[i] = true then run isW (s.data.toList.drop (i + 1)) + 1 else 0 := by
 rw [List.drop_eq_getElem_cons (by rw [str_len]; exact h)]
 show (if isL s[i] = true then run isW (s[i] :: s.data.toList.drop (i + 1)) else 0) = _
 by_cases h1 : isL s[i] = true
 ·rw [if_pos h1, if_pos h1, run_cons (isW_L h1)]
 ·rw [if_neg h1, if_neg h1]
theorem isW_eq (c : UInt8) : isW c = (isL c || (isD c || ((c.toNat : Int) == 95))) := by
 unfold isW
 rw [Bool.or_assoc]
 congr 2
 rw [eqb, decide_eq_decide]
 omega
theorem isW_cases {s : ByteArray} {i j R : Nat} (hc : i + j < s.size) (h : j + run isW (s.data.toList.drop (i + j)) = R) {x : Int} (hx : ((s[i + j].toNat : Nat) : Int) = x) :
  (∃ l d, isL s[i + j] = l ∧ isD s[i + j] = d ∧ ((l = true ∨ (l = false ∧ d = true) ∨ (l = false ∧ d = false ∧ (x == 95) = true)) ∧ j + 1 + run isW (s.data.toList.drop (i + (j + 1))) = R ∨ (l = false ∧ d = false ∧ (x == 95) = false) ∧ j = R)) := by
 refine ⟨_, _, rfl, rfl, ?_⟩
 have hst := run_drop isW s hc
 rw [isW_eq, hx] at hst
 rw [hst] at h
 generalize isL s[i + j] = l at h ⊢
 generalize isD s[i + j] = d at h ⊢
 cases l
 ·cases d
  ·cases hq : (x == 95)
   ·right
    rw [hq] at h
    exact ⟨⟨rfl, rfl, rfl⟩, by simpa using h⟩
   ·left
    rw [hq] at h
    exact ⟨.inr (.inr ⟨rfl, rfl, rfl⟩), by simp only [Bool.or_true, if_true] at h; rw [← Nat.add_assoc] ; omega⟩
  ·left
   exact ⟨.inr (.inl ⟨rfl, rfl⟩), by simp only [Bool.true_or, Bool.or_true, if_true] at h; rw [← Nat.add_assoc]; omega⟩
 ·left
  exact ⟨.inl rfl, by simp only [Bool.true_or, if_true] at h; rw [← Nat.add_assoc]; omega⟩
theorem rword_any (a0 : Option Addr) (n0 cap : Nat) (s : ByteArray) (hs : s.size ≤ 1048576) (i : Nat) (hi : i < s.size) (w : World) (hS : Bs w a0 n0 cap s) :
  Calls Tryz.prog 119 #[.slice a0 n0 cap, .int .i64 (i : Nat)] w fun e w' => e = .returned (.int .i64 (wdN (s.data.toList.drop i) : Nat)) ∧ w' = w := by
 have hn0 := hS.hn
 subst hn0
 have S0 := Lib.hid hS
 have Z0 := Lib.hid hs
 have I0 := Lib.hid hi
 obtain ⟨b, off, rfl, hB⟩ := hS.at hi
 obtain ⟨R, hR⟩ : ∃ R, wdN (s.data.toList.drop i) = R := ⟨_, rfl⟩
 have HW := wd_drop s hi
 rw [hR] at HW ⊢
 have LC := Lib.hid (rletter_any (s[i]'hi) w)
 clear hS hs
 by_cases hl : isL (s[i]'hi) = true
 ·rw [if_pos hl] at HW
  rw [hl] at LC
  have hR := Lib.hid (show 1 + run isW (s.data.toList.drop (i + 1)) = R by omega)
  clear HW hl
  go_enter Tryz.func119, Tryz.ntmps119
  go_wp2_with fail
  refine LC.out.mono ?_
  rintro e w1 ⟨rfl, hw⟩
  obtain rfl : w = w1 := hw.symm
  clear hB LC
  go_wp2_with fail
  go_loopw [5] (fun x wr => ∃ j : Nat, x = .int .i64 (j : Nat) ∧ Hid (i + j ≤ s.size) ∧ Hid (j + run isW (s.data.toList.drop (i + j)) = R) ∧ wr = w) (fun x _ => s.size - (intOf x).toNat)
  case atStart => exact ⟨1, rfl, Lib.hid I0.out, hR, rfl⟩
  case round =>
   obtain ⟨j, rfl, hj, hr, rfl⟩ := hrel
   have f1 : wrap64 ((i : Int) + (j : Int)) = ((i + j : Nat) : Int) := by have := Z0.out; have := hj.out; unfold wrap64; omega
   by_cases hc : i + j < s.size
   ·have q2 : decide (((i + j : Nat) : Int) < (s.size : Int)) = true := decide_eq_true (by omega)
    have q3 : i + j < s.size := hc
    have hjs : j < s.size := by omega
    have f4 := Lib.hid (next_at (j := j) (by have := Z0.out; omega))
    obtain ⟨b', off', hab, hB⟩ := S0.out.at hc
    cases hab
    have LC := Lib.hid (rletter_any s[i + j] wr)
    have DC := Lib.hid (rdigit_any s[i + j] wr)
    obtain ⟨x, hx⟩ : ∃ x, ((s[i + j].toNat : Nat) : Int) = x := ⟨_, rfl⟩
    obtain ⟨l, d, hl, hd, hcs⟩ := isW_cases hc hr.out hx
    rw [hl, hx] at LC
    rw [hd, hx] at DC
    rw [hx] at hB
    clear hl hd hx hr hj hc
    rcases hcs with ⟨rfl | ⟨rfl, rfl⟩ | ⟨rfl, rfl, q5⟩, hn⟩ | ⟨⟨rfl, rfl, q5⟩, hn⟩
    ·replace hn := Lib.hid hn
     clear DC
     go_wp2_with (go_at_call 168; refine (LC.out).mono ?_; rintro e w' ⟨rfl, rfl⟩)
     exact ⟨⟨j + 1, by first | exact congrArg (Value.int .i64) f4.out | rfl, Lib.hid q3, hn, trivial⟩, by first | exact less_at hjs f4.out | exact less_dn2 hjs⟩
    ·replace hn := Lib.hid hn
     go_wp2_with (first | (go_at_call 168; refine (LC.out).mono ?_; rintro e w' ⟨rfl, rfl⟩) | (go_at_call 169; refine (DC.out).mono ?_; rintro e w' ⟨rfl, rfl⟩))
     exact ⟨⟨j + 1, by first | exact congrArg (Value.int .i64) f4.out | rfl, Lib.hid q3, hn, trivial⟩, by first | exact less_at hjs f4.out | exact less_dn2 hjs⟩
    ·replace hn := Lib.hid hn
     go_wp2_with (first | (go_at_call 168; refine (LC.out).mono ?_; rintro e w' ⟨rfl, rfl⟩) | (go_at_call 169; refine (DC.out).mono ?_; rintro e w' ⟨rfl, rfl⟩))
     exact ⟨⟨j + 1, by first | exact congrArg (Value.int .i64) f4.out | rfl, Lib.hid q3, hn, trivial⟩, by first | exact less_at hjs f4.out | exact less_dn2 hjs⟩
    ·replace hn := Lib.hid hn
     go_wp2_with (first | (go_at_call 168; refine (LC.out).mono ?_; rintro e w' ⟨rfl, rfl⟩) | (go_at_call 169; refine (DC.out).mono ?_; rintro e w' ⟨rfl, rfl⟩))
     go_ret
     exact ⟨retN hn.out, rfl⟩
   ·have q2 : decide (((i + j : Nat) : Int) < (s.size : Int)) = false := decide_eq_false (by omega)
    have q3 : decide (i + j < s.size) = false := decide_eq_false hc
    have hz := run_out isW s (j := i + j) (by omega)
    have HD : Hid (j = R) := by unfold Hid; rw [← hr.out, hz, Nat.add_zero]
    clear hz hr hj
    go_wp2_with fail
    go_ret
    exact ⟨retN HD.out, rfl⟩
 ·rw [if_neg hl] at HW
  rw [Bool.not_eq_true] at hl
  rw [hl] at LC
  have hR := Lib.hid HW
  clear HW hl
  go_enter Tryz.func119, Tryz.ntmps119
  go_wp2_with fail
  refine LC.out.mono ?_
  rintro e w1 ⟨rfl, hw⟩
  obtain rfl : w = w1 := hw.symm
  clear hB LC
  go_wp2_with fail
  go_ret
  exact ⟨retN hR.out.symm, rfl⟩
end Go.Proofs.YtbahfelnbofjjaaGreatDoor
namespace Go.Proofs.YtbahfelnbofjjaaGreatDoor
open Go.RowKit dec
theorem rkeyword_any (s : ByteArray) (w : World) :
  Calls Tryz.prog 120 #[.string s] w fun e w' => e = .returned (.bool (kw s)) ∧ w' = w := by
 go_enter Tryz.func120, Tryz.ntmps120
 go_wp2
 all_goals go_ret
 all_goals refine ⟨ret_bool ?_, rfl⟩
 all_goals first | (rename_i h1 h2; rw [h1] at h2; cases h2; done) | (unfold kw kwL; simp [*]; done) | (exfalso; simp_all; done)
end Go.Proofs.YtbahfelnbofjjaaGreatDoor
namespace Go.Proofs.YtbahfelnbofjjaaGreatDoor
open Go.RowKit dec
theorem prB_word (s : ByteArray) : prB 1 s = wd1 s := prB_pr ⟨1, s, 0⟩ (by unfold so; rw [if_neg (show ¬ (1 : Int) = 4 by decide)])
theorem empty_is (l : List UInt8) : (l == []) = l.isEmpty := by cases l <;> rfl
theorem name_word (s : ByteArray) : name s = (wordP s.data.toList && !kw s) := by unfold name; rw [prB_word, wd1_eq]
theorem wordP_no {s : ByteArray} (h : s.size = 0 ∨ 24 < s.size) : wordP s.data.toList = false := by
 have hl := str_len s
 cases hd : s.data.toList with
 | nil => rfl
 | cons c r =>
  rw [hd] at hl
  rw [List.length_cons] at hl
  show (isL c && decide (run isW (c :: r) = (c :: r).length) && decide ((c :: r).length ≤ 24)) = false
  rw [decide_eq_false (p := (c :: r).length ≤ 24) (by rw [List.length_cons]; omega), Bool.and_false]
theorem wordP_is {s : ByteArray} (h0 : s.size ≠ 0) (h : s.size ≤ 24) : wordP s.data.toList = ((wdN (s.data.toList.drop 0) : Int) == (s.size : Int)) := by
 have hl := str_len s
 rw [List.drop_zero, eqb]
 cases hd : s.data.toList with
 | nil => rw [hd] at hl; exact absurd hl.symm h0
 | cons c r =>
  rw [hd] at hl
  show (isL c && decide (run isW (c :: r) = (c :: r).length) && decide ((c :: r).length ≤ 24)) = decide (((if isL c = true then run isW (c :: r) else 0 : Nat) : Int) = (s.size : Int))
  rw [decide_eq_true (p := (c :: r).length ≤ 24) (by omega), Bool.and_true, hl]
  cases isL c
  ·rw [Bool.false_and]
   symm
   rw [decide_eq_false_iff_not]
   simp
   omega
  ·rw [Bool.true_and, if_pos rfl, decide_eq_decide]
   omega
theorem rname_any (s : ByteArray) (w : World) : Calls Tryz.prog 60 #[.string s] w fun e w' => e = .returned (.bool (name s)) ∧ Below w.heap.size w w' := by
 have hn := name_word s
 have KC := Lib.hid (fun W => rkeyword_any s W)
 have HE := toList_nil s
 by_cases h0 : s.size = 0
 ·have hr := Lib.hid (show name s = false by rw [hn, wordP_no (.inl h0)]; rfl)
  have q1 : s.toList.isEmpty = true := by rw [← empty_is, HE, decide_eq_true h0]
  clear hn HE KC h0
  go_enter Tryz.func60, Tryz.ntmps60
  go_wp2_with fail
  go_ret
  exact ⟨ret_bool hr.out.symm, b0 w⟩
 ·have q1 : s.toList.isEmpty = false := by rw [← empty_is, HE, decide_eq_false h0]
  by_cases h24 : 24 < s.size
  ·have hr := Lib.hid (show name s = false by rw [hn, wordP_no (.inr h24)]; rfl)
   have q2 : decide ((s.size : Int) ≤ 24) = false := decide_eq_false (by omega)
   have q2' : decide (s.size ≤ 24) = false := decide_eq_false (by omega)
   clear hn HE KC h0 h24
   go_enter Tryz.func60, Tryz.ntmps60
   go_wp2_with fail
   go_ret
   exact ⟨ret_bool hr.out.symm, b0 w⟩
  ·have q2 : decide ((s.size : Int) ≤ 24) = true := decide_eq_true (by omega)
   have q2' : decide (s.size ≤ 24) = true := decide_eq_true (by omega)
   rw [wordP_is h0 (by omega)] at hn
   obtain ⟨w1, cv, hcv, hB, b1⟩ := bytes_of w s (by omega)
   have WC := Lib.hid (rword_any _ _ _ s (by omega) 0 (by omega) w1 hB)
   rw [show ((0 : Nat) : Int) = 0 from rfl] at WC
   have B1 := Lib.hid b1
   replace hn := Lib.hid hn
   clear HE h0 h24 b1 hB
   generalize ((wdN (s.data.toList.drop 0) : Nat) : Int) = x at *
   cases hx : (x == (s.size : Int))
   ·have hr := Lib.hid (show name s = false by rw [hn.out, hx]; rfl)
    go_enter Tryz.func60, Tryz.ntmps60
    go_wp2_with fail
    refine WC.out.mono ?_
    rintro e w2 ⟨rfl, rfl⟩
    go_wp2_with fail
    go_ret
    exact ⟨ret_bool hr.out.symm, B1.out⟩
   ·have hr := Lib.hid (show name s = !kw s by rw [hn.out, hx]; rfl)
    go_enter Tryz.func60, Tryz.ntmps60
    go_wp2_with fail
    refine WC.out.mono ?_
    rintro e w2 ⟨rfl, rfl⟩
    go_wp2_with fail
    refine (KC.out _).mono ?_
    rintro e w3 ⟨rfl, rfl⟩
    go_wp2_with fail
    go_ret
    exact ⟨ret_bool hr.out.symm, B1.out⟩
end Go.Proofs.YtbahfelnbofjjaaGreatDoor
namespace Go.Proofs.YtbahfelnbofjjaaGreatDoor.un
open Go.RowKit dec
theorem le_is (a b : ByteArray) : (Op.bytesLess a.toList b.toList || a.toList == b.toList) = !Op.bytesLess b.toList a.toList := by
 cases h : Op.bytesLess b.toList a.toList
 ·by_cases e : a.toList = b.toList
  ·rw [e]; simp
  ·rw [less_tri b.toList a.toList h fun e' => e e'.symm]; rfl
 ·have h1 := ltS_as (a := b) (b := a) h
  have h2 := ltS_ne (a := b) (b := a) h
  unfold ltS at h1
  rw [h1, Bool.false_or]
  exact beq_eq_false_iff_ne.2 fun e => h2 (toList_inj e.symm)
theorem ck_drop {l : List Fa} {j : Nat} (h : j < l.length) (b : ByteArray) : ckFrom b (l.drop j) = if ck1 b (gt l j) = 0 then ckFrom (gt l j).1 (l.drop (j + 1)) else ck1 b (gt l j) := by
 rw [drop_gt h]
 rfl
theorem ck_end {l : List Fa} {j : Nat} (h : l.length ≤ j) (b : ByteArray) : ckFrom b (l.drop j) = 0 := by
 rw [List.drop_eq_nil_of_le h]
 rfl
theorem check_any (a : Option Addr) (n cap : Nat) (l : List Fa) (w : World) (hS : Sl w a n cap l) :
  Calls Tryz.prog 153 #[.slice a n cap] w fun e w' => e = .returned (.int .i64 (ck l)) ∧ Below w.heap.size w w' := by
 have W1 := Lib.hid isWord_any
 have R1 := Lib.hid range_any
 have hck : ck l = if 4 < n then 2 else ckFrom .empty (l.drop 0) := by rw [List.drop_zero, ← hS.hn]; rfl
 have S0 := Lib.hid hS
 clear hS
 by_cases h4 : 4 < n
 ·rw [hck, if_pos h4]
  have q1 : decide (4 < (n : Int)) = true := decide_eq_true (by omega)
  clear W1 R1 S0 hck
  go_enter Tryz.func153, Tryz.ntmps153
  go_wp2_with fail
  go_ret
  exact ⟨rfl, b0 w⟩
 ·rw [if_neg h4] at hck
  rw [hck]
  have hn := Lib.hid (Nat.le_of_not_lt h4)
  have q1 : decide (4 < (n : Int)) = false := decide_eq_false (by omega)
  clear h4 hck
  go_enter Tryz.func153, Tryz.ntmps153
  go_wp2_with fail
  go_loopw [3, 11] (fun vb vi wr => ∃ (j : Nat) (b : ByteArray), vb = .string b ∧ vi = .int .i64 (j : Nat) ∧ Hid (j ≤ n) ∧ Hid (ckFrom .empty (l.drop 0) = ckFrom b (l.drop j)) ∧ Below w.heap.size w wr) (fun _ vi _ => n - (intOf vi).toNat)
  case atStart => exact ⟨0, .empty, rfl, rfl, Lib.hid (by omega), rfl, b0 w⟩
  case round =>
   obtain ⟨j, b, rfl, rfl, hj, hd, hb⟩ := hrel
   by_cases hc : j < n
   ·have hlen := S0.out.hn
    have hst := hd.out
    rw [ck_drop (by have := S0.out.hn; omega) b] at hst
    obtain ⟨bk, off, rfl, hC⟩ := (S0.out.keeps hb).hat.resolve_left (by omega)
    obtain ⟨c0, c1⟩ := hC j (by have := S0.out.hn; omega)
    have q2 : decide ((j : Int) < (n : Int)) = true := decide_eq_true (by omega)
    have f4 := Lib.hid (next_at (j := j) (by have := hn.out; have := hc; omega))
    have q3 : j < n := hc
    generalize (gt l j) = x at *
    have H := Lib.hid hst
    have hbh := Lib.hid hb
    clear hd hst hlen hC hb
    cases hw : word x.1
    ·have hk : ck1 b x = 1 := by unfold ck1; rw [if_pos hw]
     go_wp2_with fail
     refine (W1.out _ _).mono ?_
     rintro e w' ⟨rfl, rfl⟩
     go_wp2_with fail
     go_ret
     exact ⟨ret_int (by rw [H.out, if_neg (by rw [hk]; decide), hk]), balloc hbh.out _⟩
    ·by_cases h0 : x.2 = 0
     ·have hk : ck1 b x = 70 := by unfold ck1; rw [hw, if_neg (by decide), if_pos (.inl h0)]
      have q4 : (x.2 == 0) = true := beq_iff_eq.2 h0
      replace hk := Lib.hid hk
      replace h0 := Lib.hid h0
      go_wp2_with fail
      refine (W1.out _ _).mono ?_
      rintro e w' ⟨rfl, rfl⟩
      go_wp2_with fail
      replace hk := hk.out
      go_ret
      exact ⟨ret_int (by rw [H.out, if_neg (by rw [hk]; decide), hk]), balloc hbh.out _⟩
     ·have q4 : (x.2 == 0) = false := beq_eq_false_iff_ne.2 h0
      cases hf : far x.2
      ·have q8 := le_is x.1 b
       cases hl : Op.bytesLess b.toList x.1.toList
       ·have hk : ck1 b x = 3 := by unfold ck1 ltS; rw [hw, hf, hl, if_neg (by decide), if_neg (by simp [h0]), if_neg (by decide)]
        replace h0 := Lib.hid h0
        rw [hl, Bool.not_false] at q8
        go_wp2_with fail
        refine (W1.out _ _).mono ?_
        rintro e w' ⟨rfl, rfl⟩
        go_wp2_with fail
        refine (R1.out _ _).mono ?_
        rintro e w' ⟨rfl, rfl⟩
        go_wp2_with fail
        go_ret
        exact ⟨ret_int (by rw [H.out, if_neg (by rw [hk]; decide), hk]), balloc hbh.out _⟩
       ·have hk : ck1 b x = 0 := by unfold ck1 ltS; rw [hw, hf, hl, if_neg (by decide), if_neg (by simp [h0]), if_pos rfl]
        replace h0 := Lib.hid h0
        rw [hl, Bool.not_true] at q8
        go_wp2_with fail
        refine (W1.out _ _).mono ?_
        rintro e w' ⟨rfl, rfl⟩
        go_wp2_with fail
        refine (R1.out _ _).mono ?_
        rintro e w' ⟨rfl, rfl⟩
        go_wp2_with fail
        go_roundw
        case rel => exact ⟨j + 1, x.1, rfl, congrArg (Value.int .i64) f4.out, Lib.hid hc, Lib.hid (H.out.trans (if_pos hk)), balloc hbh.out _⟩
        case measure => exact less_at hc f4.out
      ·have hk : ck1 b x = 70 := by unfold ck1; rw [hw, hf, if_neg (by decide), if_pos (.inr rfl)]
       replace h0 := Lib.hid h0
       go_wp2_with fail
       refine (W1.out _ _).mono ?_
       rintro e w' ⟨rfl, rfl⟩
       go_wp2_with fail
       refine (R1.out _ _).mono ?_
       rintro e w' ⟨rfl, rfl⟩
       go_wp2_with fail
       go_ret
       exact ⟨ret_int (by rw [H.out, if_neg (by rw [hk]; decide), hk]), balloc hbh.out _⟩
   ·have hst := ck_end (l := l) (j := j) (by have := S0.out.hn; omega) b
    have H := Lib.hid hst
    have hd2 := Lib.hid hd.out
    clear hst hd
    have q3 : decide ((j : Int) < (n : Int)) = false := decide_eq_false (by omega)
    have hbh := Lib.hid hb
    clear hb
    go_wp2_with fail
    go_ret
    exact ⟨ret_int (hd2.out.trans H.out).symm, hbh.out⟩
end Go.Proofs.YtbahfelnbofjjaaGreatDoor.un
namespace Go.Proofs.YtbahfelnbofjjaaGreatDoor.ch
open Go.RowKit dec
def Bl (b : Bool) (w : World) (e : Ending) (w' : World) : Prop := e = .returned (.bool b) ∧ Below w.heap.size w w'
theorem bl_of {b c : Bool} {w w' : World} (h : b = c) (hb : Below w.heap.size w w') : Bl c w (.returned (.bool b)) w' := ⟨by rw [h], hb⟩
theorem nu_of {b c : Int} {w w' : World} (h : b = c) (hb : Below w.heap.size w w') : Num c w (.returned (.int .i64 b)) w' := ⟨by rw [h], hb⟩
theorem eqL (s : ByteArray) (l : List UInt8) : (s.toList == l) = decide (s = ⟨l.toArray⟩) := by
 rw [← un.bs_eq]
 congr 1
 rw [ByteArray.toList_eq]
theorem eqI (x y : Int) : (x == y) = decide (x = y) := by by_cases h : x = y <;> simp [h]
theorem eqE (s : ByteArray) : s.toList.isEmpty = decide (s = .empty) := by
 have := eqL s []
 rw [show (s.toList == []) = s.toList.isEmpty by cases s.toList <;> rfl] at this
 exact this
theorem bw_two (w : World) (c d : Array Value) (T U : TypeId) : Blk ((w.alloc (.cells c T)).alloc (.cells d U)) w.heap.size T c ∧ Blk ((w.alloc (.cells c T)).alloc (.cells d U)) (w.heap.size + 1) U d := by
 refine ⟨(Blk.new w T c).past _, ?_⟩
 have := Blk.new (w.alloc (.cells c T)) U d
 simpa using this
theorem below_two (w : World) (c d : Obj) : Below w.heap.size w ((w.alloc c).alloc d) := balloc (balloc (b0 w) _) _
theorem isNumber_any (t : Ty) (ua : Option Addr) (uc : Nat) (w : World) : Calls Tryz.prog 97 #[.agg (tyC t ua uc)] w (Bl (num t) w) := by
 unfold tyC
 go_enter Tryz.func97, Tryz.ntmps97
 go_wp2
 all_goals go_ret
 all_goals exact bl_of (by simp only [num, eqI] at * <;> simp_all) (balloc (b0 w) _)
theorem rNumber_any (t : Ty) (ua : Option Addr) (uc : Nat) (w : World) : Calls Tryz.prog 71 #[.agg (tyC t ua uc)] w (Bl (num t) w) := by
 unfold tyC
 go_enter Tryz.func71, Tryz.ntmps71
 go_wp2
 all_goals go_ret
 all_goals exact bl_of (by simp only [num, eqI] at * <;> simp_all) (balloc (b0 w) _)
theorem unitName_any (f : un.Fa) (hs : f.1.size ≤ 140737488355328) (w : World) (T : Tabs w) : Calls Tryz.prog 152 #[.agg #[.string f.1, .int .i64 f.2]] w (Bl (!name f.1) w) := by
 have C := Lib.hid (nameW_any f.1 hs (w.alloc (.cells #[.string f.1, .int .i64 f.2] 82)) (T.stays (balloc (b0 w) _)))
 go_enter Tryz.func152, Tryz.ntmps152
 go_wp2_with fail
 refine C.out.mono ?_
 rintro e w1 ⟨rfl, b1⟩
 have B1 := Lib.hid (bnext (balloc (b0 w) _) b1)
 clear b1 C
 go_wp2_with fail
 go_ret
 exact bl_of rfl B1.out
def ixA {α : Type} (p : α → Bool) : List α → Nat → Int
 | [], _ => -1
 | x :: r, n => if p x = true then (n : Nat) else ixA p r (n + 1)
theorem ixA_any {α : Type} (p : α → Bool) : ∀ (l : List α) (n : Nat), decide (0 ≤ ixA p l n) = l.any p
 | [], _ => rfl
 | x :: r, n => by
  unfold ixA
  cases h : p x
  ·simp [h, ixA_any p r (n + 1)]
  ·simp [h]
theorem ixA_at {α : Type} (p : α → Bool) {l : List α} {j : Nat} (h : j < l.length) : ixA p (l.drop j) j = if p l[j] = true then (j : Int) else ixA p (l.drop (j + 1)) (j + 1) := by
 rw [List.drop_eq_getElem_cons h]
 rfl
theorem ixA_end {α : Type} (p : α → Bool) {l : List α} {j : Nat} (h : l.length ≤ j) : ixA p (l.drop j) j = -1 := by
 rw [List.drop_eq_nil_of_le h]
 rfl
theorem indexFa_any (a : Option Addr) (n cap : Nat) (l : List un.Fa) (w : World) (hA : un.Sl w a n cap l) (hs : ∀ f ∈ l, f.1.size ≤ 140737488355328) (T : Tabs w) :
  Calls Tryz.prog 219 #[.slice a n cap, .func (.func 152) #[] #[]] w (Num (ixA (fun f => !name f.1) l 0) w) := by
 have A1 := Lib.hid hA
 have hS := Lib.hid hs
 have T0 := Lib.hid T
 have hI := Lib.hid (show ixA (fun f : un.Fa => !name f.1) l 0 = ixA (fun f => !name f.1) (l.drop 0) 0 by rw [List.drop_zero])
 have hn := hA.hn
 subst hn
 have hL := Lib.hid (show l.length ≤ 9223372036854775807 by have := hA.hcap; have := hA.hmax; omega)
 clear hA hs T
 go_enter Tryz.func219, Tryz.ntmps219
 go_wp2_with fail
 go_loopw [8] (fun vi wr => ∃ (j : Nat), vi = .int .i64 (j : Nat) ∧ Hid (j ≤ l.length) ∧ Hid (ixA (fun f : un.Fa => !name f.1) l 0 = ixA (fun f => !name f.1) (l.drop j) j) ∧ Hid (Below w.heap.size w wr)) (fun vi _ => l.length - (intOf vi).toNat)
 case atStart => exact ⟨0, rfl, Lib.hid (Nat.zero_le _), hI, Lib.hid (b0 w)⟩
 case round =>
  clear hI
  obtain ⟨j, rfl, hj, hI, hb⟩ := hrel
  by_cases hlt : j < l.length
  ·have q1 : decide ((j : Int) < (l.length : Int)) = true := decide_eq_true (by omega)
   obtain ⟨bk, off, rfl, hC⟩ := (A1.out.keeps hb.out).hat.resolve_left (by omega)
   obtain ⟨c0, c1⟩ := hC j hlt
   have f4 := Lib.hid (next_at (j := j) (by have := hL.out; omega))
   have i1 : (j : Int) < (l.length : Int) := by omega
   replace hI := hI.out.trans (ixA_at _ hlt)
   have C := Lib.hid (unitName_any (un.gt l j) (hS.out _ (un.gt_mem hlt)) wr (T0.out.stays hb.out))
   rw [show l[j] = un.gt l j from (un.gt_eq hlt).symm] at hI
   clear hC A1 hS T0 hj
   generalize un.gt l j = x at *
   go_wp2_with fail
   refine C.out.mono ?_
   rintro e w1 ⟨rfl, b1⟩
   have B1 := Lib.hid (bnext hb.out b1)
   clear b1 C c0 c1 hb
   generalize hq : (!name x.1) = q at *
   cases q
   ·rw [if_neg (by decide)] at hI
    have hI := Lib.hid hI
    go_wp2_with fail
    exact ⟨⟨j + 1, congrArg (Value.int .i64) f4.out, Lib.hid hlt, hI, B1⟩, less_at hlt f4.out⟩
   ·rw [if_pos rfl] at hI
    have hI := Lib.hid hI
    go_wp2_with fail
    go_ret
    exact nu_of hI.out.symm B1.out
  ·have q1 : decide ((j : Int) < (l.length : Int)) = false := decide_eq_false (by omega)
   have hI := Lib.hid (hI.out.trans (ixA_end _ (by omega)))
   clear A1 hS T0 hj
   go_wp2_with fail
   go_ret
   exact nu_of hI.out.symm hb.out
theorem containsFa_any (a : Option Addr) (n cap : Nat) (l : List un.Fa) (w : World) (hA : un.Sl w a n cap l) (hs : ∀ f ∈ l, f.1.size ≤ 140737488355328) (T : Tabs w) :
  Calls Tryz.prog 154 #[.slice a n cap, .func (.func 152) #[] #[]] w (Bl (l.any fun f => !name f.1) w) := by
 have C := Lib.hid (indexFa_any a n cap l w hA hs T)
 have hq := Lib.hid (ixA_any (fun f : un.Fa => !name f.1) l 0)
 clear hA hs T
 generalize ixA (fun f : un.Fa => !name f.1) l 0 = i at *
 go_enter Tryz.func154, Tryz.ntmps154
 go_wp2_with fail
 refine C.out.mono ?_
 rintro e w1 ⟨rfl, b1⟩
 have B1 := Lib.hid b1
 clear b1 C
 go_wp2_with fail
 go_ret
 exact bl_of hq.out B1.out
theorem word_sz {s : ByteArray} (h : un.word s = true) : s.size ≤ 24 := (un.word_size h).2
theorem unitOfNames_any (a : Option Addr) (n cap : Nat) (l : List un.Fa) (w : World) (hA : un.Sl w a n cap l) (T : Tabs w) :
  Calls Tryz.prog 98 #[.slice a n cap] w (Bl (okU l) w) := by
 have C := Lib.hid (un.check_any a n cap l w hA)
 by_cases h : un.ck l = 0
 ·have hs : ∀ f ∈ l, f.1.size ≤ 140737488355328 := fun f hf => by have := word_sz (((un.ck_iff l).1 h).good f hf).1; omega
  have q1 : (un.ck l == 0) = true := by simp [h]
  have D := Lib.hid (fun W hS T => containsFa_any a n cap l W hS hs T)
  have hq := Lib.hid (show okU l = !l.any fun f => !name f.1 by unfold okU; rw [decide_eq_true h, Bool.true_and]; simp [List.all_eq_not_any_not])
  have A1 := Lib.hid hA
  have T0 := Lib.hid T
  clear hA T hs h
  generalize un.ck l = c at *
  generalize (l.any fun f => !name f.1) = d at *
  go_enter Tryz.func98, Tryz.ntmps98
  go_wp2_with fail
  refine C.out.mono ?_
  rintro e w1 ⟨rfl, b1⟩
  have B1 := Lib.hid b1
  clear b1 C
  go_wp2_with fail
  refine (D.out w1 (A1.out.keeps B1.out) (T0.out.stays B1.out)).mono ?_
  rintro e w2 ⟨rfl, b2⟩
  have B2 := Lib.hid (bnext B1.out b2)
  clear b2 D A1 T0
  go_wp2_with fail
  go_ret
  exact bl_of hq.out.symm B2.out
 ·have q1 : (un.ck l == 0) = false := by simp [h]
  have hq := Lib.hid (show okU l = false by unfold okU; rw [decide_eq_false h, Bool.false_and])
  clear hA T h
  generalize un.ck l = c at *
  go_enter Tryz.func98, Tryz.ntmps98
  go_wp2_with fail
  refine C.out.mono ?_
  rintro e w1 ⟨rfl, b1⟩
  have B1 := Lib.hid b1
  clear b1 C
  go_wp2_with fail
  go_ret
  exact bl_of hq.out.symm B1.out
end Go.Proofs.YtbahfelnbofjjaaGreatDoor.ch
namespace Go.Proofs.YtbahfelnbofjjaaGreatDoor.un
def atoiN (l : List UInt8) : Int :=
 match Lib.atoiAll l with
 | .ok v => v
 | Lib.NumEnd.syntax => 0
 | .range => Lib.atoiSat l
def f1 (x : Fa) : List UInt8 := if x.2 = 1 then x.1.data.toList else x.1.data.toList ++ 94 :: Lib.itoa x.2
def fT (l : List Fa) : List UInt8 := Lib.join (l.map f1) [42]
theorem dec_small {u : Nat} (h : u < 10) : Lib.decDigits u = [UInt8.ofNat (48 + u)] := by
 rw [Lib.decDigits, dif_pos h]
theorem exp_cases {n : Int} (h : far n = false) : n = -8 ∨ n = -7 ∨ n = -6 ∨ n = -5 ∨ n = -4 ∨ n = -3 ∨ n = -2 ∨ n = -1 ∨ n = 0 ∨ n = 1 ∨ n = 2 ∨ n = 3 ∨ n = 4 ∨ n = 5 ∨ n = 6 ∨ n = 7 ∨ n = 8 := by
 unfold far at h
 rw [decide_eq_false_iff_not] at h
 omega
theorem itoa_few {n : Int} (h : far n = false) : (42 : UInt8) ∉ Lib.itoa n ∧ atoiN (Lib.itoa n) = n ∧ (Lib.itoa n).length ≤ 2 := by
 rcases exp_cases h with rfl | rfl | rfl | rfl | rfl | rfl | rfl | rfl | rfl | rfl | rfl | rfl | rfl | rfl | rfl | rfl | rfl
 all_goals unfold Lib.itoa
 all_goals first
  | rw [if_pos (by decide), dec_small (by decide)]
  | rw [if_neg (by decide), dec_small (by decide)]
 all_goals decide
theorem f1_len {x : Fa} (h1 : word x.1 = true) (h2 : far x.2 = false) : 1 ≤ (f1 x).length ∧ (f1 x).length ≤ 27 := by
 have hs := word_size h1
 rw [Lib.size_eq] at hs
 have := (itoa_few h2).2.2
 unfold f1
 split
 ·omega
 ·rw [List.length_append, List.length_cons]
  omega
theorem fT_len {u : List Fa} (h : Ok u) : (fT u).length ≤ 200 := by
 have hg : ∀ (l : List Fa), (∀ x ∈ l, word x.1 = true ∧ far x.2 = false) → (fT l).length ≤ 28 * l.length := by
  intro l
  induction l with
  | nil => intro _; exact Nat.le_refl _
  | cons x l ih =>
   intro hl
   have hx := hl x (List.mem_cons_self ..)
   have h1 := (f1_len hx.1 hx.2).2
   have h2 := ih fun y hy => hl y (List.mem_cons_of_mem _ hy)
   cases l with
   | nil =>
    unfold fT
    rw [List.map_cons, List.map_nil, Lib.join_one]
    simp; omega
   | cons y l =>
    have e : fT (x :: y :: l) = f1 x ++ 42 :: fT (y :: l) := by
     unfold fT
     rw [List.map_cons, List.map_cons, Lib.join_cons, Lib.join_cons]
     simp [Lib.joinTail]
    rw [e, List.length_append, List.length_cons]
    simp only [List.length_cons] at *
    omega
 have := hg u fun x hx => ⟨(h.good x hx).1, (h.good x hx).2.2⟩
 have := h.le
 omega
end Go.Proofs.YtbahfelnbofjjaaGreatDoor.un
namespace Go.Proofs.YtbahfelnbofjjaaGreatDoor.ch
open Go.RowKit dec
def uT (u : List un.Fa) : List UInt8 := if u = [] then [] else 32 :: 91 :: (un.fT u ++ [93])
def tyT (t : Ty) : List UInt8 :=
 if t.k = 1 then [98, 111, 111, 108] else if t.k = 4 then [116, 101, 120, 116] else if t.k = 5 then [107, 101, 121, 32] ++ t.of.data.toList else if t.k = 2 then [105, 110, 116] ++ uT t.un else [100, 101, 99] ++ uT t.un
def wiT (k n : Int) : List UInt8 :=
 if k = 2 then [115, 108, 105, 100, 105, 110, 103, 32] ++ Lib.itoa n else if k = 3 then [116, 117, 109, 98, 108, 105, 110, 103, 32] ++ Lib.itoa n else if k = 4 then [115, 101, 115, 115, 105, 111, 110, 32] ++ Lib.itoa n else [97, 108, 108]
def liT (h : Hd) : List UInt8 := if h.vk = 5 then 64 :: (h.nm.data.toList ++ 32 :: 34 :: (h.vs.data.toList ++ [34])) else fm ⟨h.vk, h.vn, h.vs⟩ ++ uT h.un
def rkO (op : ByteArray) : Int := if op = ⟨#[111, 114]⟩ then 2 else if op = ⟨#[97, 110, 100]⟩ then 3 else if op = ⟨#[43]⟩ ∨ op = ⟨#[45]⟩ then 6 else if op = ⟨#[42]⟩ ∨ op = ⟨#[47]⟩ then 7 else 5
def rk (h : Hd) : Int :=
 if h.k = 8 then 0 else if h.k = 9 then 1 else if h.k = 7 then rkO h.op else if h.k = 6 then (if h.op = ⟨#[110, 111, 116]⟩ then 4 else if h.op = ⟨#[45]⟩ then 8 else 9) else 9
def lef (r : Int) : Int := if r = 5 then 6 else r
def par (r q : Int) (t : List UInt8) : List UInt8 := if r < q then 40 :: (t ++ [41]) else t
abbrev Od := List UInt8 × Hd
def od (l : List Od) (j : Nat) : Od := l.getD j ([], h0)
def odT (l : List Od) (j : Nat) : List UInt8 := (od l j).1
def odP (l : List Od) (j : Nat) (q : Int) : List UInt8 := par (rk (od l j).2) q (od l j).1
def agT (h : Hd) (l : List Od) : List UInt8 :=
 h.op.data.toList ++ 40 :: (h.tb.data.toList ++ ((if h.op = ⟨#[99, 111, 117, 110, 116]⟩ then [] else 44 :: 32 :: odT l 0) ++ ((if h.op = ⟨#[113, 117, 97, 110, 116, 105, 108, 101]⟩ ∨ h.op = ⟨#[100, 101, 99, 97, 121]⟩ then 44 :: 32 :: Lib.itoa h.pa else []) ++
  (44 :: 32 :: wiT h.wk h.ws ++ ((if truH (od l 1).2 = true then [] else [32, 119, 104, 101, 114, 101, 32] ++ odT l 1) ++ [41])))))
def nodT (h : Hd) (l : List Od) : List UInt8 :=
 if h.k = 1 then liT h
 else if h.k = 4 then h.nm.data.toList ++ ([32, 111, 102, 32, 40] ++ (odT l 0 ++ [41]))
 else if h.k = 5 then agT h l
 else if h.k = 6 then (if h.op = ⟨#[45]⟩ then 45 :: odP l 0 8 else if h.op = ⟨#[110, 111, 116]⟩ then [110, 111, 116, 32] ++ odP l 0 4 else [110, 117, 108, 108, 40] ++ (odT l 0 ++ [41]))
 else if h.k = 7 then odP l 0 (lef (rkO h.op)) ++ (32 :: (h.op.data.toList ++ 32 :: odP l 1 (rkO h.op + 1)))
 else if h.k = 8 then [105, 102, 32] ++ (odT l 0 ++ ([32, 116, 104, 101, 110, 32] ++ (odT l 1 ++ ([32, 101, 108, 115, 101, 32] ++ odT l 2))))
 else if h.k = 9 then odP l 0 1 ++ ([32, 100, 101, 102, 97, 117, 108, 116, 32] ++ odP l 1 2)
 else h.nm.data.toList
def txF : Fo → List Od
 | .nil => []
 | .cons h ar r => (nodT h (txF ar), h) :: txF r
def txE (x : Ex) : List UInt8 := nodT x.h (txF x.ar)
theorem txF_len : ∀ F : Fo, (txF F).length = F.len
 | .nil => rfl
 | .cons h ar r => by simp only [txF, List.length_cons, Fo.len, txF_len r]
theorem txF_at : ∀ (F : Fo) (j : Nat), j < F.len → od (txF F) j = (txE (F.nth j), (F.nth j).h)
 | .nil, _, h => absurd h (Nat.not_lt_zero _)
 | .cons h ar r, 0, _ => rfl
 | .cons h ar r, j + 1, hj => by
  have := txF_at r j (by simpa [Fo.len] using hj)
  simpa [txF, od, Fo.nth] using this
def fiT (f : Fi) : List UInt8 := f.nm.data.toList ++ 58 :: 32 :: tyT f.ty
def fsT : List Fi → List UInt8
 | [] => []
 | f :: r => 32 :: (fiT f ++ (r.map fun g => 44 :: 32 :: fiT g).flatten)
def tbT (t : Tb) : List UInt8 :=
 [116, 97, 98, 108, 101, 32] ++ (t.nm.data.toList ++ ([32, 111, 102, 32] ++ (t.en.data.toList ++ ([32, 123] ++ (fsT t.fs ++ ([32, 125] ++ ((if t.kp = 0 then [] else [32, 107, 101, 101, 112, 32] ++ Lib.itoa t.kp) ++ [59])))))))
def feT (f : Fe) : List UInt8 :=
 [102, 101, 97, 116, 117, 114, 101, 32] ++ (f.nm.data.toList ++ ([32, 111, 102, 32] ++ (f.en.data.toList ++ (58 :: 32 :: (tyT f.ty ++ ([32, 61, 32] ++ (txE f.bo ++ [59])))))))
def pfE (f : Fe) : Int := if name f.nm = false then 3 else if name f.en = false then 3 else if tyE f.ty ≠ 0 then tyE f.ty else shE f.bo
def lnR {α : Type} (e : α → Int) (t : α → List UInt8) : List α → Int × List UInt8
 | [] => (0, [])
 | x :: r => if e x ≠ 0 then (e x, []) else if (lnR e t r).1 ≠ 0 then ((lnR e t r).1, []) else (0, t x ++ 10 :: (lnR e t r).2)
def moR (ts : List Tb) (gs : List Fe) : Int × List UInt8 :=
 if (lnR tbE tbT ts).1 ≠ 0 then ((lnR tbE tbT ts).1, [])
 else if (lnR pfE feT gs).1 ≠ 0 then ((lnR pfE feT gs).1, [])
 else if 16384 < ((lnR tbE tbT ts).2 ++ (lnR pfE feT gs).2).length then (2, [])
 else (0, (lnR tbE tbT ts).2 ++ (lnR pfE feT gs).2)
theorem itoa_le (n : Int) (h0 : 0 ≤ n) (h1 : n ≤ 1152921504606846976) : (Lib.itoa n).length ≤ 20 := by
 have hd : ∀ (k u : Nat), u < 10 ^ (k + 1) → (Lib.decDigits u).length ≤ k + 1 := by
  intro k
  induction k with
  | zero => intro u hu; rw [Lib.decDigits_one (by simpa using hu)]; simp
  | succ k ih =>
   intro u hu
   by_cases h : u < 10
   ·rw [Lib.decDigits_one h]; simp
   ·rw [Lib.decDigits, dif_neg h, List.length_append]
    have := ih (u / 10) (by rw [Nat.pow_succ] at hu; omega)
    simp only [List.length_singleton]
    omega
 unfold Lib.itoa
 rw [if_neg (by omega)]
 exact hd 19 n.toNat (by omega)
end Go.Proofs.YtbahfelnbofjjaaGreatDoor.ch
namespace Go.Proofs.YtbahfelnbofjjaaGreatDoor.un
open Go.RowKit dec
structure Tabs (w : World) : Prop where
 ten : Lib.TabIs Tryz.prog w "internal/strconv.uint64pow10" .u64 Lib.pow10Tab
 syn : ∃ tp p, w.var? Tryz.prog "strconv.ErrSyntax" = some #[.iface tp p]
 ran : ∃ tp p, w.var? Tryz.prog "strconv.ErrRange" = some #[.iface tp p]
theorem gSyn : Tryz.prog.globalNamed "strconv.ErrSyntax" = some 7 := by kernel_rfl
theorem gRan : Tryz.prog.globalNamed "strconv.ErrRange" = some 8 := by kernel_rfl
theorem tab_keeps {W W' : World} {nm : String} {q : IntKind} {tab : List Int} (h : Lib.TabIs Tryz.prog W nm q tab) (hb : Below W.heap.size W W') : Lib.TabIs Tryz.prog W' nm q tab := by
 unfold Lib.TabIs at *
 cases hg : Tryz.prog.globalNamed nm with
 | none => unfold World.var? at h; simp [hg] at h
 | some g => exact Go.Joins.var_stays hg h hb (Nat.le_refl _)
theorem Tabs.stays {w w' : World} (h : Tabs w) (hb : Below w.heap.size w w') : Tabs w' := by
 obtain ⟨tp, p, h1⟩ := h.syn
 obtain ⟨tq, q, h2⟩ := h.ran
 exact ⟨tab_keeps h.ten hb, ⟨tp, p, Go.Joins.var_stays gSyn h1 hb (Nat.le_refl _)⟩, ⟨tq, q, Go.Joins.var_stays gRan h2 hb (Nat.le_refl _)⟩⟩
theorem below_bytes (w : World) (e : TypeId) (s : ByteArray) : Below w.heap.size w (Lib.bytesWorld w e s) := by
 refine ⟨rfl, rfl, rfl, ?_, fun j hj => Lib.bytesWorld_at_old w e s j hj⟩
 rw [Lib.bytesWorld_size]
 omega
theorem itoa_any (n : Int) (h0 : -9223372036854775808 ≤ n) (h1 : n ≤ 9223372036854775807) (w : World) (T : Tabs w) :
  Calls Tryz.prog 56 #[.int .i64 n] w fun e w' => e = .returned (.string ⟨(Lib.itoa n).toArray⟩) ∧ Below w.heap.size w w' := by
 refine (Tryz.strconv_Itoa n h0 h1 w T.ten).mono ?_
 rintro e w' ⟨rfl, k, os, rfl⟩
 exact ⟨rfl, below_regrown w (w.drewN k).drawn os⟩
theorem add_str (x y : List UInt8) (hx : x.length ≤ 2097152) (hy : y.length ≤ 2097152) (W : World) : (Op.stringOp .add ⟨x.toArray⟩ ⟨y.toArray⟩).run Tryz.prog W = .ok (.string ⟨(x ++ y).toArray⟩) W := run_string_add_lists W x y (by omega) (by omega)
theorem nd_le : ∀ (k u : Nat), u < 10 ^ (k + 1) → Lib.nDigits u ≤ k + 1
 | 0, u, h => by rw [Lib.nDigits_small (by simpa using h)]; omega
 | k + 1, u, h => by
  by_cases h9 : u < 10
  ·rw [Lib.nDigits_small h9]; omega
  ·rw [Lib.nDigits_big h9]
   have := nd_le k (u / 10) (by rw [Nat.pow_succ] at h; omega)
   omega
theorem itoa_len (n : Int) (h0 : -9223372036854775808 ≤ n) (h1 : n ≤ 9223372036854775807) : (Lib.itoa n).length ≤ 20 := by
 have hd : ∀ u : Nat, u < 10000000000000000000 → (Lib.decDigits u).length ≤ 19 := fun u hu => by
  rw [Lib.decDigits_eq, List.length_map, List.length_range]
  rcases Nat.lt_or_ge (Lib.nDigits u) 20 with h | h
  ·omega
  ·exfalso
   have := nd_le 18 u (by omega)
   omega
 unfold Lib.itoa
 split
 ·rw [List.length_cons]
  have := hd n.natAbs (by omega)
  omega
 ·have := hd n.toNat (by omega)
  omega
theorem factor_any (x : Fa) (hs : x.1.size ≤ 1048576) (h0 : -9223372036854775808 ≤ x.2) (h1 : x.2 ≤ 9223372036854775807) (w : World) (T : Tabs w) :
  Calls Tryz.prog 230 #[.agg #[.string x.1, .int .i64 x.2]] w fun e w' => e = .returned (.string ⟨(f1 x).toArray⟩) ∧ Below w.heap.size w w' := by
 have I := Lib.hid (fun W (h : Below w.heap.size w W) => itoa_any x.2 h0 h1 W (T.stays h))
 have L := itoa_len x.2 h0 h1
 by_cases hx : x.2 = 1
 ·have q1 : (x.2 == 1) = true := beq_iff_eq.2 hx
  have hr := Lib.hid (show f1 x = x.1.data.toList by unfold f1; rw [if_pos hx])
  clear I hx L h0 h1 T hs
  generalize x.2 = y at *
  go_enter Tryz.func230, Tryz.ntmps230
  go_wp2_with fail
  go_ret
  exact ⟨by rw [hr.out]; rfl, balloc (b0 w) _⟩
 ·have q1 : (x.2 == 1) = false := beq_eq_false_iff_ne.2 hx
  have hr := Lib.hid (show (⟨(f1 x).toArray⟩ : ByteArray) = ⟨(x.1.data.toList ++ 94 :: Lib.itoa x.2).toArray⟩ by unfold f1; rw [if_neg hx])
  have hsz : x.1.data.toList.length ≤ 1048576 := by rw [← Lib.size_eq]; exact hs
  have A := add_str x.1.data.toList [94] (by omega) (by simp)
  replace A : ∀ W, (Op.stringOp .add x.1 ⟨#[94]⟩).run Tryz.prog W = .ok (.string ⟨(x.1.data.toList ++ [94]).toArray⟩) W := A
  have B := add_str (x.1.data.toList ++ [94]) (Lib.itoa x.2) (by rw [List.length_append]; simp; omega) (by omega)
  rw [show x.1.data.toList ++ [94] ++ Lib.itoa x.2 = x.1.data.toList ++ 94 :: Lib.itoa x.2 by simp] at B
  have C0 := Lib.hid ((Bw.new w x 82).c0)
  have C1 := Lib.hid ((Bw.new w x 82).c1)
  have BB := Lib.hid (balloc (b0 w) (.cells #[.string x.1, .int .i64 x.2] 82))
  clear hx L h0 h1 T hs hsz
  generalize x.1.data.toList ++ 94 :: Lib.itoa x.2 = l3 at *
  generalize (⟨(x.1.data.toList ++ [94]).toArray⟩ : ByteArray) = s1 at *
  generalize (⟨(Lib.itoa x.2).toArray⟩ : ByteArray) = s2 at *
  generalize (⟨l3.toArray⟩ : ByteArray) = s3 at *
  go_enter Tryz.func230, Tryz.ntmps230
  go_wp2_with fail
  generalize w.alloc (.cells #[.string x.1, .int .i64 x.2] 82) = W1 at *
  have c0 := cell_regrown C0.out
  have c1 := cell_regrown C1.out
  have K1 := Lib.hid (fun d os => Calls.regrown_of (I.out (Sort.grow (redrawn W1 d) os) (bnext BB.out (below_regrown W1 d os))))
  clear C0 C1 I
  refine wp_region_quiet_below (by kernel_rfl) (by kernel_rfl) ?_
  repeat (first | go_big_quiet_skip | (go_big_quiet_want; go_big_quiet_op; go_big_quiet_on) | quiet_step ((first | (go_at_call 56; exact K1.out _ _))))
  refine wpQuiet_nil ?_
  intro w9 hw9
  have hb9 := below_of hw9
  clear hw9 K1 c0 c1
  go_wp2_with fail
  go_ret
  exact ⟨by rw [hr.out]; rfl, bnext BB.out hb9⟩
theorem infoS : (Tryz.prog.info? 9).map (fun i => (i.zero, i.size, i.bytes)) = some (some (.string ByteArray.empty), 1, 16) := by kernel_rfl
def OS (w : World) (base : Nat) (v : Value) (l : List ByteArray) : Prop := w.ownsRow base 9 1 v l.length (l.map Value.string)
theorem OS.nil (w : World) (base : Nat) : OS w base (.slice none 0 0) [] := World.ownsRow_nil _ _ _ _
theorem OS.keeps {w w1 : World} {base : Nat} {v : Value} {l : List ByteArray} (h : OS w base v l) (hb : Below w.heap.size w w1) : OS w1 base v l := by
 obtain ⟨h1, h2⟩ := h
 refine ⟨h1, ?_⟩
 rcases h2 with h0 | ⟨g, cap, cur, e, hbg, hh, r⟩
 ·exact .inl h0
 ·refine .inr ⟨g, cap, cur, e, hbg, ?_, r⟩
  have : g < w.heap.size := by
   rcases Nat.lt_or_ge g w.heap.size with h' | h'
   ·exact h'
   ·rw [Array.getElem?_eq_none h'] at hh; cases hh
  rw [hb.block _ this]
  exact hh
theorem wpList_pushS (w : World) {ops : Array Oper} {rest : List Oper} {o : Oper} {a : Act} {Q : Exit → Act → World → Prop} (hgd : o.guard = none) (s x : Operand)
  (ho : o.op = .call { callee := .builtin .append, args := #[s, x], argTypes := #[97, 97] })
  (base : Nat) (v : Value) (l : List ByteArray) (hs : a.eval s = v) (hown : OS w base v l) (b : Nat) (t : ByteArray) (hx : a.eval x = .slice (some ⟨b, 0, none⟩) 1 1) (hB : w.cell? ⟨b, 0, none⟩ = some (.string t))
  (hn : l.length < 5864062014805) (hbase : base ≤ w.heap.size)
  (h : ∀ v' w', OS w' base v' (l ++ [t]) → Below base w w' → wpList Tryz.prog ops Q rest (a.put o.dst v') w') : wpList Tryz.prog ops Q (o :: rest) a w := by
 refine wpList_plain hgd fun _ hK => ?_
 obtain ⟨i, hi, hz0, hz1, hz2⟩ := info_parts infoS
 refine wp_append_own w s x 97 ho base 9 i (.string ByteArray.empty) 1 16 Tryz.underlying97 hi hz0 hz1 hz2 rfl (by decide) v l.length (l.map Value.string) hs hown ⟨b, 0, none⟩ 1 1 [.string t] hx rfl ?_ (fun u hu => by simp at hu; subst hu; rfl)
  (by unfold maxLen; omega) (by omega) hbase fun v' w' h1 h2 _ => hK _ _ (h v' w' (by unfold OS; rw [List.map_append, List.length_append]; exact h1) ((Below.refl base w).grown h2 hbase fun k hk => (hown.lt k hk).1))
 intro j u hu
 match j, hu with
 | 0, hu => simp at hu; subst hu; exact hB
 | j + 1, hu => simp at hu
theorem is_appS {w : World} {ops : Array Oper} {rest : List Oper} {o : Oper} {a : Act} {Q : Exit → Act → World → Prop} (s x : Operand) (_ : o.op = .call { callee := .builtin .append, args := #[s, x], argTypes := #[97, 97] })
  (k : wpList Tryz.prog ops Q (o :: rest) a w) : wpList Tryz.prog ops Q (o :: rest) a w := k
theorem join_any (v : Value) (l : List ByteArray) (base : Nat) (w : World) (hO : OS w base v l) (hn : l.length < 5864062014805) (hl : (Lib.join (l.map (·.data.toList)) [42]).length ≤ 140737488355328) :
  Calls Tryz.prog 57 #[v, .string ⟨#[42]⟩] w fun e w' => e = .returned (.string ⟨(Lib.join (l.map (·.data.toList)) [42]).toArray⟩) ∧ Below w.heap.size w w' := by
 obtain ⟨h1, h2⟩ := id hO
 rcases h2 with ⟨rfl, h0⟩ | ⟨g, cap, cur, rfl, hbg, hh, hc, hm, hs, ht⟩
 ·have hz : l = [] := List.eq_nil_of_length_eq_zero h0
  subst hz
  refine (Tryz.strings_Join_none none 0 ⟨#[42]⟩ w).mono ?_
  rintro e w' ⟨rfl, rfl⟩
  exact ⟨rfl, b0 _⟩
 ·refine (Tryz.strings_Join g 0 cap l ⟨#[42]⟩ w (fun j x hx => ?_) (hO.lt g rfl).2 (by omega) hc hl).mono ?_
  ·have hj : j < l.length := (List.getElem?_eq_some_iff.1 hx).1
   rw [Nat.zero_add, World.ownsRow.cellAt hO j (by simpa using hj), List.getElem?_map, hx]
   rfl
  ·rintro e w' ⟨rfl, hb⟩
   exact ⟨rfl, hb⟩
theorem f1_map (l : List Fa) : (l.map fun x => (⟨(f1 x).toArray⟩ : ByteArray)).map (·.data.toList) = l.map f1 := by
 rw [List.map_map]
 rfl
theorem format_any (a : Option Addr) (n cap : Nat) (l : List Fa) (w : World) (hS : Sl w a n cap l) (hx : ∀ x ∈ l, -9223372036854775808 ≤ x.2 ∧ x.2 ≤ 9223372036854775807) (hz : ∀ x ∈ l, x.1.size ≤ 1048576) (hlen : l.length < 5864062014805) (ht : (fT l).length ≤ 140737488355328) (T : Tabs w) :
  Calls Tryz.prog 163 #[.slice a n cap] w fun e w' => e = .returned (.string ⟨(fT l).toArray⟩) ∧ Below w.heap.size w w' := by
 have S0 := Lib.hid hS
 have X0 := Lib.hid hx
 have Z0 := Lib.hid hz
 have N0 := Lib.hid hlen
 have T0 := Lib.hid T
 have J0 := Lib.hid (fun v W h => join_any v (l.map fun x => (⟨(f1 x).toArray⟩ : ByteArray)) w.heap.size W h (by rw [List.length_map]; exact hlen) (by rw [f1_map]; exact ht))
 rw [f1_map] at J0
 clear hS hx hz hlen T ht
 go_enter Tryz.func163, Tryz.ntmps163
 go_wp2_with fail
 go_loopw [3, 8] (fun vu vi wr => ∃ j : Nat, vi = .int .i64 (j : Nat) ∧ Hid (j ≤ n) ∧ Hid (OS wr w.heap.size vu ((l.take j).map fun x => (⟨(f1 x).toArray⟩ : ByteArray))) ∧ Hid (Below w.heap.size w wr)) (fun _ vi _ => n - (intOf vi).toNat)
 case atStart => exact ⟨0, rfl, Lib.hid (Nat.zero_le _), Lib.hid (OS.nil _ _), Lib.hid (b0 w)⟩
 case round =>
  obtain ⟨j, rfl, hj, hO, hb⟩ := hrel
  by_cases hc : j < n
  ·have hln := Lib.hid (show j < l.length by have := S0.out.hn; omega)
   obtain ⟨bk, off, rfl, hC⟩ := (S0.out.keeps hb.out).hat.resolve_left (by have := hln.out; omega)
   obtain ⟨c0, c1⟩ := hC j hln.out
   have q2 : decide ((j : Int) < (n : Int)) = true := decide_eq_true (by omega)
   have q3 : j < n := hc
   have f4 := Lib.hid (next_at (j := j) (by have := S0.out.hcap; have := S0.out.hmax; omega))
   have hm := gt_mem hln.out
   have FC := Lib.hid (fun W (h : Below w.heap.size w W) => factor_any (gt l j) (Z0.out _ hm) (X0.out _ hm).1 (X0.out _ hm).2 W (T0.out.stays h))
   have hn := Lib.hid (take_gt hln.out)
   have hl8 := Lib.hid (show ((l.take j).map fun x => (⟨(f1 x).toArray⟩ : ByteArray)).length < 5864062014805 by have := N0.out; simp; omega)
   clear hC hm
   generalize gt l j = x at c0 c1 hn FC
   have BB := Lib.hid (balloc hb.out (.cells #[.string x.1, .int .i64 x.2] 82))
   have OO := Lib.hid (hO.out.keeps (balloc (b0 wr) (.cells #[.string x.1, .int .i64 x.2] 82)))
   generalize hs1 : (⟨(f1 x).toArray⟩ : ByteArray) = s1 at FC
   replace hs1 := Lib.hid hs1
   go_wp2_with fail
   refine (FC.out _ BB.out).mono ?_
   rintro e w3 ⟨rfl, b3⟩
   have B3 := Lib.hid (bnext BB.out b3)
   have O3 := Lib.hid (OO.out.keeps b3)
   clear b3 BB OO
   go_wp2_with (at_builtin; refine is_appS (.tmp 12) (.tmp 15) rfl ?_; refine wpList_pushS _ rfl (.tmp 12) (.tmp 15) rfl w.heap.size _ _ rfl (O3.out.keeps (balloc (b0 w3) _)) w3.heap.size s1 rfl (by simp [go_sem]) hl8.out (by have := B3.out.size; simp; omega) ?_; intro v2 w6 O6 b6)
   have B6 := Lib.hid ((balloc B3.out (.cells #[.string s1] 9)).trans b6)
   have O7 := Lib.hid (show OS w6 w.heap.size v2 ((l.take (j + 1)).map fun x => (⟨(f1 x).toArray⟩ : ByteArray)) by rw [hn.out, List.map_append, List.map_singleton, hs1.out]; exact O6)
   clear b6 O6
   go_wp2_with fail
   refine ⟨⟨j + 1, congrArg (Value.int .i64) f4.out, Lib.hid hc, O7, B6⟩, less_at hc f4.out⟩
  ·have q2 : decide ((j : Int) < (n : Int)) = false := decide_eq_false (by omega)
   have hO2 := Lib.hid hO.out
   rw [show l.take j = l from List.take_of_length_le (by have := S0.out.hn; omega)] at hO2
   clear hO
   go_wp2_with fail
   refine (J0.out _ _ hO2.out).mono ?_
   rintro e w7 ⟨rfl, b7⟩
   have B7 := Lib.hid (bnext hb.out b7)
   clear b7
   go_wp2_with fail
   go_ret
   exact ⟨rfl, B7.out⟩
end Go.Proofs.YtbahfelnbofjjaaGreatDoor.un
namespace Go.Proofs.YtbahfelnbofjjaaGreatDoor.ch
open Go.RowKit dec
def Sr (s : ByteArray) (w : World) (e : Ending) (w' : World) : Prop := e = .returned (.string s) ∧ Below w.heap.size w w'
theorem sr_of {a b : ByteArray} {w w' : World} (h : a = b) (hb : Below w.heap.size w w') : Sr b w (.returned (.string a)) w' := ⟨by rw [h], hb⟩
def B8 (l : List UInt8) : ByteArray := ⟨l.toArray⟩
theorem B8_data (l : List UInt8) : (B8 l).data.toList = l := rfl
theorem B8_size (l : List UInt8) : (B8 l).size = l.length := by rw [← str_len]; rfl
theorem add_b8 (x y : List UInt8) (hx : x.length ≤ 1000000000000000000) (hy : y.length ≤ 1000000000000000000) (W : World) : (Op.stringOp .add (B8 x) (B8 y)).run Tryz.prog W = .ok (.string (B8 (x ++ y))) W := by
 rw [run_string_add_sum W _ _ (by rw [B8_size, B8_size]; omega)]
 rfl
structure Ss (w : World) (a : Option Addr) (n cap : Nat) (l : List ByteArray) : Prop where
 hat : l.length = 0 ∨ ∃ b off, a = some ⟨b, off, none⟩ ∧ ∀ j (h : j < l.length), w.cell? ⟨b, off + j, none⟩ = some (.string l[j])
 hn : l.length = n
 hcap : n ≤ cap
 hmax : cap ≤ 9223372036854775807
theorem Ss.keeps {w w' : World} {a : Option Addr} {n cap : Nat} {l : List ByteArray} (h : Ss w a n cap l) (hb : Below w.heap.size w w') : Ss w' a n cap l :=
 { h with hat := h.hat.imp id fun ⟨b, off, e, hc⟩ => ⟨b, off, e, fun j hj => dec.keeps hb (hc j hj)⟩ }
theorem Ss.new (w : World) (l : List ByteArray) (n : Nat) (cs : Array Value) (hn : l.length = n) (hcs : cs = (l.map Value.string).toArray) (hm : n ≤ 1000000) (T : TypeId) : Ss (w.alloc (.cells cs T)) (some ⟨w.heap.size, 0, none⟩) n n l := by
 refine ⟨.inr ⟨w.heap.size, 0, rfl, fun j hj => ?_⟩, hn, Nat.le_refl _, by omega⟩
 have := (Blk.new w T cs).cell (0 + j)
 rw [this, hcs]
 simp [hj]
def nel (l : List ByteArray) : List ByteArray := l.filter fun s => decide (s ≠ .empty)
def wrd (l : List ByteArray) : List UInt8 := Lib.join ((nel l).map (·.data.toList)) [32]
theorem nel_append (a b : List ByteArray) : nel (a ++ b) = nel a ++ nel b := List.filter_append ..
theorem join_sep (sep : ByteArray) (v : Value) (l : List ByteArray) (base : Nat) (w : World) (hO : un.OS w base v l) (hn : l.length < 5864062014805) (hl : (Lib.join (l.map (·.data.toList)) sep.data.toList).length ≤ 140737488355328) :
  Calls Tryz.prog 57 #[v, .string sep] w (Sr (B8 (Lib.join (l.map (·.data.toList)) sep.data.toList)) w) := by
 obtain ⟨h1, h2⟩ := id hO
 rcases h2 with ⟨rfl, h0⟩ | ⟨g, cap, cur, rfl, hbg, hh, hc, hm, hs, ht⟩
 ·have hz : l = [] := List.eq_nil_of_length_eq_zero h0
  subst hz
  refine (Tryz.strings_Join_none none 0 sep w).mono ?_
  rintro e w' ⟨rfl, rfl⟩
  exact ⟨rfl, b0 _⟩
 ·refine (Tryz.strings_Join g 0 cap l sep w (fun j x hx => ?_) (hO.lt g rfl).2 (by omega) hc hl).mono ?_
  ·have hj : j < l.length := (List.getElem?_eq_some_iff.1 hx).1
   rw [Nat.zero_add, World.ownsRow.cellAt hO j (by simpa using hj), List.getElem?_map, hx]
   rfl
  ·rintro e w' ⟨rfl, hb⟩
   exact ⟨rfl, hb⟩
theorem nel_take_yes {l : List ByteArray} {j : Nat} (hj : j < l.length) (h : l[j] ≠ .empty) : nel (l.take (j + 1)) = nel (l.take j) ++ [l[j]] := by
 rw [List.take_succ_eq_append_getElem hj, nel_append]
 congr 1
 unfold nel
 simp [h]
theorem nel_take_no {l : List ByteArray} {j : Nat} (hj : j < l.length) (h : l[j] = .empty) : nel (l.take (j + 1)) = nel (l.take j) := by
 rw [List.take_succ_eq_append_getElem hj, nel_append]
 unfold nel
 simp [h]
theorem words_any (a : Option Addr) (n cap : Nat) (l : List ByteArray) (w : World) (hS : Ss w a n cap l) (hm : n ≤ 1000000) (hz : (wrd l).length ≤ 100000000) : Calls Tryz.prog 55 #[.slice a n cap] w (Sr (B8 (wrd l)) w) := by
 have S0 := Lib.hid hS
 have HM := Lib.hid hm
 have J0 := Lib.hid (fun v W h => join_sep ⟨#[32]⟩ v (nel l) w.heap.size W h (by have := List.length_filter_le (fun s : ByteArray => decide (s ≠ .empty)) l; have := hS.hn; unfold nel; omega) (show (wrd l).length ≤ _ by omega))
 have hJ := Lib.hid (show B8 (Lib.join ((nel l).map (·.data.toList)) (⟨#[32]⟩ : ByteArray).data.toList) = B8 (wrd l) from rfl)
 rw [hJ.out] at J0
 generalize B8 (wrd l) = r at *
 clear hS hm hz hJ
 go_enter Tryz.func55, Tryz.ntmps55
 go_wp2_with fail
 go_loopw [3, 8] (fun vu vi wr => ∃ j : Nat, vi = .int .i64 (j : Nat) ∧ Hid (j ≤ n) ∧ Hid (un.OS wr w.heap.size vu (nel (l.take j))) ∧ Hid (Below w.heap.size w wr)) (fun _ vi _ => n - (intOf vi).toNat)
 case atStart => exact ⟨0, rfl, Lib.hid (Nat.zero_le _), Lib.hid (un.OS.nil _ _), Lib.hid (b0 w)⟩
 case round =>
  obtain ⟨j, rfl, hj, hO, hb⟩ := hrel
  by_cases hc : j < n
  ·have hln := Lib.hid (show j < l.length by have := S0.out.hn; omega)
   obtain ⟨bk, off, rfl, hC⟩ := (S0.out.keeps hb.out).hat.resolve_left (by have := hln.out; omega)
   have c0 := hC j hln.out
   have q2 : decide ((j : Int) < (n : Int)) = true := decide_eq_true (by omega)
   have q3 : j < n := hc
   have f4 := Lib.hid (next_at (j := j) (by have := S0.out.hcap; have := S0.out.hmax; omega))
   have hl8 := Lib.hid (show (nel (l.take j)).length < 5864062014805 by have h1 := List.length_filter_le (fun s : ByteArray => decide (s ≠ .empty)) (l.take j); have h2 := HM.out; rw [List.length_take] at h1; unfold nel; omega)
   clear hC
   by_cases he : l[j]'hln.out = .empty
   ·have hn := Lib.hid (nel_take_no hln.out he)
    have q5 := eqE (l[j]'hln.out)
    rw [decide_eq_true he] at q5
    replace he := Lib.hid he
    replace hO := Lib.hid (show un.OS wr w.heap.size u3 (nel (l.take (j + 1))) by rw [hn.out]; exact hO.out)
    clear hn hl8
    generalize l[j]'hln.out = x at *
    go_wp2_with fail
    refine ⟨⟨j + 1, congrArg (Value.int .i64) f4.out, Lib.hid hc, hO, hb⟩, less_at hc f4.out⟩
   ·have hn := Lib.hid (nel_take_yes hln.out he)
    have q5 := eqE (l[j]'hln.out)
    rw [decide_eq_false he] at q5
    replace he := Lib.hid he
    generalize l[j]'hln.out = x at *
    go_wp2_with (at_builtin; refine un.is_appS (.tmp 14) (.tmp 16) rfl ?_; refine un.wpList_pushS _ rfl (.tmp 14) (.tmp 16) rfl w.heap.size _ _ rfl (hO.out.keeps (balloc (b0 wr) _)) wr.heap.size x rfl (by simp [go_sem]) hl8.out (by have := hb.out.size; simp; omega) ?_; intro v2 w6 O6 b6)
    have B6 := Lib.hid ((balloc hb.out (.cells #[.string x] 9)).trans b6)
    have O7 := Lib.hid (show un.OS w6 w.heap.size v2 (nel (l.take (j + 1))) by rw [hn.out]; exact O6)
    clear b6 O6
    go_wp2_with fail
    refine ⟨⟨j + 1, congrArg (Value.int .i64) f4.out, Lib.hid hc, O7, B6⟩, less_at hc f4.out⟩
  ·have q2 : decide ((j : Int) < (n : Int)) = false := decide_eq_false (by omega)
   have hO2 := Lib.hid hO.out
   rw [show l.take j = l from List.take_of_length_le (by have := S0.out.hn; omega)] at hO2
   clear hO
   go_wp2_with fail
   refine (J0.out _ _ hO2.out).mono ?_
   rintro e w7 ⟨rfl, b7⟩
   have B7 := Lib.hid (bnext hb.out b7)
   clear b7
   go_wp2_with fail
   go_ret
   exact sr_of rfl B7.out
end Go.Proofs.YtbahfelnbofjjaaGreatDoor.ch
