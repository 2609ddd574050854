/-
  read, at its four types: what it returns where its method returns, and where it reports an error. (Written by g_read.py.)
-/
import Derived.Test.YtegniedbiegcpaaFrm
import Derived.Recover
namespace Go.Proofs.Ytegniedbiegcpaa
open Go.RowKit

theorem iface_ne (v : Value) (w : World) : (binOp .neq 20 (.iface 35 v) .nilIface).run Try.prog w = .ok (.bool true) w := by kernel_rfl
theorem assert_errno (v : Value) (w : World) : (Instr.typeAssert (.iface 35 v) 20 35 false).run Try.prog w = .ok v w := by kernel_rfl
theorem iface_no (w : World) : (binOp .neq 20 .nilIface .nilIface).run Try.prog w = .ok (.bool false) w := by kernel_rfl

theorem Li.lo {w : World} {a : Option Addr} {n cap : Nat} {l : List Nat} (h : Li w a n cap l) {B : Nat} (hB : w.heap.size ≤ B) : n = 0 ∨ ∃ b off, a = some ⟨b, off, none⟩ ∧ b < B := by
  by_cases h0 : n = 0
  · exact .inl h0
  · have hn := h.hn
    rcases h.hat.1 with h1 | ⟨b, off, e, hb⟩
    · omega
    · exact .inr ⟨b, off, e, Nat.lt_of_lt_of_le (block_lt_of_cell (hb 0 (by omega))) hB⟩
/-- What a method does that reads. -/
def Mok (X : Value → World → Prop) (B : Nat) (a : Option Addr) (n cap : Nat) (l : List Nat) (q : Nat) (w : World) (e : Ending) (w' : World) : Prop :=
  ∃ v, e = .returned v ∧ X v w' ∧ Rdr w' B a n cap l q ∧ Below B w w'
/-- What read then returns. -/
def Rok (X : Value → World → Prop) (q : Nat) (w : World) (e : Ending) (w' : World) : Prop :=
  ∃ v, e = .returned (.tuple #[v, .int .i64 (q : Int), .int .i64 0]) ∧ X v w' ∧ Below w.heap.size w w'
theorem rdr_new (w : World) (a : Option Addr) (n cap : Nat) (l : List Nat) (p : Nat) (hA : Li w a n cap l) (hp : p ≤ n) :
    Rdr ((w.alloc (.cells #[.int .i64 0] 35)).alloc (.cells #[.slice a n cap, .int .i64 (p : Int)] 74)) (w.heap.size + 1) a n cap l p :=
  ⟨by simp [go_sem], by simp [go_sem], by simp [go_sem], hA.lo (Nat.le_succ _), hA.keeps (balloc (balloc (b0 w) _) _), hp⟩

theorem catch_u (p : Addr) (x c : Int) (w : World) (hc : w.cell? p = some (.int .i64 x)) (hz : w.frozen? p = false) :
    CallsD Try.prog 51 #[.pointer (some p)] (.panicking [{ v := .iface 35 (.int .i64 c), recovered := false }]) w fun e u' w' =>
      e = .returned (.tuple #[]) ∧ u' = .panicking [{ v := .iface 35 (.int .i64 c), recovered := true }] ∧ w' = w.setCell p (.int .i64 c) := by
  refine callsD_of_wpS Try.func51 rfl fun c₀ cs hu => ?_
  apply wpS_seq
  apply wpS_region
  simp [wpOpsS, go_sem, recoverD, hu, Try.ntmps51, Exit.thenS]
  apply wpS_seq
  apply wpS_region
  simp [wpOpsS, go_sem, Exit.thenS, iface_ne]
  refine wpS_cond (t := true) (by simp [Act.eval]) ?_
  simp only [if_true]
  apply wpS_region
  simp [wpOpsS, go_sem, assert_errno, hc, hz, bodyPostS, results, Try.results51]
theorem idle_u (p : Addr) (w : World) :
    CallsD Try.prog 51 #[.pointer (some p)] .returning w fun e u' w' => e = .returned (.tuple #[]) ∧ u' = .returning ∧ w' = w := by
  refine callsD_of_wpS Try.func51 rfl fun c₀ cs hu => ?_
  apply wpS_seq
  apply wpS_region
  simp [wpOpsS, go_sem, recoverD, hu, Try.ntmps51, Exit.thenS]
  apply wpS_seq
  apply wpS_region
  simp [wpOpsS, go_sem, Exit.thenS, iface_no]
  refine wpS_cond (t := false) (by simp [Act.eval]) ?_
  simp only [Bool.false_eq_true, if_false]
  refine wpS_of_wp (wp_skip ?_)
  cases c₀
  simp_all [bodyPostS, results, Try.results51]

set_option maxRecDepth 100000 in
set_option maxHeartbeats 1000000 in
theorem readOk_u (X : Value → World → Prop) (M : FuncId) (a : Option Addr) (n cap : Nat) (l : List Nat) (p q : Nat) (w : World) (hA : Li w a n cap l) (hp : p ≤ n)
    (hm : ∀ w2, Rdr w2 (w.heap.size + 1) a n cap l p → Below w.heap.size w w2 → w2.heap.size = w.heap.size + 2 → Calls Try.prog M #[.pointer (some ⟨w.heap.size + 1, 0, none⟩)] w2 (Mok X (w.heap.size + 1) a n cap l q w2))
    (hX : ∀ v w3 w4, X v w3 → Apart w.heap.size w3 w4 → X v w4) (hM : ∀ (args : Array Value) (w : World), (callFunc M args).run Try.prog w = .ok (.enter M args) w) :
    Calls Try.prog 38 #[.slice a n cap, .int .i64 (p : Int), .func (.func M) #[] #[]] w (Rok X q w) := by
  have hmf : ∀ (fn : Fn) (first cap : Array Value) (w : World), (Instr.makeFunc fn first cap).run Try.prog w = .ok (.func fn first cap) w := fun _ _ _ _ => rfl
  have R2 := rdr_new w a n cap l p hA hp
  have k2 := balloc (balloc (b0 w) (.cells #[.int .i64 0] 35)) (.cells #[.slice a n cap, .int .i64 (p : Int)] 74)
  have hc := hm _ R2 k2 (by simp [go_sem])
  have t1 : decide ((p : Int) < 0) = false := decide_eq_false (by omega)
  have t2 : decide (n < p) = false := decide_eq_false (by omega)
  have t3 : decide ((n : Int) < p) = false := decide_eq_false (by omega)
  clear hm hp hA R2
  go_enter_defers Try.func38, Try.ntmps38
  go_wp2_with fail
  refine hc.mono ?_
  rintro e w3 ⟨v, rfl, x3, R3, b3⟩
  have cE : w3.cell? ⟨w.heap.size, 0, none⟩ = some (.int .i64 0) := by rw [b3.cell (p := ⟨w.heap.size, 0, none⟩) (Nat.lt_succ_self _)]; simp [go_sem]
  have zE : w3.frozen? ⟨w.heap.size, 0, none⟩ = false := by rw [b3.frozen (p := ⟨w.heap.size, 0, none⟩) (Nat.lt_succ_self _)]; simp [go_sem]
  have b4 := k2.trans (b3.mono (Nat.le_succ _))
  have c1 := R3.c1
  have z1 := R3.z1
  clear hc k2 b3 R3 hM
  go_wp2_with fail
  go_region
  all_goals (try go_wp2_with fail)
  refine leaves_cons (f := 51) (args := #[.pointer (some ⟨w.heap.size, 0, none⟩)]) (by simp) (by simp [go_sem]) ?_
  refine (idle_u ⟨w.heap.size, 0, none⟩ _).mono ?_
  rintro e u' w'' ⟨rfl, rfl, rfl⟩
  have hap : Apart w.heap.size w3 (w3.setCell ⟨w.heap.size, 0, none⟩ (.int .i64 0)).drew := fun k hk => Below.heap_setCell w3 ⟨w.heap.size, 0, none⟩ _ k hk
  have fin : Rok X q w (.returned (.tuple #[v, .int .i64 (q : Int), .int .i64 0])) (w3.setCell ⟨w.heap.size, 0, none⟩ (.int .i64 0)).drew :=
    ⟨v, rfl, hX v _ _ x3 hap, (b4.setCell (p := ⟨w.heap.size, 0, none⟩) (Nat.le_refl _) _).drew⟩
  clear hX hap x3
  simp [Leaves, settle, results, Try.results38, go_sem, cE]
  exact fin

set_option maxRecDepth 100000 in
set_option maxHeartbeats 1000000 in
theorem readErr_u (c : Nat) (M : FuncId) (a : Option Addr) (n cap : Nat) (l : List Nat) (p : Nat) (w : World) (hA : Li w a n cap l) (hp : p ≤ n)
    (hm : ∀ w2, Rdr w2 (w.heap.size + 1) a n cap l p → Below w.heap.size w w2 → w2.heap.size = w.heap.size + 2 → Calls Try.prog M #[.pointer (some ⟨w.heap.size + 1, 0, none⟩)] w2 (fun e w' => e = thrown c ∧ Below (w.heap.size + 1) w2 w'))
    (hM : ∀ (args : Array Value) (w : World), (callFunc M args).run Try.prog w = .ok (.enter M args) w) :
    Calls Try.prog 38 #[.slice a n cap, .int .i64 (p : Int), .func (.func M) #[] #[]] w fun e w' => e = .returned (.tuple #[(.int .u64 0), .int .i64 0, .int .i64 (c : Int)]) ∧ Below w.heap.size w w' := by
  have hmf : ∀ (fn : Fn) (first cap : Array Value) (w : World), (Instr.makeFunc fn first cap).run Try.prog w = .ok (.func fn first cap) w := fun _ _ _ _ => rfl
  have R2 := rdr_new w a n cap l p hA hp
  have k2 := balloc (balloc (b0 w) (.cells #[.int .i64 0] 35)) (.cells #[.slice a n cap, .int .i64 (p : Int)] 74)
  have hc := hm _ R2 k2 (by simp [go_sem])
  have t1 : decide ((p : Int) < 0) = false := decide_eq_false (by omega)
  have t2 : decide (n < p) = false := decide_eq_false (by omega)
  have t3 : decide ((n : Int) < p) = false := decide_eq_false (by omega)
  clear hm hp hA R2
  go_enter_defers Try.func38, Try.ntmps38
  go_wp2_with fail
  refine hc.mono ?_
  rintro e w3 ⟨rfl, b3⟩
  have cE : w3.cell? ⟨w.heap.size, 0, none⟩ = some (.int .i64 0) := by rw [b3.cell (p := ⟨w.heap.size, 0, none⟩) (Nat.lt_succ_self _)]; simp [go_sem]
  have zE : w3.frozen? ⟨w.heap.size, 0, none⟩ = false := by rw [b3.frozen (p := ⟨w.heap.size, 0, none⟩) (Nat.lt_succ_self _)]; simp [go_sem]
  have b4 := (k2.trans (b3.mono (Nat.le_succ _))).setCell (p := ⟨w.heap.size, 0, none⟩) (Nat.le_refl _) (.int .i64 (c : Int))
  clear hc k2 b3 hM
  refine leaves_cons (f := 51) (args := #[.pointer (some ⟨w.heap.size, 0, none⟩)]) (by simp) (by simp [go_sem]) ?_
  refine (catch_u ⟨w.heap.size, 0, none⟩ 0 c _ cE zE).mono ?_
  rintro e u' w'' ⟨rfl, rfl, rfl⟩
  simp [Leaves, settle, results, Try.results38, go_sem, cE]
  exact b4

set_option maxRecDepth 100000 in
set_option maxHeartbeats 1000000 in
theorem readArg_u (M : FuncId) (a : Option Addr) (n cap : Nat) (z : Int) (w : World) (hz : z < 0 ∨ (n : Int) < z) :
    Calls Try.prog 38 #[.slice a n cap, .int .i64 z, .func (.func M) #[] #[]] w fun e w' => e = .returned (.tuple #[(.int .u64 0), .int .i64 0, .int .i64 1]) ∧ Below w.heap.size w w' := by
  have hmf : ∀ (fn : Fn) (first cap : Array Value) (w : World), (Instr.makeFunc fn first cap).run Try.prog w = .ok (.func fn first cap) w := fun _ _ _ _ => rfl
  have cE : (w.alloc (.cells #[.int .i64 0] 35)).cell? ⟨w.heap.size, 0, none⟩ = some (.int .i64 0) := by simp [go_sem]
  have zE : (w.alloc (.cells #[.int .i64 0] 35)).frozen? ⟨w.heap.size, 0, none⟩ = false := by simp [go_sem]
  have CE := Lib.hid cE
  have ZE := Lib.hid zE
  clear cE zE
  by_cases h0 : z < 0
  · have t1 : decide (z < 0) = true := decide_eq_true h0
    clear hz h0
    go_enter_defers Try.func38, Try.ntmps38
    go_wp2_with fail
    refine leaves_cons (f := 51) (args := #[.pointer (some ⟨w.heap.size, 0, none⟩)]) (by simp) (by simp [go_sem]) ?_
    refine (catch_u ⟨w.heap.size, 0, none⟩ 0 1 _ CE.out ZE.out).mono ?_
    rintro e u' w'' ⟨rfl, rfl, rfl⟩
    simp [Leaves, settle, results, Try.results38, go_sem]
    exact balloc (b0 w) _
  · have t1 : decide (z < 0) = false := decide_eq_false h0
    have t2 : decide ((n : Int) < z) = true := decide_eq_true (by omega)
    clear hz h0
    go_enter_defers Try.func38, Try.ntmps38
    go_wp2_with fail
    refine leaves_cons (f := 51) (args := #[.pointer (some ⟨w.heap.size, 0, none⟩)]) (by simp) (by simp [go_sem]) ?_
    refine (catch_u ⟨w.heap.size, 0, none⟩ 0 1 _ CE.out ZE.out).mono ?_
    rintro e u' w'' ⟨rfl, rfl, rfl⟩
    simp [Leaves, settle, results, Try.results38, go_sem]
    exact balloc (b0 w) _

theorem catch_i (p : Addr) (x c : Int) (w : World) (hc : w.cell? p = some (.int .i64 x)) (hz : w.frozen? p = false) :
    CallsD Try.prog 52 #[.pointer (some p)] (.panicking [{ v := .iface 35 (.int .i64 c), recovered := false }]) w fun e u' w' =>
      e = .returned (.tuple #[]) ∧ u' = .panicking [{ v := .iface 35 (.int .i64 c), recovered := true }] ∧ w' = w.setCell p (.int .i64 c) := by
  refine callsD_of_wpS Try.func52 rfl fun c₀ cs hu => ?_
  apply wpS_seq
  apply wpS_region
  simp [wpOpsS, go_sem, recoverD, hu, Try.ntmps52, Exit.thenS]
  apply wpS_seq
  apply wpS_region
  simp [wpOpsS, go_sem, Exit.thenS, iface_ne]
  refine wpS_cond (t := true) (by simp [Act.eval]) ?_
  simp only [if_true]
  apply wpS_region
  simp [wpOpsS, go_sem, assert_errno, hc, hz, bodyPostS, results, Try.results52]
theorem idle_i (p : Addr) (w : World) :
    CallsD Try.prog 52 #[.pointer (some p)] .returning w fun e u' w' => e = .returned (.tuple #[]) ∧ u' = .returning ∧ w' = w := by
  refine callsD_of_wpS Try.func52 rfl fun c₀ cs hu => ?_
  apply wpS_seq
  apply wpS_region
  simp [wpOpsS, go_sem, recoverD, hu, Try.ntmps52, Exit.thenS]
  apply wpS_seq
  apply wpS_region
  simp [wpOpsS, go_sem, Exit.thenS, iface_no]
  refine wpS_cond (t := false) (by simp [Act.eval]) ?_
  simp only [Bool.false_eq_true, if_false]
  refine wpS_of_wp (wp_skip ?_)
  cases c₀
  simp_all [bodyPostS, results, Try.results52]

set_option maxRecDepth 100000 in
set_option maxHeartbeats 1000000 in
theorem readOk_i (X : Value → World → Prop) (M : FuncId) (a : Option Addr) (n cap : Nat) (l : List Nat) (p q : Nat) (w : World) (hA : Li w a n cap l) (hp : p ≤ n)
    (hm : ∀ w2, Rdr w2 (w.heap.size + 1) a n cap l p → Below w.heap.size w w2 → w2.heap.size = w.heap.size + 2 → Calls Try.prog M #[.pointer (some ⟨w.heap.size + 1, 0, none⟩)] w2 (Mok X (w.heap.size + 1) a n cap l q w2))
    (hX : ∀ v w3 w4, X v w3 → Apart w.heap.size w3 w4 → X v w4) (hM : ∀ (args : Array Value) (w : World), (callFunc M args).run Try.prog w = .ok (.enter M args) w) :
    Calls Try.prog 41 #[.slice a n cap, .int .i64 (p : Int), .func (.func M) #[] #[]] w (Rok X q w) := by
  have hmf : ∀ (fn : Fn) (first cap : Array Value) (w : World), (Instr.makeFunc fn first cap).run Try.prog w = .ok (.func fn first cap) w := fun _ _ _ _ => rfl
  have R2 := rdr_new w a n cap l p hA hp
  have k2 := balloc (balloc (b0 w) (.cells #[.int .i64 0] 35)) (.cells #[.slice a n cap, .int .i64 (p : Int)] 74)
  have hc := hm _ R2 k2 (by simp [go_sem])
  have t1 : decide ((p : Int) < 0) = false := decide_eq_false (by omega)
  have t2 : decide (n < p) = false := decide_eq_false (by omega)
  have t3 : decide ((n : Int) < p) = false := decide_eq_false (by omega)
  clear hm hp hA R2
  go_enter_defers Try.func41, Try.ntmps41
  go_wp2_with fail
  refine hc.mono ?_
  rintro e w3 ⟨v, rfl, x3, R3, b3⟩
  have cE : w3.cell? ⟨w.heap.size, 0, none⟩ = some (.int .i64 0) := by rw [b3.cell (p := ⟨w.heap.size, 0, none⟩) (Nat.lt_succ_self _)]; simp [go_sem]
  have zE : w3.frozen? ⟨w.heap.size, 0, none⟩ = false := by rw [b3.frozen (p := ⟨w.heap.size, 0, none⟩) (Nat.lt_succ_self _)]; simp [go_sem]
  have b4 := k2.trans (b3.mono (Nat.le_succ _))
  have c1 := R3.c1
  have z1 := R3.z1
  clear hc k2 b3 R3 hM
  go_wp2_with fail
  go_region
  all_goals (try go_wp2_with fail)
  refine leaves_cons (f := 52) (args := #[.pointer (some ⟨w.heap.size, 0, none⟩)]) (by simp) (by simp [go_sem]) ?_
  refine (idle_i ⟨w.heap.size, 0, none⟩ _).mono ?_
  rintro e u' w'' ⟨rfl, rfl, rfl⟩
  have hap : Apart w.heap.size w3 (w3.setCell ⟨w.heap.size, 0, none⟩ (.int .i64 0)).drew := fun k hk => Below.heap_setCell w3 ⟨w.heap.size, 0, none⟩ _ k hk
  have fin : Rok X q w (.returned (.tuple #[v, .int .i64 (q : Int), .int .i64 0])) (w3.setCell ⟨w.heap.size, 0, none⟩ (.int .i64 0)).drew :=
    ⟨v, rfl, hX v _ _ x3 hap, (b4.setCell (p := ⟨w.heap.size, 0, none⟩) (Nat.le_refl _) _).drew⟩
  clear hX hap x3
  simp [Leaves, settle, results, Try.results41, go_sem, cE]
  exact fin

set_option maxRecDepth 100000 in
set_option maxHeartbeats 1000000 in
theorem readErr_i (c : Nat) (M : FuncId) (a : Option Addr) (n cap : Nat) (l : List Nat) (p : Nat) (w : World) (hA : Li w a n cap l) (hp : p ≤ n)
    (hm : ∀ w2, Rdr w2 (w.heap.size + 1) a n cap l p → Below w.heap.size w w2 → w2.heap.size = w.heap.size + 2 → Calls Try.prog M #[.pointer (some ⟨w.heap.size + 1, 0, none⟩)] w2 (fun e w' => e = thrown c ∧ Below (w.heap.size + 1) w2 w'))
    (hM : ∀ (args : Array Value) (w : World), (callFunc M args).run Try.prog w = .ok (.enter M args) w) :
    Calls Try.prog 41 #[.slice a n cap, .int .i64 (p : Int), .func (.func M) #[] #[]] w fun e w' => e = .returned (.tuple #[(.int .i64 0), .int .i64 0, .int .i64 (c : Int)]) ∧ Below w.heap.size w w' := by
  have hmf : ∀ (fn : Fn) (first cap : Array Value) (w : World), (Instr.makeFunc fn first cap).run Try.prog w = .ok (.func fn first cap) w := fun _ _ _ _ => rfl
  have R2 := rdr_new w a n cap l p hA hp
  have k2 := balloc (balloc (b0 w) (.cells #[.int .i64 0] 35)) (.cells #[.slice a n cap, .int .i64 (p : Int)] 74)
  have hc := hm _ R2 k2 (by simp [go_sem])
  have t1 : decide ((p : Int) < 0) = false := decide_eq_false (by omega)
  have t2 : decide (n < p) = false := decide_eq_false (by omega)
  have t3 : decide ((n : Int) < p) = false := decide_eq_false (by omega)
  clear hm hp hA R2
  go_enter_defers Try.func41, Try.ntmps41
  go_wp2_with fail
  refine hc.mono ?_
  rintro e w3 ⟨rfl, b3⟩
  have cE : w3.cell? ⟨w.heap.size, 0, none⟩ = some (.int .i64 0) := by rw [b3.cell (p := ⟨w.heap.size, 0, none⟩) (Nat.lt_succ_self _)]; simp [go_sem]
  have zE : w3.frozen? ⟨w.heap.size, 0, none⟩ = false := by rw [b3.frozen (p := ⟨w.heap.size, 0, none⟩) (Nat.lt_succ_self _)]; simp [go_sem]
  have b4 := (k2.trans (b3.mono (Nat.le_succ _))).setCell (p := ⟨w.heap.size, 0, none⟩) (Nat.le_refl _) (.int .i64 (c : Int))
  clear hc k2 b3 hM
  refine leaves_cons (f := 52) (args := #[.pointer (some ⟨w.heap.size, 0, none⟩)]) (by simp) (by simp [go_sem]) ?_
  refine (catch_i ⟨w.heap.size, 0, none⟩ 0 c _ cE zE).mono ?_
  rintro e u' w'' ⟨rfl, rfl, rfl⟩
  simp [Leaves, settle, results, Try.results41, go_sem, cE]
  exact b4

set_option maxRecDepth 100000 in
set_option maxHeartbeats 1000000 in
theorem readArg_i (M : FuncId) (a : Option Addr) (n cap : Nat) (z : Int) (w : World) (hz : z < 0 ∨ (n : Int) < z) :
    Calls Try.prog 41 #[.slice a n cap, .int .i64 z, .func (.func M) #[] #[]] w fun e w' => e = .returned (.tuple #[(.int .i64 0), .int .i64 0, .int .i64 1]) ∧ Below w.heap.size w w' := by
  have hmf : ∀ (fn : Fn) (first cap : Array Value) (w : World), (Instr.makeFunc fn first cap).run Try.prog w = .ok (.func fn first cap) w := fun _ _ _ _ => rfl
  have cE : (w.alloc (.cells #[.int .i64 0] 35)).cell? ⟨w.heap.size, 0, none⟩ = some (.int .i64 0) := by simp [go_sem]
  have zE : (w.alloc (.cells #[.int .i64 0] 35)).frozen? ⟨w.heap.size, 0, none⟩ = false := by simp [go_sem]
  have CE := Lib.hid cE
  have ZE := Lib.hid zE
  clear cE zE
  by_cases h0 : z < 0
  · have t1 : decide (z < 0) = true := decide_eq_true h0
    clear hz h0
    go_enter_defers Try.func41, Try.ntmps41
    go_wp2_with fail
    refine leaves_cons (f := 52) (args := #[.pointer (some ⟨w.heap.size, 0, none⟩)]) (by simp) (by simp [go_sem]) ?_
    refine (catch_i ⟨w.heap.size, 0, none⟩ 0 1 _ CE.out ZE.out).mono ?_
    rintro e u' w'' ⟨rfl, rfl, rfl⟩
    simp [Leaves, settle, results, Try.results41, go_sem]
    exact balloc (b0 w) _
  · have t1 : decide (z < 0) = false := decide_eq_false h0
    have t2 : decide ((n : Int) < z) = true := decide_eq_true (by omega)
    clear hz h0
    go_enter_defers Try.func41, Try.ntmps41
    go_wp2_with fail
    refine leaves_cons (f := 52) (args := #[.pointer (some ⟨w.heap.size, 0, none⟩)]) (by simp) (by simp [go_sem]) ?_
    refine (catch_i ⟨w.heap.size, 0, none⟩ 0 1 _ CE.out ZE.out).mono ?_
    rintro e u' w'' ⟨rfl, rfl, rfl⟩
    simp [Leaves, settle, results, Try.results41, go_sem]
    exact balloc (b0 w) _

theorem catch_t (p : Addr) (x c : Int) (w : World) (hc : w.cell? p = some (.int .i64 x)) (hz : w.frozen? p = false) :
    CallsD Try.prog 53 #[.pointer (some p)] (.panicking [{ v := .iface 35 (.int .i64 c), recovered := false }]) w fun e u' w' =>
      e = .returned (.tuple #[]) ∧ u' = .panicking [{ v := .iface 35 (.int .i64 c), recovered := true }] ∧ w' = w.setCell p (.int .i64 c) := by
  refine callsD_of_wpS Try.func53 rfl fun c₀ cs hu => ?_
  apply wpS_seq
  apply wpS_region
  simp [wpOpsS, go_sem, recoverD, hu, Try.ntmps53, Exit.thenS]
  apply wpS_seq
  apply wpS_region
  simp [wpOpsS, go_sem, Exit.thenS, iface_ne]
  refine wpS_cond (t := true) (by simp [Act.eval]) ?_
  simp only [if_true]
  apply wpS_region
  simp [wpOpsS, go_sem, assert_errno, hc, hz, bodyPostS, results, Try.results53]
theorem idle_t (p : Addr) (w : World) :
    CallsD Try.prog 53 #[.pointer (some p)] .returning w fun e u' w' => e = .returned (.tuple #[]) ∧ u' = .returning ∧ w' = w := by
  refine callsD_of_wpS Try.func53 rfl fun c₀ cs hu => ?_
  apply wpS_seq
  apply wpS_region
  simp [wpOpsS, go_sem, recoverD, hu, Try.ntmps53, Exit.thenS]
  apply wpS_seq
  apply wpS_region
  simp [wpOpsS, go_sem, Exit.thenS, iface_no]
  refine wpS_cond (t := false) (by simp [Act.eval]) ?_
  simp only [Bool.false_eq_true, if_false]
  refine wpS_of_wp (wp_skip ?_)
  cases c₀
  simp_all [bodyPostS, results, Try.results53]

set_option maxRecDepth 100000 in
set_option maxHeartbeats 1000000 in
theorem readOk_t (X : Value → World → Prop) (M : FuncId) (a : Option Addr) (n cap : Nat) (l : List Nat) (p q : Nat) (w : World) (hA : Li w a n cap l) (hp : p ≤ n)
    (hm : ∀ w2, Rdr w2 (w.heap.size + 1) a n cap l p → Below w.heap.size w w2 → w2.heap.size = w.heap.size + 2 → Calls Try.prog M #[.pointer (some ⟨w.heap.size + 1, 0, none⟩)] w2 (Mok X (w.heap.size + 1) a n cap l q w2))
    (hX : ∀ v w3 w4, X v w3 → Apart w.heap.size w3 w4 → X v w4) (hM : ∀ (args : Array Value) (w : World), (callFunc M args).run Try.prog w = .ok (.enter M args) w) :
    Calls Try.prog 44 #[.slice a n cap, .int .i64 (p : Int), .func (.func M) #[] #[]] w (Rok X q w) := by
  have hmf : ∀ (fn : Fn) (first cap : Array Value) (w : World), (Instr.makeFunc fn first cap).run Try.prog w = .ok (.func fn first cap) w := fun _ _ _ _ => rfl
  have R2 := rdr_new w a n cap l p hA hp
  have k2 := balloc (balloc (b0 w) (.cells #[.int .i64 0] 35)) (.cells #[.slice a n cap, .int .i64 (p : Int)] 74)
  have hc := hm _ R2 k2 (by simp [go_sem])
  have t1 : decide ((p : Int) < 0) = false := decide_eq_false (by omega)
  have t2 : decide (n < p) = false := decide_eq_false (by omega)
  have t3 : decide ((n : Int) < p) = false := decide_eq_false (by omega)
  clear hm hp hA R2
  go_enter_defers Try.func44, Try.ntmps44
  go_wp2_with fail
  refine hc.mono ?_
  rintro e w3 ⟨v, rfl, x3, R3, b3⟩
  have cE : w3.cell? ⟨w.heap.size, 0, none⟩ = some (.int .i64 0) := by rw [b3.cell (p := ⟨w.heap.size, 0, none⟩) (Nat.lt_succ_self _)]; simp [go_sem]
  have zE : w3.frozen? ⟨w.heap.size, 0, none⟩ = false := by rw [b3.frozen (p := ⟨w.heap.size, 0, none⟩) (Nat.lt_succ_self _)]; simp [go_sem]
  have b4 := k2.trans (b3.mono (Nat.le_succ _))
  have c1 := R3.c1
  have z1 := R3.z1
  clear hc k2 b3 R3 hM
  go_wp2_with fail
  go_region
  all_goals (try go_wp2_with fail)
  refine leaves_cons (f := 53) (args := #[.pointer (some ⟨w.heap.size, 0, none⟩)]) (by simp) (by simp [go_sem]) ?_
  refine (idle_t ⟨w.heap.size, 0, none⟩ _).mono ?_
  rintro e u' w'' ⟨rfl, rfl, rfl⟩
  have hap : Apart w.heap.size w3 (w3.setCell ⟨w.heap.size, 0, none⟩ (.int .i64 0)).drew := fun k hk => Below.heap_setCell w3 ⟨w.heap.size, 0, none⟩ _ k hk
  have fin : Rok X q w (.returned (.tuple #[v, .int .i64 (q : Int), .int .i64 0])) (w3.setCell ⟨w.heap.size, 0, none⟩ (.int .i64 0)).drew :=
    ⟨v, rfl, hX v _ _ x3 hap, (b4.setCell (p := ⟨w.heap.size, 0, none⟩) (Nat.le_refl _) _).drew⟩
  clear hX hap x3
  simp [Leaves, settle, results, Try.results44, go_sem, cE]
  exact fin

set_option maxRecDepth 100000 in
set_option maxHeartbeats 1000000 in
theorem readErr_t (c : Nat) (M : FuncId) (a : Option Addr) (n cap : Nat) (l : List Nat) (p : Nat) (w : World) (hA : Li w a n cap l) (hp : p ≤ n)
    (hm : ∀ w2, Rdr w2 (w.heap.size + 1) a n cap l p → Below w.heap.size w w2 → w2.heap.size = w.heap.size + 2 → Calls Try.prog M #[.pointer (some ⟨w.heap.size + 1, 0, none⟩)] w2 (fun e w' => e = thrown c ∧ Below (w.heap.size + 1) w2 w'))
    (hM : ∀ (args : Array Value) (w : World), (callFunc M args).run Try.prog w = .ok (.enter M args) w) :
    Calls Try.prog 44 #[.slice a n cap, .int .i64 (p : Int), .func (.func M) #[] #[]] w fun e w' => e = .returned (.tuple #[(.string { data := #[] }), .int .i64 0, .int .i64 (c : Int)]) ∧ Below w.heap.size w w' := by
  have hmf : ∀ (fn : Fn) (first cap : Array Value) (w : World), (Instr.makeFunc fn first cap).run Try.prog w = .ok (.func fn first cap) w := fun _ _ _ _ => rfl
  have R2 := rdr_new w a n cap l p hA hp
  have k2 := balloc (balloc (b0 w) (.cells #[.int .i64 0] 35)) (.cells #[.slice a n cap, .int .i64 (p : Int)] 74)
  have hc := hm _ R2 k2 (by simp [go_sem])
  have t1 : decide ((p : Int) < 0) = false := decide_eq_false (by omega)
  have t2 : decide (n < p) = false := decide_eq_false (by omega)
  have t3 : decide ((n : Int) < p) = false := decide_eq_false (by omega)
  clear hm hp hA R2
  go_enter_defers Try.func44, Try.ntmps44
  go_wp2_with fail
  refine hc.mono ?_
  rintro e w3 ⟨rfl, b3⟩
  have cE : w3.cell? ⟨w.heap.size, 0, none⟩ = some (.int .i64 0) := by rw [b3.cell (p := ⟨w.heap.size, 0, none⟩) (Nat.lt_succ_self _)]; simp [go_sem]
  have zE : w3.frozen? ⟨w.heap.size, 0, none⟩ = false := by rw [b3.frozen (p := ⟨w.heap.size, 0, none⟩) (Nat.lt_succ_self _)]; simp [go_sem]
  have b4 := (k2.trans (b3.mono (Nat.le_succ _))).setCell (p := ⟨w.heap.size, 0, none⟩) (Nat.le_refl _) (.int .i64 (c : Int))
  clear hc k2 b3 hM
  refine leaves_cons (f := 53) (args := #[.pointer (some ⟨w.heap.size, 0, none⟩)]) (by simp) (by simp [go_sem]) ?_
  refine (catch_t ⟨w.heap.size, 0, none⟩ 0 c _ cE zE).mono ?_
  rintro e u' w'' ⟨rfl, rfl, rfl⟩
  simp [Leaves, settle, results, Try.results44, go_sem, cE]
  exact b4

set_option maxRecDepth 100000 in
set_option maxHeartbeats 1000000 in
theorem readArg_t (M : FuncId) (a : Option Addr) (n cap : Nat) (z : Int) (w : World) (hz : z < 0 ∨ (n : Int) < z) :
    Calls Try.prog 44 #[.slice a n cap, .int .i64 z, .func (.func M) #[] #[]] w fun e w' => e = .returned (.tuple #[(.string { data := #[] }), .int .i64 0, .int .i64 1]) ∧ Below w.heap.size w w' := by
  have hmf : ∀ (fn : Fn) (first cap : Array Value) (w : World), (Instr.makeFunc fn first cap).run Try.prog w = .ok (.func fn first cap) w := fun _ _ _ _ => rfl
  have cE : (w.alloc (.cells #[.int .i64 0] 35)).cell? ⟨w.heap.size, 0, none⟩ = some (.int .i64 0) := by simp [go_sem]
  have zE : (w.alloc (.cells #[.int .i64 0] 35)).frozen? ⟨w.heap.size, 0, none⟩ = false := by simp [go_sem]
  have CE := Lib.hid cE
  have ZE := Lib.hid zE
  clear cE zE
  by_cases h0 : z < 0
  · have t1 : decide (z < 0) = true := decide_eq_true h0
    clear hz h0
    go_enter_defers Try.func44, Try.ntmps44
    go_wp2_with fail
    refine leaves_cons (f := 53) (args := #[.pointer (some ⟨w.heap.size, 0, none⟩)]) (by simp) (by simp [go_sem]) ?_
    refine (catch_t ⟨w.heap.size, 0, none⟩ 0 1 _ CE.out ZE.out).mono ?_
    rintro e u' w'' ⟨rfl, rfl, rfl⟩
    simp [Leaves, settle, results, Try.results44, go_sem]
    exact balloc (b0 w) _
  · have t1 : decide (z < 0) = false := decide_eq_false h0
    have t2 : decide ((n : Int) < z) = true := decide_eq_true (by omega)
    clear hz h0
    go_enter_defers Try.func44, Try.ntmps44
    go_wp2_with fail
    refine leaves_cons (f := 53) (args := #[.pointer (some ⟨w.heap.size, 0, none⟩)]) (by simp) (by simp [go_sem]) ?_
    refine (catch_t ⟨w.heap.size, 0, none⟩ 0 1 _ CE.out ZE.out).mono ?_
    rintro e u' w'' ⟨rfl, rfl, rfl⟩
    simp [Leaves, settle, results, Try.results44, go_sem]
    exact balloc (b0 w) _

theorem catch_f (p : Addr) (x c : Int) (w : World) (hc : w.cell? p = some (.int .i64 x)) (hz : w.frozen? p = false) :
    CallsD Try.prog 54 #[.pointer (some p)] (.panicking [{ v := .iface 35 (.int .i64 c), recovered := false }]) w fun e u' w' =>
      e = .returned (.tuple #[]) ∧ u' = .panicking [{ v := .iface 35 (.int .i64 c), recovered := true }] ∧ w' = w.setCell p (.int .i64 c) := by
  refine callsD_of_wpS Try.func54 rfl fun c₀ cs hu => ?_
  apply wpS_seq
  apply wpS_region
  simp [wpOpsS, go_sem, recoverD, hu, Try.ntmps54, Exit.thenS]
  apply wpS_seq
  apply wpS_region
  simp [wpOpsS, go_sem, Exit.thenS, iface_ne]
  refine wpS_cond (t := true) (by simp [Act.eval]) ?_
  simp only [if_true]
  apply wpS_region
  simp [wpOpsS, go_sem, assert_errno, hc, hz, bodyPostS, results, Try.results54]
theorem idle_f (p : Addr) (w : World) :
    CallsD Try.prog 54 #[.pointer (some p)] .returning w fun e u' w' => e = .returned (.tuple #[]) ∧ u' = .returning ∧ w' = w := by
  refine callsD_of_wpS Try.func54 rfl fun c₀ cs hu => ?_
  apply wpS_seq
  apply wpS_region
  simp [wpOpsS, go_sem, recoverD, hu, Try.ntmps54, Exit.thenS]
  apply wpS_seq
  apply wpS_region
  simp [wpOpsS, go_sem, Exit.thenS, iface_no]
  refine wpS_cond (t := false) (by simp [Act.eval]) ?_
  simp only [Bool.false_eq_true, if_false]
  refine wpS_of_wp (wp_skip ?_)
  cases c₀
  simp_all [bodyPostS, results, Try.results54]

set_option maxRecDepth 100000 in
set_option maxHeartbeats 1000000 in
theorem readOk_f (X : Value → World → Prop) (M : FuncId) (a : Option Addr) (n cap : Nat) (l : List Nat) (p q : Nat) (w : World) (hA : Li w a n cap l) (hp : p ≤ n)
    (hm : ∀ w2, Rdr w2 (w.heap.size + 1) a n cap l p → Below w.heap.size w w2 → w2.heap.size = w.heap.size + 2 → Calls Try.prog M #[.pointer (some ⟨w.heap.size + 1, 0, none⟩)] w2 (Mok X (w.heap.size + 1) a n cap l q w2))
    (hX : ∀ v w3 w4, X v w3 → Apart w.heap.size w3 w4 → X v w4) (hM : ∀ (args : Array Value) (w : World), (callFunc M args).run Try.prog w = .ok (.enter M args) w) :
    Calls Try.prog 47 #[.slice a n cap, .int .i64 (p : Int), .func (.func M) #[] #[]] w (Rok X q w) := by
  have hmf : ∀ (fn : Fn) (first cap : Array Value) (w : World), (Instr.makeFunc fn first cap).run Try.prog w = .ok (.func fn first cap) w := fun _ _ _ _ => rfl
  have R2 := rdr_new w a n cap l p hA hp
  have k2 := balloc (balloc (b0 w) (.cells #[.int .i64 0] 35)) (.cells #[.slice a n cap, .int .i64 (p : Int)] 74)
  have hc := hm _ R2 k2 (by simp [go_sem])
  have t1 : decide ((p : Int) < 0) = false := decide_eq_false (by omega)
  have t2 : decide (n < p) = false := decide_eq_false (by omega)
  have t3 : decide ((n : Int) < p) = false := decide_eq_false (by omega)
  clear hm hp hA R2
  go_enter_defers Try.func47, Try.ntmps47
  go_wp2_with fail
  refine hc.mono ?_
  rintro e w3 ⟨v, rfl, x3, R3, b3⟩
  have cE : w3.cell? ⟨w.heap.size, 0, none⟩ = some (.int .i64 0) := by rw [b3.cell (p := ⟨w.heap.size, 0, none⟩) (Nat.lt_succ_self _)]; simp [go_sem]
  have zE : w3.frozen? ⟨w.heap.size, 0, none⟩ = false := by rw [b3.frozen (p := ⟨w.heap.size, 0, none⟩) (Nat.lt_succ_self _)]; simp [go_sem]
  have b4 := k2.trans (b3.mono (Nat.le_succ _))
  have c1 := R3.c1
  have z1 := R3.z1
  clear hc k2 b3 R3 hM
  go_wp2_with fail
  go_region
  all_goals (try go_wp2_with fail)
  refine leaves_cons (f := 54) (args := #[.pointer (some ⟨w.heap.size, 0, none⟩)]) (by simp) (by simp [go_sem]) ?_
  refine (idle_f ⟨w.heap.size, 0, none⟩ _).mono ?_
  rintro e u' w'' ⟨rfl, rfl, rfl⟩
  have hap : Apart w.heap.size w3 (w3.setCell ⟨w.heap.size, 0, none⟩ (.int .i64 0)).drew := fun k hk => Below.heap_setCell w3 ⟨w.heap.size, 0, none⟩ _ k hk
  have fin : Rok X q w (.returned (.tuple #[v, .int .i64 (q : Int), .int .i64 0])) (w3.setCell ⟨w.heap.size, 0, none⟩ (.int .i64 0)).drew :=
    ⟨v, rfl, hX v _ _ x3 hap, (b4.setCell (p := ⟨w.heap.size, 0, none⟩) (Nat.le_refl _) _).drew⟩
  clear hX hap x3
  simp [Leaves, settle, results, Try.results47, go_sem, cE]
  exact fin

set_option maxRecDepth 100000 in
set_option maxHeartbeats 1000000 in
theorem readErr_f (c : Nat) (M : FuncId) (a : Option Addr) (n cap : Nat) (l : List Nat) (p : Nat) (w : World) (hA : Li w a n cap l) (hp : p ≤ n)
    (hm : ∀ w2, Rdr w2 (w.heap.size + 1) a n cap l p → Below w.heap.size w w2 → w2.heap.size = w.heap.size + 2 → Calls Try.prog M #[.pointer (some ⟨w.heap.size + 1, 0, none⟩)] w2 (fun e w' => e = thrown c ∧ Below (w.heap.size + 1) w2 w'))
    (hM : ∀ (args : Array Value) (w : World), (callFunc M args).run Try.prog w = .ok (.enter M args) w) :
    Calls Try.prog 47 #[.slice a n cap, .int .i64 (p : Int), .func (.func M) #[] #[]] w fun e w' => e = .returned (.tuple #[(.slice none 0 0), .int .i64 0, .int .i64 (c : Int)]) ∧ Below w.heap.size w w' := by
  have hmf : ∀ (fn : Fn) (first cap : Array Value) (w : World), (Instr.makeFunc fn first cap).run Try.prog w = .ok (.func fn first cap) w := fun _ _ _ _ => rfl
  have R2 := rdr_new w a n cap l p hA hp
  have k2 := balloc (balloc (b0 w) (.cells #[.int .i64 0] 35)) (.cells #[.slice a n cap, .int .i64 (p : Int)] 74)
  have hc := hm _ R2 k2 (by simp [go_sem])
  have t1 : decide ((p : Int) < 0) = false := decide_eq_false (by omega)
  have t2 : decide (n < p) = false := decide_eq_false (by omega)
  have t3 : decide ((n : Int) < p) = false := decide_eq_false (by omega)
  clear hm hp hA R2
  go_enter_defers Try.func47, Try.ntmps47
  go_wp2_with fail
  refine hc.mono ?_
  rintro e w3 ⟨rfl, b3⟩
  have cE : w3.cell? ⟨w.heap.size, 0, none⟩ = some (.int .i64 0) := by rw [b3.cell (p := ⟨w.heap.size, 0, none⟩) (Nat.lt_succ_self _)]; simp [go_sem]
  have zE : w3.frozen? ⟨w.heap.size, 0, none⟩ = false := by rw [b3.frozen (p := ⟨w.heap.size, 0, none⟩) (Nat.lt_succ_self _)]; simp [go_sem]
  have b4 := (k2.trans (b3.mono (Nat.le_succ _))).setCell (p := ⟨w.heap.size, 0, none⟩) (Nat.le_refl _) (.int .i64 (c : Int))
  clear hc k2 b3 hM
  refine leaves_cons (f := 54) (args := #[.pointer (some ⟨w.heap.size, 0, none⟩)]) (by simp) (by simp [go_sem]) ?_
  refine (catch_f ⟨w.heap.size, 0, none⟩ 0 c _ cE zE).mono ?_
  rintro e u' w'' ⟨rfl, rfl, rfl⟩
  simp [Leaves, settle, results, Try.results47, go_sem, cE]
  exact b4

set_option maxRecDepth 100000 in
set_option maxHeartbeats 1000000 in
theorem readArg_f (M : FuncId) (a : Option Addr) (n cap : Nat) (z : Int) (w : World) (hz : z < 0 ∨ (n : Int) < z) :
    Calls Try.prog 47 #[.slice a n cap, .int .i64 z, .func (.func M) #[] #[]] w fun e w' => e = .returned (.tuple #[(.slice none 0 0), .int .i64 0, .int .i64 1]) ∧ Below w.heap.size w w' := by
  have hmf : ∀ (fn : Fn) (first cap : Array Value) (w : World), (Instr.makeFunc fn first cap).run Try.prog w = .ok (.func fn first cap) w := fun _ _ _ _ => rfl
  have cE : (w.alloc (.cells #[.int .i64 0] 35)).cell? ⟨w.heap.size, 0, none⟩ = some (.int .i64 0) := by simp [go_sem]
  have zE : (w.alloc (.cells #[.int .i64 0] 35)).frozen? ⟨w.heap.size, 0, none⟩ = false := by simp [go_sem]
  have CE := Lib.hid cE
  have ZE := Lib.hid zE
  clear cE zE
  by_cases h0 : z < 0
  · have t1 : decide (z < 0) = true := decide_eq_true h0
    clear hz h0
    go_enter_defers Try.func47, Try.ntmps47
    go_wp2_with fail
    refine leaves_cons (f := 54) (args := #[.pointer (some ⟨w.heap.size, 0, none⟩)]) (by simp) (by simp [go_sem]) ?_
    refine (catch_f ⟨w.heap.size, 0, none⟩ 0 1 _ CE.out ZE.out).mono ?_
    rintro e u' w'' ⟨rfl, rfl, rfl⟩
    simp [Leaves, settle, results, Try.results47, go_sem]
    exact balloc (b0 w) _
  · have t1 : decide (z < 0) = false := decide_eq_false h0
    have t2 : decide ((n : Int) < z) = true := decide_eq_true (by omega)
    clear hz h0
    go_enter_defers Try.func47, Try.ntmps47
    go_wp2_with fail
    refine leaves_cons (f := 54) (args := #[.pointer (some ⟨w.heap.size, 0, none⟩)]) (by simp) (by simp [go_sem]) ?_
    refine (catch_f ⟨w.heap.size, 0, none⟩ 0 1 _ CE.out ZE.out).mono ?_
    rintro e u' w'' ⟨rfl, rfl, rfl⟩
    simp [Leaves, settle, results, Try.results47, go_sem]
    exact balloc (b0 w) _
end Go.Proofs.Ytegniedbiegcpaa
