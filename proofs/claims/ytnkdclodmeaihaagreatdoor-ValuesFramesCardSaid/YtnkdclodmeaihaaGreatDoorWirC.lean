/-
  The Read functions of package wire, and plain facts on what is written and read (taken over from stage 4).
-/
import Derived.Test.YtnkdclodmeaihaaGreatDoorWirB
import Derived.Recover
import Derived.Lib.ConvBytes
namespace Go.Proofs.YtnkdclodmeaihaaGreatDoor
open Go.RowKit

theorem iface_ne (v : Value) (w : World) : (binOp .neq 20 (.iface 26 v) .nilIface).run Tryz.prog w = .ok (.bool true) w := by kernel_rfl
theorem assert_errno (v : Value) (w : World) : (Instr.typeAssert (.iface 26 v) 20 26 false).run Tryz.prog w = .ok v w := by kernel_rfl
theorem iface_no (w : World) : (binOp .neq 20 .nilIface .nilIface).run Tryz.prog w = .ok (.bool false) w := by kernel_rfl

theorem Li.lo {w : World} {a : Option Addr} {n cap : Nat} {l : List Nat} (h : Li w a n cap l) {B : Nat} (hB : w.heap.size ≤ B) : n = 0 ∨ ∃ b off, a = some ⟨b, off, none⟩ ∧ b < B := by
  by_cases h0 : n = 0
  · exact .inl h0
  · have hn := h.hn
    rcases h.hat.1 with h1 | ⟨b, off, e, hb⟩
    · omega
    · exact .inr ⟨b, off, e, Nat.lt_of_lt_of_le (block_lt_of_cell (hb 0 (by omega))) hB⟩
/-- What a method does that reads. -/
def Mok (X : Value → World → Prop) (B : Nat) (a : Option Addr) (n cap : Nat) (l : List Nat) (q : Nat) (w : World) (e : Ending) (w' : World) : Prop :=
  ∃ v, e = .returned v ∧ X v w' ∧ Rdr w' B a n cap l q ∧ Below B w w'
/-- What read then returns. -/
def Rok (X : Value → World → Prop) (q : Nat) (w : World) (e : Ending) (w' : World) : Prop :=
  ∃ v, e = .returned (.tuple #[v, .int .i64 (q : Int), .int .i64 0]) ∧ X v w' ∧ Below w.heap.size w w'
theorem rdr_new (w : World) (a : Option Addr) (n cap : Nat) (l : List Nat) (p : Nat) (hA : Li w a n cap l) (hp : p ≤ n) :
    Rdr ((w.alloc (.cells #[.int .i64 0] 26)).alloc (.cells #[.slice a n cap, .int .i64 (p : Int)] 84)) (w.heap.size + 1) a n cap l p :=
  ⟨by simp [go_sem], by simp [go_sem], by simp [go_sem], hA.lo (Nat.le_succ _), hA.keeps (balloc (balloc (b0 w) _) _), hp⟩

theorem catch_i (p : Addr) (x c : Int) (w : World) (hc : w.cell? p = some (.int .i64 x)) (hz : w.frozen? p = false) :
    CallsD Tryz.prog 112 #[.pointer (some p)] (.panicking [{ v := .iface 26 (.int .i64 c), recovered := false }]) w fun e u' w' =>
      e = .returned (.tuple #[]) ∧ u' = .panicking [{ v := .iface 26 (.int .i64 c), recovered := true }] ∧ w' = w.setCell p (.int .i64 c) := by
  refine callsD_of_wpS Tryz.func112 rfl fun c₀ cs hu => ?_
  apply wpS_seq
  apply wpS_region
  simp [wpOpsS, go_sem, recoverD, hu, Tryz.ntmps112, Exit.thenS]
  apply wpS_seq
  apply wpS_region
  simp [wpOpsS, go_sem, Exit.thenS, iface_ne]
  refine wpS_cond (t := true) (by simp [Act.eval]) ?_
  simp only [if_true]
  apply wpS_region
  simp [wpOpsS, go_sem, assert_errno, hc, hz, bodyPostS, results, Tryz.results112]
theorem idle_i (p : Addr) (w : World) :
    CallsD Tryz.prog 112 #[.pointer (some p)] .returning w fun e u' w' => e = .returned (.tuple #[]) ∧ u' = .returning ∧ w' = w := by
  refine callsD_of_wpS Tryz.func112 rfl fun c₀ cs hu => ?_
  apply wpS_seq
  apply wpS_region
  simp [wpOpsS, go_sem, recoverD, hu, Tryz.ntmps112, Exit.thenS]
  apply wpS_seq
  apply wpS_region
  simp [wpOpsS, go_sem, Exit.thenS, iface_no]
  refine wpS_cond (t := false) (by simp [Act.eval]) ?_
  simp only [Bool.false_eq_true, if_false]
  refine wpS_of_wp (wp_skip ?_)
  cases c₀
  simp_all [bodyPostS, results, Tryz.results112]

set_option maxRecDepth 100000 in
set_option maxHeartbeats 1000000 in
theorem readOk_i (X : Value → World → Prop) (M : FuncId) (a : Option Addr) (n cap : Nat) (l : List Nat) (p q : Nat) (w : World) (hA : Li w a n cap l) (hp : p ≤ n)
    (hm : ∀ w2, Rdr w2 (w.heap.size + 1) a n cap l p → Below w.heap.size w w2 → w2.heap.size = w.heap.size + 2 → Calls Tryz.prog M #[.pointer (some ⟨w.heap.size + 1, 0, none⟩)] w2 (Mok X (w.heap.size + 1) a n cap l q w2))
    (hX : ∀ v w3 w4, X v w3 → Apart w.heap.size w3 w4 → X v w4) (hM : ∀ (args : Array Value) (w : World), (callFunc M args).run Tryz.prog w = .ok (.enter M args) w) :
    Calls Tryz.prog 91 #[.slice a n cap, .int .i64 (p : Int), .func (.func M) #[] #[]] w (Rok X q w) := by
  have hmf : ∀ (fn : Fn) (first cap : Array Value) (w : World), (Instr.makeFunc fn first cap).run Tryz.prog w = .ok (.func fn first cap) w := fun _ _ _ _ => rfl
  have R2 := rdr_new w a n cap l p hA hp
  have k2 := balloc (balloc (b0 w) (.cells #[.int .i64 0] 26)) (.cells #[.slice a n cap, .int .i64 (p : Int)] 84)
  have hc := hm _ R2 k2 (by simp [go_sem])
  have t1 : decide ((p : Int) < 0) = false := decide_eq_false (by omega)
  have t2 : decide (n < p) = false := decide_eq_false (by omega)
  have t3 : decide ((n : Int) < p) = false := decide_eq_false (by omega)
  clear hm hp hA R2
  go_enter_defers Tryz.func91, Tryz.ntmps91
  go_wp2_with fail
  refine hc.mono ?_
  rintro e w3 ⟨v, rfl, x3, R3, b3⟩
  have cE : w3.cell? ⟨w.heap.size, 0, none⟩ = some (.int .i64 0) := by rw [b3.cell (p := ⟨w.heap.size, 0, none⟩) (Nat.lt_succ_self _)]; simp [go_sem]
  have zE : w3.frozen? ⟨w.heap.size, 0, none⟩ = false := by rw [b3.frozen (p := ⟨w.heap.size, 0, none⟩) (Nat.lt_succ_self _)]; simp [go_sem]
  have b4 := k2.trans (b3.mono (Nat.le_succ _))
  have c1 := R3.c1
  have z1 := R3.z1
  clear hc k2 b3 R3 hM
  go_wp2_with fail
  go_region
  all_goals (try go_wp2_with fail)
  refine leaves_cons (f := 112) (args := #[.pointer (some ⟨w.heap.size, 0, none⟩)]) (by simp) (by simp [go_sem]) ?_
  refine (idle_i ⟨w.heap.size, 0, none⟩ _).mono ?_
  rintro e u' w'' ⟨rfl, rfl, rfl⟩
  have hap : Apart w.heap.size w3 (w3.setCell ⟨w.heap.size, 0, none⟩ (.int .i64 0)).drew := fun k hk => Below.heap_setCell w3 ⟨w.heap.size, 0, none⟩ _ k hk
  have fin : Rok X q w (.returned (.tuple #[v, .int .i64 (q : Int), .int .i64 0])) (w3.setCell ⟨w.heap.size, 0, none⟩ (.int .i64 0)).drew :=
    ⟨v, rfl, hX v _ _ x3 hap, (b4.setCell (p := ⟨w.heap.size, 0, none⟩) (Nat.le_refl _) _).drew⟩
  clear hX hap x3
  simp [Leaves, settle, results, Tryz.results91, go_sem, cE]
  exact fin

set_option maxRecDepth 100000 in
set_option maxHeartbeats 1000000 in
theorem readErr_i (c : Nat) (M : FuncId) (a : Option Addr) (n cap : Nat) (l : List Nat) (p : Nat) (w : World) (hA : Li w a n cap l) (hp : p ≤ n)
    (hm : ∀ w2, Rdr w2 (w.heap.size + 1) a n cap l p → Below w.heap.size w w2 → w2.heap.size = w.heap.size + 2 → Calls Tryz.prog M #[.pointer (some ⟨w.heap.size + 1, 0, none⟩)] w2 (fun e w' => e = thrown c ∧ Below (w.heap.size + 1) w2 w'))
    (hM : ∀ (args : Array Value) (w : World), (callFunc M args).run Tryz.prog w = .ok (.enter M args) w) :
    Calls Tryz.prog 91 #[.slice a n cap, .int .i64 (p : Int), .func (.func M) #[] #[]] w fun e w' => e = .returned (.tuple #[(.int .i64 0), .int .i64 0, .int .i64 (c : Int)]) ∧ Below w.heap.size w w' := by
  have hmf : ∀ (fn : Fn) (first cap : Array Value) (w : World), (Instr.makeFunc fn first cap).run Tryz.prog w = .ok (.func fn first cap) w := fun _ _ _ _ => rfl
  have R2 := rdr_new w a n cap l p hA hp
  have k2 := balloc (balloc (b0 w) (.cells #[.int .i64 0] 26)) (.cells #[.slice a n cap, .int .i64 (p : Int)] 84)
  have hc := hm _ R2 k2 (by simp [go_sem])
  have t1 : decide ((p : Int) < 0) = false := decide_eq_false (by omega)
  have t2 : decide (n < p) = false := decide_eq_false (by omega)
  have t3 : decide ((n : Int) < p) = false := decide_eq_false (by omega)
  clear hm hp hA R2
  go_enter_defers Tryz.func91, Tryz.ntmps91
  go_wp2_with fail
  refine hc.mono ?_
  rintro e w3 ⟨rfl, b3⟩
  have cE : w3.cell? ⟨w.heap.size, 0, none⟩ = some (.int .i64 0) := by rw [b3.cell (p := ⟨w.heap.size, 0, none⟩) (Nat.lt_succ_self _)]; simp [go_sem]
  have zE : w3.frozen? ⟨w.heap.size, 0, none⟩ = false := by rw [b3.frozen (p := ⟨w.heap.size, 0, none⟩) (Nat.lt_succ_self _)]; simp [go_sem]
  have b4 := (k2.trans (b3.mono (Nat.le_succ _))).setCell (p := ⟨w.heap.size, 0, none⟩) (Nat.le_refl _) (.int .i64 (c : Int))
  clear hc k2 b3 hM
  refine leaves_cons (f := 112) (args := #[.pointer (some ⟨w.heap.size, 0, none⟩)]) (by simp) (by simp [go_sem]) ?_
  refine (catch_i ⟨w.heap.size, 0, none⟩ 0 c _ cE zE).mono ?_
  rintro e u' w'' ⟨rfl, rfl, rfl⟩
  simp [Leaves, settle, results, Tryz.results91, go_sem, cE]
  exact b4

set_option maxRecDepth 100000 in
set_option maxHeartbeats 1000000 in
theorem readArg_i (M : FuncId) (a : Option Addr) (n cap : Nat) (z : Int) (w : World) (hz : z < 0 ∨ (n : Int) < z) :
    Calls Tryz.prog 91 #[.slice a n cap, .int .i64 z, .func (.func M) #[] #[]] w fun e w' => e = .returned (.tuple #[(.int .i64 0), .int .i64 0, .int .i64 1]) ∧ Below w.heap.size w w' := by
  have hmf : ∀ (fn : Fn) (first cap : Array Value) (w : World), (Instr.makeFunc fn first cap).run Tryz.prog w = .ok (.func fn first cap) w := fun _ _ _ _ => rfl
  have cE : (w.alloc (.cells #[.int .i64 0] 26)).cell? ⟨w.heap.size, 0, none⟩ = some (.int .i64 0) := by simp [go_sem]
  have zE : (w.alloc (.cells #[.int .i64 0] 26)).frozen? ⟨w.heap.size, 0, none⟩ = false := by simp [go_sem]
  have CE := Lib.hid cE
  have ZE := Lib.hid zE
  clear cE zE
  by_cases h0 : z < 0
  · have t1 : decide (z < 0) = true := decide_eq_true h0
    clear hz h0
    go_enter_defers Tryz.func91, Tryz.ntmps91
    go_wp2_with fail
    refine leaves_cons (f := 112) (args := #[.pointer (some ⟨w.heap.size, 0, none⟩)]) (by simp) (by simp [go_sem]) ?_
    refine (catch_i ⟨w.heap.size, 0, none⟩ 0 1 _ CE.out ZE.out).mono ?_
    rintro e u' w'' ⟨rfl, rfl, rfl⟩
    simp [Leaves, settle, results, Tryz.results91, go_sem]
    exact balloc (b0 w) _
  · have t1 : decide (z < 0) = false := decide_eq_false h0
    have t2 : decide ((n : Int) < z) = true := decide_eq_true (by omega)
    clear hz h0
    go_enter_defers Tryz.func91, Tryz.ntmps91
    go_wp2_with fail
    refine leaves_cons (f := 112) (args := #[.pointer (some ⟨w.heap.size, 0, none⟩)]) (by simp) (by simp [go_sem]) ?_
    refine (catch_i ⟨w.heap.size, 0, none⟩ 0 1 _ CE.out ZE.out).mono ?_
    rintro e u' w'' ⟨rfl, rfl, rfl⟩
    simp [Leaves, settle, results, Tryz.results91, go_sem]
    exact balloc (b0 w) _

theorem catch_t (p : Addr) (x c : Int) (w : World) (hc : w.cell? p = some (.int .i64 x)) (hz : w.frozen? p = false) :
    CallsD Tryz.prog 113 #[.pointer (some p)] (.panicking [{ v := .iface 26 (.int .i64 c), recovered := false }]) w fun e u' w' =>
      e = .returned (.tuple #[]) ∧ u' = .panicking [{ v := .iface 26 (.int .i64 c), recovered := true }] ∧ w' = w.setCell p (.int .i64 c) := by
  refine callsD_of_wpS Tryz.func113 rfl fun c₀ cs hu => ?_
  apply wpS_seq
  apply wpS_region
  simp [wpOpsS, go_sem, recoverD, hu, Tryz.ntmps113, Exit.thenS]
  apply wpS_seq
  apply wpS_region
  simp [wpOpsS, go_sem, Exit.thenS, iface_ne]
  refine wpS_cond (t := true) (by simp [Act.eval]) ?_
  simp only [if_true]
  apply wpS_region
  simp [wpOpsS, go_sem, assert_errno, hc, hz, bodyPostS, results, Tryz.results113]
theorem idle_t (p : Addr) (w : World) :
    CallsD Tryz.prog 113 #[.pointer (some p)] .returning w fun e u' w' => e = .returned (.tuple #[]) ∧ u' = .returning ∧ w' = w := by
  refine callsD_of_wpS Tryz.func113 rfl fun c₀ cs hu => ?_
  apply wpS_seq
  apply wpS_region
  simp [wpOpsS, go_sem, recoverD, hu, Tryz.ntmps113, Exit.thenS]
  apply wpS_seq
  apply wpS_region
  simp [wpOpsS, go_sem, Exit.thenS, iface_no]
  refine wpS_cond (t := false) (by simp [Act.eval]) ?_
  simp only [Bool.false_eq_true, if_false]
  refine wpS_of_wp (wp_skip ?_)
  cases c₀
  simp_all [bodyPostS, results, Tryz.results113]

set_option maxRecDepth 100000 in
set_option maxHeartbeats 1000000 in
theorem readOk_t (X : Value → World → Prop) (M : FuncId) (a : Option Addr) (n cap : Nat) (l : List Nat) (p q : Nat) (w : World) (hA : Li w a n cap l) (hp : p ≤ n)
    (hm : ∀ w2, Rdr w2 (w.heap.size + 1) a n cap l p → Below w.heap.size w w2 → w2.heap.size = w.heap.size + 2 → Calls Tryz.prog M #[.pointer (some ⟨w.heap.size + 1, 0, none⟩)] w2 (Mok X (w.heap.size + 1) a n cap l q w2))
    (hX : ∀ v w3 w4, X v w3 → Apart w.heap.size w3 w4 → X v w4) (hM : ∀ (args : Array Value) (w : World), (callFunc M args).run Tryz.prog w = .ok (.enter M args) w) :
    Calls Tryz.prog 94 #[.slice a n cap, .int .i64 (p : Int), .func (.func M) #[] #[]] w (Rok X q w) := by
  have hmf : ∀ (fn : Fn) (first cap : Array Value) (w : World), (Instr.makeFunc fn first cap).run Tryz.prog w = .ok (.func fn first cap) w := fun _ _ _ _ => rfl
  have R2 := rdr_new w a n cap l p hA hp
  have k2 := balloc (balloc (b0 w) (.cells #[.int .i64 0] 26)) (.cells #[.slice a n cap, .int .i64 (p : Int)] 84)
  have hc := hm _ R2 k2 (by simp [go_sem])
  have t1 : decide ((p : Int) < 0) = false := decide_eq_false (by omega)
  have t2 : decide (n < p) = false := decide_eq_false (by omega)
  have t3 : decide ((n : Int) < p) = false := decide_eq_false (by omega)
  clear hm hp hA R2
  go_enter_defers Tryz.func94, Tryz.ntmps94
  go_wp2_with fail
  refine hc.mono ?_
  rintro e w3 ⟨v, rfl, x3, R3, b3⟩
  have cE : w3.cell? ⟨w.heap.size, 0, none⟩ = some (.int .i64 0) := by rw [b3.cell (p := ⟨w.heap.size, 0, none⟩) (Nat.lt_succ_self _)]; simp [go_sem]
  have zE : w3.frozen? ⟨w.heap.size, 0, none⟩ = false := by rw [b3.frozen (p := ⟨w.heap.size, 0, none⟩) (Nat.lt_succ_self _)]; simp [go_sem]
  have b4 := k2.trans (b3.mono (Nat.le_succ _))
  have c1 := R3.c1
  have z1 := R3.z1
  clear hc k2 b3 R3 hM
  go_wp2_with fail
  go_region
  all_goals (try go_wp2_with fail)
  refine leaves_cons (f := 113) (args := #[.pointer (some ⟨w.heap.size, 0, none⟩)]) (by simp) (by simp [go_sem]) ?_
  refine (idle_t ⟨w.heap.size, 0, none⟩ _).mono ?_
  rintro e u' w'' ⟨rfl, rfl, rfl⟩
  have hap : Apart w.heap.size w3 (w3.setCell ⟨w.heap.size, 0, none⟩ (.int .i64 0)).drew := fun k hk => Below.heap_setCell w3 ⟨w.heap.size, 0, none⟩ _ k hk
  have fin : Rok X q w (.returned (.tuple #[v, .int .i64 (q : Int), .int .i64 0])) (w3.setCell ⟨w.heap.size, 0, none⟩ (.int .i64 0)).drew :=
    ⟨v, rfl, hX v _ _ x3 hap, (b4.setCell (p := ⟨w.heap.size, 0, none⟩) (Nat.le_refl _) _).drew⟩
  clear hX hap x3
  simp [Leaves, settle, results, Tryz.results94, go_sem, cE]
  exact fin

set_option maxRecDepth 100000 in
set_option maxHeartbeats 1000000 in
theorem readErr_t (c : Nat) (M : FuncId) (a : Option Addr) (n cap : Nat) (l : List Nat) (p : Nat) (w : World) (hA : Li w a n cap l) (hp : p ≤ n)
    (hm : ∀ w2, Rdr w2 (w.heap.size + 1) a n cap l p → Below w.heap.size w w2 → w2.heap.size = w.heap.size + 2 → Calls Tryz.prog M #[.pointer (some ⟨w.heap.size + 1, 0, none⟩)] w2 (fun e w' => e = thrown c ∧ Below (w.heap.size + 1) w2 w'))
    (hM : ∀ (args : Array Value) (w : World), (callFunc M args).run Tryz.prog w = .ok (.enter M args) w) :
    Calls Tryz.prog 94 #[.slice a n cap, .int .i64 (p : Int), .func (.func M) #[] #[]] w fun e w' => e = .returned (.tuple #[(.string { data := #[] }), .int .i64 0, .int .i64 (c : Int)]) ∧ Below w.heap.size w w' := by
  have hmf : ∀ (fn : Fn) (first cap : Array Value) (w : World), (Instr.makeFunc fn first cap).run Tryz.prog w = .ok (.func fn first cap) w := fun _ _ _ _ => rfl
  have R2 := rdr_new w a n cap l p hA hp
  have k2 := balloc (balloc (b0 w) (.cells #[.int .i64 0] 26)) (.cells #[.slice a n cap, .int .i64 (p : Int)] 84)
  have hc := hm _ R2 k2 (by simp [go_sem])
  have t1 : decide ((p : Int) < 0) = false := decide_eq_false (by omega)
  have t2 : decide (n < p) = false := decide_eq_false (by omega)
  have t3 : decide ((n : Int) < p) = false := decide_eq_false (by omega)
  clear hm hp hA R2
  go_enter_defers Tryz.func94, Tryz.ntmps94
  go_wp2_with fail
  refine hc.mono ?_
  rintro e w3 ⟨rfl, b3⟩
  have cE : w3.cell? ⟨w.heap.size, 0, none⟩ = some (.int .i64 0) := by rw [b3.cell (p := ⟨w.heap.size, 0, none⟩) (Nat.lt_succ_self _)]; simp [go_sem]
  have zE : w3.frozen? ⟨w.heap.size, 0, none⟩ = false := by rw [b3.frozen (p := ⟨w.heap.size, 0, none⟩) (Nat.lt_succ_self _)]; simp [go_sem]
  have b4 := (k2.trans (b3.mono (Nat.le_succ _))).setCell (p := ⟨w.heap.size, 0, none⟩) (Nat.le_refl _) (.int .i64 (c : Int))
  clear hc k2 b3 hM
  refine leaves_cons (f := 113) (args := #[.pointer (some ⟨w.heap.size, 0, none⟩)]) (by simp) (by simp [go_sem]) ?_
  refine (catch_t ⟨w.heap.size, 0, none⟩ 0 c _ cE zE).mono ?_
  rintro e u' w'' ⟨rfl, rfl, rfl⟩
  simp [Leaves, settle, results, Tryz.results94, go_sem, cE]
  exact b4

set_option maxRecDepth 100000 in
set_option maxHeartbeats 1000000 in
theorem readArg_t (M : FuncId) (a : Option Addr) (n cap : Nat) (z : Int) (w : World) (hz : z < 0 ∨ (n : Int) < z) :
    Calls Tryz.prog 94 #[.slice a n cap, .int .i64 z, .func (.func M) #[] #[]] w fun e w' => e = .returned (.tuple #[(.string { data := #[] }), .int .i64 0, .int .i64 1]) ∧ Below w.heap.size w w' := by
  have hmf : ∀ (fn : Fn) (first cap : Array Value) (w : World), (Instr.makeFunc fn first cap).run Tryz.prog w = .ok (.func fn first cap) w := fun _ _ _ _ => rfl
  have cE : (w.alloc (.cells #[.int .i64 0] 26)).cell? ⟨w.heap.size, 0, none⟩ = some (.int .i64 0) := by simp [go_sem]
  have zE : (w.alloc (.cells #[.int .i64 0] 26)).frozen? ⟨w.heap.size, 0, none⟩ = false := by simp [go_sem]
  have CE := Lib.hid cE
  have ZE := Lib.hid zE
  clear cE zE
  by_cases h0 : z < 0
  · have t1 : decide (z < 0) = true := decide_eq_true h0
    clear hz h0
    go_enter_defers Tryz.func94, Tryz.ntmps94
    go_wp2_with fail
    refine leaves_cons (f := 113) (args := #[.pointer (some ⟨w.heap.size, 0, none⟩)]) (by simp) (by simp [go_sem]) ?_
    refine (catch_t ⟨w.heap.size, 0, none⟩ 0 1 _ CE.out ZE.out).mono ?_
    rintro e u' w'' ⟨rfl, rfl, rfl⟩
    simp [Leaves, settle, results, Tryz.results94, go_sem]
    exact balloc (b0 w) _
  · have t1 : decide (z < 0) = false := decide_eq_false h0
    have t2 : decide ((n : Int) < z) = true := decide_eq_true (by omega)
    clear hz h0
    go_enter_defers Tryz.func94, Tryz.ntmps94
    go_wp2_with fail
    refine leaves_cons (f := 113) (args := #[.pointer (some ⟨w.heap.size, 0, none⟩)]) (by simp) (by simp [go_sem]) ?_
    refine (catch_t ⟨w.heap.size, 0, none⟩ 0 1 _ CE.out ZE.out).mono ?_
    rintro e u' w'' ⟨rfl, rfl, rfl⟩
    simp [Leaves, settle, results, Tryz.results94, go_sem]
    exact balloc (b0 w) _

theorem catch_f (p : Addr) (x c : Int) (w : World) (hc : w.cell? p = some (.int .i64 x)) (hz : w.frozen? p = false) :
    CallsD Tryz.prog 63 #[.pointer (some p)] (.panicking [{ v := .iface 26 (.int .i64 c), recovered := false }]) w fun e u' w' =>
      e = .returned (.tuple #[]) ∧ u' = .panicking [{ v := .iface 26 (.int .i64 c), recovered := true }] ∧ w' = w.setCell p (.int .i64 c) := by
  refine callsD_of_wpS Tryz.func63 rfl fun c₀ cs hu => ?_
  apply wpS_seq
  apply wpS_region
  simp [wpOpsS, go_sem, recoverD, hu, Tryz.ntmps63, Exit.thenS]
  apply wpS_seq
  apply wpS_region
  simp [wpOpsS, go_sem, Exit.thenS, iface_ne]
  refine wpS_cond (t := true) (by simp [Act.eval]) ?_
  simp only [if_true]
  apply wpS_region
  simp [wpOpsS, go_sem, assert_errno, hc, hz, bodyPostS, results, Tryz.results63]
theorem idle_f (p : Addr) (w : World) :
    CallsD Tryz.prog 63 #[.pointer (some p)] .returning w fun e u' w' => e = .returned (.tuple #[]) ∧ u' = .returning ∧ w' = w := by
  refine callsD_of_wpS Tryz.func63 rfl fun c₀ cs hu => ?_
  apply wpS_seq
  apply wpS_region
  simp [wpOpsS, go_sem, recoverD, hu, Tryz.ntmps63, Exit.thenS]
  apply wpS_seq
  apply wpS_region
  simp [wpOpsS, go_sem, Exit.thenS, iface_no]
  refine wpS_cond (t := false) (by simp [Act.eval]) ?_
  simp only [Bool.false_eq_true, if_false]
  refine wpS_of_wp (wp_skip ?_)
  cases c₀
  simp_all [bodyPostS, results, Tryz.results63]

set_option maxRecDepth 100000 in
set_option maxHeartbeats 1000000 in
theorem readOk_f (X : Value → World → Prop) (M : FuncId) (a : Option Addr) (n cap : Nat) (l : List Nat) (p q : Nat) (w : World) (hA : Li w a n cap l) (hp : p ≤ n)
    (hm : ∀ w2, Rdr w2 (w.heap.size + 1) a n cap l p → Below w.heap.size w w2 → w2.heap.size = w.heap.size + 2 → Calls Tryz.prog M #[.pointer (some ⟨w.heap.size + 1, 0, none⟩)] w2 (Mok X (w.heap.size + 1) a n cap l q w2))
    (hX : ∀ v w3 w4, X v w3 → Apart w.heap.size w3 w4 → X v w4) (hM : ∀ (args : Array Value) (w : World), (callFunc M args).run Tryz.prog w = .ok (.enter M args) w) :
    Calls Tryz.prog 36 #[.slice a n cap, .int .i64 (p : Int), .func (.func M) #[] #[]] w (Rok X q w) := by
  have hmf : ∀ (fn : Fn) (first cap : Array Value) (w : World), (Instr.makeFunc fn first cap).run Tryz.prog w = .ok (.func fn first cap) w := fun _ _ _ _ => rfl
  have R2 := rdr_new w a n cap l p hA hp
  have k2 := balloc (balloc (b0 w) (.cells #[.int .i64 0] 26)) (.cells #[.slice a n cap, .int .i64 (p : Int)] 84)
  have hc := hm _ R2 k2 (by simp [go_sem])
  have t1 : decide ((p : Int) < 0) = false := decide_eq_false (by omega)
  have t2 : decide (n < p) = false := decide_eq_false (by omega)
  have t3 : decide ((n : Int) < p) = false := decide_eq_false (by omega)
  clear hm hp hA R2
  go_enter_defers Tryz.func36, Tryz.ntmps36
  go_wp2_with fail
  refine hc.mono ?_
  rintro e w3 ⟨v, rfl, x3, R3, b3⟩
  have cE : w3.cell? ⟨w.heap.size, 0, none⟩ = some (.int .i64 0) := by rw [b3.cell (p := ⟨w.heap.size, 0, none⟩) (Nat.lt_succ_self _)]; simp [go_sem]
  have zE : w3.frozen? ⟨w.heap.size, 0, none⟩ = false := by rw [b3.frozen (p := ⟨w.heap.size, 0, none⟩) (Nat.lt_succ_self _)]; simp [go_sem]
  have b4 := k2.trans (b3.mono (Nat.le_succ _))
  have c1 := R3.c1
  have z1 := R3.z1
  clear hc k2 b3 R3 hM
  go_wp2_with fail
  go_region
  all_goals (try go_wp2_with fail)
  refine leaves_cons (f := 63) (args := #[.pointer (some ⟨w.heap.size, 0, none⟩)]) (by simp) (by simp [go_sem]) ?_
  refine (idle_f ⟨w.heap.size, 0, none⟩ _).mono ?_
  rintro e u' w'' ⟨rfl, rfl, rfl⟩
  have hap : Apart w.heap.size w3 (w3.setCell ⟨w.heap.size, 0, none⟩ (.int .i64 0)).drew := fun k hk => Below.heap_setCell w3 ⟨w.heap.size, 0, none⟩ _ k hk
  have fin : Rok X q w (.returned (.tuple #[v, .int .i64 (q : Int), .int .i64 0])) (w3.setCell ⟨w.heap.size, 0, none⟩ (.int .i64 0)).drew :=
    ⟨v, rfl, hX v _ _ x3 hap, (b4.setCell (p := ⟨w.heap.size, 0, none⟩) (Nat.le_refl _) _).drew⟩
  clear hX hap x3
  simp [Leaves, settle, results, Tryz.results36, go_sem, cE]
  exact fin

set_option maxRecDepth 100000 in
set_option maxHeartbeats 1000000 in
theorem readErr_f (c : Nat) (M : FuncId) (a : Option Addr) (n cap : Nat) (l : List Nat) (p : Nat) (w : World) (hA : Li w a n cap l) (hp : p ≤ n)
    (hm : ∀ w2, Rdr w2 (w.heap.size + 1) a n cap l p → Below w.heap.size w w2 → w2.heap.size = w.heap.size + 2 → Calls Tryz.prog M #[.pointer (some ⟨w.heap.size + 1, 0, none⟩)] w2 (fun e w' => e = thrown c ∧ Below (w.heap.size + 1) w2 w'))
    (hM : ∀ (args : Array Value) (w : World), (callFunc M args).run Tryz.prog w = .ok (.enter M args) w) :
    Calls Tryz.prog 36 #[.slice a n cap, .int .i64 (p : Int), .func (.func M) #[] #[]] w fun e w' => e = .returned (.tuple #[(.slice none 0 0), .int .i64 0, .int .i64 (c : Int)]) ∧ Below w.heap.size w w' := by
  have hmf : ∀ (fn : Fn) (first cap : Array Value) (w : World), (Instr.makeFunc fn first cap).run Tryz.prog w = .ok (.func fn first cap) w := fun _ _ _ _ => rfl
  have R2 := rdr_new w a n cap l p hA hp
  have k2 := balloc (balloc (b0 w) (.cells #[.int .i64 0] 26)) (.cells #[.slice a n cap, .int .i64 (p : Int)] 84)
  have hc := hm _ R2 k2 (by simp [go_sem])
  have t1 : decide ((p : Int) < 0) = false := decide_eq_false (by omega)
  have t2 : decide (n < p) = false := decide_eq_false (by omega)
  have t3 : decide ((n : Int) < p) = false := decide_eq_false (by omega)
  clear hm hp hA R2
  go_enter_defers Tryz.func36, Tryz.ntmps36
  go_wp2_with fail
  refine hc.mono ?_
  rintro e w3 ⟨rfl, b3⟩
  have cE : w3.cell? ⟨w.heap.size, 0, none⟩ = some (.int .i64 0) := by rw [b3.cell (p := ⟨w.heap.size, 0, none⟩) (Nat.lt_succ_self _)]; simp [go_sem]
  have zE : w3.frozen? ⟨w.heap.size, 0, none⟩ = false := by rw [b3.frozen (p := ⟨w.heap.size, 0, none⟩) (Nat.lt_succ_self _)]; simp [go_sem]
  have b4 := (k2.trans (b3.mono (Nat.le_succ _))).setCell (p := ⟨w.heap.size, 0, none⟩) (Nat.le_refl _) (.int .i64 (c : Int))
  clear hc k2 b3 hM
  refine leaves_cons (f := 63) (args := #[.pointer (some ⟨w.heap.size, 0, none⟩)]) (by simp) (by simp [go_sem]) ?_
  refine (catch_f ⟨w.heap.size, 0, none⟩ 0 c _ cE zE).mono ?_
  rintro e u' w'' ⟨rfl, rfl, rfl⟩
  simp [Leaves, settle, results, Tryz.results36, go_sem, cE]
  exact b4

set_option maxRecDepth 100000 in
set_option maxHeartbeats 1000000 in
theorem readArg_f (M : FuncId) (a : Option Addr) (n cap : Nat) (z : Int) (w : World) (hz : z < 0 ∨ (n : Int) < z) :
    Calls Tryz.prog 36 #[.slice a n cap, .int .i64 z, .func (.func M) #[] #[]] w fun e w' => e = .returned (.tuple #[(.slice none 0 0), .int .i64 0, .int .i64 1]) ∧ Below w.heap.size w w' := by
  have hmf : ∀ (fn : Fn) (first cap : Array Value) (w : World), (Instr.makeFunc fn first cap).run Tryz.prog w = .ok (.func fn first cap) w := fun _ _ _ _ => rfl
  have cE : (w.alloc (.cells #[.int .i64 0] 26)).cell? ⟨w.heap.size, 0, none⟩ = some (.int .i64 0) := by simp [go_sem]
  have zE : (w.alloc (.cells #[.int .i64 0] 26)).frozen? ⟨w.heap.size, 0, none⟩ = false := by simp [go_sem]
  have CE := Lib.hid cE
  have ZE := Lib.hid zE
  clear cE zE
  by_cases h0 : z < 0
  · have t1 : decide (z < 0) = true := decide_eq_true h0
    clear hz h0
    go_enter_defers Tryz.func36, Tryz.ntmps36
    go_wp2_with fail
    refine leaves_cons (f := 63) (args := #[.pointer (some ⟨w.heap.size, 0, none⟩)]) (by simp) (by simp [go_sem]) ?_
    refine (catch_f ⟨w.heap.size, 0, none⟩ 0 1 _ CE.out ZE.out).mono ?_
    rintro e u' w'' ⟨rfl, rfl, rfl⟩
    simp [Leaves, settle, results, Tryz.results36, go_sem]
    exact balloc (b0 w) _
  · have t1 : decide (z < 0) = false := decide_eq_false h0
    have t2 : decide ((n : Int) < z) = true := decide_eq_true (by omega)
    clear hz h0
    go_enter_defers Tryz.func36, Tryz.ntmps36
    go_wp2_with fail
    refine leaves_cons (f := 63) (args := #[.pointer (some ⟨w.heap.size, 0, none⟩)]) (by simp) (by simp [go_sem]) ?_
    refine (catch_f ⟨w.heap.size, 0, none⟩ 0 1 _ CE.out ZE.out).mono ?_
    rintro e u' w'' ⟨rfl, rfl, rfl⟩
    simp [Leaves, settle, results, Tryz.results36, go_sem]
    exact balloc (b0 w) _
end Go.Proofs.YtnkdclodmeaihaaGreatDoor

namespace Go.Proofs.YtnkdclodmeaihaaGreatDoor
open Go.RowKit

/-! Their methods. -/
theorem enters_digits (args : Array Value) (w : World) : (callFunc 64 args).run Tryz.prog w = .ok (.enter 64 args) w := by simp [go_sem]
theorem enters_int (args : Array Value) (w : World) : (callFunc 92 args).run Tryz.prog w = .ok (.enter 92 args) w := by simp [go_sem]
theorem enters_text (args : Array Value) (w : World) : (callFunc 95 args).run Tryz.prog w = .ok (.enter 95 args) w := by simp [go_sem]
theorem enters_frame (args : Array Value) (w : World) : (callFunc 37 args).run Tryz.prog w = .ok (.enter 37 args) w := by simp [go_sem]

section
variable (B : Nat) (a : Option Addr) (n cap : Nat) (l : List Nat) (p : Nat) (w : World) (hR : Rdr w B a n cap l p)
include hR

theorem mU_ok {v k : Nat} (h : rd (l.drop p) 0 0 = .ok v k) :
    Calls Tryz.prog 64 #[.pointer (some ⟨B, 0, none⟩)] w (Mok (fun x _ => x = .int .u64 (v : Nat)) B a n cap l (p + k) w) := by
  have := digits_read B a n cap l p w hR
  rw [h] at this
  exact this.mono fun e w' ⟨h1, h2, h3⟩ => ⟨_, h1, rfl, h2, h3⟩
theorem mU_err {c : Nat} (h : rd (l.drop p) 0 0 = .err c) :
    Calls Tryz.prog 64 #[.pointer (some ⟨B, 0, none⟩)] w (fun e w' => e = thrown c ∧ Below B w w') := by
  have := digits_read B a n cap l p w hR
  rw [h] at this
  exact this
theorem mI_ok {v k : Nat} (h : rd (l.drop p) 0 0 = .ok v k) (hv : v < 18446744073709551616) :
    Calls Tryz.prog 92 #[.pointer (some ⟨B, 0, none⟩)] w (Mok (fun x _ => x = .int .i64 (unfd v)) B a n cap l (p + k) w) := by
  have c1 := mU_ok B a n cap l p w hR h
  have HV := Lib.hid hv
  clear h hR hv
  go_enter Tryz.func92, Tryz.ntmps92
  go_wp2_with fail
  refine c1.mono ?_
  rintro e w1 ⟨_, rfl, rfl, R1, b1⟩
  clear c1
  go_wp2_with fail
  refine (unfolded_any v w1 HV.out _ rfl).mono ?_
  rintro e w' ⟨rfl, rfl⟩
  go_wp2_with fail
  go_ret
  exact ⟨_, rfl, rfl, R1, b1⟩
theorem mI_err {c : Nat} (h : rd (l.drop p) 0 0 = .err c) :
    Calls Tryz.prog 92 #[.pointer (some ⟨B, 0, none⟩)] w (fun e w' => e = thrown c ∧ Below B w w') := by
  have c1 := mU_err B a n cap l p w hR h
  clear h hR
  go_enter Tryz.func92, Tryz.ntmps92
  go_wp2_with fail
  refine c1.mono ?_
  rintro e w1 ⟨rfl, b1⟩
  exact ⟨rfl, rfl, b1⟩
theorem mT_ok {v k : Nat} (h : rd (l.drop p) 0 0 = .ok v k) (hv : p + k + v ≤ n) (t : List Nat) (ht : (l.drop (p + k)).take v = t) :
    Calls Tryz.prog 95 #[.pointer (some ⟨B, 0, none⟩)] w (Mok (fun x _ => x = .string (st_of t)) B a n cap l (p + k + v) w) := by
  have c1 := mU_ok B a n cap l p w hR h
  have HT := Lib.hid ht
  clear h hR ht
  go_enter Tryz.func95, Tryz.ntmps95
  go_wp2_with fail
  refine c1.mono ?_
  rintro e w1 ⟨_, rfl, rfl, R1, b1⟩
  clear c1
  go_wp2_with fail
  refine (take_any B a n cap l (p + k) v w1 R1 hv).mono ?_
  rintro e w2 ⟨a', rfl, L2, lo2, R2, b2, _⟩
  rw [HT.out] at L2
  replace b2 := b1.trans b2
  have s1 := run_str L2.hat v v L2.hn
  clear b1 L2 lo2
  go_wp2_with fail
  go_ret
  exact ⟨_, rfl, rfl, R2, b2⟩
theorem mT_short {v k : Nat} (h : rd (l.drop p) 0 0 = .ok v k) (hv : n - (p + k) < v) :
    Calls Tryz.prog 95 #[.pointer (some ⟨B, 0, none⟩)] w (fun e w' => e = thrown 41 ∧ Below B w w') := by
  have c1 := mU_ok B a n cap l p w hR h
  clear h hR
  go_enter Tryz.func95, Tryz.ntmps95
  go_wp2_with fail
  refine c1.mono ?_
  rintro e w1 ⟨_, rfl, rfl, R1, b1⟩
  clear c1
  go_wp2_with fail
  refine (take_short B a n cap l (p + k) v w1 R1 hv).mono ?_
  rintro e w2 ⟨rfl, b2⟩
  exact ⟨rfl, rfl, b1.trans b2⟩
theorem mT_err {c : Nat} (h : rd (l.drop p) 0 0 = .err c) :
    Calls Tryz.prog 95 #[.pointer (some ⟨B, 0, none⟩)] w (fun e w' => e = thrown c ∧ Below B w w') := by
  have c1 := mU_err B a n cap l p w hR h
  clear h hR
  go_enter Tryz.func95, Tryz.ntmps95
  go_wp2_with fail
  refine c1.mono ?_
  rintro e w1 ⟨rfl, b1⟩
  exact ⟨rfl, rfl, b1⟩
/-- A payload in memory of its own, behind the block E. -/
def Own2 (E : Nat) (v : List Nat) (x : Value) (w : World) : Prop := ∃ g, x = .slice (some ⟨g, 0, none⟩) v.length v.length ∧ E < g ∧ Ow w g v.length v.length v
omit hR in
theorem Own2.apart {E : Nat} {v : List Nat} {x : Value} {w w' : World} (h : Own2 E v x w) (k : Apart E w w') : Own2 E v x w' := by
  obtain ⟨g, h1, h2, h3⟩ := h
  refine ⟨g, h1, h2, ?_⟩
  obtain ⟨⟨o1, o2⟩, o3⟩ := h3
  refine ⟨⟨o1, ?_⟩, o3⟩
  rcases o2 with h0 | ⟨g', cap, cur, e, hbg, hh, r⟩
  · exact .inl h0
  · refine .inr ⟨g', cap, cur, e, hbg, ?_, r⟩
    simp only [Value.slice.injEq, Option.some.injEq, Addr.mk.injEq] at e
    obtain ⟨⟨rfl, _⟩, _⟩ := e
    rw [k _ (Nat.ne_of_gt h2)]
    exact hh
theorem mF_ok {v : List Nat} {k : Nat} (h : rdF (l.drop p) = .ok v k) (E : Nat) (hE : E < w.heap.size) :
    Calls Tryz.prog 37 #[.pointer (some ⟨B, 0, none⟩)] w (Mok (Own2 E v) B a n cap l (p + k) w) := by
  have := frame_read B a n cap l p w hR
  rw [h] at this
  exact this.mono fun e w' ⟨g, h1, h2, h3, h4, h5⟩ => ⟨_, h1, ⟨g, rfl, Nat.lt_of_lt_of_le hE h2, h3⟩, h4, h5⟩
theorem mF_err {c : Nat} (h : rdF (l.drop p) = .err c) :
    Calls Tryz.prog 37 #[.pointer (some ⟨B, 0, none⟩)] w (fun e w' => e = thrown c ∧ Below B w w') := by
  have := frame_read B a n cap l p w hR
  rw [h] at this
  exact this
end

/-! What the functions return: the value, the offset after it, the error's code. -/
def rU (l : List Nat) (z : Int) : Nat × Nat × Nat :=
  if z < 0 ∨ (l.length : Int) < z then (0, 0, 1) else
  match rd (l.drop z.toNat) 0 0 with
  | .ok v k => (v, z.toNat + k, 0)
  | .err c => (0, 0, c)
def rI (l : List Nat) (z : Int) : Int × Nat × Nat :=
  if z < 0 ∨ (l.length : Int) < z then (0, 0, 1) else
  match rd (l.drop z.toNat) 0 0 with
  | .ok v k => (unfd v, z.toNat + k, 0)
  | .err c => (0, 0, c)
def rT (l : List Nat) (z : Int) : List Nat × Nat × Nat :=
  if z < 0 ∨ (l.length : Int) < z then ([], 0, 1) else
  match rd (l.drop z.toNat) 0 0 with
  | .ok v k => if l.length - (z.toNat + k) < v then ([], 0, 41) else ((l.drop (z.toNat + k)).take v, z.toNat + k + v, 0)
  | .err c => ([], 0, c)
def rF (l : List Nat) (z : Int) : RF :=
  if z < 0 ∨ (l.length : Int) < z then .err 1 else
  match rdF (l.drop z.toNat) with
  | .ok v k => .ok v (z.toNat + k)
  | .err c => .err c

theorem readI_any (a : Option Addr) (n cap : Nat) (l : List Nat) (z : Int) (w : World) (hA : Li w a n cap l) (v : Int) (k c : Nat) (h : rI l z = (v, k, c)) :
    Calls Tryz.prog 68 #[.slice a n cap, .int .i64 z] w fun e w' => e = .returned (.tuple #[.int .i64 v, .int .i64 (k : Nat), .int .i64 (c : Nat)]) ∧ Below w.heap.size w w' := by
  have hn := hA.hn
  have hby := hA.hat.by
  unfold rI at h
  rw [hn] at h
  by_cases hz : z < 0 ∨ (n : Int) < z
  · rw [if_pos hz] at h
    simp only [Prod.mk.injEq] at h
    obtain ⟨rfl, rfl, rfl⟩ := h
    have c1 := readArg_i 92 a n cap z w hz
    clear hz hA hn hby
    go_enter Tryz.func68, Tryz.ntmps68
    go_wp2_with fail
    refine c1.mono ?_
    rintro e w1 ⟨rfl, b1⟩
    go_wp2_with fail
    go_ret3
    exact ⟨rfl, b1⟩
  · rw [if_neg hz] at h
    obtain ⟨p, rfl⟩ : ∃ p : Nat, z = p := ⟨z.toNat, by omega⟩
    rw [Int.toNat_natCast] at h
    have hp : p ≤ n := by omega
    rcases hrd : rd (l.drop p) 0 0 with ⟨N, j⟩ | d
    · rw [hrd] at h
      obtain ⟨rest, hL, hk, hN⟩ := rd_back (hby.drop p) hrd
      simp only [Prod.mk.injEq] at h
      obtain ⟨rfl, rfl, rfl⟩ := h
      have c1 := readOk_i (fun x _ => x = .int .i64 (unfd N)) 92 a n cap l p (p + j) w hA hp (fun w2 hR _ _ => mI_ok _ a n cap l p w2 hR hrd hN) (fun _ _ _ h _ => h) enters_int
      clear hz hA hn hrd hby hp hL hk hN
      go_enter Tryz.func68, Tryz.ntmps68
      go_wp2_with fail
      refine c1.mono ?_
      rintro e w1 ⟨_, rfl, rfl, b1⟩
      clear c1
      go_wp2_with fail
      go_ret3
      exact ⟨rfl, b1⟩
    · rw [hrd] at h
      simp only [Prod.mk.injEq] at h
      obtain ⟨rfl, rfl, rfl⟩ := h
      have c1 := readErr_i d 92 a n cap l p w hA hp (fun w2 hR _ _ => mI_err _ a n cap l p w2 hR hrd) enters_int
      clear hz hA hn hrd hby hp
      go_enter Tryz.func68, Tryz.ntmps68
      go_wp2_with fail
      refine c1.mono ?_
      rintro e w1 ⟨rfl, b1⟩
      go_wp2_with fail
      go_ret3
      exact ⟨rfl, b1⟩

theorem readT_any (a : Option Addr) (n cap : Nat) (l : List Nat) (z : Int) (w : World) (hA : Li w a n cap l) (v : List Nat) (k c : Nat) (h : rT l z = (v, k, c)) :
    Calls Tryz.prog 69 #[.slice a n cap, .int .i64 z] w fun e w' => e = .returned (.tuple #[.string (st_of v), .int .i64 (k : Nat), .int .i64 (c : Nat)]) ∧ Below w.heap.size w w' := by
  have hn := hA.hn
  have hby := hA.hat.by
  unfold rT at h
  rw [hn] at h
  by_cases hz : z < 0 ∨ (n : Int) < z
  · rw [if_pos hz] at h
    simp only [Prod.mk.injEq] at h
    obtain ⟨rfl, rfl, rfl⟩ := h
    have c1 := readArg_t 95 a n cap z w hz
    clear hz hA hn hby
    go_enter Tryz.func69, Tryz.ntmps69
    go_wp2_with fail
    refine c1.mono ?_
    rintro e w1 ⟨rfl, b1⟩
    go_wp2_with fail
    go_ret3
    exact ⟨rfl, b1⟩
  · rw [if_neg hz] at h
    obtain ⟨p, rfl⟩ : ∃ p : Nat, z = p := ⟨z.toNat, by omega⟩
    rw [Int.toNat_natCast] at h
    have hp : p ≤ n := by omega
    rcases hrd : rd (l.drop p) 0 0 with ⟨N, j⟩ | d
    · rw [hrd] at h
      obtain ⟨rest, hL, hk, hN⟩ := rd_back (hby.drop p) hrd
      simp only at h
      by_cases hs : n - (p + j) < N
      · rw [if_pos hs] at h
        simp only [Prod.mk.injEq] at h
        obtain ⟨rfl, rfl, rfl⟩ := h
        have c1 := readErr_t 41 95 a n cap l p w hA hp (fun w2 hR _ _ => mT_short _ a n cap l p w2 hR hrd hs) enters_text
        clear hz hA hn hrd hby hp hL hk hN hs
        go_enter Tryz.func69, Tryz.ntmps69
        go_wp2_with fail
        refine c1.mono ?_
        rintro e w1 ⟨rfl, b1⟩
        go_wp2_with fail
        go_ret3
        exact ⟨rfl, b1⟩
      rw [if_neg hs] at h
      simp only [Prod.mk.injEq] at h
      obtain ⟨h1, rfl, rfl⟩ := h
      have hj : p + j ≤ n := by
        have : (l.drop p).length = n - p := by rw [List.length_drop, hn]
        rw [hL, List.length_append] at this
        omega
      have c1 := readOk_t (fun x _ => x = .string (st_of v)) 95 a n cap l p (p + j + N) w hA hp (fun w2 hR _ _ => mT_ok _ a n cap l p w2 hR hrd (by omega) v h1) (fun _ _ _ h _ => h) enters_text
      clear hz hA hn hrd hby hp hL hk hN h1 hs hj
      go_enter Tryz.func69, Tryz.ntmps69
      go_wp2_with fail
      refine c1.mono ?_
      rintro e w1 ⟨_, rfl, rfl, b1⟩
      clear c1
      go_wp2_with fail
      go_ret3
      exact ⟨rfl, b1⟩
    · rw [hrd] at h
      simp only [Prod.mk.injEq] at h
      obtain ⟨rfl, rfl, rfl⟩ := h
      have c1 := readErr_t d 95 a n cap l p w hA hp (fun w2 hR _ _ => mT_err _ a n cap l p w2 hR hrd) enters_text
      clear hz hA hn hrd hby hp
      go_enter Tryz.func69, Tryz.ntmps69
      go_wp2_with fail
      refine c1.mono ?_
      rintro e w1 ⟨rfl, b1⟩
      go_wp2_with fail
      go_ret3
      exact ⟨rfl, b1⟩

/-- What ReadFrame does. -/
def Rfp (w : World) (r : RF) (e : Ending) (w' : World) : Prop :=
  match r with
  | .ok v k => ∃ g, e = .returned (.tuple #[.slice (some ⟨g, 0, none⟩) v.length v.length, .int .i64 (k : Nat), .int .i64 0]) ∧ w.heap.size < g ∧ Ow w' g v.length v.length v ∧ Below w.heap.size w w'
  | .err c => e = .returned (.tuple #[.slice none 0 0, .int .i64 0, .int .i64 (c : Nat)]) ∧ Below w.heap.size w w'
theorem readF_any (a : Option Addr) (n cap : Nat) (l : List Nat) (z : Int) (w : World) (hA : Li w a n cap l) :
    Calls Tryz.prog 14 #[.slice a n cap, .int .i64 z] w (Rfp w (rF l z)) := by
  have hn := hA.hn
  unfold rF
  rw [hn]
  by_cases hz : z < 0 ∨ (n : Int) < z
  · rw [if_pos hz]
    have c1 := readArg_f 37 a n cap z w hz
    clear hz hA hn
    go_enter Tryz.func14, Tryz.ntmps14
    go_wp2_with fail
    refine c1.mono ?_
    rintro e w1 ⟨rfl, b1⟩
    go_wp2_with fail
    go_ret3
    exact ⟨rfl, b1⟩
  · rw [if_neg hz]
    obtain ⟨p, rfl⟩ : ∃ p : Nat, z = p := ⟨z.toNat, by omega⟩
    rw [Int.toNat_natCast]
    have hp : p ≤ n := by omega
    rcases hrd : rdF (l.drop p) with ⟨v, k⟩ | d
    · simp only
      have c1 := readOk_f (Own2 w.heap.size v) 37 a n cap l p (p + k) w hA hp (fun w2 hR _ hs => mF_ok _ a n cap l p w2 hR hrd w.heap.size (by omega)) (fun _ _ _ h k => h.apart k) enters_frame
      clear hz hA hn hrd hp
      go_enter Tryz.func14, Tryz.ntmps14
      go_wp2_with fail
      refine c1.mono ?_
      rintro e w1 ⟨_, rfl, ⟨g, rfl, hg, hO⟩, b1⟩
      clear c1
      go_wp2_with fail
      go_ret3
      exact ⟨g, rfl, hg, hO, b1⟩
    · simp only
      have c1 := readErr_f d 37 a n cap l p w hA hp (fun w2 hR _ _ => mF_err _ a n cap l p w2 hR hrd) enters_frame
      clear hz hA hn hrd hp
      go_enter Tryz.func14, Tryz.ntmps14
      go_wp2_with fail
      refine c1.mono ?_
      rintro e w1 ⟨rfl, b1⟩
      go_wp2_with fail
      go_ret3
      exact ⟨rfl, b1⟩
end Go.Proofs.YtnkdclodmeaihaaGreatDoor

namespace Go.Proofs.YtnkdclodmeaihaaGreatDoor
open Go.RowKit

theorem li_nil (w : World) : Li w none 0 0 [] := ⟨AtL.nil _ _, rfl, by omega, by omega, by omega, fun _ => rfl⟩
theorem ix_append (l r : List Nat) : cat (ix l) l.length (ix r) = ix (l ++ r) := by
  funext i
  unfold cat ix
  by_cases h : i < l.length
  · rw [if_pos h, List.getD_eq_getElem?_getD, List.getD_eq_getElem?_getD, List.getElem?_append_left h]
  · rw [if_neg h, List.getD_eq_getElem?_getD, List.getD_eq_getElem?_getD, List.getElem?_append_right (by omega)]

theorem rd_code (l : List Nat) (i v c : Nat) (h : rd l i v = .err c) : c = 41 ∨ c = 3 := by
  induction l generalizing i v with
  | nil => simp only [rd] at h; split at h <;> (injection h; omega)
  | cons x l ih =>
    simp only [rd] at h
    split at h
    · injection h; omega
    · split at h
      · split at h
        · injection h; omega
        · cases h
      · exact ih _ _ h

/-- An integer was read, or none. -/
theorem rU_cases (l : List Nat) (z : Int) (hl : By l) : (∃ c, rU l z = (0, 0, c) ∧ rI l z = (0, 0, c) ∧ c ≠ 0 ∧ c < 100) ∨
    (∃ p v : Nat, z = p ∧ p ≤ l.length ∧ p + (en v).length ≤ l.length ∧ (l.drop p).take (en v).length = en v ∧ v < 18446744073709551616 ∧ rU l z = (v, p + (en v).length, 0) ∧ rI l z = (unfd v, p + (en v).length, 0) ∧ rd (l.drop p) 0 0 = .ok v (en v).length) := by
  unfold rU rI
  by_cases hz : z < 0 ∨ (l.length : Int) < z
  · exact .inl ⟨1, by rw [if_pos hz], by rw [if_pos hz], by decide, by decide⟩
  · obtain ⟨p, rfl⟩ : ∃ p : Nat, z = p := ⟨z.toNat, by omega⟩
    rw [if_neg hz, if_neg hz, Int.toNat_natCast]
    rcases hrd : rd (l.drop p) 0 0 with ⟨v, k⟩ | c
    · obtain ⟨r, h1, rfl, h3⟩ := rd_back (hl.drop p) hrd
      have hlen : l.length - p = (en v).length + r.length := by rw [← List.length_drop, h1, List.length_append]
      have hp := en_pos v
      refine .inr ⟨p, v, rfl, by omega, by omega, ?_, h3, rfl, rfl, hrd⟩
      rw [h1, List.take_left]
    · refine .inl ⟨c, rfl, rfl, ?_, ?_⟩ <;> (rcases rd_code _ _ _ _ hrd with rfl | rfl <;> decide)
theorem rT_cases (l : List Nat) (z : Int) (hl : By l) : (∃ c, rT l z = ([], 0, c) ∧ c ≠ 0 ∧ c < 100) ∨
    (∃ (p : Nat) (t : List Nat), z = p ∧ p ≤ l.length ∧ p + (en t.length ++ t).length ≤ l.length ∧ (l.drop p).take (en t.length ++ t).length = en t.length ++ t ∧ rT l z = (t, p + (en t.length ++ t).length, 0)) := by
  unfold rT
  by_cases hz : z < 0 ∨ (l.length : Int) < z
  · exact .inl ⟨1, by rw [if_pos hz], by decide, by decide⟩
  · obtain ⟨p, rfl⟩ : ∃ p : Nat, z = p := ⟨z.toNat, by omega⟩
    rw [if_neg hz, Int.toNat_natCast]
    rcases hrd : rd (l.drop p) 0 0 with ⟨v, k⟩ | c
    · obtain ⟨r, h1, rfl, h3⟩ := rd_back (hl.drop p) hrd
      have hlen : l.length - p = (en v).length + r.length := by rw [← List.length_drop, h1, List.length_append]
      have hp := en_pos v
      simp only
      by_cases hs : l.length - (p + (en v).length) < v
      · exact .inl ⟨41, by rw [if_pos hs], by decide, by decide⟩
      · have hr : l.drop (p + (en v).length) = r := by rw [← List.drop_drop, h1, List.drop_left]
        have ht : (r.take v).length = v := by rw [List.length_take]; omega
        refine .inr ⟨p, r.take v, rfl, by omega, ?_, ?_, ?_⟩
        · rw [List.length_append, ht]; omega
        · rw [List.length_append, ht, h1, List.take_length_add_append]
        · rw [if_neg hs, hr, List.length_append, ht, Nat.add_assoc]
    · refine .inl ⟨c, rfl, ?_, ?_⟩ <;> (rcases rd_code _ _ _ _ hrd with rfl | rfl <;> decide)

/-- b[p:p+j], at least one byte. -/
theorem cut_any {w : World} {a : Option Addr} {n cap : Nat} {l : List Nat} (h : Li w a n cap l) (p j : Nat) (hj : 1 ≤ j) (hn : p + j ≤ n) :
    ∃ a', AtL w a' ((l.drop p).take j) ∧ ((l.drop p).take j).length = j ∧ ∀ (w' : World) (P K : Int), P = p → K = (p + j : Nat) → (Instr.slice 32 (.slice a n cap) (some (.int .i64 P)) (some (.int .i64 K)) none).run Tryz.prog w' = .ok (.slice a' j (cap - p)) w' := by
  have hln := h.hn
  have hcap := h.hcap
  have hlen : ((l.drop p).take j).length = j := by rw [List.length_take, List.length_drop]; omega
  rcases h.hat.1 with h0 | ⟨b, off, rfl, hB⟩
  · omega
  · refine ⟨some ⟨b, off + p, none⟩, h.hat.cut p j, hlen, ?_⟩
    rintro w' P K rfl rfl
    have s2 : ((p + j : Nat) : Int) ≤ cap := by omega
    have hne : ¬ cap = p := by omega
    simp only [Int.natCast_add] at s2
    have s3 : (0 : Int) ≤ p + j := by omega
    have s4 : ((p : Int) + j).toNat = p + j := by omega
    simp [go_sem, s2, hne, s3, s4]

theorem rU_short {n j : Nat} (hn : n < 18446744073709551616) (hj : j < (en n).length) : rU ((en n).take j) 0 = (0, 0, 41) := by
  unfold rU
  rw [if_neg (by omega), show (0 : Int).toNat = 0 from rfl, List.drop_zero, rd_short hn hj]
theorem rT_short {t : List Nat} {j : Nat} (ht : t.length < 18446744073709551616) (hj : j < (en t.length ++ t).length) : rT ((en t.length ++ t).take j) 0 = ([], 0, 41) := by
  unfold rT
  rw [if_neg (by omega), show (0 : Int).toNat = 0 from rfl, List.drop_zero]
  by_cases h : j < (en t.length).length
  · rw [List.take_append_of_le_length (Nat.le_of_lt h), rd_short ht h]
  · obtain ⟨i, rfl⟩ : ∃ i, j = (en t.length).length + i := ⟨j - (en t.length).length, by omega⟩
    rw [List.take_length_add_append, rd_en ht]
    rw [List.length_append] at hj
    simp only
    rw [if_pos]
    rw [List.length_append, List.length_take]
    omega
theorem li_take {w : World} {g j c : Nat} {l : List Nat} (h : AtL w (some ⟨g, 0, none⟩) l) (hj : j ≤ l.length) (hc : j ≤ c) (hm : c ≤ 9223372036854775807) (hl : j ≤ 281474976710656) : Li w (some ⟨g, 0, none⟩) j c (l.take j) := by
  have := h.cut 0 j
  rw [List.drop_zero] at this
  exact ⟨this, by rw [List.length_take]; omega, hc, hm, hl, fun h => by cases h⟩
theorem at_len (l r : List Nat) : ¬ ((l.length : Int) < 0 ∨ ((l ++ r).length : Int) < (l.length : Int)) := by
  rw [List.length_append]; omega
theorem rU_back (l r : List Nat) {v : Nat} (hv : v < 18446744073709551616) : rU (l ++ (en v ++ r)) (l.length : Int) = (v, l.length + (en v).length, 0) := by
  unfold rU
  rw [if_neg (at_len _ _), Int.toNat_natCast, List.drop_left, rd_en hv]
theorem rI_back (l r : List Nat) {z : Int} (h1 : -9223372036854775808 ≤ z) (h2 : z ≤ 9223372036854775807) : rI (l ++ (en (fold z) ++ r)) (l.length : Int) = (z, l.length + (en (fold z)).length, 0) := by
  unfold rI
  rw [if_neg (at_len _ _), Int.toNat_natCast, List.drop_left, rd_en (fold_lt h1 h2)]
  show (unfd (fold z), l.length + (en (fold z)).length, 0) = _
  rw [unfd_fold]
theorem rT_back (l t r : List Nat) (ht : t.length < 18446744073709551616) : rT (l ++ (en t.length ++ (t ++ r))) (l.length : Int) = (t, l.length + (en t.length).length + t.length, 0) := by
  unfold rT
  rw [if_neg (at_len _ _), Int.toNat_natCast, List.drop_left, rd_en ht]
  simp only
  rw [if_neg (by simp only [List.length_append]; omega), ← List.drop_drop, List.drop_left, List.drop_left, List.take_left]
theorem rF_back (l t r : List Nat) (ht : t.length ≤ 8192) : rF (l ++ (en t.length ++ (t ++ (le4 (cs t) ++ r)))) (l.length : Int) = .ok t (l.length + ((en t.length).length + t.length + 4)) := by
  have h4 : (le4 (cs t)).length = 4 := rfl
  have hF : rdF (en t.length ++ (t ++ (le4 (cs t) ++ r))) = .ok t ((en t.length).length + t.length + 4) := by
    unfold rdF
    rw [rd_en (by omega)]
    simp only
    rw [if_neg (by omega), if_neg (by simp only [List.length_append, h4]; omega), ← List.drop_drop, List.drop_left, List.drop_left, List.take_left, show List.take 4 (le4 (cs t) ++ r) = le4 (cs t) from by rw [← h4, List.take_left], if_pos rfl]
  unfold rF
  rw [if_neg (at_len _ _), Int.toNat_natCast, List.drop_left, hF]
/-- []byte(s). -/
theorem bytes_of_str (w : World) (s : ByteArray) (hs : s.size ≤ 281474976710656) : ∃ w' c, (convert 9 32 (.string s)).run Tryz.prog w = .ok (.slice (some ⟨w.heap.size, 0, none⟩) s.size c) w' ∧ Li w' (some ⟨w.heap.size, 0, none⟩) s.size c (sl s) ∧ Below w.heap.size w w' := by
  refine ⟨Lib.bytesWorld w 5 s, grownCap w s.size 0 5, Lib.run_convert_string_bytes w 9 32 5 s Tryz.underlying9 Tryz.underlying32 Tryz.underlying5, ⟨⟨.inr ⟨_, _, rfl, fun j hj => ?_⟩, (by_sl s).ix⟩, sl_length s, grownCap_ge _ _ _ _, ?_, hs, fun h => by cases h⟩, ?_⟩
  · rw [sl_length] at hj
    rw [Nat.zero_add, Lib.bytesWorld_cell w 5 s j hj]
    unfold ix sl
    simp only [List.getD_eq_getElem?_getD, List.getElem?_map]
    cases s.data.toList[j]? <;> rfl
  · have := grownCap_le_maxLen w s.size 0 5 (by unfold maxLen; omega)
    unfold maxLen at this
    omega
  · refine ⟨rfl, rfl, rfl, ?_, fun j hj => Lib.bytesWorld_at_old w 5 s j hj⟩
    rw [Lib.bytesWorld_size]
    omega
theorem str_li {w : World} {a : Option Addr} {n c : Nat} {l : List Nat} (h : Li w a n c l) (s : ByteArray) (hs : l = sl s) : (convert 32 9 (.slice a n c)).run Tryz.prog w = .ok (.string s) w := by
  have := run_str h.hat n c h.hn
  rw [hs, st_of_sl] at this
  exact this

end Go.Proofs.YtnkdclodmeaihaaGreatDoor
