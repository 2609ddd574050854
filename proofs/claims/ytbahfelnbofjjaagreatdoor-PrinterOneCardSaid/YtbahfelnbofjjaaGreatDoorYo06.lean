/-
  The parser's steps, with as many steps as it takes; Every expression of proper form is read back from its pieces; Every expression of proper form is read back from its pieces: nodes, rows, the whole; The statement on different texts, walked
-/
import Derived.Test.YtbahfelnbofjjaaGreatDoorQ14
import Derived.Test.YtbahfelnbofjjaaGreatDoorQ15
import Derived.Test.YtbahfelnbofjjaaGreatDoorYo01
import Derived.Test.YtbahfelnbofjjaaGreatDoorYo05
namespace Go.Proofs.YtbahfelnbofjjaaGreatDoor.ch
open Go.RowKit dec

theorem okb {α β : Type} (v : α) (r : List Tk) (g : α → List Tk → Rs β) : (Rs.ok v r).bind g = g v r := rfl
/-- The parser leads from a list to an expression and what is left, if it has enough steps. -/
def Lo (i : Bool) (m : Md) (l : List Tk) (x : Ex) (r : List Tk) : Prop := ∃ f0, ∀ f, f0 ≤ f → pz f i m l = .ok x r
theorem lo_step {i : Bool} {m : Md} {l : List Tk} {x : Ex} {r : List Tk} (f0 : Nat) (h : ∀ f, f0 ≤ f → pz (f + 1) i m l = .ok x r) : Lo i m l x r :=
  ⟨f0 + 1, fun f hf => by
    obtain ⟨g, rfl⟩ : ∃ g, f = g + 1 := ⟨f - 1, by omega⟩
    exact h g (by omega)⟩
variable {i : Bool} {l r r1 r2 r' : List Tk} {x y z : Ex} {least n : Nat}
theorem lo_if (h1 : isT ⟨#[105, 102]⟩ l = true) (e1 : Lo i .ex l.tail x r) (h2 : isT ⟨#[116, 104, 101, 110]⟩ r = true) (e2 : Lo i .ex r.tail y r1) (h3 : isT ⟨#[101, 108, 115, 101]⟩ r1 = true) (e3 : Lo i .ex r1.tail z r2) : Lo i .ex l (ifE x y z) r2 := by
  obtain ⟨f1, e1⟩ := e1
  obtain ⟨f2, e2⟩ := e2
  obtain ⟨f3, e3⟩ := e3
  refine lo_step (f1 + f2 + f3) fun f hf => ?_
  simp only [pz]
  rw [if_pos h1, e1 f (by omega)]
  show (need ⟨#[116, 104, 101, 110]⟩ r).bind _ = _
  rw [need_hit h2]
  show (pz f i .ex r.tail).bind _ = _
  rw [e2 f (by omega)]
  show (need ⟨#[101, 108, 115, 101]⟩ r1).bind _ = _
  rw [need_hit h3]
  show (pz f i .ex r1.tail).bind _ = _
  rw [e3 f (by omega)]
  rfl
theorem lo_ex (h1 : isT ⟨#[105, 102]⟩ l = false) (e : Lo i (.op 0) l x r) : Lo i .ex l x r := by
  obtain ⟨f1, e⟩ := e
  refine lo_step f1 fun f hf => ?_
  simp only [pz]
  rw [if_neg (nt h1)]
  exact e f hf
theorem lo_not (h1 : least ≤ 3) (h2 : isT ⟨#[110, 111, 116]⟩ l = true) (e1 : Lo i (.op 3) l.tail x r) (e2 : Lo i (.tl least 3 (unaE ⟨#[110, 111, 116]⟩ x)) r y r') : Lo i (.op least) l y r' := by
  obtain ⟨f1, e1⟩ := e1
  obtain ⟨f2, e2⟩ := e2
  refine lo_step (f1 + f2) fun f hf => ?_
  simp only [pz]
  rw [if_pos ⟨h1, h2⟩, e1 f (by omega)]
  exact e2 f (by omega)
theorem lo_op (h2 : isT ⟨#[110, 111, 116]⟩ l = false) (e1 : Lo i .ng l x r) (e2 : Lo i (.tl least 6 x) r y r') : Lo i (.op least) l y r' := by
  obtain ⟨f1, e1⟩ := e1
  obtain ⟨f2, e2⟩ := e2
  refine lo_step (f1 + f2) fun f hf => ?_
  simp only [pz]
  rw [if_neg (fun h => nt h2 h.2), e1 f (by omega)]
  exact e2 f (by omega)
theorem lo_end (h : n ≤ least) : Lo i (.tl least n x) l x l := by
  refine lo_step 0 fun f _ => ?_
  simp only [pz]
  rw [if_pos h]
theorem lo_down (h : least < n) (h2 : opr (n - 1) l = .empty) (e : Lo i (.tl least (n - 1) x) l y r) : Lo i (.tl least n x) l y r := by
  obtain ⟨f1, e⟩ := e
  refine lo_step f1 fun f hf => ?_
  simp only [pz]
  rw [if_neg (by omega), if_pos h2]
  exact e f hf
theorem lo_more {op : ByteArray} (h : least < n) (h2 : opr (n - 1) l = op) (h3 : op ≠ .empty) (e1 : Lo i (.op n) l.tail y r) (e2 : Lo i (.tl least (if n = 4 then 3 else n) (binE op x y)) r z r') : Lo i (.tl least n x) l z r' := by
  obtain ⟨f1, e1⟩ := e1
  obtain ⟨f2, e2⟩ := e2
  refine lo_step (f1 + f2) fun f hf => ?_
  simp only [pz]
  rw [if_neg (by omega), if_neg (by rw [h2]; exact h3), e1 f (by omega), h2]
  exact e2 f (by omega)
theorem lo_neg (h : isT ⟨#[45]⟩ l = true) (e : Lo i .ng l.tail x r) : Lo i .ng l (unaE ⟨#[45]⟩ x) r := by
  obtain ⟨f1, e⟩ := e
  refine lo_step f1 fun f hf => ?_
  simp only [pz]
  rw [if_pos h, e f hf]
  rfl
theorem lo_ng (h : isT ⟨#[45]⟩ l = false) (e : Lo i .pr l x r) : Lo i .ng l x r := by
  obtain ⟨f1, e⟩ := e
  refine lo_step f1 fun f hf => ?_
  simp only [pz]
  rw [if_neg (nt h)]
  exact e f hf
theorem lo_pa (h : isT ⟨#[40]⟩ l = true) (e : Lo i .ex l.tail x r) (h2 : isT ⟨#[41]⟩ r = true) : Lo i .pa l x r.tail := by
  obtain ⟨f1, e⟩ := e
  refine lo_step f1 fun f hf => ?_
  simp only [pz]
  rw [need_hit h]
  show (pz f i .ex l.tail).bind _ = _
  rw [e f hf]
  show (need ⟨#[41]⟩ r).bind _ = _
  rw [need_hit h2]
  rfl
theorem lo_look {m : ByteArray} (hm : name m = true) (a : Int) (h : isT ⟨#[111, 102]⟩ l = true) (e : Lo i .pa l.tail x r) : Lo i .rf (⟨1, m, a⟩ :: l) (looE m x) r := by
  obtain ⟨f1, e⟩ := e
  refine lo_step f1 fun f hf => ?_
  simp only [pz]
  rw [nam_hit hm]
  show (if isT ⟨#[111, 102]⟩ l = true then (pz f i .pa l.tail).bind fun x r => .ok (looE m x) r else .ok (feaE m) l) = _
  rw [if_pos h, e f hf]
  rfl
theorem lo_feat {m : ByteArray} (hm : name m = true) (a : Int) (h : isT ⟨#[111, 102]⟩ l = false) : Lo i .rf (⟨1, m, a⟩ :: l) (feaE m) l := by
  refine lo_step 0 fun f hf => ?_
  simp only [pz]
  rw [nam_hit hm]
  show (if isT ⟨#[111, 102]⟩ l = true then (pz f i .pa l.tail).bind fun x r => .ok (looE m x) r else .ok (feaE m) l) = _
  rw [if_neg (nt h)]

/-! What begins with a word or a sign. -/
theorem pr_w (f : Nat) (h2 : (hd l).k ≠ 2) (h3 : (hd l).k ≠ 3) (h4 : (hd l).k ≠ 4) : pz (f + 1) i .pr l =
    if isT ⟨#[116, 114, 117, 101]⟩ l = true then .ok (booE 1) l.tail
    else if isT ⟨#[102, 97, 108, 115, 101]⟩ l = true then .ok (booE 0) l.tail
    else if isT ⟨#[64]⟩ l = true then key l
    else if isT ⟨#[110, 117, 108, 108]⟩ l = true then (pz f i .pa l.tail).bind fun x r => .ok (unaE ⟨#[110, 117, 108, 108]⟩ x) r
    else if isT ⟨#[40]⟩ l = true then pz f i .pa l
    else if i = true then (nam l).bind fun n r => .ok (fieE n) r
    else if agg (hd l).t = true then pz f i .ag l
    else pz f i .rf l := by
  simp only [pz]
  rw [if_neg h2, if_neg h3, if_neg h4]
theorem lo_null (a : Int) (e : Lo i .pa l x r) : Lo i .pr (⟨1, ⟨#[110, 117, 108, 108]⟩, a⟩ :: l) (unaE ⟨#[110, 117, 108, 108]⟩ x) r := by
  obtain ⟨f1, e⟩ := e
  refine lo_step f1 fun f hf => ?_
  rw [pr_w f (by show ¬ (1 : Int) = 2; decide) (by show ¬ (1 : Int) = 3; decide) (by show ¬ (1 : Int) = 4; decide)]
  show (pz f i .pa l).bind (fun x r => Rs.ok (unaE ⟨#[110, 117, 108, 108]⟩ x) r) = Rs.ok (unaE ⟨#[110, 117, 108, 108]⟩ x) r
  rw [e f hf]
  rfl
theorem lo_paren (a : Int) (e : Lo i .ex l x r) (h2 : isT ⟨#[41]⟩ r = true) : Lo i .pr (⟨5, ⟨#[40]⟩, a⟩ :: l) x r.tail := by
  obtain ⟨f1, e⟩ := lo_pa (l := ⟨5, ⟨#[40]⟩, a⟩ :: l) rfl e h2
  refine lo_step f1 fun f hf => ?_
  rw [pr_w f (by show ¬ (5 : Int) = 2; decide) (by show ¬ (5 : Int) = 3; decide) (by show ¬ (5 : Int) = 4; decide)]
  show pz f i .pa (⟨5, ⟨#[40]⟩, a⟩ :: l) = _
  exact e f hf
theorem name_fls : name ⟨#[102, 97, 108, 115, 101]⟩ = false := by kernel_rfl
theorem name_at : name ⟨#[64]⟩ = false := by kernel_rfl
theorem name_nul : name ⟨#[110, 117, 108, 108]⟩ = false := by kernel_rfl
theorem name_par : name ⟨#[40]⟩ = false := by kernel_rfl
theorem name_not : name ⟨#[110, 111, 116]⟩ = false := by kernel_rfl
theorem name_if : name ⟨#[105, 102]⟩ = false := by kernel_rfl
theorem name_min : name ⟨#[45]⟩ = false := by kernel_rfl
theorem agg_ops : ([(⟨#[99, 111, 117, 110, 116]⟩ : ByteArray), ⟨#[115, 117, 109]⟩, ⟨#[109, 101, 97, 110]⟩, ⟨#[109, 105, 110]⟩, ⟨#[109, 97, 120]⟩, ⟨#[102, 105, 114, 115, 116]⟩, ⟨#[108, 97, 115, 116]⟩, ⟨#[100, 105, 115, 116, 105, 110, 99, 116]⟩, ⟨#[113, 117, 97, 110, 116, 105, 108, 101]⟩, ⟨#[100, 101, 99, 97, 121]⟩].all fun t => !name t) = true := by kernel_rfl
theorem agg_name {m : ByteArray} (h : name m = true) : agg m = false := by
  cases ha : agg m with
  | false => rfl
  | true =>
    unfold agg at ha
    rw [List.any_eq_true] at ha
    obtain ⟨t, ht, e⟩ := ha
    rw [decide_eq_true_eq] at e
    subst e
    have := List.all_eq_true.1 agg_ops _ ht
    rw [h] at this
    cases this
theorem pr_nm (f : Nat) {m : ByteArray} (hm : name m = true) (a : Int) : pz (f + 1) i .pr (⟨1, m, a⟩ :: l) = if i = true then .ok (fieE m) l else pz f i .rf (⟨1, m, a⟩ :: l) := by
  rw [pr_w f (by show ¬ (1 : Int) = 2; decide) (by show ¬ (1 : Int) = 3; decide) (by show ¬ (1 : Int) = 4; decide)]
  rw [if_neg (nt (nm_no hm name_tru a l)), if_neg (nt (nm_no hm name_fls a l)), if_neg (nt (nm_no hm name_at a l)), if_neg (nt (nm_no hm name_nul a l)), if_neg (nt (nm_no hm name_par a l))]
  rw [nam_hit hm, if_neg (nt (show agg (hd (⟨1, m, a⟩ :: l)).t = false from agg_name hm))]
  rfl
theorem lo_field {m : ByteArray} (hm : name m = true) (a : Int) : Lo true .pr (⟨1, m, a⟩ :: l) (fieE m) l :=
  lo_step 0 fun f _ => by rw [pr_nm f hm, if_pos rfl]
theorem lo_ref {m : ByteArray} (hm : name m = true) (a : Int) (e : Lo false .rf (⟨1, m, a⟩ :: l) x r) : Lo false .pr (⟨1, m, a⟩ :: l) x r := by
  obtain ⟨f1, e⟩ := e
  refine lo_step f1 fun f hf => ?_
  rw [pr_nm f hm, if_neg (by decide)]
  exact e f hf
theorem ag_w {op : ByteArray} {p : Int} (h : parH op p = true) : agg op = true ∧ op ≠ ⟨#[116, 114, 117, 101]⟩ ∧ op ≠ ⟨#[102, 97, 108, 115, 101]⟩ ∧ op ≠ ⟨#[64]⟩ ∧ op ≠ ⟨#[110, 117, 108, 108]⟩ ∧ op ≠ ⟨#[40]⟩ ∧ op ≠ ⟨#[45]⟩ ∧ op ≠ ⟨#[110, 111, 116]⟩ ∧ op ≠ ⟨#[105, 102]⟩ := by
  rcases par_op h with ⟨h, _⟩ | ⟨h, _⟩
  · rcases h with rfl | rfl | rfl | rfl | rfl | rfl | rfl | rfl <;> decide
  · rcases h with rfl | rfl <;> decide
theorem lo_agg {op : ByteArray} {p : Int} (hp : parH op p = true) (a : Int) (e : Lo false .ag (⟨1, op, a⟩ :: l) x r) : Lo false .pr (⟨1, op, a⟩ :: l) x r := by
  obtain ⟨f1, e⟩ := e
  obtain ⟨h0, h1, h2, h3, h4, h5, _⟩ := ag_w hp
  refine lo_step f1 fun f hf => ?_
  rw [pr_w f (by show ¬ (1 : Int) = 2; decide) (by show ¬ (1 : Int) = 3; decide) (by show ¬ (1 : Int) = 4; decide)]
  simp only [isT_w]
  rw [if_neg (by simpa using h1), if_neg (by simpa using h2), if_neg (by simpa using h3), if_neg (by simpa using h4), if_neg (by simpa using h5), if_neg (by decide), if_pos (show agg (hd (⟨1, op, a⟩ :: l)).t = true from h0)]
  exact e f hf
theorem lo_int {u : List un.Fa} {v : Int} (h1 : 0 ≤ v) (h2 : v ≤ 1152921504606846976) (hu : uni l = .ok u r) (a : Int) : Lo i .pr (⟨2, ⟨(Lib.itoa v).toArray⟩, a⟩ :: l) (litE 2 v u) r := by
  refine lo_step 0 fun f _ => ?_
  simp only [pz]
  rw [if_pos (show (hd (⟨2, ⟨(Lib.itoa v).toArray⟩, a⟩ :: l)).k = 2 from rfl), int_hit h1 h2, okb, hu]
  rfl
theorem lo_dec {u : List un.Fa} {v : Int} (h1 : 0 ≤ v) (h2 : v ≤ 1152921504606846976) (hu : uni l = .ok u r) (a : Int) : Lo i .pr (⟨3, ⟨(foX v).toArray⟩, a⟩ :: l) (litE 3 v u) r := by
  refine lo_step 0 fun f _ => ?_
  simp only [pz]
  rw [if_neg (by show ¬ (3 : Int) = 2; decide), if_pos (show (hd (⟨3, ⟨(foX v).toArray⟩, a⟩ :: l)).k = 3 from rfl), deci_hit h1 h2, okb, hu]
  rfl
theorem lo_text (s : ByteArray) (a : Int) : Lo i .pr (⟨4, s, a⟩ :: l) (texE s) l := by
  refine lo_step 0 fun f _ => ?_
  simp only [pz]
  rw [if_neg (by show ¬ (4 : Int) = 2; decide), if_neg (by show ¬ (4 : Int) = 3; decide), if_pos (show (hd (⟨4, s, a⟩ :: l)).k = 4 from rfl), tak_hit]
  rfl
theorem lo_key {m s : ByteArray} (hm : name m = true) (hs : ck ⟨5, 0, s⟩ = 0) (a b c : Int) : Lo i .pr (⟨5, ⟨#[64]⟩, a⟩ :: ⟨1, m, b⟩ :: ⟨4, s, c⟩ :: l) (keyE m s) l := by
  refine lo_step 0 fun f _ => ?_
  rw [pr_w f (by show ¬ (5 : Int) = 2; decide) (by show ¬ (5 : Int) = 3; decide) (by show ¬ (5 : Int) = 4; decide)]
  show key (⟨5, ⟨#[64]⟩, a⟩ :: ⟨1, m, b⟩ :: ⟨4, s, c⟩ :: l) = _
  unfold key nma
  rw [need_hit rfl, okb]
  show ((nam (⟨1, m, b⟩ :: ⟨4, s, c⟩ :: l)).bind fun n r => (tak 4 r).bind fun s r' => if ck ⟨5, 0, s⟩ = 0 then Rs.ok (keyE n s) r' else .no (hd r).a 3 r') = _
  rw [nam_hit hm, okb, tak_hit, okb, if_pos hs]
theorem lo_boo {n : Int} (h : n = 0 ∨ n = 1) (a : Int) : Lo i .pr (⟨1, if n = 1 then ⟨#[116, 114, 117, 101]⟩ else ⟨#[102, 97, 108, 115, 101]⟩, a⟩ :: l) (booE n) l := by
  refine lo_step 0 fun f _ => ?_
  rw [pr_w f (by show ¬ (1 : Int) = 2; decide) (by show ¬ (1 : Int) = 3; decide) (by show ¬ (1 : Int) = 4; decide)]
  rcases h with rfl | rfl
  · rfl
  · rfl
/-- An aggregate: its argument, its parameter, its window, its condition. -/
theorem lo_ag {op t : ByteArray} {p wk ws : Int} (ht : name t = true) (hw : winH wk ws = true) (hp : parH op p = true) {l1 l2 l3 : List Tk} {c : Ex}
    (e1 : (op = ⟨#[99, 111, 117, 110, 116]⟩ ∧ l = l1 ∧ x = booE 1) ∨ (op ≠ ⟨#[99, 111, 117, 110, 116]⟩ ∧ Lo true .ex l x (⟨5, ⟨#[44]⟩, 0⟩ :: l1)))
    (e2 : l1 = (if op = ⟨#[113, 117, 97, 110, 116, 105, 108, 101]⟩ ∨ op = ⟨#[100, 101, 99, 97, 121]⟩ then [⟨2, ⟨(Lib.itoa p).toArray⟩, 0⟩, ⟨5, ⟨#[44]⟩, 0⟩] else []) ++ (tkl (wiK wk ws) ++ l2))
    (e3 : (l2 = l3 ∧ c = booE 1 ∧ isT ⟨#[119, 104, 101, 114, 101]⟩ l3 = false) ∨ (isT ⟨#[119, 104, 101, 114, 101]⟩ l2 = true ∧ Lo true .ex l2.tail c l3)) (h3 : isT ⟨#[41]⟩ l3 = true) :
    Lo false .ag (⟨1, op, 0⟩ :: ⟨5, ⟨#[40]⟩, 0⟩ :: ⟨1, t, 0⟩ :: ⟨5, ⟨#[44]⟩, 0⟩ :: l) (aggE op t p (wk, ws) x c) l3.tail := by
  have e1' : ∃ f1, ∀ f, f1 ≤ f → (if op = ⟨#[99, 111, 117, 110, 116]⟩ then .ok (booE 1) l else (pz f true .ex l).bind fun x r => (need ⟨#[44]⟩ r).bind fun _ r => .ok x r) = Rs.ok x l1 := by
    rcases e1 with ⟨h, rfl, rfl⟩ | ⟨h, f1, e1⟩
    · exact ⟨0, fun f _ => by rw [if_pos h]⟩
    · refine ⟨f1, fun f hf => ?_⟩
      rw [if_neg h, e1 f hf, okb, need_hit rfl]
      rfl
  have e2' : (if op = ⟨#[113, 117, 97, 110, 116, 105, 108, 101]⟩ ∨ op = ⟨#[100, 101, 99, 97, 121]⟩ then (int l1).bind fun n r => (need ⟨#[44]⟩ r).bind fun _ r => .ok n r else .ok 0 l1) = Rs.ok p (tkl (wiK wk ws) ++ l2) := by
    rw [e2]
    rcases par_op hp with ⟨h, rfl⟩ | ⟨h, h1, h2⟩
    · have hq : ¬ (op = ⟨#[113, 117, 97, 110, 116, 105, 108, 101]⟩ ∨ op = ⟨#[100, 101, 99, 97, 121]⟩) := by rcases h with rfl | rfl | rfl | rfl | rfl | rfl | rfl | rfl <;> decide
      rw [if_neg hq, if_neg hq]
      rfl
    · rw [if_pos h, if_pos h]
      show (int (⟨2, ⟨(Lib.itoa p).toArray⟩, 0⟩ :: ⟨5, ⟨#[44]⟩, 0⟩ :: (tkl (wiK wk ws) ++ l2))).bind _ = _
      rw [int_hit (by omega) (by omega), okb, need_hit rfl]
      rfl
  have e3' : ∃ f3, ∀ f, f3 ≤ f → (if isT ⟨#[119, 104, 101, 114, 101]⟩ l2 = true then pz f true .ex l2.tail else .ok (booE 1) l2) = Rs.ok c l3 := by
    rcases e3 with ⟨rfl, rfl, h⟩ | ⟨h, f3, e3⟩
    · exact ⟨0, fun f _ => by rw [if_neg (nt h)]⟩
    · exact ⟨f3, fun f hf => by rw [if_pos h, e3 f hf]⟩
  obtain ⟨f1, e1⟩ := e1'
  obtain ⟨f3, e3⟩ := e3'
  refine lo_step (f1 + f3) fun f hf => ?_
  simp only [pz]
  rw [tak_hit, okb, need_hit rfl, okb]
  show (nam (⟨1, t, 0⟩ :: ⟨5, ⟨#[44]⟩, 0⟩ :: l)).bind _ = _
  rw [nam_hit ht, okb, need_hit rfl, okb]
  show (if op = ⟨#[99, 111, 117, 110, 116]⟩ then .ok (booE 1) l else (pz f true .ex l).bind fun x r => (need ⟨#[44]⟩ r).bind fun _ r => .ok x r).bind _ = _
  rw [e1 f (by omega), okb, e2', okb, win_hit hw, okb, e3 f (by omega), okb, need_hit h3]
  rfl
end Go.Proofs.YtbahfelnbofjjaaGreatDoor.ch
namespace Go.Proofs.YtbahfelnbofjjaaGreatDoor.ch
open Go.RowKit dec

/-- No operator of a rank from n on follows. -/
def NoOp (n : Nat) (r : List Tk) : Prop := ∀ k, n ≤ k → k < 6 → opr k r = .empty
structure Stp (r : List Tk) : Prop where
  sq : isT ⟨#[91]⟩ r = false
  of : isT ⟨#[111, 102]⟩ r = false
structure Fin' (r : List Tk) : Prop where
  s : Stp r
  n : NoOp 0 r
theorem NoOp.mono {n m : Nat} {r : List Tk} (h : NoOp n r) (hm : n ≤ m) : NoOp m r := fun k h1 h2 => h k (by omega) h2
/-- The rank that the parser asks for. -/
def rnk : Nat → Int
  | 0 => 1
  | 1 => 2
  | 2 => 3
  | 3 => 4
  | 4 => 6
  | 5 => 7
  | _ => 8
/-- Which operators may follow an expression of a rank. -/
def tpR (q : Int) : Nat := if 7 ≤ q then 6 else if q = 6 then 5 else if 3 ≤ q then 3 else if q = 2 then 2 else if q = 1 then 1 else 0
def tpq (h q : Int) : Nat := if h < q then 6 else tpR h
theorem tpR_le (q : Int) : tpR q ≤ 6 := by unfold tpR; repeat (first | omega | split)
theorem tpq_le (h q : Int) : tpq h q ≤ 6 := by
  unfold tpq
  split
  · omega
  · exact tpR_le h
theorem rnk_pos (n : Nat) : 1 ≤ rnk n := by unfold rnk; split <;> omega
variable {i : Bool} {x : Ex} {K : List Pc}
theorem lo_fall {l r : List Tk} {z : Ex} {least n : Nat} (h1 : least ≤ n) (hn : NoOp n l) (e : Lo i (.tl least n x) l z r) : ∀ d, n + d ≤ 6 → Lo i (.tl least (n + d) x) l z r
  | 0, _ => e
  | d + 1, hd => lo_down (by omega) (hn _ (by omega) (by omega)) (lo_fall h1 hn e d (by omega))
theorem lo_to {l r : List Tk} {z : Ex} {least n m : Nat} (h1 : least ≤ n) (h2 : n ≤ m) (h3 : m ≤ 6) (hn : NoOp n l) (e : Lo i (.tl least n x) l z r) : Lo i (.tl least m x) l z r := by
  obtain ⟨d, rfl⟩ : ∃ d, m = n + d := ⟨m - n, by omega⟩
  exact lo_fall h1 hn e d h3
theorem lo_fin {l : List Tk} {least m : Nat} (h3 : m ≤ 6) (hn : NoOp least l) : Lo i (.tl least m x) l x l := by
  by_cases h : m ≤ least
  · exact lo_end h
  · exact lo_to (Nat.le_refl _) (by omega) h3 hn (lo_end (Nat.le_refl _))

/-- An expression is read back from its pieces. -/
structure Prs (i : Bool) (K : List Pc) (x : Ex) : Prop where
  ex : ∀ r, Fin' r → Lo i .ex (tkl K ++ r) x r
  op : ∀ (least : Nat) (r : List Tk) (z : Ex) (r' : List Tk), rnk least ≤ rk x.h → Stp r → NoOp (tpR (rk x.h)) r → Lo i (.tl least (tpR (rk x.h)) x) r z r' → Lo i (.op least) (tkl K ++ r) z r'
  ng : 8 ≤ rk x.h → ∀ r, Stp r → Lo i .ng (tkl K ++ r) x r
  nif : 1 ≤ rk x.h → ∀ r, isT ⟨#[105, 102]⟩ (tkl K ++ r) = false
  tru : truH x.h = true → x = booE 1
theorem ex_of_op {i : Bool} {K : List Pc} {x : Ex} (hr : 1 ≤ rk x.h) (h : ∀ r, isT ⟨#[105, 102]⟩ (tkl K ++ r) = false)
    (op : ∀ (least : Nat) (r : List Tk) (z : Ex) (r' : List Tk), rnk least ≤ rk x.h → Stp r → NoOp (tpR (rk x.h)) r → Lo i (.tl least (tpR (rk x.h)) x) r z r' → Lo i (.op least) (tkl K ++ r) z r') (r : List Tk) (hF : Fin' r) : Lo i .ex (tkl K ++ r) x r :=
  lo_ex (h r) (op 0 r x r hr hF.s (hF.n.mono (by omega)) (lo_fin (tpR_le _) hF.n))
/-- What stands in no need of parentheses. -/
theorem prs_ng {i : Bool} {K : List Pc} {x : Ex} (hr : 8 ≤ rk x.h) (h1 : ∀ r, isT ⟨#[105, 102]⟩ (tkl K ++ r) = false) (h2 : ∀ r, isT ⟨#[110, 111, 116]⟩ (tkl K ++ r) = false)
    (h : ∀ r, Stp r → Lo i .ng (tkl K ++ r) x r) (ht : truH x.h = true → x = booE 1) : Prs i K x := by
  have ht6 : tpR (rk x.h) = 6 := by unfold tpR; rw [if_pos (by omega)]
  have op : ∀ (least : Nat) (r : List Tk) (z : Ex) (r' : List Tk), rnk least ≤ rk x.h → Stp r → NoOp (tpR (rk x.h)) r → Lo i (.tl least (tpR (rk x.h)) x) r z r' → Lo i (.op least) (tkl K ++ r) z r' := by
    intro least r z r' _ hs _ e
    rw [ht6] at e
    exact lo_op (h2 r) (h r hs) e
  exact ⟨fun r hF => ex_of_op (by omega) h1 op r hF, op, fun _ => h, fun _ => h1, ht⟩
theorem prs_pr {i : Bool} {K : List Pc} {x : Ex} (hr : rk x.h = 9) (h1 : ∀ r, isT ⟨#[105, 102]⟩ (tkl K ++ r) = false) (h2 : ∀ r, isT ⟨#[110, 111, 116]⟩ (tkl K ++ r) = false) (h3 : ∀ r, isT ⟨#[45]⟩ (tkl K ++ r) = false)
    (h : ∀ r, Stp r → Lo i .pr (tkl K ++ r) x r) (ht : truH x.h = true → x = booE 1) : Prs i K x :=
  prs_ng (by omega) h1 h2 (fun r hs => lo_ng (h3 r) (h r hs)) ht

/-! Operands between parentheses. -/
theorem fin_sg {s : ByteArray} (h1 : s ≠ ⟨#[91]⟩) (h2 : s ≠ ⟨#[111, 102]⟩) (h3 : ∀ k, k < 6 → ∀ t ∈ opL k, s ≠ t) (r : List Tk) : Fin' (⟨5, s, 0⟩ :: r) :=
  ⟨⟨by rw [isT_s, decide_eq_false h1], by rw [isT_s, decide_eq_false h2]⟩, fun k _ hk => by
    unfold opr
    rw [List.find?_eq_none.2 fun t ht => by rw [isT_s, decide_eq_false (h3 k hk t ht)]; decide]
    rfl⟩
theorem fin_wd {s : ByteArray} (h1 : s ≠ ⟨#[91]⟩) (h2 : s ≠ ⟨#[111, 102]⟩) (h3 : ∀ k, k < 6 → ∀ t ∈ opL k, s ≠ t) (r : List Tk) : Fin' (⟨1, s, 0⟩ :: r) :=
  ⟨⟨by rw [isT_w, decide_eq_false h1], by rw [isT_w, decide_eq_false h2]⟩, fun k _ hk => by
    unfold opr
    rw [List.find?_eq_none.2 fun t ht => by rw [isT_w, decide_eq_false (h3 k hk t ht)]; decide]
    rfl⟩
theorem opL_no {s : ByteArray} (h : ((opL 0 ++ opL 1 ++ opL 2 ++ opL 3 ++ opL 4 ++ opL 5).all fun t => !decide (s = t)) = true) : ∀ k, k < 6 → ∀ t ∈ opL k, s ≠ t := by
  intro k hk t ht
  have := List.all_eq_true.1 h t (by
    simp only [List.mem_append]
    rcases (show k = 0 ∨ k = 1 ∨ k = 2 ∨ k = 3 ∨ k = 4 ∨ k = 5 by omega) with rfl | rfl | rfl | rfl | rfl | rfl <;> simp [ht])
  simpa using this
theorem fin_close (r : List Tk) : Fin' (⟨5, ⟨#[41]⟩, 0⟩ :: r) := fin_sg (by decide) (by decide) (opL_no (by decide)) r
theorem fin_comma (r : List Tk) : Fin' (⟨5, ⟨#[44]⟩, 0⟩ :: r) := fin_sg (by decide) (by decide) (opL_no (by decide)) r
theorem fin_semi (r : List Tk) : Fin' (⟨5, ⟨#[59]⟩, 0⟩ :: r) := fin_sg (by decide) (by decide) (opL_no (by decide)) r
theorem fin_then (r : List Tk) : Fin' (⟨1, ⟨#[116, 104, 101, 110]⟩, 0⟩ :: r) := fin_wd (by decide) (by decide) (opL_no (by decide)) r
theorem fin_else (r : List Tk) : Fin' (⟨1, ⟨#[101, 108, 115, 101]⟩, 0⟩ :: r) := fin_wd (by decide) (by decide) (opL_no (by decide)) r
theorem tkl_par (K : List Pc) (r : List Tk) : tkl (sg ⟨#[40]⟩ :: (K ++ [sg ⟨#[41]⟩])) ++ r = ⟨5, ⟨#[40]⟩, 0⟩ :: (tkl K ++ (⟨5, ⟨#[41]⟩, 0⟩ :: r)) := by
  rw [tkl_cons, tkl_app, List.cons_append, List.append_assoc]
  rfl
theorem Prs.par (P : Prs i K x) (r : List Tk) : Lo i .pr (tkl (sg ⟨#[40]⟩ :: (K ++ [sg ⟨#[41]⟩])) ++ r) x r := by
  rw [tkl_par]
  exact lo_paren 0 (P.ex _ (fin_close r)) rfl
theorem Prs.at (P : Prs i K x) (q : Int) (least : Nat) {r : List Tk} {z : Ex} {r' : List Tk} (h1 : rnk least ≤ q) (h2 : Stp r) (h3 : NoOp (tpq (rk x.h) q) r) (h4 : Lo i (.tl least (tpq (rk x.h) q) x) r z r') :
    Lo i (.op least) (tkl (parK (rk x.h) q K) ++ r) z r' := by
  unfold parK tpq at *
  by_cases h : rk x.h < q
  · rw [if_pos h] at h3 h4 ⊢
    exact lo_op (by rw [tkl_par]; rfl) (lo_ng (by rw [tkl_par]; rfl) (P.par r)) h4
  · rw [if_neg h] at h3 h4 ⊢
    exact P.op least r z r' (by omega) h2 h3 h4
theorem Prs.at8 (P : Prs i K x) {r : List Tk} (h2 : Stp r) : Lo i .ng (tkl (parK (rk x.h) 8 K) ++ r) x r := by
  unfold parK
  by_cases h : rk x.h < 8
  · rw [if_pos h]
    exact lo_ng (by rw [tkl_par]; rfl) (P.par r)
  · rw [if_neg h]
    exact P.ng (by omega) r h2
theorem Prs.nifP (P : Prs i K x) (q : Int) (hq : 1 ≤ q) (r : List Tk) : isT ⟨#[105, 102]⟩ (tkl (parK (rk x.h) q K) ++ r) = false := by
  unfold parK
  by_cases h : rk x.h < q
  · rw [if_pos h, tkl_par]; rfl
  · rw [if_neg h]; exact P.nif (by omega) r

/-! Operations on two operands. -/
/-- An operator: its rank, and how the parser finds it. -/
structure OpF (p : Pc) (op : ByteArray) (n : Nat) (q : Int) : Prop where
  hit : ∀ r, opr (n - 1) (tk0 p :: r) = op
  miss : ∀ r, NoOp n (tk0 p :: r)
  stp : ∀ r, Stp (tk0 p :: r)
  ne : op ≠ .empty
  nq : (n = 1 ∧ q = 1) ∨ (n = 2 ∧ q = 2) ∨ (n = 3 ∧ q = 3) ∨ (n = 4 ∧ q = 5) ∨ (n = 5 ∧ q = 6) ∨ (n = 6 ∧ q = 7)
def nxt (n : Nat) : Nat := if n = 4 then 3 else n
theorem lef_top {n : Nat} {q : Int} (h : (n = 1 ∧ q = 1) ∨ (n = 2 ∧ q = 2) ∨ (n = 3 ∧ q = 3) ∨ (n = 4 ∧ q = 5) ∨ (n = 5 ∧ q = 6) ∨ (n = 6 ∧ q = 7)) (h' : Int) (hh : h' ≤ 9) : n ≤ tpq h' (lef q) ∧ n ≤ tpq h' (q + 1) ∧ rnk n = q + 1 ∧ tpR q = nxt n ∧ nxt n ≤ n := by
  unfold tpq tpR lef nxt
  rcases h with ⟨rfl, rfl⟩ | ⟨rfl, rfl⟩ | ⟨rfl, rfl⟩ | ⟨rfl, rfl⟩ | ⟨rfl, rfl⟩ | ⟨rfl, rfl⟩ <;> refine ⟨?_, ?_, rfl, by decide, by decide⟩ <;> (repeat (first | omega | split))
theorem rk_le (h : Hd) : rk h ≤ 9 := by
  unfold rk rkO
  repeat (first | omega | split)
theorem rnk_lt {n least : Nat} {q : Int} (h : (n = 1 ∧ q = 1) ∨ (n = 2 ∧ q = 2) ∨ (n = 3 ∧ q = 3) ∨ (n = 4 ∧ q = 5) ∨ (n = 5 ∧ q = 6) ∨ (n = 6 ∧ q = 7)) (hl : rnk least ≤ q) : least < n ∧ rnk least ≤ lef q := by
  unfold rnk at *
  unfold lef
  rcases h with ⟨rfl, rfl⟩ | ⟨rfl, rfl⟩ | ⟨rfl, rfl⟩ | ⟨rfl, rfl⟩ | ⟨rfl, rfl⟩ | ⟨rfl, rfl⟩ <;> (split at hl <;> (first | (exfalso; omega) | (refine ⟨by omega, ?_⟩; split <;> omega)))
theorem prs_bin {p : Pc} {op : ByteArray} {n : Nat} {q : Int} (F : OpF p op n q) {K1 K2 : List Pc} {a b : Ex} (A : Prs i K1 a) (B : Prs i K2 b) (hq : rk (binE op a b).h = q) (ht : truH (binE op a b).h = false) :
    Prs i (parK (rk a.h) (lef q) K1 ++ (p :: sp (parK (rk b.h) (q + 1) K2))) (binE op a b) := by
  obtain ⟨t1, _, rn, tn, nn⟩ := lef_top F.nq (rk a.h) (rk_le _)
  obtain ⟨_, t2, _⟩ := lef_top F.nq (rk b.h) (rk_le _)
  have e0 : ∀ r, tkl (parK (rk a.h) (lef q) K1 ++ (p :: sp (parK (rk b.h) (q + 1) K2))) ++ r = tkl (parK (rk a.h) (lef q) K1) ++ (tk0 p :: (tkl (parK (rk b.h) (q + 1) K2) ++ r)) := by
    intro r
    rw [tkl_app, tkl_cons, tkl_sp, List.append_assoc]
    rfl
  have hif : ∀ r, isT ⟨#[105, 102]⟩ (tkl (parK (rk a.h) (lef q) K1 ++ (p :: sp (parK (rk b.h) (q + 1) K2))) ++ r) = false := fun r => by
    rw [e0]
    exact A.nifP _ (by unfold lef; have := F.nq; split <;> omega) _
  have op : ∀ (least : Nat) (r : List Tk) (z : Ex) (r' : List Tk), rnk least ≤ rk (binE op a b).h → Stp r → NoOp (tpR (rk (binE op a b).h)) r → Lo i (.tl least (tpR (rk (binE op a b).h)) (binE op a b)) r z r' →
      Lo i (.op least) (tkl (parK (rk a.h) (lef q) K1 ++ (p :: sp (parK (rk b.h) (q + 1) K2))) ++ r) z r' := by
    intro least r z r' hl hs hn e
    rw [hq] at hl hn e
    rw [tn] at hn e
    rw [e0]
    obtain ⟨hlt, hll⟩ := rnk_lt F.nq hl
    refine A.at (lef q) least hll (F.stp _) ((F.miss _).mono t1) ?_
    refine lo_to (Nat.le_of_lt hlt) t1 (tpq_le _ _) (F.miss _) ?_
    refine lo_more hlt (F.hit _) F.ne (y := b) (r := r) ?_ e
    refine B.at (q + 1) n (Int.le_of_eq rn) hs (hn.mono (by omega)) ?_
    exact lo_fin (tpq_le _ _) (hn.mono nn)
  refine ⟨fun r hF => ex_of_op (by rw [hq]; have := F.nq; omega) hif op r hF, op, fun h => ?_, fun _ => hif, fun h => by rw [ht] at h; cases h⟩
  rw [hq] at h
  have := F.nq
  omega
theorem opr_hit' {k : Nat} {s : ByteArray} {l : List Tk} (h : ∀ t, isT t l = decide (s = t)) (hs : s ∈ opL k) : opr k l = s := by
  unfold opr
  cases hf : (opL k).find? fun t => isT t l with
  | none =>
    have := List.find?_eq_none.1 hf s hs
    rw [h s] at this
    simp at this
  | some t =>
    have := List.find?_some hf
    rw [h t, decide_eq_true_eq] at this
    exact this.symm
theorem opr_miss' {k : Nat} {s : ByteArray} {l : List Tk} (h : ∀ t, isT t l = decide (s = t)) (hs : ∀ t ∈ opL k, s ≠ t) : opr k l = .empty := by
  unfold opr
  rw [List.find?_eq_none.2 fun t ht => by rw [h t, decide_eq_false (hs t ht)]; decide]
  rfl
/-- The operators of higher ranks. -/
def opHi (n : Nat) : List ByteArray := ((List.range 6).filter fun k => decide (n ≤ k)).flatMap opL
theorem opF_of {p : Pc} {op : ByteArray} {n : Nat} {q : Int} (hp : p.2 = (1, op) ∨ p.2 = (5, op)) (h1 : (opL (n - 1)).any (fun t => decide (op = t)) = true) (h2 : ((opHi n).all fun t => !decide (op = t)) = true) (h3 : op ≠ ⟨#[91]⟩) (h4 : op ≠ ⟨#[111, 102]⟩) (h5 : op ≠ .empty)
    (nq : (n = 1 ∧ q = 1) ∨ (n = 2 ∧ q = 2) ∨ (n = 3 ∧ q = 3) ∨ (n = 4 ∧ q = 5) ∨ (n = 5 ∧ q = 6) ∨ (n = 6 ∧ q = 7)) : OpF p op n q := by
  have hT : ∀ r t, isT t (tk0 p :: r) = decide (op = t) := by
    intro r t
    obtain ⟨b, k, s⟩ := p
    rcases hp with h | h
    · obtain ⟨rfl, rfl⟩ := Prod.mk.inj h
      exact isT_w ..
    · obtain ⟨rfl, rfl⟩ := Prod.mk.inj h
      exact isT_s ..
  refine ⟨fun r => opr_hit' (hT r) ?_, fun r k hk hk6 => opr_miss' (hT r) fun t ht => ?_, fun r => ⟨by rw [hT, decide_eq_false h3], by rw [hT, decide_eq_false h4]⟩, h5, nq⟩
  · rw [List.any_eq_true] at h1
    obtain ⟨t, ht, e⟩ := h1
    rw [decide_eq_true_eq] at e
    exact e ▸ ht
  · have := List.all_eq_true.1 h2 t (List.mem_flatMap.2 ⟨k, List.mem_filter.2 ⟨List.mem_range.2 hk6, by simpa using hk⟩, ht⟩)
    simpa using this
theorem opF_dfl : OpF (bw ⟨#[100, 101, 102, 97, 117, 108, 116]⟩) ⟨#[100, 101, 102, 97, 117, 108, 116]⟩ 1 1 := opF_of (.inl rfl) (by decide) (by decide) (by decide) (by decide) (by decide) (by omega)
theorem opF_all {op : ByteArray} (h : op = ⟨#[43]⟩ ∨ op = ⟨#[45]⟩ ∨ op = ⟨#[42]⟩ ∨ op = ⟨#[47]⟩ ∨ op = ⟨#[61, 61]⟩ ∨ op = ⟨#[33, 61]⟩ ∨ op = ⟨#[60]⟩ ∨ op = ⟨#[60, 61]⟩ ∨ op = ⟨#[97, 110, 100]⟩ ∨ op = ⟨#[111, 114]⟩) : (∃ n, OpF (opK op) op n (rkO op)) ∧ op ≠ ⟨#[100, 101, 102, 97, 117, 108, 116]⟩ := by
  rcases h with rfl | rfl | rfl | rfl | rfl | rfl | rfl | rfl | rfl | rfl
  · exact ⟨⟨5, opF_of (.inr rfl) (by decide) (by decide) (by decide) (by decide) (by decide) (by decide)⟩, by decide⟩
  · exact ⟨⟨5, opF_of (.inr rfl) (by decide) (by decide) (by decide) (by decide) (by decide) (by decide)⟩, by decide⟩
  · exact ⟨⟨6, opF_of (.inr rfl) (by decide) (by decide) (by decide) (by decide) (by decide) (by decide)⟩, by decide⟩
  · exact ⟨⟨6, opF_of (.inr rfl) (by decide) (by decide) (by decide) (by decide) (by decide) (by decide)⟩, by decide⟩
  · exact ⟨⟨4, opF_of (.inr rfl) (by decide) (by decide) (by decide) (by decide) (by decide) (by decide)⟩, by decide⟩
  · exact ⟨⟨4, opF_of (.inr rfl) (by decide) (by decide) (by decide) (by decide) (by decide) (by decide)⟩, by decide⟩
  · exact ⟨⟨4, opF_of (.inr rfl) (by decide) (by decide) (by decide) (by decide) (by decide) (by decide)⟩, by decide⟩
  · exact ⟨⟨4, opF_of (.inr rfl) (by decide) (by decide) (by decide) (by decide) (by decide) (by decide)⟩, by decide⟩
  · exact ⟨⟨3, opF_of (.inl rfl) (by decide) (by decide) (by decide) (by decide) (by decide) (by decide)⟩, by decide⟩
  · exact ⟨⟨2, opF_of (.inl rfl) (by decide) (by decide) (by decide) (by decide) (by decide) (by decide)⟩, by decide⟩
end Go.Proofs.YtbahfelnbofjjaaGreatDoor.ch
namespace Go.Proofs.YtbahfelnbofjjaaGreatDoor.ch
open Go.RowKit dec

theorem len_nil {F : Fo} (h : F.len = 0) : F = .nil := by
  cases F with
  | nil => rfl
  | cons a b c => simp [Fo.len] at h
theorem len_one {F : Fo} (h : F.len = 1) : F = .cons (F.nth 0).h (F.nth 0).ar .nil := by
  cases F with
  | nil => simp [Fo.len] at h
  | cons a b c => rw [len_nil (F := c) (by simpa [Fo.len] using h)]; rfl
theorem len_two {F : Fo} (h : F.len = 2) : F = .cons (F.nth 0).h (F.nth 0).ar (.cons (F.nth 1).h (F.nth 1).ar .nil) := by
  cases F with
  | nil => simp [Fo.len] at h
  | cons a b c => 
    have := len_one (F := c) (by simpa [Fo.len] using h)
    show Fo.cons a b c = .cons a b (.cons (c.nth 0).h (c.nth 0).ar .nil)
    rw [← this]
theorem len_three {F : Fo} (h : F.len = 3) : F = .cons (F.nth 0).h (F.nth 0).ar (.cons (F.nth 1).h (F.nth 1).ar (.cons (F.nth 2).h (F.nth 2).ar .nil)) := by
  cases F with
  | nil => simp [Fo.len] at h
  | cons a b c =>
    have := len_two (F := c) (by simpa [Fo.len] using h)
    show Fo.cons a b c = .cons a b (.cons (c.nth 0).h (c.nth 0).ar (.cons (c.nth 1).h (c.nth 1).ar .nil))
    rw [← this]
def Prss (i : Bool) (K : List Ok') (F : Fo) : Prop := ∀ j, j < F.len → Prs i (okK K j) (F.nth j) ∧ (ok' K j).2 = (F.nth j).h
theorem Prss.p {i : Bool} {K : List Ok'} {F : Fo} (h : Prss i K F) {j : Nat} (hj : j < F.len) (q : Int) : okP K j q = parK (rk (F.nth j).h) q (okK K j) := by
  unfold okP
  rw [(h j hj).2]
  rfl
theorem i_no (i : Bool) {k : Int} (h : k ≠ 5) : (i || decide (k = 5)) = i := by rw [decide_eq_false h, Bool.or_false]
variable {i : Bool} {g : Hd} {K : List Ok'} {F : Fo}
theorem prs_nm {m : ByteArray} (hm : name m = true) {x : Ex} (hr : rk x.h = 9) (ht : truH x.h = false) (h : ∀ r, Stp r → Lo i .pr (⟨1, m, 0⟩ :: r) x r) : Prs i [wd m] x :=
  prs_pr hr (fun r => nm_no hm name_if 0 r) (fun r => nm_no hm name_not 0 r) (fun r => nm_no hm name_min 0 r) h fun e => by rw [ht] at e; cases e
theorem prs_loo {m : ByteArray} (hm : name m = true) {K : List Pc} {x : Ex} (P : Prs false K x) : Prs false (wd m :: bw ⟨#[111, 102]⟩ :: bs ⟨#[40]⟩ :: (K ++ [sg ⟨#[41]⟩])) (looE m x) := by
  refine prs_pr rfl (fun r => nm_no hm name_if 0 _) (fun r => nm_no hm name_not 0 _) (fun r => nm_no hm name_min 0 _) (fun r hs => ?_) (fun e => by cases e)
  have e0 : tkl (wd m :: bw ⟨#[111, 102]⟩ :: bs ⟨#[40]⟩ :: (K ++ [sg ⟨#[41]⟩])) ++ r = ⟨1, m, 0⟩ :: ⟨1, ⟨#[111, 102]⟩, 0⟩ :: ⟨5, ⟨#[40]⟩, 0⟩ :: (tkl K ++ (⟨5, ⟨#[41]⟩, 0⟩ :: r)) := by
    rw [tkl_cons, tkl_cons, tkl_cons, tkl_app, List.cons_append, List.cons_append, List.cons_append, List.append_assoc]
    rfl
  rw [e0]
  exact lo_ref hm 0 (lo_look hm 0 rfl (lo_pa (r := ⟨5, ⟨#[41]⟩, 0⟩ :: r) rfl (P.ex _ (fin_close r)) rfl))
theorem prs_neg {K : List Pc} {x : Ex} (P : Prs i K x) : Prs i (sg ⟨#[45]⟩ :: parK (rk x.h) 8 K) (unaE ⟨#[45]⟩ x) := by
  refine prs_ng (by show (8 : Int) ≤ 8; decide) (fun r => rfl) (fun r => rfl) (fun r hs => ?_) (fun e => by cases e)
  show Lo i .ng (⟨5, ⟨#[45]⟩, 0⟩ :: (tkl (parK (rk x.h) 8 K) ++ r)) _ _
  exact lo_neg rfl (P.at8 hs)
theorem prs_not {K : List Pc} {x : Ex} (P : Prs i K x) : Prs i (wd ⟨#[110, 111, 116]⟩ :: sp (parK (rk x.h) 4 K)) (unaE ⟨#[110, 111, 116]⟩ x) := by
  have e0 : ∀ r, tkl (wd ⟨#[110, 111, 116]⟩ :: sp (parK (rk x.h) 4 K)) ++ r = ⟨1, ⟨#[110, 111, 116]⟩, 0⟩ :: (tkl (parK (rk x.h) 4 K) ++ r) := fun r => by rw [tkl_cons, tkl_sp]; rfl
  have op : ∀ (least : Nat) (r : List Tk) (z : Ex) (r' : List Tk), rnk least ≤ rk (unaE ⟨#[110, 111, 116]⟩ x).h → Stp r → NoOp (tpR (rk (unaE ⟨#[110, 111, 116]⟩ x).h)) r → Lo i (.tl least (tpR (rk (unaE ⟨#[110, 111, 116]⟩ x).h)) (unaE ⟨#[110, 111, 116]⟩ x)) r z r' →
      Lo i (.op least) (tkl (wd ⟨#[110, 111, 116]⟩ :: sp (parK (rk x.h) 4 K)) ++ r) z r' := by
    intro least r z r' hl hs hn e
    rw [e0]
    have h3 : least ≤ 3 := by
      have hl : rnk least ≤ 4 := hl
      unfold rnk at hl
      split at hl <;> omega
    have hn : NoOp 3 r := hn
    have t3 : 3 ≤ tpq (rk x.h) 4 := by
      unfold tpq tpR
      repeat (first | omega | split)
    refine lo_not h3 rfl (P.at 4 3 (by decide) hs (hn.mono t3) (lo_fin (tpq_le _ _) hn)) e
  exact ⟨fun r hF => ex_of_op (by show (1 : Int) ≤ 4; decide) (fun r => by rw [e0]; rfl) op r hF, op, fun h => absurd h (by show ¬ (8 : Int) ≤ 4; decide), fun _ r => by rw [e0]; rfl, fun e => by cases e⟩
theorem prs_null {K : List Pc} {x : Ex} (P : Prs i K x) : Prs i (wd ⟨#[110, 117, 108, 108]⟩ :: sg ⟨#[40]⟩ :: (K ++ [sg ⟨#[41]⟩])) (unaE ⟨#[110, 117, 108, 108]⟩ x) := by
  refine prs_pr rfl (fun r => rfl) (fun r => rfl) (fun r => rfl) (fun r hs => ?_) (fun e => by cases e)
  have e0 : tkl (wd ⟨#[110, 117, 108, 108]⟩ :: sg ⟨#[40]⟩ :: (K ++ [sg ⟨#[41]⟩])) ++ r = ⟨1, ⟨#[110, 117, 108, 108]⟩, 0⟩ :: ⟨5, ⟨#[40]⟩, 0⟩ :: (tkl K ++ (⟨5, ⟨#[41]⟩, 0⟩ :: r)) := by
    rw [tkl_cons, tkl_cons, tkl_app, List.cons_append, List.cons_append, List.append_assoc]
    rfl
  rw [e0]
  exact lo_null 0 (lo_pa (r := ⟨5, ⟨#[41]⟩, 0⟩ :: r) rfl (P.ex _ (fin_close r)) rfl)
theorem prs_if {K1 K2 K3 : List Pc} {a b c : Ex} (A : Prs i K1 a) (B : Prs i K2 b) (C : Prs i K3 c) : Prs i (wd ⟨#[105, 102]⟩ :: (sp K1 ++ (bw ⟨#[116, 104, 101, 110]⟩ :: (sp K2 ++ (bw ⟨#[101, 108, 115, 101]⟩ :: sp K3))))) (ifE a b c) := by
  refine ⟨fun r hF => ?_, fun least r z r' hl => ?_, fun h => absurd h (by show ¬ (8 : Int) ≤ 0; decide), fun h => absurd h (by show ¬ (1 : Int) ≤ 0; decide), fun e => by cases e⟩
  · have e0 : tkl (wd ⟨#[105, 102]⟩ :: (sp K1 ++ (bw ⟨#[116, 104, 101, 110]⟩ :: (sp K2 ++ (bw ⟨#[101, 108, 115, 101]⟩ :: sp K3))))) ++ r = ⟨1, ⟨#[105, 102]⟩, 0⟩ :: (tkl K1 ++ (⟨1, ⟨#[116, 104, 101, 110]⟩, 0⟩ :: (tkl K2 ++ (⟨1, ⟨#[101, 108, 115, 101]⟩, 0⟩ :: (tkl K3 ++ r))))) := by
      rw [tkl_cons, tkl_app, tkl_cons, tkl_app, tkl_cons, tkl_sp, tkl_sp, tkl_sp]
      simp only [List.cons_append, List.append_assoc]
      rfl
    rw [e0]
    exact lo_if (r := ⟨1, ⟨#[116, 104, 101, 110]⟩, 0⟩ :: (tkl K2 ++ (⟨1, ⟨#[101, 108, 115, 101]⟩, 0⟩ :: (tkl K3 ++ r)))) (r1 := ⟨1, ⟨#[101, 108, 115, 101]⟩, 0⟩ :: (tkl K3 ++ r)) rfl (A.ex _ (fin_then _)) rfl (B.ex _ (fin_else _)) rfl (C.ex r hF)
  · exfalso
    have h1 := rnk_pos least
    have hl : rnk least ≤ 0 := hl
    omega
theorem prs_agg {op t : ByteArray} {p wk ws : Int} (ht : name t = true) (hp : parH op p = true) (hw : winH wk ws = true) {K : List Ok'} {a c : Ex} (hc : op = ⟨#[99, 111, 117, 110, 116]⟩ → truH a.h = true) (A : Prs true (okK K 0) a) (C : Prs true (okK K 1) c) (hC : (ok' K 1).2 = c.h) :
    Prs false (agK { h0 with k := 5, op := op, tb := t, pa := p, wk := wk, ws := ws } K) (aggE op t p (wk, ws) a c) := by
  obtain ⟨_, _, _, _, _, _, n1, n2, n3⟩ := ag_w hp
  have hh : ∀ r, tkl (agK { h0 with k := 5, op := op, tb := t, pa := p, wk := wk, ws := ws } K) ++ r = ⟨1, op, 0⟩ :: ⟨5, ⟨#[40]⟩, 0⟩ :: ⟨1, t, 0⟩ :: (tkl (if op = ⟨#[99, 111, 117, 110, 116]⟩ then [] else sg ⟨#[44]⟩ :: sp (okK K 0)) ++ (tkl (if op = ⟨#[113, 117, 97, 110, 116, 105, 108, 101]⟩ ∨ op = ⟨#[100, 101, 99, 97, 121]⟩ then [sg ⟨#[44]⟩, nuK p] else []) ++ (⟨5, ⟨#[44]⟩, 0⟩ :: (tkl (wiK wk ws) ++ (tkl (if truH (ok' K 1).2 = true then [] else bw ⟨#[119, 104, 101, 114, 101]⟩ :: sp (okK K 1)) ++ (⟨5, ⟨#[41]⟩, 0⟩ :: r)))))) := by
    intro r
    unfold agK
    simp only [tkl_cons, tkl_app, tkl_sp, List.cons_append, List.append_assoc]
    rfl
  refine prs_pr rfl (fun r => ?_) (fun r => ?_) (fun r => ?_) (fun r hs => ?_) (fun e => by cases e)
  · rw [hh, isT_w, decide_eq_false n3]
  · rw [hh, isT_w, decide_eq_false n2]
  · rw [hh, isT_w, decide_eq_false n1]
  rw [hh]
  have e3 : ∃ l2, (tkl (if truH (ok' K 1).2 = true then [] else bw ⟨#[119, 104, 101, 114, 101]⟩ :: sp (okK K 1)) ++ (⟨5, ⟨#[41]⟩, 0⟩ :: r)) = l2 ∧ ((l2 = ⟨5, ⟨#[41]⟩, 0⟩ :: r ∧ c = booE 1 ∧ isT ⟨#[119, 104, 101, 114, 101]⟩ (⟨5, ⟨#[41]⟩, 0⟩ :: r) = false) ∨ (isT ⟨#[119, 104, 101, 114, 101]⟩ l2 = true ∧ Lo true .ex l2.tail c (⟨5, ⟨#[41]⟩, 0⟩ :: r))) := by
    rw [hC]
    cases hq : truH c.h with
    | true => exact ⟨_, rfl, .inl ⟨rfl, C.tru hq, rfl⟩⟩
    | false =>
      refine ⟨_, rfl, .inr ⟨by rw [if_neg (by decide), tkl_cons]; rfl, ?_⟩⟩
      rw [if_neg (by decide), tkl_cons, tkl_sp]
      exact C.ex _ (fin_close r)
  obtain ⟨l2, hl2, e3⟩ := e3
  rw [hl2]
  by_cases hq : op = ⟨#[99, 111, 117, 110, 116]⟩
  · have hqd : ¬ (op = ⟨#[113, 117, 97, 110, 116, 105, 108, 101]⟩ ∨ op = ⟨#[100, 101, 99, 97, 121]⟩) := by rw [hq]; decide
    rw [if_pos hq, if_neg hqd]
    exact lo_agg hp 0 (lo_ag (l := tkl (wiK wk ws) ++ l2) (l1 := tkl (wiK wk ws) ++ l2) (l3 := ⟨5, ⟨#[41]⟩, 0⟩ :: r) ht hw hp (.inl ⟨hq, rfl, A.tru (hc hq)⟩) (by rw [if_neg hqd]; rfl) e3 rfl)
  · rw [if_neg hq]
    have e1 : tkl (sg ⟨#[44]⟩ :: sp (okK K 0)) ++ (tkl (if op = ⟨#[113, 117, 97, 110, 116, 105, 108, 101]⟩ ∨ op = ⟨#[100, 101, 99, 97, 121]⟩ then [sg ⟨#[44]⟩, nuK p] else []) ++ (⟨5, ⟨#[44]⟩, 0⟩ :: (tkl (wiK wk ws) ++ l2))) =
        ⟨5, ⟨#[44]⟩, 0⟩ :: (tkl (okK K 0) ++ (⟨5, ⟨#[44]⟩, 0⟩ :: ((if op = ⟨#[113, 117, 97, 110, 116, 105, 108, 101]⟩ ∨ op = ⟨#[100, 101, 99, 97, 121]⟩ then [⟨2, ⟨(Lib.itoa p).toArray⟩, 0⟩, ⟨5, ⟨#[44]⟩, 0⟩] else []) ++ (tkl (wiK wk ws) ++ l2)))) := by
      rw [tkl_cons, tkl_sp]
      split <;> rfl
    rw [e1]
    exact lo_agg hp 0 (lo_ag (l3 := ⟨5, ⟨#[41]⟩, 0⟩ :: r) ht hw hp (.inr ⟨hq, A.ex _ (fin_comma _)⟩) rfl e3 rfl)
theorem nod_prs {h : Hd} {n : Nat} (N : Nod i g h n) (G : Prss (i || decide (h.k = 5)) K F) (hn : F.len = n) (hg : g = (F.nth 0).h) : Prs i (nodK h K) ⟨h, F⟩ := by
  cases N with
  | boo n e =>
    rw [len_nil hn]
    refine prs_pr rfl (fun r => ?_) (fun r => ?_) (fun r => ?_) (fun r _ => lo_boo e 0) (fun ht => ?_)
    iterate 3 rcases e with rfl | rfl <;> rfl
    rcases e with rfl | rfl
    · cases ht
    · rfl
  | num k n u hk h0 h1 hu =>
    rw [len_nil hn]
    rcases hk with rfl | rfl
    · exact prs_pr rfl (fun r => rfl) (fun r => rfl) (fun r => rfl) (fun r hs => lo_int h0 h1 (uni_hit hu hs.sq) 0) (fun ht => by cases ht)
    · exact prs_pr rfl (fun r => rfl) (fun r => rfl) (fun r => rfl) (fun r hs => lo_dec h0 h1 (uni_hit hu hs.sq) 0) (fun ht => by cases ht)
  | tex s h1 h2 =>
    rw [len_nil hn]
    exact prs_pr rfl (fun r => rfl) (fun r => rfl) (fun r => rfl) (fun r hs => lo_text s 0) (fun ht => by cases ht)
  | key m s hm h0 h1 h2 =>
    rw [len_nil hn]
    exact prs_pr rfl (fun r => rfl) (fun r => rfl) (fun r => rfl) (fun r hs => lo_key hm (of_decide_eq_true (ok_key h0 h1 h2)) 0 0 0) (fun ht => by cases ht)
  | fie m hi hm =>
    rw [len_nil hn, hi]
    exact prs_nm hm rfl rfl fun r _ => lo_field hm 0
  | fea m hi hm =>
    rw [len_nil hn, hi]
    exact prs_nm hm rfl rfl fun r hs => lo_ref hm 0 (lo_feat hm 0 hs.of)
  | loo m hi hm =>
    rw [i_no i (by show ¬ (4 : Int) = 5; decide), hi] at G
    rw [hi]
    have A := (G 0 (by omega)).1
    have e : (⟨{ h0 with k := 4, nm := m }, F⟩ : Ex) = looE m (F.nth 0) := by unfold looE; rw [← len_one hn]
    rw [e]
    exact prs_loo hm A
  | agg op t p wk ws hi ht hp hw hc =>
    rw [hi, show (false || decide (({ h0 with k := 5, op := op, tb := t, pa := p, wk := wk, ws := ws } : Hd).k = 5)) = true from rfl] at G
    rw [hi]
    obtain ⟨A, _⟩ := G 0 (by omega)
    obtain ⟨C, hC⟩ := G 1 (by omega)
    have e : (⟨{ h0 with k := 5, op := op, tb := t, pa := p, wk := wk, ws := ws }, F⟩ : Ex) = aggE op t p (wk, ws) (F.nth 0) (F.nth 1) := by unfold aggE; rw [← len_two hn]
    rw [e]
    exact prs_agg ht hp hw (fun e => hg ▸ hc e) A C hC
  | una op ho =>
    rw [i_no i (by show ¬ (6 : Int) = 5; decide)] at G
    have A := (G 0 (by omega)).1
    have hp := fun q => G.p (j := 0) (by omega) q
    have e : (⟨{ h0 with k := 6, op := op }, F⟩ : Ex) = unaE op (F.nth 0) := by unfold unaE; rw [← len_one hn]
    rw [e]
    rcases ho with rfl | rfl | rfl
    · show Prs i (sg ⟨#[45]⟩ :: okP K 0 8) _
      rw [hp]
      exact prs_neg A
    · show Prs i (wd ⟨#[110, 111, 116]⟩ :: sp (okP K 0 4)) _
      rw [hp]
      exact prs_not A
    · exact prs_null A
  | bin op ho =>
    rw [i_no i (by show ¬ (7 : Int) = 5; decide)] at G
    have A := (G 0 (by omega)).1
    have B := (G 1 (by omega)).1
    obtain ⟨⟨n, OF⟩, hd⟩ := opF_all ho
    have e : (⟨{ h0 with k := 7, op := op }, F⟩ : Ex) = binE op (F.nth 0) (F.nth 1) := by unfold binE; rw [if_neg hd, ← len_two hn]
    have eh : (binE op (F.nth 0) (F.nth 1)).h = { h0 with k := 7, op := op } := by rw [← e]
    rw [e]
    show Prs i (okP K 0 (lef (rkO op)) ++ (opK op :: sp (okP K 1 (rkO op + 1)))) _
    rw [G.p (j := 0) (by omega), G.p (j := 1) (by omega)]
    exact prs_bin OF A B (by rw [eh]; rfl) (by rw [eh]; rfl)
  | iff =>
    rw [i_no i (by show ¬ (8 : Int) = 5; decide)] at G
    have e : (⟨{ h0 with k := 8 }, F⟩ : Ex) = ifE (F.nth 0) (F.nth 1) (F.nth 2) := by unfold ifE; rw [← len_three hn]
    rw [e]
    exact prs_if (G 0 (by omega)).1 (G 1 (by omega)).1 (G 2 (by omega)).1
  | dfl =>
    rw [i_no i (by show ¬ (9 : Int) = 5; decide)] at G
    have e : (⟨{ h0 with k := 9 }, F⟩ : Ex) = binE ⟨#[100, 101, 102, 97, 117, 108, 116]⟩ (F.nth 0) (F.nth 1) := by unfold binE; rw [if_pos rfl, ← len_two hn]
    rw [e]
    show Prs i (okP K 0 1 ++ (bw ⟨#[100, 101, 102, 97, 117, 108, 116]⟩ :: sp (okP K 1 2))) _
    rw [G.p (j := 0) (by omega), G.p (j := 1) (by omega)]
    exact prs_bin opF_dfl (G 0 (by omega)).1 (G 1 (by omega)).1 rfl rfl
theorem prss_all : ∀ (F : Fo) (i : Bool), fmA i F = true → Prss i (xkF F) F
  | .nil, _, _ => fun j hj => absurd hj (Nat.not_lt_zero _)
  | .cons h ar r, i, e => by
    obtain ⟨e1, e2, e3⟩ := fmA_app e
    have g := nod_prs (nod_of e1) (prss_all ar _ e2) rfl rfl
    have gr := prss_all r i e3
    intro j hj
    cases j with
    | zero => exact ⟨g, rfl⟩
    | succ j =>
      have := gr j (by simpa [Fo.len] using hj)
      exact ⟨by simpa [okK, ok', xkF, Fo.nth] using this.1, by simpa [ok', xkF, Fo.nth] using this.2⟩
theorem prs_all {i : Bool} {x : Ex} (e : fmE i x = true) : Prs i (xkE x) x := by
  have e' : (nodE i x.h x.ar.len (x.ar.nth 0).h && fmA (i || decide (x.h.k = 5)) x.ar) = true := e
  rw [Bool.and_eq_true] at e'
  exact nod_prs (nod_of e'.1) (prss_all x.ar _ e'.2) rfl rfl
/-- Different expressions of proper form have different texts. -/
theorem end_fin (t : ByteArray) (a : Int) : Fin' [⟨6, t, a⟩] := ⟨⟨rfl, rfl⟩, fun k _ _ => by unfold opr; rw [List.find?_eq_none.2 fun t _ => by rw [isT_o (by decide) (by decide)]; decide]; rfl⟩
theorem txE_inj {i : Bool} {x y : Ex} (hx : fmE i x = true) (hy : fmE i y = true) (h : txE x = txE y) : x = y := by
  have gx := xk_gd hx
  have gy := xk_gd hy
  obtain ⟨L1, a1, b1⟩ := lex_all gx.w
  obtain ⟨L2, a2, b2⟩ := lex_all gy.w
  rw [gx.b] at a1
  rw [gy.b, ← h, a1] at a2
  have hk : (xkE x).map (·.2) = (xkE y).map (·.2) := by rw [← b1, ← b2, (Prod.mk.inj a2).1]
  have ht : tkl (xkE x) = tkl (xkE y) := by
    have : ∀ K : List Pc, tkl K = (K.map (·.2)).map fun q => (⟨q.1, q.2, 0⟩ : Tk) := fun K => by unfold tkl; rw [List.map_map]; rfl
    rw [this, this, hk]
  obtain ⟨f1, e1⟩ := (prs_all hx).ex _ (end_fin .empty 0)
  obtain ⟨f2, e2⟩ := (prs_all hy).ex _ (end_fin .empty 0)
  have k1 := e1 (f1 + f2) (by omega)
  have k2 := e2 (f1 + f2) (by omega)
  rw [ht, k2] at k1
  exact (Rs.ok.inj k1).1.symm
end Go.Proofs.YtbahfelnbofjjaaGreatDoor.ch
namespace Go.Proofs.YtbahfelnbofjjaaGreatDoor.ch
open Go.RowKit dec

theorem b8_eq {s t : List UInt8} : ((B8 s).toList == (B8 t).toList) = decide (s = t) := by
  have e : ∀ l, (B8 l).toList = l := fun l => by rw [ByteArray.toList_eq, B8_data]
  rw [e, e]
  by_cases h : s = t
  · rw [decide_eq_true h, beq_iff_eq]; exact h
  · rw [decide_eq_false h, beq_eq_false_iff_ne]; exact h
theorem tx_same {x y : Ex} (hx : shE x = 0) (hy : shE y = 0) : ((B8 (txE x)).toList == (B8 (txE y)).toList) = sxE x y := by
  rw [b8_eq, Bool.eq_iff_iff, decide_eq_true_eq, sxE_iff]
  exact ⟨fun h => txE_inj (shE_zero hx) (shE_zero hy) h, fun h => h ▸ rfl⟩
set_option maxRecDepth 100000 in
set_option maxHeartbeats 8000000 in
theorem one_walk (x y : Ex) (ua aa ub ab : Option Addr) (uc ac ud ad : Nat) (w : World) (hx : x.szs) (hy : y.szs) (hA : Ec w x ua uc aa ac) (hB : Ec w y ub ud ab ad) (T : Tabq w) : Calls Tryz.prog 11 #[.agg (exC x.h x.ar.len ua uc aa ac), .agg (exC y.h y.ar.len ub ud ab ad)] w (Bl true w) := by
  have bb := below_two w (.cells (exC x.h x.ar.len ua uc aa ac) 29) (.cells (exC y.h y.ar.len ub ud ab ad) 29)
  have B := Lib.hid bb
  have GG := bw_two w (exC x.h x.ar.len ua uc aa ac) (exC y.h y.ar.len ub ud ab ad) 29 29
  have G1 := Lib.hid GG.1
  have G2 := Lib.hid GG.2
  have CE := Lib.hid (fun (W : World) (b : Below w.heap.size w W) => example_any W (T.stays b))
  have Fx := Lib.hid (fun (W : World) (b : Below w.heap.size w W) => few_any x 100 ua aa uc ac W hx (by decide) (by decide) (hA.keeps b))
  have Sx := Lib.hid (fun (W : World) (b : Below w.heap.size w W) => rshape_any x ua aa uc ac W hx (hA.keeps b))
  have Px := Lib.hid (fun (hz : x.ar.sz ≤ 3000) (W : World) (b : Below w.heap.size w W) => pexpr_any x ua aa uc ac W hx hz (hA.keeps b) (T.stays b))
  have Fy := Lib.hid (fun (W : World) (b : Below w.heap.size w W) => few_any y 100 ub ab ud ad W hy (by decide) (by decide) (hB.keeps b))
  have Sy := Lib.hid (fun (W : World) (b : Below w.heap.size w W) => rshape_any y ub ab ud ad W hy (hB.keeps b))
  have Py := Lib.hid (fun (hz : y.ar.sz ≤ 3000) (W : World) (b : Below w.heap.size w W) => pexpr_any y ub ab ud ad W hy hz (hB.keeps b) (T.stays b))
  have XE := Lib.hid (fun (W : World) (b : Below w.heap.size w W) => sameX_any x y ua aa ub ab uc ac ud ad W (hA.keeps b) (hB.keeps b))
  have HQ := Lib.hid (fun (h1 : shE x = 0) (h2 : shE y = 0) => tx_same h1 h2)
  clear bb GG hx hy hA hB T
  go_enter Tryz.func11, Tryz.ntmps11
  go_upto_region 1 with fail
  generalize hw0 : ((w.alloc (.cells (exC x.h x.ar.len ua uc aa ac) 29)).alloc (.cells (exC y.h y.ar.len ub ud ab ad) 29)) = w0 at *
  clear hw0
  generalize w.heap.size + 1 = g3 at *
  go_wp2_with fail
  refine (CE.out _ B.out).mono ?_
  rintro e w1 ⟨rfl, b1⟩
  replace B := Lib.hid (bnext B.out b1)
  replace G1 := Lib.hid (G1.out.keeps b1)
  replace G2 := Lib.hid (G2.out.keeps b1)
  clear b1
  clear CE
  go_upto_region 3 with fail
  go_cut [28] from 11 (fun v wx => (v = .bool true ∨ (v = .bool false ∧ ((x.ar.sz ≤ 3000 ∧ y.ar.sz ≤ 3000) ∧ shE x = 0 ∧ shE y = 0))) ∧ Hid (Below w1.heap.size w1 wx))
  case first =>
    have R := Lib.hid (b0 w1)
    go_wp2_with (refine arm_loadT infX Tryz.underlying29 rfl (.tmp 2) rfl rfl _ _ _ rfl G1.out rfl ?_)
    refine (Fx.out _ B.out).mono ?_
    rintro e w2 ⟨r1, rfl, -, hz1, b2⟩
    replace B := Lib.hid (bnext B.out b2)
    replace R := Lib.hid (bnext R.out b2)
    replace G1 := Lib.hid (G1.out.keeps b2)
    replace G2 := Lib.hid (G2.out.keeps b2)
    clear b2
    by_cases hr1 : r1 < 0
    · have q1 := decide_eq_true hr1
      go_wp2_with fail
      go_meet
      case rel => exact ⟨.inl rfl, Lib.hid R.out⟩
    · have q1 := decide_eq_false hr1
      have HZ1 := Lib.hid (show x.ar.sz ≤ 3000 from by have := hz1 (by omega); omega)
      clear hz1
      go_wp2_with (refine arm_loadG infX Tryz.underlying29 rfl (.tmp 3) rfl rfl _ _ _ rfl G2.out rfl ?_)
      refine (Fy.out _ B.out).mono ?_
      rintro e w3 ⟨r2, rfl, -, hz2, b3⟩
      replace B := Lib.hid (bnext B.out b3)
      replace R := Lib.hid (bnext R.out b3)
      replace G1 := Lib.hid (G1.out.keeps b3)
      replace G2 := Lib.hid (G2.out.keeps b3)
      clear b3
      by_cases hr2 : r2 < 0
      · have q2 := decide_eq_true hr2
        go_wp2_with fail
        go_meet
        case rel => exact ⟨.inl rfl, Lib.hid R.out⟩
      · have q2 := decide_eq_false hr2
        have HZ2 := Lib.hid (show y.ar.sz ≤ 3000 from by have := hz2 (by omega); omega)
        clear hz2
        go_wp2_with (refine arm_loadG infX Tryz.underlying29 rfl (.tmp 2) rfl rfl _ _ _ rfl G1.out rfl ?_)
        refine (Sx.out _ B.out).mono ?_
        rintro e w4 ⟨rfl, b4⟩
        replace B := Lib.hid (bnext B.out b4)
        replace R := Lib.hid (bnext R.out b4)
        replace G1 := Lib.hid (G1.out.keeps b4)
        replace G2 := Lib.hid (G2.out.keeps b4)
        clear b4
        generalize he1 : shE x = e1 at *
        clear he1
        by_cases h1 : e1 = 0
        · subst h1
          go_wp2_with (refine arm_loadG infX Tryz.underlying29 rfl (.tmp 3) rfl rfl _ _ _ rfl G2.out rfl ?_)
          refine (Sy.out _ B.out).mono ?_
          rintro e w5 ⟨rfl, b5⟩
          replace B := Lib.hid (bnext B.out b5)
          replace R := Lib.hid (bnext R.out b5)
          replace G1 := Lib.hid (G1.out.keeps b5)
          replace G2 := Lib.hid (G2.out.keeps b5)
          clear b5
          generalize he2 : shE y = e2 at *
          clear he2
          by_cases h2 : e2 = 0
          · subst h2
            go_wp2_with fail
            go_meet
            case rel => exact ⟨.inr ⟨rfl, ⟨HZ1.out, HZ2.out⟩, by trivial, by trivial⟩, Lib.hid R.out⟩
          · have q4 : (e2 != 0) = true := by simp [h2]
            replace h2 := Lib.hid h2
            go_wp2_with fail
            go_meet
            case rel => exact ⟨.inl rfl, Lib.hid R.out⟩
        · have q3 : (e1 != 0) = true := by simp [h1]
          replace h1 := Lib.hid h1
          go_wp2_with fail
          go_meet
          case rel => exact ⟨.inl rfl, Lib.hid R.out⟩
  case rest =>
    obtain ⟨hv, BW⟩ := hcut
    replace B := Lib.hid (bnext B.out BW.out)
    replace G1 := Lib.hid (G1.out.keeps BW.out)
    replace G2 := Lib.hid (G2.out.keeps BW.out)
    clear BW Fx Fy Sx Sy
    generalize wc = w3 at *
    rcases hv with rfl | ⟨rfl, ⟨z1, z2⟩, h1, h2⟩
    · go_wp2_with fail
      go_ret
      exact ⟨rfl, B.out⟩
    · replace HQ := Lib.hid (HQ.out h1 h2)
      replace Px := Lib.hid (Px.out z1)
      replace Py := Lib.hid (Py.out z2)
      rw [h1] at Px
      rw [h2] at Py
      simp only [txO, if_true] at Px Py
      clear z1 z2 h1 h2
      generalize B8 (txE x) = s1 at *
      generalize B8 (txE y) = s2 at *
      generalize sxE x y = q at *
      have HQ1 := HQ.out
      go_wp2_with (refine arm_loadT infX Tryz.underlying29 rfl (.tmp 2) rfl rfl _ _ _ rfl G1.out rfl ?_)
      refine (Px.out _ B.out).mono ?_
      rintro e w6 ⟨rfl, b6⟩
      replace B := Lib.hid (bnext B.out b6)
      replace G1 := Lib.hid (G1.out.keeps b6)
      replace G2 := Lib.hid (G2.out.keeps b6)
      clear b6
      go_wp2_with (refine arm_loadT infX Tryz.underlying29 rfl (.tmp 3) rfl rfl _ _ _ rfl G2.out rfl ?_)
      refine (Py.out _ B.out).mono ?_
      rintro e w7 ⟨rfl, b7⟩
      replace B := Lib.hid (bnext B.out b7)
      replace G1 := Lib.hid (G1.out.keeps b7)
      replace G2 := Lib.hid (G2.out.keeps b7)
      clear b7
      go_wp2_with (first | (refine arm_loadG infX Tryz.underlying29 rfl (.tmp 2) rfl rfl _ _ _ rfl G1.out rfl ?_) | (refine arm_loadG infX Tryz.underlying29 rfl (.tmp 3) rfl rfl _ _ _ rfl G2.out rfl ?_))
      refine (XE.out _ B.out).mono ?_
      rintro e w8 ⟨rfl, b8⟩
      replace B := Lib.hid (bnext B.out b8)
      clear b8
      cases q
      · go_wp2_with fail
        go_ret
        exact ⟨rfl, B.out⟩
      · go_wp2_with fail
        go_ret
        exact ⟨rfl, B.out⟩
end Go.Proofs.YtbahfelnbofjjaaGreatDoor.ch
