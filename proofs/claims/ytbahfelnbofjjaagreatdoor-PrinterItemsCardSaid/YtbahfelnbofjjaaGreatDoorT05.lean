/-
  The tokens of what is printed: pieces are tokens with or without a blank in front of them; how they are lexed; The pieces of units, types, windows, literals and expressions: their bytes are the texts, and they are lexed to the tokens; The pieces of an expression of proper form: their bytes are its text; what is printed as true; how long texts are.
-/
import Derived.Test.YtbahfelnbofjjaaGreatDoorT02
import Derived.Test.YtbahfelnbofjjaaGreatDoorT04
set_option maxRecDepth 100000
set_option maxHeartbeats 16000000
namespace Go.Proofs.YtbahfelnbofjjaaGreatDoor.ch
open Go.RowKit dec
abbrev Pc := Bool × Int × ByteArray
def tk0 (p : Pc) : Tk := ⟨p.2.1, p.2.2, 0⟩
def pcB : List Pc → List UInt8
 | [] => []
 | p :: l => (if p.1 = true then [32] else []) ++ (so (tk0 p) ++ pcB l)
theorem pcB_cons (p : Pc) (l : List Pc) : pcB (p :: l) = (if p.1 = true then [32] else []) ++ (so (tk0 p) ++ pcB l) := rfl
theorem pcB_app : ∀ a b : List Pc, pcB (a ++ b) = pcB a ++ pcB b
 | [], _ => rfl
 | p :: a, b => by rw [List.cons_append, pcB_cons, pcB_cons, pcB_app a b]; simp only [List.append_assoc]
def Hf (l : List Pc) : Prop := ∃ q t, l = (false, q) :: t
def sp : List Pc → List Pc
 | [] => []
 | p :: l => (true, p.2) :: l
theorem pcB_sp {l : List Pc} (h : Hf l) : pcB (sp l) = 32 :: pcB l := by
 obtain ⟨q, t, rfl⟩ := h
 rfl
def clo (p : Pc) : Bool := decide (p.2.1 = 5) && !decide (p.2.2.data.toList.head? = some 61)
def opn (p : Pc) : Bool := decide (p.2.1 = 5) && [(⟨#[40]⟩ : ByteArray), ⟨#[45]⟩, ⟨#[64]⟩, ⟨#[91]⟩, ⟨#[94]⟩, ⟨#[42]⟩].any fun s => decide (p.2.2 = s)
def wf : Bool → List Pc → Bool
 | _, [] => true
 | o, p :: l => (p.1 || (o || clo p)) && (pr (tk0 p) && wf (opn p) l)
theorem wf_cons {o : Bool} {p : Pc} {l : List Pc} : wf o (p :: l) = true ↔ (p.1 = true ∨ o = true ∨ clo p = true) ∧ pr (tk0 p) = true ∧ wf (opn p) l = true := by
 show ((p.1 || (o || clo p)) && (pr (tk0 p) && wf (opn p) l)) = true ↔ _
 simp only [Bool.and_eq_true, Bool.or_eq_true]
theorem wf_any {o : Bool} {l : List Pc} (h : wf false l = true) : wf o l = true := by
 cases l with
 | nil => rfl
 | cons p l =>
  rw [wf_cons] at h ⊢
  exact ⟨h.1.imp id fun h => .inr (h.resolve_left (by decide)), h.2⟩
theorem wf_true {o : Bool} {l : List Pc} (h : wf o l = true) : wf true l = true := by
 cases l with
 | nil => rfl
 | cons p l =>
  rw [wf_cons] at h ⊢
  exact ⟨.inr (.inl rfl), h.2⟩
theorem wf_app : ∀ (a b : List Pc) (o : Bool), wf o a = true → wf false b = true → wf o (a ++ b) = true
 | [], _, _, _, h => wf_any h
 | p :: a, b, o, h1, h2 => by
  rw [List.cons_append]
  rw [wf_cons] at h1 ⊢
  exact ⟨h1.1, h1.2.1, wf_app a b _ h1.2.2 h2⟩
theorem wf_sp {l : List Pc} (h : wf true l = true) : wf false (sp l) = true := by
 cases l with
 | nil => rfl
 | cons p l =>
  rw [wf_cons] at h
  exact wf_cons.2 ⟨.inl rfl, h.2⟩
def Nx (y : List UInt8) : Prop := y = [] ∨ ∃ c r, y = c :: r ∧ isW c = false ∧ isD c = false ∧ c.toNat ≠ 46 ∧ c.toNat ≠ 61
theorem nx_sign {x : Tk} (h : pr x = true) (hk : x.k = 5) (h61 : (so x).head? ≠ some 61) (y : List UInt8) : Nx (so x ++ y) := by
 have h1 := ((pr_iff x).1 h).1
 rw [hk] at h1
 cases hs : so x with
 | nil => rw [hs] at h1; exact absurd (congrArg Prod.fst h1) (by decide)
 | cons c q =>
  rw [hs] at h1 h61
  right
  refine ⟨c, q ++ y, rfl, ?_⟩
  have hc61 : c.toNat ≠ 61 := fun e => h61 (by rw [List.head?_cons]; congr 1; exact UInt8.toNat_inj.1 e)
  rw [shp_cons] at h1
  by_cases hl : isL c = true
  ·rw [if_pos hl] at h1; exact absurd (congrArg Prod.fst h1) (by simp)
  ·rw [if_neg hl] at h1
   by_cases hd : isD c = true
   ·rw [if_pos hd] at h1
    split at h1 <;> exact absurd (congrArg Prod.fst h1) (by simp)
   ·rw [if_neg hd] at h1
    split at h1
    ·exact absurd (congrArg Prod.fst h1) (by simp)
    ·have hcs : (c.toNat = 61 ∨ c.toNat = 33 ∨ c.toNat = 60) ∨ isS c = true := by
      rw [sgn_cons] at h1
      split at h1
      ·rename_i h; exact .inl h.1
      ·split at h1
       ·rename_i h; exact .inr h
       ·exact absurd (congrArg Prod.fst h1) (by simp)
     have hn : c.toNat ≠ 95 ∧ c.toNat ≠ 46 := by
      rcases hcs with h | h
      ·omega
      ·unfold isS at h
       simp only [List.mem_cons, List.not_mem_nil, or_false, decide_eq_true_eq] at h
       omega
     refine ⟨?_, by simpa using hd, hn.2, hc61⟩
     unfold isW
     rw [Bool.eq_false_iff.2 hl, Bool.eq_false_iff.2 hd, decide_eq_false hn.1]
     rfl
theorem shp_end {x : Tk} (h : pr x = true) {y : List UInt8} (hy : Nx y) : shp (so x ++ y) = (x.k, (so x).length) := by
 have h1 := ((pr_iff x).1 h).1
 rcases hy with rfl | ⟨c, r, rfl, hW, hD, h46, h61⟩
 ·rw [List.append_nil]; exact h1
 have hk := pr_kind h
 generalize so x = s at h1 ⊢
 generalize x.k = k at h1 hk ⊢
 cases s with
 | nil =>
  have : k = 0 := (congrArg Prod.fst h1).symm
  omega
 | cons d q =>
  rw [List.cons_append]
  rw [shp_cons] at h1 ⊢
  by_cases hl : isL d = true
  ·rw [if_pos hl] at h1 ⊢
   rw [← List.cons_append, run_stop hW]
   exact h1
  ·rw [if_neg hl] at h1 ⊢
   by_cases hd : isD d = true
   ·rw [if_pos hd] at h1 ⊢
    rw [← List.cons_append, run_stop hD]
    by_cases hp : pnt ((d :: q).drop (run isD (d :: q))) = 0
    ·rw [if_pos hp] at h1
     have hlen : run isD (d :: q) = (d :: q).length := congrArg Prod.snd h1
     have e : ((d :: q) ++ c :: r).drop (run isD (d :: q)) = c :: r := by rw [hlen]; exact List.drop_left
     rw [e, pnt_cons, if_neg h46, if_pos rfl]
     exact h1
    ·rw [if_neg hp] at h1
     obtain ⟨e, z, hz, he, hq⟩ := pnt_some hp
     have hle := run_le isD (d :: q)
     have e1 : ((d :: q) ++ c :: r).drop (run isD (d :: q)) = e :: (z ++ c :: r) := by
      rw [List.drop_append_of_le_length hle, hz]
      rfl
     have e2 : pnt (e :: (z ++ c :: r)) = run isD z := by rw [pnt_cons, if_pos he, run_stop hD]
     rw [e1, e2, ← hq, if_neg hp]
     exact h1
   ·rw [if_neg hd] at h1 ⊢
    by_cases ht : d.toNat = 34 ∧ (q.drop (run isQ q)).head? = some 34
    ·rw [if_pos ht] at h1
     have hs := split_at ht.2
     have e1 : run isQ (q ++ c :: r) = run isQ q := by
      conv => lhs; rw [hs]
      rw [List.append_assoc, List.cons_append, run_stop (by decide), run_take]
      omega
     have e2 : ((q ++ c :: r).drop (run isQ q)).head? = some 34 := by
      rw [List.drop_append_of_le_length (run_le _ _)]
      cases hz : q.drop (run isQ q) with
      | nil => rw [hz] at ht; cases ht.2
      | cons a b => rw [hz] at ht; exact ht.2
     rw [e1, if_pos ⟨ht.1, e2⟩]
     exact h1
    ·rw [if_neg ht] at h1
     have hne : ¬ (d.toNat = 34 ∧ ((q ++ c :: r).drop (run isQ (q ++ c :: r))).head? = some 34) := by
      intro hh
      rw [sgn_cons] at h1
      split at h1
      ·rename_i hh2; exact sign_34 (.inr hh2.1) hh.1
      ·split at h1
       ·rename_i hh2; exact sign_34 (.inl hh2) hh.1
       ·have : k = 0 := (congrArg Prod.fst h1).symm
        omega
     rw [if_neg hne]
     rw [sgn_cons] at h1 ⊢
     by_cases h2 : (d.toNat = 61 ∨ d.toNat = 33 ∨ d.toNat = 60) ∧ q.head? = some 61
     ·rw [if_pos h2] at h1
      rw [if_pos ⟨h2.1, by cases q with
       | nil => cases h2.2
       | cons a b => exact h2.2⟩]
      exact h1
     ·rw [if_neg h2] at h1
      by_cases hS : isS d = true
      ·rw [if_pos hS] at h1
       have hq : q = [] := by
        have : (1 : Nat) = (d :: q).length := congrArg Prod.snd h1
        rw [List.length_cons] at this
        exact List.eq_nil_of_length_eq_zero (by omega)
       subst hq
       rw [if_neg (by
        rintro ⟨_, hh⟩
        apply h61
        have : c = 61 := by simpa using hh
        rw [this]; rfl), if_pos hS]
       exact h1
      ·rw [if_neg hS] at h1
       have : k = 0 := (congrArg Prod.fst h1).symm
       omega
theorem shp_opn {p : Pc} (h : opn p = true) (y : List UInt8) : shp (so (tk0 p) ++ y) = (5, (so (tk0 p)).length) := by
 obtain ⟨b, k, t⟩ := p
 unfold opn at h
 simp only [Bool.and_eq_true, decide_eq_true_eq, List.any_cons, List.any_nil, Bool.or_eq_true, Bool.or_false] at h
 obtain ⟨rfl, h⟩ := h
 have key : ∀ c : UInt8, isL c = false → isD c = false → c.toNat ≠ 34 → ¬ (c.toNat = 61 ∨ c.toNat = 33 ∨ c.toNat = 60) → isS c = true → shp (c :: y) = (5, 1) := by
  intro c h1 h2 h3 h4 h5
  rw [shp_cons, if_neg (by rw [h1]; decide), if_neg (by rw [h2]; decide), if_neg (fun h => h3 h.1), sgn_cons, if_neg (fun h => h4 h.1), if_pos h5]
 rcases h with rfl | rfl | rfl | rfl | rfl | rfl
 ·exact key 40 (by decide) (by decide) (by decide) (by decide) (by decide)
 ·exact key 45 (by decide) (by decide) (by decide) (by decide) (by decide)
 ·exact key 64 (by decide) (by decide) (by decide) (by decide) (by decide)
 ·exact key 91 (by decide) (by decide) (by decide) (by decide) (by decide)
 ·exact key 94 (by decide) (by decide) (by decide) (by decide) (by decide)
 ·exact key 42 (by decide) (by decide) (by decide) (by decide) (by decide)
theorem lex_1 {x : Tk} (h : pr x = true) {y : List UInt8} (hp : shp (so x ++ y) = (x.k, (so x).length)) (p : Nat) :
  lxs p false (so x ++ y) = (⟨x.k, x.t, (p : Nat)⟩ :: (lxs (p + (so x).length) false y).1, (lxs (p + (so x).length) false y).2) := by
 have hk := pr_kind h
 obtain ⟨h1, h2⟩ := (pr_iff x).1 h
 have hk0 : (shp (so x)).1 ≠ 0 := by rw [h1]; show x.k ≠ 0; omega
 have hs := shp_head hk0 y
 have hne : so x ++ y ≠ [] := by
  intro e
  rw [(List.append_eq_nil_iff.1 e).1] at hk0
  exact hk0 rfl
 have ht : (so x ++ y).take (so x).length = so x := List.take_left
 have hd : (so x ++ y).drop (so x).length = y := List.drop_left
 have hk1 : x.k ≠ 0 := by omega
 rw [lex_step (l' := so x ++ y) (by rw [hs, List.drop_zero]) hne, hp, hs]
 simp only [ht, hd, h2, if_true, cont_so, Nat.add_zero, decide_eq_false hk1]
theorem nx_rest {o : Bool} {l : List Pc} {y : List UInt8} (h : wf o l = true) (ho : o = false) (hy : Nx y) : Nx (pcB l ++ y) := by
 cases l with
 | nil => exact hy
 | cons p l =>
  obtain ⟨h1, h2, h3⟩ := wf_cons.1 h
  rw [pcB_cons]
  by_cases hb : p.1 = true
  ·rw [if_pos hb]
   exact .inr ⟨32, _, rfl, by decide, by decide, by decide, by decide⟩
  ·rw [if_neg hb]
   have hc : clo p = true := (h1.resolve_left hb).resolve_left (by rw [ho]; decide)
   unfold clo at hc
   simp only [Bool.and_eq_true, decide_eq_true_eq, Bool.not_eq_true', decide_eq_false_iff_not] at hc
   rw [List.nil_append, List.append_assoc]
   refine nx_sign h2 hc.1 ?_ _
   show (so ⟨p.2.1, p.2.2, 0⟩).head? ≠ some 61
   unfold so
   rw [if_neg (by show ¬ p.2.1 = 4; omega)]
   exact hc.2
theorem lex_pcs : ∀ (l : List Pc) (o : Bool) (p : Nat) (y : List UInt8), wf o l = true → Nx y →
  ∃ L, lxs p false (pcB l ++ y) = (L ++ (lxs (p + (pcB l).length) false y).1, (lxs (p + (pcB l).length) false y).2) ∧ L.map kt = l.map (·.2)
 | [], _, p, y, _, _ => ⟨[], rfl, rfl⟩
 | q :: l, o, p, y, h, hy => by
  obtain ⟨h1, h2, h3⟩ := wf_cons.1 h
  have hsh : shp (so (tk0 q) ++ (pcB l ++ y)) = ((tk0 q).k, (so (tk0 q)).length) := by
   cases hq : opn q with
   | true =>
    rw [shp_opn hq]
    have : q.2.1 = 5 := by
     unfold opn at hq
     simp only [Bool.and_eq_true, decide_eq_true_eq] at hq
     exact hq.1
    rw [show (tk0 q).k = 5 from this]
   | false => exact shp_end h2 (nx_rest h3 hq hy)
  rw [pcB_cons]
  by_cases hb : q.1 = true
  ·rw [if_pos hb, List.append_assoc, lex_gap gp_one, List.append_assoc, lex_1 h2 hsh]
   obtain ⟨L, e, k⟩ := lex_pcs l _ (p + [(32 : UInt8)].length + (so (tk0 q)).length) y h3 hy
   refine ⟨⟨q.2.1, q.2.2, ((p + [(32 : UInt8)].length : Nat) : Int)⟩ :: L, ?_, ?_⟩
   ·rw [e, show p + (([32] : List UInt8) ++ (so (tk0 q) ++ pcB l)).length = p + [(32 : UInt8)].length + (so (tk0 q)).length + (pcB l).length by simp only [List.length_append]; omega]
    rfl
   ·rw [List.map_cons, List.map_cons, k]; rfl
  ·rw [if_neg hb, List.nil_append, List.append_assoc, lex_1 h2 hsh]
   obtain ⟨L, e, k⟩ := lex_pcs l _ (p + (so (tk0 q)).length) y h3 hy
   refine ⟨⟨q.2.1, q.2.2, (p : Nat)⟩ :: L, ?_, ?_⟩
   ·rw [e, show p + (so (tk0 q) ++ pcB l).length = p + (so (tk0 q)).length + (pcB l).length by simp only [List.length_append]; omega]
    rfl
   ·rw [List.map_cons, List.map_cons, k]; rfl
theorem lex_all {l : List Pc} (h : wf true l = true) : ∃ L, lxs 0 false (pcB l) = (L, []) ∧ L.map kt = l.map (·.2) := by
 obtain ⟨L, e, k⟩ := lex_pcs l true 0 [] h (.inl rfl)
 rw [List.append_nil, lex_nil, List.append_nil] at e
 exact ⟨L, e, k⟩
end Go.Proofs.YtbahfelnbofjjaaGreatDoor.ch
namespace Go.Proofs.YtbahfelnbofjjaaGreatDoor.ch
open Go.RowKit dec
def wd (s : ByteArray) : Pc := (false, 1, s)
def sg (s : ByteArray) : Pc := (false, 5, s)
def bw (s : ByteArray) : Pc := (true, 1, s)
def bs (s : ByteArray) : Pc := (true, 5, s)
def nuK (n : Int) : Pc := (true, 2, ⟨(Lib.itoa n).toArray⟩)
def faK (x : un.Fa) : List Pc := wd x.1 :: (if x.2 = 1 then [] else sg ⟨#[94]⟩ :: ((if x.2 < 0 then [sg ⟨#[45]⟩] else []) ++ [(false, 2, ⟨(Lib.decDigits x.2.natAbs).toArray⟩)]))
def unK : List un.Fa → List Pc
 | [] => []
 | x :: r => bs ⟨#[91]⟩ :: (faK x ++ ((r.map fun y => sg ⟨#[42]⟩ :: faK y).flatten ++ [sg ⟨#[93]⟩]))
def tyK (t : Ty) : List Pc :=
 if t.k = 1 then [wd ⟨#[98, 111, 111, 108]⟩] else if t.k = 4 then [wd ⟨#[116, 101, 120, 116]⟩] else if t.k = 5 then [wd ⟨#[107, 101, 121]⟩, bw t.of] else if t.k = 2 then wd ⟨#[105, 110, 116]⟩ :: unK t.un else wd ⟨#[100, 101, 99]⟩ :: unK t.un
def wiK (k n : Int) : List Pc :=
 if k = 2 then [wd ⟨#[115, 108, 105, 100, 105, 110, 103]⟩, nuK n] else if k = 3 then [wd ⟨#[116, 117, 109, 98, 108, 105, 110, 103]⟩, nuK n] else if k = 4 then [wd ⟨#[115, 101, 115, 115, 105, 111, 110]⟩, nuK n] else [wd ⟨#[97, 108, 108]⟩]
def vaK (h : Hd) : Pc :=
 if h.vk = 1 then wd (if h.vn = 1 then ⟨#[116, 114, 117, 101]⟩ else ⟨#[102, 97, 108, 115, 101]⟩) else if h.vk = 2 then (false, 2, ⟨(Lib.itoa h.vn).toArray⟩) else if h.vk = 3 then (false, 3, ⟨(foX h.vn).toArray⟩) else (false, 4, h.vs)
def liK (h : Hd) : List Pc := if h.vk = 5 then [sg ⟨#[64]⟩, wd h.nm, (true, 4, h.vs)] else vaK h :: unK h.un
def parK (r q : Int) (l : List Pc) : List Pc := if r < q then sg ⟨#[40]⟩ :: (l ++ [sg ⟨#[41]⟩]) else l
abbrev Ok' := List Pc × Hd
def ok' (l : List Ok') (j : Nat) : Ok' := l.getD j ([], h0)
def okK (l : List Ok') (j : Nat) : List Pc := (ok' l j).1
def okP (l : List Ok') (j : Nat) (q : Int) : List Pc := parK (rk (ok' l j).2) q (ok' l j).1
def agK (h : Hd) (l : List Ok') : List Pc :=
 wd h.op :: sg ⟨#[40]⟩ :: wd h.tb :: ((if h.op = ⟨#[99, 111, 117, 110, 116]⟩ then [] else sg ⟨#[44]⟩ :: sp (okK l 0)) ++ ((if h.op = ⟨#[113, 117, 97, 110, 116, 105, 108, 101]⟩ ∨ h.op = ⟨#[100, 101, 99, 97, 121]⟩ then [sg ⟨#[44]⟩, nuK h.pa] else []) ++
  (sg ⟨#[44]⟩ :: sp (wiK h.wk h.ws) ++ ((if truH (ok' l 1).2 = true then [] else bw ⟨#[119, 104, 101, 114, 101]⟩ :: sp (okK l 1)) ++ [sg ⟨#[41]⟩]))))
def opK (op : ByteArray) : Pc := if op = ⟨#[111, 114]⟩ ∨ op = ⟨#[97, 110, 100]⟩ then bw op else bs op
def nodK (h : Hd) (l : List Ok') : List Pc :=
 if h.k = 1 then liK h
 else if h.k = 4 then wd h.nm :: bw ⟨#[111, 102]⟩ :: bs ⟨#[40]⟩ :: (okK l 0 ++ [sg ⟨#[41]⟩])
 else if h.k = 5 then agK h l
 else if h.k = 6 then (if h.op = ⟨#[45]⟩ then sg ⟨#[45]⟩ :: okP l 0 8 else if h.op = ⟨#[110, 111, 116]⟩ then wd ⟨#[110, 111, 116]⟩ :: sp (okP l 0 4) else wd ⟨#[110, 117, 108, 108]⟩ :: sg ⟨#[40]⟩ :: (okK l 0 ++ [sg ⟨#[41]⟩]))
 else if h.k = 7 then okP l 0 (lef (rkO h.op)) ++ (opK h.op :: sp (okP l 1 (rkO h.op + 1)))
 else if h.k = 8 then wd ⟨#[105, 102]⟩ :: (sp (okK l 0) ++ (bw ⟨#[116, 104, 101, 110]⟩ :: (sp (okK l 1) ++ (bw ⟨#[101, 108, 115, 101]⟩ :: sp (okK l 2)))))
 else if h.k = 9 then okP l 0 1 ++ (bw ⟨#[100, 101, 102, 97, 117, 108, 116]⟩ :: sp (okP l 1 2))
 else [wd h.nm]
def xkF : Fo → List Ok'
 | .nil => []
 | .cons h ar r => (nodK h (xkF ar), h) :: xkF r
structure Gd (K : List Pc) (T : List UInt8) : Prop where
 b : pcB K = T
 w : wf true K = true
 f : Hf K
theorem pcB_wd (s : ByteArray) (l : List Pc) : pcB (wd s :: l) = s.data.toList ++ pcB l := rfl
theorem pcB_bw (s : ByteArray) (l : List Pc) : pcB (bw s :: l) = 32 :: (s.data.toList ++ pcB l) := rfl
theorem pcB_sg (s : ByteArray) (l : List Pc) : pcB (sg s :: l) = s.data.toList ++ pcB l := rfl
theorem pcB_bs (s : ByteArray) (l : List Pc) : pcB (bs s :: l) = 32 :: (s.data.toList ++ pcB l) := rfl
theorem pcB_nu (n : Int) (l : List Pc) : pcB (nuK n :: l) = 32 :: (Lib.itoa n ++ pcB l) := rfl
theorem pcB_nil : pcB [] = [] := rfl
theorem nam_pr {s : ByteArray} (h : name s = true) : pr ⟨1, s, 0⟩ = true := by
 unfold name at h
 rw [Bool.and_eq_true] at h
 rw [← prB_pr ⟨1, s, 0⟩ (s := s) rfl]
 exact h.1
theorem num_pr {u : Nat} (hu : u ≤ 1152921504606846976) : pr ⟨2, ⟨(Lib.decDigits u).toArray⟩, 0⟩ = true := by
 have hne : Lib.decDigits u ≠ [] := by obtain ⟨c, q, e⟩ := dec_cons u; rw [e]; exact List.cons_ne_nil _ _
 exact pr_int rfl hne (dec_isD u) (by rw [dec_dval]; exact hu) 0
theorem itoa_pr {n : Int} (h0 : 0 ≤ n) (h1 : n ≤ 1152921504606846976) : pr ⟨2, ⟨(Lib.itoa n).toArray⟩, 0⟩ = true := by
 unfold Lib.itoa
 rw [if_neg (by omega)]
 exact num_pr (by omega)
theorem wf_wd {o : Bool} {p : Pc} {l : List Pc} (h1 : p.1 = true ∨ o = true ∨ clo p = true) (h2 : pr (tk0 p) = true) (h3 : wf false l = true) : wf o (p :: l) = true := wf_cons.2 ⟨h1, h2, wf_any h3⟩
theorem wf_op {o : Bool} {p : Pc} {l : List Pc} (h1 : p.1 = true ∨ o = true ∨ clo p = true) (h2 : pr (tk0 p) = true) (hp : opn p = true) (h3 : wf true l = true) : wf o (p :: l) = true := wf_cons.2 ⟨h1, h2, by rw [hp]; exact h3⟩
theorem wf_tail {K l : List Pc} (h : wf true K = true) (hl : wf false l = true) : wf true (K ++ l) = true := wf_app _ _ _ h hl
theorem wf_blank {K l : List Pc} (h : wf true K = true) (hl : wf false l = true) : wf false (sp K ++ l) = true := wf_app _ _ _ (wf_sp h) hl
theorem wf_end (s : ByteArray) (h : pr ⟨5, s, 0⟩ = true) (hc : clo (sg s) = true) : wf false [sg s] = true := wf_wd (.inr (.inr hc)) h rfl
theorem wf_par {K : List Pc} {o : Bool} {b : Bool} (hb : b = true ∨ o = true ∨ clo (b, 5, ⟨#[40]⟩) = true) (h : wf true K = true) (l : List Pc) (hl : wf false l = true) : wf o ((b, 5, ⟨#[40]⟩) :: (K ++ sg ⟨#[41]⟩ :: l)) = true :=
 wf_op hb (show pr ⟨5, ⟨#[40]⟩, 0⟩ = true by decide) (show opn (false, 5, ⟨#[40]⟩) = true by decide) (wf_tail h (wf_wd (.inr (.inr (by decide))) (by decide) hl))
theorem par_gd {K : List Pc} {T : List UInt8} (h : Gd K T) (r q : Int) : Gd (parK r q K) (par r q T) := by
 unfold parK par
 by_cases hr : r < q
 ·rw [if_pos hr, if_pos hr]
  refine ⟨?_, wf_par (b := false) (.inr (.inl rfl)) h.w [] rfl, ⟨_, _, rfl⟩⟩
  rw [pcB_sg, pcB_app, h.b, pcB_sg]
  rfl
 ·rw [if_neg hr, if_neg hr]
  exact h
structure Un (u : List un.Fa) : Prop where
 o : un.Ok u
 n : ∀ x ∈ u, name x.1 = true
theorem okU_un {u : List un.Fa} (h : okU u = true) : Un u := by
 unfold okU at h
 rw [Bool.and_eq_true, decide_eq_true_eq, List.all_eq_true] at h
 exact ⟨(un.ck_iff u).1 h.1, h.2⟩
theorem fa_far {x : un.Fa} {u : List un.Fa} (h : Un u) (hx : x ∈ u) : -8 ≤ x.2 ∧ x.2 ≤ 8 ∧ x.2 ≠ 0 := by
 have := (h.o.good x hx).2
 have h2 := this.2
 unfold un.far at h2
 rw [decide_eq_false_iff_not] at h2
 omega
theorem faK_b (x : un.Fa) (l : List Pc) : pcB (faK x ++ l) = un.f1 x ++ pcB l := by
 unfold faK un.f1
 by_cases h1 : x.2 = 1
 ·rw [if_pos h1, if_pos h1]; rfl
 ·rw [if_neg h1, if_neg h1]
  unfold Lib.itoa
  by_cases h2 : x.2 < 0
  ·rw [if_pos h2, if_pos h2, pcB_app]
   show (x.1.data.toList ++ (94 :: 45 :: (Lib.decDigits x.2.natAbs ++ []))) ++ pcB l = _
   simp
  ·rw [if_neg h2, if_neg h2, pcB_app, show x.2.natAbs = x.2.toNat by omega]
   show (x.1.data.toList ++ (94 :: (Lib.decDigits x.2.toNat ++ []))) ++ pcB l = _
   simp
theorem faK_w {x : un.Fa} (hn : name x.1 = true) (h1 : -8 ≤ x.2) (h2 : x.2 ≤ 8) (l : List Pc) (hl : wf false l = true) : wf true (faK x ++ l) = true := by
 unfold faK
 refine wf_app _ _ _ (wf_wd (.inr (.inl rfl)) (nam_pr hn) ?_) hl
 by_cases h : x.2 = 1
 ·rw [if_pos h]; rfl
 ·rw [if_neg h]
  have hd : wf true [((false, 2, ⟨(Lib.decDigits x.2.natAbs).toArray⟩) : Pc)] = true := wf_wd (.inr (.inl rfl)) (num_pr (by omega)) rfl
  refine wf_op (.inr (.inr (by decide))) (by decide) (by decide) ?_
  by_cases h2 : x.2 < 0
  ·rw [if_pos h2]
   exact wf_op (.inr (.inl rfl)) (by decide) (by decide) hd
  ·rw [if_neg h2]
   exact hd
theorem fas_b : ∀ (r : List un.Fa) (l : List Pc), pcB ((r.map fun y => sg ⟨#[42]⟩ :: faK y).flatten ++ l) = Lib.joinTail [42] (r.map un.f1) ++ pcB l
 | [], _ => rfl
 | y :: r, l => by
  rw [List.map_cons, List.flatten_cons, List.append_assoc, List.cons_append, pcB_sg, faK_b, fas_b r l]
  show _ = ([42] ++ un.f1 y ++ Lib.joinTail [42] (r.map un.f1)) ++ pcB l
  simp
theorem fas_w : ∀ (r : List un.Fa) (l : List Pc), (∀ x ∈ r, name x.1 = true ∧ -8 ≤ x.2 ∧ x.2 ≤ 8) → wf false l = true → wf false ((r.map fun y => sg ⟨#[42]⟩ :: faK y).flatten ++ l) = true
 | [], _, _, hl => hl
 | y :: r, l, h, hl => by
  rw [List.map_cons, List.flatten_cons, List.append_assoc, List.cons_append]
  obtain ⟨h1, h2, h3⟩ := h y (List.mem_cons_self ..)
  exact wf_op (.inr (.inr (by decide))) (by decide) (by decide) (faK_w h1 h2 h3 _ (fas_w r l (fun x hx => h x (List.mem_cons_of_mem _ hx)) hl))
theorem unK_b (u : List un.Fa) (l : List Pc) : pcB (unK u ++ l) = uT u ++ pcB l := by
 cases u with
 | nil => rfl
 | cons x r =>
  unfold unK uT
  rw [if_neg (List.cons_ne_nil _ _), List.cons_append, List.append_assoc, List.append_assoc, pcB_bs, faK_b, fas_b]
  unfold un.fT
  rw [List.map_cons, Lib.join_cons]
  show 32 :: ([91] ++ (un.f1 x ++ (Lib.joinTail [42] (r.map un.f1) ++ ([93] ++ pcB l)))) = _
  simp
theorem unK_w {u : List un.Fa} (h : Un u) {l : List Pc} (hl : wf false l = true) : wf false (unK u ++ l) = true := by
 cases u with
 | nil => exact hl
 | cons x r =>
  have hf : ∀ y ∈ x :: r, name y.1 = true ∧ -8 ≤ y.2 ∧ y.2 ≤ 8 := fun y hy => ⟨h.n y hy, (fa_far h hy).1, (fa_far h hy).2.1⟩
  unfold unK
  rw [List.cons_append, List.append_assoc, List.append_assoc]
  obtain ⟨h1, h2, h3⟩ := hf x (List.mem_cons_self ..)
  exact wf_op (.inl rfl) (by decide) (by decide) (faK_w h1 h2 h3 _ (fas_w r _ (fun y hy => hf y (List.mem_cons_of_mem _ hy)) (wf_app _ _ _ (wf_end ⟨#[93]⟩ (by decide) (by decide)) hl)))
theorem app_nil' (l : List Pc) : l = l ++ [] := (List.append_nil l).symm
theorem unK_gw {u : List un.Fa} (h : Un u) : wf false (unK u) = true := by rw [app_nil' (unK u)]; exact unK_w h rfl
theorem unK_gb (u : List un.Fa) : pcB (unK u) = uT u := by rw [app_nil' (unK u), unK_b]; exact List.append_nil _
theorem tyE_cases {t : Ty} (h : tyE t = 0) : (t = ⟨1, [], .empty⟩ ∨ t = ⟨4, [], .empty⟩) ∨ (∃ s, t = ⟨5, [], s⟩ ∧ name s = true) ∨ (∃ u, (t = ⟨2, u, .empty⟩ ∨ t = ⟨3, u, .empty⟩) ∧ Un u) := by
 obtain ⟨k, u, s⟩ := t
 unfold tyE at h
 simp only at h
 by_cases h1 : k < 1 ∨ 5 < k
 ·rw [if_pos h1] at h; cases h
 rw [if_neg h1] at h
 by_cases h2 : k = 5 ∧ name s = false
 ·rw [if_pos h2] at h; cases h
 rw [if_neg h2] at h
 by_cases h3 : k ≠ 5 ∧ s ≠ .empty
 ·rw [if_pos h3] at h; cases h
 rw [if_neg h3] at h
 by_cases h4 : num ⟨k, u, s⟩ = false ∧ 0 < u.length
 ·rw [if_pos h4] at h; cases h
 rw [if_neg h4] at h
 by_cases h5 : okU u = true
 ·have hu := okU_un h5
  have hs : k = 5 ∨ s = .empty := by
   by_cases hk : k = 5
   ·exact .inl hk
   ·exact .inr (Classical.byContradiction fun e => h3 ⟨hk, e⟩)
  have hnum : k = 2 ∨ k = 3 ∨ u = [] := by
   by_cases hk2 : k = 2
   ·exact .inl hk2
   by_cases hk3 : k = 3
   ·exact .inr (.inl hk3)
   refine .inr (.inr ?_)
   have hf : num ⟨k, u, s⟩ = false := by unfold num; simp [hk2, hk3]
   cases u with
   | nil => rfl
   | cons _ _ => exact absurd ⟨hf, by simp⟩ h4
  rcases (show k = 1 ∨ k = 2 ∨ k = 3 ∨ k = 4 ∨ k = 5 by omega) with rfl | rfl | rfl | rfl | rfl
  ·obtain rfl := hs.resolve_left (by decide)
   obtain rfl := (hnum.resolve_left (by decide)).resolve_left (by decide)
   exact .inl (.inl rfl)
  ·obtain rfl := hs.resolve_left (by decide)
   exact .inr (.inr ⟨u, .inl rfl, hu⟩)
  ·obtain rfl := hs.resolve_left (by decide)
   exact .inr (.inr ⟨u, .inr rfl, hu⟩)
  ·obtain rfl := hs.resolve_left (by decide)
   obtain rfl := (hnum.resolve_left (by decide)).resolve_left (by decide)
   exact .inl (.inr rfl)
  ·obtain rfl := (hnum.resolve_left (by decide)).resolve_left (by decide)
   refine .inr (.inl ⟨s, rfl, ?_⟩)
   cases hn : name s with
   | true => rfl
   | false => exact absurd ⟨rfl, hn⟩ h2
 ·rw [if_neg h5] at h; cases h
theorem tyK_gd {t : Ty} (h : tyE t = 0) : Gd (tyK t) (tyT t) := by
 rcases tyE_cases h with (rfl | rfl) | ⟨s, rfl, hs⟩ | ⟨u, rfl | rfl, hu⟩
 ·exact ⟨rfl, by decide, ⟨_, _, rfl⟩⟩
 ·exact ⟨rfl, by decide, ⟨_, _, rfl⟩⟩
 ·refine ⟨?_, wf_wd (p := wd ⟨#[107, 101, 121]⟩) (.inr (.inl rfl)) (by decide) (wf_wd (p := bw s) (.inl rfl) (nam_pr hs) rfl), ⟨_, _, rfl⟩⟩
  show pcB [wd ⟨#[107, 101, 121]⟩, bw s] = [107, 101, 121, 32] ++ s.data.toList
  rw [pcB_wd, pcB_bw, pcB_nil]
  simp
 ·refine ⟨?_, wf_wd (p := wd ⟨#[105, 110, 116]⟩) (.inr (.inl rfl)) (by decide) (unK_gw hu), ⟨_, _, rfl⟩⟩
  show pcB (wd ⟨#[105, 110, 116]⟩ :: unK u) = [105, 110, 116] ++ uT u
  rw [pcB_wd, unK_gb]
 ·refine ⟨?_, wf_wd (p := wd ⟨#[100, 101, 99]⟩) (.inr (.inl rfl)) (by decide) (unK_gw hu), ⟨_, _, rfl⟩⟩
  show pcB (wd ⟨#[100, 101, 99]⟩ :: unK u) = [100, 101, 99] ++ uT u
  rw [pcB_wd, unK_gb]
theorem winH_cases {k n : Int} (h : winH k n = true) : (k = 1 ∧ n = 0) ∨ ((k = 2 ∨ k = 3 ∨ k = 4) ∧ 1 ≤ n ∧ n ≤ 1099511627776) := by
 unfold winH at h
 by_cases h1 : k = 1
 ·rw [if_pos h1, decide_eq_true_eq] at h
  exact .inl ⟨h1, h⟩
 ·rw [if_neg h1] at h
  by_cases h2 : k = 2 ∨ k = 3 ∨ k = 4
  ·rw [if_pos h2, Bool.and_eq_true, decide_eq_true_eq, decide_eq_true_eq] at h
   exact .inr ⟨h2, h⟩
  ·rw [if_neg h2] at h
   cases h
theorem wiK_gd {k n : Int} (h : winH k n = true) : Gd (wiK k n) (wiT k n) := by
 rcases winH_cases h with ⟨rfl, rfl⟩ | ⟨h1, h2, h3⟩
 ·exact ⟨rfl, by decide, ⟨_, _, rfl⟩⟩
 ·have hp : pr (tk0 (nuK n)) = true := itoa_pr (by omega) (by omega)
  rcases h1 with rfl | rfl | rfl
  ·refine ⟨?_, wf_wd (p := wd ⟨#[115, 108, 105, 100, 105, 110, 103]⟩) (.inr (.inl rfl)) (by decide) (wf_wd (p := nuK n) (.inl rfl) hp rfl), ⟨_, _, rfl⟩⟩
   show pcB [wd ⟨#[115, 108, 105, 100, 105, 110, 103]⟩, nuK n] = [115, 108, 105, 100, 105, 110, 103, 32] ++ Lib.itoa n
   rw [pcB_wd, pcB_nu, pcB_nil]; simp
  ·refine ⟨?_, wf_wd (p := wd ⟨#[116, 117, 109, 98, 108, 105, 110, 103]⟩) (.inr (.inl rfl)) (by decide) (wf_wd (p := nuK n) (.inl rfl) hp rfl), ⟨_, _, rfl⟩⟩
   show pcB [wd ⟨#[116, 117, 109, 98, 108, 105, 110, 103]⟩, nuK n] = [116, 117, 109, 98, 108, 105, 110, 103, 32] ++ Lib.itoa n
   rw [pcB_wd, pcB_nu, pcB_nil]; simp
  ·refine ⟨?_, wf_wd (p := wd ⟨#[115, 101, 115, 115, 105, 111, 110]⟩) (.inr (.inl rfl)) (by decide) (wf_wd (p := nuK n) (.inl rfl) hp rfl), ⟨_, _, rfl⟩⟩
   show pcB [wd ⟨#[115, 101, 115, 115, 105, 111, 110]⟩, nuK n] = [115, 101, 115, 115, 105, 111, 110, 32] ++ Lib.itoa n
   rw [pcB_wd, pcB_nu, pcB_nil]; simp
end Go.Proofs.YtbahfelnbofjjaaGreatDoor.ch
namespace Go.Proofs.YtbahfelnbofjjaaGreatDoor.ch
open Go.RowKit dec
theorem same_h0 {h g : Hd} (e : same h g = true) : h.op = g.op ∧ h.nm = g.nm ∧ h.tb = g.tb ∧ h.vk = g.vk ∧ h.vn = g.vn ∧ h.vs = g.vs ∧ h.un = g.un ∧ h.pa = g.pa ∧ h.wk = g.wk ∧ h.ws = g.ws := by
 unfold same at e
 simp only [Bool.and_eq_true, decide_eq_true_eq] at e
 obtain ⟨a1, a2, a3, ⟨a4, a5, a6⟩, a7, a8, a9, a10⟩ := e
 exact ⟨a1, a2, a3, a4, a5, a6, a7, a8, a9, a10⟩
inductive Nod (i : Bool) (g : Hd) : Hd → Nat → Prop where
 | boo (n : Int) : n = 0 ∨ n = 1 → Nod i g { h0 with k := 1, vk := 1, vn := n } 0
 | num (k n : Int) (u : List un.Fa) : k = 2 ∨ k = 3 → 0 ≤ n → n ≤ 1152921504606846976 → Un u → Nod i g { h0 with k := 1, vk := k, vn := n, un := u } 0
 | tex (s : ByteArray) : s.size ≤ 64 → pB 32 s.data.toList = true → Nod i g { h0 with k := 1, vk := 4, vs := s } 0
 | key (m s : ByteArray) : name m = true → 1 ≤ s.size → s.size ≤ 32 → pB 33 s.data.toList = true → Nod i g { h0 with k := 1, nm := m, vk := 5, vs := s } 0
 | fie (m : ByteArray) : i = true → name m = true → Nod i g { h0 with k := 2, nm := m } 0
 | fea (m : ByteArray) : i = false → name m = true → Nod i g { h0 with k := 3, nm := m } 0
 | loo (m : ByteArray) : i = false → name m = true → Nod i g { h0 with k := 4, nm := m } 1
 | agg (op t : ByteArray) (p wk ws : Int) : i = false → name t = true → parH op p = true → winH wk ws = true → (op = ⟨#[99, 111, 117, 110, 116]⟩ → truH g = true) → Nod i g { h0 with k := 5, op := op, tb := t, pa := p, wk := wk, ws := ws } 2
 | una (op : ByteArray) : op = ⟨#[45]⟩ ∨ op = ⟨#[110, 111, 116]⟩ ∨ op = ⟨#[110, 117, 108, 108]⟩ → Nod i g { h0 with k := 6, op := op } 1
 | bin (op : ByteArray) : op = ⟨#[43]⟩ ∨ op = ⟨#[45]⟩ ∨ op = ⟨#[42]⟩ ∨ op = ⟨#[47]⟩ ∨ op = ⟨#[61, 61]⟩ ∨ op = ⟨#[33, 61]⟩ ∨ op = ⟨#[60]⟩ ∨ op = ⟨#[60, 61]⟩ ∨ op = ⟨#[97, 110, 100]⟩ ∨ op = ⟨#[111, 114]⟩ → Nod i g { h0 with k := 7, op := op } 2
 | iff : Nod i g { h0 with k := 8 } 3
 | dfl : Nod i g { h0 with k := 9 } 2
theorem hd_eq {h g : Hd} (hk : h.k = g.k) (e : same h g = true) : h = g := by
 obtain ⟨a1, a2, a3, a4, a5, a6, a7, a8, a9, a10⟩ := same_h0 e
 cases h; cases g
 simp only at *
 subst hk a1 a2 a3 a4 a5 a6 a7 a8 a9 a10
 rfl
theorem nod_of {i : Bool} {h : Hd} {n : Nat} {g : Hd} (e : nodE i h n g = true) : Nod i g h n := by
 unfold nodE at e
 by_cases k1 : h.k = 1
 ·rw [if_pos k1, Bool.and_eq_true, decide_eq_true_eq] at e
  obtain ⟨e, rfl⟩ := e
  unfold litH at e
  simp only [Bool.and_eq_true, decide_eq_true_eq] at e
  obtain ⟨c1, c2, c3, c4⟩ := e
  have hh := hd_eq (g := { h0 with k := 1, nm := h.nm, vk := h.vk, vn := h.vn, vs := h.vs, un := h.un }) k1 (by rw [← c4]; rfl)
  have ho : ok ⟨h.vk, h.vn, h.vs⟩ = true := decide_eq_true c1
  generalize h.nm = m at *
  generalize h.vk = vk at *
  generalize h.vn = vn at *
  generalize h.vs = vs at *
  generalize h.un = u at *
  subst hh
  rcases ok_cases ho with e | e | e | ⟨x, e, h1, h2⟩ | ⟨x, e, h1, h2⟩ | ⟨s, e, h1, h2⟩ | ⟨s, e, h0, h1, h2⟩
  ·obtain ⟨rfl, rfl, rfl⟩ := Va.mk.inj e
   exact absurd c3 (by unfold tyE; simp)
  ·obtain ⟨rfl, rfl, rfl⟩ := Va.mk.inj e
   rcases tyE_cases c3 with (e2 | e2) | ⟨s, e2, hs⟩ | ⟨u', e2 | e2, hu⟩
   ·obtain ⟨_, rfl, rfl⟩ := Ty.mk.inj e2; exact .boo 0 (.inl rfl)
   all_goals exact absurd (Ty.mk.inj e2).1 (by decide)
  ·obtain ⟨rfl, rfl, rfl⟩ := Va.mk.inj e
   rcases tyE_cases c3 with (e2 | e2) | ⟨s, e2, hs⟩ | ⟨u', e2 | e2, hu⟩
   ·obtain ⟨_, rfl, rfl⟩ := Ty.mk.inj e2; exact .boo 1 (.inr rfl)
   all_goals exact absurd (Ty.mk.inj e2).1 (by decide)
  ·obtain ⟨rfl, rfl, rfl⟩ := Va.mk.inj e
   rcases tyE_cases c3 with (e2 | e2) | ⟨s, e2, hs⟩ | ⟨u', e2 | e2, hu⟩
   iterate 3 exact absurd (Ty.mk.inj e2).1 (by decide)
   ·obtain ⟨_, rfl, rfl⟩ := Ty.mk.inj e2; exact .num 2 vn u (.inl rfl) c2 h2 hu
   ·exact absurd (Ty.mk.inj e2).1 (by decide)
  ·obtain ⟨rfl, rfl, rfl⟩ := Va.mk.inj e
   rcases tyE_cases c3 with (e2 | e2) | ⟨s, e2, hs⟩ | ⟨u', e2 | e2, hu⟩
   iterate 4 exact absurd (Ty.mk.inj e2).1 (by decide)
   ·obtain ⟨_, rfl, rfl⟩ := Ty.mk.inj e2; exact .num 3 vn u (.inr rfl) c2 h2 hu
  ·obtain ⟨rfl, rfl, rfl⟩ := Va.mk.inj e
   rcases tyE_cases c3 with (e2 | e2) | ⟨s', e2, hs⟩ | ⟨u', e2 | e2, hu⟩
   ·exact absurd (Ty.mk.inj e2).1 (by decide)
   ·obtain ⟨_, rfl, rfl⟩ := Ty.mk.inj e2; exact .tex vs h1 h2
   all_goals exact absurd (Ty.mk.inj e2).1 (by decide)
  ·obtain ⟨rfl, rfl, rfl⟩ := Va.mk.inj e
   rcases tyE_cases c3 with (e2 | e2) | ⟨s', e2, hs⟩ | ⟨u', e2 | e2, hu⟩
   iterate 2 exact absurd (Ty.mk.inj e2).1 (by decide)
   ·obtain ⟨_, rfl, rfl⟩ := Ty.mk.inj e2; exact .key m vs hs h0 h1 h2
   all_goals exact absurd (Ty.mk.inj e2).1 (by decide)
 rw [if_neg k1] at e
 by_cases k2 : h.k = 2
 ·rw [if_pos k2] at e
  unfold namH at e
  simp only [Bool.and_eq_true, decide_eq_true_eq] at e
  obtain ⟨hi, ⟨hn, hs⟩, rfl⟩ := e
  have hh := hd_eq (g := { h0 with k := 2, nm := h.nm }) k2 (by rw [← hs]; rfl)
  rw [hh]
  exact .fie h.nm hi hn
 rw [if_neg k2] at e
 by_cases k3 : h.k = 3
 ·rw [if_pos k3] at e
  unfold namH at e
  simp only [Bool.and_eq_true, decide_eq_true_eq, Bool.not_eq_true'] at e
  obtain ⟨hi, ⟨hn, hs⟩, rfl⟩ := e
  have hh := hd_eq (g := { h0 with k := 3, nm := h.nm }) k3 (by rw [← hs]; rfl)
  rw [hh]
  exact .fea h.nm hi hn
 rw [if_neg k3] at e
 by_cases k4 : h.k = 4
 ·rw [if_pos k4] at e
  unfold namH at e
  simp only [Bool.and_eq_true, decide_eq_true_eq, Bool.not_eq_true'] at e
  obtain ⟨hi, ⟨hn, hs⟩, rfl⟩ := e
  have hh := hd_eq (g := { h0 with k := 4, nm := h.nm }) k4 (by rw [← hs]; rfl)
  rw [hh]
  exact .loo h.nm hi hn
 rw [if_neg k4] at e
 by_cases k5 : h.k = 5
 ·rw [if_pos k5] at e
  unfold aggH at e
  simp only [Bool.and_eq_true, decide_eq_true_eq, Bool.not_eq_true', Bool.or_eq_true, decide_eq_false_iff_not] at e
  obtain ⟨hi, ⟨hn, hp, hw, hs⟩, rfl, hc⟩ := e
  have hh := hd_eq (g := { h0 with k := 5, op := h.op, tb := h.tb, pa := h.pa, wk := h.wk, ws := h.ws }) k5 (by rw [← hs]; rfl)
  rw [hh]
  exact .agg h.op h.tb h.pa h.wk h.ws hi hn hp hw fun e => hc.resolve_left fun h => h e
 rw [if_neg k5] at e
 by_cases k6 : h.k = 6
 ·rw [if_pos k6] at e
  unfold unaO at e
  simp only [Bool.and_eq_true, decide_eq_true_eq, Bool.or_eq_true] at e
  obtain ⟨ho, hs, rfl⟩ := e
  have hh := hd_eq (g := { h0 with k := 6, op := h.op }) k6 (by rw [← hs]; rfl)
  rw [hh]
  exact .una h.op ho
 rw [if_neg k6] at e
 by_cases k7 : h.k = 7
 ·rw [if_pos k7] at e
  unfold binO at e
  simp only [Bool.and_eq_true, decide_eq_true_eq, Bool.or_eq_true, List.any_cons, List.any_nil, Bool.or_false] at e
  obtain ⟨ho, hs, rfl⟩ := e
  have hh := hd_eq (g := { h0 with k := 7, op := h.op }) k7 (by rw [← hs]; rfl)
  rw [hh]
  exact .bin h.op ho
 rw [if_neg k7] at e
 by_cases k8 : h.k = 8
 ·rw [if_pos k8] at e
  simp only [Bool.and_eq_true, decide_eq_true_eq] at e
  obtain ⟨hs, rfl⟩ := e
  have hh := hd_eq (g := { h0 with k := 8 }) k8 (by rw [← hs]; rfl)
  rw [hh]
  exact .iff
 rw [if_neg k8] at e
 by_cases k9 : h.k = 9
 ·rw [if_pos k9] at e
  simp only [Bool.and_eq_true, decide_eq_true_eq] at e
  obtain ⟨hs, rfl⟩ := e
  have hh := hd_eq (g := { h0 with k := 9 }) k9 (by rw [← hs]; rfl)
  rw [hh]
  exact .dfl
 ·rw [if_neg k9] at e
  cases e
theorem key_pr {s : ByteArray} (h1 : s.size ≤ 32) (h2 : pB 33 s.data.toList = true) : pr ⟨4, s, 0⟩ = true := by
 refine pr_txt ?_ 0
 unfold Go.Proofs.YtbahfelnbofjjaaGreatDoor.txE
 rw [if_neg (by rw [str_len]; omega), if_pos ?_]
 unfold pB at h2 ⊢
 rw [List.all_eq_true] at h2 ⊢
 intro c hc
 have := h2 c hc
 unfold okB at this ⊢
 simp only [Bool.and_eq_true, decide_eq_true_eq] at this ⊢
 exact ⟨⟨⟨by omega, this.1.1.2⟩, this.1.2⟩, this.2⟩
theorem tex_pr {s : ByteArray} (h1 : s.size ≤ 64) (h2 : pB 32 s.data.toList = true) : pr ⟨4, s, 0⟩ = true := by
 refine pr_txt ?_ 0
 unfold Go.Proofs.YtbahfelnbofjjaaGreatDoor.txE
 rw [if_neg (by rw [str_len]; omega), if_pos h2]
theorem fo_pr {n : Int} (h0 : 0 ≤ n) (h1 : n ≤ 1152921504606846976) : pr ⟨3, ⟨(foX n).toArray⟩, 0⟩ = true := by
 have hfo : foX n = bod n.natAbs := by
  rw [fo_eq, if_neg (by omega)]
  rfl
 have hpa := pa_fo (x := n) (by omega) (by omega)
 rw [hfo] at hpa ⊢
 refine pr_decimal (ds := Lib.decDigits (n.natAbs / 1000000)) (fs := frac n.natAbs) rfl ?_ (by unfold frac; simp) (dec_isD _) (frac_isD n.natAbs) hpa.2 0
 obtain ⟨c, r, e⟩ := dec_cons (n.natAbs / 1000000)
 rw [e]
 simp
theorem fm_num {k n : Int} (hk : k = 2 ∨ k = 3) (h0 : 0 ≤ n) (h1 : n ≤ 1152921504606846976) : fm ⟨k, n, .empty⟩ = if k = 2 then Lib.itoa n else foX n := by
 rcases hk with rfl | rfl
 ·rw [fm_ok (ok_int (by omega) h1)]; rfl
 ·rw [fm_ok (ok_dec (by omega) h1)]; rfl
theorem par_op {op : ByteArray} {p : Int} (h : parH op p = true) : (op = ⟨#[99, 111, 117, 110, 116]⟩ ∨ op = ⟨#[115, 117, 109]⟩ ∨ op = ⟨#[109, 101, 97, 110]⟩ ∨ op = ⟨#[109, 105, 110]⟩ ∨ op = ⟨#[109, 97, 120]⟩ ∨ op = ⟨#[102, 105, 114, 115, 116]⟩ ∨ op = ⟨#[108, 97, 115, 116]⟩ ∨ op = ⟨#[100, 105, 115, 116, 105, 110, 99, 116]⟩) ∧ p = 0 ∨ (op = ⟨#[113, 117, 97, 110, 116, 105, 108, 101]⟩ ∨ op = ⟨#[100, 101, 99, 97, 121]⟩) ∧ 1 ≤ p ∧ p ≤ 1073741824 := by
 unfold parH at h
 by_cases h1 : op = ⟨#[99, 111, 117, 110, 116]⟩ ∨ op = ⟨#[115, 117, 109]⟩ ∨ op = ⟨#[109, 101, 97, 110]⟩ ∨ op = ⟨#[109, 105, 110]⟩ ∨ op = ⟨#[109, 97, 120]⟩ ∨ op = ⟨#[102, 105, 114, 115, 116]⟩ ∨ op = ⟨#[108, 97, 115, 116]⟩ ∨ op = ⟨#[100, 105, 115, 116, 105, 110, 99, 116]⟩
 ·rw [if_pos h1, decide_eq_true_eq] at h
  exact .inl ⟨h1, h⟩
 ·rw [if_neg h1] at h
  by_cases h2 : op = ⟨#[113, 117, 97, 110, 116, 105, 108, 101]⟩
  ·rw [if_pos h2, Bool.and_eq_true, decide_eq_true_eq, decide_eq_true_eq] at h
   exact .inr ⟨.inl h2, h.1, by omega⟩
  ·rw [if_neg h2] at h
   by_cases h3 : op = ⟨#[100, 101, 99, 97, 121]⟩
   ·rw [if_pos h3, Bool.and_eq_true, decide_eq_true_eq, decide_eq_true_eq] at h
    exact .inr ⟨.inr h3, h⟩
   ·rw [if_neg h3] at h; cases h
theorem ag_pr {op : ByteArray} {p : Int} (h : parH op p = true) : pr ⟨1, op, 0⟩ = true := by
 rcases par_op h with ⟨h, _⟩ | ⟨h, _⟩
 ·rcases h with rfl | rfl | rfl | rfl | rfl | rfl | rfl | rfl <;> decide
 ·rcases h with rfl | rfl <;> decide
def Gds (K : List Ok') (T : List Od) : Prop := ∀ j, j < T.length → Gd (okK K j) (odT T j) ∧ (ok' K j).2 = (od T j).2
theorem Gds.p {K : List Ok'} {T : List Od} (h : Gds K T) {j : Nat} (hj : j < T.length) (q : Int) : Gd (okP K j q) (odP T j q) := by
 obtain ⟨h1, h2⟩ := h j hj
 unfold okP odP
 rw [h2]
 exact par_gd h1 _ _
theorem gd_paren {K : List Pc} {T : List UInt8} (h : Gd K T) (l : List Pc) : pcB (K ++ sg ⟨#[41]⟩ :: l) = T ++ 41 :: pcB l := by rw [pcB_app, h.b, pcB_sg]; rfl
theorem gd_sp {K : List Pc} {T : List UInt8} (h : Gd K T) (l : List Pc) : pcB (sp K ++ l) = 32 :: (T ++ pcB l) := by rw [pcB_app, pcB_sp h.f, h.b]; rfl
theorem gd_sp' {K : List Pc} {T : List UInt8} (h : Gd K T) : pcB (sp K) = 32 :: T := by rw [pcB_sp h.f, h.b]
theorem wf_open {p : Pc} (h2 : pr (tk0 p) = true) (hp : opn p = true) {K : List Pc} {T : List UInt8} (h : Gd K T) {l : List Pc} (hl : wf false l = true) {o : Bool} (h1 : p.1 = true ∨ o = true ∨ clo p = true) : wf o (p :: (K ++ l)) = true := wf_op h1 h2 hp (wf_tail h.w hl)
theorem nod_gd {i : Bool} {h : Hd} {n : Nat} {g : Hd} (N : Nod i g h n) {K : List Ok'} {T : List Od} (G : Gds K T) (hn : T.length = n) : Gd (nodK h K) (nodT h T) := by
 cases N with
 | boo n e =>
  rcases e with rfl | rfl
  ·have e2 : nodK { h0 with k := 1, vk := 1, vn := 0 } K = [wd ⟨#[102, 97, 108, 115, 101]⟩] := rfl
   have e1 : nodT { h0 with k := 1, vk := 1, vn := 0 } T = fm ⟨1, 0, .empty⟩ ++ [] := rfl
   rw [e1, e2, fm_ok (by decide)]
   exact ⟨by decide, by decide, ⟨_, _, rfl⟩⟩
  ·have e2 : nodK { h0 with k := 1, vk := 1, vn := 1 } K = [wd ⟨#[116, 114, 117, 101]⟩] := rfl
   have e1 : nodT { h0 with k := 1, vk := 1, vn := 1 } T = fm ⟨1, 1, .empty⟩ ++ [] := rfl
   rw [e1, e2, fm_ok (by decide)]
   exact ⟨by decide, by decide, ⟨_, _, rfl⟩⟩
 | num k n u hk h0 h1 hu =>
  have e1 : nodT { Go.Proofs.YtbahfelnbofjjaaGreatDoor.h0 with k := 1, vk := k, vn := n, un := u } T = fm ⟨k, n, .empty⟩ ++ uT u := by
   show liT _ = _
   unfold liT
   rw [if_neg (by show ¬ k = 5; omega)]
   rfl
  rw [e1, fm_num hk h0 h1]
  rcases hk with rfl | rfl
  ·have e2 : nodK { Go.Proofs.YtbahfelnbofjjaaGreatDoor.h0 with k := 1, vk := 2, vn := n, un := u } K = (false, 2, ⟨(Lib.itoa n).toArray⟩) :: unK u := rfl
   rw [e2]
   refine ⟨?_, wf_wd (.inr (.inl rfl)) (itoa_pr h0 h1) (unK_gw hu), ⟨_, _, rfl⟩⟩
   rw [pcB_cons, unK_gb]
   rfl
  ·have e2 : nodK { Go.Proofs.YtbahfelnbofjjaaGreatDoor.h0 with k := 1, vk := 3, vn := n, un := u } K = (false, 3, ⟨(foX n).toArray⟩) :: unK u := rfl
   rw [e2]
   refine ⟨?_, wf_wd (.inr (.inl rfl)) (fo_pr h0 h1) (unK_gw hu), ⟨_, _, rfl⟩⟩
   rw [pcB_cons, unK_gb]
   rfl
 | tex s h1 h2 =>
  have e1 : nodT { h0 with k := 1, vk := 4, vs := s } T = fm ⟨4, 0, s⟩ ++ [] := rfl
  rw [e1, fm_ok (ok_text h1 h2), List.append_nil]
  refine ⟨?_, wf_wd (p := (false, 4, s)) (.inr (.inl rfl)) (tex_pr h1 h2) rfl, ⟨_, _, rfl⟩⟩
  show [] ++ ((34 :: (s.data.toList ++ [34])) ++ []) = _
  rw [List.append_nil]
  rfl
 | key m s hm h0 h1 h2 =>
  refine ⟨?_, wf_op (p := sg ⟨#[64]⟩) (.inr (.inl rfl)) (by decide) (by decide) (wf_wd (p := wd m) (.inr (.inl rfl)) (nam_pr hm) (wf_wd (p := (true, 4, s)) (.inl rfl) (key_pr h1 h2) rfl)), ⟨_, _, rfl⟩⟩
  show [64] ++ (m.data.toList ++ (32 :: ((34 :: (s.data.toList ++ [34])) ++ []))) = 64 :: (m.data.toList ++ 32 :: 34 :: (s.data.toList ++ [34]))
  rw [List.append_nil]
  rfl
 | fie m hi hm =>
  refine ⟨?_, wf_wd (p := wd m) (.inr (.inl rfl)) (nam_pr hm) rfl, ⟨_, _, rfl⟩⟩
  show m.data.toList ++ [] = m.data.toList
  rw [List.append_nil]
 | fea m hi hm =>
  refine ⟨?_, wf_wd (p := wd m) (.inr (.inl rfl)) (nam_pr hm) rfl, ⟨_, _, rfl⟩⟩
  show m.data.toList ++ [] = m.data.toList
  rw [List.append_nil]
 | loo m hi hm =>
  have g0 := (G 0 (by omega)).1
  refine ⟨?_, wf_wd (p := wd m) (.inr (.inl rfl)) (nam_pr hm) (wf_wd (p := bw ⟨#[111, 102]⟩) (.inl rfl) (by decide) (wf_open (p := bs ⟨#[40]⟩) (by decide) (by decide) g0 (wf_end ⟨#[41]⟩ (by decide) (by decide)) (.inl rfl))), ⟨_, _, rfl⟩⟩
  show pcB (wd m :: bw ⟨#[111, 102]⟩ :: bs ⟨#[40]⟩ :: (okK K 0 ++ [sg ⟨#[41]⟩])) = m.data.toList ++ ([32, 111, 102, 32, 40] ++ (odT T 0 ++ [41]))
  rw [pcB_wd, pcB_bw, pcB_bs, gd_paren g0]
  rfl
 | agg op t p wk ws hi ht hp hw hc =>
  have g0 := (G 0 (by omega)).1
  have g1 := (G 1 (by omega)).1
  have e1 := (G 1 (by omega)).2
  have gw := wiK_gd hw
  have w9 : wf false ((if truH (ok' K 1).2 = true then [] else bw ⟨#[119, 104, 101, 114, 101]⟩ :: sp (okK K 1)) ++ [sg ⟨#[41]⟩]) = true := by
   by_cases hq : truH (ok' K 1).2 = true
   ·rw [if_pos hq]; decide
   ·rw [if_neg hq]
    exact wf_wd (p := bw ⟨#[119, 104, 101, 114, 101]⟩) (.inl rfl) (by decide) (wf_blank g1.w (wf_end ⟨#[41]⟩ (by decide) (by decide)))
  have w8 : wf false (sg ⟨#[44]⟩ :: sp (wiK wk ws) ++ ((if truH (ok' K 1).2 = true then [] else bw ⟨#[119, 104, 101, 114, 101]⟩ :: sp (okK K 1)) ++ [sg ⟨#[41]⟩])) = true :=
   wf_wd (p := sg ⟨#[44]⟩) (.inr (.inr (by decide))) (by decide) (wf_blank gw.w w9)
  have w7 : wf false ((if op = ⟨#[113, 117, 97, 110, 116, 105, 108, 101]⟩ ∨ op = ⟨#[100, 101, 99, 97, 121]⟩ then [sg ⟨#[44]⟩, nuK p] else []) ++ (sg ⟨#[44]⟩ :: sp (wiK wk ws) ++ ((if truH (ok' K 1).2 = true then [] else bw ⟨#[119, 104, 101, 114, 101]⟩ :: sp (okK K 1)) ++ [sg ⟨#[41]⟩]))) = true := by
   by_cases hq : op = ⟨#[113, 117, 97, 110, 116, 105, 108, 101]⟩ ∨ op = ⟨#[100, 101, 99, 97, 121]⟩
   ·rw [if_pos hq]
    have hp2 : 1 ≤ p ∧ p ≤ 1073741824 := by
     rcases par_op hp with ⟨h, _⟩ | h
     ·exfalso
      rcases hq with rfl | rfl <;> exact absurd h (by decide)
     ·exact h.2
    exact wf_wd (p := sg ⟨#[44]⟩) (.inr (.inr (by decide))) (by decide) (wf_wd (p := nuK p) (.inl rfl) (itoa_pr (by omega) (by omega)) w8)
   ·rw [if_neg hq]; exact w8
  refine ⟨?_, ?_, ⟨_, _, rfl⟩⟩
  ·show pcB (agK { h0 with k := 5, op := op, tb := t, pa := p, wk := wk, ws := ws } K) = agT { h0 with k := 5, op := op, tb := t, pa := p, wk := wk, ws := ws } T
   have k9 : pcB ((if truH (ok' K 1).2 = true then [] else bw ⟨#[119, 104, 101, 114, 101]⟩ :: sp (okK K 1)) ++ [sg ⟨#[41]⟩]) = (if truH (od T 1).2 = true then [] else [32, 119, 104, 101, 114, 101, 32] ++ odT T 1) ++ [41] := by
    rw [e1]
    by_cases hq : truH (od T 1).2 = true
    ·rw [if_pos hq, if_pos hq]; rfl
    ·rw [if_neg hq, if_neg hq, List.cons_append, pcB_bw, gd_sp g1]
     show 32 :: (([119, 104, 101, 114, 101] : List UInt8) ++ 32 :: (odT T 1 ++ [41])) = _
     simp
   have k8 : pcB (sg ⟨#[44]⟩ :: sp (wiK wk ws) ++ ((if truH (ok' K 1).2 = true then [] else bw ⟨#[119, 104, 101, 114, 101]⟩ :: sp (okK K 1)) ++ [sg ⟨#[41]⟩])) = 44 :: 32 :: wiT wk ws ++ ((if truH (od T 1).2 = true then [] else [32, 119, 104, 101, 114, 101, 32] ++ odT T 1) ++ [41]) := by
    rw [List.cons_append, pcB_sg, gd_sp gw, k9]
    rfl
   have k7 : pcB ((if op = ⟨#[113, 117, 97, 110, 116, 105, 108, 101]⟩ ∨ op = ⟨#[100, 101, 99, 97, 121]⟩ then [sg ⟨#[44]⟩, nuK p] else []) ++ (sg ⟨#[44]⟩ :: sp (wiK wk ws) ++ ((if truH (ok' K 1).2 = true then [] else bw ⟨#[119, 104, 101, 114, 101]⟩ :: sp (okK K 1)) ++ [sg ⟨#[41]⟩]))) =
     (if op = ⟨#[113, 117, 97, 110, 116, 105, 108, 101]⟩ ∨ op = ⟨#[100, 101, 99, 97, 121]⟩ then 44 :: 32 :: Lib.itoa p else []) ++ (44 :: 32 :: wiT wk ws ++ ((if truH (od T 1).2 = true then [] else [32, 119, 104, 101, 114, 101, 32] ++ odT T 1) ++ [41])) := by
    by_cases hq : op = ⟨#[113, 117, 97, 110, 116, 105, 108, 101]⟩ ∨ op = ⟨#[100, 101, 99, 97, 121]⟩
    ·rw [if_pos hq, if_pos hq, List.cons_append, List.cons_append, List.nil_append, pcB_sg, pcB_nu, k8]
     rfl
    ·rw [if_neg hq, if_neg hq, List.nil_append, List.nil_append, k8]
   have k6 : pcB ((if op = ⟨#[99, 111, 117, 110, 116]⟩ then [] else sg ⟨#[44]⟩ :: sp (okK K 0)) ++ ((if op = ⟨#[113, 117, 97, 110, 116, 105, 108, 101]⟩ ∨ op = ⟨#[100, 101, 99, 97, 121]⟩ then [sg ⟨#[44]⟩, nuK p] else []) ++ (sg ⟨#[44]⟩ :: sp (wiK wk ws) ++ ((if truH (ok' K 1).2 = true then [] else bw ⟨#[119, 104, 101, 114, 101]⟩ :: sp (okK K 1)) ++ [sg ⟨#[41]⟩])))) =
     (if op = ⟨#[99, 111, 117, 110, 116]⟩ then [] else 44 :: 32 :: odT T 0) ++ ((if op = ⟨#[113, 117, 97, 110, 116, 105, 108, 101]⟩ ∨ op = ⟨#[100, 101, 99, 97, 121]⟩ then 44 :: 32 :: Lib.itoa p else []) ++ (44 :: 32 :: wiT wk ws ++ ((if truH (od T 1).2 = true then [] else [32, 119, 104, 101, 114, 101, 32] ++ odT T 1) ++ [41]))) := by
    by_cases hq : op = ⟨#[99, 111, 117, 110, 116]⟩
    ·rw [if_pos hq, if_pos hq, List.nil_append, List.nil_append, k7]
    ·rw [if_neg hq, if_neg hq, List.cons_append, pcB_sg, gd_sp g0, k7]
     rfl
   unfold agK agT
   rw [pcB_wd, pcB_sg, pcB_wd, k6]
   rfl
  ·show wf true (agK { h0 with k := 5, op := op, tb := t, pa := p, wk := wk, ws := ws } K) = true
   unfold agK
   refine wf_wd (p := wd op) (.inr (.inl rfl)) (ag_pr hp) (wf_op (p := sg ⟨#[40]⟩) (.inr (.inr (by decide))) (by decide) (by decide) (wf_wd (p := wd t) (.inr (.inl rfl)) (nam_pr ht) ?_))
   show wf false ((if op = ⟨#[99, 111, 117, 110, 116]⟩ then [] else sg ⟨#[44]⟩ :: sp (okK K 0)) ++ _) = true
   by_cases hq : op = ⟨#[99, 111, 117, 110, 116]⟩
   ·rw [if_pos hq]; exact w7
   ·rw [if_neg hq]
    exact wf_wd (p := sg ⟨#[44]⟩) (.inr (.inr (by decide))) (by decide) (wf_blank g0.w w7)
 | una op ho =>
  rcases ho with rfl | rfl | rfl
  ·have g0 := G.p (j := 0) (by omega) 8
   refine ⟨?_, wf_op (p := sg ⟨#[45]⟩) (.inr (.inl rfl)) (by decide) (by decide) g0.w, ⟨_, _, rfl⟩⟩
   show pcB (sg ⟨#[45]⟩ :: okP K 0 8) = 45 :: odP T 0 8
   rw [pcB_sg, g0.b]; rfl
  ·have g0 := G.p (j := 0) (by omega) 4
   refine ⟨?_, wf_wd (p := wd ⟨#[110, 111, 116]⟩) (.inr (.inl rfl)) (by decide) (wf_sp g0.w), ⟨_, _, rfl⟩⟩
   show pcB (wd ⟨#[110, 111, 116]⟩ :: sp (okP K 0 4)) = [110, 111, 116, 32] ++ odP T 0 4
   rw [pcB_wd, gd_sp' g0]; rfl
  ·have g0 := (G 0 (by omega)).1
   refine ⟨?_, wf_wd (p := wd ⟨#[110, 117, 108, 108]⟩) (.inr (.inl rfl)) (by decide) (wf_open (p := sg ⟨#[40]⟩) (by decide) (by decide) g0 (wf_end ⟨#[41]⟩ (by decide) (by decide)) (.inr (.inr (by decide)))), ⟨_, _, rfl⟩⟩
   show pcB (wd ⟨#[110, 117, 108, 108]⟩ :: sg ⟨#[40]⟩ :: (okK K 0 ++ [sg ⟨#[41]⟩])) = [110, 117, 108, 108, 40] ++ (odT T 0 ++ [41])
   rw [pcB_wd, pcB_sg, gd_paren g0]; rfl
 | bin op ho =>
  have g0 := G.p (j := 0) (by omega) (lef (rkO op))
  have g1 := G.p (j := 1) (by omega) (rkO op + 1)
  have hop : pcB (opK op :: sp (okP K 1 (rkO op + 1))) = 32 :: (op.data.toList ++ 32 :: odP T 1 (rkO op + 1)) := by
   rw [pcB_cons, gd_sp' g1]
   unfold opK
   by_cases hq : op = ⟨#[111, 114]⟩ ∨ op = ⟨#[97, 110, 100]⟩
   ·rw [if_pos hq]; rfl
   ·rw [if_neg hq]; rfl
  have hw : wf false (opK op :: sp (okP K 1 (rkO op + 1))) = true := by
   refine wf_wd (.inl ?_) ?_ (wf_sp g1.w)
   ·unfold opK
    split <;> rfl
   ·rcases ho with rfl | rfl | rfl | rfl | rfl | rfl | rfl | rfl | rfl | rfl <;> decide
  obtain ⟨q, t, hf⟩ := g0.f
  refine ⟨?_, wf_tail g0.w hw, ⟨q, t ++ (opK op :: sp (okP K 1 (rkO op + 1))), ?_⟩⟩
  ·show pcB (okP K 0 (lef (rkO op)) ++ (opK op :: sp (okP K 1 (rkO op + 1)))) = odP T 0 (lef (rkO op)) ++ (32 :: (op.data.toList ++ 32 :: odP T 1 (rkO op + 1)))
   rw [pcB_app, g0.b, hop]
  ·show okP K 0 (lef (rkO op)) ++ _ = _
   rw [hf]; rfl
 | iff =>
  have g0 := (G 0 (by omega)).1
  have g1 := (G 1 (by omega)).1
  have g2 := (G 2 (by omega)).1
  refine ⟨?_, wf_wd (p := wd ⟨#[105, 102]⟩) (.inr (.inl rfl)) (by decide) (wf_blank g0.w (wf_wd (p := bw ⟨#[116, 104, 101, 110]⟩) (.inl rfl) (by decide) (wf_blank g1.w (wf_wd (p := bw ⟨#[101, 108, 115, 101]⟩) (.inl rfl) (by decide) (wf_sp g2.w))))), ⟨_, _, rfl⟩⟩
  show pcB (wd ⟨#[105, 102]⟩ :: (sp (okK K 0) ++ (bw ⟨#[116, 104, 101, 110]⟩ :: (sp (okK K 1) ++ (bw ⟨#[101, 108, 115, 101]⟩ :: sp (okK K 2)))))) = [105, 102, 32] ++ (odT T 0 ++ ([32, 116, 104, 101, 110, 32] ++ (odT T 1 ++ ([32, 101, 108, 115, 101, 32] ++ odT T 2))))
  rw [pcB_wd, gd_sp g0, pcB_bw, gd_sp g1, pcB_bw, gd_sp' g2]
  rfl
 | dfl =>
  have g0 := G.p (j := 0) (by omega) 1
  have g1 := G.p (j := 1) (by omega) 2
  have hw : wf false (bw ⟨#[100, 101, 102, 97, 117, 108, 116]⟩ :: sp (okP K 1 2)) = true := wf_wd (.inl rfl) (by decide) (wf_sp g1.w)
  obtain ⟨q, t, hf⟩ := g0.f
  refine ⟨?_, wf_tail g0.w hw, ⟨q, t ++ (bw ⟨#[100, 101, 102, 97, 117, 108, 116]⟩ :: sp (okP K 1 2)), ?_⟩⟩
  ·show pcB (okP K 0 1 ++ (bw ⟨#[100, 101, 102, 97, 117, 108, 116]⟩ :: sp (okP K 1 2))) = odP T 0 1 ++ ([32, 100, 101, 102, 97, 117, 108, 116, 32] ++ odP T 1 2)
   rw [pcB_app, g0.b, pcB_bw, gd_sp' g1]; rfl
  ·show okP K 0 1 ++ _ = _
   rw [hf]; rfl
theorem fmA_app {i : Bool} {h : Hd} {ar r : Fo} (e : fmA i (.cons h ar r) = true) : nodE i h ar.len (ar.nth 0).h = true ∧ fmA (i || decide (h.k = 5)) ar = true ∧ fmA i r = true := by
 have e' : (nodE i h ar.len (ar.nth 0).h && (fmA (i || decide (h.k = 5)) ar && fmA i r)) = true := e
 rw [Bool.and_eq_true, Bool.and_eq_true] at e'
 exact e'
theorem gds_all : ∀ (F : Fo) (i : Bool), fmA i F = true → Gds (xkF F) (txF F)
 | .nil, _, _ => fun j hj => absurd hj (Nat.not_lt_zero _)
 | .cons h ar r, i, e => by
  obtain ⟨e1, e2, e3⟩ := fmA_app e
  have g := nod_gd (nod_of e1) (gds_all ar _ e2) (txF_len ar)
  have gr := gds_all r i e3
  intro j hj
  cases j with
  | zero => exact ⟨g, rfl⟩
  | succ j =>
   have := gr j (by simpa [txF] using hj)
   exact ⟨by simpa [okK, odT, ok', od, xkF, txF] using this.1, by simpa [ok', od, xkF, txF] using this.2⟩
theorem tru_one {K : List Pc} {T : List UInt8} (G : Gd K T) (h : T = [116, 114, 117, 101]) : K.map (·.2) = [(1, ⟨#[116, 114, 117, 101]⟩)] := by
 obtain ⟨L, e, k⟩ := lex_all G.w
 rw [G.b, h] at e
 have e2 : lxs 0 false ([116, 114, 117, 101] : List UInt8) = ([⟨1, ⟨#[116, 114, 117, 101]⟩, 0⟩], []) := lex_alone (x := ⟨1, ⟨#[116, 114, 117, 101]⟩, 0⟩) (by decide) 0 false
 rw [e2] at e
 rw [← k, ← (Prod.mk.inj e).1]
 rfl
theorem map_nil {K : List Pc} (h : K.map (·.2) = []) : K = [] := List.map_eq_nil_iff.1 h
theorem name_tru : name ⟨#[116, 114, 117, 101]⟩ = false := by kernel_rfl
theorem nod_true {i : Bool} {h : Hd} {n : Nat} {g : Hd} (N : Nod i g h n) {K : List Ok'} {T : List Od} (G : Gds K T) (hn : T.length = n) : nodT h T = [116, 114, 117, 101] ↔ truH h = true := by
 have GG := nod_gd N G hn
 constructor
 ·intro e
  have hk := tru_one GG e
  cases N with
  | boo n ee =>
   rcases ee with rfl | rfl
   ·exact absurd (congrArg (fun l => (l.headD (0, .empty)).2) hk) (by show (⟨#[102, 97, 108, 115, 101]⟩ : ByteArray) ≠ ⟨#[116, 114, 117, 101]⟩; decide)
   ·rfl
  | num k n u hk' h0 h1 hu =>
   exfalso
   have e3 := congrArg (fun l => (l.headD (0, .empty)).1) hk
   rcases hk' with rfl | rfl
   ·exact absurd e3 (by show (2 : Int) ≠ 1; decide)
   ·exact absurd e3 (by show (3 : Int) ≠ 1; decide)
  | tex s h1 h2 => exact absurd (congrArg (fun l => (l.headD (0, .empty)).1) hk) (by show (4 : Int) ≠ 1; decide)
  | key m s hm h0 h1 h2 => exact absurd (congrArg (fun l => (l.headD (0, .empty)).1) hk) (by show (5 : Int) ≠ 1; decide)
  | fie m hi hm =>
   have e3 : m = ⟨#[116, 114, 117, 101]⟩ := congrArg (fun l => (l.headD (0, .empty)).2) hk
   rw [e3, name_tru] at hm; cases hm
  | fea m hi hm =>
   have e3 : m = ⟨#[116, 114, 117, 101]⟩ := congrArg (fun l => (l.headD (0, .empty)).2) hk
   rw [e3, name_tru] at hm; cases hm
  | loo m hi hm => exact absurd (congrArg List.length hk) (by show ¬ (_ + 1 + 1 + 1 = 1); omega)
  | agg op t p wk ws hi ht hp hw hc => exact absurd (congrArg List.length hk) (by show ¬ (_ + 1 + 1 + 1 = 1); omega)
  | una op ho =>
   rcases ho with rfl | rfl | rfl
   ·exact absurd (congrArg (fun l => (l.headD (0, .empty)).1) hk) (by show (5 : Int) ≠ 1; decide)
   ·exact absurd (congrArg (fun l => (l.headD (0, .empty)).2) hk) (by show (⟨#[110, 111, 116]⟩ : ByteArray) ≠ ⟨#[116, 114, 117, 101]⟩; decide)
   ·exact absurd (congrArg (fun l => (l.headD (0, .empty)).2) hk) (by show (⟨#[110, 117, 108, 108]⟩ : ByteArray) ≠ ⟨#[116, 114, 117, 101]⟩; decide)
  | bin op ho =>
   exfalso
   have g0 := (G.p (j := 0) (by omega) (lef (rkO op))).f
   obtain ⟨q, t, hq⟩ := g0
   have e3 : (okP K 0 (lef (rkO op)) ++ (opK op :: sp (okP K 1 (rkO op + 1)))).map (·.2) = [(1, ⟨#[116, 114, 117, 101]⟩)] := hk
   rw [hq] at e3
   have := congrArg List.length e3
   simp at this
  | iff => exact absurd (congrArg (fun l => (l.headD (0, .empty)).2) hk) (by show (⟨#[105, 102]⟩ : ByteArray) ≠ ⟨#[116, 114, 117, 101]⟩; decide)
  | dfl =>
   exfalso
   have g0 := (G.p (j := 0) (by omega) 1).f
   obtain ⟨q, t, hq⟩ := g0
   have e3 : (okP K 0 1 ++ (bw ⟨#[100, 101, 102, 97, 117, 108, 116]⟩ :: sp (okP K 1 2))).map (·.2) = [(1, ⟨#[116, 114, 117, 101]⟩)] := hk
   rw [hq] at e3
   have := congrArg List.length e3
   simp at this
 ·intro e
  unfold truH at e
  simp only [Bool.and_eq_true, decide_eq_true_eq] at e
  obtain ⟨e1, e2, e3, e4⟩ := e
  have h9 : fm ⟨1, 1, .empty⟩ = [116, 114, 117, 101] := by rw [fm_ok (by decide)]; rfl
  cases N with
  | boo n e =>
   have e3 : n = 1 := e3
   subst e3
   show fm ⟨1, 1, .empty⟩ ++ [] = _
   rw [h9]; rfl
  | num k n u hk' h0 h1 hu => exfalso; have : k = 1 := e2; omega
  | tex s h1 h2 => exact absurd e2 (by show ¬ (4 : Int) = 1; decide)
  | key m s hm h0 h1 h2 => exact absurd e2 (by show ¬ (5 : Int) = 1; decide)
  | fie m hi hm => exact absurd e1 (by show ¬ (2 : Int) = 1; decide)
  | fea m hi hm => exact absurd e1 (by show ¬ (3 : Int) = 1; decide)
  | loo m hi hm => exact absurd e1 (by show ¬ (4 : Int) = 1; decide)
  | agg op t p wk ws hi ht hp hw hc => exact absurd e1 (by show ¬ (5 : Int) = 1; decide)
  | una op ho => exact absurd e1 (by show ¬ (6 : Int) = 1; decide)
  | bin op ho => exact absurd e1 (by show ¬ (7 : Int) = 1; decide)
  | iff => exact absurd e1 (by show ¬ (8 : Int) = 1; decide)
  | dfl => exact absurd e1 (by show ¬ (9 : Int) = 1; decide)
theorem txE_true {i : Bool} {x : Ex} (e : fmE i x = true) : txE x = [116, 114, 117, 101] ↔ truH x.h = true := by
 have e' : (nodE i x.h x.ar.len (x.ar.nth 0).h && fmA (i || decide (x.h.k = 5)) x.ar) = true := e
 rw [Bool.and_eq_true] at e'
 exact nod_true (nod_of e'.1) (gds_all x.ar _ e'.2) (txF_len _)
def sumT (l : List Od) : Nat := (l.map fun t => t.1.length + 2).sum
theorem od_len (l : List Od) (h1 : l.length = 1) : sumT l = (odT l 0).length + 2 := by
 match l, h1 with
 | [a], _ => rfl
theorem od_len2 (l : List Od) (h1 : l.length = 2) : sumT l = (odT l 0).length + 2 + ((odT l 1).length + 2) := by
 match l, h1 with
 | [a, b], _ => rfl
theorem od_len3 (l : List Od) (h1 : l.length = 3) : sumT l = (odT l 0).length + 2 + ((odT l 1).length + 2) + ((odT l 2).length + 2) := by
 match l, h1 with
 | [a, b, c], _ => simp [sumT, odT, od]; omega
theorem par_len (r q : Int) (t : List UInt8) : (par r q t).length ≤ t.length + 2 := by
 unfold par
 split
 ·simp
 ·omega
theorem odP_len (l : List Od) (j : Nat) (q : Int) : (odP l j q).length ≤ (odT l j).length + 2 := par_len _ _ _
theorem name_len {s : ByteArray} (h : name s = true) : s.data.toList.length ≤ 24 := by
 have h1 := ((pr_iff _).1 (nam_pr h)).2
 have h2 : flt 1 s.data.toList = 0 := h1
 rw [flt_one] at h2
 split at h2
 ·cases h2
 ·omega
theorem fo_len {n : Int} (h0 : 0 ≤ n) (h1 : n ≤ 1152921504606846976) : (foX n).length ≤ 27 := by
 have hfo : foX n = bod n.natAbs := by
  rw [fo_eq, if_neg (by omega)]
  rfl
 rw [hfo]
 unfold bod
 rw [List.length_append, List.length_cons, frac_len]
 have := itoa_le ((n.natAbs / 1000000 : Nat) : Int) (by omega) (by omega)
 unfold Lib.itoa at this
 rw [if_neg (by omega), Int.toNat_natCast] at this
 omega
theorem uT_len {u : List un.Fa} (h : Un u) : (uT u).length ≤ 203 := by
 unfold uT
 split
 ·simp
 ·have := un.fT_len h.o
  simp
  omega
theorem tyT_len {t : Ty} (h : tyE t = 0) : (tyT t).length ≤ 210 := by
 rcases tyE_cases h with (rfl | rfl) | ⟨s, rfl, hs⟩ | ⟨u, rfl | rfl, hu⟩
 ·decide
 ·decide
 ·have := name_len hs
  show ([107, 101, 121, 32] ++ s.data.toList).length ≤ 210
  simp; rw [str_len] at this; omega
 ·have := uT_len hu
  show ([105, 110, 116] ++ uT u).length ≤ 210
  simp; omega
 ·have := uT_len hu
  show ([100, 101, 99] ++ uT u).length ≤ 210
  simp; omega
theorem wiT_len {k n : Int} (h : winH k n = true) : (wiT k n).length ≤ 30 := by
 rcases winH_cases h with ⟨rfl, rfl⟩ | ⟨h1, h2, h3⟩
 ·decide
 ·have := itoa_le n (by omega) (by omega)
  rcases h1 with rfl | rfl | rfl
  ·show ([115, 108, 105, 100, 105, 110, 103, 32] ++ Lib.itoa n).length ≤ 30; simp; omega
  ·show ([116, 117, 109, 98, 108, 105, 110, 103, 32] ++ Lib.itoa n).length ≤ 30; simp; omega
  ·show ([115, 101, 115, 115, 105, 111, 110, 32] ++ Lib.itoa n).length ≤ 30; simp; omega
theorem agop_len {op : ByteArray} {p : Int} (h : parH op p = true) : op.data.toList.length ≤ 8 := by
 rcases par_op h with ⟨h, _⟩ | ⟨h, _⟩
 ·rcases h with rfl | rfl | rfl | rfl | rfl | rfl | rfl | rfl <;> decide
 ·rcases h with rfl | rfl <;> decide
theorem nod_len {i : Bool} {h : Hd} {n : Nat} {g : Hd} (N : Nod i g h n) {T : List Od} (hn : T.length = n) : (nodT h T).length + 2 ≤ 250 + sumT T := by
 cases N with
 | boo n e =>
  have e1 : nodT { h0 with k := 1, vk := 1, vn := n } T = fm ⟨1, n, .empty⟩ ++ [] := rfl
  rw [e1]
  rcases e with rfl | rfl
  ·rw [fm_ok (by decide)]; show 5 + 2 ≤ _; omega
  ·rw [fm_ok (by decide)]; show 4 + 2 ≤ _; omega
 | num k n u hk h0 h1 hu =>
  have e1 : nodT { Go.Proofs.YtbahfelnbofjjaaGreatDoor.h0 with k := 1, vk := k, vn := n, un := u } T = fm ⟨k, n, .empty⟩ ++ uT u := by
   show liT _ = _
   unfold liT
   rw [if_neg (by show ¬ k = 5; omega)]
   rfl
  rw [e1, fm_num hk h0 h1, List.length_append]
  have a1 := uT_len hu
  have a2 := itoa_le n h0 h1
  have a3 := fo_len h0 h1
  split <;> omega
 | tex s h1 h2 =>
  have e1 : nodT { h0 with k := 1, vk := 4, vs := s } T = fm ⟨4, 0, s⟩ ++ [] := rfl
  rw [e1, fm_ok (ok_text h1 h2), List.append_nil]
  show (34 :: (s.data.toList ++ [34])).length + 2 ≤ _
  simp; omega
 | key m s hm h0 h1 h2 =>
  have a1 := name_len hm
  show (64 :: (m.data.toList ++ 32 :: 34 :: (s.data.toList ++ [34]))).length + 2 ≤ _
  rw [str_len] at a1
  simp; omega
 | fie m hi hm => have a1 := name_len hm; show m.data.toList.length + 2 ≤ _; omega
 | fea m hi hm => have a1 := name_len hm; show m.data.toList.length + 2 ≤ _; omega
 | loo m hi hm =>
  have a1 := name_len hm
  rw [od_len T hn]
  show (m.data.toList ++ ([32, 111, 102, 32, 40] ++ (odT T 0 ++ [41]))).length + 2 ≤ _
  rw [str_len] at a1
  simp; omega
 | agg op t p wk ws hi ht hp hw hc =>
  have a1 := name_len ht
  have a2 := agop_len hp
  have a3 := wiT_len hw
  have a4 : (Lib.itoa p).length ≤ 20 := by
   rcases par_op hp with h | h
   ·exact itoa_le p (by omega) (by omega)
   ·exact itoa_le p (by omega) (by omega)
  rw [od_len2 T hn]
  show (agT { h0 with k := 5, op := op, tb := t, pa := p, wk := wk, ws := ws } T).length + 2 ≤ _
  unfold agT
  rw [str_len] at a1 a2
  have b1 : (if op = ⟨#[99, 111, 117, 110, 116]⟩ then [] else 44 :: 32 :: odT T 0 : List UInt8).length ≤ (odT T 0).length + 2 := by split <;> simp
  have b2 : (if op = ⟨#[113, 117, 97, 110, 116, 105, 108, 101]⟩ ∨ op = ⟨#[100, 101, 99, 97, 121]⟩ then 44 :: 32 :: Lib.itoa p else [] : List UInt8).length ≤ 22 := by split <;> simp; omega
  have b3 : (if truH (od T 1).2 = true then [] else [32, 119, 104, 101, 114, 101, 32] ++ odT T 1 : List UInt8).length ≤ (odT T 1).length + 7 := by split <;> simp
  simp only [List.length_append, List.length_cons, List.length_nil, str_len] at *
  omega
 | una op ho =>
  rw [od_len T hn]
  rcases ho with rfl | rfl | rfl
  ·have := odP_len T 0 8
   show (45 :: odP T 0 8).length + 2 ≤ _
   simp; omega
  ·have := odP_len T 0 4
   show ([110, 111, 116, 32] ++ odP T 0 4).length + 2 ≤ _
   simp; omega
  ·show ([110, 117, 108, 108, 40] ++ (odT T 0 ++ [41])).length + 2 ≤ _
   simp; omega
 | bin op ho =>
  rw [od_len2 T hn]
  have a1 := odP_len T 0 (lef (rkO op))
  have a2 := odP_len T 1 (rkO op + 1)
  have a3 : op.data.toList.length ≤ 3 := by rcases ho with rfl | rfl | rfl | rfl | rfl | rfl | rfl | rfl | rfl | rfl <;> decide
  show (odP T 0 (lef (rkO op)) ++ (32 :: (op.data.toList ++ 32 :: odP T 1 (rkO op + 1)))).length + 2 ≤ _
  rw [str_len] at a3
  simp only [List.length_append, List.length_cons, str_len]
  omega
 | iff =>
  rw [od_len3 T hn]
  show ([105, 102, 32] ++ (odT T 0 ++ ([32, 116, 104, 101, 110, 32] ++ (odT T 1 ++ ([32, 101, 108, 115, 101, 32] ++ odT T 2))))).length + 2 ≤ _
  simp; omega
 | dfl =>
  rw [od_len2 T hn]
  have a1 := odP_len T 0 1
  have a2 := odP_len T 1 2
  show (odP T 0 1 ++ ([32, 100, 101, 102, 97, 117, 108, 116, 32] ++ odP T 1 2)).length + 2 ≤ _
  simp only [List.length_append]
  simp; omega
theorem sumT_le : ∀ (F : Fo) (i : Bool), fmA i F = true → sumT (txF F) ≤ 250 * F.sz
 | .nil, _, _ => Nat.le_refl 0
 | .cons h ar r, i, e => by
  obtain ⟨e1, e2, e3⟩ := fmA_app e
  have a1 := nod_len (nod_of e1) (txF_len ar)
  have a2 := sumT_le ar _ e2
  have a3 := sumT_le r i e3
  have : sumT (txF (.cons h ar r)) = (nodT h (txF ar)).length + 2 + sumT (txF r) := rfl
  rw [this]
  simp only [Fo.sz]
  omega
theorem txE_len {i : Bool} {x : Ex} (e : fmE i x = true) : (txE x).length + 2 ≤ 250 * (x.ar.sz + 1) := by
 have e' : (nodE i x.h x.ar.len (x.ar.nth 0).h && fmA (i || decide (x.h.k = 5)) x.ar) = true := e
 rw [Bool.and_eq_true] at e'
 have a1 := nod_len (nod_of e'.1) (txF_len x.ar)
 have a2 := sumT_le x.ar _ e'.2
 show (nodT x.h (txF x.ar)).length + 2 ≤ _
 omega
end Go.Proofs.YtbahfelnbofjjaaGreatDoor.ch
