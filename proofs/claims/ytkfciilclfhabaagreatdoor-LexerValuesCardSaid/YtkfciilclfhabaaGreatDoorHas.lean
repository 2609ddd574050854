/-
  has: a source with these tokens and problems.
-/
import Derived.Test.YtkfciilclfhabaaGreatDoorMc
namespace Go.Proofs.YtkfciilclfhabaaGreatDoor
open Go.RowKit dec

def bdA (x : Tk) : Prop := -9223372036854775808 ≤ x.a ∧ x.a ≤ 9223372036854775807
theorem smB_refl (far : Bool) : ∀ l : List Tk, (∀ x ∈ l, bdA x) → smB far 0 l l = true
  | [], _ => rfl
  | x :: l, h => by
    have h1 := h x (List.mem_cons_self ..)
    unfold bdA at h1
    have h2 : wrap64 (x.a + 0) = x.a := by unfold wrap64; omega
    simp only [smB, h2, decide_true, Bool.true_and, Bool.or_true]
    exact smB_refl far l fun y hy => h y (List.mem_cons_of_mem _ hy)
theorem bdA_end (s : ByteArray) (h : s.size ≤ 140737488355328) : bdA (endT s) := by
  unfold bdA endT
  simp only
  omega
set_option maxRecDepth 100000 in
set_option maxHeartbeats 2000000 in
theorem has_any (s : ByteArray) (hz : s.size ≤ 1000) (al : Option Addr) (nl cl : Nat) (lt : List Tk) (ab : Option Addr) (nb cb : Nat) (lb : List Pb) (h1 : tokE s = 0) (h2 : tokL s = lt ++ [endT s]) (h3 : tokB s = lb) (hw : ∀ x ∈ lt, bdA x) (hn : lt.length ≤ 100)
    (w : World) (hl : tk.Sl w al nl cl lt) (hb : pb.Sl w ab nb cb lb) (T : Tabs w) :
    Calls Tryz.prog 22 #[.string s, .slice al nl cl, .slice ab nb cb] w fun e w' => e = .returned (.bool true) ∧ Below w.heap.size w w' := by
  obtain ⟨w1, c, hcv, hB, b1⟩ := bytes_of w s (by omega)
  have TC := Lib.hid (tokens_any _ _ _ s w1 hB (T.stays b1))
  unfold TR at TC
  rw [h1, h2, h3] at TC
  have SM := Lib.hid (fun a n b m d e W hA hB => same_any a n b m d e (lt ++ [endT s]) (lt ++ [endT s]) true 0 W hA hB)
  rw [smB_refl true _ (fun x hx => by
    rcases List.mem_append.1 hx with hx | hx
    · exact hw x hx
    · rw [List.mem_singleton.1 hx]; exact bdA_end s (by omega))] at SM
  have SP := Lib.hid (fun a n b m d e W hA hB => sameProblems_any a n b m d e lb lb W hA hB)
  rw [show spB lb lb = true from decide_eq_true rfl] at SP
  have TK := Lib.hid (fun W => tok_any 6 .empty (s.size : Nat) W)
  have L1 := Lib.hid (hl.keeps b1)
  have Q1 := Lib.hid (hb.keeps b1)
  have B1 := Lib.hid b1
  have hn0 := Lib.hid (show ([] : List Tk).length + nl < 4398046511104 by have := hl.hn; simp; omega)
  have hn1 := Lib.hid (show lt.length < 4398046511104 by omega)
  clear hl hb T h1 h2 h3 hw hn hB b1
  go_enter Tryz.func22, Tryz.ntmps22
  go_wp2_with fail
  refine TC.out.mono ?_
  rintro e w2 ⟨v, u, rfl, o2, p2, b2⟩
  obtain ⟨av, cv, rfl, sv⟩ := o2.sl
  obtain ⟨au, cu, rfl, su⟩ := p2.sl
  generalize hk1 : (lt ++ [endT s]).length = k1 at sv ⊢
  generalize hk2 : lb.length = k2 at su ⊢
  have L2 := Lib.hid (L1.out.keeps b2)
  have Q2 := Lib.hid (Q1.out.keeps b2)
  have V2 := Lib.hid sv
  have U2 := Lib.hid su
  have B2 := Lib.hid (bnext B1.out b2)
  replace hk1 := Lib.hid hk1
  clear sv su o2 p2 b2 hk2
  go_wp2_with (at_builtin; refine tk.is_app (.tmp 18) (.tmp 19) rfl ?_; refine tk.wpList_cat _ rfl (.tmp 18) (.tmp 19) rfl w2.heap.size _ [] rfl (tk.own_new w2 w2.heap.size (Nat.le_refl _)) al nl cl lt rfl (L2.out.keeps (balloc (b0 w2) _)) hn0.out (balloc (b0 w2) _).size ?_; intro v3 w3 O3 b3 g3)
  rw [List.nil_append] at O3
  have C3 := Lib.hid ((balloc (b0 w2) (.cells #[] 39)).trans b3)
  have P3 := Lib.hid O3
  clear O3 b3 g3
  refine (TK.out _).mono ?_
  rintro e w4 ⟨rfl, b4⟩
  have P4 := Lib.hid (P3.out.keeps b4)
  have C4 := Lib.hid (bnext C3.out b4)
  clear b4
  go_wp2_with (at_builtin; refine tk.is_app (.tmp 20) (.tmp 24) rfl ?_; refine tk.wpList_push _ rfl (.tmp 20) (.tmp 24) rfl w2.heap.size _ lt rfl (P4.out.keeps (balloc (b0 w4) _)) w4.heap.size (endT s) rfl (tk.Bw.new w4 (endT s) 39) hn1.out (balloc C4.out _).size ?_; intro v5 w5 O5 b5 g5)
  have C5 := Lib.hid ((balloc C4.out (.cells #[.int .i64 6, .string .empty, .int .i64 (s.size : Nat)] 39)).trans b5)
  obtain ⟨a5, c5, rfl, s5⟩ := O5.sl
  rw [hk1.out] at s5 ⊢
  have S5 := Lib.hid s5
  clear s5 O5 b5 g5
  have V5 := Lib.hid (V2.out.keeps C5.out)
  have U5 := Lib.hid (U2.out.keeps C5.out)
  have Q5 := Lib.hid (Q2.out.keeps C5.out)
  have B5 := Lib.hid (bnext B2.out C5.out)
  go_wp2_with fail
  refine (SM.out _ _ _ _ _ _ _ V5.out S5.out).mono ?_
  rintro e w6 ⟨rfl, b6⟩
  have U6 := Lib.hid (U5.out.keeps b6)
  have Q6 := Lib.hid (Q5.out.keeps b6)
  have B6 := Lib.hid (bnext B5.out b6)
  clear b6
  go_wp2_with fail
  refine (SP.out _ _ _ _ _ _ _ U6.out Q6.out).mono ?_
  rintro e w7 ⟨rfl, b7⟩
  have B7 := Lib.hid (bnext B6.out b7)
  clear b7
  go_wp2_with fail
  go_ret
  exact ⟨rfl, B7.out⟩
end Go.Proofs.YtkfciilclfhabaaGreatDoor
