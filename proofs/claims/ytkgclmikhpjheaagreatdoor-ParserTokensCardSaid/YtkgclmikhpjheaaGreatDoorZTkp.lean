/-
  The source that Join makes of the tokens of a source is parsed as the same.
-/
import Derived.Test.YtkgclmikhpjheaaGreatDoorQ15
import Derived.Test.YtkgclmikhpjheaaGreatDoorZJnp
namespace Go.Proofs.YtkgclmikhpjheaaGreatDoor.pa
open Go.RowKit dec

theorem sim_kt {e e' : Tk} (he : e.k = 6) (hk : e'.k = e.k) (ht : e'.t = e.t) : ∀ {l r : List Tk}, l.map kt = r.map kt → SimR (fun _ _ => True) (l ++ [e]) (r ++ [e'])
  | [], [], _ => .last he hk ht trivial
  | x :: l, y :: r, h => by
    rw [List.map_cons, List.map_cons] at h
    obtain ⟨h1, h2⟩ := List.cons.inj h
    obtain ⟨h3, h4⟩ := Prod.mk.inj h1
    exact .cons h3.symm h4.symm trivial (sim_kt he hk ht h2)
  | [], y :: r, h => by cases h
  | x :: l, [], h => by cases h
theorem strip_all (l : List Tk) (s : ByteArray) : stripE (l ++ [endT s]) = l := by
  have h1 : (l ++ [endT s]).length - 1 = l.length := by rw [List.length_append, List.length_singleton]; omega
  have h2 : tk.gt (l ++ [endT s]) l.length = endT s := by
    rw [tk.gt_eq (by rw [List.length_append, List.length_singleton]; omega)]
    simp
  unfold stripE
  rw [h1, h2, if_pos ⟨by simp, rfl, rfl⟩, List.take_left]
theorem few_all {s : ByteArray} (h : ¬ 16384 < s.size) : fewT (tokL s) := by
  have T := tl_tok h
  refine ⟨fun x hx => ?_, ?_⟩
  · have h1 := sum_cov s.data.toList _ 0 (Nat.zero_le _) (lex_cov s.data.toList 0 false s.data.toList rfl (Nat.zero_le _)).1
    have h2 := sum_len _ (lex_pr 0 false s.data.toList)
    have h3 : s.data.toList.length = s.size := str_len s
    rw [tokL_eq h] at hx
    rcases List.mem_append.1 hx with hx | hx
    · have := h2.2 x hx
      omega
    · rw [List.mem_singleton] at hx
      subst hx
      exact Nat.zero_le _
  · have h2 := sum_len _ (lex_pr 0 false s.data.toList)
    have h1 := sum_cov s.data.toList _ 0 (Nat.zero_le _) (lex_cov s.data.toList 0 false s.data.toList rfl (Nat.zero_le _)).1
    have h3 : s.data.toList.length = s.size := str_len s
    rw [tokL_eq h, List.length_append, List.length_singleton]
    have := h2.1
    omega
theorem join_facts (s : ByteArray) (h : s.size ≤ 3000) : ∃ b : ByteArray, joinE (tokL s) = 0 ∧ joinB (tokL s) = b.data.toList ∧ b.size ≤ 6000 ∧ tokB b = [] ∧ SimR (fun _ _ => True) (tokL s) (tokL b) := by
  have hsh := lex_short s.data.toList
  rw [str_len] at hsh
  have hl := tokL_eq (s := s) (by omega)
  have hp := lex_pr 0 false s.data.toList
  generalize (lxs 0 false s.data.toList).1 = l at *
  obtain ⟨b, hb⟩ : ∃ b : ByteArray, b = ⟨(Lib.join (l.map so) [32]).toArray⟩ := ⟨_, rfl⟩
  have hd : b.data.toList = Lib.join (l.map so) [32] := by rw [hb]
  have hz : b.size = (Lib.join (l.map so) [32]).length := by rw [← str_len, hd]
  have hj := lex_join l 0 false hp
  rw [← hd] at hj
  have hm := tokL_eq (s := b) (by omega)
  have h4 : joinL (tokL s) = Lib.join (l.map so) [32] := by unfold joinL; rw [hl, strip_all]
  have h5 : joinE (tokL s) = 0 := by
    unfold joinE
    rw [h4, hl, strip_all, if_pos (show allP l = true from List.all_eq_true.2 hp), if_neg (by omega)]
  refine ⟨b, h5, by unfold joinB; rw [if_pos h5, h4, hd], by omega, ?_, ?_⟩
  · unfold tokB
    rw [if_neg (by omega), hj.2]
    rfl
  · rw [hl, hm]
    exact sim_kt (e := endT s) (e' := endT b) rfl rfl rfl hj.1.symm
theorem endR_sim {R : Int → Int → Prop} {l r : List Tk} (h : SimR R l r) : RSim R (endR l) (endR r) := by
  unfold endR
  rw [h.hk]
  split
  · exact .ok () h
  · exact wrg_sim h
theorem allR_sim {α : Type} {R : Int → Int → Prop} {one : List Tk → Rs α} {l r : List Tk} (h1 : RSim R (one l) (one r)) : RSim R (allR one l) (allR one r) :=
  h1.bind fun _ _ _ h => (endR_sim h).bind fun _ _ _ h => .ok _ h
/-- Tokens alike are read alike. -/
theorem top_sim {s b : ByteArray} (hs : tokE s = 0) (hb : tokE b = 0) (h1 : tokB s = []) (h2 : tokB b = []) (h : SimR (fun _ _ => True) (tokL s) (tokL b)) : ∃ a, topR (α := Ex) ⟨h0, .nil⟩ exR b = ((topR (α := Ex) ⟨h0, .nil⟩ exR s).1, a, (topR (α := Ex) ⟨h0, .nil⟩ exR s).2.2) := by
  have hr := allR_sim (exR_sim h)
  have hn := allR_ne exR_ne (tokL s)
  unfold topR
  rw [if_pos hs, if_pos hb, h1, h2]
  simp only
  generalize allR exR (tokL s) = x at hr hn
  generalize allR exR (tokL b) = y at hr
  cases hr with
  | out => exact absurd rfl hn
  | ok v h => exact ⟨_, rfl⟩
  | no c ha h => exact ⟨_, rfl⟩
theorem mod_sim {s b : ByteArray} (h1 : tokB s = []) (h2 : tokB b = []) (h : SimR (fun _ _ => True) (tokL s) (tokL b)) {m : Mo} {p : List Pb} (hm : modR s = some (m, p)) : ∃ q, modR b = some (m, q) ∧ q.length = p.length := by
  unfold modR at hm
  rw [h1] at hm
  obtain ⟨q, h3, h4⟩ := modL_sim _ _ h .nil _ _ hm
  refine ⟨q, modR_of (f := (tokL s).length + 1) ?_, h4.len⟩
  rw [h2]
  exact h3
end Go.Proofs.YtkgclmikhpjheaaGreatDoor.pa
