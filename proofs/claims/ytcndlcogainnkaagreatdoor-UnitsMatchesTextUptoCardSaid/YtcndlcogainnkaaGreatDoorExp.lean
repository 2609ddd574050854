/-
  The examples of the chapter as plain data.
-/
import Derived.Test.YtcndlcogainnkaaGreatDoorPar
namespace Go.Proofs.YtcndlcogainnkaaGreatDoor
open Go.RowKit dec

def nM : ByteArray := ⟨#[109]⟩
def nS : ByteArray := ⟨#[115]⟩
def nE' : ByteArray := ⟨#[101, 117, 114]⟩
def nH : ByteArray := ⟨#[104]⟩
def nX : ByteArray := ⟨#[77]⟩
theorem ltS_data (a b : ByteArray) : ltS a b = Op.bytesLess a.data.toList b.data.toList := by unfold ltS; rw [ByteArray.toList_eq, ByteArray.toList_eq]
theorem mS : ltS nM nS = true := by rw [ltS_data]; decide
theorem sM : ltS nS nM = false := by rw [ltS_data]; decide
theorem eH : ltS nE' nH = true := by rw [ltS_data]; decide
theorem ne_ms : nM ≠ nS := ltS_ne mS
theorem ne_sm : nS ≠ nM := fun e => ne_ms e.symm
theorem ok_one {x : Fa} (h : word x.1 = true ∧ x.2 ≠ 0 ∧ far x.2 = false) : Ok [x] := ⟨by simp, fun y hy => by rw [List.mem_singleton.1 hy]; exact h, by simp [Srt]⟩
theorem ok_two {x y : Fa} (h1 : word x.1 = true ∧ x.2 ≠ 0 ∧ far x.2 = false) (h2 : word y.1 = true ∧ y.2 ≠ 0 ∧ far y.2 = false) (h : ltS x.1 y.1 = true) : Ok [x, y] := ⟨by simp, fun z hz => by
  rcases List.mem_cons.1 hz with rfl | hz
  · exact h1
  · rw [List.mem_singleton.1 hz]; exact h2, by simp [Srt, h]⟩
theorem ok_m : Ok [(nM, 1)] := ok_one (by decide)
theorem ok_m8 : Ok [(nM, 8)] := ok_one (by decide)
theorem ok_s : Ok [(nS, 1)] := ok_one (by decide)
theorem ok_sn : Ok [(nS, -1)] := ok_one (by decide)
theorem ok_msn : Ok [(nM, 1), (nS, -1)] := ok_two (by decide) (by decide) mS
theorem ok_ms2 : Ok [(nM, 1), (nS, 2)] := ok_two (by decide) (by decide) mS
theorem ok_eh : Ok [(nE', 1), (nH, -1)] := ok_two (by decide) (by decide) eH
theorem it (n : Int) (u : Nat) (h : n = -(u : Int)) (h0 : 0 < u) (hu : u < 10) : Lib.itoa n = [45, UInt8.ofNat (48 + u)] := by
  unfold Lib.itoa
  rw [if_pos (by omega), show n.natAbs = u by omega, dec_small hu]
theorem itp (n : Int) (u : Nat) (h : n = (u : Int)) (hu : u < 10) : Lib.itoa n = [UInt8.ofNat (48 + u)] := by
  unfold Lib.itoa
  rw [if_neg (by omega), show n.toNat = u by omega, dec_small hu]
theorem t_m : fT [(nM, 1)] = [109] := by decide
theorem t_s : fT [(nS, 1)] = [115] := by decide
theorem f_sn : f1 (nS, -1) = [115, 94, 45, 49] := by
  unfold f1
  rw [if_neg (by decide), it (-1) 1 (by decide) (by decide) (by decide)]
  decide
theorem f_hn : f1 (nH, -1) = [104, 94, 45, 49] := by
  unfold f1
  rw [if_neg (by decide), it (-1) 1 (by decide) (by decide) (by decide)]
  decide
theorem f_m8 : f1 (nM, 8) = [109, 94, 56] := by
  unfold f1
  rw [if_neg (by decide), itp 8 8 (by decide) (by decide)]
  decide
theorem f_s2 : f1 (nS, 2) = [115, 94, 50] := by
  unfold f1
  rw [if_neg (by decide), itp 2 2 (by decide) (by decide)]
  decide
theorem f_m2 : f1 (nM, 2) = [109, 94, 50] := by
  unfold f1
  rw [if_neg (by decide), itp 2 2 (by decide) (by decide)]
  decide
theorem t_one (x : Fa) : fT [x] = f1 x := by unfold fT; rw [List.map_cons, List.map_nil, Lib.join_one]
theorem t_two (x y : Fa) : fT [x, y] = f1 x ++ 42 :: f1 y := by
  unfold fT
  rw [List.map_cons, List.map_cons, List.map_nil, Lib.join_cons]
  simp [Lib.joinTail]
theorem t_sn : fT [(nS, -1)] = [115, 94, 45, 49] := by rw [t_one, f_sn]
theorem t_m8 : fT [(nM, 8)] = [109, 94, 56] := by rw [t_one, f_m8]
theorem t_msn : fT [(nM, 1), (nS, -1)] = [109, 42, 115, 94, 45, 49] := by rw [t_two, f_sn]; decide
theorem t_ms2 : fT [(nM, 1), (nS, 2)] = [109, 42, 115, 94, 50] := by rw [t_two, f_s2]; decide
theorem t_eh : fT [(nE', 1), (nH, -1)] = [101, 117, 114, 42, 104, 94, 45, 49] := by rw [t_two, f_hn]; decide
theorem p_of {u : List Fa} {l : List UInt8} (h : Ok u) (t : fT u = l) : psE l = 0 ∧ psL l = u := t ▸ ps_back h
theorem no_of {l : List UInt8} {u : List Fa} (hc : cand l = u) (h : ck u ≠ 0 ∨ fT u ≠ l) : psE l = 3 ∧ psL l = [] := by
  have e : psOk l = false := by
    unfold psOk
    rw [hc]
    rcases h with h | h
    · rw [decide_eq_false h]; rfl
    · rw [decide_eq_false h, Bool.and_false]
  unfold psE psL
  rw [e]
  exact ⟨rfl, rfl⟩
theorem x_1 : psE [109, 94, 49] = 3 ∧ psL [109, 94, 49] = [] := no_of (u := [(nM, 1)]) (by rfl) (.inr (by decide))
theorem ck_sm : ck [(nS, 1), (nM, 1)] = 3 := by
  have h0 : ck1 .empty (nS, 1) = 0 := ck1_of (by decide) (by decide) (by decide) (by rw [ltS_empty]; decide)
  have h1 : ck1 nS (nM, 1) = 3 := by
    unfold ck1
    rw [if_neg (by decide), if_neg (by decide), if_neg (by rw [sM]; decide)]
  unfold ck
  rw [if_neg (by decide)]
  unfold ckFrom
  rw [if_pos h0]
  unfold ckFrom
  rw [h1]
  rfl
theorem ck_m0 : ck [(nM, 0)] = 70 := by
  unfold ck
  rw [if_neg (by decide)]
  unfold ckFrom
  have h1 : ck1 .empty (nM, 0) = 70 := by
    unfold ck1
    rw [if_neg (by decide), if_pos (.inl rfl)]
  rw [h1]
  rfl
theorem ck_x : ck [(nX, 1)] = 1 := by
  unfold ck
  rw [if_neg (by decide)]
  unfold ckFrom
  have h1 : ck1 .empty (nX, 1) = 1 := by
    unfold ck1
    rw [if_pos (by decide)]
  rw [h1]
  rfl
theorem ck_me : ck [(nM, 1), (.empty, 1)] ≠ 0 := fun h => by
  have := ((ck_iff _).1 h).good (.empty, 1) (by simp)
  exact absurd this.1 (by decide)
theorem x_2 : psE [115, 42, 109] = 3 ∧ psL [115, 42, 109] = [] := no_of (u := [(nS, 1), (nM, 1)]) (by rfl) (.inl (by rw [ck_sm]; decide))
theorem x_3 : psE [109, 94, 48, 50] = 3 ∧ psL [109, 94, 48, 50] = [] := no_of (u := [(nM, 2)]) (by rfl) (.inr (by rw [t_one, f_m2]; decide))
theorem x_4 : psE [109, 42] = 3 ∧ psL [109, 42] = [] := no_of (u := [(nM, 1), (.empty, 1)]) (by rfl) (.inl ck_me)
theorem y_1 : cE 1 [(nM, 1)] [(nS, -1)] = 0 ∧ cL 1 [(nM, 1)] [(nS, -1)] = [(nM, 1), (nS, -1)] := c_is ok_m ok_sn ok_msn fun n => by simp [ex]
theorem y_2 : cE 1 [(nM, 1), (nS, -1)] [(nS, 1)] = 0 ∧ cL 1 [(nM, 1), (nS, -1)] [(nS, 1)] = [(nM, 1)] := c_is ok_msn ok_s ok_m fun n => by
  simp only [ex]
  by_cases h : nS = n
  · rw [if_pos h]; rw [← h, if_neg ne_ms]; decide
  · rw [if_neg h, if_neg h]; simp
theorem y_3 : cE (-1) [(nM, 1)] [(nM, 1)] = 0 ∧ cL (-1) [(nM, 1)] [(nM, 1)] = [] := c_is ok_m ok_m Ok.nil fun n => by
  simp only [ex]
  by_cases h : nM = n
  · rw [if_pos h]; decide
  · rw [if_neg h]; decide
theorem y_4 : cE 1 [(nM, 8)] [(nM, 1)] = 70 ∧ cL 1 [(nM, 8)] [(nM, 1)] = [] := by
  obtain ⟨h1, h2⟩ := cE_n (p := 1) ((ck_iff _).2 ok_m8) ((ck_iff _).2 ok_m)
  have h := nE_far (l := [(nM, 8)] ++ sc 1 [(nM, 1)]) (by decide) ((anyFar_iff _).2 ⟨nM, by simp [ex, sc]; decide⟩)
  exact ⟨h1.trans h.1, h2.trans h.2⟩
theorem y_5 : nE [(nS, 1), (nM, 1), (nS, 1)] = 0 ∧ nL [(nS, 1), (nM, 1), (nS, 1)] = [(nM, 1), (nS, 2)] := by
  obtain ⟨a, b⟩ := n_congr (l := [(nS, 1), (nM, 1), (nS, 1)]) (r := [(nM, 1), (nS, 2)]) (by decide) (by decide) fun n => by
    simp only [ex]
    by_cases h : nS = n
    · rw [if_pos h, if_pos h, ← h, if_neg ne_ms]; decide
    · rw [if_neg h, if_neg h]; omega
  obtain ⟨c, d⟩ := n_ok ok_ms2
  exact ⟨a.trans c, b.trans d⟩
end Go.Proofs.YtcndlcogainnkaaGreatDoor
