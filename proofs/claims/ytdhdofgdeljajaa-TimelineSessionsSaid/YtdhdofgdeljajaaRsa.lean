/-
  The reference's SessionAt.
-/
import Derived.Test.YtdhdofgdeljajaaRse
import Derived.Test.YtdhdofgdeljajaaNow
namespace Go.Proofs.Ytdhdofgdeljajaa
open Go.RowKit

theorem ses_pastI {g t : Int} (ht : 0 ≤ t ∧ t ≤ 1099511627776) (l : List Int) : ses g 1099511627776 (pastI t l) = ses g t l := by
  rw [← ses_past g t l]
  unfold ses pastI
  rw [List.filter_filter, List.filter_filter]
  have : (l.filter fun a => (decide (0 ≤ a) && decide (a ≤ 1099511627776)) && decide (a ≤ t)) = l.filter fun a => (decide (0 ≤ a) && decide (a ≤ t)) && decide (a ≤ t) := by
    apply List.filter_congr
    intro x _
    rw [Bool.eq_iff_iff]
    simp only [Bool.and_eq_true, decide_eq_true_eq]
    omega
  rw [this]
theorem sat_off {g t : Int} (ht : ¬ (0 ≤ t ∧ t ≤ 1099511627776)) (l : List Int) : satV g t l = (0, 0) ∧ satB g t l = false := by
  unfold satV satB sat
  rw [if_neg ht]
  exact ⟨rfl, rfl⟩
theorem sat_empty {g t : Int} (ht : 0 ≤ t ∧ t ≤ 1099511627776) {l : List Int} (h : (ses g 1099511627776 (pastI t l)).length = 0) : satV g t l = (0, 0) ∧ satB g t l = false := by
  rw [ses_pastI ht] at h
  unfold satV satB sat
  rw [if_pos ht, List.eq_nil_of_length_eq_zero h]
  exact ⟨rfl, rfl⟩
theorem getLast_gt {M : List I2} {m : Nat} (h : M.length = m + 1) : M.getLast? = some (gt M m) := by
  rw [List.getLast?_eq_getElem?, h, gt_eq (by omega)]
  simp [h]
theorem sat_end {g t : Int} (ht : 0 ≤ t ∧ t ≤ 1099511627776) {l : List Int} {m : Nat} (h : (ses g 1099511627776 (pastI t l)).length = m + 1) :
    (1 ≤ g ∧ g ≤ 1099511627776) ∧ Ok (gt (ses g 1099511627776 (pastI t l)) m) ∧ ((gt (ses g 1099511627776 (pastI t l)) m).2 < t - g → satV g t l = (0, 0) ∧ satB g t l = false) ∧ (¬ (gt (ses g 1099511627776 (pastI t l)) m).2 < t - g → satV g t l = gt (ses g 1099511627776 (pastI t l)) m ∧ satB g t l = true) := by
  refine ⟨?_, ses_ok g _ _ (Int.le_refl _) _ (gt_mem (by omega)), ?_, ?_⟩
  · by_cases hg : 1 ≤ g ∧ g ≤ 1099511627776
    · exact hg
    · rw [ses_none hg] at h; simp at h
  · intro hlt
    have hl := getLast_gt h
    unfold satV satB sat
    rw [if_pos ht]
    rw [ses_pastI ht] at hl hlt
    rw [hl]
    simp only [Option.bind_some]
    rw [if_pos hlt]
    exact ⟨rfl, rfl⟩
  · intro hlt
    have hl := getLast_gt h
    unfold satV satB sat
    rw [if_pos ht]
    rw [ses_pastI ht] at hl hlt ⊢
    rw [hl]
    simp only [Option.bind_some]
    rw [if_neg hlt]
    exact ⟨rfl, rfl⟩

set_option maxRecDepth 100000 in
set_option maxHeartbeats 2000000 in
theorem rsessionAt_any (a : Option Addr) (n cap : Nat) (l : List Int) (g t : Int) (w : World) (hS : Sn w a n cap l) (hlim : n < 4000000000000) :
    Calls Try.prog 24 #[.slice a n cap, .int .i64 g, .int .i64 t] w fun e w' => e = .returned (.tuple #[.agg #[.int .i64 (satV g t l).1, .int .i64 (satV g t l).2], .bool (satB g t l)]) ∧ Below w.heap.size w w' := by
  have TC := rtick_any t
  have hn := Lib.hid hS.hn
  have hcap := hS.hcap
  have hmax := hS.hmax
  have R := Lib.hid (Bw.new w 0 0 23)
  have b1 := Lib.hid (balloc (b0 w) (.cells #[.int .i64 0, .int .i64 0] 23))
  have S1 := Lib.hid (hS.keeps (balloc (b0 w) (.cells #[.int .i64 0, .int .i64 0] 23)))
  clear hS
  by_cases ht : 0 ≤ t ∧ t ≤ 1099511627776
  case neg =>
    obtain ⟨v1, v2⟩ := sat_off (g := g) ht l
    rw [v1, v2]
    have e : (decide (0 ≤ t) && decide (t ≤ 1099511627776)) = false := by rw [Bool.eq_false_iff]; intro h; simp at h; omega
    rw [e] at TC
    replace TC := Lib.hid TC
    clear v1 v2 e ht S1
    go_enter Try.func24, Try.ntmps24
    go_wp2_with fail
    refine (TC.out _).mono ?_
    rintro e w1 ⟨rfl, rfl⟩
    generalize w.alloc (.cells #[.int .i64 0, .int .i64 0] 23) = W at *
    obtain ⟨r0, r1, h0, h1⟩ := R.out
    go_wp2_with fail
    obtain ⟨d0, d1, _, _⟩ := R.out.put 0 0
    simp [bodyPost, results, Try.results24, go_sem, d0, d1]
    exact put_below b1.out (by omega) _ _
  case pos =>
    have e : (decide (0 ≤ t) && decide (t ≤ 1099511627776)) = true := by simp; omega
    rw [e] at TC
    replace TC := Lib.hid TC
    have hpt : Hid (∀ k, k < l.length → pastI t (l.take (k + 1)) = pastI t (l.take k) ++ (if decide (gn l k ≤ t) then [gn l k] else [])) := fun k hk => pastI_take hk
    have hpl : Hid (∀ k, (pastI t (l.take k)).length ≤ n) := fun k => by
      have h1 := List.length_filter_le (fun x => decide (x ≤ t)) (l.take k)
      rw [List.length_take] at h1
      have := hn.out
      unfold pastI
      omega
    have hE := Lib.hid (fun h => sat_empty (g := g) ht (l := l) h)
    have hF := Lib.hid (fun m h => sat_end (g := g) ht (l := l) (m := m) h)
    clear e
    go_enter Try.func24, Try.ntmps24
    go_wp2_with fail
    refine (TC.out _).mono ?_
    rintro e w1 ⟨rfl, rfl⟩
    clear TC
    generalize w.alloc (.cells #[.int .i64 0, .int .i64 0] 23) = W at *
    go_wp2_with fail
    go_loopw [8, 9] (fun v i wr => ∃ k : Nat, i = .int .i64 (k : Int) ∧ Hid (k ≤ n) ∧ Hid (OwnN wr W.heap.size v (pastI t (l.take k))) ∧ Hid (Below W.heap.size W wr)) (fun _ i _ => n - (intOf i).toNat)
    case atStart => exact ⟨0, rfl, Nat.zero_le _, by simp only [List.take_zero, pastI, List.filter_nil]; exact OwnN.nil _ _, b0 W⟩
    case round =>
      obtain ⟨k, rfl, hk, hO, hb⟩ := hrel
      by_cases hlt : k < n
      · have q1 : decide ((k : Int) < (n : Int)) = true := decide_eq_true (by omega)
        obtain ⟨bk, off, rfl, hC⟩ := (S1.out.keeps hb.out).hat.resolve_left (by have := hn.out; omega)
        have e0 := hC k (by have := hn.out; omega)
        have hf := Lib.hid (hpt.out k (by have := hn.out; omega))
        have hlen := Lib.hid (hpl.out k)
        generalize gn l k = x at *
        clear hC
        by_cases hx : x ≤ t
        · have q2 : decide (x ≤ t) = true := decide_eq_true hx
          have h1 : Hid (pastI t (l.take (k + 1)) = pastI t (l.take k) ++ [x]) := by have := hf.out; rw [q2] at this; simpa [Hid] using this
          clear hf hx
          go_wp2_with (at_builtin; refine is_appN (.tmp 28) (.tmp 33) rfl ?_; refine wpList_pushN _ rfl (.tmp 28) (.tmp 33) rfl W.heap.size _ _ rfl (hO.out.keeps (balloc (b0 _) _)) wr.heap.size x rfl (by simp [go_sem]) (by have := hlen.out; omega) (balloc hb.out _).size ?_; intro v2 w4 O2 b2)
          refine ⟨⟨k + 1, rfl, hlt, by unfold Hid; rw [h1.out]; exact O2, (balloc hb.out _).trans b2⟩, ?_⟩
          simp only [intOf]
          omega
        · have q2 : decide (x ≤ t) = false := decide_eq_false hx
          have h1 : Hid (pastI t (l.take (k + 1)) = pastI t (l.take k)) := by have := hf.out; rw [q2] at this; simpa [Hid] using this
          clear hf hx
          go_wp2_with fail
          go_roundw
          case rel => exact ⟨k + 1, rfl, hlt, by unfold Hid; rw [h1.out]; exact hO.out, hb.out⟩
          case measure => simp only [intOf]; omega
      · have q1 : decide ((k : Int) < (n : Int)) = false := decide_eq_false (by omega)
        have hk2 : Hid (l.take k = l) := List.take_of_length_le (by have := hn.out; omega)
        have hO2 := hk2.out ▸ hO.out
        have hpl2 := hpl.out k
        rw [hk2.out] at hpl2
        obtain ⟨ap, capp, rfl, SP⟩ := OwnN.sn (w := wr) hO2
        have SC := Lib.hid (rsessions_any ap _ capp (pastI t l) g wr SP (by omega))
        generalize (pastI t l).length = np at *
        replace hpl2 := Lib.hid hpl2
        clear hO hO2 hk2 hpl hpt SP S1
        generalize wr = w2 at *
        go_wp2_with fail
        refine SC.out.mono ?_
        rintro e w3 ⟨v, rfl, O, d⟩
        generalize ses g 1099511627776 (pastI t l) = M at *
        obtain ⟨am, capm, rfl, L⟩ := O.sl
        have b3 := Lib.hid (b1.out.trans ((bnext hb.out d).mono b1.out.size))
        replace R := Lib.hid (R.out.keeps (bnext hb.out d))
        have hcapm := L.hcap
        have hmaxm := L.hmax
        clear d SC hb O b1
        obtain ⟨nm, hnm⟩ : ∃ nm, M.length = nm := ⟨_, rfl⟩
        rw [hnm] at hE hcapm L ⊢
        obtain ⟨r0, r1, h0, h1⟩ := R.out
        by_cases hz : nm = 0
        · subst hz
          obtain ⟨v1, v2⟩ := hE.out rfl
          clear hE hF L
          go_wp2_with fail
          rw [v1, v2]
          obtain ⟨d0, d1, _, _⟩ := R.out.put 0 0
          simp [bodyPost, results, Try.results24, go_sem, d0, d1]
          exact put_below b3.out (by omega) _ _
        · obtain ⟨m, rfl⟩ : ∃ m, nm = m + 1 := ⟨nm - 1, by omega⟩
          obtain ⟨⟨g1, g2⟩, ⟨o1, o2, o3⟩, hA, hB⟩ := hF.out m hnm
          obtain ⟨bm, offm, rfl, hD⟩ := L.hat.resolve_left (by omega)
          obtain ⟨c0, c1⟩ := hD m (by omega)
          generalize gt M m = x at *
          obtain ⟨x1, x2⟩ := x
          simp only at c0 c1 hA hB o1 o2 o3
          by_cases hlt3 : x2 < t - g
          · have q4 : decide (x2 < t - g) = true := decide_eq_true hlt3
            obtain ⟨v1, v2⟩ := hA hlt3
            clear hE hF L hD hA hB hz hlt3
            go_wp2_with fail
            rw [v1, v2]
            obtain ⟨d0, d1, _, _⟩ := R.out.put 0 0
            simp [bodyPost, results, Try.results24, go_sem, d0, d1]
            exact put_below b3.out (by omega) _ _
          · have q4 : decide (x2 < t - g) = false := decide_eq_false hlt3
            obtain ⟨v1, v2⟩ := hB (by omega)
            clear hE hF L hD hA hB hz hlt3
            go_wp2_with fail
            rw [v1, v2]
            obtain ⟨d0, d1, _, _⟩ := R.out.put x1 x2
            simp [bodyPost, results, Try.results24, go_sem, d0, d1]
            exact put_below b3.out (by omega) _ _
end Go.Proofs.Ytdhdofgdeljajaa
