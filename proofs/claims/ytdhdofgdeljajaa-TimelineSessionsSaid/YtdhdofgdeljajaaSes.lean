/-
  sessions and Sessions.
-/
import Derived.Test.YtdhdofgdeljajaaUni
namespace Go.Proofs.Ytdhdofgdeljajaa
open Go.RowKit Go.Shelf

/-! Integers that came in. -/
def gn (l : List Int) (j : Nat) : Int := l.getD j 0
theorem gn_eq {l : List Int} {j : Nat} (h : j < l.length) : gn l j = l[j] := by
  unfold gn
  rw [List.getD_eq_getElem?_getD, List.getElem?_eq_getElem h]
  rfl
theorem gn_take {l : List Int} {j : Nat} (h : j < l.length) : l.take (j + 1) = l.take j ++ [gn l j] := by
  rw [gn_eq h, List.take_add_one, List.getElem?_eq_getElem h]
  rfl
theorem gn_drop {l : List Int} {j : Nat} (h : j < l.length) : l.drop j = gn l j :: l.drop (j + 1) := by
  rw [gn_eq h]
  exact List.drop_eq_getElem_cons h
theorem gn_mem {l : List Int} {j : Nat} (h : j < l.length) : gn l j ∈ l := by
  rw [gn_eq h]
  exact List.getElem_mem h
def Cn (w : World) (b off : Nat) (l : List Int) : Prop := ∀ j, j < l.length → w.cell? ⟨b, off + j, none⟩ = some (.int .i64 (gn l j))
structure Sn (w : World) (a : Option Addr) (n cap : Nat) (l : List Int) : Prop where
  hat : l.length = 0 ∨ ∃ b off, a = some ⟨b, off, none⟩ ∧ Cn w b off l
  hn : l.length = n
  hcap : n ≤ cap
  hmax : cap ≤ 9223372036854775807
  hno : a = none → cap = 0
theorem Sn.keeps {w w1 : World} {a : Option Addr} {n cap : Nat} {l : List Int} (h : Sn w a n cap l) (hb : Below w.heap.size w w1) : Sn w1 a n cap l :=
  { h with hat := h.hat.imp id fun ⟨b, off, e, hB⟩ => ⟨b, off, e, fun j hj => Go.Proofs.Ytdhdofgdeljajaa.keeps hb (hB j hj)⟩ }
theorem Sn.nil (w : World) : Sn w none 0 0 [] := ⟨.inl rfl, rfl, by omega, by omega, fun _ => rfl⟩
theorem Sn.few {w : World} {a : Option Addr} {n cap : Nat} {l : List Int} (h : Sn w a n cap l) (m : Nat) (hm : m ≤ n) : Sn w a m cap (l.take m) := by
  have hn := h.hn
  refine ⟨?_, by rw [List.length_take]; omega, by have := h.hcap; omega, h.hmax, h.hno⟩
  rcases h.hat with h0 | ⟨b, off, e, hB⟩
  · exact .inl (by rw [List.length_take]; omega)
  · refine .inr ⟨b, off, e, fun j hj => ?_⟩
    have hj' : j < m := by rw [List.length_take] at hj; omega
    have : gn (l.take m) j = gn l j := by
      rw [gn_eq hj, gn_eq (by omega)]
      simp
    rw [this]
    exact hB j (by omega)

/-- The moments. -/
def evs (g e : Int) (l : List Int) : List Int := if isz g then l.filter (fun t => decide (0 ≤ t) && decide (t ≤ e)) else []
theorem evs_take {g e : Int} {l : List Int} {k : Nat} (h : k < l.length) : evs g e (l.take (k + 1)) = evs g e (l.take k) ++ (if isz g && (decide (0 ≤ gn l k) && decide (gn l k ≤ e)) then [gn l k] else []) := by
  unfold evs
  cases hg : isz g
  · simp
  · rw [gn_take h, List.filter_append]
    simp only [Bool.true_and, if_true]
    congr 1
    cases hx : (decide (0 ≤ gn l k) && decide (gn l k ≤ e)) <;> simp [hx]
theorem evs_len (g e : Int) (l : List Int) : (evs g e l).length ≤ l.length := by
  unfold evs
  split
  · exact List.length_filter_le _ _
  · simp
theorem asc_perm_mo {s : List I2} {m : List Int} (hp : s.Perm (m.map mo)) (ha : Asc s) : s = (srt m).map mo := by
  have h1 : ∀ x ∈ s, mo x.1 = x := by
    intro x hx
    obtain ⟨t, _, rfl⟩ := List.mem_map.1 (hp.mem_iff.1 hx)
    rfl
  have h2 : (s.map Prod.fst).map mo = s := by
    rw [List.map_map]
    conv => rhs; rw [← List.map_id s]
    exact List.map_congr_left h1
  have h3 : (s.map Prod.fst).Perm m := by
    have := hp.map Prod.fst
    rw [List.map_map] at this
    have e : (Prod.fst ∘ mo) = id := rfl
    rwa [e, List.map_id] at this
  have h4 : Up (s.map Prod.fst) := by
    unfold Up
    rw [List.pairwise_map]
    exact ha
  rw [← h2, srt_of h3 h4]
theorem mrg_evs (g e : Int) (l : List Int) : mrg g ((srt (evs g e l)).map mo) = ses g e l := by
  unfold evs ses
  by_cases h : 1 ≤ g ∧ g ≤ 1099511627776
  · rw [if_pos h, if_pos ((isz_iff g).2 h)]
  · rw [if_neg h, if_neg (fun hz => h ((isz_iff g).1 hz))]
    rfl
theorem ok_evs {g e : Int} (he : e ≤ 1099511627776) (l : List Int) : ∀ x ∈ (srt (evs g e l)).map mo, Ok x := by
  intro x hx
  obtain ⟨t, ht, rfl⟩ := List.mem_map.1 hx
  have ht := mem_srt.1 ht
  unfold evs at ht
  split at ht
  · have := (List.mem_filter.1 ht).2
    simp only [Bool.and_eq_true, decide_eq_true_eq] at this
    exact ⟨this.1, Int.le_refl _, by simp only [mo]; omega⟩
  · simp at ht

set_option maxHeartbeats 1000000 in
theorem sessions_any (a : Option Addr) (n cap : Nat) (l : List Int) (g t : Int) (ht : t ≤ 1099511627776) (w : World) (hS : Sn w a n cap l) (hlim : l.length < 8000000000000) :
    Calls Try.prog 42 #[.slice a n cap, .int .i64 g, .int .i64 t] w fun e w' => ∃ b1 b2 b3 a' n' cap' s, e = .returned (.func (.func 48) #[] #[.pointer (some ⟨b1, 0, none⟩), .pointer (some ⟨b2, 0, none⟩)]) ∧ It w' b1 b2 b3 a' n' cap' s g ∧ (∀ x ∈ s, Ok x) ∧ s.length ≤ l.length ∧ mrg g s = ses g t l ∧ (w.heap.size ≤ b1 ∧ w.heap.size ≤ b2 ∧ w.heap.size ≤ b3 ∧ ∀ x, a' = some x → w.heap.size ≤ x.block) ∧ Below w.heap.size w w' := by
  have hS1 := Lib.hid hS
  have hn := Lib.hid hS.hn
  have hL := Lib.hid hlim
  have hcap := hS.hcap
  have hmax := hS.hmax
  have SZ := Lib.hid (size_b g)
  have het : Hid (∀ k, k < l.length → evs g t (l.take (k + 1)) = evs g t (l.take k) ++ (if isz g && (decide (0 ≤ gn l k) && decide (gn l k ≤ t)) then [gn l k] else [])) := fun k hk => evs_take hk
  have hz : Hid (∀ k, ((evs g t (l.take k)).map mo).length < 8000000000000) := fun k => by
    rw [List.length_map]
    have h1 := evs_len g t (l.take k)
    rw [List.length_take] at h1
    omega
  have hall := Lib.hid (mrg_evs g t l)
  have hall2 := Lib.hid (ok_evs (g := g) ht l)
  have hall3 := Lib.hid (evs_len g t l)
  generalize isz g = z at *
  replace ht := Lib.hid ht
  clear hS hlim
  go_enter Try.func42, Try.ntmps42
  go_wp2_with fail
  go_loopw [7, 12] (fun v i wr => ∃ k : Nat, i = .int .i64 (k : Int) ∧ Hid (k ≤ n) ∧ Hid (Own wr w.heap.size v ((evs g t (l.take k)).map mo)) ∧ Hid (Below w.heap.size w wr)) (fun _ i _ => n - (intOf i).toNat)
  case atStart => exact ⟨0, rfl, Nat.zero_le _, by simp only [List.take_zero, evs, List.filter_nil, ite_self, List.map_nil]; exact Own.nil _ _, b0 w⟩
  case round =>
    obtain ⟨k, rfl, hk, hO, hb⟩ := hrel
    obtain ⟨hat, _, _, _, _⟩ := hS1.out.keeps hb.out
    by_cases hlt : k < n
    · have q1 : decide ((k : Int) < (n : Int)) = true := decide_eq_true (by omega)
      obtain ⟨bk, off, rfl, hC⟩ := hat.resolve_left (by have := hn.out; omega)
      have e0 := hC k (by have := hn.out; omega)
      have hf := Lib.hid (het.out k (by have := hn.out; omega))
      generalize gn l k = x at *
      clear hat hC
      go_wp2_with fail
      refine (SZ.out _).mono ?_
      rintro e w2 ⟨rfl, d⟩
      replace hO := Lib.hid (hO.out.keeps d)
      replace hb := Lib.hid (bnext hb.out d)
      clear d e0
      have hno : Hid ((z && (decide (0 ≤ x) && decide (x ≤ t))) = false → evs g t (l.take (k + 1)) = evs g t (l.take k)) := fun h => by have := hf.out; rw [h] at this; simpa using this
      have hyes : Hid ((z && (decide (0 ≤ x) && decide (x ≤ t))) = true → evs g t (l.take (k + 1)) = evs g t (l.take k) ++ [x]) := fun h => by have := hf.out; rw [h] at this; simpa using this
      clear hf
      cases z
      · have h1 := Lib.hid (hno.out rfl)
        clear hno hyes
        go_wp2_with fail
        go_roundw
        case rel => exact ⟨k + 1, rfl, hlt, by unfold Hid; rw [h1.out]; exact hO.out, hb.out⟩
        case measure =>
          simp only [intOf]
          omega
      by_cases hx0 : 0 ≤ x
      · have q2 : decide (0 ≤ x) = true := decide_eq_true hx0
        by_cases hx1 : x ≤ t
        · have q3 : decide (x ≤ t) = true := decide_eq_true hx1
          have h1 := Lib.hid (hyes.out (by rw [q2, q3]; rfl))
          have hlen := Lib.hid (hz.out k)
          clear hno hyes hx0 hx1
          go_wp2_with (at_builtin; refine is_app (.tmp 27) (.tmp 31) rfl ?_; refine wpList_push _ rfl (.tmp 27) (.tmp 31) rfl w.heap.size _ _ rfl (hO.out.keeps (balloc (b0 _) _)) w2.heap.size x x rfl (Bw.new w2 x x 23) hlen.out (balloc hb.out _).size ?_; intro v2 w4 O2 b2)
          refine ⟨⟨k + 1, rfl, hlt, by unfold Hid; rw [h1.out, List.map_append]; exact O2, (balloc hb.out _).trans b2⟩, ?_⟩
          simp only [intOf]
          omega
        · have q3 : decide (x ≤ t) = false := decide_eq_false hx1
          have h1 := Lib.hid (hno.out (by rw [q2, q3]; rfl))
          clear hno hyes hx0 hx1
          go_wp2_with fail
          go_roundw
          case rel => exact ⟨k + 1, rfl, hlt, by unfold Hid; rw [h1.out]; exact hO.out, hb.out⟩
          case measure =>
            simp only [intOf]
            omega
      · have q2 : decide (0 ≤ x) = false := decide_eq_false hx0
        have h1 := Lib.hid (hno.out (by rw [q2]; rfl))
        clear hno hyes hx0
        go_wp2_with fail
        go_roundw
        case rel => exact ⟨k + 1, rfl, hlt, by unfold Hid; rw [h1.out]; exact hO.out, hb.out⟩
        case measure =>
          simp only [intOf]
          omega
    · have q1 : decide ((k : Int) < (n : Int)) = false := decide_eq_false (by omega)
      have hk2 : Hid (l.take k = l) := List.take_of_length_le (by have := hn.out; omega)
      have hO2 := Lib.hid (hk2.out ▸ hO.out : Own wr w.heap.size _ ((evs g t l).map mo))
      have hlen : Hid (((evs g t l).map mo).length < 8000000000000) := by
        have := hz.out k
        rw [hk2.out] at this
        exact this
      clear hat hO het hz hk2
      go_wp2_with fail
      refine (sort_any w.heap.size _ _ _ hO2.out hlen.out hb.out.size).mono ?_
      rintro e w2 ⟨rfl, a2, cap2, s, rfl, hp, hs, hS2, hbk, b2⟩
      replace b2 := Lib.hid (hb.out.trans b2)
      have hsz := b2.out.size
      clear hO2 hb
      have hse := asc_perm_mo hp hs
      rw [List.length_map] at hlen hS2
      have hok : Hid (∀ x ∈ s, Ok x) := by unfold Hid; rw [hse]; exact hall2.out
      have hm : Hid (mrg g s = ses g t l) := by unfold Hid; rw [hse]; exact hall.out
      have hsl : Hid (s.length ≤ l.length) := by unfold Hid; rw [hp.length_eq, List.length_map]; exact hall3.out
      rw [List.length_map]
      generalize (evs g t l).length = m at *
      replace hS2 := Lib.hid hS2
      replace hbk := Lib.hid hbk
      replace hsz := Lib.hid hsz
      clear hp hs hlen hse
      go_wp2_with fail
      refine (joinWithin_any g _).mono ?_
      rintro e w3 ⟨rfl, rfl⟩
      go_wp2_with fail
      refine (merged_any a2 m cap2 _ _ _ _).mono ?_
      rintro e w3 ⟨rfl, rfl⟩
      have I3 := it_new w2 a2 m cap2 s g hS2.out
      have b3 := balloc (balloc (balloc b2.out (.cells #[.int .i64 g] 3)) (.cells #[.slice a2 m cap2] 24)) (.cells #[.func (.func 49) #[] #[.pointer (some ⟨w2.heap.size, 0, none⟩)]] 26)
      replace I3 := Lib.hid I3
      replace b3 := Lib.hid b3
      simp only [alloc_size]
      go_wp2_with fail
      go_ret
      exact ⟨_, _, _, a2, m, cap2, s, rfl, I3.out, hok.out, hsl.out, hm.out, ⟨by have := hsz.out; omega, by have := hsz.out; omega, hsz.out, hbk.out⟩, b3.out⟩
end Go.Proofs.Ytdhdofgdeljajaa
