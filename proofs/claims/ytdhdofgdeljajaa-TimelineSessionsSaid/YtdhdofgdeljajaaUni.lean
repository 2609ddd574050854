/-
  Union.
-/
import Derived.Test.YtdhdofgdeljajaaCol
import Derived.Test.YtdhdofgdeljajaaSrt
import Derived.Test.YtdhdofgdeljajaaSme
namespace Go.Proofs.Ytdhdofgdeljajaa
open Go.RowKit Go.Shelf

/-- What is behind merged in memory. -/
theorem it_new (w : World) (a : Option Addr) (n cap : Nat) (l : List I2) (g : Int) (h : Sl w a n cap l) :
    It (((w.alloc (.cells #[.int .i64 g] 3)).alloc (.cells #[.slice a n cap] 24)).alloc (.cells #[.func (.func 49) #[] #[.pointer (some ⟨w.heap.size, 0, none⟩)]] 26)) (w.heap.size + 1) (w.heap.size + 1 + 1) w.heap.size a n cap l g := by
  refine ⟨by simp [go_sem], by simp [go_sem], by simp [go_sem], ?_⟩
  exact h.keeps (balloc (balloc (balloc (b0 w) _) _) _)
theorem filter_take {l : List I2} {k : Nat} (h : k < l.length) : (l.take (k + 1)).filter okI = (l.take k).filter okI ++ (if okI (gt l k) then [gt l k] else []) := by
  rw [take_gt h, List.filter_append]
  congr 1
  cases hx : okI (gt l k) <;> simp [hx]
set_option maxHeartbeats 1000000 in
theorem union_any (a : Option Addr) (n cap : Nat) (l : List I2) (w : World) (hS : Sl w a n cap l) (hlim : l.length < 8000000000000) :
    Calls Try.prog 18 #[.slice a n cap] w fun e w' => ∃ v u, e = .returned v ∧ Un l u ∧ u.length ≤ l.length ∧ Own w' w.heap.size v u ∧ Below w.heap.size w w' := by
  have hS1 := Lib.hid hS
  have hn := Lib.hid hS.hn
  have hL := Lib.hid hlim
  have hcap := hS.hcap
  have hmax := hS.hmax
  clear hS hlim
  go_enter Try.func18, Try.ntmps18
  go_wp2_with fail
  go_loopw [3, 8] (fun v i wr => ∃ k : Nat, i = .int .i64 (k : Int) ∧ Hid (k ≤ n) ∧ Hid (Own wr w.heap.size v ((l.take k).filter okI)) ∧ Hid (Below w.heap.size w wr)) (fun _ i _ => n - (intOf i).toNat)
  case atStart => exact ⟨0, rfl, Nat.zero_le _, by simp only [List.take_zero, List.filter_nil]; exact Own.nil _ _, b0 w⟩
  case round =>
    obtain ⟨k, rfl, hk, hO, hb⟩ := hrel
    obtain ⟨hat, _, _, _, _⟩ := hS1.out.keeps hb.out
    by_cases hlt : k < n
    · have q1 : decide ((k : Int) < (n : Int)) = true := decide_eq_true (by omega)
      obtain ⟨bk, off, rfl, hC⟩ := hat.resolve_left (by have := hn.out; omega)
      obtain ⟨e0, e1⟩ := hC k (by have := hn.out; omega)
      have hf := Lib.hid (filter_take (l := l) (k := k) (by have := hn.out; omega))
      generalize gt l k = x at *
      obtain ⟨x1, x2⟩ := x
      simp only at e0 e1
      clear hat hC
      have VC := Lib.hid (valid_any x1 x2)
      have hlen : Hid (((l.take k).filter okI).length < 8000000000000) := by
        have h1 := List.length_filter_le okI (l.take k)
        have h2 := List.length_take_le k l
        have := hL.out
        unfold Hid
        rw [List.length_take] at h1
        omega
      generalize okI (x1, x2) = o at *
      go_wp2_with fail
      have B := Bw.new wr x1 x2 23
      refine (VC.out _).mono ?_
      rintro e w2 ⟨rfl, d⟩
      replace B := B.keeps d
      replace hO := Lib.hid (hO.out.keeps ((balloc (b0 wr) _).trans (d.mono (by simp))))
      replace hb := Lib.hid (bnext hb.out ((balloc (b0 wr) _).trans (d.mono (by simp))))
      clear d e0 e1 VC
      generalize wr.heap.size = r at *
      obtain ⟨e0, e1, _, _⟩ := B
      cases o
      · go_wp2_with fail
        go_roundw
        case rel => exact ⟨k + 1, rfl, hlt, by have := hO.out; have h2 := hf.out; simp only [Bool.false_eq_true, if_false, List.append_nil] at h2; unfold Hid; rw [h2]; exact this, hb.out⟩
        case measure =>
          simp only [intOf]
          omega
      · go_wp2_with (at_builtin; refine is_app (.tmp 14) (.tmp 16) rfl ?_; refine wpList_push _ rfl (.tmp 14) (.tmp 16) rfl w.heap.size _ _ rfl (hO.out.keeps (balloc (b0 _) _)) w2.heap.size x1 x2 rfl (Bw.new w2 x1 x2 23) hlen.out (balloc hb.out _).size ?_; intro v2 w4 O2 b2)
        refine ⟨⟨k + 1, rfl, hlt, by have h2 := hf.out; simp only [if_true] at h2; unfold Hid; rw [h2]; exact O2, (balloc hb.out _).trans b2⟩, ?_⟩
        simp only [intOf]
        omega
    · have q1 : decide ((k : Int) < (n : Int)) = false := decide_eq_false (by omega)
      have hall : Hid (l.take k = l) := List.take_of_length_le (by have := hn.out; omega)
      have hO2 := Lib.hid (hall.out ▸ hO.out : Own wr w.heap.size _ (l.filter okI))
      have hlen : Hid ((l.filter okI).length < 8000000000000) := Nat.lt_of_le_of_lt (List.length_filter_le _ _) hL.out
      clear hat hO
      go_wp2_with fail
      refine (sort_any w.heap.size _ _ _ hO2.out hlen.out hb.out.size).mono ?_
      rintro e w2 ⟨rfl, a2, cap2, s, rfl, hp, hs, hS2, _, b2⟩
      replace b2 := Lib.hid (hb.out.trans b2)
      clear hO2 hb
      generalize hm : (l.filter okI).length = m at *
      have hok : Hid (∀ x ∈ s, Ok x) := fun x hx => (okI_iff x).1 (List.mem_filter.1 (hp.mem_iff.1 hx)).2
      have hUn := Lib.hid (un_mrg hp hs)
      have hsl : Hid (s.length < 8000000000000) := by unfold Hid; rw [hp.length_eq, hm]; exact hlen.out
      have hul : Hid ((mrg 1 s).length ≤ l.length) := by
        unfold Hid
        have h1 := mrg_len 1 s
        have h2 := hp.length_eq
        have h3 := List.length_filter_le okI l
        omega
      replace hS2 := Lib.hid hS2
      clear hp hs hm hlen
      go_wp2_with fail
      refine (joinWithin_any 1 _).mono ?_
      rintro e w3 ⟨rfl, rfl⟩
      go_wp2_with fail
      refine (merged_any a2 m cap2 _ _ _ _).mono ?_
      rintro e w3 ⟨rfl, rfl⟩
      have I3 := it_new w2 a2 m cap2 s 1 hS2.out
      have b3 := balloc (balloc (balloc b2.out (.cells #[.int .i64 1] 3)) (.cells #[.slice a2 m cap2] 24)) (.cells #[.func (.func 49) #[] #[.pointer (some ⟨w2.heap.size, 0, none⟩)]] 26)
      replace I3 := Lib.hid I3
      replace b3 := Lib.hid b3
      simp only [alloc_size]
      go_wp2_with fail
      refine (collect_any _ _ _ a2 m cap2 s 1 hok.out hsl.out _ I3.out).mono ?_
      rintro e w4 ⟨v, rfl, O4, b4⟩
      replace b4 := Lib.hid (bnext b3.out b4)
      replace O4 := Lib.hid (O4.less b3.out.size)
      clear I3 b3
      go_wp2_with fail
      go_ret
      exact ⟨v, _, rfl, hUn.out, hul.out, O4.out, b4.out⟩
end Go.Proofs.Ytdhdofgdeljajaa
