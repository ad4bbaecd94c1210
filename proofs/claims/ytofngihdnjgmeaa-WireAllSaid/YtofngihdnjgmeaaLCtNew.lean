/- Contracts of counter.between and New, and of the document's New. -/
import Derived.Test.YtofngihdnjgmeaaLRtc
namespace Go.Proofs.Ytofngihdnjgmeaa
set_option maxRecDepth 100000
open Go.ChangeShapes Go.WideShapes Go.ChangeAt Go.RowKit

def betB (n l h : Int) : Bool := isB l && isB h && decide (l ≤ n) && decide (n ≤ h)
theorem betB_iff {n l h : Int} : betB n l h = true ↔ isB l = true ∧ isB h = true ∧ l ≤ n ∧ n ≤ h := by
  simp only [betB, Bool.and_eq_true, decide_eq_true_eq, and_assoc]
theorem betB_no {n l h : Int} (hn : ¬ (isB l = true ∧ isB h = true ∧ l ≤ n ∧ n ≤ h)) : betB n l h = false := by
  rw [← Bool.not_eq_true, betB_iff]; exact hn
theorem newB_bet (i l h : Int) : newB i l h = (betB i l h && isB (h - l)) := rfl
theorem bet_any (n l h : Int) (w : World) :
    Calls Try.prog 49 #[.int .i64 n, .int .i64 l, .int .i64 h] w fun e w' => e = .returned (.bool (betB n l h)) ∧ w = w' := by
  cases hl : isB l with
  | false =>
    rw [show betB n l h = false from betB_no (fun hh => by rw [hl] at hh; cases hh.1)]
    go_enter Try.func49, Try.ntmps49
    go_wp2_with (first
      | (go_at_call 37; (with_reducible refine (is_any _ _).mono ?_); rintro e u ⟨rfl, rfl⟩))
    go_ret
    exact ⟨rfl, rfl⟩
  | true =>
    cases hh : isB h with
    | false =>
      rw [show betB n l h = false from betB_no (fun hx => by rw [hh] at hx; cases hx.2.1)]
      go_enter Try.func49, Try.ntmps49
      go_wp2_with (first
        | (go_at_call 37; (with_reducible refine (is_any _ _).mono ?_); rintro e u ⟨rfl, rfl⟩))
      go_ret
      exact ⟨rfl, rfl⟩
    | true =>
      by_cases h1 : l ≤ n
      · by_cases h2 : n ≤ h
        · rw [show betB n l h = true from betB_iff.2 ⟨hl, hh, h1, h2⟩]
          go_enter Try.func49, Try.ntmps49
          go_wp2_with (first
            | (go_at_call 37; (with_reducible refine (is_any _ _).mono ?_); rintro e u ⟨rfl, rfl⟩))
          go_ret
          exact ⟨rfl, rfl⟩
        · have d2 : decide (n ≤ h) = false := decide_eq_false h2
          rw [show betB n l h = false from betB_no (fun hx => h2 hx.2.2.2)]
          go_enter Try.func49, Try.ntmps49
          go_wp2_with (first
            | (go_at_call 37; (with_reducible refine (is_any _ _).mono ?_); rintro e u ⟨rfl, rfl⟩))
          go_ret
          exact ⟨by simp [], rfl⟩
      · rw [show betB n l h = false from betB_no (fun hx => h1 hx.2.2.1)]
        go_enter Try.func49, Try.ntmps49
        go_wp2_with (first
          | (go_at_call 37; (with_reducible refine (is_any _ _).mono ?_); rintro e u ⟨rfl, rfl⟩))
        go_ret
        exact ⟨rfl, rfl⟩
set_option maxRecDepth 100000 in
set_option maxHeartbeats 1000000 in
theorem new_any (i l h : Int) (w : World) :
    Calls Try.prog 30 #[.int .i64 i, .int .i64 l, .int .i64 h] w fun e w' => e = .returned (.tuple #[.agg (vals (newA i l h)).toArray, .int .i64 (newE i l h)]) ∧ Below w.heap.size w w' := by
  have HK := Lib.hid (KeepR.start w)
  have hbt := bet_any i l h
  have hsb := sub_any h l
  cases hb : betB i l h with
  | false =>
    obtain ⟨e1, e2⟩ := new_no (show newB i l h = false by rw [newB_bet, hb, Bool.false_and])
    rw [e1, e2]; clear e1 e2
    rw [hb] at hbt
    go_enter Try.func30, Try.ntmps30
    go_wp2_with (first
      | (with_reducible refine alloc_zero HK.out 579 c_zero rfl rfl ?_; intro br u hn hk hb; clear hn hb; clear HK; have HK := Lib.hid hk; clear hk)
      | (go_at_call 49; (with_reducible refine (hbt _).mono ?_); rintro e u ⟨rfl, rfl⟩)
      | (with_reducible refine build_zero 579 c_build rfl rfl ?_)
      | (with_reducible refine store_all HK.out 0 579 c_info rfl rfl _ _ rfl rfl rfl rfl (zer_length 579) (zer_length 579) ?_; intro u hk hs; clear hs; simp only [List.set_cons_zero] at hk; clear HK; have HK := Lib.hid hk; clear hk))
    exact bodyPost_ret (results_2 rfl Try.underlying28 rfl c_info _ HK.out 0 _ rfl rfl rfl (zer_length 579)) rfl ⟨rfl, HK.out.bel⟩
  | true =>
    rw [hb] at hbt
    obtain ⟨b1, b2, b3, b4⟩ := betB_iff.1 hb
    cases hd : isB (h - l) with
    | false =>
      obtain ⟨e1, e2⟩ := new_no (show newB i l h = false by rw [newB_bet, hb, hd, Bool.true_and])
      rw [e1, e2]; clear e1 e2
      obtain ⟨s1, s2⟩ := subE_no (okB_r (a := h) (b := l) hd)
      rw [s1, s2] at hsb
      clear b1 b2 b3 b4 hb hd s1 s2
      go_enter Try.func30, Try.ntmps30
      go_wp2_with (first
        | (with_reducible refine alloc_zero HK.out 579 c_zero rfl rfl ?_; intro br u hn hk hb; clear hn hb; clear HK; have HK := Lib.hid hk; clear hk)
        | (go_at_call 49; (with_reducible refine (hbt _).mono ?_); rintro e u ⟨rfl, rfl⟩)
        | (go_at_call 50; (with_reducible refine (hsb _).mono ?_); rintro e u ⟨rfl, rfl⟩)
        | (with_reducible refine build_zero 579 c_build rfl rfl ?_)
        | (with_reducible refine store_all HK.out 0 579 c_info rfl rfl _ _ rfl rfl rfl rfl (zer_length 579) (zer_length 579) ?_; intro u hk hs; clear hs; simp only [List.set_cons_zero] at hk; clear HK; have HK := Lib.hid hk; clear hk))
      exact bodyPost_ret (results_2 rfl Try.underlying28 rfl c_info _ HK.out 0 _ rfl rfl rfl (zer_length 579)) rfl ⟨rfl, HK.out.bel⟩
    | true =>
      obtain ⟨e1, e2⟩ := new_yes (show newB i l h = true by rw [newB_bet, hb, hd, Bool.true_and])
      rw [e1, e2]; clear e1 e2
      obtain ⟨s1, s2⟩ := subE_ok (okB_iff.2 ⟨b2, b1, hd⟩)
      rw [s1, s2] at hsb
      obtain ⟨l1, l2⟩ := isB_iff.1 b1
      obtain ⟨h1, h2⟩ := isB_iff.1 b2
      clear b1 b2 hb hd s1 s2
      have HN := Lib.hid (newC_length i l h)
      have HNQ := Lib.hid (new_stores i l h)
      go_enter Try.func30, Try.ntmps30
      go_wp2_with (first
        | (go_at_call 49; (with_reducible refine (hbt _).mono ?_); rintro e u ⟨rfl, rfl⟩)
        | (go_at_call 50; (with_reducible refine (hsb _).mono ?_); rintro e u ⟨rfl, rfl⟩)
        | (with_reducible refine alloc_zero HK.out 579 c_zero rfl rfl ?_; intro br u hn hk hb; clear hn hb; clear HK; have HK := Lib.hid hk; clear hk)
        | (with_reducible refine build_three rfl _ _ _ rfl rfl rfl rfl ?_)
        | (with_reducible refine store_all HK.out 0 579 c_info rfl rfl _ _ rfl rfl rfl rfl (three_length _ _ _) (zer_length 579) ?_; intro u hk hs; clear hs; simp only [List.set_cons_zero] at hk; clear HK; have HK := Lib.hid hk; clear hk)
        | (with_reducible refine store_int HK.out 0 rfl rfl _ _ rfl rfl rfl rfl (by simp [three_length]) ?_; intro u hk; simp only [List.set_cons_zero] at hk; clear HK; have HK := Lib.hid hk; clear hk)
        | (with_reducible refine load_all HK.out 0 579 Try.underlying28 rfl c_info rfl _ rfl rfl rfl (by simp [three_length]) ?_)
        | (with_reducible refine store_all HK.out 1 579 c_info rfl rfl _ _ rfl rfl rfl rfl (by simp [three_length]) (zer_length 579) ?_; intro u hk hs; clear hs; simp only [List.set_cons_zero, List.set_cons_succ] at hk; clear HK; have HK := Lib.hid hk; clear hk))
      exact bodyPost_ret (results_2 rfl Try.underlying28 rfl c_info _ HK.out 1 _ rfl rfl rfl (by simp [three_length])) rfl ⟨rfl, HK.out.bel⟩
end Go.Proofs.Ytofngihdnjgmeaa
