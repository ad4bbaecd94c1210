/- Contracts of hold.Reserve, End and Expire. -/
import Derived.Test.YtofngihdnjgmeaaLHoMore
namespace Go.Proofs.Ytofngihdnjgmeaa
set_option maxRecDepth 100000
open Go.ChangeShapes Go.WideShapes Go.ChangeAt Go.RowKit

theorem KeepH.re {w u u' : World} {v v' : Value} {hs hs' : List Ho} {l : List (Nat × TypeId × List Int)} (h : KeepH w l v hs u) (ho : Own u' w.heap.size v' hs') (hb : Below w.heap.size u u') : KeepH w [] v' hs' u' :=
  ⟨⟨h.keep.bel.trans hb, by simp, by simp⟩, ho, by simp⟩
theorem cnt_eq (n : Int) (r : Bool) (hr : cntBH n = r) (w : World) : Calls Try.prog 56 #[.int .i64 n] w fun e w' => e = .returned (.bool r) ∧ w = w' := by subst hr; exact cnt_anyH n w
theorem rep_eq (n : Int) (r : Bool) (hr : repBH n = r) (w : World) : Calls Try.prog 55 #[.int .i64 n] w fun e w' => e = .returned (.bool r) ∧ w = w' := by subst hr; exact rep_anyH n w
theorem gr_eq (A : Option Addr) (n c : Nat) (hs : List Ho) (k g : Int) (hg : gr hs k = g) (w : World) (hd : Row w A n hs) :
    Calls Try.prog 58 #[.slice A n c, .int .i64 k] w fun e w' => e = .returned (.int .i64 g) ∧ Below w.heap.size w w' := by subst hg; exact gr_any A n c hs k w hd
theorem add_yes (g : Int) (h : okB g 1 (g + 1) = true) (w : World) : Calls Try.prog 57 #[.int .i64 g, .int .i64 1] w fun e w' => e = .returned (.tuple #[.int .i64 (g + 1), .int .i64 0]) ∧ w = w' := by
  have := add_any g 1 w
  rwa [(addE_ok h).1, (addE_ok h).2] at this
theorem add_no (g : Int) (h : okB g 1 (g + 1) = false) (w : World) : Calls Try.prog 57 #[.int .i64 g, .int .i64 1] w fun e w' => e = .returned (.tuple #[.int .i64 0, .int .i64 2]) ∧ w = w' := by
  have := add_any g 1 w
  rwa [(addE_no h).1, (addE_no h).2] at this
theorem res_bad {l : List Ho} {k a d : Int} (h : (rightsL l && rightH (newH l k a d)) = false) : resE l k a d = 1 ∧ resN l k a d = 0 ∧ resL l k a d = [] := by
  have e : resE l k a d = 1 := by rw [resE, h]; rfl
  exact ⟨e, by rw [resN, e]; rfl, by rw [resL, e]; rfl⟩
theorem res_full {l : List Ho} {k a d : Int} (h : (rightsL l && rightH (newH l k a d)) = true) (hn : l.length = 16) : resE l k a d = 7 ∧ resN l k a d = 0 ∧ resL l k a d = [] := by
  have e : resE l k a d = 7 := by rw [resE, h, if_pos rfl, if_pos hn]
  exact ⟨e, by rw [resN, e]; rfl, by rw [resL, e]; rfl⟩
theorem res_good {l : List Ho} {k a d : Int} (h : (rightsL l && rightH (newH l k a d)) = true) (hn : l.length ≠ 16) : resE l k a d = 0 ∧ resN l k a d = gr l k + 1 ∧ resL l k a d = insH l (newH l k a d) := by
  have e : resE l k a d = 0 := by rw [resE, h, if_pos rfl, if_neg hn]
  exact ⟨e, by rw [resN, e]; rfl, by rw [resL, e]; rfl⟩
set_option maxHeartbeats 2000000 in
theorem reserve_any (A : Option Addr) (n c : Nat) (hs : List Ho) (k a d : Int) (w : World) (hd : Row w A n hs) :
    Calls Try.prog 34 #[.slice A n c, .int .i64 k, .int .i64 a, .int .i64 d] w fun e w' => ∃ v, e = .returned (.tuple #[v, .int .i64 (resN hs k a d), .int .i64 (resE hs k a d)]) ∧ Own w' w.heap.size v (resL hs k a d) ∧ Below w.heap.size w w' := by
  have HD := Lib.hid hd; have HL := Lib.hid hd.1; have HNB := Lib.hid hd.2.1; clear hd
  have HK := Lib.hid (KeepR.start w)
  cases hrt : rightsL hs with
  | false =>
    have HRT := Lib.hid hrt
    obtain ⟨e1, e2, e3⟩ := res_bad (l := hs) (k := k) (a := a) (d := d) (by rw [hrt, Bool.false_and])
    rw [e1, e2, e3]
    clear e1 e2 e3
    go_enter Try.func34, Try.ntmps34
    go_wp2_with (first
      | (go_at_call 54; (with_reducible refine (rights_eq _ _ _ _ _ HRT.out _ (HD.out.below HK.out.bel (Nat.le_refl _))).mono ?_); rintro e u ⟨rfl, hb⟩; have hk := HK.out.call hb; clear hb; clear HK; have HK := Lib.hid hk; clear hk))
    go_ret3
    exact ⟨_, rfl, Own.nil _ _, HK.out.bel⟩
  | true =>
    have hnew := right_new hrt k a d
    have hle := (rights_iff.1 hrt).1
    have hris := (rights_iff.1 hrt).2.2
    have hgb : 0 ≤ gr hs k ∧ gr hs k ≤ 1099511627776 := grTo_range (rights_iff.1 hrt).2.1 k _ (Nat.le_refl _)
    have HRT := Lib.hid hrt
    cases hrp : repBH k with
    | false =>
      have HRP := Lib.hid hrp
      obtain ⟨e1, e2, e3⟩ := res_bad (l := hs) (k := k) (a := a) (d := d) (by rw [hnew, hrp, Bool.false_and, Bool.and_false])
      rw [e1, e2, e3]
      clear e1 e2 e3
      go_enter Try.func34, Try.ntmps34
      go_wp2_with (first
        | (go_at_call 54; (with_reducible refine (rights_eq _ _ _ _ _ HRT.out _ (HD.out.below HK.out.bel (Nat.le_refl _))).mono ?_); rintro e u ⟨rfl, hb⟩; have hk := HK.out.call hb; clear hb; clear HK; have HK := Lib.hid hk; clear hk)
        | (go_at_call 55; (with_reducible refine (rep_eq _ _ HRP.out _).mono ?_); rintro e u ⟨rfl, rfl⟩))
      go_ret3
      exact ⟨_, rfl, Own.nil _ _, HK.out.bel⟩
    | true =>
      have HRP := Lib.hid hrp
      cases hca : cntBH a with
      | false =>
        have HCA := Lib.hid hca
        obtain ⟨e1, e2, e3⟩ := res_bad (l := hs) (k := k) (a := a) (d := d) (by rw [hnew, hca, Bool.false_and, Bool.and_false, Bool.and_false])
        rw [e1, e2, e3]
        clear e1 e2 e3
        go_enter Try.func34, Try.ntmps34
        go_wp2_with (first
          | (go_at_call 54; (with_reducible refine (rights_eq _ _ _ _ _ HRT.out _ (HD.out.below HK.out.bel (Nat.le_refl _))).mono ?_); rintro e u ⟨rfl, hb⟩; have hk := HK.out.call hb; clear hb; clear HK; have HK := Lib.hid hk; clear hk)
          | (go_at_call 55; (with_reducible refine (rep_eq _ _ HRP.out _).mono ?_); rintro e u ⟨rfl, rfl⟩)
          | (go_at_call 56; (with_reducible refine (cnt_eq a _ HCA.out _).mono ?_); rintro e u ⟨rfl, rfl⟩))
        go_ret3
        exact ⟨_, rfl, Own.nil _ _, HK.out.bel⟩
      | true =>
        have HCA := Lib.hid hca
        cases hcd : cntBH d with
        | false =>
          have HCD := Lib.hid hcd
          obtain ⟨e1, e2, e3⟩ := res_bad (l := hs) (k := k) (a := a) (d := d) (by rw [hnew, hcd, Bool.false_and, Bool.and_false, Bool.and_false, Bool.and_false])
          rw [e1, e2, e3]
          clear e1 e2 e3
          go_enter Try.func34, Try.ntmps34
          go_wp2_with (first
            | (go_at_call 54; (with_reducible refine (rights_eq _ _ _ _ _ HRT.out _ (HD.out.below HK.out.bel (Nat.le_refl _))).mono ?_); rintro e u ⟨rfl, hb⟩; have hk := HK.out.call hb; clear hb; clear HK; have HK := Lib.hid hk; clear hk)
            | (go_at_call 55; (with_reducible refine (rep_eq _ _ HRP.out _).mono ?_); rintro e u ⟨rfl, rfl⟩)
            | (go_at_call 56; (with_reducible refine (cnt_eq a _ HCA.out _).mono ?_); rintro e u ⟨rfl, rfl⟩)
            | (go_at_call 56; (with_reducible refine (cnt_eq d _ HCD.out _).mono ?_); rintro e u ⟨rfl, rfl⟩))
          go_ret3
          exact ⟨_, rfl, Own.nil _ _, HK.out.bel⟩
        | true =>
          have HCD := Lib.hid hcd
          rw [hrp, hca, hcd, Bool.true_and, Bool.true_and, Bool.true_and] at hnew
          cases hgi : isB (gr hs k + 1) with
          | false =>
            rw [hgi] at hnew
            obtain ⟨e1, e2, e3⟩ := res_bad (l := hs) (k := k) (a := a) (d := d) (by rw [hnew, Bool.and_false])
            rw [e1, e2, e3]
            generalize hg : gr hs k = g at hgi
            have HG := Lib.hid hg
            have HOK := Lib.hid (show okB g 1 (g + 1) = false from okB_r hgi)
            clear e1 e2 e3 hg hgi hnew hris hgb
            go_enter Try.func34, Try.ntmps34
            go_wp2_with (first
              | (go_at_call 54; (with_reducible refine (rights_eq _ _ _ _ _ HRT.out _ (HD.out.below HK.out.bel (Nat.le_refl _))).mono ?_); rintro e u ⟨rfl, hb⟩; have hk := HK.out.call hb; clear hb; clear HK; have HK := Lib.hid hk; clear hk)
              | (go_at_call 55; (with_reducible refine (rep_eq _ _ HRP.out _).mono ?_); rintro e u ⟨rfl, rfl⟩)
              | (go_at_call 56; (with_reducible refine (cnt_eq a _ HCA.out _).mono ?_); rintro e u ⟨rfl, rfl⟩)
              | (go_at_call 56; (with_reducible refine (cnt_eq d _ HCD.out _).mono ?_); rintro e u ⟨rfl, rfl⟩)
              | (go_at_call 58; (with_reducible refine (gr_eq _ _ _ _ _ _ HG.out _ (HD.out.below HK.out.bel (Nat.le_refl _))).mono ?_); rintro e u ⟨rfl, hb⟩; have hk := HK.out.call hb; clear hb; clear HK; have HK := Lib.hid hk; clear hk)
              | (go_at_call 57; (with_reducible refine (add_no _ HOK.out _).mono ?_); rintro e u ⟨rfl, rfl⟩))
            go_ret3
            exact ⟨_, rfl, Own.nil _ _, HK.out.bel⟩
          | true =>
            rw [hgi] at hnew
            have hall : (rightsL hs && rightH (newH hs k a d)) = true := by rw [hrt, hnew]; rfl
            have HOK0 := Lib.hid (show okB (gr hs k) 1 (gr hs k + 1) = true from okB_iff.2 ⟨isB_iff.2 (by omega), by decide, hgi⟩)
            by_cases h16 : hs.length = 16
            · obtain ⟨e1, e2, e3⟩ := res_full hall h16
              rw [e1, e2, e3]
              generalize hg : gr hs k = g at HOK0
              have HG := Lib.hid hg; have HOK := HOK0
              have hn : (n : Int) = 16 := by have := HL.out; omega
              clear e1 e2 e3 hg hgi hnew hris hgb hall h16
              go_enter Try.func34, Try.ntmps34
              go_wp2_with (first
                | (go_at_call 54; (with_reducible refine (rights_eq _ _ _ _ _ HRT.out _ (HD.out.below HK.out.bel (Nat.le_refl _))).mono ?_); rintro e u ⟨rfl, hb⟩; have hk := HK.out.call hb; clear hb; clear HK; have HK := Lib.hid hk; clear hk)
                | (go_at_call 55; (with_reducible refine (rep_eq _ _ HRP.out _).mono ?_); rintro e u ⟨rfl, rfl⟩)
                | (go_at_call 56; (with_reducible refine (cnt_eq a _ HCA.out _).mono ?_); rintro e u ⟨rfl, rfl⟩)
                | (go_at_call 56; (with_reducible refine (cnt_eq d _ HCD.out _).mono ?_); rintro e u ⟨rfl, rfl⟩)
                | (go_at_call 58; (with_reducible refine (gr_eq _ _ _ _ _ _ HG.out _ (HD.out.below HK.out.bel (Nat.le_refl _))).mono ?_); rintro e u ⟨rfl, hb⟩; have hk := HK.out.call hb; clear hb; clear HK; have HK := Lib.hid hk; clear hk)
                | (go_at_call 57; (with_reducible refine (add_yes _ HOK.out _).mono ?_); rintro e u ⟨rfl, rfl⟩))
              go_ret3
              exact ⟨_, rfl, Own.nil _ _, HK.out.bel⟩
            · obtain ⟨e1, e2, e3⟩ := res_good hall h16
              obtain ⟨hap, hins⟩ := isort_new hris (new_apart (l := hs) (k := k) (a := a) (d := d))
              rw [e1, e2, e3, ← hins]
              unfold newH at hap ⊢
              generalize hg : gr hs k = g at HOK0 hap
              have HG := Lib.hid hg; have HOK := HOK0
              have HAP := Lib.hid hap
              have hn : ¬ (n : Int) = 16 := by have := HL.out; omega
              have hn2 : ((n : Int) == 16) = false := by simp; omega
              have HLE := Lib.hid hle
              clear e1 e2 e3 hg hgi hnew hris hgb hall h16 hins hap hle
              go_enter Try.func34, Try.ntmps34
              go_wp2_with (first
                | (go_at_call 54; (with_reducible refine (rights_eq _ _ _ _ _ HRT.out _ (HD.out.below HK.out.bel (Nat.le_refl _))).mono ?_); rintro e u ⟨rfl, hb⟩; have hk := HK.out.call hb; clear hb; clear HK; have HK := Lib.hid hk; clear hk)
                | (go_at_call 55; (with_reducible refine (rep_eq _ _ HRP.out _).mono ?_); rintro e u ⟨rfl, rfl⟩)
                | (go_at_call 56; (with_reducible refine (cnt_eq a _ HCA.out _).mono ?_); rintro e u ⟨rfl, rfl⟩)
                | (go_at_call 56; (with_reducible refine (cnt_eq d _ HCD.out _).mono ?_); rintro e u ⟨rfl, rfl⟩)
                | (go_at_call 58; (with_reducible refine (gr_eq _ _ _ _ _ _ HG.out _ (HD.out.below HK.out.bel (Nat.le_refl _))).mono ?_); rintro e u ⟨rfl, hb⟩; have hk := HK.out.call hb; clear hb; clear HK; have HK := Lib.hid hk; clear hk)
                | (go_at_call 57; (with_reducible refine (add_yes _ HOK.out _).mono ?_); rintro e u ⟨rfl, rfl⟩)
                | (go_at_call 21; (with_reducible refine (clone_any _ _ _ _ _ (HD.out.below HK.out.bel (Nat.le_refl _))).mono ?_); rintro e u ⟨v1, rfl, ho, hb⟩; have hk := (KeepH.of_keep HK.out).other hb ho; clear ho hb; clear HK; have HK := Lib.hid hk; clear hk)
                | (with_reducible refine build_five rfl _ _ _ _ _ rfl rfl rfl rfl rfl rfl ?_)
                | (with_reducible refine build_one (h := ⟨k, g + 1, a, d, 1⟩) HK.out rfl _ rfl rfl ?_; intro b1 u hk hb; clear hb; clear HK; have HK := Lib.hid hk; clear hk)
                | (refine app_hos HK.out rfl _ _ rfl rfl _ _ _ _ rfl HK.out.one (by have := HLE.out; omega) ?_; intro v2 u hk0; have hk := hk0.tail; clear hk0; clear HK; have HK := Lib.hid hk; clear hk)
                | (go_at_call 59; (refine (sort_any _ w.heap.size _ _ HK.out.own HK.out.keep.bel.size (by have := HLE.out; simp; omega) HAP.out).mono ?_); rintro e u ⟨rfl, ho, hb⟩; have hk := HK.out.re ho hb; clear ho hb; clear HK; have HK := Lib.hid hk; clear hk))
              go_ret3
              exact ⟨_, rfl, HK.out.own, HK.out.keep.bel⟩
end Go.Proofs.Ytofngihdnjgmeaa
