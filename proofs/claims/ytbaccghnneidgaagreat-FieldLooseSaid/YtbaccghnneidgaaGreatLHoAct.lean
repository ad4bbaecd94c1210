/- Contracts of hold.Reserve, End and Expire. -/
import Derived.Test.YtbaccghnneidgaaGreatLHoMore
namespace Go.Proofs.YtbaccghnneidgaaGreat
set_option maxRecDepth 100000
open Go.ChangeShapes Go.WideShapes Go.ChangeAt Go.RowKit

theorem KeepH.re {w u u' : World} {v v' : Value} {hs hs' : List Ho} {l : List (Nat × TypeId × List Int)} (h : KeepH w l v hs u) (ho : Own u' w.heap.size v' hs') (hb : Below w.heap.size u u') : KeepH w [] v' hs' u' :=
  ⟨⟨h.keep.bel.trans hb, by simp, by simp⟩, ho, by simp⟩
theorem cnt_eq (n : Int) (r : Bool) (hr : cntBH n = r) (w : World) : Calls Tryz.prog 110 #[.int .i64 n] w fun e w' => e = .returned (.bool r) ∧ w = w' := by subst hr; exact cnt_anyH n w
theorem rep_eq (n : Int) (r : Bool) (hr : repBH n = r) (w : World) : Calls Tryz.prog 109 #[.int .i64 n] w fun e w' => e = .returned (.bool r) ∧ w = w' := by subst hr; exact rep_anyH n w
theorem gr_eq (A : Option Addr) (n c : Nat) (hs : List Ho) (k g : Int) (hg : gr hs k = g) (w : World) (hd : Row w A n hs) :
    Calls Tryz.prog 111 #[.slice A n c, .int .i64 k] w fun e w' => e = .returned (.int .i64 g) ∧ Below w.heap.size w w' := by subst hg; exact gr_any A n c hs k w hd
theorem add_yes (g : Int) (h : okB g 1 (g + 1) = true) (w : World) : Calls Tryz.prog 108 #[.int .i64 g, .int .i64 1] w fun e w' => e = .returned (.tuple #[.int .i64 (g + 1), .int .i64 0]) ∧ w = w' := by
  have := add_any g 1 w
  rwa [(addE_ok h).1, (addE_ok h).2] at this
theorem add_no (g : Int) (h : okB g 1 (g + 1) = false) (w : World) : Calls Tryz.prog 108 #[.int .i64 g, .int .i64 1] w fun e w' => e = .returned (.tuple #[.int .i64 0, .int .i64 2]) ∧ w = w' := by
  have := add_any g 1 w
  rwa [(addE_no h).1, (addE_no h).2] at this
theorem res_bad {l : List Ho} {k a d : Int} (h : (rightsL l && rightH (newH l k a d)) = false) : resE l k a d = 1 ∧ resN l k a d = 0 ∧ resL l k a d = [] := by
  have e : resE l k a d = 1 := by rw [resE, h]; rfl
  exact ⟨e, by rw [resN, e]; rfl, by rw [resL, e]; rfl⟩
theorem res_full {l : List Ho} {k a d : Int} (h : (rightsL l && rightH (newH l k a d)) = true) (hn : l.length = 16) : resE l k a d = 7 ∧ resN l k a d = 0 ∧ resL l k a d = [] := by
  have e : resE l k a d = 7 := by rw [resE, h, if_pos rfl, if_pos hn]
  exact ⟨e, by rw [resN, e]; rfl, by rw [resL, e]; rfl⟩
theorem res_good {l : List Ho} {k a d : Int} (h : (rightsL l && rightH (newH l k a d)) = true) (hn : l.length ≠ 16) : resE l k a d = 0 ∧ resN l k a d = gr l k + 1 ∧ resL l k a d = insH l (newH l k a d) := by
  have e : resE l k a d = 0 := by rw [resE, h, if_pos rfl, if_neg hn]
  exact ⟨e, by rw [resN, e]; rfl, by rw [resL, e]; rfl⟩
set_option maxHeartbeats 2000000 in
theorem reserve_any (A : Option Addr) (n c : Nat) (hs : List Ho) (k a d : Int) (w : World) (hd : Row w A n hs) :
    Calls Tryz.prog 74 #[.slice A n c, .int .i64 k, .int .i64 a, .int .i64 d] w fun e w' => ∃ v, e = .returned (.tuple #[v, .int .i64 (resN hs k a d), .int .i64 (resE hs k a d)]) ∧ Own w' w.heap.size v (resL hs k a d) ∧ Below w.heap.size w w' := by
  have HD := Lib.hid hd; have HL := Lib.hid hd.1; have HNB := Lib.hid hd.2.1; clear hd
  have HK := Lib.hid (KeepR.start w)
  cases hrt : rightsL hs with
  | false =>
    have HRT := Lib.hid hrt
    obtain ⟨e1, e2, e3⟩ := res_bad (l := hs) (k := k) (a := a) (d := d) (by rw [hrt, Bool.false_and])
    rw [e1, e2, e3]
    clear e1 e2 e3
    go_enter Tryz.func74, Tryz.ntmps74
    go_wp2_with (first
      | (go_at_call 90; (with_reducible refine (rights_eq _ _ _ _ _ HRT.out _ (HD.out.below HK.out.bel (Nat.le_refl _))).mono ?_); rintro e u ⟨rfl, hb⟩; have hk := HK.out.call hb; clear hb; clear HK; have HK := Lib.hid hk; clear hk))
    go_ret3
    exact ⟨_, rfl, Own.nil _ _, HK.out.bel⟩
  | true =>
    have hnew := right_new hrt k a d
    have hle := (rights_iff.1 hrt).1
    have hris := (rights_iff.1 hrt).2.2
    have hgb : 0 ≤ gr hs k ∧ gr hs k ≤ 1099511627776 := grTo_range (rights_iff.1 hrt).2.1 k _ (Nat.le_refl _)
    have HRT := Lib.hid hrt
    cases hrp : repBH k with
    | false =>
      have HRP := Lib.hid hrp
      obtain ⟨e1, e2, e3⟩ := res_bad (l := hs) (k := k) (a := a) (d := d) (by rw [hnew, hrp, Bool.false_and, Bool.and_false])
      rw [e1, e2, e3]
      clear e1 e2 e3
      go_enter Tryz.func74, Tryz.ntmps74
      go_wp2_with (first
        | (go_at_call 90; (with_reducible refine (rights_eq _ _ _ _ _ HRT.out _ (HD.out.below HK.out.bel (Nat.le_refl _))).mono ?_); rintro e u ⟨rfl, hb⟩; have hk := HK.out.call hb; clear hb; clear HK; have HK := Lib.hid hk; clear hk)
        | (go_at_call 109; (with_reducible refine (rep_eq _ _ HRP.out _).mono ?_); rintro e u ⟨rfl, rfl⟩))
      go_ret3
      exact ⟨_, rfl, Own.nil _ _, HK.out.bel⟩
    | true =>
      have HRP := Lib.hid hrp
      cases hca : cntBH a with
      | false =>
        have HCA := Lib.hid hca
        obtain ⟨e1, e2, e3⟩ := res_bad (l := hs) (k := k) (a := a) (d := d) (by rw [hnew, hca, Bool.false_and, Bool.and_false, Bool.and_false])
        rw [e1, e2, e3]
        clear e1 e2 e3
        go_enter Tryz.func74, Tryz.ntmps74
        go_wp2_with (first
          | (go_at_call 90; (with_reducible refine (rights_eq _ _ _ _ _ HRT.out _ (HD.out.below HK.out.bel (Nat.le_refl _))).mono ?_); rintro e u ⟨rfl, hb⟩; have hk := HK.out.call hb; clear hb; clear HK; have HK := Lib.hid hk; clear hk)
          | (go_at_call 109; (with_reducible refine (rep_eq _ _ HRP.out _).mono ?_); rintro e u ⟨rfl, rfl⟩)
          | (go_at_call 110; (with_reducible refine (cnt_eq a _ HCA.out _).mono ?_); rintro e u ⟨rfl, rfl⟩))
        go_ret3
        exact ⟨_, rfl, Own.nil _ _, HK.out.bel⟩
      | true =>
        have HCA := Lib.hid hca
        cases hcd : cntBH d with
        | false =>
          have HCD := Lib.hid hcd
          obtain ⟨e1, e2, e3⟩ := res_bad (l := hs) (k := k) (a := a) (d := d) (by rw [hnew, hcd, Bool.false_and, Bool.and_false, Bool.and_false, Bool.and_false])
          rw [e1, e2, e3]
          clear e1 e2 e3
          go_enter Tryz.func74, Tryz.ntmps74
          go_wp2_with (first
            | (go_at_call 90; (with_reducible refine (rights_eq _ _ _ _ _ HRT.out _ (HD.out.below HK.out.bel (Nat.le_refl _))).mono ?_); rintro e u ⟨rfl, hb⟩; have hk := HK.out.call hb; clear hb; clear HK; have HK := Lib.hid hk; clear hk)
            | (go_at_call 109; (with_reducible refine (rep_eq _ _ HRP.out _).mono ?_); rintro e u ⟨rfl, rfl⟩)
            | (go_at_call 110; (with_reducible refine (cnt_eq a _ HCA.out _).mono ?_); rintro e u ⟨rfl, rfl⟩)
            | (go_at_call 110; (with_reducible refine (cnt_eq d _ HCD.out _).mono ?_); rintro e u ⟨rfl, rfl⟩))
          go_ret3
          exact ⟨_, rfl, Own.nil _ _, HK.out.bel⟩
        | true =>
          have HCD := Lib.hid hcd
          rw [hrp, hca, hcd, Bool.true_and, Bool.true_and, Bool.true_and] at hnew
          cases hgi : isB (gr hs k + 1) with
          | false =>
            rw [hgi] at hnew
            obtain ⟨e1, e2, e3⟩ := res_bad (l := hs) (k := k) (a := a) (d := d) (by rw [hnew, Bool.and_false])
            rw [e1, e2, e3]
            generalize hg : gr hs k = g at hgi
            have HG := Lib.hid hg
            have HOK := Lib.hid (show okB g 1 (g + 1) = false from okB_r hgi)
            clear e1 e2 e3 hg hgi hnew hris hgb
            go_enter Tryz.func74, Tryz.ntmps74
            go_wp2_with (first
              | (go_at_call 90; (with_reducible refine (rights_eq _ _ _ _ _ HRT.out _ (HD.out.below HK.out.bel (Nat.le_refl _))).mono ?_); rintro e u ⟨rfl, hb⟩; have hk := HK.out.call hb; clear hb; clear HK; have HK := Lib.hid hk; clear hk)
              | (go_at_call 109; (with_reducible refine (rep_eq _ _ HRP.out _).mono ?_); rintro e u ⟨rfl, rfl⟩)
              | (go_at_call 110; (with_reducible refine (cnt_eq a _ HCA.out _).mono ?_); rintro e u ⟨rfl, rfl⟩)
              | (go_at_call 110; (with_reducible refine (cnt_eq d _ HCD.out _).mono ?_); rintro e u ⟨rfl, rfl⟩)
              | (go_at_call 111; (with_reducible refine (gr_eq _ _ _ _ _ _ HG.out _ (HD.out.below HK.out.bel (Nat.le_refl _))).mono ?_); rintro e u ⟨rfl, hb⟩; have hk := HK.out.call hb; clear hb; clear HK; have HK := Lib.hid hk; clear hk)
              | (go_at_call 108; (with_reducible refine (add_no _ HOK.out _).mono ?_); rintro e u ⟨rfl, rfl⟩))
            go_ret3
            exact ⟨_, rfl, Own.nil _ _, HK.out.bel⟩
          | true =>
            rw [hgi] at hnew
            have hall : (rightsL hs && rightH (newH hs k a d)) = true := by rw [hrt, hnew]; rfl
            have HOK0 := Lib.hid (show okB (gr hs k) 1 (gr hs k + 1) = true from okB_iff.2 ⟨isB_iff.2 (by omega), by decide, hgi⟩)
            by_cases h16 : hs.length = 16
            · obtain ⟨e1, e2, e3⟩ := res_full hall h16
              rw [e1, e2, e3]
              generalize hg : gr hs k = g at HOK0
              have HG := Lib.hid hg; have HOK := HOK0
              have hn : (n : Int) = 16 := by have := HL.out; omega
              clear e1 e2 e3 hg hgi hnew hris hgb hall h16
              go_enter Tryz.func74, Tryz.ntmps74
              go_wp2_with (first
                | (go_at_call 90; (with_reducible refine (rights_eq _ _ _ _ _ HRT.out _ (HD.out.below HK.out.bel (Nat.le_refl _))).mono ?_); rintro e u ⟨rfl, hb⟩; have hk := HK.out.call hb; clear hb; clear HK; have HK := Lib.hid hk; clear hk)
                | (go_at_call 109; (with_reducible refine (rep_eq _ _ HRP.out _).mono ?_); rintro e u ⟨rfl, rfl⟩)
                | (go_at_call 110; (with_reducible refine (cnt_eq a _ HCA.out _).mono ?_); rintro e u ⟨rfl, rfl⟩)
                | (go_at_call 110; (with_reducible refine (cnt_eq d _ HCD.out _).mono ?_); rintro e u ⟨rfl, rfl⟩)
                | (go_at_call 111; (with_reducible refine (gr_eq _ _ _ _ _ _ HG.out _ (HD.out.below HK.out.bel (Nat.le_refl _))).mono ?_); rintro e u ⟨rfl, hb⟩; have hk := HK.out.call hb; clear hb; clear HK; have HK := Lib.hid hk; clear hk)
                | (go_at_call 108; (with_reducible refine (add_yes _ HOK.out _).mono ?_); rintro e u ⟨rfl, rfl⟩))
              go_ret3
              exact ⟨_, rfl, Own.nil _ _, HK.out.bel⟩
            · obtain ⟨e1, e2, e3⟩ := res_good hall h16
              obtain ⟨hap, hins⟩ := isort_new hris (new_apart (l := hs) (k := k) (a := a) (d := d))
              rw [e1, e2, e3, ← hins]
              unfold newH at hap ⊢
              generalize hg : gr hs k = g at HOK0 hap
              have HG := Lib.hid hg; have HOK := HOK0
              have HAP := Lib.hid hap
              have hn : ¬ (n : Int) = 16 := by have := HL.out; omega
              have hn2 : ((n : Int) == 16) = false := by simp; omega
              have HLE := Lib.hid hle
              clear e1 e2 e3 hg hgi hnew hris hgb hall h16 hins hap hle
              go_enter Tryz.func74, Tryz.ntmps74
              go_wp2_with (first
                | (go_at_call 90; (with_reducible refine (rights_eq _ _ _ _ _ HRT.out _ (HD.out.below HK.out.bel (Nat.le_refl _))).mono ?_); rintro e u ⟨rfl, hb⟩; have hk := HK.out.call hb; clear hb; clear HK; have HK := Lib.hid hk; clear hk)
                | (go_at_call 109; (with_reducible refine (rep_eq _ _ HRP.out _).mono ?_); rintro e u ⟨rfl, rfl⟩)
                | (go_at_call 110; (with_reducible refine (cnt_eq a _ HCA.out _).mono ?_); rintro e u ⟨rfl, rfl⟩)
                | (go_at_call 110; (with_reducible refine (cnt_eq d _ HCD.out _).mono ?_); rintro e u ⟨rfl, rfl⟩)
                | (go_at_call 111; (with_reducible refine (gr_eq _ _ _ _ _ _ HG.out _ (HD.out.below HK.out.bel (Nat.le_refl _))).mono ?_); rintro e u ⟨rfl, hb⟩; have hk := HK.out.call hb; clear hb; clear HK; have HK := Lib.hid hk; clear hk)
                | (go_at_call 108; (with_reducible refine (add_yes _ HOK.out _).mono ?_); rintro e u ⟨rfl, rfl⟩)
                | (go_at_call 112; (with_reducible refine (clone_any _ _ _ _ _ (HD.out.below HK.out.bel (Nat.le_refl _))).mono ?_); rintro e u ⟨v1, rfl, ho, hb⟩; have hk := (KeepH.of_keep HK.out).other hb ho; clear ho hb; clear HK; have HK := Lib.hid hk; clear hk)
                | (with_reducible refine build_five rfl _ _ _ _ _ rfl rfl rfl rfl rfl rfl ?_)
                | (with_reducible refine build_one (h := ⟨k, g + 1, a, d, 1⟩) HK.out rfl _ rfl rfl ?_; intro b1 u hk hb; clear hb; clear HK; have HK := Lib.hid hk; clear hk)
                | (refine app_hos HK.out rfl _ _ rfl rfl _ _ _ _ rfl HK.out.one (by have := HLE.out; omega) ?_; intro v2 u hk0; have hk := hk0.tail; clear hk0; clear HK; have HK := Lib.hid hk; clear hk)
                | (go_at_call 113; (refine (sort_any _ w.heap.size _ _ HK.out.own HK.out.keep.bel.size (by have := HLE.out; simp; omega) HAP.out).mono ?_); rintro e u ⟨rfl, ho, hb⟩; have hk := HK.out.re ho hb; clear ho hb; clear HK; have HK := Lib.hid hk; clear hk))
              go_ret3
              exact ⟨_, rfl, HK.out.own, HK.out.keep.bel⟩
theorem clone_pos (A : Option Addr) (n c : Nat) (hs : List Ho) (h0 : 0 < n) (w : World) (hd : Row w A n hs) :
    Calls Tryz.prog 112 #[.slice A n c] w fun e w' => ∃ g cap, e = .returned (.slice (some ⟨g, 0, none⟩) n cap) ∧ Own w' w.heap.size (.slice (some ⟨g, 0, none⟩) n cap) hs ∧ Below w.heap.size w w' :=
  (clone_any A n c hs w hd).mono fun e w' ⟨v, he, ho, hb⟩ => by
    have hl := hd.1
    obtain ⟨g, cap, e1, _⟩ := ho.at (by omega)
    rw [hl] at e1
    subst e1
    exact ⟨g, cap, he, ho, hb⟩
theorem end_bad {l : List Ho} {k n st : Int} (h : (rightsL l && (decide (st = 2) || decide (st = 3))) = false) : endE l k n st = 1 ∧ endA l k n st = 0 ∧ endL l k n st = [] := by
  have e : endE l k n st = 1 := by rw [endE, h]; rfl
  exact ⟨e, by rw [endA, e]; rfl, by rw [endL, e]; rfl⟩
theorem end_none {l : List Ho} {k n st : Int} (h : (rightsL l && (decide (st = 2) || decide (st = 3))) = true) (hf : fnd l k n = none) : endE l k n st = 10 ∧ endA l k n st = 0 ∧ endL l k n st = [] := by
  have e : endE l k n st = 10 := by rw [endE, h, if_pos rfl, hf]
  exact ⟨e, by rw [endA, e]; rfl, by rw [endL, e]; rfl⟩
theorem end_state {l : List Ho} {k n st : Int} {h0 : Ho} (h : (rightsL l && (decide (st = 2) || decide (st = 3))) = true) (hf : fnd l k n = some h0) (hs : h0.s ≠ 1) : endE l k n st = 12 ∧ endA l k n st = 0 ∧ endL l k n st = [] := by
  have e : endE l k n st = 12 := by rw [endE, h, if_pos rfl, hf]; simp [hs]
  exact ⟨e, by rw [endA, e]; rfl, by rw [endL, e]; rfl⟩
theorem end_good {l : List Ho} {k n st : Int} {m : Nat} (h : (rightsL l && (decide (st = 2) || decide (st = 3))) = true) (hm : m < l.length) (h1 : ∀ j, j < m → nm k n (l.getD j z5) = false) (h2 : nm k n (l.getD m z5) = true) (hs : (l.getD m z5).s = 1) :
    endE l k n st = 0 ∧ endA l k n st = (l.getD m z5).a ∧ endL l k n st = l.set m (setS (l.getD m z5) st) := by
  have hf := fnd_hit hm h1 h2
  have e : endE l k n st = 0 := by rw [endE, h, if_pos rfl, hf]; simp only [if_pos hs]
  have hi : l.findIdx (nm k n) = m := by
    rw [List.findIdx_eq hm]
    exact ⟨by rw [← getD_get hm]; exact h2, fun j hj => by rw [← getD_get (by omega)]; exact h1 j hj⟩
  exact ⟨e, by rw [endA, e, if_pos rfl, hf]; rfl, by rw [endL, e, if_pos rfl, hf, hi]; rfl⟩
set_option maxHeartbeats 2000000 in
set_option maxRecDepth 100000 in
theorem end_any (A : Option Addr) (n c : Nat) (hs : List Ho) (k q st : Int) (w : World) (hd : Row w A n hs) :
    Calls Tryz.prog 77 #[.slice A n c, .int .i64 k, .int .i64 q, .int .i64 st] w fun e w' => ∃ v, e = .returned (.tuple #[v, .int .i64 (endA hs k q st), .int .i64 (endE hs k q st)]) ∧ Own w' w.heap.size v (endL hs k q st) ∧ Below w.heap.size w w' := by
  have HD := Lib.hid hd; have HL := Lib.hid hd.1; have HNB := Lib.hid hd.2.1; clear hd
  have HK := Lib.hid (KeepR.start w)
  cases hrt : rightsL hs with
  | false =>
    obtain ⟨e1, e2, e3⟩ := end_bad (l := hs) (k := k) (n := q) (st := st) (by rw [hrt, Bool.false_and])
    rw [e1, e2, e3]
    have HRT := Lib.hid hrt
    clear e1 e2 e3
    go_enter Tryz.func77, Tryz.ntmps77
    go_wp2_with (first
      | (go_at_call 90; (with_reducible refine (rights_eq _ _ _ _ _ HRT.out _ (HD.out.below HK.out.bel (Nat.le_refl _))).mono ?_); rintro e u ⟨rfl, hb⟩; have hk := HK.out.call hb; clear hb; clear HK; have HK := Lib.hid hk; clear hk))
    go_ret3
    exact ⟨_, rfl, Own.nil _ _, HK.out.bel⟩
  | true =>
    have HRT := Lib.hid hrt
    by_cases hst : st = 2 ∨ st = 3
    · have hsb : (rightsL hs && (decide (st = 2) || decide (st = 3))) = true := by
        rw [hrt]; rcases hst with h | h <;> simp [h]
      have hnn : (((st != 2) && (st != 3)) = false) := by rcases hst with h | h <;> simp [h]
      rcases plc_cases hs k q with ⟨hz, hno⟩ | ⟨m, hm, hz, hyes, hno⟩
      · obtain ⟨e1, e2, e3⟩ := end_none hsb (fnd_miss hno)
        rw [e1, e2, e3]
        have HZ := Lib.hid hz
        clear e1 e2 e3 hz hno hsb hnn
        rcases hst with rfl | rfl
        · skip
          go_enter Tryz.func77, Tryz.ntmps77
          go_wp2_with (first
            | (go_at_call 90; (with_reducible refine (rights_eq _ _ _ _ _ HRT.out _ (HD.out.below HK.out.bel (Nat.le_refl _))).mono ?_); rintro e u ⟨rfl, hb⟩; have hk := HK.out.call hb; clear hb; clear HK; have HK := Lib.hid hk; clear hk)
            | (go_at_call 116; (with_reducible refine (place_eq _ _ _ _ _ _ _ HZ.out _ (HD.out.below HK.out.bel (Nat.le_refl _))).mono ?_); rintro e u ⟨rfl, hb⟩; have hk := HK.out.call hb; clear hb; clear HK; have HK := Lib.hid hk; clear hk))
          go_ret3
          exact ⟨_, rfl, Own.nil _ _, HK.out.bel⟩
        · skip
          go_enter Tryz.func77, Tryz.ntmps77
          go_wp2_with (first
            | (go_at_call 90; (with_reducible refine (rights_eq _ _ _ _ _ HRT.out _ (HD.out.below HK.out.bel (Nat.le_refl _))).mono ?_); rintro e u ⟨rfl, hb⟩; have hk := HK.out.call hb; clear hb; clear HK; have HK := Lib.hid hk; clear hk)
            | (go_at_call 116; (with_reducible refine (place_eq _ _ _ _ _ _ _ HZ.out _ (HD.out.below HK.out.bel (Nat.le_refl _))).mono ?_); rintro e u ⟨rfl, hb⟩; have hk := HK.out.call hb; clear hb; clear HK; have HK := Lib.hid hk; clear hk))
          go_ret3
          exact ⟨_, rfl, Own.nil _ _, HK.out.bel⟩
      · have HZ := Lib.hid hz
        have hlt : m < n := by have := HL.out; omega
        have i3 : ¬ (m : Int) < 0 := by omega
        by_cases hs1 : (hs.getD m z5).s = 1
        · obtain ⟨e1, e2, e3⟩ := end_good (st := st) hsb hm hno hyes hs1
          rw [e1, e2, e3]
          have HPOS := Lib.hid (show 0 < n by omega)
          have HMH := Lib.hid hm
          clear e1 e2 e3 hz hno hyes hsb hnn hm
          obtain ⟨b, off, rfl, hr⟩ := HD.out.at hlt
          have hrm := hr m hlt
          clear hr
          obtain ⟨h, hh⟩ : ∃ h, hs.getD m z5 = h := ⟨_, rfl⟩
          rw [hh] at hrm
          have HH := Lib.hid hh
          have HR := Lib.hid hrm; have HC := Lib.hid (range_lt hrm)
          clear hrm hh
          have i1 : (0 : Int) ≤ (m : Int) := by omega
          have i2 : (m : Int) < (n : Int) := by omega
          rw [HH.out] at hs1 ⊢
          have HSET := Lib.hid (fun z : Int => show (⟨(hs.getD m z5).r, (hs.getD m z5).n, (hs.getD m z5).a, (hs.getD m z5).d, z⟩ : Ho) = setS h z by rw [HH.out]; rfl)
          rcases hst with rfl | rfl
          · skip
            go_enter Tryz.func77, Tryz.ntmps77
            go_wp2_with (first
              | (go_at_call 90; (with_reducible refine (rights_eq _ _ _ _ _ HRT.out _ (HD.out.below HK.out.bel (Nat.le_refl _))).mono ?_); rintro e u ⟨rfl, hb⟩; have hk := HK.out.call hb; clear hb; clear HK; have HK := Lib.hid hk; clear hk)
              | (go_at_call 116; (with_reducible refine (place_eq _ _ _ _ _ _ _ HZ.out _ (HD.out.below HK.out.bel (Nat.le_refl _))).mono ?_); rintro e u ⟨rfl, hb⟩; have hk := HK.out.call hb; clear hb; clear HK; have HK := Lib.hid hk; clear hk)
              | (with_reducible refine load_cell (range5 (range_below HR.out HK.out.bel HC.out)).1 _ rfl rfl rfl ?_)
              | (with_reducible refine load_cell (range5 (range_below HR.out HK.out.bel HC.out)).2.1 _ rfl rfl rfl ?_)
              | (with_reducible refine load_cell (range5 (range_below HR.out HK.out.bel HC.out)).2.2.1 _ rfl rfl rfl ?_)
              | (with_reducible refine load_cell (range5 (range_below HR.out HK.out.bel HC.out)).2.2.2.1 _ rfl rfl rfl ?_)
              | (with_reducible refine load_cell (range5 (range_below HR.out HK.out.bel HC.out)).2.2.2.2 _ rfl rfl rfl ?_)
              | (go_at_call 112; (with_reducible refine (clone_pos _ _ _ _ HPOS.out _ (HD.out.below HK.out.bel (Nat.le_refl _))).mono ?_); rintro e u ⟨g, cap, rfl, ho, hb⟩; have hk := (KeepH.of_keep HK.out).other hb ho; clear ho hb; clear HK; have HK := Lib.hid hk; clear hk)
              | (with_reducible refine store_state HK.out HMH.out rfl rfl _ _ rfl rfl rfl rfl ?_; intro u hk; clear HK; have HK := Lib.hid hk; clear hk))
            have hk := HK.out
            rw [HSET.out] at hk
            clear HK
            have HK := Lib.hid hk
            clear hk
            refine Draws.start (S := fun u => KeepH w [] (.slice (some ⟨g, 0, none⟩) n cap) (hs.set m (setS h 2)) u) (n := 9) 9 rfl (by kernel_rfl) ?_
            have HS := Lib.hid (show (fun u => KeepH w [] (.slice (some ⟨g, 0, none⟩) n cap) (hs.set m (setS h 2)) u) _ from HK.out.drew)
            refine Draws.take 0 (v := ?v13) HS.out rfl (by kernel_rfl) (fun _ _ _ h => h) (Or.inl ⟨rfl, ?h13⟩) ?r13
            case h13 => intro w' hw'; go_simp; (try with_reducible rfl)
            (try simp only [Act.put, List.setIfInBounds_toArray, List.set_cons_zero, List.set_cons_succ])
            refine Draws.take 1 (v := ?v14) HS.out rfl (by kernel_rfl) (fun _ _ _ h => h) (Or.inl ⟨rfl, ?h14⟩) ?r14
            case h14 => intro w' hw'; go_simp; (try with_reducible rfl)
            (try simp only [Act.put, List.setIfInBounds_toArray, List.set_cons_zero, List.set_cons_succ])
            refine Draws.take 2 (v := ?v15) HS.out rfl (by kernel_rfl) (fun _ _ _ h => h) (Or.inl ⟨rfl, ?h15⟩) ?r15
            case h15 => intro w' hw'; go_simp; (try with_reducible rfl)
            (try simp only [Act.put, List.setIfInBounds_toArray, List.set_cons_zero, List.set_cons_succ])
            refine Draws.take 3 (v := ?v16) HS.out rfl (by kernel_rfl) (fun _ _ _ h => h) (Or.inl ⟨rfl, ?h16⟩) ?r16
            case h16 => intro w' hw'; go_simp; (try with_reducible rfl)
            (try simp only [Act.put, List.setIfInBounds_toArray, List.set_cons_zero, List.set_cons_succ])
            refine Draws.take 4 (v := ?v17) HS.out rfl (by kernel_rfl) (fun _ _ _ h => h) (Or.inl ⟨rfl, ?h17⟩) ?r17
            case h17 => intro w' hw'; go_simp; (try with_reducible rfl)
            (try simp only [Act.put, List.setIfInBounds_toArray, List.set_cons_zero, List.set_cons_succ])
            refine Draws.take 5 HS.out rfl (by kernel_rfl) (fun _ _ _ h => h) (yield_int (fun _ hu => (range5 (range_below HR.out hu.keep.bel HC.out)).2.2.1) _ rfl rfl rfl) ?_
            (try simp only [Act.put, List.setIfInBounds_toArray, List.set_cons_zero, List.set_cons_succ])
            refine Draws.take 6 (v := ?v18) HS.out rfl (by kernel_rfl) (fun _ _ _ h => h) (Or.inl ⟨rfl, ?h18⟩) ?r18
            case h18 => intro w' hw'; go_simp; (try with_reducible rfl)
            (try simp only [Act.put, List.setIfInBounds_toArray, List.set_cons_zero, List.set_cons_succ])
            refine Draws.take 7 (v := ?v19) HS.out rfl (by kernel_rfl) (fun _ _ _ h => h) (Or.inl ⟨rfl, ?h19⟩) ?r19
            case h19 => intro w' hw'; go_simp; (try with_reducible rfl)
            (try simp only [Act.put, List.setIfInBounds_toArray, List.set_cons_zero, List.set_cons_succ])
            refine Draws.take 8 (v := ?v20) HS.out rfl (by kernel_rfl) (fun _ _ _ h => h) (Or.inl ⟨rfl, ?h20⟩) ?r20
            case h20 => intro w' hw'; go_simp; (try with_reducible rfl)
            (try simp only [Act.put, List.setIfInBounds_toArray, List.set_cons_zero, List.set_cons_succ])
            refine Draws.done (by kernel_rfl) ?_
            go_wp2
            go_ret3
            exact ⟨_, rfl, HS.out.own, HS.out.keep.bel⟩
          · skip
            go_enter Tryz.func77, Tryz.ntmps77
            go_wp2_with (first
              | (go_at_call 90; (with_reducible refine (rights_eq _ _ _ _ _ HRT.out _ (HD.out.below HK.out.bel (Nat.le_refl _))).mono ?_); rintro e u ⟨rfl, hb⟩; have hk := HK.out.call hb; clear hb; clear HK; have HK := Lib.hid hk; clear hk)
              | (go_at_call 116; (with_reducible refine (place_eq _ _ _ _ _ _ _ HZ.out _ (HD.out.below HK.out.bel (Nat.le_refl _))).mono ?_); rintro e u ⟨rfl, hb⟩; have hk := HK.out.call hb; clear hb; clear HK; have HK := Lib.hid hk; clear hk)
              | (with_reducible refine load_cell (range5 (range_below HR.out HK.out.bel HC.out)).1 _ rfl rfl rfl ?_)
              | (with_reducible refine load_cell (range5 (range_below HR.out HK.out.bel HC.out)).2.1 _ rfl rfl rfl ?_)
              | (with_reducible refine load_cell (range5 (range_below HR.out HK.out.bel HC.out)).2.2.1 _ rfl rfl rfl ?_)
              | (with_reducible refine load_cell (range5 (range_below HR.out HK.out.bel HC.out)).2.2.2.1 _ rfl rfl rfl ?_)
              | (with_reducible refine load_cell (range5 (range_below HR.out HK.out.bel HC.out)).2.2.2.2 _ rfl rfl rfl ?_)
              | (go_at_call 112; (with_reducible refine (clone_pos _ _ _ _ HPOS.out _ (HD.out.below HK.out.bel (Nat.le_refl _))).mono ?_); rintro e u ⟨g, cap, rfl, ho, hb⟩; have hk := (KeepH.of_keep HK.out).other hb ho; clear ho hb; clear HK; have HK := Lib.hid hk; clear hk)
              | (with_reducible refine store_state HK.out HMH.out rfl rfl _ _ rfl rfl rfl rfl ?_; intro u hk; clear HK; have HK := Lib.hid hk; clear hk))
            have hk := HK.out
            rw [HSET.out] at hk
            clear HK
            have HK := Lib.hid hk
            clear hk
            refine Draws.start (S := fun u => KeepH w [] (.slice (some ⟨g, 0, none⟩) n cap) (hs.set m (setS h 3)) u) (n := 9) 9 rfl (by kernel_rfl) ?_
            have HS := Lib.hid (show (fun u => KeepH w [] (.slice (some ⟨g, 0, none⟩) n cap) (hs.set m (setS h 3)) u) _ from HK.out.drew)
            refine Draws.take 0 (v := ?v21) HS.out rfl (by kernel_rfl) (fun _ _ _ h => h) (Or.inl ⟨rfl, ?h21⟩) ?r21
            case h21 => intro w' hw'; go_simp; (try with_reducible rfl)
            (try simp only [Act.put, List.setIfInBounds_toArray, List.set_cons_zero, List.set_cons_succ])
            refine Draws.take 1 (v := ?v22) HS.out rfl (by kernel_rfl) (fun _ _ _ h => h) (Or.inl ⟨rfl, ?h22⟩) ?r22
            case h22 => intro w' hw'; go_simp; (try with_reducible rfl)
            (try simp only [Act.put, List.setIfInBounds_toArray, List.set_cons_zero, List.set_cons_succ])
            refine Draws.take 2 (v := ?v23) HS.out rfl (by kernel_rfl) (fun _ _ _ h => h) (Or.inl ⟨rfl, ?h23⟩) ?r23
            case h23 => intro w' hw'; go_simp; (try with_reducible rfl)
            (try simp only [Act.put, List.setIfInBounds_toArray, List.set_cons_zero, List.set_cons_succ])
            refine Draws.take 3 (v := ?v24) HS.out rfl (by kernel_rfl) (fun _ _ _ h => h) (Or.inl ⟨rfl, ?h24⟩) ?r24
            case h24 => intro w' hw'; go_simp; (try with_reducible rfl)
            (try simp only [Act.put, List.setIfInBounds_toArray, List.set_cons_zero, List.set_cons_succ])
            refine Draws.take 4 (v := ?v25) HS.out rfl (by kernel_rfl) (fun _ _ _ h => h) (Or.inl ⟨rfl, ?h25⟩) ?r25
            case h25 => intro w' hw'; go_simp; (try with_reducible rfl)
            (try simp only [Act.put, List.setIfInBounds_toArray, List.set_cons_zero, List.set_cons_succ])
            refine Draws.take 5 HS.out rfl (by kernel_rfl) (fun _ _ _ h => h) (yield_int (fun _ hu => (range5 (range_below HR.out hu.keep.bel HC.out)).2.2.1) _ rfl rfl rfl) ?_
            (try simp only [Act.put, List.setIfInBounds_toArray, List.set_cons_zero, List.set_cons_succ])
            refine Draws.take 6 (v := ?v26) HS.out rfl (by kernel_rfl) (fun _ _ _ h => h) (Or.inl ⟨rfl, ?h26⟩) ?r26
            case h26 => intro w' hw'; go_simp; (try with_reducible rfl)
            (try simp only [Act.put, List.setIfInBounds_toArray, List.set_cons_zero, List.set_cons_succ])
            refine Draws.take 7 (v := ?v27) HS.out rfl (by kernel_rfl) (fun _ _ _ h => h) (Or.inl ⟨rfl, ?h27⟩) ?r27
            case h27 => intro w' hw'; go_simp; (try with_reducible rfl)
            (try simp only [Act.put, List.setIfInBounds_toArray, List.set_cons_zero, List.set_cons_succ])
            refine Draws.take 8 (v := ?v28) HS.out rfl (by kernel_rfl) (fun _ _ _ h => h) (Or.inl ⟨rfl, ?h28⟩) ?r28
            case h28 => intro w' hw'; go_simp; (try with_reducible rfl)
            (try simp only [Act.put, List.setIfInBounds_toArray, List.set_cons_zero, List.set_cons_succ])
            refine Draws.done (by kernel_rfl) ?_
            go_wp2
            go_ret3
            exact ⟨_, rfl, HS.out.own, HS.out.keep.bel⟩
        · obtain ⟨e1, e2, e3⟩ := end_state hsb (fnd_hit hm hno hyes) hs1
          rw [e1, e2, e3]
          clear e1 e2 e3 hz hno hyes hsb hnn hm
          obtain ⟨b, off, rfl, hr⟩ := HD.out.at hlt
          have hrm := hr m hlt
          clear hr
          obtain ⟨h, hh⟩ : ∃ h, hs.getD m z5 = h := ⟨_, rfl⟩
          rw [hh] at hrm
          have HH := Lib.hid hh
          have HR := Lib.hid hrm; have HC := Lib.hid (range_lt hrm)
          clear hrm hh
          have i1 : (0 : Int) ≤ (m : Int) := by omega
          have i2 : (m : Int) < (n : Int) := by omega
          rw [HH.out] at hs1
          have n1 : (h.s != 1) = true := by simp [hs1]
          rcases hst with rfl | rfl
          · skip
            go_enter Tryz.func77, Tryz.ntmps77
            go_wp2_with (first
              | (go_at_call 90; (with_reducible refine (rights_eq _ _ _ _ _ HRT.out _ (HD.out.below HK.out.bel (Nat.le_refl _))).mono ?_); rintro e u ⟨rfl, hb⟩; have hk := HK.out.call hb; clear hb; clear HK; have HK := Lib.hid hk; clear hk)
              | (go_at_call 116; (with_reducible refine (place_eq _ _ _ _ _ _ _ HZ.out _ (HD.out.below HK.out.bel (Nat.le_refl _))).mono ?_); rintro e u ⟨rfl, hb⟩; have hk := HK.out.call hb; clear hb; clear HK; have HK := Lib.hid hk; clear hk)
              | (with_reducible refine load_cell (range5 (range_below HR.out HK.out.bel HC.out)).1 _ rfl rfl rfl ?_)
              | (with_reducible refine load_cell (range5 (range_below HR.out HK.out.bel HC.out)).2.1 _ rfl rfl rfl ?_)
              | (with_reducible refine load_cell (range5 (range_below HR.out HK.out.bel HC.out)).2.2.1 _ rfl rfl rfl ?_)
              | (with_reducible refine load_cell (range5 (range_below HR.out HK.out.bel HC.out)).2.2.2.1 _ rfl rfl rfl ?_)
              | (with_reducible refine load_cell (range5 (range_below HR.out HK.out.bel HC.out)).2.2.2.2 _ rfl rfl rfl ?_))
            go_ret3
            exact ⟨_, rfl, Own.nil _ _, HK.out.bel⟩
          · skip
            go_enter Tryz.func77, Tryz.ntmps77
            go_wp2_with (first
              | (go_at_call 90; (with_reducible refine (rights_eq _ _ _ _ _ HRT.out _ (HD.out.below HK.out.bel (Nat.le_refl _))).mono ?_); rintro e u ⟨rfl, hb⟩; have hk := HK.out.call hb; clear hb; clear HK; have HK := Lib.hid hk; clear hk)
              | (go_at_call 116; (with_reducible refine (place_eq _ _ _ _ _ _ _ HZ.out _ (HD.out.below HK.out.bel (Nat.le_refl _))).mono ?_); rintro e u ⟨rfl, hb⟩; have hk := HK.out.call hb; clear hb; clear HK; have HK := Lib.hid hk; clear hk)
              | (with_reducible refine load_cell (range5 (range_below HR.out HK.out.bel HC.out)).1 _ rfl rfl rfl ?_)
              | (with_reducible refine load_cell (range5 (range_below HR.out HK.out.bel HC.out)).2.1 _ rfl rfl rfl ?_)
              | (with_reducible refine load_cell (range5 (range_below HR.out HK.out.bel HC.out)).2.2.1 _ rfl rfl rfl ?_)
              | (with_reducible refine load_cell (range5 (range_below HR.out HK.out.bel HC.out)).2.2.2.1 _ rfl rfl rfl ?_)
              | (with_reducible refine load_cell (range5 (range_below HR.out HK.out.bel HC.out)).2.2.2.2 _ rfl rfl rfl ?_))
            go_ret3
            exact ⟨_, rfl, Own.nil _ _, HK.out.bel⟩
    · have hsb : (rightsL hs && (decide (st = 2) || decide (st = 3))) = false := by
        rw [hrt, Bool.true_and, Bool.or_eq_false_iff, decide_eq_false_iff_not, decide_eq_false_iff_not]; omega
      obtain ⟨e1, e2, e3⟩ := end_bad (l := hs) (k := k) (n := q) (st := st) hsb
      rw [e1, e2, e3]
      have n2 : (st != 2) = true := by simp; omega
      have n3 : (st != 3) = true := by simp; omega
      clear e1 e2 e3 hsb hst
      go_enter Tryz.func77, Tryz.ntmps77
      go_wp2_with (first
        | (go_at_call 90; (with_reducible refine (rights_eq _ _ _ _ _ HRT.out _ (HD.out.below HK.out.bel (Nat.le_refl _))).mono ?_); rintro e u ⟨rfl, hb⟩; have hk := HK.out.call hb; clear hb; clear HK; have HK := Lib.hid hk; clear hk)
        | (with_reducible refine neq_want n2 _ _ _ rfl rfl rfl rfl ?_)
        | (with_reducible refine neq_want n3 _ _ _ rfl rfl rfl rfl ?_))
      go_ret3
      exact ⟨_, rfl, Own.nil _ _, HK.out.bel⟩
end Go.Proofs.YtbaccghnneidgaaGreat
