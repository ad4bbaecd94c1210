/- Contracts of what package lock and the document's layer 5 are made of; of New, Right, Write and Pass. -/
import Derived.Test.YtbaccghnneidgaaGreatLLkk
namespace Go.Proofs.YtbaccghnneidgaaGreat
set_option maxRecDepth 100000
open Go.ChangeShapes Go.WideShapes Go.ChangeAt Go.RowKit

theorem Lk.g0 (a : Lk) : a.l.getD 0 0 = a.s := rfl
theorem Lk.p0 (a : Lk) : 0 < a.l.length := by simp [Lk.len]
theorem Lk.g1 (a : Lk) : a.l.getD 1 0 = a.v := rfl
theorem Lk.p1 (a : Lk) : 1 < a.l.length := by simp [Lk.len]
theorem Lk.g2 (a : Lk) : a.l.getD 2 0 = a.h := rfl
theorem Lk.p2 (a : Lk) : 2 < a.l.length := by simp [Lk.len]
theorem Lk.g3 (a : Lk) : a.l.getD 3 0 = a.x := rfl
theorem Lk.p3 (a : Lk) : 3 < a.l.length := by simp [Lk.len]
theorem Lk.set2 (a : Lk) (v x : Int) : (a.l.set 1 v).set 3 x = Lk.l ⟨a.s, v, a.h, x⟩ := rfl
theorem nan_any (n : Int) (w : World) :
    Calls Tryz.prog 165 #[.int .i64 n] w fun e w' => e = .returned (.bool false) ∧ w = w' := by
  go_enter Tryz.func165, Tryz.ntmps165
  go_wp2
  go_ret
  simp
theorem cmpi_any (x y : Int) (w : World) :
    Calls Tryz.prog 143 #[.int .i64 x, .int .i64 y] w fun e w' => e = .returned (.int .i64 (cmpI x y)) ∧ w = w' := by
  rcases cmpI_cases x y with ⟨h, e⟩ | ⟨h, e⟩ | ⟨h, e⟩
  · rw [e]; clear e
    go_enter Tryz.func143, Tryz.ntmps143
    go_wp2_with (first
      | (go_at_call 165; (with_reducible refine (nan_any _ _).mono ?_); rintro e u ⟨rfl, rfl⟩))
    go_ret
    exact ⟨rfl, rfl⟩
  · rw [e]; clear e
    have h' : ¬ x < y := by omega
    go_enter Tryz.func143, Tryz.ntmps143
    go_wp2_with (first
      | (go_at_call 165; (with_reducible refine (nan_any _ _).mono ?_); rintro e u ⟨rfl, rfl⟩))
    go_ret
    exact ⟨rfl, rfl⟩
  · rw [e]; clear e
    have h1 : ¬ x < y := by omega
    have h2 : ¬ y < x := by omega
    clear h
    go_enter Tryz.func143, Tryz.ntmps143
    go_wp2_with (first
      | (go_at_call 165; (with_reducible refine (nan_any _ _).mono ?_); rintro e u ⟨rfl, rfl⟩))
    go_ret
    exact ⟨rfl, rfl⟩
theorem rep_anyK (k : Int) (w : World) :
    Calls Tryz.prog 99 #[.int .i64 k] w fun e w' => e = .returned (.bool (repBK k)) ∧ w = w' := by
  by_cases h1 : 0 ≤ k
  · by_cases h2 : k ≤ 15
    · rw [repB_iffK.2 ⟨h1, h2⟩]
      have h3 : k < 16 := by omega
      go_enter Tryz.func99, Tryz.ntmps99
      go_wp2
      go_ret
      exact ⟨rfl, rfl⟩
    · rw [repB_notK.2 (.inr (by omega))]
      have h3 : ¬ k < 16 := by omega
      go_enter Tryz.func99, Tryz.ntmps99
      go_wp2
      go_ret
      exact ⟨rfl, rfl⟩
  · rw [repB_notK.2 (.inl (by omega))]
    go_enter Tryz.func99, Tryz.ntmps99
    go_wp2
    go_ret
    exact ⟨rfl, rfl⟩
theorem cnt_any (n : Int) (w : World) :
    Calls Tryz.prog 132 #[.int .i64 n] w fun e w' => e = .returned (.bool (cntB n)) ∧ w = w' := by
  by_cases h1 : 0 ≤ n
  · rw [show cntB n = isB n by simp [cntB, h1]]
    go_enter Tryz.func132, Tryz.ntmps132
    go_wp2_with (first
      | (go_at_call 50; (with_reducible refine (is_any _ _).mono ?_); rintro e u ⟨rfl, rfl⟩))
    go_ret
    exact ⟨rfl, rfl⟩
  · rw [show cntB n = false by simp [cntB, h1]]
    go_enter Tryz.func132, Tryz.ntmps132
    go_wp2_with (first
      | (go_at_call 50; (with_reducible refine (is_any _ _).mono ?_); rintro e u ⟨rfl, rfl⟩))
    go_ret
    exact ⟨rfl, rfl⟩
theorem lright_any (a : Lk) (w : World) :
    Calls Tryz.prog 97 #[.agg (vals a.l).toArray] w fun e w' => e = .returned (.bool (rightL a)) ∧ Below w.heap.size w w' := by
  have HK := Lib.hid (KeepR.start w)
  cases h1 : cntB a.s with
  | false =>
    rw [show rightL a = false by simp [rightL, h1]]
    go_enter Tryz.func97, Tryz.ntmps97
    go_wp2_with (first
      | (with_reducible refine box_new (R := a.l) HK.out rfl _ rfl rfl ?_; intro b u hk hb; clear hb; clear HK; have HK := Lib.hid hk; clear hk)
      | (with_reducible refine load_val HK.out 0 rfl _ rfl rfl rfl (Lk.g0 _) (Lk.p0 _) ?_)
      | (with_reducible refine load_val_want HK.out 0 _ rfl rfl rfl rfl (Lk.g1 _) (Lk.p1 _) ?_)
      | (with_reducible refine load_val_want HK.out 0 _ rfl rfl rfl rfl (Lk.g2 _) (Lk.p2 _) ?_)
      | (with_reducible refine load_val_want HK.out 0 _ rfl rfl rfl rfl (Lk.g3 _) (Lk.p3 _) ?_)
      | (go_at_call 132; (with_reducible refine (cnt_any _ _).mono ?_); rintro e u ⟨rfl, rfl⟩)
      | (go_at_call 99; (with_reducible refine (rep_anyK _ _).mono ?_); rintro e u ⟨rfl, rfl⟩)
      | (go_at_call 50; (with_reducible refine (is_any _ _).mono ?_); rintro e u ⟨rfl, rfl⟩))
    go_ret
    exact ⟨rfl, HK.out.bel⟩
  | true =>
    cases h2 : cntB a.v with
    | false =>
      rw [show rightL a = false by simp [rightL, h2]]
      go_enter Tryz.func97, Tryz.ntmps97
      go_wp2_with (first
        | (with_reducible refine box_new (R := a.l) HK.out rfl _ rfl rfl ?_; intro b u hk hb; clear hb; clear HK; have HK := Lib.hid hk; clear hk)
        | (with_reducible refine load_val HK.out 0 rfl _ rfl rfl rfl (Lk.g0 _) (Lk.p0 _) ?_)
        | (with_reducible refine load_val_want HK.out 0 _ rfl rfl rfl rfl (Lk.g1 _) (Lk.p1 _) ?_)
        | (with_reducible refine load_val_want HK.out 0 _ rfl rfl rfl rfl (Lk.g2 _) (Lk.p2 _) ?_)
        | (with_reducible refine load_val_want HK.out 0 _ rfl rfl rfl rfl (Lk.g3 _) (Lk.p3 _) ?_)
        | (go_at_call 132; (with_reducible refine (cnt_any _ _).mono ?_); rintro e u ⟨rfl, rfl⟩)
        | (go_at_call 99; (with_reducible refine (rep_anyK _ _).mono ?_); rintro e u ⟨rfl, rfl⟩)
        | (go_at_call 50; (with_reducible refine (is_any _ _).mono ?_); rintro e u ⟨rfl, rfl⟩))
      go_ret
      exact ⟨rfl, HK.out.bel⟩
    | true =>
      cases h3 : repBK a.h with
      | false =>
        rw [show rightL a = false by simp [rightL, h3]]
        go_enter Tryz.func97, Tryz.ntmps97
        go_wp2_with (first
          | (with_reducible refine box_new (R := a.l) HK.out rfl _ rfl rfl ?_; intro b u hk hb; clear hb; clear HK; have HK := Lib.hid hk; clear hk)
          | (with_reducible refine load_val HK.out 0 rfl _ rfl rfl rfl (Lk.g0 _) (Lk.p0 _) ?_)
          | (with_reducible refine load_val_want HK.out 0 _ rfl rfl rfl rfl (Lk.g1 _) (Lk.p1 _) ?_)
          | (with_reducible refine load_val_want HK.out 0 _ rfl rfl rfl rfl (Lk.g2 _) (Lk.p2 _) ?_)
          | (with_reducible refine load_val_want HK.out 0 _ rfl rfl rfl rfl (Lk.g3 _) (Lk.p3 _) ?_)
          | (go_at_call 132; (with_reducible refine (cnt_any _ _).mono ?_); rintro e u ⟨rfl, rfl⟩)
          | (go_at_call 99; (with_reducible refine (rep_anyK _ _).mono ?_); rintro e u ⟨rfl, rfl⟩)
          | (go_at_call 50; (with_reducible refine (is_any _ _).mono ?_); rintro e u ⟨rfl, rfl⟩))
        go_ret
        exact ⟨rfl, HK.out.bel⟩
      | true =>
        cases h4 : isB a.x with
        | false =>
          rw [show rightL a = false by simp [rightL, h4]]
          go_enter Tryz.func97, Tryz.ntmps97
          go_wp2_with (first
            | (with_reducible refine box_new (R := a.l) HK.out rfl _ rfl rfl ?_; intro b u hk hb; clear hb; clear HK; have HK := Lib.hid hk; clear hk)
            | (with_reducible refine load_val HK.out 0 rfl _ rfl rfl rfl (Lk.g0 _) (Lk.p0 _) ?_)
            | (with_reducible refine load_val_want HK.out 0 _ rfl rfl rfl rfl (Lk.g1 _) (Lk.p1 _) ?_)
            | (with_reducible refine load_val_want HK.out 0 _ rfl rfl rfl rfl (Lk.g2 _) (Lk.p2 _) ?_)
            | (with_reducible refine load_val_want HK.out 0 _ rfl rfl rfl rfl (Lk.g3 _) (Lk.p3 _) ?_)
            | (go_at_call 132; (with_reducible refine (cnt_any _ _).mono ?_); rintro e u ⟨rfl, rfl⟩)
            | (go_at_call 99; (with_reducible refine (rep_anyK _ _).mono ?_); rintro e u ⟨rfl, rfl⟩)
            | (go_at_call 50; (with_reducible refine (is_any _ _).mono ?_); rintro e u ⟨rfl, rfl⟩))
          go_ret
          exact ⟨rfl, HK.out.bel⟩
        | true =>
          rw [show rightL a = true by simp [rightL, h1, h2, h3, h4]]
          go_enter Tryz.func97, Tryz.ntmps97
          go_wp2_with (first
            | (with_reducible refine box_new (R := a.l) HK.out rfl _ rfl rfl ?_; intro b u hk hb; clear hb; clear HK; have HK := Lib.hid hk; clear hk)
            | (with_reducible refine load_val HK.out 0 rfl _ rfl rfl rfl (Lk.g0 _) (Lk.p0 _) ?_)
            | (with_reducible refine load_val_want HK.out 0 _ rfl rfl rfl rfl (Lk.g1 _) (Lk.p1 _) ?_)
            | (with_reducible refine load_val_want HK.out 0 _ rfl rfl rfl rfl (Lk.g2 _) (Lk.p2 _) ?_)
            | (with_reducible refine load_val_want HK.out 0 _ rfl rfl rfl rfl (Lk.g3 _) (Lk.p3 _) ?_)
            | (go_at_call 132; (with_reducible refine (cnt_any _ _).mono ?_); rintro e u ⟨rfl, rfl⟩)
            | (go_at_call 99; (with_reducible refine (rep_anyK _ _).mono ?_); rintro e u ⟨rfl, rfl⟩)
            | (go_at_call 50; (with_reducible refine (is_any _ _).mono ?_); rintro e u ⟨rfl, rfl⟩))
          go_ret
          exact ⟨rfl, HK.out.bel⟩
theorem write_any (a : Lk) (k n : Int) (w : World) :
    Calls Tryz.prog 68 #[.agg (vals a.l).toArray, .int .i64 k, .int .i64 n] w fun e w' => e = .returned (.tuple #[.agg (vals (wrA a k n).l).toArray, .int .i64 (wrE a k n)]) ∧ Below w.heap.size w w' := by
  have HK := Lib.hid (KeepR.start w)
  by_cases h1 : k = a.h
  · cases h2 : isB n with
    | false =>
      have e : wrE a k n = 2 := by simp [wrE, h1, h2]
      rw [show (wrA a k n).l = zer 4 by rw [wrA, if_neg (by omega)]; rfl, e]
      clear e
      go_enter Tryz.func68, Tryz.ntmps68
      go_wp2_with (first
        | (with_reducible refine box_new (R := a.l) HK.out rfl _ rfl rfl ?_; intro b u hk hb; clear hb; clear HK; have HK := Lib.hid hk; clear hk)
        | (with_reducible refine alloc_zero HK.out 4 lk_zero rfl rfl ?_; intro b u hn hk hb; clear hn; clear hb; clear HK; have HK := Lib.hid hk; clear hk)
        | (with_reducible refine load_val HK.out 1 rfl _ rfl rfl rfl (Lk.g2 _) (Lk.p2 _) ?_)
        | (with_reducible refine load_val HK.out 1 rfl _ rfl rfl rfl (Lk.g1 _) (Lk.p1 _) ?_)
        | (with_reducible refine build_zero 4 lk_build rfl rfl ?_)
        | (go_at_call 50; (with_reducible refine (is_any _ _).mono ?_); rintro e u ⟨rfl, rfl⟩)
        | (go_at_call 108; (with_reducible refine (add_any _ _ _).mono ?_); rintro e u ⟨rfl, rfl⟩)
        | (with_reducible refine store_all HK.out 0 4 lk_info rfl rfl _ _ rfl rfl rfl rfl (zer_length 4) (zer_length 4) ?_; intro u hk hs; clear hs; simp only [List.set_cons_zero] at hk; clear HK; have HK := Lib.hid hk; clear hk)
        | (with_reducible refine store_int HK.out 1 rfl rfl _ _ rfl rfl rfl rfl (Lk.p1 _) ?_; intro u hk; simp only [List.set_cons_zero, List.set_cons_succ] at hk; clear HK; have HK := Lib.hid hk; clear hk)
        | (with_reducible refine store_int HK.out 1 rfl rfl _ _ rfl rfl rfl rfl (by simp [Lk.len]) ?_; intro u hk; simp only [List.set_cons_zero, List.set_cons_succ] at hk; rw [Lk.set2] at hk; clear HK; have HK := Lib.hid hk; clear hk)
        | (with_reducible refine load_all HK.out 1 4 Tryz.underlying30 rfl lk_info rfl _ rfl rfl rfl (Lk.len _) ?_)
        | (with_reducible refine store_all HK.out 0 4 lk_info rfl rfl _ _ rfl rfl rfl rfl (Lk.len _) (zer_length 4) ?_; intro u hk hs; clear hs; simp only [List.set_cons_zero, List.set_cons_succ] at hk; clear HK; have HK := Lib.hid hk; clear hk))
      exact bodyPost_ret (results_2 rfl Tryz.underlying30 rfl lk_info _ HK.out 0 _ rfl rfl rfl (zer_length 4)) rfl ⟨rfl, HK.out.bel⟩
    | true =>
      by_cases h3 : addE a.v 1 = 0
      · obtain ⟨_, _, h4⟩ := addE_zero h3
        have e : wrE a k n = 0 := by simp [wrE, h1, h2, h3]
        rw [show (wrA a k n).l = Lk.l ⟨a.s, a.v + 1, a.h, n⟩ by rw [wrA, if_pos e], e]
        clear e
        go_enter Tryz.func68, Tryz.ntmps68
        go_wp2_with (first
          | (with_reducible refine box_new (R := a.l) HK.out rfl _ rfl rfl ?_; intro b u hk hb; clear hb; clear HK; have HK := Lib.hid hk; clear hk)
          | (with_reducible refine alloc_zero HK.out 4 lk_zero rfl rfl ?_; intro b u hn hk hb; clear hn; clear hb; clear HK; have HK := Lib.hid hk; clear hk)
          | (with_reducible refine load_val HK.out 1 rfl _ rfl rfl rfl (Lk.g2 _) (Lk.p2 _) ?_)
          | (with_reducible refine load_val HK.out 1 rfl _ rfl rfl rfl (Lk.g1 _) (Lk.p1 _) ?_)
          | (with_reducible refine build_zero 4 lk_build rfl rfl ?_)
          | (go_at_call 50; (with_reducible refine (is_any _ _).mono ?_); rintro e u ⟨rfl, rfl⟩)
          | (go_at_call 108; (with_reducible refine (add_any _ _ _).mono ?_); rintro e u ⟨rfl, rfl⟩)
          | (with_reducible refine store_all HK.out 0 4 lk_info rfl rfl _ _ rfl rfl rfl rfl (zer_length 4) (zer_length 4) ?_; intro u hk hs; clear hs; simp only [List.set_cons_zero, List.set_cons_succ] at hk; clear HK; have HK := Lib.hid hk; clear hk)
          | (with_reducible refine store_int HK.out 1 rfl rfl _ _ rfl rfl rfl rfl (Lk.p1 _) ?_; intro u hk; simp only [List.set_cons_zero, List.set_cons_succ] at hk; clear HK; have HK := Lib.hid hk; clear hk)
          | (with_reducible refine store_int HK.out 1 rfl rfl _ _ rfl rfl rfl rfl (by simp [Lk.len]) ?_; intro u hk; simp only [List.set_cons_zero, List.set_cons_succ] at hk; rw [Lk.set2] at hk; clear HK; have HK := Lib.hid hk; clear hk)
          | (with_reducible refine load_all HK.out 1 4 Tryz.underlying30 rfl lk_info rfl _ rfl rfl rfl (Lk.len _) ?_)
          | (with_reducible refine store_all HK.out 0 4 lk_info rfl rfl _ _ rfl rfl rfl rfl (Lk.len _) (zer_length 4) ?_; intro u hk hs; clear hs; simp only [List.set_cons_zero] at hk; clear HK; have HK := Lib.hid hk; clear hk))
        exact bodyPost_ret (results_2 rfl Tryz.underlying30 rfl lk_info _ HK.out 0 _ rfl rfl rfl (Lk.len _)) rfl ⟨rfl, HK.out.bel⟩
      · have h4 := addE_two h3
        have e : wrE a k n = 2 := by simp [wrE, h1, h2, h4]
        rw [show (wrA a k n).l = zer 4 by rw [wrA, if_neg (by omega)]; rfl, e]
        clear e
        go_enter Tryz.func68, Tryz.ntmps68
        go_wp2_with (first
          | (with_reducible refine box_new (R := a.l) HK.out rfl _ rfl rfl ?_; intro b u hk hb; clear hb; clear HK; have HK := Lib.hid hk; clear hk)
          | (with_reducible refine alloc_zero HK.out 4 lk_zero rfl rfl ?_; intro b u hn hk hb; clear hn; clear hb; clear HK; have HK := Lib.hid hk; clear hk)
          | (with_reducible refine load_val HK.out 1 rfl _ rfl rfl rfl (Lk.g2 _) (Lk.p2 _) ?_)
          | (with_reducible refine load_val HK.out 1 rfl _ rfl rfl rfl (Lk.g1 _) (Lk.p1 _) ?_)
          | (with_reducible refine build_zero 4 lk_build rfl rfl ?_)
          | (go_at_call 50; (with_reducible refine (is_any _ _).mono ?_); rintro e u ⟨rfl, rfl⟩)
          | (go_at_call 108; (with_reducible refine (add_any _ _ _).mono ?_); rintro e u ⟨rfl, rfl⟩)
          | (with_reducible refine store_all HK.out 0 4 lk_info rfl rfl _ _ rfl rfl rfl rfl (zer_length 4) (zer_length 4) ?_; intro u hk hs; clear hs; simp only [List.set_cons_zero] at hk; clear HK; have HK := Lib.hid hk; clear hk)
          | (with_reducible refine store_int HK.out 1 rfl rfl _ _ rfl rfl rfl rfl (Lk.p1 _) ?_; intro u hk; simp only [List.set_cons_zero, List.set_cons_succ] at hk; clear HK; have HK := Lib.hid hk; clear hk)
          | (with_reducible refine store_int HK.out 1 rfl rfl _ _ rfl rfl rfl rfl (by simp [Lk.len]) ?_; intro u hk; simp only [List.set_cons_zero, List.set_cons_succ] at hk; rw [Lk.set2] at hk; clear HK; have HK := Lib.hid hk; clear hk)
          | (with_reducible refine load_all HK.out 1 4 Tryz.underlying30 rfl lk_info rfl _ rfl rfl rfl (Lk.len _) ?_)
          | (with_reducible refine store_all HK.out 0 4 lk_info rfl rfl _ _ rfl rfl rfl rfl (Lk.len _) (zer_length 4) ?_; intro u hk hs; clear hs; simp only [List.set_cons_zero, List.set_cons_succ] at hk; clear HK; have HK := Lib.hid hk; clear hk))
        exact bodyPost_ret (results_2 rfl Tryz.underlying30 rfl lk_info _ HK.out 0 _ rfl rfl rfl (zer_length 4)) rfl ⟨rfl, HK.out.bel⟩
  · have h1' : ¬ k = a.h := h1
    have e : wrE a k n = 9 := by simp [wrE, h1]
    rw [show (wrA a k n).l = zer 4 by rw [wrA, if_neg (by omega)]; rfl, e]
    clear e
    go_enter Tryz.func68, Tryz.ntmps68
    go_wp2_with (first
      | (with_reducible refine box_new (R := a.l) HK.out rfl _ rfl rfl ?_; intro b u hk hb; clear hb; clear HK; have HK := Lib.hid hk; clear hk)
      | (with_reducible refine alloc_zero HK.out 4 lk_zero rfl rfl ?_; intro b u hn hk hb; clear hn; clear hb; clear HK; have HK := Lib.hid hk; clear hk)
      | (with_reducible refine load_val HK.out 1 rfl _ rfl rfl rfl (Lk.g2 _) (Lk.p2 _) ?_)
      | (with_reducible refine load_val HK.out 1 rfl _ rfl rfl rfl (Lk.g1 _) (Lk.p1 _) ?_)
      | (with_reducible refine build_zero 4 lk_build rfl rfl ?_)
      | (go_at_call 50; (with_reducible refine (is_any _ _).mono ?_); rintro e u ⟨rfl, rfl⟩)
      | (go_at_call 108; (with_reducible refine (add_any _ _ _).mono ?_); rintro e u ⟨rfl, rfl⟩)
      | (with_reducible refine store_all HK.out 0 4 lk_info rfl rfl _ _ rfl rfl rfl rfl (zer_length 4) (zer_length 4) ?_; intro u hk hs; clear hs; simp only [List.set_cons_zero] at hk; clear HK; have HK := Lib.hid hk; clear hk)
      | (with_reducible refine store_int HK.out 1 rfl rfl _ _ rfl rfl rfl rfl (Lk.p1 _) ?_; intro u hk; simp only [List.set_cons_zero, List.set_cons_succ] at hk; clear HK; have HK := Lib.hid hk; clear hk)
      | (with_reducible refine store_int HK.out 1 rfl rfl _ _ rfl rfl rfl rfl (by simp [Lk.len]) ?_; intro u hk; simp only [List.set_cons_zero, List.set_cons_succ] at hk; rw [Lk.set2] at hk; clear HK; have HK := Lib.hid hk; clear hk)
      | (with_reducible refine load_all HK.out 1 4 Tryz.underlying30 rfl lk_info rfl _ rfl rfl rfl (Lk.len _) ?_)
      | (with_reducible refine store_all HK.out 0 4 lk_info rfl rfl _ _ rfl rfl rfl rfl (Lk.len _) (zer_length 4) ?_; intro u hk hs; clear hs; simp only [List.set_cons_zero, List.set_cons_succ] at hk; clear HK; have HK := Lib.hid hk; clear hk))
    exact bodyPost_ret (results_2 rfl Tryz.underlying30 rfl lk_info _ HK.out 0 _ rfl rfl rfl (zer_length 4)) rfl ⟨rfl, HK.out.bel⟩
theorem pass_any (a : Lk) (k t : Int) (w : World) :
    Calls Tryz.prog 71 #[.agg (vals a.l).toArray, .int .i64 k, .int .i64 t] w fun e w' => e = .returned (.tuple #[.agg (vals (psA a k t).l).toArray, .int .i64 (psE a k t)]) ∧ Below w.heap.size w w' := by
  have HK := Lib.hid (KeepR.start w)
  by_cases h1 : k = a.h
  · cases h2 : repBK t with
    | false =>
      have e : psE a k t = 1 := by simp [psE, h1, h2]
      rw [show (psA a k t).l = zer 4 by rw [psA, if_neg (by omega)]; rfl, e]
      clear e
      go_enter Tryz.func71, Tryz.ntmps71
      go_wp2_with (first
        | (with_reducible refine box_new (R := a.l) HK.out rfl _ rfl rfl ?_; intro b u hk hb; clear hb; clear HK; have HK := Lib.hid hk; clear hk)
        | (with_reducible refine alloc_zero HK.out 4 lk_zero rfl rfl ?_; intro b u hn hk hb; clear hn; clear hb; clear HK; have HK := Lib.hid hk; clear hk)
        | (with_reducible refine load_val HK.out 1 rfl _ rfl rfl rfl (Lk.g2 _) (Lk.p2 _) ?_)
        | (with_reducible refine load_val HK.out 1 rfl _ rfl rfl rfl (Lk.g0 _) (Lk.p0 _) ?_)
        | (with_reducible refine load_val HK.out 1 rfl _ rfl rfl rfl (Lk.g3 _) (Lk.p3 _) ?_)
        | (with_reducible refine build_zero 4 lk_build rfl rfl ?_)
        | (go_at_call 99; (with_reducible refine (rep_anyK _ _).mono ?_); rintro e u ⟨rfl, rfl⟩)
        | (go_at_call 108; (with_reducible refine (add_any _ _ _).mono ?_); rintro e u ⟨rfl, rfl⟩)
        | (with_reducible refine store_all HK.out 0 4 lk_info rfl rfl _ _ rfl rfl rfl rfl (zer_length 4) (zer_length 4) ?_; intro u hk hs; clear hs; simp only [List.set_cons_zero] at hk; clear HK; have HK := Lib.hid hk; clear hk)
        | (with_reducible refine build_threeK rfl _ _ _ rfl rfl rfl rfl ?_)
        | (with_reducible refine store_all HK.out 0 4 lk_info rfl rfl _ _ rfl rfl rfl rfl (Lk.len _) (zer_length 4) ?_; intro u hk hs; clear hs; simp only [List.set_cons_zero, List.set_cons_succ] at hk; clear HK; have HK := Lib.hid hk; clear hk))
      exact bodyPost_ret (results_2 rfl Tryz.underlying30 rfl lk_info _ HK.out 0 _ rfl rfl rfl (zer_length 4)) rfl ⟨rfl, HK.out.bel⟩
    | true =>
      by_cases h3 : addE a.s 1 = 0
      · obtain ⟨_, _, h4⟩ := addE_zero h3
        have e : psE a k t = 0 := by simp [psE, h1, h2, h3]
        rw [show (psA a k t).l = Lk.l ⟨a.s + 1, 0, t, a.x⟩ by rw [psA, if_pos e], e]
        clear e
        go_enter Tryz.func71, Tryz.ntmps71
        go_wp2_with (first
          | (with_reducible refine box_new (R := a.l) HK.out rfl _ rfl rfl ?_; intro b u hk hb; clear hb; clear HK; have HK := Lib.hid hk; clear hk)
          | (with_reducible refine alloc_zero HK.out 4 lk_zero rfl rfl ?_; intro b u hn hk hb; clear hn; clear hb; clear HK; have HK := Lib.hid hk; clear hk)
          | (with_reducible refine load_val HK.out 1 rfl _ rfl rfl rfl (Lk.g2 _) (Lk.p2 _) ?_)
          | (with_reducible refine load_val HK.out 1 rfl _ rfl rfl rfl (Lk.g0 _) (Lk.p0 _) ?_)
          | (with_reducible refine load_val HK.out 1 rfl _ rfl rfl rfl (Lk.g3 _) (Lk.p3 _) ?_)
          | (with_reducible refine build_zero 4 lk_build rfl rfl ?_)
          | (go_at_call 99; (with_reducible refine (rep_anyK _ _).mono ?_); rintro e u ⟨rfl, rfl⟩)
          | (go_at_call 108; (with_reducible refine (add_any _ _ _).mono ?_); rintro e u ⟨rfl, rfl⟩)
          | (with_reducible refine store_all HK.out 0 4 lk_info rfl rfl _ _ rfl rfl rfl rfl (zer_length 4) (zer_length 4) ?_; intro u hk hs; clear hs; simp only [List.set_cons_zero, List.set_cons_succ] at hk; clear HK; have HK := Lib.hid hk; clear hk)
          | (with_reducible refine build_threeK rfl _ _ _ rfl rfl rfl rfl ?_)
          | (with_reducible refine store_all HK.out 0 4 lk_info rfl rfl _ _ rfl rfl rfl rfl (Lk.len _) (zer_length 4) ?_; intro u hk hs; clear hs; simp only [List.set_cons_zero] at hk; clear HK; have HK := Lib.hid hk; clear hk))
        exact bodyPost_ret (results_2 rfl Tryz.underlying30 rfl lk_info _ HK.out 0 _ rfl rfl rfl (Lk.len _)) rfl ⟨rfl, HK.out.bel⟩
      · have h4 := addE_two h3
        have e : psE a k t = 2 := by simp [psE, h1, h2, h4]
        rw [show (psA a k t).l = zer 4 by rw [psA, if_neg (by omega)]; rfl, e]
        clear e
        go_enter Tryz.func71, Tryz.ntmps71
        go_wp2_with (first
          | (with_reducible refine box_new (R := a.l) HK.out rfl _ rfl rfl ?_; intro b u hk hb; clear hb; clear HK; have HK := Lib.hid hk; clear hk)
          | (with_reducible refine alloc_zero HK.out 4 lk_zero rfl rfl ?_; intro b u hn hk hb; clear hn; clear hb; clear HK; have HK := Lib.hid hk; clear hk)
          | (with_reducible refine load_val HK.out 1 rfl _ rfl rfl rfl (Lk.g2 _) (Lk.p2 _) ?_)
          | (with_reducible refine load_val HK.out 1 rfl _ rfl rfl rfl (Lk.g0 _) (Lk.p0 _) ?_)
          | (with_reducible refine load_val HK.out 1 rfl _ rfl rfl rfl (Lk.g3 _) (Lk.p3 _) ?_)
          | (with_reducible refine build_zero 4 lk_build rfl rfl ?_)
          | (go_at_call 99; (with_reducible refine (rep_anyK _ _).mono ?_); rintro e u ⟨rfl, rfl⟩)
          | (go_at_call 108; (with_reducible refine (add_any _ _ _).mono ?_); rintro e u ⟨rfl, rfl⟩)
          | (with_reducible refine store_all HK.out 0 4 lk_info rfl rfl _ _ rfl rfl rfl rfl (zer_length 4) (zer_length 4) ?_; intro u hk hs; clear hs; simp only [List.set_cons_zero] at hk; clear HK; have HK := Lib.hid hk; clear hk)
          | (with_reducible refine build_threeK rfl _ _ _ rfl rfl rfl rfl ?_)
          | (with_reducible refine store_all HK.out 0 4 lk_info rfl rfl _ _ rfl rfl rfl rfl (Lk.len _) (zer_length 4) ?_; intro u hk hs; clear hs; simp only [List.set_cons_zero, List.set_cons_succ] at hk; clear HK; have HK := Lib.hid hk; clear hk))
        exact bodyPost_ret (results_2 rfl Tryz.underlying30 rfl lk_info _ HK.out 0 _ rfl rfl rfl (zer_length 4)) rfl ⟨rfl, HK.out.bel⟩
  · have h1' : ¬ k = a.h := h1
    have e : psE a k t = 9 := by simp [psE, h1]
    rw [show (psA a k t).l = zer 4 by rw [psA, if_neg (by omega)]; rfl, e]
    clear e
    go_enter Tryz.func71, Tryz.ntmps71
    go_wp2_with (first
      | (with_reducible refine box_new (R := a.l) HK.out rfl _ rfl rfl ?_; intro b u hk hb; clear hb; clear HK; have HK := Lib.hid hk; clear hk)
      | (with_reducible refine alloc_zero HK.out 4 lk_zero rfl rfl ?_; intro b u hn hk hb; clear hn; clear hb; clear HK; have HK := Lib.hid hk; clear hk)
      | (with_reducible refine load_val HK.out 1 rfl _ rfl rfl rfl (Lk.g2 _) (Lk.p2 _) ?_)
      | (with_reducible refine load_val HK.out 1 rfl _ rfl rfl rfl (Lk.g0 _) (Lk.p0 _) ?_)
      | (with_reducible refine load_val HK.out 1 rfl _ rfl rfl rfl (Lk.g3 _) (Lk.p3 _) ?_)
      | (with_reducible refine build_zero 4 lk_build rfl rfl ?_)
      | (go_at_call 99; (with_reducible refine (rep_anyK _ _).mono ?_); rintro e u ⟨rfl, rfl⟩)
      | (go_at_call 108; (with_reducible refine (add_any _ _ _).mono ?_); rintro e u ⟨rfl, rfl⟩)
      | (with_reducible refine store_all HK.out 0 4 lk_info rfl rfl _ _ rfl rfl rfl rfl (zer_length 4) (zer_length 4) ?_; intro u hk hs; clear hs; simp only [List.set_cons_zero] at hk; clear HK; have HK := Lib.hid hk; clear hk)
      | (with_reducible refine build_threeK rfl _ _ _ rfl rfl rfl rfl ?_)
      | (with_reducible refine store_all HK.out 0 4 lk_info rfl rfl _ _ rfl rfl rfl rfl (Lk.len _) (zer_length 4) ?_; intro u hk hs; clear hs; simp only [List.set_cons_zero, List.set_cons_succ] at hk; clear HK; have HK := Lib.hid hk; clear hk))
    exact bodyPost_ret (results_2 rfl Tryz.underlying30 rfl lk_info _ HK.out 0 _ rfl rfl rfl (zer_length 4)) rfl ⟨rfl, HK.out.bel⟩
end Go.Proofs.YtbaccghnneidgaaGreat
