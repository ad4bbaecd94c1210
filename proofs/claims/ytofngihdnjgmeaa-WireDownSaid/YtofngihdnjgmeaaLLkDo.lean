/- Contracts of what package lock and the document's layer 5 are made of; of New, Right, Write and Pass. -/
import Derived.Test.YtofngihdnjgmeaaLLkk
namespace Go.Proofs.Ytofngihdnjgmeaa
set_option maxRecDepth 100000
open Go.ChangeShapes Go.WideShapes Go.ChangeAt Go.RowKit

theorem Lk.g0 (a : Lk) : a.l.getD 0 0 = a.s := rfl
theorem Lk.p0 (a : Lk) : 0 < a.l.length := by simp [Lk.len]
theorem Lk.g1 (a : Lk) : a.l.getD 1 0 = a.v := rfl
theorem Lk.p1 (a : Lk) : 1 < a.l.length := by simp [Lk.len]
theorem Lk.g2 (a : Lk) : a.l.getD 2 0 = a.h := rfl
theorem Lk.p2 (a : Lk) : 2 < a.l.length := by simp [Lk.len]
theorem Lk.g3 (a : Lk) : a.l.getD 3 0 = a.x := rfl
theorem Lk.p3 (a : Lk) : 3 < a.l.length := by simp [Lk.len]
theorem rep_anyK (k : Int) (w : World) :
    Calls Try.prog 76 #[.int .i64 k] w fun e w' => e = .returned (.bool (repBK k)) ∧ w = w' := by
  by_cases h1 : 0 ≤ k
  · by_cases h2 : k ≤ 15
    · rw [repB_iffK.2 ⟨h1, h2⟩]
      have h3 : k < 16 := by omega
      go_enter Try.func76, Try.ntmps76
      go_wp2
      go_ret
      exact ⟨rfl, rfl⟩
    · rw [repB_notK.2 (.inr (by omega))]
      have h3 : ¬ k < 16 := by omega
      go_enter Try.func76, Try.ntmps76
      go_wp2
      go_ret
      exact ⟨rfl, rfl⟩
  · rw [repB_notK.2 (.inl (by omega))]
    go_enter Try.func76, Try.ntmps76
    go_wp2
    go_ret
    exact ⟨rfl, rfl⟩
theorem cnt_any (n : Int) (w : World) :
    Calls Try.prog 75 #[.int .i64 n] w fun e w' => e = .returned (.bool (cntB n)) ∧ w = w' := by
  by_cases h1 : 0 ≤ n
  · rw [show cntB n = isB n by simp [cntB, h1]]
    go_enter Try.func75, Try.ntmps75
    go_wp2_with (first
      | (go_at_call 37; (with_reducible refine (is_any _ _).mono ?_); rintro e u ⟨rfl, rfl⟩))
    go_ret
    exact ⟨rfl, rfl⟩
  · rw [show cntB n = false by simp [cntB, h1]]
    go_enter Try.func75, Try.ntmps75
    go_wp2_with (first
      | (go_at_call 37; (with_reducible refine (is_any _ _).mono ?_); rintro e u ⟨rfl, rfl⟩))
    go_ret
    exact ⟨rfl, rfl⟩
theorem lright_any (a : Lk) (w : World) :
    Calls Try.prog 62 #[.agg (vals a.l).toArray] w fun e w' => e = .returned (.bool (rightL a)) ∧ Below w.heap.size w w' := by
  have HK := Lib.hid (KeepR.start w)
  cases h1 : cntB a.s with
  | false =>
    rw [show rightL a = false by simp [rightL, h1]]
    go_enter Try.func62, Try.ntmps62
    go_wp2_with (first
      | (with_reducible refine box_new (R := a.l) HK.out rfl _ rfl rfl ?_; intro b u hk hb; clear hb; clear HK; have HK := Lib.hid hk; clear hk)
      | (with_reducible refine load_val HK.out 0 rfl _ rfl rfl rfl (Lk.g0 _) (Lk.p0 _) ?_)
      | (with_reducible refine load_val_want HK.out 0 _ rfl rfl rfl rfl (Lk.g1 _) (Lk.p1 _) ?_)
      | (with_reducible refine load_val_want HK.out 0 _ rfl rfl rfl rfl (Lk.g2 _) (Lk.p2 _) ?_)
      | (with_reducible refine load_val_want HK.out 0 _ rfl rfl rfl rfl (Lk.g3 _) (Lk.p3 _) ?_)
      | (go_at_call 75; (with_reducible refine (cnt_any _ _).mono ?_); rintro e u ⟨rfl, rfl⟩)
      | (go_at_call 76; (with_reducible refine (rep_anyK _ _).mono ?_); rintro e u ⟨rfl, rfl⟩)
      | (go_at_call 37; (with_reducible refine (is_any _ _).mono ?_); rintro e u ⟨rfl, rfl⟩))
    go_ret
    exact ⟨rfl, HK.out.bel⟩
  | true =>
    cases h2 : cntB a.v with
    | false =>
      rw [show rightL a = false by simp [rightL, h2]]
      go_enter Try.func62, Try.ntmps62
      go_wp2_with (first
        | (with_reducible refine box_new (R := a.l) HK.out rfl _ rfl rfl ?_; intro b u hk hb; clear hb; clear HK; have HK := Lib.hid hk; clear hk)
        | (with_reducible refine load_val HK.out 0 rfl _ rfl rfl rfl (Lk.g0 _) (Lk.p0 _) ?_)
        | (with_reducible refine load_val_want HK.out 0 _ rfl rfl rfl rfl (Lk.g1 _) (Lk.p1 _) ?_)
        | (with_reducible refine load_val_want HK.out 0 _ rfl rfl rfl rfl (Lk.g2 _) (Lk.p2 _) ?_)
        | (with_reducible refine load_val_want HK.out 0 _ rfl rfl rfl rfl (Lk.g3 _) (Lk.p3 _) ?_)
        | (go_at_call 75; (with_reducible refine (cnt_any _ _).mono ?_); rintro e u ⟨rfl, rfl⟩)
        | (go_at_call 76; (with_reducible refine (rep_anyK _ _).mono ?_); rintro e u ⟨rfl, rfl⟩)
        | (go_at_call 37; (with_reducible refine (is_any _ _).mono ?_); rintro e u ⟨rfl, rfl⟩))
      go_ret
      exact ⟨rfl, HK.out.bel⟩
    | true =>
      cases h3 : repBK a.h with
      | false =>
        rw [show rightL a = false by simp [rightL, h3]]
        go_enter Try.func62, Try.ntmps62
        go_wp2_with (first
          | (with_reducible refine box_new (R := a.l) HK.out rfl _ rfl rfl ?_; intro b u hk hb; clear hb; clear HK; have HK := Lib.hid hk; clear hk)
          | (with_reducible refine load_val HK.out 0 rfl _ rfl rfl rfl (Lk.g0 _) (Lk.p0 _) ?_)
          | (with_reducible refine load_val_want HK.out 0 _ rfl rfl rfl rfl (Lk.g1 _) (Lk.p1 _) ?_)
          | (with_reducible refine load_val_want HK.out 0 _ rfl rfl rfl rfl (Lk.g2 _) (Lk.p2 _) ?_)
          | (with_reducible refine load_val_want HK.out 0 _ rfl rfl rfl rfl (Lk.g3 _) (Lk.p3 _) ?_)
          | (go_at_call 75; (with_reducible refine (cnt_any _ _).mono ?_); rintro e u ⟨rfl, rfl⟩)
          | (go_at_call 76; (with_reducible refine (rep_anyK _ _).mono ?_); rintro e u ⟨rfl, rfl⟩)
          | (go_at_call 37; (with_reducible refine (is_any _ _).mono ?_); rintro e u ⟨rfl, rfl⟩))
        go_ret
        exact ⟨rfl, HK.out.bel⟩
      | true =>
        cases h4 : isB a.x with
        | false =>
          rw [show rightL a = false by simp [rightL, h4]]
          go_enter Try.func62, Try.ntmps62
          go_wp2_with (first
            | (with_reducible refine box_new (R := a.l) HK.out rfl _ rfl rfl ?_; intro b u hk hb; clear hb; clear HK; have HK := Lib.hid hk; clear hk)
            | (with_reducible refine load_val HK.out 0 rfl _ rfl rfl rfl (Lk.g0 _) (Lk.p0 _) ?_)
            | (with_reducible refine load_val_want HK.out 0 _ rfl rfl rfl rfl (Lk.g1 _) (Lk.p1 _) ?_)
            | (with_reducible refine load_val_want HK.out 0 _ rfl rfl rfl rfl (Lk.g2 _) (Lk.p2 _) ?_)
            | (with_reducible refine load_val_want HK.out 0 _ rfl rfl rfl rfl (Lk.g3 _) (Lk.p3 _) ?_)
            | (go_at_call 75; (with_reducible refine (cnt_any _ _).mono ?_); rintro e u ⟨rfl, rfl⟩)
            | (go_at_call 76; (with_reducible refine (rep_anyK _ _).mono ?_); rintro e u ⟨rfl, rfl⟩)
            | (go_at_call 37; (with_reducible refine (is_any _ _).mono ?_); rintro e u ⟨rfl, rfl⟩))
          go_ret
          exact ⟨rfl, HK.out.bel⟩
        | true =>
          rw [show rightL a = true by simp [rightL, h1, h2, h3, h4]]
          go_enter Try.func62, Try.ntmps62
          go_wp2_with (first
            | (with_reducible refine box_new (R := a.l) HK.out rfl _ rfl rfl ?_; intro b u hk hb; clear hb; clear HK; have HK := Lib.hid hk; clear hk)
            | (with_reducible refine load_val HK.out 0 rfl _ rfl rfl rfl (Lk.g0 _) (Lk.p0 _) ?_)
            | (with_reducible refine load_val_want HK.out 0 _ rfl rfl rfl rfl (Lk.g1 _) (Lk.p1 _) ?_)
            | (with_reducible refine load_val_want HK.out 0 _ rfl rfl rfl rfl (Lk.g2 _) (Lk.p2 _) ?_)
            | (with_reducible refine load_val_want HK.out 0 _ rfl rfl rfl rfl (Lk.g3 _) (Lk.p3 _) ?_)
            | (go_at_call 75; (with_reducible refine (cnt_any _ _).mono ?_); rintro e u ⟨rfl, rfl⟩)
            | (go_at_call 76; (with_reducible refine (rep_anyK _ _).mono ?_); rintro e u ⟨rfl, rfl⟩)
            | (go_at_call 37; (with_reducible refine (is_any _ _).mono ?_); rintro e u ⟨rfl, rfl⟩))
          go_ret
          exact ⟨rfl, HK.out.bel⟩
end Go.Proofs.Ytofngihdnjgmeaa
