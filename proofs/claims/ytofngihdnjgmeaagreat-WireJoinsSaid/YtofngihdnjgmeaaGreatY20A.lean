/- Contracts of Right, of both, with isRightCounter, isRightLock and layer 5's Right of the document. -/
import Derived.Test.YtofngihdnjgmeaaGreatY01
import Derived.Test.YtofngihdnjgmeaaGreatY06
import Derived.Test.YtofngihdnjgmeaaGreatY07
import Derived.Test.YtofngihdnjgmeaaGreatY09
import Derived.Test.YtofngihdnjgmeaaGreatY11
import Derived.Test.YtofngihdnjgmeaaGreatY12
import Derived.Test.YtofngihdnjgmeaaGreatY16A
import Derived.Test.YtofngihdnjgmeaaGreatY18
import Derived.Test.YtofngihdnjgmeaaGreatY19A
import Derived.Maps.AppendAt
import Derived.OwnWalk
import Derived.Laws.OwnMore
import Derived.WalkKit
import Derived.ProofKit
import Derived.OpenShut
import Derived.ChangeOld
import Derived.Deep.Slices
import Derived.ChangeSlices
import Derived.Laws.AppendOwn
import Derived.Lib.Hide
import Derived.Deep.RegionHeld3
import Derived.Below
import Derived.Deep.MidRow
import Derived.Deep.QuietTactic
import Derived.BigQuiet
import Derived.Laws.StructEq
import Derived.WalkMore
import Derived.LoopTactic
import Derived.Defers
import Derived.Recover
import Derived.WalkSmall
import Derived.Lib.AppendZeros
import Derived.Deep.OwnRows
import Derived.Lib.SliceRun
import Derived.Shelf.SlSortCmp.WholeK
import Derived.Shelf.SlSortCmp.NoneTotal
namespace Go.Proofs.YtofngihdnjgmeaaGreat
set_option maxRecDepth 100000
open Go.ChangeShapes Go.WideShapes Go.ChangeAt Go.RowKit

theorem ris_eq (n : Int) (r : Bool) (hr : isB n = r) (w : World) : Calls Tryz.prog 40 #[.int .i64 n] w fun e w' => e = .returned (.bool r) ∧ w = w' := by subst hr; exact ris_any n w
set_option maxHeartbeats 4000000 in
theorem rl5_any (a : Lk) (w : World) (r : Bool) (hr : rightL a = r) :
    Calls Tryz.prog 43 #[.agg (vals a.l).toArray] w fun e w' => e = .returned (.bool r) ∧ Below w.heap.size w w' := by
  have HK := Lib.hid (KeepR.start w)
  subst hr
  cases h0 : decide (0 ≤ a.s) with
  | false =>
    rw [show rightL a = false by rw [← Bool.not_eq_true, rightL_iff]; simp [] at h0; omega]
    go_enter Tryz.func43, Tryz.ntmps43
    go_wp2_with (first
      | (with_reducible refine box_new (R := a.l) HK.out rfl _ rfl rfl ?_; intro b u hk hb; clear hb; clear HK; have HK := Lib.hid hk; clear hk)
      | (with_reducible refine load_val_want HK.out 0 _ rfl rfl rfl rfl (Lk.g0 _) (Lk.p0 _) ?_)
      | (with_reducible refine load_val_want HK.out 0 _ rfl rfl rfl rfl (Lk.g1 _) (Lk.p1 _) ?_)
      | (with_reducible refine load_val_want HK.out 0 _ rfl rfl rfl rfl (Lk.g2 _) (Lk.p2 _) ?_)
      | (with_reducible refine load_val_want HK.out 0 _ rfl rfl rfl rfl (Lk.g3 _) (Lk.p3 _) ?_))
    go_ret
    exact ⟨rfl, HK.out.bel⟩
  | true =>
    cases h1 : isB a.s with
    | false =>
      rw [show rightL a = false by rw [← Bool.not_eq_true, rightL_iff]; simp [isB] at h1; omega]
      go_enter Tryz.func43, Tryz.ntmps43
      go_wp2_with (first
        | (with_reducible refine box_new (R := a.l) HK.out rfl _ rfl rfl ?_; intro b u hk hb; clear hb; clear HK; have HK := Lib.hid hk; clear hk)
        | (with_reducible refine load_val_want HK.out 0 _ rfl rfl rfl rfl (Lk.g0 _) (Lk.p0 _) ?_)
        | (with_reducible refine load_val_want HK.out 0 _ rfl rfl rfl rfl (Lk.g1 _) (Lk.p1 _) ?_)
        | (with_reducible refine load_val_want HK.out 0 _ rfl rfl rfl rfl (Lk.g2 _) (Lk.p2 _) ?_)
        | (with_reducible refine load_val_want HK.out 0 _ rfl rfl rfl rfl (Lk.g3 _) (Lk.p3 _) ?_)
        | (go_at_call 40; (with_reducible refine (ris_eq a.s _ h1 _).mono ?_); rintro e u ⟨rfl, rfl⟩))
      go_ret
      exact ⟨rfl, HK.out.bel⟩
    | true =>
      cases h2 : decide (0 ≤ a.v) with
      | false =>
        rw [show rightL a = false by rw [← Bool.not_eq_true, rightL_iff]; simp [] at h2; omega]
        go_enter Tryz.func43, Tryz.ntmps43
        go_wp2_with (first
          | (with_reducible refine box_new (R := a.l) HK.out rfl _ rfl rfl ?_; intro b u hk hb; clear hb; clear HK; have HK := Lib.hid hk; clear hk)
          | (with_reducible refine load_val_want HK.out 0 _ rfl rfl rfl rfl (Lk.g0 _) (Lk.p0 _) ?_)
          | (with_reducible refine load_val_want HK.out 0 _ rfl rfl rfl rfl (Lk.g1 _) (Lk.p1 _) ?_)
          | (with_reducible refine load_val_want HK.out 0 _ rfl rfl rfl rfl (Lk.g2 _) (Lk.p2 _) ?_)
          | (with_reducible refine load_val_want HK.out 0 _ rfl rfl rfl rfl (Lk.g3 _) (Lk.p3 _) ?_)
          | (go_at_call 40; (with_reducible refine (ris_eq a.s _ h1 _).mono ?_); rintro e u ⟨rfl, rfl⟩))
        go_ret
        exact ⟨rfl, HK.out.bel⟩
      | true =>
        cases h3 : isB a.v with
        | false =>
          rw [show rightL a = false by rw [← Bool.not_eq_true, rightL_iff]; simp [isB] at h3; omega]
          go_enter Tryz.func43, Tryz.ntmps43
          go_wp2_with (first
            | (with_reducible refine box_new (R := a.l) HK.out rfl _ rfl rfl ?_; intro b u hk hb; clear hb; clear HK; have HK := Lib.hid hk; clear hk)
            | (with_reducible refine load_val_want HK.out 0 _ rfl rfl rfl rfl (Lk.g0 _) (Lk.p0 _) ?_)
            | (with_reducible refine load_val_want HK.out 0 _ rfl rfl rfl rfl (Lk.g1 _) (Lk.p1 _) ?_)
            | (with_reducible refine load_val_want HK.out 0 _ rfl rfl rfl rfl (Lk.g2 _) (Lk.p2 _) ?_)
            | (with_reducible refine load_val_want HK.out 0 _ rfl rfl rfl rfl (Lk.g3 _) (Lk.p3 _) ?_)
            | (go_at_call 40; (with_reducible refine (ris_eq a.s _ h1 _).mono ?_); rintro e u ⟨rfl, rfl⟩)
            | (go_at_call 40; (with_reducible refine (ris_eq a.v _ h3 _).mono ?_); rintro e u ⟨rfl, rfl⟩))
          go_ret
          exact ⟨rfl, HK.out.bel⟩
        | true =>
          cases h4 : decide (0 ≤ a.h) with
          | false =>
            rw [show rightL a = false by rw [← Bool.not_eq_true, rightL_iff]; simp [] at h4; omega]
            go_enter Tryz.func43, Tryz.ntmps43
            go_wp2_with (first
              | (with_reducible refine box_new (R := a.l) HK.out rfl _ rfl rfl ?_; intro b u hk hb; clear hb; clear HK; have HK := Lib.hid hk; clear hk)
              | (with_reducible refine load_val_want HK.out 0 _ rfl rfl rfl rfl (Lk.g0 _) (Lk.p0 _) ?_)
              | (with_reducible refine load_val_want HK.out 0 _ rfl rfl rfl rfl (Lk.g1 _) (Lk.p1 _) ?_)
              | (with_reducible refine load_val_want HK.out 0 _ rfl rfl rfl rfl (Lk.g2 _) (Lk.p2 _) ?_)
              | (with_reducible refine load_val_want HK.out 0 _ rfl rfl rfl rfl (Lk.g3 _) (Lk.p3 _) ?_)
              | (go_at_call 40; (with_reducible refine (ris_eq a.s _ h1 _).mono ?_); rintro e u ⟨rfl, rfl⟩)
              | (go_at_call 40; (with_reducible refine (ris_eq a.v _ h3 _).mono ?_); rintro e u ⟨rfl, rfl⟩))
            go_ret
            exact ⟨rfl, HK.out.bel⟩
          | true =>
            cases h5 : decide (a.h ≤ 15) with
            | false =>
              rw [show rightL a = false by rw [← Bool.not_eq_true, rightL_iff]; simp [] at h5; omega]
              go_enter Tryz.func43, Tryz.ntmps43
              go_wp2_with (first
                | (with_reducible refine box_new (R := a.l) HK.out rfl _ rfl rfl ?_; intro b u hk hb; clear hb; clear HK; have HK := Lib.hid hk; clear hk)
                | (with_reducible refine load_val_want HK.out 0 _ rfl rfl rfl rfl (Lk.g0 _) (Lk.p0 _) ?_)
                | (with_reducible refine load_val_want HK.out 0 _ rfl rfl rfl rfl (Lk.g1 _) (Lk.p1 _) ?_)
                | (with_reducible refine load_val_want HK.out 0 _ rfl rfl rfl rfl (Lk.g2 _) (Lk.p2 _) ?_)
                | (with_reducible refine load_val_want HK.out 0 _ rfl rfl rfl rfl (Lk.g3 _) (Lk.p3 _) ?_)
                | (go_at_call 40; (with_reducible refine (ris_eq a.s _ h1 _).mono ?_); rintro e u ⟨rfl, rfl⟩)
                | (go_at_call 40; (with_reducible refine (ris_eq a.v _ h3 _).mono ?_); rintro e u ⟨rfl, rfl⟩))
              go_ret
              exact ⟨rfl, HK.out.bel⟩
            | true =>
              rw [show rightL a = isB a.x by rw [Bool.eq_iff_iff, rightL_iff, isB_iff]; simp [isB] at h0 h1 h2 h3 h4 h5; omega]
              go_enter Tryz.func43, Tryz.ntmps43
              go_wp2_with (first
                | (with_reducible refine box_new (R := a.l) HK.out rfl _ rfl rfl ?_; intro b u hk hb; clear hb; clear HK; have HK := Lib.hid hk; clear hk)
                | (with_reducible refine load_val_want HK.out 0 _ rfl rfl rfl rfl (Lk.g0 _) (Lk.p0 _) ?_)
                | (with_reducible refine load_val_want HK.out 0 _ rfl rfl rfl rfl (Lk.g1 _) (Lk.p1 _) ?_)
                | (with_reducible refine load_val_want HK.out 0 _ rfl rfl rfl rfl (Lk.g2 _) (Lk.p2 _) ?_)
                | (with_reducible refine load_val_want HK.out 0 _ rfl rfl rfl rfl (Lk.g3 _) (Lk.p3 _) ?_)
                | (go_at_call 40; (with_reducible refine (ris_eq a.s _ h1 _).mono ?_); rintro e u ⟨rfl, rfl⟩)
                | (go_at_call 40; (with_reducible refine (ris_eq a.v _ h3 _).mono ?_); rintro e u ⟨rfl, rfl⟩)
                | (go_at_call 40; (with_reducible refine (ris_any _ _).mono ?_); rintro e u ⟨rfl, rfl⟩))
              go_ret
              exact ⟨rfl, HK.out.bel⟩
set_option maxHeartbeats 4000000 in
theorem rright_any7 (f : Fd) (hf : f.full) (hN : f.nm.size ≤ 1000) (hs : List Ho) (w : World) (hd : Row w f.A f.n hs) (r : Bool) (hr : rightF f hs = r) :
    Calls Tryz.prog 16 #[.agg f.cells.toArray] w fun e w' => e = .returned (.bool r) ∧ Below w.heap.size w w' := by
  have HK := Lib.hid (KeepF.start (w := w) (rows := [(f.A, f.n, hs)]) (by simpa using hd))
  have HF := Lib.hid hf; clear hf
  have HC := Lib.hid (c_infoF HF.out)
  subst hr
  have hnm := rfname_any f.nm hN
  cases h1 : nameB f.nm with
  | false =>
    rw [h1] at hnm
    rw [show rightF f hs = false by simp [rightF, h1]]
    go_enter Tryz.func16, Tryz.ntmps16
    go_wp2_with (first
      | (with_reducible refine box_f HK.out rfl _ rfl rfl ?_; intro b u hk; clear HK; have HK := Lib.hid hk; clear hk)
      | (with_reducible refine load_f1 HK.out 0 cbS _ rfl rfl rfl rfl (Fd.c0 f) ?_)
      | (go_at_call 39; (with_reducible refine (hnm _).mono ?_); rintro e u ⟨rfl, hb⟩; have hk := HK.out.call hb; clear hb; clear HK; have HK := Lib.hid hk; clear hk))
    go_ret
    exact ⟨rfl, HK.out.bel⟩
  | true =>
    rw [h1] at hnm
    by_cases h2 : 0 ≤ f.e
    rotate_left
    · rw [show rightF f hs = false by simp [rightF, epB, h2]]
      have h2' : decide (f.e < 0) = true := by rw [decide_eq_true_eq]; omega
      go_enter Tryz.func16, Tryz.ntmps16
      go_wp2_with (first
        | (with_reducible refine box_f HK.out rfl _ rfl rfl ?_; intro b u hk; clear HK; have HK := Lib.hid hk; clear hk)
        | (with_reducible refine load_f1 HK.out 0 cbS _ rfl rfl rfl rfl (Fd.c0 f) ?_)
        | (with_reducible refine load_f1 HK.out 0 cbI _ rfl rfl rfl rfl (Fd.c2 f) ?_)
        | (go_at_call 39; (with_reducible refine (hnm _).mono ?_); rintro e u ⟨rfl, hb⟩; have hk := HK.out.call hb; clear hb; clear HK; have HK := Lib.hid hk; clear hk))
      go_ret
      exact ⟨rfl, HK.out.bel⟩
    · have h2' : decide (f.e < 0) = false := by rw [decide_eq_false_iff_not]; omega
      cases h3 : isB f.e with
      | false =>
        rw [show rightF f hs = false by simp [rightF, epB, h3]]
        go_enter Tryz.func16, Tryz.ntmps16
        go_wp2_with (first
          | (with_reducible refine box_f HK.out rfl _ rfl rfl ?_; intro b u hk; clear HK; have HK := Lib.hid hk; clear hk)
          | (with_reducible refine load_f1 HK.out 0 cbS _ rfl rfl rfl rfl (Fd.c0 f) ?_)
          | (with_reducible refine load_f1 HK.out 0 cbI _ rfl rfl rfl rfl (Fd.c2 f) ?_)
          | (go_at_call 39; (with_reducible refine (hnm _).mono ?_); rintro e u ⟨rfl, hb⟩; have hk := HK.out.call hb; clear hb; clear HK; have HK := Lib.hid hk; clear hk)
          | (go_at_call 40; (with_reducible refine (ris_eq _ _ h3 _).mono ?_); rintro e u ⟨rfl, rfl⟩))
        go_ret
        exact ⟨rfl, HK.out.bel⟩
      | true =>
        have hcH := Fd.cH HF.out
        by_cases k1 : f.k = 1
        · have hk1 : f.cells[1]? = some (.int .i64 1) := by rw [Fd.c1, k1]
          have hl0 : rlB f = false := by simp [rlB, k1]
          have hcl := rcright_any f.C HF.out
          cases h4 : rightC f.C with
          | false =>
            rw [h4] at hcl
            rw [show rightF f hs = false by simp [rightF, hl0, rcB, h4]]
            go_enter Tryz.func16, Tryz.ntmps16
            go_wp2_with (first
              | (with_reducible refine box_f HK.out rfl _ rfl rfl ?_; intro b u hk; clear HK; have HK := Lib.hid hk; clear hk)
              | (with_reducible refine load_f1 HK.out 0 cbS _ rfl rfl rfl rfl (Fd.c0 f) ?_)
              | (with_reducible refine load_f1 HK.out 0 cbI _ rfl rfl rfl rfl (Fd.c2 f) ?_)
              | (go_at_call 39; (with_reducible refine (hnm _).mono ?_); rintro e u ⟨rfl, hb⟩; have hk := HK.out.call hb; clear hb; clear HK; have HK := Lib.hid hk; clear hk)
              | (with_reducible refine load_f1 HK.out 0 cbI _ rfl rfl rfl rfl hk1 ?_)
              | (with_reducible refine load_fr HK.out 0 Tryz.underlying28 rfl HC.out _ rfl rfl rfl rfl (Fd.cC f) ?_)
              | (go_at_call 40; (with_reducible refine (ris_eq _ _ h3 _).mono ?_); rintro e u ⟨rfl, rfl⟩)
              | (go_at_call 41; (with_reducible refine (hcl _).mono ?_); rintro e u ⟨rfl, hb⟩; have hk := HK.out.call hb; clear hb; clear HK; have HK := Lib.hid hk; clear hk))
            go_ret
            exact ⟨rfl, HK.out.bel⟩
          | true =>
            rw [h4] at hcl
            have hrt := rrights_any f.A f.n f.c hs
            cases h5 : rightsL hs with
            | false =>
              rw [h5] at hrt
              rw [show rightF f hs = false by simp [rightF, hl0, rcB, h5]]
              go_enter Tryz.func16, Tryz.ntmps16
              go_wp2_with (first
                | (with_reducible refine box_f HK.out rfl _ rfl rfl ?_; intro b u hk; clear HK; have HK := Lib.hid hk; clear hk)
                | (with_reducible refine load_f1 HK.out 0 cbS _ rfl rfl rfl rfl (Fd.c0 f) ?_)
                | (with_reducible refine load_f1 HK.out 0 cbI _ rfl rfl rfl rfl (Fd.c2 f) ?_)
                | (go_at_call 39; (with_reducible refine (hnm _).mono ?_); rintro e u ⟨rfl, hb⟩; have hk := HK.out.call hb; clear hb; clear HK; have HK := Lib.hid hk; clear hk)
                | (with_reducible refine load_f1 HK.out 0 cbI _ rfl rfl rfl rfl hk1 ?_)
                | (with_reducible refine load_fr HK.out 0 Tryz.underlying28 rfl HC.out _ rfl rfl rfl rfl (Fd.cC f) ?_)
                | (with_reducible refine load_f1 HK.out 0 cbH _ rfl rfl rfl rfl (Fd.cH HF.out) ?_)
                | (go_at_call 40; (with_reducible refine (ris_eq _ _ h3 _).mono ?_); rintro e u ⟨rfl, rfl⟩)
                | (go_at_call 41; (with_reducible refine (hcl _).mono ?_); rintro e u ⟨rfl, hb⟩; have hk := HK.out.call hb; clear hb; clear HK; have HK := Lib.hid hk; clear hk)
                | (go_at_call 42; (with_reducible refine (hrt _ (HK.out.rowAt 0 rfl)).mono ?_); rintro e u ⟨rfl, hb⟩; have hk := HK.out.call hb; clear hb; clear HK; have HK := Lib.hid hk; clear hk))
              go_ret
              exact ⟨rfl, HK.out.bel⟩
            | true =>
              rw [h5] at hrt
              rw [show rightF f hs = (f.L.l == zL.l) by simp [rightF, epB, h1, h2, h3, hl0, rcB, k1, h4, h5]]
              have HQ := Lib.hid (eql_lk f.L zL)
              generalize (f.L.l == zL.l) = r at HQ ⊢
              go_enter Tryz.func16, Tryz.ntmps16
              go_wp2_with (first
                | (with_reducible refine box_f HK.out rfl _ rfl rfl ?_; intro b u hk; clear HK; have HK := Lib.hid hk; clear hk)
                | (with_reducible refine load_f1 HK.out 0 cbS _ rfl rfl rfl rfl (Fd.c0 f) ?_)
                | (with_reducible refine load_f1 HK.out 0 cbI _ rfl rfl rfl rfl (Fd.c2 f) ?_)
                | (go_at_call 39; (with_reducible refine (hnm _).mono ?_); rintro e u ⟨rfl, hb⟩; have hk := HK.out.call hb; clear hb; clear HK; have HK := Lib.hid hk; clear hk)
                | (with_reducible refine load_f1 HK.out 0 cbI _ rfl rfl rfl rfl hk1 ?_)
                | (with_reducible refine load_fr HK.out 0 Tryz.underlying28 rfl HC.out _ rfl rfl rfl rfl (Fd.cC f) ?_)
                | (with_reducible refine load_f1 HK.out 0 cbH _ rfl rfl rfl rfl (Fd.cH HF.out) ?_)
                | (with_reducible refine load_fr HK.out 0 Tryz.underlying30 rfl (l_infoF f.L) _ rfl rfl rfl rfl (Fd.cL HF.out) ?_)
                | (with_reducible refine build_fw l_buildF rfl rfl ?_)
                | (with_reducible refine eql_fw lk_guard HQ.out _ _ _ rfl rfl rfl rfl ?_)
                | (go_at_call 40; (with_reducible refine (ris_eq _ _ h3 _).mono ?_); rintro e u ⟨rfl, rfl⟩)
                | (go_at_call 41; (with_reducible refine (hcl _).mono ?_); rintro e u ⟨rfl, hb⟩; have hk := HK.out.call hb; clear hb; clear HK; have HK := Lib.hid hk; clear hk)
                | (go_at_call 42; (with_reducible refine (hrt _ (HK.out.rowAt 0 rfl)).mono ?_); rintro e u ⟨rfl, hb⟩; have hk := HK.out.call hb; clear hb; clear HK; have HK := Lib.hid hk; clear hk))
              go_ret
              exact ⟨rfl, HK.out.bel⟩
        · have hc0 : rcB f hs = false := by simp [rcB, k1]
          by_cases k2 : f.k = 2
          · have hk1 : f.cells[1]? = some (.int .i64 2) := by rw [Fd.c1, k2]
            cases h4 : rightL f.L with
            | false =>
              have hlr := fun w => rl5_any f.L w _ h4
              rw [show rightF f hs = false by simp [rightF, hc0, rlB, h4]]
              go_enter Tryz.func16, Tryz.ntmps16
              go_wp2_with (first
                | (with_reducible refine box_f HK.out rfl _ rfl rfl ?_; intro b u hk; clear HK; have HK := Lib.hid hk; clear hk)
                | (with_reducible refine load_f1 HK.out 0 cbS _ rfl rfl rfl rfl (Fd.c0 f) ?_)
                | (with_reducible refine load_f1 HK.out 0 cbI _ rfl rfl rfl rfl (Fd.c2 f) ?_)
                | (go_at_call 39; (with_reducible refine (hnm _).mono ?_); rintro e u ⟨rfl, hb⟩; have hk := HK.out.call hb; clear hb; clear HK; have HK := Lib.hid hk; clear hk)
                | (with_reducible refine load_f1 HK.out 0 cbI _ rfl rfl rfl rfl hk1 ?_)
                | (with_reducible refine load_fr HK.out 0 Tryz.underlying30 rfl (l_infoF f.L) _ rfl rfl rfl rfl (Fd.cL HF.out) ?_)
                | (go_at_call 40; (with_reducible refine (ris_eq _ _ h3 _).mono ?_); rintro e u ⟨rfl, rfl⟩)
                | (go_at_call 43; (with_reducible refine (hlr _).mono ?_); rintro e u ⟨rfl, hb⟩; have hk := HK.out.call hb; clear hb; clear HK; have HK := Lib.hid hk; clear hk))
              go_ret
              exact ⟨rfl, HK.out.bel⟩
            | true =>
              have hlr := fun w => rl5_any f.L w _ h4
              by_cases h5 : f.n = 0
              · rw [show rightF f hs = (f.C == zer 579) by simp [rightF, epB, h1, h2, h3, hc0, rlB, k2, h4, h5]]
                rw [h5] at hcH
                have HQ := Lib.hid (eql_c f.C (zer 579) HF.out (zer_length 579))
                generalize (f.C == zer 579) = r at HQ ⊢
                go_enter Tryz.func16, Tryz.ntmps16
                go_wp2_with (first
                  | (with_reducible refine box_f HK.out rfl _ rfl rfl ?_; intro b u hk; clear HK; have HK := Lib.hid hk; clear hk)
                  | (with_reducible refine load_f1 HK.out 0 cbS _ rfl rfl rfl rfl (Fd.c0 f) ?_)
                  | (with_reducible refine load_f1 HK.out 0 cbI _ rfl rfl rfl rfl (Fd.c2 f) ?_)
                  | (go_at_call 39; (with_reducible refine (hnm _).mono ?_); rintro e u ⟨rfl, hb⟩; have hk := HK.out.call hb; clear hb; clear HK; have HK := Lib.hid hk; clear hk)
                  | (with_reducible refine load_f1 HK.out 0 cbI _ rfl rfl rfl rfl hk1 ?_)
                  | (with_reducible refine load_fr HK.out 0 Tryz.underlying30 rfl (l_infoF f.L) _ rfl rfl rfl rfl (Fd.cL HF.out) ?_)
                  | (with_reducible refine load_f1 HK.out 0 cbH _ rfl rfl rfl rfl hcH ?_)
                  | (with_reducible refine load_fr HK.out 0 Tryz.underlying28 rfl HC.out _ rfl rfl rfl rfl (Fd.cC f) ?_)
                  | (with_reducible refine build_fw c_build rfl rfl ?_)
                  | (with_reducible refine eql_fw c_guardF HQ.out _ _ _ rfl rfl rfl rfl ?_)
                  | (go_at_call 40; (with_reducible refine (ris_eq _ _ h3 _).mono ?_); rintro e u ⟨rfl, rfl⟩)
                  | (go_at_call 43; (with_reducible refine (hlr _).mono ?_); rintro e u ⟨rfl, hb⟩; have hk := HK.out.call hb; clear hb; clear HK; have HK := Lib.hid hk; clear hk))
                go_ret
                exact ⟨rfl, HK.out.bel⟩
              · rw [show rightF f hs = false by simp [rightF, hc0, rlB, h5]]
                have h5' : ((f.n : Int) == 0) = false := by rw [beq_eq_false_iff_ne]; omega
                generalize f.n = n at h5 h5' hcH HK
                go_enter Tryz.func16, Tryz.ntmps16
                go_wp2_with (first
                  | (with_reducible refine box_f HK.out rfl _ rfl rfl ?_; intro b u hk; clear HK; have HK := Lib.hid hk; clear hk)
                  | (with_reducible refine load_f1 HK.out 0 cbS _ rfl rfl rfl rfl (Fd.c0 f) ?_)
                  | (with_reducible refine load_f1 HK.out 0 cbI _ rfl rfl rfl rfl (Fd.c2 f) ?_)
                  | (go_at_call 39; (with_reducible refine (hnm _).mono ?_); rintro e u ⟨rfl, hb⟩; have hk := HK.out.call hb; clear hb; clear HK; have HK := Lib.hid hk; clear hk)
                  | (with_reducible refine load_f1 HK.out 0 cbI _ rfl rfl rfl rfl hk1 ?_)
                  | (with_reducible refine load_fr HK.out 0 Tryz.underlying30 rfl (l_infoF f.L) _ rfl rfl rfl rfl (Fd.cL HF.out) ?_)
                  | (with_reducible refine load_f1 HK.out 0 cbH _ rfl rfl rfl rfl hcH ?_)
                  | (go_at_call 40; (with_reducible refine (ris_eq _ _ h3 _).mono ?_); rintro e u ⟨rfl, rfl⟩)
                  | (go_at_call 43; (with_reducible refine (hlr _).mono ?_); rintro e u ⟨rfl, hb⟩; have hk := HK.out.call hb; clear hb; clear HK; have HK := Lib.hid hk; clear hk))
                go_ret
                exact ⟨rfl, HK.out.bel⟩
          · have hk1 := Fd.c1 f
            rw [show rightF f hs = false by simp [rightF, hc0, rlB, k2]]
            generalize f.k = K at k1 k2 hk1
            go_enter Tryz.func16, Tryz.ntmps16
            go_wp2_with (first
              | (with_reducible refine box_f HK.out rfl _ rfl rfl ?_; intro b u hk; clear HK; have HK := Lib.hid hk; clear hk)
              | (with_reducible refine load_f1 HK.out 0 cbS _ rfl rfl rfl rfl (Fd.c0 f) ?_)
              | (with_reducible refine load_f1 HK.out 0 cbI _ rfl rfl rfl rfl (Fd.c2 f) ?_)
              | (go_at_call 39; (with_reducible refine (hnm _).mono ?_); rintro e u ⟨rfl, hb⟩; have hk := HK.out.call hb; clear hb; clear HK; have HK := Lib.hid hk; clear hk)
              | (with_reducible refine load_f1 HK.out 0 cbI _ rfl rfl rfl rfl hk1 ?_)
              | (go_at_call 40; (with_reducible refine (ris_eq _ _ h3 _).mono ?_); rintro e u ⟨rfl, rfl⟩))
            go_ret
            exact ⟨rfl, HK.out.bel⟩
end Go.Proofs.YtofngihdnjgmeaaGreat
