/- usufructlaw10.WireMeets returns true for every input: the format that two can say is the less one, or none; it hangs on no order. No condition. -/
import Derived.Test.YtofngihdnjgmeaaLWj
import Derived.WalkKit
import Derived.ProofKit
import Derived.OpenShut
import Derived.ChangeOld
import Derived.Below
namespace Go.Proofs.Ytofngihdnjgmeaa.wireMeets
open Go.ChangeShapes Go.WideShapes Go.ChangeAt Go.RowKit
set_option linter.unusedVariables false

theorem own : ownKnob Try.prog.godebug = none := by kernel_rfl
theorem laidOut : laidOutB Try.prog = true := by kernel_rfl

set_option maxRecDepth 100000 in
set_option maxHeartbeats 4000000 in
theorem walk (w : World) (a0 : Int) (w0 : (Lit.int .i64 a0).wf = true) (a1 : Int) (w1 : (Lit.int .i64 a1).wf = true) :
    Calls Try.prog 5 #[.int .i64 a0, .int .i64 a1] w fun e w' => e = .returned (.bool true) ∧ Below w.heap.size w w' := by
  have HB := Lib.hid (Below.refl w.heap.size w)
  have hm1 := fun w => meet_any a0 a1 w0 w1 w
  have hm2 := fun w => meet_any a1 a0 w1 w0 w
  clear w0 w1
  by_cases hy : (1 ≤ a0 ∧ a0 ≤ 3) ∧ 1 ≤ a1 ∧ a1 ≤ 3
  · have hva : verB a0 = true := by simp [verB]; omega
    have hvb : verB a1 = true := by simp [verB]; omega
    rw [show meetN a0 a1 = min a0 a1 by simp [meetN, hva, hvb]] at hm1
    rw [show meetN a1 a0 = min a0 a1 by simp [meetN, hva, hvb, Int.min_comm]] at hm2
    have G0 := Lib.hid (show decide (1 ≤ a0) = true by simp; omega)
    have L0 := Lib.hid (show decide (a0 ≤ 3) = true by simp; omega)
    have G1 := Lib.hid (show decide (1 ≤ a1) = true by simp; omega)
    have L1 := Lib.hid (show decide (a1 ≤ 3) = true by simp; omega)
    clear hva hvb
    go_enter Try.func5, Try.ntmps5
    go_wp2_with (first
      | (go_at_call 14; (with_reducible refine (hm1 _).mono ?_); rintro e u ⟨rfl, hb⟩; have HB := Lib.hid (HB.out.trans (hb.mono HB.out.size)); clear hb)
      | (go_at_call 14; (with_reducible refine (hm2 _).mono ?_); rintro e u ⟨rfl, hb⟩; have HB := Lib.hid (HB.out.trans (hb.mono HB.out.size)); clear hb)
      | (with_reducible refine geq_want G0.out _ _ _ rfl rfl rfl rfl ?_)
      | (with_reducible refine leq_want L0.out _ _ _ rfl rfl rfl rfl ?_)
      | (with_reducible refine geq_want G1.out _ _ _ rfl rfl rfl rfl ?_)
      | (with_reducible refine leq_want L1.out _ _ _ rfl rfl rfl rfl ?_)
      | (go_at_call 8; (with_reducible refine (awake_any _).mono ?_); rintro e u ⟨rfl, hb⟩; have HB := Lib.hid (HB.out.trans (hb.mono HB.out.size)); clear hb))
    go_ret
    exact ⟨rfl, HB.out⟩
  · have hn : ¬ (verB a0 = true ∧ verB a1 = true) := by simp [verB]; omega
    rw [show meetN a0 a1 = 0 by rw [meetN, if_neg hn]] at hm1
    rw [show meetN a1 a0 = 0 by rw [meetN, if_neg (fun h => hn ⟨h.2, h.1⟩)]] at hm2
    have hva := True.intro; have hvb := True.intro
    by_cases g0 : 1 ≤ a0
    · by_cases l0 : a0 ≤ 3
      · by_cases g1 : 1 ≤ a1
        · have l1 : ¬ a1 ≤ 3 := by omega
          have G0 := Lib.hid (show decide (1 ≤ a0) = true by simp; omega)
          have L0 := Lib.hid (show decide (a0 ≤ 3) = true by simp; omega)
          have G1 := Lib.hid (show decide (1 ≤ a1) = true by simp; omega)
          have L1 := Lib.hid (show decide (a1 ≤ 3) = false by simp; omega)
          clear hva hvb
          go_enter Try.func5, Try.ntmps5
          go_wp2_with (first
            | (go_at_call 14; (with_reducible refine (hm1 _).mono ?_); rintro e u ⟨rfl, hb⟩; have HB := Lib.hid (HB.out.trans (hb.mono HB.out.size)); clear hb)
            | (go_at_call 14; (with_reducible refine (hm2 _).mono ?_); rintro e u ⟨rfl, hb⟩; have HB := Lib.hid (HB.out.trans (hb.mono HB.out.size)); clear hb)
            | (with_reducible refine geq_want G0.out _ _ _ rfl rfl rfl rfl ?_)
            | (with_reducible refine leq_want L0.out _ _ _ rfl rfl rfl rfl ?_)
            | (with_reducible refine geq_want G1.out _ _ _ rfl rfl rfl rfl ?_)
            | (with_reducible refine leq_want L1.out _ _ _ rfl rfl rfl rfl ?_)
            | (go_at_call 8; (with_reducible refine (awake_any _).mono ?_); rintro e u ⟨rfl, hb⟩; have HB := Lib.hid (HB.out.trans (hb.mono HB.out.size)); clear hb))
          go_ret
          exact ⟨rfl, HB.out⟩
        · have HX := True.intro
          have G0 := Lib.hid (show decide (1 ≤ a0) = true by simp; omega)
          have L0 := Lib.hid (show decide (a0 ≤ 3) = true by simp; omega)
          have G1 := Lib.hid (show decide (1 ≤ a1) = false by simp; omega)
          clear hva hvb
          go_enter Try.func5, Try.ntmps5
          go_wp2_with (first
            | (go_at_call 14; (with_reducible refine (hm1 _).mono ?_); rintro e u ⟨rfl, hb⟩; have HB := Lib.hid (HB.out.trans (hb.mono HB.out.size)); clear hb)
            | (go_at_call 14; (with_reducible refine (hm2 _).mono ?_); rintro e u ⟨rfl, hb⟩; have HB := Lib.hid (HB.out.trans (hb.mono HB.out.size)); clear hb)
            | (with_reducible refine geq_want G0.out _ _ _ rfl rfl rfl rfl ?_)
            | (with_reducible refine leq_want L0.out _ _ _ rfl rfl rfl rfl ?_)
            | (with_reducible refine geq_want G1.out _ _ _ rfl rfl rfl rfl ?_)
            | (go_at_call 8; (with_reducible refine (awake_any _).mono ?_); rintro e u ⟨rfl, hb⟩; have HB := Lib.hid (HB.out.trans (hb.mono HB.out.size)); clear hb))
          go_ret
          exact ⟨rfl, HB.out⟩
      · have HX := True.intro
        have G0 := Lib.hid (show decide (1 ≤ a0) = true by simp; omega)
        have L0 := Lib.hid (show decide (a0 ≤ 3) = false by simp; omega)
        clear hva hvb
        go_enter Try.func5, Try.ntmps5
        go_wp2_with (first
          | (go_at_call 14; (with_reducible refine (hm1 _).mono ?_); rintro e u ⟨rfl, hb⟩; have HB := Lib.hid (HB.out.trans (hb.mono HB.out.size)); clear hb)
          | (go_at_call 14; (with_reducible refine (hm2 _).mono ?_); rintro e u ⟨rfl, hb⟩; have HB := Lib.hid (HB.out.trans (hb.mono HB.out.size)); clear hb)
          | (with_reducible refine geq_want G0.out _ _ _ rfl rfl rfl rfl ?_)
          | (with_reducible refine leq_want L0.out _ _ _ rfl rfl rfl rfl ?_)
          | (go_at_call 8; (with_reducible refine (awake_any _).mono ?_); rintro e u ⟨rfl, hb⟩; have HB := Lib.hid (HB.out.trans (hb.mono HB.out.size)); clear hb))
        go_ret
        exact ⟨rfl, HB.out⟩
    · have HX := True.intro
      have G0 := Lib.hid (show decide (1 ≤ a0) = false by simp; omega)
      clear hva hvb
      go_enter Try.func5, Try.ntmps5
      go_wp2_with (first
        | (go_at_call 14; (with_reducible refine (hm1 _).mono ?_); rintro e u ⟨rfl, hb⟩; have HB := Lib.hid (HB.out.trans (hb.mono HB.out.size)); clear hb)
        | (go_at_call 14; (with_reducible refine (hm2 _).mono ?_); rintro e u ⟨rfl, hb⟩; have HB := Lib.hid (HB.out.trans (hb.mono HB.out.size)); clear hb)
        | (with_reducible refine geq_want G0.out _ _ _ rfl rfl rfl rfl ?_)
        | (go_at_call 8; (with_reducible refine (awake_any _).mono ?_); rintro e u ⟨rfl, hb⟩; have HB := Lib.hid (HB.out.trans (hb.mono HB.out.size)); clear hb))
      go_ret
      exact ⟨rfl, HB.out⟩

set_option maxRecDepth 100000 in
theorem lifted (os : Os) (started : os.Started) (H : Type) (enc : TypeId × Value → H) :
    ReturnsInHanded {} Try.checked os 5 .any (Rows.wireMeetsSpec.pre6 enc Try.prog Try.f5 Rows.wireMeetsRow.domain false) (Rows.wireMeetsSpec.post enc Try.prog Try.f5 false true false false) := by
  refine returnsInHanded_of_change (C := Try.checked) own started (by kernel_rfl) Try.func5
    (ChangeSpec.witness6 (enc := enc) (C := Try.checked) false ⟨#[], #[.int .i64 0, .int .i64 0], []⟩ 12 (by kernel_rfl) (by kernel_rfl) (by kernel_rfl) (by kernel_rfl)) ?_
  intro W base args ds gs before hval0 hW hcnd _
  have hval : ∀ (j : Nat) t v, Try.f5.params[j]? = some t → args[j]? = some v → Value.okWide Try.prog W .any base t v := hval0
  have hW' := hW
  obtain ⟨p, q, hA0, hV, rfl, hfz, hnd⟩ := hW
  have hA : DataW.TrodAll enc Try.prog W 0 (fun _ => true) true Try.f5.params.toList args.toList ds p := hA0
  rw [Try.params5] at hA hval
  obtain ⟨v0, vs0, d0, ds0, q0, r0, hargs, rfl, rfl, h0, t0⟩ := trodAll_cons hA
  obtain ⟨v1, vs1, d1, ds1, q1, r1, rfl, rfl, rfl, h1, t1⟩ := trodAll_cons t0
  obtain ⟨rfl, rfl, rfl⟩ := trodAll_nil t1
  obtain rfl : args = #[v0, v1] := by cases args; simp_all
  obtain ⟨rfl, rfl⟩ := trodVars_none hV
  have k0 := h0
  have lt0 : ∀ x ∈ q0, x.block < W.heap.size := by obtain ⟨m, hm⟩ := k0; exact DataW.trod_lt m _ _ _ hm
  obtain ⟨a0, rfl, rfl, rfl, w0⟩ := open_int Try.underlying3 (hval 0 3 v0 rfl rfl) h0
  have k1 := h1
  have lt1 : ∀ x ∈ q1, x.block < W.heap.size := by obtain ⟨m, hm⟩ := k1; exact DataW.trod_lt m _ _ _ hm
  obtain ⟨a1, rfl, rfl, rfl, w1⟩ := open_int Try.underlying3 (hval 1 3 v1 rfl rfl) h1
  clear hA0 hval0
  refine (walk W a0 w0 a1 w1).mono fun e W' ⟨he, bel⟩ => ?_
  subst he
  exact ⟨_, rfl, _, _, _, [], _, [], hW', trodAll_mk1 (shut_bool Try.underlying4 _), (trodAll_cons_mk (Below.trod laidOut (by kernel_rfl) (of_decide_eq_true (by kernel_rfl)) k0 bel lt0) (trodAll_cons_mk (Below.trod laidOut (by kernel_rfl) (of_decide_eq_true (by kernel_rfl)) k1 bel lt1) trodAll_mk0)), rfl, bel.frame _, fun h => by cases h⟩

theorem over : Rows.wireMeetsRow.holds Try.pinned (OpenSpec.ofChange Rows.wireMeetsSpec) :=
  OpenClaim.holds_of_wide 5 Try.f5 rfl rfl rfl rfl rfl rfl rfl ⟨rfl, rfl, rfl, rfl, rfl⟩ rfl rfl rfl rfl rfl (by kernel_rfl) Try.func5 (by kernel_rfl)
    (of_decide_eq_true (by kernel_rfl)) (by unfold Func.isWrapper; first | (rw [if_pos (by decide +kernel)]; kernel_rfl) | (rw [if_neg (by decide +kernel)]; exact ⟨rfl, rfl⟩))
    (fun os started H enc _ => lifted os started H enc)

theorem proved : Rows.WireMeetsSaid := over
#print axioms proved
end Go.Proofs.Ytofngihdnjgmeaa.wireMeets
