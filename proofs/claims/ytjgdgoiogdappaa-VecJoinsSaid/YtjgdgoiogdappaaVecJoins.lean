/- vec.Join, vec.Over and vec.Right are the document's: VecJoins returns true for every two vectors. No condition. -/
import Derived.Test.YtjgdgoiogdappaaVecLaw
import Derived.Test.YtjgdgoiogdappaaRefVec
import Derived.WalkKit
import Derived.ProofKit
import Derived.OpenShut
import Derived.ChangeOld
import Derived.Below
namespace Go.Proofs.Ytjgdgoiogdappaa.vecJoins
open Go.ChangeShapes Go.WideShapes Go.ChangeAt Go.RowKit
set_option linter.unusedVariables false

theorem own : ownKnob Try.prog.godebug = none := by kernel_rfl
theorem laidOut : laidOutB Try.prog = true := by kernel_rfl

theorem walk (x0 : List Int) (l0 : x0.length = 16) (r0 : ∀ z ∈ x0, (Lit.int .i64 z).wf = true) (x1 : List Int) (l1 : x1.length = 16) (r1 : ∀ z ∈ x1, (Lit.int .i64 z).wf = true) (w : World) :
    Calls Try.prog 3 #[.agg (vals x0).toArray, .agg (vals x1).toArray] w fun e w' => e = .returned (.bool true) ∧ Below w.heap.size w w' := by
  have heq := awake_eq (joinL x0 x1) (joinL_length l0 l1)
  have hge : Try.prog.eqGuardType Try.prog.depth 23 = false := by kernel_rfl
  have HX := Lib.hid l0; have HY := Lib.hid l1
  clear l0 l1 r0 r1
  have H0 := Lib.hid (Two.start w 23 x0 x1)
  haveI : Nonempty (Kept fun u => Two w x0 x1 u) := ⟨⟨_, H0.out⟩⟩
  go_enter Try.func3, Try.ntmps3
  go_wp2_with fail
  refine region_calm (S := fun u => Two w x0 x1 u) H0.out.drew (by kernel_rfl) (by kernel_rfl) ?_
  repeat (first
    | go_big_quiet_skip
    | (go_big_quiet_want
       first
         | (refine quiet_load_vec _ rfl _ rfl x0 (fun _ ⟨s, hs⟩ => hs ▸ s.ok.1) HX.out ?_; simp only [Act.put, List.setIfInBounds_toArray, List.set_cons_zero, List.set_cons_succ]; go_big_quiet_on)
         | (refine quiet_load_vec _ rfl _ rfl x1 (fun _ ⟨s, hs⟩ => hs ▸ s.ok.2.1) HY.out ?_; simp only [Act.put, List.setIfInBounds_toArray, List.set_cons_zero, List.set_cons_succ]; go_big_quiet_on)
         | (go_big_quiet_op; go_big_quiet_on)
         | (go_big_quiet_op; go_big_quiet_call ((first
            | (go_at_call 9; exact calls_calm (fun h hb => Two.call h hb) (join_any _ _ HX.out HY.out _))
            | (go_at_call 10; exact calls_calm (fun h hb => Two.call h hb) (rjoin_any _ _ HX.out HY.out _))
            | (go_at_call 11; exact calls_calm (fun h hb => Two.call h hb) (over_any _ _ HX.out HY.out _))
            | (go_at_call 12; exact calls_calm (fun h hb => Two.call h hb) (rover_any _ _ HX.out HY.out _))
            | (go_at_call 13; exact calls_calm (fun h hb => Two.call h hb) (right_any _ HX.out _))
            | (go_at_call 14; exact calls_calm (fun h hb => Two.call h hb) (rright_any _ HX.out _))
            | (go_at_call 15; exact calls_calm (fun h hb => Two.call h hb) (awake_any _)))))))
  refine wpQuiet_nil ?_
  rintro _ ⟨⟨W, hW⟩, rfl⟩
  have HW := Lib.hid hW; clear hW
  go_wp2
  go_ret
  exact ⟨rfl, HW.out.2.2.1⟩

set_option maxRecDepth 100000 in
theorem lifted (os : Os) (started : os.Started) (H : Type) (enc : TypeId × Value → H) :
    ReturnsInHanded {} Try.checked os 3 .any (Rows.vecJoinsSpec.pre6 enc Try.prog Try.f3 Rows.vecJoinsRow.domain false) (Rows.vecJoinsSpec.post enc Try.prog Try.f3 false true false false) := by
  refine returnsInHanded_of_change (C := Try.checked) own started (by kernel_rfl) Try.func3
    (ChangeSpec.witness6 (enc := enc) (C := Try.checked) false ⟨#[], #[.agg #[.int .i64 0, .int .i64 0, .int .i64 0, .int .i64 0, .int .i64 0, .int .i64 0, .int .i64 0, .int .i64 0, .int .i64 0, .int .i64 0, .int .i64 0, .int .i64 0, .int .i64 0, .int .i64 0, .int .i64 0, .int .i64 0], .agg #[.int .i64 0, .int .i64 0, .int .i64 0, .int .i64 0, .int .i64 0, .int .i64 0, .int .i64 0, .int .i64 0, .int .i64 0, .int .i64 0, .int .i64 0, .int .i64 0, .int .i64 0, .int .i64 0, .int .i64 0, .int .i64 0]], []⟩ 8 (by kernel_rfl) (by kernel_rfl) (by kernel_rfl) (by kernel_rfl)) ?_
  intro W base args ds gs before hval0 hW hcnd _
  have hval : ∀ (j : Nat) t v, Try.f3.params[j]? = some t → args[j]? = some v → Value.okWide Try.prog W .any base t v := hval0
  have hW' := hW
  obtain ⟨p, q, hA0, hV, rfl, hfz, hnd⟩ := hW
  have hA : DataW.TrodAll enc Try.prog W 0 (fun _ => true) true Try.f3.params.toList args.toList ds p := hA0
  rw [Try.params3] at hA hval
  obtain ⟨v0, vs0, d0, ds0, p0, q0, hargs, rfl, rfl, h0, r0⟩ := trodAll_cons hA
  obtain ⟨v1, vs1, d1, ds1, p1, q1, rfl, rfl, rfl, h1, r1⟩ := trodAll_cons r0
  obtain ⟨rfl, rfl, rfl⟩ := trodAll_nil r1
  obtain rfl : args = #[v0, v1] := by cases args; simp_all
  obtain ⟨rfl, rfl⟩ := trodVars_none hV
  have k0 := h0
  have lt0 : ∀ x ∈ p0, x.block < W.heap.size := by obtain ⟨m, hm⟩ := k0; exact DataW.trod_lt m _ _ _ hm
  obtain ⟨x0, rfl, l0, z0⟩ := open_vec (hval 0 23 v0 rfl rfl) h0
  have k1 := h1
  have lt1 : ∀ x ∈ p1, x.block < W.heap.size := by obtain ⟨m, hm⟩ := k1; exact DataW.trod_lt m _ _ _ hm
  obtain ⟨x1, rfl, l1, z1⟩ := open_vec (hval 1 23 v1 rfl rfl) h1
  clear hA0 hval0
  refine (walk x0 l0 z0 x1 l1 z1 W).mono fun e W' ⟨he, bel⟩ => ?_
  subst he
  exact ⟨_, rfl, _, _, _, [], _, [], hW', trodAll_mk1 (shut_bool Try.underlying4 _), (trodAll_cons_mk (Below.trod laidOut (by kernel_rfl) (of_decide_eq_true (by kernel_rfl)) k0 bel lt0) (trodAll_cons_mk (Below.trod laidOut (by kernel_rfl) (of_decide_eq_true (by kernel_rfl)) k1 bel lt1) trodAll_mk0)), rfl, bel.frame _, fun h => by cases h⟩

theorem over : Rows.vecJoinsRow.holds Try.pinned (OpenSpec.ofChange Rows.vecJoinsSpec) :=
  OpenClaim.holds_of_wide 3 Try.f3 rfl rfl rfl rfl rfl rfl rfl ⟨rfl, rfl, rfl, rfl, rfl⟩ rfl rfl rfl rfl rfl (by kernel_rfl) Try.func3 (by kernel_rfl)
    (of_decide_eq_true (by kernel_rfl)) (by unfold Func.isWrapper; first | (rw [if_pos (by decide +kernel)]; kernel_rfl) | (rw [if_neg (by decide +kernel)]; exact ⟨rfl, rfl⟩))
    (fun os started H enc _ => lifted os started H enc)

theorem proved : Rows.VecJoinsSaid := over
#print axioms proved
end Go.Proofs.Ytjgdgoiogdappaa.vecJoins
