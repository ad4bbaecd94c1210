/- num's products are taken apart by sums, and 0, 1 and -1 do what they should: NumScales returns true for every three ints. No condition. -/
import Derived.Test.YtkekjjlialoalaaSum
import Derived.ChangeOld
import Derived.WalkKit
import Derived.ProofKit
import Derived.OpenShut
import Derived.ShutString
namespace Go.Proofs.Ytkekjjlialoalaa.numScales
open Go.ChangeShapes Go.WideShapes Go.ChangeAt Go.RowKit
open Go.ChangeMaps (open_string shut_string)
set_option linter.unusedVariables false

theorem own : ownKnob Try.prog.godebug = none := by kernel_rfl

theorem e_cases {t : Bool} : (if t then (0 : Int) else 2) = 0 ∨ (if t then (0 : Int) else 2) = 2 := by cases t <;> simp
theorem addE_cases (a b : Int) : addE a b = 0 ∨ addE a b = 2 := e_cases
theorem mulE_cases (a b : Int) : mulE a b = 0 ∨ mulE a b = 2 := e_cases
theorem addE_zero {a b : Int} (h : addE a b = 0) : okB a b (a + b) = true := by
  cases hk : okB a b (a + b) with
  | true => rfl
  | false => rw [(addE_no hk).1] at h; cases h
theorem mulE_zero {a b : Int} (h : mulE a b = 0) : okB a b (a * b) = true := by
  cases hk : okB a b (a * b) with
  | true => rfl
  | false => rw [(mulE_no hk).1] at h; cases h
theorem mul_at {a b r : Int} (ha : isB a = true) (hb : isB b = true) (hr : isB r = true) (e : a * b = r) (w : World) :
    Calls Try.prog 13 #[.int .i64 a, .int .i64 b] w fun e w' => e = .returned (.tuple #[.int .i64 r, .int .i64 0]) ∧ w = w' := by
  have k : okB a b (a * b) = true := okB_iff.2 ⟨ha, hb, by rw [e]; exact hr⟩
  have h := mul_any a b w
  rw [(mulE_ok k).1, (mulE_ok k).2, e] at h
  exact h
theorem mul_0 (a : Int) (ha : isB a = true) (w : World) : Calls Try.prog 13 #[.int .i64 a, .int .i64 0] w fun e w' => e = .returned (.tuple #[.int .i64 0, .int .i64 0]) ∧ w = w' :=
  mul_at ha (by decide) (by decide) (by omega) w
theorem mul_1 (a : Int) (ha : isB a = true) (w : World) : Calls Try.prog 13 #[.int .i64 a, .int .i64 1] w fun e w' => e = .returned (.tuple #[.int .i64 a, .int .i64 0]) ∧ w = w' :=
  mul_at ha (by decide) ha (by omega) w
theorem mul_m (a : Int) (ha : isB a = true) (w : World) : Calls Try.prog 13 #[.int .i64 a, .int .i64 (-1)] w fun e w' => e = .returned (.tuple #[.int .i64 (-a), .int .i64 0]) ∧ w = w' :=
  mul_at ha (by decide) (isB_iff.2 (by have := isB_iff.1 ha; omega)) (by omega) w
/-- A product is taken apart by a sum. -/
theorem add_parts {a b c : Int} (h1 : addE b c = 0) (h2 : mulE a b = 0) (h3 : mulE a c = 0) (h4 : mulE a (addN b c) = 0) (w : World) :
    Calls Try.prog 9 #[.int .i64 (mulN a b), .int .i64 (mulN a c)] w fun e w' => e = .returned (.tuple #[.int .i64 (mulN a (addN b c)), .int .i64 0]) ∧ w = w' := by
  have k1 := addE_zero h1
  have k2 := mulE_zero h2
  have k3 := mulE_zero h3
  have k4 := mulE_zero h4
  have h := add_any (mulN a b) (mulN a c) w
  rw [(addE_ok k1).2] at k4 ⊢
  rw [(mulE_ok k4).2]
  rw [(mulE_ok k2).2, (mulE_ok k3).2] at h ⊢
  have e : a * b + a * c = a * (b + c) := by rw [Int.mul_add]
  have k : okB (a * b) (a * c) (a * b + a * c) = true := okB_iff.2 ⟨(okB_iff.1 k2).2.2, (okB_iff.1 k3).2.2, by rw [e]; exact (okB_iff.1 k4).2.2⟩
  rw [(addE_ok k).1, (addE_ok k).2, e] at h
  exact h

theorem walk (a0 : Int) (a1 : Int) (a2 : Int) (w0 : (Lit.int .i64 a0).wf = true) (w1 : (Lit.int .i64 a1).wf = true) (w2 : (Lit.int .i64 a2).wf = true) (w : World) :
    Calls Try.prog 8 #[.int .i64 a0, .int .i64 a1, .int .i64 a2] w fun e w' => e = .returned (.bool true) ∧ Below w.heap.size w w' := by
  by_cases ha0 : isB a0 = true
  · by_cases ha1 : isB a1 = true
    · by_cases ha2 : isB a2 = true
      · obtain ⟨x1, x2⟩ := isB_iff.1 ha0
        have HA := Lib.hid ha0
        rcases addE_cases a1 a2 with e1 | e1
        · rcases mulE_cases a0 a1 with e2 | e2
          · rcases mulE_cases a0 a2 with e3 | e3
            · rcases mulE_cases a0 (addN a1 a2) with e4 | e4
              · have P := Lib.hid (add_parts e1 e2 e3 e4)
                go_enter Try.func8, Try.ntmps8
                go_wp2_with (first
                  | (go_at_call 15; (with_reducible refine (is_any _ _).mono ?_); rintro e w' ⟨rfl, rfl⟩)
                  | (go_at_call 13; (with_reducible refine (mul_0 a0 HA.out _).mono ?_); rintro e w' ⟨rfl, rfl⟩)
                  | (go_at_call 13; (with_reducible refine (mul_1 a0 HA.out _).mono ?_); rintro e w' ⟨rfl, rfl⟩)
                  | (go_at_call 13; (with_reducible refine (mul_m a0 HA.out _).mono ?_); rintro e w' ⟨rfl, rfl⟩)
                  | (go_at_call 13; (with_reducible refine (mul_any _ _ _).mono ?_); rintro e w' ⟨rfl, rfl⟩)
                  | (go_at_call 9; (with_reducible refine (add_any a1 a2 _).mono ?_); rintro e w' ⟨rfl, rfl⟩)
                  | (go_at_call 9; (with_reducible refine (P.out _).mono ?_); rintro e w' ⟨rfl, rfl⟩)
                  | (go_at_call 17; (with_reducible refine (awake_any _).mono ?_); rintro e w' ⟨rfl, hb⟩; have HB := Lib.hid hb; clear hb))
                go_ret
                exact ⟨rfl, HB.out⟩
              · go_enter Try.func8, Try.ntmps8
                go_wp2_with (first
                  | (go_at_call 15; (with_reducible refine (is_any _ _).mono ?_); rintro e w' ⟨rfl, rfl⟩)
                  | (go_at_call 13; (with_reducible refine (mul_0 a0 HA.out _).mono ?_); rintro e w' ⟨rfl, rfl⟩)
                  | (go_at_call 13; (with_reducible refine (mul_1 a0 HA.out _).mono ?_); rintro e w' ⟨rfl, rfl⟩)
                  | (go_at_call 13; (with_reducible refine (mul_m a0 HA.out _).mono ?_); rintro e w' ⟨rfl, rfl⟩)
                  | (go_at_call 13; (with_reducible refine (mul_any _ _ _).mono ?_); rintro e w' ⟨rfl, rfl⟩)
                  | (go_at_call 9; (with_reducible refine (add_any a1 a2 _).mono ?_); rintro e w' ⟨rfl, rfl⟩)
                  | (go_at_call 17; (with_reducible refine (awake_any _).mono ?_); rintro e w' ⟨rfl, hb⟩; have HB := Lib.hid hb; clear hb))
                go_ret
                exact ⟨rfl, HB.out⟩
            · go_enter Try.func8, Try.ntmps8
              go_wp2_with (first
                | (go_at_call 15; (with_reducible refine (is_any _ _).mono ?_); rintro e w' ⟨rfl, rfl⟩)
                | (go_at_call 13; (with_reducible refine (mul_0 a0 HA.out _).mono ?_); rintro e w' ⟨rfl, rfl⟩)
                | (go_at_call 13; (with_reducible refine (mul_1 a0 HA.out _).mono ?_); rintro e w' ⟨rfl, rfl⟩)
                | (go_at_call 13; (with_reducible refine (mul_m a0 HA.out _).mono ?_); rintro e w' ⟨rfl, rfl⟩)
                | (go_at_call 13; (with_reducible refine (mul_any _ _ _).mono ?_); rintro e w' ⟨rfl, rfl⟩)
                | (go_at_call 9; (with_reducible refine (add_any a1 a2 _).mono ?_); rintro e w' ⟨rfl, rfl⟩)
                | (go_at_call 17; (with_reducible refine (awake_any _).mono ?_); rintro e w' ⟨rfl, hb⟩; have HB := Lib.hid hb; clear hb))
              go_ret
              exact ⟨rfl, HB.out⟩
          · go_enter Try.func8, Try.ntmps8
            go_wp2_with (first
              | (go_at_call 15; (with_reducible refine (is_any _ _).mono ?_); rintro e w' ⟨rfl, rfl⟩)
              | (go_at_call 13; (with_reducible refine (mul_0 a0 HA.out _).mono ?_); rintro e w' ⟨rfl, rfl⟩)
              | (go_at_call 13; (with_reducible refine (mul_1 a0 HA.out _).mono ?_); rintro e w' ⟨rfl, rfl⟩)
              | (go_at_call 13; (with_reducible refine (mul_m a0 HA.out _).mono ?_); rintro e w' ⟨rfl, rfl⟩)
              | (go_at_call 13; (with_reducible refine (mul_any _ _ _).mono ?_); rintro e w' ⟨rfl, rfl⟩)
              | (go_at_call 9; (with_reducible refine (add_any a1 a2 _).mono ?_); rintro e w' ⟨rfl, rfl⟩)
              | (go_at_call 17; (with_reducible refine (awake_any _).mono ?_); rintro e w' ⟨rfl, hb⟩; have HB := Lib.hid hb; clear hb))
            go_ret
            exact ⟨rfl, HB.out⟩
        · go_enter Try.func8, Try.ntmps8
          go_wp2_with (first
            | (go_at_call 15; (with_reducible refine (is_any _ _).mono ?_); rintro e w' ⟨rfl, rfl⟩)
            | (go_at_call 13; (with_reducible refine (mul_0 a0 HA.out _).mono ?_); rintro e w' ⟨rfl, rfl⟩)
            | (go_at_call 13; (with_reducible refine (mul_1 a0 HA.out _).mono ?_); rintro e w' ⟨rfl, rfl⟩)
            | (go_at_call 13; (with_reducible refine (mul_m a0 HA.out _).mono ?_); rintro e w' ⟨rfl, rfl⟩)
            | (go_at_call 13; (with_reducible refine (mul_any _ _ _).mono ?_); rintro e w' ⟨rfl, rfl⟩)
            | (go_at_call 9; (with_reducible refine (add_any a1 a2 _).mono ?_); rintro e w' ⟨rfl, rfl⟩)
            | (go_at_call 17; (with_reducible refine (awake_any _).mono ?_); rintro e w' ⟨rfl, hb⟩; have HB := Lib.hid hb; clear hb))
          go_ret
          exact ⟨rfl, HB.out⟩
      · have ha2 : isB a2 = false := by simpa using ha2
        go_enter Try.func8, Try.ntmps8
        go_wp2_with (first
          | (go_at_call 15; (with_reducible refine (is_any _ _).mono ?_); rintro e w' ⟨rfl, rfl⟩)
          | (go_at_call 17; (with_reducible refine (awake_any _).mono ?_); rintro e w' ⟨rfl, hb⟩; have HB := Lib.hid hb; clear hb))
        go_ret
        exact ⟨rfl, HB.out⟩
    · have ha1 : isB a1 = false := by simpa using ha1
      go_enter Try.func8, Try.ntmps8
      go_wp2_with (first
        | (go_at_call 15; (with_reducible refine (is_any _ _).mono ?_); rintro e w' ⟨rfl, rfl⟩)
        | (go_at_call 17; (with_reducible refine (awake_any _).mono ?_); rintro e w' ⟨rfl, hb⟩; have HB := Lib.hid hb; clear hb))
      go_ret
      exact ⟨rfl, HB.out⟩
  · have ha0 : isB a0 = false := by simpa using ha0
    go_enter Try.func8, Try.ntmps8
    go_wp2_with (first
      | (go_at_call 15; (with_reducible refine (is_any _ _).mono ?_); rintro e w' ⟨rfl, rfl⟩)
      | (go_at_call 17; (with_reducible refine (awake_any _).mono ?_); rintro e w' ⟨rfl, hb⟩; have HB := Lib.hid hb; clear hb))
    go_ret
    exact ⟨rfl, HB.out⟩

set_option maxRecDepth 100000 in
theorem lifted (os : Os) (started : os.Started) (H : Type) (enc : TypeId × Value → H) :
    ReturnsInHanded {} Try.checked os 8 .any (Rows.numScalesSpec.pre6 enc Try.prog Try.f8 Rows.numScalesRow.domain false) (Rows.numScalesSpec.post enc Try.prog Try.f8 false true false false) := by
  refine returnsInHanded_of_change (C := Try.checked) own started (by kernel_rfl) Try.func8
    (ChangeSpec.witness6 (enc := enc) (C := Try.checked) false ⟨#[], #[.int .i64 0, .int .i64 0, .int .i64 0], []⟩ 8 (by kernel_rfl) (by kernel_rfl) (by kernel_rfl) (by kernel_rfl)) ?_
  intro W base args ds gs before hval0 hW hcnd _
  have hval : ∀ (j : Nat) t v, Try.f8.params[j]? = some t → args[j]? = some v → Value.okWide Try.prog W .any base t v := hval0
  have hW' := hW
  obtain ⟨p, q, hA0, hV, rfl, hfz, hnd⟩ := hW
  have hA : DataW.TrodAll enc Try.prog W 0 (fun _ => true) true Try.f8.params.toList args.toList ds p := hA0
  rw [Try.params8] at hA hval
  obtain ⟨v0, vs0, d0, ds0, p0, q0, hargs, rfl, rfl, h0, r0⟩ := trodAll_cons hA
  obtain ⟨v1, vs1, d1, ds1, p1, q1, rfl, rfl, rfl, h1, r1⟩ := trodAll_cons r0
  obtain ⟨v2, vs2, d2, ds2, p2, q2, rfl, rfl, rfl, h2, r2⟩ := trodAll_cons r1
  obtain ⟨rfl, rfl, rfl⟩ := trodAll_nil r2
  obtain rfl : args = #[v0, v1, v2] := by cases args; simp_all
  obtain ⟨rfl, rfl⟩ := trodVars_none hV
  obtain ⟨a0, rfl, rfl, rfl, w0⟩ := open_int Try.underlying3 (hval 0 3 v0 rfl rfl) h0
  obtain ⟨a1, rfl, rfl, rfl, w1⟩ := open_int Try.underlying3 (hval 1 3 v1 rfl rfl) h1
  obtain ⟨a2, rfl, rfl, rfl, w2⟩ := open_int Try.underlying3 (hval 2 3 v2 rfl rfl) h2
  clear hA0 hval0
  simp only [List.append_nil] at hW'
  refine (walk a0 a1 a2 w0 w1 w2 W).mono fun e W' ⟨he, hg⟩ => ?_
  subst he
  exact ⟨_, rfl, _, _, _, [], [], [], hW', trodAll_mk1 (shut_bool Try.underlying4 _), (trodAll_cons_mk (shut_int Try.underlying3 w0) (trodAll_cons_mk (shut_int Try.underlying3 w1) (trodAll_cons_mk (shut_int Try.underlying3 w2) trodAll_mk0))), rfl, hg.frame _, fun h => by cases h⟩

theorem over : Rows.numScalesRow.holds Try.pinned (OpenSpec.ofChange Rows.numScalesSpec) :=
  OpenClaim.holds_of_wide 8 Try.f8 rfl rfl rfl rfl rfl rfl rfl ⟨rfl, rfl, rfl, rfl, rfl⟩ rfl rfl rfl rfl rfl (by kernel_rfl) Try.func8 (by kernel_rfl)
    (of_decide_eq_true (by kernel_rfl)) (by unfold Func.isWrapper; first | (rw [if_pos (by decide +kernel)]; kernel_rfl) | (rw [if_neg (by decide +kernel)]; exact ⟨rfl, rfl⟩))
    (fun os started H enc _ => lifted os started H enc)

theorem proved : Rows.NumScalesSaid :=
  over
#print axioms proved
end Go.Proofs.Ytkekjjlialoalaa.numScales
