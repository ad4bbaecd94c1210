/- For every init, low and high usufructlaw04.CounterMakes returns true, and each argument reads as before. No condition. -/
import Derived.Test.YtopefknkfjghhaaCtAwake
import Derived.WalkKit
import Derived.ProofKit
import Derived.OpenShut
import Derived.ChangeOld
import Derived.Below
namespace Go.Proofs.Ytopefknkfjghhaa.counterMakes
open Go.ChangeShapes Go.WideShapes Go.ChangeAt Go.RowKit
set_option linter.unusedVariables false

theorem own : ownKnob Try.prog.godebug = none := by kernel_rfl
theorem laidOut : laidOutB Try.prog = true := by kernel_rfl

set_option maxRecDepth 100000 in
set_option maxHeartbeats 4000000 in
theorem walk (a0 : Int) (w0 : (Lit.int .i64 a0).wf = true) (a1 : Int) (w1 : (Lit.int .i64 a1).wf = true) (a2 : Int) (w2 : (Lit.int .i64 a2).wf = true) (w : World) :
    Calls Try.prog 3 #[.int .i64 a0, .int .i64 a1, .int .i64 a2] w fun e w' => e = .returned (.bool true) ∧ Below w.heap.size w w' := by
  have n1 := new_any a0 a1 a2
  have n2 := rnew_any a0 a1 a2
  have hge : Try.prog.eqGuardType Try.prog.depth 28 = false := by kernel_rfl
  have HK := Lib.hid (KeepR.start w)
  clear w0 w1 w2
  cases hb : newB a0 a1 a2 with
  | false =>
    obtain ⟨e1, e2⟩ := new_no hb
    rw [e1, e2] at n1 n2
    clear e1 e2 hb
    have qC := eql_c (zer 579) (zer 579) (zer_length 579) (zer_length 579)
    rw [beq_self_eq_true] at qC
    have HL := Lib.hid (zer_length 579)
    go_enter Try.func3, Try.ntmps3
    go_wp2_with (first
      | (with_reducible refine alloc_zero HK.out 579 c_zero rfl rfl ?_; intro b u hn hk hb; clear hn hb; clear HK; have HK := Lib.hid hk; clear hk)
      | (with_reducible refine store_all HK.out 0 579 c_info rfl rfl _ _ rfl rfl rfl rfl HL.out (zer_length 579) ?_; intro u hk hs; clear hs; simp only [List.set_cons_zero] at hk; clear HK; have HK := Lib.hid hk; clear hk)
      | (with_reducible refine load_all HK.out 1 579 Try.underlying28 rfl c_info rfl _ rfl rfl rfl HL.out ?_)
      | (with_reducible refine load_all HK.out 0 579 Try.underlying28 rfl c_info rfl _ rfl rfl rfl HL.out ?_)
      | (refine load_all_want HK.out 1 579 Try.underlying28 rfl c_info _ rfl rfl rfl rfl HL.out ?_)
      | (go_at_call 6; (with_reducible refine (n1 _).mono ?_); rintro e u ⟨rfl, hb⟩; have hk := HK.out.call hb; clear hb; clear HK; have HK := Lib.hid hk; clear hk)
      | (go_at_call 7; (with_reducible refine (n2 _).mono ?_); rintro e u ⟨rfl, hb⟩; have hk := HK.out.call hb; clear hb; clear HK; have HK := Lib.hid hk; clear hk)
      | (go_at_call 9; (with_reducible refine (awake4 _).mono ?_); rintro e u ⟨rfl, hb⟩; have hk := HK.out.call hb; clear hb; clear HK; have HK := Lib.hid hk; clear hk))
    go_ret
    exact ⟨rfl, HK.out.bel⟩
  | true =>
    obtain ⟨e1, e2⟩ := new_yes hb
    rw [e1, e2] at n1 n2
    clear e1 e2
    have HL := Lib.hid (newC_length a0 a1 a2)
    have hr := cright_any (newC a0 a1 a2) HL.out
    rw [new_right hb] at hr
    clear hb
    have qC := eql_c (newC a0 a1 a2) (newC a0 a1 a2) HL.out HL.out
    rw [beq_self_eq_true] at qC
    generalize newC a0 a1 a2 = X at n1 n2 HL hr qC
    go_enter Try.func3, Try.ntmps3
    go_wp2_with (first
      | (with_reducible refine alloc_zero HK.out 579 c_zero rfl rfl ?_; intro b u hn hk hb; clear hn hb; clear HK; have HK := Lib.hid hk; clear hk)
      | (with_reducible refine store_all HK.out 0 579 c_info rfl rfl _ _ rfl rfl rfl rfl HL.out (zer_length 579) ?_; intro u hk hs; clear hs; simp only [List.set_cons_zero] at hk; clear HK; have HK := Lib.hid hk; clear hk)
      | (with_reducible refine load_all HK.out 1 579 Try.underlying28 rfl c_info rfl _ rfl rfl rfl HL.out ?_)
      | (with_reducible refine load_all HK.out 0 579 Try.underlying28 rfl c_info rfl _ rfl rfl rfl HL.out ?_)
      | (refine load_all_want HK.out 1 579 Try.underlying28 rfl c_info _ rfl rfl rfl rfl HL.out ?_)
      | (go_at_call 6; (with_reducible refine (n1 _).mono ?_); rintro e u ⟨rfl, hb⟩; have hk := HK.out.call hb; clear hb; clear HK; have HK := Lib.hid hk; clear hk)
      | (go_at_call 7; (with_reducible refine (n2 _).mono ?_); rintro e u ⟨rfl, hb⟩; have hk := HK.out.call hb; clear hb; clear HK; have HK := Lib.hid hk; clear hk)
      | (go_at_call 9; (with_reducible refine (awake4 _).mono ?_); rintro e u ⟨rfl, hb⟩; have hk := HK.out.call hb; clear hb; clear HK; have HK := Lib.hid hk; clear hk)
      | (go_at_call 8; (with_reducible refine (hr _).mono ?_); rintro e u ⟨rfl, hb⟩; have hk := HK.out.call hb; clear hb; clear HK; have HK := Lib.hid hk; clear hk))
    go_ret
    exact ⟨rfl, HK.out.bel⟩

set_option maxRecDepth 100000 in
theorem lifted (os : Os) (started : os.Started) (H : Type) (enc : TypeId × Value → H) :
    ReturnsInHanded {} Try.checked os 3 .any (Rows.counterMakesSpec.pre6 enc Try.prog Try.f3 Rows.counterMakesRow.domain false) (Rows.counterMakesSpec.post enc Try.prog Try.f3 false true false false) := by
  refine returnsInHanded_of_change (C := Try.checked) own started (by kernel_rfl) Try.func3
    (ChangeSpec.witness6 (enc := enc) (C := Try.checked) false ⟨#[], #[.int .i64 0, .int .i64 0, .int .i64 0], []⟩ 12 (by kernel_rfl) (by kernel_rfl) (by kernel_rfl) (by kernel_rfl)) ?_
  intro W base args ds gs before hval0 hW hcnd _
  have hval : ∀ (j : Nat) t v, Try.f3.params[j]? = some t → args[j]? = some v → Value.okWide Try.prog W .any base t v := hval0
  have hW' := hW
  obtain ⟨p, q, hA0, hV, rfl, hfz, hnd⟩ := hW
  have hA : DataW.TrodAll enc Try.prog W 0 (fun _ => true) true Try.f3.params.toList args.toList ds p := hA0
  rw [Try.params3] at hA hval
  obtain ⟨v0, vs0, d0, ds0, p0, q0, hargs, rfl, rfl, h0, r0⟩ := trodAll_cons hA
  obtain ⟨v1, vs1, d1, ds1, p1, q1, rfl, rfl, rfl, h1, r1⟩ := trodAll_cons r0
  obtain ⟨v2, vs2, d2, ds2, p2, q2, rfl, rfl, rfl, h2, r2⟩ := trodAll_cons r1
  obtain ⟨rfl, rfl, rfl⟩ := trodAll_nil r2
  obtain rfl : args = #[v0, v1, v2] := by cases args; simp_all
  obtain ⟨rfl, rfl⟩ := trodVars_none hV
  have k0 := h0
  have lt0 : ∀ x ∈ p0, x.block < W.heap.size := by obtain ⟨m, hm⟩ := k0; exact DataW.trod_lt m _ _ _ hm
  obtain ⟨a0, rfl, rfl, rfl, w0⟩ := open_int Try.underlying3 (hval 0 3 v0 rfl rfl) h0
  have k1 := h1
  have lt1 : ∀ x ∈ p1, x.block < W.heap.size := by obtain ⟨m, hm⟩ := k1; exact DataW.trod_lt m _ _ _ hm
  obtain ⟨a1, rfl, rfl, rfl, w1⟩ := open_int Try.underlying3 (hval 1 3 v1 rfl rfl) h1
  have k2 := h2
  have lt2 : ∀ x ∈ p2, x.block < W.heap.size := by obtain ⟨m, hm⟩ := k2; exact DataW.trod_lt m _ _ _ hm
  obtain ⟨a2, rfl, rfl, rfl, w2⟩ := open_int Try.underlying3 (hval 2 3 v2 rfl rfl) h2
  clear hA0 hval0
  refine (walk a0 w0 a1 w1 a2 w2 W).mono fun e W' ⟨he, bel⟩ => ?_
  subst he
  exact ⟨_, rfl, _, _, _, [], _, [], hW', trodAll_mk1 (shut_bool Try.underlying4 _), (trodAll_cons_mk (Below.trod laidOut (by kernel_rfl) (of_decide_eq_true (by kernel_rfl)) k0 bel lt0) (trodAll_cons_mk (Below.trod laidOut (by kernel_rfl) (of_decide_eq_true (by kernel_rfl)) k1 bel lt1) (trodAll_cons_mk (Below.trod laidOut (by kernel_rfl) (of_decide_eq_true (by kernel_rfl)) k2 bel lt2) trodAll_mk0))), rfl, bel.frame _, fun h => by cases h⟩

theorem over : Rows.counterMakesRow.holds Try.pinned (OpenSpec.ofChange Rows.counterMakesSpec) :=
  OpenClaim.holds_of_wide 3 Try.f3 rfl rfl rfl rfl rfl rfl rfl ⟨rfl, rfl, rfl, rfl, rfl⟩ rfl rfl rfl rfl rfl (by kernel_rfl) Try.func3 (by kernel_rfl)
    (of_decide_eq_true (by kernel_rfl)) (by unfold Func.isWrapper; first | (rw [if_pos (by decide +kernel)]; kernel_rfl) | (rw [if_neg (by decide +kernel)]; exact ⟨rfl, rfl⟩))
    (fun os started H enc _ => lifted os started H enc)

theorem proved : Rows.CounterMakesSaid := over
#print axioms proved
end Go.Proofs.Ytopefknkfjghhaa.counterMakes
