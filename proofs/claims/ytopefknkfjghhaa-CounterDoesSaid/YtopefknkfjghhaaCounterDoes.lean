/- For every two counters and every i, k, n and m usufructlaw04.CounterDoes returns true, and each argument reads as before. No condition. -/
import Derived.Test.YtopefknkfjghhaaCtAwake
import Derived.Test.YtopefknkfjghhaaCtJoin
import Derived.Test.YtopefknkfjghhaaCtRef
import Derived.WalkKit
import Derived.ProofKit
import Derived.OpenShut
import Derived.ChangeOld
import Derived.Below
namespace Go.Proofs.Ytopefknkfjghhaa.counterDoes
open Go.ChangeShapes Go.WideShapes Go.ChangeAt Go.RowKit
set_option linter.unusedVariables false

theorem own : ownKnob Try.prog.godebug = none := by kernel_rfl
theorem laidOut : laidOutB Try.prog = true := by kernel_rfl

set_option maxRecDepth 100000 in
set_option maxHeartbeats 4000000 in
theorem walk (x0 : List Int) (l0 : x0.length = 579) (r0 : ∀ z ∈ x0, (Lit.int .i64 z).wf = true) (x1 : List Int) (l1 : x1.length = 579) (r1 : ∀ z ∈ x1, (Lit.int .i64 z).wf = true) (a2 : Int) (w2 : (Lit.int .i64 a2).wf = true) (a3 : Int) (w3 : (Lit.int .i64 a3).wf = true) (a4 : Int) (w4 : (Lit.int .i64 a4).wf = true) (a5 : Int) (w5 : (Lit.int .i64 a5).wf = true) (w : World) :
    Calls Try.prog 5 #[.agg (vals x0).toArray, .agg (vals x1).toArray, .int .i64 a2, .int .i64 a3, .int .i64 a4, .int .i64 a5] w fun e w' => e = .returned (.bool true) ∧ Below w.heap.size w w' := by
  have i1 := inc_any x0 l0 a3 a4
  have i2 := rinc_any x0 l0 a3 a4
  have d1 := dec_any x0 l0 a3 a4
  have d2 := rdec_any x0 l0 a3 a4
  have p1 := hand_any x0 l0 a2 a3 a4 a5
  have p2 := rhand_any x0 l0 a2 a3 a4 a5
  have j1 := cjoin_any x0 x1 l0 l1
  have j2 := rcjoin_any x0 x1 l0 l1
  have lI := incA_length l0 a3 a4
  have lD := decA_length l0 a3 a4
  have lP := handA_length l0 a2 a3 a4 a5
  have lJ := cjA_length (B := x1) l0
  generalize incA x0 a3 a4 = IA at i1 i2 lI
  generalize incE x0 a3 a4 = ie at i1 i2
  generalize decA x0 a3 a4 = DA at d1 d2 lD
  generalize decE x0 a3 a4 = de at d1 d2
  generalize handA x0 a2 a3 a4 a5 = PA at p1 p2 lP
  generalize handE x0 a2 a3 a4 a5 = pe at p1 p2
  generalize cjA x0 x1 = JA at j1 j2 lJ
  generalize cjE x0 x1 = je at j1 j2
  have qI := eql_c IA IA lI lI
  have qD := eql_c DA DA lD lD
  have qP := eql_c PA PA lP lP
  have qJ := eql_c JA JA lJ lJ
  rw [beq_self_eq_true] at qI qD qP qJ
  have hge : Try.prog.eqGuardType Try.prog.depth 28 = false := by kernel_rfl
  have H0 := Lib.hid l0; have H1 := Lib.hid l1; have HI := Lib.hid lI; have HD := Lib.hid lD; have HP := Lib.hid lP; have HJ := Lib.hid lJ
  have HK := Lib.hid (KeepR.start w)
  clear r0 r1 w2 w3 w4 w5 l0 l1 lI lD lP lJ
  go_enter Try.func5, Try.ntmps5
  go_wp2_with (first
    | (with_reducible refine box_new (R := x0) HK.out rfl _ rfl rfl ?_; intro bc u hk hb; clear hb; clear HK; have HK := Lib.hid hk; clear hk)
    | (with_reducible refine box_new (R := x1) HK.out rfl _ rfl rfl ?_; intro bd u hk hb; clear hb; clear HK; have HK := Lib.hid hk; clear hk)
    | (with_reducible refine alloc_zero HK.out 579 c_zero rfl rfl ?_; intro b u hn hk hb; clear hn hb; clear HK; have HK := Lib.hid hk; clear hk)
    | (with_reducible refine store_all HK.out 0 579 c_info rfl rfl _ _ rfl rfl rfl rfl HI.out (zer_length 579) ?_; intro u hk hs; clear hs; simp only [List.set_cons_zero] at hk; clear HK; have HK := Lib.hid hk; clear hk)
    | (with_reducible refine store_all HK.out 0 579 c_info rfl rfl _ _ rfl rfl rfl rfl HD.out (zer_length 579) ?_; intro u hk hs; clear hs; simp only [List.set_cons_zero] at hk; clear HK; have HK := Lib.hid hk; clear hk)
    | (with_reducible refine store_all HK.out 0 579 c_info rfl rfl _ _ rfl rfl rfl rfl HP.out (zer_length 579) ?_; intro u hk hs; clear hs; simp only [List.set_cons_zero] at hk; clear HK; have HK := Lib.hid hk; clear hk)
    | (with_reducible refine store_all HK.out 0 579 c_info rfl rfl _ _ rfl rfl rfl rfl HJ.out (zer_length 579) ?_; intro u hk hs; clear hs; simp only [List.set_cons_zero] at hk; clear HK; have HK := Lib.hid hk; clear hk)
    | (with_reducible refine load_all HK.out 1 579 Try.underlying28 rfl c_info rfl _ rfl rfl rfl H0.out ?_)
    | (with_reducible refine load_all HK.out 2 579 Try.underlying28 rfl c_info rfl _ rfl rfl rfl H0.out ?_)
    | (with_reducible refine load_all HK.out 3 579 Try.underlying28 rfl c_info rfl _ rfl rfl rfl H0.out ?_)
    | (with_reducible refine load_all HK.out 4 579 Try.underlying28 rfl c_info rfl _ rfl rfl rfl H0.out ?_)
    | (with_reducible refine load_all HK.out 5 579 Try.underlying28 rfl c_info rfl _ rfl rfl rfl H0.out ?_)
    | (with_reducible refine load_all HK.out 6 579 Try.underlying28 rfl c_info rfl _ rfl rfl rfl H0.out ?_)
    | (with_reducible refine load_all HK.out 7 579 Try.underlying28 rfl c_info rfl _ rfl rfl rfl H0.out ?_)
    | (with_reducible refine load_all HK.out 8 579 Try.underlying28 rfl c_info rfl _ rfl rfl rfl H0.out ?_)
    | (with_reducible refine load_all HK.out 6 579 Try.underlying28 rfl c_info rfl _ rfl rfl rfl H1.out ?_)
    | (with_reducible refine load_all HK.out 7 579 Try.underlying28 rfl c_info rfl _ rfl rfl rfl H1.out ?_)
    | (with_reducible refine load_all HK.out 7 579 Try.underlying28 rfl c_info rfl _ rfl rfl rfl HI.out ?_)
    | (with_reducible refine load_all HK.out 6 579 Try.underlying28 rfl c_info rfl _ rfl rfl rfl HI.out ?_)
    | (refine load_all_want HK.out 5 579 Try.underlying28 rfl c_info _ rfl rfl rfl rfl HD.out ?_)
    | (refine load_all_want HK.out 4 579 Try.underlying28 rfl c_info _ rfl rfl rfl rfl HD.out ?_)
    | (refine load_all_want HK.out 3 579 Try.underlying28 rfl c_info _ rfl rfl rfl rfl HP.out ?_)
    | (refine load_all_want HK.out 2 579 Try.underlying28 rfl c_info _ rfl rfl rfl rfl HP.out ?_)
    | (refine load_all_want HK.out 1 579 Try.underlying28 rfl c_info _ rfl rfl rfl rfl HJ.out ?_)
    | (refine load_all_want HK.out 0 579 Try.underlying28 rfl c_info _ rfl rfl rfl rfl HJ.out ?_)
    | (go_at_call 15; (with_reducible refine (i1 _).mono ?_); rintro e u ⟨rfl, hb⟩; have hk := HK.out.call hb; clear hb; clear HK; have HK := Lib.hid hk; clear hk)
    | (go_at_call 16; (with_reducible refine (i2 _).mono ?_); rintro e u ⟨rfl, hb⟩; have hk := HK.out.call hb; clear hb; clear HK; have HK := Lib.hid hk; clear hk)
    | (go_at_call 17; (with_reducible refine (d1 _).mono ?_); rintro e u ⟨rfl, hb⟩; have hk := HK.out.call hb; clear hb; clear HK; have HK := Lib.hid hk; clear hk)
    | (go_at_call 18; (with_reducible refine (d2 _).mono ?_); rintro e u ⟨rfl, hb⟩; have hk := HK.out.call hb; clear hb; clear HK; have HK := Lib.hid hk; clear hk)
    | (go_at_call 19; (with_reducible refine (p1 _).mono ?_); rintro e u ⟨rfl, hb⟩; have hk := HK.out.call hb; clear hb; clear HK; have HK := Lib.hid hk; clear hk)
    | (go_at_call 20; (with_reducible refine (p2 _).mono ?_); rintro e u ⟨rfl, hb⟩; have hk := HK.out.call hb; clear hb; clear HK; have HK := Lib.hid hk; clear hk)
    | (go_at_call 21; (with_reducible refine (j1 _).mono ?_); rintro e u ⟨rfl, hb⟩; have hk := HK.out.call hb; clear hb; clear HK; have HK := Lib.hid hk; clear hk)
    | (go_at_call 22; (with_reducible refine (j2 _).mono ?_); rintro e u ⟨rfl, hb⟩; have hk := HK.out.call hb; clear hb; clear HK; have HK := Lib.hid hk; clear hk)
    | (go_at_call 9; (with_reducible refine (awake4 _).mono ?_); rintro e u ⟨rfl, hb⟩; have hk := HK.out.call hb; clear hb; clear HK; have HK := Lib.hid hk; clear hk))
  go_ret
  exact ⟨rfl, HK.out.bel⟩

set_option maxRecDepth 100000 in
theorem lifted (os : Os) (started : os.Started) (H : Type) (enc : TypeId × Value → H) :
    ReturnsInHanded {} Try.checked os 5 .any (Rows.counterDoesSpec.pre6 enc Try.prog Try.f5 Rows.counterDoesRow.domain false) (Rows.counterDoesSpec.post enc Try.prog Try.f5 false true false false) := by
  refine returnsInHanded_of_change (C := Try.checked) own started (by kernel_rfl) Try.func5
    (ChangeSpec.witness6 (enc := enc) (C := Try.checked) false ⟨#[], #[.agg (vals (zer 579)).toArray, .agg (vals (zer 579)).toArray, .int .i64 0, .int .i64 0, .int .i64 0, .int .i64 0], []⟩ 12 (by kernel_rfl) (by kernel_rfl) (by kernel_rfl) (by kernel_rfl)) ?_
  intro W base args ds gs before hval0 hW hcnd _
  have hval : ∀ (j : Nat) t v, Try.f5.params[j]? = some t → args[j]? = some v → Value.okWide Try.prog W .any base t v := hval0
  have hW' := hW
  obtain ⟨p, q, hA0, hV, rfl, hfz, hnd⟩ := hW
  have hA : DataW.TrodAll enc Try.prog W 0 (fun _ => true) true Try.f5.params.toList args.toList ds p := hA0
  rw [Try.params5] at hA hval
  obtain ⟨v0, vs0, d0, ds0, p0, q0, hargs, rfl, rfl, h0, r0⟩ := trodAll_cons hA
  obtain ⟨v1, vs1, d1, ds1, p1, q1, rfl, rfl, rfl, h1, r1⟩ := trodAll_cons r0
  obtain ⟨v2, vs2, d2, ds2, p2, q2, rfl, rfl, rfl, h2, r2⟩ := trodAll_cons r1
  obtain ⟨v3, vs3, d3, ds3, p3, q3, rfl, rfl, rfl, h3, r3⟩ := trodAll_cons r2
  obtain ⟨v4, vs4, d4, ds4, p4, q4, rfl, rfl, rfl, h4, r4⟩ := trodAll_cons r3
  obtain ⟨v5, vs5, d5, ds5, p5, q5, rfl, rfl, rfl, h5, r5⟩ := trodAll_cons r4
  obtain ⟨rfl, rfl, rfl⟩ := trodAll_nil r5
  obtain rfl : args = #[v0, v1, v2, v3, v4, v5] := by cases args; simp_all
  obtain ⟨rfl, rfl⟩ := trodVars_none hV
  have k0 := h0
  have lt0 : ∀ x ∈ p0, x.block < W.heap.size := by obtain ⟨m, hm⟩ := k0; exact DataW.trod_lt m _ _ _ hm
  obtain ⟨x0, rfl, l0, z0⟩ := open_c (hval 0 28 v0 rfl rfl) h0
  have k1 := h1
  have lt1 : ∀ x ∈ p1, x.block < W.heap.size := by obtain ⟨m, hm⟩ := k1; exact DataW.trod_lt m _ _ _ hm
  obtain ⟨x1, rfl, l1, z1⟩ := open_c (hval 1 28 v1 rfl rfl) h1
  have k2 := h2
  have lt2 : ∀ x ∈ p2, x.block < W.heap.size := by obtain ⟨m, hm⟩ := k2; exact DataW.trod_lt m _ _ _ hm
  obtain ⟨a2, rfl, rfl, rfl, w2⟩ := open_int Try.underlying3 (hval 2 3 v2 rfl rfl) h2
  have k3 := h3
  have lt3 : ∀ x ∈ p3, x.block < W.heap.size := by obtain ⟨m, hm⟩ := k3; exact DataW.trod_lt m _ _ _ hm
  obtain ⟨a3, rfl, rfl, rfl, w3⟩ := open_int Try.underlying3 (hval 3 3 v3 rfl rfl) h3
  have k4 := h4
  have lt4 : ∀ x ∈ p4, x.block < W.heap.size := by obtain ⟨m, hm⟩ := k4; exact DataW.trod_lt m _ _ _ hm
  obtain ⟨a4, rfl, rfl, rfl, w4⟩ := open_int Try.underlying3 (hval 4 3 v4 rfl rfl) h4
  have k5 := h5
  have lt5 : ∀ x ∈ p5, x.block < W.heap.size := by obtain ⟨m, hm⟩ := k5; exact DataW.trod_lt m _ _ _ hm
  obtain ⟨a5, rfl, rfl, rfl, w5⟩ := open_int Try.underlying3 (hval 5 3 v5 rfl rfl) h5
  clear hA0 hval0
  refine (walk x0 l0 z0 x1 l1 z1 a2 w2 a3 w3 a4 w4 a5 w5 W).mono fun e W' ⟨he, bel⟩ => ?_
  subst he
  exact ⟨_, rfl, _, _, _, [], _, [], hW', trodAll_mk1 (shut_bool Try.underlying4 _), (trodAll_cons_mk (Below.trod laidOut (by kernel_rfl) (of_decide_eq_true (by kernel_rfl)) k0 bel lt0) (trodAll_cons_mk (Below.trod laidOut (by kernel_rfl) (of_decide_eq_true (by kernel_rfl)) k1 bel lt1) (trodAll_cons_mk (Below.trod laidOut (by kernel_rfl) (of_decide_eq_true (by kernel_rfl)) k2 bel lt2) (trodAll_cons_mk (Below.trod laidOut (by kernel_rfl) (of_decide_eq_true (by kernel_rfl)) k3 bel lt3) (trodAll_cons_mk (Below.trod laidOut (by kernel_rfl) (of_decide_eq_true (by kernel_rfl)) k4 bel lt4) (trodAll_cons_mk (Below.trod laidOut (by kernel_rfl) (of_decide_eq_true (by kernel_rfl)) k5 bel lt5) trodAll_mk0)))))), rfl, bel.frame _, fun h => by cases h⟩

theorem over : Rows.counterDoesRow.holds Try.pinned (OpenSpec.ofChange Rows.counterDoesSpec) :=
  OpenClaim.holds_of_wide 5 Try.f5 rfl rfl rfl rfl rfl rfl rfl ⟨rfl, rfl, rfl, rfl, rfl⟩ rfl rfl rfl rfl rfl (by kernel_rfl) Try.func5 (by kernel_rfl)
    (of_decide_eq_true (by kernel_rfl)) (by unfold Func.isWrapper; first | (rw [if_pos (by decide +kernel)]; kernel_rfl) | (rw [if_neg (by decide +kernel)]; exact ⟨rfl, rfl⟩))
    (fun os started H enc _ => lifted os started H enc)

theorem proved : Rows.CounterDoesSaid := over
#print axioms proved
end Go.Proofs.Ytopefknkfjghhaa.counterDoes
