/- vec.Sum and vec.Grow are the document's, and what grew is over what it was: VecSums returns true for every vector and every two ints. No condition. -/
import Derived.Test.YtjgdgoiogdappaaVecLaw
import Derived.Test.YtjgdgoiogdappaaRefVec
import Derived.WalkKit
import Derived.ProofKit
import Derived.OpenShut
import Derived.ChangeOld
import Derived.Below
namespace Go.Proofs.Ytjgdgoiogdappaa.vecSums
open Go.ChangeShapes Go.WideShapes Go.ChangeAt Go.RowKit
set_option linter.unusedVariables false

theorem own : ownKnob Try.prog.godebug = none := by kernel_rfl
theorem laidOut : laidOutB Try.prog = true := by kernel_rfl

set_option maxHeartbeats 4000000 in
theorem walk (x0 : List Int) (l0 : x0.length = 16) (r0 : ∀ z ∈ x0, (Lit.int .i64 z).wf = true) (a1 : Int) (w1 : (Lit.int .i64 a1).wf = true) (a2 : Int) (w2 : (Lit.int .i64 a2).wf = true) (w : World) :
    Calls Try.prog 4 #[.agg (vals x0).toArray, .int .i64 a1, .int .i64 a2] w fun e w' => e = .returned (.bool true) ∧ Below w.heap.size w w' := by
  have hge : Try.prog.eqGuardType Try.prog.depth 23 = false := by kernel_rfl
  have s1 := sumv_any x0 l0
  have s2 := rsumv_any x0 l0
  have g1 := grow_any x0 a1 a2 l0
  have g2 := rgrow_any x0 a1 a2 l0
  have lg := growL_length l0 a1 a2
  have q1 := awake_eq (growL x0 a1 a2) lg
  have ov : growE x0 a1 a2 = 0 → overB (growL x0 a1 a2) x0 = true := fun h => grow_over l0 h
  have o1 := over_any (growL x0 a1 a2) x0 lg l0
  have hc := grow_cases x0 a1 a2
  generalize growE x0 a1 a2 = E at *
  generalize growL x0 a1 a2 = G at *
  generalize sumN x0 = SN at *
  generalize sumE x0 = SE at *
  rcases hc with rfl | rfl | rfl
  · rw [ov rfl] at o1
    clear ov
    have L0 := Lib.hid l0; have LG := Lib.hid lg
    have HK := Lib.hid (keep1 w l0)
    clear l0 lg r0
    go_enter Try.func4, Try.ntmps4
    go_wp2_with (first
      | (with_reducible refine wpList_store_new rfl rfl _ _ rfl G rfl rfl LG.out ?_; intro wn hA hb hs; have hk' := (HK.out.call hb).cons hA LG.out; clear hA hb hs HK; have HK := Lib.hid hk'; clear hk')
      | (with_reducible refine wpList_load_keep HK.out 0 rfl _ rfl rfl rfl ?_)
      | (with_reducible refine wpList_load_keep HK.out 1 rfl _ rfl rfl rfl ?_)
      | (with_reducible refine wpList_load_keep HK.out 2 rfl _ rfl rfl rfl ?_)
      | (refine wpList_want_keep HK.out 0 _ rfl rfl rfl rfl ?_)
      | (refine wpList_want_keep HK.out 1 _ rfl rfl rfl rfl ?_)
      | (refine wpList_want_keep HK.out 2 _ rfl rfl rfl rfl ?_)
      | (go_at_call 16; (with_reducible refine (s1 _).mono ?_); rintro e w1 ⟨rfl, hb⟩; have hk' := HK.out.call hb; clear hb HK; have HK := Lib.hid hk'; clear hk')
      | (go_at_call 17; (with_reducible refine (s2 _).mono ?_); rintro e w2 ⟨rfl, hb⟩; have hk' := HK.out.call hb; clear hb HK; have HK := Lib.hid hk'; clear hk')
      | (go_at_call 18; (with_reducible refine (g1 _).mono ?_); rintro e w3 ⟨rfl, hb⟩; have hk' := HK.out.call hb; clear hb HK; have HK := Lib.hid hk'; clear hk')
      | (go_at_call 19; (with_reducible refine (g2 _).mono ?_); rintro e w4 ⟨rfl, hb⟩; have hk' := HK.out.call hb; clear hb HK; have HK := Lib.hid hk'; clear hk')
      | (go_at_call 15; (with_reducible refine (awake_any _).mono ?_); rintro e w6 ⟨rfl, hb⟩; have hk' := HK.out.call hb; clear hb HK; have HK := Lib.hid hk'; clear hk')
      | (go_at_call 11; (with_reducible refine (o1 _).mono ?_); rintro e w5 ⟨rfl, hb⟩; have hk' := HK.out.call hb; clear hb HK; have HK := Lib.hid hk'; clear hk'))
    go_ret
    exact ⟨rfl, HK.out.1⟩
  · clear ov o1
    have L0 := Lib.hid l0; have LG := Lib.hid lg
    have HK := Lib.hid (keep1 w l0)
    clear l0 lg r0
    go_enter Try.func4, Try.ntmps4
    go_wp2_with (first
      | (with_reducible refine wpList_store_new rfl rfl _ _ rfl G rfl rfl LG.out ?_; intro wn hA hb hs; have hk' := (HK.out.call hb).cons hA LG.out; clear hA hb hs HK; have HK := Lib.hid hk'; clear hk')
      | (with_reducible refine wpList_load_keep HK.out 0 rfl _ rfl rfl rfl ?_)
      | (with_reducible refine wpList_load_keep HK.out 1 rfl _ rfl rfl rfl ?_)
      | (with_reducible refine wpList_load_keep HK.out 2 rfl _ rfl rfl rfl ?_)
      | (refine wpList_want_keep HK.out 0 _ rfl rfl rfl rfl ?_)
      | (refine wpList_want_keep HK.out 1 _ rfl rfl rfl rfl ?_)
      | (refine wpList_want_keep HK.out 2 _ rfl rfl rfl rfl ?_)
      | (go_at_call 16; (with_reducible refine (s1 _).mono ?_); rintro e w1 ⟨rfl, hb⟩; have hk' := HK.out.call hb; clear hb HK; have HK := Lib.hid hk'; clear hk')
      | (go_at_call 17; (with_reducible refine (s2 _).mono ?_); rintro e w2 ⟨rfl, hb⟩; have hk' := HK.out.call hb; clear hb HK; have HK := Lib.hid hk'; clear hk')
      | (go_at_call 18; (with_reducible refine (g1 _).mono ?_); rintro e w3 ⟨rfl, hb⟩; have hk' := HK.out.call hb; clear hb HK; have HK := Lib.hid hk'; clear hk')
      | (go_at_call 19; (with_reducible refine (g2 _).mono ?_); rintro e w4 ⟨rfl, hb⟩; have hk' := HK.out.call hb; clear hb HK; have HK := Lib.hid hk'; clear hk')
      | (go_at_call 15; (with_reducible refine (awake_any _).mono ?_); rintro e w6 ⟨rfl, hb⟩; have hk' := HK.out.call hb; clear hb HK; have HK := Lib.hid hk'; clear hk'))
    go_ret
    exact ⟨rfl, HK.out.1⟩
  · clear ov o1
    have L0 := Lib.hid l0; have LG := Lib.hid lg
    have HK := Lib.hid (keep1 w l0)
    clear l0 lg r0
    go_enter Try.func4, Try.ntmps4
    go_wp2_with (first
      | (with_reducible refine wpList_store_new rfl rfl _ _ rfl G rfl rfl LG.out ?_; intro wn hA hb hs; have hk' := (HK.out.call hb).cons hA LG.out; clear hA hb hs HK; have HK := Lib.hid hk'; clear hk')
      | (with_reducible refine wpList_load_keep HK.out 0 rfl _ rfl rfl rfl ?_)
      | (with_reducible refine wpList_load_keep HK.out 1 rfl _ rfl rfl rfl ?_)
      | (with_reducible refine wpList_load_keep HK.out 2 rfl _ rfl rfl rfl ?_)
      | (refine wpList_want_keep HK.out 0 _ rfl rfl rfl rfl ?_)
      | (refine wpList_want_keep HK.out 1 _ rfl rfl rfl rfl ?_)
      | (refine wpList_want_keep HK.out 2 _ rfl rfl rfl rfl ?_)
      | (go_at_call 16; (with_reducible refine (s1 _).mono ?_); rintro e w1 ⟨rfl, hb⟩; have hk' := HK.out.call hb; clear hb HK; have HK := Lib.hid hk'; clear hk')
      | (go_at_call 17; (with_reducible refine (s2 _).mono ?_); rintro e w2 ⟨rfl, hb⟩; have hk' := HK.out.call hb; clear hb HK; have HK := Lib.hid hk'; clear hk')
      | (go_at_call 18; (with_reducible refine (g1 _).mono ?_); rintro e w3 ⟨rfl, hb⟩; have hk' := HK.out.call hb; clear hb HK; have HK := Lib.hid hk'; clear hk')
      | (go_at_call 19; (with_reducible refine (g2 _).mono ?_); rintro e w4 ⟨rfl, hb⟩; have hk' := HK.out.call hb; clear hb HK; have HK := Lib.hid hk'; clear hk')
      | (go_at_call 15; (with_reducible refine (awake_any _).mono ?_); rintro e w6 ⟨rfl, hb⟩; have hk' := HK.out.call hb; clear hb HK; have HK := Lib.hid hk'; clear hk'))
    go_ret
    exact ⟨rfl, HK.out.1⟩

set_option maxRecDepth 100000 in
theorem lifted (os : Os) (started : os.Started) (H : Type) (enc : TypeId × Value → H) :
    ReturnsInHanded {} Try.checked os 4 .any (Rows.vecSumsSpec.pre6 enc Try.prog Try.f4 Rows.vecSumsRow.domain false) (Rows.vecSumsSpec.post enc Try.prog Try.f4 false true false false) := by
  refine returnsInHanded_of_change (C := Try.checked) own started (by kernel_rfl) Try.func4
    (ChangeSpec.witness6 (enc := enc) (C := Try.checked) false ⟨#[], #[.agg #[.int .i64 0, .int .i64 0, .int .i64 0, .int .i64 0, .int .i64 0, .int .i64 0, .int .i64 0, .int .i64 0, .int .i64 0, .int .i64 0, .int .i64 0, .int .i64 0, .int .i64 0, .int .i64 0, .int .i64 0, .int .i64 0], .int .i64 0, .int .i64 0], []⟩ 8 (by kernel_rfl) (by kernel_rfl) (by kernel_rfl) (by kernel_rfl)) ?_
  intro W base args ds gs before hval0 hW hcnd _
  have hval : ∀ (j : Nat) t v, Try.f4.params[j]? = some t → args[j]? = some v → Value.okWide Try.prog W .any base t v := hval0
  have hW' := hW
  obtain ⟨p, q, hA0, hV, rfl, hfz, hnd⟩ := hW
  have hA : DataW.TrodAll enc Try.prog W 0 (fun _ => true) true Try.f4.params.toList args.toList ds p := hA0
  rw [Try.params4] at hA hval
  obtain ⟨v0, vs0, d0, ds0, p0, q0, hargs, rfl, rfl, h0, r0⟩ := trodAll_cons hA
  obtain ⟨v1, vs1, d1, ds1, p1, q1, rfl, rfl, rfl, h1, r1⟩ := trodAll_cons r0
  obtain ⟨v2, vs2, d2, ds2, p2, q2, rfl, rfl, rfl, h2, r2⟩ := trodAll_cons r1
  obtain ⟨rfl, rfl, rfl⟩ := trodAll_nil r2
  obtain rfl : args = #[v0, v1, v2] := by cases args; simp_all
  obtain ⟨rfl, rfl⟩ := trodVars_none hV
  have k0 := h0
  have lt0 : ∀ x ∈ p0, x.block < W.heap.size := by obtain ⟨m, hm⟩ := k0; exact DataW.trod_lt m _ _ _ hm
  obtain ⟨x0, rfl, l0, z0⟩ := open_vec (hval 0 23 v0 rfl rfl) h0
  have k1 := h1
  have lt1 : ∀ x ∈ p1, x.block < W.heap.size := by obtain ⟨m, hm⟩ := k1; exact DataW.trod_lt m _ _ _ hm
  obtain ⟨a1, rfl, rfl, rfl, w1⟩ := open_int Try.underlying3 (hval 1 3 v1 rfl rfl) h1
  have k2 := h2
  have lt2 : ∀ x ∈ p2, x.block < W.heap.size := by obtain ⟨m, hm⟩ := k2; exact DataW.trod_lt m _ _ _ hm
  obtain ⟨a2, rfl, rfl, rfl, w2⟩ := open_int Try.underlying3 (hval 2 3 v2 rfl rfl) h2
  clear hA0 hval0
  refine (walk x0 l0 z0 a1 w1 a2 w2 W).mono fun e W' ⟨he, bel⟩ => ?_
  subst he
  exact ⟨_, rfl, _, _, _, [], _, [], hW', trodAll_mk1 (shut_bool Try.underlying4 _), (trodAll_cons_mk (Below.trod laidOut (by kernel_rfl) (of_decide_eq_true (by kernel_rfl)) k0 bel lt0) (trodAll_cons_mk (Below.trod laidOut (by kernel_rfl) (of_decide_eq_true (by kernel_rfl)) k1 bel lt1) (trodAll_cons_mk (Below.trod laidOut (by kernel_rfl) (of_decide_eq_true (by kernel_rfl)) k2 bel lt2) trodAll_mk0))), rfl, bel.frame _, fun h => by cases h⟩

theorem over : Rows.vecSumsRow.holds Try.pinned (OpenSpec.ofChange Rows.vecSumsSpec) :=
  OpenClaim.holds_of_wide 4 Try.f4 rfl rfl rfl rfl rfl rfl rfl ⟨rfl, rfl, rfl, rfl, rfl⟩ rfl rfl rfl rfl rfl (by kernel_rfl) Try.func4 (by kernel_rfl)
    (of_decide_eq_true (by kernel_rfl)) (by unfold Func.isWrapper; first | (rw [if_pos (by decide +kernel)]; kernel_rfl) | (rw [if_neg (by decide +kernel)]; exact ⟨rfl, rfl⟩))
    (fun os started H enc _ => lifted os started H enc)

theorem proved : Rows.VecSumsSaid := over
#print axioms proved
end Go.Proofs.Ytjgdgoiogdappaa.vecSums
