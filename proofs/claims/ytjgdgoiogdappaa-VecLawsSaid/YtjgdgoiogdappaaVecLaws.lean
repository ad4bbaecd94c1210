/- vec.Join hangs on no order, nor on how often, and is the least over both: VecLaws returns true for every three vectors. No condition. -/
import Derived.Test.YtjgdgoiogdappaaVecLaw
import Derived.WalkKit
import Derived.ProofKit
import Derived.OpenShut
import Derived.ChangeOld
import Derived.Below
namespace Go.Proofs.Ytjgdgoiogdappaa.vecLaws
open Go.ChangeShapes Go.WideShapes Go.ChangeAt Go.RowKit
set_option linter.unusedVariables false

theorem own : ownKnob Try.prog.godebug = none := by kernel_rfl
theorem laidOut : laidOutB Try.prog = true := by kernel_rfl

set_option maxHeartbeats 4000000 in
theorem walk (x0 : List Int) (l0 : x0.length = 16) (r0 : ∀ z ∈ x0, (Lit.int .i64 z).wf = true) (x1 : List Int) (l1 : x1.length = 16) (r1 : ∀ z ∈ x1, (Lit.int .i64 z).wf = true) (x2 : List Int) (l2 : x2.length = 16) (r2 : ∀ z ∈ x2, (Lit.int .i64 z).wf = true) (w : World) :
    Calls Try.prog 5 #[.agg (vals x0).toArray, .agg (vals x1).toArray, .agg (vals x2).toArray] w fun e w' => e = .returned (.bool true) ∧ Below w.heap.size w w' := by
  have hge : Try.prog.eqGuardType Try.prog.depth 23 = false := by kernel_rfl
  have lj := joinL_length l0 l1
  have lk := joinL_length l1 l2
  have j01 : ∀ W, Calls Try.prog 9 #[.agg (vals x0).toArray, .agg (vals x1).toArray] W fun e w' => e = .returned (.agg (vals (joinL x0 x1)).toArray) ∧ Below W.heap.size W w' := fun W => by have h := join_any x0 x1 l0 l1 W; exact h
  have j10 : ∀ W, Calls Try.prog 9 #[.agg (vals x1).toArray, .agg (vals x0).toArray] W fun e w' => e = .returned (.agg (vals (joinL x0 x1)).toArray) ∧ Below W.heap.size W w' := fun W => by have h := join_any x1 x0 l1 l0 W; rw [joinL_comm l0 l1] at h; exact h
  have j3 : ∀ W, Calls Try.prog 9 #[.agg (vals (joinL x0 x1)).toArray, .agg (vals x2).toArray] W fun e w' => e = .returned (.agg (vals (joinL (joinL x0 x1) x2)).toArray) ∧ Below W.heap.size W w' := fun W => by have h := join_any (joinL x0 x1) x2 lj l2 W; exact h
  have j12 : ∀ W, Calls Try.prog 9 #[.agg (vals x1).toArray, .agg (vals x2).toArray] W fun e w' => e = .returned (.agg (vals (joinL x1 x2)).toArray) ∧ Below W.heap.size W w' := fun W => by have h := join_any x1 x2 l1 l2 W; exact h
  have j4 : ∀ W, Calls Try.prog 9 #[.agg (vals x0).toArray, .agg (vals (joinL x1 x2)).toArray] W fun e w' => e = .returned (.agg (vals (joinL (joinL x0 x1) x2)).toArray) ∧ Below W.heap.size W w' := fun W => by have h := join_any x0 (joinL x1 x2) l0 lk W; rw [joinL_assoc l0 l1 l2] at h; exact h
  have j00 : ∀ W, Calls Try.prog 9 #[.agg (vals x0).toArray, .agg (vals x0).toArray] W fun e w' => e = .returned (.agg (vals x0).toArray) ∧ Below W.heap.size W w' := fun W => by have h := join_any x0 x0 l0 l0 W; rw [joinL_self l0] at h; exact h
  have q1 := awake_eq (joinL x0 x1) lj
  have q2 := awake_eq (joinL (joinL x0 x1) x2) (joinL_length lj l2)
  have q3 := awake_eq x0 l0
  have o0 : ∀ W, Calls Try.prog 11 #[.agg (vals (joinL x0 x1)).toArray, .agg (vals x0).toArray] W fun e w' => e = .returned (.bool true) ∧ Below W.heap.size W w' := fun W => by have h := over_any (joinL x0 x1) x0 lj l0 W; rw [over_l l0 l1] at h; exact h
  have o1 : ∀ W, Calls Try.prog 11 #[.agg (vals (joinL x0 x1)).toArray, .agg (vals x1).toArray] W fun e w' => e = .returned (.bool true) ∧ Below W.heap.size W w' := fun W => by have h := over_any (joinL x0 x1) x1 lj l1 W; rw [over_r l0 l1] at h; exact h
  cases p : overB x2 x0 with
  | false =>
    have o2 : ∀ W, Calls Try.prog 11 #[.agg (vals x2).toArray, .agg (vals x0).toArray] W fun e w' => e = .returned (.bool false) ∧ Below W.heap.size W w' := fun W => by have h := over_any x2 x0 l2 l0 W; rw [p] at h; exact h
    clear p
    have L0 := Lib.hid l0; have L1 := Lib.hid l1; have L2 := Lib.hid l2; have LJ := Lib.hid lj
    have HK := Lib.hid (keep3 w l0 l1 l2)
    clear l0 l1 l2 lj lk r0 r1 r2
    go_enter Try.func5, Try.ntmps5
    go_wp2_with (first
      | (with_reducible refine wpList_store_new rfl rfl _ _ rfl (joinL x0 x1) rfl rfl LJ.out ?_; intro w2 hA hb hs; have hk' := (HK.out.call hb).cons hA LJ.out; clear hA hb hs HK; have HK := Lib.hid hk'; clear hk')
      | (with_reducible refine wpList_load_keep HK.out 0 rfl _ rfl rfl rfl ?_)
      | (with_reducible refine wpList_load_keep HK.out 1 rfl _ rfl rfl rfl ?_)
      | (with_reducible refine wpList_load_keep HK.out 2 rfl _ rfl rfl rfl ?_)
      | (refine wpList_want_keep HK.out 0 _ rfl rfl rfl rfl ?_)
      | (refine wpList_want_keep HK.out 1 _ rfl rfl rfl rfl ?_)
      | (refine wpList_want_keep HK.out 2 _ rfl rfl rfl rfl ?_)
      | (go_at_call 9; (with_reducible refine (j01 _).mono ?_); rintro e w1 ⟨rfl, hb⟩; have hk' := HK.out.call hb; clear hb HK; have HK := Lib.hid hk'; clear hk'))
    haveI : Nonempty (Kept fun u => Keep w [(w1.heap.size, joinL x0 x1), (w.heap.size + 1 + 1, x2), (w.heap.size + 1, x1), (w.heap.size, x0)] u) := ⟨⟨_, HK.out⟩⟩
    refine region_calm (S := fun u => Keep w [(w1.heap.size, joinL x0 x1), (w.heap.size + 1 + 1, x2), (w.heap.size + 1, x1), (w.heap.size, x0)] u) HK.out.drew (by kernel_rfl) (by kernel_rfl) ?_
    repeat (first
      | go_big_quiet_skip
      | (go_big_quiet_want
         first
           | (refine quiet_load_keep 0 _ rfl rfl LJ.out rfl ?_; simp only [Act.put, List.setIfInBounds_toArray, List.set_cons_zero, List.set_cons_succ]; go_big_quiet_on)
           | (refine quiet_load_keep 1 _ rfl rfl L2.out rfl ?_; simp only [Act.put, List.setIfInBounds_toArray, List.set_cons_zero, List.set_cons_succ]; go_big_quiet_on)
           | (refine quiet_load_keep 2 _ rfl rfl L1.out rfl ?_; simp only [Act.put, List.setIfInBounds_toArray, List.set_cons_zero, List.set_cons_succ]; go_big_quiet_on)
           | (refine quiet_load_keep 3 _ rfl rfl L0.out rfl ?_; simp only [Act.put, List.setIfInBounds_toArray, List.set_cons_zero, List.set_cons_succ]; go_big_quiet_on)
           | (go_big_quiet_op; go_big_quiet_on)
           | (go_big_quiet_op; go_big_quiet_call ((first
              | (go_at_call 9; with_reducible exact Keep.calls (j01 _))
              | (go_at_call 9; with_reducible exact Keep.calls (j10 _))
              | (go_at_call 9; with_reducible exact Keep.calls (j3 _))
              | (go_at_call 9; with_reducible exact Keep.calls (j12 _))
              | (go_at_call 9; with_reducible exact Keep.calls (j4 _))
              | (go_at_call 9; with_reducible exact Keep.calls (j00 _)))))))
    refine wpQuiet_nil ?_
    rintro _ ⟨⟨W, hW⟩, rfl⟩
    have HK := Lib.hid hW; clear hW
    go_wp2_with (first
      | (with_reducible refine wpList_load_keep HK.out 0 rfl _ rfl rfl rfl ?_)
      | (with_reducible refine wpList_load_keep HK.out 1 rfl _ rfl rfl rfl ?_)
      | (with_reducible refine wpList_load_keep HK.out 2 rfl _ rfl rfl rfl ?_)
      | (with_reducible refine wpList_load_keep HK.out 3 rfl _ rfl rfl rfl ?_)
      | (refine wpList_want_keep HK.out 0 _ rfl rfl rfl rfl ?_)
      | (refine wpList_want_keep HK.out 1 _ rfl rfl rfl rfl ?_)
      | (refine wpList_want_keep HK.out 2 _ rfl rfl rfl rfl ?_)
      | (refine wpList_want_keep HK.out 3 _ rfl rfl rfl rfl ?_)
      | (go_at_call 11; (with_reducible refine (o0 _).mono ?_); rintro e W0 ⟨rfl, hb⟩; have hk' := HK.out.call hb; clear hb HK; have HK := Lib.hid hk'; clear hk')
      | (go_at_call 11; (with_reducible refine (o1 _).mono ?_); rintro e W1 ⟨rfl, hb⟩; have hk' := HK.out.call hb; clear hb HK; have HK := Lib.hid hk'; clear hk')
      | (go_at_call 11; (with_reducible refine (o2 _).mono ?_); rintro e W2 ⟨rfl, hb⟩; have hk' := HK.out.call hb; clear hb HK; have HK := Lib.hid hk'; clear hk')
      | (go_at_call 15; (with_reducible refine (awake_any _).mono ?_); rintro e W9 ⟨rfl, hb⟩; have hk' := HK.out.call hb; clear hb HK; have HK := Lib.hid hk'; clear hk'))
    go_ret
    exact ⟨rfl, HK.out.1⟩
  | true =>
    have o2 : ∀ W, Calls Try.prog 11 #[.agg (vals x2).toArray, .agg (vals x0).toArray] W fun e w' => e = .returned (.bool true) ∧ Below W.heap.size W w' := fun W => by have h := over_any x2 x0 l2 l0 W; rw [p] at h; exact h
    cases q : overB x2 x1 with
    | false =>
      have o3 : ∀ W, Calls Try.prog 11 #[.agg (vals x2).toArray, .agg (vals x1).toArray] W fun e w' => e = .returned (.bool false) ∧ Below W.heap.size W w' := fun W => by have h := over_any x2 x1 l2 l1 W; rw [q] at h; exact h
      clear p q
      have L0 := Lib.hid l0; have L1 := Lib.hid l1; have L2 := Lib.hid l2; have LJ := Lib.hid lj
      have HK := Lib.hid (keep3 w l0 l1 l2)
      clear l0 l1 l2 lj lk r0 r1 r2
      go_enter Try.func5, Try.ntmps5
      go_wp2_with (first
        | (with_reducible refine wpList_store_new rfl rfl _ _ rfl (joinL x0 x1) rfl rfl LJ.out ?_; intro w2 hA hb hs; have hk' := (HK.out.call hb).cons hA LJ.out; clear hA hb hs HK; have HK := Lib.hid hk'; clear hk')
        | (with_reducible refine wpList_load_keep HK.out 0 rfl _ rfl rfl rfl ?_)
        | (with_reducible refine wpList_load_keep HK.out 1 rfl _ rfl rfl rfl ?_)
        | (with_reducible refine wpList_load_keep HK.out 2 rfl _ rfl rfl rfl ?_)
        | (refine wpList_want_keep HK.out 0 _ rfl rfl rfl rfl ?_)
        | (refine wpList_want_keep HK.out 1 _ rfl rfl rfl rfl ?_)
        | (refine wpList_want_keep HK.out 2 _ rfl rfl rfl rfl ?_)
        | (go_at_call 9; (with_reducible refine (j01 _).mono ?_); rintro e w1 ⟨rfl, hb⟩; have hk' := HK.out.call hb; clear hb HK; have HK := Lib.hid hk'; clear hk'))
      haveI : Nonempty (Kept fun u => Keep w [(w1.heap.size, joinL x0 x1), (w.heap.size + 1 + 1, x2), (w.heap.size + 1, x1), (w.heap.size, x0)] u) := ⟨⟨_, HK.out⟩⟩
      refine region_calm (S := fun u => Keep w [(w1.heap.size, joinL x0 x1), (w.heap.size + 1 + 1, x2), (w.heap.size + 1, x1), (w.heap.size, x0)] u) HK.out.drew (by kernel_rfl) (by kernel_rfl) ?_
      repeat (first
        | go_big_quiet_skip
        | (go_big_quiet_want
           first
             | (refine quiet_load_keep 0 _ rfl rfl LJ.out rfl ?_; simp only [Act.put, List.setIfInBounds_toArray, List.set_cons_zero, List.set_cons_succ]; go_big_quiet_on)
             | (refine quiet_load_keep 1 _ rfl rfl L2.out rfl ?_; simp only [Act.put, List.setIfInBounds_toArray, List.set_cons_zero, List.set_cons_succ]; go_big_quiet_on)
             | (refine quiet_load_keep 2 _ rfl rfl L1.out rfl ?_; simp only [Act.put, List.setIfInBounds_toArray, List.set_cons_zero, List.set_cons_succ]; go_big_quiet_on)
             | (refine quiet_load_keep 3 _ rfl rfl L0.out rfl ?_; simp only [Act.put, List.setIfInBounds_toArray, List.set_cons_zero, List.set_cons_succ]; go_big_quiet_on)
             | (go_big_quiet_op; go_big_quiet_on)
             | (go_big_quiet_op; go_big_quiet_call ((first
                | (go_at_call 9; with_reducible exact Keep.calls (j01 _))
                | (go_at_call 9; with_reducible exact Keep.calls (j10 _))
                | (go_at_call 9; with_reducible exact Keep.calls (j3 _))
                | (go_at_call 9; with_reducible exact Keep.calls (j12 _))
                | (go_at_call 9; with_reducible exact Keep.calls (j4 _))
                | (go_at_call 9; with_reducible exact Keep.calls (j00 _)))))))
      refine wpQuiet_nil ?_
      rintro _ ⟨⟨W, hW⟩, rfl⟩
      have HK := Lib.hid hW; clear hW
      go_wp2_with (first
        | (with_reducible refine wpList_load_keep HK.out 0 rfl _ rfl rfl rfl ?_)
        | (with_reducible refine wpList_load_keep HK.out 1 rfl _ rfl rfl rfl ?_)
        | (with_reducible refine wpList_load_keep HK.out 2 rfl _ rfl rfl rfl ?_)
        | (with_reducible refine wpList_load_keep HK.out 3 rfl _ rfl rfl rfl ?_)
        | (refine wpList_want_keep HK.out 0 _ rfl rfl rfl rfl ?_)
        | (refine wpList_want_keep HK.out 1 _ rfl rfl rfl rfl ?_)
        | (refine wpList_want_keep HK.out 2 _ rfl rfl rfl rfl ?_)
        | (refine wpList_want_keep HK.out 3 _ rfl rfl rfl rfl ?_)
        | (go_at_call 11; (with_reducible refine (o0 _).mono ?_); rintro e W0 ⟨rfl, hb⟩; have hk' := HK.out.call hb; clear hb HK; have HK := Lib.hid hk'; clear hk')
        | (go_at_call 11; (with_reducible refine (o1 _).mono ?_); rintro e W1 ⟨rfl, hb⟩; have hk' := HK.out.call hb; clear hb HK; have HK := Lib.hid hk'; clear hk')
        | (go_at_call 11; (with_reducible refine (o2 _).mono ?_); rintro e W2 ⟨rfl, hb⟩; have hk' := HK.out.call hb; clear hb HK; have HK := Lib.hid hk'; clear hk')
        | (go_at_call 11; (with_reducible refine (o3 _).mono ?_); rintro e W3 ⟨rfl, hb⟩; have hk' := HK.out.call hb; clear hb HK; have HK := Lib.hid hk'; clear hk')
        | (go_at_call 15; (with_reducible refine (awake_any _).mono ?_); rintro e W9 ⟨rfl, hb⟩; have hk' := HK.out.call hb; clear hb HK; have HK := Lib.hid hk'; clear hk'))
      go_ret
      exact ⟨rfl, HK.out.1⟩
    | true =>
      have o3 : ∀ W, Calls Try.prog 11 #[.agg (vals x2).toArray, .agg (vals x1).toArray] W fun e w' => e = .returned (.bool true) ∧ Below W.heap.size W w' := fun W => by have h := over_any x2 x1 l2 l1 W; rw [q] at h; exact h
      have o4 : ∀ W, Calls Try.prog 11 #[.agg (vals x2).toArray, .agg (vals (joinL x0 x1)).toArray] W fun e w' => e = .returned (.bool true) ∧ Below W.heap.size W w' := fun W => by have h := over_any x2 (joinL x0 x1) l2 lj W; rw [over_least l0 l1 l2 p q] at h; exact h
      clear p q
      have L0 := Lib.hid l0; have L1 := Lib.hid l1; have L2 := Lib.hid l2; have LJ := Lib.hid lj
      have HK := Lib.hid (keep3 w l0 l1 l2)
      clear l0 l1 l2 lj lk r0 r1 r2
      go_enter Try.func5, Try.ntmps5
      go_wp2_with (first
        | (with_reducible refine wpList_store_new rfl rfl _ _ rfl (joinL x0 x1) rfl rfl LJ.out ?_; intro w2 hA hb hs; have hk' := (HK.out.call hb).cons hA LJ.out; clear hA hb hs HK; have HK := Lib.hid hk'; clear hk')
        | (with_reducible refine wpList_load_keep HK.out 0 rfl _ rfl rfl rfl ?_)
        | (with_reducible refine wpList_load_keep HK.out 1 rfl _ rfl rfl rfl ?_)
        | (with_reducible refine wpList_load_keep HK.out 2 rfl _ rfl rfl rfl ?_)
        | (refine wpList_want_keep HK.out 0 _ rfl rfl rfl rfl ?_)
        | (refine wpList_want_keep HK.out 1 _ rfl rfl rfl rfl ?_)
        | (refine wpList_want_keep HK.out 2 _ rfl rfl rfl rfl ?_)
        | (go_at_call 9; (with_reducible refine (j01 _).mono ?_); rintro e w1 ⟨rfl, hb⟩; have hk' := HK.out.call hb; clear hb HK; have HK := Lib.hid hk'; clear hk'))
      haveI : Nonempty (Kept fun u => Keep w [(w1.heap.size, joinL x0 x1), (w.heap.size + 1 + 1, x2), (w.heap.size + 1, x1), (w.heap.size, x0)] u) := ⟨⟨_, HK.out⟩⟩
      refine region_calm (S := fun u => Keep w [(w1.heap.size, joinL x0 x1), (w.heap.size + 1 + 1, x2), (w.heap.size + 1, x1), (w.heap.size, x0)] u) HK.out.drew (by kernel_rfl) (by kernel_rfl) ?_
      repeat (first
        | go_big_quiet_skip
        | (go_big_quiet_want
           first
             | (refine quiet_load_keep 0 _ rfl rfl LJ.out rfl ?_; simp only [Act.put, List.setIfInBounds_toArray, List.set_cons_zero, List.set_cons_succ]; go_big_quiet_on)
             | (refine quiet_load_keep 1 _ rfl rfl L2.out rfl ?_; simp only [Act.put, List.setIfInBounds_toArray, List.set_cons_zero, List.set_cons_succ]; go_big_quiet_on)
             | (refine quiet_load_keep 2 _ rfl rfl L1.out rfl ?_; simp only [Act.put, List.setIfInBounds_toArray, List.set_cons_zero, List.set_cons_succ]; go_big_quiet_on)
             | (refine quiet_load_keep 3 _ rfl rfl L0.out rfl ?_; simp only [Act.put, List.setIfInBounds_toArray, List.set_cons_zero, List.set_cons_succ]; go_big_quiet_on)
             | (go_big_quiet_op; go_big_quiet_on)
             | (go_big_quiet_op; go_big_quiet_call ((first
                | (go_at_call 9; with_reducible exact Keep.calls (j01 _))
                | (go_at_call 9; with_reducible exact Keep.calls (j10 _))
                | (go_at_call 9; with_reducible exact Keep.calls (j3 _))
                | (go_at_call 9; with_reducible exact Keep.calls (j12 _))
                | (go_at_call 9; with_reducible exact Keep.calls (j4 _))
                | (go_at_call 9; with_reducible exact Keep.calls (j00 _)))))))
      refine wpQuiet_nil ?_
      rintro _ ⟨⟨W, hW⟩, rfl⟩
      have HK := Lib.hid hW; clear hW
      go_wp2_with (first
        | (with_reducible refine wpList_load_keep HK.out 0 rfl _ rfl rfl rfl ?_)
        | (with_reducible refine wpList_load_keep HK.out 1 rfl _ rfl rfl rfl ?_)
        | (with_reducible refine wpList_load_keep HK.out 2 rfl _ rfl rfl rfl ?_)
        | (with_reducible refine wpList_load_keep HK.out 3 rfl _ rfl rfl rfl ?_)
        | (refine wpList_want_keep HK.out 0 _ rfl rfl rfl rfl ?_)
        | (refine wpList_want_keep HK.out 1 _ rfl rfl rfl rfl ?_)
        | (refine wpList_want_keep HK.out 2 _ rfl rfl rfl rfl ?_)
        | (refine wpList_want_keep HK.out 3 _ rfl rfl rfl rfl ?_)
        | (go_at_call 11; (with_reducible refine (o0 _).mono ?_); rintro e W0 ⟨rfl, hb⟩; have hk' := HK.out.call hb; clear hb HK; have HK := Lib.hid hk'; clear hk')
        | (go_at_call 11; (with_reducible refine (o1 _).mono ?_); rintro e W1 ⟨rfl, hb⟩; have hk' := HK.out.call hb; clear hb HK; have HK := Lib.hid hk'; clear hk')
        | (go_at_call 11; (with_reducible refine (o2 _).mono ?_); rintro e W2 ⟨rfl, hb⟩; have hk' := HK.out.call hb; clear hb HK; have HK := Lib.hid hk'; clear hk')
        | (go_at_call 11; (with_reducible refine (o3 _).mono ?_); rintro e W3 ⟨rfl, hb⟩; have hk' := HK.out.call hb; clear hb HK; have HK := Lib.hid hk'; clear hk')
        | (go_at_call 11; (with_reducible refine (o4 _).mono ?_); rintro e W4 ⟨rfl, hb⟩; have hk' := HK.out.call hb; clear hb HK; have HK := Lib.hid hk'; clear hk')
        | (go_at_call 15; (with_reducible refine (awake_any _).mono ?_); rintro e W9 ⟨rfl, hb⟩; have hk' := HK.out.call hb; clear hb HK; have HK := Lib.hid hk'; clear hk'))
      go_ret
      exact ⟨rfl, HK.out.1⟩

set_option maxRecDepth 100000 in
theorem lifted (os : Os) (started : os.Started) (H : Type) (enc : TypeId × Value → H) :
    ReturnsInHanded {} Try.checked os 5 .any (Rows.vecLawsSpec.pre6 enc Try.prog Try.f5 Rows.vecLawsRow.domain false) (Rows.vecLawsSpec.post enc Try.prog Try.f5 false true false false) := by
  refine returnsInHanded_of_change (C := Try.checked) own started (by kernel_rfl) Try.func5
    (ChangeSpec.witness6 (enc := enc) (C := Try.checked) false ⟨#[], #[.agg #[.int .i64 0, .int .i64 0, .int .i64 0, .int .i64 0, .int .i64 0, .int .i64 0, .int .i64 0, .int .i64 0, .int .i64 0, .int .i64 0, .int .i64 0, .int .i64 0, .int .i64 0, .int .i64 0, .int .i64 0, .int .i64 0], .agg #[.int .i64 0, .int .i64 0, .int .i64 0, .int .i64 0, .int .i64 0, .int .i64 0, .int .i64 0, .int .i64 0, .int .i64 0, .int .i64 0, .int .i64 0, .int .i64 0, .int .i64 0, .int .i64 0, .int .i64 0, .int .i64 0], .agg #[.int .i64 0, .int .i64 0, .int .i64 0, .int .i64 0, .int .i64 0, .int .i64 0, .int .i64 0, .int .i64 0, .int .i64 0, .int .i64 0, .int .i64 0, .int .i64 0, .int .i64 0, .int .i64 0, .int .i64 0, .int .i64 0]], []⟩ 8 (by kernel_rfl) (by kernel_rfl) (by kernel_rfl) (by kernel_rfl)) ?_
  intro W base args ds gs before hval0 hW hcnd _
  have hval : ∀ (j : Nat) t v, Try.f5.params[j]? = some t → args[j]? = some v → Value.okWide Try.prog W .any base t v := hval0
  have hW' := hW
  obtain ⟨p, q, hA0, hV, rfl, hfz, hnd⟩ := hW
  have hA : DataW.TrodAll enc Try.prog W 0 (fun _ => true) true Try.f5.params.toList args.toList ds p := hA0
  rw [Try.params5] at hA hval
  obtain ⟨v0, vs0, d0, ds0, p0, q0, hargs, rfl, rfl, h0, r0⟩ := trodAll_cons hA
  obtain ⟨v1, vs1, d1, ds1, p1, q1, rfl, rfl, rfl, h1, r1⟩ := trodAll_cons r0
  obtain ⟨v2, vs2, d2, ds2, p2, q2, rfl, rfl, rfl, h2, r2⟩ := trodAll_cons r1
  obtain ⟨rfl, rfl, rfl⟩ := trodAll_nil r2
  obtain rfl : args = #[v0, v1, v2] := by cases args; simp_all
  obtain ⟨rfl, rfl⟩ := trodVars_none hV
  have k0 := h0
  have lt0 : ∀ x ∈ p0, x.block < W.heap.size := by obtain ⟨m, hm⟩ := k0; exact DataW.trod_lt m _ _ _ hm
  obtain ⟨x0, rfl, l0, z0⟩ := open_vec (hval 0 23 v0 rfl rfl) h0
  have k1 := h1
  have lt1 : ∀ x ∈ p1, x.block < W.heap.size := by obtain ⟨m, hm⟩ := k1; exact DataW.trod_lt m _ _ _ hm
  obtain ⟨x1, rfl, l1, z1⟩ := open_vec (hval 1 23 v1 rfl rfl) h1
  have k2 := h2
  have lt2 : ∀ x ∈ p2, x.block < W.heap.size := by obtain ⟨m, hm⟩ := k2; exact DataW.trod_lt m _ _ _ hm
  obtain ⟨x2, rfl, l2, z2⟩ := open_vec (hval 2 23 v2 rfl rfl) h2
  clear hA0 hval0
  refine (walk x0 l0 z0 x1 l1 z1 x2 l2 z2 W).mono fun e W' ⟨he, bel⟩ => ?_
  subst he
  exact ⟨_, rfl, _, _, _, [], _, [], hW', trodAll_mk1 (shut_bool Try.underlying4 _), (trodAll_cons_mk (Below.trod laidOut (by kernel_rfl) (of_decide_eq_true (by kernel_rfl)) k0 bel lt0) (trodAll_cons_mk (Below.trod laidOut (by kernel_rfl) (of_decide_eq_true (by kernel_rfl)) k1 bel lt1) (trodAll_cons_mk (Below.trod laidOut (by kernel_rfl) (of_decide_eq_true (by kernel_rfl)) k2 bel lt2) trodAll_mk0))), rfl, bel.frame _, fun h => by cases h⟩

theorem over : Rows.vecLawsRow.holds Try.pinned (OpenSpec.ofChange Rows.vecLawsSpec) :=
  OpenClaim.holds_of_wide 5 Try.f5 rfl rfl rfl rfl rfl rfl rfl ⟨rfl, rfl, rfl, rfl, rfl⟩ rfl rfl rfl rfl rfl (by kernel_rfl) Try.func5 (by kernel_rfl)
    (of_decide_eq_true (by kernel_rfl)) (by unfold Func.isWrapper; first | (rw [if_pos (by decide +kernel)]; kernel_rfl) | (rw [if_neg (by decide +kernel)]; exact ⟨rfl, rfl⟩))
    (fun os started H enc _ => lifted os started H enc)

theorem proved : Rows.VecLawsSaid := over
#print axioms proved
end Go.Proofs.Ytjgdgoiogdappaa.vecLaws
