/- For every three locks usufructlaw05.LockLine returns true, and each argument reads as before. No condition. -/
import Derived.Test.YtbaacdkjdkkifaaLkJoin
import Derived.WalkKit
import Derived.ProofKit
import Derived.OpenShut
import Derived.ChangeOld
import Derived.Below
namespace Go.Proofs.Ytbaacdkjdkkifaa.lockLine
open Go.ChangeShapes Go.WideShapes Go.ChangeAt Go.RowKit
set_option linter.unusedVariables false

theorem own : ownKnob Try.prog.godebug = none := by kernel_rfl
theorem laidOut : laidOutB Try.prog = true := by kernel_rfl

set_option maxRecDepth 100000 in
set_option maxHeartbeats 4000000 in
theorem walk (x0 : Lk) (x1 : Lk) (x2 : Lk) (w : World) :
    Calls Try.prog 7 #[.agg (vals x0.l).toArray, .agg (vals x1.l).toArray, .agg (vals x2.l).toArray] w fun e w' => e = .returned (.bool true) ∧ Below w.heap.size w w' := by
  have c1 := compare_any x0 x1
  have c2 := compare_any x1 x2
  have c3 := compare_any x0 x2
  have c4 := compare_any x1 x0
  have q := eql_lk x0 x1
  have hge := lk_guard
  have HK := Lib.hid (KeepR.start w)
  rw [cmp_flip x0 x1] at c4
  rcases cmp_three x0 x1 with hx | hx | hx
  · have hne : (x0.l == x1.l) = false := Lk.beq_false (fun e => by have := cmp_zero.2 e; omega)
    rw [hne] at q
    rw [hx] at c1 c4
    clear hx hne
    generalize cmpL x1 x2 = y at c2
    generalize cmpL x0 x2 = z at c3
    go_enter Try.func7, Try.ntmps7
    go_wp2_with (first
      | (with_reducible refine box_new (R := x0.l) HK.out rfl _ rfl rfl ?_; intro b0 u hk hb; clear hb; clear HK; have HK := Lib.hid hk; clear hk)
      | (with_reducible refine box_new (R := x1.l) HK.out rfl _ rfl rfl ?_; intro b1 u hk hb; clear hb; clear HK; have HK := Lib.hid hk; clear hk)
      | (with_reducible refine box_new (R := x2.l) HK.out rfl _ rfl rfl ?_; intro b2 u hk hb; clear hb; clear HK; have HK := Lib.hid hk; clear hk))
    refine Draws.start (S := fun u => KeepR w [(b2, 23, x2.l), (b1, 23, x1.l), (b0, 23, x0.l)] u) (n := 12) 12 rfl (by kernel_rfl) ?_
    have HS := Lib.hid ((HK.out.drew : (fun u => KeepR w [(b2, 23, x2.l), (b1, 23, x1.l), (b0, 23, x0.l)] u) _))
    refine Draws.take 0 HS.out rfl (by kernel_rfl) (fun _ _ _ h => h) (yield_all (fun _ h => h) 2 4 Try.underlying23 rfl lk_info rfl _ rfl rfl rfl (Lk.len _)) ?_
    (try simp only [Act.put, List.setIfInBounds_toArray, List.set_cons_zero, List.set_cons_succ])
    refine Draws.take 1 HS.out rfl (by kernel_rfl) (fun _ _ _ h => h) (yield_all (fun _ h => h) 1 4 Try.underlying23 rfl lk_info rfl _ rfl rfl rfl (Lk.len _)) ?_
    (try simp only [Act.put, List.setIfInBounds_toArray, List.set_cons_zero, List.set_cons_succ])
    refine Draws.take 3 HS.out rfl (by kernel_rfl) (fun _ _ _ h => h) (yield_all (fun _ h => h) 1 4 Try.underlying23 rfl lk_info rfl _ rfl rfl rfl (Lk.len _)) ?_
    (try simp only [Act.put, List.setIfInBounds_toArray, List.set_cons_zero, List.set_cons_succ])
    refine Draws.take 4 HS.out rfl (by kernel_rfl) (fun _ _ _ h => h) (yield_all (fun _ h => h) 0 4 Try.underlying23 rfl lk_info rfl _ rfl rfl rfl (Lk.len _)) ?_
    (try simp only [Act.put, List.setIfInBounds_toArray, List.set_cons_zero, List.set_cons_succ])
    refine Draws.take 6 HS.out rfl (by kernel_rfl) (fun _ _ _ h => h) (yield_all (fun _ h => h) 2 4 Try.underlying23 rfl lk_info rfl _ rfl rfl rfl (Lk.len _)) ?_
    (try simp only [Act.put, List.setIfInBounds_toArray, List.set_cons_zero, List.set_cons_succ])
    refine Draws.take 7 HS.out rfl (by kernel_rfl) (fun _ _ _ h => h) (yield_all (fun _ h => h) 0 4 Try.underlying23 rfl lk_info rfl _ rfl rfl rfl (Lk.len _)) ?_
    (try simp only [Act.put, List.setIfInBounds_toArray, List.set_cons_zero, List.set_cons_succ])
    refine Draws.does 2 rfl (by kernel_rfl) rfl (fun K hK => ?_)
    go_simp
    go_at_call 10
    refine (c1 _).mono ?_
    rintro e u ⟨rfl, hb⟩
    (try dsimp only)
    refine hK.out _ _ (fun _ => HS.out.call hb) ?_
    clear hK K
    have hs : (fun u => KeepR w [(b2, 23, x2.l), (b1, 23, x1.l), (b0, 23, x0.l)] u) u := HS.out.call hb
    clear HS
    have HS := Lib.hid hs; clear hs
    (try simp only [Act.put, List.setIfInBounds_toArray, List.set_cons_zero, List.set_cons_succ])
    clear hb
    refine Draws.does 5 rfl (by kernel_rfl) rfl (fun K hK => ?_)
    go_simp
    go_at_call 10
    refine (c2 _).mono ?_
    rintro e u ⟨rfl, hb⟩
    (try dsimp only)
    refine hK.out _ _ (fun _ => HS.out.call hb) ?_
    clear hK K
    have hs : (fun u => KeepR w [(b2, 23, x2.l), (b1, 23, x1.l), (b0, 23, x0.l)] u) u := HS.out.call hb
    clear HS
    have HS := Lib.hid hs; clear hs
    (try simp only [Act.put, List.setIfInBounds_toArray, List.set_cons_zero, List.set_cons_succ])
    clear hb
    refine Draws.does 8 rfl (by kernel_rfl) rfl (fun K hK => ?_)
    go_simp
    go_at_call 10
    refine (c3 _).mono ?_
    rintro e u ⟨rfl, hb⟩
    (try dsimp only)
    refine hK.out _ _ (fun _ => HS.out.call hb) ?_
    clear hK K
    have hs : (fun u => KeepR w [(b2, 23, x2.l), (b1, 23, x1.l), (b0, 23, x0.l)] u) u := HS.out.call hb
    clear HS
    have HS := Lib.hid hs; clear hs
    (try simp only [Act.put, List.setIfInBounds_toArray, List.set_cons_zero, List.set_cons_succ])
    clear hb
    refine Draws.take 9 (v := ?v1) HS.out rfl (by kernel_rfl) (fun _ _ _ h => h) (Or.inl ⟨rfl, ?h1⟩) ?r1
    case h1 => intro w' hw'; go_simp; (try with_reducible rfl)
    (try simp only [Act.put, List.setIfInBounds_toArray, List.set_cons_zero, List.set_cons_succ])
    refine Draws.take 10 (v := ?v2) HS.out rfl (by kernel_rfl) (fun _ _ _ h => h) (Or.inl ⟨rfl, ?h2⟩) ?r2
    case h2 => intro w' hw'; go_simp; (try with_reducible rfl)
    (try simp only [Act.put, List.setIfInBounds_toArray, List.set_cons_zero, List.set_cons_succ])
    refine Draws.take 11 (v := ?v3) HS.out rfl (by kernel_rfl) (fun _ _ _ h => h) (Or.inl ⟨rfl, ?h3⟩) ?r3
    case h3 => intro w' hw'; go_simp; (try with_reducible rfl)
    (try simp only [Act.put, List.setIfInBounds_toArray, List.set_cons_zero, List.set_cons_succ])
    refine Draws.done (by kernel_rfl) ?_
    clear HK
    have HK := Lib.hid HS.out; clear HS
    go_wp2_with (first
      | (with_reducible refine load_all HK.out 1 4 Try.underlying23 rfl lk_info rfl _ rfl rfl rfl (Lk.len _) ?_)
      | (with_reducible refine load_all HK.out 2 4 Try.underlying23 rfl lk_info rfl _ rfl rfl rfl (Lk.len _) ?_)
      | (refine load_all_want HK.out 1 4 Try.underlying23 rfl lk_info _ rfl rfl rfl rfl (Lk.len _) ?_)
      | (refine load_all_want HK.out 2 4 Try.underlying23 rfl lk_info _ rfl rfl rfl rfl (Lk.len _) ?_)
      | (go_at_call 10; (with_reducible refine (c4 _).mono ?_); rintro e u ⟨rfl, hb⟩; have hk := HK.out.call hb; clear hb; clear HK; have HK := Lib.hid hk; clear hk)
      | (go_at_call 13; (with_reducible refine (awake5 _).mono ?_); rintro e u ⟨rfl, hb⟩; have hk := HK.out.call hb; clear hb; clear HK; have HK := Lib.hid hk; clear hk))
    go_ret
    exact ⟨rfl, HK.out.bel⟩
  · have he : (x0.l == x1.l) = true := Lk.beq_iff.2 (cmp_zero.1 hx)
    have hz : cmpL x0 x2 = cmpL x1 x2 := by rw [cmp_zero.1 hx]
    rw [he] at q
    rw [hx] at c1 c4
    rw [hz] at c3
    clear hx he hz
    rcases cmp_three x1 x2 with hy | hy | hy
    · rw [hy] at c2 c3
      clear hy
      go_enter Try.func7, Try.ntmps7
      go_wp2_with (first
        | (with_reducible refine box_new (R := x0.l) HK.out rfl _ rfl rfl ?_; intro b0 u hk hb; clear hb; clear HK; have HK := Lib.hid hk; clear hk)
        | (with_reducible refine box_new (R := x1.l) HK.out rfl _ rfl rfl ?_; intro b1 u hk hb; clear hb; clear HK; have HK := Lib.hid hk; clear hk)
        | (with_reducible refine box_new (R := x2.l) HK.out rfl _ rfl rfl ?_; intro b2 u hk hb; clear hb; clear HK; have HK := Lib.hid hk; clear hk))
      refine Draws.start (S := fun u => KeepR w [(b2, 23, x2.l), (b1, 23, x1.l), (b0, 23, x0.l)] u) (n := 12) 12 rfl (by kernel_rfl) ?_
      have HS := Lib.hid ((HK.out.drew : (fun u => KeepR w [(b2, 23, x2.l), (b1, 23, x1.l), (b0, 23, x0.l)] u) _))
      refine Draws.take 0 HS.out rfl (by kernel_rfl) (fun _ _ _ h => h) (yield_all (fun _ h => h) 2 4 Try.underlying23 rfl lk_info rfl _ rfl rfl rfl (Lk.len _)) ?_
      (try simp only [Act.put, List.setIfInBounds_toArray, List.set_cons_zero, List.set_cons_succ])
      refine Draws.take 1 HS.out rfl (by kernel_rfl) (fun _ _ _ h => h) (yield_all (fun _ h => h) 1 4 Try.underlying23 rfl lk_info rfl _ rfl rfl rfl (Lk.len _)) ?_
      (try simp only [Act.put, List.setIfInBounds_toArray, List.set_cons_zero, List.set_cons_succ])
      refine Draws.take 3 HS.out rfl (by kernel_rfl) (fun _ _ _ h => h) (yield_all (fun _ h => h) 1 4 Try.underlying23 rfl lk_info rfl _ rfl rfl rfl (Lk.len _)) ?_
      (try simp only [Act.put, List.setIfInBounds_toArray, List.set_cons_zero, List.set_cons_succ])
      refine Draws.take 4 HS.out rfl (by kernel_rfl) (fun _ _ _ h => h) (yield_all (fun _ h => h) 0 4 Try.underlying23 rfl lk_info rfl _ rfl rfl rfl (Lk.len _)) ?_
      (try simp only [Act.put, List.setIfInBounds_toArray, List.set_cons_zero, List.set_cons_succ])
      refine Draws.take 6 HS.out rfl (by kernel_rfl) (fun _ _ _ h => h) (yield_all (fun _ h => h) 2 4 Try.underlying23 rfl lk_info rfl _ rfl rfl rfl (Lk.len _)) ?_
      (try simp only [Act.put, List.setIfInBounds_toArray, List.set_cons_zero, List.set_cons_succ])
      refine Draws.take 7 HS.out rfl (by kernel_rfl) (fun _ _ _ h => h) (yield_all (fun _ h => h) 0 4 Try.underlying23 rfl lk_info rfl _ rfl rfl rfl (Lk.len _)) ?_
      (try simp only [Act.put, List.setIfInBounds_toArray, List.set_cons_zero, List.set_cons_succ])
      refine Draws.does 2 rfl (by kernel_rfl) rfl (fun K hK => ?_)
      go_simp
      go_at_call 10
      refine (c1 _).mono ?_
      rintro e u ⟨rfl, hb⟩
      (try dsimp only)
      refine hK.out _ _ (fun _ => HS.out.call hb) ?_
      clear hK K
      have hs : (fun u => KeepR w [(b2, 23, x2.l), (b1, 23, x1.l), (b0, 23, x0.l)] u) u := HS.out.call hb
      clear HS
      have HS := Lib.hid hs; clear hs
      (try simp only [Act.put, List.setIfInBounds_toArray, List.set_cons_zero, List.set_cons_succ])
      clear hb
      refine Draws.does 5 rfl (by kernel_rfl) rfl (fun K hK => ?_)
      go_simp
      go_at_call 10
      refine (c2 _).mono ?_
      rintro e u ⟨rfl, hb⟩
      (try dsimp only)
      refine hK.out _ _ (fun _ => HS.out.call hb) ?_
      clear hK K
      have hs : (fun u => KeepR w [(b2, 23, x2.l), (b1, 23, x1.l), (b0, 23, x0.l)] u) u := HS.out.call hb
      clear HS
      have HS := Lib.hid hs; clear hs
      (try simp only [Act.put, List.setIfInBounds_toArray, List.set_cons_zero, List.set_cons_succ])
      clear hb
      refine Draws.does 8 rfl (by kernel_rfl) rfl (fun K hK => ?_)
      go_simp
      go_at_call 10
      refine (c3 _).mono ?_
      rintro e u ⟨rfl, hb⟩
      (try dsimp only)
      refine hK.out _ _ (fun _ => HS.out.call hb) ?_
      clear hK K
      have hs : (fun u => KeepR w [(b2, 23, x2.l), (b1, 23, x1.l), (b0, 23, x0.l)] u) u := HS.out.call hb
      clear HS
      have HS := Lib.hid hs; clear hs
      (try simp only [Act.put, List.setIfInBounds_toArray, List.set_cons_zero, List.set_cons_succ])
      clear hb
      refine Draws.take 9 (v := ?v4) HS.out rfl (by kernel_rfl) (fun _ _ _ h => h) (Or.inl ⟨rfl, ?h4⟩) ?r4
      case h4 => intro w' hw'; go_simp; (try with_reducible rfl)
      (try simp only [Act.put, List.setIfInBounds_toArray, List.set_cons_zero, List.set_cons_succ])
      refine Draws.take 10 (v := ?v5) HS.out rfl (by kernel_rfl) (fun _ _ _ h => h) (Or.inl ⟨rfl, ?h5⟩) ?r5
      case h5 => intro w' hw'; go_simp; (try with_reducible rfl)
      (try simp only [Act.put, List.setIfInBounds_toArray, List.set_cons_zero, List.set_cons_succ])
      refine Draws.take 11 (v := ?v6) HS.out rfl (by kernel_rfl) (fun _ _ _ h => h) (Or.inl ⟨rfl, ?h6⟩) ?r6
      case h6 => intro w' hw'; go_simp; (try with_reducible rfl)
      (try simp only [Act.put, List.setIfInBounds_toArray, List.set_cons_zero, List.set_cons_succ])
      refine Draws.done (by kernel_rfl) ?_
      clear HK
      have HK := Lib.hid HS.out; clear HS
      go_wp2_with (first
        | (with_reducible refine load_all HK.out 1 4 Try.underlying23 rfl lk_info rfl _ rfl rfl rfl (Lk.len _) ?_)
        | (with_reducible refine load_all HK.out 2 4 Try.underlying23 rfl lk_info rfl _ rfl rfl rfl (Lk.len _) ?_)
        | (refine load_all_want HK.out 1 4 Try.underlying23 rfl lk_info _ rfl rfl rfl rfl (Lk.len _) ?_)
        | (refine load_all_want HK.out 2 4 Try.underlying23 rfl lk_info _ rfl rfl rfl rfl (Lk.len _) ?_)
        | (go_at_call 10; (with_reducible refine (c4 _).mono ?_); rintro e u ⟨rfl, hb⟩; have hk := HK.out.call hb; clear hb; clear HK; have HK := Lib.hid hk; clear hk)
        | (go_at_call 13; (with_reducible refine (awake5 _).mono ?_); rintro e u ⟨rfl, hb⟩; have hk := HK.out.call hb; clear hb; clear HK; have HK := Lib.hid hk; clear hk))
      go_ret
      exact ⟨rfl, HK.out.bel⟩
    · rw [hy] at c2 c3
      clear hy
      go_enter Try.func7, Try.ntmps7
      go_wp2_with (first
        | (with_reducible refine box_new (R := x0.l) HK.out rfl _ rfl rfl ?_; intro b0 u hk hb; clear hb; clear HK; have HK := Lib.hid hk; clear hk)
        | (with_reducible refine box_new (R := x1.l) HK.out rfl _ rfl rfl ?_; intro b1 u hk hb; clear hb; clear HK; have HK := Lib.hid hk; clear hk)
        | (with_reducible refine box_new (R := x2.l) HK.out rfl _ rfl rfl ?_; intro b2 u hk hb; clear hb; clear HK; have HK := Lib.hid hk; clear hk))
      refine Draws.start (S := fun u => KeepR w [(b2, 23, x2.l), (b1, 23, x1.l), (b0, 23, x0.l)] u) (n := 12) 12 rfl (by kernel_rfl) ?_
      have HS := Lib.hid ((HK.out.drew : (fun u => KeepR w [(b2, 23, x2.l), (b1, 23, x1.l), (b0, 23, x0.l)] u) _))
      refine Draws.take 0 HS.out rfl (by kernel_rfl) (fun _ _ _ h => h) (yield_all (fun _ h => h) 2 4 Try.underlying23 rfl lk_info rfl _ rfl rfl rfl (Lk.len _)) ?_
      (try simp only [Act.put, List.setIfInBounds_toArray, List.set_cons_zero, List.set_cons_succ])
      refine Draws.take 1 HS.out rfl (by kernel_rfl) (fun _ _ _ h => h) (yield_all (fun _ h => h) 1 4 Try.underlying23 rfl lk_info rfl _ rfl rfl rfl (Lk.len _)) ?_
      (try simp only [Act.put, List.setIfInBounds_toArray, List.set_cons_zero, List.set_cons_succ])
      refine Draws.take 3 HS.out rfl (by kernel_rfl) (fun _ _ _ h => h) (yield_all (fun _ h => h) 1 4 Try.underlying23 rfl lk_info rfl _ rfl rfl rfl (Lk.len _)) ?_
      (try simp only [Act.put, List.setIfInBounds_toArray, List.set_cons_zero, List.set_cons_succ])
      refine Draws.take 4 HS.out rfl (by kernel_rfl) (fun _ _ _ h => h) (yield_all (fun _ h => h) 0 4 Try.underlying23 rfl lk_info rfl _ rfl rfl rfl (Lk.len _)) ?_
      (try simp only [Act.put, List.setIfInBounds_toArray, List.set_cons_zero, List.set_cons_succ])
      refine Draws.take 6 HS.out rfl (by kernel_rfl) (fun _ _ _ h => h) (yield_all (fun _ h => h) 2 4 Try.underlying23 rfl lk_info rfl _ rfl rfl rfl (Lk.len _)) ?_
      (try simp only [Act.put, List.setIfInBounds_toArray, List.set_cons_zero, List.set_cons_succ])
      refine Draws.take 7 HS.out rfl (by kernel_rfl) (fun _ _ _ h => h) (yield_all (fun _ h => h) 0 4 Try.underlying23 rfl lk_info rfl _ rfl rfl rfl (Lk.len _)) ?_
      (try simp only [Act.put, List.setIfInBounds_toArray, List.set_cons_zero, List.set_cons_succ])
      refine Draws.does 2 rfl (by kernel_rfl) rfl (fun K hK => ?_)
      go_simp
      go_at_call 10
      refine (c1 _).mono ?_
      rintro e u ⟨rfl, hb⟩
      (try dsimp only)
      refine hK.out _ _ (fun _ => HS.out.call hb) ?_
      clear hK K
      have hs : (fun u => KeepR w [(b2, 23, x2.l), (b1, 23, x1.l), (b0, 23, x0.l)] u) u := HS.out.call hb
      clear HS
      have HS := Lib.hid hs; clear hs
      (try simp only [Act.put, List.setIfInBounds_toArray, List.set_cons_zero, List.set_cons_succ])
      clear hb
      refine Draws.does 5 rfl (by kernel_rfl) rfl (fun K hK => ?_)
      go_simp
      go_at_call 10
      refine (c2 _).mono ?_
      rintro e u ⟨rfl, hb⟩
      (try dsimp only)
      refine hK.out _ _ (fun _ => HS.out.call hb) ?_
      clear hK K
      have hs : (fun u => KeepR w [(b2, 23, x2.l), (b1, 23, x1.l), (b0, 23, x0.l)] u) u := HS.out.call hb
      clear HS
      have HS := Lib.hid hs; clear hs
      (try simp only [Act.put, List.setIfInBounds_toArray, List.set_cons_zero, List.set_cons_succ])
      clear hb
      refine Draws.does 8 rfl (by kernel_rfl) rfl (fun K hK => ?_)
      go_simp
      go_at_call 10
      refine (c3 _).mono ?_
      rintro e u ⟨rfl, hb⟩
      (try dsimp only)
      refine hK.out _ _ (fun _ => HS.out.call hb) ?_
      clear hK K
      have hs : (fun u => KeepR w [(b2, 23, x2.l), (b1, 23, x1.l), (b0, 23, x0.l)] u) u := HS.out.call hb
      clear HS
      have HS := Lib.hid hs; clear hs
      (try simp only [Act.put, List.setIfInBounds_toArray, List.set_cons_zero, List.set_cons_succ])
      clear hb
      refine Draws.take 9 (v := ?v7) HS.out rfl (by kernel_rfl) (fun _ _ _ h => h) (Or.inl ⟨rfl, ?h7⟩) ?r7
      case h7 => intro w' hw'; go_simp; (try with_reducible rfl)
      (try simp only [Act.put, List.setIfInBounds_toArray, List.set_cons_zero, List.set_cons_succ])
      refine Draws.take 10 (v := ?v8) HS.out rfl (by kernel_rfl) (fun _ _ _ h => h) (Or.inl ⟨rfl, ?h8⟩) ?r8
      case h8 => intro w' hw'; go_simp; (try with_reducible rfl)
      (try simp only [Act.put, List.setIfInBounds_toArray, List.set_cons_zero, List.set_cons_succ])
      refine Draws.take 11 (v := ?v9) HS.out rfl (by kernel_rfl) (fun _ _ _ h => h) (Or.inl ⟨rfl, ?h9⟩) ?r9
      case h9 => intro w' hw'; go_simp; (try with_reducible rfl)
      (try simp only [Act.put, List.setIfInBounds_toArray, List.set_cons_zero, List.set_cons_succ])
      refine Draws.done (by kernel_rfl) ?_
      clear HK
      have HK := Lib.hid HS.out; clear HS
      go_wp2_with (first
        | (with_reducible refine load_all HK.out 1 4 Try.underlying23 rfl lk_info rfl _ rfl rfl rfl (Lk.len _) ?_)
        | (with_reducible refine load_all HK.out 2 4 Try.underlying23 rfl lk_info rfl _ rfl rfl rfl (Lk.len _) ?_)
        | (refine load_all_want HK.out 1 4 Try.underlying23 rfl lk_info _ rfl rfl rfl rfl (Lk.len _) ?_)
        | (refine load_all_want HK.out 2 4 Try.underlying23 rfl lk_info _ rfl rfl rfl rfl (Lk.len _) ?_)
        | (go_at_call 10; (with_reducible refine (c4 _).mono ?_); rintro e u ⟨rfl, hb⟩; have hk := HK.out.call hb; clear hb; clear HK; have HK := Lib.hid hk; clear hk)
        | (go_at_call 13; (with_reducible refine (awake5 _).mono ?_); rintro e u ⟨rfl, hb⟩; have hk := HK.out.call hb; clear hb; clear HK; have HK := Lib.hid hk; clear hk))
      go_ret
      exact ⟨rfl, HK.out.bel⟩
    · rw [hy] at c2 c3
      clear hy
      go_enter Try.func7, Try.ntmps7
      go_wp2_with (first
        | (with_reducible refine box_new (R := x0.l) HK.out rfl _ rfl rfl ?_; intro b0 u hk hb; clear hb; clear HK; have HK := Lib.hid hk; clear hk)
        | (with_reducible refine box_new (R := x1.l) HK.out rfl _ rfl rfl ?_; intro b1 u hk hb; clear hb; clear HK; have HK := Lib.hid hk; clear hk)
        | (with_reducible refine box_new (R := x2.l) HK.out rfl _ rfl rfl ?_; intro b2 u hk hb; clear hb; clear HK; have HK := Lib.hid hk; clear hk))
      refine Draws.start (S := fun u => KeepR w [(b2, 23, x2.l), (b1, 23, x1.l), (b0, 23, x0.l)] u) (n := 12) 12 rfl (by kernel_rfl) ?_
      have HS := Lib.hid ((HK.out.drew : (fun u => KeepR w [(b2, 23, x2.l), (b1, 23, x1.l), (b0, 23, x0.l)] u) _))
      refine Draws.take 0 HS.out rfl (by kernel_rfl) (fun _ _ _ h => h) (yield_all (fun _ h => h) 2 4 Try.underlying23 rfl lk_info rfl _ rfl rfl rfl (Lk.len _)) ?_
      (try simp only [Act.put, List.setIfInBounds_toArray, List.set_cons_zero, List.set_cons_succ])
      refine Draws.take 1 HS.out rfl (by kernel_rfl) (fun _ _ _ h => h) (yield_all (fun _ h => h) 1 4 Try.underlying23 rfl lk_info rfl _ rfl rfl rfl (Lk.len _)) ?_
      (try simp only [Act.put, List.setIfInBounds_toArray, List.set_cons_zero, List.set_cons_succ])
      refine Draws.take 3 HS.out rfl (by kernel_rfl) (fun _ _ _ h => h) (yield_all (fun _ h => h) 1 4 Try.underlying23 rfl lk_info rfl _ rfl rfl rfl (Lk.len _)) ?_
      (try simp only [Act.put, List.setIfInBounds_toArray, List.set_cons_zero, List.set_cons_succ])
      refine Draws.take 4 HS.out rfl (by kernel_rfl) (fun _ _ _ h => h) (yield_all (fun _ h => h) 0 4 Try.underlying23 rfl lk_info rfl _ rfl rfl rfl (Lk.len _)) ?_
      (try simp only [Act.put, List.setIfInBounds_toArray, List.set_cons_zero, List.set_cons_succ])
      refine Draws.take 6 HS.out rfl (by kernel_rfl) (fun _ _ _ h => h) (yield_all (fun _ h => h) 2 4 Try.underlying23 rfl lk_info rfl _ rfl rfl rfl (Lk.len _)) ?_
      (try simp only [Act.put, List.setIfInBounds_toArray, List.set_cons_zero, List.set_cons_succ])
      refine Draws.take 7 HS.out rfl (by kernel_rfl) (fun _ _ _ h => h) (yield_all (fun _ h => h) 0 4 Try.underlying23 rfl lk_info rfl _ rfl rfl rfl (Lk.len _)) ?_
      (try simp only [Act.put, List.setIfInBounds_toArray, List.set_cons_zero, List.set_cons_succ])
      refine Draws.does 2 rfl (by kernel_rfl) rfl (fun K hK => ?_)
      go_simp
      go_at_call 10
      refine (c1 _).mono ?_
      rintro e u ⟨rfl, hb⟩
      (try dsimp only)
      refine hK.out _ _ (fun _ => HS.out.call hb) ?_
      clear hK K
      have hs : (fun u => KeepR w [(b2, 23, x2.l), (b1, 23, x1.l), (b0, 23, x0.l)] u) u := HS.out.call hb
      clear HS
      have HS := Lib.hid hs; clear hs
      (try simp only [Act.put, List.setIfInBounds_toArray, List.set_cons_zero, List.set_cons_succ])
      clear hb
      refine Draws.does 5 rfl (by kernel_rfl) rfl (fun K hK => ?_)
      go_simp
      go_at_call 10
      refine (c2 _).mono ?_
      rintro e u ⟨rfl, hb⟩
      (try dsimp only)
      refine hK.out _ _ (fun _ => HS.out.call hb) ?_
      clear hK K
      have hs : (fun u => KeepR w [(b2, 23, x2.l), (b1, 23, x1.l), (b0, 23, x0.l)] u) u := HS.out.call hb
      clear HS
      have HS := Lib.hid hs; clear hs
      (try simp only [Act.put, List.setIfInBounds_toArray, List.set_cons_zero, List.set_cons_succ])
      clear hb
      refine Draws.does 8 rfl (by kernel_rfl) rfl (fun K hK => ?_)
      go_simp
      go_at_call 10
      refine (c3 _).mono ?_
      rintro e u ⟨rfl, hb⟩
      (try dsimp only)
      refine hK.out _ _ (fun _ => HS.out.call hb) ?_
      clear hK K
      have hs : (fun u => KeepR w [(b2, 23, x2.l), (b1, 23, x1.l), (b0, 23, x0.l)] u) u := HS.out.call hb
      clear HS
      have HS := Lib.hid hs; clear hs
      (try simp only [Act.put, List.setIfInBounds_toArray, List.set_cons_zero, List.set_cons_succ])
      clear hb
      refine Draws.take 9 (v := ?v10) HS.out rfl (by kernel_rfl) (fun _ _ _ h => h) (Or.inl ⟨rfl, ?h10⟩) ?r10
      case h10 => intro w' hw'; go_simp; (try with_reducible rfl)
      (try simp only [Act.put, List.setIfInBounds_toArray, List.set_cons_zero, List.set_cons_succ])
      refine Draws.take 10 (v := ?v11) HS.out rfl (by kernel_rfl) (fun _ _ _ h => h) (Or.inl ⟨rfl, ?h11⟩) ?r11
      case h11 => intro w' hw'; go_simp; (try with_reducible rfl)
      (try simp only [Act.put, List.setIfInBounds_toArray, List.set_cons_zero, List.set_cons_succ])
      refine Draws.take 11 (v := ?v12) HS.out rfl (by kernel_rfl) (fun _ _ _ h => h) (Or.inl ⟨rfl, ?h12⟩) ?r12
      case h12 => intro w' hw'; go_simp; (try with_reducible rfl)
      (try simp only [Act.put, List.setIfInBounds_toArray, List.set_cons_zero, List.set_cons_succ])
      refine Draws.done (by kernel_rfl) ?_
      clear HK
      have HK := Lib.hid HS.out; clear HS
      go_wp2_with (first
        | (with_reducible refine load_all HK.out 1 4 Try.underlying23 rfl lk_info rfl _ rfl rfl rfl (Lk.len _) ?_)
        | (with_reducible refine load_all HK.out 2 4 Try.underlying23 rfl lk_info rfl _ rfl rfl rfl (Lk.len _) ?_)
        | (refine load_all_want HK.out 1 4 Try.underlying23 rfl lk_info _ rfl rfl rfl rfl (Lk.len _) ?_)
        | (refine load_all_want HK.out 2 4 Try.underlying23 rfl lk_info _ rfl rfl rfl rfl (Lk.len _) ?_)
        | (go_at_call 10; (with_reducible refine (c4 _).mono ?_); rintro e u ⟨rfl, hb⟩; have hk := HK.out.call hb; clear hb; clear HK; have HK := Lib.hid hk; clear hk)
        | (go_at_call 13; (with_reducible refine (awake5 _).mono ?_); rintro e u ⟨rfl, hb⟩; have hk := HK.out.call hb; clear hb; clear HK; have HK := Lib.hid hk; clear hk))
      go_ret
      exact ⟨rfl, HK.out.bel⟩
  · have hne : (x0.l == x1.l) = false := Lk.beq_false (fun e => by have := cmp_zero.2 e; omega)
    rw [hne] at q
    clear hne
    rcases cmp_three x1 x2 with hy | hy | hy
    · rw [hx] at c1 c4
      rw [hy] at c2
      clear hx hy
      generalize cmpL x0 x2 = z at c3
      go_enter Try.func7, Try.ntmps7
      go_wp2_with (first
        | (with_reducible refine box_new (R := x0.l) HK.out rfl _ rfl rfl ?_; intro b0 u hk hb; clear hb; clear HK; have HK := Lib.hid hk; clear hk)
        | (with_reducible refine box_new (R := x1.l) HK.out rfl _ rfl rfl ?_; intro b1 u hk hb; clear hb; clear HK; have HK := Lib.hid hk; clear hk)
        | (with_reducible refine box_new (R := x2.l) HK.out rfl _ rfl rfl ?_; intro b2 u hk hb; clear hb; clear HK; have HK := Lib.hid hk; clear hk))
      refine Draws.start (S := fun u => KeepR w [(b2, 23, x2.l), (b1, 23, x1.l), (b0, 23, x0.l)] u) (n := 12) 12 rfl (by kernel_rfl) ?_
      have HS := Lib.hid ((HK.out.drew : (fun u => KeepR w [(b2, 23, x2.l), (b1, 23, x1.l), (b0, 23, x0.l)] u) _))
      refine Draws.take 0 HS.out rfl (by kernel_rfl) (fun _ _ _ h => h) (yield_all (fun _ h => h) 2 4 Try.underlying23 rfl lk_info rfl _ rfl rfl rfl (Lk.len _)) ?_
      (try simp only [Act.put, List.setIfInBounds_toArray, List.set_cons_zero, List.set_cons_succ])
      refine Draws.take 1 HS.out rfl (by kernel_rfl) (fun _ _ _ h => h) (yield_all (fun _ h => h) 1 4 Try.underlying23 rfl lk_info rfl _ rfl rfl rfl (Lk.len _)) ?_
      (try simp only [Act.put, List.setIfInBounds_toArray, List.set_cons_zero, List.set_cons_succ])
      refine Draws.take 3 HS.out rfl (by kernel_rfl) (fun _ _ _ h => h) (yield_all (fun _ h => h) 1 4 Try.underlying23 rfl lk_info rfl _ rfl rfl rfl (Lk.len _)) ?_
      (try simp only [Act.put, List.setIfInBounds_toArray, List.set_cons_zero, List.set_cons_succ])
      refine Draws.take 4 HS.out rfl (by kernel_rfl) (fun _ _ _ h => h) (yield_all (fun _ h => h) 0 4 Try.underlying23 rfl lk_info rfl _ rfl rfl rfl (Lk.len _)) ?_
      (try simp only [Act.put, List.setIfInBounds_toArray, List.set_cons_zero, List.set_cons_succ])
      refine Draws.take 6 HS.out rfl (by kernel_rfl) (fun _ _ _ h => h) (yield_all (fun _ h => h) 2 4 Try.underlying23 rfl lk_info rfl _ rfl rfl rfl (Lk.len _)) ?_
      (try simp only [Act.put, List.setIfInBounds_toArray, List.set_cons_zero, List.set_cons_succ])
      refine Draws.take 7 HS.out rfl (by kernel_rfl) (fun _ _ _ h => h) (yield_all (fun _ h => h) 0 4 Try.underlying23 rfl lk_info rfl _ rfl rfl rfl (Lk.len _)) ?_
      (try simp only [Act.put, List.setIfInBounds_toArray, List.set_cons_zero, List.set_cons_succ])
      refine Draws.does 2 rfl (by kernel_rfl) rfl (fun K hK => ?_)
      go_simp
      go_at_call 10
      refine (c1 _).mono ?_
      rintro e u ⟨rfl, hb⟩
      (try dsimp only)
      refine hK.out _ _ (fun _ => HS.out.call hb) ?_
      clear hK K
      have hs : (fun u => KeepR w [(b2, 23, x2.l), (b1, 23, x1.l), (b0, 23, x0.l)] u) u := HS.out.call hb
      clear HS
      have HS := Lib.hid hs; clear hs
      (try simp only [Act.put, List.setIfInBounds_toArray, List.set_cons_zero, List.set_cons_succ])
      clear hb
      refine Draws.does 5 rfl (by kernel_rfl) rfl (fun K hK => ?_)
      go_simp
      go_at_call 10
      refine (c2 _).mono ?_
      rintro e u ⟨rfl, hb⟩
      (try dsimp only)
      refine hK.out _ _ (fun _ => HS.out.call hb) ?_
      clear hK K
      have hs : (fun u => KeepR w [(b2, 23, x2.l), (b1, 23, x1.l), (b0, 23, x0.l)] u) u := HS.out.call hb
      clear HS
      have HS := Lib.hid hs; clear hs
      (try simp only [Act.put, List.setIfInBounds_toArray, List.set_cons_zero, List.set_cons_succ])
      clear hb
      refine Draws.does 8 rfl (by kernel_rfl) rfl (fun K hK => ?_)
      go_simp
      go_at_call 10
      refine (c3 _).mono ?_
      rintro e u ⟨rfl, hb⟩
      (try dsimp only)
      refine hK.out _ _ (fun _ => HS.out.call hb) ?_
      clear hK K
      have hs : (fun u => KeepR w [(b2, 23, x2.l), (b1, 23, x1.l), (b0, 23, x0.l)] u) u := HS.out.call hb
      clear HS
      have HS := Lib.hid hs; clear hs
      (try simp only [Act.put, List.setIfInBounds_toArray, List.set_cons_zero, List.set_cons_succ])
      clear hb
      refine Draws.take 9 (v := ?v13) HS.out rfl (by kernel_rfl) (fun _ _ _ h => h) (Or.inl ⟨rfl, ?h13⟩) ?r13
      case h13 => intro w' hw'; go_simp; (try with_reducible rfl)
      (try simp only [Act.put, List.setIfInBounds_toArray, List.set_cons_zero, List.set_cons_succ])
      refine Draws.take 10 (v := ?v14) HS.out rfl (by kernel_rfl) (fun _ _ _ h => h) (Or.inl ⟨rfl, ?h14⟩) ?r14
      case h14 => intro w' hw'; go_simp; (try with_reducible rfl)
      (try simp only [Act.put, List.setIfInBounds_toArray, List.set_cons_zero, List.set_cons_succ])
      refine Draws.take 11 (v := ?v15) HS.out rfl (by kernel_rfl) (fun _ _ _ h => h) (Or.inl ⟨rfl, ?h15⟩) ?r15
      case h15 => intro w' hw'; go_simp; (try with_reducible rfl)
      (try simp only [Act.put, List.setIfInBounds_toArray, List.set_cons_zero, List.set_cons_succ])
      refine Draws.done (by kernel_rfl) ?_
      clear HK
      have HK := Lib.hid HS.out; clear HS
      go_wp2_with (first
        | (with_reducible refine load_all HK.out 1 4 Try.underlying23 rfl lk_info rfl _ rfl rfl rfl (Lk.len _) ?_)
        | (with_reducible refine load_all HK.out 2 4 Try.underlying23 rfl lk_info rfl _ rfl rfl rfl (Lk.len _) ?_)
        | (refine load_all_want HK.out 1 4 Try.underlying23 rfl lk_info _ rfl rfl rfl rfl (Lk.len _) ?_)
        | (refine load_all_want HK.out 2 4 Try.underlying23 rfl lk_info _ rfl rfl rfl rfl (Lk.len _) ?_)
        | (go_at_call 10; (with_reducible refine (c4 _).mono ?_); rintro e u ⟨rfl, hb⟩; have hk := HK.out.call hb; clear hb; clear HK; have HK := Lib.hid hk; clear hk)
        | (go_at_call 13; (with_reducible refine (awake5 _).mono ?_); rintro e u ⟨rfl, hb⟩; have hk := HK.out.call hb; clear hb; clear HK; have HK := Lib.hid hk; clear hk))
      go_ret
      exact ⟨rfl, HK.out.bel⟩
    · have hz : cmpL x0 x2 = 1 := by rw [← cmp_zero.1 hy]; exact hx
      rw [hx] at c1 c4
      rw [hy] at c2
      rw [hz] at c3
      clear hx hy hz
      go_enter Try.func7, Try.ntmps7
      go_wp2_with (first
        | (with_reducible refine box_new (R := x0.l) HK.out rfl _ rfl rfl ?_; intro b0 u hk hb; clear hb; clear HK; have HK := Lib.hid hk; clear hk)
        | (with_reducible refine box_new (R := x1.l) HK.out rfl _ rfl rfl ?_; intro b1 u hk hb; clear hb; clear HK; have HK := Lib.hid hk; clear hk)
        | (with_reducible refine box_new (R := x2.l) HK.out rfl _ rfl rfl ?_; intro b2 u hk hb; clear hb; clear HK; have HK := Lib.hid hk; clear hk))
      refine Draws.start (S := fun u => KeepR w [(b2, 23, x2.l), (b1, 23, x1.l), (b0, 23, x0.l)] u) (n := 12) 12 rfl (by kernel_rfl) ?_
      have HS := Lib.hid ((HK.out.drew : (fun u => KeepR w [(b2, 23, x2.l), (b1, 23, x1.l), (b0, 23, x0.l)] u) _))
      refine Draws.take 0 HS.out rfl (by kernel_rfl) (fun _ _ _ h => h) (yield_all (fun _ h => h) 2 4 Try.underlying23 rfl lk_info rfl _ rfl rfl rfl (Lk.len _)) ?_
      (try simp only [Act.put, List.setIfInBounds_toArray, List.set_cons_zero, List.set_cons_succ])
      refine Draws.take 1 HS.out rfl (by kernel_rfl) (fun _ _ _ h => h) (yield_all (fun _ h => h) 1 4 Try.underlying23 rfl lk_info rfl _ rfl rfl rfl (Lk.len _)) ?_
      (try simp only [Act.put, List.setIfInBounds_toArray, List.set_cons_zero, List.set_cons_succ])
      refine Draws.take 3 HS.out rfl (by kernel_rfl) (fun _ _ _ h => h) (yield_all (fun _ h => h) 1 4 Try.underlying23 rfl lk_info rfl _ rfl rfl rfl (Lk.len _)) ?_
      (try simp only [Act.put, List.setIfInBounds_toArray, List.set_cons_zero, List.set_cons_succ])
      refine Draws.take 4 HS.out rfl (by kernel_rfl) (fun _ _ _ h => h) (yield_all (fun _ h => h) 0 4 Try.underlying23 rfl lk_info rfl _ rfl rfl rfl (Lk.len _)) ?_
      (try simp only [Act.put, List.setIfInBounds_toArray, List.set_cons_zero, List.set_cons_succ])
      refine Draws.take 6 HS.out rfl (by kernel_rfl) (fun _ _ _ h => h) (yield_all (fun _ h => h) 2 4 Try.underlying23 rfl lk_info rfl _ rfl rfl rfl (Lk.len _)) ?_
      (try simp only [Act.put, List.setIfInBounds_toArray, List.set_cons_zero, List.set_cons_succ])
      refine Draws.take 7 HS.out rfl (by kernel_rfl) (fun _ _ _ h => h) (yield_all (fun _ h => h) 0 4 Try.underlying23 rfl lk_info rfl _ rfl rfl rfl (Lk.len _)) ?_
      (try simp only [Act.put, List.setIfInBounds_toArray, List.set_cons_zero, List.set_cons_succ])
      refine Draws.does 2 rfl (by kernel_rfl) rfl (fun K hK => ?_)
      go_simp
      go_at_call 10
      refine (c1 _).mono ?_
      rintro e u ⟨rfl, hb⟩
      (try dsimp only)
      refine hK.out _ _ (fun _ => HS.out.call hb) ?_
      clear hK K
      have hs : (fun u => KeepR w [(b2, 23, x2.l), (b1, 23, x1.l), (b0, 23, x0.l)] u) u := HS.out.call hb
      clear HS
      have HS := Lib.hid hs; clear hs
      (try simp only [Act.put, List.setIfInBounds_toArray, List.set_cons_zero, List.set_cons_succ])
      clear hb
      refine Draws.does 5 rfl (by kernel_rfl) rfl (fun K hK => ?_)
      go_simp
      go_at_call 10
      refine (c2 _).mono ?_
      rintro e u ⟨rfl, hb⟩
      (try dsimp only)
      refine hK.out _ _ (fun _ => HS.out.call hb) ?_
      clear hK K
      have hs : (fun u => KeepR w [(b2, 23, x2.l), (b1, 23, x1.l), (b0, 23, x0.l)] u) u := HS.out.call hb
      clear HS
      have HS := Lib.hid hs; clear hs
      (try simp only [Act.put, List.setIfInBounds_toArray, List.set_cons_zero, List.set_cons_succ])
      clear hb
      refine Draws.does 8 rfl (by kernel_rfl) rfl (fun K hK => ?_)
      go_simp
      go_at_call 10
      refine (c3 _).mono ?_
      rintro e u ⟨rfl, hb⟩
      (try dsimp only)
      refine hK.out _ _ (fun _ => HS.out.call hb) ?_
      clear hK K
      have hs : (fun u => KeepR w [(b2, 23, x2.l), (b1, 23, x1.l), (b0, 23, x0.l)] u) u := HS.out.call hb
      clear HS
      have HS := Lib.hid hs; clear hs
      (try simp only [Act.put, List.setIfInBounds_toArray, List.set_cons_zero, List.set_cons_succ])
      clear hb
      refine Draws.take 9 (v := ?v16) HS.out rfl (by kernel_rfl) (fun _ _ _ h => h) (Or.inl ⟨rfl, ?h16⟩) ?r16
      case h16 => intro w' hw'; go_simp; (try with_reducible rfl)
      (try simp only [Act.put, List.setIfInBounds_toArray, List.set_cons_zero, List.set_cons_succ])
      refine Draws.take 10 (v := ?v17) HS.out rfl (by kernel_rfl) (fun _ _ _ h => h) (Or.inl ⟨rfl, ?h17⟩) ?r17
      case h17 => intro w' hw'; go_simp; (try with_reducible rfl)
      (try simp only [Act.put, List.setIfInBounds_toArray, List.set_cons_zero, List.set_cons_succ])
      refine Draws.take 11 (v := ?v18) HS.out rfl (by kernel_rfl) (fun _ _ _ h => h) (Or.inl ⟨rfl, ?h18⟩) ?r18
      case h18 => intro w' hw'; go_simp; (try with_reducible rfl)
      (try simp only [Act.put, List.setIfInBounds_toArray, List.set_cons_zero, List.set_cons_succ])
      refine Draws.done (by kernel_rfl) ?_
      clear HK
      have HK := Lib.hid HS.out; clear HS
      go_wp2_with (first
        | (with_reducible refine load_all HK.out 1 4 Try.underlying23 rfl lk_info rfl _ rfl rfl rfl (Lk.len _) ?_)
        | (with_reducible refine load_all HK.out 2 4 Try.underlying23 rfl lk_info rfl _ rfl rfl rfl (Lk.len _) ?_)
        | (refine load_all_want HK.out 1 4 Try.underlying23 rfl lk_info _ rfl rfl rfl rfl (Lk.len _) ?_)
        | (refine load_all_want HK.out 2 4 Try.underlying23 rfl lk_info _ rfl rfl rfl rfl (Lk.len _) ?_)
        | (go_at_call 10; (with_reducible refine (c4 _).mono ?_); rintro e u ⟨rfl, hb⟩; have hk := HK.out.call hb; clear hb; clear HK; have HK := Lib.hid hk; clear hk)
        | (go_at_call 13; (with_reducible refine (awake5 _).mono ?_); rintro e u ⟨rfl, hb⟩; have hk := HK.out.call hb; clear hb; clear HK; have HK := Lib.hid hk; clear hk))
      go_ret
      exact ⟨rfl, HK.out.bel⟩
    · have hz : cmpL x0 x2 = 1 := by
        have h := cmp_pos.2 (ltL_trans (cmp_pos.1 (show 0 < cmpL x1 x2 by omega)) (cmp_pos.1 (show 0 < cmpL x0 x1 by omega)))
        have := cmp_three x0 x2
        omega
      rw [hx] at c1 c4
      rw [hy] at c2
      rw [hz] at c3
      clear hx hy hz
      go_enter Try.func7, Try.ntmps7
      go_wp2_with (first
        | (with_reducible refine box_new (R := x0.l) HK.out rfl _ rfl rfl ?_; intro b0 u hk hb; clear hb; clear HK; have HK := Lib.hid hk; clear hk)
        | (with_reducible refine box_new (R := x1.l) HK.out rfl _ rfl rfl ?_; intro b1 u hk hb; clear hb; clear HK; have HK := Lib.hid hk; clear hk)
        | (with_reducible refine box_new (R := x2.l) HK.out rfl _ rfl rfl ?_; intro b2 u hk hb; clear hb; clear HK; have HK := Lib.hid hk; clear hk))
      refine Draws.start (S := fun u => KeepR w [(b2, 23, x2.l), (b1, 23, x1.l), (b0, 23, x0.l)] u) (n := 12) 12 rfl (by kernel_rfl) ?_
      have HS := Lib.hid ((HK.out.drew : (fun u => KeepR w [(b2, 23, x2.l), (b1, 23, x1.l), (b0, 23, x0.l)] u) _))
      refine Draws.take 0 HS.out rfl (by kernel_rfl) (fun _ _ _ h => h) (yield_all (fun _ h => h) 2 4 Try.underlying23 rfl lk_info rfl _ rfl rfl rfl (Lk.len _)) ?_
      (try simp only [Act.put, List.setIfInBounds_toArray, List.set_cons_zero, List.set_cons_succ])
      refine Draws.take 1 HS.out rfl (by kernel_rfl) (fun _ _ _ h => h) (yield_all (fun _ h => h) 1 4 Try.underlying23 rfl lk_info rfl _ rfl rfl rfl (Lk.len _)) ?_
      (try simp only [Act.put, List.setIfInBounds_toArray, List.set_cons_zero, List.set_cons_succ])
      refine Draws.take 3 HS.out rfl (by kernel_rfl) (fun _ _ _ h => h) (yield_all (fun _ h => h) 1 4 Try.underlying23 rfl lk_info rfl _ rfl rfl rfl (Lk.len _)) ?_
      (try simp only [Act.put, List.setIfInBounds_toArray, List.set_cons_zero, List.set_cons_succ])
      refine Draws.take 4 HS.out rfl (by kernel_rfl) (fun _ _ _ h => h) (yield_all (fun _ h => h) 0 4 Try.underlying23 rfl lk_info rfl _ rfl rfl rfl (Lk.len _)) ?_
      (try simp only [Act.put, List.setIfInBounds_toArray, List.set_cons_zero, List.set_cons_succ])
      refine Draws.take 6 HS.out rfl (by kernel_rfl) (fun _ _ _ h => h) (yield_all (fun _ h => h) 2 4 Try.underlying23 rfl lk_info rfl _ rfl rfl rfl (Lk.len _)) ?_
      (try simp only [Act.put, List.setIfInBounds_toArray, List.set_cons_zero, List.set_cons_succ])
      refine Draws.take 7 HS.out rfl (by kernel_rfl) (fun _ _ _ h => h) (yield_all (fun _ h => h) 0 4 Try.underlying23 rfl lk_info rfl _ rfl rfl rfl (Lk.len _)) ?_
      (try simp only [Act.put, List.setIfInBounds_toArray, List.set_cons_zero, List.set_cons_succ])
      refine Draws.does 2 rfl (by kernel_rfl) rfl (fun K hK => ?_)
      go_simp
      go_at_call 10
      refine (c1 _).mono ?_
      rintro e u ⟨rfl, hb⟩
      (try dsimp only)
      refine hK.out _ _ (fun _ => HS.out.call hb) ?_
      clear hK K
      have hs : (fun u => KeepR w [(b2, 23, x2.l), (b1, 23, x1.l), (b0, 23, x0.l)] u) u := HS.out.call hb
      clear HS
      have HS := Lib.hid hs; clear hs
      (try simp only [Act.put, List.setIfInBounds_toArray, List.set_cons_zero, List.set_cons_succ])
      clear hb
      refine Draws.does 5 rfl (by kernel_rfl) rfl (fun K hK => ?_)
      go_simp
      go_at_call 10
      refine (c2 _).mono ?_
      rintro e u ⟨rfl, hb⟩
      (try dsimp only)
      refine hK.out _ _ (fun _ => HS.out.call hb) ?_
      clear hK K
      have hs : (fun u => KeepR w [(b2, 23, x2.l), (b1, 23, x1.l), (b0, 23, x0.l)] u) u := HS.out.call hb
      clear HS
      have HS := Lib.hid hs; clear hs
      (try simp only [Act.put, List.setIfInBounds_toArray, List.set_cons_zero, List.set_cons_succ])
      clear hb
      refine Draws.does 8 rfl (by kernel_rfl) rfl (fun K hK => ?_)
      go_simp
      go_at_call 10
      refine (c3 _).mono ?_
      rintro e u ⟨rfl, hb⟩
      (try dsimp only)
      refine hK.out _ _ (fun _ => HS.out.call hb) ?_
      clear hK K
      have hs : (fun u => KeepR w [(b2, 23, x2.l), (b1, 23, x1.l), (b0, 23, x0.l)] u) u := HS.out.call hb
      clear HS
      have HS := Lib.hid hs; clear hs
      (try simp only [Act.put, List.setIfInBounds_toArray, List.set_cons_zero, List.set_cons_succ])
      clear hb
      refine Draws.take 9 (v := ?v19) HS.out rfl (by kernel_rfl) (fun _ _ _ h => h) (Or.inl ⟨rfl, ?h19⟩) ?r19
      case h19 => intro w' hw'; go_simp; (try with_reducible rfl)
      (try simp only [Act.put, List.setIfInBounds_toArray, List.set_cons_zero, List.set_cons_succ])
      refine Draws.take 10 (v := ?v20) HS.out rfl (by kernel_rfl) (fun _ _ _ h => h) (Or.inl ⟨rfl, ?h20⟩) ?r20
      case h20 => intro w' hw'; go_simp; (try with_reducible rfl)
      (try simp only [Act.put, List.setIfInBounds_toArray, List.set_cons_zero, List.set_cons_succ])
      refine Draws.take 11 (v := ?v21) HS.out rfl (by kernel_rfl) (fun _ _ _ h => h) (Or.inl ⟨rfl, ?h21⟩) ?r21
      case h21 => intro w' hw'; go_simp; (try with_reducible rfl)
      (try simp only [Act.put, List.setIfInBounds_toArray, List.set_cons_zero, List.set_cons_succ])
      refine Draws.done (by kernel_rfl) ?_
      clear HK
      have HK := Lib.hid HS.out; clear HS
      go_wp2_with (first
        | (with_reducible refine load_all HK.out 1 4 Try.underlying23 rfl lk_info rfl _ rfl rfl rfl (Lk.len _) ?_)
        | (with_reducible refine load_all HK.out 2 4 Try.underlying23 rfl lk_info rfl _ rfl rfl rfl (Lk.len _) ?_)
        | (refine load_all_want HK.out 1 4 Try.underlying23 rfl lk_info _ rfl rfl rfl rfl (Lk.len _) ?_)
        | (refine load_all_want HK.out 2 4 Try.underlying23 rfl lk_info _ rfl rfl rfl rfl (Lk.len _) ?_)
        | (go_at_call 10; (with_reducible refine (c4 _).mono ?_); rintro e u ⟨rfl, hb⟩; have hk := HK.out.call hb; clear hb; clear HK; have HK := Lib.hid hk; clear hk)
        | (go_at_call 13; (with_reducible refine (awake5 _).mono ?_); rintro e u ⟨rfl, hb⟩; have hk := HK.out.call hb; clear hb; clear HK; have HK := Lib.hid hk; clear hk))
      go_ret
      exact ⟨rfl, HK.out.bel⟩

set_option maxRecDepth 100000 in
theorem lifted (os : Os) (started : os.Started) (H : Type) (enc : TypeId × Value → H) :
    ReturnsInHanded {} Try.checked os 7 .any (Rows.lockLineSpec.pre6 enc Try.prog Try.f7 Rows.lockLineRow.domain false) (Rows.lockLineSpec.post enc Try.prog Try.f7 false true false false) := by
  refine returnsInHanded_of_change (C := Try.checked) own started (by kernel_rfl) Try.func7
    (ChangeSpec.witness6 (enc := enc) (C := Try.checked) false ⟨#[], #[.agg (vals (zer 4)).toArray, .agg (vals (zer 4)).toArray, .agg (vals (zer 4)).toArray], []⟩ 12 (by kernel_rfl) (by kernel_rfl) (by kernel_rfl) (by kernel_rfl)) ?_
  intro W base args ds gs before hval0 hW hcnd _
  have hval : ∀ (j : Nat) t v, Try.f7.params[j]? = some t → args[j]? = some v → Value.okWide Try.prog W .any base t v := hval0
  have hW' := hW
  obtain ⟨p, q, hA0, hV, rfl, hfz, hnd⟩ := hW
  have hA : DataW.TrodAll enc Try.prog W 0 (fun _ => true) true Try.f7.params.toList args.toList ds p := hA0
  rw [Try.params7] at hA hval
  obtain ⟨v0, vs0, d0, ds0, p0, q0, hargs, rfl, rfl, h0, r0⟩ := trodAll_cons hA
  obtain ⟨v1, vs1, d1, ds1, p1, q1, rfl, rfl, rfl, h1, r1⟩ := trodAll_cons r0
  obtain ⟨v2, vs2, d2, ds2, p2, q2, rfl, rfl, rfl, h2, r2⟩ := trodAll_cons r1
  obtain ⟨rfl, rfl, rfl⟩ := trodAll_nil r2
  obtain rfl : args = #[v0, v1, v2] := by cases args; simp_all
  obtain ⟨rfl, rfl⟩ := trodVars_none hV
  have k0 := h0
  have lt0 : ∀ x ∈ p0, x.block < W.heap.size := by obtain ⟨m, hm⟩ := k0; exact DataW.trod_lt m _ _ _ hm
  obtain ⟨x0, rfl⟩ := open_lk (hval 0 23 v0 rfl rfl) h0
  have k1 := h1
  have lt1 : ∀ x ∈ p1, x.block < W.heap.size := by obtain ⟨m, hm⟩ := k1; exact DataW.trod_lt m _ _ _ hm
  obtain ⟨x1, rfl⟩ := open_lk (hval 1 23 v1 rfl rfl) h1
  have k2 := h2
  have lt2 : ∀ x ∈ p2, x.block < W.heap.size := by obtain ⟨m, hm⟩ := k2; exact DataW.trod_lt m _ _ _ hm
  obtain ⟨x2, rfl⟩ := open_lk (hval 2 23 v2 rfl rfl) h2
  clear hA0 hval0
  refine (walk x0 x1 x2 W).mono fun e W' ⟨he, bel⟩ => ?_
  subst he
  exact ⟨_, rfl, _, _, _, [], _, [], hW', trodAll_mk1 (shut_bool Try.underlying4 _), (trodAll_cons_mk (Below.trod laidOut (by kernel_rfl) (of_decide_eq_true (by kernel_rfl)) k0 bel lt0) (trodAll_cons_mk (Below.trod laidOut (by kernel_rfl) (of_decide_eq_true (by kernel_rfl)) k1 bel lt1) (trodAll_cons_mk (Below.trod laidOut (by kernel_rfl) (of_decide_eq_true (by kernel_rfl)) k2 bel lt2) trodAll_mk0))), rfl, bel.frame _, fun h => by cases h⟩

theorem over : Rows.lockLineRow.holds Try.pinned (OpenSpec.ofChange Rows.lockLineSpec) :=
  OpenClaim.holds_of_wide 7 Try.f7 rfl rfl rfl rfl rfl rfl rfl ⟨rfl, rfl, rfl, rfl, rfl⟩ rfl rfl rfl rfl rfl (by kernel_rfl) Try.func7 (by kernel_rfl)
    (of_decide_eq_true (by kernel_rfl)) (by unfold Func.isWrapper; first | (rw [if_pos (by decide +kernel)]; kernel_rfl) | (rw [if_neg (by decide +kernel)]; exact ⟨rfl, rfl⟩))
    (fun os started H enc _ => lifted os started H enc)

theorem proved : Rows.LockLineSaid := over
#print axioms proved
end Go.Proofs.Ytbaacdkjdkkifaa.lockLine
