/- For every lock and every k, to and n usufructlaw05.LockSteps returns true, and each argument reads as before. No condition. -/
import Derived.Test.YtbaacdkjdkkifaaLkJoin
import Derived.WalkKit
import Derived.ProofKit
import Derived.OpenShut
import Derived.ChangeOld
import Derived.Below
namespace Go.Proofs.Ytbaacdkjdkkifaa.lockSteps
open Go.ChangeShapes Go.WideShapes Go.ChangeAt Go.RowKit
set_option linter.unusedVariables false

theorem own : ownKnob Try.prog.godebug = none := by kernel_rfl
theorem laidOut : laidOutB Try.prog = true := by kernel_rfl

theorem wr_facts {a : Lk} {k n : Int} (hr : rightL a = true) (h : wrE a k n = 0) : cmpL (wrA a k n) a = 1 ∧ rightL (wrA a k n) = true ∧ (wrA a k n).x = n ∧ (wrA a k n).h = a.h ∧ joinK a (wrA a k n) = wrA a k n := by
  obtain ⟨_, hn, _, hv, e⟩ := wr_zero h
  have hr := rightL_iff.1 hr
  have hn := isB_iff.1 hn
  have hv := isB_iff.1 hv
  have hl : ltL a (wrA a k n) := by rw [e]; exact .inr ⟨rfl, .inl (by simp only; omega)⟩
  have hc := cmp_pos.2 hl
  have h3 := cmp_three (wrA a k n) a
  refine ⟨by omega, ?_, by rw [e], by rw [e], joinK_lt hl⟩
  rw [e, rightL_iff]
  simp only
  omega
theorem ps_facts {a : Lk} {k t : Int} (hr : rightL a = true) (h : psE a k t = 0) : cmpL (psA a k t) a = 1 ∧ rightL (psA a k t) = true ∧ (psA a k t).x = a.x ∧ (psA a k t).h = t := by
  obtain ⟨_, ht, _, hv, e⟩ := ps_zero h
  have hr := rightL_iff.1 hr
  have ht := repB_iff.1 ht
  have hv := isB_iff.1 hv
  have hl : ltL a (psA a k t) := by rw [e]; exact .inl (by simp only; omega)
  have hc := cmp_pos.2 hl
  have h3 := cmp_three (psA a k t) a
  refine ⟨by omega, ?_, by rw [e], by rw [e]⟩
  rw [e, rightL_iff]
  simp only
  omega
theorem both_facts {a : Lk} {k n t : Int} (h : wrE a k n = 0) (h' : psE a k t = 0) : cmpL (psA a k t) (wrA a k n) = 1 := by
  obtain ⟨_, _, _, _, e⟩ := wr_zero h
  obtain ⟨_, _, _, _, e'⟩ := ps_zero h'
  have hl : ltL (wrA a k n) (psA a k t) := by rw [e, e']; exact .inl (by simp only; omega)
  have hc := cmp_pos.2 hl
  have h3 := cmp_three (psA a k t) (wrA a k n)
  omega

set_option maxRecDepth 100000 in
set_option maxHeartbeats 4000000 in
theorem walk (x0 : Lk) (a1 : Int) (w1 : (Lit.int .i64 a1).wf = true) (a2 : Int) (w2 : (Lit.int .i64 a2).wf = true) (a3 : Int) (w3 : (Lit.int .i64 a3).wf = true) (w : World) :
    Calls Try.prog 6 #[.agg (vals x0.l).toArray, .int .i64 a1, .int .i64 a2, .int .i64 a3] w fun e w' => e = .returned (.bool true) ∧ Below w.heap.size w w' := by
  have r0 := lright_any x0
  have HK := Lib.hid (KeepR.start w)
  cases hr : rightL x0 with
  | false =>
    rw [hr] at r0
    clear hr
    go_enter Try.func6, Try.ntmps6
    go_wp2_with (first
      | (with_reducible refine box_new (R := x0.l) HK.out rfl _ rfl rfl ?_; intro b0 u hk hb; clear hb; clear HK; have HK := Lib.hid hk; clear hk)
      | (with_reducible refine load_all HK.out 0 4 Try.underlying23 rfl lk_info rfl _ rfl rfl rfl (Lk.len _) ?_)
      | (go_at_call 17; (with_reducible refine (r0 _).mono ?_); rintro e u ⟨rfl, hb⟩; have hk := HK.out.call hb; clear hb; clear HK; have HK := Lib.hid hk; clear hk)
      | (go_at_call 13; (with_reducible refine (awake5 _).mono ?_); rintro e u ⟨rfl, hb⟩; have hk := HK.out.call hb; clear hb; clear HK; have HK := Lib.hid hk; clear hk))
    go_ret
    exact ⟨rfl, HK.out.bel⟩
  | true =>
    rw [hr] at r0
    have w1 := write_any x0 a1 a3
    have p1 := pass_any x0 a1 a2
    have hge := lk_guard
    by_cases hk1 : a1 = x0.h
    · subst hk1
      by_cases he : wrE x0 x0.h a3 = 0
      · by_cases hf : psE x0 x0.h a2 = 0
        · skip
          obtain ⟨e1, e2, hwx, hwh, e3⟩ := wr_facts hr he
          have cW := compare_any (wrA x0 x0.h a3) x0
          have rW := lright_any (wrA x0 x0.h a3)
          have jW := join_any x0 (wrA x0 x0.h a3)
          rw [e1] at cW
          rw [e2] at rW
          rw [e3] at jW
          clear e1 e2 e3
          obtain ⟨e1, e2, hpx, hph⟩ := ps_facts hr hf
          have cP := compare_any (psA x0 x0.h a2) x0
          have rP := lright_any (psA x0 x0.h a2)
          rw [e1] at cP
          rw [e2] at rP
          clear e1 e2
          have cPW := compare_any (psA x0 x0.h a2) (wrA x0 x0.h a3)
          rw [both_facts he hf] at cPW
          rw [he] at w1
          rw [hf] at p1
          clear he hf hr
          generalize wrA x0 x0.h a3 = W at w1 cW rW hwx hwh jW cPW
          generalize psA x0 x0.h a2 = P at p1 cP rP hpx hph cPW
          have qW := eql_lk W W
          rw [Lk.same] at qW
          have HX := Lib.hid hwx; have HH := Lib.hid hwh; clear hwx hwh
          have HPX := Lib.hid ((Lk.g3 P).trans hpx); have HPH := Lib.hid ((Lk.g2 P).trans hph); clear hpx hph
          have hkk : (x0.h != x0.h) = false := by simp
          go_enter Try.func6, Try.ntmps6
          go_wp2_with (first
            | (with_reducible refine box_new (R := x0.l) HK.out rfl _ rfl rfl ?_; intro b0 u hk hb; clear hb; clear HK; have HK := Lib.hid hk; clear hk)
            | (with_reducible refine load_all HK.out 0 4 Try.underlying23 rfl lk_info rfl _ rfl rfl rfl (Lk.len _) ?_)
            | (go_at_call 17; (with_reducible refine (r0 _).mono ?_); rintro e u ⟨rfl, hb⟩; have hk := HK.out.call hb; clear hb; clear HK; have HK := Lib.hid hk; clear hk)
            | (go_at_call 13; (with_reducible refine (awake5 _).mono ?_); rintro e u ⟨rfl, hb⟩; have hk := HK.out.call hb; clear hb; clear HK; have HK := Lib.hid hk; clear hk)
            | (go_at_call 15; (with_reducible refine (w1 _).mono ?_); rintro e u ⟨rfl, hb⟩; have hk := HK.out.call hb; clear hb; clear HK; have HK := Lib.hid hk; clear hk)
            | (go_at_call 16; (with_reducible refine (p1 _).mono ?_); rintro e u ⟨rfl, hb⟩; have hk := HK.out.call hb; clear hb; clear HK; have HK := Lib.hid hk; clear hk)
            | (with_reducible refine load_all HK.out 1 4 Try.underlying23 rfl lk_info rfl _ rfl rfl rfl (Lk.len _) ?_)
            | (with_reducible refine store_all HK.out 0 4 lk_info rfl rfl _ _ rfl rfl rfl rfl (Lk.len _) (zer_length 4) ?_; intro u hk hs; clear hs; simp only [List.set_cons_zero] at hk; clear HK; have HK := Lib.hid hk; clear hk)
            | (with_reducible refine load_val HK.out 2 rfl _ rfl rfl rfl (Lk.g2 _) (Lk.p2 _) ?_)
            | (with_reducible refine alloc_zero (l := [(b0, 23, x0.l)]) HK.out 4 lk_zero rfl rfl ?_; intro bw u hn hk hb; clear hn hb; clear HK; have HK := Lib.hid hk; clear hk)
            | (with_reducible refine alloc_zero (l := [(bw, 23, _), (b0, 23, x0.l)]) HK.out 4 lk_zero rfl rfl ?_; intro bp u hn hk hb; clear hn hb; clear HK; have HK := Lib.hid hk; clear hk))
          refine Draws.start (S := fun u => KeepR w [(bp, 23, P.l), (bw, 23, W.l), (b0, 23, x0.l)] u) (n := 33) 33 rfl (by kernel_rfl) ?_
          have HS := Lib.hid ((HK.out.drew : (fun u => KeepR w [(bp, 23, P.l), (bw, 23, W.l), (b0, 23, x0.l)] u) _))
          refine Draws.take 0 (v := ?v1) HS.out rfl (by kernel_rfl) (fun _ _ _ h => h) (Or.inl ⟨rfl, ?h1⟩) ?r1
          case h1 => intro w' hw'; go_simp; (try with_reducible rfl)
          (try simp only [Act.put, List.setIfInBounds_toArray, List.set_cons_zero, List.set_cons_succ])
          refine Draws.take 1 (v := ?v2) HS.out rfl (by kernel_rfl) (fun _ _ _ h => h) (Or.inl ⟨rfl, ?h2⟩) ?r2
          case h2 => intro w' hw'; go_simp; (try with_reducible rfl)
          (try simp only [Act.put, List.setIfInBounds_toArray, List.set_cons_zero, List.set_cons_succ])
          refine Draws.take 2 (v := ?v3) HS.out rfl (by kernel_rfl) (fun _ _ _ h => h) (Or.inl ⟨rfl, ?h3⟩) ?r3
          case h3 => intro w' hw'; go_simp; (try with_reducible rfl)
          (try simp only [Act.put, List.setIfInBounds_toArray, List.set_cons_zero, List.set_cons_succ])
          refine Draws.take 3 HS.out rfl (by kernel_rfl) (fun _ _ _ h => h) (yield_all (fun _ h => h) 1 4 Try.underlying23 rfl lk_info rfl _ rfl rfl rfl (Lk.len _)) ?_
          (try simp only [Act.put, List.setIfInBounds_toArray, List.set_cons_zero, List.set_cons_succ])
          refine Draws.take 4 HS.out rfl (by kernel_rfl) (fun _ _ _ h => h) (yield_all (fun _ h => h) 2 4 Try.underlying23 rfl lk_info rfl _ rfl rfl rfl (Lk.len _)) ?_
          (try simp only [Act.put, List.setIfInBounds_toArray, List.set_cons_zero, List.set_cons_succ])
          refine Draws.does 5 rfl (by kernel_rfl) rfl (fun K hK => ?_)
          go_simp
          go_at_call 10
          refine (cW _).mono ?_
          rintro e u ⟨rfl, hb⟩
          (try dsimp only)
          refine hK.out _ _ (fun _ => HS.out.call hb) ?_
          clear hK K
          have hs : (fun u => KeepR w [(bp, 23, P.l), (bw, 23, W.l), (b0, 23, x0.l)] u) u := HS.out.call hb
          clear HS
          have HS := Lib.hid hs; clear hs
          (try simp only [Act.put, List.setIfInBounds_toArray, List.set_cons_zero, List.set_cons_succ])
          clear hb
          refine Draws.take 6 (v := ?v4) HS.out rfl (by kernel_rfl) (fun _ _ _ h => h) (Or.inl ⟨rfl, ?h4⟩) ?r4
          case h4 => intro w' hw'; go_simp; (try with_reducible rfl)
          (try simp only [Act.put, List.setIfInBounds_toArray, List.set_cons_zero, List.set_cons_succ])
          refine Draws.take 7 (v := ?v5) HS.out rfl (by kernel_rfl) (fun _ _ _ h => h) (Or.inl ⟨rfl, ?h5⟩) ?r5
          case h5 => intro w' hw'; go_simp; (try with_reducible rfl)
          (try simp only [Act.put, List.setIfInBounds_toArray, List.set_cons_zero, List.set_cons_succ])
          refine Draws.take 8 HS.out rfl (by kernel_rfl) (fun _ _ _ h => h) (yield_all (fun _ h => h) 1 4 Try.underlying23 rfl lk_info rfl _ rfl rfl rfl (Lk.len _)) ?_
          (try simp only [Act.put, List.setIfInBounds_toArray, List.set_cons_zero, List.set_cons_succ])
          refine Draws.does 9 rfl (by kernel_rfl) rfl (fun K hK => ?_)
          go_simp
          go_at_call 17
          refine (rW _).mono ?_
          rintro e u ⟨rfl, hb⟩
          (try dsimp only)
          refine hK.out _ _ (fun _ => HS.out.call hb) ?_
          clear hK K
          have hs : (fun u => KeepR w [(bp, 23, P.l), (bw, 23, W.l), (b0, 23, x0.l)] u) u := HS.out.call hb
          clear HS
          have HS := Lib.hid hs; clear hs
          (try simp only [Act.put, List.setIfInBounds_toArray, List.set_cons_zero, List.set_cons_succ])
          clear hb
          refine Draws.take 10 (v := ?v6) HS.out rfl (by kernel_rfl) (fun _ _ _ h => h) (Or.inl ⟨rfl, ?h6⟩) ?r6
          case h6 => intro w' hw'; go_simp; (try with_reducible rfl)
          (try simp only [Act.put, List.setIfInBounds_toArray, List.set_cons_zero, List.set_cons_succ])
          refine Draws.take 11 (v := ?v7) HS.out rfl (by kernel_rfl) (fun _ _ _ h => h) (Or.inl ⟨rfl, ?h7⟩) ?r7
          case h7 => intro w' hw'; go_simp; (try with_reducible rfl)
          (try simp only [Act.put, List.setIfInBounds_toArray, List.set_cons_zero, List.set_cons_succ])
          refine Draws.take 12 (v := ?v8) HS.out rfl (by kernel_rfl) (fun _ _ _ h => h) (Or.inl ⟨rfl, ?h8⟩) ?r8
          case h8 => intro w' hw'; go_simp; (try with_reducible rfl)
          (try simp only [Act.put, List.setIfInBounds_toArray, List.set_cons_zero, List.set_cons_succ])
          refine Draws.take 13 (v := ?v9) HS.out rfl (by kernel_rfl) (fun _ _ _ h => h) (Or.inl ⟨rfl, ?h9⟩) ?r9
          case h9 => intro w' hw'; go_simp; (try with_reducible rfl)
          (try simp only [Act.put, List.setIfInBounds_toArray, List.set_cons_zero, List.set_cons_succ])
          refine Draws.take 14 (v := ?v10) HS.out rfl (by kernel_rfl) (fun _ _ _ h => h) (Or.inl ⟨rfl, ?h10⟩) ?r10
          case h10 => intro w' hw'; have hc := (hw'.get 1 rfl).cell (k := 3) (Lk.p3 _); rw [Lk.g3, HX.out] at hc; go_simp; (try with_reducible rfl)
          (try simp only [Act.put, List.setIfInBounds_toArray, List.set_cons_zero, List.set_cons_succ])
          refine Draws.take 15 (v := ?v11) HS.out rfl (by kernel_rfl) (fun _ _ _ h => h) (Or.inl ⟨rfl, ?h11⟩) ?r11
          case h11 => intro w' hw'; go_simp; (try with_reducible rfl)
          (try simp only [Act.put, List.setIfInBounds_toArray, List.set_cons_zero, List.set_cons_succ])
          refine Draws.take 16 (v := ?v12) HS.out rfl (by kernel_rfl) (fun _ _ _ h => h) (Or.inl ⟨rfl, ?h12⟩) ?r12
          case h12 => intro w' hw'; go_simp; (try with_reducible rfl)
          (try simp only [Act.put, List.setIfInBounds_toArray, List.set_cons_zero, List.set_cons_succ])
          refine Draws.take 17 (v := ?v13) HS.out rfl (by kernel_rfl) (fun _ _ _ h => h) (Or.inl ⟨rfl, ?h13⟩) ?r13
          case h13 => intro w' hw'; go_simp; (try with_reducible rfl)
          (try simp only [Act.put, List.setIfInBounds_toArray, List.set_cons_zero, List.set_cons_succ])
          refine Draws.take 18 (v := ?v14) HS.out rfl (by kernel_rfl) (fun _ _ _ h => h) (Or.inl ⟨rfl, ?h14⟩) ?r14
          case h14 => intro w' hw'; go_simp; (try with_reducible rfl)
          (try simp only [Act.put, List.setIfInBounds_toArray, List.set_cons_zero, List.set_cons_succ])
          refine Draws.take 19 (v := ?v15) HS.out rfl (by kernel_rfl) (fun _ _ _ h => h) (Or.inl ⟨rfl, ?h15⟩) ?r15
          case h15 => intro w' hw'; go_simp; (try with_reducible rfl)
          (try simp only [Act.put, List.setIfInBounds_toArray, List.set_cons_zero, List.set_cons_succ])
          refine Draws.take 20 (v := ?v16) HS.out rfl (by kernel_rfl) (fun _ _ _ h => h) (Or.inl ⟨rfl, ?h16⟩) ?r16
          case h16 => intro w' hw'; have hc := (hw'.get 1 rfl).cell (k := 2) (Lk.p2 _); rw [Lk.g2, HH.out] at hc; go_simp; (try with_reducible rfl)
          (try simp only [Act.put, List.setIfInBounds_toArray, List.set_cons_zero, List.set_cons_succ])
          refine Draws.take 21 (v := ?v17) HS.out rfl (by kernel_rfl) (fun _ _ _ h => h) (Or.inl ⟨rfl, ?h17⟩) ?r17
          case h17 => intro w' hw'; go_simp; (try with_reducible rfl)
          (try simp only [Act.put, List.setIfInBounds_toArray, List.set_cons_zero, List.set_cons_succ])
          refine Draws.take 22 (v := ?v18) HS.out rfl (by kernel_rfl) (fun _ _ _ h => h) (Or.inl ⟨rfl, ?h18⟩) ?r18
          case h18 => intro w' hw'; have hc := (hw'.get 2 rfl).cell (k := 2) (Lk.p2 _); rw [Lk.g2] at hc; go_simp; (try with_reducible rfl)
          (try simp only [Act.put, List.setIfInBounds_toArray, List.set_cons_zero, List.set_cons_succ])
          refine Draws.take 23 (v := ?v19) HS.out rfl (by kernel_rfl) (fun _ _ _ h => h) (Or.inl ⟨rfl, ?h19⟩) ?r19
          case h19 => intro w' hw'; go_simp; (try with_reducible rfl)
          (try simp only [Act.put, List.setIfInBounds_toArray, List.set_cons_zero, List.set_cons_succ])
          refine Draws.take 24 (v := ?v20) HS.out rfl (by kernel_rfl) (fun _ _ _ h => h) (Or.inl ⟨rfl, ?h20⟩) ?r20
          case h20 => intro w' hw'; go_simp; (try with_reducible rfl)
          (try simp only [Act.put, List.setIfInBounds_toArray, List.set_cons_zero, List.set_cons_succ])
          refine Draws.take 25 (v := ?v21) HS.out rfl (by kernel_rfl) (fun _ _ _ h => h) (Or.inl ⟨rfl, ?h21⟩) ?r21
          case h21 => intro w' hw'; go_simp; (try with_reducible rfl)
          (try simp only [Act.put, List.setIfInBounds_toArray, List.set_cons_zero, List.set_cons_succ])
          refine Draws.take 26 HS.out rfl (by kernel_rfl) (fun _ _ _ h => h) (yield_all (fun _ h => h) 2 4 Try.underlying23 rfl lk_info rfl _ rfl rfl rfl (Lk.len _)) ?_
          (try simp only [Act.put, List.setIfInBounds_toArray, List.set_cons_zero, List.set_cons_succ])
          refine Draws.take 27 HS.out rfl (by kernel_rfl) (fun _ _ _ h => h) (yield_all (fun _ h => h) 1 4 Try.underlying23 rfl lk_info rfl _ rfl rfl rfl (Lk.len _)) ?_
          (try simp only [Act.put, List.setIfInBounds_toArray, List.set_cons_zero, List.set_cons_succ])
          refine Draws.take 29 HS.out rfl (by kernel_rfl) (fun _ _ _ h => h) (yield_all (fun _ h => h) 1 4 Try.underlying23 rfl lk_info rfl _ rfl rfl rfl (Lk.len _)) ?_
          (try simp only [Act.put, List.setIfInBounds_toArray, List.set_cons_zero, List.set_cons_succ])
          refine Draws.does 28 rfl (by kernel_rfl) rfl (fun K hK => ?_)
          go_simp
          go_at_call 9
          refine (jW _).mono ?_
          rintro e u ⟨rfl, hb⟩
          (try dsimp only)
          refine hK.out _ _ (fun _ => HS.out.call hb) ?_
          clear hK K
          have hs : (fun u => KeepR w [(bp, 23, P.l), (bw, 23, W.l), (b0, 23, x0.l)] u) u := HS.out.call hb
          clear HS
          have HS := Lib.hid hs; clear hs
          (try simp only [Act.put, List.setIfInBounds_toArray, List.set_cons_zero, List.set_cons_succ])
          clear hb
          refine Draws.take 30 (v := ?v22) HS.out rfl (by kernel_rfl) (fun _ _ _ h => h) (Or.inl ⟨rfl, ?h22⟩) ?r22
          case h22 => intro w' hw'; go_simp; (try with_reducible rfl)
          (try simp only [Act.put, List.setIfInBounds_toArray, List.set_cons_zero, List.set_cons_succ])
          refine Draws.take 31 (v := ?v23) HS.out rfl (by kernel_rfl) (fun _ _ _ h => h) (Or.inl ⟨rfl, ?h23⟩) ?r23
          case h23 => intro w' hw'; go_simp; (try with_reducible rfl)
          (try simp only [Act.put, List.setIfInBounds_toArray, List.set_cons_zero, List.set_cons_succ])
          refine Draws.take 32 (v := ?v24) HS.out rfl (by kernel_rfl) (fun _ _ _ h => h) (Or.inl ⟨rfl, ?h24⟩) ?r24
          case h24 => intro w' hw'; go_simp; (try with_reducible rfl)
          (try simp only [Act.put, List.setIfInBounds_toArray, List.set_cons_zero, List.set_cons_succ])
          refine Draws.done (by kernel_rfl) ?_
          clear HK
          have HK := Lib.hid HS.out; clear HS
          go_wp2_with (first
            | (refine load_all_want HK.out 0 4 Try.underlying23 rfl lk_info _ rfl rfl rfl rfl (Lk.len _) ?_)
            | (refine load_all_want HK.out 2 4 Try.underlying23 rfl lk_info _ rfl rfl rfl rfl (Lk.len _) ?_)
            | (refine load_all_want HK.out 1 4 Try.underlying23 rfl lk_info _ rfl rfl rfl rfl (Lk.len _) ?_)
            | (go_at_call 10; (with_reducible refine (cP _).mono ?_); rintro e u ⟨rfl, hb⟩; have hk := HK.out.call hb; clear hb; clear HK; have HK := Lib.hid hk; clear hk)
            | (go_at_call 17; (with_reducible refine (rP _).mono ?_); rintro e u ⟨rfl, hb⟩; have hk := HK.out.call hb; clear hb; clear HK; have HK := Lib.hid hk; clear hk)
            | (with_reducible refine load_val_want HK.out 0 _ rfl rfl rfl rfl HPX.out (Lk.p3 _) ?_)
            | (with_reducible refine load_val_want HK.out 2 _ rfl rfl rfl rfl (Lk.g3 _) (Lk.p3 _) ?_)
            | (with_reducible refine load_val_want HK.out 0 _ rfl rfl rfl rfl HPH.out (Lk.p2 _) ?_)
            | (go_at_call 10; (with_reducible refine (cPW _).mono ?_); rintro e u ⟨rfl, hb⟩; have hk := HK.out.call hb; clear hb; clear HK; have HK := Lib.hid hk; clear hk)
            | (go_at_call 13; (with_reducible refine (awake5 _).mono ?_); rintro e u ⟨rfl, hb⟩; have hk := HK.out.call hb; clear hb; clear HK; have HK := Lib.hid hk; clear hk))
          go_ret
          exact ⟨rfl, HK.out.bel⟩
        · have hf' : (psE x0 x0.h a2 == 0) = false := by simp [hf]
          obtain ⟨e1, e2, hwx, hwh, e3⟩ := wr_facts hr he
          have cW := compare_any (wrA x0 x0.h a3) x0
          have rW := lright_any (wrA x0 x0.h a3)
          have jW := join_any x0 (wrA x0 x0.h a3)
          rw [e1] at cW
          rw [e2] at rW
          rw [e3] at jW
          clear e1 e2 e3
          rw [he] at w1
          clear he hr
          generalize wrA x0 x0.h a3 = W at w1 cW rW hwx hwh jW
          generalize psA x0 x0.h a2 = P at p1
          generalize psE x0 x0.h a2 = pf at p1 hf hf'
          have qW := eql_lk W W
          rw [Lk.same] at qW
          have HX := Lib.hid hwx; have HH := Lib.hid hwh; clear hwx hwh
          have hkk : (x0.h != x0.h) = false := by simp
          go_enter Try.func6, Try.ntmps6
          go_wp2_with (first
            | (with_reducible refine box_new (R := x0.l) HK.out rfl _ rfl rfl ?_; intro b0 u hk hb; clear hb; clear HK; have HK := Lib.hid hk; clear hk)
            | (with_reducible refine load_all HK.out 0 4 Try.underlying23 rfl lk_info rfl _ rfl rfl rfl (Lk.len _) ?_)
            | (go_at_call 17; (with_reducible refine (r0 _).mono ?_); rintro e u ⟨rfl, hb⟩; have hk := HK.out.call hb; clear hb; clear HK; have HK := Lib.hid hk; clear hk)
            | (go_at_call 13; (with_reducible refine (awake5 _).mono ?_); rintro e u ⟨rfl, hb⟩; have hk := HK.out.call hb; clear hb; clear HK; have HK := Lib.hid hk; clear hk)
            | (go_at_call 15; (with_reducible refine (w1 _).mono ?_); rintro e u ⟨rfl, hb⟩; have hk := HK.out.call hb; clear hb; clear HK; have HK := Lib.hid hk; clear hk)
            | (go_at_call 16; (with_reducible refine (p1 _).mono ?_); rintro e u ⟨rfl, hb⟩; have hk := HK.out.call hb; clear hb; clear HK; have HK := Lib.hid hk; clear hk)
            | (with_reducible refine load_all HK.out 1 4 Try.underlying23 rfl lk_info rfl _ rfl rfl rfl (Lk.len _) ?_)
            | (with_reducible refine store_all HK.out 0 4 lk_info rfl rfl _ _ rfl rfl rfl rfl (Lk.len _) (zer_length 4) ?_; intro u hk hs; clear hs; simp only [List.set_cons_zero] at hk; clear HK; have HK := Lib.hid hk; clear hk)
            | (with_reducible refine load_val HK.out 2 rfl _ rfl rfl rfl (Lk.g2 _) (Lk.p2 _) ?_)
            | (with_reducible refine alloc_zero (l := [(b0, 23, x0.l)]) HK.out 4 lk_zero rfl rfl ?_; intro bw u hn hk hb; clear hn hb; clear HK; have HK := Lib.hid hk; clear hk)
            | (with_reducible refine alloc_zero (l := [(bw, 23, _), (b0, 23, x0.l)]) HK.out 4 lk_zero rfl rfl ?_; intro bp u hn hk hb; clear hn hb; clear HK; have HK := Lib.hid hk; clear hk))
          refine Draws.start (S := fun u => KeepR w [(bp, 23, P.l), (bw, 23, W.l), (b0, 23, x0.l)] u) (n := 33) 33 rfl (by kernel_rfl) ?_
          have HS := Lib.hid ((HK.out.drew : (fun u => KeepR w [(bp, 23, P.l), (bw, 23, W.l), (b0, 23, x0.l)] u) _))
          refine Draws.take 0 (v := ?v25) HS.out rfl (by kernel_rfl) (fun _ _ _ h => h) (Or.inl ⟨rfl, ?h25⟩) ?r25
          case h25 => intro w' hw'; go_simp; (try with_reducible rfl)
          (try simp only [Act.put, List.setIfInBounds_toArray, List.set_cons_zero, List.set_cons_succ])
          refine Draws.take 1 (v := ?v26) HS.out rfl (by kernel_rfl) (fun _ _ _ h => h) (Or.inl ⟨rfl, ?h26⟩) ?r26
          case h26 => intro w' hw'; go_simp; (try with_reducible rfl)
          (try simp only [Act.put, List.setIfInBounds_toArray, List.set_cons_zero, List.set_cons_succ])
          refine Draws.take 2 (v := ?v27) HS.out rfl (by kernel_rfl) (fun _ _ _ h => h) (Or.inl ⟨rfl, ?h27⟩) ?r27
          case h27 => intro w' hw'; go_simp; (try with_reducible rfl)
          (try simp only [Act.put, List.setIfInBounds_toArray, List.set_cons_zero, List.set_cons_succ])
          refine Draws.take 3 HS.out rfl (by kernel_rfl) (fun _ _ _ h => h) (yield_all (fun _ h => h) 1 4 Try.underlying23 rfl lk_info rfl _ rfl rfl rfl (Lk.len _)) ?_
          (try simp only [Act.put, List.setIfInBounds_toArray, List.set_cons_zero, List.set_cons_succ])
          refine Draws.take 4 HS.out rfl (by kernel_rfl) (fun _ _ _ h => h) (yield_all (fun _ h => h) 2 4 Try.underlying23 rfl lk_info rfl _ rfl rfl rfl (Lk.len _)) ?_
          (try simp only [Act.put, List.setIfInBounds_toArray, List.set_cons_zero, List.set_cons_succ])
          refine Draws.does 5 rfl (by kernel_rfl) rfl (fun K hK => ?_)
          go_simp
          go_at_call 10
          refine (cW _).mono ?_
          rintro e u ⟨rfl, hb⟩
          (try dsimp only)
          refine hK.out _ _ (fun _ => HS.out.call hb) ?_
          clear hK K
          have hs : (fun u => KeepR w [(bp, 23, P.l), (bw, 23, W.l), (b0, 23, x0.l)] u) u := HS.out.call hb
          clear HS
          have HS := Lib.hid hs; clear hs
          (try simp only [Act.put, List.setIfInBounds_toArray, List.set_cons_zero, List.set_cons_succ])
          clear hb
          refine Draws.take 6 (v := ?v28) HS.out rfl (by kernel_rfl) (fun _ _ _ h => h) (Or.inl ⟨rfl, ?h28⟩) ?r28
          case h28 => intro w' hw'; go_simp; (try with_reducible rfl)
          (try simp only [Act.put, List.setIfInBounds_toArray, List.set_cons_zero, List.set_cons_succ])
          refine Draws.take 7 (v := ?v29) HS.out rfl (by kernel_rfl) (fun _ _ _ h => h) (Or.inl ⟨rfl, ?h29⟩) ?r29
          case h29 => intro w' hw'; go_simp; (try with_reducible rfl)
          (try simp only [Act.put, List.setIfInBounds_toArray, List.set_cons_zero, List.set_cons_succ])
          refine Draws.take 8 HS.out rfl (by kernel_rfl) (fun _ _ _ h => h) (yield_all (fun _ h => h) 1 4 Try.underlying23 rfl lk_info rfl _ rfl rfl rfl (Lk.len _)) ?_
          (try simp only [Act.put, List.setIfInBounds_toArray, List.set_cons_zero, List.set_cons_succ])
          refine Draws.does 9 rfl (by kernel_rfl) rfl (fun K hK => ?_)
          go_simp
          go_at_call 17
          refine (rW _).mono ?_
          rintro e u ⟨rfl, hb⟩
          (try dsimp only)
          refine hK.out _ _ (fun _ => HS.out.call hb) ?_
          clear hK K
          have hs : (fun u => KeepR w [(bp, 23, P.l), (bw, 23, W.l), (b0, 23, x0.l)] u) u := HS.out.call hb
          clear HS
          have HS := Lib.hid hs; clear hs
          (try simp only [Act.put, List.setIfInBounds_toArray, List.set_cons_zero, List.set_cons_succ])
          clear hb
          refine Draws.take 10 (v := ?v30) HS.out rfl (by kernel_rfl) (fun _ _ _ h => h) (Or.inl ⟨rfl, ?h30⟩) ?r30
          case h30 => intro w' hw'; go_simp; (try with_reducible rfl)
          (try simp only [Act.put, List.setIfInBounds_toArray, List.set_cons_zero, List.set_cons_succ])
          refine Draws.take 11 (v := ?v31) HS.out rfl (by kernel_rfl) (fun _ _ _ h => h) (Or.inl ⟨rfl, ?h31⟩) ?r31
          case h31 => intro w' hw'; go_simp; (try with_reducible rfl)
          (try simp only [Act.put, List.setIfInBounds_toArray, List.set_cons_zero, List.set_cons_succ])
          refine Draws.take 12 (v := ?v32) HS.out rfl (by kernel_rfl) (fun _ _ _ h => h) (Or.inl ⟨rfl, ?h32⟩) ?r32
          case h32 => intro w' hw'; go_simp; (try with_reducible rfl)
          (try simp only [Act.put, List.setIfInBounds_toArray, List.set_cons_zero, List.set_cons_succ])
          refine Draws.take 13 (v := ?v33) HS.out rfl (by kernel_rfl) (fun _ _ _ h => h) (Or.inl ⟨rfl, ?h33⟩) ?r33
          case h33 => intro w' hw'; go_simp; (try with_reducible rfl)
          (try simp only [Act.put, List.setIfInBounds_toArray, List.set_cons_zero, List.set_cons_succ])
          refine Draws.take 14 (v := ?v34) HS.out rfl (by kernel_rfl) (fun _ _ _ h => h) (Or.inl ⟨rfl, ?h34⟩) ?r34
          case h34 => intro w' hw'; have hc := (hw'.get 1 rfl).cell (k := 3) (Lk.p3 _); rw [Lk.g3, HX.out] at hc; go_simp; (try with_reducible rfl)
          (try simp only [Act.put, List.setIfInBounds_toArray, List.set_cons_zero, List.set_cons_succ])
          refine Draws.take 15 (v := ?v35) HS.out rfl (by kernel_rfl) (fun _ _ _ h => h) (Or.inl ⟨rfl, ?h35⟩) ?r35
          case h35 => intro w' hw'; go_simp; (try with_reducible rfl)
          (try simp only [Act.put, List.setIfInBounds_toArray, List.set_cons_zero, List.set_cons_succ])
          refine Draws.take 16 (v := ?v36) HS.out rfl (by kernel_rfl) (fun _ _ _ h => h) (Or.inl ⟨rfl, ?h36⟩) ?r36
          case h36 => intro w' hw'; go_simp; (try with_reducible rfl)
          (try simp only [Act.put, List.setIfInBounds_toArray, List.set_cons_zero, List.set_cons_succ])
          refine Draws.take 17 (v := ?v37) HS.out rfl (by kernel_rfl) (fun _ _ _ h => h) (Or.inl ⟨rfl, ?h37⟩) ?r37
          case h37 => intro w' hw'; go_simp; (try with_reducible rfl)
          (try simp only [Act.put, List.setIfInBounds_toArray, List.set_cons_zero, List.set_cons_succ])
          refine Draws.take 18 (v := ?v38) HS.out rfl (by kernel_rfl) (fun _ _ _ h => h) (Or.inl ⟨rfl, ?h38⟩) ?r38
          case h38 => intro w' hw'; go_simp; (try with_reducible rfl)
          (try simp only [Act.put, List.setIfInBounds_toArray, List.set_cons_zero, List.set_cons_succ])
          refine Draws.take 19 (v := ?v39) HS.out rfl (by kernel_rfl) (fun _ _ _ h => h) (Or.inl ⟨rfl, ?h39⟩) ?r39
          case h39 => intro w' hw'; go_simp; (try with_reducible rfl)
          (try simp only [Act.put, List.setIfInBounds_toArray, List.set_cons_zero, List.set_cons_succ])
          refine Draws.take 20 (v := ?v40) HS.out rfl (by kernel_rfl) (fun _ _ _ h => h) (Or.inl ⟨rfl, ?h40⟩) ?r40
          case h40 => intro w' hw'; have hc := (hw'.get 1 rfl).cell (k := 2) (Lk.p2 _); rw [Lk.g2, HH.out] at hc; go_simp; (try with_reducible rfl)
          (try simp only [Act.put, List.setIfInBounds_toArray, List.set_cons_zero, List.set_cons_succ])
          refine Draws.take 21 (v := ?v41) HS.out rfl (by kernel_rfl) (fun _ _ _ h => h) (Or.inl ⟨rfl, ?h41⟩) ?r41
          case h41 => intro w' hw'; go_simp; (try with_reducible rfl)
          (try simp only [Act.put, List.setIfInBounds_toArray, List.set_cons_zero, List.set_cons_succ])
          refine Draws.take 22 (v := ?v42) HS.out rfl (by kernel_rfl) (fun _ _ _ h => h) (Or.inl ⟨rfl, ?h42⟩) ?r42
          case h42 => intro w' hw'; have hc := (hw'.get 2 rfl).cell (k := 2) (Lk.p2 _); rw [Lk.g2] at hc; go_simp; (try with_reducible rfl)
          (try simp only [Act.put, List.setIfInBounds_toArray, List.set_cons_zero, List.set_cons_succ])
          refine Draws.take 23 (v := ?v43) HS.out rfl (by kernel_rfl) (fun _ _ _ h => h) (Or.inl ⟨rfl, ?h43⟩) ?r43
          case h43 => intro w' hw'; go_simp; (try with_reducible rfl)
          (try simp only [Act.put, List.setIfInBounds_toArray, List.set_cons_zero, List.set_cons_succ])
          refine Draws.take 24 (v := ?v44) HS.out rfl (by kernel_rfl) (fun _ _ _ h => h) (Or.inl ⟨rfl, ?h44⟩) ?r44
          case h44 => intro w' hw'; go_simp; (try with_reducible rfl)
          (try simp only [Act.put, List.setIfInBounds_toArray, List.set_cons_zero, List.set_cons_succ])
          refine Draws.take 25 (v := ?v45) HS.out rfl (by kernel_rfl) (fun _ _ _ h => h) (Or.inl ⟨rfl, ?h45⟩) ?r45
          case h45 => intro w' hw'; go_simp; (try with_reducible rfl)
          (try simp only [Act.put, List.setIfInBounds_toArray, List.set_cons_zero, List.set_cons_succ])
          refine Draws.take 26 HS.out rfl (by kernel_rfl) (fun _ _ _ h => h) (yield_all (fun _ h => h) 2 4 Try.underlying23 rfl lk_info rfl _ rfl rfl rfl (Lk.len _)) ?_
          (try simp only [Act.put, List.setIfInBounds_toArray, List.set_cons_zero, List.set_cons_succ])
          refine Draws.take 27 HS.out rfl (by kernel_rfl) (fun _ _ _ h => h) (yield_all (fun _ h => h) 1 4 Try.underlying23 rfl lk_info rfl _ rfl rfl rfl (Lk.len _)) ?_
          (try simp only [Act.put, List.setIfInBounds_toArray, List.set_cons_zero, List.set_cons_succ])
          refine Draws.take 29 HS.out rfl (by kernel_rfl) (fun _ _ _ h => h) (yield_all (fun _ h => h) 1 4 Try.underlying23 rfl lk_info rfl _ rfl rfl rfl (Lk.len _)) ?_
          (try simp only [Act.put, List.setIfInBounds_toArray, List.set_cons_zero, List.set_cons_succ])
          refine Draws.does 28 rfl (by kernel_rfl) rfl (fun K hK => ?_)
          go_simp
          go_at_call 9
          refine (jW _).mono ?_
          rintro e u ⟨rfl, hb⟩
          (try dsimp only)
          refine hK.out _ _ (fun _ => HS.out.call hb) ?_
          clear hK K
          have hs : (fun u => KeepR w [(bp, 23, P.l), (bw, 23, W.l), (b0, 23, x0.l)] u) u := HS.out.call hb
          clear HS
          have HS := Lib.hid hs; clear hs
          (try simp only [Act.put, List.setIfInBounds_toArray, List.set_cons_zero, List.set_cons_succ])
          clear hb
          refine Draws.take 30 (v := ?v46) HS.out rfl (by kernel_rfl) (fun _ _ _ h => h) (Or.inl ⟨rfl, ?h46⟩) ?r46
          case h46 => intro w' hw'; go_simp; (try with_reducible rfl)
          (try simp only [Act.put, List.setIfInBounds_toArray, List.set_cons_zero, List.set_cons_succ])
          refine Draws.take 31 (v := ?v47) HS.out rfl (by kernel_rfl) (fun _ _ _ h => h) (Or.inl ⟨rfl, ?h47⟩) ?r47
          case h47 => intro w' hw'; go_simp; (try with_reducible rfl)
          (try simp only [Act.put, List.setIfInBounds_toArray, List.set_cons_zero, List.set_cons_succ])
          refine Draws.take 32 (v := ?v48) HS.out rfl (by kernel_rfl) (fun _ _ _ h => h) (Or.inl ⟨rfl, ?h48⟩) ?r48
          case h48 => intro w' hw'; go_simp; (try with_reducible rfl)
          (try simp only [Act.put, List.setIfInBounds_toArray, List.set_cons_zero, List.set_cons_succ])
          refine Draws.done (by kernel_rfl) ?_
          clear HK
          have HK := Lib.hid HS.out; clear HS
          go_wp2_with (first
            | (go_at_call 13; (with_reducible refine (awake5 _).mono ?_); rintro e u ⟨rfl, hb⟩; have hk := HK.out.call hb; clear hb; clear HK; have HK := Lib.hid hk; clear hk))
          go_ret
          exact ⟨rfl, HK.out.bel⟩
      · by_cases hf : psE x0 x0.h a2 = 0
        · skip
          obtain ⟨e1, e2, hpx, hph⟩ := ps_facts hr hf
          have cP := compare_any (psA x0 x0.h a2) x0
          have rP := lright_any (psA x0 x0.h a2)
          rw [e1] at cP
          rw [e2] at rP
          clear e1 e2
          rw [hf] at p1
          have he2 : wrE x0 x0.h a3 = 2 := by
            unfold wrE at he ⊢
            rw [if_neg (fun h => h rfl)] at he ⊢
            split at he
            · rename_i h; rw [if_pos h]
            · rename_i h; rw [if_neg h]; exact addE_two he
          rw [he2] at w1
          clear he he2
          clear hf hr
          generalize wrA x0 x0.h a3 = W at w1
          generalize psA x0 x0.h a2 = P at p1 cP rP hpx hph
          have HPX := Lib.hid ((Lk.g3 P).trans hpx); have HPH := Lib.hid ((Lk.g2 P).trans hph); clear hpx hph
          have hkk : (x0.h != x0.h) = false := by simp
          go_enter Try.func6, Try.ntmps6
          go_wp2_with (first
            | (with_reducible refine box_new (R := x0.l) HK.out rfl _ rfl rfl ?_; intro b0 u hk hb; clear hb; clear HK; have HK := Lib.hid hk; clear hk)
            | (with_reducible refine load_all HK.out 0 4 Try.underlying23 rfl lk_info rfl _ rfl rfl rfl (Lk.len _) ?_)
            | (go_at_call 17; (with_reducible refine (r0 _).mono ?_); rintro e u ⟨rfl, hb⟩; have hk := HK.out.call hb; clear hb; clear HK; have HK := Lib.hid hk; clear hk)
            | (go_at_call 13; (with_reducible refine (awake5 _).mono ?_); rintro e u ⟨rfl, hb⟩; have hk := HK.out.call hb; clear hb; clear HK; have HK := Lib.hid hk; clear hk)
            | (go_at_call 15; (with_reducible refine (w1 _).mono ?_); rintro e u ⟨rfl, hb⟩; have hk := HK.out.call hb; clear hb; clear HK; have HK := Lib.hid hk; clear hk)
            | (go_at_call 16; (with_reducible refine (p1 _).mono ?_); rintro e u ⟨rfl, hb⟩; have hk := HK.out.call hb; clear hb; clear HK; have HK := Lib.hid hk; clear hk)
            | (with_reducible refine load_all HK.out 1 4 Try.underlying23 rfl lk_info rfl _ rfl rfl rfl (Lk.len _) ?_)
            | (with_reducible refine store_all HK.out 0 4 lk_info rfl rfl _ _ rfl rfl rfl rfl (Lk.len _) (zer_length 4) ?_; intro u hk hs; clear hs; simp only [List.set_cons_zero] at hk; clear HK; have HK := Lib.hid hk; clear hk)
            | (with_reducible refine load_val HK.out 2 rfl _ rfl rfl rfl (Lk.g2 _) (Lk.p2 _) ?_)
            | (with_reducible refine alloc_zero (l := [(b0, 23, x0.l)]) HK.out 4 lk_zero rfl rfl ?_; intro bw u hn hk hb; clear hn hb; clear HK; have HK := Lib.hid hk; clear hk)
            | (with_reducible refine alloc_zero (l := [(bw, 23, _), (b0, 23, x0.l)]) HK.out 4 lk_zero rfl rfl ?_; intro bp u hn hk hb; clear hn hb; clear HK; have HK := Lib.hid hk; clear hk))
          refine Draws.start (S := fun u => KeepR w [(bp, 23, P.l), (bw, 23, W.l), (b0, 23, x0.l)] u) (n := 33) 33 rfl (by kernel_rfl) ?_
          have HS := Lib.hid ((HK.out.drew : (fun u => KeepR w [(bp, 23, P.l), (bw, 23, W.l), (b0, 23, x0.l)] u) _))
          refine Draws.take 0 (v := ?v49) HS.out rfl (by kernel_rfl) (fun _ _ _ h => h) (Or.inl ⟨rfl, ?h49⟩) ?r49
          case h49 => intro w' hw'; go_simp; (try with_reducible rfl)
          (try simp only [Act.put, List.setIfInBounds_toArray, List.set_cons_zero, List.set_cons_succ])
          refine Draws.take 1 (v := ?v50) HS.out rfl (by kernel_rfl) (fun _ _ _ h => h) (Or.inl ⟨rfl, ?h50⟩) ?r50
          case h50 => intro w' hw'; go_simp; (try with_reducible rfl)
          (try simp only [Act.put, List.setIfInBounds_toArray, List.set_cons_zero, List.set_cons_succ])
          refine Draws.take 2 (v := ?v51) HS.out rfl (by kernel_rfl) (fun _ _ _ h => h) (Or.inl ⟨rfl, ?h51⟩) ?r51
          case h51 => intro w' hw'; go_simp; (try with_reducible rfl)
          (try simp only [Act.put, List.setIfInBounds_toArray, List.set_cons_zero, List.set_cons_succ])
          refine Draws.take 3 HS.out rfl (by kernel_rfl) (fun _ _ _ h => h) (Or.inr ⟨rfl, rfl⟩) ?_
          (try simp only [Act.put, List.setIfInBounds_toArray, List.set_cons_zero, List.set_cons_succ])
          refine Draws.take 4 HS.out rfl (by kernel_rfl) (fun _ _ _ h => h) (Or.inr ⟨rfl, rfl⟩) ?_
          (try simp only [Act.put, List.setIfInBounds_toArray, List.set_cons_zero, List.set_cons_succ])
          refine Draws.take 5 HS.out rfl (by kernel_rfl) (fun _ _ _ h => h) (Or.inr ⟨rfl, rfl⟩) ?_
          (try simp only [Act.put, List.setIfInBounds_toArray, List.set_cons_zero, List.set_cons_succ])
          refine Draws.take 6 HS.out rfl (by kernel_rfl) (fun _ _ _ h => h) (Or.inr ⟨rfl, rfl⟩) ?_
          (try simp only [Act.put, List.setIfInBounds_toArray, List.set_cons_zero, List.set_cons_succ])
          refine Draws.take 7 HS.out rfl (by kernel_rfl) (fun _ _ _ h => h) (Or.inr ⟨rfl, rfl⟩) ?_
          (try simp only [Act.put, List.setIfInBounds_toArray, List.set_cons_zero, List.set_cons_succ])
          refine Draws.take 8 HS.out rfl (by kernel_rfl) (fun _ _ _ h => h) (Or.inr ⟨rfl, rfl⟩) ?_
          (try simp only [Act.put, List.setIfInBounds_toArray, List.set_cons_zero, List.set_cons_succ])
          refine Draws.take 9 HS.out rfl (by kernel_rfl) (fun _ _ _ h => h) (Or.inr ⟨rfl, rfl⟩) ?_
          (try simp only [Act.put, List.setIfInBounds_toArray, List.set_cons_zero, List.set_cons_succ])
          refine Draws.take 10 HS.out rfl (by kernel_rfl) (fun _ _ _ h => h) (Or.inr ⟨rfl, rfl⟩) ?_
          (try simp only [Act.put, List.setIfInBounds_toArray, List.set_cons_zero, List.set_cons_succ])
          refine Draws.take 11 HS.out rfl (by kernel_rfl) (fun _ _ _ h => h) (Or.inr ⟨rfl, rfl⟩) ?_
          (try simp only [Act.put, List.setIfInBounds_toArray, List.set_cons_zero, List.set_cons_succ])
          refine Draws.take 12 HS.out rfl (by kernel_rfl) (fun _ _ _ h => h) (Or.inr ⟨rfl, rfl⟩) ?_
          (try simp only [Act.put, List.setIfInBounds_toArray, List.set_cons_zero, List.set_cons_succ])
          refine Draws.take 13 HS.out rfl (by kernel_rfl) (fun _ _ _ h => h) (Or.inr ⟨rfl, rfl⟩) ?_
          (try simp only [Act.put, List.setIfInBounds_toArray, List.set_cons_zero, List.set_cons_succ])
          refine Draws.take 14 HS.out rfl (by kernel_rfl) (fun _ _ _ h => h) (Or.inr ⟨rfl, rfl⟩) ?_
          (try simp only [Act.put, List.setIfInBounds_toArray, List.set_cons_zero, List.set_cons_succ])
          refine Draws.take 15 HS.out rfl (by kernel_rfl) (fun _ _ _ h => h) (Or.inr ⟨rfl, rfl⟩) ?_
          (try simp only [Act.put, List.setIfInBounds_toArray, List.set_cons_zero, List.set_cons_succ])
          refine Draws.take 16 HS.out rfl (by kernel_rfl) (fun _ _ _ h => h) (Or.inr ⟨rfl, rfl⟩) ?_
          (try simp only [Act.put, List.setIfInBounds_toArray, List.set_cons_zero, List.set_cons_succ])
          refine Draws.take 17 HS.out rfl (by kernel_rfl) (fun _ _ _ h => h) (Or.inr ⟨rfl, rfl⟩) ?_
          (try simp only [Act.put, List.setIfInBounds_toArray, List.set_cons_zero, List.set_cons_succ])
          refine Draws.take 18 HS.out rfl (by kernel_rfl) (fun _ _ _ h => h) (Or.inr ⟨rfl, rfl⟩) ?_
          (try simp only [Act.put, List.setIfInBounds_toArray, List.set_cons_zero, List.set_cons_succ])
          refine Draws.take 19 HS.out rfl (by kernel_rfl) (fun _ _ _ h => h) (Or.inr ⟨rfl, rfl⟩) ?_
          (try simp only [Act.put, List.setIfInBounds_toArray, List.set_cons_zero, List.set_cons_succ])
          refine Draws.take 20 HS.out rfl (by kernel_rfl) (fun _ _ _ h => h) (Or.inr ⟨rfl, rfl⟩) ?_
          (try simp only [Act.put, List.setIfInBounds_toArray, List.set_cons_zero, List.set_cons_succ])
          refine Draws.take 21 HS.out rfl (by kernel_rfl) (fun _ _ _ h => h) (Or.inr ⟨rfl, rfl⟩) ?_
          (try simp only [Act.put, List.setIfInBounds_toArray, List.set_cons_zero, List.set_cons_succ])
          refine Draws.take 22 HS.out rfl (by kernel_rfl) (fun _ _ _ h => h) (Or.inr ⟨rfl, rfl⟩) ?_
          (try simp only [Act.put, List.setIfInBounds_toArray, List.set_cons_zero, List.set_cons_succ])
          refine Draws.take 23 HS.out rfl (by kernel_rfl) (fun _ _ _ h => h) (Or.inr ⟨rfl, rfl⟩) ?_
          (try simp only [Act.put, List.setIfInBounds_toArray, List.set_cons_zero, List.set_cons_succ])
          refine Draws.take 24 HS.out rfl (by kernel_rfl) (fun _ _ _ h => h) (Or.inr ⟨rfl, rfl⟩) ?_
          (try simp only [Act.put, List.setIfInBounds_toArray, List.set_cons_zero, List.set_cons_succ])
          refine Draws.take 25 HS.out rfl (by kernel_rfl) (fun _ _ _ h => h) (Or.inr ⟨rfl, rfl⟩) ?_
          (try simp only [Act.put, List.setIfInBounds_toArray, List.set_cons_zero, List.set_cons_succ])
          refine Draws.take 26 HS.out rfl (by kernel_rfl) (fun _ _ _ h => h) (Or.inr ⟨rfl, rfl⟩) ?_
          (try simp only [Act.put, List.setIfInBounds_toArray, List.set_cons_zero, List.set_cons_succ])
          refine Draws.take 27 HS.out rfl (by kernel_rfl) (fun _ _ _ h => h) (Or.inr ⟨rfl, rfl⟩) ?_
          (try simp only [Act.put, List.setIfInBounds_toArray, List.set_cons_zero, List.set_cons_succ])
          refine Draws.take 28 HS.out rfl (by kernel_rfl) (fun _ _ _ h => h) (Or.inr ⟨rfl, rfl⟩) ?_
          (try simp only [Act.put, List.setIfInBounds_toArray, List.set_cons_zero, List.set_cons_succ])
          refine Draws.take 29 HS.out rfl (by kernel_rfl) (fun _ _ _ h => h) (Or.inr ⟨rfl, rfl⟩) ?_
          (try simp only [Act.put, List.setIfInBounds_toArray, List.set_cons_zero, List.set_cons_succ])
          refine Draws.take 30 HS.out rfl (by kernel_rfl) (fun _ _ _ h => h) (Or.inr ⟨rfl, rfl⟩) ?_
          (try simp only [Act.put, List.setIfInBounds_toArray, List.set_cons_zero, List.set_cons_succ])
          refine Draws.take 31 HS.out rfl (by kernel_rfl) (fun _ _ _ h => h) (Or.inr ⟨rfl, rfl⟩) ?_
          (try simp only [Act.put, List.setIfInBounds_toArray, List.set_cons_zero, List.set_cons_succ])
          refine Draws.take 32 (v := ?v52) HS.out rfl (by kernel_rfl) (fun _ _ _ h => h) (Or.inl ⟨rfl, ?h52⟩) ?r52
          case h52 => intro w' hw'; go_simp; (try with_reducible rfl)
          (try simp only [Act.put, List.setIfInBounds_toArray, List.set_cons_zero, List.set_cons_succ])
          refine Draws.done (by kernel_rfl) ?_
          clear HK
          have HK := Lib.hid HS.out; clear HS
          go_wp2_with (first
            | (refine load_all_want HK.out 0 4 Try.underlying23 rfl lk_info _ rfl rfl rfl rfl (Lk.len _) ?_)
            | (refine load_all_want HK.out 2 4 Try.underlying23 rfl lk_info _ rfl rfl rfl rfl (Lk.len _) ?_)
            | (refine load_all_want HK.out 1 4 Try.underlying23 rfl lk_info _ rfl rfl rfl rfl (Lk.len _) ?_)
            | (go_at_call 10; (with_reducible refine (cP _).mono ?_); rintro e u ⟨rfl, hb⟩; have hk := HK.out.call hb; clear hb; clear HK; have HK := Lib.hid hk; clear hk)
            | (go_at_call 17; (with_reducible refine (rP _).mono ?_); rintro e u ⟨rfl, hb⟩; have hk := HK.out.call hb; clear hb; clear HK; have HK := Lib.hid hk; clear hk)
            | (with_reducible refine load_val_want HK.out 0 _ rfl rfl rfl rfl HPX.out (Lk.p3 _) ?_)
            | (with_reducible refine load_val_want HK.out 2 _ rfl rfl rfl rfl (Lk.g3 _) (Lk.p3 _) ?_)
            | (with_reducible refine load_val_want HK.out 0 _ rfl rfl rfl rfl HPH.out (Lk.p2 _) ?_)
            | (go_at_call 13; (with_reducible refine (awake5 _).mono ?_); rintro e u ⟨rfl, hb⟩; have hk := HK.out.call hb; clear hb; clear HK; have HK := Lib.hid hk; clear hk))
          go_ret
          exact ⟨rfl, HK.out.bel⟩
        · have hf' : (psE x0 x0.h a2 == 0) = false := by simp [hf]
          have he2 : wrE x0 x0.h a3 = 2 := by
            unfold wrE at he ⊢
            rw [if_neg (fun h => h rfl)] at he ⊢
            split at he
            · rename_i h; rw [if_pos h]
            · rename_i h; rw [if_neg h]; exact addE_two he
          rw [he2] at w1
          clear he he2
          clear hr
          generalize wrA x0 x0.h a3 = W at w1
          generalize psA x0 x0.h a2 = P at p1
          generalize psE x0 x0.h a2 = pf at p1 hf hf'
          have hkk : (x0.h != x0.h) = false := by simp
          go_enter Try.func6, Try.ntmps6
          go_wp2_with (first
            | (with_reducible refine box_new (R := x0.l) HK.out rfl _ rfl rfl ?_; intro b0 u hk hb; clear hb; clear HK; have HK := Lib.hid hk; clear hk)
            | (with_reducible refine load_all HK.out 0 4 Try.underlying23 rfl lk_info rfl _ rfl rfl rfl (Lk.len _) ?_)
            | (go_at_call 17; (with_reducible refine (r0 _).mono ?_); rintro e u ⟨rfl, hb⟩; have hk := HK.out.call hb; clear hb; clear HK; have HK := Lib.hid hk; clear hk)
            | (go_at_call 13; (with_reducible refine (awake5 _).mono ?_); rintro e u ⟨rfl, hb⟩; have hk := HK.out.call hb; clear hb; clear HK; have HK := Lib.hid hk; clear hk)
            | (go_at_call 15; (with_reducible refine (w1 _).mono ?_); rintro e u ⟨rfl, hb⟩; have hk := HK.out.call hb; clear hb; clear HK; have HK := Lib.hid hk; clear hk)
            | (go_at_call 16; (with_reducible refine (p1 _).mono ?_); rintro e u ⟨rfl, hb⟩; have hk := HK.out.call hb; clear hb; clear HK; have HK := Lib.hid hk; clear hk)
            | (with_reducible refine load_all HK.out 1 4 Try.underlying23 rfl lk_info rfl _ rfl rfl rfl (Lk.len _) ?_)
            | (with_reducible refine store_all HK.out 0 4 lk_info rfl rfl _ _ rfl rfl rfl rfl (Lk.len _) (zer_length 4) ?_; intro u hk hs; clear hs; simp only [List.set_cons_zero] at hk; clear HK; have HK := Lib.hid hk; clear hk)
            | (with_reducible refine load_val HK.out 2 rfl _ rfl rfl rfl (Lk.g2 _) (Lk.p2 _) ?_)
            | (with_reducible refine alloc_zero (l := [(b0, 23, x0.l)]) HK.out 4 lk_zero rfl rfl ?_; intro bw u hn hk hb; clear hn hb; clear HK; have HK := Lib.hid hk; clear hk)
            | (with_reducible refine alloc_zero (l := [(bw, 23, _), (b0, 23, x0.l)]) HK.out 4 lk_zero rfl rfl ?_; intro bp u hn hk hb; clear hn hb; clear HK; have HK := Lib.hid hk; clear hk))
          refine Draws.start (S := fun u => KeepR w [(bp, 23, P.l), (bw, 23, W.l), (b0, 23, x0.l)] u) (n := 33) 33 rfl (by kernel_rfl) ?_
          have HS := Lib.hid ((HK.out.drew : (fun u => KeepR w [(bp, 23, P.l), (bw, 23, W.l), (b0, 23, x0.l)] u) _))
          refine Draws.take 0 (v := ?v53) HS.out rfl (by kernel_rfl) (fun _ _ _ h => h) (Or.inl ⟨rfl, ?h53⟩) ?r53
          case h53 => intro w' hw'; go_simp; (try with_reducible rfl)
          (try simp only [Act.put, List.setIfInBounds_toArray, List.set_cons_zero, List.set_cons_succ])
          refine Draws.take 1 (v := ?v54) HS.out rfl (by kernel_rfl) (fun _ _ _ h => h) (Or.inl ⟨rfl, ?h54⟩) ?r54
          case h54 => intro w' hw'; go_simp; (try with_reducible rfl)
          (try simp only [Act.put, List.setIfInBounds_toArray, List.set_cons_zero, List.set_cons_succ])
          refine Draws.take 2 (v := ?v55) HS.out rfl (by kernel_rfl) (fun _ _ _ h => h) (Or.inl ⟨rfl, ?h55⟩) ?r55
          case h55 => intro w' hw'; go_simp; (try with_reducible rfl)
          (try simp only [Act.put, List.setIfInBounds_toArray, List.set_cons_zero, List.set_cons_succ])
          refine Draws.take 3 HS.out rfl (by kernel_rfl) (fun _ _ _ h => h) (Or.inr ⟨rfl, rfl⟩) ?_
          (try simp only [Act.put, List.setIfInBounds_toArray, List.set_cons_zero, List.set_cons_succ])
          refine Draws.take 4 HS.out rfl (by kernel_rfl) (fun _ _ _ h => h) (Or.inr ⟨rfl, rfl⟩) ?_
          (try simp only [Act.put, List.setIfInBounds_toArray, List.set_cons_zero, List.set_cons_succ])
          refine Draws.take 5 HS.out rfl (by kernel_rfl) (fun _ _ _ h => h) (Or.inr ⟨rfl, rfl⟩) ?_
          (try simp only [Act.put, List.setIfInBounds_toArray, List.set_cons_zero, List.set_cons_succ])
          refine Draws.take 6 HS.out rfl (by kernel_rfl) (fun _ _ _ h => h) (Or.inr ⟨rfl, rfl⟩) ?_
          (try simp only [Act.put, List.setIfInBounds_toArray, List.set_cons_zero, List.set_cons_succ])
          refine Draws.take 7 HS.out rfl (by kernel_rfl) (fun _ _ _ h => h) (Or.inr ⟨rfl, rfl⟩) ?_
          (try simp only [Act.put, List.setIfInBounds_toArray, List.set_cons_zero, List.set_cons_succ])
          refine Draws.take 8 HS.out rfl (by kernel_rfl) (fun _ _ _ h => h) (Or.inr ⟨rfl, rfl⟩) ?_
          (try simp only [Act.put, List.setIfInBounds_toArray, List.set_cons_zero, List.set_cons_succ])
          refine Draws.take 9 HS.out rfl (by kernel_rfl) (fun _ _ _ h => h) (Or.inr ⟨rfl, rfl⟩) ?_
          (try simp only [Act.put, List.setIfInBounds_toArray, List.set_cons_zero, List.set_cons_succ])
          refine Draws.take 10 HS.out rfl (by kernel_rfl) (fun _ _ _ h => h) (Or.inr ⟨rfl, rfl⟩) ?_
          (try simp only [Act.put, List.setIfInBounds_toArray, List.set_cons_zero, List.set_cons_succ])
          refine Draws.take 11 HS.out rfl (by kernel_rfl) (fun _ _ _ h => h) (Or.inr ⟨rfl, rfl⟩) ?_
          (try simp only [Act.put, List.setIfInBounds_toArray, List.set_cons_zero, List.set_cons_succ])
          refine Draws.take 12 HS.out rfl (by kernel_rfl) (fun _ _ _ h => h) (Or.inr ⟨rfl, rfl⟩) ?_
          (try simp only [Act.put, List.setIfInBounds_toArray, List.set_cons_zero, List.set_cons_succ])
          refine Draws.take 13 HS.out rfl (by kernel_rfl) (fun _ _ _ h => h) (Or.inr ⟨rfl, rfl⟩) ?_
          (try simp only [Act.put, List.setIfInBounds_toArray, List.set_cons_zero, List.set_cons_succ])
          refine Draws.take 14 HS.out rfl (by kernel_rfl) (fun _ _ _ h => h) (Or.inr ⟨rfl, rfl⟩) ?_
          (try simp only [Act.put, List.setIfInBounds_toArray, List.set_cons_zero, List.set_cons_succ])
          refine Draws.take 15 HS.out rfl (by kernel_rfl) (fun _ _ _ h => h) (Or.inr ⟨rfl, rfl⟩) ?_
          (try simp only [Act.put, List.setIfInBounds_toArray, List.set_cons_zero, List.set_cons_succ])
          refine Draws.take 16 HS.out rfl (by kernel_rfl) (fun _ _ _ h => h) (Or.inr ⟨rfl, rfl⟩) ?_
          (try simp only [Act.put, List.setIfInBounds_toArray, List.set_cons_zero, List.set_cons_succ])
          refine Draws.take 17 HS.out rfl (by kernel_rfl) (fun _ _ _ h => h) (Or.inr ⟨rfl, rfl⟩) ?_
          (try simp only [Act.put, List.setIfInBounds_toArray, List.set_cons_zero, List.set_cons_succ])
          refine Draws.take 18 HS.out rfl (by kernel_rfl) (fun _ _ _ h => h) (Or.inr ⟨rfl, rfl⟩) ?_
          (try simp only [Act.put, List.setIfInBounds_toArray, List.set_cons_zero, List.set_cons_succ])
          refine Draws.take 19 HS.out rfl (by kernel_rfl) (fun _ _ _ h => h) (Or.inr ⟨rfl, rfl⟩) ?_
          (try simp only [Act.put, List.setIfInBounds_toArray, List.set_cons_zero, List.set_cons_succ])
          refine Draws.take 20 HS.out rfl (by kernel_rfl) (fun _ _ _ h => h) (Or.inr ⟨rfl, rfl⟩) ?_
          (try simp only [Act.put, List.setIfInBounds_toArray, List.set_cons_zero, List.set_cons_succ])
          refine Draws.take 21 HS.out rfl (by kernel_rfl) (fun _ _ _ h => h) (Or.inr ⟨rfl, rfl⟩) ?_
          (try simp only [Act.put, List.setIfInBounds_toArray, List.set_cons_zero, List.set_cons_succ])
          refine Draws.take 22 HS.out rfl (by kernel_rfl) (fun _ _ _ h => h) (Or.inr ⟨rfl, rfl⟩) ?_
          (try simp only [Act.put, List.setIfInBounds_toArray, List.set_cons_zero, List.set_cons_succ])
          refine Draws.take 23 HS.out rfl (by kernel_rfl) (fun _ _ _ h => h) (Or.inr ⟨rfl, rfl⟩) ?_
          (try simp only [Act.put, List.setIfInBounds_toArray, List.set_cons_zero, List.set_cons_succ])
          refine Draws.take 24 HS.out rfl (by kernel_rfl) (fun _ _ _ h => h) (Or.inr ⟨rfl, rfl⟩) ?_
          (try simp only [Act.put, List.setIfInBounds_toArray, List.set_cons_zero, List.set_cons_succ])
          refine Draws.take 25 HS.out rfl (by kernel_rfl) (fun _ _ _ h => h) (Or.inr ⟨rfl, rfl⟩) ?_
          (try simp only [Act.put, List.setIfInBounds_toArray, List.set_cons_zero, List.set_cons_succ])
          refine Draws.take 26 HS.out rfl (by kernel_rfl) (fun _ _ _ h => h) (Or.inr ⟨rfl, rfl⟩) ?_
          (try simp only [Act.put, List.setIfInBounds_toArray, List.set_cons_zero, List.set_cons_succ])
          refine Draws.take 27 HS.out rfl (by kernel_rfl) (fun _ _ _ h => h) (Or.inr ⟨rfl, rfl⟩) ?_
          (try simp only [Act.put, List.setIfInBounds_toArray, List.set_cons_zero, List.set_cons_succ])
          refine Draws.take 28 HS.out rfl (by kernel_rfl) (fun _ _ _ h => h) (Or.inr ⟨rfl, rfl⟩) ?_
          (try simp only [Act.put, List.setIfInBounds_toArray, List.set_cons_zero, List.set_cons_succ])
          refine Draws.take 29 HS.out rfl (by kernel_rfl) (fun _ _ _ h => h) (Or.inr ⟨rfl, rfl⟩) ?_
          (try simp only [Act.put, List.setIfInBounds_toArray, List.set_cons_zero, List.set_cons_succ])
          refine Draws.take 30 HS.out rfl (by kernel_rfl) (fun _ _ _ h => h) (Or.inr ⟨rfl, rfl⟩) ?_
          (try simp only [Act.put, List.setIfInBounds_toArray, List.set_cons_zero, List.set_cons_succ])
          refine Draws.take 31 HS.out rfl (by kernel_rfl) (fun _ _ _ h => h) (Or.inr ⟨rfl, rfl⟩) ?_
          (try simp only [Act.put, List.setIfInBounds_toArray, List.set_cons_zero, List.set_cons_succ])
          refine Draws.take 32 (v := ?v56) HS.out rfl (by kernel_rfl) (fun _ _ _ h => h) (Or.inl ⟨rfl, ?h56⟩) ?r56
          case h56 => intro w' hw'; go_simp; (try with_reducible rfl)
          (try simp only [Act.put, List.setIfInBounds_toArray, List.set_cons_zero, List.set_cons_succ])
          refine Draws.done (by kernel_rfl) ?_
          clear HK
          have HK := Lib.hid HS.out; clear HS
          go_wp2_with (first
            | (go_at_call 13; (with_reducible refine (awake5 _).mono ?_); rintro e u ⟨rfl, hb⟩; have hk := HK.out.call hb; clear hb; clear HK; have HK := Lib.hid hk; clear hk))
          go_ret
          exact ⟨rfl, HK.out.bel⟩
    · rw [show wrE x0 a1 a3 = 9 by simp [wrE, hk1], show (wrA x0 a1 a3) = z4 by simp [wrA, wrE, hk1]] at w1
      rw [show psE x0 a1 a2 = 9 by simp [psE, hk1], show (psA x0 a1 a2) = z4 by simp [psA, psE, hk1]] at p1
      have hk2 : (a1 != x0.h) = true := by simp [hk1]
      clear hr
      go_enter Try.func6, Try.ntmps6
      go_wp2_with (first
        | (with_reducible refine box_new (R := x0.l) HK.out rfl _ rfl rfl ?_; intro b0 u hk hb; clear hb; clear HK; have HK := Lib.hid hk; clear hk)
        | (with_reducible refine load_all HK.out 0 4 Try.underlying23 rfl lk_info rfl _ rfl rfl rfl (Lk.len _) ?_)
        | (go_at_call 17; (with_reducible refine (r0 _).mono ?_); rintro e u ⟨rfl, hb⟩; have hk := HK.out.call hb; clear hb; clear HK; have HK := Lib.hid hk; clear hk)
        | (go_at_call 13; (with_reducible refine (awake5 _).mono ?_); rintro e u ⟨rfl, hb⟩; have hk := HK.out.call hb; clear hb; clear HK; have HK := Lib.hid hk; clear hk)
        | (go_at_call 15; (with_reducible refine (w1 _).mono ?_); rintro e u ⟨rfl, hb⟩; have hk := HK.out.call hb; clear hb; clear HK; have HK := Lib.hid hk; clear hk)
        | (go_at_call 16; (with_reducible refine (p1 _).mono ?_); rintro e u ⟨rfl, hb⟩; have hk := HK.out.call hb; clear hb; clear HK; have HK := Lib.hid hk; clear hk)
        | (with_reducible refine load_all HK.out 1 4 Try.underlying23 rfl lk_info rfl _ rfl rfl rfl (Lk.len _) ?_)
        | (with_reducible refine store_all HK.out 0 4 lk_info rfl rfl _ _ rfl rfl rfl rfl (Lk.len _) (zer_length 4) ?_; intro u hk hs; clear hs; simp only [List.set_cons_zero] at hk; clear HK; have HK := Lib.hid hk; clear hk)
        | (with_reducible refine load_val HK.out 2 rfl _ rfl rfl rfl (Lk.g2 _) (Lk.p2 _) ?_)
        | (with_reducible refine alloc_zero (l := [(b0, 23, x0.l)]) HK.out 4 lk_zero rfl rfl ?_; intro bw u hn hk hb; clear hn hb; clear HK; have HK := Lib.hid hk; clear hk)
        | (with_reducible refine alloc_zero (l := [(bw, 23, _), (b0, 23, x0.l)]) HK.out 4 lk_zero rfl rfl ?_; intro bp u hn hk hb; clear hn hb; clear HK; have HK := Lib.hid hk; clear hk))
      go_ret
      exact ⟨rfl, HK.out.bel⟩

set_option maxRecDepth 100000 in
theorem lifted (os : Os) (started : os.Started) (H : Type) (enc : TypeId × Value → H) :
    ReturnsInHanded {} Try.checked os 6 .any (Rows.lockStepsSpec.pre6 enc Try.prog Try.f6 Rows.lockStepsRow.domain false) (Rows.lockStepsSpec.post enc Try.prog Try.f6 false true false false) := by
  refine returnsInHanded_of_change (C := Try.checked) own started (by kernel_rfl) Try.func6
    (ChangeSpec.witness6 (enc := enc) (C := Try.checked) false ⟨#[], #[.agg (vals (zer 4)).toArray, .int .i64 0, .int .i64 0, .int .i64 0], []⟩ 12 (by kernel_rfl) (by kernel_rfl) (by kernel_rfl) (by kernel_rfl)) ?_
  intro W base args ds gs before hval0 hW hcnd _
  have hval : ∀ (j : Nat) t v, Try.f6.params[j]? = some t → args[j]? = some v → Value.okWide Try.prog W .any base t v := hval0
  have hW' := hW
  obtain ⟨p, q, hA0, hV, rfl, hfz, hnd⟩ := hW
  have hA : DataW.TrodAll enc Try.prog W 0 (fun _ => true) true Try.f6.params.toList args.toList ds p := hA0
  rw [Try.params6] at hA hval
  obtain ⟨v0, vs0, d0, ds0, p0, q0, hargs, rfl, rfl, h0, r0⟩ := trodAll_cons hA
  obtain ⟨v1, vs1, d1, ds1, p1, q1, rfl, rfl, rfl, h1, r1⟩ := trodAll_cons r0
  obtain ⟨v2, vs2, d2, ds2, p2, q2, rfl, rfl, rfl, h2, r2⟩ := trodAll_cons r1
  obtain ⟨v3, vs3, d3, ds3, p3, q3, rfl, rfl, rfl, h3, r3⟩ := trodAll_cons r2
  obtain ⟨rfl, rfl, rfl⟩ := trodAll_nil r3
  obtain rfl : args = #[v0, v1, v2, v3] := by cases args; simp_all
  obtain ⟨rfl, rfl⟩ := trodVars_none hV
  have k0 := h0
  have lt0 : ∀ x ∈ p0, x.block < W.heap.size := by obtain ⟨m, hm⟩ := k0; exact DataW.trod_lt m _ _ _ hm
  obtain ⟨x0, rfl⟩ := open_lk (hval 0 23 v0 rfl rfl) h0
  have k1 := h1
  have lt1 : ∀ x ∈ p1, x.block < W.heap.size := by obtain ⟨m, hm⟩ := k1; exact DataW.trod_lt m _ _ _ hm
  obtain ⟨a1, rfl, rfl, rfl, w1⟩ := open_int Try.underlying3 (hval 1 3 v1 rfl rfl) h1
  have k2 := h2
  have lt2 : ∀ x ∈ p2, x.block < W.heap.size := by obtain ⟨m, hm⟩ := k2; exact DataW.trod_lt m _ _ _ hm
  obtain ⟨a2, rfl, rfl, rfl, w2⟩ := open_int Try.underlying3 (hval 2 3 v2 rfl rfl) h2
  have k3 := h3
  have lt3 : ∀ x ∈ p3, x.block < W.heap.size := by obtain ⟨m, hm⟩ := k3; exact DataW.trod_lt m _ _ _ hm
  obtain ⟨a3, rfl, rfl, rfl, w3⟩ := open_int Try.underlying3 (hval 3 3 v3 rfl rfl) h3
  clear hA0 hval0
  refine (walk x0 a1 w1 a2 w2 a3 w3 W).mono fun e W' ⟨he, bel⟩ => ?_
  subst he
  exact ⟨_, rfl, _, _, _, [], _, [], hW', trodAll_mk1 (shut_bool Try.underlying4 _), (trodAll_cons_mk (Below.trod laidOut (by kernel_rfl) (of_decide_eq_true (by kernel_rfl)) k0 bel lt0) (trodAll_cons_mk (Below.trod laidOut (by kernel_rfl) (of_decide_eq_true (by kernel_rfl)) k1 bel lt1) (trodAll_cons_mk (Below.trod laidOut (by kernel_rfl) (of_decide_eq_true (by kernel_rfl)) k2 bel lt2) (trodAll_cons_mk (Below.trod laidOut (by kernel_rfl) (of_decide_eq_true (by kernel_rfl)) k3 bel lt3) trodAll_mk0)))), rfl, bel.frame _, fun h => by cases h⟩

theorem over : Rows.lockStepsRow.holds Try.pinned (OpenSpec.ofChange Rows.lockStepsSpec) :=
  OpenClaim.holds_of_wide 6 Try.f6 rfl rfl rfl rfl rfl rfl rfl ⟨rfl, rfl, rfl, rfl, rfl⟩ rfl rfl rfl rfl rfl (by kernel_rfl) Try.func6 (by kernel_rfl)
    (of_decide_eq_true (by kernel_rfl)) (by unfold Func.isWrapper; first | (rw [if_pos (by decide +kernel)]; kernel_rfl) | (rw [if_neg (by decide +kernel)]; exact ⟨rfl, rfl⟩))
    (fun os started H enc _ => lifted os started H enc)

theorem proved : Rows.LockStepsSaid := over
#print axioms proved
end Go.Proofs.Ytbaacdkjdkkifaa.lockSteps
