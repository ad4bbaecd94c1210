/- A vector that may be is joined, and grown, to one that may be, and its sum is at least each of its numbers: VecSame returns true for every two vectors and every two ints. No condition. -/
import Derived.Test.YtjgdgoiogdappaaVecLaw
import Derived.WalkKit
import Derived.ProofKit
import Derived.OpenShut
import Derived.ChangeOld
import Derived.Below
namespace Go.Proofs.Ytjgdgoiogdappaa.vecSame
open Go.ChangeShapes Go.WideShapes Go.ChangeAt Go.RowKit
set_option linter.unusedVariables false

theorem own : ownKnob Try.prog.godebug = none := by kernel_rfl
theorem laidOut : laidOutB Try.prog = true := by kernel_rfl

theorem tot_mem {xs : List Int} (h : ∀ z ∈ xs, 0 ≤ z) : ∀ z ∈ xs, z ≤ tot xs := by
  induction xs with
  | nil => simp
  | cons x r ih =>
    intro z hz
    have h1 := h x (by simp)
    have h2 : ∀ z ∈ r, 0 ≤ z := fun z hz => h z (by simp [hz])
    have h3 := tot_nonneg h2
    show z ≤ x + tot r
    rcases List.mem_cons.1 hz with rfl | hz
    · omega
    · have := ih h2 z hz; omega
theorem mem_get {xs : List Int} {k : Nat} (h : k < xs.length) : xs.getD k 0 ∈ xs := by simp [List.getD, h]
theorem sum_most {xs : List Int} (hx : xs.length = 16) (hr : rightB xs = true) (hs : sumE xs = 0) : ∀ k, k < 16 → xs.getD k 0 ≤ sumN xs := by
  have h0 : ∀ z ∈ xs, 0 ≤ z := by
    intro z hz
    simp only [rightB, List.all_eq_true, Bool.and_eq_true, decide_eq_true_eq] at hr
    exact (hr z hz).1
  intro k hk
  by_cases ht : tot xs ≤ 1099511627776
  · rw [(sum_fits h0 ht).1]; exact tot_mem h0 _ (mem_get (by omega))
  · rw [(sum_over h0 (by omega)).2] at hs; cases hs
theorem sum_cases (xs : List Int) : sumE xs = 0 ∨ sumE xs = 2 := by unfold sumE; split <;> simp
theorem right_join {xs ys : List Int} (hx : xs.length = 16) (hy : ys.length = 16) (h1 : rightB xs = true) (h2 : rightB ys = true) : rightB (joinL xs ys) = true :=
  (rightB_iff (joinL_length hx hy)).2 fun k hk => by
    rw [joinL_get (by omega) (by omega)]
    have := (rightB_iff hx).1 h1 k hk
    have := (rightB_iff hy).1 h2 k hk
    omega
theorem right_grow {xs : List Int} (hx : xs.length = 16) (h1 : rightB xs = true) {k n : Int} (h : growE xs k n = 0) : rightB (growL xs k n) = true := by
  obtain ⟨j, rfl, hj, hn, hok, e⟩ := grow_zero hx h
  refine (rightB_iff (growL_length hx _ _)).2 fun i hi => ?_
  rw [e, set_get (by omega)]
  have h2 := (rightB_iff hx).1 h1
  split
  · have := h2 j hj
    have := isB_iff.1 (okB_iff.1 hok).2.2
    omega
  · exact h2 i hi


set_option maxHeartbeats 4000000 in
theorem walk (x0 : List Int) (l0 : x0.length = 16) (r0 : ∀ z ∈ x0, (Lit.int .i64 z).wf = true) (x1 : List Int) (l1 : x1.length = 16) (r1 : ∀ z ∈ x1, (Lit.int .i64 z).wf = true) (a2 : Int) (w2 : (Lit.int .i64 a2).wf = true) (a3 : Int) (w3 : (Lit.int .i64 a3).wf = true) (w : World) :
    Calls Try.prog 8 #[.agg (vals x0).toArray, .agg (vals x1).toArray, .int .i64 a2, .int .i64 a3] w fun e w' => e = .returned (.bool true) ∧ Below w.heap.size w w' := by
  have c0 := right_any x0 l0
  have c1 := right_any x1 l1
  cases p : rightB x0 with
  | false =>
    rw [p] at c0
    clear p c1
    have L0 := Lib.hid l0; have L1 := Lib.hid l1
    have HK := Lib.hid (keep2 w l0 l1)
    clear l0 l1 r0 r1
    go_enter Try.func8, Try.ntmps8
    go_wp2_with (first
      | (with_reducible refine wpList_load_keep HK.out 0 rfl _ rfl rfl rfl ?_)
      | (with_reducible refine wpList_load_keep HK.out 1 rfl _ rfl rfl rfl ?_)
      | (refine wpList_want_keep HK.out 0 _ rfl rfl rfl rfl ?_)
      | (refine wpList_want_keep HK.out 1 _ rfl rfl rfl rfl ?_)
      | (go_at_call 13; (with_reducible refine (c0 _).mono ?_); rintro e w1 ⟨rfl, hb⟩; have hk' := HK.out.call hb; clear hb HK; have HK := Lib.hid hk'; clear hk')
      | (go_at_call 15; (with_reducible refine (awake_any _).mono ?_); rintro e w9 ⟨rfl, hb⟩; have hk' := HK.out.call hb; clear hb HK; have HK := Lib.hid hk'; clear hk'))
    go_ret
    exact ⟨rfl, HK.out.1⟩
  | true =>
    cases q : rightB x1 with
    | false =>
      rw [p] at c0
      rw [q] at c1
      clear p q
      have L0 := Lib.hid l0; have L1 := Lib.hid l1
      have HK := Lib.hid (keep2 w l0 l1)
      clear l0 l1 r0 r1
      go_enter Try.func8, Try.ntmps8
      go_wp2_with (first
        | (with_reducible refine wpList_load_keep HK.out 0 rfl _ rfl rfl rfl ?_)
        | (with_reducible refine wpList_load_keep HK.out 1 rfl _ rfl rfl rfl ?_)
        | (refine wpList_want_keep HK.out 0 _ rfl rfl rfl rfl ?_)
        | (refine wpList_want_keep HK.out 1 _ rfl rfl rfl rfl ?_)
        | (go_at_call 13; (with_reducible refine (c0 _).mono ?_); rintro e w1 ⟨rfl, hb⟩; have hk' := HK.out.call hb; clear hb HK; have HK := Lib.hid hk'; clear hk')
        | (go_at_call 13; (with_reducible refine (c1 _).mono ?_); rintro e w2 ⟨rfl, hb⟩; have hk' := HK.out.call hb; clear hb HK; have HK := Lib.hid hk'; clear hk')
        | (go_at_call 15; (with_reducible refine (awake_any _).mono ?_); rintro e w9 ⟨rfl, hb⟩; have hk' := HK.out.call hb; clear hb HK; have HK := Lib.hid hk'; clear hk'))
      go_ret
      exact ⟨rfl, HK.out.1⟩
    | true =>
      have cj := join_any x0 x1 l0 l1
      have lj := joinL_length l0 l1
      have rj := right_any (joinL x0 x1) lj
      rw [right_join l0 l1 p q] at rj
      have sm : sumE x0 = 0 → ∀ k, k < 16 → x0.getD k 0 ≤ sumN x0 := sum_most l0 p
      have sc := sum_cases x0
      have s1 := sumv_any x0 l0
      have g1 := grow_any x0 a2 a3 l0
      have lg := growL_length l0 a2 a3
      have gc := grow_cases x0 a2 a3
      have rg : growE x0 a2 a3 = 0 → rightB (growL x0 a2 a3) = true := fun h => right_grow l0 p h
      have rG := right_any (growL x0 a2 a3) lg
      have hix : ∀ (k : Nat) (W : World), k < 16 → (Instr.index 23 (.agg (vals x0).toArray) (.int .i64 (k : Int))).run Try.prog W = .ok (.int .i64 (x0.getD k 0)) W := fun k W hk => index_vec l0 hk W
      have HIX := Lib.hid hix; clear hix
      rw [p] at c0
      rw [q] at c1
      clear p q
      generalize growE x0 a2 a3 = E at *
      generalize growL x0 a2 a3 = G at *
      generalize joinL x0 x1 = J at *
      generalize sumN x0 = SN at *
      generalize sumE x0 = SE at *
      have L0 := Lib.hid l0; have L1 := Lib.hid l1
      have HK := Lib.hid (keep2 w l0 l1)
      have LG := Lib.hid lg; have LJ := Lib.hid lj
      clear l0 l1 lg lj r0 r1
      rcases sc with rfl | rfl
      · rcases gc with rfl | rfl | rfl
        · have SM := Lib.hid (sm rfl); clear sm
          rw [rg rfl] at rG
          clear rg
          go_enter Try.func8, Try.ntmps8
          go_wp2_with (first
            | (with_reducible refine wpList_store_new rfl rfl _ _ rfl G rfl rfl LG.out ?_; intro wn hA hb hs; have hk' := (HK.out.call hb).cons hA LG.out; clear hA hb hs HK; have HK := Lib.hid hk'; clear hk')
            | (with_reducible refine wpList_load_keep HK.out 0 rfl _ rfl rfl rfl ?_)
            | (with_reducible refine wpList_load_keep HK.out 1 rfl _ rfl rfl rfl ?_)
            | (with_reducible refine wpList_load_keep HK.out 2 rfl _ rfl rfl rfl ?_)
            | (refine wpList_want_keep HK.out 0 _ rfl rfl rfl rfl ?_)
            | (refine wpList_want_keep HK.out 1 _ rfl rfl rfl rfl ?_)
            | (refine wpList_want_keep HK.out 2 _ rfl rfl rfl rfl ?_)
            | (go_at_call 13; (with_reducible refine (c0 _).mono ?_); rintro e w1 ⟨rfl, hb⟩; have hk' := HK.out.call hb; clear hb HK; have HK := Lib.hid hk'; clear hk')
            | (go_at_call 13; (with_reducible refine (c1 _).mono ?_); rintro e w2 ⟨rfl, hb⟩; have hk' := HK.out.call hb; clear hb HK; have HK := Lib.hid hk'; clear hk')
            | (go_at_call 18; (with_reducible refine (g1 _).mono ?_); rintro e w3 ⟨rfl, hb⟩; have hk' := HK.out.call hb; clear hb HK; have HK := Lib.hid hk'; clear hk')
            | (go_at_call 16; (with_reducible refine (s1 _).mono ?_); rintro e w4 ⟨rfl, hb⟩; have hk' := HK.out.call hb; clear hb HK; have HK := Lib.hid hk'; clear hk'))
          go_loop [37] (fun i => ∃ k : Nat, k ≤ 16 ∧ i = .int .i64 k) (fun i => 16 - (intOf i).toNat)
          case atStart => exact ⟨0, by omega, rfl⟩
          case round =>
            obtain ⟨k, hk, rfl⟩ := hrel
            by_cases hlt : k < 16
            · have hi : ∀ W : World, (Instr.index 23 (.agg (vals x0).toArray) (.int .i64 (k : Int))).run Try.prog W = .ok (.int .i64 (x0.getD k 0)) W := fun W => HIX.out k W hlt
              have hm := SM.out k hlt
              generalize x0.getD k 0 = x at hi hm
              go_wp2
              go_round
              case rel => exact ⟨k + 1, by omega, by go_num⟩
              case measure => simp [intOf]; omega
            · go_wp2_with (first
                | (with_reducible refine wpList_load_keep HK.out 0 rfl _ rfl rfl rfl ?_)
                | (with_reducible refine wpList_load_keep HK.out 1 rfl _ rfl rfl rfl ?_)
                | (with_reducible refine wpList_load_keep HK.out 2 rfl _ rfl rfl rfl ?_)
                | (refine wpList_want_keep HK.out 0 _ rfl rfl rfl rfl ?_)
                | (refine wpList_want_keep HK.out 1 _ rfl rfl rfl rfl ?_)
                | (refine wpList_want_keep HK.out 2 _ rfl rfl rfl rfl ?_)
                | (go_at_call 9; (with_reducible refine (cj _).mono ?_); rintro e w5 ⟨rfl, hb⟩; have hk' := HK.out.call hb; clear hb HK; have HK := Lib.hid hk'; clear hk')
                | (go_at_call 13; (with_reducible refine (rj _).mono ?_); rintro e w6 ⟨rfl, hb⟩; have hk' := HK.out.call hb; clear hb HK; have HK := Lib.hid hk'; clear hk')
                | (go_at_call 13; (with_reducible refine (rG _).mono ?_); rintro e w7 ⟨rfl, hb⟩; have hk' := HK.out.call hb; clear hb HK; have HK := Lib.hid hk'; clear hk')
                | (go_at_call 15; (with_reducible refine (awake_any _).mono ?_); rintro e w9 ⟨rfl, hb⟩; have hk' := HK.out.call hb; clear hb HK; have HK := Lib.hid hk'; clear hk'))
              go_ret
              exact ⟨rfl, HK.out.1⟩
        · have SM := Lib.hid (sm rfl); clear sm
          clear rg rG
          go_enter Try.func8, Try.ntmps8
          go_wp2_with (first
            | (with_reducible refine wpList_store_new rfl rfl _ _ rfl G rfl rfl LG.out ?_; intro wn hA hb hs; have hk' := (HK.out.call hb).cons hA LG.out; clear hA hb hs HK; have HK := Lib.hid hk'; clear hk')
            | (with_reducible refine wpList_load_keep HK.out 0 rfl _ rfl rfl rfl ?_)
            | (with_reducible refine wpList_load_keep HK.out 1 rfl _ rfl rfl rfl ?_)
            | (with_reducible refine wpList_load_keep HK.out 2 rfl _ rfl rfl rfl ?_)
            | (refine wpList_want_keep HK.out 0 _ rfl rfl rfl rfl ?_)
            | (refine wpList_want_keep HK.out 1 _ rfl rfl rfl rfl ?_)
            | (refine wpList_want_keep HK.out 2 _ rfl rfl rfl rfl ?_)
            | (go_at_call 13; (with_reducible refine (c0 _).mono ?_); rintro e w1 ⟨rfl, hb⟩; have hk' := HK.out.call hb; clear hb HK; have HK := Lib.hid hk'; clear hk')
            | (go_at_call 13; (with_reducible refine (c1 _).mono ?_); rintro e w2 ⟨rfl, hb⟩; have hk' := HK.out.call hb; clear hb HK; have HK := Lib.hid hk'; clear hk')
            | (go_at_call 18; (with_reducible refine (g1 _).mono ?_); rintro e w3 ⟨rfl, hb⟩; have hk' := HK.out.call hb; clear hb HK; have HK := Lib.hid hk'; clear hk')
            | (go_at_call 16; (with_reducible refine (s1 _).mono ?_); rintro e w4 ⟨rfl, hb⟩; have hk' := HK.out.call hb; clear hb HK; have HK := Lib.hid hk'; clear hk'))
          go_loop [37] (fun i => ∃ k : Nat, k ≤ 16 ∧ i = .int .i64 k) (fun i => 16 - (intOf i).toNat)
          case atStart => exact ⟨0, by omega, rfl⟩
          case round =>
            obtain ⟨k, hk, rfl⟩ := hrel
            by_cases hlt : k < 16
            · have hi : ∀ W : World, (Instr.index 23 (.agg (vals x0).toArray) (.int .i64 (k : Int))).run Try.prog W = .ok (.int .i64 (x0.getD k 0)) W := fun W => HIX.out k W hlt
              have hm := SM.out k hlt
              generalize x0.getD k 0 = x at hi hm
              go_wp2
              go_round
              case rel => exact ⟨k + 1, by omega, by go_num⟩
              case measure => simp [intOf]; omega
            · go_wp2_with (first
                | (with_reducible refine wpList_load_keep HK.out 0 rfl _ rfl rfl rfl ?_)
                | (with_reducible refine wpList_load_keep HK.out 1 rfl _ rfl rfl rfl ?_)
                | (with_reducible refine wpList_load_keep HK.out 2 rfl _ rfl rfl rfl ?_)
                | (refine wpList_want_keep HK.out 0 _ rfl rfl rfl rfl ?_)
                | (refine wpList_want_keep HK.out 1 _ rfl rfl rfl rfl ?_)
                | (refine wpList_want_keep HK.out 2 _ rfl rfl rfl rfl ?_)
                | (go_at_call 9; (with_reducible refine (cj _).mono ?_); rintro e w5 ⟨rfl, hb⟩; have hk' := HK.out.call hb; clear hb HK; have HK := Lib.hid hk'; clear hk')
                | (go_at_call 13; (with_reducible refine (rj _).mono ?_); rintro e w6 ⟨rfl, hb⟩; have hk' := HK.out.call hb; clear hb HK; have HK := Lib.hid hk'; clear hk')
                | (go_at_call 15; (with_reducible refine (awake_any _).mono ?_); rintro e w9 ⟨rfl, hb⟩; have hk' := HK.out.call hb; clear hb HK; have HK := Lib.hid hk'; clear hk'))
              go_ret
              exact ⟨rfl, HK.out.1⟩
        · have SM := Lib.hid (sm rfl); clear sm
          clear rg rG
          go_enter Try.func8, Try.ntmps8
          go_wp2_with (first
            | (with_reducible refine wpList_store_new rfl rfl _ _ rfl G rfl rfl LG.out ?_; intro wn hA hb hs; have hk' := (HK.out.call hb).cons hA LG.out; clear hA hb hs HK; have HK := Lib.hid hk'; clear hk')
            | (with_reducible refine wpList_load_keep HK.out 0 rfl _ rfl rfl rfl ?_)
            | (with_reducible refine wpList_load_keep HK.out 1 rfl _ rfl rfl rfl ?_)
            | (with_reducible refine wpList_load_keep HK.out 2 rfl _ rfl rfl rfl ?_)
            | (refine wpList_want_keep HK.out 0 _ rfl rfl rfl rfl ?_)
            | (refine wpList_want_keep HK.out 1 _ rfl rfl rfl rfl ?_)
            | (refine wpList_want_keep HK.out 2 _ rfl rfl rfl rfl ?_)
            | (go_at_call 13; (with_reducible refine (c0 _).mono ?_); rintro e w1 ⟨rfl, hb⟩; have hk' := HK.out.call hb; clear hb HK; have HK := Lib.hid hk'; clear hk')
            | (go_at_call 13; (with_reducible refine (c1 _).mono ?_); rintro e w2 ⟨rfl, hb⟩; have hk' := HK.out.call hb; clear hb HK; have HK := Lib.hid hk'; clear hk')
            | (go_at_call 18; (with_reducible refine (g1 _).mono ?_); rintro e w3 ⟨rfl, hb⟩; have hk' := HK.out.call hb; clear hb HK; have HK := Lib.hid hk'; clear hk')
            | (go_at_call 16; (with_reducible refine (s1 _).mono ?_); rintro e w4 ⟨rfl, hb⟩; have hk' := HK.out.call hb; clear hb HK; have HK := Lib.hid hk'; clear hk'))
          go_loop [37] (fun i => ∃ k : Nat, k ≤ 16 ∧ i = .int .i64 k) (fun i => 16 - (intOf i).toNat)
          case atStart => exact ⟨0, by omega, rfl⟩
          case round =>
            obtain ⟨k, hk, rfl⟩ := hrel
            by_cases hlt : k < 16
            · have hi : ∀ W : World, (Instr.index 23 (.agg (vals x0).toArray) (.int .i64 (k : Int))).run Try.prog W = .ok (.int .i64 (x0.getD k 0)) W := fun W => HIX.out k W hlt
              have hm := SM.out k hlt
              generalize x0.getD k 0 = x at hi hm
              go_wp2
              go_round
              case rel => exact ⟨k + 1, by omega, by go_num⟩
              case measure => simp [intOf]; omega
            · go_wp2_with (first
                | (with_reducible refine wpList_load_keep HK.out 0 rfl _ rfl rfl rfl ?_)
                | (with_reducible refine wpList_load_keep HK.out 1 rfl _ rfl rfl rfl ?_)
                | (with_reducible refine wpList_load_keep HK.out 2 rfl _ rfl rfl rfl ?_)
                | (refine wpList_want_keep HK.out 0 _ rfl rfl rfl rfl ?_)
                | (refine wpList_want_keep HK.out 1 _ rfl rfl rfl rfl ?_)
                | (refine wpList_want_keep HK.out 2 _ rfl rfl rfl rfl ?_)
                | (go_at_call 9; (with_reducible refine (cj _).mono ?_); rintro e w5 ⟨rfl, hb⟩; have hk' := HK.out.call hb; clear hb HK; have HK := Lib.hid hk'; clear hk')
                | (go_at_call 13; (with_reducible refine (rj _).mono ?_); rintro e w6 ⟨rfl, hb⟩; have hk' := HK.out.call hb; clear hb HK; have HK := Lib.hid hk'; clear hk')
                | (go_at_call 15; (with_reducible refine (awake_any _).mono ?_); rintro e w9 ⟨rfl, hb⟩; have hk' := HK.out.call hb; clear hb HK; have HK := Lib.hid hk'; clear hk'))
              go_ret
              exact ⟨rfl, HK.out.1⟩
      · rcases gc with rfl | rfl | rfl
        · clear sm
          rw [rg rfl] at rG
          clear rg
          go_enter Try.func8, Try.ntmps8
          go_wp2_with (first
            | (with_reducible refine wpList_store_new rfl rfl _ _ rfl G rfl rfl LG.out ?_; intro wn hA hb hs; have hk' := (HK.out.call hb).cons hA LG.out; clear hA hb hs HK; have HK := Lib.hid hk'; clear hk')
            | (with_reducible refine wpList_load_keep HK.out 0 rfl _ rfl rfl rfl ?_)
            | (with_reducible refine wpList_load_keep HK.out 1 rfl _ rfl rfl rfl ?_)
            | (with_reducible refine wpList_load_keep HK.out 2 rfl _ rfl rfl rfl ?_)
            | (refine wpList_want_keep HK.out 0 _ rfl rfl rfl rfl ?_)
            | (refine wpList_want_keep HK.out 1 _ rfl rfl rfl rfl ?_)
            | (refine wpList_want_keep HK.out 2 _ rfl rfl rfl rfl ?_)
            | (go_at_call 13; (with_reducible refine (c0 _).mono ?_); rintro e w1 ⟨rfl, hb⟩; have hk' := HK.out.call hb; clear hb HK; have HK := Lib.hid hk'; clear hk')
            | (go_at_call 13; (with_reducible refine (c1 _).mono ?_); rintro e w2 ⟨rfl, hb⟩; have hk' := HK.out.call hb; clear hb HK; have HK := Lib.hid hk'; clear hk')
            | (go_at_call 18; (with_reducible refine (g1 _).mono ?_); rintro e w3 ⟨rfl, hb⟩; have hk' := HK.out.call hb; clear hb HK; have HK := Lib.hid hk'; clear hk')
            | (go_at_call 16; (with_reducible refine (s1 _).mono ?_); rintro e w4 ⟨rfl, hb⟩; have hk' := HK.out.call hb; clear hb HK; have HK := Lib.hid hk'; clear hk'))
          go_loop [37] (fun i => ∃ k : Nat, k ≤ 16 ∧ i = .int .i64 k) (fun i => 16 - (intOf i).toNat)
          case atStart => exact ⟨0, by omega, rfl⟩
          case round =>
            obtain ⟨k, hk, rfl⟩ := hrel
            by_cases hlt : k < 16
            · have hi : ∀ W : World, (Instr.index 23 (.agg (vals x0).toArray) (.int .i64 (k : Int))).run Try.prog W = .ok (.int .i64 (x0.getD k 0)) W := fun W => HIX.out k W hlt
              generalize x0.getD k 0 = x at hi
              go_wp2
              go_round
              case rel => exact ⟨k + 1, by omega, by go_num⟩
              case measure => simp [intOf]; omega
            · go_wp2_with (first
                | (with_reducible refine wpList_load_keep HK.out 0 rfl _ rfl rfl rfl ?_)
                | (with_reducible refine wpList_load_keep HK.out 1 rfl _ rfl rfl rfl ?_)
                | (with_reducible refine wpList_load_keep HK.out 2 rfl _ rfl rfl rfl ?_)
                | (refine wpList_want_keep HK.out 0 _ rfl rfl rfl rfl ?_)
                | (refine wpList_want_keep HK.out 1 _ rfl rfl rfl rfl ?_)
                | (refine wpList_want_keep HK.out 2 _ rfl rfl rfl rfl ?_)
                | (go_at_call 9; (with_reducible refine (cj _).mono ?_); rintro e w5 ⟨rfl, hb⟩; have hk' := HK.out.call hb; clear hb HK; have HK := Lib.hid hk'; clear hk')
                | (go_at_call 13; (with_reducible refine (rj _).mono ?_); rintro e w6 ⟨rfl, hb⟩; have hk' := HK.out.call hb; clear hb HK; have HK := Lib.hid hk'; clear hk')
                | (go_at_call 13; (with_reducible refine (rG _).mono ?_); rintro e w7 ⟨rfl, hb⟩; have hk' := HK.out.call hb; clear hb HK; have HK := Lib.hid hk'; clear hk')
                | (go_at_call 15; (with_reducible refine (awake_any _).mono ?_); rintro e w9 ⟨rfl, hb⟩; have hk' := HK.out.call hb; clear hb HK; have HK := Lib.hid hk'; clear hk'))
              go_ret
              exact ⟨rfl, HK.out.1⟩
        · clear sm
          clear rg rG
          go_enter Try.func8, Try.ntmps8
          go_wp2_with (first
            | (with_reducible refine wpList_store_new rfl rfl _ _ rfl G rfl rfl LG.out ?_; intro wn hA hb hs; have hk' := (HK.out.call hb).cons hA LG.out; clear hA hb hs HK; have HK := Lib.hid hk'; clear hk')
            | (with_reducible refine wpList_load_keep HK.out 0 rfl _ rfl rfl rfl ?_)
            | (with_reducible refine wpList_load_keep HK.out 1 rfl _ rfl rfl rfl ?_)
            | (with_reducible refine wpList_load_keep HK.out 2 rfl _ rfl rfl rfl ?_)
            | (refine wpList_want_keep HK.out 0 _ rfl rfl rfl rfl ?_)
            | (refine wpList_want_keep HK.out 1 _ rfl rfl rfl rfl ?_)
            | (refine wpList_want_keep HK.out 2 _ rfl rfl rfl rfl ?_)
            | (go_at_call 13; (with_reducible refine (c0 _).mono ?_); rintro e w1 ⟨rfl, hb⟩; have hk' := HK.out.call hb; clear hb HK; have HK := Lib.hid hk'; clear hk')
            | (go_at_call 13; (with_reducible refine (c1 _).mono ?_); rintro e w2 ⟨rfl, hb⟩; have hk' := HK.out.call hb; clear hb HK; have HK := Lib.hid hk'; clear hk')
            | (go_at_call 18; (with_reducible refine (g1 _).mono ?_); rintro e w3 ⟨rfl, hb⟩; have hk' := HK.out.call hb; clear hb HK; have HK := Lib.hid hk'; clear hk')
            | (go_at_call 16; (with_reducible refine (s1 _).mono ?_); rintro e w4 ⟨rfl, hb⟩; have hk' := HK.out.call hb; clear hb HK; have HK := Lib.hid hk'; clear hk'))
          go_loop [37] (fun i => ∃ k : Nat, k ≤ 16 ∧ i = .int .i64 k) (fun i => 16 - (intOf i).toNat)
          case atStart => exact ⟨0, by omega, rfl⟩
          case round =>
            obtain ⟨k, hk, rfl⟩ := hrel
            by_cases hlt : k < 16
            · have hi : ∀ W : World, (Instr.index 23 (.agg (vals x0).toArray) (.int .i64 (k : Int))).run Try.prog W = .ok (.int .i64 (x0.getD k 0)) W := fun W => HIX.out k W hlt
              generalize x0.getD k 0 = x at hi
              go_wp2
              go_round
              case rel => exact ⟨k + 1, by omega, by go_num⟩
              case measure => simp [intOf]; omega
            · go_wp2_with (first
                | (with_reducible refine wpList_load_keep HK.out 0 rfl _ rfl rfl rfl ?_)
                | (with_reducible refine wpList_load_keep HK.out 1 rfl _ rfl rfl rfl ?_)
                | (with_reducible refine wpList_load_keep HK.out 2 rfl _ rfl rfl rfl ?_)
                | (refine wpList_want_keep HK.out 0 _ rfl rfl rfl rfl ?_)
                | (refine wpList_want_keep HK.out 1 _ rfl rfl rfl rfl ?_)
                | (refine wpList_want_keep HK.out 2 _ rfl rfl rfl rfl ?_)
                | (go_at_call 9; (with_reducible refine (cj _).mono ?_); rintro e w5 ⟨rfl, hb⟩; have hk' := HK.out.call hb; clear hb HK; have HK := Lib.hid hk'; clear hk')
                | (go_at_call 13; (with_reducible refine (rj _).mono ?_); rintro e w6 ⟨rfl, hb⟩; have hk' := HK.out.call hb; clear hb HK; have HK := Lib.hid hk'; clear hk')
                | (go_at_call 15; (with_reducible refine (awake_any _).mono ?_); rintro e w9 ⟨rfl, hb⟩; have hk' := HK.out.call hb; clear hb HK; have HK := Lib.hid hk'; clear hk'))
              go_ret
              exact ⟨rfl, HK.out.1⟩
        · clear sm
          clear rg rG
          go_enter Try.func8, Try.ntmps8
          go_wp2_with (first
            | (with_reducible refine wpList_store_new rfl rfl _ _ rfl G rfl rfl LG.out ?_; intro wn hA hb hs; have hk' := (HK.out.call hb).cons hA LG.out; clear hA hb hs HK; have HK := Lib.hid hk'; clear hk')
            | (with_reducible refine wpList_load_keep HK.out 0 rfl _ rfl rfl rfl ?_)
            | (with_reducible refine wpList_load_keep HK.out 1 rfl _ rfl rfl rfl ?_)
            | (with_reducible refine wpList_load_keep HK.out 2 rfl _ rfl rfl rfl ?_)
            | (refine wpList_want_keep HK.out 0 _ rfl rfl rfl rfl ?_)
            | (refine wpList_want_keep HK.out 1 _ rfl rfl rfl rfl ?_)
            | (refine wpList_want_keep HK.out 2 _ rfl rfl rfl rfl ?_)
            | (go_at_call 13; (with_reducible refine (c0 _).mono ?_); rintro e w1 ⟨rfl, hb⟩; have hk' := HK.out.call hb; clear hb HK; have HK := Lib.hid hk'; clear hk')
            | (go_at_call 13; (with_reducible refine (c1 _).mono ?_); rintro e w2 ⟨rfl, hb⟩; have hk' := HK.out.call hb; clear hb HK; have HK := Lib.hid hk'; clear hk')
            | (go_at_call 18; (with_reducible refine (g1 _).mono ?_); rintro e w3 ⟨rfl, hb⟩; have hk' := HK.out.call hb; clear hb HK; have HK := Lib.hid hk'; clear hk')
            | (go_at_call 16; (with_reducible refine (s1 _).mono ?_); rintro e w4 ⟨rfl, hb⟩; have hk' := HK.out.call hb; clear hb HK; have HK := Lib.hid hk'; clear hk'))
          go_loop [37] (fun i => ∃ k : Nat, k ≤ 16 ∧ i = .int .i64 k) (fun i => 16 - (intOf i).toNat)
          case atStart => exact ⟨0, by omega, rfl⟩
          case round =>
            obtain ⟨k, hk, rfl⟩ := hrel
            by_cases hlt : k < 16
            · have hi : ∀ W : World, (Instr.index 23 (.agg (vals x0).toArray) (.int .i64 (k : Int))).run Try.prog W = .ok (.int .i64 (x0.getD k 0)) W := fun W => HIX.out k W hlt
              generalize x0.getD k 0 = x at hi
              go_wp2
              go_round
              case rel => exact ⟨k + 1, by omega, by go_num⟩
              case measure => simp [intOf]; omega
            · go_wp2_with (first
                | (with_reducible refine wpList_load_keep HK.out 0 rfl _ rfl rfl rfl ?_)
                | (with_reducible refine wpList_load_keep HK.out 1 rfl _ rfl rfl rfl ?_)
                | (with_reducible refine wpList_load_keep HK.out 2 rfl _ rfl rfl rfl ?_)
                | (refine wpList_want_keep HK.out 0 _ rfl rfl rfl rfl ?_)
                | (refine wpList_want_keep HK.out 1 _ rfl rfl rfl rfl ?_)
                | (refine wpList_want_keep HK.out 2 _ rfl rfl rfl rfl ?_)
                | (go_at_call 9; (with_reducible refine (cj _).mono ?_); rintro e w5 ⟨rfl, hb⟩; have hk' := HK.out.call hb; clear hb HK; have HK := Lib.hid hk'; clear hk')
                | (go_at_call 13; (with_reducible refine (rj _).mono ?_); rintro e w6 ⟨rfl, hb⟩; have hk' := HK.out.call hb; clear hb HK; have HK := Lib.hid hk'; clear hk')
                | (go_at_call 15; (with_reducible refine (awake_any _).mono ?_); rintro e w9 ⟨rfl, hb⟩; have hk' := HK.out.call hb; clear hb HK; have HK := Lib.hid hk'; clear hk'))
              go_ret
              exact ⟨rfl, HK.out.1⟩

set_option maxRecDepth 100000 in
theorem lifted (os : Os) (started : os.Started) (H : Type) (enc : TypeId × Value → H) :
    ReturnsInHanded {} Try.checked os 8 .any (Rows.vecSameSpec.pre6 enc Try.prog Try.f8 Rows.vecSameRow.domain false) (Rows.vecSameSpec.post enc Try.prog Try.f8 false true false false) := by
  refine returnsInHanded_of_change (C := Try.checked) own started (by kernel_rfl) Try.func8
    (ChangeSpec.witness6 (enc := enc) (C := Try.checked) false ⟨#[], #[.agg #[.int .i64 0, .int .i64 0, .int .i64 0, .int .i64 0, .int .i64 0, .int .i64 0, .int .i64 0, .int .i64 0, .int .i64 0, .int .i64 0, .int .i64 0, .int .i64 0, .int .i64 0, .int .i64 0, .int .i64 0, .int .i64 0], .agg #[.int .i64 0, .int .i64 0, .int .i64 0, .int .i64 0, .int .i64 0, .int .i64 0, .int .i64 0, .int .i64 0, .int .i64 0, .int .i64 0, .int .i64 0, .int .i64 0, .int .i64 0, .int .i64 0, .int .i64 0, .int .i64 0], .int .i64 0, .int .i64 0], []⟩ 8 (by kernel_rfl) (by kernel_rfl) (by kernel_rfl) (by kernel_rfl)) ?_
  intro W base args ds gs before hval0 hW hcnd _
  have hval : ∀ (j : Nat) t v, Try.f8.params[j]? = some t → args[j]? = some v → Value.okWide Try.prog W .any base t v := hval0
  have hW' := hW
  obtain ⟨p, q, hA0, hV, rfl, hfz, hnd⟩ := hW
  have hA : DataW.TrodAll enc Try.prog W 0 (fun _ => true) true Try.f8.params.toList args.toList ds p := hA0
  rw [Try.params8] at hA hval
  obtain ⟨v0, vs0, d0, ds0, p0, q0, hargs, rfl, rfl, h0, r0⟩ := trodAll_cons hA
  obtain ⟨v1, vs1, d1, ds1, p1, q1, rfl, rfl, rfl, h1, r1⟩ := trodAll_cons r0
  obtain ⟨v2, vs2, d2, ds2, p2, q2, rfl, rfl, rfl, h2, r2⟩ := trodAll_cons r1
  obtain ⟨v3, vs3, d3, ds3, p3, q3, rfl, rfl, rfl, h3, r3⟩ := trodAll_cons r2
  obtain ⟨rfl, rfl, rfl⟩ := trodAll_nil r3
  obtain rfl : args = #[v0, v1, v2, v3] := by cases args; simp_all
  obtain ⟨rfl, rfl⟩ := trodVars_none hV
  have k0 := h0
  have lt0 : ∀ x ∈ p0, x.block < W.heap.size := by obtain ⟨m, hm⟩ := k0; exact DataW.trod_lt m _ _ _ hm
  obtain ⟨x0, rfl, l0, z0⟩ := open_vec (hval 0 23 v0 rfl rfl) h0
  have k1 := h1
  have lt1 : ∀ x ∈ p1, x.block < W.heap.size := by obtain ⟨m, hm⟩ := k1; exact DataW.trod_lt m _ _ _ hm
  obtain ⟨x1, rfl, l1, z1⟩ := open_vec (hval 1 23 v1 rfl rfl) h1
  have k2 := h2
  have lt2 : ∀ x ∈ p2, x.block < W.heap.size := by obtain ⟨m, hm⟩ := k2; exact DataW.trod_lt m _ _ _ hm
  obtain ⟨a2, rfl, rfl, rfl, w2⟩ := open_int Try.underlying3 (hval 2 3 v2 rfl rfl) h2
  have k3 := h3
  have lt3 : ∀ x ∈ p3, x.block < W.heap.size := by obtain ⟨m, hm⟩ := k3; exact DataW.trod_lt m _ _ _ hm
  obtain ⟨a3, rfl, rfl, rfl, w3⟩ := open_int Try.underlying3 (hval 3 3 v3 rfl rfl) h3
  clear hA0 hval0
  refine (walk x0 l0 z0 x1 l1 z1 a2 w2 a3 w3 W).mono fun e W' ⟨he, bel⟩ => ?_
  subst he
  exact ⟨_, rfl, _, _, _, [], _, [], hW', trodAll_mk1 (shut_bool Try.underlying4 _), (trodAll_cons_mk (Below.trod laidOut (by kernel_rfl) (of_decide_eq_true (by kernel_rfl)) k0 bel lt0) (trodAll_cons_mk (Below.trod laidOut (by kernel_rfl) (of_decide_eq_true (by kernel_rfl)) k1 bel lt1) (trodAll_cons_mk (Below.trod laidOut (by kernel_rfl) (of_decide_eq_true (by kernel_rfl)) k2 bel lt2) (trodAll_cons_mk (Below.trod laidOut (by kernel_rfl) (of_decide_eq_true (by kernel_rfl)) k3 bel lt3) trodAll_mk0)))), rfl, bel.frame _, fun h => by cases h⟩

theorem over : Rows.vecSameRow.holds Try.pinned (OpenSpec.ofChange Rows.vecSameSpec) :=
  OpenClaim.holds_of_wide 8 Try.f8 rfl rfl rfl rfl rfl rfl rfl ⟨rfl, rfl, rfl, rfl, rfl⟩ rfl rfl rfl rfl rfl (by kernel_rfl) Try.func8 (by kernel_rfl)
    (of_decide_eq_true (by kernel_rfl)) (by unfold Func.isWrapper; first | (rw [if_pos (by decide +kernel)]; kernel_rfl) | (rw [if_neg (by decide +kernel)]; exact ⟨rfl, rfl⟩))
    (fun os started H enc _ => lifted os started H enc)

theorem proved : Rows.VecSameSaid := over
#print axioms proved
end Go.Proofs.Ytjgdgoiogdappaa.vecSame
