/- What grew is over what it was, at one place alone, and growing one by one is growing by all: VecGrows returns true for every vector and every three ints. No condition. -/
import Derived.Test.YtjgdgoiogdappaaVecLaw
import Derived.WalkKit
import Derived.ProofKit
import Derived.OpenShut
import Derived.ChangeOld
import Derived.Below
namespace Go.Proofs.Ytjgdgoiogdappaa.vecGrows
open Go.ChangeShapes Go.WideShapes Go.ChangeAt Go.RowKit
set_option linter.unusedVariables false

theorem own : ownKnob Try.prog.godebug = none := by kernel_rfl
theorem laidOut : laidOutB Try.prog = true := by kernel_rfl

/-- What grew by n, and by m, is what grew by both. -/
theorem grow_twice {xs : List Int} (hx : xs.length = 16) {j : Nat} (hj : j < 16) {n m : Int} (hn : 0 ≤ n) (h1 : okB (xs.getD j 0) n (xs.getD j 0 + n) = true) (h2 : growE (xs.set j (xs.getD j 0 + n)) j m = 0) :
    0 ≤ m ∧ isB n = true ∧ isB m = true ∧ (isB (n + m) = true → growE xs j (n + m) = 0 ∧ growL xs j (n + m) = growL (xs.set j (xs.getD j 0 + n)) j m) ∧ (isB (n + m) = false → growE xs j (n + m) = 2 ∧ growL xs j (n + m) = zeros) := by
  have hl : (xs.set j (xs.getD j 0 + n)).length = 16 := by simp [hx]
  obtain ⟨j', hj', _, hm, hok, e⟩ := grow_zero hl h2
  obtain rfl : j = j' := by omega
  rw [set_get (by omega), if_pos rfl] at hok e
  rw [List.set_set] at e
  obtain ⟨a1, a2, a3⟩ := okB_iff.1 h1
  obtain ⟨b1, b2, b3⟩ := okB_iff.1 hok
  have hk : ¬ ((j : Int) < 0 ∨ 16 ≤ (j : Int) ∨ n + m < 0) := by omega
  refine ⟨hm, a2, b2, fun h => ?_, fun h => ?_⟩
  · have hs : okB (xs.getD (j : Int).toNat 0) (n + m) (xs.getD (j : Int).toNat 0 + (n + m)) = true := by
      rw [Int.toNat_natCast]
      exact okB_iff.2 ⟨a1, h, by rw [← Int.add_assoc]; exact b3⟩
    obtain ⟨g1, g2⟩ := grow_yes hk hs
    rw [Int.toNat_natCast] at g2
    exact ⟨g1, by rw [g2, e, Int.add_assoc]⟩
  · exact grow_no hk (okB_b h)


set_option maxHeartbeats 4000000 in
theorem walk (x0 : List Int) (l0 : x0.length = 16) (r0 : ∀ z ∈ x0, (Lit.int .i64 z).wf = true) (a1 : Int) (w1 : (Lit.int .i64 a1).wf = true) (a2 : Int) (w2 : (Lit.int .i64 a2).wf = true) (a3 : Int) (w3 : (Lit.int .i64 a3).wf = true) (w : World) :
    Calls Try.prog 7 #[.agg (vals x0).toArray, .int .i64 a1, .int .i64 a2, .int .i64 a3] w fun e w' => e = .returned (.bool true) ∧ Below w.heap.size w w' := by
  have hge : Try.prog.eqGuardType Try.prog.depth 23 = false := by kernel_rfl
  have hc := grow_cases x0 a1 a2
  rcases hc with hc | hc | hc
  · obtain ⟨j, rfl, hj, n0, hok, eA⟩ := grow_zero l0 hc
    have lA : (x0.set j (x0.getD j 0 + a2)).length = 16 := by simp [l0]
    have ov := grow_over l0 hc
    rw [eA] at ov
    have g1 : ∀ W, Calls Try.prog 18 #[.agg (vals x0).toArray, .int .i64 (j : Int), .int .i64 a2] W fun e w' => e = .returned (.tuple #[.agg (vals (x0.set j (x0.getD j 0 + a2))).toArray, .int .i64 0]) ∧ Below W.heap.size W w' := fun W => by have h := grow_any x0 (j : Int) a2 l0 W; rw [eA, hc] at h; exact h
    have o1 := over_any (x0.set j (x0.getD j 0 + a2)) x0 lA l0
    rw [ov] at o1
    have cj := join_any (x0.set j (x0.getD j 0 + a2)) x0 lA l0
    rw [show joinL (x0.set j (x0.getD j 0 + a2)) x0 = x0.set j (x0.getD j 0 + a2) by simpa [overB] using ov] at cj
    have q1 := awake_eq (x0.set j (x0.getD j 0 + a2)) lA
    have ae : ∀ i, i < 16 → i ≠ j → (x0.set j (x0.getD j 0 + a2)).getD i 0 = x0.getD i 0 := fun i hi hne => by rw [set_get (by omega), if_neg hne]
    have aj : (x0.set j (x0.getD j 0 + a2)).getD j 0 = x0.getD j 0 + a2 := by rw [set_get (by omega), if_pos rfl]
    have sb := isB_iff.1 (okB_iff.1 hok).2.2
    clear hc eA ov
    have hd := grow_cases (x0.set j (x0.getD j 0 + a2)) (j : Int) a3
    rcases hd with hd | hd | hd
    · cases hb : isB (a2 + a3) with
      | true =>
        obtain ⟨m0, bn, bm, hy, hn'⟩ := grow_twice l0 hj n0 hok hd
        obtain ⟨bn1, bn2⟩ := isB_iff.1 bn
        obtain ⟨bm1, bm2⟩ := isB_iff.1 bm
        clear bn bm
        have ci : ∀ W, Calls Try.prog 20 #[.int .i64 (a2 + a3)] W fun e w' => e = .returned (.bool (isB (a2 + a3))) ∧ Below W.heap.size W w' := fun W => (is_any (a2 + a3) W).mono fun _ _ ⟨he, hw⟩ => ⟨he, hw ▸ Below.refl _ _⟩
        obtain ⟨y1, y2⟩ := hy hb
        have g3 : ∀ W, Calls Try.prog 18 #[.agg (vals x0).toArray, .int .i64 (j : Int), .int .i64 (a2 + a3)] W fun e w' => e = .returned (.tuple #[.agg (vals (growL (x0.set j (x0.getD j 0 + a2)) j a3)).toArray, .int .i64 0]) ∧ Below W.heap.size W w' := fun W => by have h := grow_any x0 (j : Int) (a2 + a3) l0 W; rw [y1, y2] at h; exact h
        have q3 := awake_eq (growL (x0.set j (x0.getD j 0 + a2)) j a3) (growL_length lA _ _)
        clear y1 y2
        rw [hb] at ci
        clear hy hn' hb m0
        have nn : -9223372036854775808 ≤ a2 + a3 ∧ a2 + a3 ≤ 9223372036854775807 := by omega
        have g2 := grow_any (x0.set j (x0.getD j 0 + a2)) (j : Int) a3 lA
        have lB := growL_length lA (j : Int) a3
        rw [hd] at g2
        clear hd
        generalize growL (x0.set j (x0.getD j 0 + a2)) (j : Int) a3 = B at *
        generalize x0.set j (x0.getD j 0 + a2) = A at *
        have L0 := Lib.hid l0; have LA := Lib.hid lA; have LB := Lib.hid lB; have HJ := Lib.hid hj; have AE := Lib.hid ae; have AJ := Lib.hid aj; have SB := Lib.hid sb; have HOK := Lib.hid hok
        have HK := Lib.hid (keep1 w l0)
        have j0 : (0 : Int) ≤ j := by omega
        have j1 : (j : Int) < 16 := by omega
        clear l0 lA lB r0 ae aj sb hok hj
        go_enter Try.func7, Try.ntmps7
        go_wp2_with (first
          | (with_reducible refine wpList_store_new rfl rfl _ _ rfl A rfl rfl LA.out ?_; intro wn hA hb hs; have hk' := (HK.out.call hb).cons hA LA.out; clear hA hb hs HK; have HK := Lib.hid hk'; clear hk')
          | (with_reducible refine wpList_store_new rfl rfl _ _ rfl B rfl rfl LB.out ?_; intro wn hA hb hs; have hk' := (HK.out.call hb).cons hA LB.out; clear hA hb hs HK; have HK := Lib.hid hk'; clear hk')
          | (with_reducible refine wpList_load_keep HK.out 0 rfl _ rfl rfl rfl ?_)
          | (with_reducible refine wpList_load_keep HK.out 1 rfl _ rfl rfl rfl ?_)
          | (with_reducible refine wpList_load_keep HK.out 2 rfl _ rfl rfl rfl ?_)
          | (with_reducible refine wpList_load_keep HK.out 3 rfl _ rfl rfl rfl ?_)
          | (refine wpList_want_keep HK.out 0 _ rfl rfl rfl rfl ?_)
          | (refine wpList_want_keep HK.out 1 _ rfl rfl rfl rfl ?_)
          | (refine wpList_want_keep HK.out 2 _ rfl rfl rfl rfl ?_)
          | (refine wpList_want_keep HK.out 3 _ rfl rfl rfl rfl ?_)
          | (go_at_call 18; (with_reducible refine (g1 _).mono ?_); rintro e wA ⟨rfl, hb⟩; have hk' := HK.out.call hb; clear hb HK; have HK := Lib.hid hk'; clear hk')
          | (go_at_call 18; (with_reducible refine (g2 _).mono ?_); rintro e wB ⟨rfl, hb⟩; have hk' := HK.out.call hb; clear hb HK; have HK := Lib.hid hk'; clear hk')
          | (go_at_call 18; (with_reducible refine (g3 _).mono ?_); rintro e wC ⟨rfl, hb⟩; have hk' := HK.out.call hb; clear hb HK; have HK := Lib.hid hk'; clear hk')
          | (go_at_call 20; (with_reducible refine (ci _).mono ?_); rintro e wD ⟨rfl, hb⟩; have hk' := HK.out.call hb; clear hb HK; have HK := Lib.hid hk'; clear hk'))
        go_loopw [66] (fun i wr => ∃ k : Nat, k ≤ 16 ∧ i = .int .i64 k ∧ Keep w [(wC.heap.size, B), (wB.heap.size, B), (wA.heap.size, A), (w.heap.size, x0)] wr) (fun i _ => 16 - (intOf i).toNat)
        case atStart => exact ⟨0, by omega, rfl, HK.out⟩
        case round =>
          obtain ⟨k, hk, rfl, hK⟩ := hrel
          clear HK
          have HK := Lib.hid hK; clear hK
          by_cases hlt : k < 16
          · have i1 : (0 : Int) ≤ (k : Int) := by omega
            have i2 : (k : Int) < 16 := by omega
            have c1 := (HK.out.get 2 rfl).cell (k := k) (by have := LA.out; omega)
            have c2 := (HK.out.get 3 rfl).cell (k := k) (by have := L0.out; omega)
            by_cases hkj : k = j
            · subst hkj
              rw [AJ.out] at c1
              have sb := SB.out
              generalize x0.getD k 0 = x at c1 c2 sb
              have wr1 : IntKind.i64.wrap (x + a2) = x + a2 := IntWalk.i64_in _ (by omega)
              clear sb
              go_wp2
              go_quiet (fail)
              go_wp2
              go_roundw
              case rel => exact ⟨k + 1, by omega, by go_num, HK.out.drewN _⟩
              case measure => simp [intOf]; omega
            · rw [AE.out k hlt hkj] at c1
              generalize x0.getD k 0 = x at c1 c2
              have hne : ¬ (k : Int) = (j : Int) := by omega
              have hne' : ((k : Int) == (j : Int)) = false := by simp [hne]
              have hnb : ((k : Int) != (j : Int)) = true := by simp [hne]
              go_wp2
              go_quiet (fail)
              go_wp2
              go_roundw
              case rel => exact ⟨k + 1, by omega, by go_num, HK.out.drewN _⟩
              case measure => simp [intOf]; omega
          · go_wp2
            haveI : Nonempty (Kept fun u => Keep w [(wC.heap.size, B), (wB.heap.size, B), (wA.heap.size, A), (w.heap.size, x0)] u) := ⟨⟨_, HK.out⟩⟩
            refine region_calm (S := fun u => Keep w [(wC.heap.size, B), (wB.heap.size, B), (wA.heap.size, A), (w.heap.size, x0)] u) HK.out.drew (by kernel_rfl) (by kernel_rfl) ?_
            repeat (first
              | go_big_quiet_skip
              | (go_big_quiet_want
                 first
                   | (refine quiet_load_keep 0 _ rfl rfl LB.out rfl ?_; simp only [Act.put, List.setIfInBounds_toArray, List.set_cons_zero, List.set_cons_succ]; go_big_quiet_on)
                   | (refine quiet_load_keep 1 _ rfl rfl LB.out rfl ?_; simp only [Act.put, List.setIfInBounds_toArray, List.set_cons_zero, List.set_cons_succ]; go_big_quiet_on)
                   | (refine quiet_load_keep 2 _ rfl rfl LA.out rfl ?_; simp only [Act.put, List.setIfInBounds_toArray, List.set_cons_zero, List.set_cons_succ]; go_big_quiet_on)
                   | (refine quiet_load_keep 3 _ rfl rfl L0.out rfl ?_; simp only [Act.put, List.setIfInBounds_toArray, List.set_cons_zero, List.set_cons_succ]; go_big_quiet_on)
                   | (go_big_quiet_op; go_big_quiet_on)
                   | (go_big_quiet_op; go_big_quiet_call ((first
                      | (go_at_call 11; with_reducible exact Keep.calls (o1 _))
                      | (go_at_call 9; with_reducible exact Keep.calls (cj _))
                      | (go_at_call 15; with_reducible exact Keep.calls (awake_any _)))))))
            refine wpQuiet_nil ?_
            rintro _ ⟨⟨W, hW⟩, rfl⟩
            have HK := Lib.hid hW; clear hW
            go_wp2
            go_ret
            exact ⟨rfl, HK.out.1⟩
      | false =>
        obtain ⟨m0, bn, bm, hy, hn'⟩ := grow_twice l0 hj n0 hok hd
        obtain ⟨bn1, bn2⟩ := isB_iff.1 bn
        obtain ⟨bm1, bm2⟩ := isB_iff.1 bm
        clear bn bm
        have ci : ∀ W, Calls Try.prog 20 #[.int .i64 (a2 + a3)] W fun e w' => e = .returned (.bool (isB (a2 + a3))) ∧ Below W.heap.size W w' := fun W => (is_any (a2 + a3) W).mono fun _ _ ⟨he, hw⟩ => ⟨he, hw ▸ Below.refl _ _⟩
        obtain ⟨y1, y2⟩ := hn' hb
        have g3 : ∀ W, Calls Try.prog 18 #[.agg (vals x0).toArray, .int .i64 (j : Int), .int .i64 (a2 + a3)] W fun e w' => e = .returned (.tuple #[.agg (vals zeros).toArray, .int .i64 2]) ∧ Below W.heap.size W w' := fun W => by have h := grow_any x0 (j : Int) (a2 + a3) l0 W; rw [y1, y2] at h; exact h
        clear y1 y2
        rw [hb] at ci
        clear hy hn' hb m0
        have nn : -9223372036854775808 ≤ a2 + a3 ∧ a2 + a3 ≤ 9223372036854775807 := by omega
        have g2 := grow_any (x0.set j (x0.getD j 0 + a2)) (j : Int) a3 lA
        have lB := growL_length lA (j : Int) a3
        rw [hd] at g2
        clear hd
        generalize growL (x0.set j (x0.getD j 0 + a2)) (j : Int) a3 = B at *
        generalize x0.set j (x0.getD j 0 + a2) = A at *
        have L0 := Lib.hid l0; have LA := Lib.hid lA; have LB := Lib.hid lB; have HJ := Lib.hid hj; have AE := Lib.hid ae; have AJ := Lib.hid aj; have SB := Lib.hid sb; have HOK := Lib.hid hok
        have HK := Lib.hid (keep1 w l0)
        have j0 : (0 : Int) ≤ j := by omega
        have j1 : (j : Int) < 16 := by omega
        clear l0 lA lB r0 ae aj sb hok hj
        go_enter Try.func7, Try.ntmps7
        go_wp2_with (first
          | (with_reducible refine wpList_store_new rfl rfl _ _ rfl A rfl rfl LA.out ?_; intro wn hA hb hs; have hk' := (HK.out.call hb).cons hA LA.out; clear hA hb hs HK; have HK := Lib.hid hk'; clear hk')
          | (with_reducible refine wpList_store_new rfl rfl _ _ rfl B rfl rfl LB.out ?_; intro wn hA hb hs; have hk' := (HK.out.call hb).cons hA LB.out; clear hA hb hs HK; have HK := Lib.hid hk'; clear hk')
          | (with_reducible refine wpList_store_new rfl rfl _ _ rfl zeros rfl rfl zeros_length ?_; intro wn hA hb hs; have hk' := (HK.out.call hb).cons hA zeros_length; clear hA hb hs HK; have HK := Lib.hid hk'; clear hk')
          | (with_reducible refine wpList_load_keep HK.out 0 rfl _ rfl rfl rfl ?_)
          | (with_reducible refine wpList_load_keep HK.out 1 rfl _ rfl rfl rfl ?_)
          | (with_reducible refine wpList_load_keep HK.out 2 rfl _ rfl rfl rfl ?_)
          | (with_reducible refine wpList_load_keep HK.out 3 rfl _ rfl rfl rfl ?_)
          | (refine wpList_want_keep HK.out 0 _ rfl rfl rfl rfl ?_)
          | (refine wpList_want_keep HK.out 1 _ rfl rfl rfl rfl ?_)
          | (refine wpList_want_keep HK.out 2 _ rfl rfl rfl rfl ?_)
          | (refine wpList_want_keep HK.out 3 _ rfl rfl rfl rfl ?_)
          | (go_at_call 18; (with_reducible refine (g1 _).mono ?_); rintro e wA ⟨rfl, hb⟩; have hk' := HK.out.call hb; clear hb HK; have HK := Lib.hid hk'; clear hk')
          | (go_at_call 18; (with_reducible refine (g2 _).mono ?_); rintro e wB ⟨rfl, hb⟩; have hk' := HK.out.call hb; clear hb HK; have HK := Lib.hid hk'; clear hk')
          | (go_at_call 18; (with_reducible refine (g3 _).mono ?_); rintro e wC ⟨rfl, hb⟩; have hk' := HK.out.call hb; clear hb HK; have HK := Lib.hid hk'; clear hk')
          | (go_at_call 20; (with_reducible refine (ci _).mono ?_); rintro e wD ⟨rfl, hb⟩; have hk' := HK.out.call hb; clear hb HK; have HK := Lib.hid hk'; clear hk'))
        go_loopw [66] (fun i wr => ∃ k : Nat, k ≤ 16 ∧ i = .int .i64 k ∧ Keep w [(wC.heap.size, zeros), (wB.heap.size, B), (wA.heap.size, A), (w.heap.size, x0)] wr) (fun i _ => 16 - (intOf i).toNat)
        case atStart => exact ⟨0, by omega, rfl, HK.out⟩
        case round =>
          obtain ⟨k, hk, rfl, hK⟩ := hrel
          clear HK
          have HK := Lib.hid hK; clear hK
          by_cases hlt : k < 16
          · have i1 : (0 : Int) ≤ (k : Int) := by omega
            have i2 : (k : Int) < 16 := by omega
            have c1 := (HK.out.get 2 rfl).cell (k := k) (by have := LA.out; omega)
            have c2 := (HK.out.get 3 rfl).cell (k := k) (by have := L0.out; omega)
            by_cases hkj : k = j
            · subst hkj
              rw [AJ.out] at c1
              have sb := SB.out
              generalize x0.getD k 0 = x at c1 c2 sb
              have wr1 : IntKind.i64.wrap (x + a2) = x + a2 := IntWalk.i64_in _ (by omega)
              clear sb
              go_wp2
              go_quiet (fail)
              go_wp2
              go_roundw
              case rel => exact ⟨k + 1, by omega, by go_num, HK.out.drewN _⟩
              case measure => simp [intOf]; omega
            · rw [AE.out k hlt hkj] at c1
              generalize x0.getD k 0 = x at c1 c2
              have hne : ¬ (k : Int) = (j : Int) := by omega
              have hne' : ((k : Int) == (j : Int)) = false := by simp [hne]
              have hnb : ((k : Int) != (j : Int)) = true := by simp [hne]
              go_wp2
              go_quiet (fail)
              go_wp2
              go_roundw
              case rel => exact ⟨k + 1, by omega, by go_num, HK.out.drewN _⟩
              case measure => simp [intOf]; omega
          · go_wp2
            haveI : Nonempty (Kept fun u => Keep w [(wC.heap.size, zeros), (wB.heap.size, B), (wA.heap.size, A), (w.heap.size, x0)] u) := ⟨⟨_, HK.out⟩⟩
            refine region_calm (S := fun u => Keep w [(wC.heap.size, zeros), (wB.heap.size, B), (wA.heap.size, A), (w.heap.size, x0)] u) HK.out.drew (by kernel_rfl) (by kernel_rfl) ?_
            repeat (first
              | go_big_quiet_skip
              | (go_big_quiet_want
                 first
                   | (refine quiet_load_keep 0 _ rfl rfl zeros_length rfl ?_; simp only [Act.put, List.setIfInBounds_toArray, List.set_cons_zero, List.set_cons_succ]; go_big_quiet_on)
                   | (refine quiet_load_keep 1 _ rfl rfl LB.out rfl ?_; simp only [Act.put, List.setIfInBounds_toArray, List.set_cons_zero, List.set_cons_succ]; go_big_quiet_on)
                   | (refine quiet_load_keep 2 _ rfl rfl LA.out rfl ?_; simp only [Act.put, List.setIfInBounds_toArray, List.set_cons_zero, List.set_cons_succ]; go_big_quiet_on)
                   | (refine quiet_load_keep 3 _ rfl rfl L0.out rfl ?_; simp only [Act.put, List.setIfInBounds_toArray, List.set_cons_zero, List.set_cons_succ]; go_big_quiet_on)
                   | (go_big_quiet_op; go_big_quiet_on)
                   | (go_big_quiet_op; go_big_quiet_call ((first
                      | (go_at_call 11; with_reducible exact Keep.calls (o1 _))
                      | (go_at_call 9; with_reducible exact Keep.calls (cj _))
                      | (go_at_call 15; with_reducible exact Keep.calls (awake_any _)))))))
            refine wpQuiet_nil ?_
            rintro _ ⟨⟨W, hW⟩, rfl⟩
            have HK := Lib.hid hW; clear hW
            go_wp2
            go_ret
            exact ⟨rfl, HK.out.1⟩
    · have g2 := grow_any (x0.set j (x0.getD j 0 + a2)) (j : Int) a3 lA
      have lB := growL_length lA (j : Int) a3
      rw [hd] at g2
      clear hd
      generalize growL (x0.set j (x0.getD j 0 + a2)) (j : Int) a3 = B at *
      generalize x0.set j (x0.getD j 0 + a2) = A at *
      have L0 := Lib.hid l0; have LA := Lib.hid lA; have LB := Lib.hid lB; have HJ := Lib.hid hj; have AE := Lib.hid ae; have AJ := Lib.hid aj; have SB := Lib.hid sb; have HOK := Lib.hid hok
      have HK := Lib.hid (keep1 w l0)
      have j0 : (0 : Int) ≤ j := by omega
      have j1 : (j : Int) < 16 := by omega
      clear l0 lA lB r0 ae aj sb hok hj
      go_enter Try.func7, Try.ntmps7
      go_wp2_with (first
        | (with_reducible refine wpList_store_new rfl rfl _ _ rfl A rfl rfl LA.out ?_; intro wn hA hb hs; have hk' := (HK.out.call hb).cons hA LA.out; clear hA hb hs HK; have HK := Lib.hid hk'; clear hk')
        | (with_reducible refine wpList_store_new rfl rfl _ _ rfl B rfl rfl LB.out ?_; intro wn hA hb hs; have hk' := (HK.out.call hb).cons hA LB.out; clear hA hb hs HK; have HK := Lib.hid hk'; clear hk')
        | (with_reducible refine wpList_load_keep HK.out 0 rfl _ rfl rfl rfl ?_)
        | (with_reducible refine wpList_load_keep HK.out 1 rfl _ rfl rfl rfl ?_)
        | (with_reducible refine wpList_load_keep HK.out 2 rfl _ rfl rfl rfl ?_)
        | (refine wpList_want_keep HK.out 0 _ rfl rfl rfl rfl ?_)
        | (refine wpList_want_keep HK.out 1 _ rfl rfl rfl rfl ?_)
        | (refine wpList_want_keep HK.out 2 _ rfl rfl rfl rfl ?_)
        | (go_at_call 18; (with_reducible refine (g1 _).mono ?_); rintro e wA ⟨rfl, hb⟩; have hk' := HK.out.call hb; clear hb HK; have HK := Lib.hid hk'; clear hk')
        | (go_at_call 18; (with_reducible refine (g2 _).mono ?_); rintro e wB ⟨rfl, hb⟩; have hk' := HK.out.call hb; clear hb HK; have HK := Lib.hid hk'; clear hk'))
      go_loopw [66] (fun i wr => ∃ k : Nat, k ≤ 16 ∧ i = .int .i64 k ∧ Keep w [(wB.heap.size, B), (wA.heap.size, A), (w.heap.size, x0)] wr) (fun i _ => 16 - (intOf i).toNat)
      case atStart => exact ⟨0, by omega, rfl, HK.out⟩
      case round =>
        obtain ⟨k, hk, rfl, hK⟩ := hrel
        clear HK
        have HK := Lib.hid hK; clear hK
        by_cases hlt : k < 16
        · have i1 : (0 : Int) ≤ (k : Int) := by omega
          have i2 : (k : Int) < 16 := by omega
          have c1 := (HK.out.get 1 rfl).cell (k := k) (by have := LA.out; omega)
          have c2 := (HK.out.get 2 rfl).cell (k := k) (by have := L0.out; omega)
          by_cases hkj : k = j
          · subst hkj
            rw [AJ.out] at c1
            have sb := SB.out
            generalize x0.getD k 0 = x at c1 c2 sb
            have wr1 : IntKind.i64.wrap (x + a2) = x + a2 := IntWalk.i64_in _ (by omega)
            clear sb
            go_wp2
            go_quiet (fail)
            go_wp2
            go_roundw
            case rel => exact ⟨k + 1, by omega, by go_num, HK.out.drewN _⟩
            case measure => simp [intOf]; omega
          · rw [AE.out k hlt hkj] at c1
            generalize x0.getD k 0 = x at c1 c2
            have hne : ¬ (k : Int) = (j : Int) := by omega
            have hne' : ((k : Int) == (j : Int)) = false := by simp [hne]
            have hnb : ((k : Int) != (j : Int)) = true := by simp [hne]
            go_wp2
            go_quiet (fail)
            go_wp2
            go_roundw
            case rel => exact ⟨k + 1, by omega, by go_num, HK.out.drewN _⟩
            case measure => simp [intOf]; omega
        · go_wp2
          haveI : Nonempty (Kept fun u => Keep w [(wB.heap.size, B), (wA.heap.size, A), (w.heap.size, x0)] u) := ⟨⟨_, HK.out⟩⟩
          refine region_calm (S := fun u => Keep w [(wB.heap.size, B), (wA.heap.size, A), (w.heap.size, x0)] u) HK.out.drew (by kernel_rfl) (by kernel_rfl) ?_
          repeat (first
            | go_big_quiet_skip
            | (go_big_quiet_want
               first
                 | (refine quiet_load_keep 0 _ rfl rfl LB.out rfl ?_; simp only [Act.put, List.setIfInBounds_toArray, List.set_cons_zero, List.set_cons_succ]; go_big_quiet_on)
                 | (refine quiet_load_keep 1 _ rfl rfl LA.out rfl ?_; simp only [Act.put, List.setIfInBounds_toArray, List.set_cons_zero, List.set_cons_succ]; go_big_quiet_on)
                 | (refine quiet_load_keep 2 _ rfl rfl L0.out rfl ?_; simp only [Act.put, List.setIfInBounds_toArray, List.set_cons_zero, List.set_cons_succ]; go_big_quiet_on)
                 | (go_big_quiet_op; go_big_quiet_on)
                 | (go_big_quiet_op; go_big_quiet_call ((first
                    | (go_at_call 11; with_reducible exact Keep.calls (o1 _))
                    | (go_at_call 9; with_reducible exact Keep.calls (cj _))
                    | (go_at_call 15; with_reducible exact Keep.calls (awake_any _)))))))
          refine wpQuiet_nil ?_
          rintro _ ⟨⟨W, hW⟩, rfl⟩
          have HK := Lib.hid hW; clear hW
          go_wp2
          go_ret
          exact ⟨rfl, HK.out.1⟩
    · have g2 := grow_any (x0.set j (x0.getD j 0 + a2)) (j : Int) a3 lA
      have lB := growL_length lA (j : Int) a3
      rw [hd] at g2
      clear hd
      generalize growL (x0.set j (x0.getD j 0 + a2)) (j : Int) a3 = B at *
      generalize x0.set j (x0.getD j 0 + a2) = A at *
      have L0 := Lib.hid l0; have LA := Lib.hid lA; have LB := Lib.hid lB; have HJ := Lib.hid hj; have AE := Lib.hid ae; have AJ := Lib.hid aj; have SB := Lib.hid sb; have HOK := Lib.hid hok
      have HK := Lib.hid (keep1 w l0)
      have j0 : (0 : Int) ≤ j := by omega
      have j1 : (j : Int) < 16 := by omega
      clear l0 lA lB r0 ae aj sb hok hj
      go_enter Try.func7, Try.ntmps7
      go_wp2_with (first
        | (with_reducible refine wpList_store_new rfl rfl _ _ rfl A rfl rfl LA.out ?_; intro wn hA hb hs; have hk' := (HK.out.call hb).cons hA LA.out; clear hA hb hs HK; have HK := Lib.hid hk'; clear hk')
        | (with_reducible refine wpList_store_new rfl rfl _ _ rfl B rfl rfl LB.out ?_; intro wn hA hb hs; have hk' := (HK.out.call hb).cons hA LB.out; clear hA hb hs HK; have HK := Lib.hid hk'; clear hk')
        | (with_reducible refine wpList_load_keep HK.out 0 rfl _ rfl rfl rfl ?_)
        | (with_reducible refine wpList_load_keep HK.out 1 rfl _ rfl rfl rfl ?_)
        | (with_reducible refine wpList_load_keep HK.out 2 rfl _ rfl rfl rfl ?_)
        | (refine wpList_want_keep HK.out 0 _ rfl rfl rfl rfl ?_)
        | (refine wpList_want_keep HK.out 1 _ rfl rfl rfl rfl ?_)
        | (refine wpList_want_keep HK.out 2 _ rfl rfl rfl rfl ?_)
        | (go_at_call 18; (with_reducible refine (g1 _).mono ?_); rintro e wA ⟨rfl, hb⟩; have hk' := HK.out.call hb; clear hb HK; have HK := Lib.hid hk'; clear hk')
        | (go_at_call 18; (with_reducible refine (g2 _).mono ?_); rintro e wB ⟨rfl, hb⟩; have hk' := HK.out.call hb; clear hb HK; have HK := Lib.hid hk'; clear hk'))
      go_loopw [66] (fun i wr => ∃ k : Nat, k ≤ 16 ∧ i = .int .i64 k ∧ Keep w [(wB.heap.size, B), (wA.heap.size, A), (w.heap.size, x0)] wr) (fun i _ => 16 - (intOf i).toNat)
      case atStart => exact ⟨0, by omega, rfl, HK.out⟩
      case round =>
        obtain ⟨k, hk, rfl, hK⟩ := hrel
        clear HK
        have HK := Lib.hid hK; clear hK
        by_cases hlt : k < 16
        · have i1 : (0 : Int) ≤ (k : Int) := by omega
          have i2 : (k : Int) < 16 := by omega
          have c1 := (HK.out.get 1 rfl).cell (k := k) (by have := LA.out; omega)
          have c2 := (HK.out.get 2 rfl).cell (k := k) (by have := L0.out; omega)
          by_cases hkj : k = j
          · subst hkj
            rw [AJ.out] at c1
            have sb := SB.out
            generalize x0.getD k 0 = x at c1 c2 sb
            have wr1 : IntKind.i64.wrap (x + a2) = x + a2 := IntWalk.i64_in _ (by omega)
            clear sb
            go_wp2
            go_quiet (fail)
            go_wp2
            go_roundw
            case rel => exact ⟨k + 1, by omega, by go_num, HK.out.drewN _⟩
            case measure => simp [intOf]; omega
          · rw [AE.out k hlt hkj] at c1
            generalize x0.getD k 0 = x at c1 c2
            have hne : ¬ (k : Int) = (j : Int) := by omega
            have hne' : ((k : Int) == (j : Int)) = false := by simp [hne]
            have hnb : ((k : Int) != (j : Int)) = true := by simp [hne]
            go_wp2
            go_quiet (fail)
            go_wp2
            go_roundw
            case rel => exact ⟨k + 1, by omega, by go_num, HK.out.drewN _⟩
            case measure => simp [intOf]; omega
        · go_wp2
          haveI : Nonempty (Kept fun u => Keep w [(wB.heap.size, B), (wA.heap.size, A), (w.heap.size, x0)] u) := ⟨⟨_, HK.out⟩⟩
          refine region_calm (S := fun u => Keep w [(wB.heap.size, B), (wA.heap.size, A), (w.heap.size, x0)] u) HK.out.drew (by kernel_rfl) (by kernel_rfl) ?_
          repeat (first
            | go_big_quiet_skip
            | (go_big_quiet_want
               first
                 | (refine quiet_load_keep 0 _ rfl rfl LB.out rfl ?_; simp only [Act.put, List.setIfInBounds_toArray, List.set_cons_zero, List.set_cons_succ]; go_big_quiet_on)
                 | (refine quiet_load_keep 1 _ rfl rfl LA.out rfl ?_; simp only [Act.put, List.setIfInBounds_toArray, List.set_cons_zero, List.set_cons_succ]; go_big_quiet_on)
                 | (refine quiet_load_keep 2 _ rfl rfl L0.out rfl ?_; simp only [Act.put, List.setIfInBounds_toArray, List.set_cons_zero, List.set_cons_succ]; go_big_quiet_on)
                 | (go_big_quiet_op; go_big_quiet_on)
                 | (go_big_quiet_op; go_big_quiet_call ((first
                    | (go_at_call 11; with_reducible exact Keep.calls (o1 _))
                    | (go_at_call 9; with_reducible exact Keep.calls (cj _))
                    | (go_at_call 15; with_reducible exact Keep.calls (awake_any _)))))))
          refine wpQuiet_nil ?_
          rintro _ ⟨⟨W, hW⟩, rfl⟩
          have HK := Lib.hid hW; clear hW
          go_wp2
          go_ret
          exact ⟨rfl, HK.out.1⟩
  · have g1 : ∀ W, Calls Try.prog 18 #[.agg (vals x0).toArray, .int .i64 a1, .int .i64 a2] W fun e w' => e = .returned (.tuple #[.agg (vals zeros).toArray, .int .i64 1]) ∧ Below W.heap.size W w' := fun W => by have h := grow_any x0 a1 a2 l0 W; rw [grow_else (by rw [hc]; decide), hc] at h; exact h
    have qz : ∀ W, (Op.equalIn 10000 23 (.agg (vals zeros).toArray) (.agg #[.int .i64 0, .int .i64 0, .int .i64 0, .int .i64 0, .int .i64 0, .int .i64 0, .int .i64 0, .int .i64 0, .int .i64 0, .int .i64 0, .int .i64 0, .int .i64 0, .int .i64 0, .int .i64 0, .int .i64 0, .int .i64 0])).run Try.prog W = .ok true W := awake_eq zeros zeros_length
    have L0 := Lib.hid l0
    have HK := Lib.hid (keep1 w l0)
    clear l0 r0 hc
    go_enter Try.func7, Try.ntmps7
    go_wp2_with (first
      | (with_reducible refine wpList_store_new rfl rfl _ _ rfl zeros rfl rfl zeros_length ?_; intro wn hA hb hs; have hk' := (HK.out.call hb).cons hA zeros_length; clear hA hb hs HK; have HK := Lib.hid hk'; clear hk')
      | (with_reducible refine wpList_load_keep HK.out 0 rfl _ rfl rfl rfl ?_)
      | (with_reducible refine wpList_load_keep HK.out 1 rfl _ rfl rfl rfl ?_)
      | (refine wpList_want_keep HK.out 0 _ rfl rfl rfl rfl ?_)
      | (refine wpList_want_keep HK.out 1 _ rfl rfl rfl rfl ?_)
      | (go_at_call 18; (with_reducible refine (g1 _).mono ?_); rintro e wA ⟨rfl, hb⟩; have hk' := HK.out.call hb; clear hb HK; have HK := Lib.hid hk'; clear hk')
      | (go_at_call 15; (with_reducible refine (awake_any _).mono ?_); rintro e w9 ⟨rfl, hb⟩; have hk' := HK.out.call hb; clear hb HK; have HK := Lib.hid hk'; clear hk'))
    go_ret
    exact ⟨rfl, HK.out.1⟩
  · have g1 : ∀ W, Calls Try.prog 18 #[.agg (vals x0).toArray, .int .i64 a1, .int .i64 a2] W fun e w' => e = .returned (.tuple #[.agg (vals zeros).toArray, .int .i64 2]) ∧ Below W.heap.size W w' := fun W => by have h := grow_any x0 a1 a2 l0 W; rw [grow_else (by rw [hc]; decide), hc] at h; exact h
    have qz : ∀ W, (Op.equalIn 10000 23 (.agg (vals zeros).toArray) (.agg #[.int .i64 0, .int .i64 0, .int .i64 0, .int .i64 0, .int .i64 0, .int .i64 0, .int .i64 0, .int .i64 0, .int .i64 0, .int .i64 0, .int .i64 0, .int .i64 0, .int .i64 0, .int .i64 0, .int .i64 0, .int .i64 0])).run Try.prog W = .ok true W := awake_eq zeros zeros_length
    have L0 := Lib.hid l0
    have HK := Lib.hid (keep1 w l0)
    clear l0 r0 hc
    go_enter Try.func7, Try.ntmps7
    go_wp2_with (first
      | (with_reducible refine wpList_store_new rfl rfl _ _ rfl zeros rfl rfl zeros_length ?_; intro wn hA hb hs; have hk' := (HK.out.call hb).cons hA zeros_length; clear hA hb hs HK; have HK := Lib.hid hk'; clear hk')
      | (with_reducible refine wpList_load_keep HK.out 0 rfl _ rfl rfl rfl ?_)
      | (with_reducible refine wpList_load_keep HK.out 1 rfl _ rfl rfl rfl ?_)
      | (refine wpList_want_keep HK.out 0 _ rfl rfl rfl rfl ?_)
      | (refine wpList_want_keep HK.out 1 _ rfl rfl rfl rfl ?_)
      | (go_at_call 18; (with_reducible refine (g1 _).mono ?_); rintro e wA ⟨rfl, hb⟩; have hk' := HK.out.call hb; clear hb HK; have HK := Lib.hid hk'; clear hk')
      | (go_at_call 15; (with_reducible refine (awake_any _).mono ?_); rintro e w9 ⟨rfl, hb⟩; have hk' := HK.out.call hb; clear hb HK; have HK := Lib.hid hk'; clear hk'))
    go_ret
    exact ⟨rfl, HK.out.1⟩

set_option maxRecDepth 100000 in
theorem lifted (os : Os) (started : os.Started) (H : Type) (enc : TypeId × Value → H) :
    ReturnsInHanded {} Try.checked os 7 .any (Rows.vecGrowsSpec.pre6 enc Try.prog Try.f7 Rows.vecGrowsRow.domain false) (Rows.vecGrowsSpec.post enc Try.prog Try.f7 false true false false) := by
  refine returnsInHanded_of_change (C := Try.checked) own started (by kernel_rfl) Try.func7
    (ChangeSpec.witness6 (enc := enc) (C := Try.checked) false ⟨#[], #[.agg #[.int .i64 0, .int .i64 0, .int .i64 0, .int .i64 0, .int .i64 0, .int .i64 0, .int .i64 0, .int .i64 0, .int .i64 0, .int .i64 0, .int .i64 0, .int .i64 0, .int .i64 0, .int .i64 0, .int .i64 0, .int .i64 0], .int .i64 0, .int .i64 0, .int .i64 0], []⟩ 8 (by kernel_rfl) (by kernel_rfl) (by kernel_rfl) (by kernel_rfl)) ?_
  intro W base args ds gs before hval0 hW hcnd _
  have hval : ∀ (j : Nat) t v, Try.f7.params[j]? = some t → args[j]? = some v → Value.okWide Try.prog W .any base t v := hval0
  have hW' := hW
  obtain ⟨p, q, hA0, hV, rfl, hfz, hnd⟩ := hW
  have hA : DataW.TrodAll enc Try.prog W 0 (fun _ => true) true Try.f7.params.toList args.toList ds p := hA0
  rw [Try.params7] at hA hval
  obtain ⟨v0, vs0, d0, ds0, p0, q0, hargs, rfl, rfl, h0, r0⟩ := trodAll_cons hA
  obtain ⟨v1, vs1, d1, ds1, p1, q1, rfl, rfl, rfl, h1, r1⟩ := trodAll_cons r0
  obtain ⟨v2, vs2, d2, ds2, p2, q2, rfl, rfl, rfl, h2, r2⟩ := trodAll_cons r1
  obtain ⟨v3, vs3, d3, ds3, p3, q3, rfl, rfl, rfl, h3, r3⟩ := trodAll_cons r2
  obtain ⟨rfl, rfl, rfl⟩ := trodAll_nil r3
  obtain rfl : args = #[v0, v1, v2, v3] := by cases args; simp_all
  obtain ⟨rfl, rfl⟩ := trodVars_none hV
  have k0 := h0
  have lt0 : ∀ x ∈ p0, x.block < W.heap.size := by obtain ⟨m, hm⟩ := k0; exact DataW.trod_lt m _ _ _ hm
  obtain ⟨x0, rfl, l0, z0⟩ := open_vec (hval 0 23 v0 rfl rfl) h0
  have k1 := h1
  have lt1 : ∀ x ∈ p1, x.block < W.heap.size := by obtain ⟨m, hm⟩ := k1; exact DataW.trod_lt m _ _ _ hm
  obtain ⟨a1, rfl, rfl, rfl, w1⟩ := open_int Try.underlying3 (hval 1 3 v1 rfl rfl) h1
  have k2 := h2
  have lt2 : ∀ x ∈ p2, x.block < W.heap.size := by obtain ⟨m, hm⟩ := k2; exact DataW.trod_lt m _ _ _ hm
  obtain ⟨a2, rfl, rfl, rfl, w2⟩ := open_int Try.underlying3 (hval 2 3 v2 rfl rfl) h2
  have k3 := h3
  have lt3 : ∀ x ∈ p3, x.block < W.heap.size := by obtain ⟨m, hm⟩ := k3; exact DataW.trod_lt m _ _ _ hm
  obtain ⟨a3, rfl, rfl, rfl, w3⟩ := open_int Try.underlying3 (hval 3 3 v3 rfl rfl) h3
  clear hA0 hval0
  refine (walk x0 l0 z0 a1 w1 a2 w2 a3 w3 W).mono fun e W' ⟨he, bel⟩ => ?_
  subst he
  exact ⟨_, rfl, _, _, _, [], _, [], hW', trodAll_mk1 (shut_bool Try.underlying4 _), (trodAll_cons_mk (Below.trod laidOut (by kernel_rfl) (of_decide_eq_true (by kernel_rfl)) k0 bel lt0) (trodAll_cons_mk (Below.trod laidOut (by kernel_rfl) (of_decide_eq_true (by kernel_rfl)) k1 bel lt1) (trodAll_cons_mk (Below.trod laidOut (by kernel_rfl) (of_decide_eq_true (by kernel_rfl)) k2 bel lt2) (trodAll_cons_mk (Below.trod laidOut (by kernel_rfl) (of_decide_eq_true (by kernel_rfl)) k3 bel lt3) trodAll_mk0)))), rfl, bel.frame _, fun h => by cases h⟩

theorem over : Rows.vecGrowsRow.holds Try.pinned (OpenSpec.ofChange Rows.vecGrowsSpec) :=
  OpenClaim.holds_of_wide 7 Try.f7 rfl rfl rfl rfl rfl rfl rfl ⟨rfl, rfl, rfl, rfl, rfl⟩ rfl rfl rfl rfl rfl (by kernel_rfl) Try.func7 (by kernel_rfl)
    (of_decide_eq_true (by kernel_rfl)) (by unfold Func.isWrapper; first | (rw [if_pos (by decide +kernel)]; kernel_rfl) | (rw [if_neg (by decide +kernel)]; exact ⟨rfl, rfl⟩))
    (fun os started H enc _ => lifted os started H enc)

theorem proved : Rows.VecGrowsSaid := over
#print axioms proved
end Go.Proofs.Ytjgdgoiogdappaa.vecGrows
