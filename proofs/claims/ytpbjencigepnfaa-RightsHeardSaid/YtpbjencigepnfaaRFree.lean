/- A contract of the document's Free. -/
import Derived.Test.YtpbjencigepnfaaTotal
namespace Go.Proofs.Ytpbjencigepnfaa
open Go.ChangeShapes Go.WideShapes Go.ChangeAt Go.RowKit

theorem rfree_any (R : List Int) (hR : R.length = 288) (k : Int) (w : World) :
    Calls Try.prog 12 #[.agg (vals R).toArray, .int .i64 k] w fun e w' => e = .returned (.tuple #[.int .i64 (freeN R k), .int .i64 (freeE R k)]) ∧ Below w.heap.size w w' := by
  have HR := Lib.hid hR
  have HK := Lib.hid (KeepR.start w)
  cases hrep : repB k with
  | false =>
    obtain ⟨e1, e2⟩ := free_no (R := R) hrep
    rw [e1, e2]; clear e1 e2 hR
    have hk := repB_not.1 hrep
    by_cases h0 : k < 0
    · clear hk
      go_enter Try.func12, Try.ntmps12
      go_wp2_with (first
        | (with_reducible refine box_new HK.out rfl _ rfl rfl ?_; intro b u hk hb; clear hb; clear HK; have HK := Lib.hid hk; clear hk))
      go_ret2
      exact ⟨rfl, HK.out.bel⟩
    · have h1 : 15 < k := by omega
      clear hk
      go_enter Try.func12, Try.ntmps12
      go_wp2_with (first
        | (with_reducible refine box_new HK.out rfl _ rfl rfl ?_; intro b u hk hb; clear hb; clear HK; have HK := Lib.hid hk; clear hk))
      go_ret2
      exact ⟨rfl, HK.out.bel⟩
  | true =>
    obtain ⟨j, rfl⟩ : ∃ j : Nat, k = j := ⟨k.toNat, by have := repB_iff.1 hrep; omega⟩
    have hj : j < 16 := by have := repB_iff.1 hrep; omega
    obtain ⟨e1, e2⟩ := free_yes (R := R) hj
    rw [e1, e2]; clear e1 e2
    have HC := Lib.hid (colL_length R j)
    have HU := Lib.hid (seg_length (R := R) (o := 32 + j * 16) (n := 16) (by omega))
    have HQ := Lib.hid (show (R.getD j 0 :: colL R j) ++ [ng (R.getD (16 + j) 0)] ++ negs (seg R (32 + j * 16) 16) = fl R j by simp [fl, negs])
    have i1 : (0 : Int) ≤ (j : Int) := by omega
    have i2 : (j : Int) < 16 := by omega
    have i3 : ¬ (15 < (j : Int)) := by omega
    clear hR
    have HO := Lib.hid True.intro
    go_enter Try.func12, Try.ntmps12
    go_wp2_with (first
      | (with_reducible refine box_new HK.out rfl _ rfl rfl ?_; intro b u hk hb; clear hb; have hc0 := (hk.get 0 rfl).cell (k := j) (by have := HR.out; omega); clear HK; have HK := Lib.hid hk; clear hk)
      | (with_reducible refine build1 HK.out rfl _ rfl rfl ?_; intro b1 u hk hb; clear hb hc0; have ho := (hk.get 0 rfl).own (hk.blk _ (List.mem_cons_self ..)).1 (n := 1) rfl (by omega); clear HO; have HO := Lib.hid ho; clear ho; have hk1 := hk.tail; clear hk; have hk := hk1; clear hk1; clear HK; have HK := Lib.hid hk; clear hk))
    go_loopw [6, 7] (fun v i wr => ∃ m : Nat, m ≤ 16 ∧ i = .int .i64 m ∧ KeepR w [(b, 26, R)] wr ∧ wr.ownsRow w.heap.size 3 1 v (1 + m) (vals (R.getD j 0 :: (colL R j).take m))) (fun _ i _ => 16 - (intOf i).toNat)
    case atStart => exact ⟨0, by omega, rfl, HK.out, by simpa using HO.out⟩
    case round =>
      obtain ⟨m, hm, rfl, hk, ho⟩ := hrel
      clear HK HO
      have HK := Lib.hid hk; have HO := Lib.hid ho
      clear hk ho
      by_cases hlt : m < 16
      · have hc1 := (HK.out.get 0 rfl).cell (k := 32 + m * 16 + j) (by have := HR.out; omega)
        have hst : (colL R j).take (m + 1) = (colL R j).take m ++ [(colL R j).getD m 0] := take_snoc (by rw [HC.out]; omega)
        rw [colL_get hlt] at hst
        generalize R.getD (32 + m * 16 + j) 0 = x at hc1 hst
        have HT := Lib.hid hst; clear hst
        have j1 : (0 : Int) ≤ (m : Int) := by omega
        have j2 : (m : Int) < 16 := by omega
        go_wp2_with (first
          | (with_reducible refine build1 HK.out rfl _ rfl rfl ?_; intro b1 u hk hb; clear hc1; have ho := own_below HO.out hb; clear hb HO; have HO := Lib.hid ho; clear ho; have HX := Lib.hid ((hk.get 0 rfl).readsAll (n := 1) rfl (by omega)); have hk1 := hk.tail; clear hk; have hk := hk1; clear hk1; clear HK; have HK := Lib.hid hk; clear hk)
          | (refine wpList_append_ints rfl _ _ rfl w.heap.size _ (1 + m) (R.getD j 0 :: (colL R j).take m) rfl HO.out _ 1 1 [x] rfl HX.out (by omega) HK.out.bel.size ?_; intro v' u ho hg hv; have hk := HK.out.grown HO.out (by simp) hg; clear HO HX hg hv; have HO := Lib.hid ho; clear ho; clear HK; have HK := Lib.hid hk; clear hk))
        go_roundw
        case rel => exact ⟨m + 1, by omega, by go_num, HK.out, by have h3 := HO.out; rw [List.cons_append, ← HT.out] at h3; exact h3⟩
        case measure => simp [intOf]; omega
      · obtain rfl : m = 16 := by omega
        simp only [show ((16 : Nat) : Int) = 16 from rfl]
        have ho := HO.out
        rw [List.take_of_length_le (by rw [HC.out]; omega)] at ho
        clear HO
        have HO := Lib.hid ho; clear ho
        have hc1 := (HK.out.get 0 rfl).cell (k := 16 + j) (by have := HR.out; omega)
        generalize hz : R.getD (16 + j) 0 = z at hc1
        have HZ := Lib.hid hz; clear hz
        have hng : ∀ y : Int, wrap64 (0 - y) = ng y := fun y => by unfold ng; congr 1; omega
        go_wp2_with (first
          | (with_reducible refine build1 HK.out rfl _ rfl rfl ?_; intro b1 u hk hb; clear hc1; have ho := own_below HO.out hb; clear hb HO; have HO := Lib.hid ho; clear ho; have HX := Lib.hid ((hk.get 0 rfl).readsAll (n := 1) rfl (by omega)); have hk1 := hk.tail; clear hk; have hk := hk1; clear hk1; clear HK; have HK := Lib.hid hk; clear hk)
          | (refine wpList_append_ints rfl _ _ rfl w.heap.size _ (1 + 16) (R.getD j 0 :: colL R j) rfl HO.out _ 1 1 [ng z] rfl HX.out (by omega) HK.out.bel.size ?_; intro v' u ho hg hv; have hk := HK.out.grown HO.out (by simp) hg; clear HO HX hg hv; have HO := Lib.hid ho; clear ho; clear HK; have HK := Lib.hid hk; clear hk))
        go_loopw [6, 8] (fun v i wr => ∃ m : Nat, m ≤ 16 ∧ i = .int .i64 m ∧ KeepR w [(b, 26, R)] wr ∧ wr.ownsRow w.heap.size 3 1 v (1 + 16 + 1 + m) (vals (((R.getD j 0 :: colL R j) ++ [ng z]) ++ (negs (seg R (32 + j * 16) 16)).take m))) (fun _ i _ => 16 - (intOf i).toNat)
        case atStart => exact ⟨0, by omega, rfl, HK.out, by simpa using HO.out⟩
        case round =>
          obtain ⟨m, hm, rfl, hk, ho⟩ := hrel
          clear HK HO
          have HK := Lib.hid hk; have HO := Lib.hid ho
          clear hk ho
          by_cases hlt : m < 16
          · have hc1 := (HK.out.get 0 rfl).cell (k := 32 + j * 16 + m) (by have := HR.out; omega)
            have hst := take_snoc (xs := negs (seg R (32 + j * 16) 16)) (k := m) (by rw [negs_length, HU.out]; omega)
            rw [negs_get (by rw [HU.out]; omega), seg_get hlt] at hst
            generalize R.getD (32 + j * 16 + m) 0 = x at hc1 hst
            have HT := Lib.hid hst; clear hst
            have j1 : (0 : Int) ≤ (m : Int) := by omega
            have j2 : (m : Int) < 16 := by omega
            go_wp2_with (first
              | (with_reducible refine build1 HK.out rfl _ rfl rfl ?_; intro b1 u hk hb; clear hc1; have ho := own_below HO.out hb; clear hb HO; have HO := Lib.hid ho; clear ho; have HX := Lib.hid ((hk.get 0 rfl).readsAll (n := 1) rfl (by omega)); have hk1 := hk.tail; clear hk; have hk := hk1; clear hk1; clear HK; have HK := Lib.hid hk; clear hk)
              | (refine wpList_append_ints rfl _ _ rfl w.heap.size _ (1 + 16 + 1 + m) (((R.getD j 0 :: colL R j) ++ [ng z]) ++ (negs (seg R (32 + j * 16) 16)).take m) rfl HO.out _ 1 1 [ng x] rfl HX.out (by omega) HK.out.bel.size ?_; intro v' u ho hg hv; have hk := HK.out.grown HO.out (by simp) hg; clear HO HX hg hv; have HO := Lib.hid ho; clear ho; clear HK; have HK := Lib.hid hk; clear hk))
            go_roundw
            case rel => exact ⟨m + 1, by omega, by go_num, HK.out, by have h3 := HO.out; rw [List.append_assoc, ← HT.out] at h3; exact h3⟩
            case measure => simp [intOf]; omega
          · obtain rfl : m = 16 := by omega
            have ho := HO.out
            rw [List.take_of_length_le (by rw [negs_length, HU.out]; omega), ← HZ.out, HQ.out] at ho
            obtain ⟨A, c, rfl⟩ := own_slice ho
            have HV := Lib.hid (own_reads ho (by omega)).1
            clear ho HO
            go_wp2_with ((go_at_call 33; (with_reducible refine (rsum_any A _ c (fl R j) _ HV.out).mono ?_); rintro e u ⟨rfl, rfl⟩))
            go_ret2
            exact ⟨rfl, HK.out.bel⟩
end Go.Proofs.Ytpbjencigepnfaa
