/- Contracts of the document's Over, Right and Join of layer 2. -/
import Derived.Test.YtpbjencigepnfaaVecs
namespace Go.Proofs.Ytpbjencigepnfaa
open Go.ChangeShapes Go.WideShapes Go.ChangeAt Go.RowKit

theorem rright_any (xs : List Int) (hx : xs.length = 16) (w : World) :
    Calls Try.prog 36 #[.agg (vals xs).toArray] w fun e w' => e = .returned (.bool (rightB xs)) ∧ Below w.heap.size w w' := by
  have HI := Lib.hid (rightB_iff hx)
  have HX := Lib.hid hx; clear hx
  have H0 := Lib.hid (box w 23 xs)
  go_enter Try.func36, Try.ntmps36
  go_wp2
  go_loopw [3] (fun i wr => ∃ k : Nat, k ≤ 16 ∧ i = .int .i64 k ∧ Blk wr w.heap.size 23 xs ∧ Below w.heap.size w wr ∧ ∀ j, j < k → 0 ≤ xs.getD j 0 ∧ xs.getD j 0 ≤ 1099511627776) (fun i _ => 16 - (intOf i).toNat)
  case atStart => exact ⟨0, by omega, rfl, H0.out.1, H0.out.2, fun j hj => by omega⟩
  case round =>
    obtain ⟨k, hk, rfl, hA, hS, hD⟩ := hrel
    have HA := Lib.hid hA; have HS := Lib.hid hS; have HD := Lib.hid hD
    clear hA hS hD H0
    by_cases hlt : k < 16
    · have c1 := HA.out.cell (k := k) (by have := HX.out; omega)
      generalize hx : xs.getD k 0 = x at c1
      have Hx := Lib.hid hx
      clear hx
      have i1 : (0 : Int) ≤ (k : Int) := by omega
      have i2 : (k : Int) < 16 := by omega
      have hf : ¬ (0 ≤ x ∧ x ≤ 1099511627776) → false = rightB xs := fun hn => by
        cases h : rightB xs with
        | false => rfl
        | true => have := HI.out.1 h k hlt; rw [Hx.out] at this; exact absurd this hn
      have HF := Lib.hid hf; clear hf
      by_cases h1 : x < 0
      · go_wp2
        go_ret
        exact ⟨congrArg (fun b => Ending.returned (.bool b)) (HF.out (by omega)), HS.out⟩
      · by_cases h2 : 1099511627776 < x
        · go_wp2
          go_ret
          exact ⟨congrArg (fun b => Ending.returned (.bool b)) (HF.out (by omega)), HS.out⟩
        · go_wp2
          go_roundw
          case rel => exact ⟨k + 1, by omega, by go_num, HA.out, HS.out, fun j hj => by
            by_cases hjk : j = k
            · rw [hjk, Hx.out]; omega
            · exact HD.out j (by omega)⟩
          case measure => simp [intOf]; omega
    · have ht : true = rightB xs := (HI.out.2 fun j hj => HD.out j (by omega)).symm
      have HT := Lib.hid ht; clear ht
      go_wp2
      go_ret
      exact ⟨congrArg (fun b => Ending.returned (.bool b)) HT.out, HS.out⟩

theorem rjoin_any (xs ys : List Int) (hx : xs.length = 16) (hy : ys.length = 16) (w : World) :
    Calls Try.prog 43 #[.agg (vals xs).toArray, .agg (vals ys).toArray] w fun e w' => e = .returned (.agg (vals (joinL xs ys)).toArray) ∧ Below w.heap.size w w' := by
  have HJ := Lib.hid (joinL_length hx hy)
  have HX := Lib.hid hx; clear hx
  have HY := Lib.hid hy; clear hy
  have h1 := boxes_more (n := w.heap.size + 1 + 1) (by simp) (boxes w 23 xs ys) zeros
  have h2 := boxes_more (n := w.heap.size + 1 + 1 + 1) (by simp) h1.1 zeros
  have H0 := Lib.hid (And.intro h2 (h1.2.alloc (.cells (vals zeros).toArray 23)))
  clear h1 h2
  go_enter Try.func43, Try.ntmps43
  go_wp2
  go_loopw [6] (fun i wr => ∃ k : Nat, k ≤ 16 ∧ i = .int .i64 k ∧ Blk wr w.heap.size 23 xs ∧ Blk wr (w.heap.size + 1) 23 ys ∧ Blk wr (w.heap.size + 1 + 1) 23 zeros ∧ Blk wr (w.heap.size + 1 + 1 + 1) 23 (mix k (joinL xs ys) zeros) ∧ Below w.heap.size w wr) (fun i _ => 16 - (intOf i).toNat)
  case atStart => exact ⟨0, by omega, rfl, H0.out.1.1.1, H0.out.1.1.2.1, H0.out.2, (mix_zero _ _).symm ▸ H0.out.1.2, H0.out.1.1.2.2⟩
  case round =>
    obtain ⟨k, hk, rfl, hA, hB, hZ, hM, hS⟩ := hrel
    have HA := Lib.hid hA; have HB := Lib.hid hB; have HZ := Lib.hid hZ; have HM := Lib.hid hM; have HS := Lib.hid hS
    clear hA hB hZ hM hS H0
    by_cases hlt : k < 16
    · have c1 := HA.out.cell (k := k) (by have := HX.out; omega)
      have c2 := HB.out.cell (k := k) (by have := HY.out; omega)
      have c3 := HM.out.cell (k := k) (by rw [mix_length (by rw [HJ.out, zeros_length]), zeros_length]; omega)
      have f3 := HM.out.frozen k
      have hj := joinL_get (xs := xs) (ys := ys) (k := k) (by have := HX.out; omega) (by have := HY.out; omega)
      have hm := mix_set (zs := joinL xs ys) (xs := zeros) (k := k) (by rw [HJ.out, zeros_length]) (by rw [zeros_length]; omega)
      rw [hj] at hm
      generalize hx : xs.getD k 0 = x at c1 hm
      generalize hy : ys.getD k 0 = y at c2 hm
      generalize (mix k (joinL xs ys) zeros).getD k 0 = z at c3
      clear hx hy hj
      have Hm := Lib.hid hm; clear hm
      have i1 : (0 : Int) ≤ (k : Int) := by omega
      have i2 : (k : Int) < 16 := by omega
      by_cases hxy : x < y
      · go_wp2
        go_quiet (fail)
        go_wp2
        go_roundw
        case rel =>
          refine ⟨k + 1, by omega, by go_num, ((HA.out.apart _ _ (by simp; omega)).drewN _).apart _ _ (by simp; omega), ((HB.out.apart _ _ (by simp)).drewN _).apart _ _ (by simp), ((HZ.out.apart _ _ (by simp)).drewN _).apart _ _ (by simp), ?_, (below_drewN (HS.out.setCell (by simp; omega) _) _).setCell (by simp; omega) _⟩
          have := ((HM.out.setCell k x).drewN nq).setCell k y
          rw [List.set_set, show y = max x y by omega, Hm.out] at this
          rwa [show max x y = y by omega] at this
        case measure => simp [intOf]; omega
      · go_wp2
        go_quiet (fail)
        go_wp2
        go_roundw
        case rel =>
          refine ⟨k + 1, by omega, by go_num, (HA.out.apart _ _ (by simp; omega)).drewN _, (HB.out.apart _ _ (by simp)).drewN _, (HZ.out.apart _ _ (by simp)).drewN _, ?_, below_drewN (HS.out.setCell (by simp; omega) _) _⟩
          have := (HM.out.setCell k x).drewN nq
          rw [show x = max x y by omega, Hm.out] at this
          rwa [show max x y = x by omega] at this
        case measure => simp [intOf]; omega
    · have hM := HM.out
      rw [mix_all (by rw [HJ.out, zeros_length]) (by rw [zeros_length]; omega)] at hM
      have HM := Lib.hid hM; clear hM
      go_wp2_with (first
        | (with_reducible refine wpList_load_vec rfl _ rfl _ rfl _ HM.out HJ.out ?_)
        | (with_reducible refine wpList_store_vec rfl _ _ rfl _ _ rfl rfl _ HZ.out zeros_length HJ.out ?_))
      exact bodyPost_ret (results_vec rfl _ _ _ _ rfl (HZ.out.setRow _) HJ.out) rfl ⟨rfl, below_setRow HS.out (by omega) _⟩
end Go.Proofs.Ytpbjencigepnfaa
