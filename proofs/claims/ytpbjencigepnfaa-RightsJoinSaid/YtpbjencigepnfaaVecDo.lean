/- Contracts of vec.Right, vec.Join and vec.Over. -/
import Derived.Test.YtpbjencigepnfaaCalm
import Derived.Test.YtpbjencigepnfaaNumAdd
namespace Go.Proofs.Ytpbjencigepnfaa
open Go.ChangeShapes Go.WideShapes Go.ChangeAt Go.RowKit

theorem right_any (xs : List Int) (hx : xs.length = 16) (w : World) :
    Calls Try.prog 35 #[.agg (vals xs).toArray] w fun e w' => e = .returned (.bool (rightB xs)) ∧ Below w.heap.size w w' := by
  have hix : ∀ (k : Nat) (W : World), k < 16 → (Instr.index 23 (.agg (vals xs).toArray) (.int .i64 (k : Int))).run Try.prog W = .ok (.int .i64 (xs.getD k 0)) W := fun k W hk => index_vec hx hk W
  have HIX := Lib.hid hix; clear hix
  have HI := Lib.hid (rightB_iff hx)
  have HX := Lib.hid hx; clear hx
  have H0 := Lib.hid (box w 23 xs)
  go_enter Try.func35, Try.ntmps35
  go_wp2_with ((with_reducible refine wpList_load_vec rfl _ rfl _ rfl _ H0.out.1 HX.out ?_))
  go_loop [6] (fun i => ∃ k : Nat, k ≤ 16 ∧ i = .int .i64 k ∧ ∀ j, j < k → 0 ≤ xs.getD j 0 ∧ xs.getD j 0 ≤ 1099511627776) (fun i => 16 - (intOf i).toNat)
  case atStart => exact ⟨0, by omega, rfl, fun j hj => by omega⟩
  case round =>
    obtain ⟨k, hk, rfl, hD⟩ := hrel
    have HD := Lib.hid hD
    clear hD
    by_cases hlt : k < 16
    · have hi : ∀ W : World, (Instr.index 23 (.agg (vals xs).toArray) (.int .i64 (k : Int))).run Try.prog W = .ok (.int .i64 (xs.getD k 0)) W := fun W => HIX.out k W hlt
      generalize hx : xs.getD k 0 = x at hi
      have Hx := Lib.hid hx
      clear hx
      have i1 : (0 : Int) ≤ (k : Int) := by omega
      have i2 : (k : Int) < 16 := by omega
      have hf : ¬ (0 ≤ x ∧ x ≤ 1099511627776) → false = rightB xs := fun hn => by
        cases h : rightB xs with
        | false => rfl
        | true => have := HI.out.1 h k hlt; rw [Hx.out] at this; exact absurd this hn
      have HF := Lib.hid hf; clear hf
      by_cases h1 : x < 0
      · go_wp2
        go_ret
        exact ⟨congrArg (fun b => Ending.returned (.bool b)) (HF.out (by omega)), H0.out.2⟩
      · by_cases h2 : 1099511627776 < x
        · have e : isB x = false := isB_not.2 (by omega)
          go_wp2_with ((go_at_call 51; (with_reducible refine (is_any _ _).mono ?_); rintro e w' ⟨rfl, rfl⟩))
          go_ret
          exact ⟨congrArg (fun b => Ending.returned (.bool b)) (HF.out (by omega)), H0.out.2⟩
        · have e : isB x = true := isB_iff.2 (by omega)
          go_wp2_with ((go_at_call 51; (with_reducible refine (is_any _ _).mono ?_); rintro e w' ⟨rfl, rfl⟩))
          go_round
          case rel => exact ⟨k + 1, by omega, by go_num, fun j hj => by
            by_cases hjk : j = k
            · rw [hjk, Hx.out]; omega
            · exact HD.out j (by omega)⟩
          case measure => simp [intOf]; omega
    · have ht : true = rightB xs := (HI.out.2 fun j hj => HD.out j (by omega)).symm
      have HT := Lib.hid ht; clear ht
      go_wp2
      go_ret
      exact ⟨congrArg (fun b => Ending.returned (.bool b)) HT.out, H0.out.2⟩

theorem join_any (xs ys : List Int) (hx : xs.length = 16) (hy : ys.length = 16) (w : World) :
    Calls Try.prog 42 #[.agg (vals xs).toArray, .agg (vals ys).toArray] w fun e w' => e = .returned (.agg (vals (joinL xs ys)).toArray) ∧ Below w.heap.size w w' := by
  have hix : ∀ (k : Nat) (W : World), k < 16 → (Instr.index 23 (.agg (vals ys).toArray) (.int .i64 (k : Int))).run Try.prog W = .ok (.int .i64 (ys.getD k 0)) W := fun k W hk => index_vec hy hk W
  have HIX := Lib.hid hix; clear hix
  have HJ := Lib.hid (joinL_length hx hy)
  have HX := Lib.hid hx; clear hx
  have HY := Lib.hid hy; clear hy
  have h1 := boxes_more (n := w.heap.size + 1 + 1) (by simp) (boxes w 23 xs ys) zeros
  rw [zlit] at h1
  have H0 := Lib.hid h1
  clear h1
  go_enter Try.func42, Try.ntmps42
  go_wp2_with ((with_reducible refine wpList_load_vec rfl _ rfl _ rfl _ H0.out.1.2.1 HY.out ?_))
  go_loopw [8] (fun i wr => ∃ k : Nat, k ≤ 16 ∧ i = .int .i64 k ∧ Blk wr w.heap.size 23 (mix k (joinL xs ys) xs) ∧ Blk wr (w.heap.size + 1 + 1) 23 zeros ∧ Below w.heap.size w wr) (fun i _ => 16 - (intOf i).toNat)
  case atStart => exact ⟨0, by omega, rfl, (mix_zero _ _).symm ▸ H0.out.1.1, H0.out.2, H0.out.1.2.2⟩
  case round =>
    obtain ⟨k, hk, rfl, hM, hZ, hS⟩ := hrel
    have HZ := Lib.hid hZ; have HM := Lib.hid hM; have HS := Lib.hid hS
    clear hZ hM hS H0
    by_cases hlt : k < 16
    · have hi : ∀ W : World, (Instr.index 23 (.agg (vals ys).toArray) (.int .i64 (k : Int))).run Try.prog W = .ok (.int .i64 (ys.getD k 0)) W := fun W => HIX.out k W hlt
      have c1 := HM.out.cell (k := k) (by rw [mix_length (by rw [HJ.out, HX.out]), HX.out]; omega)
      have f1 := HM.out.frozen k
      have hj := joinL_get (xs := xs) (ys := ys) (k := k) (by have := HX.out; omega) (by have := HY.out; omega)
      have hm := mix_set (zs := joinL xs ys) (xs := xs) (k := k) (by rw [HJ.out, HX.out]) (by rw [HX.out]; omega)
      rw [hj] at hm
      rw [mix_get (by rw [HJ.out, HX.out]) (by rw [HX.out]; omega)] at c1
      generalize hx : xs.getD k 0 = x at c1 hm
      generalize hy : ys.getD k 0 = y at hi hm
      clear hx hy hj
      have Hm := Lib.hid hm; clear hm
      have i1 : (0 : Int) ≤ (k : Int) := by omega
      have i2 : (k : Int) < 16 := by omega
      go_wp2
      go_roundw
      case rel =>
        have e : (if x < y then y else x) = max x y := by split <;> omega
        rw [e]
        refine ⟨k + 1, by omega, by go_num, ?_, HZ.out.apart _ _ (by simp; omega), HS.out.setCell (by simp) _⟩
        have := HM.out.setCell k (max x y)
        rwa [Hm.out] at this
      case measure => simp [intOf]; omega
    · have hM := HM.out
      rw [mix_all (by rw [HJ.out, HX.out]) (by rw [HX.out]; omega)] at hM
      have HM := Lib.hid hM; clear hM
      go_wp2_with (first
        | (with_reducible refine wpList_load_vec rfl _ rfl _ rfl _ HM.out HJ.out ?_)
        | (with_reducible refine wpList_store_vec rfl _ _ rfl _ _ rfl rfl _ HZ.out zeros_length HJ.out ?_))
      exact bodyPost_ret (results_vec rfl _ _ _ _ rfl (HZ.out.setRow _) HJ.out) rfl ⟨rfl, below_setRow HS.out (by omega) _⟩
theorem over_any (xs ys : List Int) (hx : xs.length = 16) (hy : ys.length = 16) (w : World) :
    Calls Try.prog 44 #[.agg (vals xs).toArray, .agg (vals ys).toArray] w fun e w' => e = .returned (.bool (overB xs ys)) ∧ Below w.heap.size w w' := by
  have heq := eql_vec (joinL xs ys) xs (joinL_length hx hy) hx
  rw [show (joinL xs ys == xs) = overB xs ys from rfl] at heq
  have hge : Try.prog.eqGuardType Try.prog.depth 23 = false := by kernel_rfl
  have HX := Lib.hid hx; clear hx
  have HY := Lib.hid hy; clear hy
  have H0 := Lib.hid (Two.start w 23 xs ys)
  haveI : Nonempty (Kept fun u => Two w xs ys u) := ⟨⟨_, H0.out⟩⟩
  go_enter Try.func44, Try.ntmps44
  go_wp2_with fail
  refine region_calm (S := fun u => Two w xs ys u) H0.out.drew (by kernel_rfl) (by kernel_rfl) ?_
  repeat (first
    | go_big_quiet_skip
    | (go_big_quiet_want
       first
         | (refine quiet_load_vec _ rfl _ rfl xs (fun _ ⟨s, hs⟩ => hs ▸ s.ok.1) HX.out ?_; simp only [Act.put, List.setIfInBounds_toArray, List.set_cons_zero, List.set_cons_succ]; go_big_quiet_on)
         | (refine quiet_load_vec _ rfl _ rfl ys (fun _ ⟨s, hs⟩ => hs ▸ s.ok.2.1) HY.out ?_; simp only [Act.put, List.setIfInBounds_toArray, List.set_cons_zero, List.set_cons_succ]; go_big_quiet_on)
         | (go_big_quiet_op; go_big_quiet_on)
         | (go_big_quiet_op; go_big_quiet_call ((go_at_call 42; exact calls_calm (fun h hb => Two.call h hb) (join_any _ _ HX.out HY.out _))))))
  refine wpQuiet_nil ?_
  rintro _ ⟨⟨W, hW⟩, rfl⟩
  have HW := Lib.hid hW; clear hW
  go_wp2
  go_ret
  exact ⟨rfl, HW.out.2.2.1⟩
end Go.Proofs.Ytpbjencigepnfaa
