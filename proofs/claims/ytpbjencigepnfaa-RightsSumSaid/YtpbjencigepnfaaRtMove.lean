/- What a move does to what is free, of numbers up to 2^30. No walk. -/
import Derived.Test.YtpbjencigepnfaaRtSum
namespace Go.Proofs.Ytpbjencigepnfaa
open Go.ChangeShapes Go.WideShapes Go.ChangeAt Go.RowKit

theorem move_else {R : List Int} {i k n : Int} (h : moveE R i k n ≠ 0) : moveA R i k n = zer 288 := by
  by_cases hp : preM R i k n = 0
  · have : moveE R i k n = grE R (32 + i.toNat * 16) k n := by simp [moveE, hp]
    rw [this] at h
    have e : moveA R i k n = grA R (32 + i.toNat * 16) k n := by simp [moveA, hp]
    rw [e]; exact grA_no h
  · simp [moveA, hp]
/-- What was moved, where nothing was wrong. -/
theorem move_is {R : List Int} (hR : R.length = 288) {i k n : Int} (h : moveE R i k n = 0) : ∃ i' k' : Nat, i = i' ∧ k = k' ∧ i' < 16 ∧ k' < 16 ∧ i' ≠ k' ∧ 0 ≤ n ∧ n ≤ freeN R i' ∧ moveA R i k n = R.set (32 + i' * 16 + k') (R.getD (32 + i' * 16 + k') 0 + n) := by
  by_cases hp : preM R i k n = 0
  · have hpre := hp
    unfold preM at hp
    split at hp
    · rename_i hc
      obtain ⟨hri, hrk, hik, hn⟩ := hc
      obtain ⟨i', rfl⟩ : ∃ j : Nat, i = j := ⟨i.toNat, by have := repB_iff.1 hri; omega⟩
      have hi' : i' < 16 := by have := repB_iff.1 hri; omega
      obtain ⟨e1, e2⟩ := move_yes hpre
      rw [e1] at h
      obtain ⟨j, rfl, hj, _, _, e3⟩ := gr_zero (by omega) h
      refine ⟨i', j, rfl, rfl, hi', hj, by omega, hn, ?_, by rw [e2, e3]⟩
      unfold coverE at hp
      split at hp
      · omega
      · rename_i hc
        have h1 : ¬ freeN R i' < n := fun h2 => hc ⟨hp, h2⟩
        omega
    · omega
  · simp [moveE, hp] at h
theorem tot_move {R : List Int} (hR : R.length = 288) {i k : Nat} (hi : i < 16) (hk : k < 16) {v : Int} : totL (R.set (32 + i * 16 + k) v) = totL R := by
  have e : ∀ o, o + 16 ≤ 32 → seg (R.set (32 + i * 16 + k) v) o 16 = seg R o 16 := fun o ho => by
    refine ext_get (by rw [seg_length (by simp; omega), seg_length (by omega)]) fun m hm => ?_
    rw [seg_length (by simp; omega)] at hm
    rw [seg_get hm, seg_get hm, set_get (by omega), if_neg (by omega)]
  rw [totL, totL, e 0 (by omega), e 16 (by omega)]
/-- What is free at each, before and behind a move. -/
theorem move_facts {R : List Int} (hR : R.length = 288) (hB : ∀ p, p < 288 → 0 ≤ R.getD p 0 ∧ R.getD p 0 ≤ 1073741824) {i k : Nat} (hi : i < 16) (hk : k < 16) (hik : i ≠ k) {n : Int} (hn : 0 ≤ n) (hf : n ≤ freeN R i) (j : Nat) (hj : j < 16) :
    ∃ fr : Int, freeN R j = fr ∧ freeE R j = 0 ∧ freeN (R.set (32 + i * 16 + k) (R.getD (32 + i * 16 + k) 0 + n)) j = (if j = i then fr - n else if j = k then fr + n else fr) ∧ freeE (R.set (32 + i * 16 + k) (R.getD (32 + i * 16 + k) 0 + n)) j = 0 ∧
      (-1099511627776 ≤ fr ∧ fr ≤ 1099511627776) ∧ n ≤ 1099511627776 := by
  have hs := fun j (hj : j < 16) => free_small hR (B := 1073741824) hB (by omega) (k := j) hj
  have hb : ∀ j, j < 16 → -17 * 1073741824 ≤ V (at_ R) j ∧ V (at_ R) j ≤ 17 * 1073741824 := fun j hj => by
    have c1 := sumF_le (f := fun m => at_ R (32 + m * 16 + j)) (g := fun _ => 1073741824) (n := 16) (fun m hm => (hB _ (by omega)).2)
    have c2 := sumF_le (f := fun m => at_ R (32 + j * 16 + m)) (g := fun _ => 1073741824) (n := 16) (fun m hm => (hB _ (by omega)).2)
    have c3 := sumF_le (f := fun _ => 0) (g := fun m => at_ R (32 + m * 16 + j)) (n := 16) (fun m hm => (hB _ (by omega)).1)
    have c4 := sumF_le (f := fun _ => 0) (g := fun m => at_ R (32 + j * 16 + m)) (n := 16) (fun m hm => (hB _ (by omega)).1)
    have c5 := hB j (by omega)
    have c6 := hB (16 + j) (by omega)
    rw [sumF_zero] at c3 c4
    have c7 : sumF (fun _ => (1073741824 : Int)) 16 = 16 * 1073741824 := by decide
    rw [c7] at c1 c2
    unfold V
    simp only [at_] at c1 c2 c3 c4 ⊢
    omega
  have hn17 : n ≤ 17 * 1073741824 := by have := (hs i hi).2; have := (hb i hi).2; omega
  have hB2 : ∀ p, p < 288 → 0 ≤ (R.set (32 + i * 16 + k) (R.getD (32 + i * 16 + k) 0 + n)).getD p 0 ∧ (R.set (32 + i * 16 + k) (R.getD (32 + i * 16 + k) 0 + n)).getD p 0 ≤ 18 * 1073741824 := fun p hp => by
    rw [set_get (by omega)]
    have h1 := hB p hp; have h2 := hB (32 + i * 16 + k) (by omega)
    split <;> omega
  have hx := free_small (by rw [List.length_set]; exact hR) hB2 (by omega) hj
  have hv := V_move (f := at_ R) (g := at_ (R.set (32 + i * 16 + k) (R.getD (32 + i * 16 + k) 0 + n))) hi hk hik (fun q hq hne => by rw [at_set (by omega), if_neg hne]) hj
  rw [at_set (by omega), if_pos rfl] at hv
  refine ⟨V (at_ R) j, (hs j hj).2, (hs j hj).1, ?_, hx.1, by have := hb j hj; omega, by omega⟩
  rw [hx.2, hv]
  have e : R.getD (32 + i * 16 + k) 0 + n - at_ R (32 + i * 16 + k) = n := by simp only [at_]; omega
  rw [e]
  by_cases h1 : j = i
  · subst h1
    rw [if_pos rfl, if_pos rfl, if_neg hik]; omega
  · rw [if_neg h1, if_neg h1]
    by_cases h2 : j = k
    · rw [if_pos h2, if_pos h2]; omega
    · rw [if_neg h2, if_neg h2]; omega
end Go.Proofs.Ytpbjencigepnfaa
