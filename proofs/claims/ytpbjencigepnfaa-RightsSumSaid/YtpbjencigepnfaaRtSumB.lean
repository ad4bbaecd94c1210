/- What is free in all, added up; what each state tells of its own. No walk. -/
import Derived.Test.YtpbjencigepnfaaRtAll
namespace Go.Proofs.Ytpbjencigepnfaa
open Go.ChangeShapes Go.WideShapes Go.ChangeAt Go.RowKit

theorem V_up {f : Nat → Int} {B : Int} (h : ∀ p, p < 288 → 0 ≤ f p ∧ f p ≤ B) {k : Nat} (hk : k < 16) : V f k ≤ 17 * B := by
  have c1 := sumF_le (f := fun m => f (32 + m * 16 + k)) (g := fun _ => B) (n := 16) (fun m hm => (h _ (by omega)).2)
  have c4 := sumF_le (f := fun _ => 0) (g := fun m => f (32 + k * 16 + m)) (n := 16) (fun m hm => (h _ (by omega)).1)
  have c5 := h k (by omega)
  have c6 := h (16 + k) (by omega)
  rw [sumF_zero] at c4
  have c7 : sumF (fun _ => B) 16 = 16 * B := by simp only [sumF]; omega
  rw [c7] at c1
  unfold V; omega
theorem Inv.sums {s : Nat → Nat → Int} (h : Inv 60 s) : ∀ k, k ≤ 16 → 0 ≤ sumF (V (mx s 16)) k ∧ sumF (V (mx s 16)) k ≤ 1020000 * (k : Int)
  | 0, _ => by simp [sumF]
  | k + 1, hk => by
    have h1 := Inv.sums h k (by omega)
    have h2 := h.all_free (k := k) (by omega)
    have h3 := V_up (f := mx s 16) (B := 60000) (fun p hp => by have := h.all_pos hp; omega) (k := k) (by omega)
    simp only [sumF]; push_cast; omega
/-- Of its own each state tells what all of them joined do. -/
theorem own_same {S AL : List Int} (_hS : S.length = 4608) (h : Inv 60 (st S)) (ha : AllOf S AL) {k : Nat} (hk : k < 16) {p : Nat} (hp : mine k p) : S.getD (k * 288 + p) 0 = AL.getD p 0 := by
  have h1 := ha.is p (mine_lt hk hp)
  rw [h.all hk hp] at h1
  exact h1.symm
theorem own_row {S AL : List Int} (hS : S.length = 4608) (h : Inv 60 (st S)) (ha : AllOf S AL) {k : Nat} (hk : k < 16) : seg S (k * 288 + 32 + k * 16) 16 = seg AL (32 + k * 16) 16 := by
  have hl := ha.len
  refine ext_get (by rw [seg_length (by omega), seg_length (by omega)]) fun m hm => ?_
  rw [seg_length (by omega)] at hm
  rw [seg_get hm, seg_get hm, show k * 288 + 32 + k * 16 + m = k * 288 + (32 + k * 16 + m) by omega]
  exact own_same hS h ha hk (.inr (.inr ⟨m, hm, rfl⟩))
end Go.Proofs.Ytpbjencigepnfaa
