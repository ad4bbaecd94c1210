/- Plain arithmetic of layer 6, on: what finding, adding up, reserving, ending and letting go tell. No program is spoken of here. -/
import Derived.Test.YtofngihdnjgmeaaLHoo
namespace Go.Proofs.Ytofngihdnjgmeaa

/-! ### Finding. -/
def nm (k n : Int) (h : Ho) : Bool := h.r == k && h.n == n
/-! ### What a replica holds. -/
def holdsB (k : Int) (h : Ho) : Bool := h.r == k && h.s == 1
def sumTo (l : List Ho) (k : Int) : Nat → Int
  | 0 => 0
  | m + 1 => if holdsB k (l.getD m z5) then min (sumTo l k m + (l.getD m z5).a) 1099511627776 else sumTo l k m
def sumL (l : List Ho) (k : Int) : Int := sumTo l k l.length
theorem sumTo_range {l : List Ho} (hr : ∀ h ∈ l, rightH h = true) (k : Int) : ∀ m, m ≤ l.length → 0 ≤ sumTo l k m ∧ sumTo l k m ≤ 1099511627776
  | 0, _ => by simp [sumTo]
  | m + 1, hm => by
    have ih := sumTo_range hr k m (by omega)
    have := rightH_iff.1 (hr _ (getD_mem (show m < l.length by omega)))
    rw [sumTo]
    split <;> omega
/-- What each holds, with no bound. -/
def parts (k : Int) (l : List Ho) : List Int := l.map fun h => if holdsB k h then h.a else 0
/-! ### Reserving. -/
def grTo (l : List Ho) (k : Int) : Nat → Int
  | 0 => 0
  | m + 1 => if (l.getD m z5).r == k then max (grTo l k m) (l.getD m z5).n else grTo l k m
def gr (l : List Ho) (k : Int) : Int := grTo l k l.length
theorem grTo_range {l : List Ho} (hr : ∀ h ∈ l, rightH h = true) (k : Int) : ∀ m, m ≤ l.length → 0 ≤ grTo l k m ∧ grTo l k m ≤ 1099511627776
  | 0, _ => by simp [grTo]
  | m + 1, hm => by
    have ih := grTo_range hr k m (by omega)
    have := rightH_iff.1 (hr _ (getD_mem (show m < l.length by omega)))
    rw [grTo]
    split <;> omega
theorem grTo_over {l : List Ho} {k : Int} : ∀ {m : Nat}, m ≤ l.length → ∀ j, j < m → (l.getD j z5).r = k → (l.getD j z5).n ≤ grTo l k m
  | 0, _, j, hj, _ => by omega
  | m + 1, hm, j, hj, he => by
    rw [grTo]
    rcases Nat.lt_or_ge j m with h | h
    · have := grTo_over (m := m) (by omega) j h he
      split <;> omega
    · have e : j = m := by omega
      subst e
      rw [if_pos (by simpa using he)]
      omega
theorem gr_over {l : List Ho} {k : Int} {h : Ho} (hh : h ∈ l) (he : h.r = k) : h.n ≤ gr l k := by
  obtain ⟨i, hi, rfl⟩ := mem_getD hh
  exact grTo_over (Nat.le_refl _) i hi he
def newH (l : List Ho) (k a d : Int) : Ho := ⟨k, gr l k + 1, a, d, 1⟩
def resE (l : List Ho) (k a d : Int) : Int := if rightsL l && rightH (newH l k a d) then (if l.length = 16 then 7 else 0) else 1
def resN (l : List Ho) (k a d : Int) : Int := if resE l k a d = 0 then gr l k + 1 else 0
def resL (l : List Ho) (k a d : Int) : List Ho := if resE l k a d = 0 then insH l (newH l k a d) else []
theorem new_apart {l : List Ho} {k a d : Int} : ∀ x ∈ l, ¬ SN x (newH l k a d) := by
  intro x hx hs
  have h1 : x.r = k := hs.1
  have h2 : x.n = gr l k + 1 := hs.2
  have := gr_over hx h1
  omega
/-- Behind them all, and then in order, is in its place. -/
theorem isort_new {l : List Ho} {h : Ho} (hl : l.Pairwise AH) (hn : ∀ x ∈ l, ¬ SN x h) : Apart (l ++ [h]) ∧ isort (l ++ [h]) = insH l h := by
  have ha : Apart (l ++ [h]) := by
    unfold Apart
    rw [List.pairwise_append]
    refine ⟨Apart.of_rises hl, by simp, fun x hx y hy => ?_⟩
    rw [List.mem_singleton] at hy
    subst hy
    exact hn x hx
  refine ⟨ha, isort_eq ha (insH_rises hl hn) fun x => ?_⟩
  rw [mem_insH, List.mem_append, List.mem_singleton]
  exact Or.comm
theorem right_new {l : List Ho} (hr : rightsL l = true) (k a d : Int) : rightH (newH l k a d) = (repBH k && (cntBH a && (cntBH d && isB (gr l k + 1)))) := by
  have h := grTo_range (rights_iff.1 hr).2.1 k l.length (Nat.le_refl _)
  have h' : 0 ≤ gr l k ∧ gr l k ≤ 1099511627776 := h
  rw [Bool.eq_iff_iff, rightH_iff]
  simp only [Bool.and_eq_true, repB_iffH, cntB_iffH, isB_iff, newH]
  omega

/-! ### Ending. -/
def setS (h : Ho) (z : Int) : Ho := ⟨h.r, h.n, h.a, h.d, z⟩
/-! ### Letting go. -/
def overBH (k now : Int) (h : Ho) : Bool := h.r == k && (h.s == 1 && decide (h.d < now))
def goes (k now : Int) (h : Ho) : Ho := if overBH k now h then setS h 3 else h
end Go.Proofs.Ytofngihdnjgmeaa
