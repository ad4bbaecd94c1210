/- Plain arithmetic of layer 6 (hold): which holds may be, and what finding, adding up, reserving, ending, letting go and joining tell. No program is spoken of here. -/
import Derived.Test.YtgblnlpfgdbnnaaGreatZ01
namespace Go.Proofs.YtgblnlpfgdbnnaaGreat

/-! ### Which lists may be. -/
/-! ### Strictly rising lists. -/
theorem uniq : ∀ {l m : List Ho}, l.Pairwise AH → m.Pairwise AH → (∀ h, h ∈ l ↔ h ∈ m) → l = m
  | [], [], _, _, _ => rfl
  | [], y :: m, _, _, h => by have := (h y).2 (by simp); simp at this
  | x :: l, [], _, _, h => by have := (h x).1 (by simp); simp at this
  | x :: l, y :: m, hl, hm, h => by
    rw [List.pairwise_cons] at hl hm
    have hxy : x = y := by
      have h1 := (h x).1 (by simp)
      have h2 := (h y).2 (by simp)
      rcases List.mem_cons.1 h1 with e | h1
      · exact e
      · rcases List.mem_cons.1 h2 with e | h2
        · exact e.symm
        · exact absurd ((hl.1 y h2).trans (hm.1 x h1)) (AH.irrefl x)
    subst hxy
    congr 1
    refine uniq hl.2 hm.2 fun z => ⟨fun hz => ?_, fun hz => ?_⟩
    · rcases List.mem_cons.1 ((h z).1 (by simp [hz])) with e | h1
      · subst e; exact absurd (hl.1 z hz) (AH.irrefl z)
      · exact h1
    · rcases List.mem_cons.1 ((h z).2 (by simp [hz])) with e | h1
      · subst e; exact absurd (hm.1 z hz) (AH.irrefl z)
      · exact h1

end Go.Proofs.YtgblnlpfgdbnnaaGreat
