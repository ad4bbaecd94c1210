/- Plain facts of what a plan makes.; What is applied, and copied, as slices that are read; the field of a name. -/
import Derived.Test.YtgblnlpfgdbnnaaGreatZ02
import Derived.Test.YtgblnlpfgdbnnaaGreatZ39
namespace Go.Proofs.YtgblnlpfgdbnnaaGreat
set_option maxRecDepth 100000
open Go.ChangeShapes Go.WideShapes Go.ChangeAt Go.RowKit

/-! ### Sums. -/
theorem foldl_v (f : Sp → Int) (hf : ∀ a b, f (addS a b) = f a + f b) : ∀ (l : List Sp) (s : Sp), f (l.foldl addS s) = f s + (l.map f).sum
  | [], s => by simp
  | x :: l, s => by rw [List.foldl_cons, foldl_v f hf l, hf, List.map_cons, List.sum_cons]; omega
theorem sumS_f (f : Sp → Int) (hf : ∀ a b, f (addS a b) = f a + f b) (h0 : f ⟨0, 0, 0⟩ = 0) (l : List Sp) : f (sumS l) = (l.map f).sum := by
  rw [sumS, foldl_v f hf, h0]; omega
theorem sumS_v (ps : List Pf) : (sumS (ps.map spanP)).v = (ps.map vN).sum := by
  rw [sumS_f (fun s => s.v) (fun _ _ => rfl) rfl, List.map_map]; rfl
/-! ### Epochs. -/
/-! ### What is applied. -/
/-! ### Whom a plan is about. -/
theorem find_in {ps : List Pf} {s : ByteArray} (h : isP ps s = true) (ho : ps.Pairwise fun a b => ltS a.nm b.nm = true) {x : Pf} (hx : x ∈ ps) (hn : x.nm = s) : ps[findP ps s]? = some x := by
  obtain ⟨y, hy, e, _⟩ := isP_at h
  rw [hy, nm_inj ho (List.mem_of_getElem? hy) hx ((eqS_iff.1 e).trans hn.symm)]
theorem about_one {ps : List Pf} {p : Pl} (h : Fit ps p) (hk : p.k ≠ 6) {x : Pf} (hx : x ∈ ps) (hn : x.nm = p.nm) : aboutP ps p = [x] := by
  obtain ⟨_, _, hord⟩ := fields_is h.fs
  refine sorted_one (hord.filter _) (List.pairwise_singleton _ _) fun z => ?_
  rw [List.mem_singleton]
  constructor
  · intro hz
    obtain ⟨h1, h2⟩ := about_sub hz
    simp only [touchB, Bool.or_eq_true, Bool.and_eq_true, Bool.not_eq_true'] at h2
    rcases h2 with h2 | ⟨h3, h2⟩
    · exact nm_inj hord h1 hx ((eqS_iff.1 h2).trans hn.symm)
    · rcases rule_ot (plan_parts h.pl).2.2.2.2 with ⟨_, h4⟩ | ⟨h4, _⟩
      · rw [h4] at h3; cases h3
      · have := (place_is h.at_).2.2 (by omega)
        rw [isP_iff.2 ⟨z, h1, eqS_iff.1 h2⟩] at this
        cases this.1
  · rintro rfl
    rw [aboutP, List.mem_filter]
    exact ⟨hx, by rw [touchB, hn, eqS_self]; rfl⟩

theorem pfs_get {qs : List Q} {i : Nat} {p : Pf} (h : (pfs qs)[i]? = some p) : ∃ x, qs[i]? = some x ∧ x.1 = p := by simpa using h

end Go.Proofs.YtgblnlpfgdbnnaaGreat
