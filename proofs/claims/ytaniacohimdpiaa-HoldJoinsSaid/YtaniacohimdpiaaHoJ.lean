/- Plain arithmetic of layer 6, on: what joining tells. No program is spoken of here. -/
import Derived.Test.YtaniacohimdpiaaHoB
namespace Go.Proofs.Ytaniacohimdpiaa

/-- What one knows, with what others know of it. -/
def upd (c : List Ho) (x : Ho) : Ho := match fnd c x.r x.n with
  | some y => setS x (max x.s y.s)
  | none => x
/-- Each of a, with what c knows of it, and then all of c that a has not. -/
def jraw (a c : List Ho) : List Ho := a.map (upd c) ++ c.filter fun y => (fnd a y.r y.n).isNone
/-- a has one of its name, of another amount or time. -/
def clB (a : List Ho) (y : Ho) : Bool := match fnd a y.r y.n with
  | some x => (x.a != y.a) || (x.d != y.d)
  | none => false
def joinE (a b : List Ho) : Int := if rightsL a && rightsL b then (if b.any (clB a) then 1 else if 16 < (jraw a b).length then 7 else 0) else 1
def joinL (a b : List Ho) : List Ho := if joinE a b = 0 then isort (jraw a b) else []

theorem upd_nil (x : Ho) : upd [] x = x := rfl
theorem jraw_nil (a : List Ho) : jraw a [] = a := by
  unfold jraw
  rw [show upd [] = id from rfl]; simp
theorem upd_name (c : List Ho) (x : Ho) : (upd c x).r = x.r ∧ (upd c x).n = x.n ∧ (upd c x).a = x.a ∧ (upd c x).d = x.d := by
  unfold upd setS
  split <;> simp
theorem upd_none {c : List Ho} {x : Ho} (h : fnd c x.r x.n = none) : upd c x = x := by unfold upd; rw [h]
theorem upd_some {c : List Ho} {x y : Ho} (h : fnd c x.r x.n = some y) : upd c x = setS x (max x.s y.s) := by unfold upd; rw [h]
theorem fnd_append (c d : List Ho) (k n : Int) : fnd (c ++ d) k n = (fnd c k n).or (fnd d k n) := by
  unfold fnd
  rw [List.find?_append]
theorem fnd_one (h : Ho) (k n : Int) : fnd [h] k n = if nm k n h then some h else none := by
  unfold fnd
  cases hn : nm k n h <;> simp [hn]
theorem nm_SN {x y : Ho} : nm x.r x.n y = true ↔ SN y x := by rw [nm_iff]; rfl
theorem fnd_none_iff {c : List Ho} {x : Ho} : fnd c x.r x.n = none ↔ ∀ y ∈ c, ¬ SN y x := by
  constructor
  · intro h y hy hs
    exact fnd_none h hy hs
  · intro h
    rw [fnd, List.find?_eq_none]
    intro y hy e
    exact h y hy (nm_SN.1 e)
/-- One that a has not. -/
theorem jraw_new {a c : List Ho} {h : Ho} (hn : fnd a h.r h.n = none) : jraw a (c ++ [h]) = jraw a c ++ [h] := by
  unfold jraw
  have hu : a.map (upd (c ++ [h])) = a.map (upd c) := by
    apply List.map_congr_left
    intro x hx
    have hx' : nm x.r x.n h = false := by
      rw [← Bool.not_eq_true, nm_SN]
      exact fun hs => fnd_none_iff.1 hn x hx hs.symm
    unfold upd
    rw [fnd_append, fnd_one, hx']
    simp
  rw [hu, List.filter_append, List.append_assoc]
  simp [hn]
/-- One that a has. -/
theorem jraw_hit {a c : List Ho} {h : Ho} {i : Nat} (ha : a.Pairwise AH) (hi : i < a.length) (hx : SN (a.getD i z5) h) (hc : ∀ y ∈ c, ¬ SN y h) :
    jraw a (c ++ [h]) = (jraw a c).set i (setS (a.getD i z5) (max (a.getD i z5).s h.s)) ∧ (jraw a c).getD i z5 = a.getD i z5 := by
  have hfa : (fnd a h.r h.n).isNone = false := by
    cases hf : fnd a h.r h.n with
    | none => exact absurd hx (fnd_none_iff.1 hf _ (getD_mem hi))
    | some y => rfl
  have hfc : fnd c (a.getD i z5).r (a.getD i z5).n = none := by
    rw [hx.1, hx.2]
    exact fnd_none_iff.2 hc
  have hl : i < (a.map (upd c)).length := by simpa using hi
  refine ⟨?_, ?_⟩
  · unfold jraw
    rw [List.filter_append]
    have hf1 : [h].filter (fun y => (fnd a y.r y.n).isNone) = [] := by simp [hfa]
    rw [hf1, List.append_nil, List.set_append_left _ _ hl]
    congr 1
    apply List.ext_getElem
    · simp
    · intro j h1 h2
      simp only [List.length_map] at h1
      rw [List.getElem_map, List.getElem_set]
      by_cases hij : i = j
      · subst hij
        rw [if_pos rfl, ← getD_get h1]
        apply upd_some
        rw [fnd_append, hfc, fnd_one, if_pos (nm_SN.2 hx.symm)]
        rfl
      · rw [if_neg hij, List.getElem_map]
        have hns : ¬ SN a[j] h := by
          intro hs
          have h3 := (Apart.of_rises ha).one (List.getElem_mem h1) (getD_mem hi) (hs.trans hx.symm)
          rw [getD_get hi] at h3
          rcases Nat.lt_trichotomy i j with h4 | h4 | h4
          · have := List.pairwise_iff_getElem.1 ha i j hi h1 h4
            rw [h3] at this
            exact AH.irrefl _ this
          · exact hij h4
          · have := List.pairwise_iff_getElem.1 ha j i h1 hi h4
            rw [h3] at this
            exact AH.irrefl _ this
        have hx' : nm a[j].r a[j].n h = false := by
          rw [← Bool.not_eq_true, nm_SN]
          exact fun hs => hns hs.symm
        unfold upd
        rw [fnd_append, fnd_one, hx']
        simp
  · unfold jraw
    rw [getD_get (by simp; omega), List.getElem_append_left (by simpa using hi), List.getElem_map, ← getD_get hi]
    exact upd_none hfc
theorem jraw_length (a c : List Ho) : a.length ≤ (jraw a c).length ∧ (jraw a c).length ≤ a.length + c.length := by
  unfold jraw
  have := List.length_filter_le (fun y => (fnd a y.r y.n).isNone) c
  rw [List.length_append, List.length_map]
  omega
/-- Who is in the join. -/
theorem mem_jraw {a c : List Ho} {z : Ho} : z ∈ jraw a c ↔ (∃ x ∈ a, upd c x = z) ∨ (z ∈ c ∧ ∀ x ∈ a, ¬ SN x z) := by
  unfold jraw
  rw [List.mem_append, List.mem_map, List.mem_filter, Option.isNone_iff_eq_none, fnd_none_iff]
theorem jraw_apart {a c : List Ho} (ha : Apart a) (hc : Apart c) : Apart (jraw a c) := by
  unfold jraw
  unfold Apart at *
  rw [List.pairwise_append]
  refine ⟨?_, hc.sublist List.filter_sublist, ?_⟩
  · rw [List.pairwise_map]
    refine ha.imp fun {x y} h hs => h ?_
    obtain ⟨h1, h2⟩ := hs
    rw [(upd_name c x).1, (upd_name c y).1] at h1
    rw [(upd_name c x).2.1, (upd_name c y).2.1] at h2
    exact ⟨h1, h2⟩
  · intro x hx y hy hs
    obtain ⟨x0, hx0, rfl⟩ := List.mem_map.1 hx
    rw [List.mem_filter, Option.isNone_iff_eq_none, fnd_none_iff] at hy
    obtain ⟨h1, h2⟩ := hs
    rw [(upd_name c x0).1] at h1
    rw [(upd_name c x0).2.1] at h2
    exact hy.2 x0 hx0 ⟨h1, h2⟩
/-- In its place in a list that is in order. -/
theorem set_perm_cons {l : List Ho} {i : Nat} (hi : i < l.length) (y : Ho) : (l.set i y).Perm (y :: l.eraseIdx i) := by
  rw [List.set_eq_take_append_cons_drop, if_pos hi, List.eraseIdx_eq_take_drop_succ]
  exact List.perm_middle
theorem perm_cons_erase {l : List Ho} {i : Nat} (hi : i < l.length) : l.Perm (l.getD i z5 :: l.eraseIdx i) := by
  have := set_perm_cons hi (l.getD i z5)
  rw [getD_get hi, List.set_getElem_self] at this
  rw [getD_get hi]
  exact this
theorem set_perm {l m : List Ho} (h : l.Perm m) {i j : Nat} (hi : i < l.length) (hj : j < m.length) (he : l.getD i z5 = m.getD j z5) (y : Ho) : (l.set i y).Perm (m.set j y) := by
  have h1 := ((perm_cons_erase hi).symm.trans h).trans (perm_cons_erase hj)
  rw [he] at h1
  exact (set_perm_cons hi y).trans (((List.perm_cons _).1 h1 |>.cons y).trans (set_perm_cons hj y).symm)
theorem set_rises {l : List Ho} {i : Nat} (hl : l.Pairwise AH) (hi : i < l.length) {y : Ho} (hy : SN y (l.getD i z5)) : (l.set i y).Pairwise AH := by
  have hn : ∀ j (hj : j < l.length), ((l.set i y)[j]'(by simpa using hj)).r = l[j].r ∧ ((l.set i y)[j]'(by simpa using hj)).n = l[j].n := fun j hj => by
    rw [List.getElem_set]
    split
    · rename_i e; subst e
      rw [getD_get hi] at hy
      exact hy
    · exact ⟨rfl, rfl⟩
  rw [List.pairwise_iff_getElem] at *
  intro p q hp hq hpq
  simp only [List.length_set] at hp hq
  have := hl p q hp hq hpq
  unfold AH at *
  rw [(hn p hp).1, (hn p hp).2, (hn q hq).1, (hn q hq).2]
  exact this
/-- The document's own way: one that is not there goes to its place. -/
theorem isort_insert {L : List Ho} {h : Ho} (hL : Apart L) (hn : ∀ x ∈ L, ¬ SN x h) : insH (isort L) h = isort (L ++ [h]) := by
  have ha : Apart (L ++ [h]) := by
    unfold Apart
    rw [List.pairwise_append]
    refine ⟨hL, by simp, fun x hx y hy => ?_⟩
    rw [List.mem_singleton] at hy
    subst hy
    exact hn x hx
  refine (isort_eq ha (insH_rises (isort_rises hL) fun x hx => hn x ((isort_perm L).mem_iff.1 hx)) fun x => ?_).symm
  rw [mem_insH, (isort_perm L).mem_iff, List.mem_append, List.mem_singleton]
  exact Or.comm
/-- One that is there is changed where it is. -/
theorem isort_set {L : List Ho} {i j : Nat} {y : Ho} (hL : Apart L) (hi : i < (isort L).length) (hj : j < L.length) (he : (isort L).getD i z5 = L.getD j z5) (hy : SN y (L.getD j z5)) : (isort L).set i y = isort (L.set j y) := by
  have hp := set_perm (isort_perm L) hi hj he y
  have hr := set_rises (isort_rises hL) hi (y := y) (by rw [he]; exact hy)
  have ha : Apart (L.set j y) := hp.pairwise (Apart.of_rises hr) (fun {a b} h hs => h hs.symm)
  exact (isort_eq ha hr fun x => hp.mem_iff.symm).symm
end Go.Proofs.Ytaniacohimdpiaa
