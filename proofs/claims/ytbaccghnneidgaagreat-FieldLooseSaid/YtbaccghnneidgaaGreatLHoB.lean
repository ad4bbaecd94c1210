/- Plain arithmetic of layer 6, on: what finding, adding up, reserving, ending and letting go tell. No program is spoken of here. -/
import Derived.Test.YtbaccghnneidgaaGreatLHoo
namespace Go.Proofs.YtbaccghnneidgaaGreat

/-! ### Finding. -/
def nm (k n : Int) (h : Ho) : Bool := h.r == k && h.n == n
theorem nm_iff {k n : Int} {h : Ho} : nm k n h = true ↔ (h.r = k ∧ h.n = n) := by simp [nm]
theorem nm_not {k n : Int} {h : Ho} : nm k n h = false ↔ ¬ (h.r = k ∧ h.n = n) := by rw [← Bool.not_eq_true, nm_iff]
def plc (l : List Ho) (k n : Int) : Int := if l.findIdx (nm k n) < l.length then (l.findIdx (nm k n) : Int) else -1
theorem plc_hit {l : List Ho} {k n : Int} {m : Nat} (hm : m < l.length) (h1 : ∀ j, j < m → nm k n (l.getD j z5) = false) (h2 : nm k n (l.getD m z5) = true) : plc l k n = m := by
  have e : l.findIdx (nm k n) = m := by
    rw [List.findIdx_eq hm]
    refine ⟨by rw [← getD_get hm]; exact h2, fun j hj => ?_⟩
    rw [← getD_get (by omega)]; exact h1 j hj
  rw [plc, e, if_pos hm]
theorem plc_miss {l : List Ho} {k n : Int} (h : ∀ j, j < l.length → nm k n (l.getD j z5) = false) : plc l k n = -1 := by
  have e : l.findIdx (nm k n) = l.length := by
    rw [List.findIdx_eq_length]
    intro x hx
    obtain ⟨i, hi, rfl⟩ := mem_getD hx
    exact h i hi
  rw [plc, e, if_neg (by omega)]
theorem plc_cases (l : List Ho) (k n : Int) : (plc l k n = -1 ∧ ∀ j, j < l.length → nm k n (l.getD j z5) = false) ∨ (∃ m : Nat, m < l.length ∧ plc l k n = m ∧ nm k n (l.getD m z5) = true ∧ ∀ j, j < m → nm k n (l.getD j z5) = false) := by
  by_cases h : l.findIdx (nm k n) < l.length
  · refine .inr ⟨l.findIdx (nm k n), h, by rw [plc, if_pos h], ?_, fun j hj => ?_⟩
    · rw [getD_get h]; exact List.findIdx_getElem (w := h)
    · rw [getD_get (by omega)]
      simpa using List.not_of_lt_findIdx hj
  · refine .inl ⟨by rw [plc, if_neg h], fun j hj => ?_⟩
    have e : l.findIdx (nm k n) = l.length := by have := List.findIdx_le_length (p := nm k n) (xs := l); omega
    rw [List.findIdx_eq_length] at e
    exact e _ (getD_mem hj)
def fnd (l : List Ho) (k n : Int) : Option Ho := l.find? (nm k n)
theorem fnd_hit {l : List Ho} {k n : Int} {m : Nat} (hm : m < l.length) (h1 : ∀ j, j < m → nm k n (l.getD j z5) = false) (h2 : nm k n (l.getD m z5) = true) : fnd l k n = some (l.getD m z5) := by
  rw [fnd, List.find?_eq_some_iff_getElem]
  refine ⟨h2, m, hm, (getD_get hm).symm, fun j hj => ?_⟩
  rw [← getD_get (by omega), h1 j hj]
  rfl
theorem fnd_miss {l : List Ho} {k n : Int} (h : ∀ j, j < l.length → nm k n (l.getD j z5) = false) : fnd l k n = none := by
  rw [fnd, List.find?_eq_none]
  intro x hx
  obtain ⟨i, hi, rfl⟩ := mem_getD hx
  rw [h i hi]; decide
theorem take_succ_getD {l : List Ho} {m : Nat} (hm : m < l.length) : l.take (m + 1) = l.take m ++ [l.getD m z5] := by
  rw [List.take_succ_eq_append_getElem hm, getD_get hm]
/-- In holds that rise there is one of each name. -/
theorem fnd_mem {l : List Ho} {x : Ho} (hl : l.Pairwise AH) (hx : x ∈ l) : fnd l x.r x.n = some x := by
  cases h : fnd l x.r x.n with
  | none =>
    rw [fnd, List.find?_eq_none] at h
    exact absurd (nm_iff.2 ⟨rfl, rfl⟩) (h x hx)
  | some y =>
    have h1 := List.find?_some h
    rw [nm_iff] at h1
    rw [(Apart.of_rises hl).one (List.mem_of_find?_eq_some h) hx ⟨h1.1, h1.2⟩]
theorem fnd_name {l : List Ho} {k n : Int} {y : Ho} (h : fnd l k n = some y) : y ∈ l ∧ y.r = k ∧ y.n = n :=
  ⟨List.mem_of_find?_eq_some h, nm_iff.1 (List.find?_some h)⟩
theorem fnd_none {l : List Ho} {k n : Int} (h : fnd l k n = none) {x : Ho} (hx : x ∈ l) : ¬ (x.r = k ∧ x.n = n) := by
  rw [fnd, List.find?_eq_none] at h
  exact fun e => h x hx (nm_iff.2 e)

/-! ### What a replica holds. -/
def holdsB (k : Int) (h : Ho) : Bool := h.r == k && h.s == 1
def sumTo (l : List Ho) (k : Int) : Nat → Int
  | 0 => 0
  | m + 1 => if holdsB k (l.getD m z5) then min (sumTo l k m + (l.getD m z5).a) 1099511627776 else sumTo l k m
def sumL (l : List Ho) (k : Int) : Int := sumTo l k l.length
theorem sumTo_range {l : List Ho} (hr : ∀ h ∈ l, rightH h = true) (k : Int) : ∀ m, m ≤ l.length → 0 ≤ sumTo l k m ∧ sumTo l k m ≤ 1099511627776
  | 0, _ => by simp [sumTo]
  | m + 1, hm => by
    have ih := sumTo_range hr k m (by omega)
    have := rightH_iff.1 (hr _ (getD_mem (show m < l.length by omega)))
    rw [sumTo]
    split <;> omega
/-- What each holds, with no bound. -/
def parts (k : Int) (l : List Ho) : List Int := l.map fun h => if holdsB k h then h.a else 0
theorem sumTo_tot {l : List Ho} (hr : ∀ h ∈ l, rightH h = true) (k : Int) : ∀ m, m ≤ l.length → sumTo l k m = min (tot (parts k (l.take m))) 1099511627776
  | 0, _ => by simp only [sumTo, parts, tot, List.take_zero, List.map_nil]; omega
  | m + 1, hm => by
    have ih := sumTo_tot hr k m (by omega)
    have hr' := rightH_iff.1 (hr _ (getD_mem (show m < l.length by omega)))
    have h0 : 0 ≤ tot (parts k (l.take m)) := tot_nonneg (by
      intro z hz
      obtain ⟨h, hh, rfl⟩ := List.mem_map.1 hz
      have := rightH_iff.1 (hr h (List.mem_of_mem_take hh))
      split <;> omega)
    rw [sumTo, take_succ_getD (by omega), parts, List.map_append, tot_append, ih]
    show _ = min (tot (parts k (l.take m)) + tot [if holdsB k (l.getD m z5) then (l.getD m z5).a else 0]) _
    simp only [tot]
    split <;> omega
theorem sumL_tot {l : List Ho} (hr : ∀ h ∈ l, rightH h = true) (k : Int) : sumL l k = min (tot (parts k l)) 1099511627776 := by
  rw [sumL, sumTo_tot hr k _ (Nat.le_refl _), List.take_length]
theorem tot_perm {xs ys : List Int} (h : xs.Perm ys) : tot xs = tot ys := by
  induction h with
  | nil => rfl
  | cons x _ ih => simp only [tot, ih]
  | swap x y l => simp only [tot]; omega
  | trans _ _ ih1 ih2 => rw [ih1, ih2]
theorem parts_perm {l m : List Ho} (h : l.Perm m) (k : Int) : tot (parts k l) = tot (parts k m) := tot_perm (h.map _)
theorem tot_small {xs : List Int} (B : Int) (_hB : 0 ≤ B) (h : ∀ z ∈ xs, z ≤ B) : tot xs ≤ xs.length * B := by
  induction xs with
  | nil => simp [tot]
  | cons x r ih =>
    have h1 := h x (by simp)
    have h2 := ih (fun z hz => h z (by simp [hz]))
    have e : ((x :: r).length : Int) * B = (r.length : Int) * B + B := by rw [List.length_cons, Int.natCast_add, Int.add_mul]; simp
    rw [e, tot]; omega

/-! ### Reserving. -/
def grTo (l : List Ho) (k : Int) : Nat → Int
  | 0 => 0
  | m + 1 => if (l.getD m z5).r == k then max (grTo l k m) (l.getD m z5).n else grTo l k m
def gr (l : List Ho) (k : Int) : Int := grTo l k l.length
theorem grTo_range {l : List Ho} (hr : ∀ h ∈ l, rightH h = true) (k : Int) : ∀ m, m ≤ l.length → 0 ≤ grTo l k m ∧ grTo l k m ≤ 1099511627776
  | 0, _ => by simp [grTo]
  | m + 1, hm => by
    have ih := grTo_range hr k m (by omega)
    have := rightH_iff.1 (hr _ (getD_mem (show m < l.length by omega)))
    rw [grTo]
    split <;> omega
theorem grTo_over {l : List Ho} {k : Int} : ∀ {m : Nat}, m ≤ l.length → ∀ j, j < m → (l.getD j z5).r = k → (l.getD j z5).n ≤ grTo l k m
  | 0, _, j, hj, _ => by omega
  | m + 1, hm, j, hj, he => by
    rw [grTo]
    rcases Nat.lt_or_ge j m with h | h
    · have := grTo_over (m := m) (by omega) j h he
      split <;> omega
    · have e : j = m := by omega
      subst e
      rw [if_pos (by simpa using he)]
      omega
theorem gr_over {l : List Ho} {k : Int} {h : Ho} (hh : h ∈ l) (he : h.r = k) : h.n ≤ gr l k := by
  obtain ⟨i, hi, rfl⟩ := mem_getD hh
  exact grTo_over (Nat.le_refl _) i hi he
def newH (l : List Ho) (k a d : Int) : Ho := ⟨k, gr l k + 1, a, d, 1⟩
def resE (l : List Ho) (k a d : Int) : Int := if rightsL l && rightH (newH l k a d) then (if l.length = 16 then 7 else 0) else 1
def resN (l : List Ho) (k a d : Int) : Int := if resE l k a d = 0 then gr l k + 1 else 0
def resL (l : List Ho) (k a d : Int) : List Ho := if resE l k a d = 0 then insH l (newH l k a d) else []
theorem new_apart {l : List Ho} {k a d : Int} : ∀ x ∈ l, ¬ SN x (newH l k a d) := by
  intro x hx hs
  have h1 : x.r = k := hs.1
  have h2 : x.n = gr l k + 1 := hs.2
  have := gr_over hx h1
  omega
/-- Behind them all, and then in order, is in its place. -/
theorem isort_new {l : List Ho} {h : Ho} (hl : l.Pairwise AH) (hn : ∀ x ∈ l, ¬ SN x h) : Apart (l ++ [h]) ∧ isort (l ++ [h]) = insH l h := by
  have ha : Apart (l ++ [h]) := by
    unfold Apart
    rw [List.pairwise_append]
    refine ⟨Apart.of_rises hl, by simp, fun x hx y hy => ?_⟩
    rw [List.mem_singleton] at hy
    subst hy
    exact hn x hx
  refine ⟨ha, isort_eq ha (insH_rises hl hn) fun x => ?_⟩
  rw [mem_insH, List.mem_append, List.mem_singleton]
  exact Or.comm
theorem right_new {l : List Ho} (hr : rightsL l = true) (k a d : Int) : rightH (newH l k a d) = (repBH k && (cntBH a && (cntBH d && isB (gr l k + 1)))) := by
  have h := grTo_range (rights_iff.1 hr).2.1 k l.length (Nat.le_refl _)
  have h' : 0 ≤ gr l k ∧ gr l k ≤ 1099511627776 := h
  rw [Bool.eq_iff_iff, rightH_iff]
  simp only [Bool.and_eq_true, repB_iffH, cntB_iffH, isB_iff, newH]
  omega

/-! ### Ending. -/
def setS (h : Ho) (z : Int) : Ho := ⟨h.r, h.n, h.a, h.d, z⟩
def endE (l : List Ho) (k n st : Int) : Int := if rightsL l && (decide (st = 2) || decide (st = 3)) then (match fnd l k n with | none => 10 | some h => if h.s = 1 then 0 else 12) else 1
def endA (l : List Ho) (k n st : Int) : Int := if endE l k n st = 0 then ((fnd l k n).getD z5).a else 0
def endL (l : List Ho) (k n st : Int) : List Ho := if endE l k n st = 0 then l.set (l.findIdx (nm k n)) (setS ((fnd l k n).getD z5) st) else []

/-! ### Letting go. -/
def overBH (k now : Int) (h : Ho) : Bool := h.r == k && (h.s == 1 && decide (h.d < now))
def goes (k now : Int) (h : Ho) : Ho := if overBH k now h then setS h 3 else h
def expL (l : List Ho) (k now : Int) : List Ho := if rightsL l then l.map (goes k now) else l
def cntTo (l : List Ho) (k now : Int) : Nat → Int
  | 0 => 0
  | m + 1 => if overBH k now (l.getD m z5) then cntTo l k now m + 1 else cntTo l k now m
def expN (l : List Ho) (k now : Int) : Int := if rightsL l then cntTo l k now l.length else 0
theorem cntTo_range (l : List Ho) (k now : Int) : ∀ m : Nat, 0 ≤ cntTo l k now m ∧ cntTo l k now m ≤ m
  | 0 => by simp [cntTo]
  | m + 1 => by
    have := cntTo_range l k now m
    rw [cntTo]
    split <;> omega
/-- The first m are let go. -/
def expTo (l : List Ho) (k now : Int) (m : Nat) : List Ho := (l.take m).map (goes k now) ++ l.drop m
theorem expTo_length (l : List Ho) (k now : Int) (m : Nat) : (expTo l k now m).length = l.length := by simp [expTo]; omega
theorem expTo_zero (l : List Ho) (k now : Int) : expTo l k now 0 = l := by simp [expTo]
theorem expTo_all (l : List Ho) (k now : Int) : expTo l k now l.length = l.map (goes k now) := by simp [expTo]
theorem expTo_get {l : List Ho} {k now : Int} {m : Nat} (hm : m < l.length) : (expTo l k now m).getD m z5 = l.getD m z5 := by
  simp [expTo, List.getD, List.getElem?_append, Nat.min_eq_left (Nat.le_of_lt hm), List.getElem?_drop]
theorem drop_getD {l : List Ho} {m : Nat} (hm : m < l.length) : l.drop m = l.getD m z5 :: l.drop (m + 1) := by
  rw [List.drop_eq_getElem_cons hm, getD_get hm]
theorem expTo_step {l : List Ho} {k now : Int} {m : Nat} (hm : m < l.length) : expTo l k now (m + 1) = (expTo l k now m).set m (goes k now (l.getD m z5)) := by
  have hl : ((l.take m).map (goes k now)).length = m := by simp; omega
  rw [expTo, expTo, take_succ_getD hm, drop_getD hm, List.set_append_right _ _ (by omega), hl, Nat.sub_self]
  simp
theorem expTo_yes {l : List Ho} {k now : Int} {m : Nat} (hm : m < l.length) (h : overBH k now (l.getD m z5) = true) : expTo l k now (m + 1) = (expTo l k now m).set m (setS (l.getD m z5) 3) := by
  rw [expTo_step hm, goes, if_pos h]
theorem expTo_no {l : List Ho} {k now : Int} {m : Nat} (hm : m < l.length) (h : overBH k now (l.getD m z5) = false) : expTo l k now (m + 1) = expTo l k now m := by
  rw [expTo_step hm, goes, if_neg (by rw [h]; decide), ← expTo_get (k := k) (now := now) hm, getD_get (by rw [expTo_length]; exact hm), List.set_getElem_self]
theorem goes_name (k now : Int) (h : Ho) : (goes k now h).r = h.r ∧ (goes k now h).n = h.n ∧ (goes k now h).a = h.a ∧ (goes k now h).d = h.d := by
  unfold goes setS; split <;> simp
end Go.Proofs.YtbaccghnneidgaaGreat
