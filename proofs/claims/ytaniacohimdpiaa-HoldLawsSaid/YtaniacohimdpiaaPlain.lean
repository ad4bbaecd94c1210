/- Plain arithmetic of layer 1 (num): which numbers may be, and what a sum, a difference and a product tell. No program is spoken of here. -/
namespace Go.Proofs.Ytaniacohimdpiaa

def isB (n : Int) : Bool := decide (-1099511627776 ≤ n) && decide (n ≤ 1099511627776)

theorem isB_iff {n : Int} : isB n = true ↔ (-1099511627776 ≤ n ∧ n ≤ 1099511627776) := by simp [isB]
theorem isB_not {n : Int} : isB n = false ↔ (n < -1099511627776 ∨ 1099511627776 < n) := by
  rw [← Bool.not_eq_true, isB_iff]; omega

def okB (a b r : Int) : Bool := isB a && isB b && isB r
def addN (a b : Int) : Int := if okB a b (a + b) then a + b else 0
def addE (a b : Int) : Int := if okB a b (a + b) then 0 else 2
def subN (a b : Int) : Int := if okB a b (a - b) then a - b else 0
def subE (a b : Int) : Int := if okB a b (a - b) then 0 else 2
def mulN (a b : Int) : Int := if okB a b (a * b) then a * b else 0
def mulE (a b : Int) : Int := if okB a b (a * b) then 0 else 2

theorem okB_iff {a b r : Int} : okB a b r = true ↔ (isB a = true ∧ isB b = true ∧ isB r = true) := by
  simp [okB, and_assoc]
theorem okB_a {a b r : Int} (h : isB a = false) : okB a b r = false := by simp [okB, h]
theorem okB_b {a b r : Int} (h : isB b = false) : okB a b r = false := by simp [okB, h]
theorem okB_r {a b r : Int} (h : isB r = false) : okB a b r = false := by simp [okB, h]

theorem okB_comm (a b r : Int) : okB b a r = okB a b r := by simp only [okB, Bool.and_comm (isB b) (isB a)]
theorem addN_comm (a b : Int) : addN b a = addN a b := by rw [addN, addN, Int.add_comm b a, okB_comm]
theorem addE_comm (a b : Int) : addE b a = addE a b := by rw [addE, addE, Int.add_comm b a, okB_comm]
theorem mulN_comm (a b : Int) : mulN b a = mulN a b := by rw [mulN, mulN, Int.mul_comm b a, okB_comm]
theorem mulE_comm (a b : Int) : mulE b a = mulE a b := by rw [mulE, mulE, Int.mul_comm b a, okB_comm]

theorem isB_zero : isB 0 = true := by decide
theorem isB_addN (a b : Int) : isB (addN a b) = true := by
  unfold addN; split
  · rename_i h; exact (okB_iff.1 h).2.2
  · exact isB_zero
theorem isB_mulN (a b : Int) : isB (mulN a b) = true := by
  unfold mulN; split
  · rename_i h; exact (okB_iff.1 h).2.2
  · exact isB_zero

theorem addE_ok {a b : Int} (h : okB a b (a + b) = true) : addE a b = 0 ∧ addN a b = a + b := by simp [addE, addN, h]
theorem addE_no {a b : Int} (h : okB a b (a + b) = false) : addE a b = 2 ∧ addN a b = 0 := by simp [addE, addN, h]
theorem subE_ok {a b : Int} (h : okB a b (a - b) = true) : subE a b = 0 ∧ subN a b = a - b := by simp [subE, subN, h]
theorem subE_no {a b : Int} (h : okB a b (a - b) = false) : subE a b = 2 ∧ subN a b = 0 := by simp [subE, subN, h]
theorem mulE_ok {a b : Int} (h : okB a b (a * b) = true) : mulE a b = 0 ∧ mulN a b = a * b := by simp [mulE, mulN, h]
theorem mulE_no {a b : Int} (h : okB a b (a * b) = false) : mulE a b = 2 ∧ mulN a b = 0 := by simp [mulE, mulN, h]

/-- What is taken off is what was added. -/
theorem sub_back {a b : Int} (h : okB a b (a + b) = true) : subE (addN a b) b = 0 ∧ subN (addN a b) b = a := by
  obtain ⟨ha, hb, hr⟩ := okB_iff.1 h
  rw [(addE_ok h).2]
  have e : a + b - b = a := by omega
  have k : okB (a + b) b (a + b - b) = true := by rw [e]; exact okB_iff.2 ⟨hr, hb, ha⟩
  exact ⟨(subE_ok k).1, by rw [(subE_ok k).2, e]⟩

/-- The magnitude of a number. -/
def sz (n : Int) : Int := if n < 0 then -n else n
theorem sz_nat (n : Int) : sz n = n.natAbs := by unfold sz; split <;> omega
/-- The program's own test for a product that is too great. -/
def tgB (a b : Int) : Bool := b != 0 && decide (1099511627776 / sz b < sz a)

theorem isB_natAbs {n : Int} : isB n = true ↔ n.natAbs ≤ 1099511627776 := by rw [isB_iff]; omega

theorem tgB_iff (a b : Int) : tgB a b = !isB (a * b) := by
  rw [Bool.eq_iff_iff]
  simp only [tgB, sz_nat, Bool.and_eq_true, bne_iff_ne, ne_eq, decide_eq_true_eq, Bool.not_eq_true', ← Bool.not_eq_true, isB_natAbs, Int.natAbs_mul]
  have e : (1099511627776 : Int) / (b.natAbs : Int) = ((1099511627776 / b.natAbs : Nat) : Int) := by simp
  rw [e]
  constructor
  · rintro ⟨hb, h⟩
    have hb' : 0 < b.natAbs := by omega
    have h' : 1099511627776 / b.natAbs < a.natAbs := by exact_mod_cast h
    rw [Nat.div_lt_iff_lt_mul hb'] at h'
    omega
  · intro h
    have hb' : 0 < b.natAbs := by
      rcases Nat.eq_zero_or_pos b.natAbs with h0 | h0
      · rw [h0] at h; simp at h
      · exact h0
    refine ⟨by omega, ?_⟩
    have : 1099511627776 / b.natAbs < a.natAbs := by rw [Nat.div_lt_iff_lt_mul hb']; omega
    exact_mod_cast this

/-- A round of the document's own product by doubling. -/
theorem round_odd {N P Y r : Int} (h : N + P * Y = r) (ho : Y % 2 = 1) : (N + P) + (P + P) * (Y / 2) = r := by
  have e : Y = 2 * (Y / 2) + 1 := by omega
  generalize Y / 2 = k at *
  subst e; subst h
  rw [Int.mul_add, Int.add_mul, Int.mul_one, ← Int.mul_assoc, Int.mul_comm P 2, Int.mul_assoc]; omega
theorem round_even {N P Y r : Int} (h : N + P * Y = r) (ho : ¬ Y % 2 = 1) (h0 : 0 ≤ Y) : N + (P + P) * (Y / 2) = r := by
  have e : Y = 2 * (Y / 2) := by omega
  generalize Y / 2 = k at *
  subst e; subst h
  rw [Int.add_mul, ← Int.mul_assoc, Int.mul_comm P 2, Int.mul_assoc]; omega
theorem far_n {N P Y r : Int} (h : N + P * Y = r) (h0 : 0 ≤ Y) (hs : (0 ≤ N ∧ 0 ≤ P) ∨ (N ≤ 0 ∧ P ≤ 0)) (hn : isB N = false) : isB r = false := by
  rw [isB_not] at *
  rcases hs with ⟨h1, h2⟩ | ⟨h1, h2⟩
  · have := Int.mul_nonneg h2 h0; omega
  · have := Int.mul_nonneg (show 0 ≤ -P by omega) h0; rw [Int.neg_mul] at this; omega
theorem far_p {N P Y r : Int} (h : N + (P + P) * Y = r) (h0 : 0 < Y) (hs : (0 ≤ N ∧ 0 ≤ P) ∨ (N ≤ 0 ∧ P ≤ 0)) (hp : isB P = false) : isB r = false := by
  rw [isB_not] at *
  have e : (P + P) * Y = (P + P) * (Y - 1) + (P + P) := by rw [Int.mul_sub, Int.mul_one]; omega
  rw [e] at h
  rcases hs with ⟨h1, h2⟩ | ⟨h1, h2⟩
  · have := Int.mul_nonneg (show 0 ≤ P + P by omega) (show 0 ≤ Y - 1 by omega); omega
  · have := Int.mul_nonneg (show 0 ≤ -(P + P) by omega) (show 0 ≤ Y - 1 by omega); rw [Int.neg_mul] at this; omega

/-- Numbers, added to what there is, from the first on; none where one is too great. -/
def sumFrom (acc : Int) : List Int → Option Int
  | [] => some acc
  | n :: r => if okB acc n (acc + n) then sumFrom (acc + n) r else none
def sumN (l : List Int) : Int := (sumFrom 0 l).getD 0
def sumE (l : List Int) : Int := if (sumFrom 0 l).isSome then 0 else 2
theorem sumN_some {l : List Int} {s : Int} (h : sumFrom 0 l = some s) : sumN l = s ∧ sumE l = 0 := by simp [sumN, sumE, h]
theorem sumN_none {l : List Int} (h : sumFrom 0 l = none) : sumN l = 0 ∧ sumE l = 2 := by simp [sumN, sumE, h]
theorem drop_cons {l : List Int} {k : Nat} (h : k < l.length) : l.drop k = l.getD k 0 :: l.drop (k + 1) := by
  rw [List.drop_eq_getElem_cons h]; simp [List.getD, h]
theorem sumFrom_step {l : List Int} {k : Nat} {S : Int} (h : k < l.length) : sumFrom S (l.drop k) = if okB S (l.getD k 0) (S + l.getD k 0) then sumFrom (S + l.getD k 0) (l.drop (k + 1)) else none := by
  rw [drop_cons h, sumFrom]
theorem sumFrom_end {l : List Int} {k : Nat} {S : Int} (h : ¬ k < l.length) : sumFrom S (l.drop k) = some S := by
  rw [List.drop_of_length_le (by omega), sumFrom]

/-- All numbers of a list, added, whatever they come to. -/
def tot : List Int → Int
  | [] => 0
  | z :: r => z + tot r
theorem tot_append (xs ys : List Int) : tot (xs ++ ys) = tot xs + tot ys := by
  induction xs with
  | nil => simp [tot]
  | cons x r ih => simp only [List.cons_append, tot, ih]; omega
theorem tot_reverse (xs : List Int) : tot xs.reverse = tot xs := by
  induction xs with
  | nil => rfl
  | cons x r ih => rw [List.reverse_cons, tot_append, ih]; simp only [tot]; omega
theorem tot_parts (xs : List Int) (k : Nat) : tot (xs.take k) + tot (xs.drop k) = tot xs := by
  rw [← tot_append, List.take_append_drop]
theorem tot_nonneg {xs : List Int} (h : ∀ z ∈ xs, 0 ≤ z) : 0 ≤ tot xs := by
  induction xs with
  | nil => simp [tot]
  | cons x r ih =>
    have h1 := h x (by simp)
    have h2 := ih (fun z hz => h z (by simp [hz]))
    simp only [tot]; omega
theorem sumFrom_tot {xs : List Int} (h : ∀ z ∈ xs, 0 ≤ z) : ∀ acc : Int, 0 ≤ acc → acc ≤ 1099511627776 →
    sumFrom acc xs = if acc + tot xs ≤ 1099511627776 then some (acc + tot xs) else none := by
  induction xs with
  | nil => intro acc h0 h1; simp [sumFrom, tot, h1]
  | cons x r ih =>
    intro acc h0 h1
    have hx := h x (by simp)
    have hr : ∀ z ∈ r, 0 ≤ z := fun z hz => h z (by simp [hz])
    have ht := tot_nonneg hr
    have e : acc + tot (x :: r) = acc + x + tot r := by show acc + (x + tot r) = _; omega
    rw [e, sumFrom]
    by_cases hs : acc + x ≤ 1099511627776
    · have hok : okB acc x (acc + x) = true := okB_iff.2 ⟨isB_iff.2 (by omega), isB_iff.2 (by omega), isB_iff.2 (by omega)⟩
      rw [if_pos hok, ih hr (acc + x) (by omega) hs]
    · have hok : okB acc x (acc + x) = false := okB_r (isB_not.2 (by omega))
      rw [if_neg (by simp [hok]), if_neg (by omega)]
theorem sum_fits {xs : List Int} (h : ∀ z ∈ xs, 0 ≤ z) (ht : tot xs ≤ 1099511627776) : sumN xs = tot xs ∧ sumE xs = 0 := by
  have := sumFrom_tot h 0 (by omega) (by omega)
  rw [if_pos (by omega)] at this
  obtain ⟨h1, h2⟩ := sumN_some this
  exact ⟨by omega, h2⟩
theorem sum_over {xs : List Int} (h : ∀ z ∈ xs, 0 ≤ z) (ht : 1099511627776 < tot xs) : sumN xs = 0 ∧ sumE xs = 2 := by
  have := sumFrom_tot h 0 (by omega) (by omega)
  rw [if_neg (by omega)] at this
  exact sumN_none this
theorem take_snoc {xs : List Int} {k : Nat} (h : k < xs.length) : xs.take (k + 1) = xs.take k ++ [xs.getD k 0] := by
  rw [List.take_succ_eq_append_getElem h]; simp [List.getD, h]
theorem back_snoc {xs : List Int} {k : Nat} (h : k < xs.length) : (xs.take (k + 1)).reverse = [xs.getD k 0] ++ (xs.take k).reverse := by
  rw [take_snoc h]; simp
end Go.Proofs.Ytaniacohimdpiaa
