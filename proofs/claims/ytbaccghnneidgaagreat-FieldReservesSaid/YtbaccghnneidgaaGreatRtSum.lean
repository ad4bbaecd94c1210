/- Plain arithmetic of layer 3: what is free, and in all, of numbers that are not too great; what a change of one number does to it. No walk. -/
import Derived.Test.YtbaccghnneidgaaGreatBase0
import Derived.Test.YtbaccghnneidgaaGreatBase4
namespace Go.Proofs.YtbaccghnneidgaaGreat
set_option maxRecDepth 100000
open Go.ChangeShapes Go.WideShapes Go.ChangeAt Go.RowKit

def sumF (f : Nat → Int) : Nat → Int
  | 0 => 0
  | n + 1 => sumF f n + f n
theorem tot_map (f : Nat → Int) : ∀ n, tot ((List.range n).map f) = sumF f n
  | 0 => rfl
  | n + 1 => by rw [List.range_succ, List.map_append, tot_append, tot_map f n]; simp [tot, sumF]
theorem sumF_congr {f g : Nat → Int} : ∀ {n : Nat}, (∀ i, i < n → f i = g i) → sumF f n = sumF g n
  | 0, _ => rfl
  | n + 1, h => by rw [sumF, sumF, sumF_congr (fun i hi => h i (by omega)), h n (by omega)]
theorem sumF_le {f g : Nat → Int} : ∀ {n : Nat}, (∀ i, i < n → f i ≤ g i) → sumF f n ≤ sumF g n
  | 0, _ => by simp [sumF]
  | n + 1, h => by
    have h1 := sumF_le (n := n) (fun i hi => h i (by omega))
    have h2 := h n (by omega)
    simp only [sumF]; omega
theorem sumF_upd {f g : Nat → Int} {p : Nat} : ∀ {n : Nat}, p < n → (∀ i, i < n → i ≠ p → g i = f i) → sumF g n = sumF f n + (g p - f p)
  | 0, hp, _ => by omega
  | n + 1, hp, h => by
    by_cases hn : n = p
    · subst hn
      rw [sumF, sumF, sumF_congr (f := g) (g := f) (fun i hi => h i (by omega) (by omega))]; omega
    · rw [sumF, sumF, sumF_upd (n := n) (by omega) (fun i hi => h i (by omega)), h n (by omega) hn]; omega
theorem sumF_add (f g : Nat → Int) : ∀ n, sumF (fun i => f i + g i) n = sumF f n + sumF g n
  | 0 => rfl
  | n + 1 => by simp only [sumF, sumF_add f g n]; omega
theorem sumF_sub (f g : Nat → Int) : ∀ n, sumF (fun i => f i - g i) n = sumF f n - sumF g n
  | 0 => rfl
  | n + 1 => by simp only [sumF, sumF_sub f g n]; omega
theorem sumF_zero : ∀ n, sumF (fun _ => 0) n = 0
  | 0 => rfl
  | n + 1 => by simp only [sumF, sumF_zero n]; omega
theorem sumF_swap (f : Nat → Nat → Int) (m : Nat) : ∀ n, sumF (fun i => sumF (fun j => f i j) m) n = sumF (fun j => sumF (fun i => f i j) n) m
  | 0 => by simp only [sumF]; rw [sumF_zero]
  | n + 1 => by simp only [sumF]; rw [sumF_swap f m n, ← sumF_add]

/-- What is free at k, whatever it comes to. -/
def V (f : Nat → Int) (k : Nat) : Int := f k + sumF (fun m => f (32 + m * 16 + k)) 16 - f (16 + k) - sumF (fun m => f (32 + k * 16 + m)) 16
/-- What was given, less what was used. -/
def WT (f : Nat → Int) : Int := sumF (fun k => f k) 16 - sumF (fun k => f (16 + k)) 16
theorem V_all (f : Nat → Int) : sumF (V f) 16 = WT f := by
  have h1 : sumF (V f) 16 = sumF (fun k => f k) 16 + sumF (fun k => sumF (fun m => f (32 + m * 16 + k)) 16) 16 - sumF (fun k => f (16 + k)) 16 - sumF (fun k => sumF (fun m => f (32 + k * 16 + m)) 16) 16 := by
    rw [← sumF_add, ← sumF_sub, ← sumF_sub]
    exact sumF_congr fun i _ => rfl
  rw [h1, sumF_swap (fun k m => f (32 + m * 16 + k)) 16 16]
  unfold WT; omega

theorem V_give {f g : Nat → Int} {p : Nat} (hp : p < 16) (h : ∀ i, i < 288 → i ≠ p → g i = f i) {k : Nat} (hk : k < 16) : V g k = V f k + (if k = p then g p - f p else 0) := by
  unfold V
  rw [sumF_congr (f := fun m => g (32 + m * 16 + k)) (g := fun m => f (32 + m * 16 + k)) (fun i hi => h _ (by omega) (by omega)),
    sumF_congr (f := fun m => g (32 + k * 16 + m)) (g := fun m => f (32 + k * 16 + m)) (fun i hi => h _ (by omega) (by omega)), h (16 + k) (by omega) (by omega)]
  split
  · rename_i e; subst e; omega
  · rw [h k (by omega) (by assumption)]; omega
theorem V_use {f g : Nat → Int} {p : Nat} (hp : p < 16) (h : ∀ i, i < 288 → i ≠ 16 + p → g i = f i) {k : Nat} (hk : k < 16) : V g k = V f k - (if k = p then g (16 + p) - f (16 + p) else 0) := by
  unfold V
  rw [sumF_congr (f := fun m => g (32 + m * 16 + k)) (g := fun m => f (32 + m * 16 + k)) (fun i hi => h _ (by omega) (by omega)),
    sumF_congr (f := fun m => g (32 + k * 16 + m)) (g := fun m => f (32 + k * 16 + m)) (fun i hi => h _ (by omega) (by omega)), h k (by omega) (by omega)]
  split
  · rename_i e; subst e; omega
  · rw [h (16 + k) (by omega) (by omega)]; omega
theorem V_move {f g : Nat → Int} {i p : Nat} (hi : i < 16) (hp : p < 16) (hne : i ≠ p) (h : ∀ j, j < 288 → j ≠ 32 + i * 16 + p → g j = f j) {k : Nat} (hk : k < 16) :
    V g k = V f k + (if k = p then g (32 + i * 16 + p) - f (32 + i * 16 + p) else 0) - (if k = i then g (32 + i * 16 + p) - f (32 + i * 16 + p) else 0) := by
  unfold V
  rw [h k (by omega) (by omega), h (16 + k) (by omega) (by omega)]
  by_cases h1 : k = p
  · subst h1
    rw [if_pos rfl, if_neg (Ne.symm hne), sumF_upd (f := fun m => f (32 + m * 16 + k)) (g := fun m => g (32 + m * 16 + k)) hi (fun j hj hji => h _ (by omega) (by omega)),
      sumF_congr (f := fun m => g (32 + k * 16 + m)) (g := fun m => f (32 + k * 16 + m)) (fun j hj => h _ (by omega) (by omega))]
    omega
  · rw [if_neg h1, sumF_congr (f := fun m => g (32 + m * 16 + k)) (g := fun m => f (32 + m * 16 + k)) (fun j hj => h _ (by omega) (by omega))]
    by_cases h2 : k = i
    · subst h2
      rw [if_pos rfl, sumF_upd (f := fun m => f (32 + k * 16 + m)) (g := fun m => g (32 + k * 16 + m)) hp (fun j hj hji => h _ (by omega) (by omega))]
      omega
    · rw [if_neg h2, sumF_congr (f := fun m => g (32 + k * 16 + m)) (g := fun m => f (32 + k * 16 + m)) (fun j hj => h _ (by omega) (by omega))]
      omega

/-! ### Sums that can be told. -/
theorem sumFrom_is : ∀ {l : List Int} {acc s : Int}, sumFrom acc l = some s → s = acc + tot l
  | [], acc, s, h => by simp only [sumFrom, Option.some.injEq] at h; simp [tot, h]
  | z :: l, acc, s, h => by
    rw [sumFrom] at h
    split at h
    · have := sumFrom_is h; simp only [tot]; omega
    · cases h
theorem sum_told {l : List Int} (h : sumE l = 0) : sumN l = tot l := by
  cases hs : sumFrom 0 l with
  | none => rw [(sumN_none hs).2] at h; cases h
  | some s => rw [(sumN_some hs).1, sumFrom_is hs]; omega
theorem sumFrom_small {B : Int} : ∀ {l : List Int} {acc : Int}, (∀ z ∈ l, -B ≤ z ∧ z ≤ B) → 0 ≤ B → -(1099511627776 - B * l.length) ≤ acc → acc ≤ 1099511627776 - B * l.length → sumFrom acc l = some (acc + tot l)
  | [], acc, _, _, _, _ => by simp [sumFrom, tot]
  | z :: l, acc, h, hB, h1, h2 => by
    have hz := h z (by simp)
    have e : B * ((z :: l).length : Int) = B * (l.length : Int) + B := by rw [List.length_cons]; push_cast; rw [Int.mul_add, Int.mul_one]
    rw [e] at h1 h2
    have hn : 0 ≤ B * (l.length : Int) := Int.mul_nonneg hB (by omega)
    have hok : okB acc z (acc + z) = true := okB_iff.2 ⟨isB_iff.2 (by omega), isB_iff.2 (by omega), isB_iff.2 (by omega)⟩
    rw [sumFrom, if_pos hok, sumFrom_small (fun y hy => h y (by simp [hy])) hB (by omega) (by omega)]
    simp only [tot]; congr 1; omega
theorem sum_small {B : Int} {l : List Int} (h : ∀ z ∈ l, -B ≤ z ∧ z ≤ B) (hB : 0 ≤ B) (hl : B * l.length ≤ 1099511627776) : sumE l = 0 ∧ sumN l = tot l := by
  have := sumFrom_small (acc := 0) h hB (by omega) (by omega)
  obtain ⟨h1, h2⟩ := sumN_some this
  exact ⟨h2, by rw [h1]; omega⟩

theorem ng_small {z : Int} (h1 : -9223372036854775808 < z) (h2 : z ≤ 9223372036854775807) : ng z = -z := by unfold ng wrap64; omega
theorem tot_negs : ∀ {l : List Int}, (∀ z ∈ l, -9223372036854775808 < z ∧ z ≤ 9223372036854775807) → tot (negs l) = - tot l
  | [], _ => rfl
  | z :: l, h => by
    have h1 := tot_negs (l := l) (fun y hy => h y (by simp [hy]))
    have h2 := ng_small (h z (by simp)).1 (h z (by simp)).2
    simp only [negs, List.map_cons, tot] at h1 ⊢
    rw [h2]; omega
/-- The numbers of rights, by their places. -/
abbrev at_ (R : List Int) : Nat → Int := fun i => R.getD i 0
theorem mem_at {R : List Int} {z : Int} (h : z ∈ R) : ∃ i, i < R.length ∧ R.getD i 0 = z := by
  obtain ⟨i, hi, rfl⟩ := List.getElem_of_mem h
  exact ⟨i, hi, by simp [List.getD, hi]⟩
theorem mem_seg {R : List Int} {o n : Nat} {z : Int} (hr : o + n ≤ R.length) (h : z ∈ seg R o n) : ∃ i, i < n ∧ R.getD (o + i) 0 = z := by
  obtain ⟨i, hi, e⟩ := mem_at h
  rw [seg_length hr] at hi
  rw [seg_get hi] at e
  exact ⟨i, hi, e⟩
theorem tot_fl {R : List Int} (hR : R.length = 288) {k : Nat} (hk : k < 16) (h : ∀ i, i < 288 → -9223372036854775808 < R.getD i 0 ∧ R.getD i 0 ≤ 9223372036854775807) : tot (fl R k) = V (at_ R) k := by
  have n1 : tot (negs [R.getD (16 + k) 0]) = - tot [R.getD (16 + k) 0] := tot_negs (fun z hz => by rw [List.mem_singleton] at hz; subst hz; exact h _ (by omega))
  have n2 : tot (negs (seg R (32 + k * 16) 16)) = - tot (seg R (32 + k * 16) 16) := tot_negs (fun z hz => by
    obtain ⟨i, hi, rfl⟩ := mem_seg (by omega) hz
    exact h _ (by omega))
  rw [fl, tot_append, tot_append, n1, n2, seg_map (R := R) (o := 32 + k * 16) (n := 16) (by omega), tot_map]
  simp only [tot, colL, tot_map, V, at_]
  omega
theorem tot_totL {R : List Int} (hR : R.length = 288) (h : ∀ i, i < 288 → -9223372036854775808 < R.getD i 0 ∧ R.getD i 0 ≤ 9223372036854775807) : tot (totL R) = WT (at_ R) := by
  have n2 : tot (negs (seg R 16 16)) = - tot (seg R 16 16) := tot_negs (fun z hz => by
    obtain ⟨i, hi, rfl⟩ := mem_seg (by omega) hz
    exact h _ (by omega))
  rw [totL, tot_append, n2, seg_map (R := R) (o := 16) (n := 16) (by omega), seg_map (R := R) (o := 0) (n := 16) (by omega), tot_map, tot_map]
  simp only [WT, at_, Nat.zero_add]
  omega
/-- Of numbers from 0 up to B what is free, and in all, can be told. -/
theorem free_small {R : List Int} (hR : R.length = 288) {B : Int} (h : ∀ i, i < 288 → 0 ≤ R.getD i 0 ∧ R.getD i 0 ≤ B) (hB : 34 * B ≤ 1099511627776) {k : Nat} (hk : k < 16) : freeE R k = 0 ∧ freeN R k = V (at_ R) k := by
  have hB0 : 0 ≤ B := by have := h 0 (by omega); omega
  obtain ⟨e1, e2⟩ := free_yes (R := R) hk
  have hall : ∀ z ∈ fl R k, -B ≤ z ∧ z ≤ B := by
    intro z hz
    simp only [fl, List.mem_append, List.mem_cons] at hz
    rcases hz with (rfl | hz) | hz | hz
    · have := h k (by omega); omega
    · obtain ⟨i, hi, rfl⟩ := mem_at hz
      rw [colL_length] at hi
      rw [colL_get hi]
      have := h (32 + i * 16 + k) (by omega); omega
    · simp only [negs, List.map_cons, List.map_nil, List.mem_singleton] at hz
      have := h (16 + k) (by omega)
      rw [hz, ng_small (by omega) (by omega)]; omega
    · obtain ⟨i, hi, rfl⟩ := mem_at hz
      rw [negs_length, seg_length (by omega)] at hi
      have := h (32 + k * 16 + i) (by omega)
      rw [negs_get (by rw [seg_length (by omega)]; exact hi), seg_get hi, ng_small (by omega) (by omega)]; omega
  have hlen : ((fl R k).length : Int) = 34 := by simp [fl, colL_length, negs_length, seg_length (R := R) (o := 32 + k * 16) (n := 16) (by omega)]
  obtain ⟨s1, s2⟩ := sum_small hall hB0 (by rw [hlen]; omega)
  exact ⟨by rw [e2, s1], by rw [e1, s2, tot_fl hR hk (fun i hi => by have := h i hi; omega)]⟩
theorem total_small {R : List Int} (hR : R.length = 288) {B : Int} (h : ∀ i, i < 288 → 0 ≤ R.getD i 0 ∧ R.getD i 0 ≤ B) (hB : 34 * B ≤ 1099511627776) : sumE (totL R) = 0 ∧ sumN (totL R) = WT (at_ R) := by
  have hB0 : 0 ≤ B := by have := h 0 (by omega); omega
  have hall : ∀ z ∈ totL R, -B ≤ z ∧ z ≤ B := by
    intro z hz
    simp only [totL, List.mem_append] at hz
    rcases hz with hz | hz
    · obtain ⟨i, hi, rfl⟩ := mem_seg (by omega) hz
      have := h (0 + i) (by omega); omega
    · obtain ⟨i, hi, rfl⟩ := mem_at hz
      rw [negs_length, seg_length (by omega)] at hi
      have := h (16 + i) (by omega)
      rw [negs_get (by rw [seg_length (by omega)]; exact hi), seg_get hi, ng_small (by omega) (by omega)]; omega
  have hlen : ((totL R).length : Int) = 32 := by simp [totL, negs_length, seg_length (R := R) (o := 0) (n := 16) (by omega), seg_length (R := R) (o := 16) (n := 16) (by omega)]
  obtain ⟨s1, s2⟩ := sum_small hall hB0 (by rw [hlen]; omega)
  exact ⟨s1, by rw [s2, tot_totL hR (fun i hi => by have := h i hi; omega)]⟩

/-! ### What grows. -/
theorem splice_set {R : List Int} {o j : Nat} {v : Int} (h : o + 16 ≤ R.length) (hj : j < 16) : splice R o ((seg R o 16).set j v) = R.set (o + j) v := by
  have hl : ((seg R o 16).set j v).length = 16 := by rw [List.length_set, seg_length h]
  refine ext_get (by rw [splice_length, List.length_set]) fun k hk => ?_
  rw [splice_length] at hk
  rw [splice_get _ _ _ _ (by rw [hl]; exact h), hl, set_get (xs := R) (show o + j < R.length by omega)]
  by_cases h1 : o ≤ k ∧ k < o + 16
  · rw [if_pos h1, set_get (xs := seg R o 16) (by rw [seg_length h]; exact hj)]
    by_cases h2 : k = o + j
    · rw [if_pos h2, if_pos (by omega)]
    · rw [if_neg h2, if_neg (by omega), seg_get (by omega)]; congr 1; omega
  · rw [if_neg h1, if_neg (by omega)]
/-- What grew: one number of the vector at o is greater by n. -/
theorem gr_zero {R : List Int} {o : Nat} (ho : o + 16 ≤ R.length) {k n : Int} (h : grE R o k n = 0) : ∃ j : Nat, k = j ∧ j < 16 ∧ 0 ≤ n ∧ okB (R.getD (o + j) 0) n (R.getD (o + j) 0 + n) = true ∧ grA R o k n = R.set (o + j) (R.getD (o + j) 0 + n) := by
  obtain ⟨j, rfl, hj, hn, hok, e⟩ := grow_zero (seg_length ho) h
  rw [seg_get hj] at hok e
  exact ⟨j, rfl, hj, hn, hok, by rw [grA_ok h, e, splice_set ho hj]⟩
theorem at_set {R : List Int} {p : Nat} {v : Int} (hp : p < R.length) (i : Nat) : at_ (R.set p v) i = if i = p then v else at_ R i := set_get hp
theorem over_set {R : List Int} {p : Nat} {n : Int} (hR : R.length = 288) (hp : p < 288) (hn : 0 ≤ n) : overB (R.set p (R.getD p 0 + n)) R = true := by
  simp only [overB, beq_iff_eq]
  refine ext_get (by simp [joinL]) fun k hk => ?_
  have hk : k < 288 := by simp [joinL] at hk; omega
  rw [joinL_get (by simp; omega) (by omega), set_get (by omega)]
  split
  · subst_vars; omega
  · omega
end Go.Proofs.YtbaccghnneidgaaGreat
