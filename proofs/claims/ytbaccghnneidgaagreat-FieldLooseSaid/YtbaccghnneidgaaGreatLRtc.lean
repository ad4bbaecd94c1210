/- Plain arithmetic of layer 3: what is free, and in all, of numbers that are not too great; what a change of one number does to it. No walk. Counters (579 ints: Init, Low, High, Down, Up): what the document asks of them, in plain lists. No walk. Rights that come in; 'awake' of layer 3. Counters in memory: what the operations on them do; when two are the same; counters that come in. -/
import Derived.Test.YtbaccghnneidgaaGreatLBase0
import Derived.Test.YtbaccghnneidgaaGreatLBase4
import Derived.Test.YtbaccghnneidgaaGreatLBase2
namespace Go.Proofs.YtbaccghnneidgaaGreat
set_option maxRecDepth 100000
open Go.ChangeShapes Go.WideShapes Go.ChangeAt Go.RowKit

def sumF (f : Nat → Int) : Nat → Int
  | 0 => 0
  | n + 1 => sumF f n + f n
theorem tot_map (f : Nat → Int) : ∀ n, tot ((List.range n).map f) = sumF f n
  | 0 => rfl
  | n + 1 => by rw [List.range_succ, List.map_append, tot_append, tot_map f n]; simp [tot, sumF]
theorem sumF_congr {f g : Nat → Int} : ∀ {n : Nat}, (∀ i, i < n → f i = g i) → sumF f n = sumF g n
  | 0, _ => rfl
  | n + 1, h => by rw [sumF, sumF, sumF_congr (fun i hi => h i (by omega)), h n (by omega)]
theorem sumF_le {f g : Nat → Int} : ∀ {n : Nat}, (∀ i, i < n → f i ≤ g i) → sumF f n ≤ sumF g n
  | 0, _ => by simp [sumF]
  | n + 1, h => by
    have h1 := sumF_le (n := n) (fun i hi => h i (by omega))
    have h2 := h n (by omega)
    simp only [sumF]; omega
theorem sumF_upd {f g : Nat → Int} {p : Nat} : ∀ {n : Nat}, p < n → (∀ i, i < n → i ≠ p → g i = f i) → sumF g n = sumF f n + (g p - f p)
  | 0, hp, _ => by omega
  | n + 1, hp, h => by
    by_cases hn : n = p
    · subst hn
      rw [sumF, sumF, sumF_congr (f := g) (g := f) (fun i hi => h i (by omega) (by omega))]; omega
    · rw [sumF, sumF, sumF_upd (n := n) (by omega) (fun i hi => h i (by omega)), h n (by omega) hn]; omega
theorem sumF_zero : ∀ n, sumF (fun _ => 0) n = 0
  | 0 => rfl
  | n + 1 => by simp only [sumF, sumF_zero n]; omega
/-- What is free at k, whatever it comes to. -/
def V (f : Nat → Int) (k : Nat) : Int := f k + sumF (fun m => f (32 + m * 16 + k)) 16 - f (16 + k) - sumF (fun m => f (32 + k * 16 + m)) 16
theorem V_use {f g : Nat → Int} {p : Nat} (hp : p < 16) (h : ∀ i, i < 288 → i ≠ 16 + p → g i = f i) {k : Nat} (hk : k < 16) : V g k = V f k - (if k = p then g (16 + p) - f (16 + p) else 0) := by
  unfold V
  rw [sumF_congr (f := fun m => g (32 + m * 16 + k)) (g := fun m => f (32 + m * 16 + k)) (fun i hi => h _ (by omega) (by omega)),
    sumF_congr (f := fun m => g (32 + k * 16 + m)) (g := fun m => f (32 + k * 16 + m)) (fun i hi => h _ (by omega) (by omega)), h k (by omega) (by omega)]
  split
  · rename_i e; subst e; omega
  · rw [h (16 + k) (by omega) (by omega)]; omega
/-! ### Sums that can be told. -/
theorem sumFrom_small {B : Int} : ∀ {l : List Int} {acc : Int}, (∀ z ∈ l, -B ≤ z ∧ z ≤ B) → 0 ≤ B → -(1099511627776 - B * l.length) ≤ acc → acc ≤ 1099511627776 - B * l.length → sumFrom acc l = some (acc + tot l)
  | [], acc, _, _, _, _ => by simp [sumFrom, tot]
  | z :: l, acc, h, hB, h1, h2 => by
    have hz := h z (by simp)
    have e : B * ((z :: l).length : Int) = B * (l.length : Int) + B := by rw [List.length_cons]; push_cast; rw [Int.mul_add, Int.mul_one]
    rw [e] at h1 h2
    have hn : 0 ≤ B * (l.length : Int) := Int.mul_nonneg hB (by omega)
    have hok : okB acc z (acc + z) = true := okB_iff.2 ⟨isB_iff.2 (by omega), isB_iff.2 (by omega), isB_iff.2 (by omega)⟩
    rw [sumFrom, if_pos hok, sumFrom_small (fun y hy => h y (by simp [hy])) hB (by omega) (by omega)]
    simp only [tot]; congr 1; omega
theorem sum_small {B : Int} {l : List Int} (h : ∀ z ∈ l, -B ≤ z ∧ z ≤ B) (hB : 0 ≤ B) (hl : B * l.length ≤ 1099511627776) : sumE l = 0 ∧ sumN l = tot l := by
  have := sumFrom_small (acc := 0) h hB (by omega) (by omega)
  obtain ⟨h1, h2⟩ := sumN_some this
  exact ⟨h2, by rw [h1]; omega⟩

theorem ng_small {z : Int} (h1 : -9223372036854775808 < z) (h2 : z ≤ 9223372036854775807) : ng z = -z := by unfold ng wrap64; omega
theorem tot_negs : ∀ {l : List Int}, (∀ z ∈ l, -9223372036854775808 < z ∧ z ≤ 9223372036854775807) → tot (negs l) = - tot l
  | [], _ => rfl
  | z :: l, h => by
    have h1 := tot_negs (l := l) (fun y hy => h y (by simp [hy]))
    have h2 := ng_small (h z (by simp)).1 (h z (by simp)).2
    simp only [negs, List.map_cons, tot] at h1 ⊢
    rw [h2]; omega
/-- The numbers of rights, by their places. -/
abbrev at_ (R : List Int) : Nat → Int := fun i => R.getD i 0
theorem mem_at {R : List Int} {z : Int} (h : z ∈ R) : ∃ i, i < R.length ∧ R.getD i 0 = z := by
  obtain ⟨i, hi, rfl⟩ := List.getElem_of_mem h
  exact ⟨i, hi, by simp [List.getD, hi]⟩
theorem mem_seg {R : List Int} {o n : Nat} {z : Int} (hr : o + n ≤ R.length) (h : z ∈ seg R o n) : ∃ i, i < n ∧ R.getD (o + i) 0 = z := by
  obtain ⟨i, hi, e⟩ := mem_at h
  rw [seg_length hr] at hi
  rw [seg_get hi] at e
  exact ⟨i, hi, e⟩
theorem tot_fl {R : List Int} (hR : R.length = 288) {k : Nat} (hk : k < 16) (h : ∀ i, i < 288 → -9223372036854775808 < R.getD i 0 ∧ R.getD i 0 ≤ 9223372036854775807) : tot (fl R k) = V (at_ R) k := by
  have n1 : tot (negs [R.getD (16 + k) 0]) = - tot [R.getD (16 + k) 0] := tot_negs (fun z hz => by rw [List.mem_singleton] at hz; subst hz; exact h _ (by omega))
  have n2 : tot (negs (seg R (32 + k * 16) 16)) = - tot (seg R (32 + k * 16) 16) := tot_negs (fun z hz => by
    obtain ⟨i, hi, rfl⟩ := mem_seg (by omega) hz
    exact h _ (by omega))
  rw [fl, tot_append, tot_append, n1, n2, seg_map (R := R) (o := 32 + k * 16) (n := 16) (by omega), tot_map]
  simp only [tot, colL, tot_map, V, at_]
  omega
/-- Of numbers from 0 up to B what is free, and in all, can be told. -/
theorem free_small {R : List Int} (hR : R.length = 288) {B : Int} (h : ∀ i, i < 288 → 0 ≤ R.getD i 0 ∧ R.getD i 0 ≤ B) (hB : 34 * B ≤ 1099511627776) {k : Nat} (hk : k < 16) : freeE R k = 0 ∧ freeN R k = V (at_ R) k := by
  have hB0 : 0 ≤ B := by have := h 0 (by omega); omega
  obtain ⟨e1, e2⟩ := free_yes (R := R) hk
  have hall : ∀ z ∈ fl R k, -B ≤ z ∧ z ≤ B := by
    intro z hz
    simp only [fl, List.mem_append, List.mem_cons] at hz
    rcases hz with (rfl | hz) | hz | hz
    · have := h k (by omega); omega
    · obtain ⟨i, hi, rfl⟩ := mem_at hz
      rw [colL_length] at hi
      rw [colL_get hi]
      have := h (32 + i * 16 + k) (by omega); omega
    · simp only [negs, List.map_cons, List.map_nil, List.mem_singleton] at hz
      have := h (16 + k) (by omega)
      rw [hz, ng_small (by omega) (by omega)]; omega
    · obtain ⟨i, hi, rfl⟩ := mem_at hz
      rw [negs_length, seg_length (by omega)] at hi
      have := h (32 + k * 16 + i) (by omega)
      rw [negs_get (by rw [seg_length (by omega)]; exact hi), seg_get hi, ng_small (by omega) (by omega)]; omega
  have hlen : ((fl R k).length : Int) = 34 := by simp [fl, colL_length, negs_length, seg_length (R := R) (o := 32 + k * 16) (n := 16) (by omega)]
  obtain ⟨s1, s2⟩ := sum_small hall hB0 (by rw [hlen]; omega)
  exact ⟨by rw [e2, s1], by rw [e1, s2, tot_fl hR hk (fun i hi => by have := h i hi; omega)]⟩
/-! ### What grows. -/
theorem splice_set {R : List Int} {o j : Nat} {v : Int} (h : o + 16 ≤ R.length) (hj : j < 16) : splice R o ((seg R o 16).set j v) = R.set (o + j) v := by
  have hl : ((seg R o 16).set j v).length = 16 := by rw [List.length_set, seg_length h]
  refine ext_get (by rw [splice_length, List.length_set]) fun k hk => ?_
  rw [splice_length] at hk
  rw [splice_get _ _ _ _ (by rw [hl]; exact h), hl, set_get (xs := R) (show o + j < R.length by omega)]
  by_cases h1 : o ≤ k ∧ k < o + 16
  · rw [if_pos h1, set_get (xs := seg R o 16) (by rw [seg_length h]; exact hj)]
    by_cases h2 : k = o + j
    · rw [if_pos h2, if_pos (by omega)]
    · rw [if_neg h2, if_neg (by omega), seg_get (by omega)]; congr 1; omega
  · rw [if_neg h1, if_neg (by omega)]
/-- What grew: one number of the vector at o is greater by n. -/
theorem gr_zero {R : List Int} {o : Nat} (ho : o + 16 ≤ R.length) {k n : Int} (h : grE R o k n = 0) : ∃ j : Nat, k = j ∧ j < 16 ∧ 0 ≤ n ∧ okB (R.getD (o + j) 0) n (R.getD (o + j) 0 + n) = true ∧ grA R o k n = R.set (o + j) (R.getD (o + j) 0 + n) := by
  obtain ⟨j, rfl, hj, hn, hok, e⟩ := grow_zero (seg_length ho) h
  rw [seg_get hj] at hok e
  exact ⟨j, rfl, hj, hn, hok, by rw [grA_ok h, e, splice_set ho hj]⟩
theorem at_set {R : List Int} {p : Nat} {v : Int} (hp : p < R.length) (i : Nat) : at_ (R.set p v) i = if i = p then v else at_ R i := set_get hp
end Go.Proofs.YtbaccghnneidgaaGreat

namespace Go.Proofs.YtbaccghnneidgaaGreat
set_option maxRecDepth 100000
open Go.ChangeShapes Go.WideShapes Go.ChangeAt Go.RowKit

def dnR (C : List Int) : List Int := seg C 3 288
def upR (C : List Int) : List Int := seg C 291 288
theorem dnR_length {C : List Int} (h : C.length = 579) : (dnR C).length = 288 := seg_length (by omega)
theorem upR_length {C : List Int} (h : C.length = 579) : (upR C).length = 288 := seg_length (by omega)

/-! ### A new one. -/
def newB (i l h : Int) : Bool := isB l && isB h && decide (l ≤ i) && decide (i ≤ h) && isB (h - l)
def newC (i l h : Int) : List Int := (((((zer 579).set 0 i).set 1 l).set 2 h).set 3 (i - l)).set 291 (h - i)
def newE (i l h : Int) : Int := if newB i l h = true then 0 else 2
def newA (i l h : Int) : List Int := if newB i l h = true then newC i l h else zer 579
theorem newC_length (i l h : Int) : (newC i l h).length = 579 := by simp [newC, zer_length]
theorem newA_length (i l h : Int) : (newA i l h).length = 579 := by unfold newA; split; exact newC_length _ _ _; exact zer_length 579
theorem newB_iff {i l h : Int} : newB i l h = true ↔ isB l = true ∧ isB h = true ∧ l ≤ i ∧ i ≤ h ∧ isB (h - l) = true := by
  simp only [newB, Bool.and_eq_true, decide_eq_true_eq, and_assoc]
theorem new_yes {i l h : Int} (hb : newB i l h = true) : newE i l h = 0 ∧ newA i l h = newC i l h := by simp [newE, newA, hb]
theorem new_no {i l h : Int} (hb : newB i l h = false) : newE i l h = 2 ∧ newA i l h = zer 579 := by simp [newE, newA, hb]

/-! ### Two changes. -/
def bothE (e1 e2 : Int) : Int := if e1 = 0 then e2 else e1
def bothA (C : List Int) (o1 : Nat) (A1 : List Int) (o2 : Nat) (A2 : List Int) (e1 e2 : Int) : List Int := if bothE e1 e2 = 0 then splice (splice C o1 A1) o2 A2 else zer 579
theorem bothA_length {C : List Int} (h : C.length = 579) (o1 : Nat) (A1 : List Int) (o2 : Nat) (A2 : List Int) (e1 e2 : Int) : (bothA C o1 A1 o2 A2 e1 e2).length = 579 := by
  unfold bothA; split
  · rw [splice_length, splice_length, h]
  · exact zer_length 579
theorem both_fst {e1 e2 : Int} (h : e1 ≠ 0) : bothE e1 e2 = e1 := by simp [bothE, h]
theorem both_snd {e2 : Int} : bothE 0 e2 = e2 := by simp [bothE]
theorem bothA_no {C : List Int} {o1 : Nat} {A1 : List Int} {o2 : Nat} {A2 : List Int} {e1 e2 : Int} (h : bothE e1 e2 ≠ 0) : bothA C o1 A1 o2 A2 e1 e2 = zer 579 := by simp [bothA, h]
theorem bothA_yes {C : List Int} {o1 : Nat} {A1 : List Int} {o2 : Nat} {A2 : List Int} : bothA C o1 A1 o2 A2 0 0 = splice (splice C o1 A1) o2 A2 := by simp [bothA, bothE]

def incE (C : List Int) (k n : Int) : Int := bothE (useE (upR C) k n) (grE (dnR C) 0 k n)
def incA (C : List Int) (k n : Int) : List Int := bothA C 291 (useA (upR C) k n) 3 (grA (dnR C) 0 k n) (useE (upR C) k n) (grE (dnR C) 0 k n)
def decE (C : List Int) (k n : Int) : Int := bothE (useE (dnR C) k n) (grE (upR C) 0 k n)
def decA (C : List Int) (k n : Int) : List Int := bothA C 3 (useA (dnR C) k n) 291 (grA (upR C) 0 k n) (useE (dnR C) k n) (grE (upR C) 0 k n)
def handE (C : List Int) (i k d u : Int) : Int := bothE (moveE (dnR C) i k d) (moveE (upR C) i k u)
def handA (C : List Int) (i k d u : Int) : List Int := bothA C 3 (moveA (dnR C) i k d) 291 (moveA (upR C) i k u) (moveE (dnR C) i k d) (moveE (upR C) i k u)
theorem incA_length {C : List Int} (h : C.length = 579) (k n : Int) : (incA C k n).length = 579 := bothA_length h _ _ _ _ _ _
theorem decA_length {C : List Int} (h : C.length = 579) (k n : Int) : (decA C k n).length = 579 := bothA_length h _ _ _ _ _ _
theorem handA_length {C : List Int} (h : C.length = 579) (i k d u : Int) : (handA C i k d u).length = 579 := bothA_length h _ _ _ _ _ _
/-! ### Joined. -/
def sameB (A B : List Int) : Bool := (A.getD 0 0 == B.getD 0 0) && (A.getD 1 0 == B.getD 1 0) && (A.getD 2 0 == B.getD 2 0)
def cjE (A B : List Int) : Int := if sameB A B = true then 0 else 1
def cjC (A B : List Int) : List Int := splice (splice A 3 (joinL (dnR A) (dnR B))) 291 (joinL (upR A) (upR B))
def cjA (A B : List Int) : List Int := if sameB A B = true then cjC A B else zer 579
theorem jl_length {R T : List Int} (hR : R.length = 288) (hT : T.length = 288) : (joinL R T).length = 288 := by simp [joinL, hR, hT]
theorem cjC_length {A B : List Int} (h : A.length = 579) : (cjC A B).length = 579 := by simp [cjC, splice_length, h]
theorem cjA_length {A B : List Int} (h : A.length = 579) : (cjA A B).length = 579 := by unfold cjA; split; exact cjC_length h; exact zer_length 579
theorem cj_yes {A B : List Int} (h : sameB A B = true) : cjE A B = 0 ∧ cjA A B = cjC A B := by simp [cjE, cjA, h]
theorem cj_no {A B : List Int} (h : sameB A B = false) : cjE A B = 1 ∧ cjA A B = zer 579 := by simp [cjE, cjA, h]
/-! ### The value. -/
def valL (C : List Int) : List Int := (C.getD 0 0 :: seg C 307 16) ++ negs (seg C 19 16)
theorem valL_length {C : List Int} (h : C.length = 579) : (valL C).length = 33 := by simp [valL, negs_length, seg_length (R := C) (o := 307) (n := 16) (by omega), seg_length (R := C) (o := 19) (n := 16) (by omega)]
theorem sumFrom_append : ∀ (xs ys : List Int) (acc : Int), sumFrom acc (xs ++ ys) = (sumFrom acc xs).bind fun s => sumFrom s ys
  | [], _, _ => rfl
  | x :: xs, ys, acc => by
    rw [List.cons_append, sumFrom, sumFrom]
    split
    · exact sumFrom_append xs ys _
    · rfl
/-- What is taken off is what is added with its sign turned. -/
theorem ok_ng {v u : Int} (h1 : -9223372036854775808 ≤ u) (h2 : u ≤ 9223372036854775807) : okB v (ng u) (v + ng u) = okB v u (v - u) := by
  by_cases hu : isB u = true
  · obtain ⟨u1, u2⟩ := isB_iff.1 hu
    rw [ng_small (by omega) (by omega)]
    have : isB (-u) = true := isB_iff.2 (by omega)
    simp only [okB, hu, this, show v + -u = v - u by omega]
  · have hu : isB u = false := by simpa using hu
    have hn : isB (ng u) = false := by
      rw [isB_not] at hu ⊢
      unfold ng wrap64; omega
    rw [okB_b hu, okB_b hn]
theorem ng_ok {v u : Int} (h : okB v u (v - u) = true) : v + ng u = v - u := by
  obtain ⟨_, h2, _⟩ := okB_iff.1 h
  obtain ⟨u1, u2⟩ := isB_iff.1 h2
  rw [ng_small (by omega) (by omega)]; omega

/-! ### Whether one may be. -/
def tieB (G : List Int) (d : Int) (U : List Int) : Bool := decide (tot G ≤ 1099511627776) && decide (tot G = d + tot U)
def rightC (C : List Int) : Bool := ((isB (C.getD 1 0) && isB (C.getD 2 0) && decide (C.getD 1 0 ≤ C.getD 0 0) && decide (C.getD 0 0 ≤ C.getD 2 0)) && (rightsB (dnR C) && rightsB (upR C))) &&
  (tieB (seg C 3 16) (C.getD 0 0 - C.getD 1 0) (seg C 307 16) && tieB (seg C 291 16) (C.getD 2 0 - C.getD 0 0) (seg C 19 16))
def covB (G : List Int) (h l : Int) (U : List Int) : Bool := (sumE G == 0) && (sumE (h :: ng l :: U) == 0) && (sumN G == sumN (h :: ng l :: U))
theorem rightB_pos {xs : List Int} (h : rightB xs = true) : ∀ z ∈ xs, 0 ≤ z ∧ z ≤ 1099511627776 := by
  intro z hz
  have := List.all_eq_true.1 h z hz
  simpa using this
theorem sum_cases {xs : List Int} (h : ∀ z ∈ xs, 0 ≤ z) : (tot xs ≤ 1099511627776 ∧ sumN xs = tot xs ∧ sumE xs = 0) ∨ (1099511627776 < tot xs ∧ sumN xs = 0 ∧ sumE xs = 2) := by
  by_cases ht : tot xs ≤ 1099511627776
  · exact .inl ⟨ht, sum_fits h ht⟩
  · exact .inr ⟨by omega, sum_over h (by omega)⟩
theorem sum_head {h l : Int} {U : List Int} (hh : isB h = true) (hl : isB l = true) (hle : l ≤ h) (hU : ∀ z ∈ U, 0 ≤ z) : (h - l + tot U ≤ 1099511627776 ∧ sumN (h :: ng l :: U) = h - l + tot U ∧ sumE (h :: ng l :: U) = 0) ∨ (1099511627776 < h - l + tot U ∧ sumN (h :: ng l :: U) = 0 ∧ sumE (h :: ng l :: U) = 2) := by
  obtain ⟨h1, h2⟩ := isB_iff.1 hh
  obtain ⟨l1, l2⟩ := isB_iff.1 hl
  have ht := tot_nonneg hU
  have e : ng l = -l := ng_small (by omega) (by omega)
  have ok1 : okB 0 h (0 + h) = true := okB_iff.2 ⟨isB_zero, hh, by rw [Int.zero_add]; exact hh⟩
  have s1 : sumFrom 0 (h :: ng l :: U) = if okB h (-l) (h + -l) then sumFrom (h + -l) U else none := by rw [sumFrom, if_pos ok1, sumFrom, Int.zero_add, e]
  by_cases hd : h - l ≤ 1099511627776
  · have ok2 : okB h (-l) (h + -l) = true := okB_iff.2 ⟨hh, isB_iff.2 (by omega), isB_iff.2 (by omega)⟩
    rw [if_pos ok2, sumFrom_tot hU _ (by omega) (by omega)] at s1
    by_cases ht : h - l + tot U ≤ 1099511627776
    · rw [if_pos (by omega)] at s1
      obtain ⟨a, b⟩ := sumN_some s1
      exact .inl ⟨ht, by rw [a]; omega, b⟩
    · rw [if_neg (by omega)] at s1
      exact .inr ⟨by omega, sumN_none s1⟩
  · have ok2 : okB h (-l) (h + -l) = false := okB_r (isB_not.2 (by omega))
    rw [if_neg (by simp [ok2])] at s1
    exact .inr ⟨by omega, sumN_none s1⟩
theorem cov_tie {G U : List Int} {h l : Int} (hh : isB h = true) (hl : isB l = true) (hle : l ≤ h) (hG : rightB G = true) (hU : rightB U = true) : covB G h l U = tieB G (h - l) U := by
  have hG' := rightB_pos hG
  have hU' := rightB_pos hU
  unfold covB tieB
  rcases sum_cases (fun z hz => (hG' z hz).1) with ⟨g1, g2, g3⟩ | ⟨g1, g2, g3⟩
  · rcases sum_head hh hl hle (fun z hz => (hU' z hz).1) with ⟨u1, u2, u3⟩ | ⟨u1, u2, u3⟩
    · rw [g2, g3, u2, u3, Bool.eq_iff_iff]; simp [g1]
    · rw [g2, g3, u2, u3, Bool.eq_iff_iff]; simp; omega
  · rw [g2, g3, Bool.eq_iff_iff]; simp; omega
theorem rights_vecs {R : List Int} (h : rightsB R = true) : rightB (seg R 0 16) = true ∧ rightB (seg R 16 16) = true := by
  have := (rightsB_iff.1 h).1
  exact ⟨this 0 (by omega), this 1 (by omega)⟩
theorem dn_given (C : List Int) : seg (dnR C) 0 16 = seg C 3 16 := seg_seg (by omega)
theorem dn_used (C : List Int) : seg (dnR C) 16 16 = seg C 19 16 := seg_seg (by omega)
theorem up_given (C : List Int) : seg (upR C) 0 16 = seg C 291 16 := seg_seg (by omega)
theorem up_used (C : List Int) : seg (upR C) 16 16 = seg C 307 16 := seg_seg (by omega)
/-- The vectors of a counter whose rights may be. -/
theorem c_vecs {C : List Int} (h1 : rightsB (dnR C) = true) (h2 : rightsB (upR C) = true) : rightB (seg C 3 16) = true ∧ rightB (seg C 19 16) = true ∧ rightB (seg C 291 16) = true ∧ rightB (seg C 307 16) = true := by
  have a := rights_vecs h1
  have b := rights_vecs h2
  rw [dn_given, dn_used] at a
  rw [up_given, up_used] at b
  exact ⟨a.1, a.2, b.1, b.2⟩
end Go.Proofs.YtbaccghnneidgaaGreat

namespace Go.Proofs.YtbaccghnneidgaaGreat
set_option maxRecDepth 100000
open Go.ChangeShapes Go.WideShapes Go.ChangeAt Go.RowKit

/-! ### awake -/
def a1 : List Int := (zer 288).set 0 5
def a2 : List Int := a1.set 33 3
end Go.Proofs.YtbaccghnneidgaaGreat

namespace Go.Proofs.YtbaccghnneidgaaGreat
set_option maxRecDepth 100000
open Go.ChangeShapes Go.WideShapes Go.ChangeAt Go.RowKit

theorem c_info : (Tryz.prog.info? 28).map (·.size) = some 579 := by kernel_rfl
theorem c_zero : (Tryz.prog.info? 28).bind (·.zero) = some (.agg (vals (zer 579)).toArray) := by kernel_rfl
theorem c_build (W : World) : (Instr.build 28 #[]).run Tryz.prog W = .ok (.agg (vals (zer 579)).toArray) W := by kernel_rfl
def three (a b c : Int) : List Int := (((zer 579).set 0 a).set 1 b).set 2 c
theorem three_length (a b c : Int) : (three a b c).length = 579 := by simp [three, zer_length]
theorem c_build3 (a b c : Int) (W : World) : (Instr.build 28 #[(0, .int .i64 a), (1, .int .i64 b), (2, .int .i64 c)]).run Tryz.prog W = .ok (.agg (vals (three a b c)).toArray) W := by kernel_rfl
theorem build_three {ops : Array Oper} {rest : List Oper} {o : Oper} {a : Act} {u : World} {Q : Exit → Act → World → Prop} (hgd : o.guard = none) (x y z : Operand) (ho : o.op = .build 28 #[(0, x), (1, y), (2, z)]) {p q r : Int}
    (hx : a.eval x = .int .i64 p) (hy : a.eval y = .int .i64 q) (hz : a.eval z = .int .i64 r)
    (h : wpList Tryz.prog ops Q rest (a.put o.dst (.agg (vals (three p q r)).toArray)) u) : wpList Tryz.prog ops Q (o :: rest) a u :=
  wpList_plain hgd fun K hK => by
    unfold Oper.wp execOp
    simp only [ho, List.map_toArray, List.map_cons, List.map_nil, hx, hy, hz, Sem.run_bind, Sem.run_pure, Result.andThen_ok, c_build3]
    exact hK _ _ h
theorem new_stores (i l h : Int) : ((three i l h).set 3 (i - l)).set 291 (h - i) = newC i l h := rfl

/-! ### Ints in kept blocks. -/
/-! ### Results. -/
/-! ### Equality. -/
theorem c_fields : (Tryz.prog.fieldsOf 28).toList.map (fun f => (f.type, f.offset, f.name)) = [(3, 0, "Init"), (3, 1, "Low"), (3, 2, "High"), (26, 3, "Down"), (26, 291, "Up")] := by kernel_rfl
theorem c_under : Tryz.prog.underlying 28 = some (.struct (Tryz.prog.fieldsOf 28)) := by kernel_rfl
theorem rr_size : ∀ w, (sizeOf 26).run Tryz.prog w = .ok 288 w := fun w => by kernel_rfl
theorem fields5 {fs : List Field} {x1 x2 x3 x4 x5 : TypeId × Nat × String} (h : fs.map (fun f => (f.type, f.offset, f.name)) = [x1, x2, x3, x4, x5]) : ∃ f1 f2 f3 f4 f5, fs = [f1, f2, f3, f4, f5] ∧ (f1.type, f1.offset, f1.name) = x1 ∧ (f2.type, f2.offset, f2.name) = x2 ∧ (f3.type, f3.offset, f3.name) = x3 ∧ (f4.type, f4.offset, f4.name) = x4 ∧ (f5.type, f5.offset, f5.name) = x5 := by
  match fs, h with
  | [f1, f2, f3, f4, f5], h => exact ⟨f1, f2, f3, f4, f5, rfl, by simpa using h⟩
theorem same_c {C D : List Int} (hC : C.length = 579) (hD : D.length = 579) : ((C.getD 0 0 == D.getD 0 0) && ((C.getD 1 0 == D.getD 1 0) && ((C.getD 2 0 == D.getD 2 0) && ((dnR C == dnR D) && ((upR C == upR D) && true))))) = (C == D) := by
  rw [Bool.eq_iff_iff]
  simp only [Bool.and_eq_true, beq_iff_eq, and_true]
  constructor
  · rintro ⟨h0, h1, h2, h3, h4⟩
    refine ext_get (by omega) fun k hk => ?_
    by_cases k0 : k < 3
    · have : k = 0 ∨ k = 1 ∨ k = 2 := by omega
      rcases this with rfl | rfl | rfl
      · exact h0
      · exact h1
      · exact h2
    · by_cases k1 : k < 291
      · have := congrArg (fun l => l.getD (k - 3) 0) h3
        simp only [dnR] at this
        rwa [seg_get (by omega), seg_get (by omega), show 3 + (k - 3) = k by omega] at this
      · have := congrArg (fun l => l.getD (k - 291) 0) h4
        simp only [upR] at this
        rwa [seg_get (by omega), seg_get (by omega), show 291 + (k - 291) = k by omega] at this
  · rintro rfl; exact ⟨rfl, rfl, rfl, rfl, rfl⟩
theorem eql_c (C D : List Int) (hC : C.length = 579) (hD : D.length = 579) (w : World) : (Op.equalIn 10000 28 (.agg (vals C).toArray) (.agg (vals D).toArray)).run Tryz.prog w = .ok (C == D) w := by
  have hst := run_equalIn_struct (P := Tryz.prog) w 9999 28 (vals C).toArray (vals D).toArray c_under (by kernel_rfl)
  have hi : ∀ x y : Int, (Op.equalIn 9999 3 (.int .i64 x) (.int .i64 y)).run Tryz.prog w = .ok (x == y) w := fun x y => run_equalIn_int w 9998 3 .i64 .i64 x y Tryz.underlying3
  have hr : ∀ R T : List Int, R.length = 288 → T.length = 288 → (Op.equalIn 9999 26 (.agg (vals R).toArray) (.agg (vals T).toArray)).run Tryz.prog w = .ok (R == T) w := fun R T h1 h2 => eql_r_any 9995 R T h1 h2 w
  have q := fun xs o => part_row (P := Tryz.prog) Tryz.underlying26 rfl rr_size xs o w
  obtain ⟨f1, f2, f3, f4, f5, hf, e1, e2, e3, e4, e5⟩ := fields5 c_fields
  injection e1 with e1a e1; injection e1 with e1b e1c
  injection e2 with e2a e2; injection e2 with e2b e2c
  injection e3 with e3a e3; injection e3 with e3b e3c
  injection e4 with e4a e4; injection e4 with e4b e4c
  injection e5 with e5a e5; injection e5 with e5b e5c
  rw [hst, hf, ← same_c hC hD]
  clear hst hf
  refine eqField (by rw [e1c]; decide) (by rw [e1a, e1b]; exact part_int C (by omega) w) (by rw [e1a, e1b]; exact part_int D (by omega) w) (by rw [e1a]; exact hi _ _) ?_
  refine eqField (by rw [e2c]; decide) (by rw [e2a, e2b]; exact part_int C (by omega) w) (by rw [e2a, e2b]; exact part_int D (by omega) w) (by rw [e2a]; exact hi _ _) ?_
  refine eqField (by rw [e3c]; decide) (by rw [e3a, e3b]; exact part_int C (by omega) w) (by rw [e3a, e3b]; exact part_int D (by omega) w) (by rw [e3a]; exact hi _ _) ?_
  refine eqField (by rw [e4c]; decide) (by rw [e4a, e4b]; exact q C 3) (by rw [e4a, e4b]; exact q D 3) (by rw [e4a]; exact hr _ _ (dnR_length hC) (dnR_length hD)) ?_
  refine eqField (by rw [e5c]; decide) (by rw [e5a, e5b]; exact q C 291) (by rw [e5a, e5b]; exact q D 291) (by rw [e5a]; exact hr _ _ (upR_length hC) (upR_length hD)) ?_
  simp [Op.eqFields]

/-! ### Counters that come in. -/
end Go.Proofs.YtbaccghnneidgaaGreat
