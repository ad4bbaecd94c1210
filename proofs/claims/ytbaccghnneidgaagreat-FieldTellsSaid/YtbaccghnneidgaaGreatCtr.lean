/- Counters (579 ints: Init, Low, High, Down, Up): what the document asks of them, in plain lists. No walk. -/
import Derived.Test.YtbaccghnneidgaaGreatRtSum
namespace Go.Proofs.YtbaccghnneidgaaGreat
set_option maxRecDepth 100000
open Go.ChangeShapes Go.WideShapes Go.ChangeAt Go.RowKit

def dnR (C : List Int) : List Int := seg C 3 288
def upR (C : List Int) : List Int := seg C 291 288
theorem dnR_length {C : List Int} (h : C.length = 579) : (dnR C).length = 288 := seg_length (by omega)
theorem upR_length {C : List Int} (h : C.length = 579) : (upR C).length = 288 := seg_length (by omega)

/-! ### A new one. -/
def newB (i l h : Int) : Bool := isB l && isB h && decide (l ≤ i) && decide (i ≤ h) && isB (h - l)
def newC (i l h : Int) : List Int := (((((zer 579).set 0 i).set 1 l).set 2 h).set 3 (i - l)).set 291 (h - i)
def newE (i l h : Int) : Int := if newB i l h = true then 0 else 2
def newA (i l h : Int) : List Int := if newB i l h = true then newC i l h else zer 579
theorem newC_length (i l h : Int) : (newC i l h).length = 579 := by simp [newC, zer_length]
theorem newA_length (i l h : Int) : (newA i l h).length = 579 := by unfold newA; split; exact newC_length _ _ _; exact zer_length 579
theorem newB_iff {i l h : Int} : newB i l h = true ↔ isB l = true ∧ isB h = true ∧ l ≤ i ∧ i ≤ h ∧ isB (h - l) = true := by
  simp only [newB, Bool.and_eq_true, decide_eq_true_eq, and_assoc]
theorem new_yes {i l h : Int} (hb : newB i l h = true) : newE i l h = 0 ∧ newA i l h = newC i l h := by simp [newE, newA, hb]
theorem new_no {i l h : Int} (hb : newB i l h = false) : newE i l h = 2 ∧ newA i l h = zer 579 := by simp [newE, newA, hb]

/-! ### Two changes. -/
def bothE (e1 e2 : Int) : Int := if e1 = 0 then e2 else e1
def bothA (C : List Int) (o1 : Nat) (A1 : List Int) (o2 : Nat) (A2 : List Int) (e1 e2 : Int) : List Int := if bothE e1 e2 = 0 then splice (splice C o1 A1) o2 A2 else zer 579
theorem bothA_length {C : List Int} (h : C.length = 579) (o1 : Nat) (A1 : List Int) (o2 : Nat) (A2 : List Int) (e1 e2 : Int) : (bothA C o1 A1 o2 A2 e1 e2).length = 579 := by
  unfold bothA; split
  · rw [splice_length, splice_length, h]
  · exact zer_length 579
theorem both_fst {e1 e2 : Int} (h : e1 ≠ 0) : bothE e1 e2 = e1 := by simp [bothE, h]
theorem both_snd {e2 : Int} : bothE 0 e2 = e2 := by simp [bothE]
theorem bothA_no {C : List Int} {o1 : Nat} {A1 : List Int} {o2 : Nat} {A2 : List Int} {e1 e2 : Int} (h : bothE e1 e2 ≠ 0) : bothA C o1 A1 o2 A2 e1 e2 = zer 579 := by simp [bothA, h]
theorem bothA_yes {C : List Int} {o1 : Nat} {A1 : List Int} {o2 : Nat} {A2 : List Int} : bothA C o1 A1 o2 A2 0 0 = splice (splice C o1 A1) o2 A2 := by simp [bothA, bothE]

def incE (C : List Int) (k n : Int) : Int := bothE (useE (upR C) k n) (grE (dnR C) 0 k n)
def incA (C : List Int) (k n : Int) : List Int := bothA C 291 (useA (upR C) k n) 3 (grA (dnR C) 0 k n) (useE (upR C) k n) (grE (dnR C) 0 k n)
def decE (C : List Int) (k n : Int) : Int := bothE (useE (dnR C) k n) (grE (upR C) 0 k n)
def decA (C : List Int) (k n : Int) : List Int := bothA C 3 (useA (dnR C) k n) 291 (grA (upR C) 0 k n) (useE (dnR C) k n) (grE (upR C) 0 k n)
def handE (C : List Int) (i k d u : Int) : Int := bothE (moveE (dnR C) i k d) (moveE (upR C) i k u)
def handA (C : List Int) (i k d u : Int) : List Int := bothA C 3 (moveA (dnR C) i k d) 291 (moveA (upR C) i k u) (moveE (dnR C) i k d) (moveE (upR C) i k u)
theorem incA_length {C : List Int} (h : C.length = 579) (k n : Int) : (incA C k n).length = 579 := bothA_length h _ _ _ _ _ _
theorem decA_length {C : List Int} (h : C.length = 579) (k n : Int) : (decA C k n).length = 579 := bothA_length h _ _ _ _ _ _
theorem handA_length {C : List Int} (h : C.length = 579) (i k d u : Int) : (handA C i k d u).length = 579 := bothA_length h _ _ _ _ _ _
/-- The second change finds what it would have found ahead of the first. -/
theorem dn_after {C A : List Int} (h : C.length = 579) (hA : A.length = 288) : seg (splice C 291 A) 3 288 = dnR C := splice_seg_apart (by omega) (by omega) (by omega)
theorem up_after {C A : List Int} (h : C.length = 579) (hA : A.length = 288) : seg (splice C 3 A) 291 288 = upR C := splice_seg_apart (by omega) (by omega) (by omega)

/-! ### Joined. -/
def sameB (A B : List Int) : Bool := (A.getD 0 0 == B.getD 0 0) && (A.getD 1 0 == B.getD 1 0) && (A.getD 2 0 == B.getD 2 0)
def cjE (A B : List Int) : Int := if sameB A B = true then 0 else 1
def cjC (A B : List Int) : List Int := splice (splice A 3 (joinL (dnR A) (dnR B))) 291 (joinL (upR A) (upR B))
def cjA (A B : List Int) : List Int := if sameB A B = true then cjC A B else zer 579
theorem jl_length {R T : List Int} (hR : R.length = 288) (hT : T.length = 288) : (joinL R T).length = 288 := by simp [joinL, hR, hT]
theorem cjC_length {A B : List Int} (h : A.length = 579) : (cjC A B).length = 579 := by simp [cjC, splice_length, h]
theorem cjA_length {A B : List Int} (h : A.length = 579) : (cjA A B).length = 579 := by unfold cjA; split; exact cjC_length h; exact zer_length 579
theorem cj_yes {A B : List Int} (h : sameB A B = true) : cjE A B = 0 ∧ cjA A B = cjC A B := by simp [cjE, cjA, h]
theorem cj_no {A B : List Int} (h : sameB A B = false) : cjE A B = 1 ∧ cjA A B = zer 579 := by simp [cjE, cjA, h]
theorem sameB_iff {A B : List Int} : sameB A B = true ↔ A.getD 0 0 = B.getD 0 0 ∧ A.getD 1 0 = B.getD 1 0 ∧ A.getD 2 0 = B.getD 2 0 := by
  simp only [sameB, Bool.and_eq_true, beq_iff_eq, and_assoc]

/-! ### The value. -/
def valL (C : List Int) : List Int := (C.getD 0 0 :: seg C 307 16) ++ negs (seg C 19 16)
theorem valL_length {C : List Int} (h : C.length = 579) : (valL C).length = 33 := by simp [valL, negs_length, seg_length (R := C) (o := 307) (n := 16) (by omega), seg_length (R := C) (o := 19) (n := 16) (by omega)]
theorem sumFrom_append : ∀ (xs ys : List Int) (acc : Int), sumFrom acc (xs ++ ys) = (sumFrom acc xs).bind fun s => sumFrom s ys
  | [], _, _ => rfl
  | x :: xs, ys, acc => by
    rw [List.cons_append, sumFrom, sumFrom]
    split
    · exact sumFrom_append xs ys _
    · rfl
/-- What is taken off is what is added with its sign turned. -/
theorem ok_ng {v u : Int} (h1 : -9223372036854775808 ≤ u) (h2 : u ≤ 9223372036854775807) : okB v (ng u) (v + ng u) = okB v u (v - u) := by
  by_cases hu : isB u = true
  · obtain ⟨u1, u2⟩ := isB_iff.1 hu
    rw [ng_small (by omega) (by omega)]
    have : isB (-u) = true := isB_iff.2 (by omega)
    simp only [okB, hu, this, show v + -u = v - u by omega]
  · have hu : isB u = false := by simpa using hu
    have hn : isB (ng u) = false := by
      rw [isB_not] at hu ⊢
      unfold ng wrap64; omega
    rw [okB_b hu, okB_b hn]
theorem ng_ok {v u : Int} (h : okB v u (v - u) = true) : v + ng u = v - u := by
  obtain ⟨_, h2, _⟩ := okB_iff.1 h
  obtain ⟨u1, u2⟩ := isB_iff.1 h2
  rw [ng_small (by omega) (by omega)]; omega

/-! ### Whether one may be. -/
def tieB (G : List Int) (d : Int) (U : List Int) : Bool := decide (tot G ≤ 1099511627776) && decide (tot G = d + tot U)
def rightC (C : List Int) : Bool := ((isB (C.getD 1 0) && isB (C.getD 2 0) && decide (C.getD 1 0 ≤ C.getD 0 0) && decide (C.getD 0 0 ≤ C.getD 2 0)) && (rightsB (dnR C) && rightsB (upR C))) &&
  (tieB (seg C 3 16) (C.getD 0 0 - C.getD 1 0) (seg C 307 16) && tieB (seg C 291 16) (C.getD 2 0 - C.getD 0 0) (seg C 19 16))
def covB (G : List Int) (h l : Int) (U : List Int) : Bool := (sumE G == 0) && (sumE (h :: ng l :: U) == 0) && (sumN G == sumN (h :: ng l :: U))
def rcovB (G : List Int) (d : Int) (U : List Int) : Bool := (sumE G == 0) && (sumE U == 0) && (addE d (sumN U) == 0) && (sumN G == addN d (sumN U))
theorem rightB_pos {xs : List Int} (h : rightB xs = true) : ∀ z ∈ xs, 0 ≤ z ∧ z ≤ 1099511627776 := by
  intro z hz
  have := List.all_eq_true.1 h z hz
  simpa using this
theorem sum_cases {xs : List Int} (h : ∀ z ∈ xs, 0 ≤ z) : (tot xs ≤ 1099511627776 ∧ sumN xs = tot xs ∧ sumE xs = 0) ∨ (1099511627776 < tot xs ∧ sumN xs = 0 ∧ sumE xs = 2) := by
  by_cases ht : tot xs ≤ 1099511627776
  · exact .inl ⟨ht, sum_fits h ht⟩
  · exact .inr ⟨by omega, sum_over h (by omega)⟩
theorem sum_head {h l : Int} {U : List Int} (hh : isB h = true) (hl : isB l = true) (hle : l ≤ h) (hU : ∀ z ∈ U, 0 ≤ z) : (h - l + tot U ≤ 1099511627776 ∧ sumN (h :: ng l :: U) = h - l + tot U ∧ sumE (h :: ng l :: U) = 0) ∨ (1099511627776 < h - l + tot U ∧ sumN (h :: ng l :: U) = 0 ∧ sumE (h :: ng l :: U) = 2) := by
  obtain ⟨h1, h2⟩ := isB_iff.1 hh
  obtain ⟨l1, l2⟩ := isB_iff.1 hl
  have ht := tot_nonneg hU
  have e : ng l = -l := ng_small (by omega) (by omega)
  have ok1 : okB 0 h (0 + h) = true := okB_iff.2 ⟨isB_zero, hh, by rw [Int.zero_add]; exact hh⟩
  have s1 : sumFrom 0 (h :: ng l :: U) = if okB h (-l) (h + -l) then sumFrom (h + -l) U else none := by rw [sumFrom, if_pos ok1, sumFrom, Int.zero_add, e]
  by_cases hd : h - l ≤ 1099511627776
  · have ok2 : okB h (-l) (h + -l) = true := okB_iff.2 ⟨hh, isB_iff.2 (by omega), isB_iff.2 (by omega)⟩
    rw [if_pos ok2, sumFrom_tot hU _ (by omega) (by omega)] at s1
    by_cases ht : h - l + tot U ≤ 1099511627776
    · rw [if_pos (by omega)] at s1
      obtain ⟨a, b⟩ := sumN_some s1
      exact .inl ⟨ht, by rw [a]; omega, b⟩
    · rw [if_neg (by omega)] at s1
      exact .inr ⟨by omega, sumN_none s1⟩
  · have ok2 : okB h (-l) (h + -l) = false := okB_r (isB_not.2 (by omega))
    rw [if_neg (by simp [ok2])] at s1
    exact .inr ⟨by omega, sumN_none s1⟩
theorem cov_tie {G U : List Int} {h l : Int} (hh : isB h = true) (hl : isB l = true) (hle : l ≤ h) (hG : rightB G = true) (hU : rightB U = true) : covB G h l U = tieB G (h - l) U := by
  have hG' := rightB_pos hG
  have hU' := rightB_pos hU
  unfold covB tieB
  rcases sum_cases (fun z hz => (hG' z hz).1) with ⟨g1, g2, g3⟩ | ⟨g1, g2, g3⟩
  · rcases sum_head hh hl hle (fun z hz => (hU' z hz).1) with ⟨u1, u2, u3⟩ | ⟨u1, u2, u3⟩
    · rw [g2, g3, u2, u3, Bool.eq_iff_iff]; simp [g1]
    · rw [g2, g3, u2, u3, Bool.eq_iff_iff]; simp; omega
  · rw [g2, g3, Bool.eq_iff_iff]; simp; omega
theorem rcov_tie {G U : List Int} {d : Int} (hd : 0 ≤ d) (hG : rightB G = true) (hU : rightB U = true) : rcovB G d U = tieB G d U := by
  have hG' := rightB_pos hG
  have hU' := rightB_pos hU
  have ht := tot_nonneg (fun z hz => (hU' z hz).1)
  unfold rcovB tieB
  rcases sum_cases (fun z hz => (hG' z hz).1) with ⟨g1, g2, g3⟩ | ⟨g1, g2, g3⟩
  · rcases sum_cases (fun z hz => (hU' z hz).1) with ⟨u1, u2, u3⟩ | ⟨u1, u2, u3⟩
    · by_cases hs : d + tot U ≤ 1099511627776
      · obtain ⟨a1, a2⟩ := addE_ok (okB_iff.2 ⟨isB_iff.2 (show -1099511627776 ≤ d ∧ d ≤ 1099511627776 by omega), isB_iff.2 (show -1099511627776 ≤ tot U ∧ tot U ≤ 1099511627776 by omega), isB_iff.2 (by omega)⟩)
        rw [g2, g3, u2, u3, a1, a2, Bool.eq_iff_iff]; simp [g1]
      · obtain ⟨a1, a2⟩ := addE_no (okB_r (a := d) (b := tot U) (isB_not.2 (by omega)))
        rw [g2, g3, u2, u3, a1, a2, Bool.eq_iff_iff]; simp; omega
    · rw [g2, g3, u2, u3, Bool.eq_iff_iff]; simp; omega
  · rw [g2, g3, Bool.eq_iff_iff]; simp; omega
theorem rights_vecs {R : List Int} (h : rightsB R = true) : rightB (seg R 0 16) = true ∧ rightB (seg R 16 16) = true := by
  have := (rightsB_iff.1 h).1
  exact ⟨this 0 (by omega), this 1 (by omega)⟩
theorem dn_given (C : List Int) : seg (dnR C) 0 16 = seg C 3 16 := seg_seg (by omega)
theorem dn_used (C : List Int) : seg (dnR C) 16 16 = seg C 19 16 := seg_seg (by omega)
theorem up_given (C : List Int) : seg (upR C) 0 16 = seg C 291 16 := seg_seg (by omega)
theorem up_used (C : List Int) : seg (upR C) 16 16 = seg C 307 16 := seg_seg (by omega)
/-- The vectors of a counter whose rights may be. -/
theorem c_vecs {C : List Int} (h1 : rightsB (dnR C) = true) (h2 : rightsB (upR C) = true) : rightB (seg C 3 16) = true ∧ rightB (seg C 19 16) = true ∧ rightB (seg C 291 16) = true ∧ rightB (seg C 307 16) = true := by
  have a := rights_vecs h1
  have b := rights_vecs h2
  rw [dn_given, dn_used] at a
  rw [up_given, up_used] at b
  exact ⟨a.1, a.2, b.1, b.2⟩
end Go.Proofs.YtbaccghnneidgaaGreat
