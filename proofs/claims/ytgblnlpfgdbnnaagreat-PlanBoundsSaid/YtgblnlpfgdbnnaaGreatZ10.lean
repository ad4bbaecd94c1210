/- Plain arithmetic of layer 3: what is free, and in all, of numbers that are not too great; what a change of one number does to it. No walk.; Counters (579 ints: Init, Low, High, Down, Up): what the document asks of them, in plain lists. No walk.; Counters in memory: what the operations on them do; when two are the same; counters that come in.; Locks in memory: what the operations on them do; when two are the same; locks that come in.; Fields in memory: blocks of any cells that a call keeps, beside slices of holds that lie apart from them; the cells of a field, and what the operations on them do.; A field's cells (its name, kind, epoch, counter, lock, and the slice of its holds), and what the operations on kept blocks do: boxes, zeros, loads and stores of a cell or of a part.; Contracts of which hold goes ahead: cmp.Or, hold.byName, and the document's Ahead. -/
import Derived.Test.YtgblnlpfgdbnnaaGreatZ06
namespace Go.Proofs.YtgblnlpfgdbnnaaGreat
set_option maxRecDepth 100000
open Go.ChangeShapes Go.WideShapes Go.ChangeAt Go.RowKit

def sumF (f : Nat → Int) : Nat → Int
  | 0 => 0
  | n + 1 => sumF f n + f n
theorem tot_map (f : Nat → Int) : ∀ n, tot ((List.range n).map f) = sumF f n
  | 0 => rfl
  | n + 1 => by rw [List.range_succ, List.map_append, tot_append, tot_map f n]; simp [tot, sumF]
theorem sumF_le {f g : Nat → Int} : ∀ {n : Nat}, (∀ i, i < n → f i ≤ g i) → sumF f n ≤ sumF g n
  | 0, _ => by simp [sumF]
  | n + 1, h => by
    have h1 := sumF_le (n := n) (fun i hi => h i (by omega))
    have h2 := h n (by omega)
    simp only [sumF]; omega
theorem sumF_zero : ∀ n, sumF (fun _ => 0) n = 0
  | 0 => rfl
  | n + 1 => by simp only [sumF, sumF_zero n]; omega
/-- What is free at k, whatever it comes to. -/
def V (f : Nat → Int) (k : Nat) : Int := f k + sumF (fun m => f (32 + m * 16 + k)) 16 - f (16 + k) - sumF (fun m => f (32 + k * 16 + m)) 16
/-! ### Sums that can be told. -/
theorem sumFrom_small {B : Int} : ∀ {l : List Int} {acc : Int}, (∀ z ∈ l, -B ≤ z ∧ z ≤ B) → 0 ≤ B → -(1099511627776 - B * l.length) ≤ acc → acc ≤ 1099511627776 - B * l.length → sumFrom acc l = some (acc + tot l)
  | [], acc, _, _, _, _ => by simp [sumFrom, tot]
  | z :: l, acc, h, hB, h1, h2 => by
    have hz := h z (by simp)
    have e : B * ((z :: l).length : Int) = B * (l.length : Int) + B := by rw [List.length_cons]; push_cast; rw [Int.mul_add, Int.mul_one]
    rw [e] at h1 h2
    have hn : 0 ≤ B * (l.length : Int) := Int.mul_nonneg hB (by omega)
    have hok : okB acc z (acc + z) = true := okB_iff.2 ⟨isB_iff.2 (by omega), isB_iff.2 (by omega), isB_iff.2 (by omega)⟩
    rw [sumFrom, if_pos hok, sumFrom_small (fun y hy => h y (by simp [hy])) hB (by omega) (by omega)]
    simp only [tot]; congr 1; omega
theorem sum_small {B : Int} {l : List Int} (h : ∀ z ∈ l, -B ≤ z ∧ z ≤ B) (hB : 0 ≤ B) (hl : B * l.length ≤ 1099511627776) : sumE l = 0 ∧ sumN l = tot l := by
  have := sumFrom_small (acc := 0) h hB (by omega) (by omega)
  obtain ⟨h1, h2⟩ := sumN_some this
  exact ⟨h2, by rw [h1]; omega⟩

theorem ng_small {z : Int} (h1 : -9223372036854775808 < z) (h2 : z ≤ 9223372036854775807) : ng z = -z := by unfold ng wrap64; omega
theorem tot_negs : ∀ {l : List Int}, (∀ z ∈ l, -9223372036854775808 < z ∧ z ≤ 9223372036854775807) → tot (negs l) = - tot l
  | [], _ => rfl
  | z :: l, h => by
    have h1 := tot_negs (l := l) (fun y hy => h y (by simp [hy]))
    have h2 := ng_small (h z (by simp)).1 (h z (by simp)).2
    simp only [negs, List.map_cons, tot] at h1 ⊢
    rw [h2]; omega
/-- The numbers of rights, by their places. -/
abbrev at_ (R : List Int) : Nat → Int := fun i => R.getD i 0
theorem mem_at {R : List Int} {z : Int} (h : z ∈ R) : ∃ i, i < R.length ∧ R.getD i 0 = z := by
  obtain ⟨i, hi, rfl⟩ := List.getElem_of_mem h
  exact ⟨i, hi, by simp [List.getD, hi]⟩
theorem mem_seg {R : List Int} {o n : Nat} {z : Int} (hr : o + n ≤ R.length) (h : z ∈ seg R o n) : ∃ i, i < n ∧ R.getD (o + i) 0 = z := by
  obtain ⟨i, hi, e⟩ := mem_at h
  rw [seg_length hr] at hi
  rw [seg_get hi] at e
  exact ⟨i, hi, e⟩
theorem tot_fl {R : List Int} (hR : R.length = 288) {k : Nat} (hk : k < 16) (h : ∀ i, i < 288 → -9223372036854775808 < R.getD i 0 ∧ R.getD i 0 ≤ 9223372036854775807) : tot (fl R k) = V (at_ R) k := by
  have n1 : tot (negs [R.getD (16 + k) 0]) = - tot [R.getD (16 + k) 0] := tot_negs (fun z hz => by rw [List.mem_singleton] at hz; subst hz; exact h _ (by omega))
  have n2 : tot (negs (seg R (32 + k * 16) 16)) = - tot (seg R (32 + k * 16) 16) := tot_negs (fun z hz => by
    obtain ⟨i, hi, rfl⟩ := mem_seg (by omega) hz
    exact h _ (by omega))
  rw [fl, tot_append, tot_append, n1, n2, seg_map (R := R) (o := 32 + k * 16) (n := 16) (by omega), tot_map]
  simp only [tot, colL, tot_map, V, at_]
  omega
/-- Of numbers from 0 up to B what is free, and in all, can be told. -/
theorem free_small {R : List Int} (hR : R.length = 288) {B : Int} (h : ∀ i, i < 288 → 0 ≤ R.getD i 0 ∧ R.getD i 0 ≤ B) (hB : 34 * B ≤ 1099511627776) {k : Nat} (hk : k < 16) : freeE R k = 0 ∧ freeN R k = V (at_ R) k := by
  have hB0 : 0 ≤ B := by have := h 0 (by omega); omega
  obtain ⟨e1, e2⟩ := free_yes (R := R) hk
  have hall : ∀ z ∈ fl R k, -B ≤ z ∧ z ≤ B := by
    intro z hz
    simp only [fl, List.mem_append, List.mem_cons] at hz
    rcases hz with (rfl | hz) | hz | hz
    · have := h k (by omega); omega
    · obtain ⟨i, hi, rfl⟩ := mem_at hz
      rw [colL_length] at hi
      rw [colL_get hi]
      have := h (32 + i * 16 + k) (by omega); omega
    · simp only [negs, List.map_cons, List.map_nil, List.mem_singleton] at hz
      have := h (16 + k) (by omega)
      rw [hz, ng_small (by omega) (by omega)]; omega
    · obtain ⟨i, hi, rfl⟩ := mem_at hz
      rw [negs_length, seg_length (by omega)] at hi
      have := h (32 + k * 16 + i) (by omega)
      rw [negs_get (by rw [seg_length (by omega)]; exact hi), seg_get hi, ng_small (by omega) (by omega)]; omega
  have hlen : ((fl R k).length : Int) = 34 := by simp [fl, colL_length, negs_length, seg_length (R := R) (o := 32 + k * 16) (n := 16) (by omega)]
  obtain ⟨s1, s2⟩ := sum_small hall hB0 (by rw [hlen]; omega)
  exact ⟨by rw [e2, s1], by rw [e1, s2, tot_fl hR hk (fun i hi => by have := h i hi; omega)]⟩
/-! ### What grows. -/
theorem splice_set {R : List Int} {o j : Nat} {v : Int} (h : o + 16 ≤ R.length) (hj : j < 16) : splice R o ((seg R o 16).set j v) = R.set (o + j) v := by
  have hl : ((seg R o 16).set j v).length = 16 := by rw [List.length_set, seg_length h]
  refine ext_get (by rw [splice_length, List.length_set]) fun k hk => ?_
  rw [splice_length] at hk
  rw [splice_get _ _ _ _ (by rw [hl]; exact h), hl, set_get (xs := R) (show o + j < R.length by omega)]
  by_cases h1 : o ≤ k ∧ k < o + 16
  · rw [if_pos h1, set_get (xs := seg R o 16) (by rw [seg_length h]; exact hj)]
    by_cases h2 : k = o + j
    · rw [if_pos h2, if_pos (by omega)]
    · rw [if_neg h2, if_neg (by omega), seg_get (by omega)]; congr 1; omega
  · rw [if_neg h1, if_neg (by omega)]
/-- What grew: one number of the vector at o is greater by n. -/
theorem gr_zero {R : List Int} {o : Nat} (ho : o + 16 ≤ R.length) {k n : Int} (h : grE R o k n = 0) : ∃ j : Nat, k = j ∧ j < 16 ∧ 0 ≤ n ∧ okB (R.getD (o + j) 0) n (R.getD (o + j) 0 + n) = true ∧ grA R o k n = R.set (o + j) (R.getD (o + j) 0 + n) := by
  obtain ⟨j, rfl, hj, hn, hok, e⟩ := grow_zero (seg_length ho) h
  rw [seg_get hj] at hok e
  exact ⟨j, rfl, hj, hn, hok, by rw [grA_ok h, e, splice_set ho hj]⟩

def dnR (C : List Int) : List Int := seg C 3 288
def upR (C : List Int) : List Int := seg C 291 288
theorem dnR_length {C : List Int} (h : C.length = 579) : (dnR C).length = 288 := seg_length (by omega)
theorem upR_length {C : List Int} (h : C.length = 579) : (upR C).length = 288 := seg_length (by omega)

/-! ### A new one. -/
def newB (i l h : Int) : Bool := isB l && isB h && decide (l ≤ i) && decide (i ≤ h) && isB (h - l)
def newC (i l h : Int) : List Int := (((((zer 579).set 0 i).set 1 l).set 2 h).set 3 (i - l)).set 291 (h - i)
def newE (i l h : Int) : Int := if newB i l h = true then 0 else 2
def newA (i l h : Int) : List Int := if newB i l h = true then newC i l h else zer 579
theorem newC_length (i l h : Int) : (newC i l h).length = 579 := by simp [newC, zer_length]
theorem newA_length (i l h : Int) : (newA i l h).length = 579 := by unfold newA; split; exact newC_length _ _ _; exact zer_length 579
theorem newB_iff {i l h : Int} : newB i l h = true ↔ isB l = true ∧ isB h = true ∧ l ≤ i ∧ i ≤ h ∧ isB (h - l) = true := by
  simp only [newB, Bool.and_eq_true, decide_eq_true_eq, and_assoc]
theorem new_yes {i l h : Int} (hb : newB i l h = true) : newE i l h = 0 ∧ newA i l h = newC i l h := by simp [newE, newA, hb]
theorem new_no {i l h : Int} (hb : newB i l h = false) : newE i l h = 2 ∧ newA i l h = zer 579 := by simp [newE, newA, hb]

/-! ### Two changes. -/
def bothE (e1 e2 : Int) : Int := if e1 = 0 then e2 else e1
def bothA (C : List Int) (o1 : Nat) (A1 : List Int) (o2 : Nat) (A2 : List Int) (e1 e2 : Int) : List Int := if bothE e1 e2 = 0 then splice (splice C o1 A1) o2 A2 else zer 579
theorem bothA_length {C : List Int} (h : C.length = 579) (o1 : Nat) (A1 : List Int) (o2 : Nat) (A2 : List Int) (e1 e2 : Int) : (bothA C o1 A1 o2 A2 e1 e2).length = 579 := by
  unfold bothA; split
  · rw [splice_length, splice_length, h]
  · exact zer_length 579
theorem bothA_yes {C : List Int} {o1 : Nat} {A1 : List Int} {o2 : Nat} {A2 : List Int} : bothA C o1 A1 o2 A2 0 0 = splice (splice C o1 A1) o2 A2 := by simp [bothA, bothE]

def incE (C : List Int) (k n : Int) : Int := bothE (useE (upR C) k n) (grE (dnR C) 0 k n)
def incA (C : List Int) (k n : Int) : List Int := bothA C 291 (useA (upR C) k n) 3 (grA (dnR C) 0 k n) (useE (upR C) k n) (grE (dnR C) 0 k n)
def decE (C : List Int) (k n : Int) : Int := bothE (useE (dnR C) k n) (grE (upR C) 0 k n)
def decA (C : List Int) (k n : Int) : List Int := bothA C 3 (useA (dnR C) k n) 291 (grA (upR C) 0 k n) (useE (dnR C) k n) (grE (upR C) 0 k n)
theorem incA_length {C : List Int} (h : C.length = 579) (k n : Int) : (incA C k n).length = 579 := bothA_length h _ _ _ _ _ _
theorem decA_length {C : List Int} (h : C.length = 579) (k n : Int) : (decA C k n).length = 579 := bothA_length h _ _ _ _ _ _
/-! ### Joined. -/
/-! ### The value. -/
def valL (C : List Int) : List Int := (C.getD 0 0 :: seg C 307 16) ++ negs (seg C 19 16)
theorem sumFrom_append : ∀ (xs ys : List Int) (acc : Int), sumFrom acc (xs ++ ys) = (sumFrom acc xs).bind fun s => sumFrom s ys
  | [], _, _ => rfl
  | x :: xs, ys, acc => by
    rw [List.cons_append, sumFrom, sumFrom]
    split
    · exact sumFrom_append xs ys _
    · rfl
/-- What is taken off is what is added with its sign turned. -/
theorem ok_ng {v u : Int} (h1 : -9223372036854775808 ≤ u) (h2 : u ≤ 9223372036854775807) : okB v (ng u) (v + ng u) = okB v u (v - u) := by
  by_cases hu : isB u = true
  · obtain ⟨u1, u2⟩ := isB_iff.1 hu
    rw [ng_small (by omega) (by omega)]
    have : isB (-u) = true := isB_iff.2 (by omega)
    simp only [okB, hu, this, show v + -u = v - u by omega]
  · have hu : isB u = false := by simpa using hu
    have hn : isB (ng u) = false := by
      rw [isB_not] at hu ⊢
      unfold ng wrap64; omega
    rw [okB_b hu, okB_b hn]
theorem ng_ok {v u : Int} (h : okB v u (v - u) = true) : v + ng u = v - u := by
  obtain ⟨_, h2, _⟩ := okB_iff.1 h
  obtain ⟨u1, u2⟩ := isB_iff.1 h2
  rw [ng_small (by omega) (by omega)]; omega

/-! ### Whether one may be. -/
def tieB (G : List Int) (d : Int) (U : List Int) : Bool := decide (tot G ≤ 1099511627776) && decide (tot G = d + tot U)
def rightC (C : List Int) : Bool := ((isB (C.getD 1 0) && isB (C.getD 2 0) && decide (C.getD 1 0 ≤ C.getD 0 0) && decide (C.getD 0 0 ≤ C.getD 2 0)) && (rightsB (dnR C) && rightsB (upR C))) &&
  (tieB (seg C 3 16) (C.getD 0 0 - C.getD 1 0) (seg C 307 16) && tieB (seg C 291 16) (C.getD 2 0 - C.getD 0 0) (seg C 19 16))
def covB (G : List Int) (h l : Int) (U : List Int) : Bool := (sumE G == 0) && (sumE (h :: ng l :: U) == 0) && (sumN G == sumN (h :: ng l :: U))
theorem rightB_pos {xs : List Int} (h : rightB xs = true) : ∀ z ∈ xs, 0 ≤ z ∧ z ≤ 1099511627776 := by
  intro z hz
  have := List.all_eq_true.1 h z hz
  simpa using this
theorem sum_cases {xs : List Int} (h : ∀ z ∈ xs, 0 ≤ z) : (tot xs ≤ 1099511627776 ∧ sumN xs = tot xs ∧ sumE xs = 0) ∨ (1099511627776 < tot xs ∧ sumN xs = 0 ∧ sumE xs = 2) := by
  by_cases ht : tot xs ≤ 1099511627776
  · exact .inl ⟨ht, sum_fits h ht⟩
  · exact .inr ⟨by omega, sum_over h (by omega)⟩
theorem sum_head {h l : Int} {U : List Int} (hh : isB h = true) (hl : isB l = true) (hle : l ≤ h) (hU : ∀ z ∈ U, 0 ≤ z) : (h - l + tot U ≤ 1099511627776 ∧ sumN (h :: ng l :: U) = h - l + tot U ∧ sumE (h :: ng l :: U) = 0) ∨ (1099511627776 < h - l + tot U ∧ sumN (h :: ng l :: U) = 0 ∧ sumE (h :: ng l :: U) = 2) := by
  obtain ⟨h1, h2⟩ := isB_iff.1 hh
  obtain ⟨l1, l2⟩ := isB_iff.1 hl
  have ht := tot_nonneg hU
  have e : ng l = -l := ng_small (by omega) (by omega)
  have ok1 : okB 0 h (0 + h) = true := okB_iff.2 ⟨isB_zero, hh, by rw [Int.zero_add]; exact hh⟩
  have s1 : sumFrom 0 (h :: ng l :: U) = if okB h (-l) (h + -l) then sumFrom (h + -l) U else none := by rw [sumFrom, if_pos ok1, sumFrom, Int.zero_add, e]
  by_cases hd : h - l ≤ 1099511627776
  · have ok2 : okB h (-l) (h + -l) = true := okB_iff.2 ⟨hh, isB_iff.2 (by omega), isB_iff.2 (by omega)⟩
    rw [if_pos ok2, sumFrom_tot hU _ (by omega) (by omega)] at s1
    by_cases ht : h - l + tot U ≤ 1099511627776
    · rw [if_pos (by omega)] at s1
      obtain ⟨a, b⟩ := sumN_some s1
      exact .inl ⟨ht, by rw [a]; omega, b⟩
    · rw [if_neg (by omega)] at s1
      exact .inr ⟨by omega, sumN_none s1⟩
  · have ok2 : okB h (-l) (h + -l) = false := okB_r (isB_not.2 (by omega))
    rw [if_neg (by simp [ok2])] at s1
    exact .inr ⟨by omega, sumN_none s1⟩
theorem cov_tie {G U : List Int} {h l : Int} (hh : isB h = true) (hl : isB l = true) (hle : l ≤ h) (hG : rightB G = true) (hU : rightB U = true) : covB G h l U = tieB G (h - l) U := by
  have hG' := rightB_pos hG
  have hU' := rightB_pos hU
  unfold covB tieB
  rcases sum_cases (fun z hz => (hG' z hz).1) with ⟨g1, g2, g3⟩ | ⟨g1, g2, g3⟩
  · rcases sum_head hh hl hle (fun z hz => (hU' z hz).1) with ⟨u1, u2, u3⟩ | ⟨u1, u2, u3⟩
    · rw [g2, g3, u2, u3, Bool.eq_iff_iff]; simp [g1]
    · rw [g2, g3, u2, u3, Bool.eq_iff_iff]; simp; omega
  · rw [g2, g3, Bool.eq_iff_iff]; simp; omega
theorem rights_vecs {R : List Int} (h : rightsB R = true) : rightB (seg R 0 16) = true ∧ rightB (seg R 16 16) = true := by
  have := (rightsB_iff.1 h).1
  exact ⟨this 0 (by omega), this 1 (by omega)⟩
theorem dn_given (C : List Int) : seg (dnR C) 0 16 = seg C 3 16 := seg_seg (by omega)
theorem dn_used (C : List Int) : seg (dnR C) 16 16 = seg C 19 16 := seg_seg (by omega)
theorem up_given (C : List Int) : seg (upR C) 0 16 = seg C 291 16 := seg_seg (by omega)
theorem up_used (C : List Int) : seg (upR C) 16 16 = seg C 307 16 := seg_seg (by omega)
/-- The vectors of a counter whose rights may be. -/
theorem c_vecs {C : List Int} (h1 : rightsB (dnR C) = true) (h2 : rightsB (upR C) = true) : rightB (seg C 3 16) = true ∧ rightB (seg C 19 16) = true ∧ rightB (seg C 291 16) = true ∧ rightB (seg C 307 16) = true := by
  have a := rights_vecs h1
  have b := rights_vecs h2
  rw [dn_given, dn_used] at a
  rw [up_given, up_used] at b
  exact ⟨a.1, a.2, b.1, b.2⟩

theorem c_info : (Tryz.prog.info? 38).map (·.size) = some 579 := by kernel_rfl
theorem c_zero : (Tryz.prog.info? 38).bind (·.zero) = some (.agg (vals (zer 579)).toArray) := by kernel_rfl
theorem c_build (W : World) : (Instr.build 38 #[]).run Tryz.prog W = .ok (.agg (vals (zer 579)).toArray) W := by kernel_rfl
def three (a b c : Int) : List Int := (((zer 579).set 0 a).set 1 b).set 2 c
theorem three_length (a b c : Int) : (three a b c).length = 579 := by simp [three, zer_length]
theorem c_build3 (a b c : Int) (W : World) : (Instr.build 38 #[(0, .int .i64 a), (1, .int .i64 b), (2, .int .i64 c)]).run Tryz.prog W = .ok (.agg (vals (three a b c)).toArray) W := by kernel_rfl
theorem build_three {ops : Array Oper} {rest : List Oper} {o : Oper} {a : Act} {u : World} {Q : Exit → Act → World → Prop} (hgd : o.guard = none) (x y z : Operand) (ho : o.op = .build 38 #[(0, x), (1, y), (2, z)]) {p q r : Int}
    (hx : a.eval x = .int .i64 p) (hy : a.eval y = .int .i64 q) (hz : a.eval z = .int .i64 r)
    (h : wpList Tryz.prog ops Q rest (a.put o.dst (.agg (vals (three p q r)).toArray)) u) : wpList Tryz.prog ops Q (o :: rest) a u :=
  wpList_plain hgd fun K hK => by
    unfold Oper.wp execOp
    simp only [ho, List.map_toArray, List.map_cons, List.map_nil, hx, hy, hz, Sem.run_bind, Sem.run_pure, Result.andThen_ok, c_build3]
    exact hK _ _ h
theorem new_stores (i l h : Int) : ((three i l h).set 3 (i - l)).set 291 (h - i) = newC i l h := rfl

/-! ### Ints in kept blocks. -/
/-! ### Results. -/
/-! ### Equality. -/
theorem c_fields : (Tryz.prog.fieldsOf 38).toList.map (fun f => (f.type, f.offset, f.name)) = [(3, 0, "Init"), (3, 1, "Low"), (3, 2, "High"), (36, 3, "Down"), (36, 291, "Up")] := by kernel_rfl
theorem c_under : Tryz.prog.underlying 38 = some (.struct (Tryz.prog.fieldsOf 38)) := by kernel_rfl
theorem rr_size : ∀ w, (sizeOf 36).run Tryz.prog w = .ok 288 w := fun w => by kernel_rfl
theorem fields5 {fs : List Field} {x1 x2 x3 x4 x5 : TypeId × Nat × String} (h : fs.map (fun f => (f.type, f.offset, f.name)) = [x1, x2, x3, x4, x5]) : ∃ f1 f2 f3 f4 f5, fs = [f1, f2, f3, f4, f5] ∧ (f1.type, f1.offset, f1.name) = x1 ∧ (f2.type, f2.offset, f2.name) = x2 ∧ (f3.type, f3.offset, f3.name) = x3 ∧ (f4.type, f4.offset, f4.name) = x4 ∧ (f5.type, f5.offset, f5.name) = x5 := by
  match fs, h with
  | [f1, f2, f3, f4, f5], h => exact ⟨f1, f2, f3, f4, f5, rfl, by simpa using h⟩
theorem same_c {C D : List Int} (hC : C.length = 579) (hD : D.length = 579) : ((C.getD 0 0 == D.getD 0 0) && ((C.getD 1 0 == D.getD 1 0) && ((C.getD 2 0 == D.getD 2 0) && ((dnR C == dnR D) && ((upR C == upR D) && true))))) = (C == D) := by
  rw [Bool.eq_iff_iff]
  simp only [Bool.and_eq_true, beq_iff_eq, and_true]
  constructor
  · rintro ⟨h0, h1, h2, h3, h4⟩
    refine ext_get (by omega) fun k hk => ?_
    by_cases k0 : k < 3
    · have : k = 0 ∨ k = 1 ∨ k = 2 := by omega
      rcases this with rfl | rfl | rfl
      · exact h0
      · exact h1
      · exact h2
    · by_cases k1 : k < 291
      · have := congrArg (fun l => l.getD (k - 3) 0) h3
        simp only [dnR] at this
        rwa [seg_get (by omega), seg_get (by omega), show 3 + (k - 3) = k by omega] at this
      · have := congrArg (fun l => l.getD (k - 291) 0) h4
        simp only [upR] at this
        rwa [seg_get (by omega), seg_get (by omega), show 291 + (k - 291) = k by omega] at this
  · rintro rfl; exact ⟨rfl, rfl, rfl, rfl, rfl⟩
theorem eql_c (C D : List Int) (hC : C.length = 579) (hD : D.length = 579) (w : World) : (Op.equalIn 10000 38 (.agg (vals C).toArray) (.agg (vals D).toArray)).run Tryz.prog w = .ok (C == D) w := by
  have hst := run_equalIn_struct (P := Tryz.prog) w 9999 38 (vals C).toArray (vals D).toArray c_under (by kernel_rfl)
  have hi : ∀ x y : Int, (Op.equalIn 9999 3 (.int .i64 x) (.int .i64 y)).run Tryz.prog w = .ok (x == y) w := fun x y => run_equalIn_int w 9998 3 .i64 .i64 x y Tryz.underlying3
  have hr : ∀ R T : List Int, R.length = 288 → T.length = 288 → (Op.equalIn 9999 36 (.agg (vals R).toArray) (.agg (vals T).toArray)).run Tryz.prog w = .ok (R == T) w := fun R T h1 h2 => eql_r_any 9995 R T h1 h2 w
  have q := fun xs o => part_row (P := Tryz.prog) Tryz.underlying36 rfl rr_size xs o w
  obtain ⟨f1, f2, f3, f4, f5, hf, e1, e2, e3, e4, e5⟩ := fields5 c_fields
  injection e1 with e1a e1; injection e1 with e1b e1c
  injection e2 with e2a e2; injection e2 with e2b e2c
  injection e3 with e3a e3; injection e3 with e3b e3c
  injection e4 with e4a e4; injection e4 with e4b e4c
  injection e5 with e5a e5; injection e5 with e5b e5c
  rw [hst, hf, ← same_c hC hD]
  clear hst hf
  refine eqField (by rw [e1c]; decide) (by rw [e1a, e1b]; exact part_int C (by omega) w) (by rw [e1a, e1b]; exact part_int D (by omega) w) (by rw [e1a]; exact hi _ _) ?_
  refine eqField (by rw [e2c]; decide) (by rw [e2a, e2b]; exact part_int C (by omega) w) (by rw [e2a, e2b]; exact part_int D (by omega) w) (by rw [e2a]; exact hi _ _) ?_
  refine eqField (by rw [e3c]; decide) (by rw [e3a, e3b]; exact part_int C (by omega) w) (by rw [e3a, e3b]; exact part_int D (by omega) w) (by rw [e3a]; exact hi _ _) ?_
  refine eqField (by rw [e4c]; decide) (by rw [e4a, e4b]; exact q C 3) (by rw [e4a, e4b]; exact q D 3) (by rw [e4a]; exact hr _ _ (dnR_length hC) (dnR_length hD)) ?_
  refine eqField (by rw [e5c]; decide) (by rw [e5a, e5b]; exact q C 291) (by rw [e5a, e5b]; exact q D 291) (by rw [e5a]; exact hr _ _ (upR_length hC) (upR_length hD)) ?_
  simp [Op.eqFields]

/-! ### Counters that come in. -/
theorem ints_r {H : Type} {enc : TypeId × Value → H} {W : World} {b : Nat} {sp : Nat → Bool} {held : Bool} {fuel : Nat} {l : List Value} {x : DataW H × List MemPlace} (hf : DataW.trod enc Tryz.prog W b sp held fuel 36 l = some x) (i : Nat) (hi : i < 288) : ∃ n : Int, l[i]? = some (.int .i64 n) ∧ (Lit.int .i64 n).wf = true := by
  have c1 : Tryz.prog.cellsOf 33 = 16 := by kernel_rfl
  have c2 : Tryz.prog.cellsOf 34 = 256 := by kernel_rfl
  obtain ⟨xs, m, _, _, _, hn, hel⟩ := DataW.trod_struct r_under hf
  obtain ⟨f, g, k, hfs, e1, e2, e3⟩ := fields3 r_fields
  injection e1 with e1a e1; injection e1 with e1b e1c
  injection e2 with e2a e2; injection e2 with e2b e2c
  injection e3 with e3a e3; injection e3 with e3b e3c
  have hfs' : Tryz.prog.fieldsOf 36 = #[f, g, k] := by apply Array.toList_inj.1; rw [hfs]
  rw [hfs'] at hel hn
  have hn3 : xs.length = 3 := by simpa using hn
  have d0 := hel 0 f rfl
  have d1 := hel 1 g rfl
  have d2 := hel 2 k rfl
  rw [e1a, e1b, c1, List.getElem?_eq_getElem (show 0 < xs.length by omega)] at d0
  rw [e2a, e2b, c1, List.getElem?_eq_getElem (show 1 < xs.length by omega)] at d1
  rw [e3a, e3b, c2, List.getElem?_eq_getElem (show 2 < xs.length by omega)] at d2
  by_cases i1 : i < 16
  · obtain ⟨n, h1, h2⟩ := ints_vec d0 i i1
    refine ⟨n, ?_, h2⟩
    rw [List.getElem?_take, if_pos (by omega), List.getElem?_drop, Nat.zero_add] at h1
    exact h1
  · by_cases i2 : i < 32
    · obtain ⟨n, h1, h2⟩ := ints_vec d1 (i - 16) (by omega)
      refine ⟨n, ?_, h2⟩
      rw [List.getElem?_take, if_pos (by omega), List.getElem?_drop, show 16 + (i - 16) = i by omega] at h1
      exact h1
    · obtain ⟨n, h1, h2⟩ := ints_mov d2 (i - 32) (by omega)
      refine ⟨n, ?_, h2⟩
      rw [List.getElem?_take, if_pos (by omega), List.getElem?_drop, show 32 + (i - 32) = i by omega] at h1
      exact h1

theorem lk_info : (Tryz.prog.info? 40).map (·.size) = some 4 := by kernel_rfl
theorem lk_zero : (Tryz.prog.info? 40).bind (·.zero) = some (.agg (vals (zer 4)).toArray) := by kernel_rfl
theorem lk_build (W : World) : (Instr.build 40 #[]).run Tryz.prog W = .ok (.agg (vals (zer 4)).toArray) W := by kernel_rfl
theorem lk_build2 (p q : Int) (W : World) : (Instr.build 40 #[(2, .int .i64 p), (3, .int .i64 q)]).run Tryz.prog W = .ok (.agg (vals (Lk.l ⟨0, 0, p, q⟩)).toArray) W := by kernel_rfl
theorem build_two {ops : Array Oper} {rest : List Oper} {o : Oper} {a : Act} {u : World} {Q : Exit → Act → World → Prop} (hgd : o.guard = none) (x y : Operand) (ho : o.op = .build 40 #[(2, x), (3, y)]) {p q : Int}
    (hx : a.eval x = .int .i64 p) (hy : a.eval y = .int .i64 q)
    (h : wpList Tryz.prog ops Q rest (a.put o.dst (.agg (vals (Lk.l ⟨0, 0, p, q⟩)).toArray)) u) : wpList Tryz.prog ops Q (o :: rest) a u :=
  wpList_plain hgd fun K hK => by
    unfold Oper.wp execOp
    simp only [ho, List.map_toArray, List.map_cons, List.map_nil, hx, hy, Sem.run_bind, Sem.run_pure, Result.andThen_ok, lk_build2]
    exact hK _ _ h
/-! ### Equality. -/
theorem fields4n {fs : List Field} {x1 x2 x3 x4 : TypeId × Nat × String} (h : fs.map (fun f => (f.type, f.offset, f.name)) = [x1, x2, x3, x4]) : ∃ f1 f2 f3 f4, fs = [f1, f2, f3, f4] ∧ (f1.type, f1.offset, f1.name) = x1 ∧ (f2.type, f2.offset, f2.name) = x2 ∧ (f3.type, f3.offset, f3.name) = x3 ∧ (f4.type, f4.offset, f4.name) = x4 := by
  match fs, h with
  | [f1, f2, f3, f4], h => exact ⟨f1, f2, f3, f4, rfl, by simpa using h⟩
theorem lk_fields : (Tryz.prog.fieldsOf 40).toList.map (fun f => (f.type, f.offset, f.name)) = [(3, 0, "Seq"), (3, 1, "Ver"), (3, 2, "Holder"), (3, 3, "Value")] := by kernel_rfl
theorem lk_under : Tryz.prog.underlying 40 = some (.struct (Tryz.prog.fieldsOf 40)) := by kernel_rfl
theorem same_lk (a b : Lk) : ((a.s == b.s) && ((a.v == b.v) && ((a.h == b.h) && ((a.x == b.x) && true)))) = (a.l == b.l) := by
  rw [Bool.eq_iff_iff]
  simp only [Bool.and_eq_true, beq_iff_eq, and_true, Lk.l, List.cons.injEq]
theorem eql_lk_any (d : Nat) (a b : Lk) (w : World) : (Op.equalIn (d + 2) 40 (.agg (vals a.l).toArray) (.agg (vals b.l).toArray)).run Tryz.prog w = .ok (a.l == b.l) w := by
  have hst := run_equalIn_struct (P := Tryz.prog) w (d + 1) 40 (vals a.l).toArray (vals b.l).toArray lk_under (by kernel_rfl)
  have hi : ∀ x y : Int, (Op.equalIn (d + 1) 3 (.int .i64 x) (.int .i64 y)).run Tryz.prog w = .ok (x == y) w := fun x y => run_equalIn_int w d 3 .i64 .i64 x y Tryz.underlying3
  obtain ⟨f1, f2, f3, f4, hf, e1, e2, e3, e4⟩ := fields4n lk_fields
  injection e1 with e1a e1; injection e1 with e1b e1c
  injection e2 with e2a e2; injection e2 with e2b e2c
  injection e3 with e3a e3; injection e3 with e3b e3c
  injection e4 with e4a e4; injection e4 with e4b e4c
  have p0 : ∀ c : Lk, (part 3 (vals c.l).toArray 0).run Tryz.prog w = .ok (.int .i64 c.s) w := fun c => part_int c.l (by simp [Lk.len]) w
  have p1 : ∀ c : Lk, (part 3 (vals c.l).toArray 1).run Tryz.prog w = .ok (.int .i64 c.v) w := fun c => part_int c.l (by simp [Lk.len]) w
  have p2 : ∀ c : Lk, (part 3 (vals c.l).toArray 2).run Tryz.prog w = .ok (.int .i64 c.h) w := fun c => part_int c.l (by simp [Lk.len]) w
  have p3 : ∀ c : Lk, (part 3 (vals c.l).toArray 3).run Tryz.prog w = .ok (.int .i64 c.x) w := fun c => part_int c.l (by simp [Lk.len]) w
  rw [hst, hf, ← same_lk a b]
  clear hst hf
  refine eqField (by rw [e1c]; decide) (by rw [e1a, e1b]; exact p0 a) (by rw [e1a, e1b]; exact p0 b) (by rw [e1a]; exact hi _ _) ?_
  refine eqField (by rw [e2c]; decide) (by rw [e2a, e2b]; exact p1 a) (by rw [e2a, e2b]; exact p1 b) (by rw [e2a]; exact hi _ _) ?_
  refine eqField (by rw [e3c]; decide) (by rw [e3a, e3b]; exact p2 a) (by rw [e3a, e3b]; exact p2 b) (by rw [e3a]; exact hi _ _) ?_
  refine eqField (by rw [e4c]; decide) (by rw [e4a, e4b]; exact p3 a) (by rw [e4a, e4b]; exact p3 b) (by rw [e4a]; exact hi _ _) ?_
  simp [Op.eqFields]
theorem eql_lk (a b : Lk) (w : World) : (Op.equalIn 10000 40 (.agg (vals a.l).toArray) (.agg (vals b.l).toArray)).run Tryz.prog w = .ok (a.l == b.l) w := eql_lk_any 9998 a b w
theorem lk_guard : Tryz.prog.eqGuardType Tryz.prog.depth 40 = false := by kernel_rfl

/-! ### Locks that come in. -/

/-! ### Cells. -/
/-- A block of its own that holds these cells, of some type. -/
def Cel (w : World) (b : Nat) (t : TypeId) (cs : List Value) : Prop := w.heap[b]? = some (.cells cs.toArray t (0, 0))
theorem Cel.lt {w : World} {b : Nat} {t : TypeId} {cs : List Value} (h : Cel w b t cs) : b < w.heap.size := (Array.getElem?_eq_some_iff.1 h).1
theorem Cel.cell {w : World} {b : Nat} {t : TypeId} {cs : List Value} (h : Cel w b t cs) {k : Nat} {v : Value} (hk : cs[k]? = some v) : w.cell? ⟨b, k, none⟩ = some v := by
  rw [cell_of_row w b k _ t (0, 0) h]
  simpa using hk
theorem Cel.range {w : World} {b : Nat} {t : TypeId} {cs : List Value} (h : Cel w b t cs) {o : Nat} {xs : List Value} (hx : ∀ j v, xs[j]? = some v → cs[o + j]? = some v) : w.rangeAt b o xs := fun j v hv => h.cell (hx j v hv)
theorem Cel.frozen {w : World} {b : Nat} {t : TypeId} {cs : List Value} (h : Cel w b t cs) (k : Nat) : w.frozen? ⟨b, k, none⟩ = false := frozen_of_row w b k _ t h
theorem Cel.there {w : World} {b : Nat} {t : TypeId} {cs : List Value} (h : Cel w b t cs) {o n : Nat} (hn : o + n ≤ cs.length) : w.there b o n := fun j hj => by
  refine ⟨?_, h.frozen _⟩
  rw [h.cell (v := cs[o + j]'(by omega)) (List.getElem?_eq_getElem (by omega))]; rfl
theorem Cel.below {w w' : World} {b : Nat} {t : TypeId} {cs : List Value} (h : Cel w b t cs) {B : Nat} (hb : Below B w w') (hl : b < B) : Cel w' b t cs := (hb.block b hl).trans h
theorem Cel.new (w : World) (t : TypeId) (cs : List Value) : Cel (w.alloc (.cells cs.toArray t)) w.heap.size t cs := heap_alloc_new w _
theorem Cel.setCell {w : World} {b : Nat} {t : TypeId} {cs : List Value} (h : Cel w b t cs) (k : Nat) (v : Value) : Cel (w.setCell ⟨b, k, none⟩ v) b t (cs.set k v) := by
  unfold Cel
  rw [heap_setCell_same w b k _ t _ h]
  simp
/-- vs in the place of what lay from o on. -/
def spl (R : List Value) : Nat → List Value → List Value
  | _, [] => R
  | o, v :: vs => spl (R.set o v) (o + 1) vs
theorem spl_mid : ∀ (new old pre post : List Value), old.length = new.length → spl (pre ++ (old ++ post)) pre.length new = pre ++ (new ++ post)
  | [], [], pre, post, _ => by simp [spl]
  | v :: new, x :: old, pre, post, h => by
    have ih := spl_mid new old (pre ++ [v]) post (by simpa using h)
    have e : (pre ++ (x :: old ++ post)).set pre.length v = (pre ++ [v]) ++ (old ++ post) := by
      rw [List.set_append_right _ _ (Nat.le_refl _)]
      simp
    rw [spl, e]
    simpa using ih
theorem Cel.setCells {b : Nat} {t : TypeId} : ∀ (vs : List Value) {w : World} {cs : List Value} (_ : Cel w b t cs) (o : Nat), Cel (w.setCells b o vs) b t (spl cs o vs)
  | [], _, _, h, _ => h
  | v :: vs, _, _, h, o => Cel.setCells vs (h.setCell o v) (o + 1)
theorem below_cells {B b : Nat} {a : World} (hg : B ≤ b) : ∀ (vs : List Value) {w : World} (_ : Below B a w) (o : Nat), Below B a (w.setCells b o vs)
  | [], _, h, _ => h
  | v :: vs, _, h, o => below_cells hg vs (h.setCell (p := ⟨b, o, none⟩) hg v) (o + 1)
theorem cell_heap {u u' : World} {a : Addr} (h : u'.heap[a.block]? = u.heap[a.block]?) : u'.cell? a = u.cell? a := by simp [World.cell?, h]
/-- A slice of holds whose block was not touched. -/
theorem Row.else {u u' : World} {A : Option Addr} {n : Nat} {hs : List Ho} (h : Row u A n hs) (he : ∀ a, A = some a → 0 < n → u'.heap[a.block]? = u.heap[a.block]?) : Row u' A n hs := by
  obtain ⟨h1, h2, h3⟩ := h
  refine ⟨h1, h2, ?_⟩
  rcases h3 with h0 | ⟨b, off, rfl, hc⟩
  · exact .inl h0
  · rcases Nat.eq_zero_or_pos n with h0 | h0
    · exact .inl h0
    · exact .inr ⟨b, off, rfl, fun k hk j v hv => by rw [cell_heap (a := ⟨b, off + k * 5 + j, none⟩) (he ⟨b, off, none⟩ rfl h0)]; exact hc k hk j v hv⟩
theorem Row.lt {u : World} {A : Option Addr} {n : Nat} {hs : List Ho} (h : Row u A n hs) {a : Addr} (ha : A = some a) (hn : 0 < n) : a.block < u.heap.size := by
  obtain ⟨b, off, rfl, hc⟩ := h.at hn
  injection ha with ha
  subst ha
  exact range_lt (hc 0 hn)

/-! ### What is kept. -/
/-- Below w's end all is as it was; these blocks of the call's own lie there; these slices of holds read so, and lie in none of them. -/
structure KeepF (w : World) (l : List (Nat × TypeId × List Value)) (rows : List (Option Addr × Nat × List Ho)) (u : World) : Prop where
  bel : Below w.heap.size w u
  blk : ∀ x ∈ l, w.heap.size ≤ x.1 ∧ Cel u x.1 x.2.1 x.2.2
  apart : (l.map Prod.fst).Nodup
  row : ∀ r ∈ rows, Row u r.1 r.2.1 r.2.2
  free : ∀ r ∈ rows, ∀ x ∈ l, ∀ a, r.1 = some a → 0 < r.2.1 → a.block ≠ x.1
section
variable {w u u' : World} {l : List (Nat × TypeId × List Value)} {rows : List (Option Addr × Nat × List Ho)}
theorem KeepF.start (h : ∀ r ∈ rows, Row w r.1 r.2.1 r.2.2) : KeepF w [] rows w := ⟨Below.refl _ _, by simp, by simp, h, by simp⟩
theorem KeepF.get (h : KeepF w l rows u) (i : Nat) {b : Nat} {t : TypeId} {cs : List Value} (hi : l[i]? = some (b, t, cs)) : Cel u b t cs := (h.blk _ (List.mem_of_getElem? hi)).2
theorem KeepF.rowAt (h : KeepF w l rows u) (i : Nat) {A : Option Addr} {n : Nat} {hs : List Ho} (hi : rows[i]? = some (A, n, hs)) : Row u A n hs := h.row _ (List.mem_of_getElem? hi)
theorem KeepF.call (h : KeepF w l rows u) (hb : Below u.heap.size u u') : KeepF w l rows u' :=
  ⟨h.bel.trans (hb.mono h.bel.size), fun x hx => ⟨(h.blk x hx).1, (h.blk x hx).2.below hb (h.blk x hx).2.lt⟩, h.apart, fun r hr => (h.row r hr).call hb, h.free⟩
theorem KeepF.drew (h : KeepF w l rows u) : KeepF w l rows u.drew := ⟨h.bel.drew, h.blk, h.apart, h.row, h.free⟩
theorem KeepF.cons (h : KeepF w l rows u) (hb : Below u.heap.size u u') {b : Nat} {t : TypeId} {cs : List Value} (hn : b = u.heap.size) (hB : Cel u' b t cs) : KeepF w ((b, t, cs) :: l) rows u' := by
  have h1 := h.call hb
  refine ⟨h1.bel, fun x hx => ?_, ?_, h1.row, fun r hr x hx a ha h0 => ?_⟩
  · rcases List.mem_cons.1 hx with rfl | hx
    · exact ⟨hn ▸ h.bel.size, hB⟩
    · exact h1.blk x hx
  · simp only [List.map_cons, List.nodup_cons]
    refine ⟨fun hm => ?_, h.apart⟩
    obtain ⟨x, hx, e⟩ := List.mem_map.1 hm
    have := (h.blk x hx).2.lt
    omega
  · rcases List.mem_cons.1 hx with rfl | hx
    · have := (h.row r hr).lt ha h0
      simp only
      omega
    · exact h.free r hr x hx a ha h0
theorem KeepF.new (h : KeepF w l rows u) {t : TypeId} {cs : List Value} {n : Nat} (hn : n = u.heap.size) : KeepF w ((n, t, cs) :: l) rows (u.alloc (.cells cs.toArray t)) :=
  h.cons ((Below.refl _ _).alloc (Nat.le_refl _) _) hn (by rw [hn]; exact Cel.new u t cs)
theorem KeepF.tail {x : Nat × TypeId × List Value} (h : KeepF w (x :: l) rows u) : KeepF w l rows u :=
  ⟨h.bel, fun y hy => h.blk y (List.mem_cons_of_mem _ hy), (List.nodup_cons.1 (by simpa using h.apart)).2, h.row, fun r hr y hy => h.free r hr y (List.mem_cons_of_mem _ hy)⟩
/-- Other slices are looked at. -/
theorem KeepF.look {rows' : List (Option Addr × Nat × List Ho)} (h : KeepF w l rows u) (hr : ∀ r ∈ rows', r ∈ rows) : KeepF w l rows' u := ⟨h.bel, h.blk, h.apart, fun r h1 => h.row r (hr r h1), fun r h1 => h.free r (hr r h1)⟩
/-- One slice more, that a call made. -/
theorem KeepF.own (h : KeepF w l rows u) (hb : Below u.heap.size u u') {A : Option Addr} {n c : Nat} {hs : List Ho} (ho : Own u' u.heap.size (.slice A n c) hs) (hn : hs.length ≤ 1000) : KeepF w l ((A, n, hs) :: rows) u' := by
  have h1 := h.call hb
  refine ⟨h1.bel, h1.blk, h1.apart, fun r hr => ?_, fun r hr x hx a ha h0 => ?_⟩
  · rcases List.mem_cons.1 hr with rfl | hr
    · exact ho.row hn
    · exact h1.row r hr
  · rcases List.mem_cons.1 hr with rfl | hr
    · have h2 := (h.blk x hx).2.lt
      have h3 : a.block ≥ u.heap.size := by
        have h4 : (Value.slice A n c).ownBlock = some a.block → u.heap.size ≤ a.block := fun e => own_baseH ho _ e
        simp only at ha
        subst ha
        rcases ho.2 with ⟨e, _⟩ | ⟨g, cap, cur, e, h5, _⟩
        · injection e with e1 e2 e3; cases e1
        · injection e with e1 e2 e3
          injection e1 with e1
          subst e1
          exact h5
      omega
    · exact h1.free r hr x hx a ha h0
/-- A kept block is written. -/
theorem KeepF.put (h : KeepF w l rows u) (i : Nat) {b : Nat} {t : TypeId} {R : List Value} (hi : l[i]? = some (b, t, R)) {S : List Value} (hB : Cel u' b t S)
    (hb : ∀ (k : Nat), k ≠ b → u'.heap[k]? = u.heap[k]?) (hbel : Below w.heap.size w u') : KeepF w (l.set i (b, t, S)) rows u' := by
  have hm := List.mem_of_getElem? hi
  have hfst : (l.set i (b, t, S)).map Prod.fst = l.map Prod.fst := by
    rw [List.map_set]
    apply List.ext_getElem?
    intro j
    rw [List.getElem?_set]
    split
    · rename_i e; subst e
      split
      · simp [hi]
      · rename_i hl; simp only [List.length_map] at hl; have := (List.getElem?_eq_some_iff.1 hi).1; omega
    · rfl
  refine ⟨hbel, fun x hx => ?_, by rw [hfst]; exact h.apart, fun r hr => (h.row r hr).else fun a ha h0 => hb _ (h.free r hr _ hm a ha h0), fun r hr x hx a ha h0 => ?_⟩
  · obtain ⟨j, hj⟩ := List.mem_iff_getElem?.1 hx
    rw [List.getElem?_set] at hj
    by_cases hij : i = j
    · rw [if_pos hij] at hj
      split at hj
      · injection hj with hj; subst hj
        exact ⟨(h.blk _ hm).1, hB⟩
      · cases hj
    · rw [if_neg hij] at hj
      have h1 := h.blk x (List.mem_of_getElem? hj)
      refine ⟨h1.1, ?_⟩
      have hne : x.1 ≠ b := fun e => hij (nodup_get h.apart (x := b) (by simp [hi]) (by simp [hj, e]))
      exact (hb x.1 hne).trans h1.2
  · rcases List.mem_or_eq_of_mem_set hx with hx | rfl
    · exact h.free r hr x hx a ha h0
    · exact h.free r hr _ hm a ha h0
theorem KeepF.setCells (h : KeepF w l rows u) (i : Nat) {b : Nat} {t : TypeId} {R : List Value} (hi : l[i]? = some (b, t, R)) (o : Nat) (vs : List Value) : KeepF w (l.set i (b, t, spl R o vs)) rows (u.setCells b o vs) :=
  have h1 := h.blk _ (List.mem_of_getElem? hi)
  h.put i hi (h1.2.setCells vs o) (setCells_else b vs o u) (below_cells h1.1 vs h.bel o)
theorem KeepF.setCell (h : KeepF w l rows u) (i : Nat) {b : Nat} {t : TypeId} {R : List Value} (hi : l[i]? = some (b, t, R)) (o : Nat) (v : Value) : KeepF w (l.set i (b, t, R.set o v)) rows (u.setCell ⟨b, o, none⟩ v) :=
  have h1 := h.blk _ (List.mem_of_getElem? hi)
  h.put i hi (h1.2.setCell o v) (fun k hk => heap_setCell_other u ⟨b, o, none⟩ k _ hk) (h.bel.setCell (p := ⟨b, o, none⟩) h1.1 v)
end

/-- A field, as its cells tell it: the holds by their slice alone. -/
structure Fd where
  nm : ByteArray
  k : Int
  e : Int
  C : List Int
  L : Lk
  A : Option Addr
  n : Nat
  c : Nat
def Fd.cells (f : Fd) : List Value := [.string f.nm, .int .i64 f.k, .int .i64 f.e] ++ (vals f.C ++ (vals f.L.l ++ [.slice f.A f.n f.c]))
def Fd.val (f : Fd) : Value := .agg f.cells.toArray
/-- The zero field. -/
def zL : Lk := ⟨0, 0, 0, 0⟩
def zF : Fd := ⟨ByteArray.empty, 0, 0, zer 579, zL, none, 0, 0⟩
def Fd.full (f : Fd) : Prop := f.C.length = 579
theorem Fd.len {f : Fd} (h : f.full) : f.cells.length = 587 := by
  have h : f.C.length = 579 := h
  simp [Fd.cells, vals_length, Lk.len, h]
theorem Fd.c0 (f : Fd) : f.cells[0]? = some (.string f.nm) := rfl
theorem Fd.c1 (f : Fd) : f.cells[1]? = some (.int .i64 f.k) := rfl
theorem Fd.c2 (f : Fd) : f.cells[2]? = some (.int .i64 f.e) := rfl
theorem Fd.cC (f : Fd) : ∀ j v, (vals f.C)[j]? = some v → f.cells[3 + j]? = some v := by
  intro j v hv
  have hj := (List.getElem?_eq_some_iff.1 hv).1
  rw [Fd.cells, List.getElem?_append_right (by simp), List.getElem?_append_left (by simpa using hj)]
  simpa using hv
theorem Fd.cL {f : Fd} (h : f.full) : ∀ j v, (vals f.L.l)[j]? = some v → f.cells[582 + j]? = some v := by
  intro j v hv
  have h : f.C.length = 579 := h
  have hj := (List.getElem?_eq_some_iff.1 hv).1
  rw [Fd.cells, List.getElem?_append_right (by simp; omega), List.getElem?_append_right (by simp [vals_length, h]; omega), List.getElem?_append_left (by simp [vals_length, h]; simp [vals_length] at hj; omega)]
  simp only [vals_length, h, List.length_cons, List.length_nil]
  rw [show 582 + j - (0 + 1 + 1 + 1) - 579 = j by omega]
  exact hv
theorem Fd.cH {f : Fd} (h : f.full) : f.cells[586]? = some (.slice f.A f.n f.c) := by
  have h : f.C.length = 579 := h
  rw [Fd.cells, List.getElem?_append_right (by simp), List.getElem?_append_right (by simp [vals_length, h]), List.getElem?_append_right (by simp [vals_length, h, Lk.len])]
  simp [vals_length, h, Lk.len]
theorem Fd.cV {f : Fd} (h : f.full) : f.cells[585]? = some (.int .i64 f.L.x) := Fd.cL h 3 _ rfl
theorem Fd.cI {f : Fd} (h : f.full) {j : Nat} (hj : j < 579) : f.cells[3 + j]? = some (.int .i64 (f.C.getD j 0)) := f.cC j _ (vals_get (by rw [show f.C.length = 579 from h]; exact hj))
theorem Fd.all (f : Fd) : ∀ j v, f.cells[j]? = some v → f.cells[0 + j]? = some v := fun j v h => by rw [Nat.zero_add]; exact h
theorem Fd.one (f : Fd) : f.cells.toArray.all (·.oneCell') = true := all_oneCell_toArray (by
  intro v hv
  simp only [Fd.cells, List.mem_append, List.mem_cons, List.not_mem_nil, or_false] at hv
  rcases hv with (rfl | rfl | rfl) | hv | hv | rfl
  · rfl
  · rfl
  · rfl
  · exact vals_one _ v hv
  · exact vals_one _ v hv
  · rfl)
/-- Other parts in their place. -/
theorem Fd.setC {f : Fd} (h : f.full) {D : List Int} (hD : D.length = 579) : spl f.cells 3 (vals D) = { f with C := D }.cells :=
  spl_mid (vals D) (vals f.C) [.string f.nm, .int .i64 f.k, .int .i64 f.e] _ (by rw [vals_length, vals_length, hD]; exact h)
theorem Fd.setL {f : Fd} (h : f.full) (M : Lk) : spl f.cells 582 (vals M.l) = { f with L := M }.cells := by
  have h : f.C.length = 579 := h
  have := spl_mid (vals M.l) (vals f.L.l) ([.string f.nm, .int .i64 f.k, .int .i64 f.e] ++ vals f.C) [.slice f.A f.n f.c] (by simp [vals_length, Lk.len])
  simp only [List.length_append, vals_length, h, List.length_cons, List.length_nil, List.append_assoc] at this
  exact this
theorem Fd.setH {f : Fd} (h : f.full) (A : Option Addr) (n c : Nat) : f.cells.set 586 (.slice A n c) = { f with A := A, n := n, c := c }.cells := by
  have h : f.C.length = 579 := h
  have := spl_mid [.slice A n c] [.slice f.A f.n f.c] ([.string f.nm, .int .i64 f.k, .int .i64 f.e] ++ (vals f.C ++ vals f.L.l)) [] (by simp)
  simp only [List.length_append, vals_length, h, List.length_cons, List.length_nil, List.append_assoc, Lk.len, spl, List.append_nil] at this
  exact this
theorem Fd.setAll {f g : Fd} (h : f.full) (hg : g.full) : spl f.cells 0 g.cells = g.cells := by
  have := spl_mid g.cells f.cells [] [] (by rw [Fd.len h, Fd.len hg])
  simpa using this
theorem f_info : (Tryz.prog.info? 43).map (·.size) = some 587 := by kernel_rfl
theorem f_zero : (Tryz.prog.info? 43).bind (·.zero) = some (.agg zF.cells.toArray) := by kernel_rfl
theorem f_build (W : World) : (Instr.build 43 #[]).run Tryz.prog W = .ok zF.val W := by kernel_rfl

section
variable {ops : Array Oper} {rest : List Oper} {o : Oper} {a : Act} {w u : World} {l : List (Nat × TypeId × List Value)} {rows : List (Option Addr × Nat × List Ho)} {Q : Exit → Act → World → Prop} {K : Act → World → Prop}
/-- A value, boxed. -/
theorem wp_box_f (hk : KeepF w l rows u) {ty : TypeId} (x : Operand) (ho : o.op = .box ty x) {cs : List Value} (hx : a.eval x = .agg cs.toArray)
    (h : ∀ b u', KeepF w ((b, ty, cs) :: l) rows u' → K (a.put o.dst (.pointer (some ⟨b, 0, none⟩))) u') : o.wp Tryz.prog a u K Q := by
  have e : (Instr.box ty (.agg cs.toArray)).run Tryz.prog u = .ok (.pointer (some ⟨u.heap.size, 0, none⟩)) (u.alloc (.cells cs.toArray ty)) := by
    simp [Instr.box, newVar, newRow, newObj, Value.cells]
    rfl
  unfold Oper.wp execOp
  simp only [ho, hx, Sem.run_bind, Sem.run_pure, Result.andThen_ok, e]
  exact h _ _ (hk.new rfl)
theorem box_f (hk : KeepF w l rows u) {ty : TypeId} (hgd : o.guard = none) (x : Operand) (ho : o.op = .box ty x) {cs : List Value} (hx : a.eval x = .agg cs.toArray)
    (h : ∀ b u', KeepF w ((b, ty, cs) :: l) rows u' → wpList Tryz.prog ops Q rest (a.put o.dst (.pointer (some ⟨b, 0, none⟩))) u') : wpList Tryz.prog ops Q (o :: rest) a u :=
  wpList_plain hgd fun _ hK => wp_box_f hk x ho hx fun b u' h' => hK _ _ (h b u' h')
/-- A new variable of zeros. -/
theorem alloc_f (hk : KeepF w l rows u) {ty : TypeId} {cs : List Value} (hz : (Tryz.prog.info? ty).bind (·.zero) = some (.agg cs.toArray)) (hgd : o.guard = none) (ho : o.op = .alloc ty)
    (h : ∀ b u', KeepF w ((b, ty, cs) :: l) rows u' → wpList Tryz.prog ops Q rest (a.put o.dst (.pointer (some ⟨b, 0, none⟩))) u') : wpList Tryz.prog ops Q (o :: rest) a u :=
  wpList_plain hgd fun K hK => by
    have e : (Instr.alloc ty true (.tuple #[])).run Tryz.prog u = .ok (.pointer (some ⟨u.heap.size, 0, none⟩)) (u.alloc (.cells cs.toArray ty)) := by
      cases hq : Tryz.prog.info? ty with
      | none => simp [hq] at hz
      | some i =>
        simp only [hq, Option.bind_some] at hz
        simp [Instr.alloc, zeroValue, typeInfo, hq, hz, newVar, newRow, newObj, Value.cells]
        rfl
    unfold Oper.wp execOp
    simp only [ho, Sem.run_bind, Sem.run_pure, Result.andThen_ok, e]
    exact hK _ _ (h _ _ (hk.new rfl))
/-- The zero value, built. -/
theorem build_f {ty : TypeId} {v : Value} (he : ∀ W, (Instr.build ty #[]).run Tryz.prog W = .ok v W) (hgd : o.guard = none) (ho : o.op = .build ty #[])
    (h : wpList Tryz.prog ops Q rest (a.put o.dst v) u) : wpList Tryz.prog ops Q (o :: rest) a u :=
  wpList_plain hgd fun K hK => by
    unfold Oper.wp execOp
    simp only [ho, List.map_toArray, List.map_nil, Sem.run_bind, Sem.run_pure, Result.andThen_ok, he]
    exact hK _ _ h
/-! ### Loads. -/
theorem run_load_cell {W : World} {ad : Addr} {v : Value} (hc : W.cell? ad = some v) : (Instr.loadAt 9 (.pointer (some ad))).run Tryz.prog W = .ok v W ∧ (Instr.loadAt 3 (.pointer (some ad))).run Tryz.prog W = .ok v W ∧ (Instr.loadAt 41 (.pointer (some ad))).run Tryz.prog W = .ok v W := by
  refine ⟨?_, ?_, ?_⟩ <;> simp [go_sem, hc]
/-- A cell of a kept block is loaded: an int, a text, a slice. -/
def cellB (ty : TypeId) : Bool := ty == 9 || ty == 3 || ty == 41
theorem run_load_f1 {W : World} {ad : Addr} {v : Value} {ty : TypeId} (ht : cellB ty = true) (hc : W.cell? ad = some v) : (Instr.loadAt ty (.pointer (some ad))).run Tryz.prog W = .ok v W := by
  simp only [cellB, Bool.or_eq_true, beq_iff_eq] at ht
  rcases ht with (rfl | rfl) | rfl
  · exact (run_load_cell hc).1
  · exact (run_load_cell hc).2.1
  · exact (run_load_cell hc).2.2
theorem wp_load_f1 {ty : TypeId} (ht : cellB ty = true) (x : Operand) (ho : o.op = .load ty x) {ad : Addr} {v : Value} (hx : a.eval x = .pointer (some ad)) (hc : u.cell? ad = some v) (h : K (a.put o.dst v) u) : o.wp Tryz.prog a u K Q := by
  unfold Oper.wp execOp
  simp only [ho, hx, Sem.run_bind, Sem.run_pure, Result.andThen_ok, run_load_f1 ht hc]
  exact h
theorem load_f1 (hk : KeepF w l rows u) (i : Nat) {ty : TypeId} (ht : cellB ty = true) (x : Operand) (ho : o.op = .load ty x) {b off : Nat} {t : TypeId} {cs : List Value} (hi : l[i]? = some (b, t, cs)) (hx : a.eval x = .pointer (some ⟨b, off, none⟩)) (hw : Region.wanted o (yielded ops a.tmps) = true) {v : Value} (hv : cs[off]? = some v)
    (h : wpList Tryz.prog ops Q rest (a.put o.dst v) u) : wpList Tryz.prog ops Q (o :: rest) a u :=
  BigFrame.wpList_want hw fun _ hK => wp_load_f1 ht x ho hx ((hk.get i hi).cell hv) (hK _ _ h)
/-- A part of a kept block is loaded. -/
theorem load_fr (hk : KeepF w l rows u) (i : Nat) {ty : TypeId} {d : TypeDesc} (hu : Tryz.prog.underlying ty = some d) (hd : d.isRow = true) {xs : List Value} (hs : (Tryz.prog.info? ty).map (·.size) = some xs.length)
    (x : Operand) (ho : o.op = .load ty x) {b off : Nat} {t : TypeId} {cs : List Value} (hi : l[i]? = some (b, t, cs)) (hx : a.eval x = .pointer (some ⟨b, off, none⟩)) (hw : Region.wanted o (yielded ops a.tmps) = true) (hr : ∀ j v, xs[j]? = some v → cs[off + j]? = some v)
    (h : wpList Tryz.prog ops Q rest (a.put o.dst (.agg xs.toArray)) u) : wpList Tryz.prog ops Q (o :: rest) a u :=
  BigFrame.wpList_want hw fun _ hK => wp_load_mid ty x ho b off hx xs d ((hk.get i hi).range hr) hu hd hs (hK _ _ h)
/-! ### Stores. -/
theorem wp_store_fr (hk : KeepF w l rows u) (i : Nat) {ty : TypeId} {xs : List Value} (hs : (Tryz.prog.info? ty).map (·.size) = some xs.length) (h1 : xs.toArray.all (·.oneCell') = true) (hd : o.dst = none) (x y : Operand) (ho : o.op = .store ty x y)
    {b off : Nat} {t : TypeId} {cs ds : List Value} (hi : l[i]? = some (b, t, cs)) (hx : a.eval x = .pointer (some ⟨b, off, none⟩)) (hy : a.eval y = .agg xs.toArray) (hr : off + xs.length ≤ cs.length) (hds : spl cs off xs = ds)
    (h : ∀ u', KeepF w (l.set i (b, t, ds)) rows u' → (∀ k, k ≠ b → u'.heap[k]? = u.heap[k]?) → K a u') : o.wp Tryz.prog a u K Q := by
  subst hds
  exact wp_store_mid ty x y ho b off _ hx hy (by simpa using (hk.get i hi).there hr) (by simpa using hs) h1 (by rw [hd]; simpa [Act.put] using h _ (hk.setCells i hi off xs) (setCells_else b xs off u))
theorem store_fr (hk : KeepF w l rows u) (i : Nat) {ty : TypeId} {xs : List Value} (hs : (Tryz.prog.info? ty).map (·.size) = some xs.length) (h1 : xs.toArray.all (·.oneCell') = true) (hgd : o.guard = none) (hd : o.dst = none) (x y : Operand) (ho : o.op = .store ty x y)
    {b off : Nat} {t : TypeId} {cs ds : List Value} (hi : l[i]? = some (b, t, cs)) (hx : a.eval x = .pointer (some ⟨b, off, none⟩)) (hy : a.eval y = .agg xs.toArray) (hr : off + xs.length ≤ cs.length) (hds : spl cs off xs = ds)
    (h : ∀ u', KeepF w (l.set i (b, t, ds)) rows u' → wpList Tryz.prog ops Q rest a u') : wpList Tryz.prog ops Q (o :: rest) a u :=
  wpList_plain hgd fun _ hK => wp_store_fr hk i hs h1 hd x y ho hi hx hy hr hds fun u' h' _ => hK _ _ (h u' h')
/-- An int, a text, a slice. -/
def plainV : Value → Bool
  | .int _ _ => true
  | .string _ => true
  | .slice _ _ _ => true
  | _ => false
end

theorem yield_int {ops : Array Oper} {S : World → Prop} {o : Oper} {a : Act} {ad : Addr} {z : Int} (hc : ∀ u, S u → u.cell? ad = some (.int .i64 z)) (x : Operand) (ho : o.op = .load 3 x) (hx : a.eval x = .pointer (some ad)) (hw : Region.wanted o (yielded ops a.tmps) = true) :
    YieldsIf Tryz.prog ops S o (.int .i64 z) a :=
  .inl ⟨hw, fun w hw' => by
    have h1 := hc w hw'
    unfold execOp
    simp only [ho, hx]
    simp [go_sem, h1]⟩
theorem yield_geq {ops : Array Oper} {S : World → Prop} {o : Oper} {a : Act} {p q : Int} {b : Bool} (hb : decide (q ≤ p) = b) (x y : Operand) (t : TypeId) (ho : o.op = .binOp .geq 3 x y t) (hx : a.eval x = .int .i64 p) (hy : a.eval y = .int .i64 q) (hw : Region.wanted o (yielded ops a.tmps) = true) :
    YieldsIf Tryz.prog ops S o (.bool b) a :=
  .inl ⟨hw, fun w _ => by
    subst hb
    unfold execOp
    simp only [ho, hx, hy]
    simp [go_sem]⟩
theorem yield_gtr {ops : Array Oper} {S : World → Prop} {o : Oper} {a : Act} {p q : Int} {b : Bool} (hb : decide (q < p) = b) (x y : Operand) (t : TypeId) (ho : o.op = .binOp .gtr 3 x y t) (hx : a.eval x = .int .i64 p) (hy : a.eval y = .int .i64 q) (hw : Region.wanted o (yielded ops a.tmps) = true) :
    YieldsIf Tryz.prog ops S o (.bool b) a :=
  .inl ⟨hw, fun w _ => by
    subst hb
    unfold execOp
    simp only [ho, hx, hy]
    simp [go_sem]⟩
theorem yield_neq {ops : Array Oper} {S : World → Prop} {o : Oper} {a : Act} {p q : Int} {b : Bool} (hb : (p != q) = b) (x y : Operand) (t : TypeId) (ho : o.op = .binOp .neq 3 x y t) (hx : a.eval x = .int .i64 p) (hy : a.eval y = .int .i64 q) (hw : Region.wanted o (yielded ops a.tmps) = true) :
    YieldsIf Tryz.prog ops S o (.bool b) a :=
  .inl ⟨hw, fun w _ => by
    subst hb
    unfold execOp
    simp only [ho, hx, hy]
    simp [go_sem]⟩
theorem yield_sub {ops : Array Oper} {S : World → Prop} {o : Oper} {a : Act} {p q z : Int} (hz : IntKind.i64.wrap (p - q) = z) (x y : Operand) (t : TypeId) (ho : o.op = .binOp .sub 3 x y t) (hx : a.eval x = .int .i64 p) (hy : a.eval y = .int .i64 q) (hw : Region.wanted o (yielded ops a.tmps) = true) :
    YieldsIf Tryz.prog ops S o (.int .i64 z) a :=
  .inl ⟨hw, fun w _ => by
    subst hz
    unfold execOp
    simp only [ho, hx, hy]
    simp [go_sem]⟩
theorem Blk.five {w : World} {b : Nat} {t : TypeId} {h : Ho} (hb : Blk w b t h.l) : w.cell? ⟨b, 0, none⟩ = some (.int .i64 h.r) ∧ w.cell? ⟨b, 1, none⟩ = some (.int .i64 h.n) ∧ w.cell? ⟨b, 2, none⟩ = some (.int .i64 h.a) ∧ w.cell? ⟨b, 3, none⟩ = some (.int .i64 h.d) ∧ w.cell? ⟨b, 4, none⟩ = some (.int .i64 h.s) :=
  ⟨hb.cell (k := 0) (by simp [Ho.len]), hb.cell (k := 1) (by simp [Ho.len]), hb.cell (k := 2) (by simp [Ho.len]), hb.cell (k := 3) (by simp [Ho.len]), hb.cell (k := 4) (by simp [Ho.len])⟩
theorem box_drawn {ops : Array Oper} {rest : List Oper} {o : Oper} {a : Act} {w u : World} {l : List (Nat × TypeId × List Int)} {Q : Exit → Act → World → Prop} (hk : KeepR w l u ∧ w.drawn ≤ u.drawn) {ty : TypeId}
    (hgd : o.guard = none) (x : Operand) (ho : o.op = .box ty x) {R : List Int} (hx : a.eval x = .agg (vals R).toArray)
    (h : ∀ b u', (KeepR w ((b, ty, R) :: l) u' ∧ w.drawn ≤ u'.drawn) → wpList Tryz.prog ops Q rest (a.put o.dst (.pointer (some ⟨b, 0, none⟩))) u') : wpList Tryz.prog ops Q (o :: rest) a u :=
  wpList_plain hgd fun K hK => by
    have e : (Instr.box ty (.agg (vals R).toArray)).run Tryz.prog u = .ok (.pointer (some ⟨u.heap.size, 0, none⟩)) (u.alloc (.cells (vals R).toArray ty)) := by
      simp [Instr.box, newVar, newRow, newObj, Value.cells]
      rfl
    unfold Oper.wp execOp
    simp only [ho, hx, Sem.run_bind, Sem.run_pure, Result.andThen_ok, e]
    exact hK _ _ (h _ _ ⟨hk.1.new rfl, hk.2⟩)
theorem or_any (x y : Int) (b : Nat) (w : World) (h0 : w.cell? ⟨b, 0, none⟩ = some (.int .i64 x)) (h1 : w.cell? ⟨b, 1, none⟩ = some (.int .i64 y)) :
    Calls Tryz.prog 136 #[.slice (some ⟨b, 0, none⟩) 2 2] w fun e w' => e = .returned (.int .i64 (orI x y)) ∧ w = w' := by
  go_enter Tryz.func136, Tryz.ntmps136
  go_wp2
  go_loop [8] (fun i => ∃ m : Nat, m ≤ 2 ∧ i = .int .i64 m ∧ (0 < m → x = 0) ∧ (1 < m → y = 0)) (fun i => 2 - (intOf i).toNat)
  case atStart => exact ⟨0, by omega, rfl, by omega, by omega⟩
  case round =>
    obtain ⟨m, hm, rfl, hx, hy⟩ := hrel
    have HX := Lib.hid hx; have HY := Lib.hid hy
    clear hx hy
    have : m = 0 ∨ m = 1 ∨ m = 2 := by omega
    rcases this with rfl | rfl | rfl
    · simp only [Int.natCast_zero]
      by_cases hx : x = 0
      · go_wp2
        go_round
        case rel => exact ⟨1, by omega, by go_num, fun _ => hx, by omega⟩
        case measure => simp [intOf]
      · have HR := Lib.hid (show orI x y = x by simp [orI, hx])
        go_wp2
        go_ret
        exact ⟨by rw [HR.out]; rfl, rfl⟩
    · simp only [Int.natCast_one]
      by_cases hy : y = 0
      · go_wp2
        go_round
        case rel => exact ⟨2, by omega, by go_num, fun _ => HX.out (by omega), fun _ => hy⟩
        case measure => simp [intOf]
      · have HR := Lib.hid (show orI x y = y by simp [orI, HX.out (by omega)])
        go_wp2
        go_ret
        exact ⟨by rw [HR.out]; rfl, rfl⟩
    · simp only [show ((2 : Nat) : Int) = 2 from rfl]
      have HR := Lib.hid (show orI x y = 0 by simp [orI, HX.out (by omega), HY.out (by omega)])
      go_wp2
      go_ret
      exact ⟨by rw [HR.out]; rfl, rfl⟩
set_option maxHeartbeats 2000000 in
set_option maxRecDepth 100000 in
theorem name_any (a b : Ho) (w : World) :
    Calls Tryz.prog 97 #[.agg (vals a.l).toArray, .agg (vals b.l).toArray] w fun e w' => e = .returned (.int .i64 (nameC a b)) ∧ Below w.heap.size w w' ∧ w.drawn ≤ w'.drawn := by
  have HK := Lib.hid (show KeepR w [] w ∧ w.drawn ≤ w.drawn from ⟨KeepR.start w, Nat.le_refl _⟩)
  go_enter Tryz.func97, Tryz.ntmps97
  go_wp2_with (first | (with_reducible refine box_drawn (R := a.l) HK.out rfl _ rfl rfl ?_; intro b1 u hk; clear HK; have HK := Lib.hid hk; clear hk) | (with_reducible refine box_drawn (R := b.l) HK.out rfl _ rfl rfl ?_; intro b2 u hk; clear HK; have HK := Lib.hid hk; clear hk))
  refine Draws.start (S := fun u => KeepR w [(b2, 81, b.l), (b1, 81, a.l)] u ∧ w.drawn ≤ u.drawn) (n := 13) 13 rfl (by kernel_rfl) ?_
  have HS := Lib.hid (show (fun u => KeepR w [(b2, 81, b.l), (b1, 81, a.l)] u ∧ w.drawn ≤ u.drawn) _ from ⟨HK.out.1.drew, Nat.le_succ_of_le HK.out.2⟩)
  clear HK
  refine Draws.take 0 (v := ?v1) HS.out rfl (by kernel_rfl) (fun _ _ _ h => h) (Or.inl ⟨rfl, ?h1⟩) ?r1
  case h1 => intro w' hw'; go_simp; (try with_reducible rfl)
  (try simp only [Act.put, lsA, lsB, lsC])
  refine Draws.take 1 HS.out rfl (by kernel_rfl) (fun _ _ _ h => h) (yield_int (fun _ h => (h.1.get 1 rfl).five.1) _ rfl rfl rfl) ?_
  (try simp only [Act.put, lsA, lsB, lsC])
  refine Draws.take 2 (v := ?v2) HS.out rfl (by kernel_rfl) (fun _ _ _ h => h) (Or.inl ⟨rfl, ?h2⟩) ?r2
  case h2 => intro w' hw'; go_simp; (try with_reducible rfl)
  (try simp only [Act.put, lsA, lsB, lsC])
  refine Draws.take 3 HS.out rfl (by kernel_rfl) (fun _ _ _ h => h) (yield_int (fun _ h => (h.1.get 0 rfl).five.1) _ rfl rfl rfl) ?_
  (try simp only [Act.put, lsA, lsB, lsC])
  refine Draws.take 5 (v := ?v3) HS.out rfl (by kernel_rfl) (fun _ _ _ h => h) (Or.inl ⟨rfl, ?h3⟩) ?r3
  case h3 => intro w' hw'; go_simp; (try with_reducible rfl)
  (try simp only [Act.put, lsA, lsB, lsC])
  refine Draws.take 6 HS.out rfl (by kernel_rfl) (fun _ _ _ h => h) (yield_int (fun _ h => (h.1.get 1 rfl).five.2.1) _ rfl rfl rfl) ?_
  (try simp only [Act.put, lsA, lsB, lsC])
  refine Draws.take 7 (v := ?v4) HS.out rfl (by kernel_rfl) (fun _ _ _ h => h) (Or.inl ⟨rfl, ?h4⟩) ?r4
  case h4 => intro w' hw'; go_simp; (try with_reducible rfl)
  (try simp only [Act.put, lsA, lsB, lsC])
  refine Draws.take 8 HS.out rfl (by kernel_rfl) (fun _ _ _ h => h) (yield_int (fun _ h => (h.1.get 0 rfl).five.2.1) _ rfl rfl rfl) ?_
  (try simp only [Act.put, lsA, lsB, lsC])
  refine Draws.does 4 rfl (by kernel_rfl) rfl (fun K hK => ?_)
  go_simp
  go_at_call 137
  refine (cmpi_anyH _ _ _).mono ?_
  rintro e u ⟨rfl, rfl⟩
  (try dsimp only)
  refine hK.out _ _ (fun _ => HS.out) ?_
  clear hK K
  (try simp only [Act.put, lsA, lsB, lsC])
  refine Draws.does 9 rfl (by kernel_rfl) rfl (fun K hK => ?_)
  go_simp
  go_at_call 137
  refine (cmpi_anyH _ _ _).mono ?_
  rintro e u ⟨rfl, rfl⟩
  (try dsimp only)
  refine hK.out _ _ (fun _ => HS.out) ?_
  clear hK K
  (try simp only [Act.put, lsA, lsB, lsC])
  refine Draws.does 10 rfl (by kernel_rfl) rfl (fun K hK => ?_)
  refine wp_build_pair HS.out.1 _ _ rfl rfl rfl ?_
  intro b3 u hk hd
  have HS2 := Lib.hid (show KeepR w _ u ∧ w.drawn ≤ u.drawn from ⟨hk, by rw [hd]; exact HS.out.2⟩)
  clear hk hd
  refine hK.out _ _ (fun _ => ⟨HS2.out.1.tail, HS2.out.2⟩) ?_
  clear hK K
  (try simp only [Act.put, lsA, lsB, lsC])
  refine Draws.does 11 rfl (by kernel_rfl) rfl (fun K hK => ?_)
  go_simp
  go_at_call 136
  refine (or_any _ _ _ _ ((HS2.out.1.get 0 rfl).cell (k := 0) (by simp)) ((HS2.out.1.get 0 rfl).cell (k := 1) (by simp))).mono ?_
  rintro e u ⟨rfl, rfl⟩
  (try dsimp only)
  refine hK.out _ _ (fun _ => ⟨HS2.out.1.tail, HS2.out.2⟩) ?_
  clear hK K
  (try simp only [Act.put, lsA, lsB, lsC])
  refine Draws.does 12 rfl (by kernel_rfl) rfl (fun K hK => ?_)
  go_simp
  refine hK.out _ _ (fun _ => ⟨HS2.out.1.tail, HS2.out.2⟩) ?_
  clear hK K
  (try simp only [Act.put, lsA, lsB, lsC])
  refine Draws.done (by kernel_rfl) ?_
  go_wp2
  go_ret
  exact ⟨rfl, HS2.out.1.bel, HS2.out.2⟩

end Go.Proofs.YtgblnlpfgdbnnaaGreat
