/- Plain arithmetic of layer 1 (num): which numbers may be, and what a sum, a difference and a product tell. No program is spoken of here. Contracts of num.Is and num.Add: each tells what the plain arithmetic tells, and leaves the world as it was. Contracts of num.Must and of num.Try's deferred call. Contracts of num.Sum and of num.Try at its closure. A contract of num.Sub. Contracts of the document's Is and Add of layer 1. A contract of the document's Sum of layer 1. -/
import Derived.Test.YtopefknkfjghhaaRows
import Derived.WalkKit
import Derived.ProofKit
import Derived.Lib.Hide
import Derived.LoopTactic
import Derived.Defers
import Derived.Recover
import Derived.Below
import Derived.WalkSmall
namespace Go.Proofs.Ytopefknkfjghhaa

def isB (n : Int) : Bool := decide (-1099511627776 ≤ n) && decide (n ≤ 1099511627776)

theorem isB_iff {n : Int} : isB n = true ↔ (-1099511627776 ≤ n ∧ n ≤ 1099511627776) := by simp [isB]
theorem isB_not {n : Int} : isB n = false ↔ (n < -1099511627776 ∨ 1099511627776 < n) := by
  rw [← Bool.not_eq_true, isB_iff]; omega

def okB (a b r : Int) : Bool := isB a && isB b && isB r
def addN (a b : Int) : Int := if okB a b (a + b) then a + b else 0
def addE (a b : Int) : Int := if okB a b (a + b) then 0 else 2
def subN (a b : Int) : Int := if okB a b (a - b) then a - b else 0
def subE (a b : Int) : Int := if okB a b (a - b) then 0 else 2
def mulN (a b : Int) : Int := if okB a b (a * b) then a * b else 0
def mulE (a b : Int) : Int := if okB a b (a * b) then 0 else 2

theorem okB_iff {a b r : Int} : okB a b r = true ↔ (isB a = true ∧ isB b = true ∧ isB r = true) := by
  simp [okB, and_assoc]
theorem okB_a {a b r : Int} (h : isB a = false) : okB a b r = false := by simp [okB, h]
theorem okB_b {a b r : Int} (h : isB b = false) : okB a b r = false := by simp [okB, h]
theorem okB_r {a b r : Int} (h : isB r = false) : okB a b r = false := by simp [okB, h]

theorem okB_comm (a b r : Int) : okB b a r = okB a b r := by simp only [okB, Bool.and_comm (isB b) (isB a)]
theorem addN_comm (a b : Int) : addN b a = addN a b := by rw [addN, addN, Int.add_comm b a, okB_comm]
theorem addE_comm (a b : Int) : addE b a = addE a b := by rw [addE, addE, Int.add_comm b a, okB_comm]
theorem mulN_comm (a b : Int) : mulN b a = mulN a b := by rw [mulN, mulN, Int.mul_comm b a, okB_comm]
theorem mulE_comm (a b : Int) : mulE b a = mulE a b := by rw [mulE, mulE, Int.mul_comm b a, okB_comm]

theorem isB_zero : isB 0 = true := by decide
theorem isB_addN (a b : Int) : isB (addN a b) = true := by
  unfold addN; split
  · rename_i h; exact (okB_iff.1 h).2.2
  · exact isB_zero
theorem isB_mulN (a b : Int) : isB (mulN a b) = true := by
  unfold mulN; split
  · rename_i h; exact (okB_iff.1 h).2.2
  · exact isB_zero

theorem addE_ok {a b : Int} (h : okB a b (a + b) = true) : addE a b = 0 ∧ addN a b = a + b := by simp [addE, addN, h]
theorem addE_no {a b : Int} (h : okB a b (a + b) = false) : addE a b = 2 ∧ addN a b = 0 := by simp [addE, addN, h]
theorem subE_ok {a b : Int} (h : okB a b (a - b) = true) : subE a b = 0 ∧ subN a b = a - b := by simp [subE, subN, h]
theorem subE_no {a b : Int} (h : okB a b (a - b) = false) : subE a b = 2 ∧ subN a b = 0 := by simp [subE, subN, h]
theorem mulE_ok {a b : Int} (h : okB a b (a * b) = true) : mulE a b = 0 ∧ mulN a b = a * b := by simp [mulE, mulN, h]
theorem mulE_no {a b : Int} (h : okB a b (a * b) = false) : mulE a b = 2 ∧ mulN a b = 0 := by simp [mulE, mulN, h]

/-- What is taken off is what was added. -/
theorem sub_back {a b : Int} (h : okB a b (a + b) = true) : subE (addN a b) b = 0 ∧ subN (addN a b) b = a := by
  obtain ⟨ha, hb, hr⟩ := okB_iff.1 h
  rw [(addE_ok h).2]
  have e : a + b - b = a := by omega
  have k : okB (a + b) b (a + b - b) = true := by rw [e]; exact okB_iff.2 ⟨hr, hb, ha⟩
  exact ⟨(subE_ok k).1, by rw [(subE_ok k).2, e]⟩

/-- The magnitude of a number. -/
def sz (n : Int) : Int := if n < 0 then -n else n
theorem sz_nat (n : Int) : sz n = n.natAbs := by unfold sz; split <;> omega
/-- The program's own test for a product that is too great. -/
def tgB (a b : Int) : Bool := b != 0 && decide (1099511627776 / sz b < sz a)

theorem isB_natAbs {n : Int} : isB n = true ↔ n.natAbs ≤ 1099511627776 := by rw [isB_iff]; omega

theorem tgB_iff (a b : Int) : tgB a b = !isB (a * b) := by
  rw [Bool.eq_iff_iff]
  simp only [tgB, sz_nat, Bool.and_eq_true, bne_iff_ne, ne_eq, decide_eq_true_eq, Bool.not_eq_true', ← Bool.not_eq_true, isB_natAbs, Int.natAbs_mul]
  have e : (1099511627776 : Int) / (b.natAbs : Int) = ((1099511627776 / b.natAbs : Nat) : Int) := by simp
  rw [e]
  constructor
  · rintro ⟨hb, h⟩
    have hb' : 0 < b.natAbs := by omega
    have h' : 1099511627776 / b.natAbs < a.natAbs := by exact_mod_cast h
    rw [Nat.div_lt_iff_lt_mul hb'] at h'
    omega
  · intro h
    have hb' : 0 < b.natAbs := by
      rcases Nat.eq_zero_or_pos b.natAbs with h0 | h0
      · rw [h0] at h; simp at h
      · exact h0
    refine ⟨by omega, ?_⟩
    have : 1099511627776 / b.natAbs < a.natAbs := by rw [Nat.div_lt_iff_lt_mul hb']; omega
    exact_mod_cast this

/-- A round of the document's own product by doubling. -/
theorem round_odd {N P Y r : Int} (h : N + P * Y = r) (ho : Y % 2 = 1) : (N + P) + (P + P) * (Y / 2) = r := by
  have e : Y = 2 * (Y / 2) + 1 := by omega
  generalize Y / 2 = k at *
  subst e; subst h
  rw [Int.mul_add, Int.add_mul, Int.mul_one, ← Int.mul_assoc, Int.mul_comm P 2, Int.mul_assoc]; omega
theorem round_even {N P Y r : Int} (h : N + P * Y = r) (ho : ¬ Y % 2 = 1) (h0 : 0 ≤ Y) : N + (P + P) * (Y / 2) = r := by
  have e : Y = 2 * (Y / 2) := by omega
  generalize Y / 2 = k at *
  subst e; subst h
  rw [Int.add_mul, ← Int.mul_assoc, Int.mul_comm P 2, Int.mul_assoc]; omega
theorem far_n {N P Y r : Int} (h : N + P * Y = r) (h0 : 0 ≤ Y) (hs : (0 ≤ N ∧ 0 ≤ P) ∨ (N ≤ 0 ∧ P ≤ 0)) (hn : isB N = false) : isB r = false := by
  rw [isB_not] at *
  rcases hs with ⟨h1, h2⟩ | ⟨h1, h2⟩
  · have := Int.mul_nonneg h2 h0; omega
  · have := Int.mul_nonneg (show 0 ≤ -P by omega) h0; rw [Int.neg_mul] at this; omega
theorem far_p {N P Y r : Int} (h : N + (P + P) * Y = r) (h0 : 0 < Y) (hs : (0 ≤ N ∧ 0 ≤ P) ∨ (N ≤ 0 ∧ P ≤ 0)) (hp : isB P = false) : isB r = false := by
  rw [isB_not] at *
  have e : (P + P) * Y = (P + P) * (Y - 1) + (P + P) := by rw [Int.mul_sub, Int.mul_one]; omega
  rw [e] at h
  rcases hs with ⟨h1, h2⟩ | ⟨h1, h2⟩
  · have := Int.mul_nonneg (show 0 ≤ P + P by omega) (show 0 ≤ Y - 1 by omega); omega
  · have := Int.mul_nonneg (show 0 ≤ -(P + P) by omega) (show 0 ≤ Y - 1 by omega); rw [Int.neg_mul] at this; omega

/-- Numbers, added to what there is, from the first on; none where one is too great. -/
def sumFrom (acc : Int) : List Int → Option Int
  | [] => some acc
  | n :: r => if okB acc n (acc + n) then sumFrom (acc + n) r else none
def sumN (l : List Int) : Int := (sumFrom 0 l).getD 0
def sumE (l : List Int) : Int := if (sumFrom 0 l).isSome then 0 else 2
theorem sumN_some {l : List Int} {s : Int} (h : sumFrom 0 l = some s) : sumN l = s ∧ sumE l = 0 := by simp [sumN, sumE, h]
theorem sumN_none {l : List Int} (h : sumFrom 0 l = none) : sumN l = 0 ∧ sumE l = 2 := by simp [sumN, sumE, h]
theorem drop_cons {l : List Int} {k : Nat} (h : k < l.length) : l.drop k = l.getD k 0 :: l.drop (k + 1) := by
  rw [List.drop_eq_getElem_cons h]; simp [List.getD, h]
theorem sumFrom_step {l : List Int} {k : Nat} {S : Int} (h : k < l.length) : sumFrom S (l.drop k) = if okB S (l.getD k 0) (S + l.getD k 0) then sumFrom (S + l.getD k 0) (l.drop (k + 1)) else none := by
  rw [drop_cons h, sumFrom]
theorem sumFrom_end {l : List Int} {k : Nat} {S : Int} (h : ¬ k < l.length) : sumFrom S (l.drop k) = some S := by
  rw [List.drop_of_length_le (by omega), sumFrom]

/-- All numbers of a list, added, whatever they come to. -/
def tot : List Int → Int
  | [] => 0
  | z :: r => z + tot r
theorem tot_append (xs ys : List Int) : tot (xs ++ ys) = tot xs + tot ys := by
  induction xs with
  | nil => simp [tot]
  | cons x r ih => simp only [List.cons_append, tot, ih]; omega
theorem tot_reverse (xs : List Int) : tot xs.reverse = tot xs := by
  induction xs with
  | nil => rfl
  | cons x r ih => rw [List.reverse_cons, tot_append, ih]; simp only [tot]; omega
theorem tot_parts (xs : List Int) (k : Nat) : tot (xs.take k) + tot (xs.drop k) = tot xs := by
  rw [← tot_append, List.take_append_drop]
theorem tot_nonneg {xs : List Int} (h : ∀ z ∈ xs, 0 ≤ z) : 0 ≤ tot xs := by
  induction xs with
  | nil => simp [tot]
  | cons x r ih =>
    have h1 := h x (by simp)
    have h2 := ih (fun z hz => h z (by simp [hz]))
    simp only [tot]; omega
theorem sumFrom_tot {xs : List Int} (h : ∀ z ∈ xs, 0 ≤ z) : ∀ acc : Int, 0 ≤ acc → acc ≤ 1099511627776 →
    sumFrom acc xs = if acc + tot xs ≤ 1099511627776 then some (acc + tot xs) else none := by
  induction xs with
  | nil => intro acc h0 h1; simp [sumFrom, tot, h1]
  | cons x r ih =>
    intro acc h0 h1
    have hx := h x (by simp)
    have hr : ∀ z ∈ r, 0 ≤ z := fun z hz => h z (by simp [hz])
    have ht := tot_nonneg hr
    have e : acc + tot (x :: r) = acc + x + tot r := by show acc + (x + tot r) = _; omega
    rw [e, sumFrom]
    by_cases hs : acc + x ≤ 1099511627776
    · have hok : okB acc x (acc + x) = true := okB_iff.2 ⟨isB_iff.2 (by omega), isB_iff.2 (by omega), isB_iff.2 (by omega)⟩
      rw [if_pos hok, ih hr (acc + x) (by omega) hs]
    · have hok : okB acc x (acc + x) = false := okB_r (isB_not.2 (by omega))
      rw [if_neg (by simp [hok]), if_neg (by omega)]
theorem sum_fits {xs : List Int} (h : ∀ z ∈ xs, 0 ≤ z) (ht : tot xs ≤ 1099511627776) : sumN xs = tot xs ∧ sumE xs = 0 := by
  have := sumFrom_tot h 0 (by omega) (by omega)
  rw [if_pos (by omega)] at this
  obtain ⟨h1, h2⟩ := sumN_some this
  exact ⟨by omega, h2⟩
theorem sum_over {xs : List Int} (h : ∀ z ∈ xs, 0 ≤ z) (ht : 1099511627776 < tot xs) : sumN xs = 0 ∧ sumE xs = 2 := by
  have := sumFrom_tot h 0 (by omega) (by omega)
  rw [if_neg (by omega)] at this
  exact sumN_none this
theorem take_snoc {xs : List Int} {k : Nat} (h : k < xs.length) : xs.take (k + 1) = xs.take k ++ [xs.getD k 0] := by
  rw [List.take_succ_eq_append_getElem h]; simp [List.getD, h]
theorem back_snoc {xs : List Int} {k : Nat} (h : k < xs.length) : (xs.take (k + 1)).reverse = [xs.getD k 0] ++ (xs.take k).reverse := by
  rw [take_snoc h]; simp
end Go.Proofs.Ytopefknkfjghhaa

namespace Go.Proofs.Ytopefknkfjghhaa
open Go.ChangeShapes Go.WideShapes Go.ChangeAt Go.RowKit

theorem is_any (n : Int) (w : World) : Calls Try.prog 47 #[.int .i64 n] w fun e w' => e = .returned (.bool (isB n)) ∧ w = w' := by
  by_cases h1 : -1099511627776 ≤ n
  · by_cases h2 : n ≤ 1099511627776
    · have e : isB n = true := isB_iff.2 ⟨h1, h2⟩
      rw [e]; clear e
      go_enter Try.func47, Try.ntmps47
      go_wp2
      go_ret
      exact ⟨rfl, rfl⟩
    · have e : isB n = false := isB_not.2 (by omega)
      rw [e]; clear e
      go_enter Try.func47, Try.ntmps47
      go_wp2
      go_ret
      exact ⟨rfl, rfl⟩
  · have e : isB n = false := isB_not.2 (by omega)
    rw [e]; clear e
    go_enter Try.func47, Try.ntmps47
    go_wp2
    go_ret
    exact ⟨rfl, rfl⟩

theorem told_any (n : Int) (w : World) : Calls Try.prog 48 #[.int .i64 n] w fun e w' => e = .returned (.tuple #[.int .i64 (if isB n then n else 0), .int .i64 (if isB n then 0 else 2)]) ∧ w = w' := by
  by_cases h : isB n = true
  · rw [if_pos h, if_pos h]
    go_enter Try.func48, Try.ntmps48
    go_wp2_with ((go_at_call 47; refine (is_any _ _).mono ?_; rintro e w' ⟨rfl, rfl⟩))
    go_ret2
    exact ⟨rfl, rfl⟩
  · rw [if_neg h, if_neg h]
    have h : isB n = false := by simpa using h
    go_enter Try.func48, Try.ntmps48
    go_wp2_with ((go_at_call 47; refine (is_any _ _).mono ?_; rintro e w' ⟨rfl, rfl⟩))
    go_ret2
    exact ⟨rfl, rfl⟩

theorem add_any (a b : Int) (w : World) : Calls Try.prog 54 #[.int .i64 a, .int .i64 b] w fun e w' => e = .returned (.tuple #[.int .i64 (addN a b), .int .i64 (addE a b)]) ∧ w = w' := by
  by_cases ha : isB a = true
  · by_cases hb : isB b = true
    · obtain ⟨a1, a2⟩ := isB_iff.1 ha
      obtain ⟨b1, b2⟩ := isB_iff.1 hb
      by_cases hs : isB (a + b) = true
      · obtain ⟨hE, hN⟩ := addE_ok (okB_iff.2 ⟨ha, hb, hs⟩)
        rw [hE, hN]; clear hE hN
        go_enter Try.func54, Try.ntmps54
        go_wp2_with (first | (go_at_call 47; refine (is_any _ _).mono ?_; rintro e w' ⟨rfl, rfl⟩) | (go_at_call 48; go_in))
        go_ret2
        exact ⟨rfl, rfl⟩
      · have hs : isB (a + b) = false := by simpa using hs
        obtain ⟨hE, hN⟩ := addE_no (okB_r (a := a) (b := b) hs)
        rw [hE, hN]; clear hE hN
        go_enter Try.func54, Try.ntmps54
        go_wp2_with (first | (go_at_call 47; refine (is_any _ _).mono ?_; rintro e w' ⟨rfl, rfl⟩) | (go_at_call 48; go_in))
        go_ret2
        exact ⟨rfl, rfl⟩
    · have hb : isB b = false := by simpa using hb
      obtain ⟨hE, hN⟩ := addE_no (okB_b (a := a) (r := a + b) hb)
      rw [hE, hN]; clear hE hN
      go_enter Try.func54, Try.ntmps54
      go_wp2_with (first | (go_at_call 47; refine (is_any _ _).mono ?_; rintro e w' ⟨rfl, rfl⟩) | (go_at_call 48; go_in))
      go_ret2
      exact ⟨rfl, rfl⟩
  · have ha : isB a = false := by simpa using ha
    obtain ⟨hE, hN⟩ := addE_no (okB_a (b := b) (r := a + b) ha)
    rw [hE, hN]; clear hE hN
    go_enter Try.func54, Try.ntmps54
    go_wp2_with (first | (go_at_call 47; refine (is_any _ _).mono ?_; rintro e w' ⟨rfl, rfl⟩) | (go_at_call 48; go_in))
    go_ret2
    exact ⟨rfl, rfl⟩
end Go.Proofs.Ytopefknkfjghhaa

namespace Go.Proofs.Ytopefknkfjghhaa
open Go.ChangeShapes Go.WideShapes Go.ChangeAt Go.RowKit

/-- The panic with which a number that is too great comes up. -/
abbrev errEntry (e : Int) : PanicEntry := { v := .iface 29 (.int .i64 e), recovered := false }

theorem must_ok (n : Int) (w : World) : Calls Try.prog 30 #[.int .i64 n, .int .i64 0] w fun e w' => e = .returned (.int .i64 n) ∧ w = w' := by
  go_enter Try.func30, Try.ntmps30
  go_wp2
  go_ret
  exact ⟨rfl, rfl⟩

theorem must_bad (n x : Int) (w : World) (h : (x != 0) = true) : Calls Try.prog 30 #[.int .i64 n, .int .i64 x] w fun e w' => e = .panicked [errEntry x] ∧ w = w' := by
  go_enter Try.func30, Try.ntmps30
  go_wp2
  exact ⟨rfl, rfl, rfl⟩

theorem assert_yes (v : Value) (w : World) : (Instr.typeAssert (.iface 29 v) 20 29 true).run Try.prog w = .ok (.tuple #[v, .bool true]) w := by kernel_rfl

theorem assert_no (v : Value) (w : World) : (Instr.typeAssert (.iface 9 v) 20 29 true).run Try.prog w = .ok (.tuple #[.int .i64 0, .bool false]) w := by kernel_rfl

theorem carried_ok (x : Int) (w : World) : Calls Try.prog 52 #[.iface 29 (.int .i64 x)] w fun e w' => e = .returned (.int .i64 x) ∧ w = w' := by
  have hy := assert_yes
  have hn := assert_no
  go_enter Try.func52, Try.ntmps52
  go_wp2
  go_ret
  exact ⟨rfl, rfl⟩

theorem carried_bad (s : ByteArray) (w : World) : Calls Try.prog 52 #[.iface 9 (.string s)] w fun e w' => e = .panicked [{ v := .iface 9 (.string s), recovered := false }] ∧ w = w' := by
  have hy := assert_yes
  have hn := assert_no
  go_enter Try.func52, Try.ntmps52
  go_wp2
  exact ⟨rfl, rfl, rfl⟩

/-- Try's own deferred call, where nothing panicked. -/
theorem door_idle (p : Addr) (w : World) :
    CallsD Try.prog 51 #[.pointer (some p)] .returning w fun e u' w' => e = .returned (.tuple #[]) ∧ u' = .returning ∧ w' = w := by
  refine callsD_of_wpS Try.func51 rfl fun c₀ cs hu => ?_
  apply wpS_seq
  apply wpS_region
  simp [wpOpsS, go_sem, recoverD, hu, Try.ntmps51, Exit.thenS]
  refine wpS_of_wp ?_
  change Code.wp _ _ _ ⟨#[.pointer (some p), .nilIface, .nilIface, undef, undef, undef, undef], []⟩ _
  go_wp2
  cases c₀
  simp_all [bodyPostS, results, Try.results51]

/-- Where an error of api's came up: it is laid into the named result. -/
theorem door_err (p : Addr) (v : Value) (x : Int) (older : List PanicEntry) (w : World) (hc : w.cell? p = some v) (hz : w.frozen? p = false) :
    CallsD Try.prog 51 #[.pointer (some p)] (.panicking (errEntry x :: older)) w fun e u' w' =>
      e = .returned (.tuple #[]) ∧ u' = .panicking ({ v := .iface 29 (.int .i64 x), recovered := true } :: older) ∧ w' = w.setCell p (.int .i64 x) := by
  refine callsD_of_wpS Try.func51 rfl fun c₀ cs hu => ?_
  apply wpS_seq
  apply wpS_region
  simp [wpOpsS, go_sem, recoverD, hu, Try.ntmps51, Exit.thenS]
  refine wpS_of_wp ?_
  change Code.wp _ _ _ ⟨#[.pointer (some p), .iface 29 (.int .i64 x), .iface 29 (.int .i64 x), undef, undef, undef, undef], []⟩ _
  clear hu
  go_wp2_with ((go_at_call 52; refine (carried_ok _ _).mono ?_; rintro e w' ⟨rfl, rfl⟩))
  simp [bodyPostS, results, Try.results51]

/-- Where any other panic came up: it goes on. -/
theorem door_other (p : Addr) (s : ByteArray) (older : List PanicEntry) (w : World) :
    CallsD Try.prog 51 #[.pointer (some p)] (.panicking ({ v := .iface 9 (.string s), recovered := false } :: older)) w fun e u' w' =>
      e = .panicked [{ v := .iface 9 (.string s), recovered := false }] ∧ u' = .panicking ({ v := .iface 9 (.string s), recovered := true } :: older) ∧ w' = w := by
  refine callsD_of_wpS Try.func51 rfl fun c₀ cs hu => ?_
  apply wpS_seq
  apply wpS_region
  simp [wpOpsS, go_sem, recoverD, hu, Try.ntmps51, Exit.thenS]
  refine wpS_of_wp ?_
  change Code.wp _ _ _ ⟨#[.pointer (some p), .iface 9 (.string s), .iface 9 (.string s), undef, undef, undef, undef], []⟩ _
  clear hu
  go_wp2_with ((go_at_call 52; refine (carried_bad _ _).mono ?_; rintro e w' ⟨rfl, rfl⟩))
  simp [bodyPostS]
end Go.Proofs.Ytopefknkfjghhaa

namespace Go.Proofs.Ytopefknkfjghhaa
open Go.ChangeShapes Go.WideShapes Go.ChangeAt Go.RowKit

/-- A slice of numbers whose elements are 'zs', in some world. -/
def Reads (w : World) (a : Option Addr) (len : Nat) (zs : List Int) : Prop :=
  zs.length = len ∧ len ≤ maxLen ∧ (len = 0 ∨ ∃ b off : Nat, a = some ⟨b, off, none⟩ ∧ ∀ i, i < len → w.cell? ⟨b, off + i, none⟩ = some (.int .i64 (zs.getD i 0)))

theorem sum1_some (p : Addr) (a : Option Addr) (len cap : Nat) (zs : List Int) (s : Int) (w : World) (hp : w.cell? p = some (.slice a len cap)) (hr : Reads w a len zs) (hs : sumFrom 0 zs = some s) :
    Calls Try.prog 53 #[.pointer (some p)] w fun e w' => e = .returned (.int .i64 s) ∧ w = w' := by
  obtain ⟨hl, hm, hx⟩ := hr
  unfold maxLen at hm
  have HL := Lib.hid hl; clear hl
  have HS := Lib.hid hs; clear hs
  rcases hx with h0 | ⟨b, off, rfl, hc⟩
  · obtain rfl : len = 0 := h0
    go_enter Try.func53, Try.ntmps53
    go_wp2
    go_loop [2, 7] (fun t i => ∃ (k : Nat) (S : Int), k ≤ 0 ∧ i = .int .i64 k ∧ t = .int .i64 S ∧ sumFrom S (zs.drop k) = some s) (fun _ i => 0 - (intOf i).toNat)
    case atStart => exact ⟨0, 0, Nat.zero_le _, rfl, rfl, HS.out⟩
    case round =>
      obtain ⟨k, S, hk, rfl, rfl, hS⟩ := hrel
      have HQ := Lib.hid hS; clear hS
      obtain rfl : k = 0 := by omega
      have hq := HQ.out
      rw [sumFrom_end (by have := HL.out; omega)] at hq
      obtain rfl : S = s := by simpa using hq
      clear hq HQ HS
      go_wp2
      go_ret
      exact ⟨rfl, rfl⟩
  · have HC := Lib.hid hc; clear hc
    go_enter Try.func53, Try.ntmps53
    go_wp2
    go_loop [2, 7] (fun t i => ∃ (k : Nat) (S : Int), k ≤ len ∧ i = .int .i64 k ∧ t = .int .i64 S ∧ sumFrom S (zs.drop k) = some s) (fun _ i => len - (intOf i).toNat)
    case atStart => exact ⟨0, 0, Nat.zero_le _, rfl, rfl, HS.out⟩
    case round =>
      obtain ⟨k, S, hk, rfl, rfl, hS⟩ := hrel
      have HQ := Lib.hid hS; clear hS
      by_cases hlt : k < len
      · have hcell : w.cell? ⟨b, off + k, none⟩ = some (.int .i64 (zs.getD k 0)) := HC.out k hlt
        generalize hz : zs.getD k 0 = z at hcell
        have HZ := Lib.hid hz; clear hz
        have hkl : k < zs.length := by have := HL.out; omega
        have hst := sumFrom_step (S := S) hkl
        rw [HQ.out, HZ.out] at hst
        by_cases hok : okB S z (S + z) = true
        · rw [if_pos hok] at hst
          have HT := Lib.hid hst; clear hst hkl
          obtain ⟨e1, e2⟩ := addE_ok hok
          have HO := Lib.hid hok; clear hok
          go_wp2_with (first | (go_at_call 54; refine (add_any _ _ _).mono ?_; rintro e w' ⟨rfl, rfl⟩; rw [e1, e2]) | (go_at_call 30; refine (must_ok _ _).mono ?_; rintro e w' ⟨rfl, rfl⟩))
          go_round
          case rel => exact ⟨k + 1, S + z, by omega, by go_num, rfl, HT.out.symm⟩
          case measure => simp [intOf]; omega
        · have hok : okB S z (S + z) = false := by simpa using hok
          rw [if_neg (by simp [hok])] at hst
          cases hst
      · have hq := HQ.out
        rw [sumFrom_end (by have := HL.out; omega)] at hq
        obtain rfl : S = s := by simpa using hq
        clear hq HQ HS
        go_wp2
        go_ret
        exact ⟨rfl, rfl⟩

theorem sum1_none (p : Addr) (a : Option Addr) (len cap : Nat) (zs : List Int) (w : World) (hp : w.cell? p = some (.slice a len cap)) (hr : Reads w a len zs) (hs : sumFrom 0 zs = none) :
    Calls Try.prog 53 #[.pointer (some p)] w fun e w' => e = .panicked [errEntry 2] ∧ w = w' := by
  obtain ⟨hl, hm, hx⟩ := hr
  unfold maxLen at hm
  have HL := Lib.hid hl; clear hl
  have HS := Lib.hid hs; clear hs
  rcases hx with h0 | ⟨b, off, rfl, hc⟩
  · obtain rfl : len = 0 := h0
    go_enter Try.func53, Try.ntmps53
    go_wp2
    go_loop [2, 7] (fun t i => ∃ (k : Nat) (S : Int), k ≤ 0 ∧ i = .int .i64 k ∧ t = .int .i64 S ∧ sumFrom S (zs.drop k) = none) (fun _ i => 0 - (intOf i).toNat)
    case atStart => exact ⟨0, 0, Nat.zero_le _, rfl, rfl, HS.out⟩
    case round =>
      obtain ⟨k, S, hk, rfl, rfl, hS⟩ := hrel
      have HQ := Lib.hid hS; clear hS
      obtain rfl : k = 0 := by omega
      have hq := HQ.out
      rw [sumFrom_end (by have := HL.out; omega)] at hq
      cases hq
  · have HC := Lib.hid hc; clear hc
    go_enter Try.func53, Try.ntmps53
    go_wp2
    go_loop [2, 7] (fun t i => ∃ (k : Nat) (S : Int), k ≤ len ∧ i = .int .i64 k ∧ t = .int .i64 S ∧ sumFrom S (zs.drop k) = none) (fun _ i => len - (intOf i).toNat)
    case atStart => exact ⟨0, 0, Nat.zero_le _, rfl, rfl, HS.out⟩
    case round =>
      obtain ⟨k, S, hk, rfl, rfl, hS⟩ := hrel
      have HQ := Lib.hid hS; clear hS
      by_cases hlt : k < len
      · have hcell : w.cell? ⟨b, off + k, none⟩ = some (.int .i64 (zs.getD k 0)) := HC.out k hlt
        generalize hz : zs.getD k 0 = z at hcell
        have HZ := Lib.hid hz; clear hz
        have hkl : k < zs.length := by have := HL.out; omega
        have hst := sumFrom_step (S := S) hkl
        rw [HQ.out, HZ.out] at hst
        by_cases hok : okB S z (S + z) = true
        · rw [if_pos hok] at hst
          have HT := Lib.hid hst; clear hst hkl
          obtain ⟨e1, e2⟩ := addE_ok hok
          have HO := Lib.hid hok; clear hok
          go_wp2_with (first | (go_at_call 54; refine (add_any _ _ _).mono ?_; rintro e w' ⟨rfl, rfl⟩; rw [e1, e2]) | (go_at_call 30; refine (must_ok _ _).mono ?_; rintro e w' ⟨rfl, rfl⟩))
          go_round
          case rel => exact ⟨k + 1, S + z, by omega, by go_num, rfl, HT.out.symm⟩
          case measure => simp [intOf]; omega
        · have hok : okB S z (S + z) = false := by simpa using hok
          obtain ⟨e1, e2⟩ := addE_no hok
          clear hst hok hkl
          go_wp2_with (first | (go_at_call 54; refine (add_any _ _ _).mono ?_; rintro e w' ⟨rfl, rfl⟩; rw [e1, e2]) | (go_at_call 30; refine (must_bad _ _ _ (by decide)).mono ?_; rintro e w' ⟨rfl, rfl⟩))
          exact ⟨rfl, rfl, rfl⟩
      · have hq := HQ.out
        rw [sumFrom_end (by have := HL.out; omega)] at hq
        cases hq

theorem cell_lt {w : World} {a : Addr} {v : Value} (h : w.cell? a = some v) : a.block < w.heap.size := by
  rcases Nat.lt_or_ge a.block w.heap.size with h1 | h1
  · exact h1
  · simp [World.cell?, Array.getElem?_eq_none h1] at h

theorem reads_below {w w' : World} (hb : Below w.heap.size w w') {a : Option Addr} {len : Nat} {zs : List Int} (h : Reads w a len zs) : Reads w' a len zs := by
  obtain ⟨h1, h2, h3⟩ := h
  refine ⟨h1, h2, ?_⟩
  rcases h3 with h0 | ⟨b, off, rfl, hc⟩
  · exact .inl h0
  · exact .inr ⟨b, off, rfl, fun i hi => by rw [hb.cell (cell_lt (hc i hi)), hc i hi]⟩

theorem eq_nil (fn : Fn) (first cap : Array Value) (w : World) : (binOp .eql 53 (.func fn first cap) .nilFunc).run Try.prog w = .ok (.bool false) w := by kernel_rfl

theorem try_some (p : Addr) (a : Option Addr) (len cap : Nat) (zs : List Int) (s : Int) (w : World) (hp : w.cell? p = some (.slice a len cap)) (hr : Reads w a len zs) (hs : sumFrom 0 zs = some s) :
    Calls Try.prog 28 #[.func (Fn.func 53) #[] #[.pointer (some p)]] w fun e w' => e = .returned (.tuple #[.int .i64 s, .int .i64 0]) ∧ Below w.heap.size w w' := by
  have hmf : ∀ (fn : Fn) (first cap : Array Value) (w : World), (Instr.makeFunc fn first cap).run Try.prog w = .ok (.func fn first cap) w := fun _ _ _ _ => rfl
  have hen := eq_nil
  have HS := Lib.hid hs; clear hs
  have HR := Lib.hid hr; clear hr
  have HP := Lib.hid hp; clear hp
  have hb1 : Below w.heap.size w (w.alloc (.cells #[.int .i64 0] 29)) := (Below.refl _ _).alloc (Nat.le_refl _) _
  have HB := Lib.hid hb1; clear hb1
  go_enter_defers Try.func28, Try.ntmps28
  go_wp2_with ((go_at_call 53; refine (sum1_some p a len cap zs s _ (by rw [HB.out.cell (cell_lt HP.out)]; exact HP.out) (reads_below HB.out HR.out) HS.out).mono ?_; rintro e w' ⟨rfl, rfl⟩))
  refine leaves_cons (f := 51) (args := #[.pointer (some ⟨w.heap.size, 0, none⟩)]) (by simp) (by simp [go_sem]) ?_
  refine (door_idle ⟨w.heap.size, 0, none⟩ _).mono ?_
  rintro e u' w'' ⟨rfl, rfl, rfl⟩
  simp [Leaves, settle, results, Try.results28, go_sem]
  exact HB.out

theorem try_none (p : Addr) (a : Option Addr) (len cap : Nat) (zs : List Int) (w : World) (hp : w.cell? p = some (.slice a len cap)) (hr : Reads w a len zs) (hs : sumFrom 0 zs = none) :
    Calls Try.prog 28 #[.func (Fn.func 53) #[] #[.pointer (some p)]] w fun e w' => e = .returned (.tuple #[.int .i64 0, .int .i64 2]) ∧ Below w.heap.size w w' := by
  have hmf : ∀ (fn : Fn) (first cap : Array Value) (w : World), (Instr.makeFunc fn first cap).run Try.prog w = .ok (.func fn first cap) w := fun _ _ _ _ => rfl
  have hen := eq_nil
  have HS := Lib.hid hs; clear hs
  have HR := Lib.hid hr; clear hr
  have HP := Lib.hid hp; clear hp
  have hb1 : Below w.heap.size w (w.alloc (.cells #[.int .i64 0] 29)) := (Below.refl _ _).alloc (Nat.le_refl _) _
  have HB := Lib.hid hb1; clear hb1
  go_enter_defers Try.func28, Try.ntmps28
  go_wp2_with ((go_at_call 53; refine (sum1_none p a len cap zs _ (by rw [HB.out.cell (cell_lt HP.out)]; exact HP.out) (reads_below HB.out HR.out) HS.out).mono ?_; rintro e w' ⟨rfl, rfl⟩))
  refine leaves_cons (f := 51) (args := #[.pointer (some ⟨w.heap.size, 0, none⟩)]) (by simp) (by simp [go_sem]) ?_
  refine (door_err ⟨w.heap.size, 0, none⟩ (.int .i64 0) 2 [] _ ?_ ?_).mono ?_
  · simp [go_sem]
  · simp [go_sem]
  rintro e u' w'' ⟨rfl, rfl, rfl⟩
  simp [Leaves, settle, results, Try.results28, go_sem]
  exact (Below.refl _ _).alloc (Nat.le_refl _) _

theorem sum_any (a : Option Addr) (len cap : Nat) (zs : List Int) (w : World) (hr : Reads w a len zs) :
    Calls Try.prog 31 #[.slice a len cap] w fun e w' => e = .returned (.tuple #[.int .i64 (sumN zs), .int .i64 (sumE zs)]) ∧ Below w.heap.size w w' := by
  have hmf : ∀ (fn : Fn) (first cap : Array Value) (w : World), (Instr.makeFunc fn first cap).run Try.prog w = .ok (.func fn first cap) w := fun _ _ _ _ => rfl
  have hb1 : Below w.heap.size w (w.alloc (.cells #[.slice a len cap] 52)) := (Below.refl _ _).alloc (Nat.le_refl _) _
  have HB := Lib.hid hb1; clear hb1
  have HR := Lib.hid hr; clear hr
  cases hs : sumFrom 0 zs with
  | some s =>
    obtain ⟨hN, hE⟩ := sumN_some hs
    rw [hN, hE]; clear hN hE
    have HS := Lib.hid hs; clear hs
    go_enter Try.func31, Try.ntmps31
    go_wp2_with ((go_at_call 28; refine (try_some ⟨w.heap.size, 0, none⟩ a len cap zs s _ (by simp [go_sem]) (reads_below HB.out HR.out) HS.out).mono ?_; rintro e w' ⟨rfl, hb⟩; have HB2 := Lib.hid hb; clear hb))
    go_ret2
    exact ⟨rfl, HB.out.trans (HB2.out.mono (by simp))⟩
  | none =>
    obtain ⟨hN, hE⟩ := sumN_none hs
    rw [hN, hE]; clear hN hE
    have HS := Lib.hid hs; clear hs
    go_enter Try.func31, Try.ntmps31
    go_wp2_with ((go_at_call 28; refine (try_none ⟨w.heap.size, 0, none⟩ a len cap zs _ (by simp [go_sem]) (reads_below HB.out HR.out) HS.out).mono ?_; rintro e w' ⟨rfl, hb⟩; have HB2 := Lib.hid hb; clear hb))
    go_ret2
    exact ⟨rfl, HB.out.trans (HB2.out.mono (by simp))⟩
end Go.Proofs.Ytopefknkfjghhaa

namespace Go.Proofs.Ytopefknkfjghhaa
open Go.ChangeShapes Go.WideShapes Go.ChangeAt Go.RowKit

theorem sub_any (a b : Int) (w : World) : Calls Try.prog 24 #[.int .i64 a, .int .i64 b] w fun e w' => e = .returned (.tuple #[.int .i64 (subN a b), .int .i64 (subE a b)]) ∧ w = w' := by
  by_cases ha : isB a = true
  · by_cases hb : isB b = true
    · obtain ⟨a1, a2⟩ := isB_iff.1 ha
      obtain ⟨b1, b2⟩ := isB_iff.1 hb
      by_cases hs : isB (a - b) = true
      · obtain ⟨hE, hN⟩ := subE_ok (okB_iff.2 ⟨ha, hb, hs⟩)
        rw [hE, hN]; clear hE hN
        go_enter Try.func24, Try.ntmps24
        go_wp2_with (first | (go_at_call 47; refine (is_any _ _).mono ?_; rintro e w' ⟨rfl, rfl⟩) | (go_at_call 48; go_in))
        go_ret2
        exact ⟨rfl, rfl⟩
      · have hs : isB (a - b) = false := by simpa using hs
        obtain ⟨hE, hN⟩ := subE_no (okB_r (a := a) (b := b) hs)
        rw [hE, hN]; clear hE hN
        go_enter Try.func24, Try.ntmps24
        go_wp2_with (first | (go_at_call 47; refine (is_any _ _).mono ?_; rintro e w' ⟨rfl, rfl⟩) | (go_at_call 48; go_in))
        go_ret2
        exact ⟨rfl, rfl⟩
    · have hb : isB b = false := by simpa using hb
      obtain ⟨hE, hN⟩ := subE_no (okB_b (a := a) (r := a - b) hb)
      rw [hE, hN]; clear hE hN
      go_enter Try.func24, Try.ntmps24
      go_wp2_with (first | (go_at_call 47; refine (is_any _ _).mono ?_; rintro e w' ⟨rfl, rfl⟩) | (go_at_call 48; go_in))
      go_ret2
      exact ⟨rfl, rfl⟩
  · have ha : isB a = false := by simpa using ha
    obtain ⟨hE, hN⟩ := subE_no (okB_a (b := b) (r := a - b) ha)
    rw [hE, hN]; clear hE hN
    go_enter Try.func24, Try.ntmps24
    go_wp2_with (first | (go_at_call 47; refine (is_any _ _).mono ?_; rintro e w' ⟨rfl, rfl⟩) | (go_at_call 48; go_in))
    go_ret2
    exact ⟨rfl, rfl⟩
end Go.Proofs.Ytopefknkfjghhaa

namespace Go.Proofs.Ytopefknkfjghhaa
open Go.ChangeShapes Go.WideShapes Go.ChangeAt Go.RowKit

theorem ris_any (n : Int) (w : World) : Calls Try.prog 25 #[.int .i64 n] w fun e w' => e = .returned (.bool (isB n)) ∧ w = w' := by
  by_cases h1 : -1099511627776 ≤ n
  · by_cases h2 : n ≤ 1099511627776
    · have e : isB n = true := isB_iff.2 ⟨h1, h2⟩
      rw [e]; clear e
      go_enter Try.func25, Try.ntmps25
      go_wp2
      go_ret
      exact ⟨rfl, rfl⟩
    · have e : isB n = false := isB_not.2 (by omega)
      rw [e]; clear e
      go_enter Try.func25, Try.ntmps25
      go_wp2
      go_ret
      exact ⟨rfl, rfl⟩
  · have e : isB n = false := isB_not.2 (by omega)
    rw [e]; clear e
    by_cases h2 : n ≤ 1099511627776
    all_goals
      go_enter Try.func25, Try.ntmps25
      go_wp2
      go_ret
      exact ⟨rfl, rfl⟩

theorem radd_any (a b : Int) (w : World) : Calls Try.prog 36 #[.int .i64 a, .int .i64 b] w fun e w' => e = .returned (.tuple #[.int .i64 (addN a b), .int .i64 (addE a b)]) ∧ w = w' := by
  by_cases ha : isB a = true
  · by_cases hb : isB b = true
    · obtain ⟨a1, a2⟩ := isB_iff.1 ha
      obtain ⟨b1, b2⟩ := isB_iff.1 hb
      by_cases hs : isB (a + b) = true
      · obtain ⟨hE, hN⟩ := addE_ok (okB_iff.2 ⟨ha, hb, hs⟩)
        rw [hE, hN]; clear hE hN
        go_enter Try.func36, Try.ntmps36
        go_wp2_with ((go_at_call 25; refine (ris_any _ _).mono ?_; rintro e w' ⟨rfl, rfl⟩))
        go_ret2
        exact ⟨rfl, rfl⟩
      · have hs : isB (a + b) = false := by simpa using hs
        obtain ⟨hE, hN⟩ := addE_no (okB_r (a := a) (b := b) hs)
        rw [hE, hN]; clear hE hN
        go_enter Try.func36, Try.ntmps36
        go_wp2_with ((go_at_call 25; refine (ris_any _ _).mono ?_; rintro e w' ⟨rfl, rfl⟩))
        go_ret2
        exact ⟨rfl, rfl⟩
    · have hb : isB b = false := by simpa using hb
      obtain ⟨hE, hN⟩ := addE_no (okB_b (a := a) (r := a + b) hb)
      rw [hE, hN]; clear hE hN
      go_enter Try.func36, Try.ntmps36
      go_wp2_with ((go_at_call 25; refine (ris_any _ _).mono ?_; rintro e w' ⟨rfl, rfl⟩))
      go_ret2
      exact ⟨rfl, rfl⟩
  · have ha : isB a = false := by simpa using ha
    obtain ⟨hE, hN⟩ := addE_no (okB_a (b := b) (r := a + b) ha)
    rw [hE, hN]; clear hE hN
    go_enter Try.func36, Try.ntmps36
    go_wp2_with ((go_at_call 25; refine (ris_any _ _).mono ?_; rintro e w' ⟨rfl, rfl⟩))
    go_ret2
    exact ⟨rfl, rfl⟩
end Go.Proofs.Ytopefknkfjghhaa

namespace Go.Proofs.Ytopefknkfjghhaa
open Go.ChangeShapes Go.WideShapes Go.ChangeAt Go.RowKit

theorem ret_some {zs : List Int} {S : Int} (h : some S = sumFrom 0 zs) : Ending.returned (.tuple #[.int .i64 S, .int .i64 0]) = .returned (.tuple #[.int .i64 (sumN zs), .int .i64 (sumE zs)]) := by
  obtain ⟨h1, h2⟩ := sumN_some h.symm
  rw [h1, h2]

theorem ret_none {zs : List Int} (h : none = sumFrom 0 zs) : Ending.returned (.tuple #[.int .i64 0, .int .i64 2]) = .returned (.tuple #[.int .i64 (sumN zs), .int .i64 (sumE zs)]) := by
  obtain ⟨h1, h2⟩ := sumN_none h.symm
  rw [h1, h2]

theorem rsum_any (a : Option Addr) (len cap : Nat) (zs : List Int) (w : World) (hr : Reads w a len zs) :
    Calls Try.prog 32 #[.slice a len cap] w fun e w' => e = .returned (.tuple #[.int .i64 (sumN zs), .int .i64 (sumE zs)]) ∧ w = w' := by
  obtain ⟨hl, hm, hx⟩ := hr
  unfold maxLen at hm
  have HL := Lib.hid hl; clear hl
  rcases hx with h0 | ⟨b, off, rfl, hc⟩
  · obtain rfl : len = 0 := h0
    go_enter Try.func32, Try.ntmps32
    go_wp2
    go_loop [4, 5] (fun t i => ∃ (k : Nat) (S : Int), k ≤ 0 ∧ i = .int .i64 k ∧ t = .int .i64 S ∧ sumFrom S (zs.drop k) = sumFrom 0 zs) (fun _ i => 0 - (intOf i).toNat)
    case atStart => exact ⟨0, 0, Nat.zero_le _, rfl, rfl, rfl⟩
    case round =>
      obtain ⟨k, S, hk, rfl, rfl, hS⟩ := hrel
      have HQ := Lib.hid hS; clear hS
      obtain rfl : k = 0 := by omega
      have hq := HQ.out
      rw [sumFrom_end (by have := HL.out; omega)] at hq
      have HF := Lib.hid hq; clear hq HQ
      go_wp2
      go_ret2
      exact ⟨ret_some HF.out, rfl⟩
  · have HC := Lib.hid hc; clear hc
    go_enter Try.func32, Try.ntmps32
    go_wp2
    go_loop [4, 5] (fun t i => ∃ (k : Nat) (S : Int), k ≤ len ∧ i = .int .i64 k ∧ t = .int .i64 S ∧ sumFrom S (zs.drop k) = sumFrom 0 zs) (fun _ i => len - (intOf i).toNat)
    case atStart => exact ⟨0, 0, Nat.zero_le _, rfl, rfl, rfl⟩
    case round =>
      obtain ⟨k, S, hk, rfl, rfl, hS⟩ := hrel
      have HQ := Lib.hid hS; clear hS
      by_cases hlt : k < len
      · have hcell : w.cell? ⟨b, off + k, none⟩ = some (.int .i64 (zs.getD k 0)) := HC.out k hlt
        generalize hz : zs.getD k 0 = z at hcell
        have HZ := Lib.hid hz; clear hz
        have hkl : k < zs.length := by have := HL.out; omega
        have hst := sumFrom_step (S := S) hkl
        rw [HQ.out, HZ.out] at hst
        by_cases hok : okB S z (S + z) = true
        · rw [if_pos hok] at hst
          have HT := Lib.hid hst; clear hst hkl
          obtain ⟨e1, e2⟩ := addE_ok hok
          have HO := Lib.hid hok; clear hok
          go_wp2_with ((go_at_call 36; refine (radd_any _ _ _).mono ?_; rintro e w' ⟨rfl, rfl⟩; rw [e1, e2]))
          go_round
          case rel => exact ⟨k + 1, S + z, by omega, by go_num, rfl, HT.out.symm⟩
          case measure => simp [intOf]; omega
        · have hok : okB S z (S + z) = false := by simpa using hok
          rw [if_neg (by simp [hok])] at hst
          have HT := Lib.hid hst; clear hst hkl
          obtain ⟨e1, e2⟩ := addE_no hok
          clear hok
          go_wp2_with ((go_at_call 36; refine (radd_any _ _ _).mono ?_; rintro e w' ⟨rfl, rfl⟩; rw [e1, e2]))
          go_ret2
          exact ⟨ret_none HT.out.symm, rfl⟩
      · have hq := HQ.out
        rw [sumFrom_end (by have := HL.out; omega)] at hq
        have HF := Lib.hid hq; clear hq HQ
        go_wp2
        go_ret2
        exact ⟨ret_some HF.out, rfl⟩
end Go.Proofs.Ytopefknkfjghhaa
