/- Plain arithmetic of layer 1 (num): which numbers may be, and what a sum, a difference and a product tell. No program is spoken of here. Contracts of num.Is and num.Add: each tells what the plain arithmetic tells, and leaves the world as it was. A region that draws its order, whose first operations read, call and make memory while S is kept, and whose last ones (stores) wait for all of the first: an operation that yields the same wherever S is kept may be taken first. Ints in memory: lists of ints as the cells that hold them, blocks that are kept while calls make memory, and what the operations on them do.; Plain arithmetic of layer 6 (hold): which holds may be, and what finding, adding up, reserving, ending, letting go and joining tell. No program is spoken of here.; Plain arithmetic of layer 5 (lock): which lock is behind which, and what joining, writing and passing on tell. No program is spoken of here.; Plain arithmetic of layer 6, on: what finding, adding up, reserving, ending and letting go tell. No program is spoken of here.; Contracts of hold.place, Find, Sum and greatest, of the document's Sum, and of the statements' Same. -/
import Derived.Test.YtgblnlpfgdbnnaaGreatRows
import Derived.WalkKit
import Derived.ProofKit
import Derived.Lib.Hide
import Derived.Deep.RegionHeld3
import Derived.Below
import Derived.Deep.MidRow
import Derived.Deep.QuietTactic
import Derived.BigQuiet
import Derived.Laws.StructEq
import Derived.Laws.OwnMore
import Derived.Maps.AppendAt
import Derived.OwnWalk
import Derived.OpenShut
import Derived.ChangeOld
import Derived.Deep.Slices
import Derived.ChangeSlices
import Derived.Laws.AppendOwn
namespace Go.Proofs.YtgblnlpfgdbnnaaGreat

def isB (n : Int) : Bool := decide (-1099511627776 ≤ n) && decide (n ≤ 1099511627776)

theorem isB_iff {n : Int} : isB n = true ↔ (-1099511627776 ≤ n ∧ n ≤ 1099511627776) := by simp [isB]
theorem isB_not {n : Int} : isB n = false ↔ (n < -1099511627776 ∨ 1099511627776 < n) := by
  rw [← Bool.not_eq_true, isB_iff]; omega

def okB (a b r : Int) : Bool := isB a && isB b && isB r
def addN (a b : Int) : Int := if okB a b (a + b) then a + b else 0
def addE (a b : Int) : Int := if okB a b (a + b) then 0 else 2
def subN (a b : Int) : Int := if okB a b (a - b) then a - b else 0
def subE (a b : Int) : Int := if okB a b (a - b) then 0 else 2
theorem okB_iff {a b r : Int} : okB a b r = true ↔ (isB a = true ∧ isB b = true ∧ isB r = true) := by
  simp [okB, and_assoc]
theorem okB_a {a b r : Int} (h : isB a = false) : okB a b r = false := by simp [okB, h]
theorem okB_b {a b r : Int} (h : isB b = false) : okB a b r = false := by simp [okB, h]
theorem okB_r {a b r : Int} (h : isB r = false) : okB a b r = false := by simp [okB, h]

theorem isB_zero : isB 0 = true := by decide
theorem addE_ok {a b : Int} (h : okB a b (a + b) = true) : addE a b = 0 ∧ addN a b = a + b := by simp [addE, addN, h]
theorem addE_no {a b : Int} (h : okB a b (a + b) = false) : addE a b = 2 ∧ addN a b = 0 := by simp [addE, addN, h]
theorem subE_ok {a b : Int} (h : okB a b (a - b) = true) : subE a b = 0 ∧ subN a b = a - b := by simp [subE, subN, h]
theorem subE_no {a b : Int} (h : okB a b (a - b) = false) : subE a b = 2 ∧ subN a b = 0 := by simp [subE, subN, h]
/-- Numbers, added to what there is, from the first on; none where one is too great. -/
def sumFrom (acc : Int) : List Int → Option Int
  | [] => some acc
  | n :: r => if okB acc n (acc + n) then sumFrom (acc + n) r else none
def sumN (l : List Int) : Int := (sumFrom 0 l).getD 0
def sumE (l : List Int) : Int := if (sumFrom 0 l).isSome then 0 else 2
theorem sumN_some {l : List Int} {s : Int} (h : sumFrom 0 l = some s) : sumN l = s ∧ sumE l = 0 := by simp [sumN, sumE, h]
theorem sumN_none {l : List Int} (h : sumFrom 0 l = none) : sumN l = 0 ∧ sumE l = 2 := by simp [sumN, sumE, h]
theorem drop_cons {l : List Int} {k : Nat} (h : k < l.length) : l.drop k = l.getD k 0 :: l.drop (k + 1) := by
  rw [List.drop_eq_getElem_cons h]; simp [List.getD, h]
theorem sumFrom_step {l : List Int} {k : Nat} {S : Int} (h : k < l.length) : sumFrom S (l.drop k) = if okB S (l.getD k 0) (S + l.getD k 0) then sumFrom (S + l.getD k 0) (l.drop (k + 1)) else none := by
  rw [drop_cons h, sumFrom]
theorem sumFrom_end {l : List Int} {k : Nat} {S : Int} (h : ¬ k < l.length) : sumFrom S (l.drop k) = some S := by
  rw [List.drop_of_length_le (by omega), sumFrom]

/-- All numbers of a list, added, whatever they come to. -/
def tot : List Int → Int
  | [] => 0
  | z :: r => z + tot r
theorem tot_append (xs ys : List Int) : tot (xs ++ ys) = tot xs + tot ys := by
  induction xs with
  | nil => simp [tot]
  | cons x r ih => simp only [List.cons_append, tot, ih]; omega
theorem tot_nonneg {xs : List Int} (h : ∀ z ∈ xs, 0 ≤ z) : 0 ≤ tot xs := by
  induction xs with
  | nil => simp [tot]
  | cons x r ih =>
    have h1 := h x (by simp)
    have h2 := ih (fun z hz => h z (by simp [hz]))
    simp only [tot]; omega
theorem sumFrom_tot {xs : List Int} (h : ∀ z ∈ xs, 0 ≤ z) : ∀ acc : Int, 0 ≤ acc → acc ≤ 1099511627776 →
    sumFrom acc xs = if acc + tot xs ≤ 1099511627776 then some (acc + tot xs) else none := by
  induction xs with
  | nil => intro acc h0 h1; simp [sumFrom, tot, h1]
  | cons x r ih =>
    intro acc h0 h1
    have hx := h x (by simp)
    have hr : ∀ z ∈ r, 0 ≤ z := fun z hz => h z (by simp [hz])
    have ht := tot_nonneg hr
    have e : acc + tot (x :: r) = acc + x + tot r := by show acc + (x + tot r) = _; omega
    rw [e, sumFrom]
    by_cases hs : acc + x ≤ 1099511627776
    · have hok : okB acc x (acc + x) = true := okB_iff.2 ⟨isB_iff.2 (by omega), isB_iff.2 (by omega), isB_iff.2 (by omega)⟩
      rw [if_pos hok, ih hr (acc + x) (by omega) hs]
    · have hok : okB acc x (acc + x) = false := okB_r (isB_not.2 (by omega))
      rw [if_neg (by simp [hok]), if_neg (by omega)]
theorem sum_fits {xs : List Int} (h : ∀ z ∈ xs, 0 ≤ z) (ht : tot xs ≤ 1099511627776) : sumN xs = tot xs ∧ sumE xs = 0 := by
  have := sumFrom_tot h 0 (by omega) (by omega)
  rw [if_pos (by omega)] at this
  obtain ⟨h1, h2⟩ := sumN_some this
  exact ⟨by omega, h2⟩
theorem sum_over {xs : List Int} (h : ∀ z ∈ xs, 0 ≤ z) (ht : 1099511627776 < tot xs) : sumN xs = 0 ∧ sumE xs = 2 := by
  have := sumFrom_tot h 0 (by omega) (by omega)
  rw [if_neg (by omega)] at this
  exact sumN_none this

end Go.Proofs.YtgblnlpfgdbnnaaGreat

namespace Go.Proofs.YtgblnlpfgdbnnaaGreat
open Go.ChangeShapes Go.WideShapes Go.ChangeAt Go.RowKit

theorem is_any (n : Int) (w : World) : Calls Tryz.prog 38 #[.int .i64 n] w fun e w' => e = .returned (.bool (isB n)) ∧ w = w' := by
  by_cases h1 : -1099511627776 ≤ n
  · by_cases h2 : n ≤ 1099511627776
    · have e : isB n = true := isB_iff.2 ⟨h1, h2⟩
      rw [e]; clear e
      go_enter Tryz.func38, Tryz.ntmps38
      go_wp2
      go_ret
      exact ⟨rfl, rfl⟩
    · have e : isB n = false := isB_not.2 (by omega)
      rw [e]; clear e
      go_enter Tryz.func38, Tryz.ntmps38
      go_wp2
      go_ret
      exact ⟨rfl, rfl⟩
  · have e : isB n = false := isB_not.2 (by omega)
    rw [e]; clear e
    go_enter Tryz.func38, Tryz.ntmps38
    go_wp2
    go_ret
    exact ⟨rfl, rfl⟩

theorem add_any (a b : Int) (w : World) : Calls Tryz.prog 64 #[.int .i64 a, .int .i64 b] w fun e w' => e = .returned (.tuple #[.int .i64 (addN a b), .int .i64 (addE a b)]) ∧ w = w' := by
  by_cases ha : isB a = true
  · by_cases hb : isB b = true
    · obtain ⟨a1, a2⟩ := isB_iff.1 ha
      obtain ⟨b1, b2⟩ := isB_iff.1 hb
      by_cases hs : isB (a + b) = true
      · obtain ⟨hE, hN⟩ := addE_ok (okB_iff.2 ⟨ha, hb, hs⟩)
        rw [hE, hN]; clear hE hN
        go_enter Tryz.func64, Tryz.ntmps64
        go_wp2_with (first | (go_at_call 38; refine (is_any _ _).mono ?_; rintro e w' ⟨rfl, rfl⟩) | (go_at_call 104; go_in))
        go_ret2
        exact ⟨rfl, rfl⟩
      · have hs : isB (a + b) = false := by simpa using hs
        obtain ⟨hE, hN⟩ := addE_no (okB_r (a := a) (b := b) hs)
        rw [hE, hN]; clear hE hN
        go_enter Tryz.func64, Tryz.ntmps64
        go_wp2_with (first | (go_at_call 38; refine (is_any _ _).mono ?_; rintro e w' ⟨rfl, rfl⟩) | (go_at_call 104; go_in))
        go_ret2
        exact ⟨rfl, rfl⟩
    · have hb : isB b = false := by simpa using hb
      obtain ⟨hE, hN⟩ := addE_no (okB_b (a := a) (r := a + b) hb)
      rw [hE, hN]; clear hE hN
      go_enter Tryz.func64, Tryz.ntmps64
      go_wp2_with (first | (go_at_call 38; refine (is_any _ _).mono ?_; rintro e w' ⟨rfl, rfl⟩) | (go_at_call 104; go_in))
      go_ret2
      exact ⟨rfl, rfl⟩
  · have ha : isB a = false := by simpa using ha
    obtain ⟨hE, hN⟩ := addE_no (okB_a (b := b) (r := a + b) ha)
    rw [hE, hN]; clear hE hN
    go_enter Tryz.func64, Tryz.ntmps64
    go_wp2_with (first | (go_at_call 38; refine (is_any _ _).mono ?_; rintro e w' ⟨rfl, rfl⟩) | (go_at_call 104; go_in))
    go_ret2
    exact ⟨rfl, rfl⟩

section
variable {P : Program} {ops : Array Oper} {Q : Exit → Act → World → Prop} {S : World → Prop} {n : Nat}

/-- Whatever order is picked from here on; S is kept behind each of the first n operations. -/
def Draws (P : Program) (ops : Array Oper) (Q : Exit → Act → World → Prop) (S : World → Prop) (n : Nat) : Nat → Array Bool → Act → World → Prop
  | 0, listed, a, w => Region.ready .any ops listed = [] ∧ Q .normal a w
  | fuel + 1, listed, a, w =>
    (Region.ready .any ops listed = [] → Q .normal a w) ∧
    ∀ i ∈ Region.ready .any ops listed, wpOp P ops Q i (fun a' w' => (i < n → S w') ∧ Draws P ops Q S n fuel (listed.setIfInBounds i true) a' w') a w

theorem Draws.any : ∀ (fuel : Nat) (listed : Array Bool) (a : Act) (w : World), Draws P ops Q S n fuel listed a w → wpAny P .any ops Q fuel listed a w
  | 0, _, _, _, h => h
  | fuel + 1, _, _, _, h => ⟨h.1, fun i hi => wpOp_mono (fun a' w' h' => Draws.any fuel _ a' w' h'.2) (h.2 i hi)⟩

/-- Each operation from number n on waits for number i. -/
def waitB (ops : Array Oper) (n i : Nat) : Bool :=
  (List.range ops.size).all fun j => decide (j < n) || match ops[j]? with
    | some o => o.after.any fun e => Region.binds .any e && e.on == i
    | none => true

theorem lsA {α : Type} (l : List α) (i : Nat) (a : α) : l.toArray.setIfInBounds i a = (l.set i a).toArray := List.setIfInBounds_toArray l i a
theorem lsB {α : Type} {a b : α} {l : List α} : (a :: l).set 0 b = b :: l := List.set_cons_zero
theorem lsC {α : Type} {a b : α} {l : List α} {i : Nat} : (a :: l).set (i + 1) b = a :: l.set i b := List.set_cons_succ
theorem Draws.first {i : Nat} {oi : Oper} {v : Value} (hi : ops[i]? = some oi) (hsel : ∀ (j : Nat) (o : Oper) cs b, ops[j]? = some o → o.op ≠ .select cs b)
    (hQ : ∀ c a w, Q (.panic c) (a.put oi.dst v) w → Q (.panic c) a w) (hwait : waitB ops n i = true) :
    ∀ (fuel : Nat) (listed : Array Bool) (a : Act) (w : World),
      (∀ j oj, ops[j]? = some oj → j ≠ i → listed.getD j true = false → (∀ e ∈ oj.after, Region.binds .any e = true → e.on ≠ i) → oi.apart ops oj = true) →
      i ∈ Region.ready .any ops listed → YieldsIf P ops S oi v a → S w → (i < n → S w) →
      Draws P ops Q S n fuel (listed.setIfInBounds i true) (a.put oi.dst v) w → Draws P ops Q S n (fuel + 1) listed a w := by
  intro fuel
  induction fuel with
  | zero =>
    intro listed a w _ hr hy hS hSn H
    refine ⟨fun h => (by rw [h] at hr; cases hr), fun j hj => ?_⟩
    by_cases hji : j = i
    · subst hji; exact hy.wpOp hi hS ⟨hSn, H⟩
    · have := ready_mono hj hji
      rw [H.1] at this
      cases this
  | succ fuel ih =>
    intro listed a w hfree hr hy hS hSn H
    refine ⟨fun h => (by rw [h] at hr; cases hr), fun j hj => ?_⟩
    by_cases hji : j = i
    · subst hji; exact hy.wpOp hi hS ⟨hSn, H⟩
    · have h1 := H.2 j (ready_mono hj hji)
      obtain ⟨hjun, oj, hoj, hall⟩ := mem_ready.1 hj
      have hnot : ∀ e ∈ oj.after, Region.binds .any e = true → e.on ≠ i := fun e he hb heq => by
        have h1 := hall e he hb
        have h0 := (mem_ready.1 hr).1
        rw [heq] at h1
        rcases Nat.lt_or_ge i listed.size with h' | h'
        · simp [h'] at h0 h1; rw [h0] at h1; cases h1
        · simp [Array.getElem?_eq_none h'] at h1
      have hjn : j < n := by
        rcases Nat.lt_or_ge j n with h | h
        · exact h
        · exfalso
          simp only [waitB, List.all_eq_true, List.mem_range] at hwait
          have h2 := hwait j (Array.getElem?_eq_some_iff.1 hoj).1
          simp only [hoj, show ¬ j < n by omega, decide_false, Bool.false_or, Array.any_eq_true', Bool.and_eq_true, beq_iff_eq] at h2
          obtain ⟨e, he, hb, ho⟩ := h2
          exact hnot e he hb ho
      have h2 := wpOp_putIf hoj (hfree j oj hoj hji hjun hnot) (fun cs b => hsel i oi cs b hi) (fun cs b => hsel j oj cs b hoj) hQ hy h1
      have hfree' : ∀ k ok, ops[k]? = some ok → k ≠ i → (listed.setIfInBounds j true).getD k true = false →
          (∀ e ∈ ok.after, Region.binds .any e = true → e.on ≠ i) → oi.apart ops ok = true := fun k ok hk hki hun hno => by
        refine hfree k ok hk hki ?_ hno
        by_cases hjk : j = k
        · subst hjk; exact hjun
        · rw [getD_set_ne true hjk] at hun; exact hun
      refine wpOp_mono (fun a' w' h3 => ⟨h3.2.1, ih (listed.setIfInBounds j true) a' w' hfree' (ready_mono hr (Ne.symm hji)) h3.1 (h3.2.1 hjn) (fun _ => h3.2.1 hjn) ?_⟩) h2
      rw [Array.setIfInBounds_comm _ _ hji]
      exact h3.2.2

theorem of_drop {l r : List Oper} {i : Nat} {o : Oper} (h : l.drop i = o :: r) : l.toArray[i]? = some o := by
  have := congrArg (fun x => x[0]?) h
  simpa [List.getElem?_drop] using this

/-- Take number i first. -/
theorem Draws.take {l r : List Oper} {fuel : Nat} {listed : Array Bool} {a : Act} {w : World} (i : Nat) {oi : Oper} {v : Value} (hS : S w) (hi : l.drop i = oi :: r)
    (hb : (Region.noSelect l.toArray && Region.free .any l.toArray listed i && (Region.ready .any l.toArray listed).contains i && waitB l.toArray n i) = true)
    (hQ : ∀ c a w, Q (.panic c) (a.put oi.dst v) w → Q (.panic c) a w) (hy : YieldsIf P l.toArray S oi v a)
    (h : Draws P l.toArray Q S n fuel (listed.setIfInBounds i true) (a.put oi.dst v) w) : Draws P l.toArray Q S n (fuel + 1) listed a w := by
  simp only [Bool.and_eq_true] at hb
  obtain ⟨⟨⟨h1, h2⟩, h3⟩, h4⟩ := hb
  exact Draws.first (of_drop hi) (Region.noSelect_spec h1) hQ h4 fuel listed a w (Region.free_spec (of_drop hi) h2) (by simpa using h3) hy hS (fun _ => hS) h

/-- Only number i may come up: it is carried out. -/
theorem Draws.does {l r : List Oper} {fuel : Nat} {listed : Array Bool} {a : Act} {w : World} (i : Nat) {o : Oper} (hi : l.drop i = o :: r) (hr : Region.ready .any l.toArray listed = [i]) (hw : Region.wanted o (yielded l.toArray a.tmps) = true)
    (h : ∀ K : Act → World → Prop, Shut (∀ a w, (i < n → S w) → Draws P l.toArray Q S n fuel (listed.setIfInBounds i true) a w → K a w) → Oper.wp P o a w K Q) : Draws P l.toArray Q S n (fuel + 1) listed a w := by
  refine ⟨fun h0 => (by rw [hr] at h0; cases h0), fun j hj => ?_⟩
  rw [hr, List.mem_singleton] at hj
  subst hj
  exact wpOp_step (of_drop hi) (fun K hK => by rw [if_pos hw]; exact h K (fun a w hS hD => hK a w ⟨hS, hD⟩))
/-- One of two may come up. -/
theorem Draws.either {l r s : List Oper} {fuel : Nat} {listed : Array Bool} {a : Act} {w : World} (i j : Nat) {o p : Oper} (hi : l.drop i = o :: r) (hj : l.drop j = p :: s) (hr : Region.ready .any l.toArray listed = [i, j])
    (hw : Region.wanted o (yielded l.toArray a.tmps) = true) (hw' : Region.wanted p (yielded l.toArray a.tmps) = true)
    (h1 : ∀ K : Act → World → Prop, Shut (∀ a w, (i < n → S w) → Draws P l.toArray Q S n fuel (listed.setIfInBounds i true) a w → K a w) → Oper.wp P o a w K Q)
    (h2 : ∀ K : Act → World → Prop, Shut (∀ a w, (j < n → S w) → Draws P l.toArray Q S n fuel (listed.setIfInBounds j true) a w → K a w) → Oper.wp P p a w K Q) : Draws P l.toArray Q S n (fuel + 1) listed a w := by
  refine ⟨fun h0 => (by rw [hr] at h0; cases h0), fun k hk => ?_⟩
  rw [hr, List.mem_cons, List.mem_singleton] at hk
  rcases hk with rfl | rfl
  · exact wpOp_step (of_drop hi) (fun K hK => by rw [if_pos hw]; exact h1 K (fun a w hS hD => hK a w ⟨hS, hD⟩))
  · exact wpOp_step (of_drop hj) (fun K hK => by rw [if_pos hw']; exact h2 K (fun a w hS hD => hK a w ⟨hS, hD⟩))

theorem Draws.done {fuel : Nat} {listed : Array Bool} {a : Act} {w : World} (hr : Region.ready .any ops listed = []) (h : Q .normal a w) : Draws P ops Q S n fuel listed a w := by
  cases fuel with
  | zero => exact ⟨hr, h⟩
  | succ f => exact ⟨fun _ => h, by rw [hr]; simp⟩

theorem Draws.start {id : Nat} {a : Act} {w : World} {l : List Oper} (S : World → Prop) (n N : Nat) (hN : l.length = N) (hm : P.follows .mixedOrders = true)
    (h : Draws P l.toArray Q S n N (Array.replicate N false) a w.drew) : (Code.region id l.toArray true).wp P Q a w :=
  wp_region_any hm (Draws.any _ _ _ _ (by subst hN; simpa using h))
end

/-- Ints, as the cells that hold them. -/
def vals (zs : List Int) : List Value := zs.map (.int .i64)
theorem vals_length (zs : List Int) : (vals zs).length = zs.length := by simp [vals]
theorem vals_get {zs : List Int} {j : Nat} (h : j < zs.length) : (vals zs)[j]? = some (.int .i64 (zs.getD j 0)) := by
  simp [vals, List.getD, h]
theorem vals_at {zs : List Int} {j : Nat} {u : Value} (h : (vals zs)[j]? = some u) : j < zs.length ∧ u = .int .i64 (zs.getD j 0) := by
  simp only [vals, List.getElem?_map, Option.map_eq_some_iff] at h
  obtain ⟨z, hz, rfl⟩ := h
  have hj : j < zs.length := by
    rcases Nat.lt_or_ge j zs.length with h | h
    · exact h
    · rw [List.getElem?_eq_none h] at hz; cases hz
  exact ⟨hj, by simp [List.getD, hz]⟩
theorem vals_one (zs : List Int) : ∀ v ∈ vals zs, v.oneCell' = true := by
  intro v hv
  simp only [vals, List.mem_map] at hv
  obtain ⟨z, _, rfl⟩ := hv
  rfl
theorem vals_all (zs : List Int) : (vals zs).toArray.all (·.oneCell') = true := all_oneCell_toArray (vals_one zs)
theorem vals_set (zs : List Int) (k : Nat) (z : Int) : (vals zs).set k (.int .i64 z) = vals (zs.set k z) := by simp [vals, List.map_set]
/-- A block of its own that holds ints, of some type. -/
def Blk (w : World) (b : Nat) (t : TypeId) (zs : List Int) : Prop := w.heap[b]? = some (.cells (vals zs).toArray t (0, 0))
theorem Blk.lt {w : World} {b : Nat} {t : TypeId} {zs : List Int} (h : Blk w b t zs) : b < w.heap.size := (Array.getElem?_eq_some_iff.1 h).1
theorem Blk.cell {w : World} {b : Nat} {t : TypeId} {zs : List Int} (h : Blk w b t zs) {k : Nat} (hk : k < zs.length) : w.cell? ⟨b, k, none⟩ = some (.int .i64 (zs.getD k 0)) := by
  rw [cell_of_row w b k _ t (0, 0) h]
  simp [vals_get hk]
theorem Blk.range {w : World} {b : Nat} {t : TypeId} {zs : List Int} (h : Blk w b t zs) : w.rangeAt b 0 (vals zs) := fun j v hv => by
  rw [cell_of_row w b (0 + j) _ t (0, 0) h]
  simpa using hv
theorem Blk.frozen {w : World} {b : Nat} {t : TypeId} {zs : List Int} (h : Blk w b t zs) (k : Nat) : w.frozen? ⟨b, k, none⟩ = false := frozen_of_row w b k _ t h
theorem Blk.there {w : World} {b : Nat} {t : TypeId} {zs : List Int} (h : Blk w b t zs) {n : Nat} (hn : n ≤ zs.length) : w.there b 0 n := fun j hj => by
  rw [Nat.zero_add]
  exact ⟨by rw [h.cell (by omega)]; rfl, h.frozen j⟩
theorem Blk.new (w : World) (t : TypeId) (zs : List Int) : Blk (w.alloc (.cells (vals zs).toArray t)) w.heap.size t zs := heap_alloc_new w _
theorem Blk.alloc {w : World} {b : Nat} {t : TypeId} {zs : List Int} (h : Blk w b t zs) (o : Obj) : Blk (w.alloc o) b t zs := (Below.heap_alloc w o b h.lt).trans h
theorem Blk.below {w w' : World} {b : Nat} {t : TypeId} {zs : List Int} (h : Blk w b t zs) {B : Nat} (hb : Below B w w') (hl : b < B) : Blk w' b t zs := (hb.block b hl).trans h
theorem Blk.drew {w : World} {b : Nat} {t : TypeId} {zs : List Int} (h : Blk w b t zs) : Blk w.drew b t zs := h
theorem Blk.drewN {w : World} {b : Nat} {t : TypeId} {zs : List Int} (h : Blk w b t zs) (n : Nat) : Blk (w.drewN n) b t zs := h
theorem below_drewN {B : Nat} {a w : World} (h : Below B a w) (n : Nat) : Below B a (w.drewN n) := ⟨h.os, h.tape, h.output, h.size, h.block⟩
theorem Blk.setCell {w : World} {b : Nat} {t : TypeId} {zs : List Int} (h : Blk w b t zs) (k : Nat) (z : Int) : Blk (w.setCell ⟨b, k, none⟩ (.int .i64 z)) b t (zs.set k z) := by
  unfold Blk
  rw [heap_setCell_same w b k _ t _ h, ← vals_set]
  simp
theorem Blk.apart {w : World} {b : Nat} {t : TypeId} {zs : List Int} (h : Blk w b t zs) (a : Addr) (v : Value) (hb : b ≠ a.block) : Blk (w.setCell a v) b t zs := (heap_setCell_other w a b v hb).trans h
theorem range_below {w w' : World} {b o : Nat} {cs : List Value} (h : w.rangeAt b o cs) {B : Nat} (hb : Below B w w') (hl : b < B) : w'.rangeAt b o cs := fun j v hv => by
  rw [hb.cell (p := ⟨b, o + j, none⟩) hl]; exact h j v hv
/-- One vector, boxed. -/
theorem box (w : World) (t : TypeId) (xs : List Int) : Blk (w.alloc (.cells (vals xs).toArray t)) w.heap.size t xs ∧ Below w.heap.size w (w.alloc (.cells (vals xs).toArray t)) :=
  ⟨Blk.new w _ xs, (Below.refl _ _).alloc (Nat.le_refl _) _⟩
theorem all_range_ints : ∀ (xs ys : List Int), xs.length = ys.length → ((List.range xs.length).all fun i => xs.getD i 0 == ys.getD i 0) = (xs == ys)
  | [], [], _ => rfl
  | x :: xs, y :: ys, h => by
    have ih := all_range_ints xs ys (by simpa using h)
    rw [List.length_cons, List.range_succ_eq_map, List.all_cons, List.all_map]
    simp only [List.getD_cons_zero, Function.comp_def, List.getD_cons_succ, ih]
    simp [List.cons_beq_cons]
  | [], _ :: _, h => by simp at h
  | _ :: _, [], h => by simp at h
theorem run_equalIn_ints {P : Program} (w : World) (d : Nat) (t e : TypeId) (n : Nat) (ht : P.underlying t = some (.array n e)) (he : P.underlying e = some (.int .i64)) (hsz : ∀ w, (sizeOf e).run P w = .ok 1 w)
    (xs ys : List Int) (hx : xs.length = n) (hy : ys.length = n) :
    (Op.equalIn (d + 2) t (.agg (vals xs).toArray) (.agg (vals ys).toArray)).run P w = .ok (xs == ys) w := by
  rw [← all_range_ints xs ys (hx.trans hy.symm), hx, List.range_eq_range', Op.equalIn]
  simp only [Sem.run_bind, run_underlying ht, Result.andThen_ok, hsz, Std.Legacy.Range.forIn_eq_forIn_range', Std.Legacy.Range.size, Nat.sub_zero, Nat.add_sub_cancel, Nat.div_one]
  have hl : ∀ i ∈ List.range' 0 n 1, i < n := fun i hi => by simpa using (List.mem_range'_1.1 hi).2
  generalize List.range' 0 n 1 = l at hl ⊢
  induction l with
  | nil => simp
  | cons i l ih =>
    have hi : i < n := hl i (by simp)
    have px : (part e (vals xs).toArray (i * 1)).run P w = .ok (.int .i64 (xs.getD i 0)) w := by
      simp [part, isAgg, run_underlying he, vals, List.getElem?_eq_getElem (show i < xs.length by omega)]
    have py : (part e (vals ys).toArray (i * 1)).run P w = .ok (.int .i64 (ys.getD i 0)) w := by
      simp [part, isAgg, run_underlying he, vals, List.getElem?_eq_getElem (show i < ys.length by omega)]
    have pe : (Op.equalIn (d + 1) e (.int .i64 (xs.getD i 0)) (.int .i64 (ys.getD i 0))).run P w = .ok (xs.getD i 0 == ys.getD i 0) w := run_equalIn_int w d e .i64 .i64 _ _ he
    simp only [List.forIn_cons, Sem.run_bind, px, py, pe, Result.andThen_ok, List.all_cons]
    cases hb : (xs.getD i 0 == ys.getD i 0)
    · simp
    · simp only [Bool.not_true, Bool.false_eq_true, if_false, Sem.run_pure, Result.andThen_ok, Bool.true_and]
      exact ih fun j hj => hl j (by simp [hj])
theorem int_size : ∀ w, (sizeOf 3).run Tryz.prog w = .ok 1 w := fun w => by kernel_rfl
theorem ext_get {xs ys : List Int} (h : xs.length = ys.length) (hg : ∀ k, k < xs.length → xs.getD k 0 = ys.getD k 0) : xs = ys := by
  apply List.ext_getElem h
  intro i h1 h2
  have := hg i h1
  simpa [List.getD, h1, h2] using this
theorem set_get {xs : List Int} {j i : Nat} {z : Int} (hj : j < xs.length) : (xs.set j z).getD i 0 = if i = j then z else xs.getD i 0 := by
  by_cases h : i = j
  · subst h; simp [List.getD, hj]
  · simp [List.getD, h, List.getElem?_set_ne (show j ≠ i by omega)]
theorem ints_of_cells : ∀ (l : List Value), (∀ i, i < l.length → ∃ n, l[i]? = some (.int .i64 n) ∧ (Lit.int .i64 n).wf = true) → ∃ zs : List Int, l = vals zs ∧ ∀ z ∈ zs, (Lit.int .i64 z).wf = true
  | [], _ => ⟨[], rfl, by simp⟩
  | v :: l, h => by
    obtain ⟨n, h1, h2⟩ := h 0 (by simp)
    obtain ⟨zs, h3, h4⟩ := ints_of_cells l (fun i hi => by simpa using h (i + 1) (by simpa using hi))
    refine ⟨n :: zs, ?_, ?_⟩
    · simp only [List.getElem?_cons_zero, Option.some.injEq] at h1
      simp [vals, h1, h3]
    · intro z hz
      rcases List.mem_cons.1 hz with rfl | hz
      · exact h2
      · exact h4 z hz
/-- A slice of numbers whose elements are 'zs', in some world. -/
def Reads (w : World) (a : Option Addr) (len : Nat) (zs : List Int) : Prop :=
  zs.length = len ∧ len ≤ maxLen ∧ (len = 0 ∨ ∃ b off : Nat, a = some ⟨b, off, none⟩ ∧ ∀ i, i < len → w.cell? ⟨b, off + i, none⟩ = some (.int .i64 (zs.getD i 0)))
theorem cell_lt {w : World} {a : Addr} {v : Value} (h : w.cell? a = some v) : a.block < w.heap.size := by
  rcases Nat.lt_or_ge a.block w.heap.size with h1 | h1
  · exact h1
  · simp [World.cell?, Array.getElem?_eq_none h1] at h
theorem reads_below {w w' : World} (hb : Below w.heap.size w w') {a : Option Addr} {len : Nat} {zs : List Int} (h : Reads w a len zs) : Reads w' a len zs := by
  obtain ⟨h1, h2, h3⟩ := h
  refine ⟨h1, h2, ?_⟩
  rcases h3 with h0 | ⟨b, off, rfl, hc⟩
  · exact .inl h0
  · exact .inr ⟨b, off, rfl, fun i hi => by rw [hb.cell (cell_lt (hc i hi)), hc i hi]⟩
/-- n numbers from o on. -/
def seg (R : List Int) (o n : Nat) : List Int := (R.drop o).take n
theorem seg_length {R : List Int} {o n : Nat} (h : o + n ≤ R.length) : (seg R o n).length = n := by simp [seg]; omega
theorem seg_get {R : List Int} {o n i : Nat} (h : i < n) : (seg R o n).getD i 0 = R.getD (o + i) 0 := by
  simp [seg, List.getD, h, List.getElem?_drop]
theorem seg_all {R : List Int} {n : Nat} (h : R.length = n) : seg R 0 n = R := by simp [seg, ← h]
theorem seg_seg {R : List Int} {o n p m : Nat} (h : p + m ≤ n) : seg (seg R o n) p m = seg R (o + p) m := by
  simp only [seg, List.drop_take, List.take_take, List.drop_drop]
  rw [show min m (n - p) = m by omega]
theorem vals_seg (R : List Int) (o n : Nat) : vals (seg R o n) = ((vals R).drop o).take n := by simp [seg, vals]
/-- zs in the place of what lay from o on. -/
def splice (R : List Int) : Nat → List Int → List Int
  | _, [] => R
  | o, z :: zs => splice (R.set o z) (o + 1) zs
theorem splice_length : ∀ (zs : List Int) (R : List Int) (o : Nat), (splice R o zs).length = R.length
  | [], _, _ => rfl
  | z :: zs, R, o => by rw [splice, splice_length zs]; simp
theorem splice_get : ∀ (zs : List Int) (R : List Int) (o i : Nat), o + zs.length ≤ R.length → (splice R o zs).getD i 0 = if o ≤ i ∧ i < o + zs.length then zs.getD (i - o) 0 else R.getD i 0
  | [], R, o, i, _ => by rw [splice, if_neg (by simp)]
  | z :: zs, R, o, i, h => by
    simp only [List.length_cons] at h
    rw [splice, splice_get zs _ _ _ (by simp; omega), set_get (by omega)]
    by_cases h1 : i = o
    · subst h1
      rw [if_neg (by omega), if_pos rfl, if_pos (by simp)]
      simp
    · by_cases h2 : o + 1 ≤ i ∧ i < o + 1 + zs.length
      · rw [if_pos h2, if_pos (by simp; omega), show i - o = (i - (o + 1)) + 1 by omega]
        simp
      · rw [if_neg h2, if_neg h1, if_neg (by simp; omega)]
theorem splice_seg_same {R zs : List Int} {o n : Nat} (hn : zs.length = n) (h : o + n ≤ R.length) : seg (splice R o zs) o n = zs := by
  refine ext_get (by rw [seg_length (by rw [splice_length]; omega), hn]) fun k hk => ?_
  rw [seg_length (by rw [splice_length]; omega)] at hk
  rw [seg_get hk, splice_get _ _ _ _ (by omega), if_pos (by omega)]
  congr 1; omega
theorem splice_seg_apart {R zs : List Int} {o p m : Nat} (h : o + zs.length ≤ R.length) (hp : p + m ≤ R.length) (ha : p + m ≤ o ∨ o + zs.length ≤ p) : seg (splice R o zs) p m = seg R p m := by
  refine ext_get (by rw [seg_length (by rw [splice_length]; omega), seg_length hp]) fun k hk => ?_
  rw [seg_length (by rw [splice_length]; omega)] at hk
  rw [seg_get hk, seg_get hk, splice_get _ _ _ _ h, if_neg (by omega)]
theorem splice_all {R zs : List Int} (h : zs.length = R.length) : splice R 0 zs = zs := by
  refine ext_get (by rw [splice_length, h]) fun k hk => ?_
  rw [splice_length] at hk
  rw [splice_get _ _ _ _ (by omega), if_pos (by omega)]; simp
/-- n zeros. -/
def zer (n : Nat) : List Int := List.replicate n 0
theorem zer_length (n : Nat) : (zer n).length = n := by simp [zer]
theorem zer_get (n i : Nat) : (zer n).getD i 0 = 0 := by
  simp only [zer, List.getD, List.getElem?_replicate]; split <;> rfl
theorem Blk.seg {w : World} {b : Nat} {t : TypeId} {R : List Int} (h : Blk w b t R) {o n : Nat} (hr : o + n ≤ R.length) : w.rangeAt b o (vals (seg R o n)) := fun j v hv => by
  obtain ⟨hj, rfl⟩ := vals_at hv
  rw [seg_length hr] at hj
  rw [h.cell (by omega), seg_get hj]
theorem Blk.thereAt {w : World} {b : Nat} {t : TypeId} {R : List Int} (h : Blk w b t R) {o n : Nat} (hr : o + n ≤ R.length) : w.there b o n := fun j hj => ⟨by rw [h.cell (by omega)]; rfl, h.frozen _⟩
theorem Blk.setCells : ∀ (zs : List Int) {w : World} {b : Nat} {t : TypeId} {R : List Int} (_ : Blk w b t R) (o : Nat), Blk (w.setCells b o (vals zs)) b t (splice R o zs)
  | [], _, _, _, _, h, _ => h
  | z :: zs, w, b, t, R, h, o => by
    have := Blk.setCells zs (h.setCell o z) (o + 1)
    simpa only [vals, List.map_cons, World.setCells, splice] using this
theorem below_setCells : ∀ (zs : List Int) {B : Nat} {a w : World} (_ : Below B a w) {g : Nat} (_ : B ≤ g) (o : Nat), Below B a (w.setCells g o (vals zs))
  | [], _, _, _, h, _, _, _ => h
  | z :: zs, B, a, w, h, g, hg, o => by
    have := below_setCells zs (h.setCell (p := ⟨g, o, none⟩) hg (.int .i64 z)) hg (o + 1)
    simpa only [vals, List.map_cons, World.setCells] using this
/-- Below w's end all is as it was; in each of these blocks of the call's own lie these numbers. -/
structure KeepR (w : World) (l : List (Nat × TypeId × List Int)) (u : World) : Prop where
  bel : Below w.heap.size w u
  blk : ∀ x ∈ l, w.heap.size ≤ x.1 ∧ Blk u x.1 x.2.1 x.2.2
  apart : (l.map Prod.fst).Nodup
theorem KeepR.start (w : World) : KeepR w [] w := ⟨Below.refl _ _, by simp, by simp⟩
theorem KeepR.call {w u u' : World} {l : List (Nat × TypeId × List Int)} (h : KeepR w l u) (hb : Below u.heap.size u u') : KeepR w l u' :=
  ⟨h.bel.trans (hb.mono h.bel.size), fun x hx => ⟨(h.blk x hx).1, (h.blk x hx).2.below hb (h.blk x hx).2.lt⟩, h.apart⟩
theorem KeepR.drew {w u : World} {l : List (Nat × TypeId × List Int)} (h : KeepR w l u) : KeepR w l u.drew := ⟨h.bel.drew, h.blk, h.apart⟩
theorem KeepR.drewN {w u : World} {l : List (Nat × TypeId × List Int)} (h : KeepR w l u) (n : Nat) : KeepR w l (u.drewN n) := ⟨below_drewN h.bel n, h.blk, h.apart⟩
theorem KeepR.get {w u : World} {l : List (Nat × TypeId × List Int)} (h : KeepR w l u) (i : Nat) {b : Nat} {t : TypeId} {zs : List Int} (hi : l[i]? = some (b, t, zs)) : Blk u b t zs := (h.blk _ (List.mem_of_getElem? hi)).2
theorem KeepR.cons {w u : World} {l : List (Nat × TypeId × List Int)} (h : KeepR w l u) {u' : World} (hb : Below u.heap.size u u') {b : Nat} {t : TypeId} {zs : List Int} (hn : b = u.heap.size) (hB : Blk u' b t zs) : KeepR w ((b, t, zs) :: l) u' := by
  have h1 := h.call hb
  refine ⟨h1.bel, fun x hx => ?_, ?_⟩
  · rcases List.mem_cons.1 hx with rfl | hx
    · exact ⟨hn ▸ h.bel.size, hB⟩
    · exact h1.blk x hx
  · simp only [List.map_cons, List.nodup_cons]
    refine ⟨fun hm => ?_, h.apart⟩
    obtain ⟨x, hx, e⟩ := List.mem_map.1 hm
    have := (h.blk x hx).2.lt
    omega
theorem KeepR.new {w u : World} {l : List (Nat × TypeId × List Int)} (h : KeepR w l u) {t : TypeId} {zs : List Int} {n : Nat} (hn : n = u.heap.size) : KeepR w ((n, t, zs) :: l) (u.alloc (.cells (vals zs).toArray t)) :=
  h.cons (box u t zs).2 hn (by rw [hn]; exact (box u t zs).1)
theorem KeepR.tail {w u : World} {x : Nat × TypeId × List Int} {l : List (Nat × TypeId × List Int)} (h : KeepR w (x :: l) u) : KeepR w l u := ⟨h.bel, fun y hy => h.blk y (List.mem_cons_of_mem _ hy), (List.nodup_cons.1 (by simpa using h.apart)).2⟩
theorem nodup_get {l : List Nat} (h : l.Nodup) {i j : Nat} {x : Nat} (hi : l[i]? = some x) (hj : l[j]? = some x) : i = j := by
  obtain ⟨h1, e1⟩ := List.getElem?_eq_some_iff.1 hi
  obtain ⟨h2, e2⟩ := List.getElem?_eq_some_iff.1 hj
  have hp := List.pairwise_iff_getElem.1 h
  rcases Nat.lt_trichotomy i j with h3 | h3 | h3
  · exact absurd (e1.trans e2.symm) (hp i j h1 h2 h3)
  · exact h3
  · exact absurd (e2.trans e1.symm) (hp j i h2 h1 h3)
/-- A kept block is written. -/
theorem KeepR.put {w u : World} {l : List (Nat × TypeId × List Int)} (h : KeepR w l u) (i : Nat) {b : Nat} {t : TypeId} {R : List Int} (hi : l[i]? = some (b, t, R)) {u' : World} {S : List Int} (hB : Blk u' b t S)
    (hb : ∀ (k : Nat), k ≠ b → u'.heap[k]? = u.heap[k]?) (hbel : Below w.heap.size w u') : KeepR w (l.set i (b, t, S)) u' := by
  refine ⟨hbel, fun x hx => ?_, ?_⟩
  · obtain ⟨j, hj⟩ := List.mem_iff_getElem?.1 hx
    rw [List.getElem?_set] at hj
    by_cases hij : i = j
    · rw [if_pos hij] at hj
      split at hj
      · injection hj with hj; subst hj
        exact ⟨(h.blk _ (List.mem_of_getElem? hi)).1, hB⟩
      · cases hj
    · rw [if_neg hij] at hj
      have h1 := h.blk x (List.mem_of_getElem? hj)
      refine ⟨h1.1, ?_⟩
      have hne : x.1 ≠ b := fun e => hij (nodup_get h.apart (x := b) (by simp [hi]) (by simp [hj, e]))
      exact (hb x.1 hne).trans h1.2
  · have : (l.set i (b, t, S)).map Prod.fst = l.map Prod.fst := by
      rw [List.map_set]
      apply List.ext_getElem?
      intro j
      rw [List.getElem?_set]
      split
      · rename_i e; subst e
        split
        · simp [hi]
        · rename_i hl; simp only [List.length_map] at hl; have := (List.getElem?_eq_some_iff.1 hi).1; omega
      · rfl
    rw [this]; exact h.apart
theorem setCells_else (b : Nat) (vs : List Value) : ∀ (o : Nat) (u : World) (k : Nat), k ≠ b → (u.setCells b o vs).heap[k]? = u.heap[k]? := by
  induction vs with
  | nil => intro o u k _; rfl
  | cons v vs ih => intro o u k hk; rw [World.setCells, ih _ _ _ hk]; exact heap_setCell_other u ⟨b, o, none⟩ k v hk
theorem KeepR.setCells {w u : World} {l : List (Nat × TypeId × List Int)} (h : KeepR w l u) (i : Nat) {b : Nat} {t : TypeId} {R : List Int} (hi : l[i]? = some (b, t, R)) (o : Nat) (zs : List Int) : KeepR w (l.set i (b, t, splice R o zs)) (u.setCells b o (vals zs)) := by
  have h1 := h.blk _ (List.mem_of_getElem? hi)
  exact h.put i hi (h1.2.setCells zs o) (setCells_else b (vals zs) o u) (below_setCells zs h.bel h1.1 o)
/-- A part of a kept block is loaded. -/
theorem load_part {ops : Array Oper} {rest : List Oper} {o : Oper} {a : Act} {w u : World} {l : List (Nat × TypeId × List Int)} {Q : Exit → Act → World → Prop} (hk : KeepR w l u) (i : Nat) (n : Nat) {ty : TypeId} {d : TypeDesc} (hu : Tryz.prog.underlying ty = some d) (hd : d.isRow = true) (hs : (Tryz.prog.info? ty).map (·.size) = some n)
    (hgd : o.guard = none) (x : Operand) (ho : o.op = .load ty x) {b off : Nat} {t : TypeId} {R : List Int} (hi : l[i]? = some (b, t, R)) (hx : a.eval x = .pointer (some ⟨b, off, none⟩)) (hr : off + n ≤ R.length)
    (h : wpList Tryz.prog ops Q rest (a.put o.dst (.agg (vals (seg R off n)).toArray)) u) : wpList Tryz.prog ops Q (o :: rest) a u :=
  wpList_load_mid hgd ty x ho b off hx _ d ((hk.get i hi).seg hr) hu hd (by rw [vals_length, seg_length hr]; exact hs) h
/-- The whole of it. -/
theorem load_all {ops : Array Oper} {rest : List Oper} {o : Oper} {a : Act} {w u : World} {l : List (Nat × TypeId × List Int)} {Q : Exit → Act → World → Prop} (hk : KeepR w l u) (i : Nat) (n : Nat) {ty : TypeId} {d : TypeDesc} (hu : Tryz.prog.underlying ty = some d) (hd : d.isRow = true) (hs : (Tryz.prog.info? ty).map (·.size) = some n)
    (hgd : o.guard = none) (x : Operand) (ho : o.op = .load ty x) {b : Nat} {t : TypeId} {R : List Int} (hi : l[i]? = some (b, t, R)) (hx : a.eval x = .pointer (some ⟨b, 0, none⟩)) (hr : R.length = n)
    (h : wpList Tryz.prog ops Q rest (a.put o.dst (.agg (vals R).toArray)) u) : wpList Tryz.prog ops Q (o :: rest) a u :=
  load_part hk i n hu hd hs hgd x ho hi hx (by omega) (by rw [seg_all hr]; exact h)
/-- Numbers are stored into a part of a kept block. -/
theorem store_part {ops : Array Oper} {rest : List Oper} {o : Oper} {a : Act} {w u : World} {l : List (Nat × TypeId × List Int)} {Q : Exit → Act → World → Prop} (hk : KeepR w l u) (i : Nat) (n : Nat) {ty : TypeId} (hs : (Tryz.prog.info? ty).map (·.size) = some n)
    (hgd : o.guard = none) (hd : o.dst = none) (x y : Operand) (ho : o.op = .store ty x y) {b off : Nat} {t : TypeId} {R zs : List Int} (hi : l[i]? = some (b, t, R)) (hx : a.eval x = .pointer (some ⟨b, off, none⟩)) (hy : a.eval y = .agg (vals zs).toArray) (hz : zs.length = n) (hr : off + n ≤ R.length)
    (h : ∀ u', KeepR w (l.set i (b, t, splice R off zs)) u' → (∀ k, k ≠ b → u'.heap[k]? = u.heap[k]?) → wpList Tryz.prog ops Q rest a u') : wpList Tryz.prog ops Q (o :: rest) a u :=
  wpList_store_mid hgd ty x y ho b off _ hx hy (by simp only [List.size_toArray, vals_length, hz]; exact (hk.get i hi).thereAt hr) (by simp only [List.size_toArray, vals_length, hz]; exact hs) (vals_all zs)
    (by rw [hd]; simpa [Act.put] using h _ (hk.setCells i hi off zs) (setCells_else b (vals zs) off u))
theorem store_all {ops : Array Oper} {rest : List Oper} {o : Oper} {a : Act} {w u : World} {l : List (Nat × TypeId × List Int)} {Q : Exit → Act → World → Prop} (hk : KeepR w l u) (i : Nat) (n : Nat) {ty : TypeId} (hs : (Tryz.prog.info? ty).map (·.size) = some n)
    (hgd : o.guard = none) (hd : o.dst = none) (x y : Operand) (ho : o.op = .store ty x y) {b : Nat} {t : TypeId} {R zs : List Int} (hi : l[i]? = some (b, t, R)) (hx : a.eval x = .pointer (some ⟨b, 0, none⟩)) (hy : a.eval y = .agg (vals zs).toArray) (hz : zs.length = n) (hr : R.length = n)
    (h : ∀ u', KeepR w (l.set i (b, t, zs)) u' → (∀ k, k ≠ b → u'.heap[k]? = u.heap[k]?) → wpList Tryz.prog ops Q rest a u') : wpList Tryz.prog ops Q (o :: rest) a u :=
  store_part hk i n hs hgd hd x y ho hi hx hy hz (by omega) (by rw [splice_all (by omega)]; exact h)
/-- A new variable of zeros. -/
theorem alloc_zero {ops : Array Oper} {rest : List Oper} {o : Oper} {a : Act} {w u : World} {l : List (Nat × TypeId × List Int)} {Q : Exit → Act → World → Prop} (hk : KeepR w l u) (n : Nat) {ty : TypeId} (hz : (Tryz.prog.info? ty).bind (·.zero) = some (.agg (vals (zer n)).toArray))
    (hgd : o.guard = none) (ho : o.op = .alloc ty)
    (h : ∀ b u', b = u.heap.size → KeepR w ((b, ty, zer n) :: l) u' → Below u.heap.size u u' → wpList Tryz.prog ops Q rest (a.put o.dst (.pointer (some ⟨b, 0, none⟩))) u') : wpList Tryz.prog ops Q (o :: rest) a u :=
  wpList_plain hgd fun K hK => by
    have e : (Instr.alloc ty true (.tuple #[])).run Tryz.prog u = .ok (.pointer (some ⟨u.heap.size, 0, none⟩)) (u.alloc (.cells (vals (zer n)).toArray ty)) := by
      cases hq : Tryz.prog.info? ty with
      | none => simp [hq] at hz
      | some i =>
        simp only [hq, Option.bind_some] at hz
        simp [Instr.alloc, zeroValue, typeInfo, hq, hz, newVar, newRow, newObj, Value.cells]
        rfl
    unfold Oper.wp execOp
    simp only [ho, Sem.run_bind, Sem.run_pure, Result.andThen_ok, e]
    exact hK _ _ (h _ _ rfl (hk.new rfl) (box u _ _).2)
/-- A value, boxed. -/
theorem box_new {ops : Array Oper} {rest : List Oper} {o : Oper} {a : Act} {w u : World} {l : List (Nat × TypeId × List Int)} {Q : Exit → Act → World → Prop} (hk : KeepR w l u) {ty : TypeId}
    (hgd : o.guard = none) (x : Operand) (ho : o.op = .box ty x) {R : List Int} (hx : a.eval x = .agg (vals R).toArray)
    (h : ∀ b u', KeepR w ((b, ty, R) :: l) u' → Below u.heap.size u u' → wpList Tryz.prog ops Q rest (a.put o.dst (.pointer (some ⟨b, 0, none⟩))) u') : wpList Tryz.prog ops Q (o :: rest) a u :=
  wpList_plain hgd fun K hK => by
    have e : (Instr.box ty (.agg (vals R).toArray)).run Tryz.prog u = .ok (.pointer (some ⟨u.heap.size, 0, none⟩)) (u.alloc (.cells (vals R).toArray ty)) := by
      simp [Instr.box, newVar, newRow, newObj, Value.cells]
      rfl
    unfold Oper.wp execOp
    simp only [ho, hx, Sem.run_bind, Sem.run_pure, Result.andThen_ok, e]
    exact hK _ _ (h _ _ (hk.new rfl) (box u _ _).2)
/-- The zero value, built. -/
theorem build_zero {ops : Array Oper} {rest : List Oper} {o : Oper} {a : Act} {u : World} {Q : Exit → Act → World → Prop} (n : Nat) {ty : TypeId} (he : ∀ W, (Instr.build ty #[]).run Tryz.prog W = .ok (.agg (vals (zer n)).toArray) W)
    (hgd : o.guard = none) (ho : o.op = .build ty #[])
    (h : wpList Tryz.prog ops Q rest (a.put o.dst (.agg (vals (zer n)).toArray)) u) : wpList Tryz.prog ops Q (o :: rest) a u :=
  wpList_plain hgd fun K hK => by
    unfold Oper.wp execOp
    simp only [ho, List.map_toArray, List.map_nil, Sem.run_bind, Sem.run_pure, Result.andThen_ok, he]
    exact hK _ _ h
theorem wp_load_int {o : Oper} {a : Act} {w u : World} {l : List (Nat × TypeId × List Int)} {K : Act → World → Prop} {Q : Exit → Act → World → Prop} (hk : KeepR w l u) (i : Nat) (x : Operand) (ho : o.op = .load 3 x) {b off : Nat} {t : TypeId} {R : List Int} (hi : l[i]? = some (b, t, R))
    (hx : a.eval x = .pointer (some ⟨b, off, none⟩)) (hr : off < R.length) (h : K (a.put o.dst (.int .i64 (R.getD off 0))) u) : o.wp Tryz.prog a u K Q := by
  have hc := (hk.get i hi).cell hr
  unfold Oper.wp execOp
  simp only [ho, hx]
  simp [go_sem, hc]
  simpa [Act.put] using h
theorem load_int {ops : Array Oper} {rest : List Oper} {o : Oper} {a : Act} {w u : World} {l : List (Nat × TypeId × List Int)} {Q : Exit → Act → World → Prop} (hk : KeepR w l u) (i : Nat) (hgd : o.guard = none) (x : Operand) (ho : o.op = .load 3 x) {b off : Nat} {t : TypeId} {R : List Int} (hi : l[i]? = some (b, t, R))
    (hx : a.eval x = .pointer (some ⟨b, off, none⟩)) (hr : off < R.length) (h : wpList Tryz.prog ops Q rest (a.put o.dst (.int .i64 (R.getD off 0))) u) : wpList Tryz.prog ops Q (o :: rest) a u :=
  wpList_plain hgd fun _ hK => wp_load_int hk i x ho hi hx hr (hK _ _ h)
theorem load_int_want {ops : Array Oper} {rest : List Oper} {o : Oper} {a : Act} {w u : World} {l : List (Nat × TypeId × List Int)} {Q : Exit → Act → World → Prop} (hk : KeepR w l u) (i : Nat) (x : Operand) (ho : o.op = .load 3 x) {b off : Nat} {t : TypeId} {R : List Int} (hi : l[i]? = some (b, t, R))
    (hx : a.eval x = .pointer (some ⟨b, off, none⟩)) (hw : Region.wanted o (yielded ops a.tmps) = true) (hr : off < R.length) (h : wpList Tryz.prog ops Q rest (a.put o.dst (.int .i64 (R.getD off 0))) u) : wpList Tryz.prog ops Q (o :: rest) a u :=
  BigFrame.wpList_want hw fun _ hK => wp_load_int hk i x ho hi hx hr (hK _ _ h)
/-- An int whose value has a name. -/
theorem load_val {ops : Array Oper} {rest : List Oper} {o : Oper} {a : Act} {w u : World} {l : List (Nat × TypeId × List Int)} {Q : Exit → Act → World → Prop} (hk : KeepR w l u) (i : Nat) (hgd : o.guard = none) (x : Operand) (ho : o.op = .load 3 x) {b off : Nat} {t : TypeId} {R : List Int} (hi : l[i]? = some (b, t, R))
    (hx : a.eval x = .pointer (some ⟨b, off, none⟩)) {z : Int} (hv : R.getD off 0 = z) (hr : off < R.length) (h : wpList Tryz.prog ops Q rest (a.put o.dst (.int .i64 z)) u) : wpList Tryz.prog ops Q (o :: rest) a u :=
  load_int hk i hgd x ho hi hx hr (by rw [hv]; exact h)
theorem load_val_want {ops : Array Oper} {rest : List Oper} {o : Oper} {a : Act} {w u : World} {l : List (Nat × TypeId × List Int)} {Q : Exit → Act → World → Prop} (hk : KeepR w l u) (i : Nat) (x : Operand) (ho : o.op = .load 3 x) {b off : Nat} {t : TypeId} {R : List Int} (hi : l[i]? = some (b, t, R))
    (hx : a.eval x = .pointer (some ⟨b, off, none⟩)) (hw : Region.wanted o (yielded ops a.tmps) = true) {z : Int} (hv : R.getD off 0 = z) (hr : off < R.length) (h : wpList Tryz.prog ops Q rest (a.put o.dst (.int .i64 z)) u) : wpList Tryz.prog ops Q (o :: rest) a u :=
  load_int_want hk i x ho hi hx hw hr (by rw [hv]; exact h)
theorem KeepR.setCell {w u : World} {l : List (Nat × TypeId × List Int)} (h : KeepR w l u) (i : Nat) {b : Nat} {t : TypeId} {R : List Int} (hi : l[i]? = some (b, t, R)) (o : Nat) (z : Int) : KeepR w (l.set i (b, t, R.set o z)) (u.setCell ⟨b, o, none⟩ (.int .i64 z)) := by
  have h1 := h.blk _ (List.mem_of_getElem? hi)
  exact h.put i hi (h1.2.setCell o z) (fun k hk => heap_setCell_other u ⟨b, o, none⟩ k _ hk) (h.bel.setCell (p := ⟨b, o, none⟩) h1.1 _)
theorem store_int {ops : Array Oper} {rest : List Oper} {o : Oper} {a : Act} {w u : World} {l : List (Nat × TypeId × List Int)} {Q : Exit → Act → World → Prop} (hk : KeepR w l u) (i : Nat) (hgd : o.guard = none) (hd : o.dst = none) (x y : Operand) (ho : o.op = .store 3 x y) {b off : Nat} {t : TypeId} {R : List Int} {z : Int} (hi : l[i]? = some (b, t, R))
    (hx : a.eval x = .pointer (some ⟨b, off, none⟩)) (hy : a.eval y = .int .i64 z) (hr : off < R.length) (h : ∀ u', KeepR w (l.set i (b, t, R.set off z)) u' → wpList Tryz.prog ops Q rest a u') : wpList Tryz.prog ops Q (o :: rest) a u :=
  wpList_plain hgd fun K hK => by
    have hc := (hk.get i hi).cell hr
    have hf := (hk.get i hi).frozen off
    have := hK _ _ (h _ (hk.setCell i hi off z))
    unfold Oper.wp execOp
    simp only [ho, hx, hy]
    simp [go_sem, hc, hf]
    simpa [hd, Act.put] using this
/-- What a call made lies beside what was kept. -/
theorem KeepR.append {w u u' : World} {l l' : List (Nat × TypeId × List Int)} (h : KeepR w l u) (h' : KeepR u l' u') : KeepR w (l' ++ l) u' := by
  have h1 := h.call h'.bel
  refine ⟨h1.bel, fun x hx => ?_, ?_⟩
  · rcases List.mem_append.1 hx with hx | hx
    · exact ⟨Nat.le_trans h.bel.size (h'.blk x hx).1, (h'.blk x hx).2⟩
    · exact h1.blk x hx
  · rw [List.map_append, List.nodup_append]
    refine ⟨h'.apart, h.apart, fun a ha b hb e => ?_⟩
    obtain ⟨x, hx, rfl⟩ := List.mem_map.1 ha
    obtain ⟨y, hy, rfl⟩ := List.mem_map.1 hb
    have := (h'.blk x hx).1
    have := (h.blk y hy).2.lt
    omega
theorem results_2 {fn : Func} {p q : Tmp} {ty : TypeId} {n : Nat} {d : TypeDesc} (h : fn.results = #[.cell p ty, .tmp q]) (hu : Tryz.prog.underlying ty = some d) (hd : d.isRow = true) (hs : (Tryz.prog.info? ty).map (·.size) = some n) (tmps : Array Value) {w u : World} {l : List (Nat × TypeId × List Int)} (hk : KeepR w l u) (i : Nat) {b : Nat} {R : List Int} (v : Value)
    (hi : l[i]? = some (b, ty, R)) (hp : tmps.getD p undef = .pointer (some ⟨b, 0, none⟩)) (hq : tmps.getD q undef = v) (hl : R.length = n) : (results fn tmps).run Tryz.prog u = .ok (.tuple #[.agg (vals R).toArray, v]) u := by
  have hp' : tmps[p]?.getD undef = .pointer (some ⟨b, 0, none⟩) := by simpa using hp
  have hq' : tmps[q]?.getD undef = v := by simpa using hq
  have hr := run_loadVar_row (P := Tryz.prog) u b _ ty _ (0, 0) _ (hk.get i hi) hu (by cases d <;> simp_all) (by rw [List.size_toArray, vals_length, hl]; exact hs)
  simp [results, h, hp', hq', asAddr, hr]
theorem eqField {P : Program} {w : World} {d : Nat} {xs ys : Array Value} {f : Field} {fs : List Field} {a b : Value} {r r' : Bool} (n : f.name ≠ "_")
    (p : (part f.type xs f.offset).run P w = .ok a w) (q : (part f.type ys f.offset).run P w = .ok b w) (e : (Op.equalIn d f.type a b).run P w = .ok r w) (h : (Op.eqFields d xs ys fs).run P w = .ok r' w) : (Op.eqFields d xs ys (f :: fs)).run P w = .ok (r && r') w := by
  cases r <;> simp [Op.eqFields, n, p, q, e, h]
theorem part_int (xs : List Int) {o : Nat} (ho : o < xs.length) (w : World) : (part 3 (vals xs).toArray o).run Tryz.prog w = .ok (.int .i64 (xs.getD o 0)) w := by
  simp [part, isAgg, run_underlying Tryz.underlying3, vals, List.getElem?_eq_getElem ho]
theorem seg_map {R : List Int} {o n : Nat} (h : o + n ≤ R.length) : seg R o n = (List.range n).map fun m => R.getD (o + m) 0 := by
  refine ext_get (by rw [seg_length h]; simp) fun k hk => ?_
  rw [seg_length h] at hk
  rw [seg_get hk]
  simp [List.getD, hk]
/-- A part of a kept block yields the same wherever it is kept. -/
theorem yield_part {ops : Array Oper} {S : World → Prop} {o : Oper} {a : Act} {w : World} {l : List (Nat × TypeId × List Int)} (hk : ∀ u, S u → KeepR w l u) (i n : Nat) {ty : TypeId} {d : TypeDesc} (hu : Tryz.prog.underlying ty = some d) (hd : d.isRow = true) (hs : (Tryz.prog.info? ty).map (·.size) = some n)
    (hw : Region.wanted o (yielded ops a.tmps) = true) (x : Operand) (ho : o.op = .load ty x) {b off : Nat} {t : TypeId} {R : List Int} (hi : l[i]? = some (b, t, R)) (hx : a.eval x = .pointer (some ⟨b, off, none⟩)) (hr : off + n ≤ R.length) :
    YieldsIf Tryz.prog ops S o (.agg (vals (seg R off n)).toArray) a :=
  yieldsIf_load_mid hw ty x ho b off hx _ d (fun u h => ((hk u h).get i hi).seg hr) hu hd (by rw [vals_length, seg_length hr]; exact hs)
theorem yield_all {ops : Array Oper} {S : World → Prop} {o : Oper} {a : Act} {w : World} {l : List (Nat × TypeId × List Int)} (hk : ∀ u, S u → KeepR w l u) (i n : Nat) {ty : TypeId} {d : TypeDesc} (hu : Tryz.prog.underlying ty = some d) (hd : d.isRow = true) (hs : (Tryz.prog.info? ty).map (·.size) = some n)
    (hw : Region.wanted o (yielded ops a.tmps) = true) (x : Operand) (ho : o.op = .load ty x) {b : Nat} {t : TypeId} {R : List Int} (hi : l[i]? = some (b, t, R)) (hx : a.eval x = .pointer (some ⟨b, 0, none⟩)) (hr : R.length = n) :
    YieldsIf Tryz.prog ops S o (.agg (vals R).toArray) a := by
  have h := yield_part (ops := ops) (S := S) hk i n hu hd hs hw x ho hi hx (by omega)
  rwa [seg_all hr] at h
/-- A part of a kept block is loaded, behind a guard that lets it be. -/
theorem load_want {ops : Array Oper} {rest : List Oper} {o : Oper} {a : Act} {w u : World} {l : List (Nat × TypeId × List Int)} {Q : Exit → Act → World → Prop} (hk : KeepR w l u) (i : Nat) (n : Nat) {ty : TypeId} {d : TypeDesc} (hu : Tryz.prog.underlying ty = some d) (hd : d.isRow = true) (hs : (Tryz.prog.info? ty).map (·.size) = some n)
    (x : Operand) (ho : o.op = .load ty x) {b off : Nat} {t : TypeId} {R : List Int} (hi : l[i]? = some (b, t, R)) (hx : a.eval x = .pointer (some ⟨b, off, none⟩)) (hw : Region.wanted o (yielded ops a.tmps) = true) (hr : off + n ≤ R.length)
    (h : wpList Tryz.prog ops Q rest (a.put o.dst (.agg (vals (seg R off n)).toArray)) u) : wpList Tryz.prog ops Q (o :: rest) a u :=
  BigFrame.wpList_want hw fun _ hK => wp_load_mid ty x ho b off hx _ d ((hk.get i hi).seg hr) hu hd (by rw [vals_length, seg_length hr]; exact hs) (hK _ _ h)

end Go.Proofs.YtgblnlpfgdbnnaaGreat

namespace Go.Proofs.YtgblnlpfgdbnnaaGreat

structure Ho where
  r : Int
  n : Int
  a : Int
  d : Int
  s : Int
/-- Its five numbers, in their order. -/
def Ho.l (h : Ho) : List Int := [h.r, h.n, h.a, h.d, h.s]
theorem Ho.len (h : Ho) : h.l.length = 5 := rfl
theorem Ho.ext' {a b : Ho} (h1 : a.r = b.r) (h2 : a.n = b.n) (h3 : a.a = b.a) (h4 : a.d = b.d) (h5 : a.s = b.s) : a = b := by
  cases a; cases b; simp_all
theorem Ho.inj {a b : Ho} (h : a.l = b.l) : a = b := by
  simp only [Ho.l, List.cons.injEq, and_true] at h
  exact Ho.ext' h.1 h.2.1 h.2.2.1 h.2.2.2.1 h.2.2.2.2
theorem Ho.same (a : Ho) : (a.l == a.l) = true := by simp
/-- The zero hold. -/
def z5 : Ho := ⟨0, 0, 0, 0, 0⟩
instance : Inhabited Ho := ⟨z5⟩

def cmpIH (x y : Int) : Int := if x < y then -1 else if y < x then 1 else 0
theorem cmpI_casesH (x y : Int) : (x < y ∧ cmpIH x y = -1) ∨ (y < x ∧ cmpIH x y = 1) ∨ (x = y ∧ cmpIH x y = 0) := by
  unfold cmpIH
  split
  · omega
  · split <;> omega
/-- The first that is not 0. -/
def orI (x y : Int) : Int := if x = 0 then y else x
def nameC (a b : Ho) : Int := orI (cmpIH a.r b.r) (cmpIH a.n b.n)
/-- a goes ahead of b. -/
def AH (a b : Ho) : Prop := a.r < b.r ∨ (a.r = b.r ∧ a.n < b.n)
def SN (a b : Ho) : Prop := a.r = b.r ∧ a.n = b.n
def ahB (a b : Ho) : Bool := decide (a.r < b.r) || (a.r == b.r && decide (a.n < b.n))
theorem ahB_iff {a b : Ho} : ahB a b = true ↔ AH a b := by simp [ahB, AH]
theorem ahB_not {a b : Ho} : ahB a b = false ↔ ¬ AH a b := by rw [← Bool.not_eq_true, ahB_iff]
theorem nameC_cases (a b : Ho) : (AH a b ∧ nameC a b = -1) ∨ (AH b a ∧ nameC a b = 1) ∨ (SN a b ∧ nameC a b = 0) := by
  unfold nameC AH SN orI
  have h1 := cmpI_casesH a.r b.r
  have h2 := cmpI_casesH a.n b.n
  split <;> omega
theorem nameC_neg (a b : Ho) : decide (nameC a b < 0) = ahB a b := by
  rcases nameC_cases a b with ⟨h, e⟩ | ⟨h, e⟩ | ⟨h, e⟩
  · rw [e, ahB_iff.2 h]; rfl
  · rw [e, ahB_not.2 (by unfold AH at *; omega)]; rfl
  · rw [e, ahB_not.2 (by unfold AH SN at *; omega)]; rfl
theorem nameC_geq (a b : Ho) : decide (0 ≤ nameC a b) = !ahB a b := by
  rw [← nameC_neg, ← decide_not]
  congr 1
  rw [eq_iff_iff]; omega
theorem AH.irrefl (a : Ho) : ¬ AH a a := by unfold AH; omega
theorem AH.trans {a b c : Ho} (h1 : AH a b) (h2 : AH b c) : AH a c := by unfold AH at *; omega
theorem AH.apart {a b : Ho} (h : AH a b) : ¬ SN a b := by unfold AH SN at *; omega
theorem SN.symm {a b : Ho} (h : SN a b) : SN b a := ⟨h.1.symm, h.2.symm⟩
theorem SN.trans {a b c : Ho} (h : SN a b) (k : SN b c) : SN a c := ⟨h.1.trans k.1, h.2.trans k.2⟩

def repBH (k : Int) : Bool := decide (0 ≤ k) && decide (k < 16)
theorem repB_iffH {k : Int} : repBH k = true ↔ (0 ≤ k ∧ k < 16) := by simp [repBH]
theorem repB_notH {k : Int} : repBH k = false ↔ (k < 0 ∨ 16 ≤ k) := by rw [← Bool.not_eq_true, repB_iffH]; omega
def cntBH (n : Int) : Bool := decide (0 ≤ n) && isB n
theorem cntB_iffH {n : Int} : cntBH n = true ↔ (0 ≤ n ∧ n ≤ 1099511627776) := by simp [cntBH, isB]; omega
def rightH (h : Ho) : Bool := repBH h.r && (decide (1 ≤ h.n) && (isB h.n && (cntBH h.a && (cntBH h.d && (decide (1 ≤ h.s) && decide (h.s ≤ 3))))))
theorem rightH_iff {h : Ho} : rightH h = true ↔ (0 ≤ h.r ∧ h.r < 16 ∧ 1 ≤ h.n ∧ h.n ≤ 1099511627776 ∧ 0 ≤ h.a ∧ h.a ≤ 1099511627776 ∧ 0 ≤ h.d ∧ h.d ≤ 1099511627776 ∧ 1 ≤ h.s ∧ h.s ≤ 3) := by
  simp only [rightH, Bool.and_eq_true, repB_iffH, cntB_iffH, isB_iff, decide_eq_true_eq]; omega

/-! ### Which lists may be. -/
def okAt (l : List Ho) (i : Nat) : Bool := rightH (l.getD i z5) && (i == 0 || ahB (l.getD (i - 1) z5) (l.getD i z5))
def upTo (l : List Ho) : Nat → Bool
  | 0 => true
  | m + 1 => upTo l m && okAt l m
def rightsL (l : List Ho) : Bool := decide (l.length ≤ 16) && upTo l l.length
theorem upTo_iff (l : List Ho) (m : Nat) : upTo l m = true ↔ ∀ i, i < m → okAt l i = true := by
  induction m with
  | zero => simp [upTo]
  | succ m ih =>
    rw [upTo, Bool.and_eq_true, ih]
    constructor
    · intro ⟨h1, h2⟩ i hi
      rcases Nat.lt_or_ge i m with h | h
      · exact h1 i h
      · rwa [show i = m by omega]
    · exact fun h => ⟨fun i hi => h i (by omega), h m (by omega)⟩
theorem rights_long {l : List Ho} (h : ¬ l.length ≤ 16) : rightsL l = false := by simp [rightsL, h]
theorem rights_fail {l : List Ho} {m : Nat} (hm : m < l.length) (h : okAt l m = false) : rightsL l = false := by
  cases hr : rightsL l with
  | false => rfl
  | true =>
    simp only [rightsL, Bool.and_eq_true, upTo_iff] at hr
    rw [hr.2 m hm] at h; cases h
theorem rights_all {l : List Ho} (h : l.length ≤ 16) (hu : upTo l l.length = true) : rightsL l = true := by simp [rightsL, h, hu]
theorem getD_get {l : List Ho} {i : Nat} (h : i < l.length) : l.getD i z5 = l[i] := by simp [List.getD, h]
theorem getD_mem {l : List Ho} {i : Nat} (h : i < l.length) : l.getD i z5 ∈ l := by rw [getD_get h]; exact List.getElem_mem h
theorem rights_nil : rightsL [] = true := rfl

/-! ### Strictly rising lists. -/
/-- No two of one name. -/
def Apart (l : List Ho) : Prop := l.Pairwise fun a b => ¬ SN a b
theorem Apart.one {l : List Ho} (h : Apart l) {x y : Ho} (hx : x ∈ l) (hy : y ∈ l) (hs : SN x y) : x = y := by
  obtain ⟨i, hi, rfl⟩ := List.getElem_of_mem hx
  obtain ⟨j, hj, rfl⟩ := List.getElem_of_mem hy
  rcases Nat.lt_trichotomy i j with h1 | h1 | h1
  · exact absurd hs (List.pairwise_iff_getElem.1 h i j hi hj h1)
  · subst h1; rfl
  · exact absurd hs.symm (List.pairwise_iff_getElem.1 h j i hj hi h1)

structure Lk where
  s : Int
  v : Int
  h : Int
  x : Int
/-- Its four numbers, in their order. -/
def Lk.l (a : Lk) : List Int := [a.s, a.v, a.h, a.x]
theorem Lk.len (a : Lk) : a.l.length = 4 := rfl
theorem Lk.ext' {a b : Lk} (h1 : a.s = b.s) (h2 : a.v = b.v) (h3 : a.h = b.h) (h4 : a.x = b.x) : a = b := by
  cases a; cases b; simp_all
theorem Lk.inj {a b : Lk} (h : a.l = b.l) : a = b := by
  simp only [Lk.l, List.cons.injEq, and_true] at h
  exact Lk.ext' h.1 h.2.1 h.2.2.1 h.2.2.2
theorem Lk.same (a : Lk) : (a.l == a.l) = true := by simp
/-- The zero lock. -/
def z4 : Lk := ⟨0, 0, 0, 0⟩

def cmpI (x y : Int) : Int := if x < y then -1 else if y < x then 1 else 0
theorem cmpI_cases (x y : Int) : (x < y ∧ cmpI x y = -1) ∨ (y < x ∧ cmpI x y = 1) ∨ (x = y ∧ cmpI x y = 0) := by
  unfold cmpI
  split
  · omega
  · split <;> omega
def cmpL (a b : Lk) : Int := if a.s ≠ b.s then cmpI a.s b.s else if a.v ≠ b.v then cmpI a.v b.v else if a.h ≠ b.h then cmpI a.h b.h else cmpI a.x b.x
/-- b is behind a. -/
def ltL (a b : Lk) : Prop := a.s < b.s ∨ (a.s = b.s ∧ (a.v < b.v ∨ (a.v = b.v ∧ (a.h < b.h ∨ (a.h = b.h ∧ a.x < b.x)))))
theorem cmpL_cases (a b : Lk) : (ltL a b ∧ cmpL a b = -1) ∨ (ltL b a ∧ cmpL a b = 1) ∨ (a = b ∧ cmpL a b = 0) := by
  unfold cmpL ltL
  have h1 := cmpI_cases a.s b.s
  have h2 := cmpI_cases a.v b.v
  have h3 := cmpI_cases a.h b.h
  have h4 := cmpI_cases a.x b.x
  split
  · omega
  · split
    · omega
    · split
      · omega
      · by_cases hx : a.x = b.x
        · exact .inr (.inr ⟨Lk.ext' (by omega) (by omega) (by omega) hx, by omega⟩)
        · omega
theorem ltL_irrefl (a : Lk) : ¬ ltL a a := by unfold ltL; omega
theorem cmp_zero {a b : Lk} : cmpL a b = 0 ↔ a = b := by
  rcases cmpL_cases a b with ⟨h, e⟩ | ⟨h, e⟩ | ⟨rfl, e⟩
  · rw [e]; exact ⟨fun h' => by omega, fun h' => by subst h'; exact absurd h (ltL_irrefl _)⟩
  · rw [e]; exact ⟨fun h' => by omega, fun h' => by subst h'; exact absurd h (ltL_irrefl _)⟩
  · exact ⟨fun _ => rfl, fun _ => e⟩
/-! ### New, Right, Write, Pass. -/
def repBK (k : Int) : Bool := decide (0 ≤ k) && decide (k ≤ 15)
theorem repB_iffK {k : Int} : repBK k = true ↔ (0 ≤ k ∧ k ≤ 15) := by simp [repBK]
theorem repB_notK {k : Int} : repBK k = false ↔ (k < 0 ∨ 15 < k) := by rw [← Bool.not_eq_true, repB_iffK]; omega
def cntB (n : Int) : Bool := decide (0 ≤ n) && isB n
theorem cntB_iff {n : Int} : cntB n = true ↔ (0 ≤ n ∧ n ≤ 1099511627776) := by
  simp only [cntB, Bool.and_eq_true, decide_eq_true_eq, isB_iff]; omega
def newEK (k n : Int) : Int := if repBK k = false then 1 else if isB n = false then 2 else 0
def newAK (k n : Int) : Lk := if newEK k n = 0 then ⟨0, 0, k, n⟩ else z4
def rightL (a : Lk) : Bool := cntB a.s && cntB a.v && repBK a.h && isB a.x
theorem rightL_iff {a : Lk} : rightL a = true ↔ (0 ≤ a.s ∧ a.s ≤ 1099511627776 ∧ 0 ≤ a.v ∧ a.v ≤ 1099511627776 ∧ 0 ≤ a.h ∧ a.h ≤ 15 ∧ -1099511627776 ≤ a.x ∧ a.x ≤ 1099511627776) := by
  simp only [rightL, Bool.and_eq_true, cntB_iff, repB_iffK, isB_iff, and_assoc]
theorem new_zero {k n : Int} (h : newEK k n = 0) : repBK k = true ∧ isB n = true ∧ newAK k n = ⟨0, 0, k, n⟩ := by
  have hA : newAK k n = ⟨0, 0, k, n⟩ := by rw [newAK, if_pos h]
  unfold newEK at h
  split at h
  · omega
  · rename_i h1
    split at h
    · omega
    · rename_i h2
      exact ⟨by simpa using h1, by simpa using h2, hA⟩

/-! ### Finding. -/
def nm (k n : Int) (h : Ho) : Bool := h.r == k && h.n == n
def fnd (l : List Ho) (k n : Int) : Option Ho := l.find? (nm k n)
/-! ### What a replica holds. -/
def holdsB (k : Int) (h : Ho) : Bool := h.r == k && h.s == 1
def sumTo (l : List Ho) (k : Int) : Nat → Int
  | 0 => 0
  | m + 1 => if holdsB k (l.getD m z5) then min (sumTo l k m + (l.getD m z5).a) 1099511627776 else sumTo l k m
def sumL (l : List Ho) (k : Int) : Int := sumTo l k l.length
/-- What each holds, with no bound. -/
def parts (k : Int) (l : List Ho) : List Int := l.map fun h => if holdsB k h then h.a else 0
/-! ### Reserving. -/
/-! ### Ending. -/
def setS (h : Ho) (z : Int) : Ho := ⟨h.r, h.n, h.a, h.d, z⟩
/-! ### Letting go. -/
def overBH (k now : Int) (h : Ho) : Bool := h.r == k && (h.s == 1 && decide (h.d < now))
def goes (k now : Int) (h : Ho) : Ho := if overBH k now h then setS h 3 else h

end Go.Proofs.YtgblnlpfgdbnnaaGreat

namespace Go.Proofs.YtgblnlpfgdbnnaaGreat
set_option maxRecDepth 100000
open Go.ChangeShapes Go.WideShapes Go.ChangeAt Go.RowKit

def sumOf (l : List Ho) (k : Int) : Int := if rightsL l then sumL l k else 0

end Go.Proofs.YtgblnlpfgdbnnaaGreat
