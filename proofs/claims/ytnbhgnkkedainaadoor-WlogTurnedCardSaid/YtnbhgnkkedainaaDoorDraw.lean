/- A region that draws its order, whose first operations read, call and make memory while S is kept, and whose last ones (stores) wait for all of the first: an operation that yields the same wherever S is kept may be taken first. -/
import Derived.Test.YtnbhgnkkedainaaDoorRows
import Derived.WalkKit
import Derived.ProofKit
import Derived.Deep.RegionHeld3
namespace Go.Proofs.YtnbhgnkkedainaaDoor
open Go.ChangeShapes Go.WideShapes Go.ChangeAt Go.RowKit

section
variable {P : Program} {ops : Array Oper} {Q : Exit → Act → World → Prop} {S : World → Prop} {n : Nat}

/-- Whatever order is picked from here on; S is kept behind each of the first n operations. -/
def Draws (P : Program) (ops : Array Oper) (Q : Exit → Act → World → Prop) (S : World → Prop) (n : Nat) : Nat → Array Bool → Act → World → Prop
  | 0, listed, a, w => Region.ready .any ops listed = [] ∧ Q .normal a w
  | fuel + 1, listed, a, w =>
    (Region.ready .any ops listed = [] → Q .normal a w) ∧
    ∀ i ∈ Region.ready .any ops listed, wpOp P ops Q i (fun a' w' => (i < n → S w') ∧ Draws P ops Q S n fuel (listed.setIfInBounds i true) a' w') a w

theorem Draws.any : ∀ (fuel : Nat) (listed : Array Bool) (a : Act) (w : World), Draws P ops Q S n fuel listed a w → wpAny P .any ops Q fuel listed a w
  | 0, _, _, _, h => h
  | fuel + 1, _, _, _, h => ⟨h.1, fun i hi => wpOp_mono (fun a' w' h' => Draws.any fuel _ a' w' h'.2) (h.2 i hi)⟩

/-- Each operation from number n on waits for number i. -/
def waitB (ops : Array Oper) (n i : Nat) : Bool :=
  (List.range ops.size).all fun j => decide (j < n) || match ops[j]? with
    | some o => o.after.any fun e => Region.binds .any e && e.on == i
    | none => true

theorem Draws.first {i : Nat} {oi : Oper} {v : Value} (hi : ops[i]? = some oi) (hsel : ∀ (j : Nat) (o : Oper) cs b, ops[j]? = some o → o.op ≠ .select cs b)
    (hQ : ∀ c a w, Q (.panic c) (a.put oi.dst v) w → Q (.panic c) a w) (hwait : waitB ops n i = true) :
    ∀ (fuel : Nat) (listed : Array Bool) (a : Act) (w : World),
      (∀ j oj, ops[j]? = some oj → j ≠ i → listed.getD j true = false → (∀ e ∈ oj.after, Region.binds .any e = true → e.on ≠ i) → oi.apart ops oj = true) →
      i ∈ Region.ready .any ops listed → YieldsIf P ops S oi v a → S w → (i < n → S w) →
      Draws P ops Q S n fuel (listed.setIfInBounds i true) (a.put oi.dst v) w → Draws P ops Q S n (fuel + 1) listed a w := by
  intro fuel
  induction fuel with
  | zero =>
    intro listed a w _ hr hy hS hSn H
    refine ⟨fun h => (by rw [h] at hr; cases hr), fun j hj => ?_⟩
    by_cases hji : j = i
    · subst hji; exact hy.wpOp hi hS ⟨hSn, H⟩
    · have := ready_mono hj hji
      rw [H.1] at this
      cases this
  | succ fuel ih =>
    intro listed a w hfree hr hy hS hSn H
    refine ⟨fun h => (by rw [h] at hr; cases hr), fun j hj => ?_⟩
    by_cases hji : j = i
    · subst hji; exact hy.wpOp hi hS ⟨hSn, H⟩
    · have h1 := H.2 j (ready_mono hj hji)
      obtain ⟨hjun, oj, hoj, hall⟩ := mem_ready.1 hj
      have hnot : ∀ e ∈ oj.after, Region.binds .any e = true → e.on ≠ i := fun e he hb heq => by
        have h1 := hall e he hb
        have h0 := (mem_ready.1 hr).1
        rw [heq] at h1
        rcases Nat.lt_or_ge i listed.size with h' | h'
        · simp [h'] at h0 h1; rw [h0] at h1; cases h1
        · simp [Array.getElem?_eq_none h'] at h1
      have hjn : j < n := by
        rcases Nat.lt_or_ge j n with h | h
        · exact h
        · exfalso
          simp only [waitB, List.all_eq_true, List.mem_range] at hwait
          have h2 := hwait j (Array.getElem?_eq_some_iff.1 hoj).1
          simp only [hoj, show ¬ j < n by omega, decide_false, Bool.false_or, Array.any_eq_true', Bool.and_eq_true, beq_iff_eq] at h2
          obtain ⟨e, he, hb, ho⟩ := h2
          exact hnot e he hb ho
      have h2 := wpOp_putIf hoj (hfree j oj hoj hji hjun hnot) (fun cs b => hsel i oi cs b hi) (fun cs b => hsel j oj cs b hoj) hQ hy h1
      have hfree' : ∀ k ok, ops[k]? = some ok → k ≠ i → (listed.setIfInBounds j true).getD k true = false →
          (∀ e ∈ ok.after, Region.binds .any e = true → e.on ≠ i) → oi.apart ops ok = true := fun k ok hk hki hun hno => by
        refine hfree k ok hk hki ?_ hno
        by_cases hjk : j = k
        · subst hjk; exact hjun
        · rw [getD_set_ne true hjk] at hun; exact hun
      refine wpOp_mono (fun a' w' h3 => ⟨h3.2.1, ih (listed.setIfInBounds j true) a' w' hfree' (ready_mono hr (Ne.symm hji)) h3.1 (h3.2.1 hjn) (fun _ => h3.2.1 hjn) ?_⟩) h2
      rw [Array.setIfInBounds_comm _ _ hji]
      exact h3.2.2

theorem of_drop {l r : List Oper} {i : Nat} {o : Oper} (h : l.drop i = o :: r) : l.toArray[i]? = some o := by
  have := congrArg (fun x => x[0]?) h
  simpa [List.getElem?_drop] using this

/-- Take number i first. -/
theorem Draws.take {l r : List Oper} {fuel : Nat} {listed : Array Bool} {a : Act} {w : World} (i : Nat) {oi : Oper} {v : Value} (hS : S w) (hi : l.drop i = oi :: r)
    (hb : (Region.noSelect l.toArray && Region.free .any l.toArray listed i && (Region.ready .any l.toArray listed).contains i && waitB l.toArray n i) = true)
    (hQ : ∀ c a w, Q (.panic c) (a.put oi.dst v) w → Q (.panic c) a w) (hy : YieldsIf P l.toArray S oi v a)
    (h : Draws P l.toArray Q S n fuel (listed.setIfInBounds i true) (a.put oi.dst v) w) : Draws P l.toArray Q S n (fuel + 1) listed a w := by
  simp only [Bool.and_eq_true] at hb
  obtain ⟨⟨⟨h1, h2⟩, h3⟩, h4⟩ := hb
  exact Draws.first (of_drop hi) (Region.noSelect_spec h1) hQ h4 fuel listed a w (Region.free_spec (of_drop hi) h2) (by simpa using h3) hy hS (fun _ => hS) h

/-- Only number i may come up: it is carried out. -/
theorem Draws.does {l r : List Oper} {fuel : Nat} {listed : Array Bool} {a : Act} {w : World} (i : Nat) {o : Oper} (hi : l.drop i = o :: r) (hr : Region.ready .any l.toArray listed = [i]) (hw : Region.wanted o (yielded l.toArray a.tmps) = true)
    (h : ∀ K : Act → World → Prop, Shut (∀ a w, (i < n → S w) → Draws P l.toArray Q S n fuel (listed.setIfInBounds i true) a w → K a w) → Oper.wp P o a w K Q) : Draws P l.toArray Q S n (fuel + 1) listed a w := by
  refine ⟨fun h0 => (by rw [hr] at h0; cases h0), fun j hj => ?_⟩
  rw [hr, List.mem_singleton] at hj
  subst hj
  exact wpOp_step (of_drop hi) (fun K hK => by rw [if_pos hw]; exact h K (fun a w hS hD => hK a w ⟨hS, hD⟩))
/-- One of two may come up. -/
theorem Draws.either {l r s : List Oper} {fuel : Nat} {listed : Array Bool} {a : Act} {w : World} (i j : Nat) {o p : Oper} (hi : l.drop i = o :: r) (hj : l.drop j = p :: s) (hr : Region.ready .any l.toArray listed = [i, j])
    (hw : Region.wanted o (yielded l.toArray a.tmps) = true) (hw' : Region.wanted p (yielded l.toArray a.tmps) = true)
    (h1 : ∀ K : Act → World → Prop, Shut (∀ a w, (i < n → S w) → Draws P l.toArray Q S n fuel (listed.setIfInBounds i true) a w → K a w) → Oper.wp P o a w K Q)
    (h2 : ∀ K : Act → World → Prop, Shut (∀ a w, (j < n → S w) → Draws P l.toArray Q S n fuel (listed.setIfInBounds j true) a w → K a w) → Oper.wp P p a w K Q) : Draws P l.toArray Q S n (fuel + 1) listed a w := by
  refine ⟨fun h0 => (by rw [hr] at h0; cases h0), fun k hk => ?_⟩
  rw [hr, List.mem_cons, List.mem_singleton] at hk
  rcases hk with rfl | rfl
  · exact wpOp_step (of_drop hi) (fun K hK => by rw [if_pos hw]; exact h1 K (fun a w hS hD => hK a w ⟨hS, hD⟩))
  · exact wpOp_step (of_drop hj) (fun K hK => by rw [if_pos hw']; exact h2 K (fun a w hS hD => hK a w ⟨hS, hD⟩))

theorem Draws.done {fuel : Nat} {listed : Array Bool} {a : Act} {w : World} (hr : Region.ready .any ops listed = []) (h : Q .normal a w) : Draws P ops Q S n fuel listed a w := by
  cases fuel with
  | zero => exact ⟨hr, h⟩
  | succ f => exact ⟨fun _ => h, by rw [hr]; simp⟩

theorem Draws.start {id : Nat} {a : Act} {w : World} {l : List Oper} (S : World → Prop) (n N : Nat) (hN : l.length = N) (hm : P.follows .mixedOrders = true)
    (h : Draws P l.toArray Q S n N (Array.replicate N false) a w.drew) : (Code.region id l.toArray true).wp P Q a w :=
  wp_region_any hm (Draws.any _ _ _ _ (by subst hN; simpa using h))
end
end Go.Proofs.YtnbhgnkkedainaaDoor
