/- Plain arithmetic of layer 6 (hold): which holds may be, and what finding, adding up, reserving, ending, letting go and joining tell. No program is spoken of here. -/
import Derived.Test.YtbaccghnneidgaaGreatBase0
namespace Go.Proofs.YtbaccghnneidgaaGreat

structure Ho where
  r : Int
  n : Int
  a : Int
  d : Int
  s : Int
/-- Its five numbers, in their order. -/
def Ho.l (h : Ho) : List Int := [h.r, h.n, h.a, h.d, h.s]
theorem Ho.len (h : Ho) : h.l.length = 5 := rfl
theorem Ho.ext' {a b : Ho} (h1 : a.r = b.r) (h2 : a.n = b.n) (h3 : a.a = b.a) (h4 : a.d = b.d) (h5 : a.s = b.s) : a = b := by
  cases a; cases b; simp_all
theorem Ho.inj {a b : Ho} (h : a.l = b.l) : a = b := by
  simp only [Ho.l, List.cons.injEq, and_true] at h
  exact Ho.ext' h.1 h.2.1 h.2.2.1 h.2.2.2.1 h.2.2.2.2
theorem Ho.same (a : Ho) : (a.l == a.l) = true := by simp
theorem Ho.beq_iff {a b : Ho} : (a.l == b.l) = true ↔ a = b := by
  rw [beq_iff_eq]
  exact ⟨Ho.inj, fun h => by rw [h]⟩
theorem Ho.beq_false {a b : Ho} (h : a ≠ b) : (a.l == b.l) = false := by
  cases hb : a.l == b.l
  · rfl
  · exact absurd (Ho.beq_iff.1 hb) h
/-- The zero hold. -/
def z5 : Ho := ⟨0, 0, 0, 0, 0⟩
instance : Inhabited Ho := ⟨z5⟩

def cmpIH (x y : Int) : Int := if x < y then -1 else if y < x then 1 else 0
theorem cmpI_casesH (x y : Int) : (x < y ∧ cmpIH x y = -1) ∨ (y < x ∧ cmpIH x y = 1) ∨ (x = y ∧ cmpIH x y = 0) := by
  unfold cmpIH
  split
  · omega
  · split <;> omega
/-- The first that is not 0. -/
def orI (x y : Int) : Int := if x = 0 then y else x
def nameC (a b : Ho) : Int := orI (cmpIH a.r b.r) (cmpIH a.n b.n)
/-- a goes ahead of b. -/
def AH (a b : Ho) : Prop := a.r < b.r ∨ (a.r = b.r ∧ a.n < b.n)
def SN (a b : Ho) : Prop := a.r = b.r ∧ a.n = b.n
def ahB (a b : Ho) : Bool := decide (a.r < b.r) || (a.r == b.r && decide (a.n < b.n))
theorem ahB_iff {a b : Ho} : ahB a b = true ↔ AH a b := by simp [ahB, AH]
theorem ahB_not {a b : Ho} : ahB a b = false ↔ ¬ AH a b := by rw [← Bool.not_eq_true, ahB_iff]
theorem nameC_cases (a b : Ho) : (AH a b ∧ nameC a b = -1) ∨ (AH b a ∧ nameC a b = 1) ∨ (SN a b ∧ nameC a b = 0) := by
  unfold nameC AH SN orI
  have h1 := cmpI_casesH a.r b.r
  have h2 := cmpI_casesH a.n b.n
  split <;> omega
theorem nameC_neg (a b : Ho) : decide (nameC a b < 0) = ahB a b := by
  rcases nameC_cases a b with ⟨h, e⟩ | ⟨h, e⟩ | ⟨h, e⟩
  · rw [e, ahB_iff.2 h]; rfl
  · rw [e, ahB_not.2 (by unfold AH at *; omega)]; rfl
  · rw [e, ahB_not.2 (by unfold AH SN at *; omega)]; rfl
theorem nameC_geq (a b : Ho) : decide (0 ≤ nameC a b) = !ahB a b := by
  rw [← nameC_neg, ← decide_not]
  congr 1
  rw [eq_iff_iff]; omega
theorem AH.irrefl (a : Ho) : ¬ AH a a := by unfold AH; omega
theorem AH.trans {a b c : Ho} (h1 : AH a b) (h2 : AH b c) : AH a c := by unfold AH at *; omega
theorem AH.total (a b : Ho) : AH a b ∨ AH b a ∨ SN a b := by unfold AH SN; omega
theorem AH.apart {a b : Ho} (h : AH a b) : ¬ SN a b := by unfold AH SN at *; omega
theorem SN.symm {a b : Ho} (h : SN a b) : SN b a := ⟨h.1.symm, h.2.symm⟩
theorem SN.trans {a b c : Ho} (h : SN a b) (k : SN b c) : SN a c := ⟨h.1.trans k.1, h.2.trans k.2⟩

def repBH (k : Int) : Bool := decide (0 ≤ k) && decide (k < 16)
theorem repB_iffH {k : Int} : repBH k = true ↔ (0 ≤ k ∧ k < 16) := by simp [repBH]
theorem repB_notH {k : Int} : repBH k = false ↔ (k < 0 ∨ 16 ≤ k) := by rw [← Bool.not_eq_true, repB_iffH]; omega
def cntBH (n : Int) : Bool := decide (0 ≤ n) && isB n
theorem cntB_iffH {n : Int} : cntBH n = true ↔ (0 ≤ n ∧ n ≤ 1099511627776) := by simp [cntBH, isB]; omega
theorem cntB_not {n : Int} : cntBH n = false ↔ (n < 0 ∨ 1099511627776 < n) := by rw [← Bool.not_eq_true, cntB_iffH]; omega
def rightH (h : Ho) : Bool := repBH h.r && (decide (1 ≤ h.n) && (isB h.n && (cntBH h.a && (cntBH h.d && (decide (1 ≤ h.s) && decide (h.s ≤ 3))))))
theorem rightH_iff {h : Ho} : rightH h = true ↔ (0 ≤ h.r ∧ h.r < 16 ∧ 1 ≤ h.n ∧ h.n ≤ 1099511627776 ∧ 0 ≤ h.a ∧ h.a ≤ 1099511627776 ∧ 0 ≤ h.d ∧ h.d ≤ 1099511627776 ∧ 1 ≤ h.s ∧ h.s ≤ 3) := by
  simp only [rightH, Bool.and_eq_true, repB_iffH, cntB_iffH, isB_iff, decide_eq_true_eq]; omega

/-! ### Which lists may be. -/
def okAt (l : List Ho) (i : Nat) : Bool := rightH (l.getD i z5) && (i == 0 || ahB (l.getD (i - 1) z5) (l.getD i z5))
def upTo (l : List Ho) : Nat → Bool
  | 0 => true
  | m + 1 => upTo l m && okAt l m
def rightsL (l : List Ho) : Bool := decide (l.length ≤ 16) && upTo l l.length
theorem upTo_iff (l : List Ho) (m : Nat) : upTo l m = true ↔ ∀ i, i < m → okAt l i = true := by
  induction m with
  | zero => simp [upTo]
  | succ m ih =>
    rw [upTo, Bool.and_eq_true, ih]
    constructor
    · intro ⟨h1, h2⟩ i hi
      rcases Nat.lt_or_ge i m with h | h
      · exact h1 i h
      · rwa [show i = m by omega]
    · exact fun h => ⟨fun i hi => h i (by omega), h m (by omega)⟩
theorem rights_long {l : List Ho} (h : ¬ l.length ≤ 16) : rightsL l = false := by simp [rightsL, h]
theorem rights_fail {l : List Ho} {m : Nat} (hm : m < l.length) (h : okAt l m = false) : rightsL l = false := by
  cases hr : rightsL l with
  | false => rfl
  | true =>
    simp only [rightsL, Bool.and_eq_true, upTo_iff] at hr
    rw [hr.2 m hm] at h; cases h
theorem rights_all {l : List Ho} (h : l.length ≤ 16) (hu : upTo l l.length = true) : rightsL l = true := by simp [rightsL, h, hu]
theorem rights_doc {l : List Ho} (hu : upTo l l.length = true) : decide (l.length ≤ 16) = rightsL l := by simp [rightsL, hu]
theorem getD_get {l : List Ho} {i : Nat} (h : i < l.length) : l.getD i z5 = l[i] := by simp [List.getD, h]
theorem getD_mem {l : List Ho} {i : Nat} (h : i < l.length) : l.getD i z5 ∈ l := by rw [getD_get h]; exact List.getElem_mem h
theorem mem_getD {l : List Ho} {x : Ho} (h : x ∈ l) : ∃ i, i < l.length ∧ l.getD i z5 = x := by
  obtain ⟨i, hi, e⟩ := List.getElem_of_mem h
  exact ⟨i, hi, by rw [getD_get hi, e]⟩
theorem rights_iff {l : List Ho} : rightsL l = true ↔ l.length ≤ 16 ∧ (∀ h ∈ l, rightH h = true) ∧ l.Pairwise AH := by
  simp only [rightsL, Bool.and_eq_true, decide_eq_true_eq, upTo_iff]
  refine ⟨fun ⟨h1, h2⟩ => ⟨h1, fun x hx => ?_, ?_⟩, fun ⟨h1, h2, h3⟩ => ⟨h1, fun i hi => ?_⟩⟩
  · obtain ⟨i, hi, rfl⟩ := mem_getD hx
    have := h2 i hi
    simp only [okAt, Bool.and_eq_true] at this
    exact this.1
  · have hs : ∀ (j i : Nat), i < j → j < l.length → AH (l.getD i z5) (l.getD j z5) := by
      intro j
      induction j with
      | zero => intro i h; omega
      | succ j ih =>
        intro i hi hj
        have := h2 (j + 1) hj
        simp only [okAt, Bool.and_eq_true, Nat.add_sub_cancel, Bool.or_eq_true, beq_iff_eq, ahB_iff] at this
        have h3 : AH (l.getD j z5) (l.getD (j + 1) z5) := by
          rcases this.2 with h | h
          · omega
          · exact h
        rcases Nat.lt_or_ge i j with h | h
        · exact (ih i h (by omega)).trans h3
        · rwa [show i = j by omega]
    rw [List.pairwise_iff_getElem]
    intro i j hi hj hij
    have := hs j i hij hj
    rwa [getD_get hi, getD_get hj] at this
  · simp only [okAt, Bool.and_eq_true, Bool.or_eq_true, beq_iff_eq, ahB_iff]
    refine ⟨h2 _ (getD_mem hi), ?_⟩
    rcases Nat.eq_zero_or_pos i with h | h
    · exact .inl h
    · refine .inr ?_
      rw [getD_get hi, getD_get (show i - 1 < l.length by omega)]
      exact List.pairwise_iff_getElem.1 h3 _ _ _ _ (by omega)
theorem rights_nil : rightsL [] = true := rfl

/-! ### Strictly rising lists. -/
theorem uniq : ∀ {l m : List Ho}, l.Pairwise AH → m.Pairwise AH → (∀ h, h ∈ l ↔ h ∈ m) → l = m
  | [], [], _, _, _ => rfl
  | [], y :: m, _, _, h => by have := (h y).2 (by simp); simp at this
  | x :: l, [], _, _, h => by have := (h x).1 (by simp); simp at this
  | x :: l, y :: m, hl, hm, h => by
    rw [List.pairwise_cons] at hl hm
    have hxy : x = y := by
      have h1 := (h x).1 (by simp)
      have h2 := (h y).2 (by simp)
      rcases List.mem_cons.1 h1 with e | h1
      · exact e
      · rcases List.mem_cons.1 h2 with e | h2
        · exact e.symm
        · exact absurd ((hl.1 y h2).trans (hm.1 x h1)) (AH.irrefl x)
    subst hxy
    congr 1
    refine uniq hl.2 hm.2 fun z => ⟨fun hz => ?_, fun hz => ?_⟩
    · rcases List.mem_cons.1 ((h z).1 (by simp [hz])) with e | h1
      · subst e; exact absurd (hl.1 z hz) (AH.irrefl z)
      · exact h1
    · rcases List.mem_cons.1 ((h z).2 (by simp [hz])) with e | h1
      · subst e; exact absurd (hm.1 z hz) (AH.irrefl z)
      · exact h1
/-- No two of one name. -/
def Apart (l : List Ho) : Prop := l.Pairwise fun a b => ¬ SN a b
theorem Apart.of_rises {l : List Ho} (h : l.Pairwise AH) : Apart l := h.imp fun h => h.apart
theorem Apart.one {l : List Ho} (h : Apart l) {x y : Ho} (hx : x ∈ l) (hy : y ∈ l) (hs : SN x y) : x = y := by
  obtain ⟨i, hi, rfl⟩ := List.getElem_of_mem hx
  obtain ⟨j, hj, rfl⟩ := List.getElem_of_mem hy
  rcases Nat.lt_trichotomy i j with h1 | h1 | h1
  · exact absurd hs (List.pairwise_iff_getElem.1 h i j hi hj h1)
  · subst h1; rfl
  · exact absurd hs.symm (List.pairwise_iff_getElem.1 h j i hj hi h1)
/-- Where h goes. -/
def cut (l : List Ho) (h : Ho) : Nat := l.findIdx fun x => !ahB x h
theorem cut_le (l : List Ho) (h : Ho) : cut l h ≤ l.length := List.findIdx_le_length
theorem cut_eq {l : List Ho} {h : Ho} {m : Nat} (hm : m ≤ l.length) (h1 : ∀ j, j < m → ahB (l.getD j z5) h = true) (h2 : m = l.length ∨ ahB (l.getD m z5) h = false) : cut l h = m := by
  rcases Nat.lt_or_ge m l.length with hlt | hge
  · rw [cut, List.findIdx_eq hlt]
    refine ⟨?_, fun j hj => ?_⟩
    · rcases h2 with h2 | h2
      · omega
      · rw [getD_get hlt] at h2; simp [h2]
    · have := h1 j hj
      rw [getD_get (by omega)] at this
      simp [this]
  · have hm' : m = l.length := by omega
    subst hm'
    rw [cut, List.findIdx_eq_length]
    intro x hx
    obtain ⟨i, hi, rfl⟩ := mem_getD hx
    simp only [h1 i hi, Bool.not_true]
/-- With h in its place. -/
def insH (l : List Ho) (h : Ho) : List Ho := l.take (cut l h) ++ h :: l.drop (cut l h)
theorem insH_perm (l : List Ho) (h : Ho) : (insH l h).Perm (h :: l) := by
  have := @List.perm_middle _ h (l.take (cut l h)) (l.drop (cut l h))
  rwa [List.take_append_drop] at this
theorem insH_length (l : List Ho) (h : Ho) : (insH l h).length = l.length + 1 := by rw [(insH_perm l h).length_eq]; rfl
theorem mem_insH {l : List Ho} {h x : Ho} : x ∈ insH l h ↔ x = h ∨ x ∈ l := by rw [(insH_perm l h).mem_iff, List.mem_cons]
theorem insH_rises {l : List Ho} {h : Ho} (hl : l.Pairwise AH) (hn : ∀ x ∈ l, ¬ SN x h) : (insH l h).Pairwise AH := by
  unfold insH
  have hc := cut_le l h
  rw [List.pairwise_append]
  have hpre : ∀ x ∈ l.take (cut l h), AH x h := by
    intro x hx
    obtain ⟨i, hi, rfl⟩ := List.getElem_of_mem hx
    rw [List.getElem_take]
    have hi' : i < cut l h := by simp at hi; omega
    have := List.not_of_lt_findIdx (p := fun x => !ahB x h) (xs := l) hi'
    simpa [ahB_iff] using this
  have hpost : ∀ x ∈ l.drop (cut l h), AH h x := by
    intro x hx
    obtain ⟨i, hi, rfl⟩ := List.getElem_of_mem hx
    rw [List.getElem_drop]
    simp only [List.length_drop] at hi
    have hlt : cut l h < l.length := by omega
    have h0 : ¬ AH l[cut l h] h := by
      have := List.findIdx_getElem (p := fun x => !ahB x h) (xs := l) (w := hlt)
      simp only [Bool.not_eq_true', ahB_not] at this
      exact this
    have h1 : AH h l[cut l h] := by
      rcases AH.total h l[cut l h] with h2 | h2 | h2
      · exact h2
      · exact absurd h2 h0
      · exact absurd h2.symm (hn _ (List.getElem_mem hlt))
    rcases Nat.eq_zero_or_pos i with h2 | h2
    · subst h2; exact h1
    · exact h1.trans (List.pairwise_iff_getElem.1 hl _ _ hlt (by omega) (by omega))
  refine ⟨hl.sublist (List.take_sublist _ _), List.pairwise_cons.2 ⟨hpost, hl.sublist (List.drop_sublist _ _)⟩, fun x hx y hy => ?_⟩
  rcases List.mem_cons.1 hy with rfl | hy
  · exact hpre x hx
  · exact (hpre x hx).trans (hpost y hy)
/-- In order. -/
def isort (l : List Ho) : List Ho := l.foldr (fun h acc => insH acc h) []
theorem isort_perm : ∀ l : List Ho, (isort l).Perm l
  | [] => .refl _
  | x :: l => (insH_perm (isort l) x).trans ((isort_perm l).cons x)
theorem isort_rises : ∀ {l : List Ho}, Apart l → (isort l).Pairwise AH
  | [], _ => .nil
  | x :: l, h => by
    unfold Apart at h
    rw [List.pairwise_cons] at h
    exact insH_rises (isort_rises h.2) fun y hy hs => h.1 y ((isort_perm l).mem_iff.1 hy) hs.symm
/-- A list in order that has the same members is it. -/
theorem isort_eq {l m : List Ho} (hl : Apart l) (hm : m.Pairwise AH) (h : ∀ x, x ∈ l ↔ x ∈ m) : isort l = m :=
  uniq (isort_rises hl) hm fun x => by rw [(isort_perm l).mem_iff, h]
/-- What is sorted, and of no two of one name, is it in order. -/
theorem sorted_isort {l m : List Ho} (hl : Apart l) (hp : m.Perm l) (hs : m.Pairwise fun a b => ahB b a = false) : m = isort l := by
  refine uniq ?_ (isort_rises hl) fun x => by rw [(isort_perm l).mem_iff, hp.mem_iff]
  have hm : Apart m := hp.symm.pairwise hl (fun {a b} h hs => h hs.symm)
  refine (hm.and hs).imp fun {a b} h => ?_
  rcases AH.total a b with h1 | h1 | h1
  · exact h1
  · exact absurd h1 (ahB_not.1 h.2)
  · exact absurd h1 h.1
end Go.Proofs.YtbaccghnneidgaaGreat
