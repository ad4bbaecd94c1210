/- Plain arithmetic of layer 6 (hold): which holds may be, and what finding, adding up, reserving, ending, letting go and joining tell. No program is spoken of here. Holds in memory: what the operations on them do; when two are the same; slices of holds that come in, and rows of holds that a call makes. -/
import Derived.Test.YtofngihdnjgmeaaLBase0
import Derived.WalkKit
import Derived.ProofKit
import Derived.OpenShut
import Derived.ChangeOld
import Derived.Deep.Slices
import Derived.ChangeSlices
import Derived.Laws.AppendOwn
import Derived.Laws.OwnMore
namespace Go.Proofs.Ytofngihdnjgmeaa

structure Ho where
  r : Int
  n : Int
  a : Int
  d : Int
  s : Int
/-- Its five numbers, in their order. -/
def Ho.l (h : Ho) : List Int := [h.r, h.n, h.a, h.d, h.s]
theorem Ho.len (h : Ho) : h.l.length = 5 := rfl
theorem Ho.same (a : Ho) : (a.l == a.l) = true := by simp
/-- The zero hold. -/
def z5 : Ho := ⟨0, 0, 0, 0, 0⟩
instance : Inhabited Ho := ⟨z5⟩

def cmpIH (x y : Int) : Int := if x < y then -1 else if y < x then 1 else 0
theorem cmpI_casesH (x y : Int) : (x < y ∧ cmpIH x y = -1) ∨ (y < x ∧ cmpIH x y = 1) ∨ (x = y ∧ cmpIH x y = 0) := by
  unfold cmpIH
  split
  · omega
  · split <;> omega
/-- The first that is not 0. -/
def orI (x y : Int) : Int := if x = 0 then y else x
def nameC (a b : Ho) : Int := orI (cmpIH a.r b.r) (cmpIH a.n b.n)
/-- a goes ahead of b. -/
def AH (a b : Ho) : Prop := a.r < b.r ∨ (a.r = b.r ∧ a.n < b.n)
def SN (a b : Ho) : Prop := a.r = b.r ∧ a.n = b.n
def ahB (a b : Ho) : Bool := decide (a.r < b.r) || (a.r == b.r && decide (a.n < b.n))
theorem ahB_iff {a b : Ho} : ahB a b = true ↔ AH a b := by simp [ahB, AH]
theorem ahB_not {a b : Ho} : ahB a b = false ↔ ¬ AH a b := by rw [← Bool.not_eq_true, ahB_iff]
theorem nameC_cases (a b : Ho) : (AH a b ∧ nameC a b = -1) ∨ (AH b a ∧ nameC a b = 1) ∨ (SN a b ∧ nameC a b = 0) := by
  unfold nameC AH SN orI
  have h1 := cmpI_casesH a.r b.r
  have h2 := cmpI_casesH a.n b.n
  split <;> omega
theorem nameC_neg (a b : Ho) : decide (nameC a b < 0) = ahB a b := by
  rcases nameC_cases a b with ⟨h, e⟩ | ⟨h, e⟩ | ⟨h, e⟩
  · rw [e, ahB_iff.2 h]; rfl
  · rw [e, ahB_not.2 (by unfold AH at *; omega)]; rfl
  · rw [e, ahB_not.2 (by unfold AH SN at *; omega)]; rfl
theorem nameC_geq (a b : Ho) : decide (0 ≤ nameC a b) = !ahB a b := by
  rw [← nameC_neg, ← decide_not]
  congr 1
  rw [eq_iff_iff]; omega
theorem AH.irrefl (a : Ho) : ¬ AH a a := by unfold AH; omega
theorem AH.trans {a b c : Ho} (h1 : AH a b) (h2 : AH b c) : AH a c := by unfold AH at *; omega
theorem AH.total (a b : Ho) : AH a b ∨ AH b a ∨ SN a b := by unfold AH SN; omega
theorem AH.apart {a b : Ho} (h : AH a b) : ¬ SN a b := by unfold AH SN at *; omega
theorem SN.symm {a b : Ho} (h : SN a b) : SN b a := ⟨h.1.symm, h.2.symm⟩
theorem SN.trans {a b c : Ho} (h : SN a b) (k : SN b c) : SN a c := ⟨h.1.trans k.1, h.2.trans k.2⟩

def repBH (k : Int) : Bool := decide (0 ≤ k) && decide (k < 16)
theorem repB_iffH {k : Int} : repBH k = true ↔ (0 ≤ k ∧ k < 16) := by simp [repBH]
theorem repB_notH {k : Int} : repBH k = false ↔ (k < 0 ∨ 16 ≤ k) := by rw [← Bool.not_eq_true, repB_iffH]; omega
def cntBH (n : Int) : Bool := decide (0 ≤ n) && isB n
theorem cntB_iffH {n : Int} : cntBH n = true ↔ (0 ≤ n ∧ n ≤ 1099511627776) := by simp [cntBH, isB]; omega
def rightH (h : Ho) : Bool := repBH h.r && (decide (1 ≤ h.n) && (isB h.n && (cntBH h.a && (cntBH h.d && (decide (1 ≤ h.s) && decide (h.s ≤ 3))))))
theorem rightH_iff {h : Ho} : rightH h = true ↔ (0 ≤ h.r ∧ h.r < 16 ∧ 1 ≤ h.n ∧ h.n ≤ 1099511627776 ∧ 0 ≤ h.a ∧ h.a ≤ 1099511627776 ∧ 0 ≤ h.d ∧ h.d ≤ 1099511627776 ∧ 1 ≤ h.s ∧ h.s ≤ 3) := by
  simp only [rightH, Bool.and_eq_true, repB_iffH, cntB_iffH, isB_iff, decide_eq_true_eq]; omega

/-! ### Which lists may be. -/
def okAt (l : List Ho) (i : Nat) : Bool := rightH (l.getD i z5) && (i == 0 || ahB (l.getD (i - 1) z5) (l.getD i z5))
def upTo (l : List Ho) : Nat → Bool
  | 0 => true
  | m + 1 => upTo l m && okAt l m
def rightsL (l : List Ho) : Bool := decide (l.length ≤ 16) && upTo l l.length
theorem upTo_iff (l : List Ho) (m : Nat) : upTo l m = true ↔ ∀ i, i < m → okAt l i = true := by
  induction m with
  | zero => simp [upTo]
  | succ m ih =>
    rw [upTo, Bool.and_eq_true, ih]
    constructor
    · intro ⟨h1, h2⟩ i hi
      rcases Nat.lt_or_ge i m with h | h
      · exact h1 i h
      · rwa [show i = m by omega]
    · exact fun h => ⟨fun i hi => h i (by omega), h m (by omega)⟩
theorem rights_long {l : List Ho} (h : ¬ l.length ≤ 16) : rightsL l = false := by simp [rightsL, h]
theorem rights_fail {l : List Ho} {m : Nat} (hm : m < l.length) (h : okAt l m = false) : rightsL l = false := by
  cases hr : rightsL l with
  | false => rfl
  | true =>
    simp only [rightsL, Bool.and_eq_true, upTo_iff] at hr
    rw [hr.2 m hm] at h; cases h
theorem rights_all {l : List Ho} (h : l.length ≤ 16) (hu : upTo l l.length = true) : rightsL l = true := by simp [rightsL, h, hu]
theorem rights_doc {l : List Ho} (hu : upTo l l.length = true) : decide (l.length ≤ 16) = rightsL l := by simp [rightsL, hu]
theorem getD_get {l : List Ho} {i : Nat} (h : i < l.length) : l.getD i z5 = l[i] := by simp [List.getD, h]
theorem getD_mem {l : List Ho} {i : Nat} (h : i < l.length) : l.getD i z5 ∈ l := by rw [getD_get h]; exact List.getElem_mem h
theorem mem_getD {l : List Ho} {x : Ho} (h : x ∈ l) : ∃ i, i < l.length ∧ l.getD i z5 = x := by
  obtain ⟨i, hi, e⟩ := List.getElem_of_mem h
  exact ⟨i, hi, by rw [getD_get hi, e]⟩
theorem rights_iff {l : List Ho} : rightsL l = true ↔ l.length ≤ 16 ∧ (∀ h ∈ l, rightH h = true) ∧ l.Pairwise AH := by
  simp only [rightsL, Bool.and_eq_true, decide_eq_true_eq, upTo_iff]
  refine ⟨fun ⟨h1, h2⟩ => ⟨h1, fun x hx => ?_, ?_⟩, fun ⟨h1, h2, h3⟩ => ⟨h1, fun i hi => ?_⟩⟩
  · obtain ⟨i, hi, rfl⟩ := mem_getD hx
    have := h2 i hi
    simp only [okAt, Bool.and_eq_true] at this
    exact this.1
  · have hs : ∀ (j i : Nat), i < j → j < l.length → AH (l.getD i z5) (l.getD j z5) := by
      intro j
      induction j with
      | zero => intro i h; omega
      | succ j ih =>
        intro i hi hj
        have := h2 (j + 1) hj
        simp only [okAt, Bool.and_eq_true, Nat.add_sub_cancel, Bool.or_eq_true, beq_iff_eq, ahB_iff] at this
        have h3 : AH (l.getD j z5) (l.getD (j + 1) z5) := by
          rcases this.2 with h | h
          · omega
          · exact h
        rcases Nat.lt_or_ge i j with h | h
        · exact (ih i h (by omega)).trans h3
        · rwa [show i = j by omega]
    rw [List.pairwise_iff_getElem]
    intro i j hi hj hij
    have := hs j i hij hj
    rwa [getD_get hi, getD_get hj] at this
  · simp only [okAt, Bool.and_eq_true, Bool.or_eq_true, beq_iff_eq, ahB_iff]
    refine ⟨h2 _ (getD_mem hi), ?_⟩
    rcases Nat.eq_zero_or_pos i with h | h
    · exact .inl h
    · refine .inr ?_
      rw [getD_get hi, getD_get (show i - 1 < l.length by omega)]
      exact List.pairwise_iff_getElem.1 h3 _ _ _ _ (by omega)
theorem rights_nil : rightsL [] = true := rfl

/-! ### Strictly rising lists. -/
theorem uniq : ∀ {l m : List Ho}, l.Pairwise AH → m.Pairwise AH → (∀ h, h ∈ l ↔ h ∈ m) → l = m
  | [], [], _, _, _ => rfl
  | [], y :: m, _, _, h => by have := (h y).2 (by simp); simp at this
  | x :: l, [], _, _, h => by have := (h x).1 (by simp); simp at this
  | x :: l, y :: m, hl, hm, h => by
    rw [List.pairwise_cons] at hl hm
    have hxy : x = y := by
      have h1 := (h x).1 (by simp)
      have h2 := (h y).2 (by simp)
      rcases List.mem_cons.1 h1 with e | h1
      · exact e
      · rcases List.mem_cons.1 h2 with e | h2
        · exact e.symm
        · exact absurd ((hl.1 y h2).trans (hm.1 x h1)) (AH.irrefl x)
    subst hxy
    congr 1
    refine uniq hl.2 hm.2 fun z => ⟨fun hz => ?_, fun hz => ?_⟩
    · rcases List.mem_cons.1 ((h z).1 (by simp [hz])) with e | h1
      · subst e; exact absurd (hl.1 z hz) (AH.irrefl z)
      · exact h1
    · rcases List.mem_cons.1 ((h z).2 (by simp [hz])) with e | h1
      · subst e; exact absurd (hm.1 z hz) (AH.irrefl z)
      · exact h1
/-- No two of one name. -/
def Apart (l : List Ho) : Prop := l.Pairwise fun a b => ¬ SN a b
theorem Apart.of_rises {l : List Ho} (h : l.Pairwise AH) : Apart l := h.imp fun h => h.apart
theorem Apart.one {l : List Ho} (h : Apart l) {x y : Ho} (hx : x ∈ l) (hy : y ∈ l) (hs : SN x y) : x = y := by
  obtain ⟨i, hi, rfl⟩ := List.getElem_of_mem hx
  obtain ⟨j, hj, rfl⟩ := List.getElem_of_mem hy
  rcases Nat.lt_trichotomy i j with h1 | h1 | h1
  · exact absurd hs (List.pairwise_iff_getElem.1 h i j hi hj h1)
  · subst h1; rfl
  · exact absurd hs.symm (List.pairwise_iff_getElem.1 h j i hj hi h1)
/-- Where h goes. -/
def cut (l : List Ho) (h : Ho) : Nat := l.findIdx fun x => !ahB x h
theorem cut_le (l : List Ho) (h : Ho) : cut l h ≤ l.length := List.findIdx_le_length
/-- With h in its place. -/
def insH (l : List Ho) (h : Ho) : List Ho := l.take (cut l h) ++ h :: l.drop (cut l h)
theorem insH_perm (l : List Ho) (h : Ho) : (insH l h).Perm (h :: l) := by
  have := @List.perm_middle _ h (l.take (cut l h)) (l.drop (cut l h))
  rwa [List.take_append_drop] at this
theorem insH_length (l : List Ho) (h : Ho) : (insH l h).length = l.length + 1 := by rw [(insH_perm l h).length_eq]; rfl
theorem mem_insH {l : List Ho} {h x : Ho} : x ∈ insH l h ↔ x = h ∨ x ∈ l := by rw [(insH_perm l h).mem_iff, List.mem_cons]
theorem insH_rises {l : List Ho} {h : Ho} (hl : l.Pairwise AH) (hn : ∀ x ∈ l, ¬ SN x h) : (insH l h).Pairwise AH := by
  unfold insH
  have hc := cut_le l h
  rw [List.pairwise_append]
  have hpre : ∀ x ∈ l.take (cut l h), AH x h := by
    intro x hx
    obtain ⟨i, hi, rfl⟩ := List.getElem_of_mem hx
    rw [List.getElem_take]
    have hi' : i < cut l h := by simp at hi; omega
    have := List.not_of_lt_findIdx (p := fun x => !ahB x h) (xs := l) hi'
    simpa [ahB_iff] using this
  have hpost : ∀ x ∈ l.drop (cut l h), AH h x := by
    intro x hx
    obtain ⟨i, hi, rfl⟩ := List.getElem_of_mem hx
    rw [List.getElem_drop]
    simp only [List.length_drop] at hi
    have hlt : cut l h < l.length := by omega
    have h0 : ¬ AH l[cut l h] h := by
      have := List.findIdx_getElem (p := fun x => !ahB x h) (xs := l) (w := hlt)
      simp only [Bool.not_eq_true', ahB_not] at this
      exact this
    have h1 : AH h l[cut l h] := by
      rcases AH.total h l[cut l h] with h2 | h2 | h2
      · exact h2
      · exact absurd h2 h0
      · exact absurd h2.symm (hn _ (List.getElem_mem hlt))
    rcases Nat.eq_zero_or_pos i with h2 | h2
    · subst h2; exact h1
    · exact h1.trans (List.pairwise_iff_getElem.1 hl _ _ hlt (by omega) (by omega))
  refine ⟨hl.sublist (List.take_sublist _ _), List.pairwise_cons.2 ⟨hpost, hl.sublist (List.drop_sublist _ _)⟩, fun x hx y hy => ?_⟩
  rcases List.mem_cons.1 hy with rfl | hy
  · exact hpre x hx
  · exact (hpre x hx).trans (hpost y hy)
/-- In order. -/
def isort (l : List Ho) : List Ho := l.foldr (fun h acc => insH acc h) []
theorem isort_perm : ∀ l : List Ho, (isort l).Perm l
  | [] => .refl _
  | x :: l => (insH_perm (isort l) x).trans ((isort_perm l).cons x)
theorem isort_rises : ∀ {l : List Ho}, Apart l → (isort l).Pairwise AH
  | [], _ => .nil
  | x :: l, h => by
    unfold Apart at h
    rw [List.pairwise_cons] at h
    exact insH_rises (isort_rises h.2) fun y hy hs => h.1 y ((isort_perm l).mem_iff.1 hy) hs.symm
/-- A list in order that has the same members is it. -/
theorem isort_eq {l m : List Ho} (hl : Apart l) (hm : m.Pairwise AH) (h : ∀ x, x ∈ l ↔ x ∈ m) : isort l = m :=
  uniq (isort_rises hl) hm fun x => by rw [(isort_perm l).mem_iff, h]
/-- What is sorted, and of no two of one name, is it in order. -/
theorem sorted_isort {l m : List Ho} (hl : Apart l) (hp : m.Perm l) (hs : m.Pairwise fun a b => ahB b a = false) : m = isort l := by
  refine uniq ?_ (isort_rises hl) fun x => by rw [(isort_perm l).mem_iff, hp.mem_iff]
  have hm : Apart m := hp.symm.pairwise hl (fun {a b} h hs => h hs.symm)
  refine (hm.and hs).imp fun {a b} h => ?_
  rcases AH.total a b with h1 | h1 | h1
  · exact h1
  · exact absurd h1 (ahB_not.1 h.2)
  · exact absurd h1 h.1
end Go.Proofs.Ytofngihdnjgmeaa

namespace Go.Proofs.Ytofngihdnjgmeaa
set_option maxRecDepth 100000
open Go.ChangeShapes Go.WideShapes Go.ChangeAt Go.RowKit

theorem h_info : (Try.prog.info? 59).map (·.size) = some 5 := by kernel_rfl
theorem h_zero : (Try.prog.info? 59).bind (·.zero) = some (.agg (vals (zer 5)).toArray) := by kernel_rfl
theorem h_build5 (p q r s t : Int) (W : World) : (Instr.build 59 #[(0, .int .i64 p), (1, .int .i64 q), (2, .int .i64 r), (3, .int .i64 s), (4, .int .i64 t)]).run Try.prog W = .ok (.agg (vals (Ho.l ⟨p, q, r, s, t⟩)).toArray) W := by kernel_rfl
theorem build_five {ops : Array Oper} {rest : List Oper} {o : Oper} {a : Act} {u : World} {Q : Exit → Act → World → Prop} (hgd : o.guard = none) (x0 x1 x2 x3 x4 : Operand) (ho : o.op = .build 59 #[(0, x0), (1, x1), (2, x2), (3, x3), (4, x4)]) {p q r s t : Int}
    (h0 : a.eval x0 = .int .i64 p) (h1 : a.eval x1 = .int .i64 q) (h2 : a.eval x2 = .int .i64 r) (h3 : a.eval x3 = .int .i64 s) (h4 : a.eval x4 = .int .i64 t)
    (h : wpList Try.prog ops Q rest (a.put o.dst (.agg (vals (Ho.l ⟨p, q, r, s, t⟩)).toArray)) u) : wpList Try.prog ops Q (o :: rest) a u :=
  wpList_plain hgd fun K hK => by
    unfold Oper.wp execOp
    simp only [ho, List.map_toArray, List.map_cons, List.map_nil, h0, h1, h2, h3, h4, Sem.run_bind, Sem.run_pure, Result.andThen_ok, h_build5]
    exact hK _ _ h
theorem Ho.g0 (a : Ho) : a.l.getD 0 0 = a.r := rfl
theorem Ho.p0 (a : Ho) : 0 < a.l.length := by simp [Ho.len]
theorem Ho.g1 (a : Ho) : a.l.getD 1 0 = a.n := rfl
theorem Ho.p1 (a : Ho) : 1 < a.l.length := by simp [Ho.len]
theorem Ho.g2 (a : Ho) : a.l.getD 2 0 = a.a := rfl
theorem Ho.p2 (a : Ho) : 2 < a.l.length := by simp [Ho.len]
theorem Ho.g3 (a : Ho) : a.l.getD 3 0 = a.d := rfl
theorem Ho.p3 (a : Ho) : 3 < a.l.length := by simp [Ho.len]
theorem Ho.g4 (a : Ho) : a.l.getD 4 0 = a.s := rfl
theorem Ho.p4 (a : Ho) : 4 < a.l.length := by simp [Ho.len]

/-! ### Equality. -/
theorem fields5n {fs : List Field} {x1 x2 x3 x4 x5 : TypeId × Nat × String} (h : fs.map (fun f => (f.type, f.offset, f.name)) = [x1, x2, x3, x4, x5]) : ∃ f1 f2 f3 f4 f5, fs = [f1, f2, f3, f4, f5] ∧ (f1.type, f1.offset, f1.name) = x1 ∧ (f2.type, f2.offset, f2.name) = x2 ∧ (f3.type, f3.offset, f3.name) = x3 ∧ (f4.type, f4.offset, f4.name) = x4 ∧ (f5.type, f5.offset, f5.name) = x5 := by
  match fs, h with
  | [f1, f2, f3, f4, f5], h => exact ⟨f1, f2, f3, f4, f5, rfl, by simpa using h⟩
theorem h_fields : (Try.prog.fieldsOf 59).toList.map (fun f => (f.type, f.offset, f.name)) = [(3, 0, "Replica"), (3, 1, "Number"), (3, 2, "Amount"), (3, 3, "Due"), (3, 4, "State")] := by kernel_rfl
theorem h_under : Try.prog.underlying 59 = some (.struct (Try.prog.fieldsOf 59)) := by kernel_rfl
theorem same_ho (a b : Ho) : ((a.r == b.r) && ((a.n == b.n) && ((a.a == b.a) && ((a.d == b.d) && ((a.s == b.s) && true))))) = (a.l == b.l) := by
  rw [Bool.eq_iff_iff]
  simp only [Bool.and_eq_true, beq_iff_eq, and_true, Ho.l, List.cons.injEq]
theorem eql_ho_any (d : Nat) (a b : Ho) (w : World) : (Op.equalIn (d + 2) 59 (.agg (vals a.l).toArray) (.agg (vals b.l).toArray)).run Try.prog w = .ok (a.l == b.l) w := by
  have hst := run_equalIn_struct (P := Try.prog) w (d + 1) 59 (vals a.l).toArray (vals b.l).toArray h_under (by kernel_rfl)
  have hi : ∀ x y : Int, (Op.equalIn (d + 1) 3 (.int .i64 x) (.int .i64 y)).run Try.prog w = .ok (x == y) w := fun x y => run_equalIn_int w d 3 .i64 .i64 x y Try.underlying3
  obtain ⟨f1, f2, f3, f4, f5, hf, e1, e2, e3, e4, e5⟩ := fields5n h_fields
  injection e1 with e1a e1; injection e1 with e1b e1c
  injection e2 with e2a e2; injection e2 with e2b e2c
  injection e3 with e3a e3; injection e3 with e3b e3c
  injection e4 with e4a e4; injection e4 with e4b e4c
  injection e5 with e5a e5; injection e5 with e5b e5c
  have p0 : ∀ c : Ho, (part 3 (vals c.l).toArray 0).run Try.prog w = .ok (.int .i64 c.r) w := fun c => part_int c.l (by simp [Ho.len]) w
  have p1 : ∀ c : Ho, (part 3 (vals c.l).toArray 1).run Try.prog w = .ok (.int .i64 c.n) w := fun c => part_int c.l (by simp [Ho.len]) w
  have p2 : ∀ c : Ho, (part 3 (vals c.l).toArray 2).run Try.prog w = .ok (.int .i64 c.a) w := fun c => part_int c.l (by simp [Ho.len]) w
  have p3 : ∀ c : Ho, (part 3 (vals c.l).toArray 3).run Try.prog w = .ok (.int .i64 c.d) w := fun c => part_int c.l (by simp [Ho.len]) w
  have p4 : ∀ c : Ho, (part 3 (vals c.l).toArray 4).run Try.prog w = .ok (.int .i64 c.s) w := fun c => part_int c.l (by simp [Ho.len]) w
  rw [hst, hf, ← same_ho a b]
  clear hst hf
  refine eqField (by rw [e1c]; decide) (by rw [e1a, e1b]; exact p0 a) (by rw [e1a, e1b]; exact p0 b) (by rw [e1a]; exact hi _ _) ?_
  refine eqField (by rw [e2c]; decide) (by rw [e2a, e2b]; exact p1 a) (by rw [e2a, e2b]; exact p1 b) (by rw [e2a]; exact hi _ _) ?_
  refine eqField (by rw [e3c]; decide) (by rw [e3a, e3b]; exact p2 a) (by rw [e3a, e3b]; exact p2 b) (by rw [e3a]; exact hi _ _) ?_
  refine eqField (by rw [e4c]; decide) (by rw [e4a, e4b]; exact p3 a) (by rw [e4a, e4b]; exact p3 b) (by rw [e4a]; exact hi _ _) ?_
  refine eqField (by rw [e5c]; decide) (by rw [e5a, e5b]; exact p4 a) (by rw [e5a, e5b]; exact p4 b) (by rw [e5a]; exact hi _ _) ?_
  simp [Op.eqFields]
theorem eql_ho (a b : Ho) (w : World) : (Op.equalIn 10000 59 (.agg (vals a.l).toArray) (.agg (vals b.l).toArray)).run Try.prog w = .ok (a.l == b.l) w := eql_ho_any 9998 a b w
theorem h_guard : Try.prog.eqGuardType Try.prog.depth 59 = false := by kernel_rfl

/-! ### Slices of holds. -/
/-- The numbers of holds, one behind the other. -/
def flat (hs : List Ho) : List Int := hs.flatMap Ho.l
theorem flat_length (hs : List Ho) : (flat hs).length = hs.length * 5 := by
  induction hs with
  | nil => rfl
  | cons h t ih => simp only [flat, List.flatMap_cons, List.length_append, List.length_cons, Ho.len] at *; omega
theorem flat_append (xs ys : List Ho) : flat (xs ++ ys) = flat xs ++ flat ys := by simp [flat]
theorem flat_seg : ∀ (hs : List Ho) (k : Nat), k < hs.length → seg (flat hs) (k * 5) 5 = (hs.getD k z5).l
  | h :: t, 0, _ => rfl
  | h :: t, k + 1, hk => by
    have ih := flat_seg t k (by simpa using hk)
    have e : flat (h :: t) = h.l ++ flat t := rfl
    rw [e, seg, show (k + 1) * 5 = h.l.length + k * 5 by rw [Ho.len]; omega, List.drop_append]
    rw [List.drop_of_length_le (by omega), List.nil_append, Nat.add_sub_cancel_left]
    simpa [seg] using ih
theorem flat_get {hs : List Ho} {k j : Nat} (hk : k < hs.length) (hj : j < 5) : (flat hs).getD (k * 5 + j) 0 = (hs.getD k z5).l.getD j 0 := by
  rw [← flat_seg hs k hk, seg_get hj]
/-- A slice of holds, as it reads. -/
def Row (w : World) (A : Option Addr) (n : Nat) (hs : List Ho) : Prop :=
  hs.length = n ∧ n ≤ 1000 ∧ (n = 0 ∨ ∃ b off : Nat, A = some ⟨b, off, none⟩ ∧ ∀ k, k < n → w.rangeAt b (off + k * 5) (vals (hs.getD k z5).l))
theorem range5 {w : World} {b o : Nat} {h : Ho} (hr : w.rangeAt b o (vals h.l)) : w.cell? ⟨b, o, none⟩ = some (.int .i64 h.r) ∧ w.cell? ⟨b, o + 1, none⟩ = some (.int .i64 h.n) ∧ w.cell? ⟨b, o + 2, none⟩ = some (.int .i64 h.a) ∧ w.cell? ⟨b, o + 3, none⟩ = some (.int .i64 h.d) ∧ w.cell? ⟨b, o + 4, none⟩ = some (.int .i64 h.s) :=
  ⟨hr 0 _ rfl, hr 1 _ rfl, hr 2 _ rfl, hr 3 _ rfl, hr 4 _ rfl⟩
theorem range_lt {w : World} {b o : Nat} {h : Ho} (hr : w.rangeAt b o (vals h.l)) : b < w.heap.size := cell_lt (range5 hr).1
theorem Row.below {w w' : World} {A : Option Addr} {n : Nat} {hs : List Ho} (h : Row w A n hs) {B : Nat} (hb : Below B w w') (hB : w.heap.size ≤ B) : Row w' A n hs := by
  obtain ⟨h1, h2, h3⟩ := h
  refine ⟨h1, h2, ?_⟩
  rcases h3 with h0 | ⟨b, off, rfl, hc⟩
  · exact .inl h0
  · exact .inr ⟨b, off, rfl, fun k hk => range_below (hc k hk) hb (Nat.lt_of_lt_of_le (range_lt (hc k hk)) hB)⟩
theorem Row.call {w w' : World} {A : Option Addr} {n : Nat} {hs : List Ho} (h : Row w A n hs) (hb : Below w.heap.size w w') : Row w' A n hs := h.below hb (Nat.le_refl _)
theorem Row.at {w : World} {A : Option Addr} {n : Nat} {hs : List Ho} (h : Row w A n hs) {k : Nat} (hk : k < n) : ∃ b off : Nat, A = some ⟨b, off, none⟩ ∧ ∀ j, j < n → w.rangeAt b (off + j * 5) (vals (hs.getD j z5).l) := by
  rcases h.2.2 with h0 | h0
  · omega
  · exact h0
theorem Row.nil (w : World) (A : Option Addr) : Row w A 0 [] := ⟨rfl, by omega, .inl rfl⟩
/-- The cells that a slice of holds reads. -/
theorem Row.cells {w : World} {b off n : Nat} {hs : List Ho} (hl : hs.length = n) (h : ∀ k, k < n → w.rangeAt b (off + k * 5) (vals (hs.getD k z5).l)) : ∀ j u, (vals (flat hs))[j]? = some u → w.cell? ⟨b, off + j, none⟩ = some u := by
  intro j u hu
  obtain ⟨hj, rfl⟩ := vals_at hu
  rw [flat_length, hl] at hj
  have hk : j / 5 < n := by omega
  have := h (j / 5) hk (j % 5) (.int .i64 ((hs.getD (j / 5) z5).l.getD (j % 5) 0)) (vals_get (by rw [Ho.len]; omega))
  rw [← flat_get (by omega) (by omega), show j / 5 * 5 + j % 5 = j by omega, show off + j / 5 * 5 + j % 5 = off + j by omega] at this
  exact this
/-- A part of a slice. -/
theorem Row.sub {w : World} {b off n : Nat} {hs : List Ho} (_hl : hs.length = n) (h : ∀ k, k < n → w.rangeAt b (off + k * 5) (vals (hs.getD k z5).l)) {i : Nat} : ∀ k, k < n - i → w.rangeAt b (off + i * 5 + k * 5) (vals ((hs.drop i).getD k z5).l) := by
  intro k hk
  have := h (i + k) (by omega)
  rw [show off + (i + k) * 5 = off + i * 5 + k * 5 by omega] at this
  simpa [List.getD, List.getElem?_drop] using this

/-! ### Rows that a call makes. -/
def Own (w : World) (base : Nat) (v : Value) (hs : List Ho) : Prop := w.ownsRow base 59 5 v hs.length (vals (flat hs))
theorem own_baseH {w : World} {base : Nat} {e : TypeId} {s : Nat} {v : Value} {n : Nat} {xs : List Value} (h : w.ownsRow base e s v n xs) (k : Nat) (hk : v.ownBlock = some k) : base ≤ k := (h.lt k hk).1
theorem own_belowH {w w' : World} {base : Nat} {e : TypeId} {s : Nat} {v : Value} {n : Nat} {xs : List Value} (h : w.ownsRow base e s v n xs) (hb : Below w.heap.size w w') : w'.ownsRow base e s v n xs := by
  refine ⟨h.1, ?_⟩
  rcases h.2 with ⟨h1, h2⟩ | ⟨g, cap, cur, h1, h2, h3, h4⟩
  · exact .inl ⟨h1, h2⟩
  · refine .inr ⟨g, cap, cur, h1, h2, ?_, h4⟩
    rw [hb.block g (Array.getElem?_eq_some_iff.1 h3).1]; exact h3
theorem Own.call {w w' : World} {base : Nat} {v : Value} {hs : List Ho} (h : Own w base v hs) (hb : Below w.heap.size w w') : Own w' base v hs := own_belowH h hb
theorem Own.mono {w : World} {base base' : Nat} {v : Value} {hs : List Ho} (h : Own w base v hs) (hb : base' ≤ base) : Own w base' v hs := by
  refine ⟨h.1, ?_⟩
  rcases h.2 with h | ⟨g, cap, cur, h1, h2, h3⟩
  · exact .inl h
  · exact .inr ⟨g, cap, cur, h1, Nat.le_trans hb h2, h3⟩
theorem Own.nil (w : World) (base : Nat) : Own w base (.slice none 0 0) [] := World.ownsRow_nil w base _ _
/-- It is there. -/
theorem Own.slice {w : World} {base : Nat} {v : Value} {hs : List Ho} (h : Own w base v hs) : ∃ A c, v = .slice A hs.length c := by
  rcases h.2 with ⟨rfl, h2⟩ | ⟨g, cap, cur, rfl, _⟩
  · exact ⟨none, 0, by rw [h2]⟩
  · exact ⟨_, cap, rfl⟩
theorem Own.at {w : World} {base : Nat} {v : Value} {hs : List Ho} (h : Own w base v hs) (hn : 0 < hs.length) : ∃ g cap, v = .slice (some ⟨g, 0, none⟩) hs.length cap ∧ base ≤ g ∧ g < w.heap.size := by
  rcases h.2 with ⟨rfl, h2⟩ | ⟨g, cap, cur, rfl, h1, h2, _⟩
  · omega
  · exact ⟨g, cap, rfl, h1, (Array.getElem?_eq_some_iff.1 h2).1⟩
theorem Own.range {w : World} {base g cap : Nat} {hs : List Ho} {n : Nat} (h : Own w base (.slice (some ⟨g, 0, none⟩) n cap) hs) {k : Nat} (hk : k < hs.length) : w.rangeAt g (k * 5) (vals (hs.getD k z5).l) := by
  have hl : n = hs.length := by
    rcases h.2 with ⟨h1, _⟩ | ⟨_, _, _, h1, _⟩
    · cases h1
    · injection h1
  subst hl
  intro j u hu
  obtain ⟨hj, rfl⟩ := vals_at hu
  rw [Ho.len] at hj
  rw [World.ownsRow.cellAt h _ (by omega), ← flat_get hk hj, vals_get (by rw [flat_length]; omega)]
theorem Own.row {w : World} {base : Nat} {A : Option Addr} {n c : Nat} {hs : List Ho} (h : Own w base (.slice A n c) hs) (hn : hs.length ≤ 1000) : Row w A n hs := by
  obtain ⟨A', c', e⟩ := h.slice
  injection e with e1 e2 e3
  subst e2
  rcases Nat.eq_zero_or_pos hs.length with h0 | h0
  · exact ⟨rfl, hn, .inl h0⟩
  · obtain ⟨g, cap, e, _⟩ := h.at h0
    injection e with e4 e5 e6
    subst e4
    exact ⟨rfl, hn, .inr ⟨g, 0, rfl, fun k hk => by rw [Nat.zero_add]; exact h.range hk⟩⟩
theorem Own.frozen {w : World} {base g cap n : Nat} {hs : List Ho} (h : Own w base (.slice (some ⟨g, 0, none⟩) n cap) hs) (j : Nat) : w.frozen? ⟨g, j, none⟩ = false := by
  have hl : n = hs.length := by
    rcases h.2 with ⟨h1, _⟩ | ⟨_, _, _, h1, _⟩
    · cases h1
    · injection h1
  subst hl
  exact World.ownsRow.frozenAt h j
/-- Below w's end all is as it was; these blocks of the call's own lie there, and this row of its own, apart from them. -/
structure KeepH (w : World) (l : List (Nat × TypeId × List Int)) (v : Value) (hs : List Ho) (u : World) : Prop where
  keep : KeepR w l u
  own : Own u w.heap.size v hs
  apart : ∀ x ∈ l, v.ownBlock ≠ some x.1
theorem KeepH.start (w : World) : KeepH w [] (.slice none 0 0) [] w := ⟨KeepR.start w, Own.nil _ _, by simp⟩
theorem KeepH.of_keep {w u : World} {l : List (Nat × TypeId × List Int)} (h : KeepR w l u) : KeepH w l (.slice none 0 0) [] u := ⟨h, Own.nil _ _, by simp [Value.ownBlock]⟩
theorem KeepH.of_alloc {w u u' : World} {l : List (Nat × TypeId × List Int)} {v : Value} {hs : List Ho} (h : KeepH w l v hs u) {b : Nat} {t : TypeId} {zs : List Int} (hn : b = u.heap.size) (hk : KeepR w ((b, t, zs) :: l) u') (hb : Below u.heap.size u u') : KeepH w ((b, t, zs) :: l) v hs u' := by
  refine ⟨hk, h.own.call hb, fun x hx => ?_⟩
  rcases List.mem_cons.1 hx with rfl | hx
  · intro e
    have := (World.ownsRow.lt h.own _ e).2
    simp only at this
    omega
  · exact h.apart x hx
theorem KeepH.call {w u u' : World} {l : List (Nat × TypeId × List Int)} {v : Value} {hs : List Ho} (h : KeepH w l v hs u) (hb : Below u.heap.size u u') : KeepH w l v hs u' := ⟨h.keep.call hb, h.own.call hb, h.apart⟩
theorem KeepH.drew {w u : World} {l : List (Nat × TypeId × List Int)} {v : Value} {hs : List Ho} (h : KeepH w l v hs u) : KeepH w l v hs u.drew := ⟨h.keep.drew, h.own, h.apart⟩
theorem KeepH.tail {w u : World} {x : Nat × TypeId × List Int} {l : List (Nat × TypeId × List Int)} {v : Value} {hs : List Ho} (h : KeepH w (x :: l) v hs u) : KeepH w l v hs u := ⟨h.keep.tail, h.own, fun y hy => h.apart y (List.mem_cons_of_mem _ hy)⟩
/-- Another row, that a call made, in its place. -/
theorem KeepH.other {w u u' : World} {l : List (Nat × TypeId × List Int)} {v v' : Value} {hs hs' : List Ho} (h : KeepH w l v hs u) (hb : Below u.heap.size u u') (ho : Own u' u.heap.size v' hs') : KeepH w l v' hs' u' := by
  refine ⟨h.keep.call hb, ho.mono h.keep.bel.size, fun x hx e => ?_⟩
  have h1 := own_baseH ho _ e
  have h2 := (h.keep.blk x hx).2.lt
  omega
/-- The row has grown. -/
theorem KeepH.grown {w u u' : World} {l : List (Nat × TypeId × List Int)} {v v' : Value} {hs hs' : List Ho} (h : KeepH w l v hs u) (hg : u.grownBy u' v.ownBlock) (ho : Own u' w.heap.size v' hs') (hv : v'.ownBlock = v.ownBlock ∨ v'.ownBlock = some u.heap.size) : KeepH w l v' hs' u' := by
  refine ⟨⟨h.keep.bel.grown hg h.keep.bel.size (own_baseH h.own), fun x hx => ?_, h.keep.apart⟩, ho, fun x hx e => ?_⟩
  · have h1 := h.keep.blk x hx
    refine ⟨h1.1, ?_⟩
    unfold Blk
    rw [hg.block x.1 h1.2.lt (fun e => h.apart x hx e.symm)]
    exact h1.2
  · rcases hv with hv | hv
    · rw [hv] at e; exact h.apart x hx e
    · rw [hv] at e
      injection e with e
      have := (h.keep.blk x hx).2.lt
      omega
end Go.Proofs.Ytofngihdnjgmeaa
