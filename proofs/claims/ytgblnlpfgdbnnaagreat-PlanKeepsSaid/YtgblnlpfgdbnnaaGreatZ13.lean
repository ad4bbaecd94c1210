/- Contracts of which hold goes ahead: cmp.Or, hold.byName, and the document's Ahead.; Plain facts of what a plan makes. -/
import Derived.Test.YtgblnlpfgdbnnaaGreatZ40
namespace Go.Proofs.YtgblnlpfgdbnnaaGreat
set_option maxRecDepth 100000
open Go.ChangeShapes Go.WideShapes Go.ChangeAt Go.RowKit

theorem yield_leq {ops : Array Oper} {S : World → Prop} {o : Oper} {a : Act} {p q : Int} {b : Bool} (hb : decide (p ≤ q) = b) (x y : Operand) (t : TypeId) (ho : o.op = .binOp .leq 3 x y t) (hx : a.eval x = .int .i64 p) (hy : a.eval y = .int .i64 q) (hw : Region.wanted o (yielded ops a.tmps) = true) :
    YieldsIf Tryz.prog ops S o (.bool b) a :=
  .inl ⟨hw, fun w _ => by
    subst hb
    unfold execOp
    simp only [ho, hx, hy]
    simp [go_sem]⟩
theorem yield_lss {ops : Array Oper} {S : World → Prop} {o : Oper} {a : Act} {p q : Int} {b : Bool} (hb : decide (p < q) = b) (x y : Operand) (t : TypeId) (ho : o.op = .binOp .lss 3 x y t) (hx : a.eval x = .int .i64 p) (hy : a.eval y = .int .i64 q) (hw : Region.wanted o (yielded ops a.tmps) = true) :
    YieldsIf Tryz.prog ops S o (.bool b) a :=
  .inl ⟨hw, fun w _ => by
    subst hb
    unfold execOp
    simp only [ho, hx, hy]
    simp [go_sem]⟩

/-! ### Sums. -/
theorem sumFrom_val : ∀ {l : List Int} {acc s : Int}, sumFrom acc l = some s → s = acc + l.sum
  | [], acc, s, h => by simp [sumFrom] at h; simp [h]
  | n :: r, acc, s, h => by
    rw [sumFrom] at h
    split at h
    · have := sumFrom_val h
      rw [this, List.sum_cons]; omega
    · cases h
theorem sum_val {l : List Int} (h : sumE l = 0) : sumN l = l.sum := by
  cases hs : sumFrom 0 l with
  | none => rw [(sumN_none hs).2] at h; omega
  | some s => rw [(sumN_some hs).1, sumFrom_val hs]; omega
theorem tot_val {ps : List Pf} (h : totE ps = 0) : totN ps = (ps.map vN).sum := by
  unfold totE at h
  unfold totN
  split at h
  · rename_i h1; rw [if_pos h1]; exact sum_val h
  · rename_i h1; exact absurd h h1
theorem sum_perm {a b : List Int} (h : a.Perm b) : a.sum = b.sum := by
  induction h with
  | nil => rfl
  | cons x _ ih => rw [List.sum_cons, List.sum_cons, ih]
  | swap x y l => simp only [List.sum_cons]; omega
  | trans _ _ h1 h2 => exact h1.trans h2
theorem sum_app (a b : List Int) : (a ++ b).sum = a.sum + b.sum := by
  induction a with
  | nil => simp
  | cons x a ih => rw [List.cons_append, List.sum_cons, List.sum_cons, ih]; omega
theorem sum_split (P : Pf → Bool) (ps : List Pf) : (ps.map vN).sum = ((ps.filter P).map vN).sum + ((ps.filter fun x => !(P x)).map vN).sum := by
  induction ps with
  | nil => rfl
  | cons x ps ih =>
    cases h : P x with
    | true => simp only [List.filter_cons, h, List.map_cons, List.sum_cons, ih]; simp only [if_true, Bool.not_true, Bool.false_eq_true, if_false, List.map_cons, List.sum_cons]; omega
    | false => simp only [List.filter_cons, h, List.map_cons, List.sum_cons, ih]; simp only [Bool.not_false, Bool.false_eq_true, if_false, if_true, List.map_cons, List.sum_cons]; omega
/-! ### Epochs. -/
/-! ### What is applied. -/
theorem app_touch {ps xs : List Pf} {p : Pl} (h : Goes ps p) (ha : Applied ps p xs) {x : Pf} (hx : x ∈ xs) (ht : touchB p x.nm = true) : ∃ d ∈ dsP ps p, x = bldP d (neP ps p) ∧ Made d (neP ps p) x := by
  rcases (app_mem h ha).1 hx with ⟨d, h1, h2⟩ | h1
  · exact ⟨d, h1, h2, h2 ▸ goes_made h h1⟩
  · rw [(rest_sub h1).2] at ht; cases ht
theorem app_rest {ps xs : List Pf} {p : Pl} (h : Goes ps p) (ha : Applied ps p xs) {x : Pf} (hx : x ∈ xs) (ht : touchB p x.nm = false) : x ∈ ps := by
  rcases (app_mem h ha).1 hx with ⟨d, h1, h2⟩ | h1
  · have := (ds_nm h.fit.pl h1).2.1
    rw [h2, (goes_made h h1).nm] at ht
    rw [this] at ht; cases ht
  · exact (rest_sub h1).1
/-! ### Whom a plan is about. -/
/-- The sum of the values stays. -/
theorem ds_sum {ps : List Pf} {p : Pl} (h : Fit ps p) : ((dsP ps p).map Dr.v).sum = ((aboutP ps p).map vN).sum := by
  obtain ⟨x, hx, hn⟩ := isP_iff.1 (place_is h.at_).1
  by_cases hk : p.k = 6
  · have e : dsP ps p = [⟨p.nm, 1, (sumS ((aboutP ps p).map spanP)).v, (sumS ((aboutP ps p).map spanP)).lo, (sumS ((aboutP ps p).map spanP)).hi⟩] := by
      unfold dsP draftsP
      simp only
      rw [if_neg (by omega), if_neg (by omega), if_neg (by omega), if_neg (by omega), if_neg (by omega)]
    rw [e, ← sumS_v]; simp
  · have ea := about_one h hk hx hn
    rw [ea]
    unfold dsP draftsP
    rw [ea]
    simp only [List.map_cons, List.map_nil, List.getD_cons_zero]
    have e : (spanP x).v = vN x := rfl
    repeat' split
    all_goals simp only [List.map_cons, List.map_nil, List.sum_cons, List.sum_nil, e]
    all_goals (try omega)
    all_goals (have := (plan_parts h.pl).1; omega)
theorem app_sum {ps xs : List Pf} {p : Pl} (h : Goes ps p) (ha : Applied ps p xs) : (xs.map vN).sum = (ps.map vN).sum := by
  rw [sum_perm (ha.1.map vN), goes_L h, List.map_append, sum_app, sum_split (fun y => touchB p y.nm) ps]
  congr 1
  rw [List.map_map, show ((dsP ps p).map (vN ∘ fun d => bldP d (neP ps p))) = (dsP ps p).map Dr.v from List.map_congr_left fun d hd => (goes_made h hd).v, ds_sum h.fit]
  rfl
theorem app_tot {ps xs : List Pf} {p : Pl} (h : Goes ps p) (ha : Applied ps p xs) (h1 : totE ps = 0) (h2 : totE xs = 0) : totN ps = totN xs := by
  rw [tot_val h1, tot_val h2, app_sum h ha]

end Go.Proofs.YtgblnlpfgdbnnaaGreat
