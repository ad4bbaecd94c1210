/- What holds of fields that replicas know, as far as it is asked what is loose: numbers that are not too great. No walk.; Contract of field.Join of fields of one head; sixteen fields in memory; contract of the statements' Step.; A contract of the document's join of two fields.; What the statement WireJoins stands on: what is left of a join, in plain words. -/
import Derived.Test.YtofngihdnjgmeaaGreatY01
import Derived.Test.YtofngihdnjgmeaaGreatY03
import Derived.Test.YtofngihdnjgmeaaGreatY07
import Derived.Test.YtofngihdnjgmeaaGreatY09
import Derived.Test.YtofngihdnjgmeaaGreatY10
import Derived.Test.YtofngihdnjgmeaaGreatY11
import Derived.Test.YtofngihdnjgmeaaGreatY12
import Derived.Test.YtofngihdnjgmeaaGreatY14
import Derived.Test.YtofngihdnjgmeaaGreatY18
import Derived.Test.YtofngihdnjgmeaaGreatY21
import Derived.Test.YtofngihdnjgmeaaGreatY26
import Derived.Test.YtofngihdnjgmeaaGreatY27A
import Derived.Test.YtofngihdnjgmeaaGreatY39
import Derived.Test.YtofngihdnjgmeaaGreatY40
import Derived.Test.YtofngihdnjgmeaaGreatY42
import Derived.Test.YtofngihdnjgmeaaGreatY43
import Derived.Maps.AppendAt
import Derived.OwnWalk
import Derived.Laws.OwnMore
import Derived.WalkKit
import Derived.ProofKit
import Derived.OpenShut
import Derived.ChangeOld
import Derived.Deep.Slices
import Derived.ChangeSlices
import Derived.Laws.AppendOwn
import Derived.Lib.Hide
import Derived.Deep.RegionHeld3
import Derived.Below
import Derived.Deep.MidRow
import Derived.Deep.QuietTactic
import Derived.BigQuiet
import Derived.Laws.StructEq
import Derived.WalkMore
import Derived.LoopTactic
import Derived.Defers
import Derived.Recover
import Derived.WalkSmall
import Derived.Lib.AppendZeros
import Derived.Deep.OwnRows
import Derived.Lib.SliceRun
import Derived.Shelf.SlSortCmp.WholeK
import Derived.Shelf.SlSortCmp.NoneTotal
import Derived.Maps.OwnSet
import Derived.Maps.Views
import Derived.DeepKeys4
namespace Go.Proofs.YtofngihdnjgmeaaGreat
set_option maxRecDepth 100000
open Go.ChangeShapes Go.WideShapes Go.ChangeAt Go.RowKit

theorem use_is {R : List Int} (hR : R.length = 288) {k n : Int} (h : useE R k n = 0) : ∃ k' : Nat, k = k' ∧ k' < 16 ∧ 0 ≤ n ∧ n ≤ 1099511627776 ∧ isB (R.getD (16 + k') 0 + n) = true ∧ useA R k n = R.set (16 + k') (R.getD (16 + k') 0 + n) := by
  by_cases hp : preU R k n = 0
  · obtain ⟨e1, e2⟩ := use_yes hp
    rw [e1] at h
    obtain ⟨j, rfl, hj, hn, hok, e3⟩ := gr_zero (by omega) h
    obtain ⟨_, o2, o3⟩ := okB_iff.1 hok
    exact ⟨j, rfl, hj, hn, (isB_iff.1 o2).2, o3, by rw [e2, e3]⟩
  · simp [useE, hp] at h
theorem give_is {R : List Int} (hR : R.length = 288) {k n : Int} (h : grE R 0 k n = 0) : ∃ k' : Nat, k = k' ∧ k' < 16 ∧ 0 ≤ n ∧ n ≤ 1099511627776 ∧ isB (R.getD k' 0 + n) = true ∧ grA R 0 k n = R.set k' (R.getD k' 0 + n) := by
  obtain ⟨j, rfl, hj, hn, hok, e3⟩ := gr_zero (by omega) h
  rw [Nat.zero_add] at hok e3
  obtain ⟨_, o2, o3⟩ := okB_iff.1 hok
  exact ⟨j, rfl, hj, hn, (isB_iff.1 o2).2, o3, e3⟩
theorem head_du {C A1 A2 : List Int} (h : C.length = 579) (h1 : A1.length = 288) (h2 : A2.length = 288) : ∀ p, p < 3 → (splice (splice C 3 A1) 291 A2).getD p 0 = C.getD p 0 := fun p hp => by
  rw [splice_get _ _ _ _ (by rw [splice_length]; omega), if_neg (by omega), splice_get _ _ _ _ (by omega), if_neg (by omega)]
theorem head_ud {C A1 A2 : List Int} (h : C.length = 579) (h1 : A1.length = 288) (h2 : A2.length = 288) : ∀ p, p < 3 → (splice (splice C 291 A1) 3 A2).getD p 0 = C.getD p 0 := fun p hp => by
  rw [splice_get _ _ _ _ (by rw [splice_length]; omega), if_neg (by omega), splice_get _ _ _ _ (by omega), if_neg (by omega)]
theorem dn_du {C A1 A2 : List Int} (h : C.length = 579) (h1 : A1.length = 288) (h2 : A2.length = 288) : dnR (splice (splice C 3 A1) 291 A2) = A1 := by
  unfold dnR; rw [splice_seg_apart (by rw [splice_length]; omega) (by rw [splice_length]; omega) (by omega), splice_seg_same h1 (by omega)]
theorem up_du {C A1 A2 : List Int} (h : C.length = 579) (h2 : A2.length = 288) : upR (splice (splice C 3 A1) 291 A2) = A2 := by
  unfold upR; rw [splice_seg_same h2 (by rw [splice_length]; omega)]
theorem up_ud {C A1 A2 : List Int} (h : C.length = 579) (h1 : A1.length = 288) (h2 : A2.length = 288) : upR (splice (splice C 291 A1) 3 A2) = A1 := by
  unfold upR; rw [splice_seg_apart (by rw [splice_length]; omega) (by rw [splice_length]; omega) (by omega), splice_seg_same h1 (by omega)]
theorem dn_ud {C A1 A2 : List Int} (h : C.length = 579) (h2 : A2.length = 288) : dnR (splice (splice C 291 A1) 3 A2) = A2 := by
  unfold dnR; rw [splice_seg_same h2 (by rw [splice_length]; omega)]

theorem both_zero {e1 e2 : Int} (h : bothE e1 e2 = 0) : e1 = 0 ∧ e2 = 0 := by
  unfold bothE at h; split at h
  · exact ⟨by assumption, h⟩
  · contradiction
/-- What adding does, where it can be. -/
theorem inc_is {C : List Int} (hC : C.length = 579) {k n : Int} (he : incE C k n = 0) :
    useE (upR C) k n = 0 ∧ grE (dnR C) 0 k n = 0 ∧ upR (incA C k n) = useA (upR C) k n ∧ dnR (incA C k n) = grA (dnR C) 0 k n ∧ (incA C k n).length = 579 ∧ ∀ p, p < 3 → (incA C k n).getD p 0 = C.getD p 0 := by
  obtain ⟨h1, h2⟩ := both_zero he
  have lu := useA_length (upR_length hC) k n
  have lg := grA_length (dnR_length hC) 0 k n
  have e : incA C k n = splice (splice C 291 (useA (upR C) k n)) 3 (grA (dnR C) 0 k n) := by unfold incA; rw [h1, h2, bothA_yes]
  exact ⟨h1, h2, by rw [e, up_ud hC lu lg], by rw [e, dn_ud hC lg], incA_length hC k n, by rw [e]; exact head_ud hC lu lg⟩
theorem dec_is {C : List Int} (hC : C.length = 579) {k n : Int} (he : decE C k n = 0) :
    useE (dnR C) k n = 0 ∧ grE (upR C) 0 k n = 0 ∧ dnR (decA C k n) = useA (dnR C) k n ∧ upR (decA C k n) = grA (upR C) 0 k n ∧ (decA C k n).length = 579 ∧ ∀ p, p < 3 → (decA C k n).getD p 0 = C.getD p 0 := by
  obtain ⟨h1, h2⟩ := both_zero he
  have lu := useA_length (dnR_length hC) k n
  have lg := grA_length (upR_length hC) 0 k n
  have e : decA C k n = splice (splice C 3 (useA (dnR C) k n)) 291 (grA (upR C) 0 k n) := by unfold decA; rw [h1, h2, bothA_yes]
  exact ⟨h1, h2, by rw [e, dn_du hC lu lg], by rw [e, up_du hC lg], decA_length hC k n, by rw [e]; exact head_du hC lu lg⟩
theorem cjC_is {A B : List Int} (hA : A.length = 579) (hB : B.length = 579) : dnR (cjC A B) = joinL (dnR A) (dnR B) ∧ upR (cjC A B) = joinL (upR A) (upR B) ∧ ∀ p, p < 3 → (cjC A B).getD p 0 = A.getD p 0 := by
  have l1 := jl_length (dnR_length hA) (dnR_length hB)
  have l2 := jl_length (upR_length hA) (upR_length hB)
  exact ⟨dn_du hA l1 l2, up_du hA l2, head_du hA l1 l2⟩

def headB (p q : Pf) : Bool := decide (p.nm = q.nm ∧ p.k = q.k ∧ p.e = q.e)
def joinPE (p q : Pf) : Int := if headB p q then (if cjE p.C q.C = 0 then joinE p.hs q.hs else cjE p.C q.C) else 1
def joinP (p q : Pf) : Pf := toldP ⟨p.nm, p.k, p.e, cjA p.C q.C, joinK p.L q.L, joinLH p.hs q.hs⟩ (joinPE p q)
theorem joinP_full {p q : Pf} (h : p.full) : (joinP p q).full := toldP_full (p := ⟨p.nm, p.k, p.e, cjA p.C q.C, joinK p.L q.L, joinLH p.hs q.hs⟩) (cjA_length h) _
/-- A field that replicas of one counter know behind t steps. -/
structure Iv (i : Int) (t : Nat) (p : Pf) : Prop where
  k : p.k = 1
  nm : p.nm = ⟨#[97]⟩
  e : p.e = 0
  full : p.full
  i0 : p.C.getD 0 0 = i
  D : ∀ q, q < 288 → 0 ≤ (dnR p.C).getD q 0 ∧ (dnR p.C).getD q 0 ≤ 3000 * ((t : Int) + 1)
  U : ∀ q, q < 288 → 0 ≤ (upR p.C).getD q 0 ∧ (upR p.C).getD q 0 ≤ 3000 * ((t : Int) + 1)
  hr : rightsL p.hs = true
  ha : ∀ h ∈ p.hs, h.a ≤ 3000
  hn : ∀ h ∈ p.hs, h.n ≤ t
theorem Iv.later {i : Int} {t : Nat} {p : Pf} (h : Iv i t p) : Iv i (t + 1) p :=
  ⟨h.k, h.nm, h.e, h.full, h.i0, fun q hq => by have := h.D q hq; push_cast; omega, fun q hq => by have := h.U q hq; push_cast; omega, h.hr, h.ha, fun x hx => by have := h.hn x hx; push_cast; omega⟩
theorem bd_set {R : List Int} (hR : R.length = 288) {B n : Int} (h : ∀ q, q < 288 → 0 ≤ R.getD q 0 ∧ R.getD q 0 ≤ B) {j : Nat} (hj : j < 288) (h0 : 0 ≤ n) (h1 : n ≤ 3000) : ∀ q, q < 288 → 0 ≤ (R.set j (R.getD j 0 + n)).getD q 0 ∧ (R.set j (R.getD j 0 + n)).getD q 0 ≤ B + 3000 := fun q hq => by
  rw [set_get (by omega)]
  have h2 := h j hj
  have h3 := h q hq
  split <;> omega
theorem Iv.turn {i : Int} {t : Nat} {p : Pf} (h : Iv i t p) {C : List Int} (hl : C.length = 579) (h0 : C.getD 0 0 = p.C.getD 0 0) {a b : Nat} (ha : a < 288) (hb : b < 288) {n m : Int} (n0 : 0 ≤ n) (n1 : n ≤ 3000) (m0 : 0 ≤ m) (m1 : m ≤ 3000)
    (eD : dnR C = (dnR p.C).set a ((dnR p.C).getD a 0 + n)) (eU : upR C = (upR p.C).set b ((upR p.C).getD b 0 + m)) : Iv i (t + 1) (p.setC C) :=
  ⟨h.k, h.nm, h.e, hl, by rw [show (p.setC C).C = C from rfl, h0]; exact h.i0,
    fun q hq => by rw [show (p.setC C).C = C from rfl, eD]; have := bd_set (dnR_length h.full) h.D ha n0 n1 q hq; push_cast; omega,
    fun q hq => by rw [show (p.setC C).C = C from rfl, eU]; have := bd_set (upR_length h.full) h.U hb m0 m1 q hq; push_cast; omega,
    h.hr, h.ha, fun x hx => by have := h.hn x hx; push_cast; omega⟩
theorem Iv.dec {i : Int} {t : Nat} {p : Pf} (h : Iv i t p) {k n : Int} (n1 : n ≤ 3000) (he : decE p.C k n = 0) : Iv i (t + 1) (p.setC (decA p.C k n)) := by
  obtain ⟨e1, e2, e3, e4, e5, e6⟩ := dec_is h.full he
  obtain ⟨k1, rfl, hk1, n0, _, _, e7⟩ := use_is (dnR_length h.full) e1
  obtain ⟨k2, hk2, hk3, _, _, _, e8⟩ := give_is (upR_length h.full) e2
  exact h.turn e5 (e6 0 (by omega)) (a := 16 + k1) (b := k2) (by omega) (by omega) n0 n1 n0 n1 (by rw [e3, e7]) (by rw [e4, e8])
theorem Iv.inc {i : Int} {t : Nat} {p : Pf} (h : Iv i t p) {k n : Int} (n1 : n ≤ 3000) (he : incE p.C k n = 0) : Iv i (t + 1) (p.setC (incA p.C k n)) := by
  obtain ⟨e1, e2, e3, e4, e5, e6⟩ := inc_is h.full he
  obtain ⟨k1, rfl, hk1, n0, _, _, e7⟩ := use_is (upR_length h.full) e1
  obtain ⟨k2, hk2, hk3, _, _, _, e8⟩ := give_is (dnR_length h.full) e2
  exact h.turn e5 (e6 0 (by omega)) (a := k2) (b := 16 + k1) (by omega) (by omega) n0 n1 n0 n1 (by rw [e4, e8]) (by rw [e3, e7])
theorem Iv.add {i : Int} {t : Nat} {p : Pf} (h : Iv i t p) {k n : Int} (hn : -3000 ≤ n ∧ n ≤ 3000) (he : addPE p k n = 0) : Iv i (t + 1) (addP p k n) := by
  have e : addP p k n = p.setC (addPC p k n) := by rw [addP, he, toldP_0]
  rw [e]
  unfold addPE at he
  rw [if_pos h.k] at he
  unfold addPC
  split
  · rename_i h0
    rw [if_pos h0] at he
    exact h.inc hn.2 he
  · rename_i h0
    rw [if_neg h0] at he
    split
    · rename_i h1
      rw [if_pos h1] at he
      cases he
    · rename_i h1
      rw [if_neg h1] at he
      exact h.dec (by omega) he
theorem Iv.holds {i : Int} {t : Nat} {p : Pf} (h : Iv i t p) {hs : List Ho} (hr : rightsL hs = true) (ha : ∀ x ∈ hs, x.a ≤ 3000) (hn : ∀ x ∈ hs, x.n ≤ (t : Int) + 1) : Iv i (t + 1) (p.setH hs) :=
  ⟨h.k, h.nm, h.e, h.full, h.i0, h.later.D, h.later.U, hr, ha, fun x hx => by have := hn x hx; push_cast; omega⟩
theorem Iv.join {i : Int} {t : Nat} {p q : Pf} (h : Iv i t p) (g : Iv i t q) (he : joinPE p q = 0) : Iv i (t + 1) (joinP p q) := by
  have e : joinP p q = ⟨p.nm, p.k, p.e, cjA p.C q.C, joinK p.L q.L, joinLH p.hs q.hs⟩ := by rw [joinP, he, toldP_0]
  rw [e]
  unfold joinPE at he
  split at he
  · split at he
    · rename_i h1
      have hs : sameB p.C q.C = true := by
        unfold cjE at h1
        split at h1
        · assumption
        · cases h1
      have eC : cjA p.C q.C = cjC p.C q.C := by rw [cjA, if_pos hs]
      obtain ⟨d1, d2, d3⟩ := cjC_is h.full g.full
      refine ⟨h.k, h.nm, h.e, cjA_length h.full, ?_, fun z hz => ?_, fun z hz => ?_, join_rights he, fun x hx => ?_, fun x hx => ?_⟩
      · show (cjA p.C q.C).getD 0 0 = i
        rw [eC, d3 0 (by omega)]
        exact h.i0
      · show 0 ≤ (dnR (cjA p.C q.C)).getD z 0 ∧ (dnR (cjA p.C q.C)).getD z 0 ≤ _
        rw [eC, d1, joinL_get (by rw [dnR_length h.full]; exact hz) (by rw [dnR_length g.full]; exact hz)]
        have := h.D z hz
        have := g.D z hz
        push_cast
        omega
      · show 0 ≤ (upR (cjA p.C q.C)).getD z 0 ∧ (upR (cjA p.C q.C)).getD z 0 ≤ _
        rw [eC, d2, joinL_get (by rw [upR_length h.full]; exact hz) (by rw [upR_length g.full]; exact hz)]
        have := h.U z hz
        have := g.U z hz
        push_cast
        omega
      · have hx : x ∈ joinLH p.hs q.hs := hx
        rw [(join_zero he).2.2.2.2] at hx
        rcases mem_jraw.1 (mem_joinJ.1 hx) with ⟨y, hy, rfl⟩ | ⟨hy, _⟩
        · rw [(upd_name q.hs y).2.2.1]; exact h.ha y hy
        · exact g.ha x hy
      · have hx : x ∈ joinLH p.hs q.hs := hx
        rw [(join_zero he).2.2.2.2] at hx
        rcases mem_jraw.1 (mem_joinJ.1 hx) with ⟨y, hy, rfl⟩ | ⟨hy, _⟩
        · rw [(upd_name q.hs y).2.1]; have := h.hn y hy; push_cast; omega
        · have := g.hn x hy; push_cast; omega
    · rename_i h1
      exact absurd he h1
  · cases he
theorem newC_get {i l h : Int} (p : Nat) : (newC i l h).getD p 0 = if p = 291 then h - i else if p = 3 then i - l else if p = 2 then h else if p = 1 then l else if p = 0 then i else 0 := by
  unfold newC
  rw [set_get (by simp [zer_length]), set_get (by simp [zer_length]), set_get (by simp [zer_length]), set_get (by simp [zer_length]), set_get (by simp [zer_length]), zer_get]
theorem Iv.start {i l h : Int} (he : ctPE ⟨#[97]⟩ i l h = 0) (hl : -1000 ≤ l) (hh : h ≤ 1000) : Iv i 0 (ctP ⟨#[97]⟩ i l h) ∧ -1000 ≤ i ∧ i ≤ 1000 := by
  have e1 : nameB ⟨#[97]⟩ = true := by decide +kernel
  have hb : newB i l h = true := by
    unfold ctPE at he
    rw [e1, if_pos rfl] at he
    unfold newE at he
    split at he
    · assumption
    · cases he
  obtain ⟨_, _, b3, b4, _⟩ := newB_iff.1 hb
  have e2 : ctP ⟨#[97]⟩ i l h = ⟨⟨#[97]⟩, 1, 0, newC i l h, zL, []⟩ := by rw [ctP, he, toldP_0]; simp [newA, hb]
  rw [e2]
  refine ⟨⟨rfl, rfl, rfl, newC_length i l h, ?_, fun q hq => ?_, fun q hq => ?_, rights_nil, by simp, by simp⟩, by omega, by omega⟩
  · show (newC i l h).getD 0 0 = i
    rw [newC_get]; rfl
  · show 0 ≤ (dnR (newC i l h)).getD q 0 ∧ (dnR (newC i l h)).getD q 0 ≤ _
    rw [dnR, seg_get hq, newC_get]
    split
    · omega
    · split
      · omega
      · split
        · omega
        · split
          · omega
          · split <;> omega
  · show 0 ≤ (upR (newC i l h)).getD q 0 ∧ (upR (newC i l h)).getD q 0 ≤ _
    rw [upR, seg_get hq, newC_get]
    split
    · omega
    · split
      · omega
      · split
        · omega
        · split
          · omega
          · split <;> omega
theorem V_top {R : List Int} {B : Int} (hB : ∀ p, p < 288 → 0 ≤ R.getD p 0 ∧ R.getD p 0 ≤ B) {j : Nat} (hj : j < 16) : V (at_ R) j ≤ B + sumF (fun _ => B) 16 := by
  have c1 := sumF_le (f := fun m => at_ R (32 + m * 16 + j)) (g := fun _ => B) (n := 16) (fun m hm => (hB _ (by omega)).2)
  have c4 := sumF_le (f := fun _ => 0) (g := fun m => at_ R (32 + j * 16 + m)) (n := 16) (fun m hm => (hB _ (by omega)).1)
  have c5 := hB j (by omega)
  have c6 := hB (16 + j) (by omega)
  rw [sumF_zero] at c4
  unfold V
  simp only [at_] at c1 c4 ⊢
  omega
/-- What is free is told, and not great. -/
theorem Iv.free {i : Int} {t : Nat} {p : Pf} (h : Iv i t p) (ht : t ≤ 100) {k : Nat} (hk : k < 16) : freeE (dnR p.C) k = 0 ∧ freeN (dnR p.C) k = V (at_ (dnR p.C)) k ∧ freeN (dnR p.C) k ≤ 10000000 := by
  have hD : ∀ q, q < 288 → 0 ≤ (dnR p.C).getD q 0 ∧ (dnR p.C).getD q 0 ≤ 303000 := fun q hq => by have := h.D q hq; omega
  obtain ⟨e1, e2⟩ := free_small (dnR_length h.full) hD (by omega) hk
  have e3 := V_top hD hk
  have e4 : sumF (fun _ => (303000 : Int)) 16 = 16 * 303000 := by decide
  exact ⟨e1, e2, by rw [e2]; omega⟩
end Go.Proofs.YtofngihdnjgmeaaGreat

namespace Go.Proofs.YtofngihdnjgmeaaGreat
set_option maxRecDepth 100000
open Go.ChangeShapes Go.WideShapes Go.ChangeAt Go.RowKit

section
variable {ops : Array Oper} {S : World → Prop} {o : Oper} {a : Act}
theorem yield_neqv {ty : TypeId} {xs : List Value} (hge : Tryz.prog.eqGuardType Tryz.prog.depth ty = false) (hq : ∀ W, (Op.equalIn 10000 ty (.agg xs.toArray) (.agg xs.toArray)).run Tryz.prog W = .ok true W) (x y : Operand) (t : TypeId) (ho : o.op = .binOp .neq ty x y t) (hx : a.eval x = .agg xs.toArray) (hy : a.eval y = .agg xs.toArray) (hw : Region.wanted o (yielded ops a.tmps) = true) :
    YieldsIf Tryz.prog ops S o (.bool false) a :=
  .inl ⟨hw, fun w _ => by
    unfold execOp
    simp only [ho, hx, hy]
    simp [go_sem, hq, hge]⟩
theorem yield_rng {ty : TypeId} {d : TypeDesc} (hu : Tryz.prog.underlying ty = some d) (hd : d.isRow = true) {xs : List Value} (hs : (Tryz.prog.info? ty).map (·.size) = some xs.length) {b off : Nat} (hr : ∀ u, S u → u.rangeAt b off xs)
    (x : Operand) (ho : o.op = .load ty x) (hx : a.eval x = .pointer (some ⟨b, off, none⟩)) (hw : Region.wanted o (yielded ops a.tmps) = true) : YieldsIf Tryz.prog ops S o (.agg xs.toArray) a :=
  yieldsIf_load_mid hw ty x ho b off hx xs d hr hu hd hs
end
theorem join_sl (A B : Option Addr) (na ca nb cb : Nat) (xa xb : List Ho) (w : World) (hda : Row w A na xa) (hdb : Row w B nb xb) :
    Calls Tryz.prog 49 #[.slice A na ca, .slice B nb cb] w fun e w' => ∃ A1 c1, e = .returned (.tuple #[.slice A1 (joinLH xa xb).length c1, .int .i64 (joinE xa xb)]) ∧ Own w' w.heap.size (.slice A1 (joinLH xa xb).length c1) (joinLH xa xb) ∧ Below w.heap.size w w' :=
  (join_anyH A B na ca nb cb xa xb w hda hdb).mono fun e w' ⟨v, h1, h2, h3⟩ => by
    obtain ⟨A1, c1, rfl⟩ := h2.slice
    exact ⟨A1, c1, h1, h2, h3⟩
theorem Pf.rgL {w u : World} {l : List (Nat × TypeId × List Value)} {rows : List (Option Addr × Nat × List Ho)} (hk : KeepF w l rows u) (i : Nat) {b : Nat} {t : TypeId} {p : Pf} {A : Option Addr} {c : Nat} (hp : p.full) (hi : l[i]? = some (b, t, (p.fd A c).cells)) : u.rangeAt b 582 (vals p.L.l) := (hk.get i hi).range (Pf.cL hp)
theorem KeepF.rgD {w u : World} {l : List (Nat × TypeId × List Value)} {rows : List (Option Addr × Nat × List Ho)} (hk : KeepF w l rows u) (i : Nat) {b : Nat} {t : TypeId} {D : List Int} (hi : l[i]? = some (b, t, vals D)) : u.rangeAt b 0 (vals D) := (hk.get i hi).range (fun j v h => by rw [Nat.zero_add]; exact h)
set_option maxHeartbeats 4000000 in
theorem fjoin_any (p q : Pf) (hp : p.full) (hq : q.full) (h1 : q.nm = p.nm) (h2 : q.k = p.k) (h3 : q.e = p.e) (A B : Option Addr) (c d : Nat) (w : World) (hd1 : Row w A p.hs.length p.hs) (hd2 : Row w B q.hs.length q.hs) :
    Calls Tryz.prog 19 #[.agg (p.fd A c).cells.toArray, .agg (q.fd B d).cells.toArray] w fun e w' => ∃ A1 c1, e = .returned (.tuple #[.agg ((joinP p q).fd A1 c1).cells.toArray, .int .i64 (joinPE p q)]) ∧ Got w A p.hs.length w' A1 c1 (joinP p q).hs ∧ Below w.heap.size w w' := by
  have hhd : headB p q = true := by simp [headB, h1, h2, h3]
  have hh1 := head_any p hp A c
  have hh2 := head_any q hq B d
  rw [show headC q = headC p by simp [headC, h1, h2, h3]] at hh2
  have HK := Lib.hid (KeepF.start (w := w) (rows := [(A, p.hs.length, p.hs), (B, q.hs.length, q.hs)]) (by simpa using ⟨hd1, hd2⟩))
  have HF := Lib.hid hp; have HG := Lib.hid hq
  have hcj := cjoin_any p.C q.C hp hq
  have HA := Lib.hid (cjA_length (B := q.C) hp)
  have e1 : joinPE p q = if cjE p.C q.C = 0 then joinE p.hs q.hs else cjE p.C q.C := by simp [joinPE, hhd]
  have e2 : joinP p q = toldP ⟨p.nm, p.k, p.e, cjA p.C q.C, joinK p.L q.L, joinLH p.hs q.hs⟩ (if cjE p.C q.C = 0 then joinE p.hs q.hs else cjE p.C q.C) := by rw [joinP, e1]
  rw [e1, e2]
  have hhj := fun w h1 h2 => join_sl A B p.hs.length c q.hs.length d p.hs q.hs w h1 h2
  have HLE := Lib.hid (show (joinLH p.hs q.hs).length ≤ 1000 by have := joinL_lenH p.hs q.hs; omega)
  have hlj := join_anyK p.L q.L
  clear hp hq e1 e2 hhd h1 h2 h3 hd1 hd2
  generalize cjA p.C q.C = D at hcj HA ⊢
  generalize cjE p.C q.C = E1 at hcj ⊢
  generalize joinLH p.hs q.hs = R at hhj HLE ⊢
  generalize joinE p.hs q.hs = E2 at hhj ⊢
  generalize joinK p.L q.L = M at hlj ⊢
  by_cases z1 : E1 = 0
  · subst z1
    rw [if_pos rfl]
    by_cases z2 : E2 = 0
    · subst z2
      rw [toldP_0]
      go_enter Tryz.func19, Tryz.ntmps19
      go_wp2_with (first
        | (with_reducible refine box_f HK.out rfl _ rfl rfl ?_; intro b1 u hk; clear HK; have HK := Lib.hid hk; clear hk; with_reducible refine box_f HK.out rfl _ rfl rfl ?_; intro b2 u hk; clear HK; have HK := Lib.hid hk; clear hk)
        | (with_reducible refine alloc_f HK.out f_zeroP rfl rfl ?_; intro br u hk; clear HK; have HK := Lib.hid hk; clear hk))
      refine Draws.start (S := fun u => KeepF w [(br, 33, (zP.fd none 0).cells), (b2, 33, (q.fd B d).cells), (b1, 33, (p.fd A c).cells)] [(A, p.hs.length, p.hs), (B, q.hs.length, q.hs)] u) (n := 5) 5 rfl (by kernel_rfl) ?_
      have hk := HK.out.drew
      clear HK; have HK := Lib.hid hk; clear hk
      have HS := Lib.hid (show (fun u => KeepF w [(br, 33, (zP.fd none 0).cells), (b2, 33, (q.fd B d).cells), (b1, 33, (p.fd A c).cells)] [(A, p.hs.length, p.hs), (B, q.hs.length, q.hs)] u) _ from HK.out)
      refine Draws.take 0 HS.out rfl (by kernel_rfl) (fun _ _ _ h => h) (yield_fr (fun _ h => h) 2 Tryz.underlying33 rfl (Pf.infoF HF.out) _ rfl rfl rfl rfl Pf.all) ?_
      (try simp only [Act.put, List.setIfInBounds_toArray, List.set_cons_zero, List.set_cons_succ])
      refine Draws.take 2 HS.out rfl (by kernel_rfl) (fun _ _ _ h => h) (yield_fr (fun _ h => h) 1 Tryz.underlying33 rfl (Pf.infoF HG.out) _ rfl rfl rfl rfl Pf.all) ?_
      (try simp only [Act.put, List.setIfInBounds_toArray, List.set_cons_zero, List.set_cons_succ])
      refine Draws.does 1 rfl (by kernel_rfl) rfl (fun K hK => ?_)
      go_simp
      go_at_call 47
      refine (hh1 _).mono ?_
      rintro e u ⟨rfl, hb⟩
      (try dsimp only)
      have hk := HK.out.call hb; clear hb; clear HK; have HK := Lib.hid hk; clear hk
      refine hK.out _ _ (fun _ => HK.out) ?_
      clear hK K
      have hs : (fun u => KeepF w [(br, 33, (zP.fd none 0).cells), (b2, 33, (q.fd B d).cells), (b1, 33, (p.fd A c).cells)] [(A, p.hs.length, p.hs), (B, q.hs.length, q.hs)] u) u := HK.out
      clear HS
      have HS := Lib.hid hs; clear hs
      (try simp only [Act.put, List.setIfInBounds_toArray, List.set_cons_zero, List.set_cons_succ])
      refine Draws.does 3 rfl (by kernel_rfl) rfl (fun K hK => ?_)
      go_simp
      go_at_call 47
      refine (hh2 _).mono ?_
      rintro e u ⟨rfl, hb⟩
      (try dsimp only)
      have hk := HK.out.call hb; clear hb; clear HK; have HK := Lib.hid hk; clear hk
      refine hK.out _ _ (fun _ => HK.out) ?_
      clear hK K
      have hs : (fun u => KeepF w [(br, 33, (zP.fd none 0).cells), (b2, 33, (q.fd B d).cells), (b1, 33, (p.fd A c).cells)] [(A, p.hs.length, p.hs), (B, q.hs.length, q.hs)] u) u := HK.out
      clear HS
      have HS := Lib.hid hs; clear hs
      (try simp only [Act.put, List.setIfInBounds_toArray, List.set_cons_zero, List.set_cons_succ])
      refine Draws.take 4 HS.out rfl (by kernel_rfl) (fun _ _ _ h => h) (yield_neqv hd_guard (eql_hd p) _ _ _ rfl rfl rfl rfl) ?_
      (try simp only [Act.put, List.setIfInBounds_toArray, List.set_cons_zero, List.set_cons_succ])
      refine Draws.done (by kernel_rfl) ?_
      clear HS
      go_wp2_with (first
        | (with_reducible refine load_fr HK.out 2 Tryz.underlying28 rfl (Pf.infoC HF.out) _ rfl rfl rfl rfl Pf.cC ?_)
        | (with_reducible refine load_fr HK.out 1 Tryz.underlying28 rfl (Pf.infoC HG.out) _ rfl rfl rfl rfl Pf.cC ?_)
        | (go_at_call 48; (with_reducible refine (hcj _).mono ?_); rintro e u ⟨rfl, hb⟩; have hk := HK.out.call hb; clear hb; clear HK; have HK := Lib.hid hk; clear hk)
        | (with_reducible refine alloc_f HK.out c_zeroF rfl rfl ?_; intro bd u hk; clear HK; have HK := Lib.hid hk; clear hk)
        | (with_reducible refine store_fr HK.out 0 (infoC HA.out) (vals_all _) rfl rfl _ _ rfl rfl rfl rfl (putC_le (zer_length 579) HA.out) (putC ((zer_length 579).trans HA.out.symm)) ?_; intro u hk; simp only [List.set_cons_zero] at hk; clear HK; have HK := Lib.hid hk; clear hk)
        | (with_reducible refine load_f1 HK.out 3 cbH _ rfl rfl rfl rfl (Pf.cH HF.out) ?_)
        | (with_reducible refine load_f1 HK.out 2 cbH _ rfl rfl rfl rfl (Pf.cH HG.out) ?_)
        | (go_at_call 49; (with_reducible refine (hhj _ (HK.out.rowAt 0 rfl) (HK.out.rowAt 1 rfl)).mono ?_); rintro e u ⟨A1, c1, rfl, ho, hb⟩; have HX := Lib.hid ((Fresh.own ho).mono HK.out.bel.size); have hk := HK.out.own hb ho HLE.out; clear ho hb; clear HK; have HK := Lib.hid hk; clear hk))
      refine Draws.start (S := fun u : World => u.rangeAt bd 0 (vals D) ∧ u.rangeAt b1 582 (vals p.L.l) ∧ u.rangeAt b2 582 (vals q.L.l)) (n := 12) 13 rfl (by kernel_rfl) ?_
      have hk := HK.out.drew
      clear HK; have HK := Lib.hid hk; clear hk
      have HS := Lib.hid (show (fun u : World => u.rangeAt bd 0 (vals D) ∧ u.rangeAt b1 582 (vals p.L.l) ∧ u.rangeAt b2 582 (vals q.L.l)) _ from ⟨HK.out.rgD 0 rfl, Pf.rgL (p := p) HK.out 3 HF.out rfl, Pf.rgL HK.out 2 HG.out rfl⟩)
      refine Draws.take 0 HS.out rfl (by kernel_rfl) (fun _ _ _ h => h) (yield_rng Tryz.underlying28 rfl (infoC HA.out) (fun _ h => h.1) _ rfl rfl rfl) ?_
      (try simp only [Act.put, List.setIfInBounds_toArray, List.set_cons_zero, List.set_cons_succ])
      refine Draws.take 1 (v := ?v1) HS.out rfl (by kernel_rfl) (fun _ _ _ h => h) (Or.inl ⟨rfl, ?h1⟩) ?r1
      case h1 => intro w' hw'; go_simp; (try with_reducible rfl)
      (try simp only [Act.put, List.setIfInBounds_toArray, List.set_cons_zero, List.set_cons_succ])
      refine Draws.take 2 (v := ?v2) HS.out rfl (by kernel_rfl) (fun _ _ _ h => h) (Or.inl ⟨rfl, ?h2⟩) ?r2
      case h2 => intro w' hw'; go_simp; (try with_reducible rfl)
      (try simp only [Act.put, List.setIfInBounds_toArray, List.set_cons_zero, List.set_cons_succ])
      refine Draws.take 3 HS.out rfl (by kernel_rfl) (fun _ _ _ h => h) (yield_rng Tryz.underlying30 rfl (l_infoF _) (fun _ h => h.2.1) _ rfl rfl rfl) ?_
      (try simp only [Act.put, List.setIfInBounds_toArray, List.set_cons_zero, List.set_cons_succ])
      refine Draws.take 4 (v := ?v3) HS.out rfl (by kernel_rfl) (fun _ _ _ h => h) (Or.inl ⟨rfl, ?h3⟩) ?r3
      case h3 => intro w' hw'; go_simp; (try with_reducible rfl)
      (try simp only [Act.put, List.setIfInBounds_toArray, List.set_cons_zero, List.set_cons_succ])
      refine Draws.take 5 HS.out rfl (by kernel_rfl) (fun _ _ _ h => h) (yield_rng Tryz.underlying30 rfl (l_infoF _) (fun _ h => h.2.2) _ rfl rfl rfl) ?_
      (try simp only [Act.put, List.setIfInBounds_toArray, List.set_cons_zero, List.set_cons_succ])
      refine Draws.take 7 (v := ?v4) HS.out rfl (by kernel_rfl) (fun _ _ _ h => h) (Or.inl ⟨rfl, ?h4⟩) ?r4
      case h4 => intro w' hw'; go_simp; (try with_reducible rfl)
      (try simp only [Act.put, List.setIfInBounds_toArray, List.set_cons_zero, List.set_cons_succ])
      refine Draws.does 6 rfl (by kernel_rfl) rfl (fun K hK => ?_)
      go_simp
      go_at_call 50
      refine (hlj _).mono ?_
      rintro e u ⟨rfl, hb⟩
      (try dsimp only)
      have hk := HK.out.call hb; clear hb; clear HK; have HK := Lib.hid hk; clear hk
      refine hK.out _ _ (fun _ => ⟨HK.out.rgD 0 rfl, Pf.rgL (p := p) HK.out 3 HF.out rfl, Pf.rgL HK.out 2 HG.out rfl⟩) ?_
      clear hK K
      have hs : (fun u : World => u.rangeAt bd 0 (vals D) ∧ u.rangeAt b1 582 (vals p.L.l) ∧ u.rangeAt b2 582 (vals q.L.l)) u := ⟨HK.out.rgD 0 rfl, Pf.rgL (p := p) HK.out 3 HF.out rfl, Pf.rgL HK.out 2 HG.out rfl⟩
      clear HS
      have HS := Lib.hid hs; clear hs
      (try simp only [Act.put, List.setIfInBounds_toArray, List.set_cons_zero, List.set_cons_succ])
      refine Draws.does 8 rfl (by kernel_rfl) rfl (fun K hK => ?_)
      refine wp_store_fr HK.out 3 (infoC HA.out) (vals_all _) rfl _ _ rfl rfl rfl rfl (Fd.leC HF.out HA.out) (Pf.toC HF.out HA.out) ?_
      intro u hk he; clear he; simp only [List.set_cons_zero, List.set_cons_succ] at hk; clear HK; have HK := Lib.hid hk; clear hk
      refine hK.out _ _ (fun _ => ⟨HK.out.rgD 0 rfl, Pf.rgL (p := p.setC D) HK.out 3 (Pf.fullC (p := p) (D := D) HA.out) rfl, Pf.rgL HK.out 2 HG.out rfl⟩) ?_
      clear hK K
      have hs : (fun u : World => u.rangeAt bd 0 (vals D) ∧ u.rangeAt b1 582 (vals p.L.l) ∧ u.rangeAt b2 582 (vals q.L.l)) u := ⟨HK.out.rgD 0 rfl, Pf.rgL (p := p.setC D) HK.out 3 (Pf.fullC (p := p) (D := D) HA.out) rfl, Pf.rgL HK.out 2 HG.out rfl⟩
      clear HS
      have HS := Lib.hid hs; clear hs
      (try simp only [Act.put, List.setIfInBounds_toArray, List.set_cons_zero, List.set_cons_succ])
      refine Draws.take 9 (v := ?v5) HS.out rfl (by kernel_rfl) (fun _ _ _ h => h) (Or.inl ⟨rfl, ?h5⟩) ?r5
      case h5 => intro w' hw'; go_simp; (try with_reducible rfl)
      (try simp only [Act.put, List.setIfInBounds_toArray, List.set_cons_zero, List.set_cons_succ])
      refine Draws.does 10 rfl (by kernel_rfl) rfl (fun K hK => ?_)
      refine wp_store_f1 HK.out 3 cbH rfl _ _ rfl rfl rfl rfl rfl (Fd.ltH (Pf.fullC (p := p) (D := D) HA.out)) (Pf.toH (Pf.fullC (p := p) (D := D) HA.out) _ _ _) ?_
      intro u hk he; clear he; simp only [List.set_cons_zero, List.set_cons_succ] at hk; clear HK; have HK := Lib.hid hk; clear hk
      refine hK.out _ _ (fun _ => ⟨HK.out.rgD 0 rfl, Pf.rgL (p := (p.setC D).setH R) HK.out 3 (Pf.fullH (Pf.fullC (p := p) (D := D) HA.out) R) rfl, Pf.rgL HK.out 2 HG.out rfl⟩) ?_
      clear hK K
      have hs : (fun u : World => u.rangeAt bd 0 (vals D) ∧ u.rangeAt b1 582 (vals p.L.l) ∧ u.rangeAt b2 582 (vals q.L.l)) u := ⟨HK.out.rgD 0 rfl, Pf.rgL (p := (p.setC D).setH R) HK.out 3 (Pf.fullH (Pf.fullC (p := p) (D := D) HA.out) R) rfl, Pf.rgL HK.out 2 HG.out rfl⟩
      clear HS
      have HS := Lib.hid hs; clear hs
      (try simp only [Act.put, List.setIfInBounds_toArray, List.set_cons_zero, List.set_cons_succ])
      refine Draws.take 11 (v := ?v6) HS.out rfl (by kernel_rfl) (fun _ _ _ h => h) (Or.inl ⟨rfl, ?h6⟩) ?r6
      case h6 => intro w' hw'; go_simp; (try with_reducible rfl)
      (try simp only [Act.put, List.setIfInBounds_toArray, List.set_cons_zero, List.set_cons_succ])
      refine Draws.does 12 rfl (by kernel_rfl) rfl (fun K hK => ?_)
      refine wp_store_fr HK.out 3 (l_infoF _) (vals_all _) rfl _ _ rfl rfl rfl rfl (Fd.leL (Pf.fullH (Pf.fullC (p := p) (D := D) HA.out) R)) (Pf.toL (Pf.fullH (Pf.fullC (p := p) (D := D) HA.out) R) _) ?_
      intro u hk he; clear he; simp only [List.set_cons_zero, List.set_cons_succ] at hk; clear HK; have HK := Lib.hid hk; clear hk
      refine hK.out _ _ (fun h => absurd h (by decide)) ?_
      clear hK K
      (try simp only [Act.put, List.setIfInBounds_toArray, List.set_cons_zero, List.set_cons_succ])
      refine Draws.done (by kernel_rfl) ?_
      clear HS
      go_wp2_with (first
        | (with_reducible refine load_fr HK.out 3 Tryz.underlying33 rfl (Pf.infoF (Pf.fullL (Pf.fullH (Pf.fullC (p := p) (D := D) HA.out) R) M)) _ rfl rfl rfl rfl Pf.all ?_)
        | (with_reducible refine store_fr HK.out 1 (Pf.infoF (Pf.fullL (Pf.fullH (Pf.fullC (p := p) (D := D) HA.out) R) M)) (Fd.one _) rfl rfl _ _ rfl rfl rfl rfl (Fd.leP zP_full (Pf.fullL (Pf.fullH (Pf.fullC (p := p) (D := D) HA.out) R) M)) (Fd.setAllP zP_full (Pf.fullL (Pf.fullH (Pf.fullC (p := p) (D := D) HA.out) R) M)) ?_; intro u hk; simp only [List.set_cons_zero, List.set_cons_succ] at hk; clear HK; have HK := Lib.hid hk; clear hk))
      exact bodyPost_ret (results_f2 rfl Tryz.underlying33 rfl (Pf.infoF (Pf.fullL (Pf.fullH (Pf.fullC (p := p) (D := D) HA.out) R) M)) _ HK.out 1 _ rfl rfl rfl) rfl ⟨A1, c1, rfl, Got.of (HK.out.rowAt 0 rfl) HX.out, HK.out.bel⟩
    · rw [toldP_n _ z2]
      have d2 : (E2 != 0) = true := by simpa using z2
      go_enter Tryz.func19, Tryz.ntmps19
      go_wp2_with (first
        | (with_reducible refine box_f HK.out rfl _ rfl rfl ?_; intro b1 u hk; clear HK; have HK := Lib.hid hk; clear hk; with_reducible refine box_f HK.out rfl _ rfl rfl ?_; intro b2 u hk; clear HK; have HK := Lib.hid hk; clear hk)
        | (with_reducible refine alloc_f HK.out f_zeroP rfl rfl ?_; intro br u hk; clear HK; have HK := Lib.hid hk; clear hk))
      refine Draws.start (S := fun u => KeepF w [(br, 33, (zP.fd none 0).cells), (b2, 33, (q.fd B d).cells), (b1, 33, (p.fd A c).cells)] [(A, p.hs.length, p.hs), (B, q.hs.length, q.hs)] u) (n := 5) 5 rfl (by kernel_rfl) ?_
      have hk := HK.out.drew
      clear HK; have HK := Lib.hid hk; clear hk
      have HS := Lib.hid (show (fun u => KeepF w [(br, 33, (zP.fd none 0).cells), (b2, 33, (q.fd B d).cells), (b1, 33, (p.fd A c).cells)] [(A, p.hs.length, p.hs), (B, q.hs.length, q.hs)] u) _ from HK.out)
      refine Draws.take 0 HS.out rfl (by kernel_rfl) (fun _ _ _ h => h) (yield_fr (fun _ h => h) 2 Tryz.underlying33 rfl (Pf.infoF HF.out) _ rfl rfl rfl rfl Pf.all) ?_
      (try simp only [Act.put, List.setIfInBounds_toArray, List.set_cons_zero, List.set_cons_succ])
      refine Draws.take 2 HS.out rfl (by kernel_rfl) (fun _ _ _ h => h) (yield_fr (fun _ h => h) 1 Tryz.underlying33 rfl (Pf.infoF HG.out) _ rfl rfl rfl rfl Pf.all) ?_
      (try simp only [Act.put, List.setIfInBounds_toArray, List.set_cons_zero, List.set_cons_succ])
      refine Draws.does 1 rfl (by kernel_rfl) rfl (fun K hK => ?_)
      go_simp
      go_at_call 47
      refine (hh1 _).mono ?_
      rintro e u ⟨rfl, hb⟩
      (try dsimp only)
      have hk := HK.out.call hb; clear hb; clear HK; have HK := Lib.hid hk; clear hk
      refine hK.out _ _ (fun _ => HK.out) ?_
      clear hK K
      have hs : (fun u => KeepF w [(br, 33, (zP.fd none 0).cells), (b2, 33, (q.fd B d).cells), (b1, 33, (p.fd A c).cells)] [(A, p.hs.length, p.hs), (B, q.hs.length, q.hs)] u) u := HK.out
      clear HS
      have HS := Lib.hid hs; clear hs
      (try simp only [Act.put, List.setIfInBounds_toArray, List.set_cons_zero, List.set_cons_succ])
      refine Draws.does 3 rfl (by kernel_rfl) rfl (fun K hK => ?_)
      go_simp
      go_at_call 47
      refine (hh2 _).mono ?_
      rintro e u ⟨rfl, hb⟩
      (try dsimp only)
      have hk := HK.out.call hb; clear hb; clear HK; have HK := Lib.hid hk; clear hk
      refine hK.out _ _ (fun _ => HK.out) ?_
      clear hK K
      have hs : (fun u => KeepF w [(br, 33, (zP.fd none 0).cells), (b2, 33, (q.fd B d).cells), (b1, 33, (p.fd A c).cells)] [(A, p.hs.length, p.hs), (B, q.hs.length, q.hs)] u) u := HK.out
      clear HS
      have HS := Lib.hid hs; clear hs
      (try simp only [Act.put, List.setIfInBounds_toArray, List.set_cons_zero, List.set_cons_succ])
      refine Draws.take 4 HS.out rfl (by kernel_rfl) (fun _ _ _ h => h) (yield_neqv hd_guard (eql_hd p) _ _ _ rfl rfl rfl rfl) ?_
      (try simp only [Act.put, List.setIfInBounds_toArray, List.set_cons_zero, List.set_cons_succ])
      refine Draws.done (by kernel_rfl) ?_
      clear HS
      go_wp2_with (first
        | (with_reducible refine load_fr HK.out 2 Tryz.underlying28 rfl (Pf.infoC HF.out) _ rfl rfl rfl rfl Pf.cC ?_)
        | (with_reducible refine load_fr HK.out 1 Tryz.underlying28 rfl (Pf.infoC HG.out) _ rfl rfl rfl rfl Pf.cC ?_)
        | (go_at_call 48; (with_reducible refine (hcj _).mono ?_); rintro e u ⟨rfl, hb⟩; have hk := HK.out.call hb; clear hb; clear HK; have HK := Lib.hid hk; clear hk)
        | (with_reducible refine alloc_f HK.out c_zeroF rfl rfl ?_; intro bd u hk; clear HK; have HK := Lib.hid hk; clear hk)
        | (with_reducible refine store_fr HK.out 0 (infoC HA.out) (vals_all _) rfl rfl _ _ rfl rfl rfl rfl (putC_le (zer_length 579) HA.out) (putC ((zer_length 579).trans HA.out.symm)) ?_; intro u hk; simp only [List.set_cons_zero] at hk; clear HK; have HK := Lib.hid hk; clear hk)
        | (with_reducible refine load_f1 HK.out 3 cbH _ rfl rfl rfl rfl (Pf.cH HF.out) ?_)
        | (with_reducible refine load_f1 HK.out 2 cbH _ rfl rfl rfl rfl (Pf.cH HG.out) ?_)
        | (go_at_call 49; (with_reducible refine (hhj _ (HK.out.rowAt 0 rfl) (HK.out.rowAt 1 rfl)).mono ?_); rintro e u ⟨A1, c1, rfl, ho, hb⟩; have HX := Lib.hid ((Fresh.own ho).mono HK.out.bel.size); have hk := HK.out.own hb ho HLE.out; clear ho hb; clear HK; have HK := Lib.hid hk; clear hk)
        | (with_reducible refine build_f f_buildP rfl rfl ?_)
        | (with_reducible refine store_fr HK.out 1 (Pf.infoF zP_full) (Fd.one _) rfl rfl _ _ rfl rfl rfl rfl (Fd.leP zP_full zP_full) (Fd.setAllP zP_full zP_full) ?_; intro u hk; simp only [List.set_cons_zero, List.set_cons_succ] at hk; clear HK; have HK := Lib.hid hk; clear hk))
      exact bodyPost_ret (results_f2 rfl Tryz.underlying33 rfl (Pf.infoF zP_full) _ HK.out 1 _ rfl rfl rfl) rfl ⟨none, 0, rfl, Got.nil _ _ _ _ _ _, HK.out.bel⟩
  · rw [if_neg z1, toldP_n _ z1]
    have d1 : (E1 != 0) = true := by simpa using z1
    go_enter Tryz.func19, Tryz.ntmps19
    go_wp2_with (first
      | (with_reducible refine box_f HK.out rfl _ rfl rfl ?_; intro b1 u hk; clear HK; have HK := Lib.hid hk; clear hk; with_reducible refine box_f HK.out rfl _ rfl rfl ?_; intro b2 u hk; clear HK; have HK := Lib.hid hk; clear hk)
      | (with_reducible refine alloc_f HK.out f_zeroP rfl rfl ?_; intro br u hk; clear HK; have HK := Lib.hid hk; clear hk))
    refine Draws.start (S := fun u => KeepF w [(br, 33, (zP.fd none 0).cells), (b2, 33, (q.fd B d).cells), (b1, 33, (p.fd A c).cells)] [(A, p.hs.length, p.hs), (B, q.hs.length, q.hs)] u) (n := 5) 5 rfl (by kernel_rfl) ?_
    have hk := HK.out.drew
    clear HK; have HK := Lib.hid hk; clear hk
    have HS := Lib.hid (show (fun u => KeepF w [(br, 33, (zP.fd none 0).cells), (b2, 33, (q.fd B d).cells), (b1, 33, (p.fd A c).cells)] [(A, p.hs.length, p.hs), (B, q.hs.length, q.hs)] u) _ from HK.out)
    refine Draws.take 0 HS.out rfl (by kernel_rfl) (fun _ _ _ h => h) (yield_fr (fun _ h => h) 2 Tryz.underlying33 rfl (Pf.infoF HF.out) _ rfl rfl rfl rfl Pf.all) ?_
    (try simp only [Act.put, List.setIfInBounds_toArray, List.set_cons_zero, List.set_cons_succ])
    refine Draws.take 2 HS.out rfl (by kernel_rfl) (fun _ _ _ h => h) (yield_fr (fun _ h => h) 1 Tryz.underlying33 rfl (Pf.infoF HG.out) _ rfl rfl rfl rfl Pf.all) ?_
    (try simp only [Act.put, List.setIfInBounds_toArray, List.set_cons_zero, List.set_cons_succ])
    refine Draws.does 1 rfl (by kernel_rfl) rfl (fun K hK => ?_)
    go_simp
    go_at_call 47
    refine (hh1 _).mono ?_
    rintro e u ⟨rfl, hb⟩
    (try dsimp only)
    have hk := HK.out.call hb; clear hb; clear HK; have HK := Lib.hid hk; clear hk
    refine hK.out _ _ (fun _ => HK.out) ?_
    clear hK K
    have hs : (fun u => KeepF w [(br, 33, (zP.fd none 0).cells), (b2, 33, (q.fd B d).cells), (b1, 33, (p.fd A c).cells)] [(A, p.hs.length, p.hs), (B, q.hs.length, q.hs)] u) u := HK.out
    clear HS
    have HS := Lib.hid hs; clear hs
    (try simp only [Act.put, List.setIfInBounds_toArray, List.set_cons_zero, List.set_cons_succ])
    refine Draws.does 3 rfl (by kernel_rfl) rfl (fun K hK => ?_)
    go_simp
    go_at_call 47
    refine (hh2 _).mono ?_
    rintro e u ⟨rfl, hb⟩
    (try dsimp only)
    have hk := HK.out.call hb; clear hb; clear HK; have HK := Lib.hid hk; clear hk
    refine hK.out _ _ (fun _ => HK.out) ?_
    clear hK K
    have hs : (fun u => KeepF w [(br, 33, (zP.fd none 0).cells), (b2, 33, (q.fd B d).cells), (b1, 33, (p.fd A c).cells)] [(A, p.hs.length, p.hs), (B, q.hs.length, q.hs)] u) u := HK.out
    clear HS
    have HS := Lib.hid hs; clear hs
    (try simp only [Act.put, List.setIfInBounds_toArray, List.set_cons_zero, List.set_cons_succ])
    refine Draws.take 4 HS.out rfl (by kernel_rfl) (fun _ _ _ h => h) (yield_neqv hd_guard (eql_hd p) _ _ _ rfl rfl rfl rfl) ?_
    (try simp only [Act.put, List.setIfInBounds_toArray, List.set_cons_zero, List.set_cons_succ])
    refine Draws.done (by kernel_rfl) ?_
    clear HS
    go_wp2_with (first
      | (with_reducible refine load_fr HK.out 2 Tryz.underlying28 rfl (Pf.infoC HF.out) _ rfl rfl rfl rfl Pf.cC ?_)
      | (with_reducible refine load_fr HK.out 1 Tryz.underlying28 rfl (Pf.infoC HG.out) _ rfl rfl rfl rfl Pf.cC ?_)
      | (go_at_call 48; (with_reducible refine (hcj _).mono ?_); rintro e u ⟨rfl, hb⟩; have hk := HK.out.call hb; clear hb; clear HK; have HK := Lib.hid hk; clear hk)
      | (with_reducible refine alloc_f HK.out c_zeroF rfl rfl ?_; intro bd u hk; clear HK; have HK := Lib.hid hk; clear hk)
      | (with_reducible refine store_fr HK.out 0 (infoC HA.out) (vals_all _) rfl rfl _ _ rfl rfl rfl rfl (putC_le (zer_length 579) HA.out) (putC ((zer_length 579).trans HA.out.symm)) ?_; intro u hk; simp only [List.set_cons_zero] at hk; clear HK; have HK := Lib.hid hk; clear hk)
      | (with_reducible refine build_f f_buildP rfl rfl ?_)
      | (with_reducible refine store_fr HK.out 1 (Pf.infoF zP_full) (Fd.one _) rfl rfl _ _ rfl rfl rfl rfl (Fd.leP zP_full zP_full) (Fd.setAllP zP_full zP_full) ?_; intro u hk; simp only [List.set_cons_zero, List.set_cons_succ] at hk; clear HK; have HK := Lib.hid hk; clear hk))
    exact bodyPost_ret (results_f2 rfl Tryz.underlying33 rfl (Pf.infoF zP_full) _ HK.out 1 _ rfl rfl rfl) rfl ⟨none, 0, rfl, Got.nil _ _ _ _ _ _, HK.out.bel⟩

/-! ### Sixteen fields. -/
abbrev Q := Pf × Option Addr × Nat
def Q.cells (x : Q) : List Value := (x.1.fd x.2.1 x.2.2).cells
end Go.Proofs.YtofngihdnjgmeaaGreat

namespace Go.Proofs.YtofngihdnjgmeaaGreat
set_option maxRecDepth 100000
open Go.ChangeShapes Go.WideShapes Go.ChangeAt Go.RowKit

theorem str_ne {s t : ByteArray} (h : s ≠ t) : (s.toList == t.toList) = false := by
  rw [beq_eq_false_iff_ne, ByteArray.toList_eq, ByteArray.toList_eq]
  exact fun e => h (bytes_inj e)
theorem str_eq {s t : ByteArray} (h : s = t) : (s.toList == t.toList) = true := by subst h; simp
theorem ne_str_want {ops : Array Oper} {rest : List Oper} {o : Oper} {a : Act} {u : World} {Q : Exit → Act → World → Prop} {s t : ByteArray} {b : Bool} (hb : (s.toList == t.toList) = b) (x y : Operand) (ty : TypeId) (ho : o.op = .binOp .neq 9 x y ty) (hx : a.eval x = .string s) (hy : a.eval y = .string t)
    (hw : Region.wanted o (yielded ops a.tmps) = true) (h : wpList Tryz.prog ops Q rest (a.put o.dst (.bool !b)) u) : wpList Tryz.prog ops Q (o :: rest) a u :=
  BigFrame.wpList_want hw fun K hK => by
    subst hb
    have h1 := hK _ _ h
    unfold Oper.wp execOp
    simp only [ho, hx, hy]
    simp [go_sem]
    simpa [Act.put] using h1
theorem Pf.cL2 {p : Pf} {D : List Int} {R : List Ho} {A : Option Addr} {c : Nat} (h : ((p.setC D).setH R).full) : ∀ j v, (vals p.L.l)[j]? = some v → (((p.setC D).setH R).fd A c).cells[582 + j]? = some v := Pf.cL h
theorem rjoin_sl (A B : Option Addr) (na ca nb cb : Nat) (xa xb : List Ho) (w : World) (hda : Row w A na xa) (hdb : Row w B nb xb) :
    Calls Tryz.prog 20 #[.slice A na ca, .slice B nb cb] w fun e w' => ∃ A1 c1, e = .returned (.tuple #[.slice A1 (joinLH xa xb).length c1, .int .i64 (joinE xa xb)]) ∧ Own w' w.heap.size (.slice A1 (joinLH xa xb).length c1) (joinLH xa xb) ∧ Below w.heap.size w w' :=
  (rjoin_anyH A B na ca nb cb xa xb w hda hdb).mono fun e w' ⟨v, h1, h2, h3⟩ => by
    obtain ⟨A1, c1, rfl⟩ := h2.slice
    exact ⟨A1, c1, h1, h2, h3⟩
set_option maxHeartbeats 4000000 in
theorem rfjoin_any (p q : Pf) (hp : p.full) (hq : q.full) (A B : Option Addr) (c d : Nat) (w : World) (hd1 : Row w A p.hs.length p.hs) (hd2 : Row w B q.hs.length q.hs) :
    Calls Tryz.prog 17 #[.agg (p.fd A c).cells.toArray, .agg (q.fd B d).cells.toArray] w fun e w' => ∃ A1 c1, e = .returned (.tuple #[.agg ((joinP p q).fd A1 c1).cells.toArray, .int .i64 (joinPE p q)]) ∧ Row w' A1 (joinP p q).hs.length (joinP p q).hs ∧ Fresh w.heap.size A1 c1 (joinP p q).hs ∧ Below w.heap.size w w' := by
  have HK := Lib.hid (KeepF.start (w := w) (rows := [(A, p.hs.length, p.hs), (B, q.hs.length, q.hs)]) (by simpa using ⟨hd1, hd2⟩))
  have HF := Lib.hid hp; have HG := Lib.hid hq
  clear hd1 hd2
  have hbad : headB p q = false → joinPE p q = 1 ∧ joinP p q = zP := fun h => by
    have e : joinPE p q = 1 := by simp [joinPE, h]
    exact ⟨e, by rw [joinP, e]; rfl⟩
  by_cases h1 : p.nm = q.nm
  · by_cases h2 : p.k = q.k
    · by_cases h3 : p.e = q.e
      · have hhd : headB p q = true := by simp [headB, h1, h2, h3]
        have N0 := Lib.hid (str_eq h1)
        have N1 := Lib.hid (show (p.k != q.k) = false by simpa using h2)
        have N2 := Lib.hid (show (p.e != q.e) = false by simpa using h3)
        have hcj := rcjoin_any p.C q.C hp hq
        have HA := Lib.hid (cjA_length (B := q.C) hp)
        have e1 : joinPE p q = if cjE p.C q.C = 0 then joinE p.hs q.hs else cjE p.C q.C := by simp [joinPE, hhd]
        have e2 : joinP p q = toldP ⟨p.nm, p.k, p.e, cjA p.C q.C, joinK p.L q.L, joinLH p.hs q.hs⟩ (if cjE p.C q.C = 0 then joinE p.hs q.hs else cjE p.C q.C) := by rw [joinP, e1]
        rw [e1, e2]
        have hhj := fun w h1 h2 => rjoin_sl A B p.hs.length c q.hs.length d p.hs q.hs w h1 h2
        have HLE := Lib.hid (show (joinLH p.hs q.hs).length ≤ 1000 by have := joinL_lenH p.hs q.hs; omega)
        have hlj := rjoin_anyK p.L q.L
        clear hp hq e1 e2 hhd h1 h2 h3 hbad
        generalize cjA p.C q.C = D at hcj HA ⊢
        generalize cjE p.C q.C = E1 at hcj ⊢
        generalize joinLH p.hs q.hs = R at hhj HLE ⊢
        generalize joinE p.hs q.hs = E2 at hhj ⊢
        generalize joinK p.L q.L = M at hlj ⊢
        by_cases z1 : E1 = 0
        · subst z1
          rw [if_pos rfl]
          by_cases z2 : E2 = 0
          · subst z2
            rw [toldP_0]
            go_enter Tryz.func17, Tryz.ntmps17
            go_wp2_with (first
              | (with_reducible refine box_f HK.out rfl _ rfl rfl ?_; intro b1 u hk; clear HK; have HK := Lib.hid hk; clear hk; with_reducible refine box_f HK.out rfl _ rfl rfl ?_; intro b2 u hk; clear HK; have HK := Lib.hid hk; clear hk)
              | (with_reducible refine alloc_f HK.out f_zeroP rfl rfl ?_; intro br u hk; clear HK; have HK := Lib.hid hk; clear hk)
              | (with_reducible refine load_f1 HK.out 2 cbS _ rfl rfl rfl rfl Pf.cn ?_)
              | (with_reducible refine load_f1 HK.out 1 cbS _ rfl rfl rfl rfl Pf.cn ?_)
              | (with_reducible refine load_f1 HK.out 2 cbI _ rfl rfl rfl rfl Pf.ck ?_)
              | (with_reducible refine load_f1 HK.out 1 cbI _ rfl rfl rfl rfl Pf.ck ?_)
              | (with_reducible refine load_f1 HK.out 2 cbI _ rfl rfl rfl rfl Pf.ce ?_)
              | (with_reducible refine load_f1 HK.out 1 cbI _ rfl rfl rfl rfl Pf.ce ?_)
              | (with_reducible refine ne_str_want N0.out _ _ _ rfl rfl rfl rfl ?_)
              | (with_reducible refine neq_want N1.out _ _ _ rfl rfl rfl rfl ?_)
              | (with_reducible refine neq_want N2.out _ _ _ rfl rfl rfl rfl ?_)
              | (with_reducible refine load_fr HK.out 2 Tryz.underlying28 rfl (Pf.infoC HF.out) _ rfl rfl rfl rfl Pf.cC ?_)
              | (with_reducible refine load_fr HK.out 1 Tryz.underlying28 rfl (Pf.infoC HG.out) _ rfl rfl rfl rfl Pf.cC ?_)
              | (go_at_call 44; (with_reducible refine (hcj _).mono ?_); rintro e u ⟨rfl, hb⟩; have hk := HK.out.call hb; clear hb; clear HK; have HK := Lib.hid hk; clear hk)
              | (with_reducible refine alloc_f HK.out c_zeroF rfl rfl ?_; intro bd u hk; clear HK; have HK := Lib.hid hk; clear hk)
              | (with_reducible refine store_fr HK.out 0 (infoC HA.out) (vals_all _) rfl rfl _ _ rfl rfl rfl rfl (putC_le (zer_length 579) HA.out) (putC ((zer_length 579).trans HA.out.symm)) ?_; intro u hk; simp only [List.set_cons_zero] at hk; clear HK; have HK := Lib.hid hk; clear hk)
              | (with_reducible refine load_f1 HK.out 3 cbH _ rfl rfl rfl rfl (Pf.cH HF.out) ?_)
              | (with_reducible refine load_f1 HK.out 2 cbH _ rfl rfl rfl rfl (Pf.cH HG.out) ?_)
              | (go_at_call 20; (with_reducible refine (hhj _ (HK.out.rowAt 0 rfl) (HK.out.rowAt 1 rfl)).mono ?_); rintro e u ⟨A1, c1, rfl, ho, hb⟩; have HX := Lib.hid ((Fresh.own ho).mono HK.out.bel.size); have hk := HK.out.own hb ho HLE.out; clear ho hb; clear HK; have HK := Lib.hid hk; clear hk)
              | (with_reducible refine load_fr HK.out 0 Tryz.underlying28 rfl (infoC HA.out) _ rfl rfl rfl rfl (fun j v h => by rw [Nat.zero_add]; exact h) ?_)
              | (with_reducible refine store_fr HK.out 3 (infoC HA.out) (vals_all _) rfl rfl _ _ rfl rfl rfl rfl (Fd.leC HF.out HA.out) (Pf.toC HF.out HA.out) ?_; intro u hk; simp only [List.set_cons_zero, List.set_cons_succ] at hk; clear HK; have HK := Lib.hid hk; clear hk)
              | (with_reducible refine store_f1 HK.out 3 cbH rfl rfl _ _ rfl rfl rfl rfl rfl (Fd.ltH (Pf.fullC (p := p) (D := D) HA.out)) (Pf.toH (Pf.fullC (p := p) (D := D) HA.out) _ _ _) ?_; intro u hk; simp only [List.set_cons_zero, List.set_cons_succ] at hk; clear HK; have HK := Lib.hid hk; clear hk)
              | (with_reducible refine load_fr HK.out 3 Tryz.underlying30 rfl (l_infoF _) _ rfl rfl rfl rfl (Pf.cL2 (Pf.fullH (Pf.fullC (p := p) (D := D) HA.out) R)) ?_)
              | (with_reducible refine load_fr HK.out 2 Tryz.underlying30 rfl (l_infoF _) _ rfl rfl rfl rfl (Pf.cL HG.out) ?_)
              | (go_at_call 45; (with_reducible refine (hlj _).mono ?_); rintro e u ⟨rfl, hb⟩; have hk := HK.out.call hb; clear hb; clear HK; have HK := Lib.hid hk; clear hk)
              | (with_reducible refine store_fr HK.out 3 (l_infoF _) (vals_all _) rfl rfl _ _ rfl rfl rfl rfl (Fd.leL (Pf.fullH (Pf.fullC (p := p) (D := D) HA.out) R)) (Pf.toL (Pf.fullH (Pf.fullC (p := p) (D := D) HA.out) R) _) ?_; intro u hk; simp only [List.set_cons_zero, List.set_cons_succ] at hk; clear HK; have HK := Lib.hid hk; clear hk)
              | (with_reducible refine load_fr HK.out 3 Tryz.underlying33 rfl (Pf.infoF (Pf.fullL (Pf.fullH (Pf.fullC (p := p) (D := D) HA.out) R) M)) _ rfl rfl rfl rfl Pf.all ?_)
              | (with_reducible refine store_fr HK.out 1 (Pf.infoF (Pf.fullL (Pf.fullH (Pf.fullC (p := p) (D := D) HA.out) R) M)) (Fd.one _) rfl rfl _ _ rfl rfl rfl rfl (Fd.leP zP_full (Pf.fullL (Pf.fullH (Pf.fullC (p := p) (D := D) HA.out) R) M)) (Fd.setAllP zP_full (Pf.fullL (Pf.fullH (Pf.fullC (p := p) (D := D) HA.out) R) M)) ?_; intro u hk; simp only [List.set_cons_zero, List.set_cons_succ] at hk; clear HK; have HK := Lib.hid hk; clear hk))
            exact bodyPost_ret (results_f2 rfl Tryz.underlying33 rfl (Pf.infoF (Pf.fullL (Pf.fullH (Pf.fullC (p := p) (D := D) HA.out) R) M)) _ HK.out 1 _ rfl rfl rfl) rfl ⟨A1, c1, rfl, HK.out.rowAt 0 rfl, HX.out, HK.out.bel⟩
          · rw [toldP_n _ z2]
            have d2 : (E2 != 0) = true := by simpa using z2
            go_enter Tryz.func17, Tryz.ntmps17
            go_wp2_with (first
              | (with_reducible refine box_f HK.out rfl _ rfl rfl ?_; intro b1 u hk; clear HK; have HK := Lib.hid hk; clear hk; with_reducible refine box_f HK.out rfl _ rfl rfl ?_; intro b2 u hk; clear HK; have HK := Lib.hid hk; clear hk)
              | (with_reducible refine alloc_f HK.out f_zeroP rfl rfl ?_; intro br u hk; clear HK; have HK := Lib.hid hk; clear hk)
              | (with_reducible refine load_f1 HK.out 2 cbS _ rfl rfl rfl rfl Pf.cn ?_)
              | (with_reducible refine load_f1 HK.out 1 cbS _ rfl rfl rfl rfl Pf.cn ?_)
              | (with_reducible refine load_f1 HK.out 2 cbI _ rfl rfl rfl rfl Pf.ck ?_)
              | (with_reducible refine load_f1 HK.out 1 cbI _ rfl rfl rfl rfl Pf.ck ?_)
              | (with_reducible refine load_f1 HK.out 2 cbI _ rfl rfl rfl rfl Pf.ce ?_)
              | (with_reducible refine load_f1 HK.out 1 cbI _ rfl rfl rfl rfl Pf.ce ?_)
              | (with_reducible refine ne_str_want N0.out _ _ _ rfl rfl rfl rfl ?_)
              | (with_reducible refine neq_want N1.out _ _ _ rfl rfl rfl rfl ?_)
              | (with_reducible refine neq_want N2.out _ _ _ rfl rfl rfl rfl ?_)
              | (with_reducible refine load_fr HK.out 2 Tryz.underlying28 rfl (Pf.infoC HF.out) _ rfl rfl rfl rfl Pf.cC ?_)
              | (with_reducible refine load_fr HK.out 1 Tryz.underlying28 rfl (Pf.infoC HG.out) _ rfl rfl rfl rfl Pf.cC ?_)
              | (go_at_call 44; (with_reducible refine (hcj _).mono ?_); rintro e u ⟨rfl, hb⟩; have hk := HK.out.call hb; clear hb; clear HK; have HK := Lib.hid hk; clear hk)
              | (with_reducible refine alloc_f HK.out c_zeroF rfl rfl ?_; intro bd u hk; clear HK; have HK := Lib.hid hk; clear hk)
              | (with_reducible refine store_fr HK.out 0 (infoC HA.out) (vals_all _) rfl rfl _ _ rfl rfl rfl rfl (putC_le (zer_length 579) HA.out) (putC ((zer_length 579).trans HA.out.symm)) ?_; intro u hk; simp only [List.set_cons_zero] at hk; clear HK; have HK := Lib.hid hk; clear hk)
              | (with_reducible refine load_f1 HK.out 3 cbH _ rfl rfl rfl rfl (Pf.cH HF.out) ?_)
              | (with_reducible refine load_f1 HK.out 2 cbH _ rfl rfl rfl rfl (Pf.cH HG.out) ?_)
              | (go_at_call 20; (with_reducible refine (hhj _ (HK.out.rowAt 0 rfl) (HK.out.rowAt 1 rfl)).mono ?_); rintro e u ⟨A1, c1, rfl, ho, hb⟩; have HX := Lib.hid ((Fresh.own ho).mono HK.out.bel.size); have hk := HK.out.own hb ho HLE.out; clear ho hb; clear HK; have HK := Lib.hid hk; clear hk)
              | (with_reducible refine build_f f_buildP rfl rfl ?_)
              | (with_reducible refine store_fr HK.out 1 (Pf.infoF zP_full) (Fd.one _) rfl rfl _ _ rfl rfl rfl rfl (Fd.leP zP_full zP_full) (Fd.setAllP zP_full zP_full) ?_; intro u hk; simp only [List.set_cons_zero, List.set_cons_succ] at hk; clear HK; have HK := Lib.hid hk; clear hk))
            exact bodyPost_ret (results_f2 rfl Tryz.underlying33 rfl (Pf.infoF zP_full) _ HK.out 1 _ rfl rfl rfl) rfl ⟨none, 0, rfl, Row.nil _ _, Fresh.nil _ _ _, HK.out.bel⟩
        · rw [if_neg z1, toldP_n _ z1]
          have d1 : (E1 != 0) = true := by simpa using z1
          go_enter Tryz.func17, Tryz.ntmps17
          go_wp2_with (first
            | (with_reducible refine box_f HK.out rfl _ rfl rfl ?_; intro b1 u hk; clear HK; have HK := Lib.hid hk; clear hk; with_reducible refine box_f HK.out rfl _ rfl rfl ?_; intro b2 u hk; clear HK; have HK := Lib.hid hk; clear hk)
            | (with_reducible refine alloc_f HK.out f_zeroP rfl rfl ?_; intro br u hk; clear HK; have HK := Lib.hid hk; clear hk)
            | (with_reducible refine load_f1 HK.out 2 cbS _ rfl rfl rfl rfl Pf.cn ?_)
            | (with_reducible refine load_f1 HK.out 1 cbS _ rfl rfl rfl rfl Pf.cn ?_)
            | (with_reducible refine load_f1 HK.out 2 cbI _ rfl rfl rfl rfl Pf.ck ?_)
            | (with_reducible refine load_f1 HK.out 1 cbI _ rfl rfl rfl rfl Pf.ck ?_)
            | (with_reducible refine load_f1 HK.out 2 cbI _ rfl rfl rfl rfl Pf.ce ?_)
            | (with_reducible refine load_f1 HK.out 1 cbI _ rfl rfl rfl rfl Pf.ce ?_)
            | (with_reducible refine ne_str_want N0.out _ _ _ rfl rfl rfl rfl ?_)
            | (with_reducible refine neq_want N1.out _ _ _ rfl rfl rfl rfl ?_)
            | (with_reducible refine neq_want N2.out _ _ _ rfl rfl rfl rfl ?_)
            | (with_reducible refine load_fr HK.out 2 Tryz.underlying28 rfl (Pf.infoC HF.out) _ rfl rfl rfl rfl Pf.cC ?_)
            | (with_reducible refine load_fr HK.out 1 Tryz.underlying28 rfl (Pf.infoC HG.out) _ rfl rfl rfl rfl Pf.cC ?_)
            | (go_at_call 44; (with_reducible refine (hcj _).mono ?_); rintro e u ⟨rfl, hb⟩; have hk := HK.out.call hb; clear hb; clear HK; have HK := Lib.hid hk; clear hk)
            | (with_reducible refine alloc_f HK.out c_zeroF rfl rfl ?_; intro bd u hk; clear HK; have HK := Lib.hid hk; clear hk)
            | (with_reducible refine store_fr HK.out 0 (infoC HA.out) (vals_all _) rfl rfl _ _ rfl rfl rfl rfl (putC_le (zer_length 579) HA.out) (putC ((zer_length 579).trans HA.out.symm)) ?_; intro u hk; simp only [List.set_cons_zero] at hk; clear HK; have HK := Lib.hid hk; clear hk)
            | (with_reducible refine build_f f_buildP rfl rfl ?_)
            | (with_reducible refine store_fr HK.out 1 (Pf.infoF zP_full) (Fd.one _) rfl rfl _ _ rfl rfl rfl rfl (Fd.leP zP_full zP_full) (Fd.setAllP zP_full zP_full) ?_; intro u hk; simp only [List.set_cons_zero, List.set_cons_succ] at hk; clear HK; have HK := Lib.hid hk; clear hk))
          exact bodyPost_ret (results_f2 rfl Tryz.underlying33 rfl (Pf.infoF zP_full) _ HK.out 1 _ rfl rfl rfl) rfl ⟨none, 0, rfl, Row.nil _ _, Fresh.nil _ _ _, HK.out.bel⟩
      · obtain ⟨e1, e2⟩ := hbad (by simp [headB, h3])
        rw [e1, e2]
        have N0 := Lib.hid (str_eq h1)
        have N1 := Lib.hid (show (p.k != q.k) = false by simpa using h2)
        have N2 := Lib.hid (show (p.e != q.e) = true by simpa using h3)
        clear hp hq hbad e1 e2 h1 h2 h3
        go_enter Tryz.func17, Tryz.ntmps17
        go_wp2_with (first
          | (with_reducible refine box_f HK.out rfl _ rfl rfl ?_; intro b1 u hk; clear HK; have HK := Lib.hid hk; clear hk; with_reducible refine box_f HK.out rfl _ rfl rfl ?_; intro b2 u hk; clear HK; have HK := Lib.hid hk; clear hk)
          | (with_reducible refine alloc_f HK.out f_zeroP rfl rfl ?_; intro br u hk; clear HK; have HK := Lib.hid hk; clear hk)
          | (with_reducible refine load_f1 HK.out 2 cbS _ rfl rfl rfl rfl Pf.cn ?_)
          | (with_reducible refine load_f1 HK.out 1 cbS _ rfl rfl rfl rfl Pf.cn ?_)
          | (with_reducible refine load_f1 HK.out 2 cbI _ rfl rfl rfl rfl Pf.ck ?_)
          | (with_reducible refine load_f1 HK.out 1 cbI _ rfl rfl rfl rfl Pf.ck ?_)
          | (with_reducible refine load_f1 HK.out 2 cbI _ rfl rfl rfl rfl Pf.ce ?_)
          | (with_reducible refine load_f1 HK.out 1 cbI _ rfl rfl rfl rfl Pf.ce ?_)
          | (with_reducible refine ne_str_want N0.out _ _ _ rfl rfl rfl rfl ?_)
          | (with_reducible refine neq_want N1.out _ _ _ rfl rfl rfl rfl ?_)
          | (with_reducible refine neq_want N2.out _ _ _ rfl rfl rfl rfl ?_)
          | (with_reducible refine build_f f_buildP rfl rfl ?_)
          | (with_reducible refine store_fr HK.out 0 (Pf.infoF zP_full) (Fd.one _) rfl rfl _ _ rfl rfl rfl rfl (Fd.leP zP_full zP_full) (Fd.setAllP zP_full zP_full) ?_; intro u hk; simp only [List.set_cons_zero] at hk; clear HK; have HK := Lib.hid hk; clear hk))
        exact bodyPost_ret (results_f2 rfl Tryz.underlying33 rfl (Pf.infoF zP_full) _ HK.out 0 _ rfl rfl rfl) rfl ⟨none, 0, rfl, Row.nil _ _, Fresh.nil _ _ _, HK.out.bel⟩
    · obtain ⟨e1, e2⟩ := hbad (by simp [headB, h2])
      rw [e1, e2]
      have N0 := Lib.hid (str_eq h1)
      have N1 := Lib.hid (show (p.k != q.k) = true by simpa using h2)
      clear hp hq hbad e1 e2 h1 h2
      go_enter Tryz.func17, Tryz.ntmps17
      go_wp2_with (first
        | (with_reducible refine box_f HK.out rfl _ rfl rfl ?_; intro b1 u hk; clear HK; have HK := Lib.hid hk; clear hk; with_reducible refine box_f HK.out rfl _ rfl rfl ?_; intro b2 u hk; clear HK; have HK := Lib.hid hk; clear hk)
        | (with_reducible refine alloc_f HK.out f_zeroP rfl rfl ?_; intro br u hk; clear HK; have HK := Lib.hid hk; clear hk)
        | (with_reducible refine load_f1 HK.out 2 cbS _ rfl rfl rfl rfl Pf.cn ?_)
        | (with_reducible refine load_f1 HK.out 1 cbS _ rfl rfl rfl rfl Pf.cn ?_)
        | (with_reducible refine load_f1 HK.out 2 cbI _ rfl rfl rfl rfl Pf.ck ?_)
        | (with_reducible refine load_f1 HK.out 1 cbI _ rfl rfl rfl rfl Pf.ck ?_)
        | (with_reducible refine load_f1 HK.out 2 cbI _ rfl rfl rfl rfl Pf.ce ?_)
        | (with_reducible refine load_f1 HK.out 1 cbI _ rfl rfl rfl rfl Pf.ce ?_)
        | (with_reducible refine ne_str_want N0.out _ _ _ rfl rfl rfl rfl ?_)
        | (with_reducible refine neq_want N1.out _ _ _ rfl rfl rfl rfl ?_)
        | (with_reducible refine build_f f_buildP rfl rfl ?_)
        | (with_reducible refine store_fr HK.out 0 (Pf.infoF zP_full) (Fd.one _) rfl rfl _ _ rfl rfl rfl rfl (Fd.leP zP_full zP_full) (Fd.setAllP zP_full zP_full) ?_; intro u hk; simp only [List.set_cons_zero] at hk; clear HK; have HK := Lib.hid hk; clear hk))
      exact bodyPost_ret (results_f2 rfl Tryz.underlying33 rfl (Pf.infoF zP_full) _ HK.out 0 _ rfl rfl rfl) rfl ⟨none, 0, rfl, Row.nil _ _, Fresh.nil _ _ _, HK.out.bel⟩
  · obtain ⟨e1, e2⟩ := hbad (by simp [headB, h1])
    rw [e1, e2]
    have N0 := Lib.hid (str_ne h1)
    clear hp hq hbad e1 e2 h1
    go_enter Tryz.func17, Tryz.ntmps17
    go_wp2_with (first
      | (with_reducible refine box_f HK.out rfl _ rfl rfl ?_; intro b1 u hk; clear HK; have HK := Lib.hid hk; clear hk; with_reducible refine box_f HK.out rfl _ rfl rfl ?_; intro b2 u hk; clear HK; have HK := Lib.hid hk; clear hk)
      | (with_reducible refine alloc_f HK.out f_zeroP rfl rfl ?_; intro br u hk; clear HK; have HK := Lib.hid hk; clear hk)
      | (with_reducible refine load_f1 HK.out 2 cbS _ rfl rfl rfl rfl Pf.cn ?_)
      | (with_reducible refine load_f1 HK.out 1 cbS _ rfl rfl rfl rfl Pf.cn ?_)
      | (with_reducible refine load_f1 HK.out 2 cbI _ rfl rfl rfl rfl Pf.ck ?_)
      | (with_reducible refine load_f1 HK.out 1 cbI _ rfl rfl rfl rfl Pf.ck ?_)
      | (with_reducible refine load_f1 HK.out 2 cbI _ rfl rfl rfl rfl Pf.ce ?_)
      | (with_reducible refine load_f1 HK.out 1 cbI _ rfl rfl rfl rfl Pf.ce ?_)
      | (with_reducible refine ne_str_want N0.out _ _ _ rfl rfl rfl rfl ?_)
      | (with_reducible refine build_f f_buildP rfl rfl ?_)
      | (with_reducible refine store_fr HK.out 0 (Pf.infoF zP_full) (Fd.one _) rfl rfl _ _ rfl rfl rfl rfl (Fd.leP zP_full zP_full) (Fd.setAllP zP_full zP_full) ?_; intro u hk; simp only [List.set_cons_zero] at hk; clear HK; have HK := Lib.hid hk; clear hk))
    exact bodyPost_ret (results_f2 rfl Tryz.underlying33 rfl (Pf.infoF zP_full) _ HK.out 0 _ rfl rfl rfl) rfl ⟨none, 0, rfl, Row.nil _ _, Fresh.nil _ _ _, HK.out.bel⟩
end Go.Proofs.YtofngihdnjgmeaaGreat

namespace Go.Proofs.YtofngihdnjgmeaaGreat
set_option maxRecDepth 100000
open Go.ChangeShapes Go.WideShapes Go.ChangeAt Go.RowKit

theorem join_parts {p q : Pf} (h : joinPE p q = 0) : (p.nm = q.nm ∧ p.k = q.k ∧ p.e = q.e) ∧ cjE p.C q.C = 0 ∧ joinE p.hs q.hs = 0 := by
  unfold joinPE at h
  by_cases h1 : headB p q = true
  · rw [if_pos h1] at h
    by_cases h2 : cjE p.C q.C = 0
    · rw [if_pos h2] at h
      exact ⟨by simpa [headB] using h1, h2, h⟩
    · rw [if_neg h2] at h; exact absurd h h2
  · rw [if_neg h1] at h; exact absurd h (by decide)
theorem join_is {p q : Pf} (h : joinPE p q = 0) : joinP p q = ⟨p.nm, p.k, p.e, cjA p.C q.C, joinK p.L q.L, joinLH p.hs q.hs⟩ := by
  rw [joinP, h, toldP_0]
theorem joinPE_of {p q : Pf} (h1 : p.nm = q.nm) (h2 : p.k = q.k) (h3 : p.e = q.e) (h4 : cjE p.C q.C = 0) (h5 : joinE p.hs q.hs = 0) : joinPE p q = 0 := by
  rw [joinPE, if_pos (by simp [headB, h1, h2, h3]), if_pos h4, h5]
theorem joinE_nil : joinE [] [] = 0 := by decide
theorem joinL_nilH : joinLH [] [] = [] := by decide
theorem dP_at {v : Int} {p : Pf} (h : dnErr v p = 0) : dP v p = ⟨p.nm, p.k, if v = 3 then p.e else 0, p.C, p.L, if v = 1 then [] else p.hs⟩ ∨ verB v = false := by
  cases hb : verB v with
  | false => exact .inr rfl
  | true =>
    refine .inl ?_
    rw [dP, if_pos h]
    rcases ver_cases hb with rfl | rfl | rfl <;> rfl
structure DnJ (v : Int) (p q : Pf) : Prop where
  nm : (dP v q).nm = (dP v p).nm
  k : (dP v q).k = (dP v p).k
  e : (dP v q).e = (dP v p).e
  err : joinPE (dP v p) (dP v q) = 0
  is : joinP (dP v p) (dP v q) = dP v (joinP p q)
  herr : joinE (dH v p) (dH v q) = 0
  his : joinLH (dH v p) (dH v q) = dH v (joinP p q)
  ep : dE v (joinP p q) = dE v p
theorem dn_join {v : Int} {p q : Pf} (hv : verB v = true) (h : joinPE p q = 0) (ha : rightP p = true) (hb : rightP q = true) (hj : rightP (joinP p q) = true) : DnJ v p q := by
  obtain ⟨⟨h1, h2, h3⟩, h4, h5⟩ := join_parts h
  have ea : dnErr v p = 0 := by simp [dnErr, ha, hv]
  have eb : dnErr v q = 0 := by simp [dnErr, hb, hv]
  have ej : dnErr v (joinP p q) = 0 := by simp [dnErr, hj, hv]
  have no : ¬ verB v = false := by simp [hv]
  have da := (dP_at ea).resolve_right no
  have db := (dP_at eb).resolve_right no
  have dj := (dP_at ej).resolve_right no
  have ji := join_is h
  have la : dH v p = if v = 1 then p.hs else [] := by rw [dH, if_pos ea]
  have lb : dH v q = if v = 1 then q.hs else [] := by rw [dH, if_pos eb]
  have lj : dH v (joinP p q) = if v = 1 then (joinP p q).hs else [] := by rw [dH, if_pos ej]
  have xa : dE v p = if v = 3 then 0 else p.e := by rw [dE, if_pos ea]
  have xj : dE v (joinP p q) = if v = 3 then 0 else (joinP p q).e := by rw [dE, if_pos ej]
  have he : joinE (if v = 1 then [] else p.hs) (if v = 1 then [] else q.hs) = 0 := by
    split
    · exact joinE_nil
    · exact h5
  have herr : joinPE (dP v p) (dP v q) = 0 := by
    rw [da, db]
    refine joinPE_of h1 h2 ?_ h4 he
    show (if v = 3 then p.e else 0) = (if v = 3 then q.e else 0)
    rw [h3]
  refine ⟨by rw [da, db]; exact h1.symm, by rw [da, db]; exact h2.symm, by rw [da, db, h3], herr, ?_, ?_, ?_, ?_⟩
  · rw [join_is herr, dj, da, db, ji]
    by_cases h0 : v = 1
    · subst h0; simp [joinL_nilH]
    · simp [h0]
  · rw [la, lb]
    split
    · exact h5
    · exact joinE_nil
  · rw [la, lb, lj, ji]
    split
    · rfl
    · exact joinL_nilH
  · rw [xa, xj, ji]
theorem Row.rng {u : World} {b off n m : Nat} {hs : List Ho} (h : Row u (some ⟨b, off, none⟩) n hs) (hm : m < n) {x : Ho} (hx : hs.getD m z5 = x) : u.rangeAt b (off + m * 5) (vals x.l) := by
  obtain ⟨b', off', e, hr⟩ := h.at hm
  injection e with e; injection e with e1 e2
  subst e1; subst e2; subst hx
  exact hr m hm
theorem keep_two {w u : World} {x1 y1 : Nat × TypeId × List Value} {l : List (Nat × TypeId × List Value)} {r1 r2 r3 r4 : Option Addr × Nat × List Ho} {rows : List (Option Addr × Nat × List Ho)} (h : KeepF w (x1 :: y1 :: l) (r1 :: r2 :: r3 :: r4 :: rows) u) : KeepF w [y1] [r1, r4] u :=
  (h.sub (List.singleton_sublist.2 (.tail _ (.head _)))).look fun r hr => by
    rcases List.mem_cons.1 hr with rfl | hr
    · exact .head _
    · rcases List.mem_cons.1 hr with rfl | hr
      · exact .tail _ (.tail _ (.tail _ (.head _)))
      · cases hr
end Go.Proofs.YtofngihdnjgmeaaGreat
