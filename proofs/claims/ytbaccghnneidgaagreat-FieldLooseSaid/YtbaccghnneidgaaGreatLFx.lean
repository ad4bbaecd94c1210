/- What holds of fields that replicas know, as far as it is asked what is loose: numbers that are not too great. No walk. -/
import Derived.Test.YtbaccghnneidgaaGreatLFp
import Derived.Test.YtbaccghnneidgaaGreatLHoJo
import Derived.Test.YtbaccghnneidgaaGreatLLkj
import Derived.Test.YtbaccghnneidgaaGreatLCtJoin
import Derived.Test.YtbaccghnneidgaaGreatLRtc
namespace Go.Proofs.YtbaccghnneidgaaGreat
set_option maxRecDepth 100000
open Go.ChangeShapes Go.WideShapes Go.ChangeAt Go.RowKit

theorem use_is {R : List Int} (hR : R.length = 288) {k n : Int} (h : useE R k n = 0) : ∃ k' : Nat, k = k' ∧ k' < 16 ∧ 0 ≤ n ∧ n ≤ 1099511627776 ∧ isB (R.getD (16 + k') 0 + n) = true ∧ useA R k n = R.set (16 + k') (R.getD (16 + k') 0 + n) := by
  by_cases hp : preU R k n = 0
  · obtain ⟨e1, e2⟩ := use_yes hp
    rw [e1] at h
    obtain ⟨j, rfl, hj, hn, hok, e3⟩ := gr_zero (by omega) h
    obtain ⟨_, o2, o3⟩ := okB_iff.1 hok
    exact ⟨j, rfl, hj, hn, (isB_iff.1 o2).2, o3, by rw [e2, e3]⟩
  · simp [useE, hp] at h
theorem give_is {R : List Int} (hR : R.length = 288) {k n : Int} (h : grE R 0 k n = 0) : ∃ k' : Nat, k = k' ∧ k' < 16 ∧ 0 ≤ n ∧ n ≤ 1099511627776 ∧ isB (R.getD k' 0 + n) = true ∧ grA R 0 k n = R.set k' (R.getD k' 0 + n) := by
  obtain ⟨j, rfl, hj, hn, hok, e3⟩ := gr_zero (by omega) h
  rw [Nat.zero_add] at hok e3
  obtain ⟨_, o2, o3⟩ := okB_iff.1 hok
  exact ⟨j, rfl, hj, hn, (isB_iff.1 o2).2, o3, e3⟩
/-- What was moved, where nothing was wrong. -/
theorem move_is {R : List Int} (hR : R.length = 288) {i k n : Int} (h : moveE R i k n = 0) : ∃ i' k' : Nat, i = i' ∧ k = k' ∧ i' < 16 ∧ k' < 16 ∧ i' ≠ k' ∧ 0 ≤ n ∧ n ≤ freeN R i' ∧ moveA R i k n = R.set (32 + i' * 16 + k') (R.getD (32 + i' * 16 + k') 0 + n) := by
  by_cases hp : preM R i k n = 0
  · have hpre := hp
    unfold preM at hp
    split at hp
    · rename_i hc
      obtain ⟨hri, hrk, hik, hn⟩ := hc
      obtain ⟨i', rfl⟩ : ∃ j : Nat, i = j := ⟨i.toNat, by have := repB_iff.1 hri; omega⟩
      have hi' : i' < 16 := by have := repB_iff.1 hri; omega
      obtain ⟨e1, e2⟩ := move_yes hpre
      rw [e1] at h
      obtain ⟨j, rfl, hj, _, _, e3⟩ := gr_zero (by omega) h
      refine ⟨i', j, rfl, rfl, hi', hj, by omega, hn, ?_, by rw [e2, e3]⟩
      unfold coverE at hp
      split at hp
      · omega
      · rename_i hc
        have h1 : ¬ freeN R i' < n := fun h2 => hc ⟨hp, h2⟩
        omega
    · omega
  · simp [moveE, hp] at h
theorem head_du {C A1 A2 : List Int} (h : C.length = 579) (h1 : A1.length = 288) (h2 : A2.length = 288) : ∀ p, p < 3 → (splice (splice C 3 A1) 291 A2).getD p 0 = C.getD p 0 := fun p hp => by
  rw [splice_get _ _ _ _ (by rw [splice_length]; omega), if_neg (by omega), splice_get _ _ _ _ (by omega), if_neg (by omega)]
theorem head_ud {C A1 A2 : List Int} (h : C.length = 579) (h1 : A1.length = 288) (h2 : A2.length = 288) : ∀ p, p < 3 → (splice (splice C 291 A1) 3 A2).getD p 0 = C.getD p 0 := fun p hp => by
  rw [splice_get _ _ _ _ (by rw [splice_length]; omega), if_neg (by omega), splice_get _ _ _ _ (by omega), if_neg (by omega)]
theorem dn_du {C A1 A2 : List Int} (h : C.length = 579) (h1 : A1.length = 288) (h2 : A2.length = 288) : dnR (splice (splice C 3 A1) 291 A2) = A1 := by
  unfold dnR; rw [splice_seg_apart (by rw [splice_length]; omega) (by rw [splice_length]; omega) (by omega), splice_seg_same h1 (by omega)]
theorem up_du {C A1 A2 : List Int} (h : C.length = 579) (h2 : A2.length = 288) : upR (splice (splice C 3 A1) 291 A2) = A2 := by
  unfold upR; rw [splice_seg_same h2 (by rw [splice_length]; omega)]
theorem up_ud {C A1 A2 : List Int} (h : C.length = 579) (h1 : A1.length = 288) (h2 : A2.length = 288) : upR (splice (splice C 291 A1) 3 A2) = A1 := by
  unfold upR; rw [splice_seg_apart (by rw [splice_length]; omega) (by rw [splice_length]; omega) (by omega), splice_seg_same h1 (by omega)]
theorem dn_ud {C A1 A2 : List Int} (h : C.length = 579) (h2 : A2.length = 288) : dnR (splice (splice C 291 A1) 3 A2) = A2 := by
  unfold dnR; rw [splice_seg_same h2 (by rw [splice_length]; omega)]

theorem both_zero {e1 e2 : Int} (h : bothE e1 e2 = 0) : e1 = 0 ∧ e2 = 0 := by
  unfold bothE at h; split at h
  · exact ⟨by assumption, h⟩
  · contradiction
/-- What adding does, where it can be. -/
theorem inc_is {C : List Int} (hC : C.length = 579) {k n : Int} (he : incE C k n = 0) :
    useE (upR C) k n = 0 ∧ grE (dnR C) 0 k n = 0 ∧ upR (incA C k n) = useA (upR C) k n ∧ dnR (incA C k n) = grA (dnR C) 0 k n ∧ (incA C k n).length = 579 ∧ ∀ p, p < 3 → (incA C k n).getD p 0 = C.getD p 0 := by
  obtain ⟨h1, h2⟩ := both_zero he
  have lu := useA_length (upR_length hC) k n
  have lg := grA_length (dnR_length hC) 0 k n
  have e : incA C k n = splice (splice C 291 (useA (upR C) k n)) 3 (grA (dnR C) 0 k n) := by unfold incA; rw [h1, h2, bothA_yes]
  exact ⟨h1, h2, by rw [e, up_ud hC lu lg], by rw [e, dn_ud hC lg], incA_length hC k n, by rw [e]; exact head_ud hC lu lg⟩
theorem dec_is {C : List Int} (hC : C.length = 579) {k n : Int} (he : decE C k n = 0) :
    useE (dnR C) k n = 0 ∧ grE (upR C) 0 k n = 0 ∧ dnR (decA C k n) = useA (dnR C) k n ∧ upR (decA C k n) = grA (upR C) 0 k n ∧ (decA C k n).length = 579 ∧ ∀ p, p < 3 → (decA C k n).getD p 0 = C.getD p 0 := by
  obtain ⟨h1, h2⟩ := both_zero he
  have lu := useA_length (dnR_length hC) k n
  have lg := grA_length (upR_length hC) 0 k n
  have e : decA C k n = splice (splice C 3 (useA (dnR C) k n)) 291 (grA (upR C) 0 k n) := by unfold decA; rw [h1, h2, bothA_yes]
  exact ⟨h1, h2, by rw [e, dn_du hC lu lg], by rw [e, up_du hC lg], decA_length hC k n, by rw [e]; exact head_du hC lu lg⟩
theorem hand_is {C : List Int} (hC : C.length = 579) {i k d u : Int} (he : handE C i k d u = 0) :
    moveE (dnR C) i k d = 0 ∧ moveE (upR C) i k u = 0 ∧ dnR (handA C i k d u) = moveA (dnR C) i k d ∧ upR (handA C i k d u) = moveA (upR C) i k u ∧ (handA C i k d u).length = 579 ∧ ∀ p, p < 3 → (handA C i k d u).getD p 0 = C.getD p 0 := by
  obtain ⟨h1, h2⟩ := both_zero he
  have lu := moveA_length (dnR_length hC) i k d
  have lg := moveA_length (upR_length hC) i k u
  have e : handA C i k d u = splice (splice C 3 (moveA (dnR C) i k d)) 291 (moveA (upR C) i k u) := by unfold handA; rw [h1, h2, bothA_yes]
  exact ⟨h1, h2, by rw [e, dn_du hC lu lg], by rw [e, up_du hC lg], handA_length hC i k d u, by rw [e]; exact head_du hC lu lg⟩
theorem cjC_is {A B : List Int} (hA : A.length = 579) (hB : B.length = 579) : dnR (cjC A B) = joinL (dnR A) (dnR B) ∧ upR (cjC A B) = joinL (upR A) (upR B) ∧ ∀ p, p < 3 → (cjC A B).getD p 0 = A.getD p 0 := by
  have l1 := jl_length (dnR_length hA) (dnR_length hB)
  have l2 := jl_length (upR_length hA) (upR_length hB)
  exact ⟨dn_du hA l1 l2, up_du hA l2, head_du hA l1 l2⟩

theorem set_mem {l : List Ho} {i : Nat} {y x : Ho} (h : x ∈ l.set i y) : x ∈ l ∨ x = y := List.mem_or_eq_of_mem_set h
theorem rights_state {l : List Ho} {i : Nat} (hr : rightsL l = true) (hi : i < l.length) {st : Int} (hs : st = 2 ∨ st = 3) : rightsL (l.set i (setS (l.getD i z5) st)) = true := by
  obtain ⟨h1, h2, h3⟩ := rights_iff.1 hr
  refine rights_iff.2 ⟨by simpa using h1, fun x hx => ?_, ?_⟩
  · rcases set_mem hx with hx | rfl
    · exact h2 x hx
    · have := rightH_iff.1 (h2 _ (getD_mem hi))
      rw [rightH_iff]
      simp only [setS]
      omega
  · have hn : ∀ j (hj : j < l.length), ((l.set i (setS (l.getD i z5) st))[j]'(by simpa using hj)).r = l[j].r ∧ ((l.set i (setS (l.getD i z5) st))[j]'(by simpa using hj)).n = l[j].n := fun j hj => by
      rw [List.getElem_set]
      split
      · rename_i e; subst e; rw [getD_get hi]; exact ⟨rfl, rfl⟩
      · exact ⟨rfl, rfl⟩
    rw [List.pairwise_iff_getElem] at *
    intro p q hp hq hpq
    simp only [List.length_set] at hp hq
    have := h3 p q hp hq hpq
    unfold AH at *
    rw [(hn p hp).1, (hn p hp).2, (hn q hq).1, (hn q hq).2]
    exact this
theorem tot_set : ∀ {xs : List Int} {i : Nat} {v : Int}, i < xs.length → tot (xs.set i v) = tot xs - xs.getD i 0 + v
  | x :: xs, 0, v, _ => by simp only [List.set_cons_zero, tot, List.getD_cons_zero]; omega
  | x :: xs, i + 1, v, h => by
    have ih := tot_set (xs := xs) (i := i) (v := v) (by simpa using h)
    simp only [List.set_cons_succ, tot, List.getD_cons_succ, ih]; omega
theorem parts_set {l : List Ho} {i : Nat} {k : Int} {y : Ho} (hi : i < l.length) : tot (parts k (l.set i y)) = tot (parts k l) - (if holdsB k (l.getD i z5) then (l.getD i z5).a else 0) + (if holdsB k y then y.a else 0) := by
  rw [parts, List.map_set]
  rw [tot_set (by simpa using hi)]
  congr 2
  simp only [List.getD, List.getElem?_map, List.getElem?_eq_getElem hi, Option.map_some, Option.getD_some]
theorem tot_amount {l : List Ho} {k : Int} (h16 : l.length ≤ 16) (hr : ∀ h ∈ l, rightH h = true) (hb : ∀ h ∈ l, h.a ≤ 1073741824) : 0 ≤ tot (parts k l) ∧ tot (parts k l) ≤ 17179869184 := by
  refine ⟨tot_nonneg fun z hz => ?_, ?_⟩
  · obtain ⟨h, hh, rfl⟩ := List.mem_map.1 hz
    have := rightH_iff.1 (hr h hh)
    split <;> omega
  · have h1 := tot_small (xs := parts k l) 1073741824 (by omega) fun z hz => by
      obtain ⟨h, hh, rfl⟩ := List.mem_map.1 hz
      have := hb h hh
      split <;> omega
    have h2 : (parts k l).length = l.length := by simp [parts]
    rw [h2] at h1
    have h3 : (l.length : Int) ≤ 16 := by omega
    have h4 : (l.length : Int) * 1073741824 ≤ 16 * 1073741824 := Int.mul_le_mul_of_nonneg_right h3 (by omega)
    omega
/-- All that the statement asks of one that was reserved. -/
theorem new_facts {l : List Ho} {k a d : Int} (h0 : resE l k a d = 0) (hb : ∀ h ∈ l, h.a ≤ 1073741824) (ha : a ≤ 1073741824) :
    rightsL l = true ∧ resN l k a d = gr l k + 1 ∧ resL l k a d = insH l (newH l k a d) ∧ (insH l (newH l k a d)).length = l.length + 1 ∧ rightsL (insH l (newH l k a d)) = true ∧ fnd l k (gr l k + 1) = none ∧ fnd (insH l (newH l k a d)) k (gr l k + 1) = some (newH l k a d)
    ∧ sumOf (insH l (newH l k a d)) k = sumOf l k + a ∧ 0 ≤ sumOf l k ∧ sumOf l k ≤ 17179869184 ∧ 0 ≤ a
    ∧ ∀ st, st = 2 ∨ st = 3 → endE (insH l (newH l k a d)) k (gr l k + 1) st = 0 ∧ endA (insH l (newH l k a d)) k (gr l k + 1) st = a ∧ rightsL (endL (insH l (newH l k a d)) k (gr l k + 1) st) = true ∧ sumOf (endL (insH l (newH l k a d)) k (gr l k + 1) st) k = sumOf l k ∧ (endL (insH l (newH l k a d)) k (gr l k + 1) st).length = l.length + 1 := by
  have hall : (rightsL l && rightH (newH l k a d)) = true := by
    unfold resE at h0
    split at h0
    · assumption
    · omega
  have hn16 : l.length ≠ 16 := by
    intro e
    have := (res_full hall e).1
    omega
  obtain ⟨_, e2, e3⟩ := res_good hall hn16
  rw [Bool.and_eq_true] at hall
  obtain ⟨hr, hnew⟩ := hall
  obtain ⟨q1, q2, q3⟩ := rights_iff.1 hr
  have hrise := insH_rises q3 (new_apart (l := l) (k := k) (a := a) (d := d))
  have hrm : rightsL (insH l (newH l k a d)) = true := rights_iff.2 ⟨by rw [insH_length]; omega, fun x hx => by
    rcases mem_insH.1 hx with rfl | hx
    · exact hnew
    · exact q2 x hx, hrise⟩
  have hfl : fnd l k (gr l k + 1) = none := by
    rw [fnd, List.find?_eq_none]
    intro x hx e
    have h1 := nm_iff.1 e
    have := gr_over hx h1.1
    omega
  have hfm : fnd (insH l (newH l k a d)) k (gr l k + 1) = some (newH l k a d) := fnd_mem (x := newH l k a d) hrise (mem_insH.2 (.inl rfl))
  have ha0 : 0 ≤ a := by have := rightH_iff.1 hnew; simp only [newH] at this; omega
  have hh : holdsB k (newH l k a d) = true := by simp [holdsB, newH]
  obtain ⟨t1, t2⟩ := tot_amount (k := k) q1 q2 hb
  have hsl : sumOf l k = tot (parts k l) := by rw [sumOf, hr, if_pos rfl, sumL_tot q2]; omega
  have htm : tot (parts k (insH l (newH l k a d))) = tot (parts k l) + a := by
    rw [parts_perm (insH_perm l _) k]
    show tot ((if holdsB k (newH l k a d) then (newH l k a d).a else 0) :: parts k l) = _
    rw [hh, if_pos rfl, tot]
    show a + _ = _
    omega
  have hsm : sumOf (insH l (newH l k a d)) k = sumOf l k + a := by
    rw [sumOf, hrm, if_pos rfl, sumL_tot (rights_iff.1 hrm).2.1, htm, hsl]; omega
  refine ⟨hr, e2, e3, insH_length _ _, hrm, hfl, hfm, hsm, by omega, by omega, ha0, fun st hst => ?_⟩
  rcases plc_cases (insH l (newH l k a d)) k (gr l k + 1) with ⟨_, hno⟩ | ⟨m, hm, _, hyes, hno⟩
  · rw [fnd_miss hno] at hfm; cases hfm
  · have hg : (insH l (newH l k a d)).getD m z5 = newH l k a d := by
      have := fnd_hit hm hno hyes
      rw [hfm] at this
      injection this with this
      exact this.symm
    obtain ⟨f1, f2, f3⟩ := end_good (st := st) (by rw [hrm]; rcases hst with h | h <;> simp [h]) hm hno hyes (by rw [hg]; rfl)
    have hrx := rights_state hrm hm hst
    rw [f3]
    have hsx : sumOf ((insH l (newH l k a d)).set m (setS ((insH l (newH l k a d)).getD m z5) st)) k = sumOf l k := by
      rw [sumOf, hrx, if_pos rfl, sumL_tot (rights_iff.1 hrx).2.1, parts_set hm, htm, hsl, hg, hh, if_pos rfl]
      rw [if_neg (show ¬ holdsB k (setS (newH l k a d) st) = true by simp [holdsB, setS]; omega)]
      show min (tot (parts k l) + a - a + 0) _ = _
      omega
    exact ⟨f1, by rw [f2, hg]; rfl, hrx, hsx, by rw [List.length_set, insH_length]⟩

theorem right_goes {k now : Int} {h : Ho} (hr : rightH h = true) : rightH (goes k now h) = true := by
  have h' := rightH_iff.1 hr
  unfold goes
  split
  · exact rightH_iff.2 (by simp only [setS]; omega)
  · exact hr
theorem rights_goes {l : List Ho} (k now : Int) (hr : rightsL l = true) : rightsL (l.map (goes k now)) = true := by
  obtain ⟨h1, h2, h3⟩ := rights_iff.1 hr
  refine rights_iff.2 ⟨by simpa using h1, fun x hx => ?_, ?_⟩
  · obtain ⟨y, hy, rfl⟩ := List.mem_map.1 hx
    exact right_goes (h2 y hy)
  · rw [List.pairwise_map]
    refine h3.imp fun {a b} h => ?_
    unfold AH at *
    rw [(goes_name k now a).1, (goes_name k now a).2.1, (goes_name k now b).1, (goes_name k now b).2.1]
    exact h

def headB (p q : Pf) : Bool := decide (p.nm = q.nm ∧ p.k = q.k ∧ p.e = q.e)
def joinPE (p q : Pf) : Int := if headB p q then (if cjE p.C q.C = 0 then joinE p.hs q.hs else cjE p.C q.C) else 1
def joinP (p q : Pf) : Pf := toldP ⟨p.nm, p.k, p.e, cjA p.C q.C, joinK p.L q.L, joinLH p.hs q.hs⟩ (joinPE p q)
theorem joinP_full {p q : Pf} (h : p.full) : (joinP p q).full := toldP_full (p := ⟨p.nm, p.k, p.e, cjA p.C q.C, joinK p.L q.L, joinLH p.hs q.hs⟩) (cjA_length h) _
/-- A field that replicas of one counter know behind t steps. -/
structure Iv (i : Int) (t : Nat) (p : Pf) : Prop where
  k : p.k = 1
  nm : p.nm = ⟨#[97]⟩
  e : p.e = 0
  full : p.full
  i0 : p.C.getD 0 0 = i
  D : ∀ q, q < 288 → 0 ≤ (dnR p.C).getD q 0 ∧ (dnR p.C).getD q 0 ≤ 3000 * ((t : Int) + 1)
  U : ∀ q, q < 288 → 0 ≤ (upR p.C).getD q 0 ∧ (upR p.C).getD q 0 ≤ 3000 * ((t : Int) + 1)
  hr : rightsL p.hs = true
  ha : ∀ h ∈ p.hs, h.a ≤ 3000
  hn : ∀ h ∈ p.hs, h.n ≤ t
theorem Iv.later {i : Int} {t : Nat} {p : Pf} (h : Iv i t p) : Iv i (t + 1) p :=
  ⟨h.k, h.nm, h.e, h.full, h.i0, fun q hq => by have := h.D q hq; push_cast; omega, fun q hq => by have := h.U q hq; push_cast; omega, h.hr, h.ha, fun x hx => by have := h.hn x hx; push_cast; omega⟩
theorem bd_set {R : List Int} (hR : R.length = 288) {B n : Int} (h : ∀ q, q < 288 → 0 ≤ R.getD q 0 ∧ R.getD q 0 ≤ B) {j : Nat} (hj : j < 288) (h0 : 0 ≤ n) (h1 : n ≤ 3000) : ∀ q, q < 288 → 0 ≤ (R.set j (R.getD j 0 + n)).getD q 0 ∧ (R.set j (R.getD j 0 + n)).getD q 0 ≤ B + 3000 := fun q hq => by
  rw [set_get (by omega)]
  have h2 := h j hj
  have h3 := h q hq
  split <;> omega
theorem Iv.turn {i : Int} {t : Nat} {p : Pf} (h : Iv i t p) {C : List Int} (hl : C.length = 579) (h0 : C.getD 0 0 = p.C.getD 0 0) {a b : Nat} (ha : a < 288) (hb : b < 288) {n m : Int} (n0 : 0 ≤ n) (n1 : n ≤ 3000) (m0 : 0 ≤ m) (m1 : m ≤ 3000)
    (eD : dnR C = (dnR p.C).set a ((dnR p.C).getD a 0 + n)) (eU : upR C = (upR p.C).set b ((upR p.C).getD b 0 + m)) : Iv i (t + 1) (p.setC C) :=
  ⟨h.k, h.nm, h.e, hl, by rw [show (p.setC C).C = C from rfl, h0]; exact h.i0,
    fun q hq => by rw [show (p.setC C).C = C from rfl, eD]; have := bd_set (dnR_length h.full) h.D ha n0 n1 q hq; push_cast; omega,
    fun q hq => by rw [show (p.setC C).C = C from rfl, eU]; have := bd_set (upR_length h.full) h.U hb m0 m1 q hq; push_cast; omega,
    h.hr, h.ha, fun x hx => by have := h.hn x hx; push_cast; omega⟩
theorem Iv.dec {i : Int} {t : Nat} {p : Pf} (h : Iv i t p) {k n : Int} (n1 : n ≤ 3000) (he : decE p.C k n = 0) : Iv i (t + 1) (p.setC (decA p.C k n)) := by
  obtain ⟨e1, e2, e3, e4, e5, e6⟩ := dec_is h.full he
  obtain ⟨k1, rfl, hk1, n0, _, _, e7⟩ := use_is (dnR_length h.full) e1
  obtain ⟨k2, hk2, hk3, _, _, _, e8⟩ := give_is (upR_length h.full) e2
  exact h.turn e5 (e6 0 (by omega)) (a := 16 + k1) (b := k2) (by omega) (by omega) n0 n1 n0 n1 (by rw [e3, e7]) (by rw [e4, e8])
theorem Iv.inc {i : Int} {t : Nat} {p : Pf} (h : Iv i t p) {k n : Int} (n1 : n ≤ 3000) (he : incE p.C k n = 0) : Iv i (t + 1) (p.setC (incA p.C k n)) := by
  obtain ⟨e1, e2, e3, e4, e5, e6⟩ := inc_is h.full he
  obtain ⟨k1, rfl, hk1, n0, _, _, e7⟩ := use_is (upR_length h.full) e1
  obtain ⟨k2, hk2, hk3, _, _, _, e8⟩ := give_is (dnR_length h.full) e2
  exact h.turn e5 (e6 0 (by omega)) (a := k2) (b := 16 + k1) (by omega) (by omega) n0 n1 n0 n1 (by rw [e4, e8]) (by rw [e3, e7])
theorem Iv.add {i : Int} {t : Nat} {p : Pf} (h : Iv i t p) {k n : Int} (hn : -3000 ≤ n ∧ n ≤ 3000) (he : addPE p k n = 0) : Iv i (t + 1) (addP p k n) := by
  have e : addP p k n = p.setC (addPC p k n) := by rw [addP, he, toldP_0]
  rw [e]
  unfold addPE at he
  rw [if_pos h.k] at he
  unfold addPC
  split
  · rename_i h0
    rw [if_pos h0] at he
    exact h.inc hn.2 he
  · rename_i h0
    rw [if_neg h0] at he
    split
    · rename_i h1
      rw [if_pos h1] at he
      cases he
    · rename_i h1
      rw [if_neg h1] at he
      exact h.dec (by omega) he
theorem Iv.hand {i : Int} {t : Nat} {p : Pf} (h : Iv i t p) {a k d u : Int} (hd : d ≤ 3000) (hu : u ≤ 3000) (he : handPE p a k d u = 0) : Iv i (t + 1) (handP p a k d u) := by
  have e : handP p a k d u = p.setC (handPC p a k d u) := by rw [handP, he, toldP_0]
  rw [e]
  unfold handPE at he
  rw [if_pos h.k] at he
  unfold handPC
  split
  · rename_i h1
    rw [if_pos h1] at he
    cases he
  · rename_i h1
    rw [if_neg h1] at he
    obtain ⟨e1, e2, e3, e4, e5, e6⟩ := hand_is h.full he
    obtain ⟨i1, k1, _, _, hi1, hk1, _, d0, _, e7⟩ := move_is (dnR_length h.full) e1
    obtain ⟨i2, k2, _, _, hi2, hk2, _, u0, _, e8⟩ := move_is (upR_length h.full) e2
    exact h.turn e5 (e6 0 (by omega)) (a := 32 + i1 * 16 + k1) (b := 32 + i2 * 16 + k2) (by omega) (by omega) d0 hd u0 hu (by rw [e3, e7]) (by rw [e4, e8])
theorem Iv.holds {i : Int} {t : Nat} {p : Pf} (h : Iv i t p) {hs : List Ho} (hr : rightsL hs = true) (ha : ∀ x ∈ hs, x.a ≤ 3000) (hn : ∀ x ∈ hs, x.n ≤ (t : Int) + 1) : Iv i (t + 1) (p.setH hs) :=
  ⟨h.k, h.nm, h.e, h.full, h.i0, h.later.D, h.later.U, hr, ha, fun x hx => by have := hn x hx; push_cast; omega⟩
theorem grTo_le {l : List Ho} {k T : Int} (hT : 0 ≤ T) (h : ∀ x ∈ l, x.n ≤ T) : ∀ m, m ≤ l.length → grTo l k m ≤ T
  | 0, _ => by rw [grTo]; exact hT
  | m + 1, hm => by
    have ih := grTo_le (k := k) hT h m (by omega)
    have h2 := h _ (getD_mem (show m < l.length by omega))
    rw [grTo]
    split
    · omega
    · exact ih
theorem res_rights {hs : List Ho} {k a d : Int} (h : resE hs k a d = 0) : rightsL (resL hs k a d) = true ∧ resL hs k a d = insH hs (newH hs k a d) := by
  have h0 := h
  unfold resE at h
  split at h
  · rename_i h1
    simp only [Bool.and_eq_true] at h1
    split at h
    · cases h
    · rename_i h16
      obtain ⟨r1, r2, r3⟩ := rights_iff.1 h1.1
      have e : resL hs k a d = insH hs (newH hs k a d) := by rw [resL, if_pos h0]
      refine ⟨?_, e⟩
      rw [e, rights_iff]
      refine ⟨by rw [insH_length]; omega, fun x hx => ?_, insH_rises r3 new_apart⟩
      rcases mem_insH.1 hx with rfl | hx
      · exact h1.2
      · exact r2 x hx
  · cases h
theorem Iv.res {i : Int} {t : Nat} {p : Pf} (h : Iv i t p) {k a d : Int} (ha : a ≤ 3000) (he : resPE p k a d = 0) : Iv i (t + 1) (resP p k a d) := by
  have e : resP p k a d = p.setH (resPH p k a d) := by rw [resP, he, toldP_0]
  rw [e]
  unfold resPE at he
  rw [if_pos h.k] at he
  unfold resPH
  split
  · rename_i h1
    rw [if_pos h1] at he
    cases he
  · rename_i h1
    rw [if_neg h1] at he
    obtain ⟨r1, r2⟩ := res_rights he
    have hg := grTo_le (k := k) (T := t) (by omega) h.hn p.hs.length (Nat.le_refl _)
    refine h.holds r1 (fun x hx => ?_) fun x hx => ?_
    · rw [r2] at hx
      rcases mem_insH.1 hx with rfl | hx
      · exact ha
      · exact h.ha x hx
    · rw [r2] at hx
      rcases mem_insH.1 hx with rfl | hx
      · show gr p.hs k + 1 ≤ _
        rw [gr]; omega
      · have := h.hn x hx; omega
theorem end_is {l : List Ho} {k n st : Int} (h : endE l k n st = 0) : ∃ m, m < l.length ∧ (st = 2 ∨ st = 3) ∧ rightsL l = true ∧ endL l k n st = l.set m (setS (l.getD m z5) st) ∧ endA l k n st = (l.getD m z5).a := by
  have h0 := h
  cases hc : rightsL l && (decide (st = 2) || decide (st = 3)) with
  | false => rw [(end_bad hc).1] at h; cases h
  | true =>
    have hc' := hc
    simp only [Bool.and_eq_true, Bool.or_eq_true, decide_eq_true_eq] at hc'
    rcases plc_cases l k n with ⟨_, hno⟩ | ⟨m, hm, _, hyes, hno⟩
    · rw [(end_none hc (fnd_miss hno)).1] at h; cases h
    · by_cases hs : (l.getD m z5).s = 1
      · obtain ⟨_, e2, e3⟩ := end_good hc hm hno hyes hs
        exact ⟨m, hm, hc'.2, hc'.1, e3, e2⟩
      · rw [(end_state hc (fnd_hit hm hno hyes) hs).1] at h; cases h
theorem Iv.ends {i : Int} {t : Nat} {p : Pf} (h : Iv i t p) {k n s : Int} (he : endPE p k n s = 0) : Iv i (t + 1) (endP p k n s) := by
  have e : endP p k n s = (p.setH (endL p.hs k n s)).setC (endPC p k n s) := by rw [endP, he, toldP_0]
  rw [e]
  unfold endPE at he
  rw [if_pos h.k] at he
  by_cases h1 : endE p.hs k n s = 0
  · rw [if_pos h1] at he
    obtain ⟨m, hm, hst, hr, e1, e2⟩ := end_is h1
    have hmem := getD_mem hm
    have hH : Iv i (t + 1) (p.setH (endL p.hs k n s)) := by
      refine h.holds (by rw [e1]; exact rights_state hr hm hst) (fun x hx => ?_) fun x hx => ?_
      · rw [e1] at hx
        rcases set_mem hx with hx | rfl
        · exact h.ha x hx
        · exact h.ha (p.hs.getD m z5) hmem
      · rw [e1] at hx
        rcases set_mem hx with hx | rfl
        · have := h.hn x hx; omega
        · have := h.hn _ hmem
          show (p.hs.getD m z5).n ≤ _
          omega
    unfold endPC
    rw [if_pos h1]
    split
    · rename_i h2
      rw [if_pos h2] at he
      have hd := h.dec (by rw [e2]; exact h.ha _ hmem) he
      exact ⟨hd.k, hd.nm, hd.e, hd.full, hd.i0, hd.D, hd.U, hH.hr, hH.ha, hH.hn⟩
    · exact hH
  · rw [if_neg h1] at he
    exact absurd he h1
theorem Iv.exp {i : Int} {t : Nat} {p : Pf} (h : Iv i t p) (k now : Int) : Iv i (t + 1) (expP p k now) := by
  unfold expP
  rw [if_pos h.k]
  have e : expL p.hs k now = p.hs.map (goes k now) := by rw [expL, h.hr, if_pos rfl]
  refine h.holds (by rw [e]; exact rights_goes k now h.hr) (fun x hx => ?_) fun x hx => ?_
  · rw [e] at hx
    obtain ⟨y, hy, rfl⟩ := List.mem_map.1 hx
    rw [(goes_name k now y).2.2.1]
    exact h.ha y hy
  · rw [e] at hx
    obtain ⟨y, hy, rfl⟩ := List.mem_map.1 hx
    rw [(goes_name k now y).2.1]
    have := h.hn y hy; omega
theorem Iv.join {i : Int} {t : Nat} {p q : Pf} (h : Iv i t p) (g : Iv i t q) (he : joinPE p q = 0) : Iv i (t + 1) (joinP p q) := by
  have e : joinP p q = ⟨p.nm, p.k, p.e, cjA p.C q.C, joinK p.L q.L, joinLH p.hs q.hs⟩ := by rw [joinP, he, toldP_0]
  rw [e]
  unfold joinPE at he
  split at he
  · split at he
    · rename_i h1
      have hs : sameB p.C q.C = true := by
        unfold cjE at h1
        split at h1
        · assumption
        · cases h1
      have eC : cjA p.C q.C = cjC p.C q.C := by rw [cjA, if_pos hs]
      obtain ⟨d1, d2, d3⟩ := cjC_is h.full g.full
      refine ⟨h.k, h.nm, h.e, cjA_length h.full, ?_, fun z hz => ?_, fun z hz => ?_, join_rights he, fun x hx => ?_, fun x hx => ?_⟩
      · show (cjA p.C q.C).getD 0 0 = i
        rw [eC, d3 0 (by omega)]
        exact h.i0
      · show 0 ≤ (dnR (cjA p.C q.C)).getD z 0 ∧ (dnR (cjA p.C q.C)).getD z 0 ≤ _
        rw [eC, d1, joinL_get (by rw [dnR_length h.full]; exact hz) (by rw [dnR_length g.full]; exact hz)]
        have := h.D z hz
        have := g.D z hz
        push_cast
        omega
      · show 0 ≤ (upR (cjA p.C q.C)).getD z 0 ∧ (upR (cjA p.C q.C)).getD z 0 ≤ _
        rw [eC, d2, joinL_get (by rw [upR_length h.full]; exact hz) (by rw [upR_length g.full]; exact hz)]
        have := h.U z hz
        have := g.U z hz
        push_cast
        omega
      · have hx : x ∈ joinLH p.hs q.hs := hx
        rw [(join_zero he).2.2.2.2] at hx
        rcases mem_jraw.1 (mem_joinJ.1 hx) with ⟨y, hy, rfl⟩ | ⟨hy, _⟩
        · rw [(upd_name q.hs y).2.2.1]; exact h.ha y hy
        · exact g.ha x hy
      · have hx : x ∈ joinLH p.hs q.hs := hx
        rw [(join_zero he).2.2.2.2] at hx
        rcases mem_jraw.1 (mem_joinJ.1 hx) with ⟨y, hy, rfl⟩ | ⟨hy, _⟩
        · rw [(upd_name q.hs y).2.1]; have := h.hn y hy; push_cast; omega
        · have := g.hn x hy; push_cast; omega
    · rename_i h1
      exact absurd he h1
  · cases he
theorem newC_get {i l h : Int} (p : Nat) : (newC i l h).getD p 0 = if p = 291 then h - i else if p = 3 then i - l else if p = 2 then h else if p = 1 then l else if p = 0 then i else 0 := by
  unfold newC
  rw [set_get (by simp [zer_length]), set_get (by simp [zer_length]), set_get (by simp [zer_length]), set_get (by simp [zer_length]), set_get (by simp [zer_length]), zer_get]
theorem Iv.start {i l h : Int} (he : ctPE ⟨#[97]⟩ i l h = 0) (hl : -1000 ≤ l) (hh : h ≤ 1000) : Iv i 0 (ctP ⟨#[97]⟩ i l h) ∧ -1000 ≤ i ∧ i ≤ 1000 := by
  have e1 : nameB ⟨#[97]⟩ = true := by decide +kernel
  have hb : newB i l h = true := by
    unfold ctPE at he
    rw [e1, if_pos rfl] at he
    unfold newE at he
    split at he
    · assumption
    · cases he
  obtain ⟨_, _, b3, b4, _⟩ := newB_iff.1 hb
  have e2 : ctP ⟨#[97]⟩ i l h = ⟨⟨#[97]⟩, 1, 0, newC i l h, zL, []⟩ := by rw [ctP, he, toldP_0]; simp [newA, hb]
  rw [e2]
  refine ⟨⟨rfl, rfl, rfl, newC_length i l h, ?_, fun q hq => ?_, fun q hq => ?_, rights_nil, by simp, by simp⟩, by omega, by omega⟩
  · show (newC i l h).getD 0 0 = i
    rw [newC_get]; rfl
  · show 0 ≤ (dnR (newC i l h)).getD q 0 ∧ (dnR (newC i l h)).getD q 0 ≤ _
    rw [dnR, seg_get hq, newC_get]
    split
    · omega
    · split
      · omega
      · split
        · omega
        · split
          · omega
          · split <;> omega
  · show 0 ≤ (upR (newC i l h)).getD q 0 ∧ (upR (newC i l h)).getD q 0 ≤ _
    rw [upR, seg_get hq, newC_get]
    split
    · omega
    · split
      · omega
      · split
        · omega
        · split
          · omega
          · split <;> omega
theorem V_top {R : List Int} {B : Int} (hB : ∀ p, p < 288 → 0 ≤ R.getD p 0 ∧ R.getD p 0 ≤ B) {j : Nat} (hj : j < 16) : V (at_ R) j ≤ B + sumF (fun _ => B) 16 := by
  have c1 := sumF_le (f := fun m => at_ R (32 + m * 16 + j)) (g := fun _ => B) (n := 16) (fun m hm => (hB _ (by omega)).2)
  have c4 := sumF_le (f := fun _ => 0) (g := fun m => at_ R (32 + j * 16 + m)) (n := 16) (fun m hm => (hB _ (by omega)).1)
  have c5 := hB j (by omega)
  have c6 := hB (16 + j) (by omega)
  rw [sumF_zero] at c4
  unfold V
  simp only [at_] at c1 c4 ⊢
  omega
/-- What is free is told, and not great. -/
theorem Iv.free {i : Int} {t : Nat} {p : Pf} (h : Iv i t p) (ht : t ≤ 100) {k : Nat} (hk : k < 16) : freeE (dnR p.C) k = 0 ∧ freeN (dnR p.C) k = V (at_ (dnR p.C)) k ∧ freeN (dnR p.C) k ≤ 10000000 := by
  have hD : ∀ q, q < 288 → 0 ≤ (dnR p.C).getD q 0 ∧ (dnR p.C).getD q 0 ≤ 303000 := fun q hq => by have := h.D q hq; omega
  obtain ⟨e1, e2⟩ := free_small (dnR_length h.full) hD (by omega) hk
  have e3 := V_top hD hk
  have e4 : sumF (fun _ => (303000 : Int)) 16 = 16 * 303000 := by decide
  exact ⟨e1, e2, by rw [e2]; omega⟩
theorem val_tot {C : List Int} (hC : C.length = 579) (h0 : -1000 ≤ C.getD 0 0 ∧ C.getD 0 0 ≤ 1000) (hD : ∀ q, q < 288 → 0 ≤ (dnR C).getD q 0 ∧ (dnR C).getD q 0 ≤ 30000000000) (hU : ∀ q, q < 288 → 0 ≤ (upR C).getD q 0 ∧ (upR C).getD q 0 ≤ 30000000000) :
    sumN (valL C) = C.getD 0 0 + sumF (fun m => (upR C).getD (16 + m) 0) 16 - sumF (fun m => (dnR C).getD (16 + m) 0) 16 := by
  have hu : ∀ z ∈ seg C 307 16, 0 ≤ z ∧ z ≤ 30000000000 := fun z hz => by
    rw [← up_used] at hz
    obtain ⟨q, hq, rfl⟩ := mem_seg (by rw [upR_length hC]; omega) hz
    exact hU _ (by omega)
  have hd : ∀ z ∈ seg C 19 16, 0 ≤ z ∧ z ≤ 30000000000 := fun z hz => by
    rw [← dn_used] at hz
    obtain ⟨q, hq, rfl⟩ := mem_seg (by rw [dnR_length hC]; omega) hz
    exact hD _ (by omega)
  have hng : ∀ z ∈ negs (seg C 19 16), -30000000000 ≤ z ∧ z ≤ 30000000000 := fun z hz => by
    simp only [negs, List.mem_map] at hz
    obtain ⟨y, hy, rfl⟩ := hz
    have := hd y hy
    rw [ng_small (by omega) (by omega)]
    omega
  have hall : ∀ z ∈ valL C, -30000000000 ≤ z ∧ z ≤ 30000000000 := fun z hz => by
    simp only [valL, List.mem_append, List.mem_cons] at hz
    rcases hz with (rfl | hz) | hz
    · omega
    · have := hu z hz; omega
    · exact hng z hz
  have hs := (sum_small hall (by omega) (by rw [valL_length hC]; decide)).2
  have n2 : tot (negs (seg C 19 16)) = - tot (seg C 19 16) := tot_negs (fun z hz => by have := hd z hz; omega)
  rw [hs, valL, tot_append, n2, ← up_used, ← dn_used, seg_map (R := upR C) (o := 16) (n := 16) (by rw [upR_length hC]; omega), seg_map (R := dnR C) (o := 16) (n := 16) (by rw [dnR_length hC]; omega)]
  simp only [tot, tot_map]
  omega
/-- A dec that what is free covers can be. -/
theorem dec_goes {C : List Int} (hC : C.length = 579) {k : Nat} (hk : k < 16) {n : Int} (n0 : 0 ≤ n) (nb : n ≤ 1099511627776) (f1 : freeE (dnR C) k = 0) (f2 : n ≤ freeN (dnR C) k) (h1 : isB ((dnR C).getD (16 + k) 0) = true ∧ isB ((dnR C).getD (16 + k) 0 + n) = true) (h2 : isB ((upR C).getD k 0) = true ∧ isB ((upR C).getD k 0 + n) = true) : decE C k n = 0 := by
  have hnb : isB n = true := isB_iff.2 (by omega)
  have hg : ∀ (R : List Int) (o : Nat), o + 16 ≤ R.length → isB (R.getD (o + k) 0) = true → isB (R.getD (o + k) 0 + n) = true → grE R o k n = 0 := fun R o ho h3 h4 => by
    refine (grow_yes (xs := seg R o 16) (k := k) (n := n) (by omega) ?_).1
    rw [Int.toNat_natCast, seg_get hk]
    exact okB_iff.2 ⟨h3, hnb, h4⟩
  have hp : preU (dnR C) k n = 0 := by
    rw [preU, if_pos ⟨repB_iff.2 (by omega), n0⟩]
    exact cover_ok f1 (by omega)
  have e1 : useE (dnR C) k n = 0 := by rw [(use_yes hp).1]; exact hg _ 16 (by rw [dnR_length hC]; omega) h1.1 h1.2
  have e2 : grE (upR C) 0 k n = 0 := hg _ 0 (by rw [upR_length hC]; omega) (by rw [Nat.zero_add]; exact h2.1) (by rw [Nat.zero_add]; exact h2.2)
  rw [decE, e1, e2]; rfl
theorem looseP_1 {p : Pf} (h : p.k = 1) (k : Int) : looseP p k = freeN (dnR p.C) k - sumOf p.hs k := by rw [looseP, if_pos h]
/-- All that the statement asks. -/
theorem Iv.loose {i : Int} {t : Nat} {p : Pf} (h : Iv i t p) (ht : t ≤ 100) (hi : -1000 ≤ i ∧ i ≤ 1000) {k : Nat} (hk : k < 16) (a : Int) :
    (resPE p k a 9 ≠ 0 → a < 0 ∨ looseP p k < a ∨ p.hs.length = 16) ∧
    (resPE p k a 9 = 0 → 0 ≤ a ∧ looseP (resP p k a 9) k = looseP p k - a ∧ endPE (resP p k a 9) k (resPN p k a 9) 3 = 0 ∧ looseP (endP (resP p k a 9) k (resPN p k a 9) 3) k = looseP p k ∧
      endPE (resP p k a 9) k (resPN p k a 9) 2 = 0 ∧ looseP (endP (resP p k a 9) k (resPN p k a 9) 2) k = looseP p k - a ∧
      sumN (valL (endP (resP p k a 9) k (resPN p k a 9) 2).C) = sumN (valL p.C) - a ∧ (endP (resP p k a 9) k (resPN p k a 9) 2).k = 1 ∧
      (∀ A c, ((endP (resP p k a 9) k (resPN p k a 9) 2).fd A c).ok) ∧ (∀ z : Nat, upR (resP p k a 9).C = upR p.C)) := by
  obtain ⟨f1, f2, f3⟩ := h.free ht hk
  have eL : looseP p k = freeN (dnR p.C) k - sumOf p.hs k := by rw [looseP, if_pos h.k]
  have hso := sumOf_range p.hs k
  refine ⟨fun he => ?_, fun he => ?_⟩
  · unfold resPE at he
    rw [if_pos h.k] at he
    by_cases h1 : looseP p k < a
    · exact .inr (.inl h1)
    · rw [if_neg h1] at he
      by_cases h2 : a < 0
      · exact .inl h2
      · refine .inr (.inr ?_)
        have hg := grTo_le (k := (k : Int)) (T := t) (by omega) h.hn p.hs.length (Nat.le_refl _)
        have hg0 := (grTo_range (rights_iff.1 h.hr).2.1 (k : Int) p.hs.length (Nat.le_refl _)).1
        have hnew : rightH (newH p.hs k a 9) = true := by
          rw [right_new h.hr]
          have c1 : repBH (k : Int) = true := repB_iffH.2 (by omega)
          have c2 : cntBH a = true := cntB_iffH.2 (by omega)
          have c3 : cntBH 9 = true := by decide
          have c4 : isB (gr p.hs k + 1) = true := isB_iff.2 (by rw [gr]; omega)
          rw [c1, c2, c3, c4]; rfl
        by_cases h3 : p.hs.length = 16
        · exact h3
        · exact absurd (res_good (by rw [h.hr, hnew]; rfl) h3).1 he
  · have he0 := he
    unfold resPE at he
    rw [if_pos h.k] at he
    by_cases h1 : looseP p k < a
    · rw [if_pos h1] at he; cases he
    · rw [if_neg h1] at he
      have ha : a ≤ 1073741824 := by omega
      obtain ⟨g1, g2, g3, g4, g5, g6, g7, g8, g9, g10, g11, g12⟩ := new_facts he (fun x hx => by have := h.ha x hx; omega) ha
      obtain ⟨k1, k2, k3, k4, k5⟩ := g12 3 (.inr rfl)
      obtain ⟨l1, l2, l3, l4, l5⟩ := g12 2 (.inl rfl)
      have eR : resP p k a 9 = p.setH (insH p.hs (newH p.hs k a 9)) := by rw [resP, he0, toldP_0, resPH, if_neg h1, g3]
      have eN : resPN p k a 9 = gr p.hs k + 1 := by rw [resPN, if_pos h.k, if_neg h1, g2]
      rw [eR, eN]
      have d0 : ∀ q, q < 288 → 0 ≤ (dnR p.C).getD q 0 ∧ (dnR p.C).getD q 0 ≤ 303000 := fun q hq => by have := h.D q hq; omega
      have u0 : ∀ q, q < 288 → 0 ≤ (upR p.C).getD q 0 ∧ (upR p.C).getD q 0 ≤ 303000 := fun q hq => by have := h.U q hq; omega
      have dd := d0 (16 + k) (by omega)
      have uu := u0 k (by omega)
      have hdec : decE p.C k a = 0 := dec_goes h.full hk g11 (by omega) f1 (by omega) ⟨isB_iff.2 (by omega), isB_iff.2 (by omega)⟩ ⟨isB_iff.2 (by omega), isB_iff.2 (by omega)⟩
      obtain ⟨e1, e2, e3, e4, e5, e6⟩ := dec_is h.full hdec
      obtain ⟨k', hk', hk1, n0, _, _, e7⟩ := use_is (dnR_length h.full) e1
      obtain ⟨k'', hk'', hk3, _, _, _, e8⟩ := give_is (upR_length h.full) e2
      obtain rfl : k' = k := by omega
      obtain rfl : k'' = k' := by omega
      have hl3 : endP (p.setH (insH p.hs (newH p.hs k'' a 9))) k'' (gr p.hs k'' + 1) 3 = (p.setH (endL (insH p.hs (newH p.hs k'' a 9)) k'' (gr p.hs k'' + 1) 3)) ∧ endPE (p.setH (insH p.hs (newH p.hs k'' a 9))) k'' (gr p.hs k'' + 1) 3 = 0 := by
        have q1 : endPE (p.setH (insH p.hs (newH p.hs k'' a 9))) k'' (gr p.hs k'' + 1) 3 = 0 := by
          unfold endPE
          rw [if_pos (show (p.setH (insH p.hs (newH p.hs k'' a 9))).k = 1 from h.k), show (p.setH (insH p.hs (newH p.hs k'' a 9))).hs = insH p.hs (newH p.hs k'' a 9) from rfl, k1, if_pos rfl, if_neg (by decide)]
        refine ⟨?_, q1⟩
        rw [endP, q1, toldP_0, endPC, show (p.setH (insH p.hs (newH p.hs k'' a 9))).hs = insH p.hs (newH p.hs k'' a 9) from rfl, k1, if_pos rfl, if_neg (by decide)]
        rfl
      have hl2 : endP (p.setH (insH p.hs (newH p.hs k'' a 9))) k'' (gr p.hs k'' + 1) 2 = (p.setH (endL (insH p.hs (newH p.hs k'' a 9)) k'' (gr p.hs k'' + 1) 2)).setC (decA p.C k'' a) ∧ endPE (p.setH (insH p.hs (newH p.hs k'' a 9))) k'' (gr p.hs k'' + 1) 2 = 0 := by
        have q1 : endPE (p.setH (insH p.hs (newH p.hs k'' a 9))) k'' (gr p.hs k'' + 1) 2 = 0 := by
          unfold endPE
          rw [if_pos (show (p.setH (insH p.hs (newH p.hs k'' a 9))).k = 1 from h.k), show (p.setH (insH p.hs (newH p.hs k'' a 9))).hs = insH p.hs (newH p.hs k'' a 9) from rfl, l1, if_pos rfl, if_pos rfl, l2]
          exact hdec
        refine ⟨?_, q1⟩
        rw [endP, q1, toldP_0, endPC, show (p.setH (insH p.hs (newH p.hs k'' a 9))).hs = insH p.hs (newH p.hs k'' a 9) from rfl, l1, if_pos rfl, if_pos rfl, l2]
        rfl
      have hfree : freeN (dnR (decA p.C k'' a)) k'' = freeN (dnR p.C) k'' - a := by
        have hb : ∀ q, q < 288 → 0 ≤ (dnR (decA p.C k'' a)).getD q 0 ∧ (dnR (decA p.C k'' a)).getD q 0 ≤ 1073741824 := fun q hq => by
          rw [e3, e7, set_get (by rw [dnR_length h.full]; omega)]
          have := d0 q hq
          split <;> omega
        rw [(free_small (dnR_length e5) hb (by omega) hk).2, f2, V_use (f := at_ (dnR p.C)) (p := k'') hk (fun q hq hne => by rw [e3, e7, at_set (by rw [dnR_length h.full]; omega), if_neg hne]) hk, if_pos rfl, e3, e7, at_set (by rw [dnR_length h.full]; omega), if_pos rfl]
        simp only [at_]
        omega
      have hval : sumN (valL (decA p.C k'' a)) = sumN (valL p.C) - a := by
        rw [val_tot h.full (by rw [h.i0]; exact hi) (fun q hq => by have := d0 q hq; omega) (fun q hq => by have := u0 q hq; omega),
          val_tot e5 (by rw [e6 0 (by omega), h.i0]; exact hi) (fun q hq => by
            rw [e3, e7, set_get (by rw [dnR_length h.full]; omega)]
            have := d0 q hq
            split <;> omega) (fun q hq => by
            rw [e4, e8, set_get (by rw [upR_length h.full]; omega)]
            have := u0 q hq
            split <;> omega), e6 0 (by omega)]
        rw [sumF_congr (f := fun m => (upR (decA p.C k'' a)).getD (16 + m) 0) (g := fun m => (upR p.C).getD (16 + m) 0) (fun m hm => by rw [e4, e8, set_get (by rw [upR_length h.full]; omega), if_neg (by omega)]),
          sumF_upd (f := fun m => (dnR p.C).getD (16 + m) 0) (g := fun m => (dnR (decA p.C k'' a)).getD (16 + m) 0) (p := k'') hk (fun m hm hne => by rw [e3, e7, set_get (by rw [dnR_length h.full]; omega), if_neg (by omega)])]
        rw [e3, e7, set_get (by rw [dnR_length h.full]; omega), if_pos rfl]
        omega
      rw [hl3.1, hl3.2, hl2.1, hl2.2]
      refine ⟨g11, ?_, rfl, ?_, rfl, ?_, hval, h.k, fun A c z hz => ?_, fun _ => rfl⟩
      · refine (looseP_1 ?_ _).trans ?_
        · exact h.k
        rw [eL]
        show freeN (dnR p.C) k'' - sumOf (insH p.hs (newH p.hs k'' a 9)) k'' = _
        rw [g8]; omega
      · refine (looseP_1 ?_ _).trans ?_
        · exact h.k
        rw [eL]
        show freeN (dnR p.C) k'' - sumOf (endL (insH p.hs (newH p.hs k'' a 9)) k'' (gr p.hs k'' + 1) 3) k'' = _
        rw [k4]
      · refine (looseP_1 ?_ _).trans ?_
        · exact h.k
        rw [eL]
        show freeN (dnR (decA p.C k'' a)) k'' - sumOf (endL (insH p.hs (newH p.hs k'' a 9)) k'' (gr p.hs k'' + 1) 2) k'' = _
        rw [l4, hfree]; omega
      · have hz : z ∈ seg (decA p.C k'' a) 19 16 := hz
        rw [← dn_used] at hz
        obtain ⟨q, hq, rfl⟩ := mem_seg (by rw [dnR_length e5]; omega) hz
        rw [e3, e7, set_get (by rw [dnR_length h.full]; omega)]
        have := d0 (16 + q) (by omega)
        split <;> omega
end Go.Proofs.YtbaccghnneidgaaGreat
