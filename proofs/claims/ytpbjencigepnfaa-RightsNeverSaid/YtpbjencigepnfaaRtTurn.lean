/- What using and giving do to what is free, of numbers up to 2^30; a row of two functions. -/
import Derived.Test.YtpbjencigepnfaaVecs2
import Derived.Test.YtpbjencigepnfaaRtSum
namespace Go.Proofs.Ytpbjencigepnfaa
open Go.ChangeShapes Go.WideShapes Go.ChangeAt Go.RowKit

/-- The two functions that are tried. -/
structure FunAt (u : World) (b : Nat) : Prop where
  c0 : u.cell? ⟨b, 0, none⟩ = some (.func (Fn.func 20) #[] #[])
  c1 : u.cell? ⟨b, 1, none⟩ = some (.func (Fn.func 18) #[] #[])
theorem FunAt.lt {u : World} {b : Nat} (h : FunAt u b) : b < u.heap.size := cell_lt (a := ⟨b, 0, none⟩) h.c0
theorem FunAt.call {u u' : World} {b : Nat} (h : FunAt u b) (hb : Below u.heap.size u u') : FunAt u' b := ⟨by rw [hb.cell h.lt]; exact h.c0, by rw [hb.cell h.lt]; exact h.c1⟩
theorem FunAt.other {u u' : World} {b b' : Nat} (h : FunAt u b) (hs : ∀ k, k ≠ b' → u'.heap[k]? = u.heap[k]?) (hne : b ≠ b') : FunAt u' b := by
  have e := hs b hne
  have h0 := h.c0; have h1 := h.c1
  simp only [World.cell?] at h0 h1
  exact ⟨by simp only [World.cell?, e]; exact h0, by simp only [World.cell?, e]; exact h1⟩
theorem fun_info : (Try.prog.info? 35).map (fun i => (i.zero, i.size, i.bytes)) = some (some .nilFunc, 1, 8) := by kernel_rfl
theorem run_buildF2 (u : World) : (Instr.buildSlice 47 2 #[(0, .func (Fn.func 20) #[] #[]), (1, .func (Fn.func 18) #[] #[])]).run Try.prog u = .ok (.slice (some ⟨u.heap.size, 0, none⟩) 2 2) (u.alloc (.cells #[.func (Fn.func 20) #[] #[], .func (Fn.func 18) #[] #[]] 35)) := by
  obtain ⟨i0, hi0, hz0, hz1, hz2⟩ := info_parts fun_info
  simp [Instr.buildSlice, run_underlying Try.underlying47, sizeOf, typeInfo, zeroValue, hi0, hz0, hz1, Instr.fill, Value.cells, newRow, newObj, set_two]
  rfl
theorem build_funs {ops : Array Oper} {rest : List Oper} {o : Oper} {a : Act} {u : World} {Q : Exit → Act → World → Prop} (hgd : o.guard = none) (ho : o.op = .buildSlice 47 2 #[(0, .func 20), (1, .func 18)])
    (h : ∀ b u', FunAt u' b → Below u.heap.size u u' → wpList Try.prog ops Q rest (a.put o.dst (.slice (some ⟨b, 0, none⟩) 2 2)) u') : wpList Try.prog ops Q (o :: rest) a u :=
  wpList_plain hgd fun K hK => by
    have e := run_buildF2 u
    unfold Oper.wp execOp
    simp only [ho, List.map_toArray, List.map_cons, List.map_nil, Act.eval, Sem.run_bind, Sem.run_pure, Result.andThen_ok, e]
    have hh := heap_alloc_new u (.cells #[.func (Fn.func 20) #[] #[], .func (Fn.func 18) #[] #[]] 35)
    exact hK _ _ (h _ _ ⟨by rw [cell_of_row _ _ _ _ _ (0, 0) hh]; rfl, by rw [cell_of_row _ _ _ _ _ (0, 0) hh]; rfl⟩ ((Below.refl _ _).alloc (Nat.le_refl _) _))

theorem use_is {R : List Int} (hR : R.length = 288) {k n : Int} (h : useE R k n = 0) : ∃ k' : Nat, k = k' ∧ k' < 16 ∧ 0 ≤ n ∧ n ≤ 1099511627776 ∧ isB (R.getD (16 + k') 0 + n) = true ∧ useA R k n = R.set (16 + k') (R.getD (16 + k') 0 + n) := by
  by_cases hp : preU R k n = 0
  · obtain ⟨e1, e2⟩ := use_yes hp
    rw [e1] at h
    obtain ⟨j, rfl, hj, hn, hok, e3⟩ := gr_zero (by omega) h
    obtain ⟨_, o2, o3⟩ := okB_iff.1 hok
    exact ⟨j, rfl, hj, hn, (isB_iff.1 o2).2, o3, by rw [e2, e3]⟩
  · simp [useE, hp] at h
theorem give_is {R : List Int} (hR : R.length = 288) {k n : Int} (h : grE R 0 k n = 0) : ∃ k' : Nat, k = k' ∧ k' < 16 ∧ 0 ≤ n ∧ n ≤ 1099511627776 ∧ isB (R.getD k' 0 + n) = true ∧ grA R 0 k n = R.set k' (R.getD k' 0 + n) := by
  obtain ⟨j, rfl, hj, hn, hok, e3⟩ := gr_zero (by omega) h
  rw [Nat.zero_add] at hok e3
  obtain ⟨_, o2, o3⟩ := okB_iff.1 hok
  exact ⟨j, rfl, hj, hn, (isB_iff.1 o2).2, o3, e3⟩
theorem V_bound {R : List Int} (hB : ∀ p, p < 288 → 0 ≤ R.getD p 0 ∧ R.getD p 0 ≤ 1073741824) {j : Nat} (hj : j < 16) : -17 * 1073741824 ≤ V (at_ R) j ∧ V (at_ R) j ≤ 17 * 1073741824 := by
  have c1 := sumF_le (f := fun m => at_ R (32 + m * 16 + j)) (g := fun _ => 1073741824) (n := 16) (fun m hm => (hB _ (by omega)).2)
  have c2 := sumF_le (f := fun m => at_ R (32 + j * 16 + m)) (g := fun _ => 1073741824) (n := 16) (fun m hm => (hB _ (by omega)).2)
  have c3 := sumF_le (f := fun _ => 0) (g := fun m => at_ R (32 + m * 16 + j)) (n := 16) (fun m hm => (hB _ (by omega)).1)
  have c4 := sumF_le (f := fun _ => 0) (g := fun m => at_ R (32 + j * 16 + m)) (n := 16) (fun m hm => (hB _ (by omega)).1)
  have c5 := hB j (by omega)
  have c6 := hB (16 + j) (by omega)
  rw [sumF_zero] at c3 c4
  have c7 : sumF (fun _ => (1073741824 : Int)) 16 = 16 * 1073741824 := by decide
  rw [c7] at c1 c2
  unfold V
  simp only [at_] at c1 c2 c3 c4 ⊢
  omega
theorem WT_bound {R : List Int} (hB : ∀ p, p < 288 → 0 ≤ R.getD p 0 ∧ R.getD p 0 ≤ 1073741824) : -16 * 1073741824 ≤ WT (at_ R) ∧ WT (at_ R) ≤ 16 * 1073741824 := by
  have c1 := sumF_le (f := fun m => at_ R m) (g := fun _ => 1073741824) (n := 16) (fun m hm => (hB _ (by omega)).2)
  have c2 := sumF_le (f := fun m => at_ R (16 + m)) (g := fun _ => 1073741824) (n := 16) (fun m hm => (hB _ (by omega)).2)
  have c3 := sumF_le (f := fun _ => 0) (g := fun m => at_ R m) (n := 16) (fun m hm => (hB _ (by omega)).1)
  have c4 := sumF_le (f := fun _ => 0) (g := fun m => at_ R (16 + m)) (n := 16) (fun m hm => (hB _ (by omega)).1)
  rw [sumF_zero] at c3 c4
  have c7 : sumF (fun _ => (1073741824 : Int)) 16 = 16 * 1073741824 := by decide
  rw [c7] at c1 c2
  unfold WT
  simp only [at_] at c1 c2 c3 c4 ⊢
  omega
/-- What is free, and in all, where one number of Given or Used is greater. -/
theorem turn_facts {R : List Int} (hR : R.length = 288) (hB : ∀ p, p < 288 → 0 ≤ R.getD p 0 ∧ R.getD p 0 ≤ 1073741824) {p k : Nat} {s : Int} {n : Int} (hk : k < 16) (hp : (p = k ∧ s = n) ∨ (p = 16 + k ∧ s = -n)) (hn : isB (R.getD p 0 + n) = true) :
    (∀ j : Nat, j < 16 → ∃ fr : Int, freeN R j = fr ∧ freeE R j = 0 ∧ (freeE (R.set p (R.getD p 0 + n)) j = 0 → freeN (R.set p (R.getD p 0 + n)) j = if j = k then fr + s else fr) ∧ (-18253611008 ≤ fr ∧ fr ≤ 18253611008)) ∧
    (sumE (totL (R.set p (R.getD p 0 + n))) = 0 → sumN (totL (R.set p (R.getD p 0 + n))) = sumN (totL R) + s) ∧ (-18253611008 ≤ sumN (totL R) ∧ sumN (totL R) ≤ 18253611008) := by
  have hp288 : p < 288 := by omega
  have hlX : (R.set p (R.getD p 0 + n)).length = 288 := by rw [List.length_set]; exact hR
  have hi := isB_iff.1 hn
  have hX : ∀ i, i < 288 → -9223372036854775808 < (R.set p (R.getD p 0 + n)).getD i 0 ∧ (R.set p (R.getD p 0 + n)).getD i 0 ≤ 9223372036854775807 := fun i hi' => by
    rw [set_get (by omega)]
    have h1 := hB i hi'
    split <;> omega
  have hR' : ∀ i, i < 288 → -9223372036854775808 < R.getD i 0 ∧ R.getD i 0 ≤ 9223372036854775807 := fun i hi' => by have h1 := hB i hi'; omega
  have hs := fun j (hj : j < 16) => free_small hR (B := 1073741824) hB (by omega) (k := j) hj
  have ht := total_small hR (B := 1073741824) hB (by omega)
  have hb := WT_bound hB
  refine ⟨fun j hj => ⟨V (at_ R) j, (hs j hj).2, (hs j hj).1, fun he => ?_, by have := V_bound hB hj; omega⟩, fun he => ?_, by rw [ht.2]; omega⟩
  · obtain ⟨y1, y2⟩ := free_yes (R := R.set p (R.getD p 0 + n)) hj
    rw [y2] at he
    rw [y1, sum_told he, tot_fl hlX hj hX]
    rcases hp with ⟨rfl, hs1⟩ | ⟨rfl, hs1⟩
    · rw [hs1, V_give (f := at_ R) hk (fun q hq hne => by rw [at_set (by omega), if_neg hne]) hj, at_set (by omega), if_pos rfl]
      simp only [at_]
      split <;> omega
    · rw [hs1, V_use (f := at_ R) hk (fun q hq hne => by rw [at_set (by omega), if_neg hne]) hj, at_set (by omega), if_pos rfl]
      simp only [at_]
      split <;> omega
  · rw [sum_told he, tot_totL hlX hX, ht.2]
    rcases hp with ⟨rfl, hs1⟩ | ⟨rfl, hs1⟩
    · rw [hs1]
      unfold WT
      rw [sumF_upd (f := fun m => at_ R m) (g := fun m => at_ (R.set p (R.getD p 0 + n)) m) hk (fun q hq hne => by rw [at_set (by omega), if_neg hne]),
        sumF_congr (f := fun m => at_ (R.set p (R.getD p 0 + n)) (16 + m)) (g := fun m => at_ R (16 + m)) (fun q hq => by rw [at_set (by omega), if_neg (by omega)]), at_set (by omega), if_pos rfl]
      simp only [at_]; omega
    · rw [hs1]
      unfold WT
      rw [sumF_congr (f := fun m => at_ (R.set (16 + k) (R.getD (16 + k) 0 + n)) m) (g := fun m => at_ R m) (fun q hq => by rw [at_set (by omega), if_neg (by omega)]),
        sumF_upd (f := fun m => at_ R (16 + m)) (g := fun m => at_ (R.set (16 + k) (R.getD (16 + k) 0 + n)) (16 + m)) hk (fun q hq hne => by rw [at_set (by omega), if_neg (by omega)]), at_set (by omega), if_pos rfl]
      simp only [at_]; omega
theorem useA_else {R : List Int} {k n : Int} (h : useE R k n ≠ 0) : useA R k n = zer 288 := by
  by_cases hp : preU R k n = 0
  · obtain ⟨e1, e2⟩ := use_yes hp
    rw [e1] at h
    rw [e2, grA_no h]
  · simp [useA, hp]
end Go.Proofs.Ytpbjencigepnfaa
