/- The library's sort at this program: a row of holds, no two of one name, is in order behind it. -/
import Derived.Test.YtofngihdnjgmeaaLHoCmp
import Derived.Shelf.SlSortCmp.WholeK
import Derived.Shelf.SlSortCmp.NoneTotal
namespace Go.Proofs
open Go.Shelf Go.RowKit Go.Lib Go.Sort

/-- A function that is the library's, but for its name. -/
theorem Ytofngihdnjgmeaa.bears {P : Program} {f : FuncId} {g B : Func} (h : P.funcs[f]? = some g) (hn : (g.name == "runtime.NumGoroutine") = false) (hb : g = { B with name := g.name }) : Bears P f B := ⟨g.name, hn, h.trans (congrArg some hb)⟩
/-- Which function, and which type, of this program each of the library's is. -/
def Ytofngihdnjgmeaa.sortRen : Ren where
  f := fun x => match x with
    | 6 => 59
    | 14 => 69
    | 15 => 70
    | 20 => 81
    | 21 => 82
    | 22 => 83
    | 23 => 84
    | 24 => 85
    | 25 => 86
    | 26 => 87
    | 27 => 88
    | 28 => 89
    | 29 => 90
    | 46 => 98
    | 47 => 99
    | 48 => 100
    | 49 => 101
    | 50 => 102
    | 57 => 105
    | n => n
  t := fun x => match x with
    | 0 => 0
    | 3 => 3
    | 4 => 4
    | 5 => 5
    | 9 => 9
    | 22 => 31
    | 24 => 59
    | 25 => 94
    | 39 => 102
    | 45 => 109
    | 46 => 110
    | 50 => 114
    | 53 => 117
    | 55 => 119
    | 66 => 127
    | 70 => 131
    | 76 => 134
    | 77 => 72
    | n => n
  g := fun x => x
theorem Ytofngihdnjgmeaa.sortHo : SlLaysF0.n6 Try.prog Ytofngihdnjgmeaa.sortRen where
  mixed := by kernel_rfl
  f6 := Ytofngihdnjgmeaa.bears Try.func59 (by kernel_rfl) (by kernel_rfl)
  f14 := Ytofngihdnjgmeaa.bears Try.func69 (by kernel_rfl) (by kernel_rfl)
  f15 := by kernel_rfl
  f20 := Ytofngihdnjgmeaa.bears Try.func81 (by kernel_rfl) (by kernel_rfl)
  f21 := Ytofngihdnjgmeaa.bears Try.func82 (by kernel_rfl) (by kernel_rfl)
  f22 := Ytofngihdnjgmeaa.bears Try.func83 (by kernel_rfl) (by kernel_rfl)
  f23 := Ytofngihdnjgmeaa.bears Try.func84 (by kernel_rfl) (by kernel_rfl)
  f24 := Ytofngihdnjgmeaa.bears Try.func85 (by kernel_rfl) (by kernel_rfl)
  f25 := Ytofngihdnjgmeaa.bears Try.func86 (by kernel_rfl) (by kernel_rfl)
  f26 := Ytofngihdnjgmeaa.bears Try.func87 (by kernel_rfl) (by kernel_rfl)
  f27 := Ytofngihdnjgmeaa.bears Try.func88 (by kernel_rfl) (by kernel_rfl)
  f28 := by kernel_rfl
  f29 := by kernel_rfl
  f46 := Ytofngihdnjgmeaa.bears Try.func98 (by kernel_rfl) (by kernel_rfl)
  f47 := by kernel_rfl
  f48 := by kernel_rfl
  f49 := Ytofngihdnjgmeaa.bears Try.func101 (by kernel_rfl) (by kernel_rfl)
  f50 := Ytofngihdnjgmeaa.bears Try.func102 (by kernel_rfl) (by kernel_rfl)
  f57 := Ytofngihdnjgmeaa.bears Try.func105 (by kernel_rfl) (by kernel_rfl)
  t0 := by kernel_rfl
  a0 := fun _ => by kernel_rfl
  z0 := fun _ => by kernel_rfl
  v0 := fun _ => by kernel_rfl
  t3 := by kernel_rfl
  a3 := fun _ => by kernel_rfl
  z3 := fun _ => by kernel_rfl
  v3 := fun _ => by kernel_rfl
  t4 := by kernel_rfl
  a4 := fun _ => by kernel_rfl
  z4 := fun _ => by kernel_rfl
  v4 := fun _ => by kernel_rfl
  t5 := by kernel_rfl
  a5 := fun _ => by kernel_rfl
  z5 := fun _ => by kernel_rfl
  v5 := fun _ => by kernel_rfl
  t9 := by kernel_rfl
  a9 := fun _ => by kernel_rfl
  z9 := fun _ => by kernel_rfl
  v9 := fun _ => by kernel_rfl
  t22 := by kernel_rfl
  a22 := fun _ => by kernel_rfl
  z22 := fun _ => by kernel_rfl
  v22 := fun _ => by kernel_rfl
  t25 := by kernel_rfl
  a25 := fun _ => by kernel_rfl
  z25 := fun _ => by kernel_rfl
  v25 := fun _ => by kernel_rfl
  t39 := by kernel_rfl
  a39 := fun _ => by kernel_rfl
  z39 := fun _ => by kernel_rfl
  v39 := fun _ => by kernel_rfl
  t45 := by kernel_rfl
  a45 := fun _ => by kernel_rfl
  z45 := fun _ => by kernel_rfl
  v45 := fun _ => by kernel_rfl
  t46 := by kernel_rfl
  a46 := fun _ => by kernel_rfl
  z46 := fun _ => by kernel_rfl
  v46 := fun _ => by kernel_rfl
  t50 := by kernel_rfl
  a50 := fun _ => by kernel_rfl
  z50 := fun _ => by kernel_rfl
  v50 := fun _ => by kernel_rfl
  t53 := by kernel_rfl
  a53 := fun _ => by kernel_rfl
  z53 := fun _ => by kernel_rfl
  v53 := fun _ => by kernel_rfl
  t55 := by kernel_rfl
  a55 := fun _ => by kernel_rfl
  z55 := fun _ => by kernel_rfl
  v55 := fun _ => by kernel_rfl
  t66 := by kernel_rfl
  a66 := fun _ => by kernel_rfl
  z66 := fun _ => by kernel_rfl
  v66 := fun _ => by kernel_rfl
  t70 := by kernel_rfl
  a70 := fun _ => by kernel_rfl
  z70 := fun _ => by kernel_rfl
  v70 := fun _ => by kernel_rfl
  t76 := by kernel_rfl
  a76 := fun _ => by kernel_rfl
  z76 := fun _ => by kernel_rfl
  v76 := fun _ => by kernel_rfl
  t77 := by kernel_rfl
  a77 := fun _ => by kernel_rfl
  z77 := fun _ => by kernel_rfl
  v77 := fun _ => by kernel_rfl

theorem Ytofngihdnjgmeaa.grow_of_below {W w' : World} (hb : RowKit.Below W.heap.size W w') (hd : W.drawn ≤ w'.drawn) : ∃ q os', w' = grow (W.drewN q) os' := by
  refine ⟨w'.drawn - W.drawn, w'.heap.extract W.heap.size w'.heap.size, ?_⟩
  obtain ⟨h1, h2, h3, h4, h5⟩ := hb
  cases w' with
  | mk heap tape drawn os output =>
    cases W with
    | mk heap0 tape0 drawn0 os0 output0 =>
      simp only [grow, World.drewN, World.mk.injEq] at *
      refine ⟨?_, h2, by omega, h1, h3⟩
      apply Array.ext_getElem?
      intro i
      rw [Array.getElem?_append]
      split
      · rename_i hi; exact h5 i hi
      · rename_i hi
        rw [Array.getElem?_extract]
        by_cases hs : i < heap.size
        · rw [if_pos (by omega), show heap0.size + (i - heap0.size) = i by omega]
        · rw [if_neg (by omega), Array.getElem?_eq_none (by omega)]

theorem Ytofngihdnjgmeaa.cmpLays (blk off size : Nat) (w : World) : CmpLays Try.prog 60 #[] (fun h : Ytofngihdnjgmeaa.Ho => Ytofngihdnjgmeaa.vals h.l) 5 Ytofngihdnjgmeaa.nameC blk off size w :=
  fun _ _ _ _ x y => (Ytofngihdnjgmeaa.name_any x y _).mono fun _ _ ⟨he, hb, hd⟩ => ⟨he, Ytofngihdnjgmeaa.grow_of_below hb hd⟩
theorem Ytofngihdnjgmeaa.swo : SWO (ltOf Ytofngihdnjgmeaa.nameC) where
  irrefl x := by show decide (Ytofngihdnjgmeaa.nameC x x < 0) = false; rw [Ytofngihdnjgmeaa.nameC_neg, Ytofngihdnjgmeaa.ahB_not]; exact Ytofngihdnjgmeaa.AH.irrefl x
  trans x y z h1 h2 := by
    simp only [ltOf, Ytofngihdnjgmeaa.nameC_neg, Ytofngihdnjgmeaa.ahB_iff] at *
    exact h1.trans h2
  ntrans x y z h1 h2 := by
    simp only [ltOf, Ytofngihdnjgmeaa.nameC_neg, Ytofngihdnjgmeaa.ahB_not] at *
    unfold Ytofngihdnjgmeaa.AH at *; omega
end Go.Proofs
namespace Go.Proofs.Ytofngihdnjgmeaa
set_option maxRecDepth 100000
open Go.ChangeShapes Go.WideShapes Go.ChangeAt Go.RowKit Go.Shelf Go.Lib Go.Sort

theorem flatK_vals (ys : List Ho) : ∀ j, j < ys.length * 5 → (flatK (fun h : Ho => vals h.l) 5 ys.toArray)[j]! = .int .i64 ((flat ys).getD j 0) := by
  intro j hj
  have hk : j / 5 < ys.length := by omega
  rw [get_flatK _ _ _ _ (by simpa using hj)]
  have e : ys.toArray[j / 5]! = ys.getD (j / 5) z5 := by
    rw [getD_get hk, getElem!_pos ys.toArray (j / 5) (by simpa using hk)]
    simp
  have hg := flat_get (hs := ys) (k := j / 5) (j := j % 5) hk (by omega)
  rw [show j / 5 * 5 + j % 5 = j by omega] at hg
  rw [e, hg, getElem!_pos _ _ (by rw [vals_length, Ho.len]; omega)]
  have h2 := vals_get (zs := (ys.getD (j / 5) z5).l) (j := j % 5) (by rw [Ho.len]; omega)
  rw [List.getElem?_eq_getElem (by rw [vals_length, Ho.len]; omega)] at h2
  injection h2
theorem Own.holds {w : World} {base g cap n : Nat} {hs : List Ho} (h : Own w base (.slice (some ⟨g, 0, none⟩) n cap) hs) : HoldsK (fun h : Ho => vals h.l) 5 w g 0 hs.toArray := by
  intro j hj
  have hj' : j < hs.length * 5 := by simpa using hj
  refine ⟨?_, by rw [Nat.zero_add]; exact h.frozen j⟩
  have h1 := h.range (k := j / 5) (by omega) (j % 5) (.int .i64 ((hs.getD (j / 5) z5).l.getD (j % 5) 0)) (vals_get (by rw [Ho.len]; omega))
  rw [← flat_get (by omega) (by omega), show j / 5 * 5 + j % 5 = j by omega] at h1
  rw [flatK_vals hs j hj', Nat.zero_add]
  exact h1
theorem Own.sorted {w : World} {base g cap n q : Nat} {hs ys : List Ho} {os : Array Obj} (h : Own w base (.slice (some ⟨g, 0, none⟩) n cap) hs) (hy : ys.length = hs.length) (hb : base ≤ w.heap.size) :
    Own (sortWorldK (fun h : Ho => vals h.l) 5 w g 0 q ys.toArray os) base (.slice (some ⟨g, 0, none⟩) n cap) ys ∧ RowKit.Below base w (sortWorldK (fun h : Ho => vals h.l) 5 w g 0 q ys.toArray os) := by
  rcases h.2 with ⟨e0, _⟩ | ⟨g', cap', cur, e0, hbg, hg, hn, hm, hs', ht⟩
  · cases e0
  · injection e0 with e1 e2 e3
    injection e1 with e1
    injection e1 with e1
    subst e1; subst e2; subst e3
    have hgl : g < w.heap.size := (Array.getElem?_eq_some_iff.1 hg).1
    have hgl' : g < (putRowK (fun h : Ho => vals h.l) 5 (Sort.ahead w q) g 0 ys.toArray).heap.size := by simpa [putRowK, putRow, mapBlock, Sort.ahead] using hgl
    refine ⟨⟨by rw [vals_length, flat_length], .inr ⟨g, cap, putCells id 0 (flatK (fun h : Ho => vals h.l) 5 ys.toArray) cur, by rw [hy], hbg, ?_, by omega, hm, by simpa [putCells] using hs', ?_⟩⟩, ?_⟩
    · unfold sortWorldK
      rw [heap_grow_old _ _ hgl']
      simp [putRowK, putRow, mapBlock, Sort.ahead, Array.getElem?_modify, hg, onCells]
    · apply List.ext_getElem?
      intro j
      rw [List.getElem?_take, Array.getElem?_toList]
      by_cases hj : j < ys.length * 5
      · have hcap : hs.length * 5 ≤ cap * 5 := Nat.mul_le_mul_right 5 hn
        have hjc : j < cur.size := by omega
        simp only [if_pos hj, putCells, Array.getElem?_mapIdx, Array.getElem?_eq_getElem hjc, Option.map_some]
        rw [if_pos (by simp; omega), vals_get (by rw [flat_length]; omega), Nat.sub_zero, flatK_vals ys j hj]
        rfl
      · rw [if_neg hj, List.getElem?_eq_none (by rw [vals_length, flat_length]; omega)]
    · refine ⟨rfl, rfl, rfl, by simp [sortWorldK, putRowK, putRow, mapBlock, Sort.ahead], fun k hk => ?_⟩
      unfold sortWorldK
      rw [heap_grow_old _ _ (by simp [putRowK, putRow, mapBlock, Sort.ahead]; omega)]
      simp [putRowK, putRow, mapBlock, Sort.ahead, Array.getElem?_modify, show g ≠ k by omega]

theorem sort_any (w : World) (base : Nat) (v : Value) (hs : List Ho) (ho : Own w base v hs) (hb : base ≤ w.heap.size) (hn : hs.length ≤ 2000) (hap : Apart hs) :
    Calls Try.prog 59 #[v, .func (.func 60) #[] #[]] w fun e w' => e = .returned (.tuple #[]) ∧ Own w' base v (isort hs) ∧ RowKit.Below base w w' := by
  rcases Nat.eq_zero_or_pos hs.length with h0 | h0
  · have hnil : hs = [] := List.eq_nil_of_length_eq_zero h0
    subst hnil
    obtain ⟨A, c, rfl⟩ := ho.slice
    have hcon := AnyF.slices_SortFunc_none sortHo A c (.func (.func 60) #[] #[]) w
    change Calls Try.prog 59 _ _ _ at hcon
    exact hcon.mono fun e w' ⟨he, hw⟩ => ⟨he, by rw [hw]; exact ho, by rw [hw]; exact Below.refl _ _⟩
  · obtain ⟨g, cap, rfl, hg1, hg2⟩ := ho.at h0
    have eg : ∀ args w, (callFunc 60 args).run Try.prog w = .ok (.enter 60 args) w := enters_of Try.func60 (by kernel_rfl) rfl
    have hcon := AnyQ.slices_SortFunc sortHo 5 Try.isAgg59 Try.sizeOf59 (fun h : Ho => vals h.l) (fun _ => rfl) (fun x => vals_one x.l) nameC swo 60 #[] g 0 cap hs.toArray w eg (cmpLays g 0 hs.toArray.size w) ho.holds hg2 (by simp; omega)
    change Calls Try.prog 59 _ _ _ at hcon
    rw [show hs.toArray.size = hs.length by simp] at hcon
    refine hcon.mono fun e w' ⟨he, d', n, os, hp, hs', hw⟩ => ⟨he, ?_⟩
    obtain ⟨ys, rfl⟩ : ∃ ys : List Ho, d' = ys.toArray := ⟨d'.toList, by simp⟩
    have hy : ys.length = hs.length := by simpa using hp.1
    have hperm : ys.Perm hs := by
      have := hp.2.2
      simpa [← hy, List.take_of_length_le] using this
    have hsort : ys = isort hs := by
      refine sorted_isort hap hperm ?_
      rw [List.pairwise_iff_getElem]
      intro i j hi hj hij
      have := hs' i j (Nat.zero_le _) hij (by omega)
      rw [getElem!_pos ys.toArray j (by simpa using hj), getElem!_pos ys.toArray i (by simpa using hi)] at this
      simp only [ltOf, nameC_neg, List.getElem_toArray] at this
      exact this
    have hfin := ho.sorted (q := n) (os := os) hy hb
    rw [hw, ← hsort]
    exact hfin
end Go.Proofs.Ytofngihdnjgmeaa
