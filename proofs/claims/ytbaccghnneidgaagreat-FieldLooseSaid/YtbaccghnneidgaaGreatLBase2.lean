/- Vectors (arrays of 16 ints): the lists that they are, the cells that hold them, and what the operations on them do. A region that draws its order, whose operations read what is kept and whose callees only make memory of their own: one walk in the text's order. Several vectors that are kept, each in a block of its own, while calls make memory; and what joining, and being over, hang on. Contracts of vec.Right, vec.Join and vec.Over. Contracts of the document's Over, Right and Join of layer 2. Contracts of vec.Sum and vec.Grow, and of the document's Sum and Grow of layer 2. What a law of layer 2 needs: vectors that come in; 'awake'. Rows of ints: what append does to one, and what a slice expression reads. -/
import Derived.Test.YtbaccghnneidgaaGreatLBase0
import Derived.Test.YtbaccghnneidgaaGreatRows
import Derived.Test.YtbaccghnneidgaaGreatLBase1
import Derived.WalkKit
import Derived.ProofKit
import Derived.Lib.Hide
import Derived.Below
import Derived.Deep.MidRow
import Derived.Deep.RegionHeld3
import Derived.Deep.QuietTactic
import Derived.BigQuiet
import Derived.OpenShut
import Derived.ChangeOld
import Derived.Maps.AppendAt
import Derived.OwnWalk
import Derived.Laws.OwnMore
namespace Go.Proofs.YtbaccghnneidgaaGreat
set_option maxRecDepth 100000
open Go.ChangeShapes Go.WideShapes Go.ChangeAt Go.RowKit

/-- Two vectors, boxed one behind the other. -/
theorem boxes (w : World) (t : TypeId) (xs ys : List Int) : Blk ((w.alloc (.cells (vals xs).toArray t)).alloc (.cells (vals ys).toArray t)) w.heap.size t xs ∧ Blk ((w.alloc (.cells (vals xs).toArray t)).alloc (.cells (vals ys).toArray t)) (w.heap.size + 1) t ys ∧ Below w.heap.size w ((w.alloc (.cells (vals xs).toArray t)).alloc (.cells (vals ys).toArray t)) :=
  ⟨(Blk.new w _ xs).alloc _, by have := Blk.new (w.alloc (.cells (vals xs).toArray t)) t ys; simpa using this, ((Below.refl _ _).alloc (Nat.le_refl _) _).alloc (by simp) _⟩
def zeros : List Int := List.replicate 16 0
theorem zeros_length : zeros.length = 16 := by simp [zeros]
theorem zlit : (vals zeros).toArray = #[.int .i64 0, .int .i64 0, .int .i64 0, .int .i64 0, .int .i64 0, .int .i64 0, .int .i64 0, .int .i64 0, .int .i64 0, .int .i64 0, .int .i64 0, .int .i64 0, .int .i64 0, .int .i64 0, .int .i64 0, .int .i64 0] := rfl
/-- The same, and a block more. -/
theorem boxes_more {w W : World} {t : TypeId} {xs ys : List Int} {n : Nat} (hn : W.heap.size = n) (h : Blk W w.heap.size t xs ∧ Blk W (w.heap.size + 1) t ys ∧ Below w.heap.size w W) (zs : List Int) :
    (Blk (W.alloc (.cells (vals zs).toArray t)) w.heap.size t xs ∧ Blk (W.alloc (.cells (vals zs).toArray t)) (w.heap.size + 1) t ys ∧ Below w.heap.size w (W.alloc (.cells (vals zs).toArray t))) ∧ Blk (W.alloc (.cells (vals zs).toArray t)) n t zs := by
  subst hn
  exact ⟨⟨h.1.alloc _, h.2.1.alloc _, h.2.2.alloc h.2.2.size _⟩, Blk.new W t zs⟩
/-- Two vectors lie in the first two blocks of a call's own; below them all is as it was. -/
abbrev Two (w : World) (xs ys : List Int) (w' : World) : Prop := w'.rangeAt w.heap.size 0 (vals xs) ∧ w'.rangeAt (w.heap.size + 1) 0 (vals ys) ∧ Below w.heap.size w w' ∧ w.heap.size + 2 ≤ w'.heap.size
theorem Two.start (w : World) (t : TypeId) (xs ys : List Int) : Two w xs ys ((w.alloc (.cells (vals xs).toArray t)).alloc (.cells (vals ys).toArray t)) :=
  ⟨(boxes w t xs ys).1.range, (boxes w t xs ys).2.1.range, (boxes w t xs ys).2.2, by simp⟩
theorem Two.drew {w w1 : World} {xs ys : List Int} (h : Two w xs ys w1) : Two w xs ys w1.drew := ⟨h.1, h.2.1, h.2.2.1.drew, h.2.2.2⟩
theorem Two.call {w w1 w2 : World} {xs ys : List Int} (h : Two w xs ys w1) (hb : Below w1.heap.size w1 w2) : Two w xs ys w2 :=
  ⟨range_below h.1 hb (by have := h.2.2.2; omega), range_below h.2.1 hb (by have := h.2.2.2; omega), h.2.2.1.trans (hb.mono (by have := h.2.2.2; omega)), Nat.le_trans h.2.2.2 hb.size⟩
/-! ### Equality of arrays of ints. -/
theorem vec_info : (Tryz.prog.info? 23).map (·.size) = some 16 := by kernel_rfl
theorem vec_info_of {zs : List Int} (h : zs.length = 16) : (Tryz.prog.info? 23).map (·.size) = some (vals zs).length := by rw [vals_length, h]; exact vec_info

theorem index_vec {zs : List Int} (hz : zs.length = 16) {k : Nat} (hk : k < 16) (w : World) : (Instr.index 23 (.agg (vals zs).toArray) (.int .i64 (k : Int))).run Tryz.prog w = .ok (.int .i64 (zs.getD k 0)) w := by
  have hp : (part 3 (vals zs).toArray k).run Tryz.prog w = .ok (.int .i64 (zs.getD k 0)) w := by
    simp [part, isAgg, run_underlying Tryz.underlying3, vals, List.getElem?_eq_getElem (show k < zs.length by omega)]
  simp [Instr.index, asIntOf, run_underlying Tryz.underlying23, hk, hp]

/-! ### Loads and stores of whole vectors, at a plain region's list. -/
theorem wpList_load_vec {ops : Array Oper} {rest : List Oper} {o : Oper} {a : Act} {w : World} {Q : Exit → Act → World → Prop} (hgd : o.guard = none) (x : Operand) (ho : o.op = .load 23 x)
    (b : Nat) (hx : a.eval x = .pointer (some ⟨b, 0, none⟩)) (zs : List Int) (hb : Blk w b 23 zs) (hl : zs.length = 16)
    (h : wpList Tryz.prog ops Q rest (a.put o.dst (.agg (vals zs).toArray)) w) : wpList Tryz.prog ops Q (o :: rest) a w :=
  wpList_load_row hgd _ x ho b hx _ _ (0, 0) _ hb Tryz.underlying23 rfl (by rw [List.size_toArray]; exact vec_info_of hl) h

theorem wpList_store_vec {ops : Array Oper} {rest : List Oper} {o : Oper} {a : Act} {w : World} {Q : Exit → Act → World → Prop} (hgd : o.guard = none) (x y : Operand) (ho : o.op = .store 23 x y)
    (b : Nat) (zs : List Int) (hx : a.eval x = .pointer (some ⟨b, 0, none⟩)) (hy : a.eval y = .agg (vals zs).toArray) (old : List Int) (hb : Blk w b 23 old) (ho16 : old.length = 16) (hl : zs.length = 16)
    (h : wpList Tryz.prog ops Q rest (a.put o.dst undef) (w.setRow b (vals zs).toArray)) : wpList Tryz.prog ops Q (o :: rest) a w :=
  wpList_store_row hgd _ x y ho b _ hx hy _ _ hb (by rw [List.size_toArray]; exact vec_info_of hl) (by simp [vals_length, ho16, hl]) (vals_all zs) h

theorem results_vec {fn : Func} {p : Tmp} (h : fn.results = #[.cell p 23]) (tmps : Array Value) (w : World) (b : Nat) (zs : List Int)
    (hp : tmps.getD p undef = .pointer (some ⟨b, 0, none⟩)) (hb : Blk w b 23 zs) (hl : zs.length = 16) : (results fn tmps).run Tryz.prog w = .ok (.agg (vals zs).toArray) w :=
  results_cell_row h tmps w b _ _ (0, 0) _ hp hb Tryz.underlying23 rfl (by rw [List.size_toArray]; exact vec_info_of hl)

theorem results_vec2 {fn : Func} {p q : Tmp} (h : fn.results = #[.cell p 23, .tmp q]) (tmps : Array Value) (w : World) (b : Nat) (zs : List Int) (v : Value)
    (hp : tmps.getD p undef = .pointer (some ⟨b, 0, none⟩)) (hq : tmps.getD q undef = v) (hb : Blk w b 23 zs) (hl : zs.length = 16) : (results fn tmps).run Tryz.prog w = .ok (.tuple #[.agg (vals zs).toArray, v]) w := by
  have hp' : tmps[p]?.getD undef = .pointer (some ⟨b, 0, none⟩) := by simpa using hp
  have hq' : tmps[q]?.getD undef = v := by simpa using hq
  have hr := run_loadVar_row (P := Tryz.prog) w b _ 23 _ (0, 0) _ hb Tryz.underlying23 rfl (by rw [List.size_toArray]; exact vec_info_of hl)
  simp [results, h, hp', hq', asAddr, hr]

/-- The first k of one list, and the rest of another one. -/
def mix (k : Nat) (zs xs : List Int) : List Int := zs.take k ++ xs.drop k
theorem mix_length {zs xs : List Int} (h : zs.length = xs.length) (k : Nat) : (mix k zs xs).length = xs.length := by simp [mix]; omega
theorem mix_zero (zs xs : List Int) : mix 0 zs xs = xs := by simp [mix]
theorem mix_all {zs xs : List Int} {k : Nat} (h : zs.length = xs.length) (hk : xs.length ≤ k) : mix k zs xs = zs := by
  simp [mix, List.take_of_length_le (show zs.length ≤ k by omega), List.drop_of_length_le hk]
theorem mix_get {zs xs : List Int} {k : Nat} (h : zs.length = xs.length) (hk : k < xs.length) : (mix k zs xs).getD k 0 = xs.getD k 0 := by
  simp [mix, List.getD, List.getElem?_append, show min k zs.length = k by omega]
theorem mix_set {zs xs : List Int} {k : Nat} (h : zs.length = xs.length) (hk : k < xs.length) : (mix k zs xs).set k (zs.getD k 0) = mix (k + 1) zs xs := by
  apply List.ext_getElem?
  intro i
  simp only [mix, List.getElem?_set, List.length_append, List.length_take, List.length_drop, List.getElem?_append, List.getElem?_take, List.getElem?_drop]
  by_cases h1 : k = i
  · subst h1
    have hz : k < zs.length := by omega
    simp [show min k zs.length = k by omega, show min (k + 1) zs.length = k + 1 by omega, List.getD, hz, show k < k + (xs.length - k) by omega]
  · simp only [h1, if_false]
    by_cases h2 : i < k
    · simp [show i < min k zs.length by omega, show i < min (k + 1) zs.length by omega, h2, show i < k + 1 by omega]
    · rw [if_neg (show ¬ i < min k zs.length by omega), if_neg (show ¬ i < min (k + 1) zs.length by omega)]
      congr 1
      omega

/-- Of each two numbers the greater one. -/
def joinL (xs ys : List Int) : List Int := List.zipWith max xs ys
theorem joinL_length {xs ys : List Int} (hx : xs.length = 16) (hy : ys.length = 16) : (joinL xs ys).length = 16 := by simp [joinL, hx, hy]
theorem joinL_get {xs ys : List Int} {k : Nat} (hx : k < xs.length) (hy : k < ys.length) : (joinL xs ys).getD k 0 = max (xs.getD k 0) (ys.getD k 0) := by
  simp [joinL, List.getD, List.getElem?_zipWith, hx, hy]
/-- May each number of a vector be? -/
def rightB (xs : List Int) : Bool := xs.all fun n => decide (0 ≤ n) && decide (n ≤ 1099511627776)
theorem rightB_iff {xs : List Int} (hx : xs.length = 16) : rightB xs = true ↔ ∀ k, k < 16 → (0 ≤ xs.getD k 0 ∧ xs.getD k 0 ≤ 1099511627776) := by
  simp only [rightB, List.all_eq_true, Bool.and_eq_true, decide_eq_true_eq]
  constructor
  · intro h k hk
    exact h _ (by simp [List.getD, show k < xs.length by omega])
  · intro h x hm
    obtain ⟨k, hk, rfl⟩ := List.getElem_of_mem hm
    have := h k (by omega)
    simpa [List.getD, hk] using this
end Go.Proofs.YtbaccghnneidgaaGreat

namespace Go.Proofs.YtbaccghnneidgaaGreat
set_option maxRecDepth 100000
open Go.ChangeShapes Go.WideShapes Go.ChangeAt Go.RowKit

end Go.Proofs.YtbaccghnneidgaaGreat

namespace Go.Proofs.YtbaccghnneidgaaGreat
set_option maxRecDepth 100000
open Go.ChangeShapes Go.WideShapes Go.ChangeAt Go.RowKit

/-- Below w's end all is as it was; in each of these blocks lies this vector. -/
def Keep (w : World) (l : List (Nat × List Int)) (u : World) : Prop := Below w.heap.size w u ∧ ∀ x ∈ l, Blk u x.1 23 x.2 ∧ x.2.length = 16

theorem Keep.call {w u u' : World} {l : List (Nat × List Int)} (h : Keep w l u) (hb : Below u.heap.size u u') : Keep w l u' :=
  ⟨h.1.trans (hb.mono h.1.size), fun x hx => ⟨(h.2 x hx).1.below hb (h.2 x hx).1.lt, (h.2 x hx).2⟩⟩
theorem Keep.drew {w u : World} {l : List (Nat × List Int)} (h : Keep w l u) : Keep w l u.drew := ⟨h.1.drew, h.2⟩
theorem Keep.drewN {w u : World} {l : List (Nat × List Int)} (h : Keep w l u) (n : Nat) : Keep w l (u.drewN n) := ⟨below_drewN h.1 n, h.2⟩
theorem Keep.get {w u : World} {l : List (Nat × List Int)} (h : Keep w l u) (i : Nat) {b : Nat} {zs : List Int} (hi : l[i]? = some (b, zs)) : Blk u b 23 zs := (h.2 _ (List.mem_of_getElem? hi)).1
theorem Keep.len {w u : World} {l : List (Nat × List Int)} (h : Keep w l u) (i : Nat) {b : Nat} {zs : List Int} (hi : l[i]? = some (b, zs)) : zs.length = 16 := (h.2 _ (List.mem_of_getElem? hi)).2
theorem Keep.cons {w u : World} {l : List (Nat × List Int)} (h : Keep w l u) {b : Nat} {zs : List Int} (hb : Blk u b 23 zs) (hl : zs.length = 16) : Keep w ((b, zs) :: l) u :=
  ⟨h.1, fun x hx => by
    rcases List.mem_cons.1 hx with rfl | hx
    · exact ⟨hb, hl⟩
    · exact h.2 x hx⟩
theorem Keep.refl (w : World) : Keep w [] w := ⟨Below.refl _ _, by simp⟩
theorem Keep.new {w u : World} {l : List (Nat × List Int)} (h : Keep w l u) {zs : List Int} (hl : zs.length = 16) {n : Nat} (hn : u.heap.size = n) : Keep w ((n, zs) :: l) (u.alloc (.cells (vals zs).toArray 23)) := by
  subst hn
  exact (h.call (box u _ zs).2).cons (box u _ zs).1 hl

/-! ### Joining, and being over. -/
end Go.Proofs.YtbaccghnneidgaaGreat

namespace Go.Proofs.YtbaccghnneidgaaGreat
set_option maxRecDepth 100000
open Go.ChangeShapes Go.WideShapes Go.ChangeAt Go.RowKit

theorem right_any (xs : List Int) (hx : xs.length = 16) (w : World) :
    Calls Tryz.prog 151 #[.agg (vals xs).toArray] w fun e w' => e = .returned (.bool (rightB xs)) ∧ Below w.heap.size w w' := by
  have hix : ∀ (k : Nat) (W : World), k < 16 → (Instr.index 23 (.agg (vals xs).toArray) (.int .i64 (k : Int))).run Tryz.prog W = .ok (.int .i64 (xs.getD k 0)) W := fun k W hk => index_vec hx hk W
  have HIX := Lib.hid hix; clear hix
  have HI := Lib.hid (rightB_iff hx)
  have HX := Lib.hid hx; clear hx
  have H0 := Lib.hid (box w 23 xs)
  go_enter Tryz.func151, Tryz.ntmps151
  go_wp2_with ((with_reducible refine wpList_load_vec rfl _ rfl _ rfl _ H0.out.1 HX.out ?_))
  go_loop [6] (fun i => ∃ k : Nat, k ≤ 16 ∧ i = .int .i64 k ∧ ∀ j, j < k → 0 ≤ xs.getD j 0 ∧ xs.getD j 0 ≤ 1099511627776) (fun i => 16 - (intOf i).toNat)
  case atStart => exact ⟨0, by omega, rfl, fun j hj => by omega⟩
  case round =>
    obtain ⟨k, hk, rfl, hD⟩ := hrel
    have HD := Lib.hid hD
    clear hD
    by_cases hlt : k < 16
    · have hi : ∀ W : World, (Instr.index 23 (.agg (vals xs).toArray) (.int .i64 (k : Int))).run Tryz.prog W = .ok (.int .i64 (xs.getD k 0)) W := fun W => HIX.out k W hlt
      generalize hx : xs.getD k 0 = x at hi
      have Hx := Lib.hid hx
      clear hx
      have i1 : (0 : Int) ≤ (k : Int) := by omega
      have i2 : (k : Int) < 16 := by omega
      have hf : ¬ (0 ≤ x ∧ x ≤ 1099511627776) → false = rightB xs := fun hn => by
        cases h : rightB xs with
        | false => rfl
        | true => have := HI.out.1 h k hlt; rw [Hx.out] at this; exact absurd this hn
      have HF := Lib.hid hf; clear hf
      by_cases h1 : x < 0
      · go_wp2
        go_ret
        exact ⟨congrArg (fun b => Ending.returned (.bool b)) (HF.out (by omega)), H0.out.2⟩
      · by_cases h2 : 1099511627776 < x
        · have e : isB x = false := isB_not.2 (by omega)
          go_wp2_with ((go_at_call 50; (with_reducible refine (is_any _ _).mono ?_); rintro e w' ⟨rfl, rfl⟩))
          go_ret
          exact ⟨congrArg (fun b => Ending.returned (.bool b)) (HF.out (by omega)), H0.out.2⟩
        · have e : isB x = true := isB_iff.2 (by omega)
          go_wp2_with ((go_at_call 50; (with_reducible refine (is_any _ _).mono ?_); rintro e w' ⟨rfl, rfl⟩))
          go_round
          case rel => exact ⟨k + 1, by omega, by go_num, fun j hj => by
            by_cases hjk : j = k
            · rw [hjk, Hx.out]; omega
            · exact HD.out j (by omega)⟩
          case measure => simp [intOf]; omega
    · have ht : true = rightB xs := (HI.out.2 fun j hj => HD.out j (by omega)).symm
      have HT := Lib.hid ht; clear ht
      go_wp2
      go_ret
      exact ⟨congrArg (fun b => Ending.returned (.bool b)) HT.out, H0.out.2⟩

theorem join_any (xs ys : List Int) (hx : xs.length = 16) (hy : ys.length = 16) (w : World) :
    Calls Tryz.prog 167 #[.agg (vals xs).toArray, .agg (vals ys).toArray] w fun e w' => e = .returned (.agg (vals (joinL xs ys)).toArray) ∧ Below w.heap.size w w' := by
  have hix : ∀ (k : Nat) (W : World), k < 16 → (Instr.index 23 (.agg (vals ys).toArray) (.int .i64 (k : Int))).run Tryz.prog W = .ok (.int .i64 (ys.getD k 0)) W := fun k W hk => index_vec hy hk W
  have HIX := Lib.hid hix; clear hix
  have HJ := Lib.hid (joinL_length hx hy)
  have HX := Lib.hid hx; clear hx
  have HY := Lib.hid hy; clear hy
  have h1 := boxes_more (n := w.heap.size + 1 + 1) (by simp) (boxes w 23 xs ys) zeros
  rw [zlit] at h1
  have H0 := Lib.hid h1
  clear h1
  go_enter Tryz.func167, Tryz.ntmps167
  go_wp2_with ((with_reducible refine wpList_load_vec rfl _ rfl _ rfl _ H0.out.1.2.1 HY.out ?_))
  go_loopw [8] (fun i wr => ∃ k : Nat, k ≤ 16 ∧ i = .int .i64 k ∧ Blk wr w.heap.size 23 (mix k (joinL xs ys) xs) ∧ Blk wr (w.heap.size + 1 + 1) 23 zeros ∧ Below w.heap.size w wr) (fun i _ => 16 - (intOf i).toNat)
  case atStart => exact ⟨0, by omega, rfl, (mix_zero _ _).symm ▸ H0.out.1.1, H0.out.2, H0.out.1.2.2⟩
  case round =>
    obtain ⟨k, hk, rfl, hM, hZ, hS⟩ := hrel
    have HZ := Lib.hid hZ; have HM := Lib.hid hM; have HS := Lib.hid hS
    clear hZ hM hS H0
    by_cases hlt : k < 16
    · have hi : ∀ W : World, (Instr.index 23 (.agg (vals ys).toArray) (.int .i64 (k : Int))).run Tryz.prog W = .ok (.int .i64 (ys.getD k 0)) W := fun W => HIX.out k W hlt
      have c1 := HM.out.cell (k := k) (by rw [mix_length (by rw [HJ.out, HX.out]), HX.out]; omega)
      have f1 := HM.out.frozen k
      have hj := joinL_get (xs := xs) (ys := ys) (k := k) (by have := HX.out; omega) (by have := HY.out; omega)
      have hm := mix_set (zs := joinL xs ys) (xs := xs) (k := k) (by rw [HJ.out, HX.out]) (by rw [HX.out]; omega)
      rw [hj] at hm
      rw [mix_get (by rw [HJ.out, HX.out]) (by rw [HX.out]; omega)] at c1
      generalize hx : xs.getD k 0 = x at c1 hm
      generalize hy : ys.getD k 0 = y at hi hm
      clear hx hy hj
      have Hm := Lib.hid hm; clear hm
      have i1 : (0 : Int) ≤ (k : Int) := by omega
      have i2 : (k : Int) < 16 := by omega
      go_wp2
      go_roundw
      case rel =>
        have e : (if x < y then y else x) = max x y := by split <;> omega
        rw [e]
        refine ⟨k + 1, by omega, by go_num, ?_, HZ.out.apart _ _ (by simp; omega), HS.out.setCell (by simp) _⟩
        have := HM.out.setCell k (max x y)
        rwa [Hm.out] at this
      case measure => simp [intOf]; omega
    · have hM := HM.out
      rw [mix_all (by rw [HJ.out, HX.out]) (by rw [HX.out]; omega)] at hM
      have HM := Lib.hid hM; clear hM
      go_wp2_with (first
        | (with_reducible refine wpList_load_vec rfl _ rfl _ rfl _ HM.out HJ.out ?_)
        | (with_reducible refine wpList_store_vec rfl _ _ rfl _ _ rfl rfl _ HZ.out zeros_length HJ.out ?_))
      exact bodyPost_ret (results_vec rfl _ _ _ _ rfl (HZ.out.setRow _) HJ.out) rfl ⟨rfl, below_setRow HS.out (by omega) _⟩
end Go.Proofs.YtbaccghnneidgaaGreat

namespace Go.Proofs.YtbaccghnneidgaaGreat
set_option maxRecDepth 100000
open Go.ChangeShapes Go.WideShapes Go.ChangeAt Go.RowKit

end Go.Proofs.YtbaccghnneidgaaGreat

namespace Go.Proofs.YtbaccghnneidgaaGreat
set_option maxRecDepth 100000
open Go.ChangeShapes Go.WideShapes Go.ChangeAt Go.RowKit

/-- A block of a vector, read as a slice of all its numbers. -/
theorem Blk.reads {w : World} {b : Nat} {t : TypeId} {zs : List Int} (h : Blk w b t zs) (hl : zs.length = 16) : Reads w (some ⟨b, 0, none⟩) 16 zs :=
  ⟨hl, by simp [maxLen], .inr ⟨b, 0, rfl, fun i hi => by rw [Nat.zero_add]; exact h.cell (by omega)⟩⟩

/-- What a vector grows to, and why it does not. -/
def growE (xs : List Int) (k n : Int) : Int := if k < 0 ∨ 16 ≤ k ∨ n < 0 then 1 else addE (xs.getD k.toNat 0) n
def growL (xs : List Int) (k n : Int) : List Int := if growE xs k n = 0 then xs.set k.toNat (addN (xs.getD k.toNat 0) n) else zeros
theorem growL_length {xs : List Int} (hx : xs.length = 16) (k n : Int) : (growL xs k n).length = 16 := by
  unfold growL; split <;> simp [hx, zeros_length]
theorem grow_arg {xs : List Int} {k n : Int} (h : k < 0 ∨ 16 ≤ k ∨ n < 0) : growE xs k n = 1 ∧ growL xs k n = zeros := by simp [growL, growE, h]
theorem grow_no {xs : List Int} {k n : Int} (h : ¬ (k < 0 ∨ 16 ≤ k ∨ n < 0)) (ha : okB (xs.getD k.toNat 0) n (xs.getD k.toNat 0 + n) = false) : growE xs k n = 2 ∧ growL xs k n = zeros := by
  have e : growE xs k n = 2 := by unfold growE; rw [if_neg h, (addE_no ha).1]
  exact ⟨e, by rw [growL, e]; simp⟩
theorem grow_yes {xs : List Int} {k n : Int} (h : ¬ (k < 0 ∨ 16 ≤ k ∨ n < 0)) (ha : okB (xs.getD k.toNat 0) n (xs.getD k.toNat 0 + n) = true) : growE xs k n = 0 ∧ growL xs k n = xs.set k.toNat (xs.getD k.toNat 0 + n) := by
  have e : growE xs k n = 0 := by unfold growE; rw [if_neg h, (addE_ok ha).1]
  exact ⟨e, by rw [growL, e, (addE_ok ha).2]; simp⟩

/-- What grew: number k alone is greater, by n. -/
theorem grow_zero {xs : List Int} (_hx : xs.length = 16) {k n : Int} (h : growE xs k n = 0) : ∃ j : Nat, k = j ∧ j < 16 ∧ 0 ≤ n ∧ okB (xs.getD j 0) n (xs.getD j 0 + n) = true ∧ growL xs k n = xs.set j (xs.getD j 0 + n) := by
  by_cases hk : k < 0 ∨ 16 ≤ k ∨ n < 0
  · rw [(grow_arg hk).1] at h; cases h
  · cases ha : okB (xs.getD k.toNat 0) n (xs.getD k.toNat 0 + n) with
    | false => rw [(grow_no hk ha).1] at h; cases h
    | true => exact ⟨k.toNat, by omega, by omega, by omega, ha, (grow_yes hk ha).2⟩
theorem grow_any (xs : List Int) (k n : Int) (hx : xs.length = 16) (w : World) :
    Calls Tryz.prog 153 #[.agg (vals xs).toArray, .int .i64 k, .int .i64 n] w fun e w' => e = .returned (.tuple #[.agg (vals (growL xs k n)).toArray, .int .i64 (growE xs k n)]) ∧ Below w.heap.size w w' := by
  have HX := Lib.hid hx; clear hx
  have h1 := boxes w 23 xs zeros
  rw [zlit] at h1
  have H0 := Lib.hid h1; clear h1
  by_cases hk : k < 0 ∨ 16 ≤ k ∨ n < 0
  · obtain ⟨e1, e2⟩ := grow_arg (xs := xs) hk
    rw [e1, e2]; clear e1 e2
    by_cases k0 : k < 0
    · clear hk
      go_enter Tryz.func153, Tryz.ntmps153
      go_wp2_with (first
        | (with_reducible refine wpList_store_vec rfl _ _ rfl _ zeros rfl rfl _ H0.out.2.1 zeros_length zeros_length ?_)
        | (go_at_call 108; (with_reducible refine (add_any _ _ _).mono ?_); rintro e w' ⟨rfl, rfl⟩))
      exact bodyPost_ret (results_vec2 rfl _ _ _ _ _ rfl rfl (H0.out.2.1.setRow _) zeros_length) rfl ⟨rfl, below_setRow H0.out.2.2 (by omega) _⟩
    · by_cases k1 : 16 ≤ k
      · clear hk
        go_enter Tryz.func153, Tryz.ntmps153
        go_wp2_with (first
          | (with_reducible refine wpList_store_vec rfl _ _ rfl _ zeros rfl rfl _ H0.out.2.1 zeros_length zeros_length ?_)
          | (go_at_call 108; (with_reducible refine (add_any _ _ _).mono ?_); rintro e w' ⟨rfl, rfl⟩))
        exact bodyPost_ret (results_vec2 rfl _ _ _ _ _ rfl rfl (H0.out.2.1.setRow _) zeros_length) rfl ⟨rfl, below_setRow H0.out.2.2 (by omega) _⟩
      · have n0 : n < 0 := by omega
        clear hk
        go_enter Tryz.func153, Tryz.ntmps153
        go_wp2_with (first
          | (with_reducible refine wpList_store_vec rfl _ _ rfl _ zeros rfl rfl _ H0.out.2.1 zeros_length zeros_length ?_)
          | (go_at_call 108; (with_reducible refine (add_any _ _ _).mono ?_); rintro e w' ⟨rfl, rfl⟩))
        exact bodyPost_ret (results_vec2 rfl _ _ _ _ _ rfl rfl (H0.out.2.1.setRow _) zeros_length) rfl ⟨rfl, below_setRow H0.out.2.2 (by omega) _⟩
  · obtain ⟨j, rfl⟩ : ∃ j : Nat, k = j := ⟨k.toNat, by omega⟩
    have j0 : (0 : Int) ≤ j := by omega
    have j1 : (j : Int) < 16 := by omega
    have n0 : ¬ n < 0 := by omega
    have c1 := H0.out.1.cell (k := j) (by have := HX.out; omega)
    have f1 := H0.out.1.frozen j
    cases ha : okB (xs.getD (j : Int).toNat 0) n (xs.getD (j : Int).toNat 0 + n) with
    | false =>
      obtain ⟨e1, e2⟩ := grow_no hk ha
      rw [e1, e2]; clear e1 e2
      rw [Int.toNat_natCast] at ha
      generalize xs.getD j 0 = x at c1 ha
      obtain ⟨e1, e2⟩ := addE_no ha
      clear hk ha
      go_enter Tryz.func153, Tryz.ntmps153
      go_wp2_with (first
        | (with_reducible refine wpList_store_vec rfl _ _ rfl _ zeros rfl rfl _ H0.out.2.1 zeros_length zeros_length ?_)
        | (go_at_call 108; (with_reducible refine (add_any _ _ _).mono ?_); rintro e w' ⟨rfl, rfl⟩; rw [e1, e2]))
      exact bodyPost_ret (results_vec2 rfl _ _ _ _ _ rfl rfl (H0.out.2.1.setRow _) zeros_length) rfl ⟨rfl, below_setRow H0.out.2.2 (by omega) _⟩
    | true =>
      obtain ⟨e1, e2⟩ := grow_yes hk ha
      rw [e1, e2]; clear e1 e2
      rw [Int.toNat_natCast] at ha ⊢
      have HL := Lib.hid (show (xs.set j (xs.getD j 0 + n)).length = 16 by simp [HX.out])
      generalize xs.getD j 0 = x at c1 ha HL ⊢
      obtain ⟨e1, e2⟩ := addE_ok ha
      clear hk ha
      have h2 := boxes w 23 (xs.set j (x + n)) zeros
      rw [zlit, ← vals_set] at h2
      have HA := Lib.hid h2.1
      have HZ := Lib.hid h2.2.1
      have HS := Lib.hid h2.2.2
      clear h2
      go_enter Tryz.func153, Tryz.ntmps153
      go_wp2_with (first
        | (with_reducible refine wpList_load_vec rfl _ rfl _ rfl _ HA.out HL.out ?_)
        | (with_reducible refine wpList_store_vec rfl _ _ rfl _ _ rfl rfl _ HZ.out zeros_length HL.out ?_)
        | (go_at_call 108; (with_reducible refine (add_any _ _ _).mono ?_); rintro e w' ⟨rfl, rfl⟩; rw [e1, e2]))
      exact bodyPost_ret (results_vec2 rfl _ _ _ _ _ rfl rfl (HZ.out.setRow _) HL.out) rfl ⟨rfl, below_setRow HS.out (by omega) _⟩

end Go.Proofs.YtbaccghnneidgaaGreat

namespace Go.Proofs.YtbaccghnneidgaaGreat
set_option maxRecDepth 100000
open Go.ChangeShapes Go.WideShapes Go.ChangeAt Go.RowKit

def j0 : List Int := [3, 5, 0, 0, 0, 0, 0, 0, 0, 0, 0, 0, 0, 0, 0, 0]
def g0 : List Int := [3, 9, 0, 0, 0, 0, 0, 0, 0, 0, 0, 0, 0, 0, 0, 0]

end Go.Proofs.YtbaccghnneidgaaGreat

namespace Go.Proofs.YtbaccghnneidgaaGreat
set_option maxRecDepth 100000
open Go.ChangeShapes Go.WideShapes Go.ChangeAt Go.RowKit

theorem int_info : (Tryz.prog.info? 3).map (fun i => (i.zero, i.size, i.bytes)) = some (some (.int .i64 0), 1, 8) := by kernel_rfl

theorem vals_append (xs ys : List Int) : vals (xs ++ ys) = vals xs ++ vals ys := by simp [vals]

theorem append_ints (w : World) (base : Nat) (ty : TypeId) (v : Value) (n : Nat) (xs : List Int) (hown : w.ownsRow base 3 1 v n (vals xs)) (A : Option Addr) (m c : Nat) (zs : List Int) (hr : Reads w A m zs) (h63 : n + m ≤ 1048576) (hbase : base ≤ w.heap.size) :
    ∃ v' w', (Builtin.append_ #[102, 102] ty #[v, .slice A m c]).run Tryz.prog w = .ok v' w' ∧ w'.ownsRow base 3 1 v' (n + m) (vals (xs ++ zs)) ∧ w.grownBy w' v.ownBlock ∧ (v'.ownBlock = v.ownBlock ∨ v'.ownBlock = some w.heap.size) := by
  obtain ⟨i0, hi0, hz0, hz1, hz2⟩ := info_parts int_info
  obtain ⟨hl, _, hx⟩ := hr
  rw [vals_append]
  cases A with
  | none =>
    have hm : m = 0 := by
      rcases hx with h0 | ⟨b, off, h, _⟩
      · exact h0
      · cases h
    subst hm
    have hzs : zs = [] := List.eq_nil_of_length_eq_zero hl
    subst hzs
    refine ⟨v, w, ?_, by simpa [vals] using hown, World.grownBy.refl w _, .inl rfl⟩
    rcases hown.2 with ⟨rfl, rfl⟩ | ⟨g, cap, cur, rfl, _, _, hnc, _⟩
    · simp [Builtin.append_, run_underlying Tryz.underlying102, sizeOf, typeInfo, hi0, Builtin.lenOf, Builtin.firstCells]
    · simp [Builtin.append_, run_underlying Tryz.underlying102, sizeOf, typeInfo, hi0, Builtin.lenOf, Builtin.firstCells, hnc, storeCells]
  | some ad =>
    obtain ⟨v', w', h1, h2, h3, _, h5⟩ := run_append_own_at (P := Tryz.prog) w base 102 ty 3 i0 (.int .i64 0) 1 8 Tryz.underlying102 hi0 hz0 hz1 hz2 rfl (by omega) v n (vals xs) hown ad m c (vals zs)
      (by rw [vals_length, hl, Nat.mul_one])
      (fun j u hu => by
        obtain ⟨hj, rfl⟩ := vals_at hu
        rcases hx with h0 | ⟨b, off, h, hc⟩
        · omega
        · injection h with h
          subst h
          rw [Go.WideShapes.add_plain]
          exact hc j (by omega))
      (fun u hu => by
        simp only [vals, List.mem_map] at hu
        obtain ⟨z, _, rfl⟩ := hu
        rfl) (by simp only [maxLen]; omega) (by omega) hbase
    exact ⟨v', w', h1, h2, h3, h5⟩

theorem wpList_append_ints {w : World} {ops : Array Oper} {rest : List Oper} {o : Oper} {a : Act} {Q : Exit → Act → World → Prop} (hgd : o.guard = none) (s x : Operand)
    (ho : o.op = .call { callee := .builtin .append, args := #[s, x], argTypes := #[102, 102] })
    (base : Nat) (v : Value) (n : Nat) (xs : List Int) (hs : a.eval s = v) (hown : w.ownsRow base 3 1 v n (vals xs))
    (A : Option Addr) (m c : Nat) (zs : List Int) (hx : a.eval x = .slice A m c) (hr : Reads w A m zs) (h63 : n + m ≤ 1048576) (hbase : base ≤ w.heap.size)
    (h : ∀ v' w', w'.ownsRow base 3 1 v' (n + m) (vals (xs ++ zs)) → w.grownBy w' v.ownBlock → (v'.ownBlock = v.ownBlock ∨ v'.ownBlock = some w.heap.size) → wpList Tryz.prog ops Q rest (a.put o.dst v') w') :
    wpList Tryz.prog ops Q (o :: rest) a w :=
  wpList_plain hgd fun _ hK => by
    obtain ⟨v', w', hrun, h2, h3, h4⟩ := append_ints w base o.type v n xs hown A m c zs hr h63 hbase
    unfold Oper.wp execOp
    simp only [ho, resolve, invoke, builtin, Sem.run_bind, Sem.run_pure, Result.andThen_ok, List.map_toArray, List.map_cons, List.map_nil, hs, hx, hrun]
    exact hK _ _ (h v' w' h2 h3 h4)

theorem own_reads {w : World} {base : Nat} {A : Option Addr} {n k c : Nat} {zs : List Int} (h : w.ownsRow base 3 1 (.slice A n c) k (vals zs)) (hm : n ≤ 1048576) : Reads w A n zs ∧ n = k := by
  have hl : zs.length = k := by have := h.1; rw [vals_length] at this; omega
  rcases h.2 with ⟨h1, rfl⟩ | ⟨g, cap, cur, h1, _⟩
  · injection h1 with _ h2
    subst h2
    exact ⟨⟨hl, by simp [maxLen], .inl rfl⟩, rfl⟩
  · injection h1 with h2 h3
    subst h2; subst h3
    refine ⟨⟨hl, by simp only [maxLen]; omega, .inr ⟨g, 0, rfl, fun i hi => ?_⟩⟩, rfl⟩
    have := h.cells (g := g) rfl i _ (vals_get (by omega))
    rwa [Go.WideShapes.add_plain] at this

theorem own_slice {w : World} {base : Nat} {v : Value} {n : Nat} {xs : List Value} (h : w.ownsRow base 3 1 v n xs) : ∃ A c, v = .slice A n c := by
  rcases h.2 with ⟨rfl, rfl⟩ | ⟨g, cap, cur, rfl, _⟩
  · exact ⟨_, _, rfl⟩
  · exact ⟨_, _, rfl⟩

theorem slice_high (a : Option Addr) (len cap K : Nat) (h : K ≤ cap) (W : World) : (Instr.slice 102 (.slice a len cap) none (some (.int .i64 (K : Int))) none).run Tryz.prog W = .ok (.slice (if cap = 0 then a else a.map (·.add 0)) K cap) W := by
  obtain ⟨i0, hi0, hz0, hz1, hz2⟩ := info_parts int_info
  simp [Instr.slice, run_underlying Tryz.underlying102, Instr.sliceBounds, Instr.sliceBound, asIntOf, sizeOf, typeInfo, hi0, h]

end Go.Proofs.YtbaccghnneidgaaGreat
