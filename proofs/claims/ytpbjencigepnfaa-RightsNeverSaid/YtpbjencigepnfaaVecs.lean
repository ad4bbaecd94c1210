/- Vectors (arrays of 16 ints): the lists that they are, the cells that hold them, and what the operations on them do. -/
import Derived.Test.YtpbjencigepnfaaRows
import Derived.Test.YtpbjencigepnfaaPlain
import Derived.WalkKit
import Derived.ProofKit
import Derived.Lib.Hide
import Derived.Below
import Derived.Deep.MidRow
import Derived.Deep.RegionHeld3
import Derived.Deep.QuietTactic
import Derived.BigQuiet
namespace Go.Proofs.Ytpbjencigepnfaa
open Go.ChangeShapes Go.WideShapes Go.ChangeAt Go.RowKit

/-- Ints, as the cells that hold them. -/
def vals (zs : List Int) : List Value := zs.map (.int .i64)
theorem vals_length (zs : List Int) : (vals zs).length = zs.length := by simp [vals]
theorem vals_get {zs : List Int} {j : Nat} (h : j < zs.length) : (vals zs)[j]? = some (.int .i64 (zs.getD j 0)) := by
  simp [vals, List.getD, h]
theorem vals_at {zs : List Int} {j : Nat} {u : Value} (h : (vals zs)[j]? = some u) : j < zs.length ∧ u = .int .i64 (zs.getD j 0) := by
  simp only [vals, List.getElem?_map, Option.map_eq_some_iff] at h
  obtain ⟨z, hz, rfl⟩ := h
  have hj : j < zs.length := by
    rcases Nat.lt_or_ge j zs.length with h | h
    · exact h
    · rw [List.getElem?_eq_none h] at hz; cases hz
  exact ⟨hj, by simp [List.getD, hz]⟩
theorem vals_one (zs : List Int) : ∀ v ∈ vals zs, v.oneCell' = true := by
  intro v hv
  simp only [vals, List.mem_map] at hv
  obtain ⟨z, _, rfl⟩ := hv
  rfl
theorem vals_all (zs : List Int) : (vals zs).toArray.all (·.oneCell') = true := all_oneCell_toArray (vals_one zs)
theorem vals_set (zs : List Int) (k : Nat) (z : Int) : (vals zs).set k (.int .i64 z) = vals (zs.set k z) := by simp [vals, List.map_set]
theorem vals_inj {xs ys : List Int} (h : vals xs = vals ys) : xs = ys := by
  induction xs generalizing ys with
  | nil => cases ys with
    | nil => rfl
    | cons y r => simp [vals] at h
  | cons x r ih => cases ys with
    | nil => simp [vals] at h
    | cons y s =>
      simp only [vals, List.map_cons, List.cons.injEq] at h
      obtain ⟨h1, h2⟩ := h
      injection h1 with _ h1
      rw [h1, ih h2]

/-- A block of its own that holds ints, of some type. -/
def Blk (w : World) (b : Nat) (t : TypeId) (zs : List Int) : Prop := w.heap[b]? = some (.cells (vals zs).toArray t (0, 0))

theorem Blk.lt {w : World} {b : Nat} {t : TypeId} {zs : List Int} (h : Blk w b t zs) : b < w.heap.size := (Array.getElem?_eq_some_iff.1 h).1
theorem Blk.cell {w : World} {b : Nat} {t : TypeId} {zs : List Int} (h : Blk w b t zs) {k : Nat} (hk : k < zs.length) : w.cell? ⟨b, k, none⟩ = some (.int .i64 (zs.getD k 0)) := by
  rw [cell_of_row w b k _ t (0, 0) h]
  simp [vals_get hk]
theorem Blk.range {w : World} {b : Nat} {t : TypeId} {zs : List Int} (h : Blk w b t zs) : w.rangeAt b 0 (vals zs) := fun j v hv => by
  rw [cell_of_row w b (0 + j) _ t (0, 0) h]
  simpa using hv
theorem Blk.frozen {w : World} {b : Nat} {t : TypeId} {zs : List Int} (h : Blk w b t zs) (k : Nat) : w.frozen? ⟨b, k, none⟩ = false := frozen_of_row w b k _ t h
theorem Blk.there {w : World} {b : Nat} {t : TypeId} {zs : List Int} (h : Blk w b t zs) {n : Nat} (hn : n ≤ zs.length) : w.there b 0 n := fun j hj => by
  rw [Nat.zero_add]
  exact ⟨by rw [h.cell (by omega)]; rfl, h.frozen j⟩
theorem Blk.new (w : World) (t : TypeId) (zs : List Int) : Blk (w.alloc (.cells (vals zs).toArray t)) w.heap.size t zs := heap_alloc_new w _
theorem Blk.alloc {w : World} {b : Nat} {t : TypeId} {zs : List Int} (h : Blk w b t zs) (o : Obj) : Blk (w.alloc o) b t zs := (Below.heap_alloc w o b h.lt).trans h
theorem Blk.below {w w' : World} {b : Nat} {t : TypeId} {zs : List Int} (h : Blk w b t zs) {B : Nat} (hb : Below B w w') (hl : b < B) : Blk w' b t zs := (hb.block b hl).trans h
theorem Blk.drew {w : World} {b : Nat} {t : TypeId} {zs : List Int} (h : Blk w b t zs) : Blk w.drew b t zs := h
theorem Blk.drewN {w : World} {b : Nat} {t : TypeId} {zs : List Int} (h : Blk w b t zs) (n : Nat) : Blk (w.drewN n) b t zs := h
theorem below_drewN {B : Nat} {a w : World} (h : Below B a w) (n : Nat) : Below B a (w.drewN n) := ⟨h.os, h.tape, h.output, h.size, h.block⟩
theorem Blk.setCell {w : World} {b : Nat} {t : TypeId} {zs : List Int} (h : Blk w b t zs) (k : Nat) (z : Int) : Blk (w.setCell ⟨b, k, none⟩ (.int .i64 z)) b t (zs.set k z) := by
  unfold Blk
  rw [heap_setCell_same w b k _ t _ h, ← vals_set]
  simp
theorem Blk.apart {w : World} {b : Nat} {t : TypeId} {zs : List Int} (h : Blk w b t zs) (a : Addr) (v : Value) (hb : b ≠ a.block) : Blk (w.setCell a v) b t zs := (heap_setCell_other w a b v hb).trans h
theorem Blk.setRow {w : World} {b : Nat} {t : TypeId} {zs : List Int} (h : Blk w b t zs) (ys : List Int) : Blk (w.setRow b (vals ys).toArray) b t ys := setRow_heap w b _ _ t _ h
theorem Blk.setRow_apart {w : World} {b : Nat} {t : TypeId} {zs : List Int} (h : Blk w b t zs) {g : Nat} (cs : Array Value) (hb : b ≠ g) : Blk (w.setRow g cs) b t zs := (_root_.Go.setRow_other w g b cs hb).trans h
theorem below_setRow {B : Nat} {a w : World} (h : Below B a w) {g : Nat} (hg : B ≤ g) (cs : Array Value) : Below B a (w.setRow g cs) :=
  h.trans ⟨rfl, rfl, rfl, by simp, fun k hk => _root_.Go.setRow_other w g k cs (by omega)⟩

/-- Two vectors, boxed one behind the other. -/
theorem boxes (w : World) (t : TypeId) (xs ys : List Int) : Blk ((w.alloc (.cells (vals xs).toArray t)).alloc (.cells (vals ys).toArray t)) w.heap.size t xs ∧ Blk ((w.alloc (.cells (vals xs).toArray t)).alloc (.cells (vals ys).toArray t)) (w.heap.size + 1) t ys ∧ Below w.heap.size w ((w.alloc (.cells (vals xs).toArray t)).alloc (.cells (vals ys).toArray t)) :=
  ⟨(Blk.new w _ xs).alloc _, by have := Blk.new (w.alloc (.cells (vals xs).toArray t)) t ys; simpa using this, ((Below.refl _ _).alloc (Nat.le_refl _) _).alloc (by simp) _⟩
def zeros : List Int := List.replicate 16 0
theorem zeros_length : zeros.length = 16 := by simp [zeros]
theorem zlit : (vals zeros).toArray = #[.int .i64 0, .int .i64 0, .int .i64 0, .int .i64 0, .int .i64 0, .int .i64 0, .int .i64 0, .int .i64 0, .int .i64 0, .int .i64 0, .int .i64 0, .int .i64 0, .int .i64 0, .int .i64 0, .int .i64 0, .int .i64 0] := rfl
/-- The same, and a block more. -/
theorem boxes_more {w W : World} {t : TypeId} {xs ys : List Int} {n : Nat} (hn : W.heap.size = n) (h : Blk W w.heap.size t xs ∧ Blk W (w.heap.size + 1) t ys ∧ Below w.heap.size w W) (zs : List Int) :
    (Blk (W.alloc (.cells (vals zs).toArray t)) w.heap.size t xs ∧ Blk (W.alloc (.cells (vals zs).toArray t)) (w.heap.size + 1) t ys ∧ Below w.heap.size w (W.alloc (.cells (vals zs).toArray t))) ∧ Blk (W.alloc (.cells (vals zs).toArray t)) n t zs := by
  subst hn
  exact ⟨⟨h.1.alloc _, h.2.1.alloc _, h.2.2.alloc h.2.2.size _⟩, Blk.new W t zs⟩
theorem range_below {w w' : World} {b o : Nat} {cs : List Value} (h : w.rangeAt b o cs) {B : Nat} (hb : Below B w w') (hl : b < B) : w'.rangeAt b o cs := fun j v hv => by
  rw [hb.cell (p := ⟨b, o + j, none⟩) hl]; exact h j v hv
/-- Two vectors lie in the first two blocks of a call's own; below them all is as it was. -/
abbrev Two (w : World) (xs ys : List Int) (w' : World) : Prop := w'.rangeAt w.heap.size 0 (vals xs) ∧ w'.rangeAt (w.heap.size + 1) 0 (vals ys) ∧ Below w.heap.size w w' ∧ w.heap.size + 2 ≤ w'.heap.size
theorem Two.start (w : World) (t : TypeId) (xs ys : List Int) : Two w xs ys ((w.alloc (.cells (vals xs).toArray t)).alloc (.cells (vals ys).toArray t)) :=
  ⟨(boxes w t xs ys).1.range, (boxes w t xs ys).2.1.range, (boxes w t xs ys).2.2, by simp⟩
theorem Two.drew {w w1 : World} {xs ys : List Int} (h : Two w xs ys w1) : Two w xs ys w1.drew := ⟨h.1, h.2.1, h.2.2.1.drew, h.2.2.2⟩
theorem Two.call {w w1 w2 : World} {xs ys : List Int} (h : Two w xs ys w1) (hb : Below w1.heap.size w1 w2) : Two w xs ys w2 :=
  ⟨range_below h.1 hb (by have := h.2.2.2; omega), range_below h.2.1 hb (by have := h.2.2.2; omega), h.2.2.1.trans (hb.mono (by have := h.2.2.2; omega)), Nat.le_trans h.2.2.2 hb.size⟩
/-- One vector, boxed. -/
theorem box (w : World) (t : TypeId) (xs : List Int) : Blk (w.alloc (.cells (vals xs).toArray t)) w.heap.size t xs ∧ Below w.heap.size w (w.alloc (.cells (vals xs).toArray t)) :=
  ⟨Blk.new w _ xs, (Below.refl _ _).alloc (Nat.le_refl _) _⟩

/-! ### Equality of arrays of ints. -/
theorem all_range_ints : ∀ (xs ys : List Int), xs.length = ys.length → ((List.range xs.length).all fun i => xs.getD i 0 == ys.getD i 0) = (xs == ys)
  | [], [], _ => rfl
  | x :: xs, y :: ys, h => by
    have ih := all_range_ints xs ys (by simpa using h)
    rw [List.length_cons, List.range_succ_eq_map, List.all_cons, List.all_map]
    simp only [List.getD_cons_zero, Function.comp_def, List.getD_cons_succ, ih]
    simp [List.cons_beq_cons]
  | [], _ :: _, h => by simp at h
  | _ :: _, [], h => by simp at h

theorem run_equalIn_ints {P : Program} (w : World) (d : Nat) (t e : TypeId) (n : Nat) (ht : P.underlying t = some (.array n e)) (he : P.underlying e = some (.int .i64)) (hsz : ∀ w, (sizeOf e).run P w = .ok 1 w)
    (xs ys : List Int) (hx : xs.length = n) (hy : ys.length = n) :
    (Op.equalIn (d + 2) t (.agg (vals xs).toArray) (.agg (vals ys).toArray)).run P w = .ok (xs == ys) w := by
  rw [← all_range_ints xs ys (hx.trans hy.symm), hx, List.range_eq_range', Op.equalIn]
  simp only [Sem.run_bind, run_underlying ht, Result.andThen_ok, hsz, Std.Legacy.Range.forIn_eq_forIn_range', Std.Legacy.Range.size, Nat.sub_zero, Nat.add_sub_cancel, Nat.div_one]
  have hl : ∀ i ∈ List.range' 0 n 1, i < n := fun i hi => by simpa using (List.mem_range'_1.1 hi).2
  generalize List.range' 0 n 1 = l at hl ⊢
  induction l with
  | nil => simp
  | cons i l ih =>
    have hi : i < n := hl i (by simp)
    have px : (part e (vals xs).toArray (i * 1)).run P w = .ok (.int .i64 (xs.getD i 0)) w := by
      simp [part, isAgg, run_underlying he, vals, List.getElem?_eq_getElem (show i < xs.length by omega)]
    have py : (part e (vals ys).toArray (i * 1)).run P w = .ok (.int .i64 (ys.getD i 0)) w := by
      simp [part, isAgg, run_underlying he, vals, List.getElem?_eq_getElem (show i < ys.length by omega)]
    have pe : (Op.equalIn (d + 1) e (.int .i64 (xs.getD i 0)) (.int .i64 (ys.getD i 0))).run P w = .ok (xs.getD i 0 == ys.getD i 0) w := run_equalIn_int w d e .i64 .i64 _ _ he
    simp only [List.forIn_cons, Sem.run_bind, px, py, pe, Result.andThen_ok, List.all_cons]
    cases hb : (xs.getD i 0 == ys.getD i 0)
    · simp
    · simp only [Bool.not_true, Bool.false_eq_true, if_false, Sem.run_pure, Result.andThen_ok, Bool.true_and]
      exact ih fun j hj => hl j (by simp [hj])

theorem int_size : ∀ w, (sizeOf 3).run Try.prog w = .ok 1 w := fun w => by kernel_rfl
theorem vec_info : (Try.prog.info? 23).map (·.size) = some 16 := by kernel_rfl
theorem vec_info_of {zs : List Int} (h : zs.length = 16) : (Try.prog.info? 23).map (·.size) = some (vals zs).length := by rw [vals_length, h]; exact vec_info

theorem eql_vec (xs ys : List Int) (hx : xs.length = 16) (hy : ys.length = 16) (w : World) : (Op.equalIn 10000 23 (.agg (vals xs).toArray) (.agg (vals ys).toArray)).run Try.prog w = .ok (xs == ys) w :=
  run_equalIn_ints w 9998 23 3 16 Try.underlying23 Try.underlying3 int_size xs ys hx hy

theorem index_vec {zs : List Int} (hz : zs.length = 16) {k : Nat} (hk : k < 16) (w : World) : (Instr.index 23 (.agg (vals zs).toArray) (.int .i64 (k : Int))).run Try.prog w = .ok (.int .i64 (zs.getD k 0)) w := by
  have hp : (part 3 (vals zs).toArray k).run Try.prog w = .ok (.int .i64 (zs.getD k 0)) w := by
    simp [part, isAgg, run_underlying Try.underlying3, vals, List.getElem?_eq_getElem (show k < zs.length by omega)]
  simp [Instr.index, asIntOf, run_underlying Try.underlying23, hk, hp]

/-! ### Loads and stores of whole vectors, at a plain region's list. -/
theorem wpList_load_vec {ops : Array Oper} {rest : List Oper} {o : Oper} {a : Act} {w : World} {Q : Exit → Act → World → Prop} (hgd : o.guard = none) (x : Operand) (ho : o.op = .load 23 x)
    (b : Nat) (hx : a.eval x = .pointer (some ⟨b, 0, none⟩)) (zs : List Int) (hb : Blk w b 23 zs) (hl : zs.length = 16)
    (h : wpList Try.prog ops Q rest (a.put o.dst (.agg (vals zs).toArray)) w) : wpList Try.prog ops Q (o :: rest) a w :=
  wpList_load_row hgd _ x ho b hx _ _ (0, 0) _ hb Try.underlying23 rfl (by rw [List.size_toArray]; exact vec_info_of hl) h

/-- The same behind a guard that lets it be. -/
theorem wpList_load_want {ops : Array Oper} {rest : List Oper} {o : Oper} {a : Act} {w : World} {Q : Exit → Act → World → Prop} (x : Operand) (ho : o.op = .load 23 x) (hw : Region.wanted o (yielded ops a.tmps) = true)
    (b : Nat) (hx : a.eval x = .pointer (some ⟨b, 0, none⟩)) (zs : List Int) (hb : Blk w b 23 zs) (hl : zs.length = 16)
    (h : wpList Try.prog ops Q rest (a.put o.dst (.agg (vals zs).toArray)) w) : wpList Try.prog ops Q (o :: rest) a w :=
  BigFrame.wpList_want hw fun _ hK => wp_load_row _ x ho b hx _ _ (0, 0) _ hb Try.underlying23 rfl (by rw [List.size_toArray]; exact vec_info_of hl) (hK _ _ h)

theorem wpList_store_vec {ops : Array Oper} {rest : List Oper} {o : Oper} {a : Act} {w : World} {Q : Exit → Act → World → Prop} (hgd : o.guard = none) (x y : Operand) (ho : o.op = .store 23 x y)
    (b : Nat) (zs : List Int) (hx : a.eval x = .pointer (some ⟨b, 0, none⟩)) (hy : a.eval y = .agg (vals zs).toArray) (old : List Int) (hb : Blk w b 23 old) (ho16 : old.length = 16) (hl : zs.length = 16)
    (h : wpList Try.prog ops Q rest (a.put o.dst undef) (w.setRow b (vals zs).toArray)) : wpList Try.prog ops Q (o :: rest) a w :=
  wpList_store_row hgd _ x y ho b _ hx hy _ _ hb (by rw [List.size_toArray]; exact vec_info_of hl) (by simp [vals_length, ho16, hl]) (vals_all zs) h

theorem results_vec {fn : Func} {p : Tmp} (h : fn.results = #[.cell p 23]) (tmps : Array Value) (w : World) (b : Nat) (zs : List Int)
    (hp : tmps.getD p undef = .pointer (some ⟨b, 0, none⟩)) (hb : Blk w b 23 zs) (hl : zs.length = 16) : (results fn tmps).run Try.prog w = .ok (.agg (vals zs).toArray) w :=
  results_cell_row h tmps w b _ _ (0, 0) _ hp hb Try.underlying23 rfl (by rw [List.size_toArray]; exact vec_info_of hl)

theorem results_vec2 {fn : Func} {p q : Tmp} (h : fn.results = #[.cell p 23, .tmp q]) (tmps : Array Value) (w : World) (b : Nat) (zs : List Int) (v : Value)
    (hp : tmps.getD p undef = .pointer (some ⟨b, 0, none⟩)) (hq : tmps.getD q undef = v) (hb : Blk w b 23 zs) (hl : zs.length = 16) : (results fn tmps).run Try.prog w = .ok (.tuple #[.agg (vals zs).toArray, v]) w := by
  have hp' : tmps[p]?.getD undef = .pointer (some ⟨b, 0, none⟩) := by simpa using hp
  have hq' : tmps[q]?.getD undef = v := by simpa using hq
  have hr := run_loadVar_row (P := Try.prog) w b _ 23 _ (0, 0) _ hb Try.underlying23 rfl (by rw [List.size_toArray]; exact vec_info_of hl)
  simp [results, h, hp', hq', asAddr, hr]

/-- The first k of one list, and the rest of another one. -/
def mix (k : Nat) (zs xs : List Int) : List Int := zs.take k ++ xs.drop k
theorem mix_length {zs xs : List Int} (h : zs.length = xs.length) (k : Nat) : (mix k zs xs).length = xs.length := by simp [mix]; omega
theorem mix_zero (zs xs : List Int) : mix 0 zs xs = xs := by simp [mix]
theorem mix_all {zs xs : List Int} {k : Nat} (h : zs.length = xs.length) (hk : xs.length ≤ k) : mix k zs xs = zs := by
  simp [mix, List.take_of_length_le (show zs.length ≤ k by omega), List.drop_of_length_le hk]
theorem mix_get {zs xs : List Int} {k : Nat} (h : zs.length = xs.length) (hk : k < xs.length) : (mix k zs xs).getD k 0 = xs.getD k 0 := by
  simp [mix, List.getD, List.getElem?_append, show min k zs.length = k by omega]
theorem mix_set {zs xs : List Int} {k : Nat} (h : zs.length = xs.length) (hk : k < xs.length) : (mix k zs xs).set k (zs.getD k 0) = mix (k + 1) zs xs := by
  apply List.ext_getElem?
  intro i
  simp only [mix, List.getElem?_set, List.length_append, List.length_take, List.length_drop, List.getElem?_append, List.getElem?_take, List.getElem?_drop]
  by_cases h1 : k = i
  · subst h1
    have hz : k < zs.length := by omega
    simp [show min k zs.length = k by omega, show min (k + 1) zs.length = k + 1 by omega, List.getD, hz, show k < k + (xs.length - k) by omega]
  · simp only [h1, if_false]
    by_cases h2 : i < k
    · simp [show i < min k zs.length by omega, show i < min (k + 1) zs.length by omega, h2, show i < k + 1 by omega]
    · rw [if_neg (show ¬ i < min k zs.length by omega), if_neg (show ¬ i < min (k + 1) zs.length by omega)]
      congr 1
      omega

/-- Of each two numbers the greater one. -/
def joinL (xs ys : List Int) : List Int := List.zipWith max xs ys
theorem joinL_length {xs ys : List Int} (hx : xs.length = 16) (hy : ys.length = 16) : (joinL xs ys).length = 16 := by simp [joinL, hx, hy]
theorem joinL_get {xs ys : List Int} {k : Nat} (hx : k < xs.length) (hy : k < ys.length) : (joinL xs ys).getD k 0 = max (xs.getD k 0) (ys.getD k 0) := by
  simp [joinL, List.getD, List.getElem?_zipWith, hx, hy]
theorem ext_get {xs ys : List Int} (h : xs.length = ys.length) (hg : ∀ k, k < xs.length → xs.getD k 0 = ys.getD k 0) : xs = ys := by
  apply List.ext_getElem h
  intro i h1 h2
  have := hg i h1
  simpa [List.getD, h1, h2] using this
/-- Is each number of one at least that of another one? -/
def overB (xs ys : List Int) : Bool := joinL xs ys == xs
theorem overB_iff {xs ys : List Int} (hx : xs.length = 16) (hy : ys.length = 16) : overB xs ys = true ↔ ∀ k, k < 16 → ys.getD k 0 ≤ xs.getD k 0 := by
  simp only [overB, beq_iff_eq]
  constructor
  · intro h k hk
    have := joinL_get (xs := xs) (ys := ys) (k := k) (by omega) (by omega)
    rw [h] at this
    omega
  · intro h
    refine ext_get (by rw [joinL_length hx hy, hx]) fun k hk => ?_
    rw [joinL_length hx hy] at hk
    rw [joinL_get (by omega) (by omega)]
    have := h k hk
    omega
/-- May each number of a vector be? -/
def rightB (xs : List Int) : Bool := xs.all fun n => decide (0 ≤ n) && decide (n ≤ 1099511627776)
theorem rightB_iff {xs : List Int} (hx : xs.length = 16) : rightB xs = true ↔ ∀ k, k < 16 → (0 ≤ xs.getD k 0 ∧ xs.getD k 0 ≤ 1099511627776) := by
  simp only [rightB, List.all_eq_true, Bool.and_eq_true, decide_eq_true_eq]
  constructor
  · intro h k hk
    exact h _ (by simp [List.getD, show k < xs.length by omega])
  · intro h x hm
    obtain ⟨k, hk, rfl⟩ := List.getElem_of_mem hm
    have := h k (by omega)
    simpa [List.getD, hk] using this
end Go.Proofs.Ytpbjencigepnfaa
