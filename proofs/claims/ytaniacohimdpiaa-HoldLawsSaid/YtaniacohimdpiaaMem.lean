/- Ints in memory: lists of ints as the cells that hold them, blocks that are kept while calls make memory, and what the operations on them do. -/
import Derived.Test.YtaniacohimdpiaaDraw
import Derived.Test.YtaniacohimdpiaaNumAdd
import Derived.Below
import Derived.Deep.MidRow
import Derived.Deep.QuietTactic
import Derived.BigQuiet
import Derived.Laws.StructEq
import Derived.Laws.OwnMore
namespace Go.Proofs.Ytaniacohimdpiaa
open Go.ChangeShapes Go.WideShapes Go.ChangeAt Go.RowKit

/-- Ints, as the cells that hold them. -/
def vals (zs : List Int) : List Value := zs.map (.int .i64)
theorem vals_length (zs : List Int) : (vals zs).length = zs.length := by simp [vals]
theorem vals_get {zs : List Int} {j : Nat} (h : j < zs.length) : (vals zs)[j]? = some (.int .i64 (zs.getD j 0)) := by
  simp [vals, List.getD, h]
theorem vals_at {zs : List Int} {j : Nat} {u : Value} (h : (vals zs)[j]? = some u) : j < zs.length ∧ u = .int .i64 (zs.getD j 0) := by
  simp only [vals, List.getElem?_map, Option.map_eq_some_iff] at h
  obtain ⟨z, hz, rfl⟩ := h
  have hj : j < zs.length := by
    rcases Nat.lt_or_ge j zs.length with h | h
    · exact h
    · rw [List.getElem?_eq_none h] at hz; cases hz
  exact ⟨hj, by simp [List.getD, hz]⟩
theorem vals_one (zs : List Int) : ∀ v ∈ vals zs, v.oneCell' = true := by
  intro v hv
  simp only [vals, List.mem_map] at hv
  obtain ⟨z, _, rfl⟩ := hv
  rfl
theorem vals_all (zs : List Int) : (vals zs).toArray.all (·.oneCell') = true := all_oneCell_toArray (vals_one zs)
theorem vals_set (zs : List Int) (k : Nat) (z : Int) : (vals zs).set k (.int .i64 z) = vals (zs.set k z) := by simp [vals, List.map_set]
theorem vals_inj {xs ys : List Int} (h : vals xs = vals ys) : xs = ys := by
  induction xs generalizing ys with
  | nil => cases ys with
    | nil => rfl
    | cons y r => simp [vals] at h
  | cons x r ih => cases ys with
    | nil => simp [vals] at h
    | cons y s =>
      simp only [vals, List.map_cons, List.cons.injEq] at h
      obtain ⟨h1, h2⟩ := h
      injection h1 with _ h1
      rw [h1, ih h2]
/-- A block of its own that holds ints, of some type. -/
def Blk (w : World) (b : Nat) (t : TypeId) (zs : List Int) : Prop := w.heap[b]? = some (.cells (vals zs).toArray t (0, 0))
theorem Blk.lt {w : World} {b : Nat} {t : TypeId} {zs : List Int} (h : Blk w b t zs) : b < w.heap.size := (Array.getElem?_eq_some_iff.1 h).1
theorem Blk.cell {w : World} {b : Nat} {t : TypeId} {zs : List Int} (h : Blk w b t zs) {k : Nat} (hk : k < zs.length) : w.cell? ⟨b, k, none⟩ = some (.int .i64 (zs.getD k 0)) := by
  rw [cell_of_row w b k _ t (0, 0) h]
  simp [vals_get hk]
theorem Blk.range {w : World} {b : Nat} {t : TypeId} {zs : List Int} (h : Blk w b t zs) : w.rangeAt b 0 (vals zs) := fun j v hv => by
  rw [cell_of_row w b (0 + j) _ t (0, 0) h]
  simpa using hv
theorem Blk.frozen {w : World} {b : Nat} {t : TypeId} {zs : List Int} (h : Blk w b t zs) (k : Nat) : w.frozen? ⟨b, k, none⟩ = false := frozen_of_row w b k _ t h
theorem Blk.there {w : World} {b : Nat} {t : TypeId} {zs : List Int} (h : Blk w b t zs) {n : Nat} (hn : n ≤ zs.length) : w.there b 0 n := fun j hj => by
  rw [Nat.zero_add]
  exact ⟨by rw [h.cell (by omega)]; rfl, h.frozen j⟩
theorem Blk.new (w : World) (t : TypeId) (zs : List Int) : Blk (w.alloc (.cells (vals zs).toArray t)) w.heap.size t zs := heap_alloc_new w _
theorem Blk.alloc {w : World} {b : Nat} {t : TypeId} {zs : List Int} (h : Blk w b t zs) (o : Obj) : Blk (w.alloc o) b t zs := (Below.heap_alloc w o b h.lt).trans h
theorem Blk.below {w w' : World} {b : Nat} {t : TypeId} {zs : List Int} (h : Blk w b t zs) {B : Nat} (hb : Below B w w') (hl : b < B) : Blk w' b t zs := (hb.block b hl).trans h
theorem Blk.drew {w : World} {b : Nat} {t : TypeId} {zs : List Int} (h : Blk w b t zs) : Blk w.drew b t zs := h
theorem Blk.drewN {w : World} {b : Nat} {t : TypeId} {zs : List Int} (h : Blk w b t zs) (n : Nat) : Blk (w.drewN n) b t zs := h
theorem below_drewN {B : Nat} {a w : World} (h : Below B a w) (n : Nat) : Below B a (w.drewN n) := ⟨h.os, h.tape, h.output, h.size, h.block⟩
theorem Blk.setCell {w : World} {b : Nat} {t : TypeId} {zs : List Int} (h : Blk w b t zs) (k : Nat) (z : Int) : Blk (w.setCell ⟨b, k, none⟩ (.int .i64 z)) b t (zs.set k z) := by
  unfold Blk
  rw [heap_setCell_same w b k _ t _ h, ← vals_set]
  simp
theorem Blk.apart {w : World} {b : Nat} {t : TypeId} {zs : List Int} (h : Blk w b t zs) (a : Addr) (v : Value) (hb : b ≠ a.block) : Blk (w.setCell a v) b t zs := (heap_setCell_other w a b v hb).trans h
theorem Blk.setRow {w : World} {b : Nat} {t : TypeId} {zs : List Int} (h : Blk w b t zs) (ys : List Int) : Blk (w.setRow b (vals ys).toArray) b t ys := setRow_heap w b _ _ t _ h
theorem Blk.setRow_apart {w : World} {b : Nat} {t : TypeId} {zs : List Int} (h : Blk w b t zs) {g : Nat} (cs : Array Value) (hb : b ≠ g) : Blk (w.setRow g cs) b t zs := (_root_.Go.setRow_other w g b cs hb).trans h
theorem below_setRow {B : Nat} {a w : World} (h : Below B a w) {g : Nat} (hg : B ≤ g) (cs : Array Value) : Below B a (w.setRow g cs) :=
  h.trans ⟨rfl, rfl, rfl, by simp, fun k hk => _root_.Go.setRow_other w g k cs (by omega)⟩
theorem range_below {w w' : World} {b o : Nat} {cs : List Value} (h : w.rangeAt b o cs) {B : Nat} (hb : Below B w w') (hl : b < B) : w'.rangeAt b o cs := fun j v hv => by
  rw [hb.cell (p := ⟨b, o + j, none⟩) hl]; exact h j v hv
/-- One vector, boxed. -/
theorem box (w : World) (t : TypeId) (xs : List Int) : Blk (w.alloc (.cells (vals xs).toArray t)) w.heap.size t xs ∧ Below w.heap.size w (w.alloc (.cells (vals xs).toArray t)) :=
  ⟨Blk.new w _ xs, (Below.refl _ _).alloc (Nat.le_refl _) _⟩
theorem all_range_ints : ∀ (xs ys : List Int), xs.length = ys.length → ((List.range xs.length).all fun i => xs.getD i 0 == ys.getD i 0) = (xs == ys)
  | [], [], _ => rfl
  | x :: xs, y :: ys, h => by
    have ih := all_range_ints xs ys (by simpa using h)
    rw [List.length_cons, List.range_succ_eq_map, List.all_cons, List.all_map]
    simp only [List.getD_cons_zero, Function.comp_def, List.getD_cons_succ, ih]
    simp [List.cons_beq_cons]
  | [], _ :: _, h => by simp at h
  | _ :: _, [], h => by simp at h
theorem run_equalIn_ints {P : Program} (w : World) (d : Nat) (t e : TypeId) (n : Nat) (ht : P.underlying t = some (.array n e)) (he : P.underlying e = some (.int .i64)) (hsz : ∀ w, (sizeOf e).run P w = .ok 1 w)
    (xs ys : List Int) (hx : xs.length = n) (hy : ys.length = n) :
    (Op.equalIn (d + 2) t (.agg (vals xs).toArray) (.agg (vals ys).toArray)).run P w = .ok (xs == ys) w := by
  rw [← all_range_ints xs ys (hx.trans hy.symm), hx, List.range_eq_range', Op.equalIn]
  simp only [Sem.run_bind, run_underlying ht, Result.andThen_ok, hsz, Std.Legacy.Range.forIn_eq_forIn_range', Std.Legacy.Range.size, Nat.sub_zero, Nat.add_sub_cancel, Nat.div_one]
  have hl : ∀ i ∈ List.range' 0 n 1, i < n := fun i hi => by simpa using (List.mem_range'_1.1 hi).2
  generalize List.range' 0 n 1 = l at hl ⊢
  induction l with
  | nil => simp
  | cons i l ih =>
    have hi : i < n := hl i (by simp)
    have px : (part e (vals xs).toArray (i * 1)).run P w = .ok (.int .i64 (xs.getD i 0)) w := by
      simp [part, isAgg, run_underlying he, vals, List.getElem?_eq_getElem (show i < xs.length by omega)]
    have py : (part e (vals ys).toArray (i * 1)).run P w = .ok (.int .i64 (ys.getD i 0)) w := by
      simp [part, isAgg, run_underlying he, vals, List.getElem?_eq_getElem (show i < ys.length by omega)]
    have pe : (Op.equalIn (d + 1) e (.int .i64 (xs.getD i 0)) (.int .i64 (ys.getD i 0))).run P w = .ok (xs.getD i 0 == ys.getD i 0) w := run_equalIn_int w d e .i64 .i64 _ _ he
    simp only [List.forIn_cons, Sem.run_bind, px, py, pe, Result.andThen_ok, List.all_cons]
    cases hb : (xs.getD i 0 == ys.getD i 0)
    · simp
    · simp only [Bool.not_true, Bool.false_eq_true, if_false, Sem.run_pure, Result.andThen_ok, Bool.true_and]
      exact ih fun j hj => hl j (by simp [hj])
theorem int_size : ∀ w, (sizeOf 3).run Try.prog w = .ok 1 w := fun w => by kernel_rfl
theorem ext_get {xs ys : List Int} (h : xs.length = ys.length) (hg : ∀ k, k < xs.length → xs.getD k 0 = ys.getD k 0) : xs = ys := by
  apply List.ext_getElem h
  intro i h1 h2
  have := hg i h1
  simpa [List.getD, h1, h2] using this
theorem set_get {xs : List Int} {j i : Nat} {z : Int} (hj : j < xs.length) : (xs.set j z).getD i 0 = if i = j then z else xs.getD i 0 := by
  by_cases h : i = j
  · subst h; simp [List.getD, hj]
  · simp [List.getD, h, List.getElem?_set_ne (show j ≠ i by omega)]
theorem ints_of_cells : ∀ (l : List Value), (∀ i, i < l.length → ∃ n, l[i]? = some (.int .i64 n) ∧ (Lit.int .i64 n).wf = true) → ∃ zs : List Int, l = vals zs ∧ ∀ z ∈ zs, (Lit.int .i64 z).wf = true
  | [], _ => ⟨[], rfl, by simp⟩
  | v :: l, h => by
    obtain ⟨n, h1, h2⟩ := h 0 (by simp)
    obtain ⟨zs, h3, h4⟩ := ints_of_cells l (fun i hi => by simpa using h (i + 1) (by simpa using hi))
    refine ⟨n :: zs, ?_, ?_⟩
    · simp only [List.getElem?_cons_zero, Option.some.injEq] at h1
      simp [vals, h1, h3]
    · intro z hz
      rcases List.mem_cons.1 hz with rfl | hz
      · exact h2
      · exact h4 z hz
/-- A slice of numbers whose elements are 'zs', in some world. -/
def Reads (w : World) (a : Option Addr) (len : Nat) (zs : List Int) : Prop :=
  zs.length = len ∧ len ≤ maxLen ∧ (len = 0 ∨ ∃ b off : Nat, a = some ⟨b, off, none⟩ ∧ ∀ i, i < len → w.cell? ⟨b, off + i, none⟩ = some (.int .i64 (zs.getD i 0)))
theorem cell_lt {w : World} {a : Addr} {v : Value} (h : w.cell? a = some v) : a.block < w.heap.size := by
  rcases Nat.lt_or_ge a.block w.heap.size with h1 | h1
  · exact h1
  · simp [World.cell?, Array.getElem?_eq_none h1] at h
theorem reads_below {w w' : World} (hb : Below w.heap.size w w') {a : Option Addr} {len : Nat} {zs : List Int} (h : Reads w a len zs) : Reads w' a len zs := by
  obtain ⟨h1, h2, h3⟩ := h
  refine ⟨h1, h2, ?_⟩
  rcases h3 with h0 | ⟨b, off, rfl, hc⟩
  · exact .inl h0
  · exact .inr ⟨b, off, rfl, fun i hi => by rw [hb.cell (cell_lt (hc i hi)), hc i hi]⟩
/-- n numbers from o on. -/
def seg (R : List Int) (o n : Nat) : List Int := (R.drop o).take n
theorem seg_length {R : List Int} {o n : Nat} (h : o + n ≤ R.length) : (seg R o n).length = n := by simp [seg]; omega
theorem seg_get {R : List Int} {o n i : Nat} (h : i < n) : (seg R o n).getD i 0 = R.getD (o + i) 0 := by
  simp [seg, List.getD, h, List.getElem?_drop]
theorem seg_all {R : List Int} {n : Nat} (h : R.length = n) : seg R 0 n = R := by simp [seg, ← h]
theorem seg_seg {R : List Int} {o n p m : Nat} (h : p + m ≤ n) : seg (seg R o n) p m = seg R (o + p) m := by
  simp only [seg, List.drop_take, List.take_take, List.drop_drop]
  rw [show min m (n - p) = m by omega]
theorem vals_seg (R : List Int) (o n : Nat) : vals (seg R o n) = ((vals R).drop o).take n := by simp [seg, vals]
theorem vals_extract (R : List Int) (o n : Nat) : (vals R).toArray.extract o (o + n) = (vals (seg R o n)).toArray := by
  rw [vals_seg]
  simp [List.extract_eq_take_drop]
/-- zs in the place of what lay from o on. -/
def splice (R : List Int) : Nat → List Int → List Int
  | _, [] => R
  | o, z :: zs => splice (R.set o z) (o + 1) zs
theorem splice_length : ∀ (zs : List Int) (R : List Int) (o : Nat), (splice R o zs).length = R.length
  | [], _, _ => rfl
  | z :: zs, R, o => by rw [splice, splice_length zs]; simp
theorem splice_get : ∀ (zs : List Int) (R : List Int) (o i : Nat), o + zs.length ≤ R.length → (splice R o zs).getD i 0 = if o ≤ i ∧ i < o + zs.length then zs.getD (i - o) 0 else R.getD i 0
  | [], R, o, i, _ => by rw [splice, if_neg (by simp)]
  | z :: zs, R, o, i, h => by
    simp only [List.length_cons] at h
    rw [splice, splice_get zs _ _ _ (by simp; omega), set_get (by omega)]
    by_cases h1 : i = o
    · subst h1
      rw [if_neg (by omega), if_pos rfl, if_pos (by simp)]
      simp
    · by_cases h2 : o + 1 ≤ i ∧ i < o + 1 + zs.length
      · rw [if_pos h2, if_pos (by simp; omega), show i - o = (i - (o + 1)) + 1 by omega]
        simp
      · rw [if_neg h2, if_neg h1, if_neg (by simp; omega)]
theorem splice_seg_same {R zs : List Int} {o n : Nat} (hn : zs.length = n) (h : o + n ≤ R.length) : seg (splice R o zs) o n = zs := by
  refine ext_get (by rw [seg_length (by rw [splice_length]; omega), hn]) fun k hk => ?_
  rw [seg_length (by rw [splice_length]; omega)] at hk
  rw [seg_get hk, splice_get _ _ _ _ (by omega), if_pos (by omega)]
  congr 1; omega
theorem splice_seg_apart {R zs : List Int} {o p m : Nat} (h : o + zs.length ≤ R.length) (hp : p + m ≤ R.length) (ha : p + m ≤ o ∨ o + zs.length ≤ p) : seg (splice R o zs) p m = seg R p m := by
  refine ext_get (by rw [seg_length (by rw [splice_length]; omega), seg_length hp]) fun k hk => ?_
  rw [seg_length (by rw [splice_length]; omega)] at hk
  rw [seg_get hk, seg_get hk, splice_get _ _ _ _ h, if_neg (by omega)]
theorem splice_all {R zs : List Int} (h : zs.length = R.length) : splice R 0 zs = zs := by
  refine ext_get (by rw [splice_length, h]) fun k hk => ?_
  rw [splice_length] at hk
  rw [splice_get _ _ _ _ (by omega), if_pos (by omega)]; simp
/-- n zeros. -/
def zer (n : Nat) : List Int := List.replicate n 0
theorem zer_length (n : Nat) : (zer n).length = n := by simp [zer]
theorem zer_get (n i : Nat) : (zer n).getD i 0 = 0 := by
  simp only [zer, List.getD, List.getElem?_replicate]; split <;> rfl
theorem Blk.seg {w : World} {b : Nat} {t : TypeId} {R : List Int} (h : Blk w b t R) {o n : Nat} (hr : o + n ≤ R.length) : w.rangeAt b o (vals (seg R o n)) := fun j v hv => by
  obtain ⟨hj, rfl⟩ := vals_at hv
  rw [seg_length hr] at hj
  rw [h.cell (by omega), seg_get hj]
theorem Blk.thereAt {w : World} {b : Nat} {t : TypeId} {R : List Int} (h : Blk w b t R) {o n : Nat} (hr : o + n ≤ R.length) : w.there b o n := fun j hj => ⟨by rw [h.cell (by omega)]; rfl, h.frozen _⟩
theorem Blk.setCells : ∀ (zs : List Int) {w : World} {b : Nat} {t : TypeId} {R : List Int} (_ : Blk w b t R) (o : Nat), Blk (w.setCells b o (vals zs)) b t (splice R o zs)
  | [], _, _, _, _, h, _ => h
  | z :: zs, w, b, t, R, h, o => by
    have := Blk.setCells zs (h.setCell o z) (o + 1)
    simpa only [vals, List.map_cons, World.setCells, splice] using this
theorem Blk.setCells_apart : ∀ (zs : List Int) {w : World} {b g : Nat} {t : TypeId} {R : List Int} (_ : Blk w b t R) (o : Nat), b ≠ g → Blk (w.setCells g o (vals zs)) b t R
  | [], _, _, _, _, _, h, _, _ => h
  | z :: zs, w, b, g, t, R, h, o, hne => by
    have := Blk.setCells_apart zs (h.apart ⟨g, o, none⟩ (.int .i64 z) hne) (o + 1) hne
    simpa only [vals, List.map_cons, World.setCells] using this
theorem below_setCells : ∀ (zs : List Int) {B : Nat} {a w : World} (_ : Below B a w) {g : Nat} (_ : B ≤ g) (o : Nat), Below B a (w.setCells g o (vals zs))
  | [], _, _, _, h, _, _, _ => h
  | z :: zs, B, a, w, h, g, hg, o => by
    have := below_setCells zs (h.setCell (p := ⟨g, o, none⟩) hg (.int .i64 z)) hg (o + 1)
    simpa only [vals, List.map_cons, World.setCells] using this
/-- Below w's end all is as it was; in each of these blocks of the call's own lie these numbers. -/
structure KeepR (w : World) (l : List (Nat × TypeId × List Int)) (u : World) : Prop where
  bel : Below w.heap.size w u
  blk : ∀ x ∈ l, w.heap.size ≤ x.1 ∧ Blk u x.1 x.2.1 x.2.2
  apart : (l.map Prod.fst).Nodup
theorem KeepR.start (w : World) : KeepR w [] w := ⟨Below.refl _ _, by simp, by simp⟩
theorem KeepR.call {w u u' : World} {l : List (Nat × TypeId × List Int)} (h : KeepR w l u) (hb : Below u.heap.size u u') : KeepR w l u' :=
  ⟨h.bel.trans (hb.mono h.bel.size), fun x hx => ⟨(h.blk x hx).1, (h.blk x hx).2.below hb (h.blk x hx).2.lt⟩, h.apart⟩
theorem KeepR.drew {w u : World} {l : List (Nat × TypeId × List Int)} (h : KeepR w l u) : KeepR w l u.drew := ⟨h.bel.drew, h.blk, h.apart⟩
theorem KeepR.drewN {w u : World} {l : List (Nat × TypeId × List Int)} (h : KeepR w l u) (n : Nat) : KeepR w l (u.drewN n) := ⟨below_drewN h.bel n, h.blk, h.apart⟩
theorem KeepR.get {w u : World} {l : List (Nat × TypeId × List Int)} (h : KeepR w l u) (i : Nat) {b : Nat} {t : TypeId} {zs : List Int} (hi : l[i]? = some (b, t, zs)) : Blk u b t zs := (h.blk _ (List.mem_of_getElem? hi)).2
theorem KeepR.cons {w u : World} {l : List (Nat × TypeId × List Int)} (h : KeepR w l u) {u' : World} (hb : Below u.heap.size u u') {b : Nat} {t : TypeId} {zs : List Int} (hn : b = u.heap.size) (hB : Blk u' b t zs) : KeepR w ((b, t, zs) :: l) u' := by
  have h1 := h.call hb
  refine ⟨h1.bel, fun x hx => ?_, ?_⟩
  · rcases List.mem_cons.1 hx with rfl | hx
    · exact ⟨hn ▸ h.bel.size, hB⟩
    · exact h1.blk x hx
  · simp only [List.map_cons, List.nodup_cons]
    refine ⟨fun hm => ?_, h.apart⟩
    obtain ⟨x, hx, e⟩ := List.mem_map.1 hm
    have := (h.blk x hx).2.lt
    omega
theorem KeepR.new {w u : World} {l : List (Nat × TypeId × List Int)} (h : KeepR w l u) {t : TypeId} {zs : List Int} {n : Nat} (hn : n = u.heap.size) : KeepR w ((n, t, zs) :: l) (u.alloc (.cells (vals zs).toArray t)) :=
  h.cons (box u t zs).2 hn (by rw [hn]; exact (box u t zs).1)
theorem KeepR.tail {w u : World} {x : Nat × TypeId × List Int} {l : List (Nat × TypeId × List Int)} (h : KeepR w (x :: l) u) : KeepR w l u := ⟨h.bel, fun y hy => h.blk y (List.mem_cons_of_mem _ hy), (List.nodup_cons.1 (by simpa using h.apart)).2⟩
theorem nodup_get {l : List Nat} (h : l.Nodup) {i j : Nat} {x : Nat} (hi : l[i]? = some x) (hj : l[j]? = some x) : i = j := by
  obtain ⟨h1, e1⟩ := List.getElem?_eq_some_iff.1 hi
  obtain ⟨h2, e2⟩ := List.getElem?_eq_some_iff.1 hj
  have hp := List.pairwise_iff_getElem.1 h
  rcases Nat.lt_trichotomy i j with h3 | h3 | h3
  · exact absurd (e1.trans e2.symm) (hp i j h1 h2 h3)
  · exact h3
  · exact absurd (e2.trans e1.symm) (hp j i h2 h1 h3)
/-- A kept block is written. -/
theorem KeepR.put {w u : World} {l : List (Nat × TypeId × List Int)} (h : KeepR w l u) (i : Nat) {b : Nat} {t : TypeId} {R : List Int} (hi : l[i]? = some (b, t, R)) {u' : World} {S : List Int} (hB : Blk u' b t S)
    (hb : ∀ (k : Nat), k ≠ b → u'.heap[k]? = u.heap[k]?) (hbel : Below w.heap.size w u') : KeepR w (l.set i (b, t, S)) u' := by
  refine ⟨hbel, fun x hx => ?_, ?_⟩
  · obtain ⟨j, hj⟩ := List.mem_iff_getElem?.1 hx
    rw [List.getElem?_set] at hj
    by_cases hij : i = j
    · rw [if_pos hij] at hj
      split at hj
      · injection hj with hj; subst hj
        exact ⟨(h.blk _ (List.mem_of_getElem? hi)).1, hB⟩
      · cases hj
    · rw [if_neg hij] at hj
      have h1 := h.blk x (List.mem_of_getElem? hj)
      refine ⟨h1.1, ?_⟩
      have hne : x.1 ≠ b := fun e => hij (nodup_get h.apart (x := b) (by simp [hi]) (by simp [hj, e]))
      exact (hb x.1 hne).trans h1.2
  · have : (l.set i (b, t, S)).map Prod.fst = l.map Prod.fst := by
      rw [List.map_set]
      apply List.ext_getElem?
      intro j
      rw [List.getElem?_set]
      split
      · rename_i e; subst e
        split
        · simp [hi]
        · rename_i hl; simp only [List.length_map] at hl; have := (List.getElem?_eq_some_iff.1 hi).1; omega
      · rfl
    rw [this]; exact h.apart
theorem setCells_else (b : Nat) (vs : List Value) : ∀ (o : Nat) (u : World) (k : Nat), k ≠ b → (u.setCells b o vs).heap[k]? = u.heap[k]? := by
  induction vs with
  | nil => intro o u k _; rfl
  | cons v vs ih => intro o u k hk; rw [World.setCells, ih _ _ _ hk]; exact heap_setCell_other u ⟨b, o, none⟩ k v hk
theorem KeepR.setCells {w u : World} {l : List (Nat × TypeId × List Int)} (h : KeepR w l u) (i : Nat) {b : Nat} {t : TypeId} {R : List Int} (hi : l[i]? = some (b, t, R)) (o : Nat) (zs : List Int) : KeepR w (l.set i (b, t, splice R o zs)) (u.setCells b o (vals zs)) := by
  have h1 := h.blk _ (List.mem_of_getElem? hi)
  exact h.put i hi (h1.2.setCells zs o) (setCells_else b (vals zs) o u) (below_setCells zs h.bel h1.1 o)
theorem KeepR.setRow {w u : World} {l : List (Nat × TypeId × List Int)} (h : KeepR w l u) (i : Nat) {b : Nat} {t : TypeId} {R : List Int} (hi : l[i]? = some (b, t, R)) (zs : List Int) : KeepR w (l.set i (b, t, zs)) (u.setRow b (vals zs).toArray) :=
  have h1 := h.blk _ (List.mem_of_getElem? hi)
  h.put i hi (h1.2.setRow zs) (fun k hk => _root_.Go.setRow_other u b k _ hk) (below_setRow h.bel h1.1 _)
/-- A part of a kept block is loaded. -/
theorem load_part {ops : Array Oper} {rest : List Oper} {o : Oper} {a : Act} {w u : World} {l : List (Nat × TypeId × List Int)} {Q : Exit → Act → World → Prop} (hk : KeepR w l u) (i : Nat) (n : Nat) {ty : TypeId} {d : TypeDesc} (hu : Try.prog.underlying ty = some d) (hd : d.isRow = true) (hs : (Try.prog.info? ty).map (·.size) = some n)
    (hgd : o.guard = none) (x : Operand) (ho : o.op = .load ty x) {b off : Nat} {t : TypeId} {R : List Int} (hi : l[i]? = some (b, t, R)) (hx : a.eval x = .pointer (some ⟨b, off, none⟩)) (hr : off + n ≤ R.length)
    (h : wpList Try.prog ops Q rest (a.put o.dst (.agg (vals (seg R off n)).toArray)) u) : wpList Try.prog ops Q (o :: rest) a u :=
  wpList_load_mid hgd ty x ho b off hx _ d ((hk.get i hi).seg hr) hu hd (by rw [vals_length, seg_length hr]; exact hs) h
/-- The whole of it. -/
theorem load_all {ops : Array Oper} {rest : List Oper} {o : Oper} {a : Act} {w u : World} {l : List (Nat × TypeId × List Int)} {Q : Exit → Act → World → Prop} (hk : KeepR w l u) (i : Nat) (n : Nat) {ty : TypeId} {d : TypeDesc} (hu : Try.prog.underlying ty = some d) (hd : d.isRow = true) (hs : (Try.prog.info? ty).map (·.size) = some n)
    (hgd : o.guard = none) (x : Operand) (ho : o.op = .load ty x) {b : Nat} {t : TypeId} {R : List Int} (hi : l[i]? = some (b, t, R)) (hx : a.eval x = .pointer (some ⟨b, 0, none⟩)) (hr : R.length = n)
    (h : wpList Try.prog ops Q rest (a.put o.dst (.agg (vals R).toArray)) u) : wpList Try.prog ops Q (o :: rest) a u :=
  load_part hk i n hu hd hs hgd x ho hi hx (by omega) (by rw [seg_all hr]; exact h)
/-- Numbers are stored into a part of a kept block. -/
theorem store_part {ops : Array Oper} {rest : List Oper} {o : Oper} {a : Act} {w u : World} {l : List (Nat × TypeId × List Int)} {Q : Exit → Act → World → Prop} (hk : KeepR w l u) (i : Nat) (n : Nat) {ty : TypeId} (hs : (Try.prog.info? ty).map (·.size) = some n)
    (hgd : o.guard = none) (hd : o.dst = none) (x y : Operand) (ho : o.op = .store ty x y) {b off : Nat} {t : TypeId} {R zs : List Int} (hi : l[i]? = some (b, t, R)) (hx : a.eval x = .pointer (some ⟨b, off, none⟩)) (hy : a.eval y = .agg (vals zs).toArray) (hz : zs.length = n) (hr : off + n ≤ R.length)
    (h : ∀ u', KeepR w (l.set i (b, t, splice R off zs)) u' → (∀ k, k ≠ b → u'.heap[k]? = u.heap[k]?) → wpList Try.prog ops Q rest a u') : wpList Try.prog ops Q (o :: rest) a u :=
  wpList_store_mid hgd ty x y ho b off _ hx hy (by simp only [List.size_toArray, vals_length, hz]; exact (hk.get i hi).thereAt hr) (by simp only [List.size_toArray, vals_length, hz]; exact hs) (vals_all zs)
    (by rw [hd]; simpa [Act.put] using h _ (hk.setCells i hi off zs) (setCells_else b (vals zs) off u))
theorem store_all {ops : Array Oper} {rest : List Oper} {o : Oper} {a : Act} {w u : World} {l : List (Nat × TypeId × List Int)} {Q : Exit → Act → World → Prop} (hk : KeepR w l u) (i : Nat) (n : Nat) {ty : TypeId} (hs : (Try.prog.info? ty).map (·.size) = some n)
    (hgd : o.guard = none) (hd : o.dst = none) (x y : Operand) (ho : o.op = .store ty x y) {b : Nat} {t : TypeId} {R zs : List Int} (hi : l[i]? = some (b, t, R)) (hx : a.eval x = .pointer (some ⟨b, 0, none⟩)) (hy : a.eval y = .agg (vals zs).toArray) (hz : zs.length = n) (hr : R.length = n)
    (h : ∀ u', KeepR w (l.set i (b, t, zs)) u' → (∀ k, k ≠ b → u'.heap[k]? = u.heap[k]?) → wpList Try.prog ops Q rest a u') : wpList Try.prog ops Q (o :: rest) a u :=
  store_part hk i n hs hgd hd x y ho hi hx hy hz (by omega) (by rw [splice_all (by omega)]; exact h)
/-- A new variable of zeros. -/
theorem alloc_zero {ops : Array Oper} {rest : List Oper} {o : Oper} {a : Act} {w u : World} {l : List (Nat × TypeId × List Int)} {Q : Exit → Act → World → Prop} (hk : KeepR w l u) (n : Nat) {ty : TypeId} (hz : (Try.prog.info? ty).bind (·.zero) = some (.agg (vals (zer n)).toArray))
    (hgd : o.guard = none) (ho : o.op = .alloc ty)
    (h : ∀ b u', b = u.heap.size → KeepR w ((b, ty, zer n) :: l) u' → Below u.heap.size u u' → wpList Try.prog ops Q rest (a.put o.dst (.pointer (some ⟨b, 0, none⟩))) u') : wpList Try.prog ops Q (o :: rest) a u :=
  wpList_plain hgd fun K hK => by
    have e : (Instr.alloc ty true (.tuple #[])).run Try.prog u = .ok (.pointer (some ⟨u.heap.size, 0, none⟩)) (u.alloc (.cells (vals (zer n)).toArray ty)) := by
      cases hq : Try.prog.info? ty with
      | none => simp [hq] at hz
      | some i =>
        simp only [hq, Option.bind_some] at hz
        simp [Instr.alloc, zeroValue, typeInfo, hq, hz, newVar, newRow, newObj, Value.cells]
        rfl
    unfold Oper.wp execOp
    simp only [ho, Sem.run_bind, Sem.run_pure, Result.andThen_ok, e]
    exact hK _ _ (h _ _ rfl (hk.new rfl) (box u _ _).2)
/-- A value, boxed. -/
theorem box_new {ops : Array Oper} {rest : List Oper} {o : Oper} {a : Act} {w u : World} {l : List (Nat × TypeId × List Int)} {Q : Exit → Act → World → Prop} (hk : KeepR w l u) {ty : TypeId}
    (hgd : o.guard = none) (x : Operand) (ho : o.op = .box ty x) {R : List Int} (hx : a.eval x = .agg (vals R).toArray)
    (h : ∀ b u', KeepR w ((b, ty, R) :: l) u' → Below u.heap.size u u' → wpList Try.prog ops Q rest (a.put o.dst (.pointer (some ⟨b, 0, none⟩))) u') : wpList Try.prog ops Q (o :: rest) a u :=
  wpList_plain hgd fun K hK => by
    have e : (Instr.box ty (.agg (vals R).toArray)).run Try.prog u = .ok (.pointer (some ⟨u.heap.size, 0, none⟩)) (u.alloc (.cells (vals R).toArray ty)) := by
      simp [Instr.box, newVar, newRow, newObj, Value.cells]
      rfl
    unfold Oper.wp execOp
    simp only [ho, hx, Sem.run_bind, Sem.run_pure, Result.andThen_ok, e]
    exact hK _ _ (h _ _ (hk.new rfl) (box u _ _).2)
/-- The zero value, built. -/
theorem build_zero {ops : Array Oper} {rest : List Oper} {o : Oper} {a : Act} {u : World} {Q : Exit → Act → World → Prop} (n : Nat) {ty : TypeId} (he : ∀ W, (Instr.build ty #[]).run Try.prog W = .ok (.agg (vals (zer n)).toArray) W)
    (hgd : o.guard = none) (ho : o.op = .build ty #[])
    (h : wpList Try.prog ops Q rest (a.put o.dst (.agg (vals (zer n)).toArray)) u) : wpList Try.prog ops Q (o :: rest) a u :=
  wpList_plain hgd fun K hK => by
    unfold Oper.wp execOp
    simp only [ho, List.map_toArray, List.map_nil, Sem.run_bind, Sem.run_pure, Result.andThen_ok, he]
    exact hK _ _ h
theorem results_r {fn : Func} {p : Tmp} {ty : TypeId} {n : Nat} {d : TypeDesc} (h : fn.results = #[.cell p ty]) (hu : Try.prog.underlying ty = some d) (hd : d.isRow = true) (hs : (Try.prog.info? ty).map (·.size) = some n) (tmps : Array Value) {w u : World} {l : List (Nat × TypeId × List Int)} (hk : KeepR w l u) (i : Nat) {b : Nat} {R : List Int}
    (hi : l[i]? = some (b, ty, R)) (hp : tmps.getD p undef = .pointer (some ⟨b, 0, none⟩)) (hl : R.length = n) : (results fn tmps).run Try.prog u = .ok (.agg (vals R).toArray) u :=
  results_cell_row h tmps u b _ _ (0, 0) d hp (hk.get i hi) hu (by cases d <;> simp_all) (by rw [List.size_toArray, vals_length, hl]; exact hs)
theorem wp_load_int {o : Oper} {a : Act} {w u : World} {l : List (Nat × TypeId × List Int)} {K : Act → World → Prop} {Q : Exit → Act → World → Prop} (hk : KeepR w l u) (i : Nat) (x : Operand) (ho : o.op = .load 3 x) {b off : Nat} {t : TypeId} {R : List Int} (hi : l[i]? = some (b, t, R))
    (hx : a.eval x = .pointer (some ⟨b, off, none⟩)) (hr : off < R.length) (h : K (a.put o.dst (.int .i64 (R.getD off 0))) u) : o.wp Try.prog a u K Q := by
  have hc := (hk.get i hi).cell hr
  unfold Oper.wp execOp
  simp only [ho, hx]
  simp [go_sem, hc]
  simpa [Act.put] using h
theorem load_int {ops : Array Oper} {rest : List Oper} {o : Oper} {a : Act} {w u : World} {l : List (Nat × TypeId × List Int)} {Q : Exit → Act → World → Prop} (hk : KeepR w l u) (i : Nat) (hgd : o.guard = none) (x : Operand) (ho : o.op = .load 3 x) {b off : Nat} {t : TypeId} {R : List Int} (hi : l[i]? = some (b, t, R))
    (hx : a.eval x = .pointer (some ⟨b, off, none⟩)) (hr : off < R.length) (h : wpList Try.prog ops Q rest (a.put o.dst (.int .i64 (R.getD off 0))) u) : wpList Try.prog ops Q (o :: rest) a u :=
  wpList_plain hgd fun _ hK => wp_load_int hk i x ho hi hx hr (hK _ _ h)
theorem load_int_want {ops : Array Oper} {rest : List Oper} {o : Oper} {a : Act} {w u : World} {l : List (Nat × TypeId × List Int)} {Q : Exit → Act → World → Prop} (hk : KeepR w l u) (i : Nat) (x : Operand) (ho : o.op = .load 3 x) {b off : Nat} {t : TypeId} {R : List Int} (hi : l[i]? = some (b, t, R))
    (hx : a.eval x = .pointer (some ⟨b, off, none⟩)) (hw : Region.wanted o (yielded ops a.tmps) = true) (hr : off < R.length) (h : wpList Try.prog ops Q rest (a.put o.dst (.int .i64 (R.getD off 0))) u) : wpList Try.prog ops Q (o :: rest) a u :=
  BigFrame.wpList_want hw fun _ hK => wp_load_int hk i x ho hi hx hr (hK _ _ h)
/-- An int whose value has a name. -/
theorem load_val {ops : Array Oper} {rest : List Oper} {o : Oper} {a : Act} {w u : World} {l : List (Nat × TypeId × List Int)} {Q : Exit → Act → World → Prop} (hk : KeepR w l u) (i : Nat) (hgd : o.guard = none) (x : Operand) (ho : o.op = .load 3 x) {b off : Nat} {t : TypeId} {R : List Int} (hi : l[i]? = some (b, t, R))
    (hx : a.eval x = .pointer (some ⟨b, off, none⟩)) {z : Int} (hv : R.getD off 0 = z) (hr : off < R.length) (h : wpList Try.prog ops Q rest (a.put o.dst (.int .i64 z)) u) : wpList Try.prog ops Q (o :: rest) a u :=
  load_int hk i hgd x ho hi hx hr (by rw [hv]; exact h)
theorem load_val_want {ops : Array Oper} {rest : List Oper} {o : Oper} {a : Act} {w u : World} {l : List (Nat × TypeId × List Int)} {Q : Exit → Act → World → Prop} (hk : KeepR w l u) (i : Nat) (x : Operand) (ho : o.op = .load 3 x) {b off : Nat} {t : TypeId} {R : List Int} (hi : l[i]? = some (b, t, R))
    (hx : a.eval x = .pointer (some ⟨b, off, none⟩)) (hw : Region.wanted o (yielded ops a.tmps) = true) {z : Int} (hv : R.getD off 0 = z) (hr : off < R.length) (h : wpList Try.prog ops Q rest (a.put o.dst (.int .i64 z)) u) : wpList Try.prog ops Q (o :: rest) a u :=
  load_int_want hk i x ho hi hx hw hr (by rw [hv]; exact h)
/-- An int that lay there ahead of the call. -/
theorem load_old {ops : Array Oper} {rest : List Oper} {o : Oper} {a : Act} {w u : World} {l : List (Nat × TypeId × List Int)} {Q : Exit → Act → World → Prop} (hk : KeepR w l u) {ad : Addr} {z : Int} (hc : w.cell? ad = some (.int .i64 z)) (hgd : o.guard = none) (x : Operand) (ho : o.op = .load 3 x)
    (hx : a.eval x = .pointer (some ad)) (h : wpList Try.prog ops Q rest (a.put o.dst (.int .i64 z)) u) : wpList Try.prog ops Q (o :: rest) a u :=
  wpList_plain hgd fun K hK => by
    have hc' : u.cell? ad = some (.int .i64 z) := by rw [hk.bel.cell (cell_lt hc)]; exact hc
    have := hK _ _ h
    unfold Oper.wp execOp
    simp only [ho, hx]
    simp [go_sem, hc']
    simpa [Act.put] using this
theorem KeepR.setCell {w u : World} {l : List (Nat × TypeId × List Int)} (h : KeepR w l u) (i : Nat) {b : Nat} {t : TypeId} {R : List Int} (hi : l[i]? = some (b, t, R)) (o : Nat) (z : Int) : KeepR w (l.set i (b, t, R.set o z)) (u.setCell ⟨b, o, none⟩ (.int .i64 z)) := by
  have h1 := h.blk _ (List.mem_of_getElem? hi)
  exact h.put i hi (h1.2.setCell o z) (fun k hk => heap_setCell_other u ⟨b, o, none⟩ k _ hk) (h.bel.setCell (p := ⟨b, o, none⟩) h1.1 _)
theorem store_int {ops : Array Oper} {rest : List Oper} {o : Oper} {a : Act} {w u : World} {l : List (Nat × TypeId × List Int)} {Q : Exit → Act → World → Prop} (hk : KeepR w l u) (i : Nat) (hgd : o.guard = none) (hd : o.dst = none) (x y : Operand) (ho : o.op = .store 3 x y) {b off : Nat} {t : TypeId} {R : List Int} {z : Int} (hi : l[i]? = some (b, t, R))
    (hx : a.eval x = .pointer (some ⟨b, off, none⟩)) (hy : a.eval y = .int .i64 z) (hr : off < R.length) (h : ∀ u', KeepR w (l.set i (b, t, R.set off z)) u' → wpList Try.prog ops Q rest a u') : wpList Try.prog ops Q (o :: rest) a u :=
  wpList_plain hgd fun K hK => by
    have hc := (hk.get i hi).cell hr
    have hf := (hk.get i hi).frozen off
    have := hK _ _ (h _ (hk.setCell i hi off z))
    unfold Oper.wp execOp
    simp only [ho, hx, hy]
    simp [go_sem, hc, hf]
    simpa [hd, Act.put] using this
/-- An int, boxed. -/
theorem box_int {ops : Array Oper} {rest : List Oper} {o : Oper} {a : Act} {w u : World} {l : List (Nat × TypeId × List Int)} {Q : Exit → Act → World → Prop} (hk : KeepR w l u)
    (hgd : o.guard = none) (x : Operand) (ho : o.op = .box 3 x) {z : Int} (hx : a.eval x = .int .i64 z)
    (h : ∀ b u', KeepR w ((b, 3, [z]) :: l) u' → wpList Try.prog ops Q rest (a.put o.dst (.pointer (some ⟨b, 0, none⟩))) u') : wpList Try.prog ops Q (o :: rest) a u :=
  wpList_plain hgd fun K hK => by
    have e : (Instr.box 3 (.int .i64 z)).run Try.prog u = .ok (.pointer (some ⟨u.heap.size, 0, none⟩)) (u.alloc (.cells (vals [z]).toArray 3)) := by
      simp [Instr.box, newVar, newRow, newObj, Value.cells, vals]
      rfl
    unfold Oper.wp execOp
    simp only [ho, hx, Sem.run_bind, Sem.run_pure, Result.andThen_ok, e]
    exact hK _ _ (h _ _ (hk.new rfl))
/-- What a call made lies beside what was kept. -/
theorem KeepR.append {w u u' : World} {l l' : List (Nat × TypeId × List Int)} (h : KeepR w l u) (h' : KeepR u l' u') : KeepR w (l' ++ l) u' := by
  have h1 := h.call h'.bel
  refine ⟨h1.bel, fun x hx => ?_, ?_⟩
  · rcases List.mem_append.1 hx with hx | hx
    · exact ⟨Nat.le_trans h.bel.size (h'.blk x hx).1, (h'.blk x hx).2⟩
    · exact h1.blk x hx
  · rw [List.map_append, List.nodup_append]
    refine ⟨h'.apart, h.apart, fun a ha b hb e => ?_⟩
    obtain ⟨x, hx, rfl⟩ := List.mem_map.1 ha
    obtain ⟨y, hy, rfl⟩ := List.mem_map.1 hb
    have := (h'.blk x hx).1
    have := (h.blk y hy).2.lt
    omega
theorem results_2 {fn : Func} {p q : Tmp} {ty : TypeId} {n : Nat} {d : TypeDesc} (h : fn.results = #[.cell p ty, .tmp q]) (hu : Try.prog.underlying ty = some d) (hd : d.isRow = true) (hs : (Try.prog.info? ty).map (·.size) = some n) (tmps : Array Value) {w u : World} {l : List (Nat × TypeId × List Int)} (hk : KeepR w l u) (i : Nat) {b : Nat} {R : List Int} (v : Value)
    (hi : l[i]? = some (b, ty, R)) (hp : tmps.getD p undef = .pointer (some ⟨b, 0, none⟩)) (hq : tmps.getD q undef = v) (hl : R.length = n) : (results fn tmps).run Try.prog u = .ok (.tuple #[.agg (vals R).toArray, v]) u := by
  have hp' : tmps[p]?.getD undef = .pointer (some ⟨b, 0, none⟩) := by simpa using hp
  have hq' : tmps[q]?.getD undef = v := by simpa using hq
  have hr := run_loadVar_row (P := Try.prog) u b _ ty _ (0, 0) _ (hk.get i hi) hu (by cases d <;> simp_all) (by rw [List.size_toArray, vals_length, hl]; exact hs)
  simp [results, h, hp', hq', asAddr, hr]
theorem eqField {P : Program} {w : World} {d : Nat} {xs ys : Array Value} {f : Field} {fs : List Field} {a b : Value} {r r' : Bool} (n : f.name ≠ "_")
    (p : (part f.type xs f.offset).run P w = .ok a w) (q : (part f.type ys f.offset).run P w = .ok b w) (e : (Op.equalIn d f.type a b).run P w = .ok r w) (h : (Op.eqFields d xs ys fs).run P w = .ok r' w) : (Op.eqFields d xs ys (f :: fs)).run P w = .ok (r && r') w := by
  cases r <;> simp [Op.eqFields, n, p, q, e, h]
theorem part_int (xs : List Int) {o : Nat} (ho : o < xs.length) (w : World) : (part 3 (vals xs).toArray o).run Try.prog w = .ok (.int .i64 (xs.getD o 0)) w := by
  simp [part, isAgg, run_underlying Try.underlying3, vals, List.getElem?_eq_getElem ho]
theorem seg_map {R : List Int} {o n : Nat} (h : o + n ≤ R.length) : seg R o n = (List.range n).map fun m => R.getD (o + m) 0 := by
  refine ext_get (by rw [seg_length h]; simp) fun k hk => ?_
  rw [seg_length h] at hk
  rw [seg_get hk]
  simp [List.getD, hk]
/-- A part of a kept block yields the same wherever it is kept. -/
theorem yield_part {ops : Array Oper} {S : World → Prop} {o : Oper} {a : Act} {w : World} {l : List (Nat × TypeId × List Int)} (hk : ∀ u, S u → KeepR w l u) (i n : Nat) {ty : TypeId} {d : TypeDesc} (hu : Try.prog.underlying ty = some d) (hd : d.isRow = true) (hs : (Try.prog.info? ty).map (·.size) = some n)
    (hw : Region.wanted o (yielded ops a.tmps) = true) (x : Operand) (ho : o.op = .load ty x) {b off : Nat} {t : TypeId} {R : List Int} (hi : l[i]? = some (b, t, R)) (hx : a.eval x = .pointer (some ⟨b, off, none⟩)) (hr : off + n ≤ R.length) :
    YieldsIf Try.prog ops S o (.agg (vals (seg R off n)).toArray) a :=
  yieldsIf_load_mid hw ty x ho b off hx _ d (fun u h => ((hk u h).get i hi).seg hr) hu hd (by rw [vals_length, seg_length hr]; exact hs)
theorem yield_all {ops : Array Oper} {S : World → Prop} {o : Oper} {a : Act} {w : World} {l : List (Nat × TypeId × List Int)} (hk : ∀ u, S u → KeepR w l u) (i n : Nat) {ty : TypeId} {d : TypeDesc} (hu : Try.prog.underlying ty = some d) (hd : d.isRow = true) (hs : (Try.prog.info? ty).map (·.size) = some n)
    (hw : Region.wanted o (yielded ops a.tmps) = true) (x : Operand) (ho : o.op = .load ty x) {b : Nat} {t : TypeId} {R : List Int} (hi : l[i]? = some (b, t, R)) (hx : a.eval x = .pointer (some ⟨b, 0, none⟩)) (hr : R.length = n) :
    YieldsIf Try.prog ops S o (.agg (vals R).toArray) a := by
  have h := yield_part (ops := ops) (S := S) hk i n hu hd hs hw x ho hi hx (by omega)
  rwa [seg_all hr] at h
/-- A part of a kept block is loaded, behind a guard that lets it be. -/
theorem load_want {ops : Array Oper} {rest : List Oper} {o : Oper} {a : Act} {w u : World} {l : List (Nat × TypeId × List Int)} {Q : Exit → Act → World → Prop} (hk : KeepR w l u) (i : Nat) (n : Nat) {ty : TypeId} {d : TypeDesc} (hu : Try.prog.underlying ty = some d) (hd : d.isRow = true) (hs : (Try.prog.info? ty).map (·.size) = some n)
    (x : Operand) (ho : o.op = .load ty x) {b off : Nat} {t : TypeId} {R : List Int} (hi : l[i]? = some (b, t, R)) (hx : a.eval x = .pointer (some ⟨b, off, none⟩)) (hw : Region.wanted o (yielded ops a.tmps) = true) (hr : off + n ≤ R.length)
    (h : wpList Try.prog ops Q rest (a.put o.dst (.agg (vals (seg R off n)).toArray)) u) : wpList Try.prog ops Q (o :: rest) a u :=
  BigFrame.wpList_want hw fun _ hK => wp_load_mid ty x ho b off hx _ d ((hk.get i hi).seg hr) hu hd (by rw [vals_length, seg_length hr]; exact hs) (hK _ _ h)
theorem load_all_want {ops : Array Oper} {rest : List Oper} {o : Oper} {a : Act} {w u : World} {l : List (Nat × TypeId × List Int)} {Q : Exit → Act → World → Prop} (hk : KeepR w l u) (i : Nat) (n : Nat) {ty : TypeId} {d : TypeDesc} (hu : Try.prog.underlying ty = some d) (hd : d.isRow = true) (hs : (Try.prog.info? ty).map (·.size) = some n)
    (x : Operand) (ho : o.op = .load ty x) {b : Nat} {t : TypeId} {R : List Int} (hi : l[i]? = some (b, t, R)) (hx : a.eval x = .pointer (some ⟨b, 0, none⟩)) (hw : Region.wanted o (yielded ops a.tmps) = true) (hr : R.length = n)
    (h : wpList Try.prog ops Q rest (a.put o.dst (.agg (vals R).toArray)) u) : wpList Try.prog ops Q (o :: rest) a u :=
  load_want hk i n hu hd hs x ho hi hx hw (by omega) (by rw [seg_all hr]; exact h)
/-- A comparison of two ints whose outcome is known, behind a guard that lets it be. -/
theorem gtr_want {ops : Array Oper} {rest : List Oper} {o : Oper} {a : Act} {u : World} {Q : Exit → Act → World → Prop} {p q : Int} {b : Bool} (hb : decide (q < p) = b) (x y : Operand) (t : TypeId) (ho : o.op = .binOp .gtr 3 x y t) (hx : a.eval x = .int .i64 p) (hy : a.eval y = .int .i64 q)
    (hw : Region.wanted o (yielded ops a.tmps) = true) (h : wpList Try.prog ops Q rest (a.put o.dst (.bool b)) u) : wpList Try.prog ops Q (o :: rest) a u :=
  BigFrame.wpList_want hw fun K hK => by
    subst hb
    have h1 := hK _ _ h
    unfold Oper.wp execOp
    simp only [ho, hx, hy]
    simp [go_sem]
    simpa [Act.put] using h1
/-- A region goes through a meeting point. -/
theorem region_via {P : Program} {id : Nat} {ops : Array Oper} {Q : Exit → Act → World → Prop} {a : Act} {w : World} (G : Act → World → Prop) (h1 : (Code.region id ops true).wp P (fun e a w => e = .normal ∧ G a w) a w) (h2 : ∀ a w, G a w → Q .normal a w) : (Code.region id ops true).wp P Q a w :=
  Code.wp_mono (fun e a w h => by obtain ⟨rfl, h⟩ := h; exact h2 a w h) h1
theorem wp_alloc_zero {o : Oper} {a : Act} {w u : World} {l : List (Nat × TypeId × List Int)} {K : Act → World → Prop} {Q : Exit → Act → World → Prop} (hk : KeepR w l u) (n : Nat) {ty : TypeId} (hz : (Try.prog.info? ty).bind (·.zero) = some (.agg (vals (zer n)).toArray)) (ho : o.op = .alloc ty)
    (h : ∀ b u', KeepR w ((b, ty, zer n) :: l) u' → Below u.heap.size u u' → K (a.put o.dst (.pointer (some ⟨b, 0, none⟩))) u') : o.wp Try.prog a u K Q := by
  have e : (Instr.alloc ty true (.tuple #[])).run Try.prog u = .ok (.pointer (some ⟨u.heap.size, 0, none⟩)) (u.alloc (.cells (vals (zer n)).toArray ty)) := by
    cases hq : Try.prog.info? ty with
    | none => simp [hq] at hz
    | some i =>
      simp only [hq, Option.bind_some] at hz
      simp [Instr.alloc, zeroValue, typeInfo, hq, hz, newVar, newRow, newObj, Value.cells]
      rfl
  unfold Oper.wp execOp
  simp only [ho, Sem.run_bind, Sem.run_pure, Result.andThen_ok, e]
  exact h _ _ (hk.new rfl) (box u _ _).2
/-- Numbers are stored into the whole, or a part, of a kept block. -/
theorem wp_store_part {o : Oper} {a : Act} {w u : World} {l : List (Nat × TypeId × List Int)} {K : Act → World → Prop} {Q : Exit → Act → World → Prop} (hk : KeepR w l u) (i : Nat) (n : Nat) {ty : TypeId} (hs : (Try.prog.info? ty).map (·.size) = some n)
    (hd : o.dst = none) (x y : Operand) (ho : o.op = .store ty x y) {b off : Nat} {t : TypeId} {R zs : List Int} (hi : l[i]? = some (b, t, R)) (hx : a.eval x = .pointer (some ⟨b, off, none⟩)) (hy : a.eval y = .agg (vals zs).toArray) (hz : zs.length = n) (hr : off + n ≤ R.length)
    (h : ∀ u', KeepR w (l.set i (b, t, splice R off zs)) u' → K a u') : o.wp Try.prog a u K Q :=
  wp_store_mid ty x y ho b off _ hx hy (by simp only [List.size_toArray, vals_length, hz]; exact (hk.get i hi).thereAt hr) (by simp only [List.size_toArray, vals_length, hz]; exact hs) (vals_all zs)
    (by rw [hd]; simpa [Act.put] using h _ (hk.setCells i hi off zs))
end Go.Proofs.Ytaniacohimdpiaa
