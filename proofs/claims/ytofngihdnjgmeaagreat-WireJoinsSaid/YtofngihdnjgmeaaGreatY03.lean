/- Plain arithmetic of layer 1 (num): which numbers may be, and what a sum, a difference and a product tell. No program is spoken of here. Contracts of num.Is and num.Add: each tells what the plain arithmetic tells, and leaves the world as it was. A region that draws its order, whose first operations read, call and make memory while S is kept, and whose last ones (stores) wait for all of the first: an operation that yields the same wherever S is kept may be taken first. Ints in memory: lists of ints as the cells that hold them, blocks that are kept while calls make memory, and what the operations on them do.; Plain arithmetic of layer 6 (hold): which holds may be, and what finding, adding up, reserving, ending, letting go and joining tell. No program is spoken of here.; Holds in memory: what the operations on them do; when two are the same; slices of holds that come in, and rows of holds that a call makes.; Rows of holds: what append does to one, and what a literal and a slice expression make.; Vectors (arrays of 16 ints): the lists that they are, the cells that hold them, and what the operations on them do. A region that draws its order, whose operations read what is kept and whose callees only make memory of their own: one walk in the text's order. Several vectors that are kept, each in a block of its own, while calls make memory; and what joining, and being over, hang on. Contracts of vec.Right, vec.Join and vec.Over. Contracts of the document's Over, Right and Join of layer 2. Contracts of vec.Sum and vec.Grow, and of the document's Sum and Grow of layer 2. What a law of layer 2 needs: vectors that come in; 'awake'. Rows of ints: what append does to one, and what a slice expression reads.; Rights (288 ints: Given, Used, then 16 rows of what each moved): the lists that they are, the cells that hold them, their parts, and what the operations on them do. Rights: when two are the same; a row of what was moved; rights that come in. Contracts of rights.told, rights.isReplica, rights.Give and the document's Give. Contracts of rights.Give and the document's Give. Contracts of rights.less, slices.Grow and slices.Concat of ints. Contracts of slices.Grow and slices.Concat of ints. A contract of rights.Free. A contract of rights.Free. Contracts of rights.Total, and the document's Free and Total. A contract of the document's Free. Aggregates that are filled with parts; rows of vectors; a contract of rights.vectors. A contract of rights.vectors.; Contracts of rights.Right and the document's Right. A contract of the document's Right. Contracts of rights.covered, rights.Use and rights.Move. Contracts of the document's Use and Move. Contracts of rights.Over and of rights.Join's own closure. Contracts of rights.Join and its closure. A contract of rights.Join. Rights, built of two vectors. Contracts of the document's Join and Over.; Plain arithmetic of layer 3: what is free, and in all, of numbers that are not too great; what a change of one number does to it. No walk.; Counters (579 ints: Init, Low, High, Down, Up): what the document asks of them, in plain lists. No walk.; Plain arithmetic of layer 5 (lock): which lock is behind which, and what joining, writing and passing on tell. No program is spoken of here.; Locks in memory: what the operations on them do; when two are the same; locks that come in.; A field's cells (its name, kind, epoch, counter, lock, and the slice of its holds), and what the operations on kept blocks do: boxes, zeros, loads and stores of a cell or of a part.; Contracts of which hold goes ahead: cmp.Or, hold.byName, and the document's Ahead.; Plain arithmetic of layer 6, on: what finding, adding up, reserving, ending and letting go tell. No program is spoken of here.; Contracts of hold.place, Find, Sum and greatest, of the document's Sum, and of the statements' Same.; Contracts of what package lock and the document's layer 5 are made of; of New, Right, Write and Pass.; Contracts of hold.Expire, and of what the statements call awake.; Fields as plain data, and what each call makes of them; fields that calls tell, in memory.; What the walks of fields stand on: results, yields, holds appended; contracts of headOf and apart.; Contracts of the document's Add, Hand, Write, Pass, Reserve, End and Expire of fields, with layer 5's Write and Pass.; What the statements of layer 10 stand on. -/
import Derived.Test.YtofngihdnjgmeaaGreatRows
import Derived.Test.YtofngihdnjgmeaaGreatY01
import Derived.Test.YtofngihdnjgmeaaGreatY07
import Derived.Test.YtofngihdnjgmeaaGreatY09
import Derived.Test.YtofngihdnjgmeaaGreatY10
import Derived.Test.YtofngihdnjgmeaaGreatY11
import Derived.Test.YtofngihdnjgmeaaGreatY12
import Derived.Test.YtofngihdnjgmeaaGreatY16A
import Derived.Test.YtofngihdnjgmeaaGreatY18
import Derived.Test.YtofngihdnjgmeaaGreatY21
import Derived.Test.YtofngihdnjgmeaaGreatY26
import Derived.Test.YtofngihdnjgmeaaGreatY27A
import Derived.WalkKit
import Derived.ProofKit
import Derived.Lib.Hide
import Derived.Deep.RegionHeld3
import Derived.Below
import Derived.Deep.MidRow
import Derived.Deep.QuietTactic
import Derived.BigQuiet
import Derived.Laws.StructEq
import Derived.Laws.OwnMore
import Derived.OpenShut
import Derived.ChangeOld
import Derived.Deep.Slices
import Derived.ChangeSlices
import Derived.Laws.AppendOwn
import Derived.Maps.AppendAt
import Derived.OwnWalk
import Derived.LoopTactic
import Derived.Defers
import Derived.Recover
import Derived.WalkSmall
import Derived.Lib.AppendZeros
import Derived.Deep.OwnRows
import Derived.WalkMore
import Derived.Lib.SliceRun
import Derived.Shelf.SlSortCmp.WholeK
import Derived.Shelf.SlSortCmp.NoneTotal
import Derived.Maps.OwnSet
import Derived.Maps.Views
namespace Go.Proofs.YtofngihdnjgmeaaGreat

theorem tot_append (xs ys : List Int) : tot (xs ++ ys) = tot xs + tot ys := by
  induction xs with
  | nil => simp [tot]
  | cons x r ih => simp only [List.cons_append, tot, ih]; omega
end Go.Proofs.YtofngihdnjgmeaaGreat

namespace Go.Proofs.YtofngihdnjgmeaaGreat
open Go.ChangeShapes Go.WideShapes Go.ChangeAt Go.RowKit

end Go.Proofs.YtofngihdnjgmeaaGreat

namespace Go.Proofs.YtofngihdnjgmeaaGreat
open Go.ChangeShapes Go.WideShapes Go.ChangeAt Go.RowKit

section
variable {P : Program} {ops : Array Oper} {Q : Exit → Act → World → Prop} {S : World → Prop} {n : Nat}

/-- One of two may come up. -/
theorem Draws.either {l r s : List Oper} {fuel : Nat} {listed : Array Bool} {a : Act} {w : World} (i j : Nat) {o p : Oper} (hi : l.drop i = o :: r) (hj : l.drop j = p :: s) (hr : Region.ready .any l.toArray listed = [i, j])
    (hw : Region.wanted o (yielded l.toArray a.tmps) = true) (hw' : Region.wanted p (yielded l.toArray a.tmps) = true)
    (h1 : ∀ K : Act → World → Prop, Shut (∀ a w, (i < n → S w) → Draws P l.toArray Q S n fuel (listed.setIfInBounds i true) a w → K a w) → Oper.wp P o a w K Q)
    (h2 : ∀ K : Act → World → Prop, Shut (∀ a w, (j < n → S w) → Draws P l.toArray Q S n fuel (listed.setIfInBounds j true) a w → K a w) → Oper.wp P p a w K Q) : Draws P l.toArray Q S n (fuel + 1) listed a w := by
  refine ⟨fun h0 => (by rw [hr] at h0; cases h0), fun k hk => ?_⟩
  rw [hr, List.mem_cons, List.mem_singleton] at hk
  rcases hk with rfl | rfl
  · exact wpOp_step (of_drop hi) (fun K hK => by rw [if_pos hw]; exact h1 K (fun a w hS hD => hK a w ⟨hS, hD⟩))
  · exact wpOp_step (of_drop hj) (fun K hK => by rw [if_pos hw']; exact h2 K (fun a w hS hD => hK a w ⟨hS, hD⟩))

end
end Go.Proofs.YtofngihdnjgmeaaGreat

namespace Go.Proofs.YtofngihdnjgmeaaGreat
open Go.ChangeShapes Go.WideShapes Go.ChangeAt Go.RowKit

theorem Blk.setRow {w : World} {b : Nat} {t : TypeId} {zs : List Int} (h : Blk w b t zs) (ys : List Int) : Blk (w.setRow b (vals ys).toArray) b t ys := setRow_heap w b _ _ t _ h
theorem below_setRow {B : Nat} {a w : World} (h : Below B a w) {g : Nat} (hg : B ≤ g) (cs : Array Value) : Below B a (w.setRow g cs) :=
  h.trans ⟨rfl, rfl, rfl, by simp, fun k hk => _root_.Go.setRow_other w g k cs (by omega)⟩
theorem splice_seg_same {R zs : List Int} {o n : Nat} (hn : zs.length = n) (h : o + n ≤ R.length) : seg (splice R o zs) o n = zs := by
  refine ext_get (by rw [seg_length (by rw [splice_length]; omega), hn]) fun k hk => ?_
  rw [seg_length (by rw [splice_length]; omega)] at hk
  rw [seg_get hk, splice_get _ _ _ _ (by omega), if_pos (by omega)]
  congr 1; omega
theorem splice_seg_apart {R zs : List Int} {o p m : Nat} (h : o + zs.length ≤ R.length) (hp : p + m ≤ R.length) (ha : p + m ≤ o ∨ o + zs.length ≤ p) : seg (splice R o zs) p m = seg R p m := by
  refine ext_get (by rw [seg_length (by rw [splice_length]; omega), seg_length hp]) fun k hk => ?_
  rw [seg_length (by rw [splice_length]; omega)] at hk
  rw [seg_get hk, seg_get hk, splice_get _ _ _ _ h, if_neg (by omega)]
theorem zer_get (n i : Nat) : (zer n).getD i 0 = 0 := by
  simp only [zer, List.getD, List.getElem?_replicate]; split <;> rfl
theorem KeepR.setRow {w u : World} {l : List (Nat × TypeId × List Int)} (h : KeepR w l u) (i : Nat) {b : Nat} {t : TypeId} {R : List Int} (hi : l[i]? = some (b, t, R)) (zs : List Int) : KeepR w (l.set i (b, t, zs)) (u.setRow b (vals zs).toArray) :=
  have h1 := h.blk _ (List.mem_of_getElem? hi)
  h.put i hi (h1.2.setRow zs) (fun k hk => _root_.Go.setRow_other u b k _ hk) (below_setRow h.bel h1.1 _)
theorem results_r {fn : Func} {p : Tmp} {ty : TypeId} {n : Nat} {d : TypeDesc} (h : fn.results = #[.cell p ty]) (hu : Tryz.prog.underlying ty = some d) (hd : d.isRow = true) (hs : (Tryz.prog.info? ty).map (·.size) = some n) (tmps : Array Value) {w u : World} {l : List (Nat × TypeId × List Int)} (hk : KeepR w l u) (i : Nat) {b : Nat} {R : List Int}
    (hi : l[i]? = some (b, ty, R)) (hp : tmps.getD p undef = .pointer (some ⟨b, 0, none⟩)) (hl : R.length = n) : (results fn tmps).run Tryz.prog u = .ok (.agg (vals R).toArray) u :=
  results_cell_row h tmps u b _ _ (0, 0) d hp (hk.get i hi) hu (by cases d <;> simp_all) (by rw [List.size_toArray, vals_length, hl]; exact hs)
theorem seg_map {R : List Int} {o n : Nat} (h : o + n ≤ R.length) : seg R o n = (List.range n).map fun m => R.getD (o + m) 0 := by
  refine ext_get (by rw [seg_length h]; simp) fun k hk => ?_
  rw [seg_length h] at hk
  rw [seg_get hk]
  simp [List.getD, hk]
/-- A region goes through a meeting point. -/
theorem region_via {P : Program} {id : Nat} {ops : Array Oper} {Q : Exit → Act → World → Prop} {a : Act} {w : World} (G : Act → World → Prop) (h1 : (Code.region id ops true).wp P (fun e a w => e = .normal ∧ G a w) a w) (h2 : ∀ a w, G a w → Q .normal a w) : (Code.region id ops true).wp P Q a w :=
  Code.wp_mono (fun e a w h => by obtain ⟨rfl, h⟩ := h; exact h2 a w h) h1
theorem wp_alloc_zero {o : Oper} {a : Act} {w u : World} {l : List (Nat × TypeId × List Int)} {K : Act → World → Prop} {Q : Exit → Act → World → Prop} (hk : KeepR w l u) (n : Nat) {ty : TypeId} (hz : (Tryz.prog.info? ty).bind (·.zero) = some (.agg (vals (zer n)).toArray)) (ho : o.op = .alloc ty)
    (h : ∀ b u', KeepR w ((b, ty, zer n) :: l) u' → Below u.heap.size u u' → K (a.put o.dst (.pointer (some ⟨b, 0, none⟩))) u') : o.wp Tryz.prog a u K Q := by
  have e : (Instr.alloc ty true (.tuple #[])).run Tryz.prog u = .ok (.pointer (some ⟨u.heap.size, 0, none⟩)) (u.alloc (.cells (vals (zer n)).toArray ty)) := by
    cases hq : Tryz.prog.info? ty with
    | none => simp [hq] at hz
    | some i =>
      simp only [hq, Option.bind_some] at hz
      simp [Instr.alloc, zeroValue, typeInfo, hq, hz, newVar, newRow, newObj, Value.cells]
      rfl
  unfold Oper.wp execOp
  simp only [ho, Sem.run_bind, Sem.run_pure, Result.andThen_ok, e]
  exact h _ _ (hk.new rfl) (box u _ _).2
/-- Numbers are stored into the whole, or a part, of a kept block. -/
theorem wp_store_part {o : Oper} {a : Act} {w u : World} {l : List (Nat × TypeId × List Int)} {K : Act → World → Prop} {Q : Exit → Act → World → Prop} (hk : KeepR w l u) (i : Nat) (n : Nat) {ty : TypeId} (hs : (Tryz.prog.info? ty).map (·.size) = some n)
    (hd : o.dst = none) (x y : Operand) (ho : o.op = .store ty x y) {b off : Nat} {t : TypeId} {R zs : List Int} (hi : l[i]? = some (b, t, R)) (hx : a.eval x = .pointer (some ⟨b, off, none⟩)) (hy : a.eval y = .agg (vals zs).toArray) (hz : zs.length = n) (hr : off + n ≤ R.length)
    (h : ∀ u', KeepR w (l.set i (b, t, splice R off zs)) u' → K a u') : o.wp Tryz.prog a u K Q :=
  wp_store_mid ty x y ho b off _ hx hy (by simp only [List.size_toArray, vals_length, hz]; exact (hk.get i hi).thereAt hr) (by simp only [List.size_toArray, vals_length, hz]; exact hs) (vals_all zs)
    (by rw [hd]; simpa [Act.put] using h _ (hk.setCells i hi off zs))
end Go.Proofs.YtofngihdnjgmeaaGreat

namespace Go.Proofs.YtofngihdnjgmeaaGreat

/-! ### Which lists may be. -/
/-! ### Strictly rising lists. -/
theorem cut_eq {l : List Ho} {h : Ho} {m : Nat} (hm : m ≤ l.length) (h1 : ∀ j, j < m → ahB (l.getD j z5) h = true) (h2 : m = l.length ∨ ahB (l.getD m z5) h = false) : cut l h = m := by
  rcases Nat.lt_or_ge m l.length with hlt | hge
  · rw [cut, List.findIdx_eq hlt]
    refine ⟨?_, fun j hj => ?_⟩
    · rcases h2 with h2 | h2
      · omega
      · rw [getD_get hlt] at h2; simp [h2]
    · have := h1 j hj
      rw [getD_get (by omega)] at this
      simp [this]
  · have hm' : m = l.length := by omega
    subst hm'
    rw [cut, List.findIdx_eq_length]
    intro x hx
    obtain ⟨i, hi, rfl⟩ := mem_getD hx
    simp only [h1 i hi, Bool.not_true]
end Go.Proofs.YtofngihdnjgmeaaGreat

namespace Go.Proofs.YtofngihdnjgmeaaGreat
set_option maxRecDepth 100000
open Go.ChangeShapes Go.WideShapes Go.ChangeAt Go.RowKit

/-! ### Equality. -/
/-! ### Slices of holds. -/
theorem flat_set : ∀ (hs : List Ho) (k : Nat) (z : Int), k < hs.length → (flat hs).set (k * 5 + 4) z = flat (hs.set k ⟨(hs.getD k z5).r, (hs.getD k z5).n, (hs.getD k z5).a, (hs.getD k z5).d, z⟩)
  | h :: t, 0, z, _ => rfl
  | h :: t, k + 1, z, hk => by
    have ih := flat_set t k z (by simpa using hk)
    have e : ∀ x (y : List Ho), flat (x :: y) = x.l ++ flat y := fun _ _ => rfl
    rw [List.set_cons_succ, e, e, show (k + 1) * 5 + 4 = h.l.length + (k * 5 + 4) by rw [Ho.len]; omega, List.set_append_right _ _ (by omega), Nat.add_sub_cancel_left, ih]
    rfl
/-! ### Rows that a call makes. -/
/-- The state of one is written. -/
theorem Own.state {w : World} {base g cap n : Nat} {hs : List Ho} (h : Own w base (.slice (some ⟨g, 0, none⟩) n cap) hs) {k : Nat} (hk : k < hs.length) (z : Int) :
    Own (w.setCell ⟨g, k * 5 + 4, none⟩ (.int .i64 z)) base (.slice (some ⟨g, 0, none⟩) n cap) (hs.set k ⟨(hs.getD k z5).r, (hs.getD k z5).n, (hs.getD k z5).a, (hs.getD k z5).d, z⟩) := by
  have hl : n = hs.length := by
    rcases h.2 with ⟨h1, _⟩ | ⟨_, _, _, h1, _⟩
    · cases h1
    · injection h1
  subst hl
  have := World.ownsRow.stored h (k * 5 + 4) (.int .i64 z)
  rw [vals_set, flat_set hs k z hk] at this
  unfold Own
  rw [List.length_set]
  exact this.1

theorem KeepH.of_store {w u u' : World} {l : List (Nat × TypeId × List Int)} {v : Value} {hs : List Ho} (h : KeepH w l v hs u) (i : Nat) {b : Nat} {t : TypeId} {R S : List Int} (hi : l[i]? = some (b, t, R)) (hk : KeepR w (l.set i (b, t, S)) u') (he : ∀ k, k ≠ b → u'.heap[k]? = u.heap[k]?) : KeepH w (l.set i (b, t, S)) v hs u' := by
  have hb := h.apart _ (List.mem_of_getElem? hi)
  refine ⟨hk, ⟨h.own.1, ?_⟩, fun x hx => ?_⟩
  · rcases h.own.2 with h1 | ⟨g, cap, cur, rfl, h1, h2, h3⟩
    · exact .inl h1
    · refine .inr ⟨g, cap, cur, rfl, h1, ?_, h3⟩
      rw [he g (by simpa [Value.ownBlock] using hb)]; exact h2
  · rcases List.mem_or_eq_of_mem_set hx with hx | rfl
    · exact h.apart x hx
    · exact hb
/-- The state of one is written. -/
theorem KeepH.state {w u : World} {l : List (Nat × TypeId × List Int)} {g cap n : Nat} {hs : List Ho} (h : KeepH w l (.slice (some ⟨g, 0, none⟩) n cap) hs u) {k : Nat} (hk : k < hs.length) (z : Int) :
    KeepH w l (.slice (some ⟨g, 0, none⟩) n cap) (hs.set k ⟨(hs.getD k z5).r, (hs.getD k z5).n, (hs.getD k z5).a, (hs.getD k z5).d, z⟩) (u.setCell ⟨g, k * 5 + 4, none⟩ (.int .i64 z)) := by
  have hg : w.heap.size ≤ g := own_baseH h.own g rfl
  refine ⟨⟨h.keep.bel.setCell (p := ⟨g, k * 5 + 4, none⟩) hg _, fun x hx => ⟨(h.keep.blk x hx).1, (h.keep.blk x hx).2.apart _ _ (fun e => h.apart x hx (by simp [Value.ownBlock]; exact e.symm))⟩, h.keep.apart⟩, h.own.state hk z, h.apart⟩
end Go.Proofs.YtofngihdnjgmeaaGreat

namespace Go.Proofs.YtofngihdnjgmeaaGreat
set_option maxRecDepth 100000
open Go.ChangeShapes Go.WideShapes Go.ChangeAt Go.RowKit

/-- The state of one of the row is written. -/
theorem wp_store_state {o : Oper} {a : Act} {w u : World} {l : List (Nat × TypeId × List Int)} {g cap n : Nat} {hs : List Ho} {K : Act → World → Prop} {Q : Exit → Act → World → Prop} (hk : KeepH w l (.slice (some ⟨g, 0, none⟩) n cap) hs u) {k : Nat} (hkl : k < hs.length) (hd : o.dst = none) (x y : Operand) (ho : o.op = .store 3 x y) {z : Int} {off : Nat}
    (hx : a.eval x = .pointer (some ⟨g, off, none⟩)) (hoff : off = k * 5 + 4) (hy : a.eval y = .int .i64 z)
    (h : ∀ u', KeepH w l (.slice (some ⟨g, 0, none⟩) n cap) (hs.set k ⟨(hs.getD k z5).r, (hs.getD k z5).n, (hs.getD k z5).a, (hs.getD k z5).d, z⟩) u' → K a u') : o.wp Tryz.prog a u K Q := by
  subst hoff
  have hc := (range5 (hk.own.range hkl)).2.2.2.2
  have hf := hk.own.frozen (k * 5 + 4)
  have := h _ (hk.state hkl z)
  unfold Oper.wp execOp
  simp only [ho, hx, hy]
  simp [go_sem, hc, hf]
  simpa [hd, Act.put] using this
end Go.Proofs.YtofngihdnjgmeaaGreat

namespace Go.Proofs.YtofngihdnjgmeaaGreat
set_option maxRecDepth 100000
open Go.ChangeShapes Go.WideShapes Go.ChangeAt Go.RowKit

theorem zeros_length : zeros.length = 16 := by simp [zeros]
theorem zlit : (vals zeros).toArray = #[.int .i64 0, .int .i64 0, .int .i64 0, .int .i64 0, .int .i64 0, .int .i64 0, .int .i64 0, .int .i64 0, .int .i64 0, .int .i64 0, .int .i64 0, .int .i64 0, .int .i64 0, .int .i64 0, .int .i64 0, .int .i64 0] := rfl
/-- The same, and a block more. -/
theorem boxes_more {w W : World} {t : TypeId} {xs ys : List Int} {n : Nat} (hn : W.heap.size = n) (h : Blk W w.heap.size t xs ∧ Blk W (w.heap.size + 1) t ys ∧ Below w.heap.size w W) (zs : List Int) :
    (Blk (W.alloc (.cells (vals zs).toArray t)) w.heap.size t xs ∧ Blk (W.alloc (.cells (vals zs).toArray t)) (w.heap.size + 1) t ys ∧ Below w.heap.size w (W.alloc (.cells (vals zs).toArray t))) ∧ Blk (W.alloc (.cells (vals zs).toArray t)) n t zs := by
  subst hn
  exact ⟨⟨h.1.alloc _, h.2.1.alloc _, h.2.2.alloc h.2.2.size _⟩, Blk.new W t zs⟩
/-! ### Equality of arrays of ints. -/
/-! ### Loads and stores of whole vectors, at a plain region's list. -/
theorem wpList_store_vec {ops : Array Oper} {rest : List Oper} {o : Oper} {a : Act} {w : World} {Q : Exit → Act → World → Prop} (hgd : o.guard = none) (x y : Operand) (ho : o.op = .store 23 x y)
    (b : Nat) (zs : List Int) (hx : a.eval x = .pointer (some ⟨b, 0, none⟩)) (hy : a.eval y = .agg (vals zs).toArray) (old : List Int) (hb : Blk w b 23 old) (ho16 : old.length = 16) (hl : zs.length = 16)
    (h : wpList Tryz.prog ops Q rest (a.put o.dst undef) (w.setRow b (vals zs).toArray)) : wpList Tryz.prog ops Q (o :: rest) a w :=
  wpList_store_row hgd _ x y ho b _ hx hy _ _ hb (by rw [List.size_toArray]; exact vec_info_of hl) (by simp [vals_length, ho16, hl]) (vals_all zs) h

theorem results_vec {fn : Func} {p : Tmp} (h : fn.results = #[.cell p 23]) (tmps : Array Value) (w : World) (b : Nat) (zs : List Int)
    (hp : tmps.getD p undef = .pointer (some ⟨b, 0, none⟩)) (hb : Blk w b 23 zs) (hl : zs.length = 16) : (results fn tmps).run Tryz.prog w = .ok (.agg (vals zs).toArray) w :=
  results_cell_row h tmps w b _ _ (0, 0) _ hp hb Tryz.underlying23 rfl (by rw [List.size_toArray]; exact vec_info_of hl)

theorem mix_get {zs xs : List Int} {k : Nat} (h : zs.length = xs.length) (hk : k < xs.length) : (mix k zs xs).getD k 0 = xs.getD k 0 := by
  simp [mix, List.getD, List.getElem?_append, show min k zs.length = k by omega]
/-- Of each two numbers the greater one. -/
def joinL (xs ys : List Int) : List Int := List.zipWith max xs ys
theorem joinL_length {xs ys : List Int} (hx : xs.length = 16) (hy : ys.length = 16) : (joinL xs ys).length = 16 := by simp [joinL, hx, hy]
theorem joinL_get {xs ys : List Int} {k : Nat} (hx : k < xs.length) (hy : k < ys.length) : (joinL xs ys).getD k 0 = max (xs.getD k 0) (ys.getD k 0) := by
  simp [joinL, List.getD, List.getElem?_zipWith, hx, hy]
end Go.Proofs.YtofngihdnjgmeaaGreat

namespace Go.Proofs.YtofngihdnjgmeaaGreat
set_option maxRecDepth 100000
open Go.ChangeShapes Go.WideShapes Go.ChangeAt Go.RowKit

end Go.Proofs.YtofngihdnjgmeaaGreat

namespace Go.Proofs.YtofngihdnjgmeaaGreat
set_option maxRecDepth 100000
open Go.ChangeShapes Go.WideShapes Go.ChangeAt Go.RowKit

/-! ### Joining, and being over. -/
end Go.Proofs.YtofngihdnjgmeaaGreat

namespace Go.Proofs.YtofngihdnjgmeaaGreat
set_option maxRecDepth 100000
open Go.ChangeShapes Go.WideShapes Go.ChangeAt Go.RowKit

theorem join_any (xs ys : List Int) (hx : xs.length = 16) (hy : ys.length = 16) (w : World) :
    Calls Tryz.prog 124 #[.agg (vals xs).toArray, .agg (vals ys).toArray] w fun e w' => e = .returned (.agg (vals (joinL xs ys)).toArray) ∧ Below w.heap.size w w' := by
  have hix : ∀ (k : Nat) (W : World), k < 16 → (Instr.index 23 (.agg (vals ys).toArray) (.int .i64 (k : Int))).run Tryz.prog W = .ok (.int .i64 (ys.getD k 0)) W := fun k W hk => index_vec hy hk W
  have HIX := Lib.hid hix; clear hix
  have HJ := Lib.hid (joinL_length hx hy)
  have HX := Lib.hid hx; clear hx
  have HY := Lib.hid hy; clear hy
  have h1 := boxes_more (n := w.heap.size + 1 + 1) (by simp) (boxes w 23 xs ys) zeros
  rw [zlit] at h1
  have H0 := Lib.hid h1
  clear h1
  go_enter Tryz.func124, Tryz.ntmps124
  go_wp2_with ((with_reducible refine wpList_load_vec rfl _ rfl _ rfl _ H0.out.1.2.1 HY.out ?_))
  go_loopw [8] (fun i wr => ∃ k : Nat, k ≤ 16 ∧ i = .int .i64 k ∧ Blk wr w.heap.size 23 (mix k (joinL xs ys) xs) ∧ Blk wr (w.heap.size + 1 + 1) 23 zeros ∧ Below w.heap.size w wr) (fun i _ => 16 - (intOf i).toNat)
  case atStart => exact ⟨0, by omega, rfl, (mix_zero _ _).symm ▸ H0.out.1.1, H0.out.2, H0.out.1.2.2⟩
  case round =>
    obtain ⟨k, hk, rfl, hM, hZ, hS⟩ := hrel
    have HZ := Lib.hid hZ; have HM := Lib.hid hM; have HS := Lib.hid hS
    clear hZ hM hS H0
    by_cases hlt : k < 16
    · have hi : ∀ W : World, (Instr.index 23 (.agg (vals ys).toArray) (.int .i64 (k : Int))).run Tryz.prog W = .ok (.int .i64 (ys.getD k 0)) W := fun W => HIX.out k W hlt
      have c1 := HM.out.cell (k := k) (by rw [mix_length (by rw [HJ.out, HX.out]), HX.out]; omega)
      have f1 := HM.out.frozen k
      have hj := joinL_get (xs := xs) (ys := ys) (k := k) (by have := HX.out; omega) (by have := HY.out; omega)
      have hm := mix_set (zs := joinL xs ys) (xs := xs) (k := k) (by rw [HJ.out, HX.out]) (by rw [HX.out]; omega)
      rw [hj] at hm
      rw [mix_get (by rw [HJ.out, HX.out]) (by rw [HX.out]; omega)] at c1
      generalize hx : xs.getD k 0 = x at c1 hm
      generalize hy : ys.getD k 0 = y at hi hm
      clear hx hy hj
      have Hm := Lib.hid hm; clear hm
      have i1 : (0 : Int) ≤ (k : Int) := by omega
      have i2 : (k : Int) < 16 := by omega
      go_wp2
      go_roundw
      case rel =>
        have e : (if x < y then y else x) = max x y := by split <;> omega
        try rw [e]
        refine ⟨k + 1, by omega, by go_num, ?_, HZ.out.apart _ _ (by simp; omega), HS.out.setCell (by simp) _⟩
        have := HM.out.setCell k (max x y)
        rwa [Hm.out] at this
      case measure => simp [intOf]; omega
    · have hM := HM.out
      rw [mix_all (by rw [HJ.out, HX.out]) (by rw [HX.out]; omega)] at hM
      have HM := Lib.hid hM; clear hM
      go_wp2_with (first
        | (with_reducible refine wpList_load_vec rfl _ rfl _ rfl _ HM.out HJ.out ?_)
        | (with_reducible refine wpList_store_vec rfl _ _ rfl _ _ rfl rfl _ HZ.out zeros_length HJ.out ?_))
      exact bodyPost_ret (results_vec rfl _ _ _ _ rfl (HZ.out.setRow _) HJ.out) rfl ⟨rfl, below_setRow HS.out (by omega) _⟩
end Go.Proofs.YtofngihdnjgmeaaGreat

namespace Go.Proofs.YtofngihdnjgmeaaGreat
set_option maxRecDepth 100000
open Go.ChangeShapes Go.WideShapes Go.ChangeAt Go.RowKit

end Go.Proofs.YtofngihdnjgmeaaGreat

namespace Go.Proofs.YtofngihdnjgmeaaGreat
set_option maxRecDepth 100000
open Go.ChangeShapes Go.WideShapes Go.ChangeAt Go.RowKit

def growL (xs : List Int) (k n : Int) : List Int := if growE xs k n = 0 then xs.set k.toNat (addN (xs.getD k.toNat 0) n) else zeros
theorem grow_arg {xs : List Int} {k n : Int} (h : k < 0 ∨ 16 ≤ k ∨ n < 0) : growE xs k n = 1 ∧ growL xs k n = zeros := by simp [growL, growE, h]
theorem grow_no {xs : List Int} {k n : Int} (h : ¬ (k < 0 ∨ 16 ≤ k ∨ n < 0)) (ha : okB (xs.getD k.toNat 0) n (xs.getD k.toNat 0 + n) = false) : growE xs k n = 2 ∧ growL xs k n = zeros := by
  have e : growE xs k n = 2 := by unfold growE; rw [if_neg h, (addE_no ha).1]
  exact ⟨e, by rw [growL, e]; simp⟩
theorem grow_yes {xs : List Int} {k n : Int} (h : ¬ (k < 0 ∨ 16 ≤ k ∨ n < 0)) (ha : okB (xs.getD k.toNat 0) n (xs.getD k.toNat 0 + n) = true) : growE xs k n = 0 ∧ growL xs k n = xs.set k.toNat (xs.getD k.toNat 0 + n) := by
  have e : growE xs k n = 0 := by unfold growE; rw [if_neg h, (addE_ok ha).1]
  exact ⟨e, by rw [growL, e, (addE_ok ha).2]; simp⟩

/-- What grew: number k alone is greater, by n. -/
theorem grow_zero {xs : List Int} (_hx : xs.length = 16) {k n : Int} (h : growE xs k n = 0) : ∃ j : Nat, k = j ∧ j < 16 ∧ 0 ≤ n ∧ okB (xs.getD j 0) n (xs.getD j 0 + n) = true ∧ growL xs k n = xs.set j (xs.getD j 0 + n) := by
  by_cases hk : k < 0 ∨ 16 ≤ k ∨ n < 0
  · rw [(grow_arg hk).1] at h; cases h
  · cases ha : okB (xs.getD k.toNat 0) n (xs.getD k.toNat 0 + n) with
    | false => rw [(grow_no hk ha).1] at h; cases h
    | true => exact ⟨k.toNat, by omega, by omega, by omega, ha, (grow_yes hk ha).2⟩
end Go.Proofs.YtofngihdnjgmeaaGreat

namespace Go.Proofs.YtofngihdnjgmeaaGreat
set_option maxRecDepth 100000
open Go.ChangeShapes Go.WideShapes Go.ChangeAt Go.RowKit

def j0 : List Int := [3, 5, 0, 0, 0, 0, 0, 0, 0, 0, 0, 0, 0, 0, 0, 0]
end Go.Proofs.YtofngihdnjgmeaaGreat

namespace Go.Proofs.YtofngihdnjgmeaaGreat
set_option maxRecDepth 100000
open Go.ChangeShapes Go.WideShapes Go.ChangeAt Go.RowKit

end Go.Proofs.YtofngihdnjgmeaaGreat

namespace Go.Proofs.YtofngihdnjgmeaaGreat
set_option maxRecDepth 100000
open Go.ChangeShapes Go.WideShapes Go.ChangeAt Go.RowKit

/-! ### Parts of a list. -/
/-! ### Blocks. -/
/-! ### Operations at a plain region's list. -/
/-! ### What the types are. -/
theorem r_zero : (Tryz.prog.info? 26).bind (·.zero) = some (.agg (vals (zer 288)).toArray) := by kernel_rfl
end Go.Proofs.YtofngihdnjgmeaaGreat

namespace Go.Proofs.YtofngihdnjgmeaaGreat
set_option maxRecDepth 100000
open Go.ChangeShapes Go.WideShapes Go.ChangeAt Go.RowKit

end Go.Proofs.YtofngihdnjgmeaaGreat

namespace Go.Proofs.YtofngihdnjgmeaaGreat
set_option maxRecDepth 100000
open Go.ChangeShapes Go.WideShapes Go.ChangeAt Go.RowKit

/-- With an error the zero ones. -/
def toldR (R : List Int) (e : Int) : List Int := if e = 0 then R else zer 288
theorem toldR_length {R : List Int} (h : R.length = 288) (e : Int) : (toldR R e).length = 288 := by unfold toldR; split <;> simp [h, zer_length]
theorem toldR_ok (R : List Int) : toldR R 0 = R := by simp [toldR]
end Go.Proofs.YtofngihdnjgmeaaGreat

namespace Go.Proofs.YtofngihdnjgmeaaGreat
set_option maxRecDepth 100000
open Go.ChangeShapes Go.WideShapes Go.ChangeAt Go.RowKit

def grA (R : List Int) (o : Nat) (k n : Int) : List Int := toldR (splice R o (growL (seg R o 16) k n)) (grE R o k n)
theorem grA_length {R : List Int} (h : R.length = 288) (o : Nat) (k n : Int) : (grA R o k n).length = 288 := toldR_length (by rw [splice_length]; exact h) _

end Go.Proofs.YtofngihdnjgmeaaGreat

namespace Go.Proofs.YtofngihdnjgmeaaGreat
set_option maxRecDepth 100000
open Go.ChangeShapes Go.WideShapes Go.ChangeAt Go.RowKit

end Go.Proofs.YtofngihdnjgmeaaGreat

namespace Go.Proofs.YtofngihdnjgmeaaGreat
set_option maxRecDepth 100000
open Go.ChangeShapes Go.WideShapes Go.ChangeAt Go.RowKit

end Go.Proofs.YtofngihdnjgmeaaGreat

namespace Go.Proofs.YtofngihdnjgmeaaGreat
set_option maxRecDepth 100000
open Go.ChangeShapes Go.WideShapes Go.ChangeAt Go.RowKit

/-! ### Rows of ints that are made, beside what is kept. -/
/-! ### What is free. -/
end Go.Proofs.YtofngihdnjgmeaaGreat

namespace Go.Proofs.YtofngihdnjgmeaaGreat
set_option maxRecDepth 100000
open Go.ChangeShapes Go.WideShapes Go.ChangeAt Go.RowKit

end Go.Proofs.YtofngihdnjgmeaaGreat

namespace Go.Proofs.YtofngihdnjgmeaaGreat
set_option maxRecDepth 100000
open Go.ChangeShapes Go.WideShapes Go.ChangeAt Go.RowKit

end Go.Proofs.YtofngihdnjgmeaaGreat

namespace Go.Proofs.YtofngihdnjgmeaaGreat
set_option maxRecDepth 100000
open Go.ChangeShapes Go.WideShapes Go.ChangeAt Go.RowKit

end Go.Proofs.YtofngihdnjgmeaaGreat

namespace Go.Proofs.YtofngihdnjgmeaaGreat
set_option maxRecDepth 100000
open Go.ChangeShapes Go.WideShapes Go.ChangeAt Go.RowKit

end Go.Proofs.YtofngihdnjgmeaaGreat

namespace Go.Proofs.YtofngihdnjgmeaaGreat
set_option maxRecDepth 100000
open Go.ChangeShapes Go.WideShapes Go.ChangeAt Go.RowKit

end Go.Proofs.YtofngihdnjgmeaaGreat

namespace Go.Proofs.YtofngihdnjgmeaaGreat
set_option maxRecDepth 100000
open Go.ChangeShapes Go.WideShapes Go.ChangeAt Go.RowKit

end Go.Proofs.YtofngihdnjgmeaaGreat

namespace Go.Proofs.YtofngihdnjgmeaaGreat
set_option maxRecDepth 100000
open Go.ChangeShapes Go.WideShapes Go.ChangeAt Go.RowKit

end Go.Proofs.YtofngihdnjgmeaaGreat

namespace Go.Proofs.YtofngihdnjgmeaaGreat
set_option maxRecDepth 100000
open Go.ChangeShapes Go.WideShapes Go.ChangeAt Go.RowKit

def useA (R : List Int) (k n : Int) : List Int := if preU R k n = 0 then grA R 16 k n else zer 288
theorem useA_length {R : List Int} (h : R.length = 288) (k n : Int) : (useA R k n).length = 288 := by unfold useA; split; exact grA_length h _ _ _; exact zer_length 288
theorem use_yes {R : List Int} {k n : Int} (h : preU R k n = 0) : useE R k n = grE R 16 k n ∧ useA R k n = grA R 16 k n := by simp [useE, useA, h]
end Go.Proofs.YtofngihdnjgmeaaGreat

namespace Go.Proofs.YtofngihdnjgmeaaGreat
set_option maxRecDepth 100000
open Go.ChangeShapes Go.WideShapes Go.ChangeAt Go.RowKit

theorem grA_ok {R : List Int} {o : Nat} {k n : Int} (h : grE R o k n = 0) : grA R o k n = splice R o (growL (seg R o 16) k n) := by unfold grA; rw [h, toldR_ok]
end Go.Proofs.YtofngihdnjgmeaaGreat

namespace Go.Proofs.YtofngihdnjgmeaaGreat
set_option maxRecDepth 100000
open Go.ChangeShapes Go.WideShapes Go.ChangeAt Go.RowKit

end Go.Proofs.YtofngihdnjgmeaaGreat

namespace Go.Proofs.YtofngihdnjgmeaaGreat
set_option maxRecDepth 100000
open Go.ChangeShapes Go.WideShapes Go.ChangeAt Go.RowKit

theorem joinL_len {R T : List Int} {n : Nat} (hR : R.length = n) (hT : T.length = n) : (joinL R T).length = n := by simp [joinL, hR, hT]
theorem seg_join {R T : List Int} {o n : Nat} (hR : o + n ≤ R.length) (hT : o + n ≤ T.length) : joinL (seg R o n) (seg T o n) = seg (joinL R T) o n := by
  have hJ : o + n ≤ (joinL R T).length := by simp [joinL]; omega
  refine ext_get (by rw [joinL_len (seg_length hR) (seg_length hT), seg_length hJ]) fun k hk => ?_
  rw [joinL_len (seg_length hR) (seg_length hT)] at hk
  rw [joinL_get (by rw [seg_length hR]; exact hk) (by rw [seg_length hT]; exact hk), seg_get hk, seg_get hk, seg_get hk, joinL_get (by omega) (by omega)]
theorem mix_at {J R : List Int} (h : J.length = R.length) (m i : Nat) (hi : i < R.length) : (mix m J R).getD i 0 = if i < m then J.getD i 0 else R.getD i 0 := by
  simp only [mix, List.getD, List.getElem?_append, List.length_take, List.getElem?_take, List.getElem?_drop]
  by_cases h1 : i < m
  · simp [h1, show i < min m J.length by omega]
  · by_cases h2 : m ≤ J.length
    · simp [h1, show ¬ i < min m J.length by omega, show m + (i - min m J.length) = i by omega]
    · omega
theorem mix_rest {J R : List Int} (h : J.length = R.length) {m n : Nat} (hm : m + n ≤ R.length) : seg (mix m J R) m n = seg R m n := by
  refine ext_get (by rw [seg_length (by rw [mix_length h]; exact hm), seg_length hm]) fun k hk => ?_
  rw [seg_length (by rw [mix_length h]; exact hm)] at hk
  rw [seg_get hk, seg_get hk, mix_at h _ _ (by omega), if_neg (by omega)]
theorem mix_splice {J R : List Int} (h : J.length = R.length) {m n : Nat} (hm : m + n ≤ R.length) : splice (mix m J R) m (seg J m n) = mix (m + n) J R := by
  have hl : (seg J m n).length = n := seg_length (by omega)
  refine ext_get (by rw [splice_length, mix_length h, mix_length h]) fun k hk => ?_
  rw [splice_length, mix_length h] at hk
  rw [splice_get _ _ _ _ (by rw [hl, mix_length h]; exact hm), hl, mix_at h _ _ hk, mix_at h _ _ hk]
  by_cases h1 : k < m
  · rw [if_neg (by omega), if_pos h1, if_pos (by omega)]
  · by_cases h2 : k < m + n
    · rw [if_pos (by omega), if_pos h2, seg_get (by omega)]; congr 1; omega
    · rw [if_neg (by omega), if_neg h1, if_neg h2]

set_option maxHeartbeats 1000000 in
theorem join1_any (b off : Nat) (t : TypeId) (A ys : List Int) (hA : off + 16 ≤ A.length) (hy : ys.length = 16) (w : World) (hB : Blk w b t A) :
    Calls Tryz.prog 123 #[.pointer (some ⟨b, off, none⟩), .agg (vals ys).toArray] w fun e w' => e = .returned (.tuple #[]) ∧ ∃ u, Below w.heap.size w u ∧ w' = u.setCells b off (vals (joinL (seg A off 16) ys)) := by
  have HJ := Lib.hid (joinL_len (n := 16) (seg_length hA) hy)
  have HL := Lib.hid (seg_length hA)
  have HY := Lib.hid hy; have HA := Lib.hid hA; have HB := Lib.hid hB
  clear hy hA hB
  have HK := Lib.hid (KeepR.start w)
  go_enter Tryz.func123, Tryz.ntmps123
  go_wp2_with (first
    | (with_reducible refine box_new HK.out rfl _ rfl rfl ?_; intro b3 u hk hb; clear hb; clear HK; have HK := Lib.hid hk; clear hk))
  refine Draws.start (S := fun u => KeepR w [(b3, 23, ys)] u) (n := 7) 8 rfl (by kernel_rfl) ?_
  have HS := Lib.hid ((HK.out.drew : (fun u => KeepR w [(b3, 23, ys)] u) _))
  refine Draws.take 0 (v := ?v0) HS.out rfl (by kernel_rfl) (fun _ _ _ h => h) (Or.inl ⟨rfl, ?h0⟩) ?r0
  case h0 => intro w' hw'; go_simp; (try with_reducible rfl)
  (try simp only [Act.put, List.setIfInBounds_toArray, List.set_cons_zero, List.set_cons_succ])
  refine Draws.take 1 (v := ?v1) HS.out rfl (by kernel_rfl) (fun _ _ _ h => h) (Or.inl ⟨rfl, ?h1⟩) ?r1
  case h1 => intro w' hw'; go_simp; (try with_reducible rfl)
  (try simp only [Act.put, List.setIfInBounds_toArray, List.set_cons_zero, List.set_cons_succ])
  refine Draws.take 2 (v := ?v2) HS.out rfl (by kernel_rfl) (fun _ _ _ h => h) (Or.inl ⟨rfl, ?h2⟩) ?r2
  case h2 => intro w' hw'; go_simp; (try with_reducible rfl)
  (try simp only [Act.put, List.setIfInBounds_toArray, List.set_cons_zero, List.set_cons_succ])
  refine Draws.take 3 HS.out rfl (by kernel_rfl) (fun _ _ _ h => h) (yieldsIf_load_mid rfl _ _ rfl _ _ rfl (vals (seg A off 16)) _ (fun u h => (HB.out.below h.bel HB.out.lt).seg HA.out) Tryz.underlying23 rfl (by rw [vals_length, HL.out]; exact vec_info)) ?_
  (try simp only [Act.put, List.setIfInBounds_toArray, List.set_cons_zero, List.set_cons_succ])
  refine Draws.take 4 HS.out rfl (by kernel_rfl) (fun _ _ _ h => h) (yield_all (fun _ h => h) 0 16 Tryz.underlying23 rfl vec_info rfl _ rfl rfl rfl HY.out) ?_
  (try simp only [Act.put, List.setIfInBounds_toArray, List.set_cons_zero, List.set_cons_succ])
  refine Draws.does 5 rfl (by kernel_rfl) rfl (fun K hK => ?_)
  go_simp
  go_at_call 124
  refine (join_any (seg A off 16) ys HL.out HY.out _).mono ?_
  rintro e u ⟨rfl, hb⟩
  (try dsimp only)
  refine hK.out _ _ (fun _ => HS.out.call hb) ?_
  clear hK K
  have hs : (fun u => KeepR w [(b3, 23, ys)] u) u := HS.out.call hb
  clear HS
  have HS := Lib.hid hs; clear hs
  (try simp only [Act.put, List.setIfInBounds_toArray, List.set_cons_zero, List.set_cons_succ])
  clear hb
  refine Draws.take 6 (v := ?v6) HS.out rfl (by kernel_rfl) (fun _ _ _ h => h) (Or.inl ⟨rfl, ?h6⟩) ?r6
  case h6 => intro w' hw'; go_simp; (try with_reducible rfl)
  (try simp only [Act.put, List.setIfInBounds_toArray, List.set_cons_zero, List.set_cons_succ])
  refine Draws.does 7 rfl (by kernel_rfl) rfl (fun K hK => ?_)
  refine wp_store_mid _ _ _ rfl _ _ _ rfl rfl (by simp only [List.size_toArray, vals_length, HJ.out]; exact (HB.out.below HS.out.bel HB.out.lt).thereAt HA.out) (by simp only [List.size_toArray, vals_length, HJ.out]; exact vec_info) (vals_all _) ?_
  refine hK.out _ _ (fun h => absurd h (by omega)) ?_
  clear hK K
  (try simp only [Act.put])
  refine Draws.done (by kernel_rfl) ?_
  go_wp2_with fail
  go_end0
  exact ⟨rfl, _, HS.out.bel, rfl⟩
end Go.Proofs.YtofngihdnjgmeaaGreat

namespace Go.Proofs.YtofngihdnjgmeaaGreat
set_option maxRecDepth 100000
open Go.ChangeShapes Go.WideShapes Go.ChangeAt Go.RowKit

theorem join_step {R T : List Int} (hR : R.length = 288) (hT : T.length = 288) {m : Nat} (hm : m + 16 ≤ 288) : splice (mix m (joinL R T) R) m (joinL (seg (mix m (joinL R T) R) m 16) (seg T m 16)) = mix (m + 16) (joinL R T) R := by
  have hJ := joinL_len hR hT
  rw [mix_rest (by omega) (by omega), seg_join (by omega) (by omega), mix_splice (by omega) (by omega)]

set_option maxHeartbeats 1000000 in
theorem join_r (R T : List Int) (hR : R.length = 288) (hT : T.length = 288) (w : World) :
    Calls Tryz.prog 93 #[.agg (vals R).toArray, .agg (vals T).toArray] w fun e w' => e = .returned (.agg (vals (joinL R T)).toArray) ∧ Below w.heap.size w w' := by
  have HJ := Lib.hid (joinL_len hR hT)
  have HST := Lib.hid (fun m (hm : m + 16 ≤ 288) => join_step hR hT (m := m) hm)
  have h0 := join_step hR hT (m := 0) (by omega)
  rw [mix_zero] at h0
  have H0 := Lib.hid h0; clear h0
  have HML := Lib.hid (fun m => mix_length (zs := joinL R T) (xs := R) (by rw [joinL_len hR hT, hR]) m)
  have HS0 := Lib.hid (seg_length (R := T) (o := 0) (n := 16) (by omega))
  have HS1 := Lib.hid (seg_length (R := T) (o := 16) (n := 16) (by omega))
  have HSM := Lib.hid (seg_length (R := T) (o := 32) (n := 256) (by omega))
  have HR := Lib.hid hR; clear hR
  have HT := Lib.hid hT; clear hT
  have HK := Lib.hid (KeepR.start w)
  go_enter Tryz.func93, Tryz.ntmps93
  go_wp2_with (first
    | (with_reducible refine box_new (R := R) HK.out rfl _ rfl rfl ?_; intro bR u hk hb; clear hb; clear HK; have HK := Lib.hid hk; clear hk)
    | (with_reducible refine box_new (R := T) HK.out rfl _ rfl rfl ?_; intro bT u hk hb; clear hb; clear HK; have HK := Lib.hid hk; clear hk)
    | (with_reducible refine alloc_zero HK.out 288 r_zero rfl rfl ?_; intro bZ u hn hk hb; clear hn hb; clear HK; have HK := Lib.hid hk; clear hk)
    | (with_reducible refine load_part HK.out 1 16 Tryz.underlying23 rfl vec_info rfl _ rfl rfl rfl (by have := HT.out; omega) ?_)
    | (go_at_call 123; (with_reducible refine (join1_any _ 0 _ R (seg T 0 16) (by have := HR.out; omega) HS0.out _ (HK.out.get 2 rfl)).mono ?_); rintro e u ⟨rfl, u1, hb, hu⟩; have hk := (HK.out.call hb).setCells 2 rfl 0 (joinL (seg R 0 16) (seg T 0 16)); rw [← hu, H0.out] at hk; clear hu hb; simp only [List.set_cons_zero, List.set_cons_succ] at hk; clear HK; have HK := Lib.hid hk; clear hk)
    | (go_at_call 123; (with_reducible refine (join1_any _ 16 _ (mix 16 (joinL R T) R) (seg T 16 16) (by rw [HML.out, HR.out]; omega) HS1.out _ (HK.out.get 2 rfl)).mono ?_); rintro e u ⟨rfl, u1, hb, hu⟩; have hk := (HK.out.call hb).setCells 2 rfl 16 (joinL (seg (mix 16 (joinL R T) R) 16 16) (seg T 16 16)); rw [← hu, HST.out 16 (by omega)] at hk; clear hu hb; simp only [List.set_cons_zero, List.set_cons_succ] at hk; clear HK; have HK := Lib.hid hk; clear hk)
    | (with_reducible refine load_part HK.out 1 256 Tryz.underlying24 rfl m_info rfl _ rfl rfl rfl (by have := HT.out; omega) ?_))
  go_loopw [20] (fun i wr => ∃ m : Nat, m ≤ 16 ∧ i = .int .i64 m ∧ KeepR w [(bZ, 26, zer 288), (bT, 26, T), (bR, 26, mix (32 + m * 16) (joinL R T) R)] wr) (fun i _ => 16 - (intOf i).toNat)
  case atStart => exact ⟨0, by omega, rfl, HK.out⟩
  case round =>
    obtain ⟨m, hm, rfl, hk⟩ := hrel
    clear HK
    have HK := Lib.hid hk
    clear hk
    by_cases hlt : m < 16
    · have hix : ∀ W : World, (Instr.index 24 (.agg (vals (seg T 32 256)).toArray) (.int .i64 (m : Int))).run Tryz.prog W = .ok (.agg (vals (seg (seg T 32 256) (m * 16) 16)).toArray) W := fun W => index_row HSM.out hlt W
      rw [show seg (seg T 32 256) (m * 16) 16 = seg T (32 + m * 16) 16 from seg_seg (by omega)] at hix
      have HL := Lib.hid (seg_length (R := T) (o := 32 + m * 16) (n := 16) (by have := HT.out; omega))
      have HE := Lib.hid (HST.out (32 + m * 16) (by omega))
      have j1 : (0 : Int) ≤ (m : Int) := by omega
      have j2 : (m : Int) < 16 := by omega
      go_wp2_with (first
        | (with_reducible refine alloc_zero HK.out 16 v_zero rfl rfl ?_; intro b7 u hn hk hb; clear hn hb; clear HK; have HK := Lib.hid hk; clear hk)
        | (with_reducible refine store_all HK.out 0 16 vec_info rfl rfl _ _ rfl rfl rfl rfl HL.out (zer_length 16) ?_; intro u hk hs; clear hs; simp only [List.set_cons_zero] at hk; clear HK; have HK := Lib.hid hk; clear hk))
      refine Draws.start (S := fun u => KeepR w [(b7, 23, seg T (32 + m * 16) 16), (bZ, 26, zer 288), (bT, 26, T)] u) (n := 6) 6 rfl (by kernel_rfl) ?_
      have HS := Lib.hid ((HK.out.drew.sub (List.sublist_append_left _ [_]) : (fun u => KeepR w [(b7, 23, seg T (32 + m * 16) 16), (bZ, 26, zer 288), (bT, 26, T)] u) _))
      refine Draws.take 0 (v := ?v0) HS.out rfl (by kernel_rfl) (fun _ _ _ h => h) (Or.inl ⟨rfl, ?h0⟩) ?r0
      case h0 => intro w' hw'; go_simp; (try with_reducible rfl)
      (try simp only [Act.put, List.setIfInBounds_toArray, List.set_cons_zero, List.set_cons_succ])
      refine Draws.take 1 (v := ?v1) HS.out rfl (by kernel_rfl) (fun _ _ _ h => h) (Or.inl ⟨rfl, ?h1⟩) ?r1
      case h1 => intro w' hw'; go_simp; (try with_reducible rfl)
      (try simp only [Act.put, List.setIfInBounds_toArray, List.set_cons_zero, List.set_cons_succ])
      refine Draws.take 2 (v := ?v2) HS.out rfl (by kernel_rfl) (fun _ _ _ h => h) (Or.inl ⟨rfl, ?h2⟩) ?r2
      case h2 => intro w' hw'; go_simp; (try with_reducible rfl)
      (try simp only [Act.put, List.setIfInBounds_toArray, List.set_cons_zero, List.set_cons_succ])
      refine Draws.take 3 (v := ?v3) HS.out rfl (by kernel_rfl) (fun _ _ _ h => h) (Or.inl ⟨rfl, ?h3⟩) ?r3
      case h3 => intro w' hw'; go_simp; (try with_reducible rfl)
      (try simp only [Act.put, List.setIfInBounds_toArray, List.set_cons_zero, List.set_cons_succ])
      refine Draws.take 4 HS.out rfl (by kernel_rfl) (fun _ _ _ h => h) (yield_all (fun _ h => h) 0 16 Tryz.underlying23 rfl vec_info rfl _ rfl rfl rfl HL.out) ?_
      (try simp only [Act.put, List.setIfInBounds_toArray, List.set_cons_zero, List.set_cons_succ])
      refine Draws.does 5 rfl (by kernel_rfl) rfl (fun K hK => ?_)
      go_simp
      go_at_call 123
      refine (join1_any _ (32 + m * 16) _ (mix (32 + m * 16) (joinL R T) R) (seg T (32 + m * 16) 16) (by rw [HML.out, HR.out]; omega) HL.out _ (HK.out.drew.get 3 rfl)).mono ?_
      rintro e u ⟨rfl, u1, hb, hu⟩
      (try dsimp only)
      have hk := (HK.out.drew.call hb).setCells 3 rfl (32 + m * 16) (joinL (seg (mix (32 + m * 16) (joinL R T) R) (32 + m * 16) 16) (seg T (32 + m * 16) 16))
      rw [← hu, HE.out] at hk
      simp only [List.set_cons_zero, List.set_cons_succ] at hk
      clear HK hu hb
      have HK := Lib.hid hk; clear hk
      refine hK.out _ _ (fun _ => HK.out.sub (List.sublist_append_left _ [_])) ?_
      clear hK K
      have hs : (fun u => KeepR w [(b7, 23, seg T (32 + m * 16) 16), (bZ, 26, zer 288), (bT, 26, T)] u) u := HK.out.sub (List.sublist_append_left _ [_])
      clear HS
      have HS := Lib.hid hs; clear hs
      (try simp only [Act.put, List.setIfInBounds_toArray, List.set_cons_zero, List.set_cons_succ])
      refine Draws.done (by kernel_rfl) ?_
      go_wp2
      go_roundw
      case rel => exact ⟨m + 1, by omega, by go_num, by have h := HK.out.tail; rw [show 32 + m * 16 + 16 = 32 + (m + 1) * 16 by omega] at h; exact h⟩
      case measure => simp [intOf]; omega
    · obtain rfl : m = 16 := by omega
      have hk := HK.out
      rw [show 32 + 16 * 16 = 288 from rfl, mix_all (by rw [HJ.out, HR.out]) (by rw [HR.out]; omega)] at hk
      clear HK
      have HK := Lib.hid hk; clear hk
      go_wp2_with (first
        | (with_reducible refine load_all HK.out 2 288 Tryz.underlying26 rfl r_info rfl _ rfl rfl rfl HJ.out ?_)
        | (with_reducible refine store_all HK.out 0 288 r_info rfl rfl _ _ rfl rfl rfl rfl HJ.out (zer_length 288) ?_; intro u hk hs; clear hs; simp only [List.set_cons_zero] at hk; clear HK; have HK := Lib.hid hk; clear hk))
      exact bodyPost_ret (results_r rfl Tryz.underlying26 rfl r_info _ HK.out 0 rfl rfl HJ.out) rfl ⟨rfl, HK.out.bel⟩
end Go.Proofs.YtofngihdnjgmeaaGreat

namespace Go.Proofs.YtofngihdnjgmeaaGreat
set_option maxRecDepth 100000
open Go.ChangeShapes Go.WideShapes Go.ChangeAt Go.RowKit

theorem r_info3 : (Tryz.prog.info? 26).map (fun i => (i.zero, i.size, i.bytes)) = some (some (.agg (vals (zer 288)).toArray), 288, 2304) := by kernel_rfl
theorem fill2 (xs ys : List Int) (hx : xs.length = 16) (hy : ys.length = 16) (pl : Nat → Option (Nat × Nat)) (h0 : pl 0 = some (0, 16)) (h1 : pl 1 = some (16, 16)) :
    Instr.fill pl (vals (zer 288)).toArray [(0, .agg (vals xs).toArray), (1, .agg (vals ys).toArray)] = some (vals (splice (splice (zer 288) 0 xs) 16 ys)).toArray := by
  simp only [Instr.fill, h0, h1, Value.cells, List.size_toArray, vals_length, zer_length, hx, hy]
  rw [if_neg (by simp), fold_splice xs (zer 288) 0]
  simp only [List.size_toArray, vals_length, splice_length, zer_length]
  rw [if_neg (by simp), fold_splice ys _ 16]
theorem run_build_r (xs ys : List Int) (hx : xs.length = 16) (hy : ys.length = 16) (u : World) : (Instr.build 26 #[(0, .agg (vals xs).toArray), (1, .agg (vals ys).toArray)]).run Tryz.prog u = .ok (.agg (vals (splice (splice (zer 288) 0 xs) 16 ys)).toArray) u := by
  obtain ⟨i0, hi0, hz0, hz1, hz2⟩ := info_parts r_info3
  obtain ⟨f, g, k, hf, e1, e2, e3⟩ := fields3 r_fields
  injection e1 with e1a e1; injection e1 with e1b e1c
  injection e2 with e2a e2; injection e2 with e2b e2c
  injection e3 with e3a e3; injection e3 with e3b e3c
  have hf' : Tryz.prog.fieldsOf 26 = #[f, g, k] := by
    apply Array.toList_inj.1; rw [hf]
  have s1 := vec_size; have s2 := mov_size
  have hu := r_under
  rw [hf'] at hu
  have hfl := fill2 xs ys hx hy ([(0, 16), (16, 16), (32, 256)][·]?) rfl rfl
  simp [Instr.build, run_underlying hu, zeroValue, typeInfo, hi0, hz0, Value.cells, e1a, e1b, e2a, e2b, e3a, e3b, s1, s2]
  rw [hfl]
  simp
theorem yield_build_r {ops : Array Oper} {S : World → Prop} {o : Oper} {a : Act} (hw : Region.wanted o (yielded ops a.tmps) = true) (x y : Operand) (ho : o.op = .build 26 #[(0, x), (1, y)]) {xs ys : List Int} (hx : a.eval x = .agg (vals xs).toArray) (hy : a.eval y = .agg (vals ys).toArray) (lx : xs.length = 16) (ly : ys.length = 16) :
    YieldsIf Tryz.prog ops S o (.agg (vals (splice (splice (zer 288) 0 xs) 16 ys)).toArray) a :=
  .inl ⟨hw, fun u _ => by
    unfold execOp
    simp only [ho, List.map_toArray, List.map_cons, List.map_nil, hx, hy, Sem.run_bind, Sem.run_pure, Result.andThen_ok, run_build_r xs ys lx ly]⟩
theorem two_joins {R T : List Int} (hR : R.length = 288) (hT : T.length = 288) : splice (splice (zer 288) 0 (joinL (seg R 0 16) (seg T 0 16))) 16 (joinL (seg R 16 16) (seg T 16 16)) = mix 32 (joinL R T) (zer 288) := by
  have hJ := joinL_len hR hT
  have hz := zer_length 288
  rw [seg_join (by omega) (by omega), seg_join (by omega) (by omega)]
  have h1 := mix_splice (J := joinL R T) (R := zer 288) (by omega) (m := 0) (n := 16) (by omega)
  rw [mix_zero] at h1
  rw [h1]
  exact mix_splice (J := joinL R T) (R := zer 288) (by omega) (m := 16) (n := 16) (by omega)
theorem rjoin_step {R T : List Int} (hR : R.length = 288) (hT : T.length = 288) {m : Nat} (hm : m + 16 ≤ 288) : splice (mix m (joinL R T) (zer 288)) m (joinL (seg R m 16) (seg T m 16)) = mix (m + 16) (joinL R T) (zer 288) := by
  have hJ := joinL_len hR hT
  have hz := zer_length 288
  rw [seg_join (by omega) (by omega), mix_splice (by omega) (by omega)]
end Go.Proofs.YtofngihdnjgmeaaGreat

namespace Go.Proofs.YtofngihdnjgmeaaGreat
set_option maxRecDepth 100000
open Go.ChangeShapes Go.WideShapes Go.ChangeAt Go.RowKit

end Go.Proofs.YtofngihdnjgmeaaGreat

namespace Go.Proofs.YtofngihdnjgmeaaGreat
set_option maxRecDepth 100000
open Go.ChangeShapes Go.WideShapes Go.ChangeAt Go.RowKit

theorem tot_map (f : Nat → Int) : ∀ n, tot ((List.range n).map f) = sumF f n
  | 0 => rfl
  | n + 1 => by rw [List.range_succ, List.map_append, tot_append, tot_map f n]; simp [tot, sumF]
theorem sumF_le {f g : Nat → Int} : ∀ {n : Nat}, (∀ i, i < n → f i ≤ g i) → sumF f n ≤ sumF g n
  | 0, _ => by simp [sumF]
  | n + 1, h => by
    have h1 := sumF_le (n := n) (fun i hi => h i (by omega))
    have h2 := h n (by omega)
    simp only [sumF]; omega
theorem sumF_zero : ∀ n, sumF (fun _ => 0) n = 0
  | 0 => rfl
  | n + 1 => by simp only [sumF, sumF_zero n]; omega
/-! ### Sums that can be told. -/
theorem sumFrom_small {B : Int} : ∀ {l : List Int} {acc : Int}, (∀ z ∈ l, -B ≤ z ∧ z ≤ B) → 0 ≤ B → -(1099511627776 - B * l.length) ≤ acc → acc ≤ 1099511627776 - B * l.length → sumFrom acc l = some (acc + tot l)
  | [], acc, _, _, _, _ => by simp [sumFrom, tot]
  | z :: l, acc, h, hB, h1, h2 => by
    have hz := h z (by simp)
    have e : B * ((z :: l).length : Int) = B * (l.length : Int) + B := by rw [List.length_cons]; push_cast; rw [Int.mul_add, Int.mul_one]
    rw [e] at h1 h2
    have hn : 0 ≤ B * (l.length : Int) := Int.mul_nonneg hB (by omega)
    have hok : okB acc z (acc + z) = true := okB_iff.2 ⟨isB_iff.2 (by omega), isB_iff.2 (by omega), isB_iff.2 (by omega)⟩
    rw [sumFrom, if_pos hok, sumFrom_small (fun y hy => h y (by simp [hy])) hB (by omega) (by omega)]
    simp only [tot]; congr 1; omega
theorem sum_small {B : Int} {l : List Int} (h : ∀ z ∈ l, -B ≤ z ∧ z ≤ B) (hB : 0 ≤ B) (hl : B * l.length ≤ 1099511627776) : sumE l = 0 ∧ sumN l = tot l := by
  have := sumFrom_small (acc := 0) h hB (by omega) (by omega)
  obtain ⟨h1, h2⟩ := sumN_some this
  exact ⟨h2, by rw [h1]; omega⟩

theorem tot_negs : ∀ {l : List Int}, (∀ z ∈ l, -9223372036854775808 < z ∧ z ≤ 9223372036854775807) → tot (negs l) = - tot l
  | [], _ => rfl
  | z :: l, h => by
    have h1 := tot_negs (l := l) (fun y hy => h y (by simp [hy]))
    have h2 := ng_small (h z (by simp)).1 (h z (by simp)).2
    simp only [negs, List.map_cons, tot] at h1 ⊢
    rw [h2]; omega
/-- The numbers of rights, by their places. -/
abbrev at_ (R : List Int) : Nat → Int := fun i => R.getD i 0
theorem mem_at {R : List Int} {z : Int} (h : z ∈ R) : ∃ i, i < R.length ∧ R.getD i 0 = z := by
  obtain ⟨i, hi, rfl⟩ := List.getElem_of_mem h
  exact ⟨i, hi, by simp [List.getD, hi]⟩
theorem mem_seg {R : List Int} {o n : Nat} {z : Int} (hr : o + n ≤ R.length) (h : z ∈ seg R o n) : ∃ i, i < n ∧ R.getD (o + i) 0 = z := by
  obtain ⟨i, hi, e⟩ := mem_at h
  rw [seg_length hr] at hi
  rw [seg_get hi] at e
  exact ⟨i, hi, e⟩
theorem tot_fl {R : List Int} (hR : R.length = 288) {k : Nat} (hk : k < 16) (h : ∀ i, i < 288 → -9223372036854775808 < R.getD i 0 ∧ R.getD i 0 ≤ 9223372036854775807) : tot (fl R k) = V (at_ R) k := by
  have n1 : tot (negs [R.getD (16 + k) 0]) = - tot [R.getD (16 + k) 0] := tot_negs (fun z hz => by rw [List.mem_singleton] at hz; subst hz; exact h _ (by omega))
  have n2 : tot (negs (seg R (32 + k * 16) 16)) = - tot (seg R (32 + k * 16) 16) := tot_negs (fun z hz => by
    obtain ⟨i, hi, rfl⟩ := mem_seg (by omega) hz
    exact h _ (by omega))
  rw [fl, tot_append, tot_append, n1, n2, seg_map (R := R) (o := 32 + k * 16) (n := 16) (by omega), tot_map]
  simp only [tot, colL, tot_map, V, at_]
  omega
/-- Of numbers from 0 up to B what is free, and in all, can be told. -/
theorem free_small {R : List Int} (hR : R.length = 288) {B : Int} (h : ∀ i, i < 288 → 0 ≤ R.getD i 0 ∧ R.getD i 0 ≤ B) (hB : 34 * B ≤ 1099511627776) {k : Nat} (hk : k < 16) : freeE R k = 0 ∧ freeN R k = V (at_ R) k := by
  have hB0 : 0 ≤ B := by have := h 0 (by omega); omega
  obtain ⟨e1, e2⟩ := free_yes (R := R) hk
  have hall : ∀ z ∈ fl R k, -B ≤ z ∧ z ≤ B := by
    intro z hz
    simp only [fl, List.mem_append, List.mem_cons] at hz
    rcases hz with (rfl | hz) | hz | hz
    · have := h k (by omega); omega
    · obtain ⟨i, hi, rfl⟩ := mem_at hz
      rw [colL_length] at hi
      rw [colL_get hi]
      have := h (32 + i * 16 + k) (by omega); omega
    · simp only [negs, List.map_cons, List.map_nil, List.mem_singleton] at hz
      have := h (16 + k) (by omega)
      rw [hz, ng_small (by omega) (by omega)]; omega
    · obtain ⟨i, hi, rfl⟩ := mem_at hz
      rw [negs_length, seg_length (by omega)] at hi
      have := h (32 + k * 16 + i) (by omega)
      rw [negs_get (by rw [seg_length (by omega)]; exact hi), seg_get hi, ng_small (by omega) (by omega)]; omega
  have hlen : ((fl R k).length : Int) = 34 := by simp [fl, colL_length, negs_length, seg_length (R := R) (o := 32 + k * 16) (n := 16) (by omega)]
  obtain ⟨s1, s2⟩ := sum_small hall hB0 (by rw [hlen]; omega)
  exact ⟨by rw [e2, s1], by rw [e1, s2, tot_fl hR hk (fun i hi => by have := h i hi; omega)]⟩
/-! ### What grows. -/
theorem splice_set {R : List Int} {o j : Nat} {v : Int} (h : o + 16 ≤ R.length) (hj : j < 16) : splice R o ((seg R o 16).set j v) = R.set (o + j) v := by
  have hl : ((seg R o 16).set j v).length = 16 := by rw [List.length_set, seg_length h]
  refine ext_get (by rw [splice_length, List.length_set]) fun k hk => ?_
  rw [splice_length] at hk
  rw [splice_get _ _ _ _ (by rw [hl]; exact h), hl, set_get (xs := R) (show o + j < R.length by omega)]
  by_cases h1 : o ≤ k ∧ k < o + 16
  · rw [if_pos h1, set_get (xs := seg R o 16) (by rw [seg_length h]; exact hj)]
    by_cases h2 : k = o + j
    · rw [if_pos h2, if_pos (by omega)]
    · rw [if_neg h2, if_neg (by omega), seg_get (by omega)]; congr 1; omega
  · rw [if_neg h1, if_neg (by omega)]
/-- What grew: one number of the vector at o is greater by n. -/
theorem gr_zero {R : List Int} {o : Nat} (ho : o + 16 ≤ R.length) {k n : Int} (h : grE R o k n = 0) : ∃ j : Nat, k = j ∧ j < 16 ∧ 0 ≤ n ∧ okB (R.getD (o + j) 0) n (R.getD (o + j) 0 + n) = true ∧ grA R o k n = R.set (o + j) (R.getD (o + j) 0 + n) := by
  obtain ⟨j, rfl, hj, hn, hok, e⟩ := grow_zero (seg_length ho) h
  rw [seg_get hj] at hok e
  exact ⟨j, rfl, hj, hn, hok, by rw [grA_ok h, e, splice_set ho hj]⟩
end Go.Proofs.YtofngihdnjgmeaaGreat

namespace Go.Proofs.YtofngihdnjgmeaaGreat
set_option maxRecDepth 100000
open Go.ChangeShapes Go.WideShapes Go.ChangeAt Go.RowKit

/-! ### A new one. -/
theorem newB_iff {i l h : Int} : newB i l h = true ↔ isB l = true ∧ isB h = true ∧ l ≤ i ∧ i ≤ h ∧ isB (h - l) = true := by
  simp only [newB, Bool.and_eq_true, decide_eq_true_eq, and_assoc]
/-! ### Two changes. -/
def bothA (C : List Int) (o1 : Nat) (A1 : List Int) (o2 : Nat) (A2 : List Int) (e1 e2 : Int) : List Int := if bothE e1 e2 = 0 then splice (splice C o1 A1) o2 A2 else zer 579
theorem bothA_length {C : List Int} (h : C.length = 579) (o1 : Nat) (A1 : List Int) (o2 : Nat) (A2 : List Int) (e1 e2 : Int) : (bothA C o1 A1 o2 A2 e1 e2).length = 579 := by
  unfold bothA; split
  · rw [splice_length, splice_length, h]
  · exact zer_length 579
theorem bothA_yes {C : List Int} {o1 : Nat} {A1 : List Int} {o2 : Nat} {A2 : List Int} : bothA C o1 A1 o2 A2 0 0 = splice (splice C o1 A1) o2 A2 := by simp [bothA, bothE]

def incE (C : List Int) (k n : Int) : Int := bothE (useE (upR C) k n) (grE (dnR C) 0 k n)
def incA (C : List Int) (k n : Int) : List Int := bothA C 291 (useA (upR C) k n) 3 (grA (dnR C) 0 k n) (useE (upR C) k n) (grE (dnR C) 0 k n)
def decA (C : List Int) (k n : Int) : List Int := bothA C 3 (useA (dnR C) k n) 291 (grA (upR C) 0 k n) (useE (dnR C) k n) (grE (upR C) 0 k n)
theorem incA_length {C : List Int} (h : C.length = 579) (k n : Int) : (incA C k n).length = 579 := bothA_length h _ _ _ _ _ _
theorem decA_length {C : List Int} (h : C.length = 579) (k n : Int) : (decA C k n).length = 579 := bothA_length h _ _ _ _ _ _
/-! ### Joined. -/
def sameB (A B : List Int) : Bool := (A.getD 0 0 == B.getD 0 0) && (A.getD 1 0 == B.getD 1 0) && (A.getD 2 0 == B.getD 2 0)
def cjE (A B : List Int) : Int := if sameB A B = true then 0 else 1
def cjC (A B : List Int) : List Int := splice (splice A 3 (joinL (dnR A) (dnR B))) 291 (joinL (upR A) (upR B))
def cjA (A B : List Int) : List Int := if sameB A B = true then cjC A B else zer 579
theorem jl_length {R T : List Int} (hR : R.length = 288) (hT : T.length = 288) : (joinL R T).length = 288 := by simp [joinL, hR, hT]
theorem cjC_length {A B : List Int} (h : A.length = 579) : (cjC A B).length = 579 := by simp [cjC, splice_length, h]
theorem cjA_length {A B : List Int} (h : A.length = 579) : (cjA A B).length = 579 := by unfold cjA; split; exact cjC_length h; exact zer_length 579
theorem cj_yes {A B : List Int} (h : sameB A B = true) : cjE A B = 0 ∧ cjA A B = cjC A B := by simp [cjE, cjA, h]
theorem cj_no {A B : List Int} (h : sameB A B = false) : cjE A B = 1 ∧ cjA A B = zer 579 := by simp [cjE, cjA, h]
/-! ### The value. -/
/-! ### Whether one may be. -/
end Go.Proofs.YtofngihdnjgmeaaGreat

namespace Go.Proofs.YtofngihdnjgmeaaGreat

def cmpI (x y : Int) : Int := if x < y then -1 else if y < x then 1 else 0
theorem cmpI_eq (x : Int) : cmpI x x = 0 := by simp [cmpI]
theorem cmpI_cases (x y : Int) : (x < y ∧ cmpI x y = -1) ∨ (y < x ∧ cmpI x y = 1) ∨ (x = y ∧ cmpI x y = 0) := by
  unfold cmpI
  split
  · omega
  · split <;> omega
def cmpL (a b : Lk) : Int := if a.s ≠ b.s then cmpI a.s b.s else if a.v ≠ b.v then cmpI a.v b.v else if a.h ≠ b.h then cmpI a.h b.h else cmpI a.x b.x
/-- b is behind a. -/
def ltL (a b : Lk) : Prop := a.s < b.s ∨ (a.s = b.s ∧ (a.v < b.v ∨ (a.v = b.v ∧ (a.h < b.h ∨ (a.h = b.h ∧ a.x < b.x)))))
theorem cmpL_cases (a b : Lk) : (ltL a b ∧ cmpL a b = -1) ∨ (ltL b a ∧ cmpL a b = 1) ∨ (a = b ∧ cmpL a b = 0) := by
  unfold cmpL ltL
  have h1 := cmpI_cases a.s b.s
  have h2 := cmpI_cases a.v b.v
  have h3 := cmpI_cases a.h b.h
  have h4 := cmpI_cases a.x b.x
  split
  · omega
  · split
    · omega
    · split
      · omega
      · by_cases hx : a.x = b.x
        · exact .inr (.inr ⟨Lk.ext' (by omega) (by omega) (by omega) hx, by omega⟩)
        · omega
theorem ltL_irrefl (a : Lk) : ¬ ltL a a := by unfold ltL; omega
theorem ltL_trans {a b c : Lk} (h1 : ltL a b) (h2 : ltL b c) : ltL a c := by unfold ltL at *; omega
theorem cmp_pos {a b : Lk} : 0 < cmpL a b ↔ ltL b a := by
  rcases cmpL_cases a b with ⟨h, e⟩ | ⟨h, e⟩ | ⟨rfl, e⟩
  · rw [e]; exact ⟨fun h' => by omega, fun h' => absurd (ltL_trans h h') (ltL_irrefl _)⟩
  · rw [e]; exact ⟨fun _ => h, fun _ => by omega⟩
  · rw [e]; exact ⟨fun h' => by omega, fun h' => absurd h' (ltL_irrefl _)⟩
theorem cmp_zero {a b : Lk} : cmpL a b = 0 ↔ a = b := by
  rcases cmpL_cases a b with ⟨h, e⟩ | ⟨h, e⟩ | ⟨rfl, e⟩
  · rw [e]; exact ⟨fun h' => by omega, fun h' => by subst h'; exact absurd h (ltL_irrefl _)⟩
  · rw [e]; exact ⟨fun h' => by omega, fun h' => by subst h'; exact absurd h (ltL_irrefl _)⟩
  · exact ⟨fun _ => rfl, fun _ => e⟩
/-- The document's own telling of which one is behind. -/
def behB (a b : Lk) : Bool := if a.s ≠ b.s then decide (b.s < a.s) else if a.v ≠ b.v then decide (b.v < a.v) else if a.h ≠ b.h then decide (b.h < a.h) else decide (b.x < a.x)
theorem behB_iff {a b : Lk} : behB a b = true ↔ ltL b a := by
  unfold behB ltL
  split
  · rw [decide_eq_true_eq]; omega
  · split
    · rw [decide_eq_true_eq]; omega
    · split
      · rw [decide_eq_true_eq]; omega
      · rw [decide_eq_true_eq]; omega
/-- The one that is behind. -/
def joinK (a b : Lk) : Lk := if 0 < cmpL b a then b else a
theorem joinK_lt {a b : Lk} (h : ltL a b) : joinK a b = b := by rw [joinK, if_pos (cmp_pos.2 h)]
theorem joinK_not {a b : Lk} (h : ¬ ltL a b) : joinK a b = a := by rw [joinK, if_neg (fun h' => h (cmp_pos.1 h'))]
/-! ### New, Right, Write, Pass. -/
end Go.Proofs.YtofngihdnjgmeaaGreat

namespace Go.Proofs.YtofngihdnjgmeaaGreat
set_option maxRecDepth 100000
open Go.ChangeShapes Go.WideShapes Go.ChangeAt Go.RowKit

theorem lk_info : (Tryz.prog.info? 30).map (·.size) = some 4 := by kernel_rfl
theorem lk_zero : (Tryz.prog.info? 30).bind (·.zero) = some (.agg (vals (zer 4)).toArray) := by kernel_rfl
/-! ### Equality. -/
/-! ### Locks that come in. -/
end Go.Proofs.YtofngihdnjgmeaaGreat

namespace Go.Proofs.YtofngihdnjgmeaaGreat
set_option maxRecDepth 100000
open Go.ChangeShapes Go.WideShapes Go.ChangeAt Go.RowKit

theorem Fd.setL {f : Fd} (h : f.full) (M : Lk) : spl f.cells 582 (vals M.l) = { f with L := M }.cells := by
  have h : f.C.length = 579 := h
  have := spl_mid (vals M.l) (vals f.L.l) ([.string f.nm, .int .i64 f.k, .int .i64 f.e] ++ vals f.C) [.slice f.A f.n f.c] (by simp [vals_length, Lk.len])
  simp only [List.length_append, vals_length, h, List.length_cons, List.length_nil, List.append_assoc] at this
  exact this
section
variable {ops : Array Oper} {rest : List Oper} {o : Oper} {a : Act} {w u : World} {l : List (Nat × TypeId × List Value)} {rows : List (Option Addr × Nat × List Ho)} {Q : Exit → Act → World → Prop} {K : Act → World → Prop}
/-! ### Loads. -/
/-! ### Stores. -/
end
end Go.Proofs.YtofngihdnjgmeaaGreat

namespace Go.Proofs.YtofngihdnjgmeaaGreat
set_option maxRecDepth 100000
open Go.ChangeShapes Go.WideShapes Go.ChangeAt Go.RowKit

theorem yield_lss {ops : Array Oper} {S : World → Prop} {o : Oper} {a : Act} {p q : Int} {b : Bool} (hb : decide (p < q) = b) (x y : Operand) (t : TypeId) (ho : o.op = .binOp .lss 3 x y t) (hx : a.eval x = .int .i64 p) (hy : a.eval y = .int .i64 q) (hw : Region.wanted o (yielded ops a.tmps) = true) :
    YieldsIf Tryz.prog ops S o (.bool b) a :=
  .inl ⟨hw, fun w _ => by
    subst hb
    unfold execOp
    simp only [ho, hx, hy]
    simp [go_sem]⟩
theorem yield_eql {ops : Array Oper} {S : World → Prop} {o : Oper} {a : Act} {p q : Int} {b : Bool} (hb : (p == q) = b) (x y : Operand) (t : TypeId) (ho : o.op = .binOp .eql 3 x y t) (hx : a.eval x = .int .i64 p) (hy : a.eval y = .int .i64 q) (hw : Region.wanted o (yielded ops a.tmps) = true) :
    YieldsIf Tryz.prog ops S o (.bool b) a :=
  .inl ⟨hw, fun w _ => by
    subst hb
    unfold execOp
    simp only [ho, hx, hy]
    simp [go_sem]⟩
theorem yield_neq {ops : Array Oper} {S : World → Prop} {o : Oper} {a : Act} {p q : Int} {b : Bool} (hb : (p != q) = b) (x y : Operand) (t : TypeId) (ho : o.op = .binOp .neq 3 x y t) (hx : a.eval x = .int .i64 p) (hy : a.eval y = .int .i64 q) (hw : Region.wanted o (yielded ops a.tmps) = true) :
    YieldsIf Tryz.prog ops S o (.bool b) a :=
  .inl ⟨hw, fun w _ => by
    subst hb
    unfold execOp
    simp only [ho, hx, hy]
    simp [go_sem]⟩
end Go.Proofs.YtofngihdnjgmeaaGreat

namespace Go.Proofs.YtofngihdnjgmeaaGreat

/-! ### Finding. -/
theorem nm_iff {k n : Int} {h : Ho} : nm k n h = true ↔ (h.r = k ∧ h.n = n) := by simp [nm]
theorem nm_not {k n : Int} {h : Ho} : nm k n h = false ↔ ¬ (h.r = k ∧ h.n = n) := by rw [← Bool.not_eq_true, nm_iff]
def plc (l : List Ho) (k n : Int) : Int := if l.findIdx (nm k n) < l.length then (l.findIdx (nm k n) : Int) else -1
theorem plc_cases (l : List Ho) (k n : Int) : (plc l k n = -1 ∧ ∀ j, j < l.length → nm k n (l.getD j z5) = false) ∨ (∃ m : Nat, m < l.length ∧ plc l k n = m ∧ nm k n (l.getD m z5) = true ∧ ∀ j, j < m → nm k n (l.getD j z5) = false) := by
  by_cases h : l.findIdx (nm k n) < l.length
  · refine .inr ⟨l.findIdx (nm k n), h, by rw [plc, if_pos h], ?_, fun j hj => ?_⟩
    · rw [getD_get h]; exact List.findIdx_getElem (w := h)
    · rw [getD_get (by omega)]
      simpa using List.not_of_lt_findIdx hj
  · refine .inl ⟨by rw [plc, if_neg h], fun j hj => ?_⟩
    have e : l.findIdx (nm k n) = l.length := by have := List.findIdx_le_length (p := nm k n) (xs := l); omega
    rw [List.findIdx_eq_length] at e
    exact e _ (getD_mem hj)
theorem fnd_hit {l : List Ho} {k n : Int} {m : Nat} (hm : m < l.length) (h1 : ∀ j, j < m → nm k n (l.getD j z5) = false) (h2 : nm k n (l.getD m z5) = true) : fnd l k n = some (l.getD m z5) := by
  rw [fnd, List.find?_eq_some_iff_getElem]
  refine ⟨h2, m, hm, (getD_get hm).symm, fun j hj => ?_⟩
  rw [← getD_get (by omega), h1 j hj]
  rfl
theorem fnd_miss {l : List Ho} {k n : Int} (h : ∀ j, j < l.length → nm k n (l.getD j z5) = false) : fnd l k n = none := by
  rw [fnd, List.find?_eq_none]
  intro x hx
  obtain ⟨i, hi, rfl⟩ := mem_getD hx
  rw [h i hi]; decide
theorem take_succ_getD {l : List Ho} {m : Nat} (hm : m < l.length) : l.take (m + 1) = l.take m ++ [l.getD m z5] := by
  rw [List.take_succ_eq_append_getElem hm, getD_get hm]
/-- In holds that rise there is one of each name. -/
theorem fnd_mem {l : List Ho} {x : Ho} (hl : l.Pairwise AH) (hx : x ∈ l) : fnd l x.r x.n = some x := by
  cases h : fnd l x.r x.n with
  | none =>
    rw [fnd, List.find?_eq_none] at h
    exact absurd (nm_iff.2 ⟨rfl, rfl⟩) (h x hx)
  | some y =>
    have h1 := List.find?_some h
    rw [nm_iff] at h1
    rw [(Apart.of_rises hl).one (List.mem_of_find?_eq_some h) hx ⟨h1.1, h1.2⟩]
theorem fnd_name {l : List Ho} {k n : Int} {y : Ho} (h : fnd l k n = some y) : y ∈ l ∧ y.r = k ∧ y.n = n :=
  ⟨List.mem_of_find?_eq_some h, nm_iff.1 (List.find?_some h)⟩
theorem fnd_none {l : List Ho} {k n : Int} (h : fnd l k n = none) {x : Ho} (hx : x ∈ l) : ¬ (x.r = k ∧ x.n = n) := by
  rw [fnd, List.find?_eq_none] at h
  exact fun e => h x hx (nm_iff.2 e)

/-! ### What a replica holds. -/
/-! ### Reserving. -/
/-! ### Ending. -/
/-! ### Letting go. -/
end Go.Proofs.YtofngihdnjgmeaaGreat

namespace Go.Proofs.YtofngihdnjgmeaaGreat
set_option maxRecDepth 100000
open Go.ChangeShapes Go.WideShapes Go.ChangeAt Go.RowKit

theorem rrights_eq (A : Option Addr) (n c : Nat) (hs : List Ho) (r : Bool) (hr : rightsL hs = r) (w : World) (hd : Row w A n hs) :
    Calls Tryz.prog 42 #[.slice A n c] w fun e w' => e = .returned (.bool r) ∧ Below w.heap.size w w' := by
  subst hr; exact rrights_any A n c hs w hd
end Go.Proofs.YtofngihdnjgmeaaGreat

namespace Go.Proofs.YtofngihdnjgmeaaGreat
set_option maxRecDepth 100000
open Go.ChangeShapes Go.WideShapes Go.ChangeAt Go.RowKit

theorem nan_any (n : Int) (w : World) :
    Calls Tryz.prog 148 #[.int .i64 n] w fun e w' => e = .returned (.bool false) ∧ w = w' := by
  go_enter Tryz.func148, Tryz.ntmps148
  go_wp2
  go_ret
  simp
theorem cmpi_any (x y : Int) (w : World) :
    Calls Tryz.prog 129 #[.int .i64 x, .int .i64 y] w fun e w' => e = .returned (.int .i64 (cmpI x y)) ∧ w = w' := by
  rcases cmpI_cases x y with ⟨h, e⟩ | ⟨h, e⟩ | ⟨h, e⟩
  · rw [e]; clear e
    go_enter Tryz.func129, Tryz.ntmps129
    go_wp2_with (first
      | (go_at_call 148; (with_reducible refine (nan_any _ _).mono ?_); rintro e u ⟨rfl, rfl⟩))
    go_ret
    exact ⟨rfl, rfl⟩
  · rw [e]; clear e
    have h' : ¬ x < y := by omega
    go_enter Tryz.func129, Tryz.ntmps129
    go_wp2_with (first
      | (go_at_call 148; (with_reducible refine (nan_any _ _).mono ?_); rintro e u ⟨rfl, rfl⟩))
    go_ret
    exact ⟨rfl, rfl⟩
  · rw [e]; clear e
    have h1 : ¬ x < y := by omega
    have h2 : ¬ y < x := by omega
    clear h
    go_enter Tryz.func129, Tryz.ntmps129
    go_wp2_with (first
      | (go_at_call 148; (with_reducible refine (nan_any _ _).mono ?_); rintro e u ⟨rfl, rfl⟩))
    go_ret
    exact ⟨rfl, rfl⟩
end Go.Proofs.YtofngihdnjgmeaaGreat

namespace Go.Proofs.YtofngihdnjgmeaaGreat
set_option maxRecDepth 100000
open Go.ChangeShapes Go.WideShapes Go.ChangeAt Go.RowKit

theorem own_load {u : World} {base g n cap : Nat} {xs : List Ho} {m : Nat} {h : Ho} (ho : Own u base (.slice (some ⟨g, 0, none⟩) n cap) xs) (hm : m < xs.length) (he : xs.getD m z5 = h) : u.rangeAt g (m * 5) (vals h.l) := by
  subst he; exact ho.range hm
theorem own_some {u : World} {base n cap : Nat} {A1 : Option Addr} {xs : List Ho} (ho : Own u base (.slice A1 n cap) xs) (h0 : 0 < xs.length) : ∃ g, A1 = some ⟨g, 0, none⟩ := by
  obtain ⟨g, cap', e, _⟩ := ho.at h0
  injection e with e1 _ _
  exact ⟨g, e1⟩
end Go.Proofs.YtofngihdnjgmeaaGreat

namespace Go.Proofs.YtofngihdnjgmeaaGreat
set_option maxRecDepth 100000
open Go.ChangeShapes Go.WideShapes Go.ChangeAt Go.RowKit

def Pf.setL (p : Pf) (M : Lk) : Pf := ⟨p.nm, p.k, p.e, p.C, M, p.hs⟩
section
variable {p : Pf} {A : Option Addr} {c : Nat}
theorem Pf.toL (h : p.full) (M : Lk) : spl (p.fd A c).cells 582 (vals M.l) = ((p.setL M).fd A c).cells := Fd.setL (f := p.fd A c) h M
end

/-! ### What comes of each call. -/
def addPE (p : Pf) (k n : Int) : Int := if p.k = 1 then (if 0 ≤ n then incE p.C k n else if n < -looseP p k then 8 else decE p.C k (-n)) else 17
def addPC (p : Pf) (k n : Int) : List Int := if 0 ≤ n then incA p.C k n else if n < -looseP p k then p.C else decA p.C k (-n)
def addP (p : Pf) (k n : Int) : Pf := toldP (p.setC (addPC p k n)) (addPE p k n)
/-! ### Holds that calls tell. -/
/-- One slice more, that a call told. -/
theorem KeepF.got {w u u' : World} {l : List (Nat × TypeId × List Value)} {rows : List (Option Addr × Nat × List Ho)} (h : KeepF w l rows u) (hb : Below u.heap.size u u') (i : Nat) {A0 A : Option Addr} {n0 c : Nat} {h0 hs : List Ho}
    (hi : rows[i]? = some (A0, n0, h0)) (g : Got u A0 n0 u' A c hs) : KeepF w l ((A, hs.length, hs) :: rows) u' := by
  have h1 := h.call hb
  refine ⟨h1.bel, h1.blk, h1.apart, fun r hr => ?_, fun r hr x hx a ha hn => ?_⟩
  · rcases List.mem_cons.1 hr with rfl | hr
    · exact g.row
    · exact h1.row r hr
  · rcases List.mem_cons.1 hr with rfl | hr
    · rcases g.new a ha hn with h2 | ⟨h2, h3⟩
      · have := (h.blk x hx).2.lt
        omega
      · exact h1.free _ (List.mem_of_getElem? hi) x hx a (h2 ▸ ha) (by simp only at hn ⊢; omega)
    · exact h1.free r hr x hx a ha hn
end Go.Proofs.YtofngihdnjgmeaaGreat

namespace Go.Proofs.YtofngihdnjgmeaaGreat
set_option maxRecDepth 100000
open Go.ChangeShapes Go.WideShapes Go.ChangeAt Go.RowKit


theorem Fd.leC {p : Pf} {A : Option Addr} {c : Nat} {D : List Int} (hp : p.full) (hD : D.length = 579) : 3 + (vals D).length ≤ (p.fd A c).cells.length := by rw [Pf.len hp, vals_length, hD]; decide
theorem Fd.leL {p : Pf} {A : Option Addr} {c : Nat} {M : Lk} (hp : p.full) : 582 + (vals M.l).length ≤ (p.fd A c).cells.length := by rw [Pf.len hp, vals_length, Lk.len]; decide
/-! ### headOf. -/
/-! ### apart. -/
end Go.Proofs.YtofngihdnjgmeaaGreat

namespace Go.Proofs.YtofngihdnjgmeaaGreat
set_option maxRecDepth 100000
open Go.ChangeShapes Go.WideShapes Go.ChangeAt Go.RowKit

/-! ### Locks. -/
/-! ### Fields. -/
theorem Pf.fullC {p : Pf} {D : List Int} (h : D.length = 579) : (p.setC D).full := h
theorem Pf.fullL {p : Pf} (h : p.full) (M : Lk) : (p.setL M).full := h
end Go.Proofs.YtofngihdnjgmeaaGreat

namespace Go.Proofs.YtofngihdnjgmeaaGreat
set_option maxRecDepth 100000
open Go.ChangeShapes Go.WideShapes Go.ChangeAt Go.RowKit

theorem KeepF.fresh2 {w u u' : World} {l : List (Nat × TypeId × List Value)} {rows : List (Option Addr × Nat × List Ho)} (h : KeepF w l rows u) (hb : Below u.heap.size u u') {A B : Option Addr} {c d : Nat} {xs ys : List Ho} (r1 : Row u' A xs.length xs) (f1 : Fresh u.heap.size A c xs) (r2 : Row u' B ys.length ys) (f2 : Fresh u.heap.size B d ys) : KeepF w l ((A, xs.length, xs) :: (B, ys.length, ys) :: rows) u' := by
  have k1 := h.fresh hb r1 f1
  have k2 := h.fresh hb r2 f2
  refine ⟨k1.bel, k1.blk, k1.apart, fun r hr => ?_, fun r hr => ?_⟩
  · rcases List.mem_cons.1 hr with rfl | hr
    · exact r1
    · exact k2.row r hr
  · rcases List.mem_cons.1 hr with rfl | hr
    · exact k1.free _ List.mem_cons_self
    · exact k2.free r hr
def DnT (v : Int) (p g : Pf) (E : Int) (E2 : Int) (H : List Ho) : Prop := ∀ A c w, Row w A p.hs.length p.hs → Calls Tryz.prog 18 #[.int .i64 v, .agg (p.fd A c).cells.toArray] w fun e u => ∃ A1 c1 A2 c2, e = .returned (.tuple #[.agg (g.fd A1 c1).cells.toArray, .agg (rsc E2 A2 H.length c2).toArray, .int .i64 E]) ∧ Row u A1 g.hs.length g.hs ∧ Fresh w.heap.size A1 c1 g.hs ∧ Row u A2 H.length H ∧ Fresh w.heap.size A2 c2 H ∧ Below w.heap.size w u
theorem dn_t (v : Int) (hv : ok64W v) (p : Pf) (hp : p.full) (hN : p.nm.size ≤ 1000) : DnT v p (dP v p) (dnErr v p) (dE v p) (dH v p) := fun A c w h =>
  (down_any v hv p hp hN A c w h).mono fun _ _ ⟨A1, c1, A2, c2, he, hd⟩ => ⟨A1, c1, A2, c2, he, hd.r1, hd.f1, hd.r2, hd.f2, hd.bel⟩
end Go.Proofs.YtofngihdnjgmeaaGreat
