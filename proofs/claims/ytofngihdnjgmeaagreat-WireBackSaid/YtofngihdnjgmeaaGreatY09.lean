/- Vectors (arrays of 16 ints): the lists that they are, the cells that hold them, and what the operations on them do. A region that draws its order, whose operations read what is kept and whose callees only make memory of their own: one walk in the text's order. Several vectors that are kept, each in a block of its own, while calls make memory; and what joining, and being over, hang on. Contracts of vec.Right, vec.Join and vec.Over. Contracts of the document's Over, Right and Join of layer 2. Contracts of vec.Sum and vec.Grow, and of the document's Sum and Grow of layer 2. What a law of layer 2 needs: vectors that come in; 'awake'. Rows of ints: what append does to one, and what a slice expression reads.; Contracts of which hold goes ahead: cmp.Or, hold.byName, and the document's Ahead.; The library's sort at this program: a row of holds, no two of one name, is in order behind it.; Contracts of the document's Sum, of hold.greatest, of slices.Clone at holds, and of the statements' Same.; Contracts of what package lock and the document's layer 5 are made of; of New, Right, Write and Pass.; Contracts of hold.Expire, and of what the statements call awake.; What the statements of layer 6 stand on: slices of holds that come in, what is kept while calls tell rows, the statements' Few, and awake.; Contracts of the document's Put, Reserve, End and Expire.; Contracts of slices.Grow and slices.Concat of holds. -/
import Derived.Test.YtofngihdnjgmeaaGreatRows
import Derived.Test.YtofngihdnjgmeaaGreatY01
import Derived.Test.YtofngihdnjgmeaaGreatY07
import Derived.WalkKit
import Derived.ProofKit
import Derived.Lib.Hide
import Derived.Below
import Derived.Deep.MidRow
import Derived.Deep.RegionHeld3
import Derived.Deep.QuietTactic
import Derived.BigQuiet
import Derived.OpenShut
import Derived.ChangeOld
import Derived.Maps.AppendAt
import Derived.OwnWalk
import Derived.Laws.OwnMore
import Derived.Laws.StructEq
import Derived.LoopTactic
import Derived.Defers
import Derived.Recover
import Derived.WalkSmall
import Derived.Deep.Slices
import Derived.ChangeSlices
import Derived.Laws.AppendOwn
import Derived.Shelf.SlSortCmp.WholeK
import Derived.Shelf.SlSortCmp.NoneTotal
import Derived.Lib.SliceRun
import Derived.Lib.AppendZeros
namespace Go.Proofs.YtofngihdnjgmeaaGreat
set_option maxRecDepth 100000
open Go.ChangeShapes Go.WideShapes Go.ChangeAt Go.RowKit

/-- Two vectors, boxed one behind the other. -/
theorem boxes (w : World) (t : TypeId) (xs ys : List Int) : Blk ((w.alloc (.cells (vals xs).toArray t)).alloc (.cells (vals ys).toArray t)) w.heap.size t xs ∧ Blk ((w.alloc (.cells (vals xs).toArray t)).alloc (.cells (vals ys).toArray t)) (w.heap.size + 1) t ys ∧ Below w.heap.size w ((w.alloc (.cells (vals xs).toArray t)).alloc (.cells (vals ys).toArray t)) :=
  ⟨(Blk.new w _ xs).alloc _, by have := Blk.new (w.alloc (.cells (vals xs).toArray t)) t ys; simpa using this, ((Below.refl _ _).alloc (Nat.le_refl _) _).alloc (by simp) _⟩
def zeros : List Int := List.replicate 16 0
/-- Two vectors lie in the first two blocks of a call's own; below them all is as it was. -/
abbrev Two (w : World) (xs ys : List Int) (w' : World) : Prop := w'.rangeAt w.heap.size 0 (vals xs) ∧ w'.rangeAt (w.heap.size + 1) 0 (vals ys) ∧ Below w.heap.size w w' ∧ w.heap.size + 2 ≤ w'.heap.size
theorem Two.start (w : World) (t : TypeId) (xs ys : List Int) : Two w xs ys ((w.alloc (.cells (vals xs).toArray t)).alloc (.cells (vals ys).toArray t)) :=
  ⟨(boxes w t xs ys).1.range, (boxes w t xs ys).2.1.range, (boxes w t xs ys).2.2, by simp⟩
theorem Two.drew {w w1 : World} {xs ys : List Int} (h : Two w xs ys w1) : Two w xs ys w1.drew := ⟨h.1, h.2.1, h.2.2.1.drew, h.2.2.2⟩
theorem Two.call {w w1 w2 : World} {xs ys : List Int} (h : Two w xs ys w1) (hb : Below w1.heap.size w1 w2) : Two w xs ys w2 :=
  ⟨range_below h.1 hb (by have := h.2.2.2; omega), range_below h.2.1 hb (by have := h.2.2.2; omega), h.2.2.1.trans (hb.mono (by have := h.2.2.2; omega)), Nat.le_trans h.2.2.2 hb.size⟩
/-! ### Equality of arrays of ints. -/
theorem vec_info : (Tryz.prog.info? 23).map (·.size) = some 16 := by kernel_rfl
theorem vec_info_of {zs : List Int} (h : zs.length = 16) : (Tryz.prog.info? 23).map (·.size) = some (vals zs).length := by rw [vals_length, h]; exact vec_info

theorem index_vec {zs : List Int} (hz : zs.length = 16) {k : Nat} (hk : k < 16) (w : World) : (Instr.index 23 (.agg (vals zs).toArray) (.int .i64 (k : Int))).run Tryz.prog w = .ok (.int .i64 (zs.getD k 0)) w := by
  have hp : (part 3 (vals zs).toArray k).run Tryz.prog w = .ok (.int .i64 (zs.getD k 0)) w := by
    simp [part, isAgg, run_underlying Tryz.underlying3, vals, List.getElem?_eq_getElem (show k < zs.length by omega)]
  simp [Instr.index, asIntOf, run_underlying Tryz.underlying23, hk, hp]

/-! ### Loads and stores of whole vectors, at a plain region's list. -/
theorem wpList_load_vec {ops : Array Oper} {rest : List Oper} {o : Oper} {a : Act} {w : World} {Q : Exit → Act → World → Prop} (hgd : o.guard = none) (x : Operand) (ho : o.op = .load 23 x)
    (b : Nat) (hx : a.eval x = .pointer (some ⟨b, 0, none⟩)) (zs : List Int) (hb : Blk w b 23 zs) (hl : zs.length = 16)
    (h : wpList Tryz.prog ops Q rest (a.put o.dst (.agg (vals zs).toArray)) w) : wpList Tryz.prog ops Q (o :: rest) a w :=
  wpList_load_row hgd _ x ho b hx _ _ (0, 0) _ hb Tryz.underlying23 rfl (by rw [List.size_toArray]; exact vec_info_of hl) h

/-- The first k of one list, and the rest of another one. -/
def mix (k : Nat) (zs xs : List Int) : List Int := zs.take k ++ xs.drop k
theorem mix_length {zs xs : List Int} (h : zs.length = xs.length) (k : Nat) : (mix k zs xs).length = xs.length := by simp [mix]; omega
theorem mix_zero (zs xs : List Int) : mix 0 zs xs = xs := by simp [mix]
theorem mix_all {zs xs : List Int} {k : Nat} (h : zs.length = xs.length) (hk : xs.length ≤ k) : mix k zs xs = zs := by
  simp [mix, List.take_of_length_le (show zs.length ≤ k by omega), List.drop_of_length_le hk]
theorem mix_set {zs xs : List Int} {k : Nat} (h : zs.length = xs.length) (hk : k < xs.length) : (mix k zs xs).set k (zs.getD k 0) = mix (k + 1) zs xs := by
  apply List.ext_getElem?
  intro i
  simp only [mix, List.getElem?_set, List.length_append, List.length_take, List.length_drop, List.getElem?_append, List.getElem?_take, List.getElem?_drop]
  by_cases h1 : k = i
  · subst h1
    have hz : k < zs.length := by omega
    simp [show min k zs.length = k by omega, show min (k + 1) zs.length = k + 1 by omega, List.getD, hz, show k < k + (xs.length - k) by omega]
  · simp only [h1, if_false]
    by_cases h2 : i < k
    · simp [show i < min k zs.length by omega, show i < min (k + 1) zs.length by omega, h2, show i < k + 1 by omega]
    · rw [if_neg (show ¬ i < min k zs.length by omega), if_neg (show ¬ i < min (k + 1) zs.length by omega)]
      congr 1
      omega

/-- May each number of a vector be? -/
def rightB (xs : List Int) : Bool := xs.all fun n => decide (0 ≤ n) && decide (n ≤ 1099511627776)
theorem rightB_iff {xs : List Int} (hx : xs.length = 16) : rightB xs = true ↔ ∀ k, k < 16 → (0 ≤ xs.getD k 0 ∧ xs.getD k 0 ≤ 1099511627776) := by
  simp only [rightB, List.all_eq_true, Bool.and_eq_true, decide_eq_true_eq]
  constructor
  · intro h k hk
    exact h _ (by simp [List.getD, show k < xs.length by omega])
  · intro h x hm
    obtain ⟨k, hk, rfl⟩ := List.getElem_of_mem hm
    have := h k (by omega)
    simpa [List.getD, hk] using this
end Go.Proofs.YtofngihdnjgmeaaGreat

namespace Go.Proofs.YtofngihdnjgmeaaGreat
set_option maxRecDepth 100000
open Go.ChangeShapes Go.WideShapes Go.ChangeAt Go.RowKit

end Go.Proofs.YtofngihdnjgmeaaGreat

namespace Go.Proofs.YtofngihdnjgmeaaGreat
set_option maxRecDepth 100000
open Go.ChangeShapes Go.WideShapes Go.ChangeAt Go.RowKit

/-- Below w's end all is as it was; in each of these blocks lies this vector. -/
def Keep (w : World) (l : List (Nat × List Int)) (u : World) : Prop := Below w.heap.size w u ∧ ∀ x ∈ l, Blk u x.1 23 x.2 ∧ x.2.length = 16

theorem Keep.call {w u u' : World} {l : List (Nat × List Int)} (h : Keep w l u) (hb : Below u.heap.size u u') : Keep w l u' :=
  ⟨h.1.trans (hb.mono h.1.size), fun x hx => ⟨(h.2 x hx).1.below hb (h.2 x hx).1.lt, (h.2 x hx).2⟩⟩
theorem Keep.drew {w u : World} {l : List (Nat × List Int)} (h : Keep w l u) : Keep w l u.drew := ⟨h.1.drew, h.2⟩
theorem Keep.drewN {w u : World} {l : List (Nat × List Int)} (h : Keep w l u) (n : Nat) : Keep w l (u.drewN n) := ⟨below_drewN h.1 n, h.2⟩
theorem Keep.get {w u : World} {l : List (Nat × List Int)} (h : Keep w l u) (i : Nat) {b : Nat} {zs : List Int} (hi : l[i]? = some (b, zs)) : Blk u b 23 zs := (h.2 _ (List.mem_of_getElem? hi)).1
theorem Keep.len {w u : World} {l : List (Nat × List Int)} (h : Keep w l u) (i : Nat) {b : Nat} {zs : List Int} (hi : l[i]? = some (b, zs)) : zs.length = 16 := (h.2 _ (List.mem_of_getElem? hi)).2
theorem Keep.cons {w u : World} {l : List (Nat × List Int)} (h : Keep w l u) {b : Nat} {zs : List Int} (hb : Blk u b 23 zs) (hl : zs.length = 16) : Keep w ((b, zs) :: l) u :=
  ⟨h.1, fun x hx => by
    rcases List.mem_cons.1 hx with rfl | hx
    · exact ⟨hb, hl⟩
    · exact h.2 x hx⟩
theorem Keep.refl (w : World) : Keep w [] w := ⟨Below.refl _ _, by simp⟩
theorem Keep.new {w u : World} {l : List (Nat × List Int)} (h : Keep w l u) {zs : List Int} (hl : zs.length = 16) {n : Nat} (hn : u.heap.size = n) : Keep w ((n, zs) :: l) (u.alloc (.cells (vals zs).toArray 23)) := by
  subst hn
  exact (h.call (box u _ zs).2).cons (box u _ zs).1 hl

/-! ### Joining, and being over. -/
end Go.Proofs.YtofngihdnjgmeaaGreat

namespace Go.Proofs.YtofngihdnjgmeaaGreat
set_option maxRecDepth 100000
open Go.ChangeShapes Go.WideShapes Go.ChangeAt Go.RowKit

theorem right_any (xs : List Int) (hx : xs.length = 16) (w : World) :
    Calls Tryz.prog 158 #[.agg (vals xs).toArray] w fun e w' => e = .returned (.bool (rightB xs)) ∧ Below w.heap.size w w' := by
  have hix : ∀ (k : Nat) (W : World), k < 16 → (Instr.index 23 (.agg (vals xs).toArray) (.int .i64 (k : Int))).run Tryz.prog W = .ok (.int .i64 (xs.getD k 0)) W := fun k W hk => index_vec hx hk W
  have HIX := Lib.hid hix; clear hix
  have HI := Lib.hid (rightB_iff hx)
  have HX := Lib.hid hx; clear hx
  have H0 := Lib.hid (box w 23 xs)
  go_enter Tryz.func158, Tryz.ntmps158
  go_wp2_with ((with_reducible refine wpList_load_vec rfl _ rfl _ rfl _ H0.out.1 HX.out ?_))
  go_loop [6] (fun i => ∃ k : Nat, k ≤ 16 ∧ i = .int .i64 k ∧ ∀ j, j < k → 0 ≤ xs.getD j 0 ∧ xs.getD j 0 ≤ 1099511627776) (fun i => 16 - (intOf i).toNat)
  case atStart => exact ⟨0, by omega, rfl, fun j hj => by omega⟩
  case round =>
    obtain ⟨k, hk, rfl, hD⟩ := hrel
    have HD := Lib.hid hD
    clear hD
    by_cases hlt : k < 16
    · have hi : ∀ W : World, (Instr.index 23 (.agg (vals xs).toArray) (.int .i64 (k : Int))).run Tryz.prog W = .ok (.int .i64 (xs.getD k 0)) W := fun W => HIX.out k W hlt
      generalize hx : xs.getD k 0 = x at hi
      have Hx := Lib.hid hx
      clear hx
      have i1 : (0 : Int) ≤ (k : Int) := by omega
      have i2 : (k : Int) < 16 := by omega
      have hf : ¬ (0 ≤ x ∧ x ≤ 1099511627776) → false = rightB xs := fun hn => by
        cases h : rightB xs with
        | false => rfl
        | true => have := HI.out.1 h k hlt; rw [Hx.out] at this; exact absurd this hn
      have HF := Lib.hid hf; clear hf
      by_cases h1 : x < 0
      · go_wp2
        go_ret
        exact ⟨congrArg (fun b => Ending.returned (.bool b)) (HF.out (by omega)), H0.out.2⟩
      · by_cases h2 : 1099511627776 < x
        · have e : isB x = false := isB_not.2 (by omega)
          go_wp2_with ((go_at_call 83; (with_reducible refine (is_any _ _).mono ?_); rintro e w' ⟨rfl, rfl⟩))
          go_ret
          exact ⟨congrArg (fun b => Ending.returned (.bool b)) (HF.out (by omega)), H0.out.2⟩
        · have e : isB x = true := isB_iff.2 (by omega)
          go_wp2_with ((go_at_call 83; (with_reducible refine (is_any _ _).mono ?_); rintro e w' ⟨rfl, rfl⟩))
          go_round
          case rel => exact ⟨k + 1, by omega, by go_num, fun j hj => by
            by_cases hjk : j = k
            · rw [hjk, Hx.out]; omega
            · exact HD.out j (by omega)⟩
          case measure => simp [intOf]; omega
    · have ht : true = rightB xs := (HI.out.2 fun j hj => HD.out j (by omega)).symm
      have HT := Lib.hid ht; clear ht
      go_wp2
      go_ret
      exact ⟨congrArg (fun b => Ending.returned (.bool b)) HT.out, H0.out.2⟩

end Go.Proofs.YtofngihdnjgmeaaGreat

namespace Go.Proofs.YtofngihdnjgmeaaGreat
set_option maxRecDepth 100000
open Go.ChangeShapes Go.WideShapes Go.ChangeAt Go.RowKit

end Go.Proofs.YtofngihdnjgmeaaGreat

namespace Go.Proofs.YtofngihdnjgmeaaGreat
set_option maxRecDepth 100000
open Go.ChangeShapes Go.WideShapes Go.ChangeAt Go.RowKit

/-- A block of a vector, read as a slice of all its numbers. -/
theorem Blk.reads {w : World} {b : Nat} {t : TypeId} {zs : List Int} (h : Blk w b t zs) (hl : zs.length = 16) : Reads w (some ⟨b, 0, none⟩) 16 zs :=
  ⟨hl, by simp [maxLen], .inr ⟨b, 0, rfl, fun i hi => by rw [Nat.zero_add]; exact h.cell (by omega)⟩⟩

end Go.Proofs.YtofngihdnjgmeaaGreat

namespace Go.Proofs.YtofngihdnjgmeaaGreat
set_option maxRecDepth 100000
open Go.ChangeShapes Go.WideShapes Go.ChangeAt Go.RowKit

def g0 : List Int := [3, 9, 0, 0, 0, 0, 0, 0, 0, 0, 0, 0, 0, 0, 0, 0]

end Go.Proofs.YtofngihdnjgmeaaGreat

namespace Go.Proofs.YtofngihdnjgmeaaGreat
set_option maxRecDepth 100000
open Go.ChangeShapes Go.WideShapes Go.ChangeAt Go.RowKit

theorem int_info : (Tryz.prog.info? 3).map (fun i => (i.zero, i.size, i.bytes)) = some (some (.int .i64 0), 1, 8) := by kernel_rfl

theorem vals_append (xs ys : List Int) : vals (xs ++ ys) = vals xs ++ vals ys := by simp [vals]

theorem append_ints (w : World) (base : Nat) (ty : TypeId) (v : Value) (n : Nat) (xs : List Int) (hown : w.ownsRow base 3 1 v n (vals xs)) (A : Option Addr) (m c : Nat) (zs : List Int) (hr : Reads w A m zs) (h63 : n + m ≤ 1048576) (hbase : base ≤ w.heap.size) :
    ∃ v' w', (Builtin.append_ #[159, 159] ty #[v, .slice A m c]).run Tryz.prog w = .ok v' w' ∧ w'.ownsRow base 3 1 v' (n + m) (vals (xs ++ zs)) ∧ w.grownBy w' v.ownBlock ∧ (v'.ownBlock = v.ownBlock ∨ v'.ownBlock = some w.heap.size) := by
  obtain ⟨i0, hi0, hz0, hz1, hz2⟩ := info_parts int_info
  obtain ⟨hl, _, hx⟩ := hr
  rw [vals_append]
  cases A with
  | none =>
    have hm : m = 0 := by
      rcases hx with h0 | ⟨b, off, h, _⟩
      · exact h0
      · cases h
    subst hm
    have hzs : zs = [] := List.eq_nil_of_length_eq_zero hl
    subst hzs
    refine ⟨v, w, ?_, by simpa [vals] using hown, World.grownBy.refl w _, .inl rfl⟩
    rcases hown.2 with ⟨rfl, rfl⟩ | ⟨g, cap, cur, rfl, _, _, hnc, _⟩
    · simp [Builtin.append_, run_underlying Tryz.underlying159, sizeOf, typeInfo, hi0, Builtin.lenOf, Builtin.firstCells]
    · simp [Builtin.append_, run_underlying Tryz.underlying159, sizeOf, typeInfo, hi0, Builtin.lenOf, Builtin.firstCells, hnc, storeCells]
  | some ad =>
    obtain ⟨v', w', h1, h2, h3, _, h5⟩ := run_append_own_at (P := Tryz.prog) w base 159 ty 3 i0 (.int .i64 0) 1 8 Tryz.underlying159 hi0 hz0 hz1 hz2 rfl (by omega) v n (vals xs) hown ad m c (vals zs)
      (by rw [vals_length, hl, Nat.mul_one])
      (fun j u hu => by
        obtain ⟨hj, rfl⟩ := vals_at hu
        rcases hx with h0 | ⟨b, off, h, hc⟩
        · omega
        · injection h with h
          subst h
          rw [Go.WideShapes.add_plain]
          exact hc j (by omega))
      (fun u hu => by
        simp only [vals, List.mem_map] at hu
        obtain ⟨z, _, rfl⟩ := hu
        rfl) (by simp only [maxLen]; omega) (by omega) hbase
    exact ⟨v', w', h1, h2, h3, h5⟩

theorem wpList_append_ints {w : World} {ops : Array Oper} {rest : List Oper} {o : Oper} {a : Act} {Q : Exit → Act → World → Prop} (hgd : o.guard = none) (s x : Operand)
    (ho : o.op = .call { callee := .builtin .append, args := #[s, x], argTypes := #[159, 159] })
    (base : Nat) (v : Value) (n : Nat) (xs : List Int) (hs : a.eval s = v) (hown : w.ownsRow base 3 1 v n (vals xs))
    (A : Option Addr) (m c : Nat) (zs : List Int) (hx : a.eval x = .slice A m c) (hr : Reads w A m zs) (h63 : n + m ≤ 1048576) (hbase : base ≤ w.heap.size)
    (h : ∀ v' w', w'.ownsRow base 3 1 v' (n + m) (vals (xs ++ zs)) → w.grownBy w' v.ownBlock → (v'.ownBlock = v.ownBlock ∨ v'.ownBlock = some w.heap.size) → wpList Tryz.prog ops Q rest (a.put o.dst v') w') :
    wpList Tryz.prog ops Q (o :: rest) a w :=
  wpList_plain hgd fun _ hK => by
    obtain ⟨v', w', hrun, h2, h3, h4⟩ := append_ints w base o.type v n xs hown A m c zs hr h63 hbase
    unfold Oper.wp execOp
    simp only [ho, resolve, invoke, builtin, Sem.run_bind, Sem.run_pure, Result.andThen_ok, List.map_toArray, List.map_cons, List.map_nil, hs, hx, hrun]
    exact hK _ _ (h v' w' h2 h3 h4)

theorem own_reads {w : World} {base : Nat} {A : Option Addr} {n k c : Nat} {zs : List Int} (h : w.ownsRow base 3 1 (.slice A n c) k (vals zs)) (hm : n ≤ 1048576) : Reads w A n zs ∧ n = k := by
  have hl : zs.length = k := by have := h.1; rw [vals_length] at this; omega
  rcases h.2 with ⟨h1, rfl⟩ | ⟨g, cap, cur, h1, _⟩
  · injection h1 with _ h2
    subst h2
    exact ⟨⟨hl, by simp [maxLen], .inl rfl⟩, rfl⟩
  · injection h1 with h2 h3
    subst h2; subst h3
    refine ⟨⟨hl, by simp only [maxLen]; omega, .inr ⟨g, 0, rfl, fun i hi => ?_⟩⟩, rfl⟩
    have := h.cells (g := g) rfl i _ (vals_get (by omega))
    rwa [Go.WideShapes.add_plain] at this

theorem own_slice {w : World} {base : Nat} {v : Value} {n : Nat} {xs : List Value} (h : w.ownsRow base 3 1 v n xs) : ∃ A c, v = .slice A n c := by
  rcases h.2 with ⟨rfl, rfl⟩ | ⟨g, cap, cur, rfl, _⟩
  · exact ⟨_, _, rfl⟩
  · exact ⟨_, _, rfl⟩

theorem slice_high (a : Option Addr) (len cap K : Nat) (h : K ≤ cap) (W : World) : (Instr.slice 159 (.slice a len cap) none (some (.int .i64 (K : Int))) none).run Tryz.prog W = .ok (.slice (if cap = 0 then a else a.map (·.add 0)) K cap) W := by
  obtain ⟨i0, hi0, hz0, hz1, hz2⟩ := info_parts int_info
  simp [Instr.slice, run_underlying Tryz.underlying159, Instr.sliceBounds, Instr.sliceBound, asIntOf, sizeOf, typeInfo, hi0, h]

end Go.Proofs.YtofngihdnjgmeaaGreat

namespace Go.Proofs.YtofngihdnjgmeaaGreat
set_option maxRecDepth 100000
open Go.ChangeShapes Go.WideShapes Go.ChangeAt Go.RowKit

theorem yield_int {ops : Array Oper} {S : World → Prop} {o : Oper} {a : Act} {ad : Addr} {z : Int} (hc : ∀ u, S u → u.cell? ad = some (.int .i64 z)) (x : Operand) (ho : o.op = .load 3 x) (hx : a.eval x = .pointer (some ad)) (hw : Region.wanted o (yielded ops a.tmps) = true) :
    YieldsIf Tryz.prog ops S o (.int .i64 z) a :=
  .inl ⟨hw, fun w hw' => by
    have h1 := hc w hw'
    unfold execOp
    simp only [ho, hx]
    simp [go_sem, h1]⟩
theorem yield_geq {ops : Array Oper} {S : World → Prop} {o : Oper} {a : Act} {p q : Int} {b : Bool} (hb : decide (q ≤ p) = b) (x y : Operand) (t : TypeId) (ho : o.op = .binOp .geq 3 x y t) (hx : a.eval x = .int .i64 p) (hy : a.eval y = .int .i64 q) (hw : Region.wanted o (yielded ops a.tmps) = true) :
    YieldsIf Tryz.prog ops S o (.bool b) a :=
  .inl ⟨hw, fun w _ => by
    subst hb
    unfold execOp
    simp only [ho, hx, hy]
    simp [go_sem]⟩
theorem yield_gtr {ops : Array Oper} {S : World → Prop} {o : Oper} {a : Act} {p q : Int} {b : Bool} (hb : decide (q < p) = b) (x y : Operand) (t : TypeId) (ho : o.op = .binOp .gtr 3 x y t) (hx : a.eval x = .int .i64 p) (hy : a.eval y = .int .i64 q) (hw : Region.wanted o (yielded ops a.tmps) = true) :
    YieldsIf Tryz.prog ops S o (.bool b) a :=
  .inl ⟨hw, fun w _ => by
    subst hb
    unfold execOp
    simp only [ho, hx, hy]
    simp [go_sem]⟩
theorem yield_sub {ops : Array Oper} {S : World → Prop} {o : Oper} {a : Act} {p q z : Int} (hz : IntKind.i64.wrap (p - q) = z) (x y : Operand) (t : TypeId) (ho : o.op = .binOp .sub 3 x y t) (hx : a.eval x = .int .i64 p) (hy : a.eval y = .int .i64 q) (hw : Region.wanted o (yielded ops a.tmps) = true) :
    YieldsIf Tryz.prog ops S o (.int .i64 z) a :=
  .inl ⟨hw, fun w _ => by
    subst hz
    unfold execOp
    simp only [ho, hx, hy]
    simp [go_sem]⟩
theorem Blk.five {w : World} {b : Nat} {t : TypeId} {h : Ho} (hb : Blk w b t h.l) : w.cell? ⟨b, 0, none⟩ = some (.int .i64 h.r) ∧ w.cell? ⟨b, 1, none⟩ = some (.int .i64 h.n) ∧ w.cell? ⟨b, 2, none⟩ = some (.int .i64 h.a) ∧ w.cell? ⟨b, 3, none⟩ = some (.int .i64 h.d) ∧ w.cell? ⟨b, 4, none⟩ = some (.int .i64 h.s) :=
  ⟨hb.cell (k := 0) (by simp [Ho.len]), hb.cell (k := 1) (by simp [Ho.len]), hb.cell (k := 2) (by simp [Ho.len]), hb.cell (k := 3) (by simp [Ho.len]), hb.cell (k := 4) (by simp [Ho.len])⟩
theorem box_drawn {ops : Array Oper} {rest : List Oper} {o : Oper} {a : Act} {w u : World} {l : List (Nat × TypeId × List Int)} {Q : Exit → Act → World → Prop} (hk : KeepR w l u ∧ w.drawn ≤ u.drawn) {ty : TypeId}
    (hgd : o.guard = none) (x : Operand) (ho : o.op = .box ty x) {R : List Int} (hx : a.eval x = .agg (vals R).toArray)
    (h : ∀ b u', (KeepR w ((b, ty, R) :: l) u' ∧ w.drawn ≤ u'.drawn) → wpList Tryz.prog ops Q rest (a.put o.dst (.pointer (some ⟨b, 0, none⟩))) u') : wpList Tryz.prog ops Q (o :: rest) a u :=
  wpList_plain hgd fun K hK => by
    have e : (Instr.box ty (.agg (vals R).toArray)).run Tryz.prog u = .ok (.pointer (some ⟨u.heap.size, 0, none⟩)) (u.alloc (.cells (vals R).toArray ty)) := by
      simp [Instr.box, newVar, newRow, newObj, Value.cells]
      rfl
    unfold Oper.wp execOp
    simp only [ho, hx, Sem.run_bind, Sem.run_pure, Result.andThen_ok, e]
    exact hK _ _ (h _ _ ⟨hk.1.new rfl, hk.2⟩)
theorem or_any (x y : Int) (b : Nat) (w : World) (h0 : w.cell? ⟨b, 0, none⟩ = some (.int .i64 x)) (h1 : w.cell? ⟨b, 1, none⟩ = some (.int .i64 y)) :
    Calls Tryz.prog 128 #[.slice (some ⟨b, 0, none⟩) 2 2] w fun e w' => e = .returned (.int .i64 (orI x y)) ∧ w = w' := by
  go_enter Tryz.func128, Tryz.ntmps128
  go_wp2
  go_loop [8] (fun i => ∃ m : Nat, m ≤ 2 ∧ i = .int .i64 m ∧ (0 < m → x = 0) ∧ (1 < m → y = 0)) (fun i => 2 - (intOf i).toNat)
  case atStart => exact ⟨0, by omega, rfl, by omega, by omega⟩
  case round =>
    obtain ⟨m, hm, rfl, hx, hy⟩ := hrel
    have HX := Lib.hid hx; have HY := Lib.hid hy
    clear hx hy
    have : m = 0 ∨ m = 1 ∨ m = 2 := by omega
    rcases this with rfl | rfl | rfl
    · simp only [Int.natCast_zero]
      by_cases hx : x = 0
      · go_wp2
        go_round
        case rel => exact ⟨1, by omega, by go_num, fun _ => hx, by omega⟩
        case measure => simp [intOf]
      · have HR := Lib.hid (show orI x y = x by simp [orI, hx])
        go_wp2
        go_ret
        exact ⟨by rw [HR.out]; rfl, rfl⟩
    · simp only [Int.natCast_one]
      by_cases hy : y = 0
      · go_wp2
        go_round
        case rel => exact ⟨2, by omega, by go_num, fun _ => HX.out (by omega), fun _ => hy⟩
        case measure => simp [intOf]
      · have HR := Lib.hid (show orI x y = y by simp [orI, HX.out (by omega)])
        go_wp2
        go_ret
        exact ⟨by rw [HR.out]; rfl, rfl⟩
    · simp only [show ((2 : Nat) : Int) = 2 from rfl]
      have HR := Lib.hid (show orI x y = 0 by simp [orI, HX.out (by omega), HY.out (by omega)])
      go_wp2
      go_ret
      exact ⟨by rw [HR.out]; rfl, rfl⟩
set_option maxHeartbeats 2000000 in
set_option maxRecDepth 100000 in
theorem name_any (a b : Ho) (w : World) :
    Calls Tryz.prog 97 #[.agg (vals a.l).toArray, .agg (vals b.l).toArray] w fun e w' => e = .returned (.int .i64 (nameC a b)) ∧ Below w.heap.size w w' ∧ w.drawn ≤ w'.drawn := by
  have HK := Lib.hid (show KeepR w [] w ∧ w.drawn ≤ w.drawn from ⟨KeepR.start w, Nat.le_refl _⟩)
  go_enter Tryz.func97, Tryz.ntmps97
  go_wp2_with (first | (with_reducible refine box_drawn (R := a.l) HK.out rfl _ rfl rfl ?_; intro b1 u hk; clear HK; have HK := Lib.hid hk; clear hk) | (with_reducible refine box_drawn (R := b.l) HK.out rfl _ rfl rfl ?_; intro b2 u hk; clear HK; have HK := Lib.hid hk; clear hk))
  refine Draws.start (S := fun u => KeepR w [(b2, 55, b.l), (b1, 55, a.l)] u ∧ w.drawn ≤ u.drawn) (n := 13) 13 rfl (by kernel_rfl) ?_
  have HS := Lib.hid (show (fun u => KeepR w [(b2, 55, b.l), (b1, 55, a.l)] u ∧ w.drawn ≤ u.drawn) _ from ⟨HK.out.1.drew, Nat.le_succ_of_le HK.out.2⟩)
  clear HK
  refine Draws.take 0 (v := ?v1) HS.out rfl (by kernel_rfl) (fun _ _ _ h => h) (Or.inl ⟨rfl, ?h1⟩) ?r1
  case h1 => intro w' hw'; go_simp; (try with_reducible rfl)
  (try simp only [Act.put, List.setIfInBounds_toArray, List.set_cons_zero, List.set_cons_succ])
  refine Draws.take 1 HS.out rfl (by kernel_rfl) (fun _ _ _ h => h) (yield_int (fun _ h => (h.1.get 1 rfl).five.1) _ rfl rfl rfl) ?_
  (try simp only [Act.put, List.setIfInBounds_toArray, List.set_cons_zero, List.set_cons_succ])
  refine Draws.take 2 (v := ?v2) HS.out rfl (by kernel_rfl) (fun _ _ _ h => h) (Or.inl ⟨rfl, ?h2⟩) ?r2
  case h2 => intro w' hw'; go_simp; (try with_reducible rfl)
  (try simp only [Act.put, List.setIfInBounds_toArray, List.set_cons_zero, List.set_cons_succ])
  refine Draws.take 3 HS.out rfl (by kernel_rfl) (fun _ _ _ h => h) (yield_int (fun _ h => (h.1.get 0 rfl).five.1) _ rfl rfl rfl) ?_
  (try simp only [Act.put, List.setIfInBounds_toArray, List.set_cons_zero, List.set_cons_succ])
  refine Draws.take 5 (v := ?v3) HS.out rfl (by kernel_rfl) (fun _ _ _ h => h) (Or.inl ⟨rfl, ?h3⟩) ?r3
  case h3 => intro w' hw'; go_simp; (try with_reducible rfl)
  (try simp only [Act.put, List.setIfInBounds_toArray, List.set_cons_zero, List.set_cons_succ])
  refine Draws.take 6 HS.out rfl (by kernel_rfl) (fun _ _ _ h => h) (yield_int (fun _ h => (h.1.get 1 rfl).five.2.1) _ rfl rfl rfl) ?_
  (try simp only [Act.put, List.setIfInBounds_toArray, List.set_cons_zero, List.set_cons_succ])
  refine Draws.take 7 (v := ?v4) HS.out rfl (by kernel_rfl) (fun _ _ _ h => h) (Or.inl ⟨rfl, ?h4⟩) ?r4
  case h4 => intro w' hw'; go_simp; (try with_reducible rfl)
  (try simp only [Act.put, List.setIfInBounds_toArray, List.set_cons_zero, List.set_cons_succ])
  refine Draws.take 8 HS.out rfl (by kernel_rfl) (fun _ _ _ h => h) (yield_int (fun _ h => (h.1.get 0 rfl).five.2.1) _ rfl rfl rfl) ?_
  (try simp only [Act.put, List.setIfInBounds_toArray, List.set_cons_zero, List.set_cons_succ])
  refine Draws.does 4 rfl (by kernel_rfl) rfl (fun K hK => ?_)
  go_simp
  go_at_call 129
  refine (cmpi_anyH _ _ _).mono ?_
  rintro e u ⟨rfl, rfl⟩
  (try dsimp only)
  refine hK.out _ _ (fun _ => HS.out) ?_
  clear hK K
  (try simp only [Act.put, List.setIfInBounds_toArray, List.set_cons_zero, List.set_cons_succ])
  refine Draws.does 9 rfl (by kernel_rfl) rfl (fun K hK => ?_)
  go_simp
  go_at_call 129
  refine (cmpi_anyH _ _ _).mono ?_
  rintro e u ⟨rfl, rfl⟩
  (try dsimp only)
  refine hK.out _ _ (fun _ => HS.out) ?_
  clear hK K
  (try simp only [Act.put, List.setIfInBounds_toArray, List.set_cons_zero, List.set_cons_succ])
  refine Draws.does 10 rfl (by kernel_rfl) rfl (fun K hK => ?_)
  refine wp_build_pair HS.out.1 _ _ rfl rfl rfl ?_
  intro b3 u hk hd
  have HS2 := Lib.hid (show KeepR w _ u ∧ w.drawn ≤ u.drawn from ⟨hk, by rw [hd]; exact HS.out.2⟩)
  clear hk hd
  refine hK.out _ _ (fun _ => ⟨HS2.out.1.tail, HS2.out.2⟩) ?_
  clear hK K
  (try simp only [Act.put, List.setIfInBounds_toArray, List.set_cons_zero, List.set_cons_succ])
  refine Draws.does 11 rfl (by kernel_rfl) rfl (fun K hK => ?_)
  go_simp
  go_at_call 128
  refine (or_any _ _ _ _ ((HS2.out.1.get 0 rfl).cell (k := 0) (by simp)) ((HS2.out.1.get 0 rfl).cell (k := 1) (by simp))).mono ?_
  rintro e u ⟨rfl, rfl⟩
  (try dsimp only)
  refine hK.out _ _ (fun _ => ⟨HS2.out.1.tail, HS2.out.2⟩) ?_
  clear hK K
  (try simp only [Act.put, List.setIfInBounds_toArray, List.set_cons_zero, List.set_cons_succ])
  refine Draws.does 12 rfl (by kernel_rfl) rfl (fun K hK => ?_)
  go_simp
  refine hK.out _ _ (fun _ => ⟨HS2.out.1.tail, HS2.out.2⟩) ?_
  clear hK K
  (try simp only [Act.put, List.setIfInBounds_toArray, List.set_cons_zero, List.set_cons_succ])
  refine Draws.done (by kernel_rfl) ?_
  go_wp2
  go_ret
  exact ⟨rfl, HS2.out.1.bel, HS2.out.2⟩
end Go.Proofs.YtofngihdnjgmeaaGreat

namespace Go.Proofs
open Go.Shelf Go.RowKit Go.Lib Go.Sort

/-- A function that is the library's, but for its name. -/
theorem YtofngihdnjgmeaaGreat.bears {P : Program} {f : FuncId} {g B : Func} (h : P.funcs[f]? = some g) (hn : (g.name == "runtime.NumGoroutine") = false) (hb : g = { B with name := g.name }) : Bears P f B := ⟨g.name, hn, h.trans (congrArg some hb)⟩
/-- Which function, and which type, of this program each of the library's is. -/
def YtofngihdnjgmeaaGreat.sortRen : Ren where
  f := fun x => match x with
    | 6 => 96
    | 14 => 126
    | 15 => 127
    | 20 => 138
    | 21 => 139
    | 22 => 140
    | 23 => 141
    | 24 => 142
    | 25 => 143
    | 26 => 144
    | 27 => 145
    | 28 => 146
    | 29 => 147
    | 46 => 159
    | 47 => 160
    | 48 => 161
    | 49 => 162
    | 50 => 163
    | 57 => 168
    | n => n
  t := fun x => match x with
    | 0 => 0
    | 3 => 3
    | 4 => 4
    | 5 => 5
    | 9 => 9
    | 22 => 31
    | 24 => 55
    | 25 => 141
    | 39 => 165
    | 45 => 177
    | 46 => 178
    | 50 => 137
    | 53 => 184
    | 55 => 186
    | 66 => 192
    | 70 => 111
    | 76 => 201
    | 77 => 101
    | n => n
  g := fun x => x
theorem YtofngihdnjgmeaaGreat.sortHo : SlLaysF0.n6 Tryz.prog YtofngihdnjgmeaaGreat.sortRen where
  mixed := by kernel_rfl
  f6 := YtofngihdnjgmeaaGreat.bears Tryz.func96 (by kernel_rfl) (by kernel_rfl)
  f14 := YtofngihdnjgmeaaGreat.bears Tryz.func126 (by kernel_rfl) (by kernel_rfl)
  f15 := by kernel_rfl
  f20 := YtofngihdnjgmeaaGreat.bears Tryz.func138 (by kernel_rfl) (by kernel_rfl)
  f21 := YtofngihdnjgmeaaGreat.bears Tryz.func139 (by kernel_rfl) (by kernel_rfl)
  f22 := YtofngihdnjgmeaaGreat.bears Tryz.func140 (by kernel_rfl) (by kernel_rfl)
  f23 := YtofngihdnjgmeaaGreat.bears Tryz.func141 (by kernel_rfl) (by kernel_rfl)
  f24 := YtofngihdnjgmeaaGreat.bears Tryz.func142 (by kernel_rfl) (by kernel_rfl)
  f25 := YtofngihdnjgmeaaGreat.bears Tryz.func143 (by kernel_rfl) (by kernel_rfl)
  f26 := YtofngihdnjgmeaaGreat.bears Tryz.func144 (by kernel_rfl) (by kernel_rfl)
  f27 := YtofngihdnjgmeaaGreat.bears Tryz.func145 (by kernel_rfl) (by kernel_rfl)
  f28 := by kernel_rfl
  f29 := by kernel_rfl
  f46 := YtofngihdnjgmeaaGreat.bears Tryz.func159 (by kernel_rfl) (by kernel_rfl)
  f47 := by kernel_rfl
  f48 := by kernel_rfl
  f49 := YtofngihdnjgmeaaGreat.bears Tryz.func162 (by kernel_rfl) (by kernel_rfl)
  f50 := YtofngihdnjgmeaaGreat.bears Tryz.func163 (by kernel_rfl) (by kernel_rfl)
  f57 := YtofngihdnjgmeaaGreat.bears Tryz.func168 (by kernel_rfl) (by kernel_rfl)
  t0 := by kernel_rfl
  a0 := fun _ => by kernel_rfl
  z0 := fun _ => by kernel_rfl
  v0 := fun _ => by kernel_rfl
  t3 := by kernel_rfl
  a3 := fun _ => by kernel_rfl
  z3 := fun _ => by kernel_rfl
  v3 := fun _ => by kernel_rfl
  t4 := by kernel_rfl
  a4 := fun _ => by kernel_rfl
  z4 := fun _ => by kernel_rfl
  v4 := fun _ => by kernel_rfl
  t5 := by kernel_rfl
  a5 := fun _ => by kernel_rfl
  z5 := fun _ => by kernel_rfl
  v5 := fun _ => by kernel_rfl
  t9 := by kernel_rfl
  a9 := fun _ => by kernel_rfl
  z9 := fun _ => by kernel_rfl
  v9 := fun _ => by kernel_rfl
  t22 := by kernel_rfl
  a22 := fun _ => by kernel_rfl
  z22 := fun _ => by kernel_rfl
  v22 := fun _ => by kernel_rfl
  t25 := by kernel_rfl
  a25 := fun _ => by kernel_rfl
  z25 := fun _ => by kernel_rfl
  v25 := fun _ => by kernel_rfl
  t39 := by kernel_rfl
  a39 := fun _ => by kernel_rfl
  z39 := fun _ => by kernel_rfl
  v39 := fun _ => by kernel_rfl
  t45 := by kernel_rfl
  a45 := fun _ => by kernel_rfl
  z45 := fun _ => by kernel_rfl
  v45 := fun _ => by kernel_rfl
  t46 := by kernel_rfl
  a46 := fun _ => by kernel_rfl
  z46 := fun _ => by kernel_rfl
  v46 := fun _ => by kernel_rfl
  t50 := by kernel_rfl
  a50 := fun _ => by kernel_rfl
  z50 := fun _ => by kernel_rfl
  v50 := fun _ => by kernel_rfl
  t53 := by kernel_rfl
  a53 := fun _ => by kernel_rfl
  z53 := fun _ => by kernel_rfl
  v53 := fun _ => by kernel_rfl
  t55 := by kernel_rfl
  a55 := fun _ => by kernel_rfl
  z55 := fun _ => by kernel_rfl
  v55 := fun _ => by kernel_rfl
  t66 := by kernel_rfl
  a66 := fun _ => by kernel_rfl
  z66 := fun _ => by kernel_rfl
  v66 := fun _ => by kernel_rfl
  t70 := by kernel_rfl
  a70 := fun _ => by kernel_rfl
  z70 := fun _ => by kernel_rfl
  v70 := fun _ => by kernel_rfl
  t76 := by kernel_rfl
  a76 := fun _ => by kernel_rfl
  z76 := fun _ => by kernel_rfl
  v76 := fun _ => by kernel_rfl
  t77 := by kernel_rfl
  a77 := fun _ => by kernel_rfl
  z77 := fun _ => by kernel_rfl
  v77 := fun _ => by kernel_rfl

theorem YtofngihdnjgmeaaGreat.grow_of_below {W w' : World} (hb : RowKit.Below W.heap.size W w') (hd : W.drawn ≤ w'.drawn) : ∃ q os', w' = grow (W.drewN q) os' := by
  refine ⟨w'.drawn - W.drawn, w'.heap.extract W.heap.size w'.heap.size, ?_⟩
  obtain ⟨h1, h2, h3, h4, h5⟩ := hb
  cases w' with
  | mk heap tape drawn os output =>
    cases W with
    | mk heap0 tape0 drawn0 os0 output0 =>
      simp only [grow, World.drewN, World.mk.injEq] at *
      refine ⟨?_, h2, by omega, h1, h3⟩
      apply Array.ext_getElem?
      intro i
      rw [Array.getElem?_append]
      split
      · rename_i hi; exact h5 i hi
      · rename_i hi
        rw [Array.getElem?_extract]
        by_cases hs : i < heap.size
        · rw [if_pos (by omega), show heap0.size + (i - heap0.size) = i by omega]
        · rw [if_neg (by omega), Array.getElem?_eq_none (by omega)]

theorem YtofngihdnjgmeaaGreat.cmpLays (blk off size : Nat) (w : World) : CmpLays Tryz.prog 97 #[] (fun h : YtofngihdnjgmeaaGreat.Ho => YtofngihdnjgmeaaGreat.vals h.l) 5 YtofngihdnjgmeaaGreat.nameC blk off size w :=
  fun _ _ _ _ x y => (YtofngihdnjgmeaaGreat.name_any x y _).mono fun _ _ ⟨he, hb, hd⟩ => ⟨he, YtofngihdnjgmeaaGreat.grow_of_below hb hd⟩
theorem YtofngihdnjgmeaaGreat.swo : SWO (ltOf YtofngihdnjgmeaaGreat.nameC) where
  irrefl x := by show decide (YtofngihdnjgmeaaGreat.nameC x x < 0) = false; rw [YtofngihdnjgmeaaGreat.nameC_neg, YtofngihdnjgmeaaGreat.ahB_not]; exact YtofngihdnjgmeaaGreat.AH.irrefl x
  trans x y z h1 h2 := by
    simp only [ltOf, YtofngihdnjgmeaaGreat.nameC_neg, YtofngihdnjgmeaaGreat.ahB_iff] at *
    exact h1.trans h2
  ntrans x y z h1 h2 := by
    simp only [ltOf, YtofngihdnjgmeaaGreat.nameC_neg, YtofngihdnjgmeaaGreat.ahB_not] at *
    unfold YtofngihdnjgmeaaGreat.AH at *; omega
end Go.Proofs
namespace Go.Proofs.YtofngihdnjgmeaaGreat
set_option maxRecDepth 100000
open Go.ChangeShapes Go.WideShapes Go.ChangeAt Go.RowKit Go.Shelf Go.Lib Go.Sort

theorem flatK_vals (ys : List Ho) : ∀ j, j < ys.length * 5 → (flatK (fun h : Ho => vals h.l) 5 ys.toArray)[j]! = .int .i64 ((flat ys).getD j 0) := by
  intro j hj
  have hk : j / 5 < ys.length := by omega
  rw [get_flatK _ _ _ _ (by simpa using hj)]
  have e : ys.toArray[j / 5]! = ys.getD (j / 5) z5 := by
    rw [getD_get hk, getElem!_pos ys.toArray (j / 5) (by simpa using hk)]
    simp
  have hg := flat_get (hs := ys) (k := j / 5) (j := j % 5) hk (by omega)
  rw [show j / 5 * 5 + j % 5 = j by omega] at hg
  rw [e, hg, getElem!_pos _ _ (by rw [vals_length, Ho.len]; omega)]
  have h2 := vals_get (zs := (ys.getD (j / 5) z5).l) (j := j % 5) (by rw [Ho.len]; omega)
  rw [List.getElem?_eq_getElem (by rw [vals_length, Ho.len]; omega)] at h2
  injection h2
theorem Own.holds {w : World} {base g cap n : Nat} {hs : List Ho} (h : Own w base (.slice (some ⟨g, 0, none⟩) n cap) hs) : HoldsK (fun h : Ho => vals h.l) 5 w g 0 hs.toArray := by
  intro j hj
  have hj' : j < hs.length * 5 := by simpa using hj
  refine ⟨?_, by rw [Nat.zero_add]; exact h.frozen j⟩
  have h1 := h.range (k := j / 5) (by omega) (j % 5) (.int .i64 ((hs.getD (j / 5) z5).l.getD (j % 5) 0)) (vals_get (by rw [Ho.len]; omega))
  rw [← flat_get (by omega) (by omega), show j / 5 * 5 + j % 5 = j by omega] at h1
  rw [flatK_vals hs j hj', Nat.zero_add]
  exact h1
theorem Own.sorted {w : World} {base g cap n q : Nat} {hs ys : List Ho} {os : Array Obj} (h : Own w base (.slice (some ⟨g, 0, none⟩) n cap) hs) (hy : ys.length = hs.length) (hb : base ≤ w.heap.size) :
    Own (sortWorldK (fun h : Ho => vals h.l) 5 w g 0 q ys.toArray os) base (.slice (some ⟨g, 0, none⟩) n cap) ys ∧ RowKit.Below base w (sortWorldK (fun h : Ho => vals h.l) 5 w g 0 q ys.toArray os) := by
  rcases h.2 with ⟨e0, _⟩ | ⟨g', cap', cur, e0, hbg, hg, hn, hm, hs', ht⟩
  · cases e0
  · injection e0 with e1 e2 e3
    injection e1 with e1
    injection e1 with e1
    subst e1; subst e2; subst e3
    have hgl : g < w.heap.size := (Array.getElem?_eq_some_iff.1 hg).1
    have hgl' : g < (putRowK (fun h : Ho => vals h.l) 5 (Sort.ahead w q) g 0 ys.toArray).heap.size := by simpa [putRowK, putRow, mapBlock, Sort.ahead] using hgl
    refine ⟨⟨by rw [vals_length, flat_length], .inr ⟨g, cap, putCells id 0 (flatK (fun h : Ho => vals h.l) 5 ys.toArray) cur, by rw [hy], hbg, ?_, by omega, hm, by simpa [putCells] using hs', ?_⟩⟩, ?_⟩
    · unfold sortWorldK
      rw [heap_grow_old _ _ hgl']
      simp [putRowK, putRow, mapBlock, Sort.ahead, Array.getElem?_modify, hg, onCells]
    · apply List.ext_getElem?
      intro j
      rw [List.getElem?_take, Array.getElem?_toList]
      by_cases hj : j < ys.length * 5
      · have hcap : hs.length * 5 ≤ cap * 5 := Nat.mul_le_mul_right 5 hn
        have hjc : j < cur.size := by omega
        simp only [if_pos hj, putCells, Array.getElem?_mapIdx, Array.getElem?_eq_getElem hjc, Option.map_some]
        rw [if_pos (by simp; omega), vals_get (by rw [flat_length]; omega), Nat.sub_zero, flatK_vals ys j hj]
        rfl
      · rw [if_neg hj, List.getElem?_eq_none (by rw [vals_length, flat_length]; omega)]
    · refine ⟨rfl, rfl, rfl, by simp [sortWorldK, putRowK, putRow, mapBlock, Sort.ahead], fun k hk => ?_⟩
      unfold sortWorldK
      rw [heap_grow_old _ _ (by simp [putRowK, putRow, mapBlock, Sort.ahead]; omega)]
      simp [putRowK, putRow, mapBlock, Sort.ahead, Array.getElem?_modify, show g ≠ k by omega]

theorem sort_any (w : World) (base : Nat) (v : Value) (hs : List Ho) (ho : Own w base v hs) (hb : base ≤ w.heap.size) (hn : hs.length ≤ 2000) (hap : Apart hs) :
    Calls Tryz.prog 96 #[v, .func (.func 97) #[] #[]] w fun e w' => e = .returned (.tuple #[]) ∧ Own w' base v (isort hs) ∧ RowKit.Below base w w' := by
  rcases Nat.eq_zero_or_pos hs.length with h0 | h0
  · have hnil : hs = [] := List.eq_nil_of_length_eq_zero h0
    subst hnil
    obtain ⟨A, c, rfl⟩ := ho.slice
    have hcon := AnyF.slices_SortFunc_none sortHo A c (.func (.func 97) #[] #[]) w
    change Calls Tryz.prog 96 _ _ _ at hcon
    exact hcon.mono fun e w' ⟨he, hw⟩ => ⟨he, by rw [hw]; exact ho, by rw [hw]; exact Below.refl _ _⟩
  · obtain ⟨g, cap, rfl, hg1, hg2⟩ := ho.at h0
    have eg : ∀ args w, (callFunc 97 args).run Tryz.prog w = .ok (.enter 97 args) w := enters_of Tryz.func97 (by kernel_rfl) rfl
    have hcon := AnyQ.slices_SortFunc sortHo 5 Tryz.isAgg55 Tryz.sizeOf55 (fun h : Ho => vals h.l) (fun _ => rfl) (fun x => vals_one x.l) nameC swo 97 #[] g 0 cap hs.toArray w eg (cmpLays g 0 hs.toArray.size w) ho.holds hg2 (by simp; omega)
    change Calls Tryz.prog 96 _ _ _ at hcon
    rw [show hs.toArray.size = hs.length by simp] at hcon
    refine hcon.mono fun e w' ⟨he, d', n, os, hp, hs', hw⟩ => ⟨he, ?_⟩
    obtain ⟨ys, rfl⟩ : ∃ ys : List Ho, d' = ys.toArray := ⟨d'.toList, by simp⟩
    have hy : ys.length = hs.length := by simpa using hp.1
    have hperm : ys.Perm hs := by
      have := hp.2.2
      simpa [← hy, List.take_of_length_le] using this
    have hsort : ys = isort hs := by
      refine sorted_isort hap hperm ?_
      rw [List.pairwise_iff_getElem]
      intro i j hi hj hij
      have := hs' i j (Nat.zero_le _) hij (by omega)
      rw [getElem!_pos ys.toArray j (by simpa using hj), getElem!_pos ys.toArray i (by simpa using hi)] at this
      simp only [ltOf, nameC_neg, List.getElem_toArray] at this
      exact this
    have hfin := ho.sorted (q := n) (os := os) hy hb
    rw [hw, ← hsort]
    exact hfin
end Go.Proofs.YtofngihdnjgmeaaGreat

namespace Go.Proofs.YtofngihdnjgmeaaGreat
set_option maxRecDepth 100000
open Go.ChangeShapes Go.WideShapes Go.ChangeAt Go.RowKit

theorem grTo_yes {l : List Ho} {k : Int} {m : Nat} (h : ((l.getD m z5).r == k) = true) : grTo l k (m + 1) = max (grTo l k m) (l.getD m z5).n := by rw [grTo, if_pos h]
theorem grTo_no {l : List Ho} {k : Int} {m : Nat} (h : ((l.getD m z5).r == k) = false) : grTo l k (m + 1) = grTo l k m := by rw [grTo, if_neg (by rw [h]; decide)]
set_option maxHeartbeats 2000000 in
theorem gr_any (A : Option Addr) (n c : Nat) (hs : List Ho) (k : Int) (w : World) (hd : Row w A n hs) :
    Calls Tryz.prog 107 #[.slice A n c, .int .i64 k] w fun e w' => e = .returned (.int .i64 (gr hs k)) ∧ Below w.heap.size w w' := by
  have HD := Lib.hid hd; have HL := Lib.hid hd.1; have HNB := Lib.hid hd.2.1; clear hd
  have HK := Lib.hid (KeepR.start w)
  go_enter Tryz.func107, Tryz.ntmps107
  go_wp2
  go_loopw [5, 10] (fun s i wr => ∃ m : Nat, m ≤ n ∧ i = .int .i64 m ∧ s = .int .i64 (grTo hs k m) ∧ KeepR w [] wr) (fun _ i _ => n - (intOf i).toNat)
  case atStart => exact ⟨0, by omega, rfl, rfl, HK.out⟩
  case round =>
    obtain ⟨m, hm, rfl, rfl, hk⟩ := hrel
    clear HK
    have HK := Lib.hid hk
    clear hk
    by_cases hlt : m < n
    · have hnb := HNB.out
      obtain ⟨b, off, rfl, hr⟩ := HD.out.at hlt
      have hrm := hr m hlt
      clear hr
      obtain ⟨h, hh⟩ : ∃ h, hs.getD m z5 = h := ⟨_, rfl⟩
      rw [hh] at hrm
      have HH := Lib.hid hh
      have HR := Lib.hid hrm; have HC := Lib.hid (range_lt hrm)
      clear hrm hh
      have i1 : (0 : Int) ≤ (m : Int) := by omega
      have i2 : (m : Int) < (n : Int) := by omega
      generalize hSS : grTo hs k m = s
      have HSS := Lib.hid hSS; clear hSS
      cases h1 : (h.r == k) with
      | false =>
        have HNX := Lib.hid (show grTo hs k (m + 1) = s by rw [grTo_no (by rw [HH.out]; exact h1), HSS.out])
        go_wp2_with (first
          | (with_reducible refine load_hold (range_below HR.out HK.out.bel HC.out) _ rfl rfl rfl ?_)
          | (with_reducible refine alloc_zero HK.out 5 h_zero rfl rfl ?_; intro bh u hn hk hb; clear hn hb; clear HK; have HK := Lib.hid hk; clear hk)
          | (with_reducible refine store_all HK.out 0 5 h_info rfl rfl _ _ rfl rfl rfl rfl (Ho.len _) (zer_length 5) ?_; intro u hk hs; clear hs; simp only [List.set_cons_zero] at hk; clear HK; have HK := Lib.hid hk; clear hk)
          | (with_reducible refine load_val HK.out 0 rfl _ rfl rfl rfl (Ho.g0 _) (Ho.p0 _) ?_)
          | (with_reducible refine load_val HK.out 0 rfl _ rfl rfl rfl (Ho.g1 _) (Ho.p1 _) ?_)
          | (with_reducible refine load_val HK.out 0 rfl _ rfl rfl rfl (Ho.g2 _) (Ho.p2 _) ?_)
          | (with_reducible refine load_val HK.out 0 rfl _ rfl rfl rfl (Ho.g3 _) (Ho.p3 _) ?_)
          | (with_reducible refine load_val HK.out 0 rfl _ rfl rfl rfl (Ho.g4 _) (Ho.p4 _) ?_)
          | (with_reducible refine load_val_want HK.out 0 _ rfl rfl rfl rfl (Ho.g0 _) (Ho.p0 _) ?_)
          | (with_reducible refine load_val_want HK.out 0 _ rfl rfl rfl rfl (Ho.g1 _) (Ho.p1 _) ?_)
          | (with_reducible refine load_val_want HK.out 0 _ rfl rfl rfl rfl (Ho.g2 _) (Ho.p2 _) ?_)
          | (with_reducible refine load_val_want HK.out 0 _ rfl rfl rfl rfl (Ho.g3 _) (Ho.p3 _) ?_)
          | (with_reducible refine load_val_want HK.out 0 _ rfl rfl rfl rfl (Ho.g4 _) (Ho.p4 _) ?_)
          | (with_reducible refine eql_want h1 _ _ _ rfl rfl rfl rfl ?_))
        go_roundw
        case rel => exact ⟨m + 1, by omega, by go_num, by rw [HNX.out], HK.out.tail⟩
        case measure => simp [intOf]; omega
      | true =>
        have HNX := Lib.hid (show grTo hs k (m + 1) = max s h.n by rw [grTo_yes (by rw [HH.out]; exact h1), HSS.out, HH.out])
        go_wp2_with (first
          | (with_reducible refine load_hold (range_below HR.out HK.out.bel HC.out) _ rfl rfl rfl ?_)
          | (with_reducible refine alloc_zero HK.out 5 h_zero rfl rfl ?_; intro bh u hn hk hb; clear hn hb; clear HK; have HK := Lib.hid hk; clear hk)
          | (with_reducible refine store_all HK.out 0 5 h_info rfl rfl _ _ rfl rfl rfl rfl (Ho.len _) (zer_length 5) ?_; intro u hk hs; clear hs; simp only [List.set_cons_zero] at hk; clear HK; have HK := Lib.hid hk; clear hk)
          | (with_reducible refine load_val HK.out 0 rfl _ rfl rfl rfl (Ho.g0 _) (Ho.p0 _) ?_)
          | (with_reducible refine load_val HK.out 0 rfl _ rfl rfl rfl (Ho.g1 _) (Ho.p1 _) ?_)
          | (with_reducible refine load_val HK.out 0 rfl _ rfl rfl rfl (Ho.g2 _) (Ho.p2 _) ?_)
          | (with_reducible refine load_val HK.out 0 rfl _ rfl rfl rfl (Ho.g3 _) (Ho.p3 _) ?_)
          | (with_reducible refine load_val HK.out 0 rfl _ rfl rfl rfl (Ho.g4 _) (Ho.p4 _) ?_)
          | (with_reducible refine load_val_want HK.out 0 _ rfl rfl rfl rfl (Ho.g0 _) (Ho.p0 _) ?_)
          | (with_reducible refine load_val_want HK.out 0 _ rfl rfl rfl rfl (Ho.g1 _) (Ho.p1 _) ?_)
          | (with_reducible refine load_val_want HK.out 0 _ rfl rfl rfl rfl (Ho.g2 _) (Ho.p2 _) ?_)
          | (with_reducible refine load_val_want HK.out 0 _ rfl rfl rfl rfl (Ho.g3 _) (Ho.p3 _) ?_)
          | (with_reducible refine load_val_want HK.out 0 _ rfl rfl rfl rfl (Ho.g4 _) (Ho.p4 _) ?_)
          | (with_reducible refine eql_want h1 _ _ _ rfl rfl rfl rfl ?_))
        go_roundw
        case rel => exact ⟨m + 1, by omega, by go_num, by rw [HNX.out]; try (congr 1; split <;> omega), HK.out.tail⟩
        case measure => simp [intOf]; omega
    · obtain rfl : m = n := by omega
      have HF := Lib.hid (show grTo hs k m = gr hs k by rw [gr, HL.out])
      go_wp2
      go_ret
      exact ⟨by rw [← HF.out]; rfl, HK.out.bel⟩
set_option maxHeartbeats 1000000 in
theorem clone_any (A : Option Addr) (n c : Nat) (hs : List Ho) (w : World) (hd : Row w A n hs) :
    Calls Tryz.prog 46 #[.slice A n c] w fun e w' => ∃ v, e = .returned v ∧ Own w' w.heap.size v hs ∧ Below w.heap.size w w' := by
  have q : ∀ (w : World) (a : Option Addr) (n c n' c' : Nat), (binOp .eql 31 (.slice a n c) (.slice none n' c')).run Tryz.prog w = .ok (.bool a.isNone) w := fun w a n c n' c' => Lib.run_eql_slice_nil w _ _ a n c n' c' Tryz.underlying31
  have HD := Lib.hid hd; have HL := Lib.hid hd.1; have HNB := Lib.hid hd.2.1
  have HK := Lib.hid (KeepR.start w)
  cases A with
  | none =>
    have h0 : n = 0 := by
      rcases hd.2.2 with h | ⟨b, off, h, _⟩
      · exact h
      · cases h
    have HE := Lib.hid (show hs = [] from List.eq_nil_of_length_eq_zero (by rw [hd.1, h0]))
    clear hd h0
    go_enter Tryz.func46, Tryz.ntmps46
    go_wp2
    go_ret
    exact ⟨_, rfl, by rw [HE.out]; exact Own.nil _ _, HK.out.bel⟩
  | some ad =>
    clear hd
    go_enter Tryz.func46, Tryz.ntmps46
    go_wp2_with (first
      | (with_reducible refine build_none HK.out rfl rfl ?_; intro v1 u hk; clear HK; have HK := Lib.hid hk; clear hk)
      | (refine app_hos HK.out rfl _ _ rfl rfl _ _ _ hs rfl (HD.out.below HK.out.keep.bel (Nat.le_refl _)) (by have := HNB.out; simp; omega) ?_; intro v2 u hk; clear HK; have HK := Lib.hid hk; clear hk))
    go_ret
    exact ⟨_, rfl, HK.out.own, HK.out.keep.bel⟩
theorem yield_neqh {ops : Array Oper} {S : World → Prop} {o : Oper} {a : Act} {p q : Ho} {b : Bool} (hb : (p.l == q.l) = b) (x y : Operand) (t : TypeId) (ho : o.op = .binOp .neq 55 x y t) (hx : a.eval x = .agg (vals p.l).toArray) (hy : a.eval y = .agg (vals q.l).toArray) (hw : Region.wanted o (yielded ops a.tmps) = true) :
    YieldsIf Tryz.prog ops S o (.bool !b) a :=
  .inl ⟨hw, fun w _ => by
    have hq := eql_ho p q
    rw [hb] at hq
    have hge := h_guard
    unfold execOp
    simp only [ho, hx, hy]
    simp [go_sem, hq, hge]⟩
end Go.Proofs.YtofngihdnjgmeaaGreat

namespace Go.Proofs.YtofngihdnjgmeaaGreat
set_option maxRecDepth 100000
open Go.ChangeShapes Go.WideShapes Go.ChangeAt Go.RowKit

theorem Lk.g0 (a : Lk) : a.l.getD 0 0 = a.s := rfl
theorem Lk.p0 (a : Lk) : 0 < a.l.length := by simp [Lk.len]
theorem Lk.g1 (a : Lk) : a.l.getD 1 0 = a.v := rfl
theorem Lk.p1 (a : Lk) : 1 < a.l.length := by simp [Lk.len]
theorem Lk.g2 (a : Lk) : a.l.getD 2 0 = a.h := rfl
theorem Lk.p2 (a : Lk) : 2 < a.l.length := by simp [Lk.len]
theorem Lk.g3 (a : Lk) : a.l.getD 3 0 = a.x := rfl
theorem Lk.p3 (a : Lk) : 3 < a.l.length := by simp [Lk.len]
theorem rep_anyK (k : Int) (w : World) :
    Calls Tryz.prog 137 #[.int .i64 k] w fun e w' => e = .returned (.bool (repBK k)) ∧ w = w' := by
  by_cases h1 : 0 ≤ k
  · by_cases h2 : k ≤ 15
    · rw [repB_iffK.2 ⟨h1, h2⟩]
      have h3 : k < 16 := by omega
      go_enter Tryz.func137, Tryz.ntmps137
      go_wp2
      go_ret
      exact ⟨rfl, rfl⟩
    · rw [repB_notK.2 (.inr (by omega))]
      have h3 : ¬ k < 16 := by omega
      go_enter Tryz.func137, Tryz.ntmps137
      go_wp2
      go_ret
      exact ⟨rfl, rfl⟩
  · rw [repB_notK.2 (.inl (by omega))]
    go_enter Tryz.func137, Tryz.ntmps137
    go_wp2
    go_ret
    exact ⟨rfl, rfl⟩
theorem cnt_any (n : Int) (w : World) :
    Calls Tryz.prog 136 #[.int .i64 n] w fun e w' => e = .returned (.bool (cntB n)) ∧ w = w' := by
  by_cases h1 : 0 ≤ n
  · rw [show cntB n = isB n by simp [cntB, h1]]
    go_enter Tryz.func136, Tryz.ntmps136
    go_wp2_with (first
      | (go_at_call 83; (with_reducible refine (is_any _ _).mono ?_); rintro e u ⟨rfl, rfl⟩))
    go_ret
    exact ⟨rfl, rfl⟩
  · rw [show cntB n = false by simp [cntB, h1]]
    go_enter Tryz.func136, Tryz.ntmps136
    go_wp2_with (first
      | (go_at_call 83; (with_reducible refine (is_any _ _).mono ?_); rintro e u ⟨rfl, rfl⟩))
    go_ret
    exact ⟨rfl, rfl⟩
theorem lright_any (a : Lk) (w : World) :
    Calls Tryz.prog 118 #[.agg (vals a.l).toArray] w fun e w' => e = .returned (.bool (rightL a)) ∧ Below w.heap.size w w' := by
  have HK := Lib.hid (KeepR.start w)
  cases h1 : cntB a.s with
  | false =>
    rw [show rightL a = false by simp [rightL, h1]]
    go_enter Tryz.func118, Tryz.ntmps118
    go_wp2_with (first
      | (with_reducible refine box_new (R := a.l) HK.out rfl _ rfl rfl ?_; intro b u hk hb; clear hb; clear HK; have HK := Lib.hid hk; clear hk)
      | (with_reducible refine load_val HK.out 0 rfl _ rfl rfl rfl (Lk.g0 _) (Lk.p0 _) ?_)
      | (with_reducible refine load_val_want HK.out 0 _ rfl rfl rfl rfl (Lk.g1 _) (Lk.p1 _) ?_)
      | (with_reducible refine load_val_want HK.out 0 _ rfl rfl rfl rfl (Lk.g2 _) (Lk.p2 _) ?_)
      | (with_reducible refine load_val_want HK.out 0 _ rfl rfl rfl rfl (Lk.g3 _) (Lk.p3 _) ?_)
      | (go_at_call 136; (with_reducible refine (cnt_any _ _).mono ?_); rintro e u ⟨rfl, rfl⟩)
      | (go_at_call 137; (with_reducible refine (rep_anyK _ _).mono ?_); rintro e u ⟨rfl, rfl⟩)
      | (go_at_call 83; (with_reducible refine (is_any _ _).mono ?_); rintro e u ⟨rfl, rfl⟩))
    go_ret
    exact ⟨rfl, HK.out.bel⟩
  | true =>
    cases h2 : cntB a.v with
    | false =>
      rw [show rightL a = false by simp [rightL, h2]]
      go_enter Tryz.func118, Tryz.ntmps118
      go_wp2_with (first
        | (with_reducible refine box_new (R := a.l) HK.out rfl _ rfl rfl ?_; intro b u hk hb; clear hb; clear HK; have HK := Lib.hid hk; clear hk)
        | (with_reducible refine load_val HK.out 0 rfl _ rfl rfl rfl (Lk.g0 _) (Lk.p0 _) ?_)
        | (with_reducible refine load_val_want HK.out 0 _ rfl rfl rfl rfl (Lk.g1 _) (Lk.p1 _) ?_)
        | (with_reducible refine load_val_want HK.out 0 _ rfl rfl rfl rfl (Lk.g2 _) (Lk.p2 _) ?_)
        | (with_reducible refine load_val_want HK.out 0 _ rfl rfl rfl rfl (Lk.g3 _) (Lk.p3 _) ?_)
        | (go_at_call 136; (with_reducible refine (cnt_any _ _).mono ?_); rintro e u ⟨rfl, rfl⟩)
        | (go_at_call 137; (with_reducible refine (rep_anyK _ _).mono ?_); rintro e u ⟨rfl, rfl⟩)
        | (go_at_call 83; (with_reducible refine (is_any _ _).mono ?_); rintro e u ⟨rfl, rfl⟩))
      go_ret
      exact ⟨rfl, HK.out.bel⟩
    | true =>
      cases h3 : repBK a.h with
      | false =>
        rw [show rightL a = false by simp [rightL, h3]]
        go_enter Tryz.func118, Tryz.ntmps118
        go_wp2_with (first
          | (with_reducible refine box_new (R := a.l) HK.out rfl _ rfl rfl ?_; intro b u hk hb; clear hb; clear HK; have HK := Lib.hid hk; clear hk)
          | (with_reducible refine load_val HK.out 0 rfl _ rfl rfl rfl (Lk.g0 _) (Lk.p0 _) ?_)
          | (with_reducible refine load_val_want HK.out 0 _ rfl rfl rfl rfl (Lk.g1 _) (Lk.p1 _) ?_)
          | (with_reducible refine load_val_want HK.out 0 _ rfl rfl rfl rfl (Lk.g2 _) (Lk.p2 _) ?_)
          | (with_reducible refine load_val_want HK.out 0 _ rfl rfl rfl rfl (Lk.g3 _) (Lk.p3 _) ?_)
          | (go_at_call 136; (with_reducible refine (cnt_any _ _).mono ?_); rintro e u ⟨rfl, rfl⟩)
          | (go_at_call 137; (with_reducible refine (rep_anyK _ _).mono ?_); rintro e u ⟨rfl, rfl⟩)
          | (go_at_call 83; (with_reducible refine (is_any _ _).mono ?_); rintro e u ⟨rfl, rfl⟩))
        go_ret
        exact ⟨rfl, HK.out.bel⟩
      | true =>
        cases h4 : isB a.x with
        | false =>
          rw [show rightL a = false by simp [rightL, h4]]
          go_enter Tryz.func118, Tryz.ntmps118
          go_wp2_with (first
            | (with_reducible refine box_new (R := a.l) HK.out rfl _ rfl rfl ?_; intro b u hk hb; clear hb; clear HK; have HK := Lib.hid hk; clear hk)
            | (with_reducible refine load_val HK.out 0 rfl _ rfl rfl rfl (Lk.g0 _) (Lk.p0 _) ?_)
            | (with_reducible refine load_val_want HK.out 0 _ rfl rfl rfl rfl (Lk.g1 _) (Lk.p1 _) ?_)
            | (with_reducible refine load_val_want HK.out 0 _ rfl rfl rfl rfl (Lk.g2 _) (Lk.p2 _) ?_)
            | (with_reducible refine load_val_want HK.out 0 _ rfl rfl rfl rfl (Lk.g3 _) (Lk.p3 _) ?_)
            | (go_at_call 136; (with_reducible refine (cnt_any _ _).mono ?_); rintro e u ⟨rfl, rfl⟩)
            | (go_at_call 137; (with_reducible refine (rep_anyK _ _).mono ?_); rintro e u ⟨rfl, rfl⟩)
            | (go_at_call 83; (with_reducible refine (is_any _ _).mono ?_); rintro e u ⟨rfl, rfl⟩))
          go_ret
          exact ⟨rfl, HK.out.bel⟩
        | true =>
          rw [show rightL a = true by simp [rightL, h1, h2, h3, h4]]
          go_enter Tryz.func118, Tryz.ntmps118
          go_wp2_with (first
            | (with_reducible refine box_new (R := a.l) HK.out rfl _ rfl rfl ?_; intro b u hk hb; clear hb; clear HK; have HK := Lib.hid hk; clear hk)
            | (with_reducible refine load_val HK.out 0 rfl _ rfl rfl rfl (Lk.g0 _) (Lk.p0 _) ?_)
            | (with_reducible refine load_val_want HK.out 0 _ rfl rfl rfl rfl (Lk.g1 _) (Lk.p1 _) ?_)
            | (with_reducible refine load_val_want HK.out 0 _ rfl rfl rfl rfl (Lk.g2 _) (Lk.p2 _) ?_)
            | (with_reducible refine load_val_want HK.out 0 _ rfl rfl rfl rfl (Lk.g3 _) (Lk.p3 _) ?_)
            | (go_at_call 136; (with_reducible refine (cnt_any _ _).mono ?_); rintro e u ⟨rfl, rfl⟩)
            | (go_at_call 137; (with_reducible refine (rep_anyK _ _).mono ?_); rintro e u ⟨rfl, rfl⟩)
            | (go_at_call 83; (with_reducible refine (is_any _ _).mono ?_); rintro e u ⟨rfl, rfl⟩))
          go_ret
          exact ⟨rfl, HK.out.bel⟩
end Go.Proofs.YtofngihdnjgmeaaGreat

namespace Go.Proofs.YtofngihdnjgmeaaGreat
set_option maxRecDepth 100000
open Go.ChangeShapes Go.WideShapes Go.ChangeAt Go.RowKit

theorem clone_sl (A : Option Addr) (n c : Nat) (hs : List Ho) (w : World) (hd : Row w A n hs) :
    Calls Tryz.prog 46 #[.slice A n c] w fun e w' => ∃ A1 c1, e = .returned (.slice A1 n c1) ∧ Own w' w.heap.size (.slice A1 n c1) hs ∧ Below w.heap.size w w' :=
  (clone_any A n c hs w hd).mono fun e w' ⟨v, he, ho, hb⟩ => by
    have hl := hd.1
    obtain ⟨A1, c1, e1⟩ := ho.slice
    rw [hl] at e1
    subst e1
    exact ⟨A1, c1, he, ho, hb⟩
end Go.Proofs.YtofngihdnjgmeaaGreat

namespace Go.Proofs.YtofngihdnjgmeaaGreat
set_option maxRecDepth 100000
open Go.ChangeShapes Go.WideShapes Go.ChangeAt Go.RowKit

/-- A slice of holds that comes in, of any length. -/
def Came (w : World) (A : Option Addr) (n : Nat) (hs : List Ho) : Prop :=
  hs.length = n ∧ n ≤ maxLen ∧ (n = 0 ∨ ∃ b off : Nat, A = some ⟨b, off, none⟩ ∧ ∀ k, k < n → w.rangeAt b (off + k * 5) (vals (hs.getD k z5).l))
theorem Came.row {w : World} {A : Option Addr} {n : Nat} {hs : List Ho} (h : Came w A n hs) (hn : n ≤ 1000) : Row w A n hs := ⟨h.1, hn, h.2.2⟩
/-! ### What is kept while calls tell rows. -/
abbrev RowT := Option Addr × Nat × List Ho
structure LawS (w : World) (l : List (Nat × TypeId × List Int)) (rows : List RowT) (u : World) : Prop where
  keep : KeepR w l u
  row : ∀ x ∈ rows, Row u x.1 x.2.1 x.2.2
theorem LawS.bel {w u : World} {l : List (Nat × TypeId × List Int)} {rows : List RowT} (h : LawS w l rows u) : Below w.heap.size w u := h.keep.bel
theorem LawS.get {w u : World} {l : List (Nat × TypeId × List Int)} {rows : List RowT} (h : LawS w l rows u) (i : Nat) {A : Option Addr} {n : Nat} {hs : List Ho} (hi : rows[i]? = some (A, n, hs)) : Row u A n hs := h.row _ (List.mem_of_getElem? hi)
theorem LawS.call {w u u' : World} {l : List (Nat × TypeId × List Int)} {rows : List RowT} (h : LawS w l rows u) (hb : Below u.heap.size u u') : LawS w l rows u' := ⟨h.keep.call hb, fun x hx => (h.row x hx).call hb⟩
theorem LawS.drew {w u : World} {l : List (Nat × TypeId × List Int)} {rows : List RowT} (h : LawS w l rows u) : LawS w l rows u.drew := h.call ((Below.refl _ _).drew)
theorem LawS.add {w u u' : World} {l : List (Nat × TypeId × List Int)} {rows : List RowT} (h : LawS w l rows u) (hb : Below u.heap.size u u') {A : Option Addr} {n : Nat} {hs : List Ho} (hr : Row u' A n hs) : LawS w l ((A, n, hs) :: rows) u' :=
  ⟨h.keep.call hb, fun x hx => by
    rcases List.mem_cons.1 hx with rfl | hx
    · exact hr
    · exact (h.row x hx).call hb⟩
theorem LawS.tail {w u : World} {x : Nat × TypeId × List Int} {l : List (Nat × TypeId × List Int)} {rows : List RowT} (h : LawS w (x :: l) rows u) : LawS w l rows u := ⟨h.keep.tail, h.row⟩
theorem LawS.start {w : World} {rows : List RowT} (h : ∀ x ∈ rows, Row w x.1 x.2.1 x.2.2) : LawS w [] rows w := ⟨KeepR.start w, h⟩
/-- A block was made, and waits to be written. -/
structure PendS (w : World) (b : Nat) (t : TypeId) (zs : List Int) (l : List (Nat × TypeId × List Int)) (rows : List RowT) (u : World) : Prop where
  keep : KeepR w ((b, t, zs) :: l) u
  row : ∀ x ∈ rows, Row u x.1 x.2.1 x.2.2 ∧ ∀ g off, x.1 = some ⟨g, off, none⟩ → 0 < x.2.1 → g < b
theorem LawS.alloc {w u u' : World} {l : List (Nat × TypeId × List Int)} {rows : List RowT} (h : LawS w l rows u) {b : Nat} {t : TypeId} {zs : List Int} (hn : b = u.heap.size) (hk : KeepR w ((b, t, zs) :: l) u') (hb : Below u.heap.size u u') : PendS w b t zs l rows u' :=
  ⟨hk, fun x hx => ⟨(h.row x hx).call hb, fun g off he h0 => by
    obtain ⟨g', off', he', hr⟩ := (h.row x hx).at h0
    rw [he] at he'
    injection he' with he'
    injection he' with e1 e2
    subst e1
    rw [hn]
    exact range_lt (hr 0 h0)⟩⟩
theorem PendS.store {w u u' : World} {b : Nat} {t : TypeId} {zs S : List Int} {l : List (Nat × TypeId × List Int)} {rows : List RowT} (h : PendS w b t zs l rows u) (hk : KeepR w ((b, t, S) :: l) u') (he : ∀ k, k ≠ b → u'.heap[k]? = u.heap[k]?) : LawS w ((b, t, S) :: l) rows u' :=
  ⟨hk, fun x hx => by
    obtain ⟨⟨h1, h2, h3⟩, h4⟩ := h.row x hx
    refine ⟨h1, h2, ?_⟩
    rcases h3 with h0 | ⟨g, off, e, hr⟩
    · exact .inl h0
    · refine .inr ⟨g, off, e, fun k hk' j v hv => ?_⟩
      have hg := h4 g off e (by omega)
      rw [World.cell?_of_block (w := u) (he g (by omega))]
      exact hr k hk' j v hv⟩

/-! ### Few. -/
/-! ### What calls tell, as rows. -/
theorem Own.told {w : World} {base : Nat} {v : Value} {hs : List Ho} (h : Own w base v hs) (hn : hs.length ≤ 1000) : ∃ A c, v = .slice A hs.length c ∧ Row w A hs.length hs := by
  obtain ⟨A, c, rfl⟩ := h.slice
  exact ⟨A, c, rfl, h.row hn⟩
theorem resL_len {l : List Ho} {k a d : Int} : (resL l k a d).length ≤ 17 := by
  unfold resL
  split
  · rename_i h
    rw [insH_length]
    have : l.length ≤ 16 := by
      unfold resE at h
      split at h
      · rename_i h2
        rw [Bool.and_eq_true] at h2
        exact (rights_iff.1 h2.1).1
      · omega
    omega
  · simp
/-! ### Awake. -/
end Go.Proofs.YtofngihdnjgmeaaGreat

namespace Go.Proofs.YtofngihdnjgmeaaGreat
set_option maxRecDepth 100000
open Go.ChangeShapes Go.WideShapes Go.ChangeAt Go.RowKit

theorem Row.from {u : World} {A : Option Addr} {n c K : Nat} {hs : List Ho} (h : Row u A n hs) (hK : K ≤ n) (hc : n ≤ c) : Row u (if c = K then A else A.map (·.add (K * 5))) (n - K) (hs.drop K) := by
  obtain ⟨h1, h2, h3⟩ := h
  refine ⟨by simp; omega, by omega, ?_⟩
  rcases h3 with h0 | ⟨b, off, rfl, hr⟩
  · exact .inl (by omega)
  · rcases Nat.eq_zero_or_pos (n - K) with h0 | h0
    · exact .inl h0
    · refine .inr ⟨b, off + K * 5, ?_, Row.sub h1 hr⟩
      rw [if_neg (by omega), Option.map_some, Go.WideShapes.add_plain]
end Go.Proofs.YtofngihdnjgmeaaGreat

namespace Go.Proofs.YtofngihdnjgmeaaGreat
set_option maxRecDepth 100000
open Go.ChangeShapes Go.WideShapes Go.ChangeAt Go.RowKit

theorem slice_highW (a : Option Addr) (len cap K : Nat) (h : K ≤ cap) (W : World) : (Instr.slice 31 (.slice a len cap) none (some (.int .i64 (K : Int))) none).run Tryz.prog W = .ok (.slice (if cap = 0 then a else a.map (·.add 0)) K cap) W := by
  obtain ⟨i0, hi0, hz0, hz1, hz2⟩ := info_parts h_info3
  simp [Instr.slice, run_underlying Tryz.underlying31, Instr.sliceBounds, Instr.sliceBound, asIntOf, sizeOf, typeInfo, hi0, h]
theorem KeepH.none0 (w : World) : KeepH w [] (.slice none 0 0) [] w := ⟨KeepR.start w, Own.nil _ _, by simp⟩
theorem hgrow_any (n : Nat) (hn : n ≤ 1000) (w : World) :
    Calls Tryz.prog 108 #[.slice none 0 0, .int .i64 (n : Int)] w fun e w' => ∃ v, e = .returned v ∧ KeepH w [] v [] w' := by
  by_cases h0 : 0 < n
  · obtain ⟨i0, hi0, hz0, hz1, hz2⟩ := info_parts h_info3
    have hr := fun ty => Lib.run_append_nil_zeros (P := Tryz.prog) w 31 3 ty 55 i0 (.agg (vals (zer 5)).toArray) .i64 .i64 Tryz.underlying31 Tryz.underlying3 hi0 hz0 n h0 (by omega) (by omega) (by rw [hz2]; omega)
    have hC1 := grownCap_ge w n 0 55
    have hC2 := grownCap_le_maxLen w n 0 55 (by simp only [maxLen]; omega)
    have hZ : (Builtin.zeroCells (Value.agg (vals (zer 5)).toArray).cells n ++ Builtin.zeroCells (Value.agg (vals (zer 5)).toArray).cells (grownCap w n 0 55 - n)).size = grownCap w n 0 55 * 5 := by
      have hs : (Value.agg (vals (zer 5)).toArray).cells.size = 5 := rfl
      simp only [Array.size_append, Builtin.zeroCells]
      first
        | (simp [hs]; omega)
        | (simp; omega)
    generalize grownCap w n 0 55 = C at *
    generalize (Builtin.zeroCells (Value.agg (vals (zer 5)).toArray).cells n ++ Builtin.zeroCells (Value.agg (vals (zer 5)).toArray).cells (C - n)) = Z at *
    have hs : ∀ W, (Instr.slice 31 (.slice (some ⟨w.heap.size, 0, none⟩) n C) none (some (.int .i64 0)) none).run Tryz.prog W = .ok (.slice (some ⟨w.heap.size, 0, none⟩) 0 C) W := fun W => by
      have := slice_highW (some ⟨w.heap.size, 0, none⟩) n C 0 (by omega) W
      rw [if_neg (by omega)] at this
      simpa [Addr.add] using this
    have hown : Own (w.drew.alloc (.cells Z 55)) w.heap.size (.slice (some ⟨w.heap.size, 0, none⟩) 0 C) [] :=
      ⟨by simp [flat, vals], .inr ⟨w.heap.size, C, Z, rfl, Nat.le_refl _, heap_alloc_new w.drew _, Nat.zero_le _, hC2, hZ, by simp [flat, vals]⟩⟩
    have hbel : Below w.heap.size w (w.drew.alloc (.cells Z 55)) := (Below.refl w.heap.size w).drew.alloc (Nat.le_refl _) _
    have HO := Lib.hid (show KeepH w [] (.slice (some ⟨w.heap.size, 0, none⟩) 0 C) [] (w.drew.alloc (.cells Z 55)) from ⟨(KeepR.start w).call hbel, hown, by simp⟩)
    have HR := Lib.hid hr
    clear hown hbel hr hZ hC2 hi0 hz0 hz1 hz2
    go_enter Tryz.func108, Tryz.ntmps108
    go_wp2_with (first
      | (refine Lib.wpList_append_run _ rfl _ _ _ _ rfl _ _ rfl rfl _ _ (HR.out _) ?_))
    go_ret
    exact ⟨_, rfl, HO.out⟩
  · obtain rfl : n = 0 := by omega
    go_enter Tryz.func108, Tryz.ntmps108
    go_wp2
    go_ret
    exact ⟨_, rfl, KeepH.none0 w⟩

/-- Slices of holds, each with the holds that it reads, as the cells of a row. -/
abbrev HPart := Option Addr × Nat × List Ho
def partH (L : List HPart) : List Ho := L.flatMap (·.2.2)
def PartsH (w : World) (b : Nat) (L : List HPart) : Prop := ∀ i x, L[i]? = some x → w.cell? ⟨b, i, none⟩ = some (.slice x.1 x.2.2.length x.2.1) ∧ Row w x.1 x.2.2.length x.2.2
theorem partH_take {L : List HPart} {k : Nat} {x : HPart} (h : L[k]? = some x) : partH (L.take (k + 1)) = partH (L.take k) ++ x.2.2 := by
  simp [partH, List.take_add_one, h]
theorem partH_le {L : List HPart} (k : Nat) : (partH (L.take k)).length ≤ (partH L).length := by
  conv => rhs; rw [← List.take_append_drop k L]
  simp only [partH, List.flatMap_append, List.length_append]; omega
theorem concatH_any (b cap : Nat) (L : List HPart) (hN2 : (partH L).length ≤ 1000) (hm : L.length ≤ 1000) (w : World) (hp : PartsH w b L) :
    Calls Tryz.prog 58 #[.slice (some ⟨b, 0, none⟩) L.length cap] w fun e w' => ∃ v, e = .returned v ∧ KeepH w [] v (partH L) w' := by
  have HP := Lib.hid hp; clear hp
  generalize hm' : L.length = m at hm
  have HL := Lib.hid hm'; clear hm'
  have HT := Lib.hid (fun k : Nat => partH_le (L := L) k)
  go_enter Tryz.func58, Tryz.ntmps58
  go_wp2
  go_loop [3, 11] (fun s i => ∃ k : Nat, k ≤ m ∧ i = .int .i64 k ∧ s = .int .i64 ((partH (L.take k)).length : Int)) (fun _ i => m - (intOf i).toNat)
  case atStart => exact ⟨0, by omega, rfl, by simp [partH]⟩
  case round =>
    obtain ⟨k, hk, rfl, rfl⟩ := hrel
    by_cases hlt : k < m
    · obtain ⟨x, hx⟩ : ∃ x, L[k]? = some x := ⟨_, List.getElem?_eq_getElem (by have := HL.out; omega)⟩
      obtain ⟨A, c, zs⟩ := x
      have hcell : w.cell? ⟨b, k, none⟩ = some (.slice A zs.length c) := (HP.out k _ hx).1
      have hs : (partH (L.take (k + 1))).length = (partH (L.take k)).length + zs.length := by rw [partH_take hx, List.length_append]
      have hle := HT.out (k + 1)
      have HS := Lib.hid hs
      rw [hs] at hle
      clear hx hs
      generalize (partH (L.take k)).length = S at *
      generalize zs.length = q at *
      have i1 : (0 : Int) ≤ (k : Int) := by omega
      have i2 : (k : Int) < (m : Int) := by omega
      go_wp2
      go_round
      case rel => exact ⟨k + 1, by omega, by go_num, by rw [HS.out]; go_num⟩
      case measure => simp [intOf]; omega
    · obtain rfl : k = m := by omega
      rw [show L.take k = L by rw [← HL.out]; exact List.take_length]
      have HK := Lib.hid True.intro
      go_wp2_with (first
        | (go_at_call 108; (with_reducible refine (hgrow_any (partH L).length hN2 _).mono ?_); rintro e u ⟨v0, rfl, hk⟩; clear HK; have HK := Lib.hid hk; clear hk))
      go_loopw [6, 27] (fun v i wr => ∃ j : Nat, j ≤ k ∧ i = .int .i64 j ∧ KeepH w [] v (partH (L.take j)) wr) (fun _ i _ => k - (intOf i).toNat)
      case atStart => exact ⟨0, by omega, rfl, by simpa [partH] using HK.out⟩
      case round =>
        obtain ⟨j, hj, rfl, hk⟩ := hrel
        clear HK
        have HK := Lib.hid hk
        clear hk
        by_cases hlt : j < k
        · obtain ⟨x, hx⟩ : ∃ x, L[j]? = some x := ⟨_, List.getElem?_eq_getElem (by have := HL.out; omega)⟩
          obtain ⟨A, c, zs⟩ := x
          obtain ⟨h1, h2⟩ := HP.out j _ hx
          have hcell : wr.cell? ⟨b, j, none⟩ = some (.slice A zs.length c) := by rw [HK.out.keep.bel.cell (cell_lt h1)]; exact h1
          have HR := Lib.hid (h2.below HK.out.keep.bel (Nat.le_refl _))
          have hq : partH (L.take (j + 1)) = partH (L.take j) ++ zs := partH_take hx
          have HQ := Lib.hid hq
          have HLE := Lib.hid (show (partH (L.take j)).length + zs.length ≤ 2000 by have h5 := HT.out (j + 1); rw [hq, List.length_append] at h5; omega)
          clear hx hq h1 h2
          have i1 : (0 : Int) ≤ (j : Int) := by omega
          have i2 : (j : Int) < (k : Int) := by omega
          go_wp2_with (first
            | (refine app_hos HK.out rfl _ _ rfl rfl A _ c zs rfl HR.out HLE.out ?_; intro v' w' hk; clear HK; have HK := Lib.hid hk; clear hk))
          go_roundw
          case rel => exact ⟨j + 1, by omega, by go_num, by rw [HQ.out]; exact HK.out⟩
          case measure => simp [intOf]; omega
        · obtain rfl : j = k := by omega
          have hk := HK.out
          rw [show L.take j = L by rw [← HL.out]; exact List.take_length] at hk
          clear HK
          have HK := Lib.hid hk; clear hk
          go_wp2
          go_ret
          exact ⟨_, rfl, HK.out⟩
end Go.Proofs.YtofngihdnjgmeaaGreat
