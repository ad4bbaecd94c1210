/- Vectors (arrays of 16 ints): the lists that they are, the cells that hold them, and what the operations on them do. A region that draws its order, whose operations read what is kept and whose callees only make memory of their own: one walk in the text's order. Several vectors that are kept, each in a block of its own, while calls make memory; and what joining, and being over, hang on. Contracts of vec.Right, vec.Join and vec.Over. Contracts of the document's Over, Right and Join of layer 2. Contracts of vec.Sum and vec.Grow, and of the document's Sum and Grow of layer 2. What a law of layer 2 needs: vectors that come in; 'awake'. Rows of ints: what append does to one, and what a slice expression reads. -/
import Derived.Test.YtofngihdnjgmeaaLBase0
import Derived.Test.YtofngihdnjgmeaaRows
import Derived.Test.YtofngihdnjgmeaaLBase1
import Derived.WalkKit
import Derived.ProofKit
import Derived.Lib.Hide
import Derived.Below
import Derived.Deep.MidRow
import Derived.Deep.RegionHeld3
import Derived.Deep.QuietTactic
import Derived.BigQuiet
import Derived.OpenShut
import Derived.ChangeOld
import Derived.Maps.AppendAt
import Derived.OwnWalk
import Derived.Laws.OwnMore
namespace Go.Proofs.Ytofngihdnjgmeaa
set_option maxRecDepth 100000
open Go.ChangeShapes Go.WideShapes Go.ChangeAt Go.RowKit

/-- Two vectors, boxed one behind the other. -/
theorem boxes (w : World) (t : TypeId) (xs ys : List Int) : Blk ((w.alloc (.cells (vals xs).toArray t)).alloc (.cells (vals ys).toArray t)) w.heap.size t xs ∧ Blk ((w.alloc (.cells (vals xs).toArray t)).alloc (.cells (vals ys).toArray t)) (w.heap.size + 1) t ys ∧ Below w.heap.size w ((w.alloc (.cells (vals xs).toArray t)).alloc (.cells (vals ys).toArray t)) :=
  ⟨(Blk.new w _ xs).alloc _, by have := Blk.new (w.alloc (.cells (vals xs).toArray t)) t ys; simpa using this, ((Below.refl _ _).alloc (Nat.le_refl _) _).alloc (by simp) _⟩
def zeros : List Int := List.replicate 16 0
/-- Two vectors lie in the first two blocks of a call's own; below them all is as it was. -/
abbrev Two (w : World) (xs ys : List Int) (w' : World) : Prop := w'.rangeAt w.heap.size 0 (vals xs) ∧ w'.rangeAt (w.heap.size + 1) 0 (vals ys) ∧ Below w.heap.size w w' ∧ w.heap.size + 2 ≤ w'.heap.size
theorem Two.start (w : World) (t : TypeId) (xs ys : List Int) : Two w xs ys ((w.alloc (.cells (vals xs).toArray t)).alloc (.cells (vals ys).toArray t)) :=
  ⟨(boxes w t xs ys).1.range, (boxes w t xs ys).2.1.range, (boxes w t xs ys).2.2, by simp⟩
theorem Two.drew {w w1 : World} {xs ys : List Int} (h : Two w xs ys w1) : Two w xs ys w1.drew := ⟨h.1, h.2.1, h.2.2.1.drew, h.2.2.2⟩
theorem Two.call {w w1 w2 : World} {xs ys : List Int} (h : Two w xs ys w1) (hb : Below w1.heap.size w1 w2) : Two w xs ys w2 :=
  ⟨range_below h.1 hb (by have := h.2.2.2; omega), range_below h.2.1 hb (by have := h.2.2.2; omega), h.2.2.1.trans (hb.mono (by have := h.2.2.2; omega)), Nat.le_trans h.2.2.2 hb.size⟩
/-! ### Equality of arrays of ints. -/
theorem vec_info : (Try.prog.info? 23).map (·.size) = some 16 := by kernel_rfl
theorem vec_info_of {zs : List Int} (h : zs.length = 16) : (Try.prog.info? 23).map (·.size) = some (vals zs).length := by rw [vals_length, h]; exact vec_info

theorem index_vec {zs : List Int} (hz : zs.length = 16) {k : Nat} (hk : k < 16) (w : World) : (Instr.index 23 (.agg (vals zs).toArray) (.int .i64 (k : Int))).run Try.prog w = .ok (.int .i64 (zs.getD k 0)) w := by
  have hp : (part 3 (vals zs).toArray k).run Try.prog w = .ok (.int .i64 (zs.getD k 0)) w := by
    simp [part, isAgg, run_underlying Try.underlying3, vals, List.getElem?_eq_getElem (show k < zs.length by omega)]
  simp [Instr.index, asIntOf, run_underlying Try.underlying23, hk, hp]

/-! ### Loads and stores of whole vectors, at a plain region's list. -/
theorem wpList_load_vec {ops : Array Oper} {rest : List Oper} {o : Oper} {a : Act} {w : World} {Q : Exit → Act → World → Prop} (hgd : o.guard = none) (x : Operand) (ho : o.op = .load 23 x)
    (b : Nat) (hx : a.eval x = .pointer (some ⟨b, 0, none⟩)) (zs : List Int) (hb : Blk w b 23 zs) (hl : zs.length = 16)
    (h : wpList Try.prog ops Q rest (a.put o.dst (.agg (vals zs).toArray)) w) : wpList Try.prog ops Q (o :: rest) a w :=
  wpList_load_row hgd _ x ho b hx _ _ (0, 0) _ hb Try.underlying23 rfl (by rw [List.size_toArray]; exact vec_info_of hl) h

/-- The first k of one list, and the rest of another one. -/
def mix (k : Nat) (zs xs : List Int) : List Int := zs.take k ++ xs.drop k
theorem mix_length {zs xs : List Int} (h : zs.length = xs.length) (k : Nat) : (mix k zs xs).length = xs.length := by simp [mix]; omega
theorem mix_zero (zs xs : List Int) : mix 0 zs xs = xs := by simp [mix]
theorem mix_all {zs xs : List Int} {k : Nat} (h : zs.length = xs.length) (hk : xs.length ≤ k) : mix k zs xs = zs := by
  simp [mix, List.take_of_length_le (show zs.length ≤ k by omega), List.drop_of_length_le hk]
theorem mix_set {zs xs : List Int} {k : Nat} (h : zs.length = xs.length) (hk : k < xs.length) : (mix k zs xs).set k (zs.getD k 0) = mix (k + 1) zs xs := by
  apply List.ext_getElem?
  intro i
  simp only [mix, List.getElem?_set, List.length_append, List.length_take, List.length_drop, List.getElem?_append, List.getElem?_take, List.getElem?_drop]
  by_cases h1 : k = i
  · subst h1
    have hz : k < zs.length := by omega
    simp [show min k zs.length = k by omega, show min (k + 1) zs.length = k + 1 by omega, List.getD, hz, show k < k + (xs.length - k) by omega]
  · simp only [h1, if_false]
    by_cases h2 : i < k
    · simp [show i < min k zs.length by omega, show i < min (k + 1) zs.length by omega, h2, show i < k + 1 by omega]
    · rw [if_neg (show ¬ i < min k zs.length by omega), if_neg (show ¬ i < min (k + 1) zs.length by omega)]
      congr 1
      omega

/-- May each number of a vector be? -/
def rightB (xs : List Int) : Bool := xs.all fun n => decide (0 ≤ n) && decide (n ≤ 1099511627776)
theorem rightB_iff {xs : List Int} (hx : xs.length = 16) : rightB xs = true ↔ ∀ k, k < 16 → (0 ≤ xs.getD k 0 ∧ xs.getD k 0 ≤ 1099511627776) := by
  simp only [rightB, List.all_eq_true, Bool.and_eq_true, decide_eq_true_eq]
  constructor
  · intro h k hk
    exact h _ (by simp [List.getD, show k < xs.length by omega])
  · intro h x hm
    obtain ⟨k, hk, rfl⟩ := List.getElem_of_mem hm
    have := h k (by omega)
    simpa [List.getD, hk] using this
end Go.Proofs.Ytofngihdnjgmeaa

namespace Go.Proofs.Ytofngihdnjgmeaa
set_option maxRecDepth 100000
open Go.ChangeShapes Go.WideShapes Go.ChangeAt Go.RowKit

end Go.Proofs.Ytofngihdnjgmeaa

namespace Go.Proofs.Ytofngihdnjgmeaa
set_option maxRecDepth 100000
open Go.ChangeShapes Go.WideShapes Go.ChangeAt Go.RowKit

/-- Below w's end all is as it was; in each of these blocks lies this vector. -/
def Keep (w : World) (l : List (Nat × List Int)) (u : World) : Prop := Below w.heap.size w u ∧ ∀ x ∈ l, Blk u x.1 23 x.2 ∧ x.2.length = 16

theorem Keep.call {w u u' : World} {l : List (Nat × List Int)} (h : Keep w l u) (hb : Below u.heap.size u u') : Keep w l u' :=
  ⟨h.1.trans (hb.mono h.1.size), fun x hx => ⟨(h.2 x hx).1.below hb (h.2 x hx).1.lt, (h.2 x hx).2⟩⟩
theorem Keep.drew {w u : World} {l : List (Nat × List Int)} (h : Keep w l u) : Keep w l u.drew := ⟨h.1.drew, h.2⟩
theorem Keep.drewN {w u : World} {l : List (Nat × List Int)} (h : Keep w l u) (n : Nat) : Keep w l (u.drewN n) := ⟨below_drewN h.1 n, h.2⟩
theorem Keep.get {w u : World} {l : List (Nat × List Int)} (h : Keep w l u) (i : Nat) {b : Nat} {zs : List Int} (hi : l[i]? = some (b, zs)) : Blk u b 23 zs := (h.2 _ (List.mem_of_getElem? hi)).1
theorem Keep.len {w u : World} {l : List (Nat × List Int)} (h : Keep w l u) (i : Nat) {b : Nat} {zs : List Int} (hi : l[i]? = some (b, zs)) : zs.length = 16 := (h.2 _ (List.mem_of_getElem? hi)).2
theorem Keep.cons {w u : World} {l : List (Nat × List Int)} (h : Keep w l u) {b : Nat} {zs : List Int} (hb : Blk u b 23 zs) (hl : zs.length = 16) : Keep w ((b, zs) :: l) u :=
  ⟨h.1, fun x hx => by
    rcases List.mem_cons.1 hx with rfl | hx
    · exact ⟨hb, hl⟩
    · exact h.2 x hx⟩
theorem Keep.refl (w : World) : Keep w [] w := ⟨Below.refl _ _, by simp⟩
theorem Keep.new {w u : World} {l : List (Nat × List Int)} (h : Keep w l u) {zs : List Int} (hl : zs.length = 16) {n : Nat} (hn : u.heap.size = n) : Keep w ((n, zs) :: l) (u.alloc (.cells (vals zs).toArray 23)) := by
  subst hn
  exact (h.call (box u _ zs).2).cons (box u _ zs).1 hl

/-! ### Joining, and being over. -/
end Go.Proofs.Ytofngihdnjgmeaa

namespace Go.Proofs.Ytofngihdnjgmeaa
set_option maxRecDepth 100000
open Go.ChangeShapes Go.WideShapes Go.ChangeAt Go.RowKit

theorem right_any (xs : List Int) (hx : xs.length = 16) (w : World) :
    Calls Try.prog 93 #[.agg (vals xs).toArray] w fun e w' => e = .returned (.bool (rightB xs)) ∧ Below w.heap.size w w' := by
  have hix : ∀ (k : Nat) (W : World), k < 16 → (Instr.index 23 (.agg (vals xs).toArray) (.int .i64 (k : Int))).run Try.prog W = .ok (.int .i64 (xs.getD k 0)) W := fun k W hk => index_vec hx hk W
  have HIX := Lib.hid hix; clear hix
  have HI := Lib.hid (rightB_iff hx)
  have HX := Lib.hid hx; clear hx
  have H0 := Lib.hid (box w 23 xs)
  go_enter Try.func93, Try.ntmps93
  go_wp2_with ((with_reducible refine wpList_load_vec rfl _ rfl _ rfl _ H0.out.1 HX.out ?_))
  go_loop [6] (fun i => ∃ k : Nat, k ≤ 16 ∧ i = .int .i64 k ∧ ∀ j, j < k → 0 ≤ xs.getD j 0 ∧ xs.getD j 0 ≤ 1099511627776) (fun i => 16 - (intOf i).toNat)
  case atStart => exact ⟨0, by omega, rfl, fun j hj => by omega⟩
  case round =>
    obtain ⟨k, hk, rfl, hD⟩ := hrel
    have HD := Lib.hid hD
    clear hD
    by_cases hlt : k < 16
    · have hi : ∀ W : World, (Instr.index 23 (.agg (vals xs).toArray) (.int .i64 (k : Int))).run Try.prog W = .ok (.int .i64 (xs.getD k 0)) W := fun W => HIX.out k W hlt
      generalize hx : xs.getD k 0 = x at hi
      have Hx := Lib.hid hx
      clear hx
      have i1 : (0 : Int) ≤ (k : Int) := by omega
      have i2 : (k : Int) < 16 := by omega
      have hf : ¬ (0 ≤ x ∧ x ≤ 1099511627776) → false = rightB xs := fun hn => by
        cases h : rightB xs with
        | false => rfl
        | true => have := HI.out.1 h k hlt; rw [Hx.out] at this; exact absurd this hn
      have HF := Lib.hid hf; clear hf
      by_cases h1 : x < 0
      · go_wp2
        go_ret
        exact ⟨congrArg (fun b => Ending.returned (.bool b)) (HF.out (by omega)), H0.out.2⟩
      · by_cases h2 : 1099511627776 < x
        · have e : isB x = false := isB_not.2 (by omega)
          go_wp2_with ((go_at_call 37; (with_reducible refine (is_any _ _).mono ?_); rintro e w' ⟨rfl, rfl⟩))
          go_ret
          exact ⟨congrArg (fun b => Ending.returned (.bool b)) (HF.out (by omega)), H0.out.2⟩
        · have e : isB x = true := isB_iff.2 (by omega)
          go_wp2_with ((go_at_call 37; (with_reducible refine (is_any _ _).mono ?_); rintro e w' ⟨rfl, rfl⟩))
          go_round
          case rel => exact ⟨k + 1, by omega, by go_num, fun j hj => by
            by_cases hjk : j = k
            · rw [hjk, Hx.out]; omega
            · exact HD.out j (by omega)⟩
          case measure => simp [intOf]; omega
    · have ht : true = rightB xs := (HI.out.2 fun j hj => HD.out j (by omega)).symm
      have HT := Lib.hid ht; clear ht
      go_wp2
      go_ret
      exact ⟨congrArg (fun b => Ending.returned (.bool b)) HT.out, H0.out.2⟩

end Go.Proofs.Ytofngihdnjgmeaa

namespace Go.Proofs.Ytofngihdnjgmeaa
set_option maxRecDepth 100000
open Go.ChangeShapes Go.WideShapes Go.ChangeAt Go.RowKit

theorem rright_any (xs : List Int) (hx : xs.length = 16) (w : World) :
    Calls Try.prog 63 #[.agg (vals xs).toArray] w fun e w' => e = .returned (.bool (rightB xs)) ∧ Below w.heap.size w w' := by
  have HI := Lib.hid (rightB_iff hx)
  have HX := Lib.hid hx; clear hx
  have H0 := Lib.hid (box w 23 xs)
  go_enter Try.func63, Try.ntmps63
  go_wp2
  go_loopw [3] (fun i wr => ∃ k : Nat, k ≤ 16 ∧ i = .int .i64 k ∧ Blk wr w.heap.size 23 xs ∧ Below w.heap.size w wr ∧ ∀ j, j < k → 0 ≤ xs.getD j 0 ∧ xs.getD j 0 ≤ 1099511627776) (fun i _ => 16 - (intOf i).toNat)
  case atStart => exact ⟨0, by omega, rfl, H0.out.1, H0.out.2, fun j hj => by omega⟩
  case round =>
    obtain ⟨k, hk, rfl, hA, hS, hD⟩ := hrel
    have HA := Lib.hid hA; have HS := Lib.hid hS; have HD := Lib.hid hD
    clear hA hS hD H0
    by_cases hlt : k < 16
    · have c1 := HA.out.cell (k := k) (by have := HX.out; omega)
      generalize hx : xs.getD k 0 = x at c1
      have Hx := Lib.hid hx
      clear hx
      have i1 : (0 : Int) ≤ (k : Int) := by omega
      have i2 : (k : Int) < 16 := by omega
      have hf : ¬ (0 ≤ x ∧ x ≤ 1099511627776) → false = rightB xs := fun hn => by
        cases h : rightB xs with
        | false => rfl
        | true => have := HI.out.1 h k hlt; rw [Hx.out] at this; exact absurd this hn
      have HF := Lib.hid hf; clear hf
      by_cases h1 : x < 0
      · go_wp2
        go_ret
        exact ⟨congrArg (fun b => Ending.returned (.bool b)) (HF.out (by omega)), HS.out⟩
      · by_cases h2 : 1099511627776 < x
        · go_wp2
          go_ret
          exact ⟨congrArg (fun b => Ending.returned (.bool b)) (HF.out (by omega)), HS.out⟩
        · go_wp2
          go_roundw
          case rel => exact ⟨k + 1, by omega, by go_num, HA.out, HS.out, fun j hj => by
            by_cases hjk : j = k
            · rw [hjk, Hx.out]; omega
            · exact HD.out j (by omega)⟩
          case measure => simp [intOf]; omega
    · have ht : true = rightB xs := (HI.out.2 fun j hj => HD.out j (by omega)).symm
      have HT := Lib.hid ht; clear ht
      go_wp2
      go_ret
      exact ⟨congrArg (fun b => Ending.returned (.bool b)) HT.out, HS.out⟩

end Go.Proofs.Ytofngihdnjgmeaa

namespace Go.Proofs.Ytofngihdnjgmeaa
set_option maxRecDepth 100000
open Go.ChangeShapes Go.WideShapes Go.ChangeAt Go.RowKit

/-- A block of a vector, read as a slice of all its numbers. -/
theorem Blk.reads {w : World} {b : Nat} {t : TypeId} {zs : List Int} (h : Blk w b t zs) (hl : zs.length = 16) : Reads w (some ⟨b, 0, none⟩) 16 zs :=
  ⟨hl, by simp [maxLen], .inr ⟨b, 0, rfl, fun i hi => by rw [Nat.zero_add]; exact h.cell (by omega)⟩⟩

theorem rsumv_any (xs : List Int) (hx : xs.length = 16) (w : World) :
    Calls Try.prog 44 #[.agg (vals xs).toArray] w fun e w' => e = .returned (.tuple #[.int .i64 (sumN xs), .int .i64 (sumE xs)]) ∧ Below w.heap.size w w' := by
  have H0 := Lib.hid (box w 23 xs)
  have HR := Lib.hid (H0.out.1.reads hx)
  go_enter Try.func44, Try.ntmps44
  go_wp2_with ((go_at_call 64; (with_reducible refine (rsum_any _ _ _ _ _ HR.out).mono ?_); rintro e w' ⟨rfl, rfl⟩))
  go_ret2
  exact ⟨rfl, H0.out.2⟩

end Go.Proofs.Ytofngihdnjgmeaa

namespace Go.Proofs.Ytofngihdnjgmeaa
set_option maxRecDepth 100000
open Go.ChangeShapes Go.WideShapes Go.ChangeAt Go.RowKit

def g0 : List Int := [3, 9, 0, 0, 0, 0, 0, 0, 0, 0, 0, 0, 0, 0, 0, 0]

end Go.Proofs.Ytofngihdnjgmeaa

namespace Go.Proofs.Ytofngihdnjgmeaa
set_option maxRecDepth 100000
open Go.ChangeShapes Go.WideShapes Go.ChangeAt Go.RowKit

theorem int_info : (Try.prog.info? 3).map (fun i => (i.zero, i.size, i.bytes)) = some (some (.int .i64 0), 1, 8) := by kernel_rfl

theorem vals_append (xs ys : List Int) : vals (xs ++ ys) = vals xs ++ vals ys := by simp [vals]

theorem append_ints (w : World) (base : Nat) (ty : TypeId) (v : Value) (n : Nat) (xs : List Int) (hown : w.ownsRow base 3 1 v n (vals xs)) (A : Option Addr) (m c : Nat) (zs : List Int) (hr : Reads w A m zs) (h63 : n + m ≤ 1048576) (hbase : base ≤ w.heap.size) :
    ∃ v' w', (Builtin.append_ #[97, 97] ty #[v, .slice A m c]).run Try.prog w = .ok v' w' ∧ w'.ownsRow base 3 1 v' (n + m) (vals (xs ++ zs)) ∧ w.grownBy w' v.ownBlock ∧ (v'.ownBlock = v.ownBlock ∨ v'.ownBlock = some w.heap.size) := by
  obtain ⟨i0, hi0, hz0, hz1, hz2⟩ := info_parts int_info
  obtain ⟨hl, _, hx⟩ := hr
  rw [vals_append]
  cases A with
  | none =>
    have hm : m = 0 := by
      rcases hx with h0 | ⟨b, off, h, _⟩
      · exact h0
      · cases h
    subst hm
    have hzs : zs = [] := List.eq_nil_of_length_eq_zero hl
    subst hzs
    refine ⟨v, w, ?_, by simpa [vals] using hown, World.grownBy.refl w _, .inl rfl⟩
    rcases hown.2 with ⟨rfl, rfl⟩ | ⟨g, cap, cur, rfl, _, _, hnc, _⟩
    · simp [Builtin.append_, run_underlying Try.underlying97, sizeOf, typeInfo, hi0, Builtin.lenOf, Builtin.firstCells]
    · simp [Builtin.append_, run_underlying Try.underlying97, sizeOf, typeInfo, hi0, Builtin.lenOf, Builtin.firstCells, hnc, storeCells]
  | some ad =>
    obtain ⟨v', w', h1, h2, h3, _, h5⟩ := run_append_own_at (P := Try.prog) w base 97 ty 3 i0 (.int .i64 0) 1 8 Try.underlying97 hi0 hz0 hz1 hz2 rfl (by omega) v n (vals xs) hown ad m c (vals zs)
      (by rw [vals_length, hl, Nat.mul_one])
      (fun j u hu => by
        obtain ⟨hj, rfl⟩ := vals_at hu
        rcases hx with h0 | ⟨b, off, h, hc⟩
        · omega
        · injection h with h
          subst h
          rw [Go.WideShapes.add_plain]
          exact hc j (by omega))
      (fun u hu => by
        simp only [vals, List.mem_map] at hu
        obtain ⟨z, _, rfl⟩ := hu
        rfl) (by simp only [maxLen]; omega) (by omega) hbase
    exact ⟨v', w', h1, h2, h3, h5⟩

theorem wpList_append_ints {w : World} {ops : Array Oper} {rest : List Oper} {o : Oper} {a : Act} {Q : Exit → Act → World → Prop} (hgd : o.guard = none) (s x : Operand)
    (ho : o.op = .call { callee := .builtin .append, args := #[s, x], argTypes := #[97, 97] })
    (base : Nat) (v : Value) (n : Nat) (xs : List Int) (hs : a.eval s = v) (hown : w.ownsRow base 3 1 v n (vals xs))
    (A : Option Addr) (m c : Nat) (zs : List Int) (hx : a.eval x = .slice A m c) (hr : Reads w A m zs) (h63 : n + m ≤ 1048576) (hbase : base ≤ w.heap.size)
    (h : ∀ v' w', w'.ownsRow base 3 1 v' (n + m) (vals (xs ++ zs)) → w.grownBy w' v.ownBlock → (v'.ownBlock = v.ownBlock ∨ v'.ownBlock = some w.heap.size) → wpList Try.prog ops Q rest (a.put o.dst v') w') :
    wpList Try.prog ops Q (o :: rest) a w :=
  wpList_plain hgd fun _ hK => by
    obtain ⟨v', w', hrun, h2, h3, h4⟩ := append_ints w base o.type v n xs hown A m c zs hr h63 hbase
    unfold Oper.wp execOp
    simp only [ho, resolve, invoke, builtin, Sem.run_bind, Sem.run_pure, Result.andThen_ok, List.map_toArray, List.map_cons, List.map_nil, hs, hx, hrun]
    exact hK _ _ (h v' w' h2 h3 h4)

theorem own_reads {w : World} {base : Nat} {A : Option Addr} {n k c : Nat} {zs : List Int} (h : w.ownsRow base 3 1 (.slice A n c) k (vals zs)) (hm : n ≤ 1048576) : Reads w A n zs ∧ n = k := by
  have hl : zs.length = k := by have := h.1; rw [vals_length] at this; omega
  rcases h.2 with ⟨h1, rfl⟩ | ⟨g, cap, cur, h1, _⟩
  · injection h1 with _ h2
    subst h2
    exact ⟨⟨hl, by simp [maxLen], .inl rfl⟩, rfl⟩
  · injection h1 with h2 h3
    subst h2; subst h3
    refine ⟨⟨hl, by simp only [maxLen]; omega, .inr ⟨g, 0, rfl, fun i hi => ?_⟩⟩, rfl⟩
    have := h.cells (g := g) rfl i _ (vals_get (by omega))
    rwa [Go.WideShapes.add_plain] at this

theorem own_slice {w : World} {base : Nat} {v : Value} {n : Nat} {xs : List Value} (h : w.ownsRow base 3 1 v n xs) : ∃ A c, v = .slice A n c := by
  rcases h.2 with ⟨rfl, rfl⟩ | ⟨g, cap, cur, rfl, _⟩
  · exact ⟨_, _, rfl⟩
  · exact ⟨_, _, rfl⟩

theorem slice_high (a : Option Addr) (len cap K : Nat) (h : K ≤ cap) (W : World) : (Instr.slice 97 (.slice a len cap) none (some (.int .i64 (K : Int))) none).run Try.prog W = .ok (.slice (if cap = 0 then a else a.map (·.add 0)) K cap) W := by
  obtain ⟨i0, hi0, hz0, hz1, hz2⟩ := info_parts int_info
  simp [Instr.slice, run_underlying Try.underlying97, Instr.sliceBounds, Instr.sliceBound, asIntOf, sizeOf, typeInfo, hi0, h]

end Go.Proofs.Ytofngihdnjgmeaa
