/- What is done with numbers one behind the other, as plain data. No program is spoken of here.; A carrier's methods (layer 10), whatever its functions do with each part: vec, rights, counter, lock, numbers.; Layer 8 (octets) as plain data: the bytes of a number, and the number of bytes. No program is spoken of here.; Bytes in memory: slices that read as bytes, rows of the call's own, what append and a conversion make of them.; Contracts of the functions of octets that only read: num.Is, folded, unfolded, the closure of decoded, IndexFunc, joined, decoded; and of the document's Is.; Contracts of octets.coded, and of the document's Number (layer 8): the bytes of a number, in a row of the call's own.; Contracts of octets.Number, Text and New, of slices.Clone of bytes, and of the document's Text.; Plain facts of what Down leaves, and what Up makes of it; two fields that are the same but for where their holds lie. -/
import Derived.Test.YtofngihdnjgmeaaGreatY01
import Derived.Test.YtofngihdnjgmeaaGreatY07
import Derived.Test.YtofngihdnjgmeaaGreatY09
import Derived.Test.YtofngihdnjgmeaaGreatY11
import Derived.Test.YtofngihdnjgmeaaGreatY12
import Derived.Test.YtofngihdnjgmeaaGreatY18
import Derived.Test.YtofngihdnjgmeaaGreatY27A
import Derived.Test.YtofngihdnjgmeaaGreatY29
import Derived.WalkKit
import Derived.ProofKit
import Derived.Lib.Hide
import Derived.Deep.RegionHeld3
import Derived.Below
import Derived.Deep.MidRow
import Derived.Deep.QuietTactic
import Derived.BigQuiet
import Derived.Laws.StructEq
import Derived.Laws.OwnMore
import Derived.Maps.AppendAt
import Derived.OwnWalk
import Derived.OpenShut
import Derived.ChangeOld
import Derived.Deep.Slices
import Derived.ChangeSlices
import Derived.Laws.AppendOwn
import Derived.WalkMore
import Derived.LoopTactic
import Derived.Defers
import Derived.Recover
import Derived.WalkSmall
import Derived.Lib.AppendZeros
import Derived.Deep.OwnRows
import Derived.Lib.SliceRun
import Derived.Shelf.SlSortCmp.WholeK
import Derived.Shelf.SlSortCmp.NoneTotal
import Derived.Lib.AppendStr
import Derived.Laws.IdiomStrings
import Derived.Laws.Cover3
import Derived.Maps.OwnSet
import Derived.Maps.Views
namespace Go.Proofs.YtofngihdnjgmeaaGreat
set_option maxRecDepth 100000

section
variable {σ : Type} (g : σ → Int → σ × Int)
/-- Number i is gone through. -/
def st1 (s : σ × List Int) (i : Nat) : σ × List Int := ((g s.1 (s.2.getD i 0)).1, s.2.set i (g s.1 (s.2.getD i 0)).2)
/-- n numbers from o on. -/
def fo : Nat → Nat → σ × List Int → σ × List Int
  | 0, _, s => s
  | n + 1, o, s => fo n (o + 1) (st1 g s o)
theorem fo_add : ∀ (a b o : Nat) (s : σ × List Int), fo g (a + b) o s = fo g b (o + a) (fo g a o s)
  | 0, b, o, s => by rw [Nat.zero_add]; rfl
  | a + 1, b, o, s => by
    rw [show a + 1 + b = (a + b) + 1 by omega, fo, fo_add a b (o + 1), fo, show o + 1 + a = o + (a + 1) by omega]
theorem fo_succ (n o : Nat) (s : σ × List Int) : fo g (n + 1) o s = st1 g (fo g n o s) (o + n) := by rw [fo_add]; rfl
theorem fo_length : ∀ (n o : Nat) (s : σ × List Int), (fo g n o s).2.length = s.2.length
  | 0, _, _ => rfl
  | n + 1, o, s => by rw [fo, fo_length n]; simp [st1]
/-- All of a list. -/
def run : σ → List Int → σ × List Int
  | s, [] => (s, [])
  | s, z :: r => ((run (g s z).1 r).1, (g s z).2 :: (run (g s z).1 r).2)
theorem fo_run : ∀ (xs pre post : List Int) (s : σ), fo g xs.length pre.length (s, pre ++ (xs ++ post)) = ((run g s xs).1, pre ++ ((run g s xs).2 ++ post))
  | [], pre, post, s => rfl
  | z :: r, pre, post, s => by
    have e : st1 g (s, pre ++ (z :: r ++ post)) pre.length = ((g s z).1, (pre ++ [(g s z).2]) ++ (r ++ post)) := by
      have h1 : (pre ++ (z :: r ++ post)).getD pre.length 0 = z := by simp [List.getD]
      unfold st1
      rw [h1]
      congr 1
      rw [List.set_append_right _ _ (Nat.le_refl _)]
      simp
    have ih := fo_run r (pre ++ [(g s z).2]) post (g s z).1
    rw [List.length_append] at ih
    rw [List.length_cons, fo, e]
    simpa [run] using ih
end
end Go.Proofs.YtofngihdnjgmeaaGreat

namespace Go.Proofs.YtofngihdnjgmeaaGreat
set_option maxRecDepth 100000
open Go.ChangeShapes Go.WideShapes Go.ChangeAt Go.RowKit

/-! ### Cells of one function, or pointer. -/
def cellW (ty : TypeId) : Bool := ty == 65 || ty == 66 || ty == 67 || ty == 110 || ty == 71 || ty == 76 || ty == 36 || ty == 111
theorem run_load_w {W : World} {ad : Addr} {v : Value} {ty : TypeId} (ht : cellW ty = true) (hc : W.cell? ad = some v) : (Instr.loadAt ty (.pointer (some ad))).run Tryz.prog W = .ok v W := by
  simp only [cellW, Bool.or_eq_true, beq_iff_eq] at ht
  rcases ht with ((((((rfl | rfl) | rfl) | rfl) | rfl) | rfl) | rfl) | rfl <;> simp [go_sem, hc]
theorem cwN : cellW 65 = true := by decide
theorem cwT : cellW 66 = true := by decide
theorem cwH : cellW 67 = true := by decide
theorem cwI : cellW 111 = true := by decide
section
variable {ops : Array Oper} {rest : List Oper} {o : Oper} {a : Act} {u : World} {Q : Exit → Act → World → Prop} {S : World → Prop}
theorem yield_w {ty : TypeId} (ht : cellW ty = true) {ad : Addr} {v : Value} (hS : ∀ u, S u → u.cell? ad = some v) (x : Operand) (ho : o.op = .load ty x) (hx : a.eval x = .pointer (some ad)) (hw : Region.wanted o (yielded ops a.tmps) = true) : YieldsIf Tryz.prog ops S o v a :=
  .inl ⟨hw, fun u' hu => by
    unfold execOp
    simp only [ho, hx, Sem.run_bind, Sem.run_pure, Result.andThen_ok, run_load_w ht (hS u' hu)]⟩
theorem load_w {ty : TypeId} (ht : cellW ty = true) {ad : Addr} {v : Value} (hc : u.cell? ad = some v) (x : Operand) (ho : o.op = .load ty x) (hx : a.eval x = .pointer (some ad)) (hw : Region.wanted o (yielded ops a.tmps) = true)
    (h : wpList Tryz.prog ops Q rest (a.put o.dst v) u) : wpList Tryz.prog ops Q (o :: rest) a u :=
  BigFrame.wpList_want hw fun _ hK => by
    unfold Oper.wp execOp
    simp only [ho, hx, Sem.run_bind, Sem.run_pure, Result.andThen_ok, run_load_w ht hc]
    exact hK _ _ h
end

theorem pr_eta {α β : Type} (p : α × β) : (p.1, p.2) = p := rfl
/-! ### What stays. -/
/-- Blocks of carriers, and rows of pointers to numbers, are as they were. -/
def Keeps (w w' : World) : Prop := ∀ (j : Nat) (cs : Array Value) (t : TypeId) (fr : Nat × Nat), (t = 69 ∨ t = 111) → w.heap[j]? = some (.cells cs t fr) → w'.heap[j]? = some (.cells cs t fr)
theorem Keeps.refl (w : World) : Keeps w w := fun _ _ _ _ _ h => h
theorem Keeps.trans {a b c : World} (h : Keeps a b) (k : Keeps b c) : Keeps a c := fun j cs t fr ht hj => k j cs t fr ht (h j cs t fr ht hj)
theorem Keeps.below {w w' : World} (h : Below w.heap.size w w') : Keeps w w' := fun j _ _ _ _ hj => (h.block j (Array.getElem?_eq_some_iff.1 hj).1).trans hj
theorem Keeps.cel {w w' : World} (h : Keeps w w') {b : Nat} {t : TypeId} {cs : List Value} (ht : t = 69 ∨ t = 111) (hc : Cel w b t cs) : Cel w' b t cs := h b _ t _ ht hc

/-! ### A carrier. -/
def byN (k1 c1 : Nat) : Value := .func (.func k1) #[] #[.pointer (some ⟨c1, 0, none⟩)]
theorem by_info (F G H : Value) : (Tryz.prog.info? 69).map (·.size) = some [F, G, H].length := by rw [show [F, G, H].length = 3 from rfl]; kernel_rfl
section
variable {ops : Array Oper} {rest : List Oper} {o : Oper} {a : Act} {u : World} {Q : Exit → Act → World → Prop} {S : World → Prop}
theorem box_by (hgd : o.guard = none) (x : Operand) (ho : o.op = .box 69 x) {F G H : Value} (hx : a.eval x = .agg [F, G, H].toArray)
    (h : ∀ bc u', Below u.heap.size u u' → Cel u' bc 69 [F, G, H] → wpList Tryz.prog ops Q rest (a.put o.dst (.pointer (some ⟨bc, 0, none⟩))) u') : wpList Tryz.prog ops Q (o :: rest) a u :=
  wpList_plain hgd fun K hK => by
    have e : (Instr.box 69 (.agg [F, G, H].toArray)).run Tryz.prog u = .ok (.pointer (some ⟨u.heap.size, 0, none⟩)) (u.alloc (.cells [F, G, H].toArray 69)) := by
      simp [Instr.box, newVar, newRow, newObj, Value.cells]
      rfl
    unfold Oper.wp execOp
    simp only [ho, hx, Sem.run_bind, Sem.run_pure, Result.andThen_ok, e]
    exact hK _ _ (h _ _ ((Below.refl _ _).alloc (Nat.le_refl _) _) (Cel.new u _ _))
theorem yield_by {F G H : Value} {bc : Nat} (hS : ∀ u, S u → Cel u bc 69 [F, G, H]) (x : Operand) (ho : o.op = .load 69 x) (hx : a.eval x = .pointer (some ⟨bc, 0, none⟩)) (hw : Region.wanted o (yielded ops a.tmps) = true) : YieldsIf Tryz.prog ops S o (.agg [F, G, H].toArray) a :=
  yieldsIf_load_mid hw 69 x ho bc 0 hx [F, G, H] _ (fun u h => (hS u h).range (fun j v hv => by rw [Nat.zero_add]; exact hv)) Tryz.underlying69 rfl (by_info F G H)
end
theorem p_info3 : (Tryz.prog.info? 111).map (fun i => (i.zero, i.size, i.bytes)) = some (some (.pointer none), 1, 8) := by kernel_rfl
/-- Pointers to n numbers that lie one behind the other. -/
def ptrs (b a n : Nat) : List Value := (List.range n).map fun j => .pointer (some ⟨b, a + j, none⟩)
theorem ptrs_get {b a n m : Nat} (h : m < n) : (ptrs b a n)[m]? = some (.pointer (some ⟨b, a + m, none⟩)) := by simp [ptrs, h]
theorem set_3W (f : Nat → Value) (v0 v1 v2 : Value) : (((Array.map f (Array.range 3)).setIfInBounds 0 v0).setIfInBounds 1 v1).setIfInBounds 2 v2 = #[v0, v1, v2] := by
  apply Array.ext
  · simp
  · intro i h1 h2
    have : i = 0 ∨ i = 1 ∨ i = 2 := by simp at h2; omega
    rcases this with rfl | rfl | rfl <;> simp
theorem run_ptrs3 (a0 a1 a2 : Addr) (u : World) : (Instr.buildSlice 173 3 #[(0, .pointer (some a0)), (1, .pointer (some a1)), (2, .pointer (some a2))]).run Tryz.prog u = .ok (.slice (some ⟨u.heap.size, 0, none⟩) 3 3) (u.alloc (.cells [Value.pointer (some a0), Value.pointer (some a1), Value.pointer (some a2)].toArray 111)) := by
  obtain ⟨i0, hi0, hz0, hz1, hz2⟩ := info_parts p_info3
  simp [Instr.buildSlice, run_underlying Tryz.underlying173, sizeOf, typeInfo, zeroValue, hi0, hz0, hz1, Instr.fill, Value.cells, newRow, newObj, set_3W]
  rfl
theorem wp_ptrs3 {o : Oper} {a : Act} {u : World} {Q : Exit → Act → World → Prop} {K : Act → World → Prop} (x0 x1 x2 : Operand) (ho : o.op = .buildSlice 173 3 #[(0, x0), (1, x1), (2, x2)]) {a0 a1 a2 : Addr} (h0 : a.eval x0 = .pointer (some a0)) (h1 : a.eval x1 = .pointer (some a1)) (h2 : a.eval x2 = .pointer (some a2))
    (h : ∀ bp u', Below u.heap.size u u' → Cel u' bp 111 [Value.pointer (some a0), Value.pointer (some a1), Value.pointer (some a2)] → K (a.put o.dst (.slice (some ⟨bp, 0, none⟩) 3 3)) u') : o.wp Tryz.prog a u K Q := by
  unfold Oper.wp execOp
  simp only [ho, List.map_toArray, List.map_cons, List.map_nil, h0, h1, h2, Sem.run_bind, Sem.run_pure, Result.andThen_ok, run_ptrs3]
  exact h _ _ ((Below.refl _ _).alloc (Nat.le_refl _) _) (Cel.new u _ _)
theorem set_4W (f : Nat → Value) (v0 v1 v2 v3 : Value) : ((((Array.map f (Array.range 4)).setIfInBounds 0 v0).setIfInBounds 1 v1).setIfInBounds 2 v2).setIfInBounds 3 v3 = #[v0, v1, v2, v3] := by
  apply Array.ext
  · simp
  · intro i h1 h2
    have : i = 0 ∨ i = 1 ∨ i = 2 ∨ i = 3 := by simp at h2; omega
    rcases this with rfl | rfl | rfl | rfl <;> simp
theorem run_ptrs4 (a0 a1 a2 a3 : Addr) (u : World) : (Instr.buildSlice 173 4 #[(0, .pointer (some a0)), (1, .pointer (some a1)), (2, .pointer (some a2)), (3, .pointer (some a3))]).run Tryz.prog u = .ok (.slice (some ⟨u.heap.size, 0, none⟩) 4 4) (u.alloc (.cells [Value.pointer (some a0), Value.pointer (some a1), Value.pointer (some a2), Value.pointer (some a3)].toArray 111)) := by
  obtain ⟨i0, hi0, hz0, hz1, hz2⟩ := info_parts p_info3
  simp [Instr.buildSlice, run_underlying Tryz.underlying173, sizeOf, typeInfo, zeroValue, hi0, hz0, hz1, Instr.fill, Value.cells, newRow, newObj, set_4W]
  rfl
theorem wp_ptrs4 {o : Oper} {a : Act} {u : World} {Q : Exit → Act → World → Prop} {K : Act → World → Prop} (x0 x1 x2 x3 : Operand) (ho : o.op = .buildSlice 173 4 #[(0, x0), (1, x1), (2, x2), (3, x3)]) {a0 a1 a2 a3 : Addr} (h0 : a.eval x0 = .pointer (some a0)) (h1 : a.eval x1 = .pointer (some a1)) (h2 : a.eval x2 = .pointer (some a2)) (h3 : a.eval x3 = .pointer (some a3))
    (h : ∀ bp u', Below u.heap.size u u' → Cel u' bp 111 [Value.pointer (some a0), Value.pointer (some a1), Value.pointer (some a2), Value.pointer (some a3)] → K (a.put o.dst (.slice (some ⟨bp, 0, none⟩) 4 4)) u') : o.wp Tryz.prog a u K Q := by
  unfold Oper.wp execOp
  simp only [ho, List.map_toArray, List.map_cons, List.map_nil, h0, h1, h2, h3, Sem.run_bind, Sem.run_pure, Result.andThen_ok, run_ptrs4]
  exact h _ _ ((Below.refl _ _).alloc (Nat.le_refl _) _) (Cel.new u _ _)
theorem set_5W (f : Nat → Value) (v0 v1 v2 v3 v4 : Value) : (((((Array.map f (Array.range 5)).setIfInBounds 0 v0).setIfInBounds 1 v1).setIfInBounds 2 v2).setIfInBounds 3 v3).setIfInBounds 4 v4 = #[v0, v1, v2, v3, v4] := by
  apply Array.ext
  · simp
  · intro i h1 h2
    have : i = 0 ∨ i = 1 ∨ i = 2 ∨ i = 3 ∨ i = 4 := by simp at h2; omega
    rcases this with rfl | rfl | rfl | rfl | rfl <;> simp
theorem run_ptrs5 (a0 a1 a2 a3 a4 : Addr) (u : World) : (Instr.buildSlice 173 5 #[(0, .pointer (some a0)), (1, .pointer (some a1)), (2, .pointer (some a2)), (3, .pointer (some a3)), (4, .pointer (some a4))]).run Tryz.prog u = .ok (.slice (some ⟨u.heap.size, 0, none⟩) 5 5) (u.alloc (.cells [Value.pointer (some a0), Value.pointer (some a1), Value.pointer (some a2), Value.pointer (some a3), Value.pointer (some a4)].toArray 111)) := by
  obtain ⟨i0, hi0, hz0, hz1, hz2⟩ := info_parts p_info3
  simp [Instr.buildSlice, run_underlying Tryz.underlying173, sizeOf, typeInfo, zeroValue, hi0, hz0, hz1, Instr.fill, Value.cells, newRow, newObj, set_5W]
  rfl
theorem wp_ptrs5 {o : Oper} {a : Act} {u : World} {Q : Exit → Act → World → Prop} {K : Act → World → Prop} (x0 x1 x2 x3 x4 : Operand) (ho : o.op = .buildSlice 173 5 #[(0, x0), (1, x1), (2, x2), (3, x3), (4, x4)]) {a0 a1 a2 a3 a4 : Addr} (h0 : a.eval x0 = .pointer (some a0)) (h1 : a.eval x1 = .pointer (some a1)) (h2 : a.eval x2 = .pointer (some a2)) (h3 : a.eval x3 = .pointer (some a3)) (h4 : a.eval x4 = .pointer (some a4))
    (h : ∀ bp u', Below u.heap.size u u' → Cel u' bp 111 [Value.pointer (some a0), Value.pointer (some a1), Value.pointer (some a2), Value.pointer (some a3), Value.pointer (some a4)] → K (a.put o.dst (.slice (some ⟨bp, 0, none⟩) 5 5)) u') : o.wp Tryz.prog a u K Q := by
  unfold Oper.wp execOp
  simp only [ho, List.map_toArray, List.map_cons, List.map_nil, h0, h1, h2, h3, h4, Sem.run_bind, Sem.run_pure, Result.andThen_ok, run_ptrs5]
  exact h _ _ ((Below.refl _ _).alloc (Nat.le_refl _) _) (Cel.new u _ _)
section
variable {σ : Type} {g : σ → Int → σ × Int} {k1 c1 b off : Nat} {F2 F3 : Value} {J : Nat → σ → List Int → World → Prop}
/-- What the carrier's function does with numbers that lie one behind the other from (b, off) on: k more may come. -/
structure Num (g : σ → Int → σ × Int) (k1 c1 b off : Nat) (J : Nat → σ → List Int → World → Prop) : Prop where
  num : ∀ k s Y i z a w, J (k + 1) s Y w → Y[i]? = some z → a = off + i → Calls Tryz.prog k1 #[.pointer (some ⟨b, a, none⟩), .pointer (some ⟨c1, 0, none⟩)] w fun e w' => e = .returned (.tuple #[]) ∧ J k (g s z).1 (Y.set i (g s z).2) w' ∧ Keeps w w'
  stay : ∀ k s Y w w', J k s Y w → Below w.heap.size w w' → J k s Y w'
  ent : ∀ args w, (callFunc k1 args).run Tryz.prog w = .ok (.enter k1 args) w
theorem Num.one (H : Num g k1 c1 b off J) (k : Nat) (s : σ) (Y : List Int) (i a : Nat) (w : World) (hJ : J (k + 1) s Y w) (hi : i < Y.length) (ha : a = off + i) :
    Calls Tryz.prog k1 #[.pointer (some ⟨b, a, none⟩), .pointer (some ⟨c1, 0, none⟩)] w fun e w' => e = .returned (.tuple #[]) ∧ J k (st1 g (s, Y) i).1 (st1 g (s, Y) i).2 w' ∧ Keeps w w' := by
  have e : Y[i]? = some (Y.getD i 0) := by simp [List.getD, hi]
  exact H.num k s Y i _ a w hJ e ha
set_option maxHeartbeats 1000000 in
theorem vec_car (H : Num g k1 c1 b off J) (k : Nat) (s : σ) (Y : List Int) (o a0 : Nat) (w : World) (hJ : J (k + 16) s Y w) (ho : o + 16 ≤ Y.length) (ha : a0 = off + o) :
    Calls Tryz.prog 133 #[.agg [byN k1 c1, F2, F3].toArray, .pointer (some ⟨b, a0, none⟩)] w fun e w' => e = .returned (.tuple #[]) ∧ J k (fo g 16 o (s, Y)).1 (fo g 16 o (s, Y)).2 w' ∧ Keeps w w' := by
  have HH := Lib.hid H; clear H
  have HJ := Lib.hid hJ; clear hJ
  have HO := Lib.hid ho; clear ho
  have HA := Lib.hid ha; clear ha
  go_enter Tryz.func133, Tryz.ntmps133
  go_wp2_with (first
    | (with_reducible refine box_by rfl _ rfl rfl ?_; intro bc u hb hc; have hj := HH.out.stay _ _ _ _ _ HJ.out hb; clear HJ; have HJ := Lib.hid hj; have HQ := Lib.hid (Keeps.below hb); have HC := Lib.hid hc; clear hj hb hc))
  go_loopw [5] (fun i wr => ∃ m : Nat, m ≤ 16 ∧ i = .int .i64 m ∧ J (k + (16 - m)) (fo g m o (s, Y)).1 (fo g m o (s, Y)).2 wr ∧ Cel wr bc 69 [byN k1 c1, F2, F3] ∧ Keeps w wr) (fun i _ => 16 - (intOf i).toNat)
  case atStart => exact ⟨0, by omega, rfl, HJ.out, HC.out, HQ.out⟩
  case round =>
    obtain ⟨m, hm, rfl, hj, hc, hq⟩ := hrel
    clear HJ HC HQ
    have HJ := Lib.hid hj; have HC := Lib.hid hc; have HQ := Lib.hid hq
    clear hj hc hq
    by_cases hlt : m < 16
    · have i1 : (0 : Int) ≤ (m : Int) := by omega
      have i2 : (m : Int) < 16 := by omega
      have hL : (fo g m o (s, Y)).2.length = Y.length := fo_length g m o (s, Y)
      have hF := fo_succ g m o (s, Y)
      have HE := Lib.hid (show k + (16 - m) = (k + (16 - (m + 1))) + 1 by omega)
      have HF := Lib.hid hF; have HL := Lib.hid hL; clear hF hL
      unfold byN at HC
      go_wp2_with fail
      refine Draws.start (S := fun u => Cel u bc 69 [.func (.func k1) #[] #[.pointer (some ⟨c1, 0, none⟩)], F2, F3]) (n := 7) 7 rfl (by kernel_rfl) ?_
      have hj := HH.out.stay _ _ _ _ _ HJ.out ((Below.refl _ _).drew)
      clear HJ; have HJ := Lib.hid hj; clear hj
      have hc := HC.out.below ((Below.refl _ _).drew) HC.out.lt
      clear HC; have HC := Lib.hid hc; clear hc
      have hq := HQ.out.trans (Keeps.below ((Below.refl _ _).drew))
      clear HQ; have HQ := Lib.hid hq; clear hq
      have HS := Lib.hid (show (fun u => Cel u bc 69 [.func (.func k1) #[] #[.pointer (some ⟨c1, 0, none⟩)], F2, F3]) _ from HC.out)
      refine Draws.take 0 (v := ?v1) HS.out rfl (by kernel_rfl) (fun _ _ _ h => h) (Or.inl ⟨rfl, ?h1⟩) ?r1
      case h1 => intro w' hw'; go_simp; (try with_reducible rfl)
      (try simp only [Act.put, List.setIfInBounds_toArray, List.set_cons_zero, List.set_cons_succ])
      refine Draws.take 1 HS.out rfl (by kernel_rfl) (fun _ _ _ h => h) (yield_w cwN (fun _ h => h.cell rfl) _ rfl rfl rfl) ?_
      (try simp only [Act.put, List.setIfInBounds_toArray, List.set_cons_zero, List.set_cons_succ])
      refine Draws.take 2 (v := ?v2) HS.out rfl (by kernel_rfl) (fun _ _ _ h => h) (Or.inl ⟨rfl, ?h2⟩) ?r2
      case h2 => intro w' hw'; go_simp; (try with_reducible rfl)
      (try simp only [Act.put, List.setIfInBounds_toArray, List.set_cons_zero, List.set_cons_succ])
      refine Draws.take 3 (v := ?v3) HS.out rfl (by kernel_rfl) (fun _ _ _ h => h) (Or.inl ⟨rfl, ?h3⟩) ?r3
      case h3 => intro w' hw'; go_simp; (try with_reducible rfl)
      (try simp only [Act.put, List.setIfInBounds_toArray, List.set_cons_zero, List.set_cons_succ])
      refine Draws.take 4 (v := ?v4) HS.out rfl (by kernel_rfl) (fun _ _ _ h => h) (Or.inl ⟨rfl, ?h4⟩) ?r4
      case h4 => intro w' hw'; go_simp; (try with_reducible rfl)
      (try simp only [Act.put, List.setIfInBounds_toArray, List.set_cons_zero, List.set_cons_succ])
      refine Draws.take 5 (v := ?v5) HS.out rfl (by kernel_rfl) (fun _ _ _ h => h) (Or.inl ⟨rfl, ?h5⟩) ?r5
      case h5 => intro w' hw'; go_simp; (try with_reducible rfl)
      (try simp only [Act.put, List.setIfInBounds_toArray, List.set_cons_zero, List.set_cons_succ])
      refine Draws.does 6 rfl (by kernel_rfl) rfl (fun K hK => ?_)
      go_simp
      rw [HH.out.ent, Oper.upon_enter]
      refine (HH.out.one (k + (16 - (m + 1))) (fo g m o (s, Y)).1 (fo g m o (s, Y)).2 (o + m) (a0 + m) _ (HE.out ▸ HJ.out) (by rw [HL.out]; have := HO.out; omega) (by have := HA.out; omega)).mono ?_
      rintro e u ⟨rfl, hj, hk⟩
      (try dsimp only)
      clear HJ; have HJ := Lib.hid hj
      have hc := hk.cel (.inl rfl) HC.out; clear HC; have HC := Lib.hid hc; clear hc
      have hq := HQ.out.trans hk; clear HQ; have HQ := Lib.hid hq; clear hq hk hj
      refine hK.out _ _ (fun _ => HC.out) ?_
      clear hK K
      (try simp only [Act.put, List.setIfInBounds_toArray, List.set_cons_zero, List.set_cons_succ])
      refine Draws.done (by kernel_rfl) ?_
      clear HS
      go_wp2_with fail
      go_roundw
      case rel => exact ⟨m + 1, by omega, by go_num, by rw [HF.out]; exact HJ.out, HC.out, HQ.out⟩
      case measure => simp [intOf]; omega
    · obtain rfl : m = 16 := by omega
      go_wp2_with fail
      go_end0
      exact ⟨rfl, by simpa using HJ.out, HQ.out⟩
set_option maxHeartbeats 1000000 in
theorem numbers_car (H : Num g k1 c1 b off J) (n k : Nat) (s : σ) (Y : List Int) (o a0 bp cap : Nat) (w : World) (hn : n ≤ 100) (hJ : J (k + n) s Y w) (ho : o + n ≤ Y.length) (ha : a0 = off + o) (hp : Cel w bp 111 (ptrs b a0 n)) :
    Calls Tryz.prog 111 #[.agg [byN k1 c1, F2, F3].toArray, .slice (some ⟨bp, 0, none⟩) n cap] w fun e w' => e = .returned (.tuple #[]) ∧ J k (fo g n o (s, Y)).1 (fo g n o (s, Y)).2 w' ∧ Keeps w w' := by
  have HH := Lib.hid H; clear H
  have HJ := Lib.hid hJ; clear hJ
  have HO := Lib.hid ho; clear ho
  have HA := Lib.hid ha; clear ha
  have HP := Lib.hid hp; clear hp
  have hent := HH.out.ent
  go_enter Tryz.func111, Tryz.ntmps111
  go_wp2_with (first
    | (with_reducible refine box_by rfl _ rfl rfl ?_; intro bc u hb hc; have hj := HH.out.stay _ _ _ _ _ HJ.out hb; clear HJ; have HJ := Lib.hid hj; have HQ := Lib.hid (Keeps.below hb); have HC := Lib.hid hc; clear hj hb hc))
  go_loopw [8] (fun i wr => ∃ m : Nat, m ≤ n ∧ i = .int .i64 m ∧ J (k + (n - m)) (fo g m o (s, Y)).1 (fo g m o (s, Y)).2 wr ∧ Cel wr bc 69 [byN k1 c1, F2, F3] ∧ Keeps w wr) (fun i _ => n - (intOf i).toNat)
  case atStart => exact ⟨0, by omega, rfl, HJ.out, HC.out, HQ.out⟩
  case round =>
    obtain ⟨m, hm, rfl, hj, hc, hq⟩ := hrel
    clear HJ HC HQ
    have HJ := Lib.hid hj; have HC := Lib.hid hc; have HQ := Lib.hid hq
    clear hj hc hq
    by_cases hlt : m < n
    · have i1 : (0 : Int) ≤ (m : Int) := by omega
      have i2 : (m : Int) < (n : Int) := by omega
      have hL : (fo g m o (s, Y)).2.length = Y.length := fo_length g m o (s, Y)
      have hF := fo_succ g m o (s, Y)
      have HE := Lib.hid (show k + (n - m) = (k + (n - (m + 1))) + 1 by omega)
      have HF := Lib.hid hF; have HL := Lib.hid hL; clear hF hL
      have HG := Lib.hid (((HQ.out.cel (.inr rfl) HP.out).cell (ptrs_get hlt)))
      have HB := Lib.hid (show o + m < (fo g m o (s, Y)).2.length by rw [HL.out]; have := HO.out; omega)
      have HX := Lib.hid (show a0 + m = off + (o + m) by have := HA.out; omega)
      unfold byN at HC
      go_wp2_with (first
        | (with_reducible refine load_w cwI HG.out _ rfl rfl rfl ?_)
        | (with_reducible refine load_w cwN (HC.out.cell (k := 0) rfl) _ rfl rfl rfl ?_)
        | (with_reducible refine (HH.out.one (k + (n - (m + 1))) (fo g m o (s, Y)).1 (fo g m o (s, Y)).2 (o + m) (a0 + m) _ (HE.out ▸ HJ.out) HB.out HX.out).mono ?_; rintro e u ⟨rfl, hj, hk⟩; clear HJ; have HJ := Lib.hid hj; have hc := hk.cel (.inl rfl) HC.out; clear HC; have HC := Lib.hid hc; have hq := HQ.out.trans hk; clear HQ; have HQ := Lib.hid hq; clear hj hk hc hq))
      go_roundw
      case rel => exact ⟨m + 1, by omega, by go_num, by rw [HF.out]; exact HJ.out, HC.out, HQ.out⟩
      case measure => simp [intOf]; omega
    · obtain rfl : m = n := by omega
      go_wp2_with fail
      go_end0
      exact ⟨rfl, by simpa using HJ.out, HQ.out⟩
set_option maxHeartbeats 1000000 in
theorem rights_car (H : Num g k1 c1 b off J) (k : Nat) (s : σ) (Y : List Int) (o a0 : Nat) (w : World) (hJ : J (k + 288) s Y w) (ho : o + 288 ≤ Y.length) (ha : a0 = off + o) :
    Calls Tryz.prog 112 #[.agg [byN k1 c1, F2, F3].toArray, .pointer (some ⟨b, a0, none⟩)] w fun e w' => e = .returned (.tuple #[]) ∧ J k (fo g 288 o (s, Y)).1 (fo g 288 o (s, Y)).2 w' ∧ Keeps w w' := by
  have HH := Lib.hid H; clear H
  have HJ := Lib.hid hJ; clear hJ
  have HO := Lib.hid ho; clear ho
  have HA := Lib.hid ha; clear ha
  go_enter Tryz.func112, Tryz.ntmps112
  go_wp2_with (first
    | (with_reducible refine box_by rfl _ rfl rfl ?_; intro bc u hb hc; have hj := HH.out.stay _ _ _ _ _ HJ.out hb; clear HJ; have HJ := Lib.hid hj; have HQ := Lib.hid (Keeps.below hb); have HC := Lib.hid hc; clear hj hb hc))
  refine Draws.start (S := fun u => Cel u bc 69 [byN k1 c1, F2, F3]) (n := 5) 5 rfl (by kernel_rfl) ?_
  have hj := HH.out.stay _ _ _ _ _ HJ.out ((Below.refl _ _).drew)
  clear HJ; have HJ := Lib.hid hj; clear hj
  have hc := HC.out.below ((Below.refl _ _).drew) HC.out.lt
  clear HC; have HC := Lib.hid hc; clear hc
  have hq := HQ.out.trans (Keeps.below ((Below.refl _ _).drew))
  clear HQ; have HQ := Lib.hid hq; clear hq
  have HS := Lib.hid (show (fun u => Cel u bc 69 [byN k1 c1, F2, F3]) _ from HC.out)
  refine Draws.take 0 HS.out rfl (by kernel_rfl) (fun _ _ _ h => h) (yield_by (fun _ h => h) _ rfl rfl rfl) ?_
  (try simp only [Act.put, List.setIfInBounds_toArray, List.set_cons_zero, List.set_cons_succ])
  refine Draws.take 1 (v := ?v6) HS.out rfl (by kernel_rfl) (fun _ _ _ h => h) (Or.inl ⟨rfl, ?h6⟩) ?r6
  case h6 => intro w' hw'; go_simp; (try with_reducible rfl)
  (try simp only [Act.put, List.setIfInBounds_toArray, List.set_cons_zero, List.set_cons_succ])
  refine Draws.take 2 (v := ?v7) HS.out rfl (by kernel_rfl) (fun _ _ _ h => h) (Or.inl ⟨rfl, ?h7⟩) ?r7
  case h7 => intro w' hw'; go_simp; (try with_reducible rfl)
  (try simp only [Act.put, List.setIfInBounds_toArray, List.set_cons_zero, List.set_cons_succ])
  refine Draws.take 3 (v := ?v8) HS.out rfl (by kernel_rfl) (fun _ _ _ h => h) (Or.inl ⟨rfl, ?h8⟩) ?r8
  case h8 => intro w' hw'; go_simp; (try with_reducible rfl)
  (try simp only [Act.put, List.setIfInBounds_toArray, List.set_cons_zero, List.set_cons_succ])
  refine Draws.does 4 rfl (by kernel_rfl) rfl (fun K hK => ?_)
  go_simp
  go_at_call 133
  refine (vec_car HH.out (k + 272) s Y o a0 _ (by have := HJ.out; exact this) (by have := HO.out; omega) HA.out).mono ?_
  rintro e u ⟨rfl, hj, hk⟩
  (try dsimp only)
  clear HJ; have HJ := Lib.hid hj
  have hc := hk.cel (.inl rfl) HC.out; clear HC; have HC := Lib.hid hc; clear hc
  have hq := HQ.out.trans hk; clear HQ; have HQ := Lib.hid hq; clear hq hk hj
  refine hK.out _ _ (fun _ => HC.out) ?_
  clear hK K
  (try simp only [Act.put, List.setIfInBounds_toArray, List.set_cons_zero, List.set_cons_succ])
  refine Draws.done (by kernel_rfl) ?_
  clear HS
  go_wp2_with fail
  refine Draws.start (S := fun u => Cel u bc 69 [byN k1 c1, F2, F3]) (n := 5) 5 rfl (by kernel_rfl) ?_
  have hj := HH.out.stay _ _ _ _ _ HJ.out ((Below.refl _ _).drew)
  clear HJ; have HJ := Lib.hid hj; clear hj
  have hc := HC.out.below ((Below.refl _ _).drew) HC.out.lt
  clear HC; have HC := Lib.hid hc; clear hc
  have hq := HQ.out.trans (Keeps.below ((Below.refl _ _).drew))
  clear HQ; have HQ := Lib.hid hq; clear hq
  have HS := Lib.hid (show (fun u => Cel u bc 69 [byN k1 c1, F2, F3]) _ from HC.out)
  refine Draws.take 0 HS.out rfl (by kernel_rfl) (fun _ _ _ h => h) (yield_by (fun _ h => h) _ rfl rfl rfl) ?_
  (try simp only [Act.put, List.setIfInBounds_toArray, List.set_cons_zero, List.set_cons_succ])
  refine Draws.take 1 (v := ?v9) HS.out rfl (by kernel_rfl) (fun _ _ _ h => h) (Or.inl ⟨rfl, ?h9⟩) ?r9
  case h9 => intro w' hw'; go_simp; (try with_reducible rfl)
  (try simp only [Act.put, List.setIfInBounds_toArray, List.set_cons_zero, List.set_cons_succ])
  refine Draws.take 2 (v := ?v10) HS.out rfl (by kernel_rfl) (fun _ _ _ h => h) (Or.inl ⟨rfl, ?h10⟩) ?r10
  case h10 => intro w' hw'; go_simp; (try with_reducible rfl)
  (try simp only [Act.put, List.setIfInBounds_toArray, List.set_cons_zero, List.set_cons_succ])
  refine Draws.take 3 (v := ?v11) HS.out rfl (by kernel_rfl) (fun _ _ _ h => h) (Or.inl ⟨rfl, ?h11⟩) ?r11
  case h11 => intro w' hw'; go_simp; (try with_reducible rfl)
  (try simp only [Act.put, List.setIfInBounds_toArray, List.set_cons_zero, List.set_cons_succ])
  refine Draws.does 4 rfl (by kernel_rfl) rfl (fun K hK => ?_)
  go_simp
  go_at_call 133
  refine (vec_car HH.out (k + 256) _ _ (o + 16) (a0 + 16) _ (by have := HJ.out; exact this) (by rw [fo_length]; have := HO.out; simp only; omega) (by have := HA.out; omega)).mono ?_
  rintro e u ⟨rfl, hj, hk⟩
  (try dsimp only)
  clear HJ; have HJ := Lib.hid hj
  have hc := hk.cel (.inl rfl) HC.out; clear HC; have HC := Lib.hid hc; clear hc
  have hq := HQ.out.trans hk; clear HQ; have HQ := Lib.hid hq; clear hq hk hj
  refine hK.out _ _ (fun _ => HC.out) ?_
  clear hK K
  (try simp only [Act.put, List.setIfInBounds_toArray, List.set_cons_zero, List.set_cons_succ])
  refine Draws.done (by kernel_rfl) ?_
  clear HS
  have hj := HJ.out
  rw [← fo_add] at hj
  clear HJ; have HJ := Lib.hid hj; clear hj
  go_wp2_with fail
  go_loopw [15] (fun i wr => ∃ m : Nat, m ≤ 16 ∧ i = .int .i64 m ∧ J (k + (256 - 16 * m)) (fo g (32 + 16 * m) o (s, Y)).1 (fo g (32 + 16 * m) o (s, Y)).2 wr ∧ Cel wr bc 69 [byN k1 c1, F2, F3] ∧ Keeps w wr) (fun i _ => 16 - (intOf i).toNat)
  case atStart => exact ⟨0, by omega, rfl, HJ.out, HC.out, HQ.out⟩
  case round =>
    obtain ⟨m, hm, rfl, hj, hc, hq⟩ := hrel
    clear HJ HC HQ
    have HJ := Lib.hid hj; have HC := Lib.hid hc; have HQ := Lib.hid hq
    clear hj hc hq
    by_cases hlt : m < 16
    · have i1 : (0 : Int) ≤ (m : Int) := by omega
      have i2 : (m : Int) < 16 := by omega
      have HE := Lib.hid (show k + (256 - 16 * m) = (k + (256 - 16 * (m + 1))) + 16 by omega)
      have HF := Lib.hid (show fo g (32 + 16 * (m + 1)) o (s, Y) = fo g 16 (o + (32 + 16 * m)) (fo g (32 + 16 * m) o (s, Y)) by rw [show 32 + 16 * (m + 1) = (32 + 16 * m) + 16 by omega, fo_add])
      have HL := Lib.hid (show (fo g (32 + 16 * m) o (s, Y)).2.length = Y.length from fo_length g _ o (s, Y))
      go_wp2_with fail
      refine Draws.start (S := fun u => Cel u bc 69 [byN k1 c1, F2, F3]) (n := 7) 7 rfl (by kernel_rfl) ?_
      have hj := HH.out.stay _ _ _ _ _ HJ.out ((Below.refl _ _).drew)
      clear HJ; have HJ := Lib.hid hj; clear hj
      have hc := HC.out.below ((Below.refl _ _).drew) HC.out.lt
      clear HC; have HC := Lib.hid hc; clear hc
      have hq := HQ.out.trans (Keeps.below ((Below.refl _ _).drew))
      clear HQ; have HQ := Lib.hid hq; clear hq
      have HS := Lib.hid (show (fun u => Cel u bc 69 [byN k1 c1, F2, F3]) _ from HC.out)
      refine Draws.take 0 HS.out rfl (by kernel_rfl) (fun _ _ _ h => h) (yield_by (fun _ h => h) _ rfl rfl rfl) ?_
      (try simp only [Act.put, List.setIfInBounds_toArray, List.set_cons_zero, List.set_cons_succ])
      refine Draws.take 1 (v := ?v12) HS.out rfl (by kernel_rfl) (fun _ _ _ h => h) (Or.inl ⟨rfl, ?h12⟩) ?r12
      case h12 => intro w' hw'; go_simp; (try with_reducible rfl)
      (try simp only [Act.put, List.setIfInBounds_toArray, List.set_cons_zero, List.set_cons_succ])
      refine Draws.take 2 (v := ?v13) HS.out rfl (by kernel_rfl) (fun _ _ _ h => h) (Or.inl ⟨rfl, ?h13⟩) ?r13
      case h13 => intro w' hw'; go_simp; (try with_reducible rfl)
      (try simp only [Act.put, List.setIfInBounds_toArray, List.set_cons_zero, List.set_cons_succ])
      refine Draws.take 3 (v := ?v14) HS.out rfl (by kernel_rfl) (fun _ _ _ h => h) (Or.inl ⟨rfl, ?h14⟩) ?r14
      case h14 => intro w' hw'; go_simp; (try with_reducible rfl)
      (try simp only [Act.put, List.setIfInBounds_toArray, List.set_cons_zero, List.set_cons_succ])
      refine Draws.take 4 (v := ?v15) HS.out rfl (by kernel_rfl) (fun _ _ _ h => h) (Or.inl ⟨rfl, ?h15⟩) ?r15
      case h15 => intro w' hw'; go_simp; (try with_reducible rfl)
      (try simp only [Act.put, List.setIfInBounds_toArray, List.set_cons_zero, List.set_cons_succ])
      refine Draws.take 5 (v := ?v16) HS.out rfl (by kernel_rfl) (fun _ _ _ h => h) (Or.inl ⟨rfl, ?h16⟩) ?r16
      case h16 => intro w' hw'; go_simp; (try with_reducible rfl)
      (try simp only [Act.put, List.setIfInBounds_toArray, List.set_cons_zero, List.set_cons_succ])
      refine Draws.does 6 rfl (by kernel_rfl) rfl (fun K hK => ?_)
      go_simp
      go_at_call 133
      refine (vec_car HH.out (k + (256 - 16 * (m + 1))) (fo g (32 + 16 * m) o (s, Y)).1 (fo g (32 + 16 * m) o (s, Y)).2 (o + (32 + 16 * m)) (a0 + 32 + m * 16) _ (HE.out ▸ HJ.out) (by rw [HL.out]; have := HO.out; omega) (by have := HA.out; omega)).mono ?_
      rintro e u ⟨rfl, hj, hk⟩
      (try dsimp only)
      clear HJ; have HJ := Lib.hid hj
      have hc := hk.cel (.inl rfl) HC.out; clear HC; have HC := Lib.hid hc; clear hc
      have hq := HQ.out.trans hk; clear HQ; have HQ := Lib.hid hq; clear hq hk hj
      refine hK.out _ _ (fun _ => HC.out) ?_
      clear hK K
      (try simp only [Act.put, List.setIfInBounds_toArray, List.set_cons_zero, List.set_cons_succ])
      refine Draws.done (by kernel_rfl) ?_
      clear HS
      go_wp2_with fail
      go_roundw
      case rel => exact ⟨m + 1, by omega, by go_num, by rw [HF.out]; exact HJ.out, HC.out, HQ.out⟩
      case measure => simp [intOf]; omega
    · obtain rfl : m = 16 := by omega
      go_wp2_with fail
      go_end0
      exact ⟨rfl, by simpa using HJ.out, HQ.out⟩
set_option maxHeartbeats 1000000 in
theorem counter_car (H : Num g k1 c1 b off J) (k : Nat) (s : σ) (Y : List Int) (o a0 : Nat) (w : World) (hJ : J (k + 579) s Y w) (ho : o + 579 ≤ Y.length) (ha : a0 = off + o) :
    Calls Tryz.prog 67 #[.agg [byN k1 c1, F2, F3].toArray, .pointer (some ⟨b, a0, none⟩)] w fun e w' => e = .returned (.tuple #[]) ∧ J k (fo g 579 o (s, Y)).1 (fo g 579 o (s, Y)).2 w' ∧ Keeps w w' := by
  have HH := Lib.hid H; clear H
  have HJ := Lib.hid hJ; clear hJ
  have HO := Lib.hid ho; clear ho
  have HA := Lib.hid ha; clear ha
  go_enter Tryz.func67, Tryz.ntmps67
  go_wp2_with (first
    | (with_reducible refine box_by rfl _ rfl rfl ?_; intro bc u hb hc; have hj := HH.out.stay _ _ _ _ _ HJ.out hb; clear HJ; have HJ := Lib.hid hj; have HQ := Lib.hid (Keeps.below hb); have HC := Lib.hid hc; clear hj hb hc))
  refine Draws.start (S := fun u => Cel u bc 69 [byN k1 c1, F2, F3]) (n := 12) 12 rfl (by kernel_rfl) ?_
  have hj := HH.out.stay _ _ _ _ _ HJ.out ((Below.refl _ _).drew)
  clear HJ; have HJ := Lib.hid hj; clear hj
  have hc := HC.out.below ((Below.refl _ _).drew) HC.out.lt
  clear HC; have HC := Lib.hid hc; clear hc
  have hq := HQ.out.trans (Keeps.below ((Below.refl _ _).drew))
  clear HQ; have HQ := Lib.hid hq; clear hq
  have HS := Lib.hid (show (fun u => Cel u bc 69 [byN k1 c1, F2, F3]) _ from HC.out)
  refine Draws.take 0 HS.out rfl (by kernel_rfl) (fun _ _ _ h => h) (yield_by (fun _ h => h) _ rfl rfl rfl) ?_
  (try simp only [Act.put, List.setIfInBounds_toArray, List.set_cons_zero, List.set_cons_succ])
  refine Draws.take 1 (v := ?v17) HS.out rfl (by kernel_rfl) (fun _ _ _ h => h) (Or.inl ⟨rfl, ?h17⟩) ?r17
  case h17 => intro w' hw'; go_simp; (try with_reducible rfl)
  (try simp only [Act.put, List.setIfInBounds_toArray, List.set_cons_zero, List.set_cons_succ])
  refine Draws.take 2 (v := ?v18) HS.out rfl (by kernel_rfl) (fun _ _ _ h => h) (Or.inl ⟨rfl, ?h18⟩) ?r18
  case h18 => intro w' hw'; go_simp; (try with_reducible rfl)
  (try simp only [Act.put, List.setIfInBounds_toArray, List.set_cons_zero, List.set_cons_succ])
  refine Draws.take 3 (v := ?v19) HS.out rfl (by kernel_rfl) (fun _ _ _ h => h) (Or.inl ⟨rfl, ?h19⟩) ?r19
  case h19 => intro w' hw'; go_simp; (try with_reducible rfl)
  (try simp only [Act.put, List.setIfInBounds_toArray, List.set_cons_zero, List.set_cons_succ])
  refine Draws.take 4 (v := ?v20) HS.out rfl (by kernel_rfl) (fun _ _ _ h => h) (Or.inl ⟨rfl, ?h20⟩) ?r20
  case h20 => intro w' hw'; go_simp; (try with_reducible rfl)
  (try simp only [Act.put, List.setIfInBounds_toArray, List.set_cons_zero, List.set_cons_succ])
  refine Draws.take 5 (v := ?v21) HS.out rfl (by kernel_rfl) (fun _ _ _ h => h) (Or.inl ⟨rfl, ?h21⟩) ?r21
  case h21 => intro w' hw'; go_simp; (try with_reducible rfl)
  (try simp only [Act.put, List.setIfInBounds_toArray, List.set_cons_zero, List.set_cons_succ])
  refine Draws.take 6 (v := ?v22) HS.out rfl (by kernel_rfl) (fun _ _ _ h => h) (Or.inl ⟨rfl, ?h22⟩) ?r22
  case h22 => intro w' hw'; go_simp; (try with_reducible rfl)
  (try simp only [Act.put, List.setIfInBounds_toArray, List.set_cons_zero, List.set_cons_succ])
  refine Draws.take 7 (v := ?v23) HS.out rfl (by kernel_rfl) (fun _ _ _ h => h) (Or.inl ⟨rfl, ?h23⟩) ?r23
  case h23 => intro w' hw'; go_simp; (try with_reducible rfl)
  (try simp only [Act.put, List.setIfInBounds_toArray, List.set_cons_zero, List.set_cons_succ])
  refine Draws.take 8 (v := ?v24) HS.out rfl (by kernel_rfl) (fun _ _ _ h => h) (Or.inl ⟨rfl, ?h24⟩) ?r24
  case h24 => intro w' hw'; go_simp; (try with_reducible rfl)
  (try simp only [Act.put, List.setIfInBounds_toArray, List.set_cons_zero, List.set_cons_succ])
  refine Draws.take 9 (v := ?v25) HS.out rfl (by kernel_rfl) (fun _ _ _ h => h) (Or.inl ⟨rfl, ?h25⟩) ?r25
  case h25 => intro w' hw'; go_simp; (try with_reducible rfl)
  (try simp only [Act.put, List.setIfInBounds_toArray, List.set_cons_zero, List.set_cons_succ])
  refine Draws.does 10 rfl (by kernel_rfl) rfl (fun K hK => ?_)
  refine wp_ptrs3 _ _ _ rfl rfl rfl rfl ?_
  intro bp u hb hp
  have hj := HH.out.stay _ _ _ _ _ HJ.out hb
  clear HJ; have HJ := Lib.hid hj
  have hc := HC.out.below hb HC.out.lt
  clear HC; have HC := Lib.hid hc
  have hq := HQ.out.trans (Keeps.below hb)
  clear HQ; have HQ := Lib.hid hq
  have HP := Lib.hid (show Cel u bp 111 (ptrs b a0 3) from hp)
  clear hj hc hq hb hp
  refine hK.out _ _ (fun _ => HC.out) ?_
  clear hK K HS
  have HS := Lib.hid (show (fun u => Cel u bc 69 [byN k1 c1, F2, F3]) _ from HC.out)
  (try simp only [Act.put, List.setIfInBounds_toArray, List.set_cons_zero, List.set_cons_succ])
  refine Draws.does 11 rfl (by kernel_rfl) rfl (fun K hK => ?_)
  go_simp
  go_at_call 111
  refine (numbers_car HH.out 3 (k + 576) s Y o a0 bp 3 _ (by omega) (by have := HJ.out; exact this) (by have := HO.out; omega) HA.out HP.out).mono ?_
  rintro e u ⟨rfl, hj, hk⟩
  (try dsimp only)
  clear HJ; have HJ := Lib.hid hj
  have hc := hk.cel (.inl rfl) HC.out; clear HC; have HC := Lib.hid hc; clear hc
  have hq := HQ.out.trans hk; clear HQ; have HQ := Lib.hid hq; clear hq hk hj
  refine hK.out _ _ (fun _ => HC.out) ?_
  clear hK K
  (try simp only [Act.put, List.setIfInBounds_toArray, List.set_cons_zero, List.set_cons_succ])
  refine Draws.done (by kernel_rfl) ?_
  clear HS
  go_wp2_with fail
  refine Draws.start (S := fun u => Cel u bc 69 [byN k1 c1, F2, F3]) (n := 5) 5 rfl (by kernel_rfl) ?_
  have hj := HH.out.stay _ _ _ _ _ HJ.out ((Below.refl _ _).drew)
  clear HJ; have HJ := Lib.hid hj; clear hj
  have hc := HC.out.below ((Below.refl _ _).drew) HC.out.lt
  clear HC; have HC := Lib.hid hc; clear hc
  have hq := HQ.out.trans (Keeps.below ((Below.refl _ _).drew))
  clear HQ; have HQ := Lib.hid hq; clear hq
  have HS := Lib.hid (show (fun u => Cel u bc 69 [byN k1 c1, F2, F3]) _ from HC.out)
  refine Draws.take 0 HS.out rfl (by kernel_rfl) (fun _ _ _ h => h) (yield_by (fun _ h => h) _ rfl rfl rfl) ?_
  (try simp only [Act.put, List.setIfInBounds_toArray, List.set_cons_zero, List.set_cons_succ])
  refine Draws.take 1 (v := ?v26) HS.out rfl (by kernel_rfl) (fun _ _ _ h => h) (Or.inl ⟨rfl, ?h26⟩) ?r26
  case h26 => intro w' hw'; go_simp; (try with_reducible rfl)
  (try simp only [Act.put, List.setIfInBounds_toArray, List.set_cons_zero, List.set_cons_succ])
  refine Draws.take 2 (v := ?v27) HS.out rfl (by kernel_rfl) (fun _ _ _ h => h) (Or.inl ⟨rfl, ?h27⟩) ?r27
  case h27 => intro w' hw'; go_simp; (try with_reducible rfl)
  (try simp only [Act.put, List.setIfInBounds_toArray, List.set_cons_zero, List.set_cons_succ])
  refine Draws.take 3 (v := ?v28) HS.out rfl (by kernel_rfl) (fun _ _ _ h => h) (Or.inl ⟨rfl, ?h28⟩) ?r28
  case h28 => intro w' hw'; go_simp; (try with_reducible rfl)
  (try simp only [Act.put, List.setIfInBounds_toArray, List.set_cons_zero, List.set_cons_succ])
  refine Draws.does 4 rfl (by kernel_rfl) rfl (fun K hK => ?_)
  go_simp
  go_at_call 112
  refine (rights_car HH.out (k + 288) _ _ (o + 3) (a0 + 3) _ (by have := HJ.out; exact this) (by rw [fo_length]; have := HO.out; simp only; omega) (by have := HA.out; omega)).mono ?_
  rintro e u ⟨rfl, hj, hk⟩
  (try dsimp only)
  clear HJ; have HJ := Lib.hid hj
  have hc := hk.cel (.inl rfl) HC.out; clear HC; have HC := Lib.hid hc; clear hc
  have hq := HQ.out.trans hk; clear HQ; have HQ := Lib.hid hq; clear hq hk hj
  refine hK.out _ _ (fun _ => HC.out) ?_
  clear hK K
  (try simp only [Act.put, List.setIfInBounds_toArray, List.set_cons_zero, List.set_cons_succ])
  refine Draws.done (by kernel_rfl) ?_
  clear HS
  go_wp2_with fail
  refine Draws.start (S := fun u => Cel u bc 69 [byN k1 c1, F2, F3]) (n := 5) 5 rfl (by kernel_rfl) ?_
  have hj := HH.out.stay _ _ _ _ _ HJ.out ((Below.refl _ _).drew)
  clear HJ; have HJ := Lib.hid hj; clear hj
  have hc := HC.out.below ((Below.refl _ _).drew) HC.out.lt
  clear HC; have HC := Lib.hid hc; clear hc
  have hq := HQ.out.trans (Keeps.below ((Below.refl _ _).drew))
  clear HQ; have HQ := Lib.hid hq; clear hq
  have HS := Lib.hid (show (fun u => Cel u bc 69 [byN k1 c1, F2, F3]) _ from HC.out)
  refine Draws.take 0 HS.out rfl (by kernel_rfl) (fun _ _ _ h => h) (yield_by (fun _ h => h) _ rfl rfl rfl) ?_
  (try simp only [Act.put, List.setIfInBounds_toArray, List.set_cons_zero, List.set_cons_succ])
  refine Draws.take 1 (v := ?v29) HS.out rfl (by kernel_rfl) (fun _ _ _ h => h) (Or.inl ⟨rfl, ?h29⟩) ?r29
  case h29 => intro w' hw'; go_simp; (try with_reducible rfl)
  (try simp only [Act.put, List.setIfInBounds_toArray, List.set_cons_zero, List.set_cons_succ])
  refine Draws.take 2 (v := ?v30) HS.out rfl (by kernel_rfl) (fun _ _ _ h => h) (Or.inl ⟨rfl, ?h30⟩) ?r30
  case h30 => intro w' hw'; go_simp; (try with_reducible rfl)
  (try simp only [Act.put, List.setIfInBounds_toArray, List.set_cons_zero, List.set_cons_succ])
  refine Draws.take 3 (v := ?v31) HS.out rfl (by kernel_rfl) (fun _ _ _ h => h) (Or.inl ⟨rfl, ?h31⟩) ?r31
  case h31 => intro w' hw'; go_simp; (try with_reducible rfl)
  (try simp only [Act.put, List.setIfInBounds_toArray, List.set_cons_zero, List.set_cons_succ])
  refine Draws.does 4 rfl (by kernel_rfl) rfl (fun K hK => ?_)
  go_simp
  go_at_call 112
  refine (rights_car HH.out k _ _ (o + 291) (a0 + 291) _ (by have := HJ.out; exact this) (by rw [fo_length, fo_length]; have := HO.out; simp only; omega) (by have := HA.out; omega)).mono ?_
  rintro e u ⟨rfl, hj, hk⟩
  (try dsimp only)
  clear HJ; have HJ := Lib.hid hj
  have hc := hk.cel (.inl rfl) HC.out; clear HC; have HC := Lib.hid hc; clear hc
  have hq := HQ.out.trans hk; clear HQ; have HQ := Lib.hid hq; clear hq hk hj
  refine hK.out _ _ (fun _ => HC.out) ?_
  clear hK K
  (try simp only [Act.put, List.setIfInBounds_toArray, List.set_cons_zero, List.set_cons_succ])
  refine Draws.done (by kernel_rfl) ?_
  clear HS
  have hj := HJ.out
  simp only [pr_eta] at hj
  have e1 : fo g 579 o (s, Y) = fo g 288 (o + 291) (fo g 288 (o + 3) (fo g 3 o (s, Y))) := by
    rw [show 579 = 291 + 288 from rfl, fo_add, show 291 = 3 + 288 from rfl, fo_add]
  go_wp2_with fail
  go_end0
  exact ⟨rfl, by rw [e1]; exact hj, HQ.out⟩
set_option maxHeartbeats 1000000 in
theorem lock_car (H : Num g k1 c1 b off J) (k : Nat) (s : σ) (Y : List Int) (o a0 : Nat) (w : World) (hJ : J (k + 4) s Y w) (ho : o + 4 ≤ Y.length) (ha : a0 = off + o) :
    Calls Tryz.prog 69 #[.agg [byN k1 c1, F2, F3].toArray, .pointer (some ⟨b, a0, none⟩)] w fun e w' => e = .returned (.tuple #[]) ∧ J k (fo g 4 o (s, Y)).1 (fo g 4 o (s, Y)).2 w' ∧ Keeps w w' := by
  have HH := Lib.hid H; clear H
  have HJ := Lib.hid hJ; clear hJ
  have HO := Lib.hid ho; clear ho
  have HA := Lib.hid ha; clear ha
  go_enter Tryz.func69, Tryz.ntmps69
  go_wp2_with (first
    | (with_reducible refine box_by rfl _ rfl rfl ?_; intro bc u hb hc; have hj := HH.out.stay _ _ _ _ _ HJ.out hb; clear HJ; have HJ := Lib.hid hj; have HQ := Lib.hid (Keeps.below hb); have HC := Lib.hid hc; clear hj hb hc))
  refine Draws.start (S := fun u => Cel u bc 69 [byN k1 c1, F2, F3]) (n := 15) 15 rfl (by kernel_rfl) ?_
  have hj := HH.out.stay _ _ _ _ _ HJ.out ((Below.refl _ _).drew)
  clear HJ; have HJ := Lib.hid hj; clear hj
  have hc := HC.out.below ((Below.refl _ _).drew) HC.out.lt
  clear HC; have HC := Lib.hid hc; clear hc
  have hq := HQ.out.trans (Keeps.below ((Below.refl _ _).drew))
  clear HQ; have HQ := Lib.hid hq; clear hq
  have HS := Lib.hid (show (fun u => Cel u bc 69 [byN k1 c1, F2, F3]) _ from HC.out)
  refine Draws.take 0 HS.out rfl (by kernel_rfl) (fun _ _ _ h => h) (yield_by (fun _ h => h) _ rfl rfl rfl) ?_
  (try simp only [Act.put, List.setIfInBounds_toArray, List.set_cons_zero, List.set_cons_succ])
  refine Draws.take 1 (v := ?v32) HS.out rfl (by kernel_rfl) (fun _ _ _ h => h) (Or.inl ⟨rfl, ?h32⟩) ?r32
  case h32 => intro w' hw'; go_simp; (try with_reducible rfl)
  (try simp only [Act.put, List.setIfInBounds_toArray, List.set_cons_zero, List.set_cons_succ])
  refine Draws.take 2 (v := ?v33) HS.out rfl (by kernel_rfl) (fun _ _ _ h => h) (Or.inl ⟨rfl, ?h33⟩) ?r33
  case h33 => intro w' hw'; go_simp; (try with_reducible rfl)
  (try simp only [Act.put, List.setIfInBounds_toArray, List.set_cons_zero, List.set_cons_succ])
  refine Draws.take 3 (v := ?v34) HS.out rfl (by kernel_rfl) (fun _ _ _ h => h) (Or.inl ⟨rfl, ?h34⟩) ?r34
  case h34 => intro w' hw'; go_simp; (try with_reducible rfl)
  (try simp only [Act.put, List.setIfInBounds_toArray, List.set_cons_zero, List.set_cons_succ])
  refine Draws.take 4 (v := ?v35) HS.out rfl (by kernel_rfl) (fun _ _ _ h => h) (Or.inl ⟨rfl, ?h35⟩) ?r35
  case h35 => intro w' hw'; go_simp; (try with_reducible rfl)
  (try simp only [Act.put, List.setIfInBounds_toArray, List.set_cons_zero, List.set_cons_succ])
  refine Draws.take 5 (v := ?v36) HS.out rfl (by kernel_rfl) (fun _ _ _ h => h) (Or.inl ⟨rfl, ?h36⟩) ?r36
  case h36 => intro w' hw'; go_simp; (try with_reducible rfl)
  (try simp only [Act.put, List.setIfInBounds_toArray, List.set_cons_zero, List.set_cons_succ])
  refine Draws.take 6 (v := ?v37) HS.out rfl (by kernel_rfl) (fun _ _ _ h => h) (Or.inl ⟨rfl, ?h37⟩) ?r37
  case h37 => intro w' hw'; go_simp; (try with_reducible rfl)
  (try simp only [Act.put, List.setIfInBounds_toArray, List.set_cons_zero, List.set_cons_succ])
  refine Draws.take 7 (v := ?v38) HS.out rfl (by kernel_rfl) (fun _ _ _ h => h) (Or.inl ⟨rfl, ?h38⟩) ?r38
  case h38 => intro w' hw'; go_simp; (try with_reducible rfl)
  (try simp only [Act.put, List.setIfInBounds_toArray, List.set_cons_zero, List.set_cons_succ])
  refine Draws.take 8 (v := ?v39) HS.out rfl (by kernel_rfl) (fun _ _ _ h => h) (Or.inl ⟨rfl, ?h39⟩) ?r39
  case h39 => intro w' hw'; go_simp; (try with_reducible rfl)
  (try simp only [Act.put, List.setIfInBounds_toArray, List.set_cons_zero, List.set_cons_succ])
  refine Draws.take 9 (v := ?v40) HS.out rfl (by kernel_rfl) (fun _ _ _ h => h) (Or.inl ⟨rfl, ?h40⟩) ?r40
  case h40 => intro w' hw'; go_simp; (try with_reducible rfl)
  (try simp only [Act.put, List.setIfInBounds_toArray, List.set_cons_zero, List.set_cons_succ])
  refine Draws.take 10 (v := ?v41) HS.out rfl (by kernel_rfl) (fun _ _ _ h => h) (Or.inl ⟨rfl, ?h41⟩) ?r41
  case h41 => intro w' hw'; go_simp; (try with_reducible rfl)
  (try simp only [Act.put, List.setIfInBounds_toArray, List.set_cons_zero, List.set_cons_succ])
  refine Draws.take 11 (v := ?v42) HS.out rfl (by kernel_rfl) (fun _ _ _ h => h) (Or.inl ⟨rfl, ?h42⟩) ?r42
  case h42 => intro w' hw'; go_simp; (try with_reducible rfl)
  (try simp only [Act.put, List.setIfInBounds_toArray, List.set_cons_zero, List.set_cons_succ])
  refine Draws.take 12 (v := ?v43) HS.out rfl (by kernel_rfl) (fun _ _ _ h => h) (Or.inl ⟨rfl, ?h43⟩) ?r43
  case h43 => intro w' hw'; go_simp; (try with_reducible rfl)
  (try simp only [Act.put, List.setIfInBounds_toArray, List.set_cons_zero, List.set_cons_succ])
  refine Draws.does 13 rfl (by kernel_rfl) rfl (fun K hK => ?_)
  refine wp_ptrs4 _ _ _ _ rfl rfl rfl rfl rfl ?_
  intro bp u hb hp
  have hj := HH.out.stay _ _ _ _ _ HJ.out hb
  clear HJ; have HJ := Lib.hid hj
  have hc := HC.out.below hb HC.out.lt
  clear HC; have HC := Lib.hid hc
  have hq := HQ.out.trans (Keeps.below hb)
  clear HQ; have HQ := Lib.hid hq
  have HP := Lib.hid (show Cel u bp 111 (ptrs b a0 4) from hp)
  clear hj hc hq hb hp
  refine hK.out _ _ (fun _ => HC.out) ?_
  clear hK K HS
  have HS := Lib.hid (show (fun u => Cel u bc 69 [byN k1 c1, F2, F3]) _ from HC.out)
  (try simp only [Act.put, List.setIfInBounds_toArray, List.set_cons_zero, List.set_cons_succ])
  refine Draws.does 14 rfl (by kernel_rfl) rfl (fun K hK => ?_)
  go_simp
  go_at_call 111
  refine (numbers_car HH.out 4 k s Y o a0 bp 4 _ (by omega) (by have := HJ.out; exact this) (by have := HO.out; omega) HA.out HP.out).mono ?_
  rintro e u ⟨rfl, hj, hk⟩
  (try dsimp only)
  clear HJ; have HJ := Lib.hid hj
  have hc := hk.cel (.inl rfl) HC.out; clear HC; have HC := Lib.hid hc; clear hc
  have hq := HQ.out.trans hk; clear HQ; have HQ := Lib.hid hq; clear hq hk hj
  refine hK.out _ _ (fun _ => HC.out) ?_
  clear hK K
  (try simp only [Act.put, List.setIfInBounds_toArray, List.set_cons_zero, List.set_cons_succ])
  refine Draws.done (by kernel_rfl) ?_
  clear HS
  go_wp2_with fail
  go_end0
  exact ⟨rfl, HJ.out, HQ.out⟩
end
end Go.Proofs.YtofngihdnjgmeaaGreat

namespace Go.Proofs.YtofngihdnjgmeaaGreat.oct
set_option maxRecDepth 100000

/-- A number as one from 0 on. -/
def fold (n : Int) : Nat := if isB n = true then (if n < 0 then (2 * (-1 - n) + 1).toNat else (2 * n).toNat) else 0
/-- The number that is put: of one that may not be, 0. -/
def may (n : Int) : Int := if isB n = true then n else 0
theorem fold_lt (n : Int) : fold n < 4398046511104 := by
  unfold fold
  by_cases h : isB n = true
  · have := isB_iff.1 h
    rw [if_pos h]; split <;> omega
  · rw [if_neg h]; omega
theorem fold_neg {n : Int} (h : isB n = true) (h0 : n < 0) : (fold n : Int) = 2 * (-1 - n) + 1 := by
  unfold fold; rw [if_pos h, if_pos h0]; omega
theorem fold_pos {n : Int} (h : isB n = true) (h0 : ¬ n < 0) : (fold n : Int) = 2 * n := by
  unfold fold; rw [if_pos h, if_neg h0]; omega
theorem fold_no {n : Int} (h : isB n = false) : fold n = 0 := by unfold fold; rw [h]; rfl

/-- A number from 0 on, 7 bits a byte. -/
def enc (u : Nat) : List UInt8 := if u < 128 then [UInt8.ofNat u] else UInt8.ofNat (u % 128 + 128) :: enc (u / 128)
termination_by u
theorem enc_lt {u : Nat} (h : u < 128) : enc u = [UInt8.ofNat u] := by rw [enc, if_pos h]
theorem enc_ge {u : Nat} (h : ¬ u < 128) : enc u = UInt8.ofNat (u % 128 + 128) :: enc (u / 128) := by rw [enc, if_neg h]
theorem of_small {k : Nat} (h : k < 256) : (UInt8.ofNat k).toNat = k := by simp; omega
theorem enc_len_le (k : Nat) : ∀ u : Nat, u < 128 ^ (k + 1) → (enc u).length ≤ k + 1 := by
  induction k with
  | zero => intro u h; rw [enc_lt (by simpa using h)]; simp
  | succ k ih =>
    intro u h
    by_cases h1 : u < 128
    · rw [enc_lt h1]; simp
    · rw [enc_ge h1, List.length_cons]
      have := ih (u / 128) (by rw [Nat.pow_succ] at h; omega)
      omega
theorem enc_six {u : Nat} (h : u < 4398046511104) : (enc u).length ≤ 6 := enc_len_le 5 u (by simpa using h)
end Go.Proofs.YtofngihdnjgmeaaGreat.oct

namespace Go.Proofs.YtofngihdnjgmeaaGreat.oct
set_option maxRecDepth 100000
open Go.ChangeShapes Go.WideShapes Go.ChangeAt Go.RowKit

theorem b_info : (Tryz.prog.info? 5).map (fun i => (i.zero, i.size, i.bytes)) = some (some (.int .u8 0), 1, 1) := by kernel_rfl
/-- Bytes, as the cells that hold them. -/
def bys (l : List UInt8) : List Value := l.map fun c => .int .u8 (c.toNat : Int)
theorem bys_length (l : List UInt8) : (bys l).length = l.length := by simp [bys]
theorem bys_append (l m : List UInt8) : bys (l ++ m) = bys l ++ bys m := by simp [bys]
theorem bys_one (l : List UInt8) : ∀ u ∈ bys l, u.oneCell' = true := by
  intro u hu
  simp only [bys, List.mem_map] at hu
  obtain ⟨_, _, rfl⟩ := hu
  rfl
theorem bys_get {l : List UInt8} {j : Nat} (h : j < l.length) : (bys l)[j]? = some (.int .u8 ((l.getD j 0).toNat : Int)) := by
  simp [bys, List.getD, h]
theorem bys_at {l : List UInt8} {j : Nat} {u : Value} (h : (bys l)[j]? = some u) : j < l.length ∧ u = .int .u8 ((l.getD j 0).toNat : Int) := by
  have hj : j < l.length := by
    have := (List.getElem?_eq_some_iff.1 h).1
    rwa [bys_length] at this
  rw [bys_get hj] at h
  exact ⟨hj, (Option.some.inj h).symm⟩
theorem cell_lt {w : World} {a : Addr} {v : Value} (h : w.cell? a = some v) : a.block < w.heap.size := by
  rcases Nat.lt_or_ge a.block w.heap.size with h1 | h1
  · exact h1
  · simp [World.cell?, Array.getElem?_eq_none h1] at h
/-- A slice at A that reads as the bytes l. -/
def Bys (w : World) (A : Option Addr) (l : List UInt8) : Prop :=
  l = [] ∨ ∃ b off : Nat, A = some ⟨b, off, none⟩ ∧ ∀ i, i < l.length → w.cell? ⟨b, off + i, none⟩ = some (.int .u8 ((l.getD i 0).toNat : Int))
theorem Bys.nil (w : World) (A : Option Addr) : Bys w A [] := .inl rfl
theorem Bys.keep {w w' : World} {A : Option Addr} {l : List UInt8} (h : Bys w A l) (hk : ∀ b, b < w.heap.size → (∃ off z, w.cell? ⟨b, off, none⟩ = some (.int .u8 z)) → w'.heap[b]? = w.heap[b]?) : Bys w' A l := by
  rcases h with h | ⟨b, off, rfl, hc⟩
  · exact .inl h
  · refine .inr ⟨b, off, rfl, fun i hi => ?_⟩
    have h1 := hc i hi
    have h2 := hk b (cell_lt h1) ⟨_, _, h1⟩
    rw [World.cell?_of_block (w := w) (w' := w') h2]; exact h1
theorem Bys.below {w w' : World} {A : Option Addr} {l : List UInt8} (h : Bys w A l) (hb : Below w.heap.size w w') : Bys w' A l := h.keep fun b hl _ => hb.block b hl
theorem Bys.take {w : World} {A : Option Addr} {l : List UInt8} (h : Bys w A l) (k : Nat) : Bys w A (l.take k) := by
  rcases h with rfl | ⟨b, off, rfl, hc⟩
  · exact .inl (by simp)
  · refine .inr ⟨b, off, rfl, fun i hi => ?_⟩
    rw [List.length_take] at hi
    rw [hc i (by omega)]
    simp [List.getD, show i < k by omega]
theorem Bys.drop {w : World} {A : Option Addr} {l : List UInt8} (h : Bys w A l) (k : Nat) : Bys w (A.map (·.add k)) (l.drop k) := by
  rcases h with rfl | ⟨b, off, rfl, hc⟩
  · exact .inl (by simp)
  · refine .inr ⟨b, off + k, by simp [Go.WideShapes.add_plain], fun i hi => ?_⟩
    rw [List.length_drop] at hi
    rw [Nat.add_assoc, hc (k + i) (by omega)]
    simp [List.getD, List.getElem?_drop]
/-- A byte of it. -/
theorem Bys.at {w : World} {A : Option Addr} {l : List UInt8} (h : Bys w A l) {k : Nat} (hk : k < l.length) : ∃ b off : Nat, A = some ⟨b, off, none⟩ ∧ w.cell? ⟨b, off + k, none⟩ = some (.int .u8 ((l.getD k 0).toNat : Int)) := by
  rcases h with rfl | ⟨b, off, rfl, hc⟩
  · simp at hk
  · exact ⟨b, off, rfl, hc k hk⟩
/-- A row of the call's own that holds the bytes l. -/
def Own (w : World) (base : Nat) (v : Value) (l : List UInt8) : Prop := w.ownsRow base 5 1 v l.length (bys l)
theorem Own.slice {w : World} {base : Nat} {v : Value} {l : List UInt8} (h : Own w base v l) : ∃ A c, v = .slice A l.length c ∧ l.length ≤ c := by
  rcases h.2 with ⟨rfl, h0⟩ | ⟨g, cap, cur, rfl, _, _, h1, _⟩
  · exact ⟨none, 0, by rw [h0], by omega⟩
  · exact ⟨_, _, rfl, h1⟩
theorem Own.bys {w : World} {base : Nat} {A : Option Addr} {n c : Nat} {l : List UInt8} (h : Own w base (.slice A n c) l) : Bys w A l := by
  rcases h.2 with ⟨_, h0⟩ | ⟨g, cap, cur, h1, _⟩
  · exact .inl (List.eq_nil_of_length_eq_zero h0)
  · injection h1 with h2 h3 h4
    subst h2; subst h3; subst h4
    refine .inr ⟨g, 0, rfl, fun i hi => ?_⟩
    have := h.cells (g := g) rfl i _ (bys_get hi)
    rwa [Go.WideShapes.add_plain] at this
theorem Own.base {w : World} {base : Nat} {v : Value} {l : List UInt8} (h : Own w base v l) (k : Nat) (hk : v.ownBlock = some k) : base ≤ k := by
  rcases h.2 with ⟨rfl, _⟩ | ⟨g, cap, cur, rfl, hg, _⟩
  · simp [Value.ownBlock] at hk
  · simp [Value.ownBlock] at hk; omega
theorem Own.mono {w : World} {base base' : Nat} {v : Value} {l : List UInt8} (h : Own w base v l) (hb : base' ≤ base) : Own w base' v l := by
  refine ⟨h.1, ?_⟩
  rcases h.2 with h1 | ⟨g, cap, cur, h1, h2, h3⟩
  · exact .inl h1
  · exact .inr ⟨g, cap, cur, h1, by omega, h3⟩
theorem Own.below {w w' : World} {base : Nat} {v : Value} {l : List UInt8} (h : Own w base v l) (hb : Below w.heap.size w w') : Own w' base v l := by
  refine ⟨h.1, ?_⟩
  rcases h.2 with ⟨h1, h2⟩ | ⟨g, cap, cur, h1, h2, h3, h4⟩
  · exact .inl ⟨h1, h2⟩
  · refine .inr ⟨g, cap, cur, h1, h2, ?_, h4⟩
    rw [hb.block g (Array.getElem?_eq_some_iff.1 h3).1]; exact h3
theorem Own.nil (w : World) (base : Nat) : Own w base (.slice none 0 0) [] := World.ownsRow_nil _ _ _ _
theorem own_new (w : World) (cs : Array Value) (l : List UInt8) (h : cs = (bys l).toArray) (hm : l.length ≤ maxLen) : Own (w.alloc (.cells cs 5)) w.heap.size (.slice (some ⟨w.heap.size, 0, none⟩) l.length l.length) l := by
  subst h
  refine ⟨by simp [bys_length], .inr ⟨w.heap.size, l.length, (bys l).toArray, rfl, Nat.le_refl _, heap_alloc_new w _, Nat.le_refl _, hm, by simp [bys_length], ?_⟩⟩
  simp only [Nat.mul_one]
  rw [← bys_length l]; exact List.take_length
theorem bys_new (w : World) (z : Int) (c : UInt8) (h : z = (c.toNat : Int)) : Bys (w.alloc (.cells #[.int .u8 z] 5)) (some ⟨w.heap.size, 0, none⟩) [c] := by
  subst h
  exact (own_new w _ [c] rfl (by simp [maxLen])).bys
/-- append of bytes onto a row of the call's own. -/
theorem append_bys (w : World) (base : Nat) (ty : TypeId) (v : Value) (l : List UInt8) (hown : Own w base v l) (A : Option Addr) (c : Nat) (m : List UInt8) (hr : Bys w A m) (h63 : l.length + m.length ≤ 1048576) (hbase : base ≤ w.heap.size) :
    ∃ v' w', (Builtin.append_ #[36, 36] ty #[v, .slice A m.length c]).run Tryz.prog w = .ok v' w' ∧ Own w' base v' (l ++ m) ∧ w.grownBy w' v.ownBlock ∧ (v'.ownBlock = v.ownBlock ∨ v'.ownBlock = some w.heap.size) := by
  obtain ⟨i0, hi0, hz0, hz1, hz2⟩ := info_parts b_info
  unfold Own
  rw [List.length_append, bys_append]
  cases A with
  | none =>
    have hm : m = [] := by
      rcases hr with h | ⟨b, off, h, _⟩
      · exact h
      · cases h
    subst hm
    refine ⟨v, w, ?_, by simpa [Own, bys] using hown, World.grownBy.refl w _, .inl rfl⟩
    rcases hown.2 with ⟨rfl, h0⟩ | ⟨g, cap, cur, rfl, _, _, hnc, _⟩
    · simp [Builtin.append_, run_underlying Tryz.underlying36, sizeOf, typeInfo, hi0, Builtin.lenOf, Builtin.firstCells]
    · simp [Builtin.append_, run_underlying Tryz.underlying36, sizeOf, typeInfo, hi0, Builtin.lenOf, Builtin.firstCells, hnc, storeCells]
  | some ad =>
    obtain ⟨v', w', h1, h2, h3, _, h5⟩ := run_append_own_at (P := Tryz.prog) w base 36 ty 5 i0 (.int .u8 0) 1 1 Tryz.underlying36 hi0 hz0 hz1 hz2 rfl (by omega) v l.length (bys l) hown ad m.length c (bys m)
      (by rw [bys_length, Nat.mul_one])
      (fun j u hu => by
        obtain ⟨hj, rfl⟩ := bys_at hu
        obtain ⟨b, off, h, hc⟩ := hr.at hj
        injection h with h
        subst h
        rw [Go.WideShapes.add_plain]; exact hc)
      (bys_one _) (by simp only [maxLen]; omega) (by omega) hbase
    exact ⟨v', w', h1, h2, h3, h5⟩
theorem app_bys {w : World} {ops : Array Oper} {rest : List Oper} {o : Oper} {a : Act} {Q : Exit → Act → World → Prop} {base : Nat} {v : Value} {l : List UInt8} (hown : Own w base v l) (hbase : base ≤ w.heap.size) {A : Option Addr} {m : List UInt8} (hr : Bys w A m) {k : Nat} (hk : m.length = k) (hgd : o.guard = none) (s x : Operand)
    (ho : o.op = .call { callee := .builtin .append, args := #[s, x], argTypes := #[36, 36] }) (hs : a.eval s = v)
    {c : Nat} (hx : a.eval x = .slice A k c) (h63 : l.length + m.length ≤ 1048576)
    (h : ∀ v' w', Own w' base v' (l ++ m) → w.grownBy w' v.ownBlock → wpList Tryz.prog ops Q rest (a.put o.dst v') w') : wpList Tryz.prog ops Q (o :: rest) a w :=
  wpList_plain hgd fun _ hK => by
    subst hk
    obtain ⟨v', w', hrun, h2, h3, _⟩ := append_bys w base o.type v l hown A c m hr h63 hbase
    unfold Oper.wp execOp
    simp only [ho, resolve, invoke, builtin, Sem.run_bind, Sem.run_pure, Result.andThen_ok, List.map_toArray, List.map_cons, List.map_nil, hs, hx, hrun]
    exact hK _ _ (h v' w' h2 h3)
/-- string(b). -/
theorem run_str {w : World} {A : Option Addr} {l : List UInt8} (h : Bys w A l) (c : Nat) : (convert 36 9 (.slice A l.length c)).run Tryz.prog w = .ok (.string ⟨l.toArray⟩) w := by
  cases A with
  | none =>
    have hm : l = [] := by
      rcases h with h | ⟨b, off, h, _⟩
      · exact h
      · cases h
    subst hm
    simp [convert, run_underlying Tryz.underlying36, run_underlying Tryz.underlying9, run_underlying Tryz.underlying5, Conv.bytesToString]
    rfl
  | some ad =>
    refine run_convert_bytes_back w 36 9 5 ad c l Tryz.underlying36 Tryz.underlying5 Tryz.underlying9 (fun j hj => ?_)
    obtain ⟨b, off, h, hc⟩ := h.at hj
    injection h with h
    subst h
    rw [Go.WideShapes.add_plain, hc]
    simp [List.getD, hj]
end Go.Proofs.YtofngihdnjgmeaaGreat.oct

namespace Go.Proofs.YtofngihdnjgmeaaGreat.oct
set_option maxRecDepth 100000
open Go.ChangeShapes Go.WideShapes Go.ChangeAt Go.RowKit

theorem is_any (n : Int) (w : World) : Calls Tryz.prog 83 #[.int .i64 n] w fun e w' => e = .returned (.bool (isB n)) ∧ w = w' := by
  by_cases h1 : -1099511627776 ≤ n
  · by_cases h2 : n ≤ 1099511627776
    · rw [show isB n = true from isB_iff.2 ⟨h1, h2⟩]
      go_enter Tryz.func83, Tryz.ntmps83
      go_wp2
      go_ret
      exact ⟨rfl, rfl⟩
    · rw [show isB n = false from isB_not.2 (by omega)]
      go_enter Tryz.func83, Tryz.ntmps83
      go_wp2
      go_ret
      exact ⟨rfl, rfl⟩
  · rw [show isB n = false from isB_not.2 (by omega)]
    go_enter Tryz.func83, Tryz.ntmps83
    go_wp2
    go_ret
    exact ⟨rfl, rfl⟩
theorem is_eq (n : Int) (b : Bool) (hb : isB n = b) (w : World) : Calls Tryz.prog 83 #[.int .i64 n] w fun e w' => e = .returned (.bool b) ∧ w = w' := by subst hb; exact is_any n w
end Go.Proofs.YtofngihdnjgmeaaGreat.oct

namespace Go.Proofs.YtofngihdnjgmeaaGreat.oct
set_option maxRecDepth 100000
open Go.ChangeShapes Go.WideShapes Go.ChangeAt Go.RowKit

/-- All is as it was; v is a row of the call's own that holds the bytes l. -/
structure KO (w0 : World) (v : Value) (l : List UInt8) (w : World) : Prop where
  bel : Below w0.heap.size w0 w
  own : Own w w0.heap.size v l
theorem KO.start (w : World) : KO w (.slice none 0 0) [] w := ⟨Below.refl _ _, Own.nil _ _⟩
theorem KO.call {w0 w w' : World} {v : Value} {l : List UInt8} (h : KO w0 v l w) (hb : Below w.heap.size w w') : KO w0 v l w' := ⟨h.bel.trans (hb.mono h.bel.size), h.own.below hb⟩
theorem below_new (w : World) (o : Obj) : Below w.heap.size w (w.alloc o) := (Below.refl _ _).alloc (Nat.le_refl _) _
/-- append(v, x): the one byte lies in a row of its own. -/
theorem app_one {w0 w : World} {ops : Array Oper} {rest : List Oper} {o : Oper} {a : Act} {Q : Exit → Act → World → Prop} {v : Value} {l : List UInt8} (hk : KO w0 v l w) {z : Int} (ch : UInt8) (hz : z = (ch.toNat : Int)) (hgd : o.guard = none) (s x : Operand)
    (ho : o.op = .call { callee := .builtin .append, args := #[s, x], argTypes := #[36, 36] }) (hs : a.eval s = v) (hx : a.eval x = .slice (some ⟨w.heap.size, 0, none⟩) 1 1) (h63 : l.length ≤ 1048000)
    (h : ∀ v' w', KO w0 v' (l ++ [ch]) w' → wpList Tryz.prog ops Q rest (a.put o.dst v') w') : wpList Tryz.prog ops Q (o :: rest) a (w.alloc (.cells #[.int .u8 z] 5)) := by
  have h1 := hk.call (below_new w (.cells #[.int .u8 z] 5))
  exact app_bys h1.own h1.bel.size (bys_new w z ch hz) rfl hgd s x ho hs hx (by simp; omega) fun v' w' h2 h3 => h v' w' ⟨h1.bel.grown h3 h1.bel.size h1.own.base, h2⟩
theorem app_more {w0 w : World} {ops : Array Oper} {rest : List Oper} {o : Oper} {a : Act} {Q : Exit → Act → World → Prop} {v : Value} {l : List UInt8} (hk : KO w0 v l w) {A : Option Addr} {m : List UInt8} (hr : Bys w A m) {k : Nat} (hm : m.length = k) (hgd : o.guard = none) (s x : Operand)
    (ho : o.op = .call { callee := .builtin .append, args := #[s, x], argTypes := #[36, 36] }) (hs : a.eval s = v) {c : Nat} (hx : a.eval x = .slice A k c) (h63 : l.length + m.length ≤ 1048576)
    (h : ∀ v' w', KO w0 v' (l ++ m) w' → wpList Tryz.prog ops Q rest (a.put o.dst v') w') : wpList Tryz.prog ops Q (o :: rest) a w :=
  app_bys hk.own hk.bel.size hr hm hgd s x ho hs hx h63 fun v' w' h2 h3 => h v' w' ⟨hk.bel.grown h3 hk.bel.size hk.own.base, h2⟩
/-- The contract's end: a slice that holds the bytes. -/
theorem KO.out {w0 w : World} {v : Value} {l : List UInt8} (h : KO w0 v l w) : ∃ A c, (Ending.returned v = .returned (.slice A l.length c) ∧ l.length ≤ c) ∧ KO w0 (.slice A l.length c) l w := by
  obtain ⟨A, c, hv, hc⟩ := h.own.slice
  subst hv
  exact ⟨A, c, ⟨rfl, hc⟩, h⟩
theorem small_len {p : List UInt8} {x F : Nat} (h : p ++ enc x = enc F) (hF : F < 4398046511104) : p.length ≤ 6 := by
  have := enc_six hF
  rw [← h, List.length_append] at this; omega
end Go.Proofs.YtofngihdnjgmeaaGreat.oct

namespace Go.Proofs.YtofngihdnjgmeaaGreat.oct
set_option maxRecDepth 100000
open Go.ChangeShapes Go.WideShapes Go.ChangeAt Go.RowKit

/-- What a call that makes bytes ends with. -/
def Makes (w : World) (l : List UInt8) (e : Ending) (w' : World) : Prop := ∃ A c, (e = .returned (.slice A l.length c) ∧ l.length ≤ c) ∧ KO w (.slice A l.length c) l w'
theorem eq_nil (A : Option Addr) (k c : Nat) (W : World) : (binOp .eql 36 (.slice A k c) (.slice none 0 0)).run Tryz.prog W = .ok (.bool A.isNone) W := by
  simp only [binOp]
  simp [run_equal_slice_nil W 36 5 A k c Tryz.underlying36]
theorem makes_of {w0 w : World} {v : Value} {l : List UInt8} (h : KO w0 v l w) : Makes w0 l (.returned v) w := h.out
theorem run_build0 (u : World) : (Instr.buildSlice 36 0 #[]).run Tryz.prog u = .ok (.slice (some ⟨u.heap.size, 0, none⟩) 0 0) (u.alloc (.cells #[] 5)) := by
  obtain ⟨i0, hi0, hz0, hz1, hz2⟩ := info_parts b_info
  simp [Instr.buildSlice, run_underlying Tryz.underlying36, sizeOf, typeInfo, hi0, Instr.fill, newRow, newObj]
  rw [show Array.map (fun _ : Nat => (default : Value)) (Array.range 0) = #[] from by simp]
  rfl
/-- A row with none. -/
theorem build_none {w0 u : World} {ops : Array Oper} {rest : List Oper} {o : Oper} {a : Act} {Q : Exit → Act → World → Prop} (hb : Below w0.heap.size w0 u) (hgd : o.guard = none) (ho : o.op = .buildSlice 36 0 #[])
    (h : ∀ v u', KO w0 v [] u' → Below u.heap.size u u' → wpList Tryz.prog ops Q rest (a.put o.dst v) u') : wpList Tryz.prog ops Q (o :: rest) a u :=
  wpList_plain hgd fun K hK => by
    unfold Oper.wp execOp
    simp only [ho, List.map_toArray, List.map_nil, Sem.run_bind, Sem.run_pure, Result.andThen_ok, run_build0]
    exact hK _ _ (h _ _ ⟨hb.trans ((below_new _ _).mono hb.size), (own_new u #[] [] rfl (by simp [maxLen])).mono hb.size⟩ (below_new _ _))
theorem clone_any (A : Option Addr) (k c : Nat) (l : List UInt8) (hl : l.length = k) (hm : k ≤ 1000000) (w : World) (hd : Bys w A l) :
    Calls Tryz.prog 72 #[.slice A k c] w (Makes w l) := by
  have HD := Lib.hid hd; have HL := Lib.hid hl
  clear hl
  cases A with
  | none =>
    have hE : l = [] := by
      rcases hd with h | ⟨b, off, h, _⟩
      · exact h
      · cases h
    subst hE
    obtain rfl : k = 0 := HL.out.symm
    clear hd
    have hq := eq_nil none 0 c
    simp only [Option.isNone_none] at hq
    go_enter Tryz.func72, Tryz.ntmps72
    go_wp2
    go_ret
    exact makes_of (KO.start w)
  | some ad =>
    clear hd
    have hq := eq_nil (some ad) k c
    simp only [Option.isNone_some] at hq
    have HK := Lib.hid (KO.start w)
    go_enter Tryz.func72, Tryz.ntmps72
    go_wp2_with (first
      | (with_reducible refine build_none HK.out.bel rfl rfl ?_; intro v u hk hb; have hd := HD.out.below hb; clear HD HK hb; have HK := Lib.hid hk; have HD := Lib.hid hd; clear hk hd)
      | (refine app_more HK.out HD.out HL.out rfl _ _ rfl rfl rfl (by simp [HL.out]; omega) ?_; intro v' u hk; clear HK; have HK := Lib.hid hk; clear hk))
    go_ret
    have hk := HK.out
    rw [List.nil_append] at hk
    exact makes_of hk
/-- A reader: what is left, and its error. -/
def Rd (w : World) (r : Nat) (l : List UInt8) (e : Int) : Prop := ∃ A c, w.heap[r]? = some (.cells #[.slice A l.length c, .int .i64 e] 122 (0, 0)) ∧ l.length ≤ c ∧ Bys w A l
theorem new_any (A : Option Addr) (k c : Nat) (l : List UInt8) (hl : l.length = k) (hm : k ≤ 1000000) (w : World) (hd : Bys w A l) :
    Calls Tryz.prog 32 #[.slice A k c] w fun e w' => ∃ r, e = .returned (.pointer (some ⟨r, 0, none⟩)) ∧ w.heap.size ≤ r ∧ Rd w' r l 0 ∧ Below w.heap.size w w' := by
  have hc := clone_any A k c l hl hm w hd
  clear hd hl
  have HK := Lib.hid True.intro
  go_enter Tryz.func32, Tryz.ntmps32
  go_wp2_with (first
    | (go_at_call 72; (with_reducible refine hc.mono ?_); rintro e u ⟨A2, c2, ⟨rfl, hc2⟩, hk⟩; clear HK; have HK := Lib.hid hk; have HC := Lib.hid hc2; clear hk hc2))
  go_ret
  exact ⟨_, rfl, HK.out.bel.size, ⟨A2, c2, heap_alloc_new _ _, HC.out, HK.out.own.bys.below (below_new _ _)⟩, HK.out.bel.trans ((below_new _ _).mono HK.out.bel.size)⟩
end Go.Proofs.YtofngihdnjgmeaaGreat.oct

namespace Go.Proofs.YtofngihdnjgmeaaGreat
set_option maxRecDepth 100000
open Go.ChangeShapes Go.WideShapes Go.ChangeAt Go.RowKit

theorem right_holds {p : Pf} (h : rightP p = true) : p.hs.length ≤ 16 := by
  obtain ⟨_, _, h3⟩ := right_parts h
  rcases h3 with ⟨_, _, a3, _⟩ | ⟨_, _, a3, _⟩
  · exact (rights_iff.1 a3).1
  · rw [a3]; simp
end Go.Proofs.YtofngihdnjgmeaaGreat
