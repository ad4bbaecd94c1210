/- Plain arithmetic of layer 1 (num): which numbers may be, and what a sum, a difference and a product tell. No program is spoken of here. Contracts of num.Is and num.Add: each tells what the plain arithmetic tells, and leaves the world as it was. A region that draws its order, whose first operations read, call and make memory while S is kept, and whose last ones (stores) wait for all of the first: an operation that yields the same wherever S is kept may be taken first. Ints in memory: lists of ints as the cells that hold them, blocks that are kept while calls make memory, and what the operations on them do.; Rights that come in; 'awake' of layer 3.; Counters in memory: what the operations on them do; when two are the same; counters that come in.; What the statements of layer 6 stand on: slices of holds that come in, what is kept while calls tell rows, the statements' Few, and awake.; Fields that come in.; What the statements of layer 7 stand on: a slice of one field, Few, and awake.; What the statements of layer 10 stand on. -/
import Derived.Test.YtofngihdnjgmeaaGreatRows
import Derived.Test.YtofngihdnjgmeaaGreatY01
import Derived.Test.YtofngihdnjgmeaaGreatY07
import Derived.Test.YtofngihdnjgmeaaGreatY09
import Derived.Test.YtofngihdnjgmeaaGreatY11
import Derived.Test.YtofngihdnjgmeaaGreatY12
import Derived.Test.YtofngihdnjgmeaaGreatY18
import Derived.Test.YtofngihdnjgmeaaGreatY26
import Derived.WalkKit
import Derived.ProofKit
import Derived.Lib.Hide
import Derived.Deep.RegionHeld3
import Derived.Below
import Derived.Deep.MidRow
import Derived.Deep.QuietTactic
import Derived.BigQuiet
import Derived.Laws.StructEq
import Derived.Laws.OwnMore
import Derived.WalkMore
import Derived.OpenShut
import Derived.ChangeOld
import Derived.Maps.AppendAt
import Derived.OwnWalk
import Derived.LoopTactic
import Derived.Defers
import Derived.Recover
import Derived.WalkSmall
import Derived.Lib.AppendZeros
import Derived.Deep.OwnRows
import Derived.Lib.SliceRun
import Derived.Deep.Slices
import Derived.ChangeSlices
import Derived.Laws.AppendOwn
import Derived.Shelf.SlSortCmp.WholeK
import Derived.Shelf.SlSortCmp.NoneTotal
import Derived.Maps.OwnSet
import Derived.Maps.Views
namespace Go.Proofs.YtofngihdnjgmeaaGreat

end Go.Proofs.YtofngihdnjgmeaaGreat

namespace Go.Proofs.YtofngihdnjgmeaaGreat
open Go.ChangeShapes Go.WideShapes Go.ChangeAt Go.RowKit

end Go.Proofs.YtofngihdnjgmeaaGreat

namespace Go.Proofs.YtofngihdnjgmeaaGreat
open Go.ChangeShapes Go.WideShapes Go.ChangeAt Go.RowKit

end Go.Proofs.YtofngihdnjgmeaaGreat

namespace Go.Proofs.YtofngihdnjgmeaaGreat
open Go.ChangeShapes Go.WideShapes Go.ChangeAt Go.RowKit

theorem ints_of_cells : ∀ (l : List Value), (∀ i, i < l.length → ∃ n, l[i]? = some (.int .i64 n) ∧ (Lit.int .i64 n).wf = true) → ∃ zs : List Int, l = vals zs ∧ ∀ z ∈ zs, (Lit.int .i64 z).wf = true
  | [], _ => ⟨[], rfl, by simp⟩
  | v :: l, h => by
    obtain ⟨n, h1, h2⟩ := h 0 (by simp)
    obtain ⟨zs, h3, h4⟩ := ints_of_cells l (fun i hi => by simpa using h (i + 1) (by simpa using hi))
    refine ⟨n :: zs, ?_, ?_⟩
    · simp only [List.getElem?_cons_zero, Option.some.injEq] at h1
      simp [vals, h1, h3]
    · intro z hz
      rcases List.mem_cons.1 hz with rfl | hz
      · exact h2
      · exact h4 z hz
end Go.Proofs.YtofngihdnjgmeaaGreat

namespace Go.Proofs.YtofngihdnjgmeaaGreat
set_option maxRecDepth 100000
open Go.ChangeShapes Go.WideShapes Go.ChangeAt Go.RowKit

theorem ints_vec {H : Type} {enc : TypeId × Value → H} {W : World} {b : Nat} {sp : Nat → Bool} {held : Bool} {fuel : Nat} {cs : List Value} {x : DataW H × List MemPlace} (h : DataW.trod enc Tryz.prog W b sp held fuel 23 cs = some x) (i : Nat) (hi : i < 16) : ∃ n, cs[i]? = some (.int .i64 n) ∧ (Lit.int .i64 n).wf = true := by
  have c1 : Tryz.prog.cellsOf 3 = 1 := by kernel_rfl
  have c2 : Tryz.prog.cellsOf 23 = 16 := by kernel_rfl
  obtain ⟨xs, m, _, _, hl, hn, hel⟩ := DataW.trod_array Tryz.underlying23 h
  have he := hel i (by omega)
  rw [c1, Nat.mul_one, List.getElem?_eq_getElem (show i < xs.length by omega)] at he
  obtain ⟨n, h1, _, h3⟩ := DataW.trod_int Tryz.underlying3 he
  refine ⟨n, ?_, h3⟩
  rw [c2] at hl
  rw [List.drop_eq_getElem_cons (show i < cs.length by omega)] at h1
  simp only [List.take_succ_cons, List.take_zero, List.cons.injEq, and_true] at h1
  rw [List.getElem?_eq_getElem (show i < cs.length by omega), h1]
theorem ints_mov {H : Type} {enc : TypeId × Value → H} {W : World} {b : Nat} {sp : Nat → Bool} {held : Bool} {fuel : Nat} {cs : List Value} {x : DataW H × List MemPlace} (h : DataW.trod enc Tryz.prog W b sp held fuel 24 cs = some x) (i : Nat) (hi : i < 256) : ∃ n, cs[i]? = some (.int .i64 n) ∧ (Lit.int .i64 n).wf = true := by
  have c2 : Tryz.prog.cellsOf 23 = 16 := by kernel_rfl
  obtain ⟨xs, m, _, _, hl, hn, hel⟩ := DataW.trod_array Tryz.underlying24 h
  have he := hel (i / 16) (by omega)
  rw [c2, List.getElem?_eq_getElem (show i / 16 < xs.length by omega)] at he
  obtain ⟨n, h1, h2⟩ := ints_vec he (i % 16) (by omega)
  refine ⟨n, ?_, h2⟩
  rw [List.getElem?_take, if_pos (by omega), List.getElem?_drop, show i / 16 * 16 + i % 16 = i by omega] at h1
  exact h1
/-! ### awake -/
end Go.Proofs.YtofngihdnjgmeaaGreat

namespace Go.Proofs.YtofngihdnjgmeaaGreat
set_option maxRecDepth 100000
open Go.ChangeShapes Go.WideShapes Go.ChangeAt Go.RowKit

/-! ### Ints in kept blocks. -/
/-! ### Results. -/
/-! ### Equality. -/
/-! ### Counters that come in. -/
theorem ints_r {H : Type} {enc : TypeId × Value → H} {W : World} {b : Nat} {sp : Nat → Bool} {held : Bool} {fuel : Nat} {l : List Value} {x : DataW H × List MemPlace} (hf : DataW.trod enc Tryz.prog W b sp held fuel 26 l = some x) (i : Nat) (hi : i < 288) : ∃ n : Int, l[i]? = some (.int .i64 n) ∧ (Lit.int .i64 n).wf = true := by
  have c1 : Tryz.prog.cellsOf 23 = 16 := by kernel_rfl
  have c2 : Tryz.prog.cellsOf 24 = 256 := by kernel_rfl
  obtain ⟨xs, m, _, _, _, hn, hel⟩ := DataW.trod_struct r_under hf
  obtain ⟨f, g, k, hfs, e1, e2, e3⟩ := fields3 r_fields
  injection e1 with e1a e1; injection e1 with e1b e1c
  injection e2 with e2a e2; injection e2 with e2b e2c
  injection e3 with e3a e3; injection e3 with e3b e3c
  have hfs' : Tryz.prog.fieldsOf 26 = #[f, g, k] := by apply Array.toList_inj.1; rw [hfs]
  rw [hfs'] at hel hn
  have hn3 : xs.length = 3 := by simpa using hn
  have d0 := hel 0 f rfl
  have d1 := hel 1 g rfl
  have d2 := hel 2 k rfl
  rw [e1a, e1b, c1, List.getElem?_eq_getElem (show 0 < xs.length by omega)] at d0
  rw [e2a, e2b, c1, List.getElem?_eq_getElem (show 1 < xs.length by omega)] at d1
  rw [e3a, e3b, c2, List.getElem?_eq_getElem (show 2 < xs.length by omega)] at d2
  by_cases i1 : i < 16
  · obtain ⟨n, h1, h2⟩ := ints_vec d0 i i1
    refine ⟨n, ?_, h2⟩
    rw [List.getElem?_take, if_pos (by omega), List.getElem?_drop, Nat.zero_add] at h1
    exact h1
  · by_cases i2 : i < 32
    · obtain ⟨n, h1, h2⟩ := ints_vec d1 (i - 16) (by omega)
      refine ⟨n, ?_, h2⟩
      rw [List.getElem?_take, if_pos (by omega), List.getElem?_drop, show 16 + (i - 16) = i by omega] at h1
      exact h1
    · obtain ⟨n, h1, h2⟩ := ints_mov d2 (i - 32) (by omega)
      refine ⟨n, ?_, h2⟩
      rw [List.getElem?_take, if_pos (by omega), List.getElem?_drop, show 32 + (i - 32) = i by omega] at h1
      exact h1
end Go.Proofs.YtofngihdnjgmeaaGreat

namespace Go.Proofs.YtofngihdnjgmeaaGreat
set_option maxRecDepth 100000
open Go.ChangeShapes Go.WideShapes Go.ChangeAt Go.RowKit

theorem ints_ho {H : Type} {enc : TypeId × Value → H} {W : World} {b : Nat} {sp : Nat → Bool} {held : Bool} {fuel : Nat} {c0 c1 c2 c3 c4 : Value} {x : DataW H × List MemPlace} (h : DataW.trod enc Tryz.prog W b sp held fuel 55 [c0, c1, c2, c3, c4] = some x) :
    (∃ n, c0 = .int .i64 n) ∧ (∃ n, c1 = .int .i64 n) ∧ (∃ n, c2 = .int .i64 n) ∧ (∃ n, c3 = .int .i64 n) ∧ ∃ n, c4 = .int .i64 n := by
  have ci : Tryz.prog.cellsOf 3 = 1 := by kernel_rfl
  obtain ⟨xs, m, _, _, _, hn, hel⟩ := DataW.trod_struct h_under h
  obtain ⟨f1, f2, f3, f4, f5, hfs, e1, e2, e3, e4, e5⟩ := fields5n h_fields
  injection e1 with e1a e1; injection e1 with e1b e1c
  injection e2 with e2a e2; injection e2 with e2b e2c
  injection e3 with e3a e3; injection e3 with e3b e3c
  injection e4 with e4a e4; injection e4 with e4b e4c
  injection e5 with e5a e5; injection e5 with e5b e5c
  have hfs' : Tryz.prog.fieldsOf 55 = #[f1, f2, f3, f4, f5] := by apply Array.toList_inj.1; rw [hfs]
  rw [hfs'] at hel hn
  have hn5 : xs.length = 5 := by simpa using hn
  have d0 := hel 0 f1 rfl
  have d1 := hel 1 f2 rfl
  have d2 := hel 2 f3 rfl
  have d3 := hel 3 f4 rfl
  have d4 := hel 4 f5 rfl
  rw [e1a, e1b, ci, List.getElem?_eq_getElem (show 0 < xs.length by omega)] at d0
  rw [e2a, e2b, ci, List.getElem?_eq_getElem (show 1 < xs.length by omega)] at d1
  rw [e3a, e3b, ci, List.getElem?_eq_getElem (show 2 < xs.length by omega)] at d2
  rw [e4a, e4b, ci, List.getElem?_eq_getElem (show 3 < xs.length by omega)] at d3
  rw [e5a, e5b, ci, List.getElem?_eq_getElem (show 4 < xs.length by omega)] at d4
  obtain ⟨n0, h0, _, _⟩ := DataW.trod_int Tryz.underlying3 d0
  obtain ⟨n1, h1, _, _⟩ := DataW.trod_int Tryz.underlying3 d1
  obtain ⟨n2, h2, _, _⟩ := DataW.trod_int Tryz.underlying3 d2
  obtain ⟨n3, h3, _, _⟩ := DataW.trod_int Tryz.underlying3 d3
  obtain ⟨n4, h4, _, _⟩ := DataW.trod_int Tryz.underlying3 d4
  simp at h0 h1 h2 h3 h4
  exact ⟨⟨n0, h0⟩, ⟨n1, h1⟩, ⟨n2, h2⟩, ⟨n3, h3⟩, ⟨n4, h4⟩⟩
/-! ### What is kept while calls tell rows. -/
/-! ### Few. -/
/-! ### What calls tell, as rows. -/
/-! ### Awake. -/
end Go.Proofs.YtofngihdnjgmeaaGreat

namespace Go.Proofs.YtofngihdnjgmeaaGreat
set_option maxRecDepth 100000
open Go.ChangeShapes Go.WideShapes Go.ChangeAt Go.RowKit

theorem zs_c {H : Type} {enc : TypeId × Value → H} {W : World} {b : Nat} {sp : Nat → Bool} {held : Bool} {fuel : Nat} {l : List Value} {x : DataW H × List MemPlace} (hf : DataW.trod enc Tryz.prog W b sp held fuel 28 l = some x) : ∃ zs : List Int, l = vals zs ∧ zs.length = 579 ∧ ∀ z ∈ zs, (Lit.int .i64 z).wf = true := by
  have c0 : Tryz.prog.cellsOf 3 = 1 := by kernel_rfl
  have c1 : Tryz.prog.cellsOf 26 = 288 := by kernel_rfl
  have c3 : Tryz.prog.cellsOf 28 = 579 := by kernel_rfl
  obtain ⟨xs, m, _, _, hsz, hn, hel⟩ := DataW.trod_struct c_under hf
  rw [c3] at hsz
  obtain ⟨f1, f2, f3, f4, f5, hfs, e1, e2, e3, e4, e5⟩ := fields5 c_fields
  injection e1 with e1a e1; injection e1 with e1b e1c
  injection e2 with e2a e2; injection e2 with e2b e2c
  injection e3 with e3a e3; injection e3 with e3b e3c
  injection e4 with e4a e4; injection e4 with e4b e4c
  injection e5 with e5a e5; injection e5 with e5b e5c
  have hfs' : Tryz.prog.fieldsOf 28 = #[f1, f2, f3, f4, f5] := by apply Array.toList_inj.1; rw [hfs]
  rw [hfs'] at hel hn
  have hn5 : xs.length = 5 := by simpa using hn
  have d0 := hel 0 f1 rfl
  have d1 := hel 1 f2 rfl
  have d2 := hel 2 f3 rfl
  have d3 := hel 3 f4 rfl
  have d4 := hel 4 f5 rfl
  rw [e1a, e1b, c0, List.getElem?_eq_getElem (show 0 < xs.length by omega)] at d0
  rw [e2a, e2b, c0, List.getElem?_eq_getElem (show 1 < xs.length by omega)] at d1
  rw [e3a, e3b, c0, List.getElem?_eq_getElem (show 2 < xs.length by omega)] at d2
  rw [e4a, e4b, c1, List.getElem?_eq_getElem (show 3 < xs.length by omega)] at d3
  rw [e5a, e5b, c1, List.getElem?_eq_getElem (show 4 < xs.length by omega)] at d4
  have one : ∀ o, ∀ n : Int, (List.drop o l).take 1 = [.int .i64 n] → l[o]? = some (.int .i64 n) := fun o n h => by
    have := congrArg (fun x => x[0]?) h
    simpa [List.getElem?_take, List.getElem?_drop] using this
  obtain ⟨zs, h1, h2⟩ := ints_of_cells l (fun i hi => by
    by_cases i3 : i < 3
    · have : i = 0 ∨ i = 1 ∨ i = 2 := by omega
      rcases this with rfl | rfl | rfl
      · obtain ⟨n, h1, _, h2⟩ := DataW.trod_int Tryz.underlying3 d0
        exact ⟨n, one 0 n h1, h2⟩
      · obtain ⟨n, h1, _, h2⟩ := DataW.trod_int Tryz.underlying3 d1
        exact ⟨n, one 1 n h1, h2⟩
      · obtain ⟨n, h1, _, h2⟩ := DataW.trod_int Tryz.underlying3 d2
        exact ⟨n, one 2 n h1, h2⟩
    · by_cases i4 : i < 291
      · obtain ⟨n, h1, h2⟩ := ints_r d3 (i - 3) (by omega)
        refine ⟨n, ?_, h2⟩
        rw [List.getElem?_take, if_pos (by omega), List.getElem?_drop, show 3 + (i - 3) = i by omega] at h1
        exact h1
      · obtain ⟨n, h1, h2⟩ := ints_r d4 (i - 291) (by omega)
        refine ⟨n, ?_, h2⟩
        rw [List.getElem?_take, if_pos (by omega), List.getElem?_drop, show 291 + (i - 291) = i by omega] at h1
        exact h1)
  subst h1
  exact ⟨zs, rfl, by rw [← vals_length]; exact hsz, h2⟩
theorem lk_c {H : Type} {enc : TypeId × Value → H} {W : World} {b : Nat} {sp : Nat → Bool} {held : Bool} {fuel : Nat} {l : List Value} {x : DataW H × List MemPlace} (hf : DataW.trod enc Tryz.prog W b sp held fuel 30 l = some x) : ∃ a : Lk, l = vals a.l := by
  have c0 : Tryz.prog.cellsOf 3 = 1 := by kernel_rfl
  have c3 : Tryz.prog.cellsOf 30 = 4 := by kernel_rfl
  obtain ⟨xs, m, _, _, hsz, hn, hel⟩ := DataW.trod_struct lk_under hf
  rw [c3] at hsz
  obtain ⟨f1, f2, f3, f4, hfs, e1, e2, e3, e4⟩ := fields4n lk_fields
  injection e1 with e1a e1; injection e1 with e1b e1c
  injection e2 with e2a e2; injection e2 with e2b e2c
  injection e3 with e3a e3; injection e3 with e3b e3c
  injection e4 with e4a e4; injection e4 with e4b e4c
  have hfs' : Tryz.prog.fieldsOf 30 = #[f1, f2, f3, f4] := by apply Array.toList_inj.1; rw [hfs]
  rw [hfs'] at hel hn
  have hn4 : xs.length = 4 := by simpa using hn
  have d0 := hel 0 f1 rfl
  have d1 := hel 1 f2 rfl
  have d2 := hel 2 f3 rfl
  have d3 := hel 3 f4 rfl
  rw [e1a, e1b, c0, List.getElem?_eq_getElem (show 0 < xs.length by omega)] at d0
  rw [e2a, e2b, c0, List.getElem?_eq_getElem (show 1 < xs.length by omega)] at d1
  rw [e3a, e3b, c0, List.getElem?_eq_getElem (show 2 < xs.length by omega)] at d2
  rw [e4a, e4b, c0, List.getElem?_eq_getElem (show 3 < xs.length by omega)] at d3
  obtain ⟨n0, h0, _, _⟩ := DataW.trod_int Tryz.underlying3 d0
  obtain ⟨n1, h1, _, _⟩ := DataW.trod_int Tryz.underlying3 d1
  obtain ⟨n2, h2, _, _⟩ := DataW.trod_int Tryz.underlying3 d2
  obtain ⟨n3, h3, _, _⟩ := DataW.trod_int Tryz.underlying3 d3
  match l, hsz with
  | [a0, a1, a2, a3], _ =>
    simp at h0 h1 h2 h3
    exact ⟨⟨n0, n1, n2, n3⟩, by rw [h0, h1, h2, h3]; rfl⟩
theorem holds_c {H : Type} {enc : TypeId × Value → H} {W : World} {b : Nat} {sp : Nat → Bool} {held : Bool} {fuel : Nat} {l : List Value} {x : DataW H × List MemPlace} (hf : DataW.trod enc Tryz.prog W b sp held fuel 31 l = some x) : ∃ A n c hs, l = [.slice A n c] ∧ Came W A n hs ∧ n ≤ c := by
  have c5 : Tryz.prog.cellsOf 55 = 5 := by kernel_rfl
  rcases Deep.open_slice Tryz.underlying31 hf with ⟨hcs, _⟩ | ⟨a, n, c, m, k, DD, Pl, hcs, _, hl, hm, hmm, _, hel⟩
  · exact ⟨none, 0, 0, [], hcs, ⟨rfl, by simp [maxLen], .inl rfl⟩, Nat.le_refl _⟩
  · have hlm : n ≤ m := by rw [hmm]; split <;> omega
    have hcell : ∀ i, i < n → ∃ h : Ho, ∀ j, j < 5 → W.cell? (a.add (i * 5 + j)) = some (.int .i64 (h.l.getD j 0)) := fun i hi => by
      obtain ⟨cs', h1, h2⟩ := hel i (by omega)
      rw [c5] at h1
      unfold World.cells? at h1
      split at h1
      · rw [show List.range 5 = [0, 1, 2, 3, 4] from rfl] at h1
        simp only [List.mapM_cons, List.mapM_nil, Option.bind_eq_bind, Option.bind_eq_some_iff, Option.pure_def, Option.some.injEq] at h1
        obtain ⟨c0, h0, _, ⟨c1, h1', _, ⟨c2, h2', _, ⟨c3, h3', _, ⟨c4, h4', _, rfl, rfl⟩, rfl⟩, rfl⟩, rfl⟩, rfl⟩ := h1
        obtain ⟨⟨n0, rfl⟩, ⟨n1, rfl⟩, ⟨n2, rfl⟩, ⟨n3, rfl⟩, ⟨n4, rfl⟩⟩ := ints_ho h2
        rw [Deep.add_add] at h0 h1' h2' h3' h4'
        refine ⟨⟨n0, n1, n2, n3, n4⟩, fun j hj => ?_⟩
        have : j = 0 ∨ j = 1 ∨ j = 2 ∨ j = 3 ∨ j = 4 := by omega
        rcases this with rfl | rfl | rfl | rfl | rfl
        · exact h0
        · exact h1'
        · exact h2'
        · exact h3'
        · exact h4'
      · cases h1
    obtain ⟨f, hfn⟩ := Deep.choose_lt hcell
    refine ⟨some a, n, c, (List.range n).map f, hcs, ⟨by simp, Nat.le_trans hl hm, ?_⟩, hl⟩
    rcases Nat.eq_zero_or_pos n with h0 | h0
    · exact .inl h0
    · have hg : ∀ i, i < n → ((List.range n).map f).getD i z5 = f i := fun i hi => by simp [List.getD, hi]
      have hz : ∀ i, i < (flat ((List.range n).map f)).length → W.cell? (a.add i) = some (.int .i64 ((flat ((List.range n).map f)).getD i 0)) := fun i hi => by
        have hi' : i < n * 5 := by rw [flat_length] at hi; simpa using hi
        have h1 := hfn (i / 5) (by omega) (i % 5) (by omega)
        rw [show i / 5 * 5 + i % 5 = i by omega] at h1
        have h2 := flat_get (hs := (List.range n).map f) (k := i / 5) (j := i % 5) (by simp; omega) (by omega)
        rw [show i / 5 * 5 + i % 5 = i by omega, hg (i / 5) (by omega)] at h2
        rw [h1, h2]
      obtain ⟨b0, off, rfl, hc'⟩ := ints_at hz (by rw [flat_length]; simp; omega)
      refine .inr ⟨b0, off, rfl, fun k hk j u hu => ?_⟩
      obtain ⟨hj, rfl⟩ := vals_at hu
      rw [Ho.len] at hj
      have h3 := hc' (k * 5 + j) (by rw [flat_length]; simp; omega)
      rw [flat_get (by simpa using hk) hj, ← Nat.add_assoc] at h3
      exact h3


theorem drop_cut (l : List Value) (o n : Nat) : l.drop o = (l.drop o).take n ++ l.drop (o + n) := by
  rw [← List.drop_drop]
  exact (List.take_append_drop n (l.drop o)).symm
theorem open_f {H : Type} {enc : TypeId × Value → H} {W : World} {b b' : Nat} {sp : Nat → Bool} {held : Bool} {v : Value} {d : DataW H} {ps : List MemPlace} (hval : Value.okWide Tryz.prog W .any b' 33 v)
    (h : DataW.Trod enc Tryz.prog W b sp held 33 v d ps) : ∃ (p : Pf) (A : Option Addr) (c : Nat), v = .agg (p.fd A c).cells.toArray ∧ p.full ∧ Came W A p.hs.length p.hs ∧ p.hs.length ≤ c ∧ ∀ z ∈ p.C, (Lit.int .i64 z).wf = true := by
  have cs1 : Tryz.prog.cellsOf 9 = 1 := by kernel_rfl
  have ci : Tryz.prog.cellsOf 3 = 1 := by kernel_rfl
  have cc : Tryz.prog.cellsOf 28 = 579 := by kernel_rfl
  have cl : Tryz.prog.cellsOf 30 = 4 := by kernel_rfl
  have ch : Tryz.prog.cellsOf 31 = 1 := by kernel_rfl
  have cf : Tryz.prog.cellsOf 33 = 587 := by kernel_rfl
  obtain ⟨cs, rfl, hsz0, _⟩ : ∃ cs, v = .agg cs ∧ cs.size = Tryz.prog.cellsOf 33 ∧ Row.okWide Tryz.prog W .any b' 33 cs := by
    simpa [Value.okWide, f_under] using hval
  obtain ⟨l⟩ := cs
  rw [cf] at hsz0
  have hsz : l.length = 587 := by simpa using hsz0
  obtain ⟨fuel, hf⟩ := h
  obtain ⟨xs, m, _, _, _, hn, hel⟩ := DataW.trod_struct f_under hf
  obtain ⟨f1, f2, f3, f4, f5, f6, hfs, e1, e2, e3, e4, e5, e6⟩ := fields6n f_fields
  injection e1 with e1a e1; injection e1 with e1b e1c
  injection e2 with e2a e2; injection e2 with e2b e2c
  injection e3 with e3a e3; injection e3 with e3b e3c
  injection e4 with e4a e4; injection e4 with e4b e4c
  injection e5 with e5a e5; injection e5 with e5b e5c
  injection e6 with e6a e6; injection e6 with e6b e6c
  have hfs' : Tryz.prog.fieldsOf 33 = #[f1, f2, f3, f4, f5, f6] := by apply Array.toList_inj.1; rw [hfs]
  rw [hfs'] at hel hn
  have hn6 : xs.length = 6 := by simpa using hn
  have d0 := hel 0 f1 rfl
  have d1 := hel 1 f2 rfl
  have d2 := hel 2 f3 rfl
  have d3 := hel 3 f4 rfl
  have d4 := hel 4 f5 rfl
  have d5 := hel 5 f6 rfl
  rw [e1a, e1b, cs1, List.getElem?_eq_getElem (show 0 < xs.length by omega)] at d0
  rw [e2a, e2b, ci, List.getElem?_eq_getElem (show 1 < xs.length by omega)] at d1
  rw [e3a, e3b, ci, List.getElem?_eq_getElem (show 2 < xs.length by omega)] at d2
  rw [e4a, e4b, cc, List.getElem?_eq_getElem (show 3 < xs.length by omega)] at d3
  rw [e5a, e5b, cl, List.getElem?_eq_getElem (show 4 < xs.length by omega)] at d4
  rw [e6a, e6b, ch, List.getElem?_eq_getElem (show 5 < xs.length by omega)] at d5
  obtain ⟨s, h0, _, _⟩ := DataW.trod_string Tryz.underlying9 d0
  obtain ⟨k, h1, _, _⟩ := DataW.trod_int Tryz.underlying3 d1
  obtain ⟨e, h2, _, _⟩ := DataW.trod_int Tryz.underlying3 d2
  obtain ⟨C, h3, hC, hw⟩ := zs_c d3
  obtain ⟨M, h4⟩ := lk_c d4
  obtain ⟨A, n, c, hs, h5, hcame, hnc⟩ := holds_c d5
  have hlen := hcame.1
  subst hlen
  have hv : (Value.agg { toList := l }).cells.toList = l := rfl
  rw [hv] at h0 h1 h2 h3 h4 h5
  refine ⟨⟨s, k, e, C, M, hs⟩, A, c, ?_, hC, hcame, hnc, hw⟩
  have e7 : l = (Pf.fd ⟨s, k, e, C, M, hs⟩ A c).cells := by
    rw [show l = l.drop 0 from rfl, drop_cut l 0 1, h0, show 0 + 1 = 1 from rfl, drop_cut l 1 1, h1, show 1 + 1 = 2 from rfl, drop_cut l 2 1, h2, show 2 + 1 = 3 from rfl, drop_cut l 3 579, h3, show 3 + 579 = 582 from rfl, drop_cut l 582 4, h4, show 582 + 4 = 586 from rfl, drop_cut l 586 1, h5,
      List.drop_eq_nil_of_le (show l.length ≤ 586 + 1 by omega)]
    rfl
  rw [← e7]
end Go.Proofs.YtofngihdnjgmeaaGreat

namespace Go.Proofs.YtofngihdnjgmeaaGreat
set_option maxRecDepth 100000
open Go.ChangeShapes Go.WideShapes Go.ChangeAt Go.RowKit

theorem sz_f (w : World) : (sizeOf 33).run Tryz.prog w = .ok 587 w := by kernel_rfl
section
variable {ops : Array Oper} {rest : List Oper} {o : Oper} {a : Act} {w u : World} {l : List (Nat × TypeId × List Value)} {rows : List (Option Addr × Nat × List Ho)} {Q : Exit → Act → World → Prop}
theorem load_rng {ty : TypeId} {d : TypeDesc} (hu : Tryz.prog.underlying ty = some d) (hd : d.isRow = true) {xs : List Value} (hs : (Tryz.prog.info? ty).map (·.size) = some xs.length)
    (x : Operand) (ho : o.op = .load ty x) {b off : Nat} (hr : u.rangeAt b off xs) (hx : a.eval x = .pointer (some ⟨b, off, none⟩)) (hw : Region.wanted o (yielded ops a.tmps) = true)
    (h : wpList Tryz.prog ops Q rest (a.put o.dst (.agg xs.toArray)) u) : wpList Tryz.prog ops Q (o :: rest) a u :=
  BigFrame.wpList_want hw fun _ hK => wp_load_mid ty x ho b off hx xs d hr hu hd hs (hK _ _ h)
end
/-! ### Few. -/
def fewP (p : Pf) : Bool := decide (p.nm.size ≤ 100) && decide (p.hs.length ≤ 40)
end Go.Proofs.YtofngihdnjgmeaaGreat

namespace Go.Proofs.YtofngihdnjgmeaaGreat
set_option maxRecDepth 100000
open Go.ChangeShapes Go.WideShapes Go.ChangeAt Go.RowKit

theorem few_parts {p : Pf} (h : fewP p = true) : p.nm.size ≤ 100 ∧ p.hs.length ≤ 40 := by simpa [fewP] using h
end Go.Proofs.YtofngihdnjgmeaaGreat
