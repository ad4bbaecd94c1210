/- What wire.reading gives, and what is read as a field.; What was put is read: plain data.; What was put is read back. -/
import Derived.Test.YtofngihdnjgmeaaGreatY01
import Derived.Test.YtofngihdnjgmeaaGreatY04
import Derived.Test.YtofngihdnjgmeaaGreatY07
import Derived.Test.YtofngihdnjgmeaaGreatY09
import Derived.Test.YtofngihdnjgmeaaGreatY12
import Derived.Test.YtofngihdnjgmeaaGreatY17
import Derived.Test.YtofngihdnjgmeaaGreatY18
import Derived.Test.YtofngihdnjgmeaaGreatY21
import Derived.Test.YtofngihdnjgmeaaGreatY23
import Derived.Test.YtofngihdnjgmeaaGreatY25
import Derived.Test.YtofngihdnjgmeaaGreatY29
import Derived.Test.YtofngihdnjgmeaaGreatY37
import Derived.WalkKit
import Derived.ProofKit
import Derived.Lib.Hide
import Derived.Deep.RegionHeld3
import Derived.Below
import Derived.Deep.MidRow
import Derived.Deep.QuietTactic
import Derived.BigQuiet
import Derived.Laws.StructEq
import Derived.Laws.OwnMore
import Derived.Maps.AppendAt
import Derived.OwnWalk
import Derived.OpenShut
import Derived.ChangeOld
import Derived.Deep.Slices
import Derived.ChangeSlices
import Derived.Laws.AppendOwn
import Derived.WalkMore
import Derived.LoopTactic
import Derived.Defers
import Derived.Recover
import Derived.WalkSmall
import Derived.Lib.AppendZeros
import Derived.Deep.OwnRows
import Derived.Lib.SliceRun
import Derived.Shelf.SlSortCmp.WholeK
import Derived.Shelf.SlSortCmp.NoneTotal
import Derived.Laws.Cover3
import Derived.Lib.AppendStr
import Derived.Laws.IdiomStrings
import Derived.ShutString
import Derived.Maps.OwnSet
import Derived.Maps.Views
namespace Go.Proofs.YtofngihdnjgmeaaGreat
set_option maxRecDepth 100000
open Go.ChangeShapes Go.WideShapes Go.ChangeAt Go.RowKit

/-! ### The numbers as a field. -/
theorem flat_hos : ∀ hs : List Ho, hosOf (flat hs) = hs
  | [] => rfl
  | h :: t => by
    show hosOf (h.l ++ flat t) = _
    rw [show h.l ++ flat t = h.r :: h.n :: h.a :: h.d :: h.s :: flat t from rfl, hosOf, flat_hos t]
end Go.Proofs.YtofngihdnjgmeaaGreat

namespace Go.Proofs.YtofngihdnjgmeaaGreat
set_option maxRecDepth 100000
open Go.ChangeShapes Go.WideShapes Go.ChangeAt Go.RowKit

theorem ofX_self {p : Pf} (hp : p.full) : ofX p.nm p.X (flat p.hs) = p := by
  have hC : p.C.length = 579 := hp
  have sC : seg p.X 2 579 = p.C := List.take_left' hC
  have g : ∀ j, p.X.getD (581 + j) 0 = p.L.l.getD j 0 := fun j => by
    have : p.X.drop 581 = p.L.l := List.drop_left' hC
    rw [← this]; simp [List.getD, List.getElem?_drop]
  have g0 := g 0; have g1 := g 1; have g2 := g 2; have g3 := g 3
  simp only [ofX, flat_hos, sC]
  rw [g0, g1, g2, g3]
  rfl
end Go.Proofs.YtofngihdnjgmeaaGreat

namespace Go.Proofs.YtofngihdnjgmeaaGreat
set_option maxRecDepth 100000
open Go.ChangeShapes Go.WideShapes Go.ChangeAt Go.RowKit

theorem dcF_wire {v : Int} {p : Pf} (hp : p.full) (hs : saysR v p = true) : dcF (wireR v p) = ⟨([], 0), p.nm, p.X, p.hs.length, flat p.hs⟩ ∧ oct.rnN (wireR v p) 0 = v ∧ oct.rnE (wireR v p) 0 = 0 := by
  have h := dcF_more hp hs []
  rw [List.append_nil] at h
  exact h
theorem dc_wire {v : Int} {p : Pf} (hp : p.full) (hs : saysR v p = true) : dcErr (wireR v p) = 0 ∧ dcV (wireR v p) = v ∧ dcG (wireR v p) = p := by
  obtain ⟨h1, h2, h3⟩ := dcF_wire hp hs
  obtain ⟨hr, hb⟩ := says_parts hs
  have hP : dcP (wireR v p) = p := by rw [dcP, h1]; exact ofX_self hp
  have e1 : dcErr (wireR v p) = 0 := by
    rw [dcErr, if_neg (by rw [h2, hb]; exact fun h => absurd h.2 (by decide)), h1, hP, if_pos hr]
    rfl
  exact ⟨e1, by rw [dcV, if_pos e1, h2], by rw [dcG, if_pos e1, hP]⟩
end Go.Proofs.YtofngihdnjgmeaaGreat
