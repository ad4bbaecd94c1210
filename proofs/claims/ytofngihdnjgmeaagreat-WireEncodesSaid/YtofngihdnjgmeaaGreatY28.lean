/- Contracts of wire.isNothing and wire.Down. -/
import Derived.Test.YtofngihdnjgmeaaGreatY01
import Derived.Test.YtofngihdnjgmeaaGreatY07
import Derived.Test.YtofngihdnjgmeaaGreatY12
import Derived.Test.YtofngihdnjgmeaaGreatY18
import Derived.Test.YtofngihdnjgmeaaGreatY20A
import Derived.Test.YtofngihdnjgmeaaGreatY27A
import Derived.Maps.OwnSet
import Derived.Maps.Views
import Derived.Maps.AppendAt
import Derived.OwnWalk
import Derived.Laws.OwnMore
import Derived.WalkKit
import Derived.ProofKit
import Derived.OpenShut
import Derived.ChangeOld
import Derived.Deep.Slices
import Derived.ChangeSlices
import Derived.Laws.AppendOwn
import Derived.Lib.Hide
import Derived.Deep.RegionHeld3
import Derived.Below
import Derived.Deep.MidRow
import Derived.Deep.QuietTactic
import Derived.BigQuiet
import Derived.Laws.StructEq
import Derived.WalkMore
import Derived.LoopTactic
import Derived.Defers
import Derived.Recover
import Derived.WalkSmall
import Derived.Lib.AppendZeros
import Derived.Deep.OwnRows
import Derived.Lib.SliceRun
import Derived.Shelf.SlSortCmp.WholeK
import Derived.Shelf.SlSortCmp.NoneTotal
namespace Go.Proofs.YtofngihdnjgmeaaGreat
set_option maxRecDepth 100000
open Go.ChangeShapes Go.WideShapes Go.ChangeAt Go.RowKit

/-! ### wire.Down. -/
theorem rright_p (p : Pf) (hp : p.full) (hN : p.nm.size ≤ 1000) (A : Option Addr) (c : Nat) (r : Bool) (hr : rightP p = r) (w : World) (hd : Row w A p.hs.length p.hs) :
    Calls Tryz.prog 16 #[.agg (p.fd A c).cells.toArray] w fun e w' => e = .returned (.bool r) ∧ Below w.heap.size w w' := rright_any7 (p.fd A c) hp hN p.hs w hd r hr
end Go.Proofs.YtofngihdnjgmeaaGreat
