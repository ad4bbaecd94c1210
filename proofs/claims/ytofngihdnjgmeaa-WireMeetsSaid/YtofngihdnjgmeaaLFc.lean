/- Contracts of the changes that field.Add, Hand, Write, Pass, Reserve and End hand to changed. -/
import Derived.Test.YtofngihdnjgmeaaLFs
namespace Go.Proofs.Ytofngihdnjgmeaa
set_option maxRecDepth 100000
open Go.ChangeShapes Go.WideShapes Go.ChangeAt Go.RowKit

theorem KeepF.cap2 {w u : World} {l : List (Nat × TypeId × List Value)} {rows : List (Option Addr × Nat × List Ho)} {x y : Nat × TypeId × List Value} (hk : KeepF w (x :: y :: l) rows u) {i b : Nat} {t : TypeId} {v : Value} (hi : l[i]? = some (b, t, [v])) : u.cell? ⟨b, 0, none⟩ = some v := hk.cellAt (i + 2) hi rfl
theorem lok {p : Pf} {A : Option Addr} {c : Nat} (hp : p.full) (k : Int) (w : World) (h : Row w A p.hs.length p.hs) :
    Calls Try.prog 33 #[.agg (p.fd A c).cells.toArray, .int .i64 k] w fun e w' => e = .returned (.tuple #[.int .i64 (looseP p k), .int .i64 (looseU (p.fd A c) k)]) ∧ Below w.heap.size w w' := loose_any (p.fd A c) hp p.hs k w h
section
variable {w u : World} {l : List (Nat × TypeId × List Value)} {rows : List (Option Addr × Nat × List Ho)} {x : Nat × TypeId × List Value} {b : Nat} {A : Option Addr} {c : Nat}
end
end Go.Proofs.Ytofngihdnjgmeaa
