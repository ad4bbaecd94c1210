/-
  No cell of these rows narrows 'for every input' (looked for: loops, veiled, ifaces, maps, wideKeys, modest, calm, conditions, laid).
  DERIVED. THE GIVEN ROWS OF THIS SEAT. 4 by the template 'for every input the law returns true; each argument reads behind the call as it read before'; 0 by the template 'total and deterministic' (their statements: YtofngihdnjgmeaaTotals.lean).
  GIVEN WITH THE SEED: the statements are not yours to turn. If you find one false, say at which input.
  Laid BY PROGRAM, IN A SANDBOX (cutbox-rows.mjs): the forced cells as the released guide's own fill.sh prints them over the translation 9e93cc44c38ac42e… (all of the seat's roots in one cut). By AI agents, Wed Nov 11 2026. No macro, syntax, notation, axiom, sorry.
-/
import Derived.Test.YtofngihdnjgmeaaChecked
import GoSem.Claim
import GoSem.ClaimJoined
import GoSem.ClaimMapViews
import Derived.JoinedTies
import Derived.KernelRfl
namespace Go.Proofs.Ytofngihdnjgmeaa
/- THE CELL 'sum', in the pinned program and in every row, IS THE sha256 OF THE DUMP (.gsa) THAT YtofngihdnjgmeaaProg.lean LOADS. Nothing in Lean hashes anything: it is a label: what it is worth is what the hold of that sum in a sandbox is worth. -/
noncomputable def Try.pinned : Pinned := { name := "ytofngihdnjgmeaa", sum := "9e93cc44c38ac42e3d1b42d1fc7fb1467c1aae02d4868b8247ec9712c62bbc4d", checked := Try.checked }
namespace Rows
def none {H : Type} : Left H := { results := [], args := [] }

/-- 'usufructlaw10.WireDown': WHATEVER THE INPUT: true; the input reads as it did. -/
def wireDownSpec : ChangeSpec := { name := "wireDown", fn := fun _ => fun
  | [d1, d2] => { results := [.lit (.bool true)], args := [d1, d2] }
  | _ => none }
def wireDownRow : OpenClaim := { program := "ytofngihdnjgmeaa", sum := "9e93cc44c38ac42e3d1b42d1fc7fb1467c1aae02d4868b8247ec9712c62bbc4d", func := "usufruct/usufructlaw10.WireDown", spec := "wireDown", unfollowed := true, recurses := true, apart := false }
def WireDownSaid : Prop := wireDownRow.holds Try.pinned (OpenSpec.ofChange wireDownSpec)

/-- ITS FALSE NEIGHBOUR: 'it returns false'. Refute it at one input. -/
def wireDownWrong : ChangeSpec := { name := "wireDown", fn := fun _ => fun
  | [d1, d2] => { results := [.lit (.bool false)], args := [d1, d2] }
  | _ => none }
def WireDownWrongFalsely : Prop := wireDownRow.holds Try.pinned (OpenSpec.ofChange wireDownWrong)

/-- 'usufructlaw10.WireUps': WHATEVER THE INPUT: true; the input reads as it did. -/
def wireUpsSpec : ChangeSpec := { name := "wireUps", fn := fun _ => fun
  | [d1, d2, d3] => { results := [.lit (.bool true)], args := [d1, d2, d3] }
  | _ => none }
def wireUpsRow : OpenClaim := { program := "ytofngihdnjgmeaa", sum := "9e93cc44c38ac42e3d1b42d1fc7fb1467c1aae02d4868b8247ec9712c62bbc4d", func := "usufruct/usufructlaw10.WireUps", spec := "wireUps", unfollowed := true, recurses := true, apart := false }
def WireUpsSaid : Prop := wireUpsRow.holds Try.pinned (OpenSpec.ofChange wireUpsSpec)

/-- ITS FALSE NEIGHBOUR: 'it returns false'. Refute it at one input. -/
def wireUpsWrong : ChangeSpec := { name := "wireUps", fn := fun _ => fun
  | [d1, d2, d3] => { results := [.lit (.bool false)], args := [d1, d2, d3] }
  | _ => none }
def WireUpsWrongFalsely : Prop := wireUpsRow.holds Try.pinned (OpenSpec.ofChange wireUpsWrong)

/-- 'usufructlaw10.WireMeets': WHATEVER THE INPUT: true; the input reads as it did. -/
def wireMeetsSpec : ChangeSpec := { name := "wireMeets", fn := fun _ => fun
  | [d1, d2] => { results := [.lit (.bool true)], args := [d1, d2] }
  | _ => none }
def wireMeetsRow : OpenClaim := { program := "ytofngihdnjgmeaa", sum := "9e93cc44c38ac42e3d1b42d1fc7fb1467c1aae02d4868b8247ec9712c62bbc4d", func := "usufruct/usufructlaw10.WireMeets", spec := "wireMeets", unfollowed := true, recurses := true, apart := false }
def WireMeetsSaid : Prop := wireMeetsRow.holds Try.pinned (OpenSpec.ofChange wireMeetsSpec)

/-- ITS FALSE NEIGHBOUR: 'it returns false'. Refute it at one input. -/
def wireMeetsWrong : ChangeSpec := { name := "wireMeets", fn := fun _ => fun
  | [d1, d2] => { results := [.lit (.bool false)], args := [d1, d2] }
  | _ => none }
def WireMeetsWrongFalsely : Prop := wireMeetsRow.holds Try.pinned (OpenSpec.ofChange wireMeetsWrong)

/-- 'usufructlaw10.WireAll': WHATEVER THE INPUT: true; the input reads as it did. -/
def wireAllSpec : ChangeSpec := { name := "wireAll", fn := fun _ => fun
  | [d1, d2] => { results := [.lit (.bool true)], args := [d1, d2] }
  | _ => none }
def wireAllRow : OpenClaim := { program := "ytofngihdnjgmeaa", sum := "9e93cc44c38ac42e3d1b42d1fc7fb1467c1aae02d4868b8247ec9712c62bbc4d", func := "usufruct/usufructlaw10.WireAll", spec := "wireAll", unfollowed := true, recurses := true, apart := false }
def WireAllSaid : Prop := wireAllRow.holds Try.pinned (OpenSpec.ofChange wireAllSpec)

/-- ITS FALSE NEIGHBOUR: 'it returns false'. Refute it at one input. -/
def wireAllWrong : ChangeSpec := { name := "wireAll", fn := fun _ => fun
  | [d1, d2] => { results := [.lit (.bool false)], args := [d1, d2] }
  | _ => none }
def WireAllWrongFalsely : Prop := wireAllRow.holds Try.pinned (OpenSpec.ofChange wireAllWrong)

/- THE SECOND FORM. 'bulk': how many values and letters a reading holds, each counted each time it is reached (what is shared counts as often as it is met; a slice's spare places count too). A statement '..UptoSaid' is the law's where the arguments, and the package variables that the reading takes, are together of bulk at most 1048576: NARROWER than '..Said'. Prove '..Said' where nothing that the law and all that it calls make is longer than what came in: it says more and counts as full. Else prove '..UptoSaid'. A law counts once. -/
mutual
def uptoBulk {H : Type} : DataW H → Nat
  | .lit (.string bytes) => bytes.length + 1
  | .lit _ => 1
  | .nil => 1
  | .ptr d => uptoBulk d + 1
  | .slice elems spare => uptoBulkAll elems + uptoBulkAll spare + 1
  | .agg parts => uptoBulkAll parts + 1
  | .iface _ d => uptoBulk d + 1
  | .map entries => uptoBulkEntries entries + 1
  | .held _ => 1
def uptoBulkAll {H : Type} : List (DataW H) → Nat
  | [] => 0
  | d :: r => uptoBulk d + uptoBulkAll r
def uptoBulkEntries {H : Type} : List (Lit × DataW H) → Nat
  | [] => 0
  | x :: r => uptoBulkEntry x + uptoBulkEntries r
def uptoBulkEntry {H : Type} : Lit × DataW H → Nat
  | (.string bytes, d) => bytes.length + uptoBulk d + 1
  | (_, d) => uptoBulk d + 1
 end
def uptoSmall : (H : Type) → List (DataW H) → Bool := fun _ ds => decide (uptoBulkAll ds ≤ 1048576)
def OpenSpec.upto (s : _root_.Go.ChangeSpec) : _root_.Go.OpenSpec := { _root_.Go.OpenSpec.ofChange s with cond := some uptoSmall }

/-- 'usufructlaw10.WireDown', WHERE WHAT IT READS IS OF BULK AT MOST 1048576: true; the input reads as it did. -/
def wireDownUptoRow : OpenClaim := { program := "ytofngihdnjgmeaa", sum := "9e93cc44c38ac42e3d1b42d1fc7fb1467c1aae02d4868b8247ec9712c62bbc4d", func := "usufruct/usufructlaw10.WireDown", spec := "wireDown", unfollowed := true, recurses := true, apart := false, narrowed := true }
def WireDownUptoSaid : Prop := wireDownUptoRow.holds Try.pinned (OpenSpec.upto wireDownSpec)

/-- 'usufructlaw10.WireUps', WHERE WHAT IT READS IS OF BULK AT MOST 1048576: true; the input reads as it did. -/
def wireUpsUptoRow : OpenClaim := { program := "ytofngihdnjgmeaa", sum := "9e93cc44c38ac42e3d1b42d1fc7fb1467c1aae02d4868b8247ec9712c62bbc4d", func := "usufruct/usufructlaw10.WireUps", spec := "wireUps", unfollowed := true, recurses := true, apart := false, narrowed := true }
def WireUpsUptoSaid : Prop := wireUpsUptoRow.holds Try.pinned (OpenSpec.upto wireUpsSpec)

/-- 'usufructlaw10.WireMeets', WHERE WHAT IT READS IS OF BULK AT MOST 1048576: true; the input reads as it did. -/
def wireMeetsUptoRow : OpenClaim := { program := "ytofngihdnjgmeaa", sum := "9e93cc44c38ac42e3d1b42d1fc7fb1467c1aae02d4868b8247ec9712c62bbc4d", func := "usufruct/usufructlaw10.WireMeets", spec := "wireMeets", unfollowed := true, recurses := true, apart := false, narrowed := true }
def WireMeetsUptoSaid : Prop := wireMeetsUptoRow.holds Try.pinned (OpenSpec.upto wireMeetsSpec)

/-- 'usufructlaw10.WireAll', WHERE WHAT IT READS IS OF BULK AT MOST 1048576: true; the input reads as it did. -/
def wireAllUptoRow : OpenClaim := { program := "ytofngihdnjgmeaa", sum := "9e93cc44c38ac42e3d1b42d1fc7fb1467c1aae02d4868b8247ec9712c62bbc4d", func := "usufruct/usufructlaw10.WireAll", spec := "wireAll", unfollowed := true, recurses := true, apart := false, narrowed := true }
def WireAllUptoSaid : Prop := wireAllUptoRow.holds Try.pinned (OpenSpec.upto wireAllSpec)

end Rows
end Go.Proofs.Ytofngihdnjgmeaa
