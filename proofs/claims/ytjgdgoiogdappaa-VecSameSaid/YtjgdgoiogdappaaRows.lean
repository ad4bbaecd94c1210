/-
  No cell of these rows narrows 'for every input' (looked for: loops, veiled, ifaces, maps, wideKeys, modest, calm, conditions, laid).
  DERIVED. THE GIVEN ROWS OF THIS SEAT. 6 by the template 'for every input the law returns true; each argument reads behind the call as it read before'; 0 by the template 'total and deterministic' (their statements: YtjgdgoiogdappaaTotals.lean).
  GIVEN WITH THE SEED: the statements are not yours to turn. If you find one false, say at which input.
  Laid BY PROGRAM, IN A SANDBOX (cutbox-rows.mjs): the forced cells as the released guide's own fill.sh prints them over the translation 032511223efa4883… (all of the seat's roots in one cut). By AI agents, Wed Nov 11 2026. No macro, syntax, notation, axiom, sorry.
-/
import Derived.Test.YtjgdgoiogdappaaChecked
import GoSem.Claim
import GoSem.ClaimJoined
import GoSem.ClaimMapViews
import Derived.JoinedTies
import Derived.KernelRfl
namespace Go.Proofs.Ytjgdgoiogdappaa
/- THE CELL 'sum', in the pinned program and in every row, IS THE sha256 OF THE DUMP (.gsa) THAT YtjgdgoiogdappaaProg.lean LOADS. Nothing in Lean hashes anything: it is a label: what it is worth is what the hold of that sum in a sandbox is worth. -/
noncomputable def Try.pinned : Pinned := { name := "ytjgdgoiogdappaa", sum := "032511223efa488378e65164f99035421672dfade8b7afe69d99c60147806b7f", checked := Try.checked }
namespace Rows
def none {H : Type} : Left H := { results := [], args := [] }

/-- 'usufructlaw02.VecJoins': WHATEVER THE INPUT: true; the input reads as it did. -/
def vecJoinsSpec : ChangeSpec := { name := "vecJoins", fn := fun _ => fun
  | [d1, d2] => { results := [.lit (.bool true)], args := [d1, d2] }
  | _ => none }
def vecJoinsRow : OpenClaim := { program := "ytjgdgoiogdappaa", sum := "032511223efa488378e65164f99035421672dfade8b7afe69d99c60147806b7f", func := "usufruct/usufructlaw02.VecJoins", spec := "vecJoins", apart := false }
def VecJoinsSaid : Prop := vecJoinsRow.holds Try.pinned (OpenSpec.ofChange vecJoinsSpec)

/-- ITS FALSE NEIGHBOUR: 'it returns false'. Refute it at one input. -/
def vecJoinsWrong : ChangeSpec := { name := "vecJoins", fn := fun _ => fun
  | [d1, d2] => { results := [.lit (.bool false)], args := [d1, d2] }
  | _ => none }
def VecJoinsWrongFalsely : Prop := vecJoinsRow.holds Try.pinned (OpenSpec.ofChange vecJoinsWrong)

/-- 'usufructlaw02.VecSums': WHATEVER THE INPUT: true; the input reads as it did. -/
def vecSumsSpec : ChangeSpec := { name := "vecSums", fn := fun _ => fun
  | [d1, d2, d3] => { results := [.lit (.bool true)], args := [d1, d2, d3] }
  | _ => none }
def vecSumsRow : OpenClaim := { program := "ytjgdgoiogdappaa", sum := "032511223efa488378e65164f99035421672dfade8b7afe69d99c60147806b7f", func := "usufruct/usufructlaw02.VecSums", spec := "vecSums", unfollowed := true, recurses := true, apart := false }
def VecSumsSaid : Prop := vecSumsRow.holds Try.pinned (OpenSpec.ofChange vecSumsSpec)

/-- ITS FALSE NEIGHBOUR: 'it returns false'. Refute it at one input. -/
def vecSumsWrong : ChangeSpec := { name := "vecSums", fn := fun _ => fun
  | [d1, d2, d3] => { results := [.lit (.bool false)], args := [d1, d2, d3] }
  | _ => none }
def VecSumsWrongFalsely : Prop := vecSumsRow.holds Try.pinned (OpenSpec.ofChange vecSumsWrong)

/-- 'usufructlaw02.VecLaws': WHATEVER THE INPUT: true; the input reads as it did. -/
def vecLawsSpec : ChangeSpec := { name := "vecLaws", fn := fun _ => fun
  | [d1, d2, d3] => { results := [.lit (.bool true)], args := [d1, d2, d3] }
  | _ => none }
def vecLawsRow : OpenClaim := { program := "ytjgdgoiogdappaa", sum := "032511223efa488378e65164f99035421672dfade8b7afe69d99c60147806b7f", func := "usufruct/usufructlaw02.VecLaws", spec := "vecLaws", apart := false }
def VecLawsSaid : Prop := vecLawsRow.holds Try.pinned (OpenSpec.ofChange vecLawsSpec)

/-- ITS FALSE NEIGHBOUR: 'it returns false'. Refute it at one input. -/
def vecLawsWrong : ChangeSpec := { name := "vecLaws", fn := fun _ => fun
  | [d1, d2, d3] => { results := [.lit (.bool false)], args := [d1, d2, d3] }
  | _ => none }
def VecLawsWrongFalsely : Prop := vecLawsRow.holds Try.pinned (OpenSpec.ofChange vecLawsWrong)

/-- 'usufructlaw02.VecLine': WHATEVER THE INPUT: true; the input reads as it did. -/
def vecLineSpec : ChangeSpec := { name := "vecLine", fn := fun _ => fun
  | [d1, d2, d3] => { results := [.lit (.bool true)], args := [d1, d2, d3] }
  | _ => none }
def vecLineRow : OpenClaim := { program := "ytjgdgoiogdappaa", sum := "032511223efa488378e65164f99035421672dfade8b7afe69d99c60147806b7f", func := "usufruct/usufructlaw02.VecLine", spec := "vecLine", apart := false }
def VecLineSaid : Prop := vecLineRow.holds Try.pinned (OpenSpec.ofChange vecLineSpec)

/-- ITS FALSE NEIGHBOUR: 'it returns false'. Refute it at one input. -/
def vecLineWrong : ChangeSpec := { name := "vecLine", fn := fun _ => fun
  | [d1, d2, d3] => { results := [.lit (.bool false)], args := [d1, d2, d3] }
  | _ => none }
def VecLineWrongFalsely : Prop := vecLineRow.holds Try.pinned (OpenSpec.ofChange vecLineWrong)

/-- 'usufructlaw02.VecGrows': WHATEVER THE INPUT: true; the input reads as it did. -/
def vecGrowsSpec : ChangeSpec := { name := "vecGrows", fn := fun _ => fun
  | [d1, d2, d3, d4] => { results := [.lit (.bool true)], args := [d1, d2, d3, d4] }
  | _ => none }
def vecGrowsRow : OpenClaim := { program := "ytjgdgoiogdappaa", sum := "032511223efa488378e65164f99035421672dfade8b7afe69d99c60147806b7f", func := "usufruct/usufructlaw02.VecGrows", spec := "vecGrows", apart := false }
def VecGrowsSaid : Prop := vecGrowsRow.holds Try.pinned (OpenSpec.ofChange vecGrowsSpec)

/-- ITS FALSE NEIGHBOUR: 'it returns false'. Refute it at one input. -/
def vecGrowsWrong : ChangeSpec := { name := "vecGrows", fn := fun _ => fun
  | [d1, d2, d3, d4] => { results := [.lit (.bool false)], args := [d1, d2, d3, d4] }
  | _ => none }
def VecGrowsWrongFalsely : Prop := vecGrowsRow.holds Try.pinned (OpenSpec.ofChange vecGrowsWrong)

/-- 'usufructlaw02.VecSame': WHATEVER THE INPUT: true; the input reads as it did. -/
def vecSameSpec : ChangeSpec := { name := "vecSame", fn := fun _ => fun
  | [d1, d2, d3, d4] => { results := [.lit (.bool true)], args := [d1, d2, d3, d4] }
  | _ => none }
def vecSameRow : OpenClaim := { program := "ytjgdgoiogdappaa", sum := "032511223efa488378e65164f99035421672dfade8b7afe69d99c60147806b7f", func := "usufruct/usufructlaw02.VecSame", spec := "vecSame", unfollowed := true, recurses := true, apart := false }
def VecSameSaid : Prop := vecSameRow.holds Try.pinned (OpenSpec.ofChange vecSameSpec)

/-- ITS FALSE NEIGHBOUR: 'it returns false'. Refute it at one input. -/
def vecSameWrong : ChangeSpec := { name := "vecSame", fn := fun _ => fun
  | [d1, d2, d3, d4] => { results := [.lit (.bool false)], args := [d1, d2, d3, d4] }
  | _ => none }
def VecSameWrongFalsely : Prop := vecSameRow.holds Try.pinned (OpenSpec.ofChange vecSameWrong)

/- THE SECOND FORM. 'bulk': how many values and letters a reading holds, each counted each time it is reached (what is shared counts as often as it is met; a slice's spare places count too). A statement '..UptoSaid' is the law's where the arguments, and the package variables that the reading takes, are together of bulk at most 1048576: NARROWER than '..Said'. Prove '..Said' where nothing that the law and all that it calls make is longer than what came in: it says more and counts as full. Else prove '..UptoSaid'. A law counts once. -/
mutual
def uptoBulk {H : Type} : DataW H → Nat
  | .lit (.string bytes) => bytes.length + 1
  | .lit _ => 1
  | .nil => 1
  | .ptr d => uptoBulk d + 1
  | .slice elems spare => uptoBulkAll elems + uptoBulkAll spare + 1
  | .agg parts => uptoBulkAll parts + 1
  | .iface _ d => uptoBulk d + 1
  | .map entries => uptoBulkEntries entries + 1
  | .held _ => 1
def uptoBulkAll {H : Type} : List (DataW H) → Nat
  | [] => 0
  | d :: r => uptoBulk d + uptoBulkAll r
def uptoBulkEntries {H : Type} : List (Lit × DataW H) → Nat
  | [] => 0
  | x :: r => uptoBulkEntry x + uptoBulkEntries r
def uptoBulkEntry {H : Type} : Lit × DataW H → Nat
  | (.string bytes, d) => bytes.length + uptoBulk d + 1
  | (_, d) => uptoBulk d + 1
 end
def uptoSmall : (H : Type) → List (DataW H) → Bool := fun _ ds => decide (uptoBulkAll ds ≤ 1048576)
def OpenSpec.upto (s : _root_.Go.ChangeSpec) : _root_.Go.OpenSpec := { _root_.Go.OpenSpec.ofChange s with cond := some uptoSmall }

/-- 'usufructlaw02.VecJoins', WHERE WHAT IT READS IS OF BULK AT MOST 1048576: true; the input reads as it did. -/
def vecJoinsUptoRow : OpenClaim := { program := "ytjgdgoiogdappaa", sum := "032511223efa488378e65164f99035421672dfade8b7afe69d99c60147806b7f", func := "usufruct/usufructlaw02.VecJoins", spec := "vecJoins", apart := false, narrowed := true }
def VecJoinsUptoSaid : Prop := vecJoinsUptoRow.holds Try.pinned (OpenSpec.upto vecJoinsSpec)

/-- 'usufructlaw02.VecSums', WHERE WHAT IT READS IS OF BULK AT MOST 1048576: true; the input reads as it did. -/
def vecSumsUptoRow : OpenClaim := { program := "ytjgdgoiogdappaa", sum := "032511223efa488378e65164f99035421672dfade8b7afe69d99c60147806b7f", func := "usufruct/usufructlaw02.VecSums", spec := "vecSums", unfollowed := true, recurses := true, apart := false, narrowed := true }
def VecSumsUptoSaid : Prop := vecSumsUptoRow.holds Try.pinned (OpenSpec.upto vecSumsSpec)

/-- 'usufructlaw02.VecLaws', WHERE WHAT IT READS IS OF BULK AT MOST 1048576: true; the input reads as it did. -/
def vecLawsUptoRow : OpenClaim := { program := "ytjgdgoiogdappaa", sum := "032511223efa488378e65164f99035421672dfade8b7afe69d99c60147806b7f", func := "usufruct/usufructlaw02.VecLaws", spec := "vecLaws", apart := false, narrowed := true }
def VecLawsUptoSaid : Prop := vecLawsUptoRow.holds Try.pinned (OpenSpec.upto vecLawsSpec)

/-- 'usufructlaw02.VecLine', WHERE WHAT IT READS IS OF BULK AT MOST 1048576: true; the input reads as it did. -/
def vecLineUptoRow : OpenClaim := { program := "ytjgdgoiogdappaa", sum := "032511223efa488378e65164f99035421672dfade8b7afe69d99c60147806b7f", func := "usufruct/usufructlaw02.VecLine", spec := "vecLine", apart := false, narrowed := true }
def VecLineUptoSaid : Prop := vecLineUptoRow.holds Try.pinned (OpenSpec.upto vecLineSpec)

/-- 'usufructlaw02.VecGrows', WHERE WHAT IT READS IS OF BULK AT MOST 1048576: true; the input reads as it did. -/
def vecGrowsUptoRow : OpenClaim := { program := "ytjgdgoiogdappaa", sum := "032511223efa488378e65164f99035421672dfade8b7afe69d99c60147806b7f", func := "usufruct/usufructlaw02.VecGrows", spec := "vecGrows", apart := false, narrowed := true }
def VecGrowsUptoSaid : Prop := vecGrowsUptoRow.holds Try.pinned (OpenSpec.upto vecGrowsSpec)

/-- 'usufructlaw02.VecSame', WHERE WHAT IT READS IS OF BULK AT MOST 1048576: true; the input reads as it did. -/
def vecSameUptoRow : OpenClaim := { program := "ytjgdgoiogdappaa", sum := "032511223efa488378e65164f99035421672dfade8b7afe69d99c60147806b7f", func := "usufruct/usufructlaw02.VecSame", spec := "vecSame", unfollowed := true, recurses := true, apart := false, narrowed := true }
def VecSameUptoSaid : Prop := vecSameUptoRow.holds Try.pinned (OpenSpec.upto vecSameSpec)

end Rows
end Go.Proofs.Ytjgdgoiogdappaa
